/- Parts of the proof. -/
import Derived.RegionTactic
import Derived.ChangeAlike
import Derived.Test.YteflkdlaoiijbaaGreatDoorB03
set_option maxHeartbeats 16000000
set_option maxRecDepth 20000
namespace Go.Proofs.YteflkdlaoiijbaaGreatDoor
open Go.RowKit
def eR (k:Int):Int :=
 if k=7∨k=8 then 3 else if k=9∨k=10 then 5 else if k=11 then 9 else if 1≤k∧k≤15 then 1 else if k=16∨k=17 then 16 else
 if k=18 then 32 else if k=29 then 128 else if 19≤k∧k≤32 then 64 else 0
def gH (a b:Int):Bool:=!(bits .and .i64 a b == 0)
def iY:List Int→List Int→Bool
 | _,[]=>true
 | [],_::_=>false
 | k::ks,r::rs=>gH k r && iY ks rs
theorem nH :∀{ks row:List Int},iY ks row=true→row.length≤ks.length:=by
 intro ks row;induction row generalizing ks with
 | nil=>intro _;exact bx _
 | cons r rs ih =>
  intro h;cases ks with
  | nil=>cases h
  | cons k ks =>
   rw[iY,dk] at h;have:=ih h.2;simp only[List.length_cons];omega
theorem uG :∀{ks row:List Int},ks.length<row.length→iY ks row=false:=by
 intro ks row h;cases e:iY ks row with
 | false=>rfl
 | true=>have:=nH e;omega
def kH (row:List Int) (most:Int):Nat→Int→List Int→Int×List Int
 | 0,t,ks=>(t,ks)
 | f+1,t,ks=>if t<most∧iY ks row=true then kH row most f (t+1) (ks.drop row.length) else (t,ks)
theorem Md {row:List Int} {most:Int} (h0:0<row.length) :∀(n f:Nat) (t:Int) (ks:List Int),ks.length≤n→ks.length<f→kH row most f t ks=kH row most (ks.length+1) t ks:=by
 intro n;induction n with
 | zero =>
  intro f t ks hn hf;obtain⟨f,rfl⟩ :∃g,f=g+1:=⟨f-1,by omega⟩
  have hb:iY ks row=false:=uG (by omega)
  rw[kH,kH,af (by rw[hb];simp),af (by rw[hb];simp)]
 | succ n ih =>
  intro f t ks hn hf;obtain⟨f,rfl⟩ :∃g,f=g+1:=⟨f-1,by omega⟩
  rw[kH,kH];by_cases hc:t<most∧iY ks row=true
  ·have hl:=nH hc.2
   have hd:(ks.drop row.length).length=ks.length-row.length:=j7;rw[ak hc,ak hc,ih f _ _ (by omega) (by omega),ih ks.length _ _ (by omega) (by omega)]
  ·rw[af hc,af hc]
theorem Me {row:List Int} {most t:Int} {ks:List Int} (h0:0<row.length) (ht:t<most) (hb:iY ks row=true):kH row most (ks.length+1) t ks=kH row most ((ks.drop row.length).length+1) (t+1) (ks.drop row.length):=by
 have hl:=nH hb;have hd:(ks.drop row.length).length=ks.length-row.length:=j7;rw[kH,ak ⟨ht,hb⟩,Md h0 _ ks.length _ _ (ai _) (by omega)]
theorem Fl {row:List Int} {most t:Int} {ks:List Int} (h:¬ (t<most∧iY ks row=true)):kH row most (ks.length+1) t ks=(t,ks):=by
 rw[kH,af h]
theorem Yh {row:List Int} {most:Int} :∀(f:Nat) (t:Int) (ks:List Int),(kH row most f t ks).2.length≤ks.length:=by
 intro f;induction f with
 | zero=>intro t ks;exact ai _
 | succ f ih =>
  intro t ks;rw[kH];split
  ·exact aK (ih _ _) (by rw[j7];omega)
  ·exact ai _
abbrev Fm:=Int×Int×List Int
def fy:List Fm→List Int→Bool
 | [],ks=>ks.isEmpty
 | p::ps,ks=>decide (p.1≤(kH p.2.2 p.2.1 (ks.length+1) 0 ks).1) && fy ps (kH p.2.2 p.2.1 (ks.length+1) 0 ks).2
def big:Int:=9223372036854775807
def aW (k n:Int):List Fm :=
 if k=13∨k=14∨k=16 then [(1,1,[1])]
 else if k=8∨k=12∨k=17 then [(1,1,[1,1])]
 else if k=9∨k=10 then [(1,big,[1])]
 else if k=19∨k=29 then [(0,big,[1])]
 else if k=11∨k=22 then [(1,1,[32])]
 else if k=21 then [(1,1,[4])]
 else if k=28 then [(1,1,[8])]
 else if k=23 then [(1,1,[1,32])]
 else if k=24 then [(1,1,[32,1])]
 else if k=15 then [(0,big,[16])]
 else if k=18 then [(0,big,[64]),(0,1,[128])]
 else if k=25 then [(1,big,[1,32]),(0,1,[32])]
 else if k=26 then [(2,3,[1]),(1,1,[32])]
 else if k=27 then [(n,n,[1]),(1,1,[32])]
 else if k=20 then [(n,n,[2]),(1,big,[1])]
 else []
def kj (k n:Int) (ss:List Int):Bool:=fy (aW k n) ss
theorem cH {a b:Bool} (h:a=b):Ending.returned (.bool a)=.returned (.bool b):=by rw[h]
theorem AN {a b:Int} (h:a=b):Ending.returned (.int .i64 a)=.returned (.int .i64 b):=by rw[h]
theorem Ie (k:Int) (w:World):Calls Tryz.prog 106 #[.int .i64 k] w fun e w'=>e=.returned (.int .i64 (eR k))∧w=w':=by
 go_enter Tryz.func106,Tryz.ntmps106
 go_wp2_with fail
 all_goals
  go_ret
  refine⟨AN ?_,rfl⟩;simp only[eR];simp_all
  try omega
theorem Ig {ks row:List Int} {i:Nat} {k r:Int} (hk:ks[i]? = some k) (hr:row[i]? = some r):iY (ks.drop i) (row.drop i)=(gH k r && iY (ks.drop (i+1)) (row.drop (i+1))):=by
 rw[eZ hk,eZ hr,iY]
theorem Dg (kv rv:Value) (ks row:List Int) (w:World) (hk:eX w kv ks) (hr:eX w rv row) (hl:ks.length≤1000000):Calls Tryz.prog 187 #[kv,rv] w fun e w'=>e=.returned (.bool (iY ks row))∧w=w':=by
 obtain⟨KA,kc,rfl,CA,hka⟩:=hk;obtain⟨RA,rc,rfl,hrc,hra⟩:=hr;by_cases hlt:ks.length<row.length
 ·have hb:=uG hlt
  rw[hb];have g:decide ((ks.length:Int)<(row.length:Int))=true:=bF (by omega)
  clear hka hra hb;go_enter Tryz.func187,Tryz.ntmps187
  go_wp2_with fail
  go_ret
  exact⟨rfl,rfl⟩
 ·have g:decide ((ks.length:Int)<(row.length:Int))=false:=bN (by omega)
  have HK:=aa hka;have HR:=aa hra;clear hka hra;go_enter Tryz.func187,Tryz.ntmps187
  go_wp2_with fail
  go_loop [14] (fun i=>∃n:Nat,n≤row.length∧i=.int .i64 (n:Int)∧iY (ks.drop n) (row.drop n)=iY ks row) (fun i=>row.length-(intOf i).toNat)
  case atStart=>exact⟨0,bx _,rfl,rfl⟩
  case round =>
   obtain⟨n,hn,rfl,hb⟩:=hrel;have HB:=aa hb;clear hb;by_cases jG:n<row.length
   ·have hx:=bH jG
    have hy:=bH (show n<ks.length by omega)
    obtain⟨x,hxe⟩ :∃x,x=row[n]:=⟨_,rfl⟩;obtain⟨y,hye⟩ :∃y,y=ks[n]'(by omega):=⟨_,rfl⟩
    rw[←hxe] at hx;rw[←hye] at hy;clear hxe hye;rcases HK.out with h0 | ⟨b1,o1,rfl,_,hc1⟩
    ·rw[h0] at hy;simp at hy
    rcases HR.out with h0 | ⟨b2,o2,rfl,_,hc2⟩
    ·rw[h0] at hx;simp at hx
    have c1:=hc1 n _ hy;have c2:=hc2 n _ hx;have hstep:=Ig hy hx;have HS:=aa hstep;clear hc1 hc2 hstep hx hy HK HR;by_cases hh:bits .and .i64 y x=0
    ·go_wp2_with fail
     go_ret
     exact⟨cH (by rw[←HB.out,HS.out];simp[gH,hh]),rfl⟩
    ·have hhb:(bits .and .i64 y x == 0)=false:=aE.2 hh
     go_wp2_with fail
     go_round
     case rel=>exact⟨n+1,by omega,by go_num,by rw[←HB.out,HS.out];simp[gH,hh]⟩
     case measure=>simp[intOf];omega
   ·have he:iY (ks.drop n) (row.drop n)=true:=by
     rw[pT (show row.length≤n by omega)]
     cases ks.drop n<;>rfl
    have HE:=aa he;clear he;go_wp2_with fail
    go_ret
    exact⟨cH (by rw[←HB.out,HE.out]),rfl⟩
def Part (W:World) (v:Value) (p:Fm):Prop :=
 ∃bm br bl rv,v=.func (.func 186) #[] #[.pointer (some ⟨bm,0,none⟩),.pointer (some ⟨br,0,none⟩),.pointer (some ⟨bl,0,none⟩)]∧bm<W.heap.size∧br<W.heap.size∧bl<W.heap.size ∧
  W.cell? ⟨bm,0,none⟩=some (.int .i64 p.2.1)∧W.cell? ⟨br,0,none⟩=some rv∧W.cell? ⟨bl,0,none⟩=some (.int .i64 p.1)∧eX W rv p.2.2
theorem Part.below {W W':World} {v:Value} {p:Fm} (h:Part W v p) (hb:Below W.heap.size W W'):Part W' v p:=by
 obtain⟨bm,br,bl,rv,rfl,h1,h2,h3,c1,c2,c3,hn⟩:=h;have:=hb.size;exact⟨bm,br,bl,rv,rfl,by omega,by omega,by omega,(hb.cell (p:=⟨bm,0,none⟩) h1).trans c1,(hb.cell (p:=⟨br,0,none⟩) h2).trans c2,(hb.cell (p:=⟨bl,0,none⟩) h3).trans c3,hn.below hb⟩
theorem Mf (w w':World) (cs:Array Value) (t:TypeId) (j:Nat) (hb:Below (w.heap.size+1) (w.alloc (.cells cs t)) w'):w'.cell? ⟨w.heap.size,j,none⟩=cs[j]?:=(hb.cell (p:=⟨w.heap.size,j,none⟩) (du _)).trans (dC w cs t j)
theorem lf (l m:Int) (rv:Value) (row:List Int) (w:World) (h:eX w rv row):Calls Tryz.prog 159 #[.int .i64 l,.int .i64 m,rv] w fun e w'=>∃v,e=.returned v∧Part w' v (l,m,row)∧Below w.heap.size w w':=by
 have HN:=aa h;obtain⟨A,c,rfl,hc,_⟩:=h;go_enter Tryz.func159,Tryz.ntmps159
 go_wp2_with fail
 go_ret
 have b1:=(Below.refl w.heap.size w).alloc (ai _) (.cells #[.int .i64 l] 2);have b2:=(Below.refl (w.heap.size+1) (w.alloc (.cells #[.int .i64 l] 2))).alloc (by rw[an];exact ai _) (.cells #[.int .i64 m] 2)
 have b3:=(Below.refl (w.heap.size+1+1) ((w.alloc (.cells #[.int .i64 l] 2)).alloc (.cells #[.int .i64 m] 2))).alloc (by rw[an,an];exact ai _) (.cells #[.slice A row.length c] 179)
 have hb:=b1.trans ((b2.trans (b3.mono (by omega))).mono (gj _))
 refine⟨_,rfl,⟨_,_,_,_,rfl,by rw[an,an,an];omega,by rw[an,an,an];omega,by rw[an,an,an];omega,?_,?_,?_,HN.out.below hb⟩,hb⟩
 ·have:=Mf (w.alloc (.cells #[.int .i64 l] 2)) _ #[.int .i64 m] 2 0 (by rw[an];exact b3)
  rw[an] at this;exact this
 ·have:=dC ((w.alloc (.cells #[.int .i64 l] 2)).alloc (.cells #[.int .i64 m] 2)) #[.slice A row.length c] 179 0
  rw[an,an] at this;exact this
 ·exact Mf w _ #[.int .i64 l] 2 0 (b2.trans (b3.mono (by omega)))
theorem Mg (b o j:Nat):(⟨b,o,none⟩:Addr).add j=⟨b,o+j,none⟩:=by unfold Addr.add;split<;>simp_all
theorem Ih {W:World} {A:Option Addr} {ks:List Int} {c L:Nat} (h:eX W (.slice A ks.length c) ks) (hl:L≤ks.length) (v:Value) (hv:v=.slice (if c=L then A else A.map fun a=>a.add L) (ks.length-L) (c-L)):eX W v (ks.drop L):=by
 obtain⟨A',c',e,hc,hh⟩:=h;injection e with e1 e2 e3;subst e1 e3 hv;refine⟨_,_,by rw[j7],by rw[j7];omega,?_⟩
 rcases hh with rfl | ⟨bk,o,rfl,eQ,hx⟩
 ·left;simp
 ·by_cases hL:c=L
  ·left
   exact pT (by omega)
  ·right
   refine⟨bk,o+L,by rw[af hL,fK,Mg],eQ,fun j z hj=>?_⟩
   rw[zS] at hj;have:=hx (L+j) z hj;rw[show o+L+j=o+(L+j) by omega]
   exact this
theorem Mh {v:Value} {a b:Bool} (h:a=b):Ending.returned (.tuple #[v,.bool a])=.returned (.tuple #[v,.bool b]):=by rw[h]
theorem Mi (kv:Value) (p:Fm) (ks:List Int) (bm br bl:Nat) (rv:Value) (w:World) (hbm:w.cell? ⟨bm,0,none⟩=some (.int .i64 p.2.1)) (hbr:w.cell? ⟨br,0,none⟩=some rv) (hbl:w.cell? ⟨bl,0,none⟩=some (.int .i64 p.1)) (hr:eX w rv p.2.2)
  (hk:eX w kv ks) (hl:ks.length≤1000000) (h0:0<p.2.2.length) :
  Calls Tryz.prog 186 #[kv,.pointer (some ⟨bm,0,none⟩),.pointer (some ⟨br,0,none⟩),.pointer (some ⟨bl,0,none⟩)] w fun e w'=>∃kv',e=.returned (.tuple #[kv',.bool (decide (p.1≤(kH p.2.2 p.2.1 (ks.length+1) 0 ks).1))])∧eX w' kv' (kH p.2.2 p.2.1 (ks.length+1) 0 ks).2∧Below w.heap.size w w':=by
 obtain⟨least,most,row⟩:=p;simp only at hbm hbr hbl hr h0 ⊢;have HR:=aa hr;obtain⟨RA,rc,rfl,hrc,_⟩:=hr;go_enter Tryz.func186,Tryz.ntmps186
 go_wp2_with fail
 go_loop [0,7] (fun kv t=>∃(iz:List Int) (n:Nat),t=.int .i64 (n:Int)∧eX w kv iz∧iz.length+n≤ks.length∧kH row most (iz.length+1) (n:Int) iz=kH row most (ks.length+1) 0 ks) (fun _ t=>ks.length-(intOf t).toNat)
 case atStart=>exact⟨ks,0,rfl,hk,ai _,rfl⟩
 case round =>
  clear hk;obtain⟨iz,n,rfl,hk,hn,he⟩:=hrel;have HK:=aa hk;obtain⟨KA,kc,rfl,CA,_⟩:=hk;have HE:=aa he;clear he;have HB:=aa (Dg _ _ iz row w HK.out HR.out (by omega))
  by_cases hm:(n:Int)<most
  ·have g:decide ((n:Int)<most)=true:=bF hm
   cases hb:iY iz row with
   | true =>
    have acI:=nH hb;have HS:=aa (Me h0 hm hb);have uD:=aa hb;clear hb;go_wp2_with (go_at_call 187;refine HB.out.mono ?_;rintro e w' ⟨rfl,rfl⟩;rw[uD.out])
    refine⟨⟨iz.drop row.length,n+1,by go_num,Ih HK.out acI _ rfl,by rw[j7];omega,?_⟩,by simp[intOf];omega⟩
    rw[←HE.out,HS.out];rfl
   | false =>
    have HS:=aa (Fl (row:=row) (most:=most) (t:=(n:Int)) (ks:=iz) (by rw[hb];simp))
    have uD:=aa hb;clear hb;go_wp2_with (go_at_call 187;refine HB.out.mono ?_;rintro e w' ⟨rfl,rfl⟩;rw[uD.out])
    go_region
    go_wp2_with fail
    go_ret2
    exact⟨_,Mh (by rw[←HE.out,HS.out]),by rw[←HE.out,HS.out];exact HK.out.below (Below.refl _ _).drew,(Below.refl _ _).drew⟩
  ·have g:decide ((n:Int)<most)=false:=bN hm
   have HS:=aa (Fl (row:=row) (most:=most) (t:=(n:Int)) (ks:=iz) (fun hh=>hm hh.1))
   go_wp2_with fail
   go_region
   go_wp2_with fail
   go_ret2
   exact⟨_,Mh (by rw[←HE.out,HS.out]),by rw[←HE.out,HS.out];exact HK.out.below (Below.refl _ _).drew,(Below.refl _ _).drew⟩
def sJ (W:World) (v:Value) (ps:List Fm):Prop :=
 ∃A c,v=.slice A ps.length c∧(ps=[]∨∃bk o,A=some ⟨bk,o,none⟩∧bk<W.heap.size∧∀(j:Nat) p,ps[j]? = some p→∃u,W.cell? ⟨bk,o+j,none⟩=some u∧Part W u p)
theorem sJ.below {W W':World} {v:Value} {ps:List Fm} (h:sJ W v ps) (hb:Below W.heap.size W W'):sJ W' v ps:=by
 obtain⟨A,c,rfl,h | ⟨bk,o,rfl,eQ,hx⟩⟩:=h
 ·exact⟨A,c,rfl,.inl h⟩
 ·exact⟨_,c,rfl,.inr ⟨bk,o,rfl,cC eQ hb.size,fun j p hj=>by
   obtain⟨u,h1,h2⟩:=hx j p hj;exact⟨u,(hb.cell (p:=⟨bk,o+j,none⟩) eQ).trans h1,h2.below hb⟩⟩⟩
def SH (W:World) (v:Value) (ps:List Fm):Prop:=∃bp pv,v=.func (.func 185) #[] #[.pointer (some ⟨bp,0,none⟩)]∧bp<W.heap.size∧W.cell? ⟨bp,0,none⟩=some pv∧sJ W pv ps
theorem nI (pv:Value) (ps:List Fm) (w:World) (h:sJ w pv ps):Calls Tryz.prog 158 #[pv] w fun e w'=>∃v,e=.returned v∧SH w' v ps∧Below w.heap.size w w':=by
 have HN:=aa h;obtain⟨A,c,rfl,_⟩:=h;go_enter Tryz.func158,Tryz.ntmps158
 go_wp2_with fail
 go_ret
 have b1:=(Below.refl w.heap.size w).alloc (ai _) (.cells #[.slice A ps.length c] 256);exact⟨_,rfl,⟨_,_,rfl,by rw[an];exact du _,dC w _ _ _,HN.out.below b1⟩,b1⟩
theorem xg {W:World} {b:Nat} {u:Value} {p:Fm} (hb:b<W.heap.size) (h:W.cell? ⟨b,0,none⟩=some u) (hp:Part W u p):sJ W (.slice (some ⟨b,0,none⟩) 1 1) [p] :=
 ⟨_,1,rfl,.inr ⟨b,0,rfl,hb,fun j q hj=>by
  cases j with
  | zero=>obtain rfl:=gG hj;exact⟨u,h,hp⟩
  | succ j=>simp at hj⟩⟩
theorem xh {W:World} {b:Nat} {u1 u2:Value} {p1 p2:Fm} (hb:b<W.heap.size) (h1:W.cell? ⟨b,0,none⟩=some u1) (h2:W.cell? ⟨b,1,none⟩=some u2) (lK:Part W u1 p1) (sK:Part W u2 p2):sJ W (.slice (some ⟨b,0,none⟩) 2 2) [p1,p2] :=
 ⟨_,2,rfl,.inr ⟨b,0,rfl,hb,fun j q hj=>by
  match j,hj with
  | 0,hj=>obtain rfl:=gG hj;exact⟨u1,h1,lK⟩
  | 1,hj=>obtain rfl:=gG hj;exact⟨u2,h2,sK⟩
  | j+2,hj=>simp at hj⟩⟩
theorem nJ (w:World) (z:Int) (t:TypeId) (g:Nat) (hg:g=w.heap.size):eX (w.alloc (.cells #[.int .i64 z] t)) (.slice (some ⟨g,0,none⟩) 1 1) [z]:=by
 subst hg;exact⟨_,1,rfl,ai _,.inr ⟨w.heap.size,0,rfl,by rw[an];exact du _,fun j q hj=>by
  cases j with
  | zero=>obtain rfl:=gG hj;exact dC w _ _ _
  | succ j=>simp at hj⟩⟩
theorem AO (w:World) (y z:Int) (t:TypeId) (g:Nat) (hg:g=w.heap.size):eX (w.alloc (.cells #[.int .i64 y,.int .i64 z] t)) (.slice (some ⟨g,0,none⟩) 2 2) [y,z]:=by
 subst hg;exact⟨_,2,rfl,ai _,.inr ⟨w.heap.size,0,rfl,by rw[an];exact du _,fun j q hj=>by
  match j,hj with
  | 0,hj=>obtain rfl:=gG hj;exact dC w _ _ _
  | 1,hj=>obtain rfl:=gG hj;exact dC w _ _ _
  | j+2,hj=>simp at hj⟩⟩
theorem AP (rv:Value) (row:List Int) (w:World) (h:eX w rv row):Calls Tryz.prog 157 #[rv] w fun e w'=>∃v,e=.returned v∧SH w' v [(1,1,row)]∧Below w.heap.size w w':=by
 have HN:=aa (lf 1 1 rv row w h);obtain⟨A,c,rfl,_⟩:=h;go_enter Tryz.func157,Tryz.ntmps157
 go_wp2_with fail
 refine HN.out.mono ?_;rintro e w1 ⟨u,rfl,hp,b1⟩;have HP:=aa hp;have B1:=aa b1;obtain⟨bm,br,bl,rv',rfl,_⟩:=hp;clear b1;go_wp2_with fail
 have b2:=(Below.refl w1.heap.size w1).alloc (ai _) (.cells #[.func (.func 186) #[] #[.pointer (some ⟨bm,0,none⟩),.pointer (some ⟨br,0,none⟩),.pointer (some ⟨bl,0,none⟩)]] 231);refine(nI _ [(1,1,row)] _ (xg (b:=w1.heap.size) (by rw[an];exact du _) (dC w1 _ _ _) (HP.out.below b2))).mono ?_
 rintro e w2 ⟨v,rfl,hr,b3⟩;have HR:=aa hr;have B3:=aa (aB B1.out (aB b2 b3));obtain⟨bp,pv,rfl,_⟩:=hr;clear b2 b3;go_wp2_with fail
 go_ret
 exact⟨_,rfl,HR.out,B3.out⟩
theorem Mj (pv kv:Value) (ps:List Fm) (ks:List Int) (bp:Nat) (w:World) (hbp:w.cell? ⟨bp,0,none⟩=some pv) (hp:sJ w pv ps) (hk:eX w kv ks) (hl:ks.length≤1000000) (h0 :∀p∈ps,0<p.2.2.length) (Yi:ps.length≤1000) :
  Calls Tryz.prog 185 #[kv,.pointer (some ⟨bp,0,none⟩)] w fun e w'=>e=.returned (.bool (fy ps ks))∧Below w.heap.size w w':=by
 have HP:=aa hp;obtain⟨PA,pc,rfl,hpa⟩:=hp;have HPA:=aa hpa;have H0:=aa h0;clear hpa h0;go_enter Tryz.func185,Tryz.ntmps185
 go_wp2_with fail
 go_loopw [0,10] (fun kv i wr=>∃(iz:List Int) (n:Nat),i=.int .i64 (n:Int)∧n≤ps.length∧eX wr kv iz∧iz.length≤1000000∧fy (ps.drop n) iz=fy ps ks∧Below w.heap.size w wr) (fun _ i _=>ps.length-(intOf i).toNat)
 case atStart=>exact⟨ks,0,rfl,bx _,hk,hl,rfl,Below.refl _ _⟩
 case round =>
  clear hk hl;obtain⟨iz,n,rfl,hn,hk,hl,he,hbl⟩:=hrel;have HK:=aa hk;obtain⟨KA,kc,rfl,CA,_⟩:=hk;have HE:=aa he;have HB:=aa hbl;clear he hbl;by_cases jG:n<ps.length
  ·obtain⟨p,hpn⟩ :∃p,ps[n]? = some p:=⟨ps[n],bH jG⟩
   have hdr:=eZ hpn;rcases HPA.out with hnil | ⟨b1,o1,rfl,hb1,hc1⟩
   ·rw[hnil] at jG;exact absurd jG (jz _)
   obtain⟨u,hcu,hpu⟩:=hc1 n p hpn;have acJ:=hpu.below HB.out;have hcu':=(HB.out.cell (p:=⟨b1,o1+n,none⟩) hb1).trans hcu;obtain⟨bm,br,bl,rv,rfl,_,_,_,d1,d2,d3,dn⟩:=acJ;have sL:=aa (Mi _ p iz bm br bl rv wr d1 d2 d3 dn HK.out hl (H0.out p (ba hpn)));have uC:=aa hdr;obtain⟨q,hq⟩ :∃q,q=kH p.2.2 p.2.1 (iz.length+1) 0 iz:=⟨_,rfl⟩;rw[←hq] at sL;have HQ:=aa hq;have aek:q.2.length≤iz.length:=by rw[hq];exact Yh _ _ _
   clear hc1 hcu hpu d1 d2 d3 dn hdr hpn hq;go_wp2_with fail
   refine sL.out.mono ?_;rintro e w2 ⟨kv',rfl,hk2,b2⟩;have HK2:=aa hk2;obtain⟨KA2,kc2,rfl,hkc2,_⟩:=hk2;have B2:=aa (jm HB.out (ai _) b2);clear b2;by_cases hle:p.1≤q.1
   ·have g:decide (p.1≤q.1)=true:=bF hle
    rw[g];go_wp2_with fail
    go_roundw
    case rel=>exact⟨q.2,n+1,by go_num,by omega,HK2.out,by omega,by rw[←HE.out,uC.out,fy,←HQ.out,g,kV],B2.out⟩
    case measure=>simp[intOf];omega
   ·have g:decide (p.1≤q.1)=false:=bN hle
    rw[g];go_wp2_with fail
    go_ret
    exact⟨cH (by rw[←HE.out,uC.out,fy,←HQ.out,g,zW]),B2.out⟩
  ·have hdr:ps.drop n=[]:=pT (by omega)
   have uC:=aa hdr;clear hdr;go_wp2_with fail
   go_ret
   refine⟨cH ?_,HB.out⟩;rw[←HE.out,uC.out,fy];cases iz with
   | nil=>rfl
   | cons a t=>simp;omega
def nK (k n:Int) (w:World) (e:Ending) (w':World):Prop:=∃v,e=.returned v∧SH w' v (aW k n)∧Below w.heap.size w w'
theorem oo {k n:Int} {ps:List Fm} (h:aW k n=ps) {w w':World} {v:Value} (hr:SH w' v ps) (hb:Below w.heap.size w w'):nK k n w (.returned v) w':=⟨v,rfl,by rw[h];exact hr,hb⟩
theorem bE (w:World) (o:Obj):Below w.heap.size w (w.alloc o):=(Below.refl _ _).alloc (ai _) _
theorem Ii (x:Nd) (A B:Option Addr) (a c b d:Nat) (w:World) (h:x.kind=13∨x.kind=14∨x.kind=16∨x.kind=11∨x.kind=22∨x.kind=21∨x.kind=28):Calls Tryz.prog 107 #[cP x (.slice A a c) (.slice B b d)] w (nK x.kind x.num w):=by
 obtain⟨kind,line,op,num,s,names,kids⟩:=x;unfold cP;simp only at h ⊢;have b1:=bE w (.cells #[.int .i64 kind,.int .i64 line,.int .i64 op,.int .i64 num,.string s,.slice A a c,.slice B b d] 55);rcases h with rfl|rfl|rfl|rfl|rfl|rfl|rfl;all_goals
  have B1:=aa b1;clear b1;go_enter Tryz.func107,Tryz.ntmps107
  go_wp2_with fail
  refine(AP _ _ _ (nJ _ _ 180 _ (by simp))).mono ?_
  rintro e w2 ⟨v,rfl,hr,b2⟩;have HR:=aa hr;have B2:=aa (aB B1.out (aB (bE _ _) b2));obtain⟨bp,pv,rfl,_⟩:=hr;clear b2;go_wp2_with fail
  go_ret
  exact oo (by simp[aW]) HR.out B2.out
theorem Ij (x:Nd) (A B:Option Addr) (a c b d:Nat) (w:World) (h:x.kind=8∨x.kind=12∨x.kind=17∨x.kind=23∨x.kind=24):Calls Tryz.prog 107 #[cP x (.slice A a c) (.slice B b d)] w (nK x.kind x.num w):=by
 obtain⟨kind,line,op,num,s,names,kids⟩:=x;unfold cP;simp only at h ⊢;have b1:=bE w (.cells #[.int .i64 kind,.int .i64 line,.int .i64 op,.int .i64 num,.string s,.slice A a c,.slice B b d] 55);rcases h with rfl|rfl|rfl|rfl|rfl;all_goals
  have B1:=aa b1;clear b1;go_enter Tryz.func107,Tryz.ntmps107
  go_wp2_with fail
  refine(AP _ _ _ (AO _ _ _ 180 _ (by simp))).mono ?_
  rintro e w2 ⟨v,rfl,hr,b2⟩;have HR:=aa hr;have B2:=aa (aB B1.out (aB (bE _ _) b2));obtain⟨bp,pv,rfl,_⟩:=hr;clear b2;go_wp2_with fail
  go_ret
  exact oo (by simp[aW]) HR.out B2.out
theorem SI (x:Nd) (A B:Option Addr) (a c b d:Nat) (w:World) (h:x.kind=9∨x.kind=10∨x.kind=19∨x.kind=29∨x.kind=15):Calls Tryz.prog 107 #[cP x (.slice A a c) (.slice B b d)] w (nK x.kind x.num w):=by
 obtain⟨kind,line,op,num,s,names,kids⟩:=x;unfold cP;simp only at h ⊢;have b1:=bE w (.cells #[.int .i64 kind,.int .i64 line,.int .i64 op,.int .i64 num,.string s,.slice A a c,.slice B b d] 55);rcases h with rfl|rfl|rfl|rfl|rfl;all_goals
  have B1:=aa b1;clear b1;go_enter Tryz.func107,Tryz.ntmps107
  go_wp2_with fail
  refine(lf _ _ _ _ _ (nJ _ _ 180 _ (by simp))).mono ?_
  rintro e w2 ⟨v,rfl,hp,b2⟩;have HP:=aa hp;have B2:=aa (aB B1.out (aB (bE _ _) b2));obtain⟨bm,br,bl,rv,rfl,_⟩:=hp;clear b2;go_wp2_with fail
  refine(nI _ _ _ (xg (b:=w2.heap.size) (by rw[an];exact du _) (dC w2 _ _ _) (HP.out.below (bE w2 _)))).mono ?_
  rintro e w3 ⟨v3,rfl,hr,b3⟩;have HR:=aa hr;have B3:=aa (aB B2.out (aB (bE _ _) b3));obtain⟨bp,pv,rfl,_⟩:=hr;clear b3;go_wp2_with fail
  go_ret
  exact oo (by simp[aW,big]) HR.out B3.out
theorem Ml (x:Nd) (A B:Option Addr) (a c b d:Nat) (w:World) (h:x.kind=18∨x.kind=26∨x.kind=27∨x.kind=20):Calls Tryz.prog 107 #[cP x (.slice A a c) (.slice B b d)] w (nK x.kind x.num w):=by
 obtain⟨kind,line,op,num,s,names,kids⟩:=x;unfold cP;simp only at h ⊢;have b1:=bE w (.cells #[.int .i64 kind,.int .i64 line,.int .i64 op,.int .i64 num,.string s,.slice A a c,.slice B b d] 55);rcases h with rfl|rfl|rfl|rfl;all_goals
  have B1:=aa b1;clear b1;go_enter Tryz.func107,Tryz.ntmps107
  go_wp2_with fail
  refine(lf _ _ _ _ _ (nJ _ _ 180 _ (by simp))).mono ?_
  rintro e w2 ⟨v,rfl,hp,b2⟩;have HP:=aa hp;have B2:=aa (aB B1.out (aB (bE _ _) b2));obtain⟨bm,br,bl,rv,rfl,_⟩:=hp;clear b2;go_wp2_with fail
  refine(lf _ _ _ _ _ (nJ w2 _ 180 _ rfl)).mono ?_;rintro e w3 ⟨v,rfl,AA,b3⟩;have Yj:=aa (HP.out.below (aB (bE w2 _) b3));have Yk:=aa AA;have B3:=aa (aB B2.out (aB (bE _ _) b3));obtain⟨bm3,br3,bl3,rv3,rfl,_⟩:=AA;clear b3 HP;go_wp2_with fail
  refine(nI _ _ _ (xh (b:=w3.heap.size) (by rw[an];exact du _) (dC w3 _ _ _) (dC w3 _ _ _) (Yj.out.below (bE w3 _)) (Yk.out.below (bE w3 _)))).mono ?_
  rintro e w4 ⟨v4,rfl,hr,b4⟩;have HR:=aa hr;have B4:=aa (aB B3.out (aB (bE _ _) b4));obtain⟨bp,pv,rfl,_⟩:=hr;clear b4;go_wp2_with fail
  go_ret
  exact oo (by simp[aW,big]) HR.out B4.out
theorem Mm (x:Nd) (A B:Option Addr) (a c b d:Nat) (w:World) (h:x.kind=25):Calls Tryz.prog 107 #[cP x (.slice A a c) (.slice B b d)] w (nK x.kind x.num w):=by
 obtain⟨kind,line,op,num,s,names,kids⟩:=x;unfold cP;simp only at h ⊢;have b1:=bE w (.cells #[.int .i64 kind,.int .i64 line,.int .i64 op,.int .i64 num,.string s,.slice A a c,.slice B b d] 55);subst h;have B1:=aa b1;clear b1;go_enter Tryz.func107,Tryz.ntmps107
 go_wp2_with fail
 refine(lf _ _ _ _ _ (AO _ _ _ 180 _ (by simp))).mono ?_
 rintro e w2 ⟨v,rfl,hp,b2⟩;have HP:=aa hp;have B2:=aa (aB B1.out (aB (bE _ _) b2));obtain⟨bm,br,bl,rv,rfl,_⟩:=hp;clear b2;go_wp2_with fail
 refine(lf _ _ _ _ _ (nJ w2 _ 180 _ rfl)).mono ?_;rintro e w3 ⟨v,rfl,AA,b3⟩;have Yj:=aa (HP.out.below (aB (bE w2 _) b3));have Yk:=aa AA;have B3:=aa (aB B2.out (aB (bE _ _) b3));obtain⟨bm3,br3,bl3,rv3,rfl,_⟩:=AA;clear b3 HP;go_wp2_with fail
 refine(nI _ _ _ (xh (b:=w3.heap.size) (by rw[an];exact du _) (dC w3 _ _ _) (dC w3 _ _ _) (Yj.out.below (bE w3 _)) (Yk.out.below (bE w3 _)))).mono ?_
 rintro e w4 ⟨v4,rfl,hr,b4⟩;have HR:=aa hr;have B4:=aa (aB B3.out (aB (bE _ _) b4));obtain⟨bp,pv,rfl,_⟩:=hr;clear b4;go_wp2_with fail
 go_ret
 exact oo (by simp[aW,big]) HR.out B4.out
theorem Mn (x:Nd) (A B:Option Addr) (a c b d:Nat) (w:World) (h :∀k∈[13,14,16,8,12,17,9,10,19,29,11,22,21,28,23,24,15,18,25,26,27,(20:Int)],x.kind≠k):Calls Tryz.prog 107 #[cP x (.slice A a c) (.slice B b d)] w (nK x.kind x.num w):=by
 obtain⟨kind,line,op,num,s,names,kids⟩:=x;unfold cP;simp only at h ⊢;simp only[bb,oS,oV,forall_eq_or_imp,forall_eq] at h;obtain⟨h1,h2,h3,h4,h5,h6,h7,h8,h9,h10,h11,h12,h13,h14,h15,h16,h17,mF,Mo,h20,h21,h22⟩:=h;have hp:aW kind num=[]:=by simp only[aW];simp[*]
 have b1:=bE w (.cells #[.int .i64 kind,.int .i64 line,.int .i64 op,.int .i64 num,.string s,.slice A a c,.slice B b d] 55);have B1:=aa b1;have HP:=aa hp;clear b1 hp;go_enter Tryz.func107,Tryz.ntmps107
 go_wp2_with fail
 refine(nI _ [] _ ⟨none,0,rfl,.inl rfl⟩).mono ?_;rintro e w2 ⟨v,rfl,hr,b2⟩;have HR:=aa hr;have B2:=aa (aB B1.out b2);obtain⟨bp,pv,rfl,_⟩:=hr;clear b2;go_wp2_with fail
 go_ret
 exact oo HP.out HR.out B2.out
theorem SJ (x:Nd) (A B:Option Addr) (a c b d:Nat) (w:World):Calls Tryz.prog 107 #[cP x (.slice A a c) (.slice B b d)] w (nK x.kind x.num w):=by
 by_cases h1:x.kind=13∨x.kind=14∨x.kind=16∨x.kind=11∨x.kind=22∨x.kind=21∨x.kind=28
 ·exact Ii x A B a c b d w h1
 by_cases h2:x.kind=8∨x.kind=12∨x.kind=17∨x.kind=23∨x.kind=24
 ·exact Ij x A B a c b d w h2
 by_cases h3:x.kind=9∨x.kind=10∨x.kind=19∨x.kind=29∨x.kind=15
 ·exact SI x A B a c b d w h3
 by_cases h4:x.kind=18∨x.kind=26∨x.kind=27∨x.kind=20
 ·exact Ml x A B a c b d w h4
 by_cases h5:x.kind=25
 ·exact Mm x A B a c b d w h5
 refine Mn x A B a c b d w fun k hk=>?_
 simp only[bb,oS,oV] at hk;omega
theorem dw {α:Type} {p:Prop} [Decidable p] {a b:α} (P:α→Prop) (ha:P a) (hb:P b):P (if p then a else b):=by
 by_cases h:p
 ·rw[ak h];exact ha
 ·rw[af h];exact hb
def mM (ps:List Fm):Prop:=ps.all (fun p=>decide (0<p.2.2.length))=true∧ps.length≤1000
theorem fN (a b:Int) (r:Int) (l:List Int):mM [(a,b,r::l)]:=⟨rfl,Nat.le_of_ble_eq_true rfl⟩
theorem nL (a b a' b':Int) (r r':Int) (l l':List Int):mM [(a,b,r::l),(a',b',r'::l')]:=⟨rfl,Nat.le_of_ble_eq_true rfl⟩
theorem AQ (k n:Int):mM (aW k n):=by
 unfold aW;refine dw mM (fN ..) <| dw mM (fN ..) <| dw mM (fN ..) <| dw mM (fN ..) <| dw mM (fN ..) <| dw mM (fN ..) <| dw mM (fN ..) <| dw mM (fN ..) <| dw mM (fN ..) <| dw mM (fN ..) <| dw mM (nL ..) <| dw mM (nL ..) <| dw mM (nL ..) <| dw mM (nL ..) <| dw mM (nL ..) ⟨rfl,bx _⟩
theorem Ik (k n:Int) :∀p∈aW k n,0<p.2.2.length:=fun p hp=>iK (List.all_eq_true.1 (AQ k n).1 p hp)
theorem Il (k n:Int):(aW k n).length≤1000:=(AQ k n).2
def im (T:List Nd) (x:Nd):List Int:=x.kids.map fun k=>eR (dE T k.toNat)
theorem Dh (T:List Nd) (x:Nd):(im T x).length=x.kids.length:=by simp[im]
theorem Im {T:List Nd} {x:Nd} {j:Nat} {k:Int} (h:x.kids[j]? = some k):(im T x)[j]? = some (eR (dE T k.toNat)):=by simp[im,h]
theorem Mp {W:World} {b:Nat} {l:List Int} (h:oJ W b l.length (fun j=>.int .i64 (l.getD j 0))) (hb:b<W.heap.size):eX W (.slice (some ⟨b,0,none⟩) l.length l.length) l :=
 ⟨_,_,rfl,ai _,.inr ⟨b,0,rfl,hb,fun j z hj=>by
  have hl:=(aL.1 hj).1;rw[jB,(h j hl).1];show some (Value.int .i64 (l.getD j 0))=_
  rw[j5,hj];rfl⟩⟩
theorem Mq (x:Nd) (nv kv tv:Value) (T:List Nd) (w:World) (hnv:sG w nv x.names) (hkv:eX w kv x.kids) (ht:sH w tv T) (hv :∀k∈x.kids,0≤k∧k<(T.length:Int)) (hl:x.kids.length≤20000) :
  Calls Tryz.prog 52 #[cP x nv kv,tv] w fun e w'=>e=.returned (.bool (kj x.kind x.num (im T x)))∧Below w.heap.size w w':=by
 have HK:=aa hkv;have HNV:=aa hnv;obtain⟨NA,nc,rfl,_,_⟩:=hnv;obtain⟨KA,kc,rfl,CA,hka⟩:=hkv;obtain⟨TA,tc,rfl,htc,hta⟩:=ht;have HOF:=aa (fun W=>SJ x NA KA x.names.length nc x.kids.length kc W)
 have HV:=aa hv;have Di:=aa hka;have HTA:=aa hta;have hW0:=bE w (.cells #[.int .i64 x.kind,.int .i64 x.line,.int .i64 x.op,.int .i64 x.num,.string x.s,.slice NA x.names.length nc,.slice KA x.kids.length kc] 55);obtain⟨w1,xe,hb1,hs1,ld⟩:=Dd x.kids.length (by omega) (w.alloc (.cells #[.int .i64 x.kind,.int .i64 x.line,.int .i64 x.op,.int .i64 x.num,.string x.s,.slice NA x.names.length nc,.slice KA x.kids.length kc] 55))
 rw[an] at xe hb1 hs1 ld;have hJ :∀j:Nat,w1.cell? ⟨w.heap.size,j,none⟩=(#[.int .i64 x.kind,.int .i64 x.line,.int .i64 x.op,.int .i64 x.num,.string x.s,.slice NA x.names.length nc,.slice KA x.kids.length kc]:Array Value)[j]?:=fun j=>(hb1.cell (p:=⟨w.heap.size,j,none⟩) (du _)).trans (dC w _ _ _)
 have c6:w1.cell? ⟨w.heap.size,6,none⟩=some (.slice KA x.kids.length kc):=hJ 6;have qi:=aa hJ;have dK:=aa (hW0.trans (hb1.mono (gj _)));have fA:=aa ld;clear hv hka hta hW0 hb1 ld hJ;unfold cP at HOF ⊢;go_enter Tryz.func52,Tryz.ntmps52
 go_wp2_with fail
 clear xe c6;have hsl:(im T x).length=x.kids.length:=Dh T x;have HSL:=aa hsl;clear hsl;go_loopw [15] (fun i wr=>∃k:Nat,k≤x.kids.length∧i=.int .i64 (k:Int)∧Below (w.heap.size+1) w1 wr∧oJ wr (w.heap.size+1) x.kids.length (fun j=>if j<k then .int .i64 ((im T x).getD j 0) else .int .i64 0)) (fun i _=>x.kids.length-(intOf i).toNat)
 case atStart=>exact⟨0,bx _,rfl,Below.refl _ _,fA.out.eq_ fun j _=>by rw[af (by omega)]⟩
 case round =>
  obtain⟨k,hk,rfl,hbr,mT⟩:=hrel;have HB:=aa hbr;have HF:=aa mT;have hsz:=hbr.size;have lL:=aa (dK.out.trans (hbr.mono (gj _)));clear hbr;by_cases hlt:k<x.kids.length
  ·obtain⟨z,hz⟩ :∃z,x.kids[k]? = some z:=⟨x.kids[k],bH hlt⟩
   obtain⟨z0,z1⟩:=HV.out z (ba hz);obtain⟨q,rfl⟩ :∃q:Nat,z=(q:Int):=⟨z.toNat,by omega⟩
   have hq:q<T.length:=by omega
   have hx:=bH hq;rcases Di.out with h0 | ⟨b1,o1,rfl,hb1,hc1⟩
   ·rw[h0] at hlt;exact absurd hlt (jz _)
   rcases HTA.out with h0 | ⟨b2,o2,rfl,hb2,hc2⟩
   ·rw[h0] at hq;exact absurd hq (jz _)
   have ck:=(lL.out.cell (p:=⟨b1,o1+k,none⟩) hb1).trans (hc1 k _ hz);obtain⟨nv',kv',fM,_,_⟩:=hc2 q _ hx;have ct:=(lL.out.cell (p:=⟨b2,o2+q*7,none⟩) hb2).trans fM.c0;obtain⟨fc,ff⟩:=mT k hlt;obtain⟨kd,qf⟩ :∃kd,kd=T[q].kind:=⟨_,rfl⟩;rw[←qf] at ct;have hsk:(im T x).getD k 0=eR kd:=by
    rw[j5,Im hz,iJ,og hx,←qf];rfl
   have HSK:=aa hsk;replace fc:wr.cell? ⟨w.heap.size+1,k,none⟩=some (.int .i64 0):=fc.trans (by
    show some (if k<k then _ else _)=_
    rw[af (by omega)])
   clear hc1 hc2 fM hz hx hsk qf mT;go_wp2_with (go_at_call 106;refine(Ie kd _).mono ?_;rintro e w' ⟨rfl,rfl⟩)
   refine⟨⟨k+1,by omega,by go_num,HB.out.setCell (ai _) _,(HF.out.Yb hlt _).eq_ fun j hj=>?_⟩,by simp[intOf];omega⟩
   by_cases e:j=k
   ·subst e
    rw[ak rfl,ak (by omega),HSK.out]
   ·rw[af e]
    by_cases h:j<k
    ·rw[ak h,ak (by omega)]
    ·rw[af h,af (by omega)]
  ·have aaP:oJ wr (w.heap.size+1) (im T x).length (fun j=>.int .i64 ((im T x).getD j 0)):=by
    rw[HSL.out];exact HF.out.eq_ fun j hj=>by rw[ak (by omega)]
   have HN:=aa (Mp aaP (by omega))
   clear aaP mT;have HC:=qi.out;have c0:=(HB.out.cell (p:=⟨w.heap.size,0,none⟩) (du _)).trans (HC 0);have c1:=(HB.out.cell (p:=⟨w.heap.size,1,none⟩) (du _)).trans (HC 1);have c2:=(HB.out.cell (p:=⟨w.heap.size,2,none⟩) (du _)).trans (HC 2);have c3:=(HB.out.cell (p:=⟨w.heap.size,3,none⟩) (du _)).trans (HC 3);have c4:=(HB.out.cell (p:=⟨w.heap.size,4,none⟩) (du _)).trans (HC 4);have c5:=(HB.out.cell (p:=⟨w.heap.size,5,none⟩) (du _)).trans (HC 5);have c6:=(HB.out.cell (p:=⟨w.heap.size,6,none⟩) (du _)).trans (HC 6);clear HC;go_wp2_with fail
   refine(HOF.out wr).mono ?_;rintro e w2 ⟨v,rfl,hr,b2⟩;obtain⟨bp,pv,rfl,hbp,hcp,hpp⟩:=hr;have HRL:=aa (Mj _ _ (aW x.kind x.num) (im T x) bp w2 hcp hpp (HN.out.below b2) (by rw[HSL.out];omega) (Ik _ _) (Il _ _))
   have B2:=aa (jm lL.out (ai _) b2);clear hcp hpp b2;rw[HSL.out] at HRL;go_wp2_with fail
   refine HRL.out.mono ?_;rintro e w3 ⟨rfl,b3⟩;have B3:=aa (jm B2.out (ai _) b3);clear b3;go_wp2_with fail
   go_ret
   exact⟨rfl,B3.out⟩
def VV:List (List UInt8):=[[97,110,100],[98,114,101,97,107],[100,111],[101,108,115,101],[101,108,115,101,105,102],[101,110,100],[102,97,108,115,101],[102,111,114],[102,117,110,99,116,105,111,110],[103,111,116,111],[105,102],[105,110],[108,111,99,97,108],[110,105,108],[110,111,116],[111,114],[114,101,112,101,97,116],[114,101,116,117,114,110],[116,104,101,110],[116,114,117,101],[117,110,116,105,108],[119,104,105,108,101]]
def ru (l:List UInt8):Bool:=VV.contains l
def SK (c:UInt8):Bool:=decide (97≤c.toNat∧c.toNat≤122) || decide (65≤c.toNat∧c.toNat≤90) || decide (c.toNat=95)
def uH (c:UInt8):Bool:=decide (48≤c.toNat∧c.toNat≤57)
def ry (c:UInt8):Bool:=SK c || uH c
def Dj (l:List UInt8):Bool:=match l with | []=>false|c::_=>uH c
def eC (s:ByteArray):Bool:=decide (s.size≠0) && decide (s.size≤65536) && !Dj s.data.toList && !ru s.data.toList && s.data.toList.all ry
theorem Io (s:ByteArray) (w:World):Calls Tryz.prog 135 #[.string s] w fun e w'=>e=.returned (.bool (ru s.data.toList))∧w=w':=by
 rw[←Lib.toList_data];go_enter Tryz.func135,Tryz.ntmps135
 go_wp2_with fail
 all_goals first
  | (go_ret;rename_i ha hb;rw[ha] at hb;cases hb;done)
  | (go_ret;exact⟨cH (by simp only[ru,VV,KT,KX,Bool.or_false,Bool.true_or,Bool.or_true, *]),rfl⟩)
theorem Dk (c:UInt8) (w:World):Calls Tryz.prog 156 #[.int .u8 (c.toNat:Int)] w fun e w'=>e=.returned (.bool (SK c))∧w=w':=by
 unfold SK;have hc:=c.toNat_lt;generalize c.toNat=n at *;go_enter Tryz.func156,Tryz.ntmps156
 go_wp2_with fail
 all_goals go_ret
 all_goals exact⟨cH (by rw[mB];simp;omega),rfl⟩
theorem xi (c:UInt8) (w:World):Calls Tryz.prog 155 #[.int .u8 (c.toNat:Int)] w fun e w'=>e=.returned (.bool (uH c))∧w=w':=by
 unfold uH;have hc:=c.toNat_lt;generalize c.toNat=n at *;go_enter Tryz.func155,Tryz.ntmps155
 go_wp2_with fail
 all_goals go_ret
 all_goals exact⟨cH (by rw[mB];simp;omega),rfl⟩
theorem Mr {p:UInt8→Bool} {l:List UInt8} {k:Nat} {c:UInt8} (h:l[k]? = some c):(l.drop k).all p=(p c && (l.drop (k+1)).all p):=by
 rw[eZ h,sx]
theorem byte_at {s:ByteArray} {k:Nat} (h:k<s.size):s.data.toList[k]? = some s[k]:=by
 rw[Array.getElem?_toList];exact wF h
theorem xj (s:ByteArray) (w:World):Calls Tryz.prog 102 #[.string s] w fun e w'=>e=.returned (.bool (eC s))∧w=w':=by
 by_cases h0:s.size=0
 ·obtain rfl:s=⟨#[]⟩:=by
   have:s.data=#[]:=Array.eq_empty_of_size_eq_zero h0;cases s;simp_all
  go_enter Tryz.func102,Tryz.ntmps102
  go_wp2_with fail
  go_ret
  exact⟨rfl,rfl⟩
 ·have h00:0<s.size:=by omega
  have hne:s.toList.isEmpty=false:=by
   rw[Lib.toList_data];cases e:s.data.toList with
   | nil=>exact absurd (by rw[Lib.size_eq,e];rfl) h0
   | cons a t=>rfl
  have acK:¬ s.toList=[]:=fun e=>by rw[e] at hne;cases hne
  by_cases h1:s.size≤65536
  ·have g1:decide ((65536:Int)<(s.size:Int))=false:=bN (by omega)
   have hb0:=byte_at (s:=s) (k:=0) (by omega)
   have hf:Dj s.data.toList=uH s[0]:=by
    cases e:s.data.toList with
    | nil=>rw[e] at hb0;simp at hb0
    | cons a t=>rw[e] at hb0;obtain rfl:=gG hb0;rfl
   have Fo:eC s=(!uH s[0] && !ru s.data.toList && s.data.toList.all ry):=by
    unfold eC;rw[hf,bF (show s.size≠0 from h0),bF h1]
    rfl
   rw[Fo];have HW:=aa (Io s w);have HD:=aa (xi s[0] w);obtain⟨D,hD⟩ :∃D,D=uH s[0]:=⟨_,rfl⟩;obtain⟨K,hK⟩ :∃K,K=ru s.data.toList:=⟨_,rfl⟩;rw[←hD] at HD ⊢;rw[←hK] at HW ⊢;obtain⟨AL,Yl⟩ :∃AL,AL=s.data.toList.all ry:=⟨_,rfl⟩;rw[←Yl];have HAL:=aa Yl;clear hD hK hf Fo hb0 Yl;cases D with
   | true =>
    go_enter Tryz.func102,Tryz.ntmps102
    go_wp2_with (go_at_call 155;refine HD.out.mono ?_;rintro e w' ⟨rfl,rfl⟩)
    go_ret
    exact⟨rfl,rfl⟩
   | false =>
    cases K with
    | true =>
     go_enter Tryz.func102,Tryz.ntmps102
     go_wp2_with (first|(go_at_call 155;refine HD.out.mono ?_;rintro e w' ⟨rfl,rfl⟩)|(go_at_call 135;refine HW.out.mono ?_;rintro e w' ⟨rfl,rfl⟩))
     go_ret
     exact⟨rfl,rfl⟩
    | false =>
     go_enter Tryz.func102,Tryz.ntmps102
     go_wp2_with (first|(go_at_call 155;refine HD.out.mono ?_;rintro e w' ⟨rfl,rfl⟩)|(go_at_call 135;refine HW.out.mono ?_;rintro e w' ⟨rfl,rfl⟩))
     clear HD HW;go_loop [22] (fun i=>∃k:Nat,k≤s.size∧i=.int .i64 (k:Int)∧(s.data.toList.drop k).all ry=AL) (fun i=>s.size-(intOf i).toNat)
     case atStart=>exact⟨0,bx _,rfl,HAL.out.symm⟩
     case round =>
      obtain⟨k,hk,rfl,ha⟩:=hrel;have HA:=aa ha;clear ha;by_cases hlt:k<s.size
      ·have hst:=Mr (p:=ry) (byte_at hlt)
       have HST:=aa hst;have HL:=aa (Dk s[k] w);have HG:=aa (xi s[k] w);clear hst;cases e1:SK s[k] with
       | true =>
        have hn:ry s[k]=true:=by unfold ry;rw[e1];rfl
        rw[e1] at HL;rw[hn,kV] at HST;clear e1 hn;go_wp2_with (go_at_call 156;refine HL.out.mono ?_;rintro e w' ⟨rfl,rfl⟩)
        go_round
        case rel=>exact⟨k+1,by omega,by go_num,by rw[←HST.out];exact HA.out⟩
        case measure=>simp[intOf];omega
       | false =>
        rw[e1] at HL;cases e2:uH s[k] with
        | true =>
         have hn:ry s[k]=true:=by unfold ry;rw[e1,e2];rfl
         rw[e2] at HG;rw[hn,kV] at HST;clear e1 e2 hn;go_wp2_with (first|(go_at_call 156;refine HL.out.mono ?_;rintro e w' ⟨rfl,rfl⟩)|(go_at_call 155;refine HG.out.mono ?_;rintro e w' ⟨rfl,rfl⟩))
         go_round
         case rel=>exact⟨k+1,by omega,by go_num,by rw[←HST.out];exact HA.out⟩
         case measure=>simp[intOf];omega
        | false =>
         have hn:ry s[k]=false:=by unfold ry;rw[e1,e2];rfl
         rw[e2] at HG;rw[hn,zW] at HST;clear e1 e2 hn;go_wp2_with (first|(go_at_call 156;refine HL.out.mono ?_;rintro e w' ⟨rfl,rfl⟩)|(go_at_call 155;refine HG.out.mono ?_;rintro e w' ⟨rfl,rfl⟩))
         go_ret
         exact⟨cH (by rw[←HA.out,HST.out];rfl),rfl⟩
      ·have hd:(s.data.toList.drop k).all ry=true:=by
        rw[pT (by rw[←Lib.size_eq];omega)];rfl
       have HD:=aa hd;clear hd;go_wp2_with fail
       go_ret
       exact⟨cH (by rw[←HA.out,HD.out]),rfl⟩
  ·have g1:decide ((65536:Int)<(s.size:Int))=true:=bF (by omega)
   have Fo:eC s=false:=by
    unfold eC;rw[bN h1];simp
   rw[Fo];clear Fo;go_enter Tryz.func102,Tryz.ntmps102
   go_wp2_with fail
   go_ret
   exact⟨rfl,rfl⟩
def kI (k:Int):Int :=
 if k=12∨k=13 then 1 else if k=4∨k=20 then 2 else if k=11∨k=27 then 10 else if k=19∨k=26∨k=28 then 8 else if k=7∨k=10∨k=31∨k=32 then 20 else if k=5 then 4 else 0
theorem acL:bits .or .i64 2 8=10:=by kernel_rfl
theorem acM:bits .or .i64 0 8=8:=by kernel_rfl
theorem acN:bits .or .i64 16 4=20:=by kernel_rfl
theorem acO:bits .or .i64 0 4=4:=by kernel_rfl
theorem yL (k:Int) (w:World):Calls Tryz.prog 100 #[.int .i64 k] w fun e w'=>e=.returned (.int .i64 (kI k))∧w=w':=by
 go_enter Tryz.func100,Tryz.ntmps100
 go_wp2_with fail
 all_goals
  go_ret
  refine⟨AN ?_,rfl⟩;simp only[kI];simp_all [acL,acM,acN,acO]
  try omega
def Ym (k op:Int):Bool:=if k=12 then decide (1≤op) && decide (op≤19) else if k=13 then decide (20≤op) && decide (op≤23) else true
def px (k n:Int):Bool:=if k=11 then n == 0 || n == 1 else if k=20∨k=27 then decide (1≤n) else true
def py (k:Int) (n:Nat):Bool:=if k=19∨k=27 then decide (1≤n) else if k=26∨k=28 then decide (n=1) else true
def Yn (a b c d:Bool):Int :=
 let x:=if a then bits .or .i64 0 1 else 0
 let y:=if b then bits .or .i64 x 2 else x
 let z:=if c then bits .or .i64 y 4 else y
 if d then bits .or .i64 z 8 else z
def SL (x:Nd):Int:=Yn (x.op != 0) (x.num != 0) (!x.s.toList.isEmpty) (decide (0<x.names.length))
theorem SM (x:Nd) (A B:Option Addr) (a c b d:Nat) (w:World):Calls Tryz.prog 103 #[cP x (.slice A a c) (.slice B b d)] w fun e w'=>e=.returned (.bool (Ym x.kind x.op))∧Below w.heap.size w w':=by
 obtain⟨kind,line,op,num,s,names,kids⟩:=x;unfold cP;simp only;go_enter Tryz.func103,Tryz.ntmps103
 go_wp2_with fail
 all_goals
  go_ret
  refine⟨cH ?_,bE w _⟩;simp only[Ym];simp_all
  try omega
theorem Dl (x:Nd) (A B:Option Addr) (a c b d:Nat) (w:World):Calls Tryz.prog 104 #[cP x (.slice A a c) (.slice B b d)] w fun e w'=>e=.returned (.bool (px x.kind x.num))∧Below w.heap.size w w':=by
 obtain⟨kind,line,op,num,s,names,kids⟩:=x;unfold cP;simp only;go_enter Tryz.func104,Tryz.ntmps104
 go_wp2_with fail
 all_goals
  go_ret
  refine⟨cH ?_,bE w _⟩;simp only[px];simp_all
  try omega
theorem Dm (x:Nd) (A B:Option Addr) (c b d:Nat) (w:World):Calls Tryz.prog 105 #[cP x (.slice A x.names.length c) (.slice B b d)] w fun e w'=>e=.returned (.bool (py x.kind x.names.length))∧Below w.heap.size w w':=by
 obtain⟨kind,line,op,num,s,names,kids⟩:=x;unfold cP;simp only;generalize names.length=a;go_enter Tryz.func105,Tryz.ntmps105
 go_wp2_with fail
 all_goals
  go_ret
  refine⟨cH ?_,bE w _⟩;simp only[py];first
   | (simp_all;done)
   | (simp_all;omega)
   | (simp_all;rw[mB];simp;omega)
theorem Ip (x:Nd) (A B:Option Addr) (c b d:Nat) (w:World):Calls Tryz.prog 101 #[cP x (.slice A x.names.length c) (.slice B b d)] w fun e w'=>e=.returned (.int .i64 (SL x))∧Below w.heap.size w w':=by
 obtain⟨kind,line,op,num,s,names,kids⟩:=x;unfold cP;unfold SL;simp only;generalize names.length=a;cases e1:(op != 0)<;>cases e2:(num != 0)<;>cases e3:s.toList.isEmpty<;>by_cases e4:0<a;all_goals
  first
   | rw[bF e4]
   | rw[bN e4]
  simp only[Yn,Bool.not_true,Bool.not_false,tY,KS,if_false];go_enter Tryz.func101,Tryz.ntmps101
  go_wp2_with fail
  go_ret
  exact⟨rfl,bE w _⟩
def bj (x:Nd):Bool :=
 !(bits .andNot .i64 (SL x) (kI x.kind) != 0) && (!(bits .and .i64 (kI x.kind) 16 != 0) || eC x.s) && x.names.all eC && (Ym x.kind x.op && px x.kind x.num && py x.kind x.names.length)
theorem xk {α:Type} {p:α→Bool} {l:List α} {k:Nat} {c:α} (h:l[k]? = some c):(l.drop k).all p=(p c && (l.drop (k+1)).all p):=by
 rw[eZ h,sx]
theorem xl {w w':World} {B:Nat} {x:Nd} {nv kv:Value} (hB:w.heap.size<B) (hb:Below B (w.alloc (.cells #[.int .i64 x.kind,.int .i64 x.line,.int .i64 x.op,.int .i64 x.num,.string x.s,nv,kv] 55)) w'):lV w' w.heap.size 0 x nv kv:=by
 have h :∀j:Nat,w'.cell? ⟨w.heap.size,j,none⟩=(#[.int .i64 x.kind,.int .i64 x.line,.int .i64 x.op,.int .i64 x.num,.string x.s,nv,kv]:Array Value)[j]?:=fun j=>(hb.cell (p:=⟨w.heap.size,j,none⟩) hB).trans (dC w _ _ _)
 exact⟨h 0,h 1,h 2,h 3,h 4,h 5,h 6⟩
theorem Dn (x:Nd) (nv kv:Value) (w:World) (hnv:sG w nv x.names) (hkv :∃A n c,kv=.slice A n c) (hl:x.names.length≤140737488355328) :
  Calls Tryz.prog 51 #[cP x nv kv] w fun e w'=>e=.returned (.bool (bj x))∧Below w.heap.size w w':=by
 have HS:=aa hnv;obtain⟨NA,nc,rfl,_,fM⟩:=hnv;obtain⟨KA,kn,kc,rfl⟩:=hkv;have HNA:=aa fM;clear fM;obtain⟨F,hF⟩ :∃F,F=kI x.kind:=⟨_,rfl⟩;obtain⟨G,hG⟩ :∃G,G=SL x:=⟨_,rfl⟩;obtain⟨O,hO⟩ :∃O,O=Ym x.kind x.op:=⟨_,rfl⟩;obtain⟨C,hC⟩ :∃C,C=px x.kind x.num:=⟨_,rfl⟩;obtain⟨M,hM⟩ :∃M,M=py x.kind x.names.length:=⟨_,rfl⟩;obtain⟨S,hS⟩ :∃S,S=eC x.s:=⟨_,rfl⟩;obtain⟨AL,Yl⟩ :∃AL,AL=x.names.all eC:=⟨_,rfl⟩;have HFo:=aa (fun W=>hF▸yL x.kind W)
 have HGi:=aa (fun W=>hG▸Ip x NA KA nc kn kc W)
 have VW:=aa (fun W=>hO▸SM x NA KA x.names.length nc kn kc W)
 have HCo:=aa (fun W=>hC▸Dl x NA KA x.names.length nc kn kc W)
 have HNm:=aa (fun W=>hM▸Dm x NA KA nc kn kc W)
 have HSn:=aa (fun W=>hS▸xj x.s W)
 have hfk:bj x=(!(bits .andNot .i64 G F != 0) && (!(bits .and .i64 F 16 != 0) || S) && AL && (O && C && M)):=by
  unfold bj;rw[hF,hG,hO,hC,hM,hS,Yl]
 rw[hfk];have HAL:=aa Yl;clear hF hG hO hC hM hS Yl hfk;unfold cP at HGi VW HCo HNm ⊢;have qi:=aa (fun W (h:Below (w.heap.size+1) (w.alloc (.cells #[.int .i64 x.kind,.int .i64 x.line,.int .i64 x.op,.int .i64 x.num,.string x.s,.slice NA x.names.length nc,.slice KA kn kc] 55)) W)=>xl (du _) h)
 have B0:=aa (bE w (.cells #[.int .i64 x.kind,.int .i64 x.line,.int .i64 x.op,.int .i64 x.num,.string x.s,.slice NA x.names.length nc,.slice KA kn kc] 55));cases e1:(bits .andNot .i64 G F != 0) with
 | true =>
  go_enter Tryz.func51,Tryz.ntmps51
  go_wp2_with (go_at_call 100;refine(HFo.out _).mono ?_;rintro e w' ⟨rfl,rfl⟩)
  refine(HGi.out _).mono ?_;rintro e w1 ⟨rfl,b1⟩;rw[an] at b1;have B1:=aa (B0.out.trans (b1.mono (gj _)));obtain⟨c0,c1,c2,c3,c4,c5,c6⟩:=qi.out _ b1;clear b1;go_wp2_with fail
  go_ret
  exact⟨rfl,B1.out⟩
 | false =>
  have key:((bits .and .i64 F 16 != 0)=true∧S=false)∨((bits .and .i64 F 16 != 0)=true∧S=true)∨(bits .and .i64 F 16 != 0)=false:=by
   cases (bits .and .i64 F 16 != 0)<;>cases S<;>simp
  rcases key with ⟨e2,rfl⟩|hh
  ·rw[e2]
   go_enter Tryz.func51,Tryz.ntmps51
   go_wp2_with (go_at_call 100;refine(HFo.out _).mono ?_;rintro e w' ⟨rfl,rfl⟩)
   refine(HGi.out _).mono ?_;rintro e w1 ⟨rfl,b1⟩;rw[an] at b1;have B1:=aa (B0.out.trans (b1.mono (gj _)));obtain⟨c0,c1,c2,c3,c4,c5,c6⟩:=qi.out _ b1;clear b1;go_wp2_with (go_at_call 102;refine(HSn.out _).mono ?_;rintro e w' ⟨rfl,rfl⟩)
   go_ret
   exact⟨rfl,B1.out⟩
  ·have hval:(!(bits .and .i64 F 16 != 0) || S)=true:=by
    rcases hh with ⟨h1,rfl⟩|h1<;>rw[h1]<;>simp
   rw[hval];clear hval;simp only[Bool.not_false,kV];rcases hh with ⟨e2,rfl⟩|e2;all_goals
    go_enter Tryz.func51,Tryz.ntmps51
    go_wp2_with (go_at_call 100;refine(HFo.out _).mono ?_;rintro e w' ⟨rfl,rfl⟩)
    refine(HGi.out _).mono ?_;rintro e w1 ⟨rfl,b1⟩;rw[an] at b1;have BW:=aa b1;have B1:=aa (B0.out.trans (b1.mono (gj _)));have Dp:=b1.size;rw[an] at Dp;obtain⟨c0,c1,c2,c3,c4,c5,c6⟩:=qi.out _ b1;clear b1;go_wp2_with (go_at_call 102;refine(HSn.out _).mono ?_;rintro e w' ⟨rfl,rfl⟩)
    clear c0 c1 c2 c3 c4 c5 c6;go_loop [28] (fun i=>∃k:Nat,k≤x.names.length∧i=.int .i64 (k:Int)∧(x.names.drop k).all eC=AL) (fun i=>x.names.length-(intOf i).toNat)
    case atStart=>exact⟨0,bx _,rfl,HAL.out.symm⟩
    case round =>
     obtain⟨k,hk,rfl,ha⟩:=hrel;have HA:=aa ha;clear ha;by_cases hlt:k<x.names.length
     ·obtain⟨y,hy⟩ :∃y,x.names[k]? = some y:=⟨x.names[k],bH hlt⟩
      rcases HNA.out with h0 | ⟨b2,o2,rfl,hb2,hc2⟩
      ·rw[h0] at hlt;exact absurd hlt (jz _)
      have ck:=(B1.out.cell (p:=⟨b2,o2+k,none⟩) hb2).trans (hc2 k _ hy);have HST:=aa (xk (p:=eC) hy);have HN:=aa (xj y w1);cases hb:eC y with
      | true =>
       rw[hb] at HN HST;rw[kV] at HST;clear hc2 hy hb;go_wp2_with (go_at_call 102;refine HN.out.mono ?_;rintro e w' ⟨rfl,rfl⟩)
       go_round
       case rel=>exact⟨k+1,by omega,by go_num,by rw[←HST.out];exact HA.out⟩
       case measure=>simp[intOf];omega
      | false =>
       rw[hb] at HN HST;rw[zW] at HST;clear hc2 hy hb;go_wp2_with (go_at_call 102;refine HN.out.mono ?_;rintro e w' ⟨rfl,rfl⟩)
       go_ret
       exact⟨cH (by rw[←HA.out,HST.out];rfl),B1.out⟩
     ·have hd:(x.names.drop k).all eC=true:=by
       rw[pT (by omega)];rfl
      have hal:AL=true:=by rw[←HA.out,hd]
      subst hal;clear hd;obtain⟨c0,c1,c2,c3,c4,c5,c6⟩:=qi.out _ BW.out;go_wp2_with fail
      refine(VW.out _).mono ?_;rintro e w2 ⟨rfl,b2⟩;have lM:=aa (jm BW.out (by rw[an];exact ai _) b2)
      have B2:=aa (jm B1.out (ai _) b2);clear c0 c1 c2 c3 c4 c5 c6 b2;cases O with
      | false =>
       go_wp2_with fail
       go_ret
       exact⟨rfl,B2.out⟩
      | true =>
       obtain⟨c0,c1,c2,c3,c4,c5,c6⟩:=qi.out _ lM.out;go_wp2_with fail
       refine(HCo.out _).mono ?_;rintro e w3 ⟨rfl,b3⟩;have SN:=aa (jm lM.out (by rw[an];exact ai _) b3)
       have B3:=aa (jm B2.out (ai _) b3);clear c0 c1 c2 c3 c4 c5 c6 b3;cases C with
       | false =>
        go_wp2_with fail
        go_ret
        exact⟨rfl,B3.out⟩
       | true =>
        obtain⟨c0,c1,c2,c3,c4,c5,c6⟩:=qi.out _ SN.out;go_wp2_with fail
        refine(HNm.out _).mono ?_;rintro e w4 ⟨rfl,b4⟩;have B4:=aa (jm B3.out (ai _) b4);clear c0 c1 c2 c3 c4 c5 c6 b4;go_wp2_with fail
        go_ret
        exact⟨by simp,B4.out⟩
def srt (a:Ast):Int:=eR a.hd.kind
def flB (F:Int) (a b c d nb na o:Bool):Bool:=!(bits .andNot .i64 (Yn a b c d) F != 0) && (!(bits .and .i64 F 16 != 0) || nb) && na && o
end Go.Proofs.YteflkdlaoiijbaaGreatDoor
namespace Go.Proofs.YteflkdlaoiijbaaGreatDoor
open Go.RowKit
mutual
def Ast.upto (M:Int):Ast→Bool
 | .mk h ks=>decide (h.line≤M) && Ast.VX M ks
def Ast.VX (M:Int):List Ast→Bool
 | []=>true
 | a::xs=>Ast.upto M a && Ast.VX M xs
end
def Good (M:Int) (a:Ast):Prop:=Ast.ok bj kj eR a=true∧Ast.upto M a=true
def Ln (M l:Int):Prop:=1≤l∧l≤M
def Ms (M:Int) (a:Ast):Prop:=Good M a∧1≤a.hd.kind∧a.hd.kind≤15
def VY (M:Int) (a:Ast):Prop:=Good M a∧srt a=64
def BlG (M:Int) (a:Ast):Prop:=Good M a∧a.hd.kind=18
def ItG (M:Int) (a:Ast):Prop:=Good M a∧srt a=16
def FnG (M:Int) (a:Ast):Prop:=Good M a∧a.hd.kind=11
def RtG (M:Int) (a:Ast):Prop:=Good M a∧a.hd.kind=29
def SfG (M:Int) (a:Ast):Prop:=Good M a∧(a.hd.kind=7∨a.hd.kind=8∨a.hd.kind=9∨a.hd.kind=10∨a.hd.kind=14)
variable {M:Int}
def prs (ps:List (Ast×Ast)):List Ast:=ps.flatMap fun p=>[p.1,p.2]
end Go.Proofs.YteflkdlaoiijbaaGreatDoor
namespace Go.Proofs.YteflkdlaoiijbaaGreatDoor
open Go.RowKit
structure aaQ (M:Int) (t:ah):Prop where
 line:Ln M t.2.1
 name:t.1=1→eC (bu t.2.2.2)=true
structure aaR (M:Int) (ts:List ah):Prop where
 all :∀t∈ts,aaQ M t
 len:ts.length≤100000
variable {M:Int}
def Nms (l:List ByteArray):Prop:=l.all eC=true
def acP (M:Int) (l:List Ast) (L:Nat) (v:List Ast) (L':Nat):Prop:=(∀a∈l,VY M a)→l.length+L≤300000→∃l1 l2,v=l1++l2∧(∀a∈l1,VY M a)∧(l2=[]∨∃r,l2=[r]∧RtG M r)∧l1.length≤1000000∧L'≤L
def acQ (M:Int) (l:List Ast) (L:Nat) (v:List Ast) (L':Nat):Prop:=∀ps,l=prs ps→(∀p∈ps,Ms M p.1∧BlG M p.2)→1≤ps.length→ps.length+L≤300000→∃ps' l2,v=prs ps'++l2∧(∀p∈ps',Ms M p.1∧BlG M p.2)∧1≤ps'.length∧ps'.length≤1000000∧(l2=[]∨∃b,l2=[b]∧BlG M b)∧L'≤L
def acR (l:List ByteArray) (L:Nat) (v:List ByteArray×Int) (L':Nat):Prop:=Nms l→(Nms v.1∧(v.2=0∨v.2=1))∧L'≤L
def acS (L:Nat) (v:List ByteArray) (L':Nat):Prop:=Nms v∧1≤v.length∧L'≤L
def acT (l:List ByteArray) (L:Nat) (v:List ByteArray) (L':Nat):Prop:=Nms l→Nms v∧l.length≤v.length∧L'≤L
def acU (M:Int) (L:Nat) (v:List Ast) (L':Nat):Prop:=(∀a∈v,Ms M a)∧1≤v.length∧v.length+L'≤L
def acV (M:Int) (l:List Ast) (L:Nat) (v:List Ast) (L':Nat):Prop:=(∀a∈l,Ms M a)→(∀a∈v,Ms M a)∧l.length≤v.length∧v.length+L'≤l.length+L
def acW (M:Int) (L:Nat) (v:List Ast) (L':Nat):Prop:=(∀a∈v,Ms M a)∧v.length+L'≤L
def acX (M:Int) (l:List Ast) (L:Nat) (v:List Ast) (L':Nat):Prop:=(∀a∈l,ItG M a)→(∀a∈v,ItG M a)∧v.length+L'≤l.length+L
def Res (M:Int):(n:NT)→Nat→VT n→Nat→Prop
 | .blk,L,v,L'=>BlG M v∧L'≤L
 | .nj l,L,v,L'=>acP M l L v L'
 | .ret at_,L,v,L'=>Ln M at_→RtG M v∧L'≤L
 | .v7,L,v,L'=>VY M v∧L' < L
 | .els l,L,v,L'=>acQ M l L v L'
 | .RC at_,L,v,L'=>Ln M at_→VY M v∧L'≤L
 | .RD at_,L,v,L'=>Ln M at_→VY M v∧L'≤L
 | .QZ at_ x,L,v,L'=>Ln M at_→SfG M x→(x.hd.kind=7∨x.hd.kind=8)→VY M v∧L'≤L
 | .loc at_,L,v,L'=>Ln M at_→VY M v∧L'≤L
 | .Ac at_ self,L,v,L'=>Ln M at_→Nms self→FnG M v∧L'≤L
 | .GX l,L,v,L'=>acR l L v L'
 | .GY,L,v,L'=>acS L v L'
 | .Q0 l,L,v,L'=>acT l L v L'
 | .v8,L,v,L'=>acU M L v L'
 | .Q6 l,L,v,L'=>acV M l L v L'
 | .Q7 at_ l,L,v,L'=>Ln M at_→(∃l0 x,l=l0++[x]∧(∀a∈l0,Good M a∧(a.hd.kind=7∨a.hd.kind=8))∧SfG M x)→VY M v∧L'≤L
 | .wQ,L,v,L'=>SfG M v∧L' < L
 | .aR x,L,v,L'=>SfG M x→SfG M v∧L'≤L
 | .arg,L,v,L'=>acW M L v L'
 | .Kf l,L,v,L'=>acX M l L v L'
 | .GZ,L,v,L'=>ItG M v∧L' < L
 | .exp _,L,v,L'=>Ms M v∧L' < L
 | .lvm _ x,L,v,L'=>Ms M x→Ms M v∧L'≤L
 | .una,L,v,L'=>Ms M v∧L' < L
 | .CN,L,v,L'=>Ms M v∧L' < L
def aaS (M:Int) (n:NT) (ts:List ah) (v:VT n) (au:List ah):Prop:=aaR M ts→aaR M au∧Res M n ts.length v au.length
abbrev W (M:Int) {α:Type} (g:GL α) (ts:List ah) (Q:α→List ah→Prop):Prop:=Wp (aaS M) g ts Q
end Go.Proofs.YteflkdlaoiijbaaGreatDoor
namespace Go.Proofs.YteflkdlaoiijbaaGreatDoor
open Go.RowKit
variable {M:Int}
theorem uI {α:Type} {c:Prop} [Decidable c] {a o:α} {y:Option α} (h:(if c then some a else y)=some o):a=o∨y=some o:=by
 by_cases hc:c
 ·rw[ak hc] at h
  exact .inl (gG h)
 ·rw[af hc] at h
  exact .inr h
theorem Fp {t:ah} {o:Int×Nat×Nat} (h:jD t=some o):1≤o.1∧o.1≤19:=by
 unfold jD at h;repeat
  obtain e|h:=uI h
  ·rw[←e];exact⟨by decide,by decide⟩
 cases h
theorem qj {t:ah} {o:Int} (h:jZ t=some o):20≤o∧o≤23:=by
 unfold jZ at h;repeat
  obtain e|h:=uI h
  ·rw[←e];exact⟨by decide,by decide⟩
 cases h
end Go.Proofs.YteflkdlaoiijbaaGreatDoor
namespace Go.Proofs.YteflkdlaoiijbaaGreatDoor
section
variable {N:Type} {V:N→Type} (body :∀n,G N V (V n)) (X Y:List ah)
variable {body X Y}
end
theorem dL {α:Type} {f:ah→GL α} {t:ah} {ts:List ah} {r:Except Int (α×List ah)} (h:PL (.look f) (t::ts) r):PL (f t) (t::ts) r:=by cases h with|look h=>exact h
theorem cE {α:Type} {n:NT} {k:VT n→GL α} {ts eP:List ah} {a:α} (h:PL (.call n k) ts (.ok (a,eP))) :∃v eB,PL (bg n) ts (.ok (v,eB))∧PL (k v) eB (.ok (a,eP)):=by cases h with|call h1 h2=>exact⟨_,_,h1,h2⟩
theorem qk {α:Type} {a b:α} {ts eP:List ah} (h:PL (.ret a) ts (.ok (b,eP))):b=a∧eP=ts:=by cases h;exact⟨rfl,rfl⟩
theorem kl {α:Type} {a:α} {ts eP:List ah} (h:PL (.bad:GL α) ts (.ok (a,eP))):False:=by cases h
section
variable {X Y:List ah}
end
end Go.Proofs.YteflkdlaoiijbaaGreatDoor
namespace Go.Proofs.YteflkdlaoiijbaaGreatDoor
def Dq:ah:=(0,1,0,[])
end Go.Proofs.YteflkdlaoiijbaaGreatDoor
namespace Go.Proofs.YteflkdlaoiijbaaGreatDoor
variable {M:Int}
theorem Fq {ts au:List ah} {a:Ast} (h:PL kG ts (.ok (a,au))) :∃t SO la u us,ts=t::SO∧au=u::us∧u.1=0∧a=nd 18 t.2.1 la∧PL (bg (.nj [])) ts (.ok (la,u::us)):=by
 obtain⟨(b:Ast),eB,h1,h2⟩:=cE (n:=.blk) h;cases ts with
 | nil=>cases h1
 | cons t SO =>
  have h1:=dL h1;obtain⟨(la:List Ast),eP,h3,h4⟩:=cE (n:=.nj []) h1;obtain⟨e1,e2⟩:=qk h4;subst e1 e2;cases eB with
  | nil=>cases h2
  | cons u us =>
   have h2:=dL h2;by_cases hk:u.1=0
   ·rw[ak hk] at h2
    obtain⟨e1,e2⟩:=qk h2;subst e1 e2;exact⟨t,SO,la,u,us,rfl,rfl,hk,rfl,h3⟩
   ·rw[af hk] at h2
    exact(kl h2).elim
end Go.Proofs.YteflkdlaoiijbaaGreatDoor
namespace Go.Proofs.YteflkdlaoiijbaaGreatDoor
section
variable {N:Type} {V:N→Type} (body :∀n,G N V (V n)) (sp:N→Bool) (X Y:List ah)
def Ee {α:Type}:G N V α→Prop
 | .ret _=>True
 | .bad=>True
 | .tok f=>∀t,Ee (f t)
 | .look f=>(∀t,Ee (f t))∧∀a,P body (.look f) X (.ok (a,X))→P body (.look f) Y (.ok (a,Y))
 | .call n k=>if sp n then∀v,Ee (k v)∧∀a,P body (k v) X (.ok (a,X))→False else∀v,Ee (k v)
variable {body sp X Y}
theorem P.aaT (hb :∀n,sp n=false→Ee body sp X Y (body n)) {α:Type} {g:G N V α} {ts:List ah} {r:Except Int (α×List ah)} (h:P body g ts r) :∀(a:α) (us:List ah),ts=us++X→r=.ok (a,X)→Ee body sp X Y g→P body g (us++Y) (.ok (a,Y)):=by
 induction h with
 | ret =>
  intro a us e1 e2 _;injection e2 with e2;injection e2 with e2 e3;subst e2;rw[e3] at e1;have:us=[]:=by
   have:=ay List.length e1;rw[bM] at this;exact mw (by omega)
  subst this;exact .ret
 | bad=>intro a us _ e2;cases e2
 | @tok _ f t ts r h ih =>
  intro a us e1 e2 hE;subst e2;obtain⟨c,hc⟩:=h.tail _ _ rfl;cases us with
  | nil =>
   have:=ay List.length e1;rw[hc] at this;simp at this;omega
  | cons u us =>
   injection e1 with e3 e4;subst e3;exact .tok (ih a us e4 rfl (hE _))
 | @look _ f t ts r h ih =>
  intro a us e1 e2 hE;subst e2;cases us with
  | nil =>
   have e3:t::ts=X:=e1;refine hE.2 a ?_;have h':=P.look h;rw[e3] at h';exact h'
  | cons u us =>
   have e3:t=u:=by injection e1
   subst e3;exact .look (ih a (t::us) e1 rfl (hE.1 t))
 | @call _ n k ts au v r h1 h2 QW QX =>
  intro a us e1 e2 hE;subst e2;obtain⟨c2,hc2⟩:=h2.tail _ _ rfl;have hE':if sp n then∀v,Ee body sp X Y (k v)∧∀a,P body (k v) X (.ok (a,X))→False else∀v,Ee body sp X Y (k v):=hE
  have hEv:Ee body sp X Y (k v):=by
   by_cases hs:sp n=true
   ·rw[ak hs] at hE';exact(hE' v).1
   ·rw[af hs] at hE';exact hE' v
  by_cases hn:c2=[]
  ·subst hn
   rw[mY] at hc2;subst hc2;by_cases hs:sp n=true
   ·rw[ak hs] at hE'
    exact((hE' v).2 a h2).elim
   ·exact .call (QW v us e1 rfl (hb n (KW.2 hs))) (QX a [] rfl rfl hEv)
  ·exact .call (h1.ack v us c2 X Y e1 (by rw[hc2]) hn) (QX a c2 hc2 rfl hEv)
 | fQ _ _=>intro a us _ e2;cases e2
end
def Mt:NT→Bool
 | .blk=>true
 | _=>false
def dF (L:Int):ah:=(0,L,0,[])
section
variable {L1 L2:Int}
end
end Go.Proofs.YteflkdlaoiijbaaGreatDoor
namespace Go.Proofs.YteflkdlaoiijbaaGreatDoor
theorem oq (k l:Int) (ks:List Ast):(nd k l ks).size=Ast.al ks+1:=by unfold nd;rw[Ast.size]
theorem lh (k l:Int) (s:ByteArray) (ks:List Ast):(kf k l s ks).size=Ast.al ks+1:=by unfold kf;rw[Ast.size]
theorem AR (k l o:Int) (ks:List Ast):(QY k l o ks).size=Ast.al ks+1:=by unfold QY;rw[Ast.size]
theorem Mu (k l n:Int) (ks:List Ast):(Cy k l n ks).size=Ast.al ks+1:=by unfold Cy;rw[Ast.size]
theorem Mv (k l n:Int) (ns:List ByteArray) (ks:List Ast):(vZ k l n ns ks).size=Ast.al ks+1:=by unfold vZ;rw[Ast.size]
theorem cj:Ast.al []=0:=by rw[Ast.al]
theorem iq (a:Ast) (l:List Ast):Ast.al (a::l)=a.size+Ast.al l:=by rw[Ast.al]
theorem fk :∀a b:List Ast,Ast.al (a++b)=Ast.al a+Ast.al b:=by
 intro a;induction a with
 | nil=>intro b;rw[mY,cj,jB]
 | cons x a ih=>intro b;rw[dB,iq,iq,ih,pW]
def ZlR (l:List Ast) (L:Nat) (v:List Ast) (L':Nat):Prop:=Ast.al v+2*L'≤Ast.al l+2*L
def ZaR (L:Nat) (v:List Ast) (L':Nat):Prop:=Ast.al v+2*L'+1≤2*L
def yM:(n:NT)→Nat→VT n→Nat→Prop
 | .blk,L,v,L'=>Ast.size v+2*L'≤2*L+1
 | .nj l,L,v,L'=>ZlR l L v L'
 | .ret _,L,v,L'=>Ast.size v+2*L'≤2*L+1
 | .v7,L,v,L'=>Ast.size v+2*L'≤2*L
 | .els l,L,v,L'=>ZlR l L v L'
 | .RC _,L,v,L'=>Ast.size v+2*L'≤2*L+2
 | .RD _,L,v,L'=>Ast.size v+2*L'≤2*L
 | .QZ _ x,L,v,L'=>Ast.size v+2*L'≤x.size+2*L+1
 | .loc _,L,v,L'=>Ast.size v+2*L'≤2*L+2
 | .Ac _ _,L,v,L'=>Ast.size v+2*L'≤2*L
 | .GX _,L,_,L'=>L'≤L
 | .GY,L,_,L'=>L'≤L
 | .Q0 _,L,_,L'=>L'≤L
 | .v8,L,v,L'=>ZaR L v L'
 | .Q6 l,L,v,L'=>ZlR l L v L'
 | .Q7 _ l,L,v,L'=>Ast.size v+2*L'≤Ast.al l+2*L
 | .wQ,L,v,L'=>Ast.size v+2*L'+1≤2*L
 | .aR x,L,v,L'=>Ast.size v+2*L'≤x.size+2*L
 | .arg,L,v,L'=>ZaR L v L'
 | .Kf l,L,v,L'=>ZlR l L v L'
 | .GZ,L,v,L'=>Ast.size v+2*L'≤2*L
 | .exp _,L,v,L'=>Ast.size v+2*L'+1≤2*L
 | .lvm _ x,L,v,L'=>Ast.size v+2*L'≤x.size+2*L
 | .una,L,v,L'=>Ast.size v+2*L'+1≤2*L
 | .CN,L,v,L'=>Ast.size v+2*L'+1≤2*L
def Mw (n:NT) (ts:List ah) (v:VT n) (au:List ah):Prop:=yM n ts.length v au.length
abbrev Zp {α:Type} (g:GL α) (ts:List ah) (Q:α→List ah→Prop):Prop:=Wp Mw g ts Q
theorem uJ {P:(n:NT)→List ah→VT n→List ah→Prop} {α:Type} {f:ah→GL α} {ts:List ah} {Q:α→List ah→Prop} (h :∀t au,ts.length=au.length+1→Wp P (f t) (t::au) Q):Wp P (.look f) ts Q:=fun t au e=>by
 subst e;exact h t au rfl
theorem AS {P:(n:NT)→List ah→VT n→List ah→Prop} {α:Type} {f:ah→GL α} {t:ah} {ts:List ah} {Q:α→List ah→Prop} (h:Wp P (f t) ts Q):Wp P (.tok f) (t::ts) Q:=fun u us e=>by
 injection e with e1 e2;subst e1 e2;exact h
theorem nM {P:(n:NT)→List ah→VT n→List ah→Prop} {α:Type} {n:NT} {k:VT n→GL α} {ts:List ah} {Q:α→List ah→Prop} (h :∀v au,P n ts v au→Wp P (k v) au Q):Wp P (.call n k) ts Q:=h
theorem AT {P:(n:NT)→List ah→VT n→List ah→Prop} {α:Type} {c:Prop} [Decidable c] {g g':GL α} {ts:List ah} {Q:α→List ah→Prop} (h1:Wp P g ts Q) (h2:Wp P g' ts Q):Wp P (if c then g else g') ts Q:=by
 by_cases h:c
 ·rw[ak h];exact h1
 ·rw[af h];exact h2
theorem My {P:(n:NT)→List ah→VT n→List ah→Prop} {α:Type} {s:List UInt8} {k:ah→GL α} {ts:List ah} {Q:α→List ah→Prop} (h :∀t au,ts.length=au.length+1→Wp P (k t) au Q):Wp P (want s k) ts Q:=uJ fun t au e=>AT (AS (h t au e)) trivial
theorem Mz {P:(n:NT)→List ah→VT n→List ah→Prop} {α:Type} {k:ah→GL α} {ts:List ah} {Q:α→List ah→Prop} (h :∀t au,ts.length=au.length+1→Wp P (k t) au Q):Wp P (name k) ts Q:=uJ fun t au e=>AT (AS (h t au e)) trivial
theorem MA {P:(n:NT)→List ah→VT n→List ah→Prop} {α:Type} {s:List UInt8} {a b:GL α} {ts:List ah} {Q:α→List ah→Prop} (h :∀t au,ts.length=au.length+1→Wp P a au Q∧Wp P b (t::au) Q):Wp P (take s a b) ts Q:=uJ fun t au e=>AT (AS (h t au e).1) (h t au e).2
theorem VZ {P:(n:NT)→List ah→VT n→List ah→Prop} {α:Type} {ts:List ah} {Q:α→List ah→Prop}:Wp P (.bad:GL α) ts Q:=trivial
theorem V6 {P:(n:NT)→List ah→VT n→List ah→Prop} {α:Type} {a:α} {ts:List ah} {Q:α→List ah→Prop} (h:Q a ts):Wp P (.ret a:GL α) ts Q:=h
theorem V7 (n:NT) (ts:List ah):Zp (bg n) ts (Mw n ts):=by
 cases n<;>unfold bg;all_goals
  repeat' (first
   | with_reducible refine My fun _ _ _=>?_
   | with_reducible refine Mz fun _ _ _=>?_
   | with_reducible refine MA fun _ _ _=>⟨?_,?_⟩
   | with_reducible refine uJ fun _ _ _=>?_
   | with_reducible refine AS ?_
   | with_reducible refine AT ?_ ?_
   | (refine nM ?_;intro(v:Ast) ts h)
   | (refine nM ?_;intro(v:List Ast) ts h)
   | (refine nM ?_;intro(v:List ByteArray) ts h)
   | (refine nM ?_;intro(v:List ByteArray×Int) ts h)
   | refine V6 ?_
   | exact VZ
   | split)
 all_goals
  simp only[Mw,yM,ZlR,ZaR,oq,lh,AR,Mu,Mv,cj,iq,fk,List.length_cons] at *;omega
theorem MB {ts au:List ah} {a:Ast} (h:PL kG ts (.ok (a,au))):a.size+2*au.length≤2*ts.length+1:=by
 obtain⟨(b:Ast),eB,h1,h2⟩:=cE (n:=.blk) h;have h3:b.size+2*eB.length≤2*ts.length+1:=h1.holds V7;obtain⟨c,hc⟩:=h2.tail _ _ rfl;have hl:=ay List.length hc;rw[bM] at hl;cases eB with
 | nil=>cases h2
 | cons u us =>
  have h2:=dL h2;by_cases hk:u.1=0
  ·rw[ak hk] at h2
   obtain⟨e1,_⟩:=qk h2;subst e1;omega
  ·rw[af hk] at h2
   exact(kl h2).elim
theorem Fin.cons {ts:List ah} (h:Fin ts) :∃t r,ts=t::r:=by
 cases ts with
 | nil=>exact absurd rfl h.ne
 | cons t r=>exact⟨t,r,rfl⟩
def V8 (n:NT) (ts:List ah) (_:VT n) (au:List ah):Prop:=Fin ts→Fin au
def Ff {α:Type} (g:GL α) (ts:List ah):Prop:=Fin ts→Wp V8 g ts (fun _ au=>Fin au)
theorem rz {α:Type} {a:α} {ts:List ah}:Ff (.ret a) ts:=fun h=>h
theorem Dr {α:Type} {ts:List ah}:Ff (.bad:GL α) ts:=fun _=>trivial
theorem ot {α:Type} {f:ah→GL α} {ts:List ah} (h :∀t au,Ff (f t) (t::au)):Ff (.look f) ts:=fun hf t au e=>by
 subst e;exact h t au hf
theorem rA {α:Type} {f:ah→GL α} {t:ah} {ts:List ah} (ht:t.1≠0) (h:Ff (f t) ts):Ff (.tok f) (t::ts):=fun hf u us e=>by
 injection e with e1 e2;subst e1 e2;exact h (hf.tail ht)
theorem ql {α:Type} {n:NT} {k:VT n→GL α} {ts:List ah} (h :∀v au,Ff (k v) au):Ff (.call n k) ts:=fun hf v au hp=>h v au (hp hf)
theorem uK {α:Type} {c:Prop} [Decidable c] {g g':GL α} {ts:List ah} (h1:c→Ff g ts) (h2:¬ c→Ff g' ts):Ff (if c then g else g') ts:=by
 by_cases h:c
 ·rw[ak h];exact h1 h
 ·rw[af h];exact h2 h
theorem aU {s:List UInt8} {t:ah} (h:ax s t=true):t.1≠0:=fun e=>by simp[ax,e] at h
theorem SP {α:Type} {s:List UInt8} {k:ah→GL α} {ts:List ah} (h :∀t au,Ff (k t) au):Ff (want s k) ts:=ot fun t au=>uK (fun hc=>rA (aU hc) (h t au)) fun _=>Dr
theorem SQ {α:Type} {k:ah→GL α} {ts:List ah} (h :∀t au,Ff (k t) au):Ff (name k) ts:=ot fun t au=>uK (fun hc=>rA (by rw[hc];decide) (h t au)) fun _=>Dr
theorem SS {α:Type} {s:List UInt8} {a b:GL α} {ts:List ah} (h1 :∀au,Ff a au) (h2 :∀au,Ff b au):Ff (take s a b) ts:=ot fun _ au=>uK (fun hc=>rA (aU hc) (h1 au)) fun _=>h2 _
theorem Fs {t:ah} {o:Int×Nat×Nat} (h:jD t=some o):t.1≠0:=fun e=>by simp[jD,ax,e] at h
theorem Ft {t:ah} {o:Int} (h:jZ t=some o):t.1≠0:=fun e=>by simp[jZ,ax,e] at h
theorem Yo (n:NT) (ts:List ah):Ff (bg n) ts:=by
 cases n<;>unfold bg;case lvm s x =>
  refine ot fun t au=>?_
  cases h:jD t with
  | none=>exact rz
  | some o=>exact uK (fun _=>rA (Fs h) (ql fun _ _=>ql fun _ _=>rz)) fun _=>rz
 case una =>
  refine ot fun t au=>?_
  cases h:jZ t with
  | none=>exact ql fun _ _=>rz
  | some o=>exact rA (Ft h) (ql fun _ _=>rz)
 all_goals
  repeat' first
   | exact rz
   | exact Dr
   | (refine SP fun _ _=>?_)
   | (refine SQ fun _ _=>?_)
   | (refine SS (fun _=>?_) (fun _=>?_))
   | (refine ot fun _ _=>?_)
   | (refine ql fun _ _=>?_)
   | (refine uK (fun hc=>?_) (fun _=>?_))
   | (refine rA (by first|exact aU hc|(intro e;simp[ax,e] at hc)) ?_)
theorem Wp.always {N:Type} {V:N→Type} {Post :∀n,List ah→V n→List ah→Prop} {α:Type} (g:G N V α) :∀(ts:List ah) (Q:α→List ah→Prop),(∀a au,Q a au)→Wp Post g ts Q:=by
 induction g with
 | ret a=>intro ts Q h;exact h a ts
 | bad=>intro ts Q h;trivial
 | tok f ih=>intro ts Q h t au e;exact ih t au Q h
 | look f ih=>intro ts Q h t au e;exact ih t ts Q h
 | call n k ih=>intro ts Q h v au hp;exact ih v au Q h
theorem Wp.weak {N:Type} {V:N→Type} {Post :∀n,List ah→V n→List ah→Prop} {α:Type} (g:G N V α) :∀(ts:List ah) (Q Q':α→List ah→Prop),(∀a au,Q a au→Q' a au)→Wp Post g ts Q→Wp Post g ts Q':=by
 induction g with
 | ret a=>intro ts Q Q' h hw;exact h a ts hw
 | bad=>intro ts Q Q' h hw;trivial
 | tok f ih=>intro ts Q Q' h hw t au e;exact ih t au Q Q' h (hw t au e)
 | look f ih=>intro ts Q Q' h hw t au e;exact ih t ts Q Q' h (hw t au e)
 | call n k ih=>intro ts Q Q' h hw v au hp;exact ih v au Q Q' h (hw v au hp)
theorem PL.fin {n:NT} {ts au:List ah} {v:VT n} (h:PL (bg n) ts (.ok (v,au))) (hf:Fin ts):Fin au :=
 P.holds (Post:=V8) (fun n ts=>by
  by_cases hf:Fin ts
  ·exact Wp.weak _ _ _ _ (fun _ _ h _=>h) (Yo n ts hf)
  ·exact Wp.always _ _ _ fun _ _ h=>(hf h).elim) h hf
end Go.Proofs.YteflkdlaoiijbaaGreatDoor
namespace Go.Proofs.YteflkdlaoiijbaaGreatDoor
def Ds (x:Nd):Prop:=-9223372036854775808≤x.num∧x.num≤9223372036854775807∧x.s.size≤8000∧x.names.length≤5000∧-9223372036854775808≤x.op∧x.op≤9223372036854775807
mutual
def jf:Ast→Prop
 | .mk h ks=>Ds h∧km ks
def km:List Ast→Prop
 | []=>True
 | a::xs=>jf a∧km xs
end
theorem ou:km []:=by unfold km;trivial
theorem jJ {a:Ast} {l:List Ast} (h:jf a) (k:km l):km (a::l):=by unfold km;exact⟨h,k⟩
theorem Fu {a b:List Ast} (h:km a) (k:km b):km (a++b):=by
 induction a with
 | nil=>exact k
 | cons x a ih =>
  unfold km at h;exact jJ h.1 (ih h.2)
theorem V9 {k l:Int} {ks:List Ast} (h:km ks):jf (nd k l ks):=by
 unfold nd jf Ds;exact⟨⟨by dsimp only;decide,by dsimp only;decide,by dsimp only;decide,by simp,by dsimp only;decide,by dsimp only;decide⟩,h⟩
theorem Yq {k l:Int} {s:List UInt8} {ks:List Ast} (hs:s.length≤8000) (h:km ks):jf (kf k l (bu s) ks):=by
 unfold kf jf Ds;exact⟨⟨by dsimp only;decide,by dsimp only;decide,by show(bu s).size≤8000;exact hs,by simp,by dsimp only;decide,by dsimp only;decide⟩,h⟩
theorem MC {k l o:Int} {ks:List Ast} (h0:1≤o) (h1:o≤23) (h:km ks):jf (QY k l o ks):=by
 unfold QY jf Ds;exact⟨⟨by dsimp only;decide,by dsimp only;decide,by dsimp only;decide,by simp,by dsimp only;omega,by dsimp only;omega⟩,h⟩
theorem Yr {k l n:Int} {ks:List Ast} (h0:-9223372036854775808≤n) (h1:n≤9223372036854775807) (h:km ks):jf (Cy k l n ks):=by
 unfold Cy jf Ds;exact⟨⟨h0,h1,by dsimp only;decide,by simp,by dsimp only;decide,by dsimp only;decide⟩,h⟩
theorem Ys {k l n:Int} {ns:List ByteArray} {ks:List Ast} (h0:-9223372036854775808≤n) (h1:n≤9223372036854775807) (hn:ns.length≤5000) (h:km ks):jf (vZ k l n ns ks):=by
 unfold vZ jf Ds;exact⟨⟨h0,h1,by dsimp only;decide,hn,by dsimp only;decide,by dsimp only;decide⟩,h⟩
theorem acY {a:Ast} (h:jf a):a.hd.s.size≤8000:=by
 cases a with
 | mk x ks=>unfold jf Ds at h;exact h.1.2.2.1
theorem MD {k l:Int} {a:Ast} {ks:List Ast} (h:jf a) (hk:km ks):jf (kf k l a.hd.s ks):=by
 unfold kf jf Ds;exact⟨⟨by dsimp only;decide,by dsimp only;decide,acY h,by simp⟩,hk⟩
structure SU (t:ah):Prop where
 n0:-9223372036854775808≤t.2.2.1
 n1:t.2.2.1≤9223372036854775807
 s:t.2.2.2.length≤8000
structure TS (ts:List ah):Prop where
 all :∀t∈ts,SU t
 len:ts.length≤4900
theorem TS.tl {t:ah} {ts:List ah} (h:TS (t::ts)):TS ts:=⟨fun u hu=>h.all u (bX _ hu),by have:=h.len;rw[List.length_cons] at this;omega⟩
theorem TS.hd {t:ah} {ts:List ah} (h:TS (t::ts)):SU t:=h.all t (bQ ..)
def ME:(n:NT)→Nat→VT n→Nat→Prop
 | .blk,_,v,_=>jf v
 | .nj l,_,v,_=>km l→km v
 | .ret _,_,v,_=>jf v
 | .v7,_,v,_=>jf v
 | .els l,_,v,_=>km l→km v
 | .RC _,_,v,_=>jf v
 | .RD _,_,v,_=>jf v
 | .QZ _ x,_,v,_=>jf x→jf v
 | .loc _,_,v,_=>jf v
 | .Ac _ self,_,v,_=>self.length≤1→jf v
 | .GX l,L,v,L'=>v.1.length+L'≤l.length+L∧(v.2=0∨v.2=1)
 | .GY,L,v,L'=>List.length v+L'≤L
 | .Q0 l,L,v,L'=>List.length v+L'≤l.length+L
 | .v8,L,v,L'=>km v∧List.length v+L'≤L+1
 | .Q6 l,L,v,L'=>km l→km v∧List.length v+L'≤l.length+L
 | .Q7 _ l,L,v,_=>km l→l.length+L≤5000→jf v
 | .wQ,_,v,_=>jf v
 | .aR x,_,v,_=>jf x→jf v
 | .arg,_,v,_=>km v
 | .Kf l,_,v,_=>km l→km v
 | .GZ,_,v,_=>jf v
 | .exp _,_,v,_=>jf v
 | .lvm _ x,_,v,_=>jf x→jf v
 | .una,_,v,_=>jf v
 | .CN,_,v,_=>jf v
def MF (n:NT) (ts:List ah) (v:VT n) (au:List ah):Prop:=TS ts→TS au∧au.length≤ts.length∧ME n ts.length v au.length
section
variable {α:Type} {Q:α→List ah→Prop}
abbrev Sp (g:GL α) (ts:List ah) (Q:α→List ah→Prop):Prop:=Wp MF g ts Q
theorem rB {f:ah→GL α} {ts:List ah} (hT:TS ts) (h :∀t au,ts=t::au→SU t→TS au→TS (t::au)→Sp (f t) (t::au) Q):Sp (.look f) ts Q:=fun t au e=>by
 subst e;exact h t au rfl hT.hd hT.tl hT
theorem xm {f:ah→GL α} {t:ah} {ts:List ah} (h:Sp (f t) ts Q):Sp (.tok f) (t::ts) Q:=fun u us e=>by
 injection e with e1 e2;subst e1 e2;exact h
theorem s_call {n:NT} {k:VT n→GL α} {ts:List ah} (hT:TS ts) (h :∀v au,TS au→au.length≤ts.length→ME n ts.length v au.length→Sp (k v) au Q):Sp (.call n k) ts Q:=fun v au hp=>by
 obtain⟨h1,h2,h3⟩:=hp hT;exact h v au h1 h2 h3
theorem AU {c:Prop} [Decidable c] {g g':GL α} {ts:List ah} (h1:c→Sp g ts Q) (h2:¬ c→Sp g' ts Q):Sp (if c then g else g') ts Q:=by
 by_cases h:c
 ·rw[ak h];exact h1 h
 ·rw[af h];exact h2 h
theorem Yt {s:List UInt8} {k:ah→GL α} {ts:List ah} (hT:TS ts) (h :∀t au,ts.length=au.length+1→SU t→TS au→Sp (k t) au Q):Sp (want s k) ts Q:=rB hT fun t au e h1 h2 _=>AU (fun _=>xm (h t au (by rw[e];rfl) h1 h2)) fun _=>trivial
theorem Yu {k:ah→GL α} {ts:List ah} (hT:TS ts) (h :∀t au,ts.length=au.length+1→SU t→TS au→Sp (k t) au Q):Sp (name k) ts Q:=rB hT fun t au e h1 h2 _=>AU (fun _=>xm (h t au (by rw[e];rfl) h1 h2)) fun _=>trivial
theorem Yv {s:List UInt8} {a b:GL α} {ts:List ah} (hT:TS ts) (h1 :∀au,ts.length=au.length+1→TS au→Sp a au Q) (h2:Sp b ts Q):Sp (take s a b) ts Q:=rB hT fun t au e _ h4 _=>AU (fun _=>xm (h1 au (by rw[e];rfl) h4)) fun _=>by rw[←e];exact h2
theorem Yw {n:NT} {ts:List ah} (h:TS ts→Sp (bg n) ts fun v au=>TS au∧au.length≤ts.length∧ME n ts.length v au.length):Sp (bg n) ts (MF n ts):=by
 by_cases hT:TS ts
 ·exact Wp.weak _ _ _ _ (fun v au h _=>h) (h hT)
 ·exact Wp.always _ _ _ fun v au h=>(hT h).elim
end
theorem aaU (n:NT) (ts:List ah):Sp (bg n) ts (MF n ts):=by
 refine Yw fun hT=>?_
 cases n<;>unfold bg;case lvm s x =>
  refine rB hT fun t au e h1 h2 h3=>?_
  subst e;cases ho:jD t with
  | none=>exact⟨h3,ai _,fun h=>h⟩
  | some o=>exact AU (fun _=>xm (s_call h2 fun(y:Ast) eP h4 h5 (h6:jf y)=>s_call h4 fun(z:Ast) AV h7 h8 h9=>⟨h7,by simp;omega,fun hx=>h9 (MC (Fp ho).1 (by have:=(Fp ho).2;omega) (jJ hx (jJ h6 ou)))⟩)) fun _=>⟨h3,ai _,fun h=>h⟩
 case una =>
  refine rB hT fun t au e h1 h2 h3=>?_
  subst e;cases ho:jZ t with
  | none=>exact s_call h3 fun(v:Ast) eP h4 h5 (h6:jf v)=>⟨h4,h5,h6⟩
  | some o=>exact xm (s_call h2 fun(v:Ast) eP h4 h5 (h6:jf v)=>⟨h4,by simp;omega,MC (by have:=(qj ho).1;omega) (qj ho).2 (jJ h6 ou)⟩)
 all_goals
  repeat' first
   | (refine AU (fun _=>?_) (fun _=>?_))
   | (refine Yt (by assumption) fun _ _ _ _ _=>?_)
   | (refine Yu (by assumption) fun _ _ _ _ _=>?_)
   | (refine Yv (by assumption) (fun _ _ _=>?_) ?_)
   | (refine rB (by assumption) fun _ _ e _ _ _=>?_;subst e)
   | (refine xm ?_)
   | (refine s_call (by assumption) fun _ _ _ _ _=>?_)
   | exact trivial
  all_goals try refine(show TS _∧_∧_ from⟨by assumption,by (try simp only[List.length_cons] at *);omega,?_⟩)
  all_goals try simp only[ME] at *
  all_goals
   repeat' first
    | assumption
    | exact ou
    | (intro hx)
    | (refine jJ ?_ ?_)
    | (refine Fu ?_ ?_)
    | (refine V9 ?_)
    | (refine Yq (SU.s (by assumption)) ?_)
    | (refine MD (by assumption) ?_)
    | (refine Yr ?_ ?_ ?_)
    | (refine Ys ?_ ?_ ?_ ?_)
    | (refine And.intro ?_ ?_)
    | exact SU.n0 (by assumption)
    | exact SU.n1 (by assumption)
    | exact(show km _∧_ from by assumption).1
    | (refine(show km _→km _ from by assumption) ?_)
    | (refine(show jf _→jf _ from by assumption) ?_)
    | (refine(show _≤1→jf _ from by assumption) ?_)
    | (refine(show km _→_≤5000→jf _ from by assumption) ?_ ?_)
    | (refine(show km _→km _∧_ from by assumption) ?_ |>.1)
    | decide
    | omega
    | (simp;done)
  all_goals have h5:=TS.len hT
  all_goals try (have h6:=(show km _∧_ from by assumption).2)
  all_goals (try simp only[bM,List.length_cons,List.length_nil] at *)
  all_goals try omega
  all_goals first
   | (show 1+_≤5000;omega)
   | exact aK ((show km _→km _∧List.length _+_≤_ from by assumption) (jJ (by assumption) ou)).2 (by show 1+_≤_;omega)
   | exact aK ((show km _→km _∧List.length _+_≤_ from by assumption) (Fu (by assumption) (jJ (by assumption) ou))).2 (by show _+1+_≤_;omega)
   | (show _+1+_≤5000;omega)
theorem PL.small {n:NT} {ts au:List ah} {v:VT n} (h:PL (bg n) ts (.ok (v,au))) (hT:TS ts):TS au∧au.length≤ts.length∧ME n ts.length v au.length:=h.holds aaU hT
end Go.Proofs.YteflkdlaoiijbaaGreatDoor
namespace Go.Proofs.YteflkdlaoiijbaaGreatDoor
open Go.RowKit
def fY (t:ah):Value:=.agg #[.int .i64 t.1,.int .i64 t.2.1,.int .i64 t.2.2.1,.string (bu t.2.2.2)]
theorem PS.look {W:World} {b:Nat} {O:Nat→Prop} {t:ah} {ts:List ah} {T:List Nd} (h:PS W b O (t::ts) T) :
  ∃(i g n c:Nat),W.cell? ⟨b,0,none⟩=some (.slice (some ⟨g,0,none⟩) n c)∧W.cell? ⟨b,1,none⟩=some (.int .i64 (i:Int))∧i<n∧n≤20000∧n≤c ∧
   W.cell? ⟨g,i*4,none⟩=some (.int .i64 t.1)∧W.cell? ⟨g,i*4+1,none⟩=some (.int .i64 t.2.1)∧W.cell? ⟨g,i*4+2,none⟩=some (.int .i64 t.2.2.1)∧W.cell? ⟨g,i*4+3,none⟩=some (.string (bu t.2.2.2)):=by
 obtain⟨TS,i,g,c,nv,L,a1,a2,a3,a4,a5,a6,a7⟩:=h.ex;obtain⟨g',cap,e,h1,h2,h3⟩:=a2.ex;have hg:g=g'∧c=cap:=by injection e with e1 _ e3;injection e1 with e1;injection e1 with e1;exact⟨e1,e3⟩
 obtain⟨rfl,rfl⟩:=hg;have hi:TS[i]? = some t:=by
  have:=ay (·[0]?) a4
  simpa[zS] using this
 have hlt:=(aL.1 hi).1;obtain⟨b0,b1,b2,b3⟩:=h3 i t hi;exact⟨i,g,TS.length,c,by simp[World.cell?,a1],by simp[World.cell?,a1],hlt,a5,h1,b0,b1,b2,b3⟩
theorem cz (b:Nat) (O:Nat→Prop) (t:ah) (ts:List ah) (T:List Nd) (w:World) (h:PS w b O (t::ts) T) :
  Calls Tryz.prog 34 #[.pointer (some ⟨b,0,none⟩)] w fun e w'=>e=.returned (fY t)∧Below w.heap.size w w':=by
 obtain⟨i,g,n,c,c0,c1,hi,hn,hc,d0,d1,d2,d3⟩:=h.look;obtain⟨t0,t1,t2,t3⟩:=t;have hb:b<w.heap.size:=World.block_lt_of_cell? w _ c1;have hg:g<w.heap.size:=World.block_lt_of_cell? w _ d0;clear h;go_enter Tryz.func34,Tryz.ntmps34
 go_wp2_with fail
 go_region
 all_goals go_wp2
 all_goals exact bodyPost_ret (v:=fY (t0,t1,t2,t3)) (by simp[results,Tryz.results34,go_sem,fY]) rfl ⟨rfl,((Below.refl _ _).alloc (ai _) _).drew⟩
def ag (t:ah):ByteArray:=if t.1=2∨t.1=5 then bu t.2.2.2 else ⟨#[]⟩
theorem bL (b:Nat) (O:Nat→Prop) (t:ah) (ts:List ah) (T:List Nd) (w:World) (h:PS w b O (t::ts) T) :
  Calls Tryz.prog 38 #[.pointer (some ⟨b,0,none⟩)] w fun e w'=>e=.returned (.string (ag t))∧Below w.heap.size w w':=by
 obtain⟨t0,t1,t2,t3⟩:=t;have HA:=aa (cz b O (t0,t1,t2,t3) ts T w h);unfold fY at HA;obtain⟨S,hS⟩ :∃S,S=bu t3:=⟨_,rfl⟩;dsimp only at HA
 rw[←hS] at HA;by_cases h2:t0=2
 ·subst h2
  have hw:ag (2,t1,t2,t3)=S:=by subst hS;rfl
  have HW:=aa hw;clear hw h hS;go_enter Tryz.func38,Tryz.ntmps38
  go_wp2_with fail
  refine HA.out.mono ?_;rintro e w1 ⟨rfl,b1⟩;have B1:=aa b1;clear b1;go_wp2_with fail
  go_ret
  exact⟨(by rw[HW.out];rfl),aB B1.out ((Below.refl _ _).alloc (ai _) _)⟩
 ·have g2:(t0 == 2)=false:=aE.2 h2
  have g2':(t0 != 2)=true:=oU.2 h2;by_cases h5:t0=5
  ·subst h5
   have hw:ag (5,t1,t2,t3)=S:=by subst hS;rfl
   have HW:=aa hw;clear hw h hS;go_enter Tryz.func38,Tryz.ntmps38
   go_wp2_with fail
   refine HA.out.mono ?_;rintro e w1 ⟨rfl,b1⟩;have B1:=aa b1;clear b1;go_wp2_with fail
   go_ret
   exact⟨(by rw[HW.out];rfl),aB B1.out ((Below.refl _ _).alloc (ai _) _)⟩
  ·have g5:(t0 == 5)=false:=aE.2 h5
   have g5':(t0 != 5)=true:=oU.2 h5;have hw:ag (t0,t1,t2,t3)=⟨#[]⟩:=af (by rintro(h|h)<;>contradiction)
   have HW:=aa hw;clear hw h h2 h5 hS;go_enter Tryz.func38,Tryz.ntmps38
   go_wp2_with fail
   refine HA.out.mono ?_;rintro e w1 ⟨rfl,b1⟩;have B1:=aa b1;clear b1;go_wp2_with fail
   go_ret
   exact⟨(by rw[HW.out];rfl),aB B1.out ((Below.refl _ _).alloc (ai _) _)⟩
theorem PS.step {W:World} {b:Nat} {O:Nat→Prop} {t:ah} {ts:List ah} {T:List Nd} (h:PS W b O (t::ts) T) (ht:t.1≠0) {i:Nat} (hi:W.cell? ⟨b,1,none⟩=some (.int .i64 (i:Int))) :
  PS (W.setCell ⟨b,1,none⟩ (.int .i64 ((i:Int)+1))) b O ts T:=by
 obtain⟨TS,i',g,c,nv,L,a1,a2,a3,a4,a5,a6,a7⟩:=h.ex;have hi':i'=i:=by
  simp[World.cell?,a1] at hi;omega
 subst hi';have hlt:b<W.heap.size:=(aJ.1 a1).1;have hne :∀k,k≠b→(W.setCell ⟨b,1,none⟩ (.int .i64 ((i':Int)+1))).heap[k]? = W.heap[k]?:=fun k hk=>Below.heap_setCell _ _ _ k hk
 have GS:=(yG a1 (.int .i64 ((i':Int)+1))).1;have hrow :∀{B e s n:Nat} {v:Value} {xs:List Value},W.ownsRow B e s v n xs→B=b+1→(W.setCell ⟨b,1,none⟩ (.int .i64 ((i':Int)+1))).ownsRow B e s v n xs:=fun h hB=>cW h fun k hk=>hne k (by have:=(h.lt k hk).1;omega)
 refine⟨⟨TS,i'+1,g,c,nv,L,GS,?_,a3,?_,a5,⟨hrow a6.row rfl,a6.own,fun t ht=>?_⟩,a7⟩,h.fin.tail ht,h.at_,fun k hk=>⟨(h.own k hk).1,by simpa[World.setCell] using (h.own k hk).2⟩⟩
 ·exact a2.kept (hne g (by omega)) (by simp[World.setCell])
 ·rw[←List.drop_drop,a4];rfl
 ·have hn:=a6.each t ht
  exact⟨hrow hn.names rfl,hrow hn.kids rfl,fun g hg=>(hn.on g hg).imp id (h.fr 1 _).keeps,hn.nz,hn.ok⟩
theorem PS.place {W:World} {b:Nat} {O:Nat→Prop} {ts:List ah} {T:List Nd} (h:PS W b O ts T) :∃i:Nat,i≤20000∧W.cell? ⟨b,1,none⟩=some (.int .i64 (i:Int))∧W.frozen? ⟨b,1,none⟩=false∧b<W.heap.size:=by
 obtain⟨TS,i,g,c,nv,L,a1,a2,a3,a4,a5,a6,a7⟩:=h.ex;refine⟨i,?_,by simp[World.cell?,a1],by simp[World.frozen?,a1],(aJ.1 a1).1⟩
 rcases ET TS.length i with hi|hi
 ·exact absurd (by rw[←a4];exact pT (by omega)) h.fin.ne
 ·omega
theorem tD {s:List UInt8} (hs:s≠[]) (t:ah):((ag t).data.toList == s)=ax s t:=by
 rw[mB];unfold ag ax;by_cases h:t.1=2∨t.1=5
 ·rw[ak h]
  simp[h,bu]
 ·rw[af h]
  simp[h];exact hs
theorem tE {s:List UInt8} {t:ah} (h:ax s t=true):t.1≠0:=by
 unfold ax at h;intro h0;simp[h0] at h
def lj (b:Nat) (O:Nat→Prop) (au:List ah) (T:List Nd) (r:Bool) (w:World) (e:Ending) (w':World):Prop:=e=.returned (.bool r)∧PS w' b O au T∧az (· = b) w w'
theorem lW (b:Nat) (O:Nat→Prop) (t:ah) (ts:List ah) (T:List Nd) (s:List UInt8) (X:ByteArray) (hX:X=bu s) (w:World) (h:PS w b O (t::ts) T) (hs:s≠[]) (ht:ax s t=true) :
  Calls Tryz.prog 37 #[.pointer (some ⟨b,0,none⟩),.string X] w (lj b O ts T true w):=by
 have HA:=aa (bL b O t ts T w h);have hw:=tD hs t;have he:(ag t).data.toList=X.data.toList:=by
  rw[ht] at hw;rw[hX];exact eq_of_beq hw
 have he:ag t=X:=by
  cases h1:ag t with
  | mk d =>
   cases X with
   | mk d' =>
    rw[h1] at he;congr 1
    exact Array.ext' he
 rw[he] at HA;have HH:=aa h;have HT:=aa (tE ht);clear hw he hX h hs ht;go_enter Tryz.func37,Tryz.ntmps37
 go_wp2_with fail
 refine HA.out.mono ?_;rintro e w1 ⟨rfl,b1⟩;have h1:=HH.out.below b1;have B1:=aa b1;obtain⟨i,hi,c1,f1,hb⟩:=h1.place;have H1:=aa h1;have C1:=aa c1;clear b1 h1;go_wp2_with fail
 go_ret
 exact⟨rfl,H1.out.step HT.out C1.out,(az.ae (O:=(· = b)) B1.out).trans (H1.out.fr 1 _) (Ext.refl _ _)⟩
theorem ow (b:Nat) (O:Nat→Prop) (t:ah) (ts:List ah) (T:List Nd) (s:List UInt8) (X:ByteArray) (hX:X=bu s) (w:World) (h:PS w b O (t::ts) T) (hs:s≠[]) (ht:ax s t=false) :
  Calls Tryz.prog 37 #[.pointer (some ⟨b,0,none⟩),.string X] w (lj b O (t::ts) T false w):=by
 have HA:=aa (bL b O t ts T w h);have hw:=tD hs t;rw[ht] at hw;generalize ag t=Y at *;have hq:(Y.toList == X.toList)=false:=by rw[Lib.toList_data,Lib.toList_data,hX];exact hw
 have HH:=aa h;clear hw hX h hs ht;go_enter Tryz.func37,Tryz.ntmps37
 go_wp2_with fail
 refine HA.out.mono ?_;rintro e w1 ⟨rfl,b1⟩;have h1:=HH.out.below b1;have B1:=aa b1;have H1:=aa h1;clear b1 h1;go_wp2_with fail
 go_ret
 exact⟨rfl,H1.out,az.ae B1.out⟩
def Fv (w:World) (l:Int) (e:Ending) (w':World):Prop:=∃v,e=.returned v∧SD w.heap.size w' v l∧Below w.heap.size w w'
theorem AW (t0 t1 t2:Int) (S:ByteArray) (W:World):(Instr.field 113 (.agg #[.int .i64 t0,.int .i64 t1,.int .i64 t2,.string S]) 0).run Tryz.prog W=.ok (.int .i64 t0) W:=by kernel_rfl
theorem MG (t0 t1 t2:Int) (S:ByteArray) (W:World):(Instr.field 113 (.agg #[.int .i64 t0,.int .i64 t1,.int .i64 t2,.string S]) 1).run Tryz.prog W=.ok (.int .i64 t1) W:=by kernel_rfl
theorem qm (b:Nat) (O:Nat→Prop) (t:ah) (ts:List ah) (T:List Nd) (w:World) (h:PS w b O (t::ts) T) :
  Calls Tryz.prog 45 #[.pointer (some ⟨b,0,none⟩)] w (Fv w t.2.1):=by
 obtain⟨t0,t1,t2,t3⟩:=t;have HA:=aa (cz b O (t0,t1,t2,t3) ts T w h);unfold fY at HA;dsimp only at HA ⊢
 have F1:=MG t0 t1 t2 (bu t3);clear h;go_enter Tryz.func45,Tryz.ntmps45
 go_wp2_with fail
 refine HA.out.mono ?_;rintro e w1 ⟨rfl,b1⟩;have B1:=aa b1;clear b1;go_wp2_with fail
 go_ret
 exact⟨_,rfl,⟨w1.heap.size,rfl,B1.out.size,World.alloc_heap_new w1 _⟩,aB B1.out ((Below.refl _ _).alloc (ai _) _)⟩
theorem aj {s:List UInt8} (hs:s≠[]) (t:ah) {r:Bool} (h:ax s t=r):((ag t).toList == s)=r:=by rw[Lib.toList_data,tD hs,h]
theorem bh {s s':List UInt8} {t:ah} (h:ax s t=true) (hne:s'≠s):ax s' t=false:=by
 unfold ax at h ⊢;rw[dk,je] at h;rw[h.2,Bool.and_eq_false_iff];exact .inr (bN (fun e=>hne e.symm))
def nN (w:World) (r:Bool) (e:Ending) (w':World):Prop:=e=.returned (.bool r)∧Below w.heap.size w w'
theorem aP (s:List UInt8) {q:List UInt8} {t:ah} (h:ax q t=true) (d:s≠[]∧s≠q):((ag t).toList == s)=false:=aj d.1 t (bh h d.2)
theorem Yx (b:Nat) (O:Nat→Prop) (t:ah) (ts:List ah) (T:List Nd) (w:World) (h:PS w b O (t::ts) T) :
  Calls Tryz.prog 36 #[.pointer (some ⟨b,0,none⟩)] w (nN w (ij t)):=by
 have HW:=aa (bL b O t ts T w h);have HA:=aa (fun W hW=>cz b O t ts T W hW)
 have HP:=aa h;have hr :∀r,ij t=r→ij t=r:=fun _ h=>h
 by_cases k1:ax ig t=true
 ·have g1:((ag t).toList == [101,110,100])=true:=aj (s:=ig) (by decide) t k1
  have HE:=aa (show ij t=true by unfold ij;simp[k1])
  clear h hr k1;generalize ag t=Y at *;go_enter Tryz.func36,Tryz.ntmps36
  go_wp2_with fail
  refine HW.out.mono ?_;rintro e w1 ⟨rfl,b1⟩;have B1:=aa b1;clear b1;go_wp2_with fail
  go_ret
  exact⟨by rw[HE.out];rfl,B1.out⟩
 ·have g1:((ag t).toList == [101,110,100])=false:=aj (s:=ig) (by decide) t (by simpa using k1)
  by_cases k2:ax sA t=true
  ·have g2:((ag t).toList == [101,108,115,101])=true:=aj (s:=sA) (by decide) t k2
   have HE:=aa (show ij t=true by unfold ij;simp[k2])
   clear h hr k1 k2;generalize ag t=Y at *;go_enter Tryz.func36,Tryz.ntmps36
   go_wp2_with fail
   refine HW.out.mono ?_;rintro e w1 ⟨rfl,b1⟩;have B1:=aa b1;clear b1;go_wp2_with fail
   go_ret
   exact⟨by rw[HE.out];rfl,B1.out⟩
  ·have g2:((ag t).toList == [101,108,115,101])=false:=aj (s:=sA) (by decide) t (by simpa using k2)
   by_cases k3:ax j9 t=true
   ·have g3:((ag t).toList == [101,108,115,101,105,102])=true:=aj (s:=j9) (by decide) t k3
    have HE:=aa (show ij t=true by unfold ij;simp[k3])
    clear h hr k1 k2 k3;generalize ag t=Y at *;go_enter Tryz.func36,Tryz.ntmps36
    go_wp2_with fail
    refine HW.out.mono ?_;rintro e w1 ⟨rfl,b1⟩;have B1:=aa b1;clear b1;go_wp2_with fail
    go_ret
    exact⟨by rw[HE.out];rfl,B1.out⟩
   ·have g3:((ag t).toList == [101,108,115,101,105,102])=false:=aj (s:=j9) (by decide) t (by simpa using k3)
    by_cases k4:ax po t=true
    ·have g4:((ag t).toList == [117,110,116,105,108])=true:=aj (s:=po) (by decide) t k4
     have HE:=aa (show ij t=true by unfold ij;simp[k4])
     clear h hr k1 k2 k3 k4;generalize ag t=Y at *;go_enter Tryz.func36,Tryz.ntmps36
     go_wp2_with fail
     refine HW.out.mono ?_;rintro e w1 ⟨rfl,b1⟩;have B1:=aa b1;clear b1;go_wp2_with fail
     go_ret
     exact⟨by rw[HE.out];rfl,B1.out⟩
    ·have g4:((ag t).toList == [117,110,116,105,108])=false:=aj (s:=po) (by decide) t (by simpa using k4)
     obtain⟨t0,t1,t2,t3⟩:=t;have HE:=aa (show ij (t0,t1,t2,t3)=decide (t0=0) by
      unfold ij;simp only[Bool.not_eq_true] at k1 k2 k3 k4;simp[k1,k2,k3,k4])
     unfold fY at HA;dsimp only at HA
     have F0:=AW t0 t1 t2 (bu t3);clear h hr k1 k2 k3 k4;generalize ag (t0,t1,t2,t3)=Y at *;generalize bu t3=S at *;by_cases h0:t0=0
     ·subst h0
      go_enter Tryz.func36,Tryz.ntmps36
      go_wp2_with fail
      refine HW.out.mono ?_;rintro e w1 ⟨rfl,b1⟩;have B1:=aa b1;have P1:=aa (HP.out.below b1);clear b1;go_wp2_with fail
      refine(HA.out _ P1.out).mono ?_;rintro e w2 ⟨rfl,b2⟩;have B2:=aa (aB B1.out b2);clear b2;go_wp2_with fail
      go_ret
      exact⟨by rw[HE.out];rfl,B2.out⟩
     ·have g0:(t0 == 0)=false:=aE.2 h0
      have HN:=aa h0;clear h0;go_enter Tryz.func36,Tryz.ntmps36
      go_wp2_with fail
      refine HW.out.mono ?_;rintro e w1 ⟨rfl,b1⟩;have B1:=aa b1;have P1:=aa (HP.out.below b1);clear b1;go_wp2_with fail
      refine(HA.out _ P1.out).mono ?_;rintro e w2 ⟨rfl,b2⟩;have B2:=aa (aB B1.out b2);clear b2;go_wp2_with fail
      go_ret
      exact⟨by rw[HE.out,bN HN.out];rfl,B2.out⟩
theorem Yy (b:Nat) (O:Nat→Prop) (t:ah) (ts:List ah) (T:List Nd) (n:Value) (w:World) (h:PS w b O (t::ts) T) (ht:t.1≠0) :
  Calls Tryz.prog 40 #[.pointer (some ⟨b,0,none⟩),n] w fun e w'=>e=.returned .nilIface∧PS w' b O ts T∧az (· = b) w w':=by
 obtain⟨i,hi,c1,f1,hb⟩:=h.place;have HH:=aa h;have HT:=aa ht;have C1:=aa c1;clear h ht;go_enter Tryz.func40,Tryz.ntmps40
 go_wp2_with fail
 go_ret
 exact⟨rfl,HH.out.step HT.out C1.out,HH.out.fr 1 _⟩
theorem kq (b:Nat) (O:Nat→Prop) (t:ah) (ts:List ah) (T:List Nd) (w:World) (h:PS w b O (t::ts) T) (ht:ax [44] t=true) :
  Calls Tryz.prog 143 #[.pointer (some ⟨b,0,none⟩)] w (lj b O ts T true w):=by
 have HC:=aa (lW b O t ts T [44] ⟨#[44]⟩ rfl w h (by decide) ht)
 clear h ht;go_enter Tryz.func143,Tryz.ntmps143
 go_wp2_with fail
 refine HC.out.mono ?_;rintro e w1 ⟨rfl,h1,h2⟩;have H1:=aa h1;have H2:=aa h2;clear h1 h2;go_wp2_with fail
 go_ret
 exact⟨rfl,H1.out,H2.out⟩
theorem lX (b:Nat) (O:Nat→Prop) (t:ah) (ts:List ah) (T:List Nd) (w:World) (h:PS w b O (t::ts) T) (ht:ax [44] t=false) :
  Calls Tryz.prog 143 #[.pointer (some ⟨b,0,none⟩)] w (lj b O (t::ts) T false w):=by
 have HC:=aa (ow b O t ts T [44] ⟨#[44]⟩ rfl w h (by decide) ht)
 clear h ht;go_enter Tryz.func143,Tryz.ntmps143
 go_wp2_with fail
 refine HC.out.mono ?_;rintro e w1 ⟨rfl,h1,h2⟩;have H1:=aa h1;have H2:=aa h2;clear h1 h2;go_wp2_with fail
 go_ret
 exact⟨rfl,H1.out,H2.out⟩
def MH (b:Nat) (O:Nat→Prop) (t:ah) (ts:List ah) (T:List Nd) (w:World) (e:Ending) (w':World):Prop :=
 az (· = b) w w'∧((t.1=1∧e=.returned (.tuple #[.string (bu t.2.2.2),.nilIface])∧PS w' b O ts T)∨(t.1≠1∧∃er,e=.returned (.tuple #[.string ⟨#[]⟩,er])∧SD w.heap.size w' er t.2.1))
theorem Dt (b:Nat) (O:Nat→Prop) (t:ah) (ts:List ah) (T:List Nd) (w:World) (h:PS w b O (t::ts) T) :
  Calls Tryz.prog 146 #[.pointer (some ⟨b,0,none⟩)] w (MH b O t ts T w):=by
 obtain⟨t0,t1,t2,t3⟩:=t;have HA:=aa (cz b O (t0,t1,t2,t3) ts T w h);have HW:=aa (fun W hW=>qm b O (t0,t1,t2,t3) ts T W hW)
 unfold fY at HA;dsimp only at HA HW
 have HP:=aa h;clear h;obtain⟨S,hS⟩ :∃S,S=bu t3:=⟨_,rfl⟩;rw[←hS] at HA;have HS:=aa hS;clear hS;by_cases h1:t0=1
 ·subst h1
  go_enter Tryz.func146,Tryz.ntmps146
  go_wp2_with fail
  refine HA.out.mono ?_;rintro e w1 ⟨rfl,b1⟩;have B1:=aa b1;have h2:=HP.out.below b1;obtain⟨i,hi,c1,f1,hb⟩:=h2.place;have H2:=aa h2;have C1:=aa c1;clear h2 b1;go_wp2_with fail
  go_ret2
  have hB:=fun W:World=>(Below.refl W.heap.size W).alloc (ai _) (.cells #[.int .i64 1,.int .i64 t1,.int .i64 t2,.string S] 113)
  refine⟨?_,.inl ⟨rfl,by rw[←HS.out];rfl,(H2.out.step (show(1:Int)≠0 by decide) C1.out).below (hB _)⟩⟩
  exact((az.ae (O:=(· = b)) B1.out).trans (H2.out.fr 1 _) (Ext.refl _ _)).alloc _
 ·have g1:(t0 == 1)=false:=aE.2 h1
  have g1':(t0 != 1)=true:=oU.2 h1;have HN:=aa h1;clear h1;go_enter Tryz.func146,Tryz.ntmps146
  go_wp2_with fail
  refine HA.out.mono ?_;rintro e w1 ⟨rfl,b1⟩;have B2:=aa (aB b1 ((Below.refl w1.heap.size w1).alloc (ai _) (.cells #[.int .i64 t0,.int .i64 t1,.int .i64 t2,.string S] 113)));have H2:=aa (HP.out.below B2.out);clear b1;go_wp2_with fail
  refine(HW.out _ H2.out).mono ?_;rintro e w3 ⟨er,rfl,m,b3⟩;have M:=aa m;have B3:=aa (aB B2.out b3);clear m b3;go_wp2_with fail
  go_ret2
  refine⟨az.ae B3.out,.inr ⟨HN.out,_,rfl,?_⟩⟩;obtain⟨g,e1,e2,e3⟩:=M.out;exact⟨g,e1,aK B2.out.size e2,e3⟩
theorem ir {W:World} {n k:Nat} {a:Array Value} {ty:TypeId} (h:W.heap[n]? = some (.cells a ty (0,0))) (v:Value):(W.setCell ⟨n,k,none⟩ v).heap[n]? = some (.cells (a.setIfInBounds k v) ty (0,0)):=by
 obtain⟨hlt,hk⟩:=aJ.1 h;show(W.heap.modify n _)[n]? = _
 rw[wF (by rw[zT];exact hlt),zN,hk]
 rfl
theorem NU.cells {W:World} {b n:Nat} {O:Nat→Prop} {x:Nd} (h:NU W b n O x) :∃nv kv,lV W n 0 x nv kv∧jI W b O x nv kv∧(∀j,W.frozen? ⟨n,j,none⟩=false):=by
 obtain⟨nv,kv,a1,a2⟩:=h.ex;have hc :∀j,W.cell? ⟨n,j,none⟩=(aO (x,nv,kv))[j]?:=fun j=>by simp[World.cell?,a1]
 exact⟨nv,kv,⟨hc 0,hc 1,hc 2,hc 3,hc 4,hc 5,hc 6⟩,a2,fun j=>by simp[World.frozen?,a1]⟩
theorem jI.set {W:World} {b:Nat} {O:Nat→Prop} {x:Nd} {nv kv:Value} (h:jI W b O x nv kv) {n:Nat} {a:Array Value} (hn:W.heap[n]? = some (.cells a 55 (0,0))) (k:Nat) (v:Value):jI (W.setCell ⟨n,k,none⟩ v) b O x nv kv:=by
 have hne :∀g,g≠n→(W.setCell ⟨n,k,none⟩ v).heap[g]? = W.heap[g]?:=fun g hg=>Below.heap_setCell _ _ _ g hg
 have hf:=az.wc hn (show(55:Nat)≠9 by decide) k v
 refine⟨cW h.names fun g hg=>hne g (fun e=>?_),cW h.kids fun g hg=>hne g (fun e=>?_),fun g hg=>(h.on g hg).imp id hf.keeps,h.nz,h.ok⟩
 ·obtain⟨cur,hc⟩:=eY h.names hg
  rw[e,hn] at hc;simp at hc
 ·obtain⟨cur,hc⟩:=eY h.kids hg
  rw[e,hn] at hc;simp at hc
theorem jI.head {W:World} {b:Nat} {O:Nat→Prop} {x y:Nd} {nv kv:Value} (h:jI W b O x nv kv) (h1:y.names=x.names) (h2:y.kids=x.kids):jI W b O y nv kv:=⟨h1▸h.names,h2▸h.kids,h.on,by rw[h1];exact h.nz,h.ok⟩
theorem NU.qn {W:World} {b n:Nat} {O:Nat→Prop} {x y:Nd} (h:NU W b n O x) (k:Nat) (v:Value) (h1:y.names=x.names) (h2:y.kids=x.kids)
  (hc :∀nv kv,(aO (x,nv,kv)).toArray.setIfInBounds k v=(aO (y,nv,kv)).toArray):NU (W.setCell ⟨n,k,none⟩ v) b n O y:=by
 obtain⟨nv,kv,a1,a2⟩:=h.ex;refine⟨⟨nv,kv,?_,(a2.set a1 k v).head h1 h2⟩,h.at_,fun i hi=>⟨(h.own i hi).1,by simpa[World.setCell] using (h.own i hi).2⟩⟩
 rw[ir a1,hc]
def aX (f b:Nat):Value:=.func (.func f) #[.pointer (some ⟨b,0,none⟩)] #[]
def aC:bV:=fun s K _=>∃t ts,s.ts=t::ts∧t.1≠0∧K { s with ts:=ts}
def MI:bV:=fun s K E=>∃t ts,s.ts=t::ts∧(t.1=0→K s)∧(t.1≠0→E t.2.1)
def cL:bV:=fun s K E=>∃t ts,s.ts=t::ts∧(t.1=1→K { s with h:={ s.h with s:=bu t.2.2.2},ts:=ts})∧(t.1≠1→E t.2.1)
def eo:bV:=fun s K _=>K { s with h:={ s.h with num:=(s.xs.length:Int)}}
theorem Real.own {W:World} {b n:Nat} {O:Nat→Prop} {T0:List Nd} {s:St} (h:Real W b n O T0 s) :∀k,O k→b≤k∧k<W.heap.size:=by
 obtain⟨Op,On,T,ks,hO,hd,hp,hn,hl,hc⟩:=h.ex;intro k hk;rcases(hO k).1 hk with hk|hk
 ·exact hp.own k hk
 ·exact⟨fx (hn.own k hk).1,(hn.own k hk).2⟩
theorem aZ (W:World) (b:Nat) (O:Nat→Prop):eH W b O (aX 40 b) aC:=by
 rintro W1 O1 T0 s n K E _ _ hr ⟨t,ts,hs,h0,hk⟩;obtain⟨Op,On,T,ks,hO,hd,hp,hn,hl,hc⟩:=hr.ex;rw[hs] at hp;refine⟨40,_,_,rfl,enters_of Tryz.func40 (by kernel_rfl) rfl,(Yy b Op t ts T _ W1 hp h0).mono ?_⟩
 rintro e w ⟨rfl,hp',hf⟩;refine⟨hf.mono fun k hk=>(hO k).2 (.inl (hk▸hp.at_)),.inl ⟨{ s with ts:=ts},O1,rfl,⟨Op,On,T,ks,hO,hd,hp',?_,hl,hc⟩,Ext.refl _ _,hk⟩⟩
 exact hn.kept hf fun k hk e=>hd b hp.at_ (e▸hk)
def SV (t:ah) (w:World) (e:Ending) (w':World):Prop:=Below w.heap.size w w'∧((t.1=0∧e=.returned .nilIface)∨(t.1≠0∧∃v,e=.returned v∧SD w.heap.size w' v t.2.1))
theorem aaV (b:Nat) (O:Nat→Prop) (t:ah) (ts:List ah) (T:List Nd) (n:Value) (w:World) (h:PS w b O (t::ts) T) :
  Calls Tryz.prog 21 #[.pointer (some ⟨b,0,none⟩),n] w (SV t w):=by
 obtain⟨t0,t1,t2,t3⟩:=t;have HA:=aa (cz b O (t0,t1,t2,t3) ts T w h);have HW:=aa (fun W hW=>qm b O (t0,t1,t2,t3) ts T W hW)
 unfold fY at HA;dsimp only at HA HW
 have F0:=AW t0 t1 t2 (bu t3);generalize bu t3=S at *;have HP:=aa h;clear h;by_cases h0:t0=0
 ·subst h0
  go_enter Tryz.func21,Tryz.ntmps21
  go_wp2_with fail
  refine HA.out.mono ?_;rintro e w1 ⟨rfl,b1⟩;have B1:=aa b1;clear b1;go_wp2_with fail
  go_ret
  exact⟨B1.out,.inl ⟨rfl,rfl⟩⟩
 ·have g1:(t0 == 0)=false:=aE.2 h0
  have g1':(t0 != 0)=true:=oU.2 h0;have HN:=aa h0;clear h0;go_enter Tryz.func21,Tryz.ntmps21
  go_wp2_with fail
  refine HA.out.mono ?_;rintro e w1 ⟨rfl,b1⟩;have B1:=aa b1;have P1:=aa (HP.out.below b1);clear b1;go_wp2_with fail
  refine(HW.out _ P1.out).mono ?_;rintro e w2 ⟨v,rfl,m,b2⟩;have M:=aa m;have B2:=aa (aB B1.out b2);clear m b2;go_wp2_with fail
  go_ret
  obtain⟨g,e1,e2,e3⟩:=M.out;exact⟨B2.out,.inr ⟨HN.out,_,rfl,g,e1,aK B1.out.size e2,e3⟩⟩
theorem MJ (W:World) (b:Nat) (O:Nat→Prop):eH W b O (aX 21 b) MI:=by
 rintro W1 O1 T0 s n K E _ _ hr ⟨t,ts,hs,hk,he⟩;obtain⟨Op,On,T,ks,hO,hd,hp,hn,hl,hc⟩:=hr.ex;have lK:=hp;rw[hs] at lK;refine⟨21,_,_,rfl,enters_of Tryz.func21 (by kernel_rfl) rfl,(aaV b Op t ts T _ W1 lK).mono ?_⟩
 rintro e w ⟨hb,⟨h0,rfl⟩ | ⟨h0,v,rfl,hm⟩⟩
 ·exact⟨az.ae hb,.inl ⟨s,O1,rfl,⟨Op,On,T,ks,hO,hd,hp.below hb,hn.below hb,hl,hc⟩,Ext.refl _ _,hk h0⟩⟩
 ·exact⟨az.ae hb,.inr ⟨_,v,rfl,hm,he h0⟩⟩
def Iq (b n:Nat) (Op On:Nat→Prop) (x:Nd) (t:ah) (ts:List ah) (T:List Nd) (w:World) (e:Ending) (w':World):Prop :=
 az (fun k=>k=b∨k=n) w w'∧((t.1=1∧e=.returned .nilIface∧PS w' b Op ts T∧NU w' b n On { x with s:=bu t.2.2.2})∨(t.1≠1∧∃v,e=.returned v∧SD w.heap.size w' v t.2.1))
theorem SW (b n:Nat) (Op On:Nat→Prop) (x:Nd) (t:ah) (ts:List ah) (T:List Nd) (w:World) (h:PS w b Op (t::ts) T) (hn:NU w b n On x) (hd :∀k,Op k→¬ On k) :
  Calls Tryz.prog 88 #[.pointer (some ⟨b,0,none⟩),.pointer (some ⟨n,0,none⟩)] w (Iq b n Op On x t ts T w):=by
 have HA:=aa (Dt b Op t ts T w h);have HN:=aa hn;have HP:=aa h;have hne :∀k,On k→¬ k=b:=fun k hk e=>hd b h.at_ (e▸hk)
 have Fo:=(hn.own n hn.at_);have HNE:=aa hne;have HD:=aa hd;clear h hn hne hd;go_enter Tryz.func88,Tryz.ntmps88
 go_wp2_with fail
 refine HA.out.mono ?_;rintro e w1 ⟨f1,h1⟩;have F1:=aa f1;have n1:=HN.out.kept f1 HNE.out;have N1:=aa n1;obtain⟨nv,kv,hc,_,hz⟩:=n1.cells;have c4:=hc.c4;have z4:=hz 4;have jG:n<w1.heap.size:=(n1.own n n1.at_).2;clear hc hz n1;rcases h1 with ⟨g0,rfl,p1⟩ | ⟨g0,er,rfl,m⟩
 ·have P1:=aa p1
  clear p1 f1;go_wp2_with fail
  go_ret
  refine⟨(F1.out.mono fun k hk=>.inl hk).trans (N1.out.fr 4 _) (fun k hk=>.inl (.inr hk)),.inl ⟨g0,rfl,?_,N1.out.qn 4 _ rfl rfl fun _ _=>rfl⟩⟩
  exact P1.out.kept (O1:=(· = n)) (N1.out.fr 4 _) (fun k hk e=>HD.out k hk (e▸HN.out.at_)) fun k e=>by omega
 ·have M:=aa m
  clear m f1;go_wp2_with fail
  go_ret
  refine⟨(F1.out.mono fun k hk=>.inl hk).trans (N1.out.fr 4 _) (fun k hk=>.inl (.inr hk)),.inr ⟨g0,_,rfl,?_⟩⟩
  obtain⟨g,e1,e2,e3⟩:=M.out;exact⟨g,e1,e2,(Below.heap_setCell _ _ _ g (by show g≠n;omega)).trans e3⟩
theorem iu (W:World) (b:Nat) (O:Nat→Prop):eH W b O (aX 88 b) cL:=by
 rintro W1 O1 T0 s n K E _ _ hr ⟨t,ts,hs,hk,he⟩;obtain⟨Op,On,T,ks,hO,hd,hp,hn,hl,hc⟩:=hr.ex;have lK:=hp;rw[hs] at lK;refine⟨88,_,_,rfl,enters_of Tryz.func88 (by kernel_rfl) rfl,(SW b n Op On _ t ts T W1 lK hn hd).mono ?_⟩
 rintro e w ⟨hf,⟨h0,rfl,p1,n1⟩ | ⟨h0,v,rfl,hm⟩⟩
 ·exact⟨hf.mono fun k hk=>(hO k).2 (hk.elim (fun e=>.inl (e▸hp.at_)) fun e=>.inr (e▸hn.at_)),.inl ⟨{ s with h:={ s.h with s:=bu t.2.2.2},ts:=ts},O1,rfl,⟨Op,On,T,ks,hO,hd,p1,n1,hl,hc⟩,Ext.refl _ _,hk h0⟩⟩
 ·exact⟨hf.mono fun k hk=>(hO k).2 (hk.elim (fun e=>.inl (e▸hp.at_)) fun e=>.inr (e▸hn.at_)),.inr ⟨_,v,rfl,hm,he h0⟩⟩
theorem bo.count {T:List Nd} :∀(xs:List Ast) (ks:List Int) (js:List Nat),bo T xs ks js→ks.length=xs.length
 | [],ks,js,h=>by
  unfold bo at h;rw[h.1];rfl
 | a::xs,ks,js,h=>by
  unfold bo at h;obtain⟨k,iz,j1,j2,rfl,_,h2,_⟩:=h;rw[List.length_cons,List.length_cons,bo.count xs iz j2 h2]
theorem bC {W:World} {B e s n:Nat} {v:Value} {xs:List Value} (h:W.ownsRow B e s v n xs) :∃A c,v=.slice A n c∧n≤c:=by
 rcases h.2 with ⟨rfl,rfl⟩ | ⟨g,cap,cur,rfl,_,_,hc,_⟩
 ·exact⟨none,0,rfl,ai _⟩
 ·exact⟨_,_,rfl,hc⟩
theorem SX (b n:Nat) (On:Nat→Prop) (x:Nd) (w:World) (hn:NU w b n On x) :
  Calls Tryz.prog 150 #[.pointer (some ⟨n,0,none⟩)] w fun e w'=>e=.returned .nilIface∧NU w' b n On { x with num:=(x.kids.length:Int)}∧az (· = n) w w':=by
 obtain⟨nv,kv,hc,hi,hz⟩:=hn.cells;obtain⟨A,c,rfl,hlc⟩:=bC hi.kids;have c3:=hc.c3;have c6:=hc.c6;have z3:=hz 3;have jG:n<w.heap.size:=(hn.own n hn.at_).2;have HN:=aa hn;clear hn hi hc hz;go_enter Tryz.func150,Tryz.ntmps150
 go_wp2_with fail
 go_ret
 exact⟨rfl,HN.out.qn 3 _ rfl rfl fun _ _=>rfl,HN.out.fr 3 _⟩
theorem jK (W:World) (b:Nat) (O:Nat→Prop):eH W b O (.func (.func 150) #[] #[]) eo:=by
 rintro W1 O1 T0 s n K E _ _ hr hk;obtain⟨Op,On,T,ks,hO,hd,hp,hn,hl,hc⟩:=hr.ex;refine⟨150,_,_,rfl,enters_of Tryz.func150 (by kernel_rfl) rfl,(SX b n On _ W1 hn).mono ?_⟩
 rintro e w ⟨rfl,n1,hf⟩;have Kk:ks.length=s.xs.length:=by
  obtain⟨_,js,hj,_⟩:=hl;exact hj.count
 refine⟨hf.mono fun k hk=>(hO k).2 (.inr (hk▸hn.at_)),.inl ⟨{ s with h:={ s.h with num:=(s.xs.length:Int)}},O1,rfl,⟨Op,On,T,ks,hO,hd,?_,?_,hl,hc⟩,Ext.refl _ _,hk⟩⟩
 ·exact hp.kept hf (fun k hk e=>hd k hk (e▸hn.at_)) fun k e=>by have:=(hn.own n hn.at_).1;omega
 ·rw[←Kk]
  exact n1
def jL (W:World) (b:Nat) (O:Nat→Prop):List Value→List bV→Prop
 | [],[]=>True
 | v::vs,wp::cI=>eH W b O v wp∧jL W b O vs cI
 | _,_=>False
theorem jL.later {W W':World} {b:Nat} {O O':Nat→Prop} (hf:az O W W') (he:Ext O O' W) :∀{vs:List Value} {cI:List bV},jL W b O vs cI→jL W' b O' vs cI
 | [],[],_=>trivial
 | _::_,_::_,h=>⟨h.1.later hf he,jL.later hf he h.2⟩
theorem jL.get {W:World} {b:Nat} {O:Nat→Prop} :∀{vs:List Value} {cI:List bV},jL W b O vs cI→∀(j:Nat) (x:Value),vs[j]? = some x→∃y,cI[j]? = some y∧eH W b O x y
 | [],[],_,j,x,h=>by simp at h
 | a::_,c::_,h,j,x,hj=>by
  cases j with
  | zero =>
   obtain rfl:a=x:=by simpa using hj
   exact⟨c,rfl,h.1⟩
  | succ j=>exact jL.get h.2 j x (by simpa using hj)
theorem jL.len {W:World} {b:Nat} {O:Nat→Prop} :∀{vs:List Value} {cI:List bV},jL W b O vs cI→vs.length=cI.length
 | [],[],_=>rfl
 | _::_,_::_,h=>by rw[List.length_cons,List.length_cons,jL.len h.2]
structure aM (W:World) (b:Nat) (O:Nat→Prop) (v:Value) (cI:List bV):Prop where
 ex :∃vs,SE W O v vs∧jL W b O vs cI
theorem aM.later {W W':World} {b:Nat} {O O':Nat→Prop} {v:Value} {cI:List bV} (h:aM W b O v cI) (hf:az O W W') (he:Ext O O' W):aM W' b O' v cI:=by
 obtain⟨vs,h1,h2⟩:=h.ex;exact⟨vs,h1.later hf he,h2.later hf he⟩
theorem aM.at_ {W W1:World} {b n:Nat} {O O1:Nat→Prop} {vs:List Value} {cI:List bV} {T0:List Nd} {s:St} {K:St→Prop} {E:Int→Prop} (h:jL W b O vs cI) {j:Nat} (hj:j<vs.length)
  (hf:az O W W1) (he:Ext O O1 W) (hr:Real W1 b n O1 T0 s) (hk:aI (cI.drop j) s K E) :
  ∃f first cap,vs[j]? = some (.func (.func f) first cap)∧Enters Tryz.prog f∧Calls Tryz.prog f (first++#[.pointer (some ⟨n,0,none⟩)]++cap) W1 (bA b n O1 T0 (fun s'=>aI (cI.drop (j+1)) s' K E) E W1):=by
 obtain⟨wp,hw,hp⟩:=jL.get h j vs[j] (bH hj);have hd:cI.drop j=wp::cI.drop (j+1):=by
  obtain⟨hl,e⟩:=aL.1 hw;rw[zO hl,e]
 rw[hd] at hk;obtain⟨f,first,cap,e,h1,h2⟩:=hp W1 O1 T0 s n _ E hf he hr hk
 exact⟨f,first,cap,by rw[bH hj,e],h1,h2⟩
theorem uL (b n:Nat) (O:Nat→Prop) (T0:List Nd) (s:St) (K:St→Prop) (E:Int→Prop) (pv:Value) (cI:List bV) (w:World) (hr:Real w b n O T0 s) (hp:aM w b O pv cI) (hk:aI cI s K E) :
  Calls Tryz.prog 35 #[.pointer (some ⟨n,0,none⟩),pv] w (bA b n O T0 K E w):=by
 obtain⟨vs,hfn,hall⟩:=hp.ex;have hlen:=hall.len;have hP :∃A,pv=.slice A vs.length vs.length∧vs.length≤100∧∀(W1:World) (O1:Nat→Prop),az O w W1→Ext O O1 w→∀(j:Nat) v,vs[j]? = some v→∃g,A=some ⟨g,0,none⟩∧W1.cell? ⟨g,j,none⟩=some v:=by
  rcases hfn with ⟨rfl,rfl⟩ | ⟨g,rfl,h2,h3,h4⟩
  ·exact⟨none,rfl,by simp,fun W1 O1 _ _ j v h=>by simp at h⟩
  ·refine⟨_,rfl,h4,fun W1 O1 hf he j v hj=>⟨g,rfl,?_⟩⟩
   have:=hf.block g (aJ.1 h2).1 h3;rw[h2] at this;simp[World.cell?,this,hj]
 obtain⟨A,rfl,aaW,hcell⟩:=hP;have HC:=aa hcell;have HA:=aa hall;have HR:=aa hr;have HK:=aa hk;have HL:=aa hlen;clear hfn hp hcell hall hr hk hlen;go_enter Tryz.func35,Tryz.ntmps35
 go_wp2_with fail
 go_loopg [10] vs.length (fun z jv wr=>∃(j:Nat) (O1:Nat→Prop) (s1:St),jv=.int .i64 (j:Int)∧j≤vs.length∧vs.length-j≤z∧Real wr b n O1 T0 s1∧az O w wr∧Ext O O1 w∧aI (cI.drop j) s1 K E)
 case atStart=>exact⟨0,O,s,rfl,bx _,ai _,HR.out,az.refl _ _,Ext.refl _ _,HK.out⟩
 case round =>
  obtain⟨j,O1,s1,rfl,hj,hz,hr1,ld,uM,iW⟩:=hrel;have nO:=aa hr1;have fA:=aa ld;have o7:=aa uM;have Q8:=aa iW;clear hr1 ld uM iW;by_cases hlt:j<vs.length
  ·obtain⟨f,first,cap,hv,pz,bs⟩:=aM.at_ HA.out hlt fA.out o7.out nO.out Q8.out
   obtain⟨g,rfl,hc⟩:=HC.out wr O1 fA.out o7.out j _ hv;rw[show first++#[Value.pointer (some ⟨n,0,none⟩)]=first.push (.pointer (some ⟨n,0,none⟩)) from by simp] at bs
   have dW:=aa bs;clear bs hv;unfold Enters at pz;go_wp2_with fail
   refine dW.out.mono ?_;rintro e w2 ⟨f2,hs⟩;have F2:=aa (fA.out.trans f2 o7.out);rcases hs with ⟨s2,O2,rfl,r2,x2,k2⟩ | ⟨l,v,rfl,m2,e2⟩
   ·have R2:=aa r2
    have X2:=aa (o7.out.trans x2 fA.out.size);have K2:=aa k2;clear f2 r2 x2 k2;go_wp2_with fail
    go_roundg (vs.length-(j+1))
    case measure=>omega
    case rel=>exact⟨j+1,O2,s2,by go_num,by omega,ai _,R2.out,F2.out,X2.out,K2.out⟩
   ·obtain⟨g',rfl,hg1,hg2⟩:=m2
    have M2:=aa hg2;have HG:=aa (aK fA.out.size hg1);have E2:=aa e2;clear f2 hg1 hg2 e2;go_wp2_with fail
    go_ret
    exact⟨F2.out,.inr ⟨l,_,rfl,⟨g',rfl,HG.out,M2.out⟩,E2.out⟩⟩
  ·obtain rfl:j=vs.length:=by omega
   go_wp2_with fail
   go_ret
   have hk:=Q8.out;rw[pT (by rw[HL.out];exact ai _)] at hk
   exact⟨fA.out,.inl ⟨s1,O1,rfl,nO.out,o7.out,hk⟩⟩
end Go.Proofs.YteflkdlaoiijbaaGreatDoor
