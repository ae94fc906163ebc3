/- Parts of the proof. -/
import Derived.StillTailTactics
import Derived.Test.YtodmcdfeldkocaaGreatDoorK04
set_option maxHeartbeats 16000000
set_option maxRecDepth 20000
namespace Go.Proofs.YtodmcdfeldkocaaGreatDoor
open Go.RowKit
def nC (k n:Int) (w:World) (e:Ending) (w':World):Prop:=∃v,e=.returned v∧Sh w' v (aY k n)∧Below w.heap.size w w'
theorem n9 {k n:Int} {ps:List FE} (h:aY k n=ps) {w w':World} {v:Value} (hr:Sh w' v ps) (hb:Below w.heap.size w w'):nC k n w (.returned v) w':=⟨v,rfl,by rw[h];exact hr,hb⟩
theorem bu (w:World) (o:Obj):Below w.heap.size w (w.alloc o):=(Below.refl _ _).alloc (ag _) _
theorem Ir (x:Nd) (A B:Option Addr) (a c b d:Nat) (w:World) (h:x.kind=13∨x.kind=14∨x.kind=16∨x.kind=11∨x.kind=22∨x.kind=21∨x.kind=28):Calls Tryz.prog 69 #[cZ x (.slice A a c) (.slice B b d)] w (nC x.kind x.num w):=by
 obtain⟨kind,line,op,num,s,names,kids⟩:=x;unfold cZ;simp only at h ⊢;have b1:=bu w (.cells #[.int .i64 kind,.int .i64 line,.int .i64 op,.int .i64 num,.string s,.slice A a c,.slice B b d] 54);rcases h with rfl|rfl|rfl|rfl|rfl|rfl|rfl;all_goals
  have B1:=aa b1;clear b1;go_enter Tryz.func69,Tryz.ntmps69
  go_wp2_with fail
  refine(Bc _ _ _ (nB _ _ 133 _ (by simp))).mono ?_
  rintro e w2 ⟨v,rfl,hr,b2⟩;have HR:=aa hr;have B2:=aa (ax B1.out (ax (bu _ _) b2));obtain⟨bp,pv,rfl,_⟩:=hr;clear b2;go_wp2_with fail
  go_ret
  exact n9 (by simp[aY]) HR.out B2.out
theorem Is (x:Nd) (A B:Option Addr) (a c b d:Nat) (w:World) (h:x.kind=8∨x.kind=12∨x.kind=17∨x.kind=23∨x.kind=24):Calls Tryz.prog 69 #[cZ x (.slice A a c) (.slice B b d)] w (nC x.kind x.num w):=by
 obtain⟨kind,line,op,num,s,names,kids⟩:=x;unfold cZ;simp only at h ⊢;have b1:=bu w (.cells #[.int .i64 kind,.int .i64 line,.int .i64 op,.int .i64 num,.string s,.slice A a c,.slice B b d] 54);rcases h with rfl|rfl|rfl|rfl|rfl;all_goals
  have B1:=aa b1;clear b1;go_enter Tryz.func69,Tryz.ntmps69
  go_wp2_with fail
  refine(Bc _ _ _ (Bb _ _ _ 133 _ (by simp))).mono ?_
  rintro e w2 ⟨v,rfl,hr,b2⟩;have HR:=aa hr;have B2:=aa (ax B1.out (ax (bu _ _) b2));obtain⟨bp,pv,rfl,_⟩:=hr;clear b2;go_wp2_with fail
  go_ret
  exact n9 (by simp[aY]) HR.out B2.out
theorem Si (x:Nd) (A B:Option Addr) (a c b d:Nat) (w:World) (h:x.kind=9∨x.kind=10∨x.kind=19∨x.kind=29∨x.kind=15):Calls Tryz.prog 69 #[cZ x (.slice A a c) (.slice B b d)] w (nC x.kind x.num w):=by
 obtain⟨kind,line,op,num,s,names,kids⟩:=x;unfold cZ;simp only at h ⊢;have b1:=bu w (.cells #[.int .i64 kind,.int .i64 line,.int .i64 op,.int .i64 num,.string s,.slice A a c,.slice B b d] 54);rcases h with rfl|rfl|rfl|rfl|rfl;all_goals
  have B1:=aa b1;clear b1;go_enter Tryz.func69,Tryz.ntmps69
  go_wp2_with fail
  refine(kZ _ _ _ _ _ (nB _ _ 133 _ (by simp))).mono ?_
  rintro e w2 ⟨v,rfl,hp,b2⟩;have HP:=aa hp;have B2:=aa (ax B1.out (ax (bu _ _) b2));obtain⟨bm,br,bl,rv,rfl,_⟩:=hp;clear b2;go_wp2_with fail
  refine(nA _ _ _ (xx (b:=w2.heap.size) (by rw[ao];exact dA _) (dG w2 _ _ _) (HP.out.below (bu w2 _)))).mono ?_
  rintro e w3 ⟨v3,rfl,hr,b3⟩;have HR:=aa hr;have B3:=aa (ax B2.out (ax (bu _ _) b3));obtain⟨bp,pv,rfl,_⟩:=hr;clear b3;go_wp2_with fail
  go_ret
  exact n9 (by simp[aY,big]) HR.out B3.out
theorem MM (x:Nd) (A B:Option Addr) (a c b d:Nat) (w:World) (h:x.kind=18∨x.kind=26∨x.kind=27∨x.kind=20):Calls Tryz.prog 69 #[cZ x (.slice A a c) (.slice B b d)] w (nC x.kind x.num w):=by
 obtain⟨kind,line,op,num,s,names,kids⟩:=x;unfold cZ;simp only at h ⊢;have b1:=bu w (.cells #[.int .i64 kind,.int .i64 line,.int .i64 op,.int .i64 num,.string s,.slice A a c,.slice B b d] 54);rcases h with rfl|rfl|rfl|rfl;all_goals
  have B1:=aa b1;clear b1;go_enter Tryz.func69,Tryz.ntmps69
  go_wp2_with fail
  refine(kZ _ _ _ _ _ (nB _ _ 133 _ (by simp))).mono ?_
  rintro e w2 ⟨v,rfl,hp,b2⟩;have HP:=aa hp;have B2:=aa (ax B1.out (ax (bu _ _) b2));obtain⟨bm,br,bl,rv,rfl,_⟩:=hp;clear b2;go_wp2_with fail
  refine(kZ _ _ _ _ _ (nB w2 _ 133 _ rfl)).mono ?_;rintro e w3 ⟨v,rfl,Bd,b3⟩;have X9:=aa (HP.out.below (ax (bu w2 _) b3));have Ya:=aa Bd;have B3:=aa (ax B2.out (ax (bu _ _) b3));obtain⟨bm3,br3,bl3,rv3,rfl,_⟩:=Bd;clear b3 HP;go_wp2_with fail
  refine(nA _ _ _ (xy (b:=w3.heap.size) (by rw[ao];exact dA _) (dG w3 _ _ _) (dG w3 _ _ _) (X9.out.below (bu w3 _)) (Ya.out.below (bu w3 _)))).mono ?_
  rintro e w4 ⟨v4,rfl,hr,b4⟩;have HR:=aa hr;have B4:=aa (ax B3.out (ax (bu _ _) b4));obtain⟨bp,pv,rfl,_⟩:=hr;clear b4;go_wp2_with fail
  go_ret
  exact n9 (by simp[aY,big]) HR.out B4.out
theorem MN (x:Nd) (A B:Option Addr) (a c b d:Nat) (w:World) (h:x.kind=25):Calls Tryz.prog 69 #[cZ x (.slice A a c) (.slice B b d)] w (nC x.kind x.num w):=by
 obtain⟨kind,line,op,num,s,names,kids⟩:=x;unfold cZ;simp only at h ⊢;have b1:=bu w (.cells #[.int .i64 kind,.int .i64 line,.int .i64 op,.int .i64 num,.string s,.slice A a c,.slice B b d] 54);subst h;have B1:=aa b1;clear b1;go_enter Tryz.func69,Tryz.ntmps69
 go_wp2_with fail
 refine(kZ _ _ _ _ _ (Bb _ _ _ 133 _ (by simp))).mono ?_
 rintro e w2 ⟨v,rfl,hp,b2⟩;have HP:=aa hp;have B2:=aa (ax B1.out (ax (bu _ _) b2));obtain⟨bm,br,bl,rv,rfl,_⟩:=hp;clear b2;go_wp2_with fail
 refine(kZ _ _ _ _ _ (nB w2 _ 133 _ rfl)).mono ?_;rintro e w3 ⟨v,rfl,Bd,b3⟩;have X9:=aa (HP.out.below (ax (bu w2 _) b3));have Ya:=aa Bd;have B3:=aa (ax B2.out (ax (bu _ _) b3));obtain⟨bm3,br3,bl3,rv3,rfl,_⟩:=Bd;clear b3 HP;go_wp2_with fail
 refine(nA _ _ _ (xy (b:=w3.heap.size) (by rw[ao];exact dA _) (dG w3 _ _ _) (dG w3 _ _ _) (X9.out.below (bu w3 _)) (Ya.out.below (bu w3 _)))).mono ?_
 rintro e w4 ⟨v4,rfl,hr,b4⟩;have HR:=aa hr;have B4:=aa (ax B3.out (ax (bu _ _) b4));obtain⟨bp,pv,rfl,_⟩:=hr;clear b4;go_wp2_with fail
 go_ret
 exact n9 (by simp[aY,big]) HR.out B4.out
theorem MP (x:Nd) (A B:Option Addr) (a c b d:Nat) (w:World) (h :∀k∈[13,14,16,8,12,17,9,10,19,29,11,22,21,28,23,24,15,18,25,26,27,(20:Int)],x.kind≠k):Calls Tryz.prog 69 #[cZ x (.slice A a c) (.slice B b d)] w (nC x.kind x.num w):=by
 obtain⟨kind,line,op,num,s,names,kids⟩:=x;unfold cZ;simp only at h ⊢;simp only[ba,oL,oP,forall_eq_or_imp,forall_eq] at h;obtain⟨h1,h2,h3,h4,h5,h6,h7,h8,h9,h10,h11,h12,h13,h14,h15,h16,h17,kJ,Lg,h20,h21,h22⟩:=h;have hp:aY kind num=[]:=by simp only[aY];simp[*]
 have b1:=bu w (.cells #[.int .i64 kind,.int .i64 line,.int .i64 op,.int .i64 num,.string s,.slice A a c,.slice B b d] 54);have B1:=aa b1;have HP:=aa hp;clear b1 hp;go_enter Tryz.func69,Tryz.ntmps69
 go_wp2_with fail
 refine(nA _ [] _ ⟨none,0,rfl,.inl rfl⟩).mono ?_;rintro e w2 ⟨v,rfl,hr,b2⟩;have HR:=aa hr;have B2:=aa (ax B1.out b2);obtain⟨bp,pv,rfl,_⟩:=hr;clear b2;go_wp2_with fail
 go_ret
 exact n9 HP.out HR.out B2.out
theorem Sj (x:Nd) (A B:Option Addr) (a c b d:Nat) (w:World):Calls Tryz.prog 69 #[cZ x (.slice A a c) (.slice B b d)] w (nC x.kind x.num w):=by
 by_cases h1:x.kind=13∨x.kind=14∨x.kind=16∨x.kind=11∨x.kind=22∨x.kind=21∨x.kind=28
 ·exact Ir x A B a c b d w h1
 by_cases h2:x.kind=8∨x.kind=12∨x.kind=17∨x.kind=23∨x.kind=24
 ·exact Is x A B a c b d w h2
 by_cases h3:x.kind=9∨x.kind=10∨x.kind=19∨x.kind=29∨x.kind=15
 ·exact Si x A B a c b d w h3
 by_cases h4:x.kind=18∨x.kind=26∨x.kind=27∨x.kind=20
 ·exact MM x A B a c b d w h4
 by_cases h5:x.kind=25
 ·exact MN x A B a c b d w h5
 refine MP x A B a c b d w fun k hk=>?_
 simp only[ba,oL,oP] at hk;omega
theorem dD {α:Type} {p:Prop} [Decidable p] {a b:α} (P:α→Prop) (ha:P a) (hb:P b):P (if p then a else b):=by
 by_cases h:p
 ·rw[aj h];exact ha
 ·rw[ae h];exact hb
def mG (ps:List FE):Prop:=ps.all (fun p=>decide (0<p.2.2.length))=true∧ps.length≤1000
theorem fJ (a b:Int) (r:Int) (l:List Int):mG [(a,b,r::l)]:=⟨rfl,Nat.le_of_ble_eq_true rfl⟩
theorem nD (a b a' b':Int) (r r':Int) (l l':List Int):mG [(a,b,r::l),(a',b',r'::l')]:=⟨rfl,Nat.le_of_ble_eq_true rfl⟩
theorem Be (k n:Int):mG (aY k n):=by
 unfold aY;refine dD mG (fJ ..) <| dD mG (fJ ..) <| dD mG (fJ ..) <| dD mG (fJ ..) <| dD mG (fJ ..) <| dD mG (fJ ..) <| dD mG (fJ ..) <| dD mG (fJ ..) <| dD mG (fJ ..) <| dD mG (fJ ..) <| dD mG (nD ..) <| dD mG (nD ..) <| dD mG (nD ..) <| dD mG (nD ..) <| dD mG (nD ..) ⟨rfl,bg _⟩
theorem Iu (k n:Int) :∀p∈aY k n,0<p.2.2.length:=fun p hp=>gT (List.all_eq_true.1 (Be k n).1 p hp)
theorem Iv (k n:Int):(aY k n).length≤1000:=(Be k n).2
def ia (T:List Nd) (x:Nd):List Int:=x.kids.map fun k=>gM (dB T k.toNat)
theorem Dy (T:List Nd) (x:Nd):(ia T x).length=x.kids.length:=by simp[ia]
theorem Iw {T:List Nd} {x:Nd} {j:Nat} {k:Int} (h:x.kids[j]? = some k):(ia T x)[j]? = some (gM (dB T k.toNat)):=by simp[ia,h]
theorem MQ {W:World} {b:Nat} {l:List Int} (h:oC W b l.length (fun j=>.int .i64 (l.getD j 0))) (hb:b<W.heap.size):cE W (.slice (some ⟨b,0,none⟩) l.length l.length) l :=
 ⟨_,_,rfl,ag _,.inr ⟨b,0,rfl,hb,fun j z hj=>by
  have hl:=(aJ.1 hj).1;rw[jg,(h j hl).1];show some (Value.int .i64 (l.getD j 0))=_
  rw[jZ,hj];rfl⟩⟩
theorem MR (x:Nd) (nv kv tv:Value) (T:List Nd) (w:World) (hnv:oS w nv x.names) (hkv:cE w kv x.kids) (ht:eO w tv T) (hv :∀k∈x.kids,0≤k∧k<(T.length:Int)) (hl:x.kids.length≤20000) :
  Calls Tryz.prog 32 #[cZ x nv kv,tv] w fun e w'=>e=.returned (.bool (pw x.kind x.num (ia T x)))∧Below w.heap.size w w':=by
 have HK:=aa hkv;have HNV:=aa hnv;obtain⟨NA,nc,rfl,_,_⟩:=hnv;obtain⟨KA,kc,rfl,uC,hka⟩:=hkv;obtain⟨TA,tc,rfl,htc,hta⟩:=ht;have HOF:=aa (fun W=>Sj x NA KA x.names.length nc x.kids.length kc W)
 have HV:=aa hv;have Dz:=aa hka;have HTA:=aa hta;have hW0:=bu w (.cells #[.int .i64 x.kind,.int .i64 x.line,.int .i64 x.op,.int .i64 x.num,.string x.s,.slice NA x.names.length nc,.slice KA x.kids.length kc] 54);obtain⟨w1,xi,hb1,hs1,kQ⟩:=C9 x.kids.length (by omega) (w.alloc (.cells #[.int .i64 x.kind,.int .i64 x.line,.int .i64 x.op,.int .i64 x.num,.string x.s,.slice NA x.names.length nc,.slice KA x.kids.length kc] 54))
 rw[ao] at xi hb1 hs1 kQ;have eB :∀j:Nat,w1.cell? ⟨w.heap.size,j,none⟩=(#[.int .i64 x.kind,.int .i64 x.line,.int .i64 x.op,.int .i64 x.num,.string x.s,.slice NA x.names.length nc,.slice KA x.kids.length kc]:Array Value)[j]?:=fun j=>(hb1.cell (p:=⟨w.heap.size,j,none⟩) (dA _)).trans (dG w _ _ _)
 have c6:w1.cell? ⟨w.heap.size,6,none⟩=some (.slice KA x.kids.length kc):=eB 6;have mw:=aa eB;have dU:=aa (hW0.trans (hb1.mono (iG _)));have fy:=aa kQ;clear hv hka hta hW0 hb1 kQ eB;unfold cZ at HOF ⊢;go_enter Tryz.func32,Tryz.ntmps32
 go_wp2_with fail
 clear xi c6;have Rb:(ia T x).length=x.kids.length:=Dy T x;have HSL:=aa Rb;clear Rb;go_loopw [15] (fun i wr=>∃k:Nat,k≤x.kids.length∧i=.int .i64 (k:Int)∧Below (w.heap.size+1) w1 wr∧oC wr (w.heap.size+1) x.kids.length (fun j=>if j<k then .int .i64 ((ia T x).getD j 0) else .int .i64 0)) (fun i _=>x.kids.length-(intOf i).toNat)
 case atStart=>exact⟨0,bg _,rfl,Below.refl _ _,fy.out.eq_ fun j _=>by rw[ae (by omega)]⟩
 case round =>
  obtain⟨k,hk,rfl,hbr,mM⟩:=hrel;have HB:=aa hbr;have HF:=aa mM;have hsz:=hbr.size;have iL:=aa (dU.out.trans (hbr.mono (iG _)));clear hbr;by_cases hlt:k<x.kids.length
  ·obtain⟨z,hz⟩ :∃z,x.kids[k]? = some z:=⟨x.kids[k],bt hlt⟩
   obtain⟨z0,z1⟩:=HV.out z (aV hz);obtain⟨q,rfl⟩ :∃q:Nat,z=(q:Int):=⟨z.toNat,by omega⟩
   have hq:q<T.length:=by omega
   have hx:=bt hq;rcases Dz.out with h0 | ⟨b1,o1,rfl,hb1,hc1⟩
   ·rw[h0] at hlt;exact absurd hlt (iF _)
   rcases HTA.out with h0 | ⟨b2,o2,rfl,hb2,hc2⟩
   ·rw[h0] at hq;exact absurd hq (iF _)
   have ck:=(iL.out.cell (p:=⟨b1,o1+k,none⟩) hb1).trans (hc1 k _ hz);obtain⟨nv',kv',eL,_,_⟩:=hc2 q _ hx;have ct:=(iL.out.cell (p:=⟨b2,o2+q*7,none⟩) hb2).trans eL.c0;obtain⟨fc,ff⟩:=mM k hlt;obtain⟨kd,qA⟩ :∃kd,kd=T[q].kind:=⟨_,rfl⟩;rw[←qA] at ct;have hsk:(ia T x).getD k 0=gM kd:=by
    rw[jZ,Iw hz,gS,lG hx,←qA];rfl
   have HSK:=aa hsk;replace fc:wr.cell? ⟨w.heap.size+1,k,none⟩=some (.int .i64 0):=fc.trans (by
    show some (if k<k then _ else _)=_
    rw[ae (by omega)])
   clear hc1 hc2 eL hz hx hsk qA mM;go_wp2_with (go_at_call 68;refine(Io kd _).mono ?_;rintro e w' ⟨rfl,rfl⟩)
   refine⟨⟨k+1,by omega,by go_num,HB.out.setCell (ag _) _,(HF.out.Xj hlt _).eq_ fun j hj=>?_⟩,by simp[intOf];omega⟩
   by_cases e:j=k
   ·subst e
    rw[aj rfl,aj (by omega),HSK.out]
   ·rw[ae e]
    by_cases h:j<k
    ·rw[aj h,aj (by omega)]
    ·rw[ae h,ae (by omega)]
  ·have DA:oC wr (w.heap.size+1) (ia T x).length (fun j=>.int .i64 ((ia T x).getD j 0)):=by
    rw[HSL.out];exact HF.out.eq_ fun j hj=>by rw[aj (by omega)]
   have HN:=aa (MQ DA (by omega))
   clear DA mM;have HC:=mw.out;have c0:=(HB.out.cell (p:=⟨w.heap.size,0,none⟩) (dA _)).trans (HC 0);have c1:=(HB.out.cell (p:=⟨w.heap.size,1,none⟩) (dA _)).trans (HC 1);have c2:=(HB.out.cell (p:=⟨w.heap.size,2,none⟩) (dA _)).trans (HC 2);have c3:=(HB.out.cell (p:=⟨w.heap.size,3,none⟩) (dA _)).trans (HC 3);have c4:=(HB.out.cell (p:=⟨w.heap.size,4,none⟩) (dA _)).trans (HC 4);have c5:=(HB.out.cell (p:=⟨w.heap.size,5,none⟩) (dA _)).trans (HC 5);have c6:=(HB.out.cell (p:=⟨w.heap.size,6,none⟩) (dA _)).trans (HC 6);clear HC;go_wp2_with fail
   refine(HOF.out wr).mono ?_;rintro e w2 ⟨v,rfl,hr,b2⟩;obtain⟨bp,pv,rfl,hbp,hcp,hpp⟩:=hr;have HRL:=aa (ML _ _ (aY x.kind x.num) (ia T x) bp w2 hcp hpp (HN.out.below b2) (by rw[HSL.out];omega) (Iu _ _) (Iv _ _))
   have B2:=aa (jj iL.out (ag _) b2);clear hcp hpp b2;rw[HSL.out] at HRL;go_wp2_with fail
   refine HRL.out.mono ?_;rintro e w3 ⟨rfl,b3⟩;have B3:=aa (jj B2.out (ag _) b3);clear b3;go_wp2_with fail
   go_ret
   exact⟨rfl,B3.out⟩
def VV:List (List UInt8):=[[97,110,100],[98,114,101,97,107],[100,111],[101,108,115,101],[101,108,115,101,105,102],[101,110,100],[102,97,108,115,101],[102,111,114],[102,117,110,99,116,105,111,110],[103,111,116,111],[105,102],[105,110],[108,111,99,97,108],[110,105,108],[110,111,116],[111,114],[114,101,112,101,97,116],[114,101,116,117,114,110],[116,104,101,110],[116,114,117,101],[117,110,116,105,108],[119,104,105,108,101]]
def vi (l:List UInt8):Bool:=VV.contains l
def Sk (c:UInt8):Bool:=decide (97≤c.toNat∧c.toNat≤122) || decide (65≤c.toNat∧c.toNat≤90) || decide (c.toNat=95)
def Bf (c:UInt8):Bool:=decide (48≤c.toNat∧c.toNat≤57)
def tx (c:UInt8):Bool:=Sk c || Bf c
def MS (l:List UInt8):Bool:=match l with | []=>false|c::_=>Bf c
def gJ (s:ByteArray):Bool:=decide (s.size≠0) && decide (s.size≤65536) && !MS s.data.toList && !vi s.data.toList && s.data.toList.all tx
theorem Ix (s:ByteArray) (w:World):Calls Tryz.prog 113 #[.string s] w fun e w'=>e=.returned (.bool (vi s.data.toList))∧w=w':=by
 rw[←Lib.toList_data];go_enter Tryz.func113,Tryz.ntmps113
 go_wp2_with fail
 all_goals first
  | (go_ret;rename_i ha hb;rw[ha] at hb;cases hb;done)
  | (go_ret;exact⟨cM (by simp only[vi,VV,KT,KY,Bool.or_false,Bool.true_or,Bool.or_true, *]),rfl⟩)
theorem DB (c:UInt8) (w:World):Calls Tryz.prog 114 #[.int .u8 (c.toNat:Int)] w fun e w'=>e=.returned (.bool (Sk c))∧w=w':=by
 unfold Sk;have hc:=c.toNat_lt;generalize c.toNat=n at *;go_enter Tryz.func114,Tryz.ntmps114
 go_wp2_with fail
 all_goals go_ret
 all_goals exact⟨cM (by rw[mT];simp;omega),rfl⟩
theorem xA (c:UInt8) (w:World):Calls Tryz.prog 112 #[.int .u8 (c.toNat:Int)] w fun e w'=>e=.returned (.bool (Bf c))∧w=w':=by
 unfold Bf;have hc:=c.toNat_lt;generalize c.toNat=n at *;go_enter Tryz.func112,Tryz.ntmps112
 go_wp2_with fail
 all_goals go_ret
 all_goals exact⟨cM (by rw[mT];simp;omega),rfl⟩
theorem MT {p:UInt8→Bool} {l:List UInt8} {k:Nat} {c:UInt8} (h:l[k]? = some c):(l.drop k).all p=(p c && (l.drop (k+1)).all p):=by
 rw[eP h,sJ]
theorem byte_at {s:ByteArray} {k:Nat} (h:k<s.size):s.data.toList[k]? = some s[k]:=by
 rw[Array.getElem?_toList];exact wS h
theorem xB (s:ByteArray) (w:World):Calls Tryz.prog 64 #[.string s] w fun e w'=>e=.returned (.bool (gJ s))∧w=w':=by
 by_cases h0:s.size=0
 ·obtain rfl:s=⟨#[]⟩:=by
   have:s.data=#[]:=Array.eq_empty_of_size_eq_zero h0;cases s;simp_all
  go_enter Tryz.func64,Tryz.ntmps64
  go_wp2_with fail
  go_ret
  exact⟨rfl,rfl⟩
 ·have h00:0<s.size:=by omega
  have hne:s.toList.isEmpty=false:=by
   rw[Lib.toList_data];cases e:s.data.toList with
   | nil=>exact absurd (by rw[Lib.size_eq,e];rfl) h0
   | cons a t=>rfl
  have acD:¬ s.toList=[]:=fun e=>by rw[e] at hne;cases hne
  by_cases h1:s.size≤65536
  ·have g1:decide ((65536:Int)<(s.size:Int))=false:=bM (by omega)
   have hb0:=byte_at (s:=s) (k:=0) (by omega)
   have hf:MS s.data.toList=Bf s[0]:=by
    cases e:s.data.toList with
    | nil=>rw[e] at hb0;simp at hb0
    | cons a t=>rw[e] at hb0;obtain rfl:=gu hb0;rfl
   have A4:gJ s=(!Bf s[0] && !vi s.data.toList && s.data.toList.all tx):=by
    unfold gJ;rw[hf,bN (show s.size≠0 from h0),bN h1]
    rfl
   rw[A4];have HW:=aa (Ix s w);have HD:=aa (xA s[0] w);obtain⟨D,hD⟩ :∃D,D=Bf s[0]:=⟨_,rfl⟩;obtain⟨K,hK⟩ :∃K,K=vi s.data.toList:=⟨_,rfl⟩;rw[←hD] at HD ⊢;rw[←hK] at HW ⊢;obtain⟨AL,Yb⟩ :∃AL,AL=s.data.toList.all tx:=⟨_,rfl⟩;rw[←Yb];have HAL:=aa Yb;clear hD hK hf A4 hb0 Yb;cases D with
   | true =>
    go_enter Tryz.func64,Tryz.ntmps64
    go_wp2_with (go_at_call 112;refine HD.out.mono ?_;rintro e w' ⟨rfl,rfl⟩)
    go_ret
    exact⟨rfl,rfl⟩
   | false =>
    cases K with
    | true =>
     go_enter Tryz.func64,Tryz.ntmps64
     go_wp2_with (first|(go_at_call 112;refine HD.out.mono ?_;rintro e w' ⟨rfl,rfl⟩)|(go_at_call 113;refine HW.out.mono ?_;rintro e w' ⟨rfl,rfl⟩))
     go_ret
     exact⟨rfl,rfl⟩
    | false =>
     go_enter Tryz.func64,Tryz.ntmps64
     go_wp2_with (first|(go_at_call 112;refine HD.out.mono ?_;rintro e w' ⟨rfl,rfl⟩)|(go_at_call 113;refine HW.out.mono ?_;rintro e w' ⟨rfl,rfl⟩))
     clear HD HW;go_loop [22] (fun i=>∃k:Nat,k≤s.size∧i=.int .i64 (k:Int)∧(s.data.toList.drop k).all tx=AL) (fun i=>s.size-(intOf i).toNat)
     case atStart=>exact⟨0,bg _,rfl,HAL.out.symm⟩
     case round =>
      obtain⟨k,hk,rfl,ha⟩:=hrel;have HA:=aa ha;clear ha;by_cases hlt:k<s.size
      ·have hst:=MT (p:=tx) (byte_at hlt)
       have HST:=aa hst;have HL:=aa (DB s[k] w);have HG:=aa (xA s[k] w);clear hst;cases e1:Sk s[k] with
       | true =>
        have hn:tx s[k]=true:=by unfold tx;rw[e1];rfl
        rw[e1] at HL;rw[hn,kP] at HST;clear e1 hn;go_wp2_with (go_at_call 114;refine HL.out.mono ?_;rintro e w' ⟨rfl,rfl⟩)
        go_round
        case rel=>exact⟨k+1,by omega,by go_num,by rw[←HST.out];exact HA.out⟩
        case measure=>simp[intOf];omega
       | false =>
        rw[e1] at HL;cases e2:Bf s[k] with
        | true =>
         have hn:tx s[k]=true:=by unfold tx;rw[e1,e2];rfl
         rw[e2] at HG;rw[hn,kP] at HST;clear e1 e2 hn;go_wp2_with (first|(go_at_call 114;refine HL.out.mono ?_;rintro e w' ⟨rfl,rfl⟩)|(go_at_call 112;refine HG.out.mono ?_;rintro e w' ⟨rfl,rfl⟩))
         go_round
         case rel=>exact⟨k+1,by omega,by go_num,by rw[←HST.out];exact HA.out⟩
         case measure=>simp[intOf];omega
        | false =>
         have hn:tx s[k]=false:=by unfold tx;rw[e1,e2];rfl
         rw[e2] at HG;rw[hn,Ad] at HST;clear e1 e2 hn;go_wp2_with (first|(go_at_call 114;refine HL.out.mono ?_;rintro e w' ⟨rfl,rfl⟩)|(go_at_call 112;refine HG.out.mono ?_;rintro e w' ⟨rfl,rfl⟩))
         go_ret
         exact⟨cM (by rw[←HA.out,HST.out];rfl),rfl⟩
      ·have hd:(s.data.toList.drop k).all tx=true:=by
        rw[mn (by rw[←Lib.size_eq];omega)];rfl
       have HD:=aa hd;clear hd;go_wp2_with fail
       go_ret
       exact⟨cM (by rw[←HA.out,HD.out]),rfl⟩
  ·have g1:decide ((65536:Int)<(s.size:Int))=true:=bN (by omega)
   have A4:gJ s=false:=by
    unfold gJ;rw[bM h1];simp
   rw[A4];clear A4;go_enter Tryz.func64,Tryz.ntmps64
   go_wp2_with fail
   go_ret
   exact⟨rfl,rfl⟩
def kF (k:Int):Int :=
 if k=12∨k=13 then 1 else if k=4∨k=20 then 2 else if k=11∨k=27 then 10 else if k=19∨k=26∨k=28 then 8 else if k=7∨k=10∨k=31∨k=32 then 20 else if k=5 then 4 else 0
theorem acE:bits .or .i64 2 8=10:=by kernel_rfl
theorem acF:bits .or .i64 0 8=8:=by kernel_rfl
theorem acG:bits .or .i64 16 4=20:=by kernel_rfl
theorem acH:bits .or .i64 0 4=4:=by kernel_rfl
theorem yV (k:Int) (w:World):Calls Tryz.prog 62 #[.int .i64 k] w fun e w'=>e=.returned (.int .i64 (kF k))∧w=w':=by
 go_enter Tryz.func62,Tryz.ntmps62
 go_wp2_with fail
 all_goals
  go_ret
  refine⟨Ba ?_,rfl⟩;simp only[kF];simp_all [acE,acF,acG,acH]
  try omega
def Yc (k op:Int):Bool:=if k=12 then decide (1≤op) && decide (op≤19) else if k=13 then decide (20≤op) && decide (op≤23) else true
def pA (k n:Int):Bool:=if k=11 then n == 0 || n == 1 else if k=20∨k=27 then decide (1≤n) else true
def pB (k:Int) (n:Nat):Bool:=if k=19∨k=27 then decide (1≤n) else if k=26∨k=28 then decide (n=1) else true
def Yd (a b c d:Bool):Int :=
 let x:=if a then bits .or .i64 0 1 else 0
 let y:=if b then bits .or .i64 x 2 else x
 let z:=if c then bits .or .i64 y 4 else y
 if d then bits .or .i64 z 8 else z
def Sl (x:Nd):Int:=Yd (x.op != 0) (x.num != 0) (!x.s.toList.isEmpty) (decide (0<x.names.length))
theorem Sm (x:Nd) (A B:Option Addr) (a c b d:Nat) (w:World):Calls Tryz.prog 65 #[cZ x (.slice A a c) (.slice B b d)] w fun e w'=>e=.returned (.bool (Yc x.kind x.op))∧Below w.heap.size w w':=by
 obtain⟨kind,line,op,num,s,names,kids⟩:=x;unfold cZ;simp only;go_enter Tryz.func65,Tryz.ntmps65
 go_wp2_with fail
 all_goals
  go_ret
  refine⟨cM ?_,bu w _⟩;simp only[Yc];simp_all
  try omega
theorem DC (x:Nd) (A B:Option Addr) (a c b d:Nat) (w:World):Calls Tryz.prog 66 #[cZ x (.slice A a c) (.slice B b d)] w fun e w'=>e=.returned (.bool (pA x.kind x.num))∧Below w.heap.size w w':=by
 obtain⟨kind,line,op,num,s,names,kids⟩:=x;unfold cZ;simp only;go_enter Tryz.func66,Tryz.ntmps66
 go_wp2_with fail
 all_goals
  go_ret
  refine⟨cM ?_,bu w _⟩;simp only[pA];simp_all
  try omega
theorem DD (x:Nd) (A B:Option Addr) (c b d:Nat) (w:World):Calls Tryz.prog 67 #[cZ x (.slice A x.names.length c) (.slice B b d)] w fun e w'=>e=.returned (.bool (pB x.kind x.names.length))∧Below w.heap.size w w':=by
 obtain⟨kind,line,op,num,s,names,kids⟩:=x;unfold cZ;simp only;generalize names.length=a;go_enter Tryz.func67,Tryz.ntmps67
 go_wp2_with fail
 all_goals
  go_ret
  refine⟨cM ?_,bu w _⟩;simp only[pB];first
   | (simp_all;done)
   | (simp_all;omega)
   | (simp_all;rw[mT];simp;omega)
theorem Iy (x:Nd) (A B:Option Addr) (c b d:Nat) (w:World):Calls Tryz.prog 63 #[cZ x (.slice A x.names.length c) (.slice B b d)] w fun e w'=>e=.returned (.int .i64 (Sl x))∧Below w.heap.size w w':=by
 obtain⟨kind,line,op,num,s,names,kids⟩:=x;unfold cZ;unfold Sl;simp only;generalize names.length=a;cases e1:(op != 0)<;>cases e2:(num != 0)<;>cases e3:s.toList.isEmpty<;>by_cases e4:0<a;all_goals
  first
   | rw[bN e4]
   | rw[bM e4]
  simp only[Yd,Bool.not_true,Bool.not_false,sL,KU,if_false];go_enter Tryz.func63,Tryz.ntmps63
  go_wp2_with fail
  go_ret
  exact⟨rfl,bu w _⟩
def cL (x:Nd):Bool :=
 !(bits .andNot .i64 (Sl x) (kF x.kind) != 0) && (!(bits .and .i64 (kF x.kind) 16 != 0) || gJ x.s) && x.names.all gJ && (Yc x.kind x.op && pA x.kind x.num && pB x.kind x.names.length)
theorem xC {α:Type} {p:α→Bool} {l:List α} {k:Nat} {c:α} (h:l[k]? = some c):(l.drop k).all p=(p c && (l.drop (k+1)).all p):=by
 rw[eP h,sJ]
theorem xD {w w':World} {B:Nat} {x:Nd} {nv kv:Value} (hB:w.heap.size<B) (hb:Below B (w.alloc (.cells #[.int .i64 x.kind,.int .i64 x.line,.int .i64 x.op,.int .i64 x.num,.string x.s,nv,kv] 54)) w'):lL w' w.heap.size 0 x nv kv:=by
 have h :∀j:Nat,w'.cell? ⟨w.heap.size,j,none⟩=(#[.int .i64 x.kind,.int .i64 x.line,.int .i64 x.op,.int .i64 x.num,.string x.s,nv,kv]:Array Value)[j]?:=fun j=>(hb.cell (p:=⟨w.heap.size,j,none⟩) hB).trans (dG w _ _ _)
 exact⟨h 0,h 1,h 2,h 3,h 4,h 5,h 6⟩
theorem DE (x:Nd) (nv kv:Value) (w:World) (hnv:oS w nv x.names) (hkv :∃A n c,kv=.slice A n c) (hl:x.names.length≤140737488355328) :
  Calls Tryz.prog 31 #[cZ x nv kv] w fun e w'=>e=.returned (.bool (cL x))∧Below w.heap.size w w':=by
 have HS:=aa hnv;obtain⟨NA,nc,rfl,_,eL⟩:=hnv;obtain⟨KA,kn,kc,rfl⟩:=hkv;have HNA:=aa eL;clear eL;obtain⟨F,hF⟩ :∃F,F=kF x.kind:=⟨_,rfl⟩;obtain⟨G,hG⟩ :∃G,G=Sl x:=⟨_,rfl⟩;obtain⟨O,hO⟩ :∃O,O=Yc x.kind x.op:=⟨_,rfl⟩;obtain⟨C,hC⟩ :∃C,C=pA x.kind x.num:=⟨_,rfl⟩;obtain⟨M,hM⟩ :∃M,M=pB x.kind x.names.length:=⟨_,rfl⟩;obtain⟨S,hS⟩ :∃S,S=gJ x.s:=⟨_,rfl⟩;obtain⟨AL,Yb⟩ :∃AL,AL=x.names.all gJ:=⟨_,rfl⟩;have HFo:=aa (fun W=>hF▸yV x.kind W)
 have HGi:=aa (fun W=>hG▸Iy x NA KA nc kn kc W)
 have VW:=aa (fun W=>hO▸Sm x NA KA x.names.length nc kn kc W)
 have HCo:=aa (fun W=>hC▸DC x NA KA x.names.length nc kn kc W)
 have HNm:=aa (fun W=>hM▸DD x NA KA nc kn kc W)
 have HSn:=aa (fun W=>hS▸xB x.s W)
 have hfk:cL x=(!(bits .andNot .i64 G F != 0) && (!(bits .and .i64 F 16 != 0) || S) && AL && (O && C && M)):=by
  unfold cL;rw[hF,hG,hO,hC,hM,hS,Yb]
 rw[hfk];have HAL:=aa Yb;clear hF hG hO hC hM hS Yb hfk;unfold cZ at HGi VW HCo HNm ⊢;have mw:=aa (fun W (h:Below (w.heap.size+1) (w.alloc (.cells #[.int .i64 x.kind,.int .i64 x.line,.int .i64 x.op,.int .i64 x.num,.string x.s,.slice NA x.names.length nc,.slice KA kn kc] 54)) W)=>xD (dA _) h)
 have B0:=aa (bu w (.cells #[.int .i64 x.kind,.int .i64 x.line,.int .i64 x.op,.int .i64 x.num,.string x.s,.slice NA x.names.length nc,.slice KA kn kc] 54));cases e1:(bits .andNot .i64 G F != 0) with
 | true =>
  go_enter Tryz.func31,Tryz.ntmps31
  go_wp2_with (go_at_call 62;refine(HFo.out _).mono ?_;rintro e w' ⟨rfl,rfl⟩)
  refine(HGi.out _).mono ?_;rintro e w1 ⟨rfl,b1⟩;rw[ao] at b1;have B1:=aa (B0.out.trans (b1.mono (iG _)));obtain⟨c0,c1,c2,c3,c4,c5,c6⟩:=mw.out _ b1;clear b1;go_wp2_with fail
  go_ret
  exact⟨rfl,B1.out⟩
 | false =>
  have key:((bits .and .i64 F 16 != 0)=true∧S=false)∨((bits .and .i64 F 16 != 0)=true∧S=true)∨(bits .and .i64 F 16 != 0)=false:=by
   cases (bits .and .i64 F 16 != 0)<;>cases S<;>simp
  rcases key with ⟨e2,rfl⟩|hh
  ·rw[e2]
   go_enter Tryz.func31,Tryz.ntmps31
   go_wp2_with (go_at_call 62;refine(HFo.out _).mono ?_;rintro e w' ⟨rfl,rfl⟩)
   refine(HGi.out _).mono ?_;rintro e w1 ⟨rfl,b1⟩;rw[ao] at b1;have B1:=aa (B0.out.trans (b1.mono (iG _)));obtain⟨c0,c1,c2,c3,c4,c5,c6⟩:=mw.out _ b1;clear b1;go_wp2_with (go_at_call 64;refine(HSn.out _).mono ?_;rintro e w' ⟨rfl,rfl⟩)
   go_ret
   exact⟨rfl,B1.out⟩
  ·have hval:(!(bits .and .i64 F 16 != 0) || S)=true:=by
    rcases hh with ⟨h1,rfl⟩|h1<;>rw[h1]<;>simp
   rw[hval];clear hval;simp only[Bool.not_false,kP];rcases hh with ⟨e2,rfl⟩|e2;all_goals
    go_enter Tryz.func31,Tryz.ntmps31
    go_wp2_with (go_at_call 62;refine(HFo.out _).mono ?_;rintro e w' ⟨rfl,rfl⟩)
    refine(HGi.out _).mono ?_;rintro e w1 ⟨rfl,b1⟩;rw[ao] at b1;have BW:=aa b1;have B1:=aa (B0.out.trans (b1.mono (iG _)));have Dc:=b1.size;rw[ao] at Dc;obtain⟨c0,c1,c2,c3,c4,c5,c6⟩:=mw.out _ b1;clear b1;go_wp2_with (go_at_call 64;refine(HSn.out _).mono ?_;rintro e w' ⟨rfl,rfl⟩)
    clear c0 c1 c2 c3 c4 c5 c6;go_loop [28] (fun i=>∃k:Nat,k≤x.names.length∧i=.int .i64 (k:Int)∧(x.names.drop k).all gJ=AL) (fun i=>x.names.length-(intOf i).toNat)
    case atStart=>exact⟨0,bg _,rfl,HAL.out.symm⟩
    case round =>
     obtain⟨k,hk,rfl,ha⟩:=hrel;have HA:=aa ha;clear ha;by_cases hlt:k<x.names.length
     ·obtain⟨y,hy⟩ :∃y,x.names[k]? = some y:=⟨x.names[k],bt hlt⟩
      rcases HNA.out with h0 | ⟨b2,o2,rfl,hb2,hc2⟩
      ·rw[h0] at hlt;exact absurd hlt (iF _)
      have ck:=(B1.out.cell (p:=⟨b2,o2+k,none⟩) hb2).trans (hc2 k _ hy);have HST:=aa (xC (p:=gJ) hy);have HN:=aa (xB y w1);cases hb:gJ y with
      | true =>
       rw[hb] at HN HST;rw[kP] at HST;clear hc2 hy hb;go_wp2_with (go_at_call 64;refine HN.out.mono ?_;rintro e w' ⟨rfl,rfl⟩)
       go_round
       case rel=>exact⟨k+1,by omega,by go_num,by rw[←HST.out];exact HA.out⟩
       case measure=>simp[intOf];omega
      | false =>
       rw[hb] at HN HST;rw[Ad] at HST;clear hc2 hy hb;go_wp2_with (go_at_call 64;refine HN.out.mono ?_;rintro e w' ⟨rfl,rfl⟩)
       go_ret
       exact⟨cM (by rw[←HA.out,HST.out];rfl),B1.out⟩
     ·have hd:(x.names.drop k).all gJ=true:=by
       rw[mn (by omega)];rfl
      have hal:AL=true:=by rw[←HA.out,hd]
      subst hal;clear hd;obtain⟨c0,c1,c2,c3,c4,c5,c6⟩:=mw.out _ BW.out;go_wp2_with fail
      refine(VW.out _).mono ?_;rintro e w2 ⟨rfl,b2⟩;have lE:=aa (jj BW.out (by rw[ao];exact ag _) b2)
      have B2:=aa (jj B1.out (ag _) b2);clear c0 c1 c2 c3 c4 c5 c6 b2;cases O with
      | false =>
       go_wp2_with fail
       go_ret
       exact⟨rfl,B2.out⟩
      | true =>
       obtain⟨c0,c1,c2,c3,c4,c5,c6⟩:=mw.out _ lE.out;go_wp2_with fail
       refine(HCo.out _).mono ?_;rintro e w3 ⟨rfl,b3⟩;have RO:=aa (jj lE.out (by rw[ao];exact ag _) b3)
       have B3:=aa (jj B2.out (ag _) b3);clear c0 c1 c2 c3 c4 c5 c6 b3;cases C with
       | false =>
        go_wp2_with fail
        go_ret
        exact⟨rfl,B3.out⟩
       | true =>
        obtain⟨c0,c1,c2,c3,c4,c5,c6⟩:=mw.out _ RO.out;go_wp2_with fail
        refine(HNm.out _).mono ?_;rintro e w4 ⟨rfl,b4⟩;have B4:=aa (jj B3.out (ag _) b4);clear c0 c1 c2 c3 c4 c5 c6 b4;go_wp2_with fail
        go_ret
        exact⟨by simp,B4.out⟩
def flB (F:Int) (a b c d nb na o:Bool):Bool:=!(bits .andNot .i64 (Yd a b c d) F != 0) && (!(bits .and .i64 F 16 != 0) || nb) && na && o
theorem nG {k:Int} (h:gI (gM k) 1=true):tM k:=by
 unfold tM;unfold gM at h;repeat' split at h
 all_goals first|omega|exact absurd h (by decide +kernel)
theorem aaE {k:Int} (h:gI (gM k) 2=true):k=7∨k=8:=by
 unfold gM at h;repeat' split at h
 all_goals first|omega|exact absurd h (by decide +kernel)
theorem aaF {k:Int} (h:gI (gM k) 4=true):k=9∨k=10:=by
 unfold gM at h;repeat' split at h
 all_goals first|omega|exact absurd h (by decide +kernel)
theorem aaG {k:Int} (h:gI (gM k) 8=true):k=11:=by
 unfold gM at h;repeat' split at h
 all_goals first|omega|exact absurd h (by decide +kernel)
theorem Ye {k:Int} (h:gI (gM k) 16=true):k=16∨k=17:=by
 unfold gM at h;repeat' split at h
 all_goals first|omega|exact absurd h (by decide +kernel)
theorem vj {k:Int} (h:gI (gM k) 32=true):k=18:=by
 unfold gM at h;repeat' split at h
 all_goals first|omega|exact absurd h (by decide +kernel)
theorem Yf {k:Int} (h:gI (gM k) 64=true):StK k:=by
 unfold StK;unfold gM at h;repeat' split at h
 all_goals first|omega|exact absurd h (by decide +kernel)
theorem Sn {k:Int} (h:gI (gM k) 128=true):k=29:=by
 unfold gM at h;repeat' split at h
 all_goals first|omega|exact absurd h (by decide +kernel)
theorem Bg {r most:Int} :∀(f:Nat) (t:Int) (ks:List Int),∃a,ks=a++(kD [r] most f t ks).2∧(kD [r] most f t ks).1=t+(a.length:Int)∧(∀x∈a,gI x r=true)∧(a=[]∨t+(a.length:Int)≤most):=by
 intro f;induction f with
 | zero=>intro t ks;exact⟨[],rfl,by rw[kD];simp,fun x hx=>by simp at hx,.inl rfl⟩
 | succ f ih =>
  intro t ks;rw[kD];split
  ·rename_i hc
   obtain⟨h1,h2⟩:=hc;cases ks with
   | nil=>cases h2
   | cons k ks =>
    rw[iW,dk] at h2;obtain⟨a,e1,e2,e3,e4⟩:=ih (t+1) ks;refine⟨k::a,?_,?_,fun x hx=>?_,.inr ?_⟩
    ·show k::ks=k::(a++(kD [r] most f (t+1) ks).2)
     rw[←e1]
    ·show(kD [r] most f (t+1) ks).1=_
     rw[e2,List.length_cons];omega
    ·rcases ba.1 hx with rfl|hx
     ·exact h2.1
     ·exact e3 x hx
    ·rw[List.length_cons]
     rcases e4 with e4|e4
     ·subst e4
      simp;omega
     ·omega
  ·exact⟨[],rfl,by simp,fun x hx=>by simp at hx,.inl rfl⟩
theorem Bh {r s most:Int} :∀(f:Nat) (t:Int) (ks:List Int),∃ps:List (Int×Int),ks=(ps.flatMap fun p=>[p.1,p.2])++(kD [r,s] most f t ks).2∧(kD [r,s] most f t ks).1=t+(ps.length:Int)∧(∀p∈ps,gI p.1 r=true∧gI p.2 s=true)∧(ps=[]∨t+(ps.length:Int)≤most):=by
 intro f;induction f with
 | zero=>intro t ks;exact⟨[],rfl,by rw[kD];simp,fun x hx=>by simp at hx,.inl rfl⟩
 | succ f ih =>
  intro t ks;rw[kD];split
  ·rename_i hc
   obtain⟨h1,h2⟩:=hc;match ks,h2 with
   | [],h2=>cases h2
   | [k],h2=>rw[iW,iW,dk] at h2;exact absurd h2.2 (by simp)
   | k::l::ks,h2 =>
    rw[iW,iW,dk,dk] at h2;obtain⟨a,e1,e2,e3,e4⟩:=ih (t+1) ks;refine⟨(k,l)::a,?_,?_,fun x hx=>?_,.inr ?_⟩
    ·show k::l::ks=k::l::((a.flatMap fun p=>[p.1,p.2])++(kD [r,s] most f (t+1) ks).2)
     rw[←e1]
    ·show(kD [r,s] most f (t+1) ks).1=_
     rw[e2,List.length_cons];omega
    ·rcases ba.1 hx with rfl|hx
     ·exact⟨h2.1,h2.2.1⟩
     ·exact e3 x hx
    ·rw[List.length_cons]
     rcases e4 with e4|e4
     ·subst e4
      simp;omega
     ·omega
  ·exact⟨[],rfl,by simp,fun x hx=>by simp at hx,.inl rfl⟩
theorem gK {a most r:Int} {l:List Int} (h:fB [(a,most,[r])] l=true):(∀x∈l,gI x r=true)∧a≤(l.length:Int)∧(l=[]∨(l.length:Int)≤most):=by
 rw[fB,fB,dk] at h;obtain⟨h1,h2⟩:=h;obtain⟨b,e1,e2,e3,e4⟩:=Bg (r:=r) (most:=most) (l.length+1) 0 l;have h3:=EP.1 h2;have h1:=gT h1;have e5:(kD [r] most (l.length+1) 0 l).2=[]:=h3;rw[e5,j4] at e1;have h1:a≤(kD [r] most (l.length+1) 0 l).1:=h1;rw[e2] at h1;subst e1;exact⟨e3,by omega,e4.imp id (by omega)⟩
theorem qB {a most r b Bi s:Int} {l:List Int} (h:fB [(a,most,[r]),(b,Bi,[s])] l=true) :∃l1 l2,l=l1++l2∧(∀x∈l1,gI x r=true)∧a≤(l1.length:Int)∧(l1=[]∨(l1.length:Int)≤most)∧(∀x∈l2,gI x s=true)∧b≤(l2.length:Int)∧(l2=[]∨(l2.length:Int)≤Bi):=by
 rw[fB,dk] at h;obtain⟨h1,h2⟩:=h;obtain⟨c,e1,e2,e3,e4⟩:=Bg (r:=r) (most:=most) (l.length+1) 0 l;have h1:a≤(kD [r] most (l.length+1) 0 l).1:=gT h1;obtain⟨k1,k2,k3⟩:=gK h2;rw[e2] at h1;exact⟨c,_,e1,e3,by omega,e4.imp id (by omega),k1,k2,k3⟩
theorem MV {a most r s b Bi q:Int} {l:List Int} (h:fB [(a,most,[r,s]),(b,Bi,[q])] l=true) :∃(ps:List (Int×Int)) (l2:List Int),l=(ps.flatMap fun p:Int×Int=>[p.1,p.2])++l2∧(∀p∈ps,gI p.1 r=true∧gI p.2 s=true)∧a≤(ps.length:Int)∧(∀x∈l2,gI x q=true)∧b≤(l2.length:Int)∧(l2=[]∨(l2.length:Int)≤Bi):=by
 rw[fB,dk] at h;obtain⟨h1,h2⟩:=h;obtain⟨c,e1,e2,e3,e4⟩:=Bh (r:=r) (s:=s) (most:=most) (l.length+1) 0 l;have h1:a≤(kD [r,s] most (l.length+1) 0 l).1:=gT h1;obtain⟨k1,k2,k3⟩:=gK h2;rw[e2] at h1;exact⟨c,_,e1,e3,by omega,k1,k2,k3⟩
theorem vk {r s:Int} {l:List Int} (h:fB [(1,1,[r,s])] l=true) :∃a b,l=[a,b]∧gI a r=true∧gI b s=true:=by
 rw[fB,fB,dk] at h;obtain⟨h1,h2⟩:=h;obtain⟨c,e1,e2,e3,e4⟩:=Bh (r:=r) (s:=s) (most:=1) (l.length+1) 0 l;have h1:1≤(kD [r,s] 1 (l.length+1) 0 l).1:=gT h1;have h3:(kD [r,s] 1 (l.length+1) 0 l).2=[]:=EP.1 h2;rw[e2] at h1;rw[h3,j4] at e1;match c,e1,e3,e4,h1 with
 | [p],e1,e3,_,_=>exact⟨p.1,p.2,e1,e3 p (bR.2 rfl)⟩
 | [],_,_,_,h1=>simp at h1
 | _::_::_,_,_,e4,_ =>
  rcases e4 with e4|e4
  ·cases e4
  ·simp at e4;omega
theorem oa {l:List Int} (h:1≤(l.length:Int)) (h':l=[]∨(l.length:Int)≤1):l.length=1:=by
 rcases h' with h'|h'
 ·rw[h'] at h;simp at h
 ·omega
theorem oc {kk:List Int} {p:Int→Prop} (h:(kk.map gM).length=1) (hp :∀x∈kk,p x) :∃a,kk=[a]∧p a:=by
 match kk,h,hp with
 | [a],_,hp=>exact⟨a,rfl,hp a (bR.2 rfl)⟩
 | [],h,_=>cases h
 | _::_::_,h,_=>simp at h
theorem MW {l:List Int} {n:Int} (h:n≤(l.length:Int)) (h':l.map gM=[]∨(l.length:Int)≤n) (hn:1≤n):(l.length:Int)=n:=by
 rcases h' with h'|h'
 ·rw[kM] at h'
  subst h';simp at h;omega
 ·omega
theorem So {k n:Int} {kk:List Int} (h:pw k n (kk.map gM)=true):qh k n kk:=by
 have all :∀{r:Int} {p:Int→Prop},(∀{k},gI (gM k) r=true→p k)→∀{l:List Int},(∀x∈l.map gM,gI x r=true)→∀a∈l,p a:=fun hp l hl a ha=>hp (hl _ (j3 ha))
 unfold pw at h;refine⟨fun e=>?_,fun e=>?_,fun e=>?_,fun e=>?_,fun e=>?_,fun e=>?_,fun e=>?_,fun e=>?_,fun e=>?_,fun e=>?_,fun e=>?_,fun e=>?_,fun e=>?_,fun e=>?_,fun e=>?_,fun e=>?_⟩
 ·rw[show aY k n=[] by unfold aY;repeat rw[ae (by omega)]] at h
  rw[fB] at h;exact kM.1 (EP.1 h)
 ·rw[show aY k n=[(1,1,[1,1])] by rcases e with rfl|rfl|rfl<;>simp[aY]] at h
  obtain⟨a,b,e1,e2,e3⟩:=vk h;match kk,e1 with
  | [x,y],e1 =>
   injection e1 with e4 e5;injection e5 with e5 _;exact⟨x,y,rfl,nG (by rw[e4];exact e2),nG (by rw[e5];exact e3)⟩
  | [],e1=>cases e1
  | [_],e1=>cases e1
  | _::_::_::_,e1=>cases e1
 ·rw[show aY k n=[(1,big,[1])] by rcases e with rfl|rfl<;>simp[aY]] at h
  obtain⟨h1,h2,_⟩:=gK h;rw[bS] at h2;exact⟨by omega,all nG h1⟩
 ·rw[show aY k n=[(1,1,[32])] by rcases e with rfl|rfl<;>simp[aY]] at h
  obtain⟨h1,h2,h3⟩:=gK h;obtain⟨a,e1,e2⟩:=oc (kk:=kk) (oa h2 h3) (all vj h1);rw[e1,e2]
 ·rw[show aY k n=[(1,1,[1])] by rcases e with rfl|rfl|rfl<;>simp[aY]] at h
  obtain⟨h1,h2,h3⟩:=gK h;exact oc (kk:=kk) (oa h2 h3) (all nG h1)
 ·rw[show aY k n=[(0,big,[16])] by rw[e];simp[aY]] at h
  exact all Ye (gK h).1
 ·rw[show aY k n=[(0,big,[64]),(0,1,[128])] by rw[e];simp[aY]] at h
  obtain⟨l1,l2,e1,h1,_,_,h2,h3,h4⟩:=qB h;obtain⟨k1,k2,rfl,rfl,rfl⟩:=wT.1 e1;refine⟨k1,k2,rfl,all Yf h1,?_⟩;have h5:=all Sn h2;match k2,h4,h5 with
  | [],_,_=>exact .inl rfl
  | [a],_,h5=>exact .inr (by rw[h5 a (bR.2 rfl)])
  | _::_::_,h4,_ =>
   rcases h4 with h4|h4
   ·cases h4
   ·simp at h4;omega
 ·rw[show aY k n=[(0,big,[1])] by rcases e with rfl|rfl<;>simp[aY]] at h
  exact all nG (gK h).1
 ·rw[show aY k n=[(n,n,[2]),(1,big,[1])] by rw[e];simp[aY]] at h
  obtain⟨l1,l2,e1,h1,h1a,Sp,h2,h3,h4⟩:=qB h;obtain⟨k1,k2,rfl,rfl,rfl⟩:=wT.1 e1;rw[bS] at *;exact⟨k1,k2,rfl,all aaE h1,MW h1a Sp,by omega,all nG h2⟩
 ·rw[show aY k n=[(1,1,[4])] by rw[e];simp[aY]] at h
  obtain⟨h1,h2,h3⟩:=gK h;exact oc (kk:=kk) (oa h2 h3) (all aaF h1)
 ·rw[show aY k n=[(1,1,[1,32])] by rw[e];simp[aY]] at h
  obtain⟨a,b,e1,e2,e3⟩:=vk h;match kk,e1 with
  | [x,y],e1 =>
   injection e1 with e4 e5;injection e5 with e5 _;exact⟨x,by rw[vj (k:=y) (by rw[e5];exact e3)],nG (by rw[e4];exact e2)⟩
  | [],e1=>cases e1
  | [_],e1=>cases e1
  | _::_::_::_,e1=>cases e1
 ·rw[show aY k n=[(1,1,[32,1])] by rw[e];simp[aY]] at h
  obtain⟨a,b,e1,e2,e3⟩:=vk h;match kk,e1 with
  | [x,y],e1 =>
   injection e1 with e4 e5;injection e5 with e5 _;exact⟨y,by rw[vj (k:=x) (by rw[e4];exact e2)],nG (by rw[e5];exact e3)⟩
  | [],e1=>cases e1
  | [_],e1=>cases e1
  | _::_::_::_,e1=>cases e1
 ·rw[show aY k n=[(1,big,[1,32]),(0,1,[32])] by rw[e];simp[aY]] at h
  obtain⟨ps,l2,e1,h1,h2,h3,_,h4⟩:=MV h;obtain⟨k1,k2,rfl,e2,rfl⟩:=wT.1 e1;have key :∀(ps:List (Int×Int)) (k1:List Int),k1.map gM=(ps.flatMap fun p=>[p.1,p.2])→(∀p∈ps,gI p.1 1=true∧gI p.2 32=true)→∃qs:List (Int×Int),k1=(qs.flatMap fun p=>[p.1,p.2])∧qs.length=ps.length∧∀p∈qs,tM p.1∧p.2=18:=by
   intro ps;induction ps with
   | nil=>intro k1 e _;exact⟨[],kM.1 e,rfl,fun p hp=>by simp at hp⟩
   | cons p ps ih =>
    intro k1 e hp;match k1,e with
    | [],e=>exact absurd (az List.length e) (by simp)
    | [_],e=>exact absurd (az List.length e) (by simp)
    | x::y::k1,e =>
     have e:gM x::gM y::k1.map gM=p.1::p.2::(ps.flatMap fun p=>[p.1,p.2]):=e
     have a1:=(Ae e).1;have a2:=(Ae (Ae e).2).1;have e:=(Ae (Ae e).2).2;obtain⟨qs,b1,b2,b3⟩:=ih k1 e fun q hq=>hp q (bQ _ hq)
     have h0:=hp p (bH ..);refine⟨(x,y)::qs,by rw[b1];rfl,by simp[b2],fun q hq=>?_⟩
     rcases ba.1 hq with rfl|hq
     ·exact⟨nG (by rw[a1];exact h0.1),vj (by rw[a2];exact h0.2)⟩
     ·exact b3 q hq
  obtain⟨qs,b1,b2,b3⟩:=key ps k1 e2 h1;refine⟨qs,k2,by rw[b1],by omega,b3,?_⟩
  have h5:=all vj h3;match k2,h4,h5 with
  | [],_,_=>exact .inl rfl
  | [a],_,h5=>exact .inr (by rw[h5 a (bR.2 rfl)])
  | _::_::_,h4,_ =>
   rcases h4 with h4|h4
   ·cases h4
   ·simp at h4;omega
 ·rw[show aY k n=[(2,3,[1]),(1,1,[32])] by rw[e];simp[aY]] at h
  obtain⟨l1,l2,e1,h1,h1a,Sp,h2,h3,h4⟩:=qB h;obtain⟨k1,k2,rfl,rfl,rfl⟩:=wT.1 e1;obtain⟨a,e2,e3⟩:=oc (kk:=k2) (oa h3 h4) (all vj h2);rw[bS] at *;refine⟨k1,by rw[e2,e3],?_,all nG h1⟩
  rcases Sp with Sp|Sp
  ·rw[kM] at Sp
   subst Sp;simp at h1a
  ·omega
 ·rw[show aY k n=[(n,n,[1]),(1,1,[32])] by rw[e];simp[aY]] at h
  obtain⟨l1,l2,e1,h1,h1a,Sp,h2,h3,h4⟩:=qB h;obtain⟨k1,k2,rfl,rfl,rfl⟩:=wT.1 e1;obtain⟨a,e2,e3⟩:=oc (kk:=k2) (oa h3 h4) (all vj h2);rw[bS] at *;exact⟨k1,by rw[e2,e3],MW h1a Sp,all nG h1⟩
 ·rw[show aY k n=[(1,1,[8])] by rw[e];simp[aY]] at h
  obtain⟨h1,h2,h3⟩:=gK h;obtain⟨a,e1,e2⟩:=oc (kk:=kk) (oa h2 h3) (all aaG h1);rw[e1,e2]
def Yg (F:Int):Prop:=F=0∨F=1∨F=2∨F=4∨F=8∨F=10∨F=20
theorem Sq (k:Int):Yg (kF k):=by
 unfold Yg kF;repeat' split
 all_goals decide
theorem Sr {F:Int} (hF:Yg F) {a b c d nb na o:Bool} (h:flB F a b c d nb na o=true):(a=true→F=1)∧(b=true→F=2∨F=10)∧(c=true→F=4∨F=20)∧(d=true→F=8∨F=10)∧(F=20→nb=true)∧na=true∧o=true:=by
 rcases hF with rfl|rfl|rfl|rfl|rfl|rfl|rfl<;>cases a<;>cases b<;>cases c<;>cases d<;>cases nb<;>cases na<;>cases o<;>first|exact absurd h (by decide +kernel)|(clear h;decide)
structure aaH (x:Nd):Prop where
 op:x.op≠0→x.kind=12∨x.kind=13
 num:x.num≠0→x.kind=4∨x.kind=11∨x.kind=20∨x.kind=27
 s:x.s≠⟨#[]⟩→x.kind=5∨x.kind=7∨x.kind=10∨x.kind=31∨x.kind=32
 names:x.names≠[]→x.kind=11∨x.kind=19∨x.kind=26∨x.kind=27∨x.kind=28
 name:(x.kind=7∨x.kind=10∨x.kind=31∨x.kind=32)→gJ x.s=true
 all :∀y∈x.names,gJ y=true
 bin:x.kind=12→1≤x.op∧x.op≤19
 una:x.kind=13→20≤x.op∧x.op≤23
 many:x.kind=11→x.num=0∨x.num=1
 count:(x.kind=20∨x.kind=27)→1≤x.num
 least:(x.kind=19∨x.kind=27)→1≤x.names.length
 just:(x.kind=26∨x.kind=28)→x.names.length=1
theorem Bj {x:Nd} (h:cL x=true):aaH x:=by
 have h:flB (kF x.kind) (x.op != 0) (x.num != 0) (!x.s.toList.isEmpty) (decide (0<x.names.length)) (gJ x.s) (x.names.all gJ) (Yc x.kind x.op && pA x.kind x.num && pB x.kind x.names.length)=true:=h;obtain⟨h1,h2,h3,h4,h5,h6,h7⟩:=Sr (Sq _) h;rw[dk,dk] at h7;obtain⟨⟨h7,h8⟩,h9⟩:=h7;have F1:kF x.kind=1→x.kind=12∨x.kind=13:=fun e=>by
  unfold kF at e;repeat' split at e
  all_goals first|assumption|(exfalso;revert e;decide)
 have F2:kF x.kind=2→x.kind=4∨x.kind=20:=fun e=>by
  unfold kF at e;repeat' split at e
  all_goals first|assumption|(exfalso;revert e;decide)
 have F10:kF x.kind=10→x.kind=11∨x.kind=27:=fun e=>by
  unfold kF at e;repeat' split at e
  all_goals first|assumption|(exfalso;revert e;decide)
 have F8:kF x.kind=8→x.kind=19∨x.kind=26∨x.kind=28:=fun e=>by
  unfold kF at e;repeat' split at e
  all_goals first|assumption|(exfalso;revert e;decide)
 have F20:kF x.kind=20→x.kind=7∨x.kind=10∨x.kind=31∨x.kind=32:=fun e=>by
  unfold kF at e;repeat' split at e
  all_goals first|assumption|(exfalso;revert e;decide)
 have F4:kF x.kind=4→x.kind=5:=fun e=>by
  unfold kF at e;repeat' split at e
  all_goals first|assumption|(exfalso;revert e;decide)
 refine⟨fun e=>F1 (h1 (by simpa using e)),fun e=>?_,fun e=>?_,fun e=>?_,fun e=>h5 ?_,fun y hy=>List.all_eq_true.1 h6 y hy,fun e=>?_,fun e=>?_,fun e=>?_,fun e=>?_,fun e=>?_,fun e=>?_⟩
 ·rcases h2 (by simpa using e) with e|e
  ·have:=F2 e;omega
  ·have:=F10 e;omega
 ·have e':(!x.s.toList.isEmpty)=true:=by
   cases hs:x.s.toList with
   | nil =>
    exfalso;apply e;rw[Lib.toList_data] at hs;cases hx:x.s with
    | mk a =>
     rw[hx] at hs;have:a=#[]:=Array.toList_eq_nil_iff.1 hs;rw[this]
   | cons a l=>rfl
  rcases h3 e' with e|e
  ·have:=F4 e;omega
  ·have:=F20 e;omega
 ·rcases h4 (bN (wV.2 e)) with e|e
  ·have:=F8 e;omega
  ·have:=F10 e;omega
 ·unfold kF
  rw[ae (by omega),ae (by omega),ae (by omega),ae (by omega),aj e]
 ·unfold Yc at h7
  rw[aj e,dk] at h7;exact⟨gT h7.1,gT h7.2⟩
 ·unfold Yc at h7
  rw[ae (by omega),aj e,dk] at h7
  exact⟨gT h7.1,gT h7.2⟩
 ·unfold pA at h8
  rw[aj e,Bool.or_eq_true] at h8;rcases h8 with h8|h8
  ·exact .inl (by simpa using h8)
  ·exact .inr (by simpa using h8)
 ·unfold pA at h8
  rw[ae (by omega),aj e] at h8
  exact gT h8
 ·unfold pB at h9
  rw[aj e] at h9;exact gT h9
 ·unfold pB at h9
  rw[ae (by omega),aj e] at h9
  exact gT h9
theorem Bk {T:List Nd} :∀{ks:List Lt},Lt.mW T ks→(ks.map fun k=>(k.loc:Int)).map (fun k=>gM (dB T k.toNat))=(jE ks).map gM
 | [],_=>rfl
 | .mk i h l::ks,hi=>by
  unfold Lt.mW at hi;have h1:=hi.1;unfold Lt.In at h1;unfold jE;rw[dS,dS,dS,dS];have h2:=Bk hi.2;unfold jE at h2;rw[h2];congr 1
  show gM (dB T (((i:Nat):Int)).toNat)=gM h.kind
  rw[gS,lG h1.1]
mutual
theorem xE {T:List Nd} (hT :∀x∈T,pw x.kind x.num (x.kids.map fun k=>gM (dB T k.toNat))=true) :∀(t:Lt),Lt.In T t→t.uL
 | .mk i h ks,hi=>by
  unfold Lt.In at hi;obtain⟨hx,hk,hs⟩:=hi;unfold Lt.uL;have h1:=hT h (aV hx);rw[hk,Bk hs] at h1;exact⟨So h1,vl hT ks hs⟩
theorem vl {T:List Nd} (hT :∀x∈T,pw x.kind x.num (x.kids.map fun k=>gM (dB T k.toNat))=true) :∀(ks:List Lt),Lt.mW T ks→Lt.iu ks
 | [],_=>by unfold Lt.iu;trivial
 | k::ks,hi=>by
  unfold Lt.mW at hi;unfold Lt.iu;exact⟨xE hT k hi.1,vl hT ks hi.2⟩
end
theorem MX {T:List Nd} (hT :∀x∈T,pw x.kind x.num (x.kids.map fun k=>gM (dB T k.toNat))=true) {t:Lt} (hi:Lt.In T t) (hn:t.dr.Nodup) (hk:1≤t.hd.kind∧t.hd.kind≤32):gW T t:=⟨hi,xE hT t hi,VQ hT t hi,hn,hk⟩
theorem tU {f:Nat} {st st':aI} (h:st'.frames=st.frames):cK f st'.frames=cK f st.frames:=by rw[h]
theorem qC {x:List jr} {L:List cO} (h:L≠[]):grow x L≠[]:=by
 cases L with
 | nil=>exact absurd rfl h
 | cons l r=>intro e;cases e
theorem qD {T:List Nd} {B b:Nat} {nv:Value} {ub ob:Nat} (f:Nat) (loop:Int) (pa la:Option Addr) (lc:Nat) (ms:List Nat) (L:List cO) (st:aI) (w:World) (kv:Value) (ks:List Lt) (hr:eU T B b nv ub ob f pa (.slice la L.length lc) ms L st w (Lt.fu ks) (Lt.al ks)) (hn:fE T ks) (hV :∀k∈ks,bA T B b nv ub ob k) (hu:qy B ob (.slice la L.length lc) L.length (ep L) w kv (ks.map fun k=>(k.loc:Int)))
  (hl :∀k∈ks,18≤k.hd.kind→loop=cK f st.frames) (ht :∀k∈ks,L≠[]∨k.hd.kind=18) (wo:ks.length≤20000) :
  Calls Tryz.prog 73 #[.pointer (some ⟨b,0,none⟩),kv,.agg #[.int .i64 (f:Int),.int .i64 loop,.pointer pa,.slice la L.length lc]] w (aq B b nv T.length ub ob (.slice la L.length lc) L st (aG ks f st) w):=by
 have HNK:=aa hu;obtain⟨UA,uc,rfl,Fq,_⟩:=hu;have HR:=aa hr;have HN:=aa hn;have HV:=aa hV;have HL:=aa hl;have kG:=aa ht;simp only[bS] at Fq ⊢;obtain⟨R,hR⟩ :∃R,R=aG ks f st:=⟨_,rfl⟩;have HRS:=aa hR;rw[←hR];have ca:B≤w.heap.size:=by obtain⟨_,_,_,_,_,h,_⟩:=hr.fA.nodes;exact h
 clear hr hn hV hl ht hR;go_enter Tryz.func73,Tryz.ntmps73
 go_wp2_with fail
 have eB:=heap_alloc_new w (.cells #[.int .i64 (f:Int),.int .i64 loop,.pointer pa,.slice la L.length lc] 69);have RM:cQ B ob (.slice la L.length lc) L.length (ep L) w (w.alloc (.cells #[.int .i64 (f:Int),.int .i64 loop,.pointer pa,.slice la L.length lc] 69)):=cQ.bJ ((Below.refl _ _).alloc (ag _) _) ca;have hs1:(w.alloc (.cells #[.int .i64 (f:Int),.int .i64 loop,.pointer pa,.slice la L.length lc] 69)).heap.size=w.heap.size+1:=ao _ _;generalize hW1:w.alloc (.cells #[.int .i64 (f:Int),.int .i64 loop,.pointer pa,.slice la L.length lc] 69)=W1 at eB RM hs1 ⊢;have HF0:=aa RM;have mw:=aa eB;have ji:=aa hW1;clear eB RM hs1 hW1;go_loopw [12] (fun tk wr=>∃(n:Nat) (s1:aI) (x:List jr),tk=.int .i64 (n:Int)∧n≤ks.length∧cQ B ob (.slice la L.length lc) L.length (ep L) W1 wr∧eU T B b nv ub ob f pa (.slice la L.length lc) ms (grow x L) s1 wr (Lt.fu (ks.drop n)) (Lt.al (ks.drop n))∧s1.names=x++st.names∧(L=[]→x=[])∧s1.frames=st.frames∧aG (ks.drop n) f s1=R) (fun tk _=>ks.length-(intOf tk).toNat)
 case atStart =>
  refine⟨0,st,[],rfl,bg _,cQ.refl _ _ _ _ _ _,?_,rfl,fun _=>rfl,rfl,by rw[oM];exact HRS.out.symm⟩
  rw[oM,jF];have h:=HR.out;refine⟨h.fA.below HF0.out.below,?_,?_,h.hd,h.cx,h.few,h.fr,h.names,h.fns,h.fw⟩
  ·obtain⟨fv,FL,hw⟩:=h.rs
   exact⟨fv,FL,by rw[←ji.out];exact hw.alloc _⟩
  ·have h2:cQ B ob (.slice la L.length lc) L.length none w W1:=by rw[←ji.out];exact cQ.bJ ((Below.refl _ _).alloc (ag _) _) ca
   exact⟨h.pos.fw.jk h2 (ag _),h.pos.blk.jk h2 (by simp),h.pos.names,h.pos.apart⟩
 case round =>
  obtain⟨n,s1,x,rfl,zM,hf,hr1,hx1,hx2,mM,Ra⟩:=hrel;have pC:=hf.cells _ _ _ _ mw.out (by decide)
  have p0:=ab pC 0;have p1:=ab pC 1;have p2:=ab pC 2;have p3:=ab pC 3;replace p0:_=some (Value.int .i64 (f:Int)):=p0;replace p1:_=some (Value.int .i64 loop):=p1;replace p2:_=some (Value.pointer pa):=p2;replace p3:_=some (Value.slice la L.length lc):=p3;have HF:=aa hf;have np:=aa hr1;have MY:=aa hx1;have HX2:=aa hx2;have HFR:=aa mM;have Ss:=aa Ra;clear hf hr1 hx1 hx2 mM Ra pC;by_cases hlt:n<ks.length
  ·obtain⟨k,hk⟩ :∃k,ks[n]? = some k:=⟨ks[n],bt hlt⟩
   have oA:=aV hk;have hdr:=drop_at hk;have DF:=aa (HNK.out.later (HF0.out.trans HF.out));obtain⟨A',c',he,_,eD⟩:=DF.out;injection he with qx _ Ms;subst qx Ms;rcases eD with h0 | ⟨sb,so,rfl,hsc⟩
   ·rw[kM] at h0
    rw[h0] at hlt;exact absurd hlt (by simp)
   have cs:wr.cell? ⟨sb,so+n,none⟩=some (.int .i64 (k.loc:Int)):=hsc wr (cQ.refl _ _ _ _ _ _) n _ (by rw[ef,hk];rfl)
   have hrk:=np.out;rw[(qz hk).1,(qz hk).2] at hrk;have aaI:=HN.out.at_ k oA;have bq:=HV.out k oA f loop pa la lc ms (grow x L) s1 wr (by rw[cy];exact hrk.mono (gr _ _) (gr _ _)) (fun h=>(HL.out k oA h).trans (tU HFR.out).symm) ((kG.out k oA).imp qC id)
   rw[cy] at bq;have mz:=aa bq;have HRK:=aa hrk;have HK:=aa aaI;have uI:=aa hdr;have iM:=aa hlt;clear bq hrk aaI hdr hk oA hsc;go_wp2_with fail
   refine mz.out.mono ?_;intro e w2 hp;cases dJ:bh k f s1 with
   | error y =>
    rw[dJ] at hp;obtain⟨hb,v,rfl,g2,rfl,h2⟩:=hp;have H2:=aa h2;have HB:=aa hb;have Yh:=aa dJ;clear h2 hb dJ;go_wp2_with fail
    go_ret
    have hE:R=.error y:=by rw[←Ss.out,uI.out,eQ,Yh.out];rfl
    rw[hE];exact⟨(HF0.out.below.trans HF.out.below).trans HB.out,_,rfl,_,rfl,H2.out⟩
   | ok s2 =>
    rw[dJ] at hp;obtain⟨rfl,y,hy1,hy2,hr2,hf2,rT⟩:=eU.next HRK.out HK.out dJ hp;rw[grow_grow] at hr2;rw[cy,nZ] at hf2;have wD:=aa hr2;have lR:=aa hf2;have HY1:=aa hy1;have HY2:=aa hy2;have acI:=aa rT;have Yh:=aa dJ;clear hp hr2 hf2 hy1 hy2 rT dJ;go_wp2_with fail
    refine⟨⟨n+1,s2,y++x,by go_num,iM.out,HF.out.trans lR.out,wD.out,by rw[HY1.out,MY.out,fI],fun e=>?_,acI.out.trans HFR.out,?_⟩,by have:=iM.out;simp[intOf];omega⟩
    ·rw[HX2.out e,HY2.out (by rw[e];rfl)];rfl
    ·rw[←Ss.out,uI.out,eQ,Yh.out];rfl
  ·have rm:n=ks.length:=by omega
   go_wp2_with fail
   go_ret
   have hE:R=.ok s1:=by rw[←Ss.out,rm,wX,fg]
   rw[hE];exact⟨(HF0.out.below.trans HF.out.below),rfl,np.out.rs,HF0.out.trans HF.out,x,MY.out,HX2.out,np.out.pos.fw⟩
theorem all_nil (b f:Nat) (loop:Int) (pa la A:Option Addr) (ln lc c:Nat) (w:World) :
  Calls Tryz.prog 73 #[.pointer (some ⟨b,0,none⟩),.slice A 0 c,.agg #[.int .i64 (f:Int),.int .i64 loop,.pointer pa,.slice la ln lc]] w fun e w'=>e=.returned .nilIface∧Below w.heap.size w w':=by
 go_enter Tryz.func73,Tryz.ntmps73
 go_wp2_with fail
 go_loopw [12] (fun tk wr=>tk=.int .i64 0∧Below w.heap.size w wr) (fun _ _=>0)
 case atStart=>exact⟨rfl,(Below.refl _ _).alloc (ag _) _⟩
 case round =>
  obtain⟨rfl,hb⟩:=hrel;go_wp2_with fail
  go_ret
  exact⟨rfl,hb⟩
theorem eU.dt {T:List Nd} {B b:Nat} {nv:Value} {ub ob f:Nat} {pa:Option Addr} {lv:Value} {ms:List Nat} {L:List cO} {st:aI} {w w':World} {a s:Nat} (h:eU T B b nv ub ob f pa lv ms L st w a s) (hb:Below w.heap.size w w'):eU T B b nv ub ob f pa lv ms L st w' a s:=by
 have ca:B≤w.heap.size:=by obtain⟨_,_,_,_,_,h,_⟩:=h.fA.nodes;exact h
 have h2:cQ B ob lv L.length none w w':=cQ.bJ hb ca;refine⟨h.fA.below h2.below,?_,⟨h.pos.fw.jk h2 (ag _),h.pos.blk.jk h2 (by simp),h.pos.names,h.pos.apart⟩,h.hd,h.cx,h.few,h.fr,h.names,h.fns,h.fw⟩
 obtain⟨fv,FL,hw⟩:=h.rs;exact⟨fv,FL,hw.later hb⟩
theorem aq.from {B b:Nat} {nv:Value} {N ub ob:Nat} {lv:Value} {L:List cO} {st:aI} {r:Rs aI} {w w1 w2:World} {e:Ending} (hb:Below w.heap.size w w1) (hB:B≤w.heap.size) (h:aq B b nv N ub ob lv L st r w1 e w2):aq B b nv N ub ob lv L st r w e w2:=by
 refine⟨(hb.mono hB).trans h.1,?_⟩;have h2:=h.2;cases r with
 | error y=>exact h2
 | ok s =>
  obtain⟨k1,k2,k3,k4⟩:=h2;exact⟨k1,k2,(cQ.bJ hb hB).trans k3,k4⟩
theorem aq.ret {B b:Nat} {nv:Value} {N ub ob:Nat} {lv:Value} {L:List cO} {st:aI} {r:Rs aI} {w w2:World} {e:Ending} (h:aq B b nv N ub ob lv L st r w e w2) :∃v,e=.returned v:=by
 have h2:=h.2;cases r with
 | error y=>obtain⟨v,h3,_⟩:=h2;exact⟨v,h3⟩
 | ok s=>exact⟨_,h2.1⟩
structure eV (w W:World) (p q:Nat) (f:Nat) (loop:Int) (pa:Option Addr) (lv kv nv:Value) (d0 d1 d2:Value):Prop where
 pos:W.heap[w.heap.size]? = some (.cells #[.int .i64 (f:Int),.int .i64 loop,.pointer pa,lv] 69 (0,0))
 kids :∃a b c d e,W.heap[p]? = some (.cells #[a,b,c,d,e,nv,kv] 54 (0,0))
 dec:W.heap[q]? = some (.cells #[d0,d1,d2] 144 (0,0))
 pne:p=w.heap.size+1
 qne:w.heap.size+1<q
theorem ld {w W0 w1:World} {f:Nat} {loop:Int} {pa:Option Addr} {lv a b c d e nv kv:Value} (hW:W0=(w.alloc (.cells #[.int .i64 (f:Int),.int .i64 loop,.pointer pa,lv] 69)).alloc (.cells #[a,b,c,d,e,nv,kv] 54)) (h1:Below W0.heap.size W0 w1) (d0 d1 d2:Value):Below w.heap.size w (w1.alloc (.cells #[d0,d1,d2] 144))∧eV w (w1.alloc (.cells #[d0,d1,d2] 144)) (w.heap.size+1) w1.heap.size f loop pa lv kv nv d0 d1 d2:=by
 have hs:W0.heap.size=w.heap.size+1+1:=by rw[hW,ao,ao]
 have hb0:Below w.heap.size w W0:=by rw[hW];exact Below.two _ _
 have h0:W0.heap[w.heap.size]? = some (.cells #[.int .i64 (f:Int),.int .i64 loop,.pointer pa,lv] 69 (0,0)):=by
  rw[hW];exact(Below.heap_alloc _ _ _ (by rw[ao];omega)).trans (heap_alloc_new w _)
 have h2:W0.heap[w.heap.size+1]? = some (.cells #[a,b,c,d,e,nv,kv] 54 (0,0)):=by
  rw[hW];have:=heap_alloc_new (w.alloc (.cells #[.int .i64 (f:Int),.int .i64 loop,.pointer pa,lv] 69)) (.cells #[a,b,c,d,e,nv,kv] 54);rwa[ao] at this
 have hl:=h1.size;have hb:=hb0.trans (h1.mono (by omega))
 have k :∀j,j<W0.heap.size→(w1.alloc (.cells #[d0,d1,d2] 144)).heap[j]? = W0.heap[j]?:=fun j hj=>(Below.heap_alloc _ _ _ (by omega)).trans (h1.block j hj)
 exact⟨hb.alloc (by omega) _,(k _ (by omega)).trans h0,⟨_,_,_,_,_,(k _ (by omega)).trans h2⟩,heap_alloc_new _ _,rfl,by omega⟩
theorem eV.cells {w W:World} {p q f:Nat} {loop:Int} {pa:Option Addr} {lv kv nv d0 d1 d2:Value} (h:eV w W p q f loop pa lv kv nv d0 d1 d2):W.cell? ⟨w.heap.size,0,none⟩=some (.int .i64 (f:Int))∧W.cell? ⟨w.heap.size,1,none⟩=some (.int .i64 loop)∧W.cell? ⟨w.heap.size,2,none⟩=some (.pointer pa)∧W.cell? ⟨w.heap.size,3,none⟩=some lv∧W.cell? ⟨p,5,none⟩=some nv∧W.cell? ⟨p,6,none⟩=some kv∧W.cell? ⟨q,0,none⟩=some d0∧W.cell? ⟨q,1,none⟩=some d1∧W.cell? ⟨q,2,none⟩=some d2:=by
 obtain⟨a,b,c,d,e,hk⟩:=h.kids;exact⟨ab h.pos 0,ab h.pos 1,ab h.pos 2,ab h.pos 3,ab hk 5,ab hk 6,ab h.dec 0,ab h.dec 1,ab h.dec 2⟩
theorem eV.on {w W W':World} {p q f:Nat} {loop:Int} {pa:Option Addr} {lv kv nv d0 d1 d2:Value} (h:eV w W p q f loop pa lv kv nv d0 d1 d2) (hk :∀(k:Nat) c (e:TypeId) fz,W.heap[k]? = some (.cells c e fz)→e∉[43,199,225,140,64,3,194]→W'.heap[k]? = some (.cells c e fz)):eV w W' p q f loop pa lv kv nv d0 d1 d2:=by
 obtain⟨a,b,c,d,e,hk5⟩:=h.kids;exact⟨hk _ _ _ _ h.pos (by decide),⟨a,b,c,d,e,hk _ _ _ _ hk5 (by decide)⟩,hk _ _ _ _ h.dec (by decide),h.pne,h.qne⟩
theorem eV.later {w W W':World} {p q f:Nat} {loop:Int} {pa:Option Addr} {lv kv nv d0 d1 d2:Value} (h:eV w W p q f loop pa lv kv nv d0 d1 d2) (hb:Below W.heap.size W W'):eV w W' p q f loop pa lv kv nv d0 d1 d2 :=
 h.on fun k _ _ _ hk _=>(hb.block k (aM.1 hk).1).trans hk
theorem eV.jk {w W W':World} {p q f:Nat} {loop:Int} {pa:Option Addr} {lv kv nv d0 d1 d2:Value} {B ob n:Nat} {v:Value} {top:Option Nat} (h:eV w W p q f loop pa lv kv nv d0 d1 d2) (hf:cQ B ob v n top W W'):eV w W' p q f loop pa lv kv nv d0 d1 d2:=h.on hf.cells
theorem eU.step {T:List Nd} {B b:Nat} {nv:Value} {ub ob f:Nat} {pa:Option Addr} {lv:Value} {ms:List Nat} {L:List cO} {st st':aI} {w w':World} {a s a1 s1:Nat} {e:Ending} (h:eU T B b nv ub ob f pa lv ms L st w (a1+a) (s1+s)) (xi:Mk a1 s1 st st') (we:Cx f st') (hf:st'.frames=st.frames) (hp:aq B b nv T.length ub ob lv L st (.ok st') w e w') :
  e=.returned .nilIface∧∃x,st'.names=x++st.names∧(L=[]→x=[])∧eU T B b nv ub ob f pa lv ms (grow x L) st' w' a s∧cQ B ob lv L.length (ep L) w w':=by
 obtain⟨hb,rfl,Ra,mM,x,hx1,hx2,hx3⟩:=hp;refine⟨rfl,x,hx1,hx2,⟨h.fA.below hb,Ra,h.pos.on mM hx3 hx1 hx2 hf,h.hd.grow x,we,xi.few,fun y hy=>?_,?_,?_,?_⟩,mM⟩
 ·rw[hf] at hy
  exact cw (h.fr y hy) xi.least
 ·have:=xi.names;have:=h.names;omega
 ·have:=xi.fns;have:=h.fns;omega
 ·rw[cy];have:=h.fw;omega
theorem DG {T:List Nd} {B b:Nat} {nv:Value} {ub ob:Nat} (f:Nat) (loop:Int) (pa la:Option Addr) (lc:Nat) (ms:List Nat) (L:List cO) (x:List jr) (st:aI) (w:World) (kv:Value) (ks:List Lt) (hr:eU T B b nv ub ob f pa (.slice la L.length lc) ms (grow x L) st w (Lt.fu ks) (Lt.al ks)) (hn:fE T ks) (hV :∀k∈ks,bA T B b nv ub ob k) (hu:gC w B kv (ks.map fun k=>(k.loc:Int)))
  (hl :∀k∈ks,18≤k.hd.kind→loop=cK f st.frames) (ht :∀k∈ks,L≠[]∨k.hd.kind=18) (wo:ks.length≤20000) :
  Calls Tryz.prog 73 #[.pointer (some ⟨b,0,none⟩),kv,.agg #[.int .i64 (f:Int),.int .i64 loop,.pointer pa,.slice la L.length lc]] w (aq B b nv T.length ub ob (.slice la L.length lc) (grow x L) st (aG ks f st) w):=by
 have:=qD f loop pa la lc ms (grow x L) st w kv ks (by rw[cy];exact hr) hn hV hu.keeps hl (fun k hk=>(ht k hk).imp qC id) wo
 rw[cy] at this;exact this
theorem eU.world {T:List Nd} {B b:Nat} {nv:Value} {ub ob f:Nat} {pa:Option Addr} {lv:Value} {ms:List Nat} {L:List cO} {st:aI} {w:World} {a s:Nat} (h:eU T B b nv ub ob f pa lv ms L st w a s):B≤w.heap.size:=by obtain⟨_,_,_,_,_,h,_⟩:=h.fA.nodes;exact h
theorem oV.iw {W:World} {B f:Nat} {p lv:Value} {ms:List Nat} {l:cO} {r:List cO} {st:aI} (h:oV W B f p lv ms (l::r) st):l.iw.length≤st.names.length:=by
 rw[h.names];show _≤(l.iw++mu r).length
 rw[cb];omega
theorem FG {T:List Nd} {B b:Nat} {nv:Value} {ub ob:Nat} (i f:Nat) (h:Nd) (ks:List Lt) (loop:Int) (pa la:Option Addr) (lc:Nat) (ms:List Nat) (L:List cO) (st:aI) (w:World) (hr:eU T B b nv ub ob f pa (.slice la L.length lc) ms L st w (Lt.fu ks) (Lt.al ks)) (hx:T[i]? = some h) (hk:h.kids=ks.map fun k=>(k.loc:Int)) (hn:fE T ks) (hV :∀k∈ks,bA T B b nv ub ob k)
  (hl :∀k∈ks,18≤k.hd.kind→loop=cK f st.frames) (ht :∀k∈ks,L≠[]∨k.hd.kind=18) (hd:gE h.kind h.kids.length=(false,0,false)) :
  Calls Tryz.prog 35 #[.pointer (some ⟨b,0,none⟩),.int .i64 (i:Int),.agg #[.int .i64 (f:Int),.int .i64 loop,.pointer pa,.slice la L.length lc]] w (aq B b nv T.length ub ob (.slice la L.length lc) L st (aG ks f st) w):=by
 obtain⟨bk,o,c,rfl,dH,ca,dJ⟩:=hr.fA.nodes;obtain⟨u7,u9,eL,⟨NA,nc,wg,_⟩,eW⟩:=dJ i h hx;have rS:h.kids.length≤20000:=(hr.fA.small h (aV hx)).1;have wo:ks.length≤20000:=by rw[hk,bS] at rS;exact rS
 obtain⟨KA,kc,rz,uC,_⟩:=id eW;subst wg rz;obtain⟨x0,x1,x2,x3,x4,x5,x6⟩:=eL;have wC:i<T.length:=(aJ.1 hx).1;have pU:=hr.fA.few;have hbl:b<w.heap.size:=by obtain⟨_,_,hw⟩:=hr.rs;exact hw.mN.1
 have d0:w.cell? ⟨b,0,none⟩=some (.slice (some ⟨bk,o,none⟩) T.length c):=by obtain⟨_,_,hw⟩:=hr.rs;exact ab hw.blk 0
 have gP:bk<w.heap.size:=by omega
 have HD:=aa (gF h.kind h.line h.op h.num h.s NA KA h.names.length nc h.kids.length kc);have HR:=aa hr;have HN:=aa hn;have HV:=aa hV;have HL:=aa hl;have kG:=aa ht;have Iz:=aa eW;have Su:=aa hd;have HK:=aa hk;have tt:Hid (∀W,Below w.heap.size w W→Calls Tryz.prog 73 #[.pointer (some ⟨b,0,none⟩),.slice KA h.kids.length kc,.agg #[.int .i64 (f:Int),.int .i64 loop,.pointer pa,.slice la L.length lc]] W (aq B b (.slice (some ⟨bk,o,none⟩) T.length c) T.length ub ob (.slice la L.length lc) L st (aG ks f st) w)):=aa fun W hW =>
  (qD f loop pa la lc ms L st W (.slice KA h.kids.length kc) ks (hr.dt hW) hn hV (by rw[←hk];exact(eW.below (hW.mono ca)).keeps) hl ht wo).mono fun e w' h=>h.from hW ca
 clear hr hn hV hl ht eW hd dJ hk;go_enter Tryz.func35,Tryz.ntmps35
 go_wp2_with fail
 refine(HD.out _ (by omega)).mono ?_
 rw[Su.out];rintro e w1 ⟨rfl,hb1⟩;have dU:=aa hb1;clear hb1;go_wp2_with fail
 have yW:=ld rfl dU.out (.bool false) (.int .i64 0) (.bool false);have qE:=aa yW.2;have oX:=aa yW.1;clear yW;clear d0 x0 x1 x2 x3 x4 x5 x6;generalize w1.alloc (.cells #[.bool false,.int .i64 0,.bool false] 144)=W2 at qE oX ⊢;generalize w1.heap.size=q at qE ⊢;generalize w.heap.size+1=p at qE ⊢;obtain⟨k0,k1,k2,k3,k4,k5,k6,k7,k8⟩:=qE.out.cells;have hKc:h.kids.length≤kc:=uC;go_still_tail 7,(by kernel_rfl)
 change wpList _ _ _ _ _ W2.drew;have D2:=aa (show Below W2.heap.size W2 W2.drew from(Below.refl _ _).drew)
 generalize W2.drew=W3 at D2 ⊢;go_wp2_with fail
 refine(all_nil b f loop pa la KA L.length lc kc W3).mono ?_;rintro e w4 ⟨rfl,hb4⟩;have B4:=aa (D2.out.trans (hb4.mono D2.out.size));have P4:=aa (qE.out.later B4.out);clear hb4 k0 k1 k2 k3 k4 k5 k6 k7 k8;obtain⟨k0,k1,k2,k3,k4,k5,k6,k7,k8⟩:=P4.out.cells;go_wp2_with fail
 go_still_tail 7,(by kernel_rfl)
 change wpList _ _ _ _ _ w4.drew;have HC:=aa (tt.out w4.drew (oX.out.trans (B4.out.mono oX.out.size)).drew);generalize w4.drew=W5 at HC ⊢;go_wp2_with fail
 refine HC.out.mono ?_;intro e w6 hp;obtain⟨v,rfl⟩:=hp.ret;have HP:=aa hp;clear hp;go_wp2_with fail
 go_ret
 exact HP.out
theorem aq.aaJ {B b:Nat} {nv:Value} {N ub ob:Nat} {lv:Value} {L:List cO} {st:aI} {r:Rs aI} {w w1 w2:World} (h:aq B b nv N ub ob lv L st r w (.returned .nilIface) w1) (hb:Below w1.heap.size w1 w2):aq B b nv N ub ob lv L st r w (.returned .nilIface) w2:=by
 have h2:=h.2;cases r with
 | error y =>
  obtain⟨v,hv,g,rfl,_⟩:=h2;injection hv with hv;cases hv
 | ok s =>
  obtain⟨k1,⟨fv,FL,k2⟩,k3,x,k4,k5,k6⟩:=h2;have hB:B≤w1.heap.size:=by have:=k2.mN.1;have:=k2.pos;omega
  have hf:cQ B ob lv L.length none w1 w2:=cQ.bJ hb hB;exact⟨h.1.trans hf.below,k1,⟨fv,FL,k2.later hb⟩,k3.trans (hf.Fo _),x,k4,k5,k6.jk hf (by rw[cy];exact ag _)⟩
theorem MZ {T:List Nd} {B b:Nat} {nv:Value} {ub ob:Nat} (i f:Nat) (h:Nd) (ks:List Lt) (loop:Int) (pa la:Option Addr) (lc:Nat) (ms:List Nat) (l:cO) (r:List cO) (st:aI) (w:World) (hr:eU T B b nv ub ob f pa (.slice la (l::r).length lc) ms (l::r) st w (h.names.length+Lt.fu ks) (Lt.al ks)) (hx:T[i]? = some h) (hk:h.kids=ks.map fun k=>(k.loc:Int)) (hn:fE T ks) (hV :∀k∈ks,bA T B b nv ub ob k)
  (hl :∀k∈ks,18≤k.hd.kind→loop=cK f st.frames) (hsz :∀s∈h.names,s.size≤65536) (hd:gE h.kind h.kids.length=(true,(h.kids.length:Int),false)) :
  Calls Tryz.prog 35 #[.pointer (some ⟨b,0,none⟩),.int .i64 (i:Int),.agg #[.int .i64 (f:Int),.int .i64 loop,.pointer pa,.slice la (l::r).length lc]] w (aq B b nv T.length ub ob (.slice la (l::r).length lc) (l::r) st ((aG ks f st).bind fun s1=>bz i f h.line h.names s1) w):=by
 obtain⟨bk,o,c,rfl,dH,ca,dJ⟩:=hr.fA.nodes;obtain⟨u7,u9,eL,⟨NA,nc,wg,_⟩,eW⟩:=dJ i h hx;have rS:h.kids.length≤20000:=(hr.fA.small h (aV hx)).1;have wo:ks.length≤20000:=by rw[hk,bS] at rS;exact rS
 obtain⟨KA,kc,rz,uC,_⟩:=id eW;subst wg rz;obtain⟨x0,x1,x2,x3,x4,x5,x6⟩:=eL;have wC:i<T.length:=(aJ.1 hx).1;have pU:=hr.fA.few;have hbl:b<w.heap.size:=by obtain⟨_,_,hw⟩:=hr.rs;exact hw.mN.1
 have d0:w.cell? ⟨b,0,none⟩=some (.slice (some ⟨bk,o,none⟩) T.length c):=by obtain⟨_,_,hw⟩:=hr.rs;exact ab hw.blk 0
 have gP:bk<w.heap.size:=by omega
 have HD:=aa (gF h.kind h.line h.op h.num h.s NA KA h.names.length nc h.kids.length kc);have tt:Hid (∀W,Below w.heap.size w W→Calls Tryz.prog 73 #[.pointer (some ⟨b,0,none⟩),.slice KA h.kids.length kc,.agg #[.int .i64 (f:Int),.int .i64 loop,.pointer pa,.slice la (l::r).length lc]] W (aq B b (.slice (some ⟨bk,o,none⟩) T.length c) T.length ub ob (.slice la (l::r).length lc) (l::r) st (aG ks f st) W)):=aa fun W hW =>
  qD f loop pa la lc ms (l::r) st W (.slice KA h.kids.length kc) ks ((hr.dt hW).mono (wZ _ _) (ag _)) hn hV (by rw[←hk];exact(eW.below (hW.mono ca)).keeps) hl (fun k _=>.inl (by simp)) wo
 have HR:=aa hr;have HN:=aa hn;have HV:=aa hV;have HL:=aa hl;have Iz:=aa eW;have Su:=aa hd;have HK:=aa hk;clear hr hn hV hl eW hd dJ hk;generalize M0:(l::r).length=ln at *;have IA:=aa M0;clear M0;go_enter Tryz.func35,Tryz.ntmps35
 go_wp2_with fail
 refine(HD.out _ (by omega)).mono ?_
 rw[Su.out];rintro e w1 ⟨rfl,hb1⟩;have dU:=aa hb1;clear hb1;go_wp2_with fail
 have yW:=ld rfl dU.out (.bool true) (.int .i64 (h.kids.length:Int)) (.bool false);have qE:=aa yW.2;have oX:=aa yW.1;clear yW;clear d0 x0 x1 x2 x3 x4 x5 x6;generalize w1.alloc (.cells #[.bool true,.int .i64 (h.kids.length:Int),.bool false] 144)=W2 at qE oX ⊢;generalize w1.heap.size=q at qE ⊢;generalize w.heap.size+1=p at qE ⊢;obtain⟨k0,k1,k2,k3,k4,k5,k6,k7,k8⟩:=qE.out.cells;have hKc:h.kids.length≤kc:=uC;go_still_tail 7,(by kernel_rfl)
 change wpList _ _ _ _ _ W2.drew;have D2:=aa (show Below W2.heap.size W2 W2.drew from(Below.refl _ _).drew)
 generalize W2.drew=W3 at D2 ⊢;go_wp2_with fail
 have iL:=aa (oX.out.trans (D2.out.mono oX.out.size));refine(tt.out W3 iL.out).mono ?_;intro e w4 hp;cases oZ:aG ks f st with
 | error y =>
  rw[oZ] at hp;obtain⟨hb,v,rfl,g2,rfl,h2⟩:=hp;have H2:=aa h2;have HB:=aa hb;have HE:Hid (((aG ks f st).bind fun s1=>bz i f h.line h.names s1)=.error y):=aa (by rw[oZ];rfl)
  clear h2 hb oZ;go_wp2_with fail
  go_ret
  rw[HE.out];exact⟨(iL.out.mono ca).trans HB.out,_,rfl,_,rfl,H2.out⟩
 | ok s1 =>
  rw[oZ] at hp;have hr4:=HR.out.dt iL.out;have hst:=(fZ ks oZ HN.out.nodup hr4.cx HN.out.wf).1;obtain⟨rfl,x,hx1,hx2,wE,DH⟩:=eU.step (a1:=Lt.fu ks) (s1:=Lt.al ks) (a:=h.names.length) (s:=0) (by rw[Nat.add_comm];exact hr4) (iJ ks oZ hr4.few) (hst.cx hr4.cx) (kU ks oZ) hp
  have P5:=aa ((qE.out.later D2.out).jk DH);have HB5:=aa ((iL.out.mono ca).trans DH.below);have hdec:Calls Tryz.prog 75 #[.pointer (some ⟨b,0,none⟩),.int .i64 (i:Int),.agg #[.int .i64 (f:Int),.int .i64 loop,.pointer pa,.slice la (l::r).length lc]] w4 (aq B b (.slice (some ⟨bk,o,none⟩) T.length c) T.length ub ob (.slice la (l::r).length lc) (grow x (l::r)) s1 (bz i f h.line h.names s1) w4):=by
   have hsg:oV w4 B f (.pointer pa) (.slice la ln lc) ms ({ l with iw:=x++l.iw}::r) s1:=wE.pos;have hlv:dc w4 B (.slice la ln lc) ({ l with iw:=x++l.iw}::r):=wE.pos.fw;rw[←IA.out] at hlv hsg;exact j7 b i f h loop pa la lc { l with iw:=x++l.iw} r s1 w4 wE.fA wE.rs hx wE.cx.lt hlv (wE.hd _ r rfl) (by have:=wE.fw;rw[cy] at this;exact this) wE.few (by have:=hsg.iw;have:=wE.names;omega) hsz
  rw[IA.out] at hdec;have Yi:=aa hdec;have M4:=aa wE;have M5:=aa DH;have MY:=aa hx1;have HE:Hid (((aG ks f st).bind fun s1=>bz i f h.line h.names s1)=bz i f h.line h.names s1):=aa (by rw[oZ];rfl)
  clear hp hr4 wE DH hst hx1 hx2 oZ hdec k0 k1 k2 k3 k4 k5 k6 k7 k8;obtain⟨k0,k1,k2,k3,k4,k5,k6,k7,k8⟩:=P5.out.cells;go_wp2_with fail
  refine Yi.out.mono ?_;intro e w6 hp;obtain⟨v,rfl⟩:=hp.ret;cases jH:bz i f h.line h.names s1 with
  | error y =>
   have HP:=aa hp;rw[jH] at hp;obtain⟨_,v',hv',g2,rfl,_⟩:=hp;injection hv' with hv';subst hv';clear jH;go_wp2_with fail
   go_ret
   rw[HE.out];exact aq.from iL.out ca (aq.trans (st1:=s1) (x:=x) M5.out.below M5.out MY.out (fun e=>by cases e) HP.out)
  | ok s2 =>
   have HP:=aa hp;rw[jH] at hp;have Rc:=hp.2.2.2.1;have hv':=hp.2.1;injection hv' with hv';subst hv';have P6:=aa (P5.out.jk Rc);clear hp Rc jH k0 k1 k2 k3 k4 k5 k6 k7 k8;obtain⟨k0,k1,k2,k3,k4,k5,k6,k7,k8⟩:=P6.out.cells;go_wp2_with fail
   go_still_tail 7,(by kernel_rfl)
   change wpList _ _ _ _ _ w6.drew;have D6:=aa (show Below w6.heap.size w6 w6.drew from(Below.refl _ _).drew)
   generalize w6.drew=W6 at D6 ⊢;go_wp2_with fail
   all_goals
    refine(all_nil b f loop pa la _ ln lc _ W6).mono ?_;rintro e w7 ⟨rfl,VX⟩;have B7:=aa (D6.out.trans (VX.mono D6.out.size));clear VX;go_wp2_with fail
    go_ret
    rw[HE.out];exact aq.from iL.out ca (aq.trans (st1:=s1) (x:=x) M5.out.below M5.out MY.out (fun e=>by cases e) (HP.out.aaJ B7.out))
theorem M6 {T:List Nd} {B b:Nat} {nv:Value} {ub ob:Nat} (i f:Nat) (h:Nd) (ks:List Lt) (loop:Int) (pa la:Option Addr) (lc:Nat) (ms:List Nat) (l:cO) (r:List cO) (st:aI) (w:World) (hr:eU T B b nv ub ob f pa (.slice la (l::r).length lc) ms (l::r) st w (h.names.length+Lt.fu ks) (Lt.al ks)) (hx:T[i]? = some h) (hk:h.kids=ks.map fun k=>(k.loc:Int)) (hn:fE T ks) (hV :∀k∈ks,bA T B b nv ub ob k)
  (hl :∀k∈ks,18≤k.hd.kind→loop=cK f st.frames) (hsz :∀s∈h.names,s.size≤65536) (hd:gE h.kind h.kids.length=(true,0,false)) :
  Calls Tryz.prog 35 #[.pointer (some ⟨b,0,none⟩),.int .i64 (i:Int),.agg #[.int .i64 (f:Int),.int .i64 loop,.pointer pa,.slice la (l::r).length lc]] w (aq B b nv T.length ub ob (.slice la (l::r).length lc) (l::r) st ((bz i f h.line h.names st).bind fun s1=>aG ks f s1) w):=by
 obtain⟨bk,o,c,rfl,dH,ca,dJ⟩:=hr.fA.nodes;obtain⟨u7,u9,eL,⟨NA,nc,wg,_⟩,eW⟩:=dJ i h hx;have rS:h.kids.length≤20000:=(hr.fA.small h (aV hx)).1;have wo:ks.length≤20000:=by rw[hk,bS] at rS;exact rS
 obtain⟨KA,kc,rz,uC,_⟩:=id eW;subst wg rz;obtain⟨x0,x1,x2,x3,x4,x5,x6⟩:=eL;have wC:i<T.length:=(aJ.1 hx).1;have pU:=hr.fA.few;have hbl:b<w.heap.size:=by obtain⟨_,_,hw⟩:=hr.rs;exact hw.mN.1
 have d0:w.cell? ⟨b,0,none⟩=some (.slice (some ⟨bk,o,none⟩) T.length c):=by obtain⟨_,_,hw⟩:=hr.rs;exact ab hw.blk 0
 have gP:bk<w.heap.size:=by omega
 have HD:=aa (gF h.kind h.line h.op h.num h.s NA KA h.names.length nc h.kids.length kc);have Yi:Hid (∀W,Below w.heap.size w W→Calls Tryz.prog 75 #[.pointer (some ⟨b,0,none⟩),.int .i64 (i:Int),.agg #[.int .i64 (f:Int),.int .i64 loop,.pointer pa,.slice la (l::r).length lc]] W (aq B b (.slice (some ⟨bk,o,none⟩) T.length c) T.length ub ob (.slice la (l::r).length lc) (l::r) st (bz i f h.line h.names st) W)):=aa fun W hW=>by
  have h2:=hr.dt hW;exact j7 b i f h loop pa la lc l r st W h2.fA h2.rs hx h2.cx.lt h2.pos.fw (h2.hd l r rfl) (by have:=h2.fw;omega) h2.few (by have:=h2.pos.iw;have:=h2.names;omega) hsz
 have HR:=aa hr;have HN:=aa hn;have HV:=aa hV;have HL:=aa hl;have Iz:=aa eW;have Su:=aa hd;have HK:=aa hk;clear hr hn hV hl eW hd dJ hk;generalize M0:(l::r).length=ln at *;have IA:=aa M0;clear M0;go_enter Tryz.func35,Tryz.ntmps35
 go_wp2_with fail
 refine(HD.out _ (by omega)).mono ?_
 rw[Su.out];rintro e w1 ⟨rfl,hb1⟩;have dU:=aa hb1;clear hb1;go_wp2_with fail
 have yW:=ld rfl dU.out (.bool true) (.int .i64 0) (.bool false);have qE:=aa yW.2;have oX:=aa yW.1;clear yW;clear d0 x0 x1 x2 x3 x4 x5 x6;generalize w1.alloc (.cells #[.bool true,.int .i64 0,.bool false] 144)=W2 at qE oX ⊢;generalize w1.heap.size=q at qE ⊢;generalize w.heap.size+1=p at qE ⊢;obtain⟨k0,k1,k2,k3,k4,k5,k6,k7,k8⟩:=qE.out.cells;have hKc:h.kids.length≤kc:=uC;go_still_tail 7,(by kernel_rfl)
 change wpList _ _ _ _ _ W2.drew;have D2:=aa (show Below W2.heap.size W2 W2.drew from(Below.refl _ _).drew)
 generalize W2.drew=W3 at D2 ⊢;go_wp2_with fail
 refine(all_nil b f loop pa la KA ln lc kc W3).mono ?_;rintro e w4 ⟨rfl,hb4⟩;have B4:=aa (D2.out.trans (hb4.mono D2.out.size));have P4:=aa (qE.out.later B4.out);clear hb4 k0 k1 k2 k3 k4 k5 k6 k7 k8;obtain⟨k0,k1,k2,k3,k4,k5,k6,k7,k8⟩:=P4.out.cells;have iL:=aa (oX.out.trans (B4.out.mono oX.out.size));go_wp2_with fail
 refine(Yi.out w4 iL.out).mono ?_;intro e w5 hp;cases oZ:bz i f h.line h.names st with
 | error y =>
  rw[oZ] at hp;obtain⟨hb,v,rfl,g2,rfl,h2⟩:=hp;have H2:=aa h2;have HB:=aa hb;have HE:Hid (((bz i f h.line h.names st).bind fun s1=>aG ks f s1)=.error y):=aa (by rw[oZ];rfl)
  clear h2 hb oZ;go_wp2_with fail
  go_ret
  rw[HE.out];exact⟨(iL.out.mono ca).trans HB.out,_,rfl,_,rfl,H2.out⟩
 | ok s1 =>
  rw[oZ] at hp;have hr4:=HR.out.dt iL.out;obtain⟨M8,vm,_⟩:=mX oZ hr4.cx;obtain⟨rfl,x,hx1,hx2,wE,DH⟩:=eU.step (a1:=h.names.length) (s1:=0) (by rw[jg];exact hr4) (jD oZ hr4.few) (M8.cx hr4.cx) vm hp
  have P5:=aa (P4.out.jk DH);have HB5:=aa ((iL.out.mono ca).trans DH.below);have HC:Hid (∀W,Below w5.heap.size w5 W→Calls Tryz.prog 73 #[.pointer (some ⟨b,0,none⟩),.slice KA h.kids.length kc,.agg #[.int .i64 (f:Int),.int .i64 loop,.pointer pa,.slice la ln lc]] W (aq B b (.slice (some ⟨bk,o,none⟩) T.length c) T.length ub ob (.slice la ln lc) (grow x (l::r)) s1 (aG ks f s1) w5)):=aa fun W hW=>by
   have h6:=DG f loop pa la lc ms (l::r) x s1 W (.slice KA h.kids.length kc) ks (by rw[IA.out];exact wE.dt hW) HN.out HV.out (by rw[←HK.out];exact Iz.out.below (HB5.out.trans (hW.mono wE.world))) (fun k hk kJ=>(HL.out k hk kJ).trans (tU vm).symm) (fun k _=>.inl (by simp)) wo
   rw[IA.out] at h6;exact h6.mono fun e w' h=>h.from hW wE.world
  have M5:=aa DH;have MY:=aa hx1;have HE:Hid (((bz i f h.line h.names st).bind fun s1=>aG ks f s1)=aG ks f s1):=aa (by rw[oZ];rfl)
  clear hp hr4 wE DH M8 vm hx1 hx2 oZ k0 k1 k2 k3 k4 k5 k6 k7 k8;obtain⟨k0,k1,k2,k3,k4,k5,k6,k7,k8⟩:=P5.out.cells;go_wp2_with fail
  go_still_tail 7,(by kernel_rfl)
  change wpList _ _ _ _ _ w5.drew;have VY:=aa (HC.out w5.drew (Below.refl _ _).drew);generalize w5.drew=W6 at VY ⊢;go_wp2_with fail
  refine VY.out.mono ?_;intro e w7 hp;obtain⟨v,rfl⟩:=hp.ret;have HP:=aa hp;clear hp;go_wp2_with fail
  go_ret
  rw[HE.out];exact aq.from iL.out ca (aq.trans (st1:=s1) (x:=x) M5.out.below M5.out MY.out (fun e=>by cases e) HP.out)
theorem xF {B:Nat} (f:Nat) (loop:Int) (pa la:Option Addr) (lc:Nat) (L:List cO) (w:World) (hl:dc w B (.slice la L.length lc) L) (hlen:L.length≤100000) (hB:B≤w.heap.size) :
  Calls Tryz.prog 74 #[.agg #[.int .i64 (f:Int),.int .i64 loop,.pointer pa,.slice la L.length lc]] w fun e w'=>∃g c m,e=.returned (.agg #[.int .i64 (f:Int),.int .i64 loop,.pointer pa,.slice (some ⟨g,0,none⟩) (L.length+1) c])∧dc w' B (.slice (some ⟨g,0,none⟩) (L.length+1) c) (⟨f,m,[]⟩::L)∧w.heap.size≤m∧((Value.slice la L.length lc).ownBlock=some g∨w.heap.size≤g)∧(∀ob,cQ B ob (.slice la L.length lc) L.length none w w')∧Fr [194] w w':=by
 have HL:=aa hl;clear hl;have hmm:=@run_makeMap Tryz.prog;obtain⟨o1,ho1⟩ :∃o1,o1=Obj.cells #[.int .i64 (f:Int),.int .i64 loop,.pointer pa,.slice la L.length lc] 69:=⟨_,rfl⟩;obtain⟨o2,Hl⟩ :∃o2,o2=Obj.cells #[.int .i64 0,.int .i64 0,.pointer none,.slice none 0 0] 69:=⟨_,rfl⟩;obtain⟨W3,hW3⟩ :∃W3,W3=((w.alloc o1).alloc o2).alloc (.map #[] 0):=⟨_,rfl⟩;have hs3:W3.heap.size=w.heap.size+1+1+1:=by rw[hW3,ao,ao,ao]
 have hb3:Below w.heap.size w W3:=by rw[hW3];exact Below.three _ _ _
 have hb1:W3.heap[w.heap.size]? = some o1:=by
  rw[hW3];exact(Below.heap_alloc _ _ _ (by rw[ao,ao];omega)).trans ((Below.heap_alloc _ _ _ (by rw[ao];omega)).trans (heap_alloc_new w o1))
 have hb2:W3.heap[w.heap.size+1]? = some o2:=by
  rw[hW3];refine(Below.heap_alloc _ _ _ (by rw[ao,ao];omega)).trans ?_
  have:=heap_alloc_new (w.alloc o1) o2;rwa[ao] at this
 have hmp:dK Tryz.prog 9 W3 (w.heap.size+1+1) 0 (fun _=>none):=by
  have:=dK.made ((w.alloc o1).alloc o2) Tryz.prog 9;rw[ao,ao] at this;rw[hW3];exact this
 have HR3:=aa (rn.row (o:=none) ⟨hb3.size,fun k hk _=>hb3.block k hk⟩ HL.out.row (fun _ _ e=>by cases e))
 have hlt :∀k,(Value.slice la L.length lc).ownBlock=some k→k<w.heap.size:=fun k hk=>(HL.out.row.lt k hk).2
 rw[ho1] at hb1;rw[Hl] at hb2;have dU:=aa hb1;have oX:=aa hb2;have HMP:=aa hmp;have iM:=aa hlt;have yN:=aa hb3;have o0:=aa hs3;rw[ho1,Hl] at hW3;have RO:=aa hW3;clear hb1 hb2 hmp hlt hb3 hs3 hW3 ho1 Hl;go_enter Tryz.func74,Tryz.ntmps74
 go_wp2_with (at_builtin;rw[←RO.out];refine LV W3 ⟨f,w.heap.size+1+1,[]⟩ rfl _ _ rfl B (.slice la L.length lc) L rfl HR3.out (w.heap.size+1+1+1) o0.out.symm rfl (by omega) (by rw[o0.out];omega) ?_;intro g8 c8 w8 r8 b8 VK n8 o8;have IB:=(b8.2 w.heap.size (by rw[o0.out];omega) (fun e=>by have:=iM.out _ e;omega)).trans dU.out;have hres:=(b8.2 (w.heap.size+1) (by rw[o0.out];omega) (fun e=>by have:=iM.out _ e;omega)).trans oX.out;have e0:=ab IB 0;have e1:=ab IB 1;have e2:=ab IB 2;have e3:=ab IB 3;have f3:=aE IB 3;have y0:=ab hres 0;have y1:=ab hres 1;have y2:=ab hres 2;have y3:=ab hres 3;have z0:=aE hres 0;have z1:=aE hres 1;have z2:=aE hres 2;have z3:=aE hres 3;have R8:=aa r8;have B8:=aa b8;have Q7:=aa VK;have N8:=aa n8;have O8:=aa o8;clear r8 b8 VK n8 o8 IB hres)
 refine bodyPost_ret (v:=.agg #[.int .i64 (f:Int),.int .i64 loop,.pointer pa,.slice (some ⟨g8,0,none⟩) (L.length+1) c8]) (by simp[results,Tryz.results74,go_sem,y0,y1,y2,y3]) rfl ?_
 have k1:wc w8 w.heap.size 69:=⟨_,_,(B8.out.2 w.heap.size (by rw[o0.out];omega) (fun e=>by have:=iM.out _ e;omega)).trans dU.out⟩
 have k2:wc w8 (w.heap.size+1) 69:=⟨_,_,(B8.out.2 (w.heap.size+1) (by rw[o0.out];omega) (fun e=>by have:=iM.out _ e;omega)).trans oX.out⟩
 have hF:Fr [69] w8 (((((w8.setCell ⟨w.heap.size,3,none⟩ (.slice (some ⟨g8,0,none⟩) (L.length+1) c8)).setCell ⟨w.heap.size+1,0,none⟩ (.int .i64 (f:Int))).setCell ⟨w.heap.size+1,1,none⟩ (.int .i64 loop)).setCell ⟨w.heap.size+1,2,none⟩ (.pointer pa)).setCell ⟨w.heap.size+1,3,none⟩ (.slice (some ⟨g8,0,none⟩) (L.length+1) c8)) :=
  (k1.fr (by decide) _ _).trans (((k2.set _ _ _).fr (by decide) _ _).trans ((((k2.set _ _ _).set _ _ _).fr (by decide) _ _).trans (((((k2.set _ _ _).set _ _ _).set _ _ _).fr (by decide) _ _).trans ((((((k2.set _ _ _).set _ _ _).set _ _ _).set _ _ _)).fr (by decide) _ _))))
 have hK :∀k,k<w.heap.size→(((((w8.setCell ⟨w.heap.size,3,none⟩ (.slice (some ⟨g8,0,none⟩) (L.length+1) c8)).setCell ⟨w.heap.size+1,0,none⟩ (.int .i64 (f:Int))).setCell ⟨w.heap.size+1,1,none⟩ (.int .i64 loop)).setCell ⟨w.heap.size+1,2,none⟩ (.pointer pa)).setCell ⟨w.heap.size+1,3,none⟩ (.slice (some ⟨g8,0,none⟩) (L.length+1) c8)).heap[k]? = w8.heap[k]?:=fun k hk=>by
  rw[Below.heap_setCell _ _ _ k (by show k≠w.heap.size+1;omega),Below.heap_setCell _ _ _ k (by show k≠w.heap.size+1;omega),Below.heap_setCell _ _ _ k (by show k≠w.heap.size+1;omega),Below.heap_setCell _ _ _ k (by show k≠w.heap.size+1;omega),Below.heap_setCell _ _ _ k (by show k≠w.heap.size;omega)]
 have hO :∀W:World,W.os=w8.os→W.tape=w8.tape→W.output=w8.output→W.os=w.os∧W.tape=w.tape∧W.output=w.output:=fun W h1 h2 h3=>⟨h1.trans (Q7.out.os.trans yN.out.os),h2.trans (Q7.out.tape.trans yN.out.tape),h3.trans (Q7.out.output.trans yN.out.output)⟩
 have hO9:=hO _ (show(((((w8.setCell ⟨w.heap.size,3,none⟩ (.slice (some ⟨g8,0,none⟩) (L.length+1) c8)).setCell ⟨w.heap.size+1,0,none⟩ (.int .i64 (f:Int))).setCell ⟨w.heap.size+1,1,none⟩ (.int .i64 loop)).setCell ⟨w.heap.size+1,2,none⟩ (.pointer pa)).setCell ⟨w.heap.size+1,3,none⟩ (.slice (some ⟨g8,0,none⟩) (L.length+1) c8)).os=w8.os from rfl) rfl rfl
 generalize (((((w8.setCell ⟨w.heap.size,3,none⟩ (.slice (some ⟨g8,0,none⟩) (L.length+1) c8)).setCell ⟨w.heap.size+1,0,none⟩ (.int .i64 (f:Int))).setCell ⟨w.heap.size+1,1,none⟩ (.int .i64 loop)).setCell ⟨w.heap.size+1,2,none⟩ (.pointer pa)).setCell ⟨w.heap.size+1,3,none⟩ (.slice (some ⟨g8,0,none⟩) (L.length+1) c8))=W9 at *;have key :∀k,k<w.heap.size→(Value.slice la L.length lc).ownBlock≠some k→W9.heap[k]? = w.heap[k]?:=fun k hk hn=>(hK k hk).trans ((B8.out.2 k (by rw[o0.out];omega) hn).trans (yN.out.block k hk))
 have far :∀(k:Nat) (o:Obj),w.heap[k]? = some o→(∀c fz,o ≠ .cells c 194 fz)→W9.heap[k]? = some o:=fun k o hk ho=>(key k (aM.1 hk).1 fun e=>by
  obtain⟨c,fz,h1⟩:=Lib.ownsRow_kind HL.out.row k e;rw[hk] at h1;injection h1 with h1;exact ho _ _ h1).trans hk
 refine⟨g8,c8,w.heap.size+1+1,rfl,⟨hF.row R8.out (by decide),fun l hl=>?_,fun l hl n hn=>?_,?_⟩,by omega,N8.out.imp id (fun h=>by rw[o0.out] at h;omega),fun ob=>⟨?_,fun k c e fz hk he=>far k _ hk (fun c' Xt e'=>he (by injection e' with _ e';rw[e'];decide)),fun k c fz hk _=>far k _ hk (fun c' Xt e'=>by injection e' with _ e';exact absurd e' (by decide)),fun u m xs hu hm=>hF.row (O8.out u m xs (rn.row (o:=none) ⟨yN.out.size,fun k hk _=>yN.out.block k hk⟩ hu (fun _ _ e=>by cases e)) hm) (by decide),fun k es c hk _=>far k _ hk (fun _ _ e=>by cases e)⟩,⟨?_,fun k c e fz hk he=>far k _ hk (fun c' Xt e'=>he (by injection e' with _ e';rw[e'];exact bR.2 rfl)),fun k o hk ho=>far k _ hk (fun c' Xt=>ho c' _ Xt)⟩⟩
 ·rcases ba.1 hl with rfl|hl
  ·refine⟨hF.map (HMP.out.same (B8.out.2 _ (by rw[o0.out];omega) fun e=>by have:=iM.out _ e;omega)),by show B≤w.heap.size+1+1;omega⟩
  ·obtain⟨h1,h2⟩:=HL.out.maps l hl
   obtain⟨es,c,hm⟩:=h1.isMap;exact⟨h1.same ((far _ _ hm (fun _ _ e=>by cases e)).trans hm.symm),h2⟩
 ·rcases ba.1 hl with rfl|hl
  ·cases hn
  ·exact HL.out.own l hl n hn
 ·rw[dS,jf]
  refine⟨fun hm=>?_,HL.out.apart⟩
  obtain⟨l,hl,e⟩:=eJ.1 hm;have:=(HL.out.maps l hl).1.lt;simp only at e;omega
 ·refine⟨hO9.1,hO9.2.1,hO9.2.2,aL (by rw[o0.out];omega) (aL Q7.out.size hF.size),fun k hk=>key k (by omega) fun e=>?_⟩
  have:=(HL.out.row.lt k e).1;omega
 ·exact aL (by rw[o0.out];omega) (aL Q7.out.size hF.size)
structure yX (T:List Nd) (B b:Nat) (nv:Value) (ub ob f:Nat) (pa:Option Addr) (lv:Value) (ms:List Nat) (L:List cO) (st:aI) (w:World) (a s:Nat):Prop where
 fA:wu w B nv T
 rs:jG w B b nv T.length st ub ob
 pos:oV w B f (.pointer pa) lv ms L st
 cx:Cx f st
 few:dP st.fns
 fr :∀x∈st.frames,x.fn<st.fns.length
 names:st.names.length+a≤100000
 fns:st.fns.length+s≤100000
 fw:L.length+1+s≤100000
theorem bY.lt {W:World} {B:Nat} :∀{fs:List (Nat×Nat×(ByteArray→Option Value))} {ms:List Nat} {p:Value},bY W B fs ms p→∀m∈ms,m<W.heap.size
 | [],_,_,h,m,hm=>by rw[h.1] at hm;cases hm
 | x::fs,ms,p,h,m,hm=>by
  obtain⟨k',p',m',CT,rfl,rfl,_,_,h3,_,_,h6⟩:=h;rcases ba.1 hm with rfl|hm
  ·exact h3.lt
  ·exact bY.lt h6 m hm
theorem xG {T:List Nd} {B b:Nat} {nv:Value} {ub ob f:Nat} {pa la:Option Addr} {lc:Nat} {ms:List Nat} {L:List cO} {st:aI} {w:World} {a s:Nat} (loop:Int) (h:yX T B b nv ub ob f pa (.slice la L.length lc) ms L st w a s) :
  Calls Tryz.prog 74 #[.agg #[.int .i64 (f:Int),.int .i64 loop,.pointer pa,.slice la L.length lc]] w fun e w'=>∃g c m,e=.returned (.agg #[.int .i64 (f:Int),.int .i64 loop,.pointer pa,.slice (some ⟨g,0,none⟩) (L.length+1) c])∧eU T B b nv ub ob f pa (.slice (some ⟨g,0,none⟩) (L.length+1) c) ms (⟨f,m,[]⟩::L) st w' a s∧w.heap.size≤m∧((Value.slice la L.length lc).ownBlock=some g∨w.heap.size≤g)∧cQ B ob (.slice la L.length lc) L.length none w w':=by
 have ca:B≤w.heap.size:=by obtain⟨_,_,_,_,_,h,_⟩:=h.fA.nodes;exact h
 refine(xF f loop pa la lc L w h.pos.fw (by have:=h.fw;omega) ca).mono ?_
 rintro e w' ⟨g,c,m,he,h1,h2,h3,h4,h5⟩;have hf:=h4 ob;refine⟨g,c,m,he,⟨h.fA.below hf.below,?_,⟨h1,h.pos.blk.jk hf (by simp),h.pos.names,?_⟩,?_,h.cx,h.few,h.fr,h.names,h.fns,?_⟩,h2,h3,hf⟩
 ·obtain⟨fv,FL,hw⟩:=h.rs
  exact⟨fv,FL,hw.fr h5 (by decide)⟩
 ·intro m' hm' l hl
  rcases ba.1 hl with rfl|hl
  ·have:=bY.lt h.pos.blk m' hm'
   show m'≠m
   omega
  ·exact h.pos.apart m' hm' l hl
 ·intro l r e
  injection e with e _;rw[←e]
 ·have:=h.fw
  rw[List.length_cons];omega
theorem eU.zero {T:List Nd} {B b:Nat} {nv:Value} {ub ob f:Nat} {pa:Option Addr} {lv:Value} {ms:List Nat} {L:List cO} {st:aI} {w:World} {a s:Nat} (h:eU T B b nv ub ob f pa lv ms L st w a (s+1)):yX T B b nv ub ob f pa lv ms L st w a s :=
 ⟨h.fA,h.rs,h.pos,h.cx,h.few,h.fr,h.names,by have:=h.fns;omega,by have:=h.fw;omega⟩
theorem cQ.inner {B ob n g c m:Nat} {lv:Value} {w w1 w2:World} {top:Option Nat} (h1:cQ B ob lv n top w w1) (hg:lv.ownBlock=some g∨w.heap.size≤g) (hm:w.heap.size≤m) (h2:cQ B ob (.slice (some ⟨g,0,none⟩) (n+1) c) (n+1) (some m) w1 w2):cQ B ob lv n top w w2:=by
 refine⟨h1.below.trans h2.below,fun k c e fz hk he=>h2.cells k c e fz (h1.cells k c e fz hk he) he,fun k c fz hk ho=>h2.ints k c fz (h1.ints k c fz hk ho) ho,fun u k xs hu hk=>h2.lvl u k xs (h1.lvl u k xs hu hk) fun e=>?_,fun k es c hk ht=>h2.maps k es c (h1.maps k es c hk ht) fun e=>?_⟩
 ·replace e:u.ownBlock=some g:=e
  rcases hg with hg|hg
  ·exact Nat.le_succ_of_le (hk (e.trans hg.symm))
  ·have:=(hu.lt g e).2
   omega
 ·injection e with e
  have:=(aM.1 hk).1;omega
theorem dc.inner {B ob g c m:Nat} {lv:Value} {L:List cO} {w1 w2:World} (h:dc w1 B lv L) (hne :∀l∈L,l.blk≠m) (h2:cQ B ob (.slice (some ⟨g,0,none⟩) (L.length+1) c) (L.length+1) (some m) w1 w2):dc w2 B lv L :=
 ⟨h2.lvl _ _ _ h.row fun _=>iG _,fun l hl=>⟨h2.map (h.maps l hl).1 fun e=>hne l hl (by injection e),(h.maps l hl).2⟩,h.own,h.apart⟩
theorem aq.inner {B b:Nat} {nv:Value} {N ub ob g c m f:Nat} {lv:Value} {L:List cO} {st st1:aI} {r:Rs aI} {w w1 w2:World} {e:Ending} (h1:cQ B ob lv L.length (ep L) w w1) (hl:dc w1 B lv L) (hne :∀l∈L,l.blk≠m) (hg:lv.ownBlock=some g∨w.heap.size≤g) (hm:w.heap.size≤m) (h:aq B b nv N ub ob (.slice (some ⟨g,0,none⟩) (L.length+1) c) (⟨f,m,[]⟩::L) st1 r w1 e w2):aq B b nv N ub ob lv L st (r.map fun s=>s.back st) w e w2:=by
 refine⟨h1.below.trans h.1,?_⟩;have h2:=h.2;cases r with
 | error y=>exact h2
 | ok s =>
  obtain⟨k1,⟨fv,FL,k2⟩,k3,_⟩:=h2;refine⟨k1,⟨fv,FL,k2.on rfl rfl rfl⟩,h1.inner hg hm k3,[],rfl,fun _=>rfl,?_⟩
  rw[jF];exact hl.inner hne k3
theorem cQ.past {B ob n:Nat} {v:Value} {top:Option Nat} {w W X:World} (h:cQ B ob v n top w W) (hb:Below B W X) (hk :∀k,k<w.heap.size→X.heap[k]? = W.heap[k]?):cQ B ob v n top w X:=by
 refine⟨h.below.trans hb,fun k c e fz hc he=>(hk k (aM.1 hc).1).trans (h.cells k c e fz hc he),fun k c fz hc ho=>(hk k (aM.1 hc).1).trans (h.ints k c fz hc ho),fun u m xs hu hm=>?_,fun k es c hc ht=>(hk k (aM.1 hc).1).trans (h.maps k es c hc ht)⟩
 have h1:=h.lvl u m xs hu hm;refine⟨h1.1,?_⟩;rcases h1.2 with hn | ⟨g,cap,cur,rfl,hB,hg,rest⟩
 ·exact .inl hn
 ·exact .inr ⟨g,cap,cur,rfl,hB,(hk g (hu.lt g rfl).2).trans hg,rest⟩
theorem bY.fr {W W':World} {B:Nat} {E:List Nat} (k:Fr E W W') (he:(150:Nat)∉E) :∀{fs:List (Nat×Nat×(ByteArray→Option Value))} {ms:List Nat} {p:Value},bY W B fs ms p→bY W' B fs ms p
 | [],_,_,h=>h
 | x::fs,ms,p,h=>by
  obtain⟨k',p',m,CT,rfl,rfl,h1,h2,h3,h4,h5,h6⟩:=h;exact⟨k',p',m,CT,rfl,rfl,h1,k.cells k' _ _ _ h2 he,k.map h3,h4,h5,bY.fr k he h6⟩
theorem dc.fr {W W':World} {B:Nat} {v:Value} {L:List cO} {E:List Nat} (h:dc W B v L) (k:Fr E W W') (he:(194:Nat)∉E):dc W' B v L :=
 ⟨k.row h.row he,fun l hl=>⟨k.map (h.maps l hl).1,(h.maps l hl).2⟩,h.own,h.apart⟩
theorem eU.Sv {T:List Nd} {B b:Nat} {nv:Value} {ub ob f:Nat} {pa:Option Addr} {lv:Value} {ms:List Nat} {L:List cO} {st:aI} {w w':World} {a s:Nat} (h:eU T B b nv ub ob f pa lv ms L st w a s) (k:Fr [69] w w') (hb:Below B w w'):eU T B b nv ub ob f pa lv ms L st w' a s:=by
 refine⟨h.fA.below hb,?_,⟨h.pos.fw.fr k (by decide),bY.fr k (by decide) h.pos.blk,h.pos.names,h.pos.apart⟩,h.hd,h.cx,h.few,h.fr,h.names,h.fns,h.fw⟩
 obtain⟨fv,FL,hw⟩:=h.rs;exact⟨fv,FL,hw.fr k (by decide)⟩
theorem eU.oe {T:List Nd} {B b:Nat} {nv:Value} {ub ob f:Nat} {pa:Option Addr} {lv:Value} {ms:List Nat} {L:List cO} {st:aI} {w:World} {a s:Nat} (i:Nat) (h:eU T B b nv ub ob f pa lv ms L st w a s):eU T B b nv ub ob f pa lv ms L (du i f st) w a s:=by
 refine⟨h.fA,?_,⟨h.pos.fw,?_,h.pos.names,h.pos.apart⟩,h.hd,⟨h.cx.ok,h.cx.lt,h.cx.names⟩,h.few,fun x hx=>?_,h.names,h.fns,h.fw⟩
 ·obtain⟨fv,FL,hw⟩:=h.rs
  exact⟨fv,FL,hw.on rfl rfl rfl⟩
 ·show oU w B (dC f (⟨f,i,0,true,false,[]⟩::st.frames)) ms _
  rw[rL (.inl rfl)];exact h.pos.blk
 ·rcases ba.1 hx with rfl|hx
  ·exact h.cx.lt
  ·exact h.fr x hx
def four (W:World) (r:Nat) (a c d e:Value):World:=(((W.setCell ⟨r,0,none⟩ a).setCell ⟨r,1,none⟩ c).setCell ⟨r,2,none⟩ d).setCell ⟨r,3,none⟩ e
theorem vn {W:World} {r:Nat} (k:wc W r 69) (a c d e:Value):Fr [69] W (four W r a c d e):=(k.fr (by decide) _ _).trans (((k.set _ _ _).fr (by decide) _ _).trans ((((k.set _ _ _).set _ _ _).fr (by decide) _ _).trans ((((k.set _ _ _).set _ _ _).set _ _ _).fr (by decide) _ _)))
theorem pD {B r:Nat} (W:World) (hB:B≤r) (a c d e:Value):Below B W (four W r a c d e):=((((Below.refl B W).setCell (p:=⟨r,0,none⟩) hB a).setCell (p:=⟨r,1,none⟩) hB c).setCell (p:=⟨r,2,none⟩) hB d).setCell (p:=⟨r,3,none⟩) hB e
theorem eV.four {w W:World} {p q f:Nat} {loop:Int} {pa:Option Addr} {lv kv nv d0 d1 d2:Value} (h:eV w W p q f loop pa lv kv nv d0 d1 d2) (M9:Int) (RY:Option Addr) (lv':Value):eV w (four W w.heap.size (.int .i64 (f:Int)) (.int .i64 M9) (.pointer RY) lv') p q f M9 RY lv' kv nv d0 d1 d2:=by
 obtain⟨a,b,c,d,e,hk⟩:=h.kids;have hp:=h.pne;have hq:=h.qne;have k :∀j,j≠w.heap.size→(Go.Proofs.YtodmcdfeldkocaaGreatDoor.four W w.heap.size (.int .i64 (f:Int)) (.int .i64 M9) (.pointer RY) lv').heap[j]? = W.heap[j]?:=fun j hj=>nm W _ _ _ _ _ j hj
 exact⟨bE (bE (bE (bE h.pos 0 _) 1 _) 2 _) 3 _,⟨a,b,c,d,e,(k _ (by omega)).trans hk⟩,(k _ (by omega)).trans h.dec,hp,hq⟩
theorem gC.first {W:World} {B sb so n kc:Nat} {xs ys:List Int} (h:gC W B (.slice (some ⟨sb,so,none⟩) n kc) (xs++ys)):gC W B (.slice (some ⟨sb,so,none⟩) xs.length kc) xs:=by
 obtain⟨A,c,e,hc,h1⟩:=h;injection e with e1 e2 e3;subst e1 e3;rw[cb] at hc;refine⟨_,_,rfl,by omega,?_⟩
 rcases h1 with h1 | ⟨bk,o,e4,hb,hx⟩
 ·exact .inl (KI.1 h1).1
 ·exact .inr ⟨bk,o,e4,hb,fun j x hj=>hx j x (by rw[kL (aJ.1 hj).1];exact hj)⟩
theorem gC.last {W:World} {B sb so n kc:Nat} {xs ys:List Int} (h:gC W B (.slice (some ⟨sb,so,none⟩) n kc) (xs++ys)):gC W B (.slice (some ⟨sb,so+xs.length,none⟩) ys.length (kc-xs.length)) ys:=by
 obtain⟨A,c,e,hc,h1⟩:=h;injection e with e1 e2 e3;subst e1 e3;rw[cb] at hc;refine⟨_,_,rfl,by omega,?_⟩
 rcases h1 with h1 | ⟨bk,o,e4,hb,hx⟩
 ·exact .inl (KI.1 h1).2
 ·injection e4 with e4
  injection e4 with e4 e5 _;subst e4 e5;exact .inr ⟨_,_,rfl,hb,fun j x hj=>by have:=hx (xs.length+j) x (by rw[zV (by omega),Nat.add_sub_cancel_left];exact hj);rwa[←oN] at this⟩
theorem Yj {α:Type} {x l:List α} (h:l=x++l):x=[]:=by
 have:=az List.length h;rw[cb] at this;exact List.length_eq_zero_iff.1 (by omega)
theorem aq.same {B b:Nat} {nv:Value} {N ub ob:Nat} {lv:Value} {L:List cO} {st st':aI} {r r':Rs aI} {w w2:World} {e:Ending} (h:aq B b nv N ub ob lv L st r w e w2) (hn:st'.names=st.names) (hr:match r,r' with | .ok a,.ok c=>c.fns=a.fns∧c.uses=a.uses∧c.of=a.of∧c.names=a.names | .error a,.error c=>a=c|_,_=>False):aq B b nv N ub ob lv L st' r' w e w2:=by
 refine⟨h.1,?_⟩;have h2:=h.2;cases r with
 | error y =>
  cases r' with
  | error z=>cases hr;exact h2
  | ok z=>exact hr.elim
 | ok s =>
  cases r' with
  | error z=>exact hr.elim
  | ok z =>
   obtain⟨k1,⟨fv,FL,k2⟩,k3,x,k4,k5,k6⟩:=h2;obtain⟨e1,e2,e3,e4⟩:=hr;exact⟨k1,⟨fv,FL,k2.on e1 e2 e3⟩,k3,x,by rw[e4,k4,hn],k5,k6⟩
theorem rU {f:Nat} (t:Lt) (st:aI):aG [t] f st=bh t f st:=by
 rw[eQ];cases bh t f st with
 | error y=>rfl
 | ok s=>show aG [] f s=_;rw[fg]
theorem qF {i f:Nat} {line:Int} {names:List ByteArray} (blk:Lt) :∀(vals:List Lt) (st:aI),iH i line names (vals++[blk]) f st=(aG vals f st).bind fun s1=>((bz i f line names (du i f s1)).bind fun s2=>aG [blk] f s2).map fun s=>s.back s1
 | [],st=>by
  rw[sG,mZ,fg];show _=Except.map _ (Except.bind _ _)
  cases bz i f line names (du i f st) with
  | error y=>rfl
  | ok s2=>show(bh blk f s2).map _=(aG [blk] f s2).map _;rw[rU]
 | [a],st=>by
  rw[List.singleton_append,jt,rU];cases bh a f st with
  | error y=>rfl
  | ok s =>
   have:=qF (i:=i) (f:=f) (line:=line) (names:=names) blk [] s;rw[sG,fg] at this;exact this
 | a::c::l,st=>by
  rw[iE,iE,jt,eQ];cases bh a f st with
  | error y=>rfl
  | ok s=>exact qF blk (c::l) s
end Go.Proofs.YtodmcdfeldkocaaGreatDoor
