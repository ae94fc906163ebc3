/- Parts of the proof. -/
import Derived.RegionTactic
import Derived.ChangeAlike
import Derived.Deep.RegionHeld3
import Derived.Test.YteflkdlaoiijbaaGreatDoorN03
set_option maxHeartbeats 16000000
set_option maxRecDepth 20000
namespace Go.Proofs.YteflkdlaoiijbaaGreatDoor
open Go.RowKit
def ny (k n:Int) (w:World) (e:Ending) (w':World):Prop:=∃v,e=.returned v∧Rz w' v (aX k n)∧Below w.heap.size w w'
theorem nY {k n:Int} {ps:List EN} (h:aX k n=ps) {w w':World} {v:Value} (hr:Rz w' v ps) (hb:Below w.heap.size w w'):ny k n w (.returned v) w':=⟨v,rfl,by rw[h];exact hr,hb⟩
theorem bD (w:World) (o:Obj):Below w.heap.size w (w.alloc o):=(Below.refl _ _).alloc (ah _) _
theorem Hj (x:Nd) (A B:Option Addr) (a c b d:Nat) (w:World) (h:x.kind=13∨x.kind=14∨x.kind=16∨x.kind=11∨x.kind=22∨x.kind=21∨x.kind=28):Calls Tryz.prog 107 #[cO x (.slice A a c) (.slice B b d)] w (ny x.kind x.num w):=by
 obtain⟨kind,line,op,num,s,names,kids⟩:=x;unfold cO;simp only at h ⊢;have b1:=bD w (.cells #[.int .i64 kind,.int .i64 line,.int .i64 op,.int .i64 num,.string s,.slice A a c,.slice B b d] 55);rcases h with rfl|rfl|rfl|rfl|rfl|rfl|rfl;all_goals
  have B1:=aa b1;clear b1;go_enter Tryz.func107,Tryz.ntmps107
  go_wp2_with fail
  refine(AB _ _ _ (nx _ _ 180 _ (by simp))).mono ?_
  rintro e w2 ⟨v,rfl,hr,b2⟩;have HR:=aa hr;have B2:=aa (aB B1.out (aB (bD _ _) b2));obtain⟨bp,pv,rfl,_⟩:=hr;clear b2;go_wp2_with fail
  go_ret
  exact nY (by simp[aX]) HR.out B2.out
theorem Hk (x:Nd) (A B:Option Addr) (a c b d:Nat) (w:World) (h:x.kind=8∨x.kind=12∨x.kind=17∨x.kind=23∨x.kind=24):Calls Tryz.prog 107 #[cO x (.slice A a c) (.slice B b d)] w (ny x.kind x.num w):=by
 obtain⟨kind,line,op,num,s,names,kids⟩:=x;unfold cO;simp only at h ⊢;have b1:=bD w (.cells #[.int .i64 kind,.int .i64 line,.int .i64 op,.int .i64 num,.string s,.slice A a c,.slice B b d] 55);rcases h with rfl|rfl|rfl|rfl|rfl;all_goals
  have B1:=aa b1;clear b1;go_enter Tryz.func107,Tryz.ntmps107
  go_wp2_with fail
  refine(AB _ _ _ (AA _ _ _ 180 _ (by simp))).mono ?_
  rintro e w2 ⟨v,rfl,hr,b2⟩;have HR:=aa hr;have B2:=aa (aB B1.out (aB (bD _ _) b2));obtain⟨bp,pv,rfl,_⟩:=hr;clear b2;go_wp2_with fail
  go_ret
  exact nY (by simp[aX]) HR.out B2.out
theorem RC (x:Nd) (A B:Option Addr) (a c b d:Nat) (w:World) (h:x.kind=9∨x.kind=10∨x.kind=19∨x.kind=29∨x.kind=15):Calls Tryz.prog 107 #[cO x (.slice A a c) (.slice B b d)] w (ny x.kind x.num w):=by
 obtain⟨kind,line,op,num,s,names,kids⟩:=x;unfold cO;simp only at h ⊢;have b1:=bD w (.cells #[.int .i64 kind,.int .i64 line,.int .i64 op,.int .i64 num,.string s,.slice A a c,.slice B b d] 55);rcases h with rfl|rfl|rfl|rfl|rfl;all_goals
  have B1:=aa b1;clear b1;go_enter Tryz.func107,Tryz.ntmps107
  go_wp2_with fail
  refine(kP _ _ _ _ _ (nx _ _ 180 _ (by simp))).mono ?_
  rintro e w2 ⟨v,rfl,hp,b2⟩;have HP:=aa hp;have B2:=aa (aB B1.out (aB (bD _ _) b2));obtain⟨bm,br,bl,rv,rfl,_⟩:=hp;clear b2;go_wp2_with fail
  refine(nw _ _ _ (wR (b:=w2.heap.size) (by rw[ao];exact dr _) (dx w2 _ _ _) (HP.out.below (bD w2 _)))).mono ?_
  rintro e w3 ⟨v3,rfl,hr,b3⟩;have HR:=aa hr;have B3:=aa (aB B2.out (aB (bD _ _) b3));obtain⟨bp,pv,rfl,_⟩:=hr;clear b3;go_wp2_with fail
  go_ret
  exact nY (by simp[aX,big]) HR.out B3.out
theorem LF (x:Nd) (A B:Option Addr) (a c b d:Nat) (w:World) (h:x.kind=18∨x.kind=26∨x.kind=27∨x.kind=20):Calls Tryz.prog 107 #[cO x (.slice A a c) (.slice B b d)] w (ny x.kind x.num w):=by
 obtain⟨kind,line,op,num,s,names,kids⟩:=x;unfold cO;simp only at h ⊢;have b1:=bD w (.cells #[.int .i64 kind,.int .i64 line,.int .i64 op,.int .i64 num,.string s,.slice A a c,.slice B b d] 55);rcases h with rfl|rfl|rfl|rfl;all_goals
  have B1:=aa b1;clear b1;go_enter Tryz.func107,Tryz.ntmps107
  go_wp2_with fail
  refine(kP _ _ _ _ _ (nx _ _ 180 _ (by simp))).mono ?_
  rintro e w2 ⟨v,rfl,hp,b2⟩;have HP:=aa hp;have B2:=aa (aB B1.out (aB (bD _ _) b2));obtain⟨bm,br,bl,rv,rfl,_⟩:=hp;clear b2;go_wp2_with fail
  refine(kP _ _ _ _ _ (nx w2 _ 180 _ rfl)).mono ?_;rintro e w3 ⟨v,rfl,Al,b3⟩;have Xi:=aa (HP.out.below (aB (bD w2 _) b3));have Xj:=aa Al;have B3:=aa (aB B2.out (aB (bD _ _) b3));obtain⟨bm3,br3,bl3,rv3,rfl,_⟩:=Al;clear b3 HP;go_wp2_with fail
  refine(nw _ _ _ (wS (b:=w3.heap.size) (by rw[ao];exact dr _) (dx w3 _ _ _) (dx w3 _ _ _) (Xi.out.below (bD w3 _)) (Xj.out.below (bD w3 _)))).mono ?_
  rintro e w4 ⟨v4,rfl,hr,b4⟩;have HR:=aa hr;have B4:=aa (aB B3.out (aB (bD _ _) b4));obtain⟨bp,pv,rfl,_⟩:=hr;clear b4;go_wp2_with fail
  go_ret
  exact nY (by simp[aX,big]) HR.out B4.out
theorem LG (x:Nd) (A B:Option Addr) (a c b d:Nat) (w:World) (h:x.kind=25):Calls Tryz.prog 107 #[cO x (.slice A a c) (.slice B b d)] w (ny x.kind x.num w):=by
 obtain⟨kind,line,op,num,s,names,kids⟩:=x;unfold cO;simp only at h ⊢;have b1:=bD w (.cells #[.int .i64 kind,.int .i64 line,.int .i64 op,.int .i64 num,.string s,.slice A a c,.slice B b d] 55);subst h;have B1:=aa b1;clear b1;go_enter Tryz.func107,Tryz.ntmps107
 go_wp2_with fail
 refine(kP _ _ _ _ _ (AA _ _ _ 180 _ (by simp))).mono ?_
 rintro e w2 ⟨v,rfl,hp,b2⟩;have HP:=aa hp;have B2:=aa (aB B1.out (aB (bD _ _) b2));obtain⟨bm,br,bl,rv,rfl,_⟩:=hp;clear b2;go_wp2_with fail
 refine(kP _ _ _ _ _ (nx w2 _ 180 _ rfl)).mono ?_;rintro e w3 ⟨v,rfl,Al,b3⟩;have Xi:=aa (HP.out.below (aB (bD w2 _) b3));have Xj:=aa Al;have B3:=aa (aB B2.out (aB (bD _ _) b3));obtain⟨bm3,br3,bl3,rv3,rfl,_⟩:=Al;clear b3 HP;go_wp2_with fail
 refine(nw _ _ _ (wS (b:=w3.heap.size) (by rw[ao];exact dr _) (dx w3 _ _ _) (dx w3 _ _ _) (Xi.out.below (bD w3 _)) (Xj.out.below (bD w3 _)))).mono ?_
 rintro e w4 ⟨v4,rfl,hr,b4⟩;have HR:=aa hr;have B4:=aa (aB B3.out (aB (bD _ _) b4));obtain⟨bp,pv,rfl,_⟩:=hr;clear b4;go_wp2_with fail
 go_ret
 exact nY (by simp[aX,big]) HR.out B4.out
theorem LH (x:Nd) (A B:Option Addr) (a c b d:Nat) (w:World) (h :∀k∈[13,14,16,8,12,17,9,10,19,29,11,22,21,28,23,24,15,18,25,26,27,(20:Int)],x.kind≠k):Calls Tryz.prog 107 #[cO x (.slice A a c) (.slice B b d)] w (ny x.kind x.num w):=by
 obtain⟨kind,line,op,num,s,names,kids⟩:=x;unfold cO;simp only at h ⊢;simp only[bn,oM,oP,forall_eq_or_imp,forall_eq] at h;obtain⟨h1,h2,h3,h4,h5,h6,h7,h8,h9,h10,h11,h12,h13,h14,h15,h16,h17,mo,LI,h20,h21,h22⟩:=h;have hp:aX kind num=[]:=by simp only[aX];simp[*]
 have b1:=bD w (.cells #[.int .i64 kind,.int .i64 line,.int .i64 op,.int .i64 num,.string s,.slice A a c,.slice B b d] 55);have B1:=aa b1;have HP:=aa hp;clear b1 hp;go_enter Tryz.func107,Tryz.ntmps107
 go_wp2_with fail
 refine(nw _ [] _ ⟨none,0,rfl,.inl rfl⟩).mono ?_;rintro e w2 ⟨v,rfl,hr,b2⟩;have HR:=aa hr;have B2:=aa (aB B1.out b2);obtain⟨bp,pv,rfl,_⟩:=hr;clear b2;go_wp2_with fail
 go_ret
 exact nY HP.out HR.out B2.out
theorem RD (x:Nd) (A B:Option Addr) (a c b d:Nat) (w:World):Calls Tryz.prog 107 #[cO x (.slice A a c) (.slice B b d)] w (ny x.kind x.num w):=by
 by_cases h1:x.kind=13∨x.kind=14∨x.kind=16∨x.kind=11∨x.kind=22∨x.kind=21∨x.kind=28
 ·exact Hj x A B a c b d w h1
 by_cases h2:x.kind=8∨x.kind=12∨x.kind=17∨x.kind=23∨x.kind=24
 ·exact Hk x A B a c b d w h2
 by_cases h3:x.kind=9∨x.kind=10∨x.kind=19∨x.kind=29∨x.kind=15
 ·exact RC x A B a c b d w h3
 by_cases h4:x.kind=18∨x.kind=26∨x.kind=27∨x.kind=20
 ·exact LF x A B a c b d w h4
 by_cases h5:x.kind=25
 ·exact LG x A B a c b d w h5
 refine LH x A B a c b d w fun k hk=>?_
 simp only[bn,oM,oP] at hk;omega
theorem du {α:Type} {p:Prop} [Decidable p] {a b:α} (P:α→Prop) (ha:P a) (hb:P b):P (if p then a else b):=by
 by_cases h:p
 ·rw[ak h];exact ha
 ·rw[af h];exact hb
def mB (ps:List EN):Prop:=ps.all (fun p=>decide (0<p.2.2.length))=true∧ps.length≤1000
theorem fF (a b:Int) (r:Int) (l:List Int):mB [(a,b,r::l)]:=⟨rfl,Nat.le_of_ble_eq_true rfl⟩
theorem nA (a b a' b':Int) (r r':Int) (l l':List Int):mB [(a,b,r::l),(a',b',r'::l')]:=⟨rfl,Nat.le_of_ble_eq_true rfl⟩
theorem AD (k n:Int):mB (aX k n):=by
 unfold aX;refine du mB (fF ..) <| du mB (fF ..) <| du mB (fF ..) <| du mB (fF ..) <| du mB (fF ..) <| du mB (fF ..) <| du mB (fF ..) <| du mB (fF ..) <| du mB (fF ..) <| du mB (fF ..) <| du mB (nA ..) <| du mB (nA ..) <| du mB (nA ..) <| du mB (nA ..) <| du mB (nA ..) ⟨rfl,aR _⟩
theorem Hl (k n:Int) :∀p∈aX k n,0<p.2.2.length:=fun p hp=>iG (List.all_eq_true.1 (AD k n).1 p hp)
theorem Hm (k n:Int):(aX k n).length≤1000:=(AD k n).2
def ia (T:List Nd) (x:Nd):List Int:=x.kids.map fun k=>dN (dz T k.toNat)
theorem CX (T:List Nd) (x:Nd):(ia T x).length=x.kids.length:=by simp[ia]
theorem Hn {T:List Nd} {x:Nd} {j:Nat} {k:Int} (h:x.kids[j]? = some k):(ia T x)[j]? = some (dN (dz T k.toNat)):=by simp[ia,h]
theorem LJ {W:World} {b:Nat} {l:List Int} (h:oC W b l.length (fun j=>.int .i64 (l.getD j 0))) (hb:b<W.heap.size):eL W (.slice (some ⟨b,0,none⟩) l.length l.length) l :=
 ⟨_,_,rfl,ah _,.inr ⟨b,0,rfl,hb,fun j z hj=>by
  have hl:=(aL.1 hj).1;rw[jX,(h j hl).1];show some (Value.int .i64 (l.getD j 0))=_
  rw[jU,hj];rfl⟩⟩
theorem LK (x:Nd) (nv kv tv:Value) (T:List Nd) (w:World) (hnv:sx w nv x.names) (hkv:eL w kv x.kids) (ht:sy w tv T) (hv :∀k∈x.kids,0≤k∧k<(T.length:Int)) (hl:x.kids.length≤20000) :
  Calls Tryz.prog 52 #[cO x nv kv,tv] w fun e w'=>e=.returned (.bool (iP x.kind x.num (ia T x)))∧Below w.heap.size w w':=by
 have HK:=aa hkv;have HNV:=aa hnv;obtain⟨NA,nc,rfl,_,_⟩:=hnv;obtain⟨KA,kc,rfl,Cm,hka⟩:=hkv;obtain⟨TA,tc,rfl,htc,hta⟩:=ht;have HOF:=aa (fun W=>RD x NA KA x.names.length nc x.kids.length kc W)
 have HV:=aa hv;have CY:=aa hka;have HTA:=aa hta;have hW0:=bD w (.cells #[.int .i64 x.kind,.int .i64 x.line,.int .i64 x.op,.int .i64 x.num,.string x.s,.slice NA x.names.length nc,.slice KA x.kids.length kc] 55);obtain⟨w1,wP,hb1,hs1,kO⟩:=CT x.kids.length (by omega) (w.alloc (.cells #[.int .i64 x.kind,.int .i64 x.line,.int .i64 x.op,.int .i64 x.num,.string x.s,.slice NA x.names.length nc,.slice KA x.kids.length kc] 55))
 rw[ao] at wP hb1 hs1 kO;have gr :∀j:Nat,w1.cell? ⟨w.heap.size,j,none⟩=(#[.int .i64 x.kind,.int .i64 x.line,.int .i64 x.op,.int .i64 x.num,.string x.s,.slice NA x.names.length nc,.slice KA x.kids.length kc]:Array Value)[j]?:=fun j=>(hb1.cell (p:=⟨w.heap.size,j,none⟩) (dr _)).trans (dx w _ _ _)
 have c6:w1.cell? ⟨w.heap.size,6,none⟩=some (.slice KA x.kids.length kc):=gr 6;have qe:=aa gr;have dM:=aa (hW0.trans (hb1.mono (fY _)));have fj:=aa kO;clear hv hka hta hW0 hb1 kO gr;unfold cO at HOF ⊢;go_enter Tryz.func52,Tryz.ntmps52
 go_wp2_with fail
 clear wP c6;have hsl:(ia T x).length=x.kids.length:=CX T x;have HSL:=aa hsl;clear hsl;go_loopw [15] (fun i wr=>∃k:Nat,k≤x.kids.length∧i=.int .i64 (k:Int)∧Below (w.heap.size+1) w1 wr∧oC wr (w.heap.size+1) x.kids.length (fun j=>if j<k then .int .i64 ((ia T x).getD j 0) else .int .i64 0)) (fun i _=>x.kids.length-(intOf i).toNat)
 case atStart=>exact⟨0,aR _,rfl,Below.refl _ _,fj.out.eq_ fun j _=>by rw[af (by omega)]⟩
 case round =>
  obtain⟨k,hk,rfl,hbr,oD⟩:=hrel;have HB:=aa hbr;have HF:=aa oD;have hsz:=hbr.size;have lG:=aa (dM.out.trans (hbr.mono (fY _)));clear hbr;by_cases hlt:k<x.kids.length
  ·obtain⟨z,hz⟩ :∃z,x.kids[k]? = some z:=⟨x.kids[k],bE hlt⟩
   obtain⟨z0,z1⟩:=HV.out z (ba hz);obtain⟨q,rfl⟩ :∃q:Nat,z=(q:Int):=⟨z.toNat,by omega⟩
   have hq:q<T.length:=by omega
   have hx:=bE hq;rcases CY.out with h0 | ⟨b1,o1,rfl,hb1,hc1⟩
   ·rw[h0] at hlt;exact absurd hlt (jx _)
   rcases HTA.out with h0 | ⟨b2,o2,rfl,hb2,hc2⟩
   ·rw[h0] at hq;exact absurd hq (jx _)
   have ck:=(lG.out.cell (p:=⟨b1,o1+k,none⟩) hb1).trans (hc1 k _ hz);obtain⟨nv',kv',fE,_,_⟩:=hc2 q _ hx;have ct:=(lG.out.cell (p:=⟨b2,o2+q*7,none⟩) hb2).trans fE.c0;obtain⟨fc,ff⟩:=oD k hlt;obtain⟨kd,qa⟩ :∃kd,kd=T[q].kind:=⟨_,rfl⟩;rw[←qa] at ct;have hsk:(ia T x).getD k 0=dN kd:=by
    rw[jU,Hn hz,iF,nU hx,←qa];rfl
   have HSK:=aa hsk;replace fc:wr.cell? ⟨w.heap.size+1,k,none⟩=some (.int .i64 0):=fc.trans (by
    show some (if k<k then _ else _)=_
    rw[af (by omega)])
   clear hc1 hc2 fE hz hx hsk qa oD;go_wp2_with (go_at_call 106;refine(Hg kd _).mono ?_;rintro e w' ⟨rfl,rfl⟩)
   refine⟨⟨k+1,by omega,by go_num,HB.out.setCell (ah _) _,(HF.out.Xa hlt _).eq_ fun j hj=>?_⟩,by simp[intOf];omega⟩
   by_cases e:j=k
   ·subst e
    rw[ak rfl,ak (by omega),HSK.out]
   ·rw[af e]
    by_cases h:j<k
    ·rw[ak h,ak (by omega)]
    ·rw[af h,af (by omega)]
  ·have aau:oC wr (w.heap.size+1) (ia T x).length (fun j=>.int .i64 ((ia T x).getD j 0)):=by
    rw[HSL.out];exact HF.out.eq_ fun j hj=>by rw[ak (by omega)]
   have HN:=aa (LJ aau (by omega))
   clear aau oD;have HC:=qe.out;have c0:=(HB.out.cell (p:=⟨w.heap.size,0,none⟩) (dr _)).trans (HC 0);have c1:=(HB.out.cell (p:=⟨w.heap.size,1,none⟩) (dr _)).trans (HC 1);have c2:=(HB.out.cell (p:=⟨w.heap.size,2,none⟩) (dr _)).trans (HC 2);have c3:=(HB.out.cell (p:=⟨w.heap.size,3,none⟩) (dr _)).trans (HC 3);have c4:=(HB.out.cell (p:=⟨w.heap.size,4,none⟩) (dr _)).trans (HC 4);have c5:=(HB.out.cell (p:=⟨w.heap.size,5,none⟩) (dr _)).trans (HC 5);have c6:=(HB.out.cell (p:=⟨w.heap.size,6,none⟩) (dr _)).trans (HC 6);clear HC;go_wp2_with fail
   refine(HOF.out wr).mono ?_;rintro e w2 ⟨v,rfl,hr,b2⟩;obtain⟨bp,pv,rfl,hbp,hcp,hpp⟩:=hr;have HRL:=aa (LD _ _ (aX x.kind x.num) (ia T x) bp w2 hcp hpp (HN.out.below b2) (by rw[HSL.out];omega) (Hl _ _) (Hm _ _))
   have B2:=aa (jk lG.out (ah _) b2);clear hcp hpp b2;rw[HSL.out] at HRL;go_wp2_with fail
   refine HRL.out.mono ?_;rintro e w3 ⟨rfl,b3⟩;have B3:=aa (jk B2.out (ah _) b3);clear b3;go_wp2_with fail
   go_ret
   exact⟨rfl,B3.out⟩
def US:List (List UInt8):=[[97,110,100],[98,114,101,97,107],[100,111],[101,108,115,101],[101,108,115,101,105,102],[101,110,100],[102,97,108,115,101],[102,111,114],[102,117,110,99,116,105,111,110],[103,111,116,111],[105,102],[105,110],[108,111,99,97,108],[110,105,108],[110,111,116],[111,114],[114,101,112,101,97,116],[114,101,116,117,114,110],[116,104,101,110],[116,114,117,101],[117,110,116,105,108],[119,104,105,108,101]]
def uq (l:List UInt8):Bool:=US.contains l
def RE (c:UInt8):Bool:=decide (97≤c.toNat∧c.toNat≤122) || decide (65≤c.toNat∧c.toNat≤90) || decide (c.toNat=95)
def AE (c:UInt8):Bool:=decide (48≤c.toNat∧c.toNat≤57)
def sY (c:UInt8):Bool:=RE c || AE c
def LL (l:List UInt8):Bool:=match l with | []=>false|c::_=>AE c
def fG (s:ByteArray):Bool:=decide (s.size≠0) && decide (s.size≤65536) && !LL s.data.toList && !uq s.data.toList && s.data.toList.all sY
theorem Ho (s:ByteArray) (w:World):Calls Tryz.prog 135 #[.string s] w fun e w'=>e=.returned (.bool (uq s.data.toList))∧w=w':=by
 rw[←Lib.toList_data];go_enter Tryz.func135,Tryz.ntmps135
 go_wp2_with fail
 all_goals first
  | (go_ret;rename_i ha hb;rw[ha] at hb;cases hb;done)
  | (go_ret;exact⟨cC (by simp only[uq,US,Ki,Kl,Bool.or_false,Bool.true_or,Bool.or_true, *]),rfl⟩)
theorem CZ (c:UInt8) (w:World):Calls Tryz.prog 156 #[.int .u8 (c.toNat:Int)] w fun e w'=>e=.returned (.bool (RE c))∧w=w':=by
 unfold RE;have hc:=c.toNat_lt;generalize c.toNat=n at *;go_enter Tryz.func156,Tryz.ntmps156
 go_wp2_with fail
 all_goals go_ret
 all_goals exact⟨cC (by rw[mN];simp;omega),rfl⟩
theorem wT (c:UInt8) (w:World):Calls Tryz.prog 155 #[.int .u8 (c.toNat:Int)] w fun e w'=>e=.returned (.bool (AE c))∧w=w':=by
 unfold AE;have hc:=c.toNat_lt;generalize c.toNat=n at *;go_enter Tryz.func155,Tryz.ntmps155
 go_wp2_with fail
 all_goals go_ret
 all_goals exact⟨cC (by rw[mN];simp;omega),rfl⟩
theorem LM {p:UInt8→Bool} {l:List UInt8} {k:Nat} {c:UInt8} (h:l[k]? = some c):(l.drop k).all p=(p c && (l.drop (k+1)).all p):=by
 rw[eN h,rZ]
theorem byte_at {s:ByteArray} {k:Nat} (h:k<s.size):s.data.toList[k]? = some s[k]:=by
 rw[Array.getElem?_toList];exact wj h
theorem wU (s:ByteArray) (w:World):Calls Tryz.prog 102 #[.string s] w fun e w'=>e=.returned (.bool (fG s))∧w=w':=by
 by_cases h0:s.size=0
 ·obtain rfl:s=⟨#[]⟩:=by
   have:s.data=#[]:=Array.eq_empty_of_size_eq_zero h0;cases s;simp_all
  go_enter Tryz.func102,Tryz.ntmps102
  go_wp2_with fail
  go_ret
  exact⟨rfl,rfl⟩
 ·have h00:0<s.size:=by omega
  have hne:s.toList.isEmpty=false:=by
   rw[Lib.toList_data];cases e:s.data.toList with
   | nil=>exact absurd (by rw[Lib.size_eq,e];rfl) h0
   | cons a t=>rfl
  have acp:¬ s.toList=[]:=fun e=>by rw[e] at hne;cases hne
  by_cases h1:s.size≤65536
  ·have g1:decide ((65536:Int)<(s.size:Int))=false:=bL (by omega)
   have hb0:=byte_at (s:=s) (k:=0) (by omega)
   have hf:LL s.data.toList=AE s[0]:=by
    cases e:s.data.toList with
    | nil=>rw[e] at hb0;simp at hb0
    | cons a t=>rw[e] at hb0;obtain rfl:=gz hb0;rfl
   have EO:fG s=(!AE s[0] && !uq s.data.toList && s.data.toList.all sY):=by
    unfold fG;rw[hf,bM (show s.size≠0 from h0),bM h1]
    rfl
   rw[EO];have HW:=aa (Ho s w);have HD:=aa (wT s[0] w);obtain⟨D,hD⟩ :∃D,D=AE s[0]:=⟨_,rfl⟩;obtain⟨K,hK⟩ :∃K,K=uq s.data.toList:=⟨_,rfl⟩;rw[←hD] at HD ⊢;rw[←hK] at HW ⊢;obtain⟨AL,Xk⟩ :∃AL,AL=s.data.toList.all sY:=⟨_,rfl⟩;rw[←Xk];have HAL:=aa Xk;clear hD hK hf EO hb0 Xk;cases D with
   | true =>
    go_enter Tryz.func102,Tryz.ntmps102
    go_wp2_with (go_at_call 155;refine HD.out.mono ?_;rintro e w' ⟨rfl,rfl⟩)
    go_ret
    exact⟨rfl,rfl⟩
   | false =>
    cases K with
    | true =>
     go_enter Tryz.func102,Tryz.ntmps102
     go_wp2_with (first|(go_at_call 155;refine HD.out.mono ?_;rintro e w' ⟨rfl,rfl⟩)|(go_at_call 135;refine HW.out.mono ?_;rintro e w' ⟨rfl,rfl⟩))
     go_ret
     exact⟨rfl,rfl⟩
    | false =>
     go_enter Tryz.func102,Tryz.ntmps102
     go_wp2_with (first|(go_at_call 155;refine HD.out.mono ?_;rintro e w' ⟨rfl,rfl⟩)|(go_at_call 135;refine HW.out.mono ?_;rintro e w' ⟨rfl,rfl⟩))
     clear HD HW;go_loop [22] (fun i=>∃k:Nat,k≤s.size∧i=.int .i64 (k:Int)∧(s.data.toList.drop k).all sY=AL) (fun i=>s.size-(intOf i).toNat)
     case atStart=>exact⟨0,aR _,rfl,HAL.out.symm⟩
     case round =>
      obtain⟨k,hk,rfl,ha⟩:=hrel;have HA:=aa ha;clear ha;by_cases hlt:k<s.size
      ·have hst:=LM (p:=sY) (byte_at hlt)
       have HST:=aa hst;have HL:=aa (CZ s[k] w);have HG:=aa (wT s[k] w);clear hst;cases e1:RE s[k] with
       | true =>
        have hn:sY s[k]=true:=by unfold sY;rw[e1];rfl
        rw[e1] at HL;rw[hn,kJ] at HST;clear e1 hn;go_wp2_with (go_at_call 156;refine HL.out.mono ?_;rintro e w' ⟨rfl,rfl⟩)
        go_round
        case rel=>exact⟨k+1,by omega,by go_num,by rw[←HST.out];exact HA.out⟩
        case measure=>simp[intOf];omega
       | false =>
        rw[e1] at HL;cases e2:AE s[k] with
        | true =>
         have hn:sY s[k]=true:=by unfold sY;rw[e1,e2];rfl
         rw[e2] at HG;rw[hn,kJ] at HST;clear e1 e2 hn;go_wp2_with (first|(go_at_call 156;refine HL.out.mono ?_;rintro e w' ⟨rfl,rfl⟩)|(go_at_call 155;refine HG.out.mono ?_;rintro e w' ⟨rfl,rfl⟩))
         go_round
         case rel=>exact⟨k+1,by omega,by go_num,by rw[←HST.out];exact HA.out⟩
         case measure=>simp[intOf];omega
        | false =>
         have hn:sY s[k]=false:=by unfold sY;rw[e1,e2];rfl
         rw[e2] at HG;rw[hn,zL] at HST;clear e1 e2 hn;go_wp2_with (first|(go_at_call 156;refine HL.out.mono ?_;rintro e w' ⟨rfl,rfl⟩)|(go_at_call 155;refine HG.out.mono ?_;rintro e w' ⟨rfl,rfl⟩))
         go_ret
         exact⟨cC (by rw[←HA.out,HST.out];rfl),rfl⟩
      ·have hd:(s.data.toList.drop k).all sY=true:=by
        rw[pP (by rw[←Lib.size_eq];omega)];rfl
       have HD:=aa hd;clear hd;go_wp2_with fail
       go_ret
       exact⟨cC (by rw[←HA.out,HD.out]),rfl⟩
  ·have g1:decide ((65536:Int)<(s.size:Int))=true:=bM (by omega)
   have EO:fG s=false:=by
    unfold fG;rw[bL h1];simp
   rw[EO];clear EO;go_enter Tryz.func102,Tryz.ntmps102
   go_wp2_with fail
   go_ret
   exact⟨rfl,rfl⟩
def kx (k:Int):Int :=
 if k=12∨k=13 then 1 else if k=4∨k=20 then 2 else if k=11∨k=27 then 10 else if k=19∨k=26∨k=28 then 8 else if k=7∨k=10∨k=31∨k=32 then 20 else if k=5 then 4 else 0
theorem acq:bits .or .i64 2 8=10:=by kernel_rfl
theorem acr:bits .or .i64 0 8=8:=by kernel_rfl
theorem acs:bits .or .i64 16 4=20:=by kernel_rfl
theorem acu:bits .or .i64 0 4=4:=by kernel_rfl
theorem yr (k:Int) (w:World):Calls Tryz.prog 100 #[.int .i64 k] w fun e w'=>e=.returned (.int .i64 (kx k))∧w=w':=by
 go_enter Tryz.func100,Tryz.ntmps100
 go_wp2_with fail
 all_goals
  go_ret
  refine⟨Az ?_,rfl⟩;simp only[kx];simp_all [acq,acr,acs,acu]
  try omega
def Xl (k op:Int):Bool:=if k=12 then decide (1≤op) && decide (op≤19) else if k=13 then decide (20≤op) && decide (op≤23) else true
def po (k n:Int):Bool:=if k=11 then n == 0 || n == 1 else if k=20∨k=27 then decide (1≤n) else true
def pq (k:Int) (n:Nat):Bool:=if k=19∨k=27 then decide (1≤n) else if k=26∨k=28 then decide (n=1) else true
def Xm (a b c d:Bool):Int :=
 let x:=if a then bits .or .i64 0 1 else 0
 let y:=if b then bits .or .i64 x 2 else x
 let z:=if c then bits .or .i64 y 4 else y
 if d then bits .or .i64 z 8 else z
def RF (x:Nd):Int:=Xm (x.op != 0) (x.num != 0) (!x.s.toList.isEmpty) (decide (0<x.names.length))
theorem RG (x:Nd) (A B:Option Addr) (a c b d:Nat) (w:World):Calls Tryz.prog 103 #[cO x (.slice A a c) (.slice B b d)] w fun e w'=>e=.returned (.bool (Xl x.kind x.op))∧Below w.heap.size w w':=by
 obtain⟨kind,line,op,num,s,names,kids⟩:=x;unfold cO;simp only;go_enter Tryz.func103,Tryz.ntmps103
 go_wp2_with fail
 all_goals
  go_ret
  refine⟨cC ?_,bD w _⟩;simp only[Xl];simp_all
  try omega
theorem C0 (x:Nd) (A B:Option Addr) (a c b d:Nat) (w:World):Calls Tryz.prog 104 #[cO x (.slice A a c) (.slice B b d)] w fun e w'=>e=.returned (.bool (po x.kind x.num))∧Below w.heap.size w w':=by
 obtain⟨kind,line,op,num,s,names,kids⟩:=x;unfold cO;simp only;go_enter Tryz.func104,Tryz.ntmps104
 go_wp2_with fail
 all_goals
  go_ret
  refine⟨cC ?_,bD w _⟩;simp only[po];simp_all
  try omega
theorem C5 (x:Nd) (A B:Option Addr) (c b d:Nat) (w:World):Calls Tryz.prog 105 #[cO x (.slice A x.names.length c) (.slice B b d)] w fun e w'=>e=.returned (.bool (pq x.kind x.names.length))∧Below w.heap.size w w':=by
 obtain⟨kind,line,op,num,s,names,kids⟩:=x;unfold cO;simp only;generalize names.length=a;go_enter Tryz.func105,Tryz.ntmps105
 go_wp2_with fail
 all_goals
  go_ret
  refine⟨cC ?_,bD w _⟩;simp only[pq];first
   | (simp_all;done)
   | (simp_all;omega)
   | (simp_all;rw[mN];simp;omega)
theorem Hp (x:Nd) (A B:Option Addr) (c b d:Nat) (w:World):Calls Tryz.prog 101 #[cO x (.slice A x.names.length c) (.slice B b d)] w fun e w'=>e=.returned (.int .i64 (RF x))∧Below w.heap.size w w':=by
 obtain⟨kind,line,op,num,s,names,kids⟩:=x;unfold cO;unfold RF;simp only;generalize names.length=a;cases e1:(op != 0)<;>cases e2:(num != 0)<;>cases e3:s.toList.isEmpty<;>by_cases e4:0<a;all_goals
  first
   | rw[bM e4]
   | rw[bL e4]
  simp only[Xm,Bool.not_true,Bool.not_false,if_true,Kh,if_false];go_enter Tryz.func101,Tryz.ntmps101
  go_wp2_with fail
  go_ret
  exact⟨rfl,bD w _⟩
def aM (x:Nd):Bool :=
 !(bits .andNot .i64 (RF x) (kx x.kind) != 0) && (!(bits .and .i64 (kx x.kind) 16 != 0) || fG x.s) && x.names.all fG && (Xl x.kind x.op && po x.kind x.num && pq x.kind x.names.length)
theorem wV {α:Type} {p:α→Bool} {l:List α} {k:Nat} {c:α} (h:l[k]? = some c):(l.drop k).all p=(p c && (l.drop (k+1)).all p):=by
 rw[eN h,rZ]
theorem wW {w w':World} {B:Nat} {x:Nd} {nv kv:Value} (hB:w.heap.size<B) (hb:Below B (w.alloc (.cells #[.int .i64 x.kind,.int .i64 x.line,.int .i64 x.op,.int .i64 x.num,.string x.s,nv,kv] 55)) w'):lQ w' w.heap.size 0 x nv kv:=by
 have h :∀j:Nat,w'.cell? ⟨w.heap.size,j,none⟩=(#[.int .i64 x.kind,.int .i64 x.line,.int .i64 x.op,.int .i64 x.num,.string x.s,nv,kv]:Array Value)[j]?:=fun j=>(hb.cell (p:=⟨w.heap.size,j,none⟩) hB).trans (dx w _ _ _)
 exact⟨h 0,h 1,h 2,h 3,h 4,h 5,h 6⟩
theorem C7 (x:Nd) (nv kv:Value) (w:World) (hnv:sx w nv x.names) (hkv :∃A n c,kv=.slice A n c) (hl:x.names.length≤140737488355328) :
  Calls Tryz.prog 51 #[cO x nv kv] w fun e w'=>e=.returned (.bool (aM x))∧Below w.heap.size w w':=by
 have HS:=aa hnv;obtain⟨NA,nc,rfl,_,fE⟩:=hnv;obtain⟨KA,kn,kc,rfl⟩:=hkv;have HNA:=aa fE;clear fE;obtain⟨F,hF⟩ :∃F,F=kx x.kind:=⟨_,rfl⟩;obtain⟨G,hG⟩ :∃G,G=RF x:=⟨_,rfl⟩;obtain⟨O,hO⟩ :∃O,O=Xl x.kind x.op:=⟨_,rfl⟩;obtain⟨C,hC⟩ :∃C,C=po x.kind x.num:=⟨_,rfl⟩;obtain⟨M,hM⟩ :∃M,M=pq x.kind x.names.length:=⟨_,rfl⟩;obtain⟨S,hS⟩ :∃S,S=fG x.s:=⟨_,rfl⟩;obtain⟨AL,Xk⟩ :∃AL,AL=x.names.all fG:=⟨_,rfl⟩;have HFo:=aa (fun W=>hF▸yr x.kind W)
 have HGi:=aa (fun W=>hG▸Hp x NA KA nc kn kc W)
 have UT:=aa (fun W=>hO▸RG x NA KA x.names.length nc kn kc W)
 have HCo:=aa (fun W=>hC▸C0 x NA KA x.names.length nc kn kc W)
 have HNm:=aa (fun W=>hM▸C5 x NA KA nc kn kc W)
 have HSn:=aa (fun W=>hS▸wU x.s W)
 have hfk:aM x=(!(bits .andNot .i64 G F != 0) && (!(bits .and .i64 F 16 != 0) || S) && AL && (O && C && M)):=by
  unfold aM;rw[hF,hG,hO,hC,hM,hS,Xk]
 rw[hfk];have HAL:=aa Xk;clear hF hG hO hC hM hS Xk hfk;unfold cO at HGi UT HCo HNm ⊢;have qe:=aa (fun W (h:Below (w.heap.size+1) (w.alloc (.cells #[.int .i64 x.kind,.int .i64 x.line,.int .i64 x.op,.int .i64 x.num,.string x.s,.slice NA x.names.length nc,.slice KA kn kc] 55)) W)=>wW (dr _) h)
 have B0:=aa (bD w (.cells #[.int .i64 x.kind,.int .i64 x.line,.int .i64 x.op,.int .i64 x.num,.string x.s,.slice NA x.names.length nc,.slice KA kn kc] 55));cases e1:(bits .andNot .i64 G F != 0) with
 | true =>
  go_enter Tryz.func51,Tryz.ntmps51
  go_wp2_with (go_at_call 100;refine(HFo.out _).mono ?_;rintro e w' ⟨rfl,rfl⟩)
  refine(HGi.out _).mono ?_;rintro e w1 ⟨rfl,b1⟩;rw[ao] at b1;have B1:=aa (B0.out.trans (b1.mono (fY _)));obtain⟨c0,c1,c2,c3,c4,c5,c6⟩:=qe.out _ b1;clear b1;go_wp2_with fail
  go_ret
  exact⟨rfl,B1.out⟩
 | false =>
  have key:((bits .and .i64 F 16 != 0)=true∧S=false)∨((bits .and .i64 F 16 != 0)=true∧S=true)∨(bits .and .i64 F 16 != 0)=false:=by
   cases (bits .and .i64 F 16 != 0)<;>cases S<;>simp
  rcases key with ⟨e2,rfl⟩|hh
  ·rw[e2]
   go_enter Tryz.func51,Tryz.ntmps51
   go_wp2_with (go_at_call 100;refine(HFo.out _).mono ?_;rintro e w' ⟨rfl,rfl⟩)
   refine(HGi.out _).mono ?_;rintro e w1 ⟨rfl,b1⟩;rw[ao] at b1;have B1:=aa (B0.out.trans (b1.mono (fY _)));obtain⟨c0,c1,c2,c3,c4,c5,c6⟩:=qe.out _ b1;clear b1;go_wp2_with (go_at_call 102;refine(HSn.out _).mono ?_;rintro e w' ⟨rfl,rfl⟩)
   go_ret
   exact⟨rfl,B1.out⟩
  ·have hval:(!(bits .and .i64 F 16 != 0) || S)=true:=by
    rcases hh with ⟨h1,rfl⟩|h1<;>rw[h1]<;>simp
   rw[hval];clear hval;simp only[Bool.not_false,kJ];rcases hh with ⟨e2,rfl⟩|e2;all_goals
    go_enter Tryz.func51,Tryz.ntmps51
    go_wp2_with (go_at_call 100;refine(HFo.out _).mono ?_;rintro e w' ⟨rfl,rfl⟩)
    refine(HGi.out _).mono ?_;rintro e w1 ⟨rfl,b1⟩;rw[ao] at b1;have BW:=aa b1;have B1:=aa (B0.out.trans (b1.mono (fY _)));have C8:=b1.size;rw[ao] at C8;obtain⟨c0,c1,c2,c3,c4,c5,c6⟩:=qe.out _ b1;clear b1;go_wp2_with (go_at_call 102;refine(HSn.out _).mono ?_;rintro e w' ⟨rfl,rfl⟩)
    clear c0 c1 c2 c3 c4 c5 c6;go_loop [28] (fun i=>∃k:Nat,k≤x.names.length∧i=.int .i64 (k:Int)∧(x.names.drop k).all fG=AL) (fun i=>x.names.length-(intOf i).toNat)
    case atStart=>exact⟨0,aR _,rfl,HAL.out.symm⟩
    case round =>
     obtain⟨k,hk,rfl,ha⟩:=hrel;have HA:=aa ha;clear ha;by_cases hlt:k<x.names.length
     ·obtain⟨y,hy⟩ :∃y,x.names[k]? = some y:=⟨x.names[k],bE hlt⟩
      rcases HNA.out with h0 | ⟨b2,o2,rfl,hb2,hc2⟩
      ·rw[h0] at hlt;exact absurd hlt (jx _)
      have ck:=(B1.out.cell (p:=⟨b2,o2+k,none⟩) hb2).trans (hc2 k _ hy);have HST:=aa (wV (p:=fG) hy);have HN:=aa (wU y w1);cases hb:fG y with
      | true =>
       rw[hb] at HN HST;rw[kJ] at HST;clear hc2 hy hb;go_wp2_with (go_at_call 102;refine HN.out.mono ?_;rintro e w' ⟨rfl,rfl⟩)
       go_round
       case rel=>exact⟨k+1,by omega,by go_num,by rw[←HST.out];exact HA.out⟩
       case measure=>simp[intOf];omega
      | false =>
       rw[hb] at HN HST;rw[zL] at HST;clear hc2 hy hb;go_wp2_with (go_at_call 102;refine HN.out.mono ?_;rintro e w' ⟨rfl,rfl⟩)
       go_ret
       exact⟨cC (by rw[←HA.out,HST.out];rfl),B1.out⟩
     ·have hd:(x.names.drop k).all fG=true:=by
       rw[pP (by omega)];rfl
      have hal:AL=true:=by rw[←HA.out,hd]
      subst hal;clear hd;obtain⟨c0,c1,c2,c3,c4,c5,c6⟩:=qe.out _ BW.out;go_wp2_with fail
      refine(UT.out _).mono ?_;rintro e w2 ⟨rfl,b2⟩;have lH:=aa (jk BW.out (by rw[ao];exact ah _) b2)
      have B2:=aa (jk B1.out (ah _) b2);clear c0 c1 c2 c3 c4 c5 c6 b2;cases O with
      | false =>
       go_wp2_with fail
       go_ret
       exact⟨rfl,B2.out⟩
      | true =>
       obtain⟨c0,c1,c2,c3,c4,c5,c6⟩:=qe.out _ lH.out;go_wp2_with fail
       refine(HCo.out _).mono ?_;rintro e w3 ⟨rfl,b3⟩;have RH:=aa (jk lH.out (by rw[ao];exact ah _) b3)
       have B3:=aa (jk B2.out (ah _) b3);clear c0 c1 c2 c3 c4 c5 c6 b3;cases C with
       | false =>
        go_wp2_with fail
        go_ret
        exact⟨rfl,B3.out⟩
       | true =>
        obtain⟨c0,c1,c2,c3,c4,c5,c6⟩:=qe.out _ RH.out;go_wp2_with fail
        refine(HNm.out _).mono ?_;rintro e w4 ⟨rfl,b4⟩;have B4:=aa (jk B3.out (ah _) b4);clear c0 c1 c2 c3 c4 c5 c6 b4;go_wp2_with fail
        go_ret
        exact⟨by simp,B4.out⟩
def srt (a:Ast):Int:=dN a.hd.kind
def flB (F:Int) (a b c d nb na o:Bool):Bool:=!(bits .andNot .i64 (Xm a b c d) F != 0) && (!(bits .and .i64 F 16 != 0) || nb) && na && o
end Go.Proofs.YteflkdlaoiijbaaGreatDoor
namespace Go.Proofs.YteflkdlaoiijbaaGreatDoor
open Go.RowKit
mutual
def Ast.upto (M:Int):Ast→Bool
 | .mk h ks=>decide (h.line≤M) && Ast.UU M ks
def Ast.UU (M:Int):List Ast→Bool
 | []=>true
 | a::xs=>Ast.upto M a && Ast.UU M xs
end
def Good (M:Int) (a:Ast):Prop:=Ast.ok aM iP dN a=true∧Ast.upto M a=true
def Ln (M l:Int):Prop:=1≤l∧l≤M
def LO (M:Int) (a:Ast):Prop:=Good M a∧1≤a.hd.kind∧a.hd.kind≤15
def UW (M:Int) (a:Ast):Prop:=Good M a∧srt a=64
def BlG (M:Int) (a:Ast):Prop:=Good M a∧a.hd.kind=18
def ItG (M:Int) (a:Ast):Prop:=Good M a∧srt a=16
def FnG (M:Int) (a:Ast):Prop:=Good M a∧a.hd.kind=11
def RtG (M:Int) (a:Ast):Prop:=Good M a∧a.hd.kind=29
def SfG (M:Int) (a:Ast):Prop:=Good M a∧(a.hd.kind=7∨a.hd.kind=8∨a.hd.kind=9∨a.hd.kind=10∨a.hd.kind=14)
variable {M:Int}
def prs (ps:List (Ast×Ast)):List Ast:=ps.flatMap fun p=>[p.1,p.2]
end Go.Proofs.YteflkdlaoiijbaaGreatDoor
namespace Go.Proofs.YteflkdlaoiijbaaGreatDoor
open Go.RowKit
structure aav (M:Int) (t:aj):Prop where
 line:Ln M t.2.1
 name:t.1=1→fG (bb t.2.2.2)=true
structure aaw (M:Int) (ts:List aj):Prop where
 all :∀t∈ts,aav M t
 len:ts.length≤100000
variable {M:Int}
def ZJ (l:List ByteArray):Prop:=l.all fG=true
def acv (M:Int) (l:List Ast) (L:Nat) (v:List Ast) (L':Nat):Prop:=(∀a∈l,UW M a)→l.length+L≤300000→∃l1 l2,v=l1++l2∧(∀a∈l1,UW M a)∧(l2=[]∨∃r,l2=[r]∧RtG M r)∧l1.length≤1000000∧L'≤L
def acw (M:Int) (l:List Ast) (L:Nat) (v:List Ast) (L':Nat):Prop:=∀ps,l=prs ps→(∀p∈ps,LO M p.1∧BlG M p.2)→1≤ps.length→ps.length+L≤300000→∃ps' l2,v=prs ps'++l2∧(∀p∈ps',LO M p.1∧BlG M p.2)∧1≤ps'.length∧ps'.length≤1000000∧(l2=[]∨∃b,l2=[b]∧BlG M b)∧L'≤L
def acx (l:List ByteArray) (L:Nat) (v:List ByteArray×Int) (L':Nat):Prop:=ZJ l→(ZJ v.1∧(v.2=0∨v.2=1))∧L'≤L
def acy (L:Nat) (v:List ByteArray) (L':Nat):Prop:=ZJ v∧1≤v.length∧L'≤L
def acz (l:List ByteArray) (L:Nat) (v:List ByteArray) (L':Nat):Prop:=ZJ l→ZJ v∧l.length≤v.length∧L'≤L
def acA (M:Int) (L:Nat) (v:List Ast) (L':Nat):Prop:=(∀a∈v,LO M a)∧1≤v.length∧v.length+L'≤L
def acB (M:Int) (l:List Ast) (L:Nat) (v:List Ast) (L':Nat):Prop:=(∀a∈l,LO M a)→(∀a∈v,LO M a)∧l.length≤v.length∧v.length+L'≤l.length+L
def acC (M:Int) (L:Nat) (v:List Ast) (L':Nat):Prop:=(∀a∈v,LO M a)∧v.length+L'≤L
def acD (M:Int) (l:List Ast) (L:Nat) (v:List Ast) (L':Nat):Prop:=(∀a∈l,ItG M a)→(∀a∈v,ItG M a)∧v.length+L'≤l.length+L
def Res (M:Int):(n:NT)→Nat→VT n→Nat→Prop
 | .blk,L,v,L'=>BlG M v∧L'≤L
 | .tV l,L,v,L'=>acv M l L v L'
 | .ret at_,L,v,L'=>Ln M at_→RtG M v∧L'≤L
 | .zT,L,v,L'=>UW M v∧L' < L
 | .els l,L,v,L'=>acw M l L v L'
 | .ZE at_,L,v,L'=>Ln M at_→UW M v∧L'≤L
 | .ZF at_,L,v,L'=>Ln M at_→UW M v∧L'≤L
 | .Wd at_ x,L,v,L'=>Ln M at_→SfG M x→(x.hd.kind=7∨x.hd.kind=8)→UW M v∧L'≤L
 | .loc at_,L,v,L'=>Ln M at_→UW M v∧L'≤L
 | .Gy at_ self,L,v,L'=>Ln M at_→ZJ self→FnG M v∧L'≤L
 | .UG l,L,v,L'=>acx l L v L'
 | .QG,L,v,L'=>acy L v L'
 | .We l,L,v,L'=>acz l L v L'
 | .Ck,L,v,L'=>acA M L v L'
 | .Wg l,L,v,L'=>acB M l L v L'
 | .Wh at_ l,L,v,L'=>Ln M at_→(∃l0 x,l=l0++[x]∧(∀a∈l0,Good M a∧(a.hd.kind=7∨a.hd.kind=8))∧SfG M x)→UW M v∧L'≤L
 | .Eu,L,v,L'=>SfG M v∧L' < L
 | .aS x,L,v,L'=>SfG M x→SfG M v∧L'≤L
 | .arg,L,v,L'=>acC M L v L'
 | .QH l,L,v,L'=>acD M l L v L'
 | .UH,L,v,L'=>ItG M v∧L' < L
 | .exp _,L,v,L'=>LO M v∧L' < L
 | .lvm _ x,L,v,L'=>LO M x→LO M v∧L'≤L
 | .una,L,v,L'=>LO M v∧L' < L
 | .QI,L,v,L'=>LO M v∧L' < L
def aax (M:Int) (n:NT) (ts:List aj) (v:VT n) (ay:List aj):Prop:=aaw M ts→aaw M ay∧Res M n ts.length v ay.length
abbrev W (M:Int) {α:Type} (g:GL α) (ts:List aj) (Q:α→List aj→Prop):Prop:=Wp (aax M) g ts Q
end Go.Proofs.YteflkdlaoiijbaaGreatDoor
namespace Go.Proofs.YteflkdlaoiijbaaGreatDoor
open Go.RowKit
variable {M:Int}
theorem AF {α:Type} {c:Prop} [Decidable c] {a o:α} {y:Option α} (h:(if c then some a else y)=some o):a=o∨y=some o:=by
 by_cases hc:c
 ·rw[ak hc] at h
  exact .inl (gz h)
 ·rw[af hc] at h
  exact .inr h
theorem yt {t:aj} {o:Int} (h:lK t=some o):20≤o∧o≤23:=by
 unfold lK at h;repeat
  obtain e|h:=AF h
  ·rw[←e];exact⟨by decide,by decide⟩
 cases h
end Go.Proofs.YteflkdlaoiijbaaGreatDoor
namespace Go.Proofs.YteflkdlaoiijbaaGreatDoor
def yw:aj:=(0,1,0,[])
theorem nZ (k l:Int) (ks:List Ast):(nd k l ks).size=Ast.al ks+1:=by unfold nd;rw[Ast.size]
theorem kQ (k l:Int) (s:ByteArray) (ks:List Ast):(jh k l s ks).size=Ast.al ks+1:=by unfold jh;rw[Ast.size]
theorem AG (k l o:Int) (ks:List Ast):(ZD k l o ks).size=Ast.al ks+1:=by unfold ZD;rw[Ast.size]
theorem LP (k l n:Int) (ks:List Ast):(qS k l n ks).size=Ast.al ks+1:=by unfold qS;rw[Ast.size]
theorem LQ (k l n:Int) (ns:List ByteArray) (ks:List Ast):(oA k l n ns ks).size=Ast.al ks+1:=by unfold oA;rw[Ast.size]
theorem cb:Ast.al []=0:=by rw[Ast.al]
theorem ic (a:Ast) (l:List Ast):Ast.al (a::l)=a.size+Ast.al l:=by rw[Ast.al]
theorem eV :∀a b:List Ast,Ast.al (a++b)=Ast.al a+Ast.al b:=by
 intro a;induction a with
 | nil=>intro b;rw[mQ,cb,jX]
 | cons x a ih=>intro b;rw[gU,ic,ic,ih,r9]
def ZlR (l:List Ast) (L:Nat) (v:List Ast) (L':Nat):Prop:=Ast.al v+2*L'≤Ast.al l+2*L
def ZaR (L:Nat) (v:List Ast) (L':Nat):Prop:=Ast.al v+2*L'+1≤2*L
def yx:(n:NT)→Nat→VT n→Nat→Prop
 | .blk,L,v,L'=>Ast.size v+2*L'≤2*L+1
 | .tV l,L,v,L'=>ZlR l L v L'
 | .ret _,L,v,L'=>Ast.size v+2*L'≤2*L+1
 | .zT,L,v,L'=>Ast.size v+2*L'≤2*L
 | .els l,L,v,L'=>ZlR l L v L'
 | .ZE _,L,v,L'=>Ast.size v+2*L'≤2*L+2
 | .ZF _,L,v,L'=>Ast.size v+2*L'≤2*L
 | .Wd _ x,L,v,L'=>Ast.size v+2*L'≤x.size+2*L+1
 | .loc _,L,v,L'=>Ast.size v+2*L'≤2*L+2
 | .Gy _ _,L,v,L'=>Ast.size v+2*L'≤2*L
 | .UG _,L,_,L'=>L'≤L
 | .QG,L,_,L'=>L'≤L
 | .We _,L,_,L'=>L'≤L
 | .Ck,L,v,L'=>ZaR L v L'
 | .Wg l,L,v,L'=>ZlR l L v L'
 | .Wh _ l,L,v,L'=>Ast.size v+2*L'≤Ast.al l+2*L
 | .Eu,L,v,L'=>Ast.size v+2*L'+1≤2*L
 | .aS x,L,v,L'=>Ast.size v+2*L'≤x.size+2*L
 | .arg,L,v,L'=>ZaR L v L'
 | .QH l,L,v,L'=>ZlR l L v L'
 | .UH,L,v,L'=>Ast.size v+2*L'≤2*L
 | .exp _,L,v,L'=>Ast.size v+2*L'+1≤2*L
 | .lvm _ x,L,v,L'=>Ast.size v+2*L'≤x.size+2*L
 | .una,L,v,L'=>Ast.size v+2*L'+1≤2*L
 | .QI,L,v,L'=>Ast.size v+2*L'+1≤2*L
def LS (n:NT) (ts:List aj) (v:VT n) (ay:List aj):Prop:=yx n ts.length v ay.length
abbrev Zp {α:Type} (g:GL α) (ts:List aj) (Q:α→List aj→Prop):Prop:=Wp LS g ts Q
theorem yy {P:(n:NT)→List aj→VT n→List aj→Prop} {α:Type} {f:aj→GL α} {ts:List aj} {Q:α→List aj→Prop} (h :∀t ay,ts.length=ay.length+1→Wp P (f t) (t::ay) Q):Wp P (.look f) ts Q:=fun t ay e=>by
 subst e;exact h t ay rfl
theorem EP {P:(n:NT)→List aj→VT n→List aj→Prop} {α:Type} {f:aj→GL α} {t:aj} {ts:List aj} {Q:α→List aj→Prop} (h:Wp P (f t) ts Q):Wp P (.tok f) (t::ts) Q:=fun u us e=>by
 injection e with e1 e2;subst e1 e2;exact h
theorem yz {P:(n:NT)→List aj→VT n→List aj→Prop} {α:Type} {n:NT} {k:VT n→GL α} {ts:List aj} {Q:α→List aj→Prop} (h :∀v ay,P n ts v ay→Wp P (k v) ay Q):Wp P (.call n k) ts Q:=h
theorem ER {P:(n:NT)→List aj→VT n→List aj→Prop} {α:Type} {c:Prop} [Decidable c] {g g':GL α} {ts:List aj} {Q:α→List aj→Prop} (h1:Wp P g ts Q) (h2:Wp P g' ts Q):Wp P (if c then g else g') ts Q:=by
 by_cases h:c
 ·rw[ak h];exact h1
 ·rw[af h];exact h2
theorem Xn {P:(n:NT)→List aj→VT n→List aj→Prop} {α:Type} {s:List UInt8} {k:aj→GL α} {ts:List aj} {Q:α→List aj→Prop} (h :∀t ay,ts.length=ay.length+1→Wp P (k t) ay Q):Wp P (want s k) ts Q:=yy fun t ay e=>ER (EP (h t ay e)) trivial
theorem Xo {P:(n:NT)→List aj→VT n→List aj→Prop} {α:Type} {k:aj→GL α} {ts:List aj} {Q:α→List aj→Prop} (h :∀t ay,ts.length=ay.length+1→Wp P (k t) ay Q):Wp P (name k) ts Q:=yy fun t ay e=>ER (EP (h t ay e)) trivial
theorem Xp {P:(n:NT)→List aj→VT n→List aj→Prop} {α:Type} {s:List UInt8} {a b:GL α} {ts:List aj} {Q:α→List aj→Prop} (h :∀t ay,ts.length=ay.length+1→Wp P a ay Q∧Wp P b (t::ay) Q):Wp P (take s a b) ts Q:=yy fun t ay e=>ER (EP (h t ay e).1) (h t ay e).2
theorem aay {P:(n:NT)→List aj→VT n→List aj→Prop} {α:Type} {ts:List aj} {Q:α→List aj→Prop}:Wp P (.bad:GL α) ts Q:=trivial
theorem aaz {P:(n:NT)→List aj→VT n→List aj→Prop} {α:Type} {a:α} {ts:List aj} {Q:α→List aj→Prop} (h:Q a ts):Wp P (.ret a:GL α) ts Q:=h
theorem aaA (n:NT) (ts:List aj):Zp (df n) ts (LS n ts):=by
 cases n<;>unfold df;all_goals
  repeat' (first
   | with_reducible refine Xn fun _ _ _=>?_
   | with_reducible refine Xo fun _ _ _=>?_
   | with_reducible refine Xp fun _ _ _=>⟨?_,?_⟩
   | with_reducible refine yy fun _ _ _=>?_
   | with_reducible refine EP ?_
   | with_reducible refine ER ?_ ?_
   | (refine yz ?_;intro(v:Ast) ts h)
   | (refine yz ?_;intro(v:List Ast) ts h)
   | (refine yz ?_;intro(v:List ByteArray) ts h)
   | (refine yz ?_;intro(v:List ByteArray×Int) ts h)
   | refine aaz ?_
   | exact aay
   | split)
 all_goals
  simp only[LS,yx,ZlR,ZaR,nZ,kQ,AG,LP,LQ,cb,ic,eV,List.length_cons] at *;omega
theorem Fin.cons {ts:List aj} (h:Fin ts) :∃t r,ts=t::r:=by
 cases ts with
 | nil=>exact absurd rfl h.ne
 | cons t r=>exact⟨t,r,rfl⟩
def UX (n:NT) (ts:List aj) (_:VT n) (ay:List aj):Prop:=Fin ts→Fin ay
def Ff {α:Type} (g:GL α) (ts:List aj):Prop:=Fin ts→Wp UX g ts (fun _ ay=>Fin ay)
theorem rj {α:Type} {a:α} {ts:List aj}:Ff (.ret a) ts:=fun h=>h
theorem C9 {α:Type} {ts:List aj}:Ff (.bad:GL α) ts:=fun _=>trivial
theorem n0 {α:Type} {f:aj→GL α} {ts:List aj} (h :∀t ay,Ff (f t) (t::ay)):Ff (.look f) ts:=fun hf t ay e=>by
 subst e;exact h t ay hf
theorem rk {α:Type} {f:aj→GL α} {t:aj} {ts:List aj} (ht:t.1≠0) (h:Ff (f t) ts):Ff (.tok f) (t::ts):=fun hf u us e=>by
 injection e with e1 e2;subst e1 e2;exact h (hf.tail ht)
theorem qf {α:Type} {n:NT} {k:VT n→GL α} {ts:List aj} (h :∀v ay,Ff (k v) ay):Ff (.call n k) ts:=fun hf v ay hp=>h v ay (hp hf)
theorem ur {α:Type} {c:Prop} [Decidable c] {g g':GL α} {ts:List aj} (h1:c→Ff g ts) (h2:¬ c→Ff g' ts):Ff (if c then g else g') ts:=by
 by_cases h:c
 ·rw[ak h];exact h1 h
 ·rw[af h];exact h2 h
theorem aV {s:List UInt8} {t:aj} (h:av s t=true):t.1≠0:=fun e=>by simp[av,e] at h
theorem RI {α:Type} {s:List UInt8} {k:aj→GL α} {ts:List aj} (h :∀t ay,Ff (k t) ay):Ff (want s k) ts:=n0 fun t ay=>ur (fun hc=>rk (aV hc) (h t ay)) fun _=>C9
theorem RJ {α:Type} {k:aj→GL α} {ts:List aj} (h :∀t ay,Ff (k t) ay):Ff (name k) ts:=n0 fun t ay=>ur (fun hc=>rk (by rw[hc];decide) (h t ay)) fun _=>C9
theorem RM {α:Type} {s:List UInt8} {a b:GL α} {ts:List aj} (h1 :∀ay,Ff a ay) (h2 :∀ay,Ff b ay):Ff (take s a b) ts:=n0 fun _ ay=>ur (fun hc=>rk (aV hc) (h1 ay)) fun _=>h2 _
theorem ES {t:aj} {o:Int×Nat×Nat} (h:my t=some o):t.1≠0:=fun e=>by simp[my,av,e] at h
theorem ET {t:aj} {o:Int} (h:lK t=some o):t.1≠0:=fun e=>by simp[lK,av,e] at h
theorem Xq (n:NT) (ts:List aj):Ff (df n) ts:=by
 cases n<;>unfold df;case lvm s x =>
  refine n0 fun t ay=>?_
  cases h:my t with
  | none=>exact rj
  | some o=>exact ur (fun _=>rk (ES h) (qf fun _ _=>qf fun _ _=>rj)) fun _=>rj
 case una =>
  refine n0 fun t ay=>?_
  cases h:lK t with
  | none=>exact qf fun _ _=>rj
  | some o=>exact rk (ET h) (qf fun _ _=>rj)
 all_goals
  repeat' first
   | exact rj
   | exact C9
   | (refine RI fun _ _=>?_)
   | (refine RJ fun _ _=>?_)
   | (refine RM (fun _=>?_) (fun _=>?_))
   | (refine n0 fun _ _=>?_)
   | (refine qf fun _ _=>?_)
   | (refine ur (fun hc=>?_) (fun _=>?_))
   | (refine rk (by first|exact aV hc|(intro e;simp[av,e] at hc)) ?_)
theorem Wp.always {N:Type} {V:N→Type} {Post :∀n,List aj→V n→List aj→Prop} {α:Type} (g:G N V α) :∀(ts:List aj) (Q:α→List aj→Prop),(∀a ay,Q a ay)→Wp Post g ts Q:=by
 induction g with
 | ret a=>intro ts Q h;exact h a ts
 | bad=>intro ts Q h;trivial
 | tok f ih=>intro ts Q h t ay e;exact ih t ay Q h
 | look f ih=>intro ts Q h t ay e;exact ih t ts Q h
 | call n k ih=>intro ts Q h v ay hp;exact ih v ay Q h
theorem Wp.weak {N:Type} {V:N→Type} {Post :∀n,List aj→V n→List aj→Prop} {α:Type} (g:G N V α) :∀(ts:List aj) (Q Q':α→List aj→Prop),(∀a ay,Q a ay→Q' a ay)→Wp Post g ts Q→Wp Post g ts Q':=by
 induction g with
 | ret a=>intro ts Q Q' h hw;exact h a ts hw
 | bad=>intro ts Q Q' h hw;trivial
 | tok f ih=>intro ts Q Q' h hw t ay e;exact ih t ay Q Q' h (hw t ay e)
 | look f ih=>intro ts Q Q' h hw t ay e;exact ih t ts Q Q' h (hw t ay e)
 | call n k ih=>intro ts Q Q' h hw v ay hp;exact ih v ay Q Q' h (hw v ay hp)
theorem PL.fin {n:NT} {ts ay:List aj} {v:VT n} (h:PL (df n) ts (.ok (v,ay))) (hf:Fin ts):Fin ay :=
 P.holds (Post:=UX) (fun n ts=>by
  by_cases hf:Fin ts
  ·exact Wp.weak _ _ _ _ (fun _ _ h _=>h) (Xq n ts hf)
  ·exact Wp.always _ _ _ fun _ _ h=>(hf h).elim) h hf
end Go.Proofs.YteflkdlaoiijbaaGreatDoor
namespace Go.Proofs.YteflkdlaoiijbaaGreatDoor
def Qh (x:Nd):Prop:=-9223372036854775808≤x.num∧x.num≤9223372036854775807∧x.s.size≤8000∧x.names.length≤5000∧-9223372036854775808≤x.op∧x.op≤9223372036854775807
mutual
def Hq:Ast→Prop
 | .mk h ks=>Qh h∧Hr ks
def Hr:List Ast→Prop
 | []=>True
 | a::xs=>Hq a∧Hr xs
end
theorem eW:Hr []:=by unfold Hr;trivial
theorem dh {a:Ast} {l:List Ast} (h:Hq a) (k:Hr l):Hr (a::l):=by unfold Hr;exact⟨h,k⟩
section
variable {α:Type} {Q:α→List aj→Prop}
end
end Go.Proofs.YteflkdlaoiijbaaGreatDoor
namespace Go.Proofs.YteflkdlaoiijbaaGreatDoor
open Go.RowKit
def fS (t:aj):Value:=.agg #[.int .i64 t.1,.int .i64 t.2.1,.int .i64 t.2.2.1,.string (bb t.2.2.2)]
theorem PS.look {W:World} {b:Nat} {O:Nat→Prop} {t:aj} {ts:List aj} {T:List Nd} (h:PS W b O (t::ts) T) :
  ∃(i g n c:Nat),W.cell? ⟨b,0,none⟩=some (.slice (some ⟨g,0,none⟩) n c)∧W.cell? ⟨b,1,none⟩=some (.int .i64 (i:Int))∧i<n∧n≤20000∧n≤c ∧
   W.cell? ⟨g,i*4,none⟩=some (.int .i64 t.1)∧W.cell? ⟨g,i*4+1,none⟩=some (.int .i64 t.2.1)∧W.cell? ⟨g,i*4+2,none⟩=some (.int .i64 t.2.2.1)∧W.cell? ⟨g,i*4+3,none⟩=some (.string (bb t.2.2.2)):=by
 obtain⟨TS,i,g,c,nv,L,a1,a2,a3,a4,a5,a6,a7⟩:=h.ex;obtain⟨g',cap,e,h1,h2,h3⟩:=a2.ex;have hg:g=g'∧c=cap:=by injection e with e1 _ e3;injection e1 with e1;injection e1 with e1;exact⟨e1,e3⟩
 obtain⟨rfl,rfl⟩:=hg;have hi:TS[i]? = some t:=by
  have:=ax (·[0]?) a4
  simpa[zH] using this
 have hlt:=(aL.1 hi).1;obtain⟨b0,b1,b2,b3⟩:=h3 i t hi;exact⟨i,g,TS.length,c,by simp[World.cell?,a1],by simp[World.cell?,a1],hlt,a5,h1,b0,b1,b2,b3⟩
theorem cj (b:Nat) (O:Nat→Prop) (t:aj) (ts:List aj) (T:List Nd) (w:World) (h:PS w b O (t::ts) T) :
  Calls Tryz.prog 34 #[.pointer (some ⟨b,0,none⟩)] w fun e w'=>e=.returned (fS t)∧Below w.heap.size w w':=by
 obtain⟨i,g,n,c,c0,c1,hi,hn,hc,d0,d1,d2,d3⟩:=h.look;obtain⟨t0,t1,t2,t3⟩:=t;have hb:b<w.heap.size:=World.block_lt_of_cell? w _ c1;have hg:g<w.heap.size:=World.block_lt_of_cell? w _ d0;clear h;go_enter Tryz.func34,Tryz.ntmps34
 go_wp2_with fail
 go_region
 all_goals go_wp2
 all_goals exact bodyPost_ret (v:=fS (t0,t1,t2,t3)) (by simp[results,Tryz.results34,go_sem,fS]) rfl ⟨rfl,((Below.refl _ _).alloc (ah _) _).drew⟩
def ag (t:aj):ByteArray:=if t.1=2∨t.1=5 then bb t.2.2.2 else ⟨#[]⟩
theorem bI (b:Nat) (O:Nat→Prop) (t:aj) (ts:List aj) (T:List Nd) (w:World) (h:PS w b O (t::ts) T) :
  Calls Tryz.prog 38 #[.pointer (some ⟨b,0,none⟩)] w fun e w'=>e=.returned (.string (ag t))∧Below w.heap.size w w':=by
 obtain⟨t0,t1,t2,t3⟩:=t;have HA:=aa (cj b O (t0,t1,t2,t3) ts T w h);unfold fS at HA;obtain⟨S,hS⟩ :∃S,S=bb t3:=⟨_,rfl⟩;dsimp only at HA
 rw[←hS] at HA;by_cases h2:t0=2
 ·subst h2
  have hw:ag (2,t1,t2,t3)=S:=by subst hS;rfl
  have HW:=aa hw;clear hw h hS;go_enter Tryz.func38,Tryz.ntmps38
  go_wp2_with fail
  refine HA.out.mono ?_;rintro e w1 ⟨rfl,b1⟩;have B1:=aa b1;clear b1;go_wp2_with fail
  go_ret
  exact⟨(by rw[HW.out];rfl),aB B1.out ((Below.refl _ _).alloc (ah _) _)⟩
 ·have g2:(t0 == 2)=false:=aE.2 h2
  have g2':(t0 != 2)=true:=oO.2 h2;by_cases h5:t0=5
  ·subst h5
   have hw:ag (5,t1,t2,t3)=S:=by subst hS;rfl
   have HW:=aa hw;clear hw h hS;go_enter Tryz.func38,Tryz.ntmps38
   go_wp2_with fail
   refine HA.out.mono ?_;rintro e w1 ⟨rfl,b1⟩;have B1:=aa b1;clear b1;go_wp2_with fail
   go_ret
   exact⟨(by rw[HW.out];rfl),aB B1.out ((Below.refl _ _).alloc (ah _) _)⟩
  ·have g5:(t0 == 5)=false:=aE.2 h5
   have g5':(t0 != 5)=true:=oO.2 h5;have hw:ag (t0,t1,t2,t3)=⟨#[]⟩:=af (by rintro(h|h)<;>contradiction)
   have HW:=aa hw;clear hw h h2 h5 hS;go_enter Tryz.func38,Tryz.ntmps38
   go_wp2_with fail
   refine HA.out.mono ?_;rintro e w1 ⟨rfl,b1⟩;have B1:=aa b1;clear b1;go_wp2_with fail
   go_ret
   exact⟨(by rw[HW.out];rfl),aB B1.out ((Below.refl _ _).alloc (ah _) _)⟩
theorem PS.step {W:World} {b:Nat} {O:Nat→Prop} {t:aj} {ts:List aj} {T:List Nd} (h:PS W b O (t::ts) T) (ht:t.1≠0) {i:Nat} (hi:W.cell? ⟨b,1,none⟩=some (.int .i64 (i:Int))) :
  PS (W.setCell ⟨b,1,none⟩ (.int .i64 ((i:Int)+1))) b O ts T:=by
 obtain⟨TS,i',g,c,nv,L,a1,a2,a3,a4,a5,a6,a7⟩:=h.ex;have hi':i'=i:=by
  simp[World.cell?,a1] at hi;omega
 subst hi';have hlt:b<W.heap.size:=(aI.1 a1).1;have hne :∀k,k≠b→(W.setCell ⟨b,1,none⟩ (.int .i64 ((i':Int)+1))).heap[k]? = W.heap[k]?:=fun k hk=>Below.heap_setCell _ _ _ k hk
 have Gt:=(yl a1 (.int .i64 ((i':Int)+1))).1;have hrow :∀{B e s n:Nat} {v:Value} {xs:List Value},W.ownsRow B e s v n xs→B=b+1→(W.setCell ⟨b,1,none⟩ (.int .i64 ((i':Int)+1))).ownsRow B e s v n xs:=fun h hB=>cS h fun k hk=>hne k (by have:=(h.lt k hk).1;omega)
 refine⟨⟨TS,i'+1,g,c,nv,L,Gt,?_,a3,?_,a5,⟨hrow a6.row rfl,a6.own,fun t ht=>?_⟩,a7⟩,h.fin.tail ht,h.at_,fun k hk=>⟨(h.own k hk).1,by simpa[World.setCell] using (h.own k hk).2⟩⟩
 ·exact a2.kept (hne g (by omega)) (by simp[World.setCell])
 ·rw[←List.drop_drop,a4];rfl
 ·have hn:=a6.each t ht
  exact⟨hrow hn.names rfl,hrow hn.kids rfl,fun g hg=>(hn.on g hg).imp id (h.fr 1 _).keeps,hn.nz,hn.ok⟩
theorem PS.place {W:World} {b:Nat} {O:Nat→Prop} {ts:List aj} {T:List Nd} (h:PS W b O ts T) :∃i:Nat,i≤20000∧W.cell? ⟨b,1,none⟩=some (.int .i64 (i:Int))∧W.frozen? ⟨b,1,none⟩=false∧b<W.heap.size:=by
 obtain⟨TS,i,g,c,nv,L,a1,a2,a3,a4,a5,a6,a7⟩:=h.ex;refine⟨i,?_,by simp[World.cell?,a1],by simp[World.frozen?,a1],(aI.1 a1).1⟩
 rcases Em TS.length i with hi|hi
 ·exact absurd (by rw[←a4];exact pP (by omega)) h.fin.ne
 ·omega
theorem tm {s:List UInt8} (hs:s≠[]) (t:aj):((ag t).data.toList == s)=av s t:=by
 rw[mN];unfold ag av;by_cases h:t.1=2∨t.1=5
 ·rw[ak h]
  simp[h,bb]
 ·rw[af h]
  simp[h];exact hs
theorem tn {s:List UInt8} {t:aj} (h:av s t=true):t.1≠0:=by
 unfold av at h;intro h0;simp[h0] at h
def kS (b:Nat) (O:Nat→Prop) (ay:List aj) (T:List Nd) (r:Bool) (w:World) (e:Ending) (w':World):Prop:=e=.returned (.bool r)∧PS w' b O ay T∧az (· = b) w w'
theorem lR (b:Nat) (O:Nat→Prop) (t:aj) (ts:List aj) (T:List Nd) (s:List UInt8) (X:ByteArray) (hX:X=bb s) (w:World) (h:PS w b O (t::ts) T) (hs:s≠[]) (ht:av s t=true) :
  Calls Tryz.prog 37 #[.pointer (some ⟨b,0,none⟩),.string X] w (kS b O ts T true w):=by
 have HA:=aa (bI b O t ts T w h);have hw:=tm hs t;have he:(ag t).data.toList=X.data.toList:=by
  rw[ht] at hw;rw[hX];exact eq_of_beq hw
 have he:ag t=X:=by
  cases h1:ag t with
  | mk d =>
   cases X with
   | mk d' =>
    rw[h1] at he;congr 1
    exact Array.ext' he
 rw[he] at HA;have HH:=aa h;have HT:=aa (tn ht);clear hw he hX h hs ht;go_enter Tryz.func37,Tryz.ntmps37
 go_wp2_with fail
 refine HA.out.mono ?_;rintro e w1 ⟨rfl,b1⟩;have h1:=HH.out.below b1;have B1:=aa b1;obtain⟨i,hi,c1,f1,hb⟩:=h1.place;have H1:=aa h1;have C1:=aa c1;clear b1 h1;go_wp2_with fail
 go_ret
 exact⟨rfl,H1.out.step HT.out C1.out,(az.ae (O:=(· = b)) B1.out).trans (H1.out.fr 1 _) (Ext.refl _ _)⟩
theorem n7 (b:Nat) (O:Nat→Prop) (t:aj) (ts:List aj) (T:List Nd) (s:List UInt8) (X:ByteArray) (hX:X=bb s) (w:World) (h:PS w b O (t::ts) T) (hs:s≠[]) (ht:av s t=false) :
  Calls Tryz.prog 37 #[.pointer (some ⟨b,0,none⟩),.string X] w (kS b O (t::ts) T false w):=by
 have HA:=aa (bI b O t ts T w h);have hw:=tm hs t;rw[ht] at hw;generalize ag t=Y at *;have hq:(Y.toList == X.toList)=false:=by rw[Lib.toList_data,Lib.toList_data,hX];exact hw
 have HH:=aa h;clear hw hX h hs ht;go_enter Tryz.func37,Tryz.ntmps37
 go_wp2_with fail
 refine HA.out.mono ?_;rintro e w1 ⟨rfl,b1⟩;have h1:=HH.out.below b1;have B1:=aa b1;have H1:=aa h1;clear b1 h1;go_wp2_with fail
 go_ret
 exact⟨rfl,H1.out,az.ae B1.out⟩
def EU (w:World) (l:Int) (e:Ending) (w':World):Prop:=∃v,e=.returned v∧Rw w.heap.size w' v l∧Below w.heap.size w w'
theorem AH (t0 t1 t2:Int) (S:ByteArray) (W:World):(Instr.field 113 (.agg #[.int .i64 t0,.int .i64 t1,.int .i64 t2,.string S]) 0).run Tryz.prog W=.ok (.int .i64 t0) W:=by kernel_rfl
theorem LU (t0 t1 t2:Int) (S:ByteArray) (W:World):(Instr.field 113 (.agg #[.int .i64 t0,.int .i64 t1,.int .i64 t2,.string S]) 1).run Tryz.prog W=.ok (.int .i64 t1) W:=by kernel_rfl
theorem qg (b:Nat) (O:Nat→Prop) (t:aj) (ts:List aj) (T:List Nd) (w:World) (h:PS w b O (t::ts) T) :
  Calls Tryz.prog 45 #[.pointer (some ⟨b,0,none⟩)] w (EU w t.2.1):=by
 obtain⟨t0,t1,t2,t3⟩:=t;have HA:=aa (cj b O (t0,t1,t2,t3) ts T w h);unfold fS at HA;dsimp only at HA ⊢
 have F1:=LU t0 t1 t2 (bb t3);clear h;go_enter Tryz.func45,Tryz.ntmps45
 go_wp2_with fail
 refine HA.out.mono ?_;rintro e w1 ⟨rfl,b1⟩;have B1:=aa b1;clear b1;go_wp2_with fail
 go_ret
 exact⟨_,rfl,⟨w1.heap.size,rfl,B1.out.size,World.alloc_heap_new w1 _⟩,aB B1.out ((Below.refl _ _).alloc (ah _) _)⟩
theorem ai {s:List UInt8} (hs:s≠[]) (t:aj) {r:Bool} (h:av s t=r):((ag t).toList == s)=r:=by rw[Lib.toList_data,tm hs,h]
theorem bh {s s':List UInt8} {t:aj} (h:av s t=true) (hne:s'≠s):av s' t=false:=by
 unfold av at h ⊢;rw[cX,iE] at h;rw[h.2,Bool.and_eq_false_iff];exact .inr (bL (fun e=>hne e.symm))
def nB (w:World) (r:Bool) (e:Ending) (w':World):Prop:=e=.returned (.bool r)∧Below w.heap.size w w'
theorem aQ (s:List UInt8) {q:List UInt8} {t:aj} (h:av q t=true) (d:s≠[]∧s≠q):((ag t).toList == s)=false:=ai d.1 t (bh h d.2)
theorem Xr (b:Nat) (O:Nat→Prop) (t:aj) (ts:List aj) (T:List Nd) (w:World) (h:PS w b O (t::ts) T) :
  Calls Tryz.prog 36 #[.pointer (some ⟨b,0,none⟩)] w (nB w (iS t)):=by
 have HW:=aa (bI b O t ts T w h);have HA:=aa (fun W hW=>cj b O t ts T W hW)
 have HP:=aa h;have hr :∀r,iS t=r→iS t=r:=fun _ h=>h
 by_cases k1:av gP t=true
 ·have g1:((ag t).toList == [101,110,100])=true:=ai (s:=gP) (by decide) t k1
  have HE:=aa (show iS t=true by unfold iS;simp[k1])
  clear h hr k1;generalize ag t=Y at *;go_enter Tryz.func36,Tryz.ntmps36
  go_wp2_with fail
  refine HW.out.mono ?_;rintro e w1 ⟨rfl,b1⟩;have B1:=aa b1;clear b1;go_wp2_with fail
  go_ret
  exact⟨by rw[HE.out];rfl,B1.out⟩
 ·have g1:((ag t).toList == [101,110,100])=false:=ai (s:=gP) (by decide) t (by simpa using k1)
  by_cases k2:av se t=true
  ·have g2:((ag t).toList == [101,108,115,101])=true:=ai (s:=se) (by decide) t k2
   have HE:=aa (show iS t=true by unfold iS;simp[k2])
   clear h hr k1 k2;generalize ag t=Y at *;go_enter Tryz.func36,Tryz.ntmps36
   go_wp2_with fail
   refine HW.out.mono ?_;rintro e w1 ⟨rfl,b1⟩;have B1:=aa b1;clear b1;go_wp2_with fail
   go_ret
   exact⟨by rw[HE.out];rfl,B1.out⟩
  ·have g2:((ag t).toList == [101,108,115,101])=false:=ai (s:=se) (by decide) t (by simpa using k2)
   by_cases k3:av jY t=true
   ·have g3:((ag t).toList == [101,108,115,101,105,102])=true:=ai (s:=jY) (by decide) t k3
    have HE:=aa (show iS t=true by unfold iS;simp[k3])
    clear h hr k1 k2 k3;generalize ag t=Y at *;go_enter Tryz.func36,Tryz.ntmps36
    go_wp2_with fail
    refine HW.out.mono ?_;rintro e w1 ⟨rfl,b1⟩;have B1:=aa b1;clear b1;go_wp2_with fail
    go_ret
    exact⟨by rw[HE.out];rfl,B1.out⟩
   ·have g3:((ag t).toList == [101,108,115,101,105,102])=false:=ai (s:=jY) (by decide) t (by simpa using k3)
    by_cases k4:av pe t=true
    ·have g4:((ag t).toList == [117,110,116,105,108])=true:=ai (s:=pe) (by decide) t k4
     have HE:=aa (show iS t=true by unfold iS;simp[k4])
     clear h hr k1 k2 k3 k4;generalize ag t=Y at *;go_enter Tryz.func36,Tryz.ntmps36
     go_wp2_with fail
     refine HW.out.mono ?_;rintro e w1 ⟨rfl,b1⟩;have B1:=aa b1;clear b1;go_wp2_with fail
     go_ret
     exact⟨by rw[HE.out];rfl,B1.out⟩
    ·have g4:((ag t).toList == [117,110,116,105,108])=false:=ai (s:=pe) (by decide) t (by simpa using k4)
     obtain⟨t0,t1,t2,t3⟩:=t;have HE:=aa (show iS (t0,t1,t2,t3)=decide (t0=0) by
      unfold iS;simp only[Bool.not_eq_true] at k1 k2 k3 k4;simp[k1,k2,k3,k4])
     unfold fS at HA;dsimp only at HA
     have F0:=AH t0 t1 t2 (bb t3);clear h hr k1 k2 k3 k4;generalize ag (t0,t1,t2,t3)=Y at *;generalize bb t3=S at *;by_cases h0:t0=0
     ·subst h0
      go_enter Tryz.func36,Tryz.ntmps36
      go_wp2_with fail
      refine HW.out.mono ?_;rintro e w1 ⟨rfl,b1⟩;have B1:=aa b1;have P1:=aa (HP.out.below b1);clear b1;go_wp2_with fail
      refine(HA.out _ P1.out).mono ?_;rintro e w2 ⟨rfl,b2⟩;have B2:=aa (aB B1.out b2);clear b2;go_wp2_with fail
      go_ret
      exact⟨by rw[HE.out];rfl,B2.out⟩
     ·have g0:(t0 == 0)=false:=aE.2 h0
      have HN:=aa h0;clear h0;go_enter Tryz.func36,Tryz.ntmps36
      go_wp2_with fail
      refine HW.out.mono ?_;rintro e w1 ⟨rfl,b1⟩;have B1:=aa b1;have P1:=aa (HP.out.below b1);clear b1;go_wp2_with fail
      refine(HA.out _ P1.out).mono ?_;rintro e w2 ⟨rfl,b2⟩;have B2:=aa (aB B1.out b2);clear b2;go_wp2_with fail
      go_ret
      exact⟨by rw[HE.out,bL HN.out];rfl,B2.out⟩
theorem Xs (b:Nat) (O:Nat→Prop) (t:aj) (ts:List aj) (T:List Nd) (n:Value) (w:World) (h:PS w b O (t::ts) T) (ht:t.1≠0) :
  Calls Tryz.prog 40 #[.pointer (some ⟨b,0,none⟩),n] w fun e w'=>e=.returned .nilIface∧PS w' b O ts T∧az (· = b) w w':=by
 obtain⟨i,hi,c1,f1,hb⟩:=h.place;have HH:=aa h;have HT:=aa ht;have C1:=aa c1;clear h ht;go_enter Tryz.func40,Tryz.ntmps40
 go_wp2_with fail
 go_ret
 exact⟨rfl,HH.out.step HT.out C1.out,HH.out.fr 1 _⟩
theorem j5 (b:Nat) (O:Nat→Prop) (t:aj) (ts:List aj) (T:List Nd) (w:World) (h:PS w b O (t::ts) T) (ht:av [44] t=true) :
  Calls Tryz.prog 143 #[.pointer (some ⟨b,0,none⟩)] w (kS b O ts T true w):=by
 have HC:=aa (lR b O t ts T [44] ⟨#[44]⟩ rfl w h (by decide) ht)
 clear h ht;go_enter Tryz.func143,Tryz.ntmps143
 go_wp2_with fail
 refine HC.out.mono ?_;rintro e w1 ⟨rfl,h1,h2⟩;have H1:=aa h1;have H2:=aa h2;clear h1 h2;go_wp2_with fail
 go_ret
 exact⟨rfl,H1.out,H2.out⟩
theorem lS (b:Nat) (O:Nat→Prop) (t:aj) (ts:List aj) (T:List Nd) (w:World) (h:PS w b O (t::ts) T) (ht:av [44] t=false) :
  Calls Tryz.prog 143 #[.pointer (some ⟨b,0,none⟩)] w (kS b O (t::ts) T false w):=by
 have HC:=aa (n7 b O t ts T [44] ⟨#[44]⟩ rfl w h (by decide) ht)
 clear h ht;go_enter Tryz.func143,Tryz.ntmps143
 go_wp2_with fail
 refine HC.out.mono ?_;rintro e w1 ⟨rfl,h1,h2⟩;have H1:=aa h1;have H2:=aa h2;clear h1 h2;go_wp2_with fail
 go_ret
 exact⟨rfl,H1.out,H2.out⟩
def LV (b:Nat) (O:Nat→Prop) (t:aj) (ts:List aj) (T:List Nd) (w:World) (e:Ending) (w':World):Prop :=
 az (· = b) w w'∧((t.1=1∧e=.returned (.tuple #[.string (bb t.2.2.2),.nilIface])∧PS w' b O ts T)∨(t.1≠1∧∃er,e=.returned (.tuple #[.string ⟨#[]⟩,er])∧Rw w.heap.size w' er t.2.1))
theorem Da (b:Nat) (O:Nat→Prop) (t:aj) (ts:List aj) (T:List Nd) (w:World) (h:PS w b O (t::ts) T) :
  Calls Tryz.prog 146 #[.pointer (some ⟨b,0,none⟩)] w (LV b O t ts T w):=by
 obtain⟨t0,t1,t2,t3⟩:=t;have HA:=aa (cj b O (t0,t1,t2,t3) ts T w h);have HW:=aa (fun W hW=>qg b O (t0,t1,t2,t3) ts T W hW)
 unfold fS at HA;dsimp only at HA HW
 have HP:=aa h;clear h;obtain⟨S,hS⟩ :∃S,S=bb t3:=⟨_,rfl⟩;rw[←hS] at HA;have HS:=aa hS;clear hS;by_cases h1:t0=1
 ·subst h1
  go_enter Tryz.func146,Tryz.ntmps146
  go_wp2_with fail
  refine HA.out.mono ?_;rintro e w1 ⟨rfl,b1⟩;have B1:=aa b1;have h2:=HP.out.below b1;obtain⟨i,hi,c1,f1,hb⟩:=h2.place;have H2:=aa h2;have C1:=aa c1;clear h2 b1;go_wp2_with fail
  go_ret2
  have hB:=fun W:World=>(Below.refl W.heap.size W).alloc (ah _) (.cells #[.int .i64 1,.int .i64 t1,.int .i64 t2,.string S] 113)
  refine⟨?_,.inl ⟨rfl,by rw[←HS.out];rfl,(H2.out.step (show(1:Int)≠0 by decide) C1.out).below (hB _)⟩⟩
  exact((az.ae (O:=(· = b)) B1.out).trans (H2.out.fr 1 _) (Ext.refl _ _)).alloc _
 ·have g1:(t0 == 1)=false:=aE.2 h1
  have g1':(t0 != 1)=true:=oO.2 h1;have HN:=aa h1;clear h1;go_enter Tryz.func146,Tryz.ntmps146
  go_wp2_with fail
  refine HA.out.mono ?_;rintro e w1 ⟨rfl,b1⟩;have B2:=aa (aB b1 ((Below.refl w1.heap.size w1).alloc (ah _) (.cells #[.int .i64 t0,.int .i64 t1,.int .i64 t2,.string S] 113)));have H2:=aa (HP.out.below B2.out);clear b1;go_wp2_with fail
  refine(HW.out _ H2.out).mono ?_;rintro e w3 ⟨er,rfl,m,b3⟩;have M:=aa m;have B3:=aa (aB B2.out b3);clear m b3;go_wp2_with fail
  go_ret2
  refine⟨az.ae B3.out,.inr ⟨HN.out,_,rfl,?_⟩⟩;obtain⟨g,e1,e2,e3⟩:=M.out;exact⟨g,e1,aK B2.out.size e2,e3⟩
theorem ie {W:World} {n k:Nat} {a:Array Value} {ty:TypeId} (h:W.heap[n]? = some (.cells a ty (0,0))) (v:Value):(W.setCell ⟨n,k,none⟩ v).heap[n]? = some (.cells (a.setIfInBounds k v) ty (0,0)):=by
 obtain⟨hlt,hk⟩:=aI.1 h;show(W.heap.modify n _)[n]? = _
 rw[wj (by rw[zI];exact hlt),zB,hk]
 rfl
theorem NU.cells {W:World} {b n:Nat} {O:Nat→Prop} {x:Nd} (h:NU W b n O x) :∃nv kv,lQ W n 0 x nv kv∧jD W b O x nv kv∧(∀j,W.frozen? ⟨n,j,none⟩=false):=by
 obtain⟨nv,kv,a1,a2⟩:=h.ex;have hc :∀j,W.cell? ⟨n,j,none⟩=(aP (x,nv,kv))[j]?:=fun j=>by simp[World.cell?,a1]
 exact⟨nv,kv,⟨hc 0,hc 1,hc 2,hc 3,hc 4,hc 5,hc 6⟩,a2,fun j=>by simp[World.frozen?,a1]⟩
theorem jD.set {W:World} {b:Nat} {O:Nat→Prop} {x:Nd} {nv kv:Value} (h:jD W b O x nv kv) {n:Nat} {a:Array Value} (hn:W.heap[n]? = some (.cells a 55 (0,0))) (k:Nat) (v:Value):jD (W.setCell ⟨n,k,none⟩ v) b O x nv kv:=by
 have hne :∀g,g≠n→(W.setCell ⟨n,k,none⟩ v).heap[g]? = W.heap[g]?:=fun g hg=>Below.heap_setCell _ _ _ g hg
 have hf:=az.vQ hn (show(55:Nat)≠9 by decide) k v
 refine⟨cS h.names fun g hg=>hne g (fun e=>?_),cS h.kids fun g hg=>hne g (fun e=>?_),fun g hg=>(h.on g hg).imp id hf.keeps,h.nz,h.ok⟩
 ·obtain⟨cur,hc⟩:=eM h.names hg
  rw[e,hn] at hc;simp at hc
 ·obtain⟨cur,hc⟩:=eM h.kids hg
  rw[e,hn] at hc;simp at hc
theorem jD.head {W:World} {b:Nat} {O:Nat→Prop} {x y:Nd} {nv kv:Value} (h:jD W b O x nv kv) (h1:y.names=x.names) (h2:y.kids=x.kids):jD W b O y nv kv:=⟨h1▸h.names,h2▸h.kids,h.on,by rw[h1];exact h.nz,h.ok⟩
theorem NU.qh {W:World} {b n:Nat} {O:Nat→Prop} {x y:Nd} (h:NU W b n O x) (k:Nat) (v:Value) (h1:y.names=x.names) (h2:y.kids=x.kids)
  (hc :∀nv kv,(aP (x,nv,kv)).toArray.setIfInBounds k v=(aP (y,nv,kv)).toArray):NU (W.setCell ⟨n,k,none⟩ v) b n O y:=by
 obtain⟨nv,kv,a1,a2⟩:=h.ex;refine⟨⟨nv,kv,?_,(a2.set a1 k v).head h1 h2⟩,h.at_,fun i hi=>⟨(h.own i hi).1,by simpa[World.setCell] using (h.own i hi).2⟩⟩
 rw[ie a1,hc]
def aY (f b:Nat):Value:=.func (.func f) #[.pointer (some ⟨b,0,none⟩)] #[]
def aC:bR:=fun s K _=>∃t ts,s.ts=t::ts∧t.1≠0∧K { s with ts:=ts}
def LW:bR:=fun s K E=>∃t ts,s.ts=t::ts∧(t.1=0→K s)∧(t.1≠0→E t.2.1)
def cG:bR:=fun s K E=>∃t ts,s.ts=t::ts∧(t.1=1→K { s with h:={ s.h with s:=bb t.2.2.2},ts:=ts})∧(t.1≠1→E t.2.1)
def ee:bR:=fun s K _=>K { s with h:={ s.h with num:=(s.xs.length:Int)}}
theorem Real.own {W:World} {b n:Nat} {O:Nat→Prop} {T0:List Nd} {s:St} (h:Real W b n O T0 s) :∀k,O k→b≤k∧k<W.heap.size:=by
 obtain⟨Op,On,T,ks,hO,hd,hp,hn,hl,hc⟩:=h.ex;intro k hk;rcases(hO k).1 hk with hk|hk
 ·exact hp.own k hk
 ·exact⟨fg (hn.own k hk).1,(hn.own k hk).2⟩
theorem bc (W:World) (b:Nat) (O:Nat→Prop):eA W b O (aY 40 b) aC:=by
 rintro W1 O1 T0 s n K E _ _ hr ⟨t,ts,hs,h0,hk⟩;obtain⟨Op,On,T,ks,hO,hd,hp,hn,hl,hc⟩:=hr.ex;rw[hs] at hp;refine⟨40,_,_,rfl,enters_of Tryz.func40 (by kernel_rfl) rfl,(Xs b Op t ts T _ W1 hp h0).mono ?_⟩
 rintro e w ⟨rfl,ZK,hf⟩;refine⟨hf.mono fun k hk=>(hO k).2 (.inl (hk▸hp.at_)),.inl ⟨{ s with ts:=ts},O1,rfl,⟨Op,On,T,ks,hO,hd,ZK,?_,hl,hc⟩,Ext.refl _ _,hk⟩⟩
 exact hn.kept hf fun k hk e=>hd b hp.at_ (e▸hk)
def RN (t:aj) (w:World) (e:Ending) (w':World):Prop:=Below w.heap.size w w'∧((t.1=0∧e=.returned .nilIface)∨(t.1≠0∧∃v,e=.returned v∧Rw w.heap.size w' v t.2.1))
theorem aaB (b:Nat) (O:Nat→Prop) (t:aj) (ts:List aj) (T:List Nd) (n:Value) (w:World) (h:PS w b O (t::ts) T) :
  Calls Tryz.prog 21 #[.pointer (some ⟨b,0,none⟩),n] w (RN t w):=by
 obtain⟨t0,t1,t2,t3⟩:=t;have HA:=aa (cj b O (t0,t1,t2,t3) ts T w h);have HW:=aa (fun W hW=>qg b O (t0,t1,t2,t3) ts T W hW)
 unfold fS at HA;dsimp only at HA HW
 have F0:=AH t0 t1 t2 (bb t3);generalize bb t3=S at *;have HP:=aa h;clear h;by_cases h0:t0=0
 ·subst h0
  go_enter Tryz.func21,Tryz.ntmps21
  go_wp2_with fail
  refine HA.out.mono ?_;rintro e w1 ⟨rfl,b1⟩;have B1:=aa b1;clear b1;go_wp2_with fail
  go_ret
  exact⟨B1.out,.inl ⟨rfl,rfl⟩⟩
 ·have g1:(t0 == 0)=false:=aE.2 h0
  have g1':(t0 != 0)=true:=oO.2 h0;have HN:=aa h0;clear h0;go_enter Tryz.func21,Tryz.ntmps21
  go_wp2_with fail
  refine HA.out.mono ?_;rintro e w1 ⟨rfl,b1⟩;have B1:=aa b1;have P1:=aa (HP.out.below b1);clear b1;go_wp2_with fail
  refine(HW.out _ P1.out).mono ?_;rintro e w2 ⟨v,rfl,m,b2⟩;have M:=aa m;have B2:=aa (aB B1.out b2);clear m b2;go_wp2_with fail
  go_ret
  obtain⟨g,e1,e2,e3⟩:=M.out;exact⟨B2.out,.inr ⟨HN.out,_,rfl,g,e1,aK B1.out.size e2,e3⟩⟩
theorem LX (W:World) (b:Nat) (O:Nat→Prop):eA W b O (aY 21 b) LW:=by
 rintro W1 O1 T0 s n K E _ _ hr ⟨t,ts,hs,hk,he⟩;obtain⟨Op,On,T,ks,hO,hd,hp,hn,hl,hc⟩:=hr.ex;have lF:=hp;rw[hs] at lF;refine⟨21,_,_,rfl,enters_of Tryz.func21 (by kernel_rfl) rfl,(aaB b Op t ts T _ W1 lF).mono ?_⟩
 rintro e w ⟨hb,⟨h0,rfl⟩ | ⟨h0,v,rfl,hm⟩⟩
 ·exact⟨az.ae hb,.inl ⟨s,O1,rfl,⟨Op,On,T,ks,hO,hd,hp.below hb,hn.below hb,hl,hc⟩,Ext.refl _ _,hk h0⟩⟩
 ·exact⟨az.ae hb,.inr ⟨_,v,rfl,hm,he h0⟩⟩
def Hs (b n:Nat) (Op On:Nat→Prop) (x:Nd) (t:aj) (ts:List aj) (T:List Nd) (w:World) (e:Ending) (w':World):Prop :=
 az (fun k=>k=b∨k=n) w w'∧((t.1=1∧e=.returned .nilIface∧PS w' b Op ts T∧NU w' b n On { x with s:=bb t.2.2.2})∨(t.1≠1∧∃v,e=.returned v∧Rw w.heap.size w' v t.2.1))
theorem RO (b n:Nat) (Op On:Nat→Prop) (x:Nd) (t:aj) (ts:List aj) (T:List Nd) (w:World) (h:PS w b Op (t::ts) T) (hn:NU w b n On x) (hd :∀k,Op k→¬ On k) :
  Calls Tryz.prog 88 #[.pointer (some ⟨b,0,none⟩),.pointer (some ⟨n,0,none⟩)] w (Hs b n Op On x t ts T w):=by
 have HA:=aa (Da b Op t ts T w h);have HN:=aa hn;have HP:=aa h;have hne :∀k,On k→¬ k=b:=fun k hk e=>hd b h.at_ (e▸hk)
 have EO:=(hn.own n hn.at_);have HNE:=aa hne;have HD:=aa hd;clear h hn hne hd;go_enter Tryz.func88,Tryz.ntmps88
 go_wp2_with fail
 refine HA.out.mono ?_;rintro e w1 ⟨f1,h1⟩;have F1:=aa f1;have n1:=HN.out.kept f1 HNE.out;have N1:=aa n1;obtain⟨nv,kv,hc,_,hz⟩:=n1.cells;have c4:=hc.c4;have z4:=hz 4;have jB:n<w1.heap.size:=(n1.own n n1.at_).2;clear hc hz n1;rcases h1 with ⟨g0,rfl,p1⟩ | ⟨g0,er,rfl,m⟩
 ·have P1:=aa p1
  clear p1 f1;go_wp2_with fail
  go_ret
  refine⟨(F1.out.mono fun k hk=>.inl hk).trans (N1.out.fr 4 _) (fun k hk=>.inl (.inr hk)),.inl ⟨g0,rfl,?_,N1.out.qh 4 _ rfl rfl fun _ _=>rfl⟩⟩
  exact P1.out.kept (O1:=(· = n)) (N1.out.fr 4 _) (fun k hk e=>HD.out k hk (e▸HN.out.at_)) fun k e=>by omega
 ·have M:=aa m
  clear m f1;go_wp2_with fail
  go_ret
  refine⟨(F1.out.mono fun k hk=>.inl hk).trans (N1.out.fr 4 _) (fun k hk=>.inl (.inr hk)),.inr ⟨g0,_,rfl,?_⟩⟩
  obtain⟨g,e1,e2,e3⟩:=M.out;exact⟨g,e1,e2,(Below.heap_setCell _ _ _ g (by show g≠n;omega)).trans e3⟩
theorem ig (W:World) (b:Nat) (O:Nat→Prop):eA W b O (aY 88 b) cG:=by
 rintro W1 O1 T0 s n K E _ _ hr ⟨t,ts,hs,hk,he⟩;obtain⟨Op,On,T,ks,hO,hd,hp,hn,hl,hc⟩:=hr.ex;have lF:=hp;rw[hs] at lF;refine⟨88,_,_,rfl,enters_of Tryz.func88 (by kernel_rfl) rfl,(RO b n Op On _ t ts T W1 lF hn hd).mono ?_⟩
 rintro e w ⟨hf,⟨h0,rfl,p1,n1⟩ | ⟨h0,v,rfl,hm⟩⟩
 ·exact⟨hf.mono fun k hk=>(hO k).2 (hk.elim (fun e=>.inl (e▸hp.at_)) fun e=>.inr (e▸hn.at_)),.inl ⟨{ s with h:={ s.h with s:=bb t.2.2.2},ts:=ts},O1,rfl,⟨Op,On,T,ks,hO,hd,p1,n1,hl,hc⟩,Ext.refl _ _,hk h0⟩⟩
 ·exact⟨hf.mono fun k hk=>(hO k).2 (hk.elim (fun e=>.inl (e▸hp.at_)) fun e=>.inr (e▸hn.at_)),.inr ⟨_,v,rfl,hm,he h0⟩⟩
theorem bj.count {T:List Nd} :∀(xs:List Ast) (ks:List Int) (js:List Nat),bj T xs ks js→ks.length=xs.length
 | [],ks,js,h=>by
  unfold bj at h;rw[h.1];rfl
 | a::xs,ks,js,h=>by
  unfold bj at h;obtain⟨k,ir,j1,j2,rfl,_,h2,_⟩:=h;rw[List.length_cons,List.length_cons,bj.count xs ir j2 h2]
theorem bB {W:World} {B e s n:Nat} {v:Value} {xs:List Value} (h:W.ownsRow B e s v n xs) :∃A c,v=.slice A n c∧n≤c:=by
 rcases h.2 with ⟨rfl,rfl⟩ | ⟨g,cap,cur,rfl,_,_,hc,_⟩
 ·exact⟨none,0,rfl,ah _⟩
 ·exact⟨_,_,rfl,hc⟩
theorem RP (b n:Nat) (On:Nat→Prop) (x:Nd) (w:World) (hn:NU w b n On x) :
  Calls Tryz.prog 150 #[.pointer (some ⟨n,0,none⟩)] w fun e w'=>e=.returned .nilIface∧NU w' b n On { x with num:=(x.kids.length:Int)}∧az (· = n) w w':=by
 obtain⟨nv,kv,hc,hi,hz⟩:=hn.cells;obtain⟨A,c,rfl,hlc⟩:=bB hi.kids;have c3:=hc.c3;have c6:=hc.c6;have z3:=hz 3;have jB:n<w.heap.size:=(hn.own n hn.at_).2;have HN:=aa hn;clear hn hi hc hz;go_enter Tryz.func150,Tryz.ntmps150
 go_wp2_with fail
 go_ret
 exact⟨rfl,HN.out.qh 3 _ rfl rfl fun _ _=>rfl,HN.out.fr 3 _⟩
theorem jE (W:World) (b:Nat) (O:Nat→Prop):eA W b O (.func (.func 150) #[] #[]) ee:=by
 rintro W1 O1 T0 s n K E _ _ hr hk;obtain⟨Op,On,T,ks,hO,hd,hp,hn,hl,hc⟩:=hr.ex;refine⟨150,_,_,rfl,enters_of Tryz.func150 (by kernel_rfl) rfl,(RP b n On _ W1 hn).mono ?_⟩
 rintro e w ⟨rfl,n1,hf⟩;have JU:ks.length=s.xs.length:=by
  obtain⟨_,js,hj,_⟩:=hl;exact hj.count
 refine⟨hf.mono fun k hk=>(hO k).2 (.inr (hk▸hn.at_)),.inl ⟨{ s with h:={ s.h with num:=(s.xs.length:Int)}},O1,rfl,⟨Op,On,T,ks,hO,hd,?_,?_,hl,hc⟩,Ext.refl _ _,hk⟩⟩
 ·exact hp.kept hf (fun k hk e=>hd k hk (e▸hn.at_)) fun k e=>by have:=(hn.own n hn.at_).1;omega
 ·rw[←JU]
  exact n1
def jF (W:World) (b:Nat) (O:Nat→Prop):List Value→List bR→Prop
 | [],[]=>True
 | v::vs,wp::cD=>eA W b O v wp∧jF W b O vs cD
 | _,_=>False
theorem jF.later {W W':World} {b:Nat} {O O':Nat→Prop} (hf:az O W W') (he:Ext O O' W) :∀{vs:List Value} {cD:List bR},jF W b O vs cD→jF W' b O' vs cD
 | [],[],_=>trivial
 | _::_,_::_,h=>⟨h.1.later hf he,jF.later hf he h.2⟩
theorem jF.get {W:World} {b:Nat} {O:Nat→Prop} :∀{vs:List Value} {cD:List bR},jF W b O vs cD→∀(j:Nat) (x:Value),vs[j]? = some x→∃y,cD[j]? = some y∧eA W b O x y
 | [],[],_,j,x,h=>by simp at h
 | a::_,c::_,h,j,x,hj=>by
  cases j with
  | zero =>
   obtain rfl:a=x:=by simpa using hj
   exact⟨c,rfl,h.1⟩
  | succ j=>exact jF.get h.2 j x (by simpa using hj)
theorem jF.len {W:World} {b:Nat} {O:Nat→Prop} :∀{vs:List Value} {cD:List bR},jF W b O vs cD→vs.length=cD.length
 | [],[],_=>rfl
 | _::_,_::_,h=>by rw[List.length_cons,List.length_cons,jF.len h.2]
structure aN (W:World) (b:Nat) (O:Nat→Prop) (v:Value) (cD:List bR):Prop where
 ex :∃vs,Rx W O v vs∧jF W b O vs cD
theorem aN.later {W W':World} {b:Nat} {O O':Nat→Prop} {v:Value} {cD:List bR} (h:aN W b O v cD) (hf:az O W W') (he:Ext O O' W):aN W' b O' v cD:=by
 obtain⟨vs,h1,h2⟩:=h.ex;exact⟨vs,h1.later hf he,h2.later hf he⟩
theorem aN.at_ {W W1:World} {b n:Nat} {O O1:Nat→Prop} {vs:List Value} {cD:List bR} {T0:List Nd} {s:St} {K:St→Prop} {E:Int→Prop} (h:jF W b O vs cD) {j:Nat} (hj:j<vs.length)
  (hf:az O W W1) (he:Ext O O1 W) (hr:Real W1 b n O1 T0 s) (hk:aJ (cD.drop j) s K E) :
  ∃f first cap,vs[j]? = some (.func (.func f) first cap)∧Enters Tryz.prog f∧Calls Tryz.prog f (first++#[.pointer (some ⟨n,0,none⟩)]++cap) W1 (bx b n O1 T0 (fun s'=>aJ (cD.drop (j+1)) s' K E) E W1):=by
 obtain⟨wp,hw,hp⟩:=jF.get h j vs[j] (bE hj);have hd:cD.drop j=wp::cD.drop (j+1):=by
  obtain⟨hl,e⟩:=aL.1 hw;rw[zC hl,e]
 rw[hd] at hk;obtain⟨f,first,cap,e,h1,h2⟩:=hp W1 O1 T0 s n _ E hf he hr hk
 exact⟨f,first,cap,by rw[bE hj,e],h1,h2⟩
theorem uu (b n:Nat) (O:Nat→Prop) (T0:List Nd) (s:St) (K:St→Prop) (E:Int→Prop) (pv:Value) (cD:List bR) (w:World) (hr:Real w b n O T0 s) (hp:aN w b O pv cD) (hk:aJ cD s K E) :
  Calls Tryz.prog 35 #[.pointer (some ⟨n,0,none⟩),pv] w (bx b n O T0 K E w):=by
 obtain⟨vs,hfn,hall⟩:=hp.ex;have hlen:=hall.len;have hP :∃A,pv=.slice A vs.length vs.length∧vs.length≤100∧∀(W1:World) (O1:Nat→Prop),az O w W1→Ext O O1 w→∀(j:Nat) v,vs[j]? = some v→∃g,A=some ⟨g,0,none⟩∧W1.cell? ⟨g,j,none⟩=some v:=by
  rcases hfn with ⟨rfl,rfl⟩ | ⟨g,rfl,h2,h3,h4⟩
  ·exact⟨none,rfl,by simp,fun W1 O1 _ _ j v h=>by simp at h⟩
  ·refine⟨_,rfl,h4,fun W1 O1 hf he j v hj=>⟨g,rfl,?_⟩⟩
   have:=hf.block g (aI.1 h2).1 h3;rw[h2] at this;simp[World.cell?,this,hj]
 obtain⟨A,rfl,aaC,hcell⟩:=hP;have HC:=aa hcell;have HA:=aa hall;have HR:=aa hr;have HK:=aa hk;have HL:=aa hlen;clear hfn hp hcell hall hr hk hlen;go_enter Tryz.func35,Tryz.ntmps35
 go_wp2_with fail
 go_loopg [10] vs.length (fun z jv wr=>∃(j:Nat) (O1:Nat→Prop) (s1:St),jv=.int .i64 (j:Int)∧j≤vs.length∧vs.length-j≤z∧Real wr b n O1 T0 s1∧az O w wr∧Ext O O1 w∧aJ (cD.drop j) s1 K E)
 case atStart=>exact⟨0,O,s,rfl,aR _,ah _,HR.out,az.refl _ _,Ext.refl _ _,HK.out⟩
 case round =>
  obtain⟨j,O1,s1,rfl,hj,hz,hr1,kO,uw,iT⟩:=hrel;have nC:=aa hr1;have fj:=aa kO;have oU:=aa uw;have Qi:=aa iT;clear hr1 kO uw iT;by_cases hlt:j<vs.length
  ·obtain⟨f,first,cap,hv,pt,bq⟩:=aN.at_ HA.out hlt fj.out oU.out nC.out Qi.out
   obtain⟨g,rfl,hc⟩:=HC.out wr O1 fj.out oU.out j _ hv;rw[show first++#[Value.pointer (some ⟨n,0,none⟩)]=first.push (.pointer (some ⟨n,0,none⟩)) from by simp] at bq
   have dS:=aa bq;clear bq hv;unfold Enters at pt;go_wp2_with fail
   refine dS.out.mono ?_;rintro e w2 ⟨f2,hs⟩;have F2:=aa (fj.out.trans f2 oU.out);rcases hs with ⟨s2,O2,rfl,r2,x2,k2⟩ | ⟨l,v,rfl,m2,e2⟩
   ·have R2:=aa r2
    have X2:=aa (oU.out.trans x2 fj.out.size);have K2:=aa k2;clear f2 r2 x2 k2;go_wp2_with fail
    go_roundg (vs.length-(j+1))
    case measure=>omega
    case rel=>exact⟨j+1,O2,s2,by go_num,by omega,ah _,R2.out,F2.out,X2.out,K2.out⟩
   ·obtain⟨g',rfl,hg1,hg2⟩:=m2
    have M2:=aa hg2;have HG:=aa (aK fj.out.size hg1);have E2:=aa e2;clear f2 hg1 hg2 e2;go_wp2_with fail
    go_ret
    exact⟨F2.out,.inr ⟨l,_,rfl,⟨g',rfl,HG.out,M2.out⟩,E2.out⟩⟩
  ·obtain rfl:j=vs.length:=by omega
   go_wp2_with fail
   go_ret
   have hk:=Qi.out;rw[pP (by rw[HL.out];exact ah _)] at hk
   exact⟨fj.out,.inl ⟨s1,O1,rfl,nC.out,oU.out,hk⟩⟩
def eB (W:World) (O:Nat→Prop) (g:Nat) (a:Array Value) (ty:TypeId):Prop:=W.heap[g]? = some (.cells a ty (0,0))∧¬ O g
theorem eB.later {W W':World} {O O':Nat→Prop} {g:Nat} {a:Array Value} {ty:TypeId} (h:eB W O g a ty) (hf:az O W W') (he:Ext O O' W):eB W' O' g a ty:=by
 have hlt:g<W.heap.size:=(aI.1 h.1).1;refine⟨(hf.block g hlt h.2).trans h.1,fun h5=>?_⟩
 rcases he g h5 with h6|h6
 ·exact h.2 h6
 ·omega
theorem eB.cell {W:World} {O:Nat→Prop} {g:Nat} {a:Array Value} {ty:TypeId} (h:eB W O g a ty) (j:Nat):W.cell? ⟨g,j,none⟩=a[j]?:=by simp[World.cell?,h.1]
theorem eB.new (w:World) (O:Nat→Prop) (hO :∀k,O k→k<w.heap.size) (a:Array Value) (ty:TypeId):eB (w.alloc (.cells a ty)) O w.heap.size a ty :=
 ⟨World.alloc_heap_new w _,fun h=>by have:=hO _ h;omega⟩
theorem kT {W:World} {b n:Nat} {O:Nat→Prop} {T0:List Nd} {s:St} (h:Real W b n O T0 s) {t:aj} {ts:List aj} (hs:s.ts=t::ts) (x:List UInt8) (X:ByteArray) (hX:X=bb x) (hx:x≠[]) (hw:av x t=true) :
  Calls Tryz.prog 37 #[.pointer (some ⟨b,0,none⟩),.string X] W fun e w'=>e=.returned (.bool true)∧Real w' b n O T0 { s with ts:=ts}∧az O W w':=by
 obtain⟨Op,On,T,ks,hO,hd,hp,hn,hl,hc⟩:=h.ex;rw[hs] at hp;refine(lR b Op t ts T x X hX W hp hx hw).mono ?_;rintro e w ⟨rfl,ZK,hf⟩;exact⟨rfl,⟨Op,On,T,ks,hO,hd,ZK,hn.kept hf fun k hk e=>hd b hp.at_ (e▸hk),hl,hc⟩,hf.mono fun k hk=>(hO k).2 (.inl (hk▸hp.at_))⟩
theorem n9 {W:World} {b n:Nat} {O:Nat→Prop} {T0:List Nd} {s:St} (h:Real W b n O T0 s) {t:aj} {ts:List aj} (hs:s.ts=t::ts) (x:List UInt8) (X:ByteArray) (hX:X=bb x) (hx:x≠[]) (hw:av x t=false) :
  Calls Tryz.prog 37 #[.pointer (some ⟨b,0,none⟩),.string X] W fun e w'=>e=.returned (.bool false)∧Real w' b n O T0 s∧az O W w':=by
 obtain⟨Op,On,T,ks,hO,hd,hp,hn,hl,hc⟩:=h.ex;have hp0:=hp;rw[hs] at hp;refine(n7 b Op t ts T x X hX W hp hx hw).mono ?_;rintro e w ⟨rfl,ZK,hf⟩;rw[←hs] at ZK;exact⟨rfl,⟨Op,On,T,ks,hO,hd,ZK,hn.kept hf fun k hk e=>hd b hp.at_ (e▸hk),hl,hc⟩,hf.mono fun k hk=>(hO k).2 (.inl (hk▸hp.at_))⟩
theorem Db {W:World} {b n:Nat} {O:Nat→Prop} {T0:List Nd} {s:St} (h:Real W b n O T0 s) {t:aj} {ts:List aj} (hs:s.ts=t::ts) :
  Calls Tryz.prog 45 #[.pointer (some ⟨b,0,none⟩)] W (EU W t.2.1):=by
 obtain⟨Op,On,T,ks,hO,hd,hp,hn,hl,hc⟩:=h.ex;rw[hs] at hp;exact qg b Op t ts T W hp
def au:List (List UInt8)→bR
 | [],s,K,_=>K s
 | x::r,s,K,E=>∃t ts,s.ts=t::ts∧(av x t=true→au r { s with ts:=ts} K E)∧(av x t=false→E t.2.1)
theorem LY (b n g g1 g2:Nat) (O:Nat→Prop) (T0:List Nd) (s:St) (K:St→Prop) (E:Int→Prop) (ws:List (List UInt8)) (w:World) (hr:Real w b n O T0 s) (hw :∀x∈ws,x≠[]) (hl:ws.length≤100)
  (b0:eB w O g (ws.map fun x=>Value.string (bb x)).toArray 9) (b1:eB w O g1 #[.slice (some ⟨g,0,none⟩) ws.length ws.length] 53) (b2:eB w O g2 #[.pointer (some ⟨b,0,none⟩)] 116) (hk:au ws s K E) :
  Calls Tryz.prog 147 #[.pointer (some ⟨n,0,none⟩),.pointer (some ⟨g1,0,none⟩),.pointer (some ⟨g2,0,none⟩)] w (bx b n O T0 K E w):=by
 have B0:=aa b0;have c1:=b1.cell 0;have B2:=aa b2;have HR:=aa hr;have HK:=aa hk;have HW:=aa hw;clear b0 b1 b2 hr hk hw;go_enter Tryz.func147,Tryz.ntmps147
 go_wp2_with fail
 clear c1;go_loopg [9] ws.length (fun z jv wr=>∃(j:Nat) (s1:St),jv=.int .i64 (j:Int)∧j≤ws.length∧ws.length-j≤z∧Real wr b n O T0 s1∧az O w wr∧au (ws.drop j) s1 K E)
 case atStart=>exact⟨0,s,rfl,aR _,ah _,HR.out,az.refl _ _,HK.out⟩
 case round =>
  obtain⟨j,s1,rfl,hj,hz,hr1,kO,iT⟩:=hrel;have nC:=aa hr1;have fj:=aa kO;have c2:=(B2.out.later kO (Ext.refl _ _)).cell 0;have c0:=(B0.out.later kO (Ext.refl _ _)).cell j;by_cases hlt:j<ws.length
  ·have hd:ws.drop j=ws[j]::ws.drop (j+1):=zC hlt
   rw[hd] at iT;obtain⟨t,ts,hs,hy,hn⟩:=iT;obtain⟨X,hX⟩ :∃X,X=bb ws[j]:=⟨_,rfl⟩;have c0':wr.cell? ⟨g,j,none⟩=some (.string X):=by rw[c0,hX];simp[hlt]
   have hne:ws[j]≠[]:=HW.out _ (Ko hlt);clear c0 hr1 kO hd;cases hq:av ws[j] t with
   | true =>
    have HC:=aa (kT nC.out hs ws[j] X hX hne hq);have Qi:=aa (hy hq);clear hy hn hX hne hs hq;go_wp2_with fail
    refine HC.out.mono ?_;rintro e w2 ⟨rfl,r2,f2⟩;have R2:=aa r2;have F2:=aa (fj.out.trans f2 (Ext.refl _ _));clear r2 f2 c2 c0';go_wp2_with fail
    go_roundg (ws.length-(j+1))
    case measure=>omega
    case rel=>exact⟨j+1,_,by go_num,by omega,ah _,R2.out,F2.out,Qi.out⟩
   | false =>
    have HC:=aa (n9 nC.out hs ws[j] X hX hne hq);have HE:=aa (hn hq);have HS:=aa hs;clear hy hn hX hne hs hq;go_wp2_with fail
    refine HC.out.mono ?_;rintro e w2 ⟨rfl,r2,f2⟩;have R2:=aa r2;have F2:=aa (fj.out.trans f2 (Ext.refl _ _));clear c2 c0';have c2':=(B2.out.later F2.out (Ext.refl _ _)).cell 0;have HX:=aa (Db r2 HS.out);clear r2 f2;go_wp2_with fail
    refine HX.out.mono ?_;rintro e w3 ⟨v,rfl,m,b3⟩;have M:=aa m;have F3:=aa (F2.out.trans (az.ae (O:=O) b3) (Ext.refl _ _));clear m b3 c2';go_wp2_with fail
    go_ret
    obtain⟨g',e1,e2,e3⟩:=M.out;exact⟨F3.out,.inr ⟨_,_,rfl,⟨g',e1,aK F2.out.size e2,e3⟩,HE.out⟩⟩
  ·obtain rfl:j=ws.length:=by omega
   have Qi:=aa iT;clear hr1 kO iT c0 c2;go_wp2_with fail
   go_ret
   have hk:=Qi.out;rw[pP (ah _)] at hk;exact⟨fj.out,.inl ⟨s1,O,rfl,nC.out,Ext.refl _ _,hk⟩⟩
theorem Dc {W:World} {b g g1 g2:Nat} {O:Nat→Prop} {ws:List (List UInt8)} (hw :∀x∈ws,x≠[]) (hl:ws.length≤100)
  (b0:eB W O g (ws.map fun x=>Value.string (bb x)).toArray 9) (b1:eB W O g1 #[.slice (some ⟨g,0,none⟩) ws.length ws.length] 53) (b2:eB W O g2 #[.pointer (some ⟨b,0,none⟩)] 116) :
  eA W b O (.func (.func 147) #[] #[.pointer (some ⟨g1,0,none⟩),.pointer (some ⟨g2,0,none⟩)]) (au ws):=by
 intro W1 O1 T0 s n K E hf he hr hk;exact⟨147,_,_,rfl,enters_of Tryz.func147 (by kernel_rfl) rfl,LY b n g g1 g2 O1 T0 s K E ws W1 hr hw hl (b0.later hf he) (b1.later hf he) (b2.later hf he) hk⟩
def acE (v:Value):Prop:=∃f first cap,v=.func (.func f) first cap
def ij (b:Nat) (O:Nat→Prop) (wp:bR) (w:World) (e:Ending) (w':World):Prop:=∃v,e=.returned v∧Below w.heap.size w w'∧eA w' b O v wp∧acE v
theorem EW (b g:Nat) (O:Nat→Prop) (ws:List (List UInt8)) (w:World) (hw :∀x∈ws,x≠[]) (hl:ws.length≤100) (b0:eB w O g (ws.map fun x=>Value.string (bb x)).toArray 9) (hO :∀k,O k→k<w.heap.size) (m:Nat) (hm:m=ws.length) :
  Calls Tryz.prog 89 #[.pointer (some ⟨b,0,none⟩),.slice (some ⟨g,0,none⟩) m m] w (ij b O (au ws) w):=by
 have B0:=aa b0;have HO:=aa hO;have HW:=aa hw;have HM:=aa hm;clear b0 hO hw hm;go_enter Tryz.func89,Tryz.ntmps89
 go_wp2
 go_ret
 have hm:=HM.out;subst hm;have h2:=eB.new w O HO.out #[.pointer (some ⟨b,0,none⟩)] 116;have h1:=eB.new (w.alloc (.cells #[.pointer (some ⟨b,0,none⟩)] 116)) O (fun k hk=>by have:=HO.out k hk;simp;omega) #[.slice (some ⟨g,0,none⟩) ws.length ws.length] 53
 have f1:az O w (w.alloc (.cells #[.pointer (some ⟨b,0,none⟩)] 116)):=(az.refl _ _).alloc _;have f2:az O (w.alloc (.cells #[.pointer (some ⟨b,0,none⟩)] 116)) ((w.alloc (.cells #[.pointer (some ⟨b,0,none⟩)] 116)).alloc (.cells #[.slice (some ⟨g,0,none⟩) ws.length ws.length] 53)):=(az.refl _ _).alloc _;rw[ao] at h1;exact⟨_,rfl,((Below.refl _ _).alloc (ah _) _).alloc (by simp) _,Dc HW.out hl ((B0.out.later f1 (Ext.refl _ _)).later f2 (Ext.refl _ _)) h1 (h2.later f2 (Ext.refl _ _)),_,_,_,rfl⟩
theorem aN.form {W:World} {b:Nat} {O:Nat→Prop} {v:Value} {cD:List bR} (h:aN W b O v cD) :∃A m,v=.slice A m m:=by
 obtain⟨vs,⟨rfl,_⟩ | ⟨g,rfl,_⟩,_⟩:=h.ex
 ·exact⟨none,0,rfl⟩
 ·exact⟨_,_,rfl⟩
def bu (x:List UInt8) (cD:List bR):bR:=fun s K E=>∃t ts,s.ts=t::ts∧(av x t=true→aJ cD { s with ts:=ts} K E)∧(av x t=false→K s)
theorem bx.after {b n:Nat} {O:Nat→Prop} {T0:List Nd} {K:St→Prop} {E:Int→Prop} {w w1:World} {e:Ending} {w':World} (h:bx b n O T0 K E w1 e w') (hf:az O w w1):bx b n O T0 K E w e w':=by
 obtain⟨h1,h2⟩:=h;refine⟨hf.trans h1 (Ext.refl _ _),?_⟩;rcases h2 with ⟨s',O',e1,r,x,k⟩ | ⟨l,v,e1,⟨g,m1,m2,m3⟩,k⟩
 ·exact .inl ⟨s',O',e1,r,(Ext.refl O w).trans x hf.size,k⟩
 ·exact .inr ⟨l,v,e1,⟨g,m1,aK hf.size m2,m3⟩,k⟩
theorem bx.ret {b n:Nat} {O:Nat→Prop} {T0:List Nd} {K:St→Prop} {E:Int→Prop} {w:World} {e:Ending} {w':World} (h:bx b n O T0 K E w e w') :∃v,e=.returned v:=by
 rcases h.2 with ⟨_,_,e1,_⟩ | ⟨_,v,e1,_⟩
 ·exact⟨_,e1⟩
 ·exact⟨v,e1⟩
theorem Dd (b n g1 g2 g3:Nat) (O:Nat→Prop) (T0:List Nd) (s:St) (K:St→Prop) (E:Int→Prop) (x:List UInt8) (pv:Value) (cD:List bR) (w:World) (hr:Real w b n O T0 s) (hx:x≠[])
  (b1:eB w O g1 #[.pointer (some ⟨b,0,none⟩)] 116) (b2:eB w O g2 #[.string (bb x)] 9) (b3:eB w O g3 #[pv] 117) (hp:aN w b O pv cD) (hk:bu x cD s K E) :
  Calls Tryz.prog 85 #[.pointer (some ⟨n,0,none⟩),.pointer (some ⟨g1,0,none⟩),.pointer (some ⟨g2,0,none⟩),.pointer (some ⟨g3,0,none⟩)] w (bx b n O T0 K E w):=by
 have c1:=b1.cell 0;obtain⟨X,hX⟩ :∃X,X=bb x:=⟨_,rfl⟩;rw[←hX] at b2;have c2:=b2.cell 0;have B3:=aa b3;have HR:=aa hr;have HP:=aa hp;obtain⟨t,ts,hs,hy,hn⟩:=hk;clear b1 b2 b3 hr hp;cases hq:av x t with
 | true =>
  have HC:=aa (kT HR.out hs x X hX hx hq);have HK:=aa (hy hq);clear hy hn hs hq hX hx;go_enter Tryz.func85,Tryz.ntmps85
  go_wp2_with fail
  refine HC.out.mono ?_;rintro e w2 ⟨rfl,r2,f2⟩;have F2:=aa f2;have c3:=(B3.out.later f2 (Ext.refl _ _)).cell 0;have HF:=aa (uu b n O T0 _ K E pv cD w2 r2 (HP.out.later f2 (Ext.refl _ _)) HK.out);clear r2 f2 c1 c2;go_wp2_with fail
  refine HF.out.mono ?_;intro e w3 h3;obtain⟨v,rfl⟩:=h3.ret;have H3:=aa (h3.after F2.out);clear h3 c3;go_wp2_with fail
  go_ret
  exact H3.out
 | false =>
  have HC:=aa (n9 HR.out hs x X hX hx hq);have HK:=aa (hn hq);clear hy hn hs hq hX hx;go_enter Tryz.func85,Tryz.ntmps85
  go_wp2_with fail
  refine HC.out.mono ?_;rintro e w2 ⟨rfl,r2,f2⟩;have F2:=aa f2;have R2:=aa r2;clear r2 f2 c1 c2;go_wp2_with fail
  go_ret
  exact⟨F2.out,.inl ⟨s,O,rfl,R2.out,Ext.refl _ _,HK.out⟩⟩
theorem wX (b:Nat) (O:Nat→Prop) (x:List UInt8) (X:ByteArray) (hX:X=bb x) (hx:x≠[]) (pv:Value) (cD:List bR) (w:World) (hp:aN w b O pv cD) (hO :∀k,O k→k<w.heap.size) :
  Calls Tryz.prog 42 #[.pointer (some ⟨b,0,none⟩),.string X,pv] w (ij b O (bu x cD) w):=by
 subst hX;obtain⟨A,m,rfl⟩:=hp.form;have HP:=aa hp;have HO:=aa hO;have HX:=aa hx;clear hp hO hx;go_enter Tryz.func42,Tryz.ntmps42
 go_wp2
 go_ret
 refine⟨_,rfl,(((Below.refl _ _).alloc (ah _) _).alloc (by simp) _).alloc (by simp;omega) _,?_,_,_,_,rfl⟩
 intro W1 O1 T0 s n K E hf he hr hk;have f1:az O w (w.alloc (.cells #[.pointer (some ⟨b,0,none⟩)] 116)):=(az.refl _ _).alloc _;have f2:=(az.refl O (w.alloc (.cells #[.pointer (some ⟨b,0,none⟩)] 116))).alloc (.cells #[.string (bb x)] 9);have f3:=(az.refl O ((w.alloc (.cells #[.pointer (some ⟨b,0,none⟩)] 116)).alloc (.cells #[.string (bb x)] 9))).alloc (.cells #[.slice A m m] 117);have h1:=eB.new w O HO.out #[.pointer (some ⟨b,0,none⟩)] 116;have h2:=eB.new (w.alloc (.cells #[.pointer (some ⟨b,0,none⟩)] 116)) O (fun k hk=>by have:=HO.out k hk;simp;omega) #[.string (bb x)] 9
 have h3:=eB.new ((w.alloc (.cells #[.pointer (some ⟨b,0,none⟩)] 116)).alloc (.cells #[.string (bb x)] 9)) O (fun k hk=>by have:=HO.out k hk;simp;omega) #[.slice A m m] 117
 rw[ao] at h2 h3;rw[ao] at h3;have Al:=((HP.out.later f1 (Ext.refl _ _)).later f2 (Ext.refl _ _)).later f3 (Ext.refl _ _);exact⟨85,_,_,rfl,enters_of Tryz.func85 (by kernel_rfl) rfl,Dd b n _ _ _ O1 T0 s K E x _ cD W1 hr HX.out (((h1.later f2 (Ext.refl _ _)).later f3 (Ext.refl _ _)).later hf he) ((h2.later f3 (Ext.refl _ _)).later hf he) (h3.later hf he) (Al.later hf he) hk⟩
def dv (x:List UInt8) (wp:bR):bR:=fun s K E=>∃t ts,s.ts=t::ts∧(av x t=true→K s)∧(av x t=false→wp s K E)
theorem RQ (w:World):Below w.heap.size w w.drew:=⟨rfl,rfl,rfl,ah _,fun _ _=>rfl⟩
theorem AI {w w':World} (h:Below w.drew.heap.size w.drew w'):Below w.heap.size w w':=⟨h.os,h.tape,h.output,h.size,h.block⟩
theorem jq {W:World} {b n:Nat} {O:Nat→Prop} {T0:List Nd} {s:St} (h:Real W b n O T0 s) {t:aj} {ts:List aj} (hs:s.ts=t::ts) (W1:World) (hb:Below W.heap.size W W1) :
  Calls Tryz.prog 38 #[.pointer (some ⟨b,0,none⟩)] W1 fun e w'=>e=.returned (.string (ag t))∧Below W1.heap.size W1 w':=by
 obtain⟨Op,On,T,ks,hO,hd,hp,hn,hl,hc⟩:=h.ex;rw[hs] at hp;exact bI b Op t ts T W1 (hp.below hb)
theorem Real.below {W W':World} {b n:Nat} {O:Nat→Prop} {T0:List Nd} {s:St} (h:Real W b n O T0 s) (hb:Below W.heap.size W W'):Real W' b n O T0 s:=by
 obtain⟨Op,On,T,ks,hO,hd,hp,hn,hl,hc⟩:=h.ex;exact⟨Op,On,T,ks,hO,hd,hp.below hb,hn.below hb,hl,hc⟩
theorem Ht (b n g1 g2 g3:Nat) (O:Nat→Prop) (T0:List Nd) (s:St) (K:St→Prop) (E:Int→Prop) (x:List UInt8) (v:Value) (wp:bR) (w:World) (hr:Real w b n O T0 s) (hx:x≠[])
  (b1:eB w O g1 #[.pointer (some ⟨b,0,none⟩)] 116) (b2:eB w O g2 #[.string (bb x)] 9) (b3:eB w O g3 #[v] 122) (hp:eA w b O v wp) (hk:dv x wp s K E) :
  Calls Tryz.prog 208 #[.pointer (some ⟨n,0,none⟩),.pointer (some ⟨g1,0,none⟩),.pointer (some ⟨g2,0,none⟩),.pointer (some ⟨g3,0,none⟩)] w (bx b n O T0 K E w):=by
 obtain⟨X,hX⟩ :∃X,X=bb x:=⟨_,rfl⟩;rw[←hX] at b2;obtain⟨t,ts,hs,hy,hn⟩:=hk;have HW:=aa (jq hr hs);have hq :∀q,av x t=q→((ag t).toList == X.toList)=q:=fun q h=>by rw[Lib.toList_data,Lib.toList_data,hX,←h];exact tm hx t
 generalize ag t=Y at *;have HK:Hid (∀W,Below w.heap.size w W→W.cell? ⟨g1,0,none⟩=some (.pointer (some ⟨b,0,none⟩))∧W.cell? ⟨g2,0,none⟩=some (.string X)):=aa fun W hW=>by
  have f:az O w W:=az.ae hW;exact⟨(b1.later f (Ext.refl _ _)).cell 0,(b2.later f (Ext.refl _ _)).cell 0⟩
 have B3:=aa b3;have HR:=aa hr;have HP:=aa hp;obtain⟨c1,c2⟩:=HK.out w (Below.refl _ _);have cur:=aa (RQ w);clear b1 b2 b3 hr hp hX hs;have k0:=aa (HK.out w (Below.refl _ _));cases hz:av x t with
 | true =>
  have gq:=hq true hz;have HY:=aa (hy hz);clear hy hn hz hq hx;go_enter Tryz.func208,Tryz.ntmps208
  go_wp2_with fail
  go_region_held3 (fun w'=>w'.cell? ⟨g1,0,none⟩=some (.pointer (some ⟨b,0,none⟩))∧w'.cell? ⟨g2,0,none⟩=some (.string X))
   (first|exact kk.out|exact k0.out)
   ((go_at_call 38;with_reducible refine(HW.out _ cur.out).mono ?_;rintro e w2 ⟨rfl,b'⟩;have cur:=aa (AI b');have kk:=aa (HK.out _ cur.out);clear b'))
  all_goals go_wp2
  all_goals go_ret
  all_goals exact⟨az.ae cur.out,.inl ⟨s,O,rfl,HR.out.below cur.out,Ext.refl _ _,HY.out⟩⟩
 | false =>
  have gq:=hq false hz;have HN:=aa (hn hz);clear hy hn hz hq hx;have HC:Hid (∀W,Below w.heap.size w W→∃f first cap,v=.func (.func f) first cap∧Enters Tryz.prog f∧Calls Tryz.prog f (first.push (.pointer (some ⟨n,0,none⟩))++cap) W (bx b n O T0 K E W)):=aa fun W hW=>by
   obtain⟨f,first,cap,h1,h2,h3⟩:=HP.out W O T0 s n K E (az.ae hW) (Ext.refl _ _) (HR.out.below hW) HN.out
   exact⟨f,first,cap,h1,h2,by simpa using h3⟩
  have yA:Hid (∀W,Below w.heap.size w W→W.cell? ⟨g3,0,none⟩=some v):=aa fun W hW=>(B3.out.later (O':=O) (az.ae hW) (Ext.refl _ _)).cell 0
  go_enter Tryz.func208,Tryz.ntmps208
  go_wp2_with fail
  go_region_held3 (fun w'=>w'.cell? ⟨g1,0,none⟩=some (.pointer (some ⟨b,0,none⟩))∧w'.cell? ⟨g2,0,none⟩=some (.string X))
   (first|exact kk.out|exact k0.out)
   ((go_at_call 38;with_reducible refine(HW.out _ cur.out).mono ?_;rintro e w2 ⟨rfl,b'⟩;have cur:=aa (AI b');have kk:=aa (HK.out _ cur.out);clear b'))
  all_goals
   have c3:=yA.out _ cur.out;obtain⟨f,first,cap,rfl,pt,bq⟩:=HC.out _ cur.out
   have dS:=aa bq;clear bq;unfold Enters at pt;go_wp2_with fail
   refine dS.out.mono ?_;intro e w3 h3;obtain⟨v',rfl⟩:=h3.ret;have H3:=aa (h3.after (az.ae cur.out));clear h3;go_wp2_with fail
   go_ret
   exact H3.out
theorem LZ (b:Nat) (O:Nat→Prop) (x:List UInt8) (X:ByteArray) (hX:X=bb x) (hx:x≠[]) (f:FuncId) (first cap:Array Value) (wp:bR) (w:World) (hp:eA w b O (.func (.func f) first cap) wp) (hO :∀k,O k→k<w.heap.size) :
  Calls Tryz.prog 180 #[.pointer (some ⟨b,0,none⟩),.string X,.func (.func f) first cap] w (ij b O (dv x wp) w):=by
 subst hX;have HP:=aa hp;have HO:=aa hO;have HX:=aa hx;clear hp hO hx;go_enter Tryz.func180,Tryz.ntmps180
 go_wp2
 go_ret
 refine⟨_,rfl,(((Below.refl _ _).alloc (ah _) _).alloc (by simp) _).alloc (by simp;omega) _,?_,_,_,_,rfl⟩
 intro W1 O1 T0 s n K E hf he hr hk;have f1:az O w (w.alloc (.cells #[.pointer (some ⟨b,0,none⟩)] 116)):=(az.refl _ _).alloc _;have f2:=(az.refl O (w.alloc (.cells #[.pointer (some ⟨b,0,none⟩)] 116))).alloc (.cells #[.string (bb x)] 9);have f3:=(az.refl O ((w.alloc (.cells #[.pointer (some ⟨b,0,none⟩)] 116)).alloc (.cells #[.string (bb x)] 9))).alloc (.cells #[.func (.func f) first cap] 122)
 have h1:=eB.new w O HO.out #[.pointer (some ⟨b,0,none⟩)] 116;have h2:=eB.new (w.alloc (.cells #[.pointer (some ⟨b,0,none⟩)] 116)) O (fun k hk=>by have:=HO.out k hk;simp;omega) #[.string (bb x)] 9
 have h3:=eB.new ((w.alloc (.cells #[.pointer (some ⟨b,0,none⟩)] 116)).alloc (.cells #[.string (bb x)] 9)) O (fun k hk=>by have:=HO.out k hk;simp;omega) #[.func (.func f) first cap] 122
 rw[ao] at h2 h3;rw[ao] at h3;have Al:=((HP.out.later f1 (Ext.refl _ _)).later f2 (Ext.refl _ _)).later f3 (Ext.refl _ _);exact⟨208,_,_,rfl,enters_of Tryz.func208 (by kernel_rfl) rfl,Ht b n _ _ _ O1 T0 s K E x _ wp W1 hr HX.out (((h1.later f2 (Ext.refl _ _)).later f3 (Ext.refl _ _)).later hf he) ((h2.later f3 (Ext.refl _ _)).later hf he) (h3.later hf he) (Al.later hf he) hk⟩
def qi (x:List UInt8) (cD:List bR):Nat→bR
 | 0,_,_,_=>False
 | k+1,s,K,E=>∃t ts,s.ts=t::ts∧(av x t=true→aJ cD { s with ts:=ts} (fun s'=>qi x cD k s' K E) E)∧(av x t=false→K s)
def rl (x:List UInt8) (cD:List bR):bR:=fun s K E=>∃k,qi x cD k s K E
theorem AJ (b n g1 g2 g3:Nat) (O:Nat→Prop) (T0:List Nd) (s:St) (K:St→Prop) (E:Int→Prop) (x:List UInt8) (pv:Value) (cD:List bR) (w:World) (hr:Real w b n O T0 s) (hx:x≠[])
  (b1:eB w O g1 #[.pointer (some ⟨b,0,none⟩)] 116) (b2:eB w O g2 #[.string (bb x)] 9) (b3:eB w O g3 #[pv] 117) (hp:aN w b O pv cD) (hk:rl x cD s K E) :
  Calls Tryz.prog 148 #[.pointer (some ⟨n,0,none⟩),.pointer (some ⟨g1,0,none⟩),.pointer (some ⟨g2,0,none⟩),.pointer (some ⟨g3,0,none⟩)] w (bx b n O T0 K E w):=by
 obtain⟨X,hX⟩ :∃X,X=bb x:=⟨_,rfl⟩;rw[←hX] at b2;have B1:=aa b1;have B2:=aa b2;have B3:=aa b3;have HR:=aa hr;have HP:=aa hp;have HX:=aa hX;have HN:=aa hx;obtain⟨m,hm⟩:=hk;have HM:=aa hm;clear b1 b2 b3 hr hp hX hx hm;go_enter Tryz.func148,Tryz.ntmps148
 go_wp2_with fail
 go_loopg [] m (fun z wr=>∃(O1:Nat→Prop) (s1:St),Real wr b n O1 T0 s1∧az O w wr∧Ext O O1 w∧qi x cD z s1 K E)
 case atStart=>exact⟨O,s,HR.out,az.refl _ _,Ext.refl _ _,HM.out⟩
 case round =>
  obtain⟨O1,s1,hr1,kO,uw,iT⟩:=hrel;have nC:=aa hr1;have fj:=aa kO;have oU:=aa uw;have c1:=(B1.out.later kO uw).cell 0;have c2:=(B2.out.later kO uw).cell 0;cases gk with
  | zero=>exact iT.elim
  | succ z =>
   obtain⟨t,ts,hs,hy,hn⟩:=iT;clear hr1 kO uw;cases hq:av x t with
   | true =>
    have HC:=aa (kT nC.out hs x X HX.out HN.out hq);have HK:=aa (hy hq);clear hy hn hs hq;go_wp2_with fail
    refine HC.out.mono ?_;rintro e w2 ⟨rfl,r2,f2⟩;have mq:=fj.out.trans f2 oU.out;have F2:=aa mq;have c3:=(B3.out.later mq oU.out).cell 0;have HF:=aa (uu b n O1 T0 _ (fun s'=>qi x cD z s' K E) E pv cD w2 r2 (HP.out.later mq oU.out) HK.out)
    clear r2 f2 mq c1 c2;go_wp2_with fail
    refine HF.out.mono ?_;rintro e w3 ⟨f3,h3⟩;have F3:=aa (F2.out.trans f3 oU.out);rcases h3 with ⟨s3,O3,rfl,r3,x3,k3⟩ | ⟨l,v,rfl,m3,k3⟩
    ·have R3:=aa r3
     have X3:=aa (oU.out.trans x3 F2.out.size);have K3:=aa k3;clear f3 r3 x3 k3 c3;go_wp2_with fail
     go_roundg z
     case measure=>omega
     case rel=>exact⟨O3,s3,R3.out,F3.out,X3.out,K3.out⟩
    ·obtain⟨g',rfl,hg1,hg2⟩:=m3
     have M3:=aa hg2;have HG:=aa (aK F2.out.size hg1);have K3:=aa k3;clear f3 hg1 hg2 k3 c3;go_wp2_with fail
     go_ret
     exact⟨F3.out,.inr ⟨l,_,rfl,⟨g',rfl,HG.out,M3.out⟩,K3.out⟩⟩
   | false =>
    have HC:=aa (n9 nC.out hs x X HX.out HN.out hq);have HK:=aa (hn hq);clear hy hn hs hq;go_wp2_with fail
    refine HC.out.mono ?_;rintro e w2 ⟨rfl,r2,f2⟩;have F2:=aa (fj.out.trans f2 oU.out);have R2:=aa r2;clear r2 f2 c1 c2;go_wp2_with fail
    go_ret
    exact⟨F2.out,.inl ⟨s1,O1,rfl,R2.out,oU.out,HK.out⟩⟩
theorem De (b:Nat) (O:Nat→Prop) (x:List UInt8) (X:ByteArray) (hX:X=bb x) (hx:x≠[]) (pv:Value) (cD:List bR) (w:World) (hp:aN w b O pv cD) (hO :∀k,O k→k<w.heap.size) :
  Calls Tryz.prog 92 #[.pointer (some ⟨b,0,none⟩),.string X,pv] w (ij b O (rl x cD) w):=by
 subst hX;obtain⟨A,m,rfl⟩:=hp.form;have HP:=aa hp;have HO:=aa hO;have HX:=aa hx;clear hp hO hx;go_enter Tryz.func92,Tryz.ntmps92
 go_wp2
 go_ret
 refine⟨_,rfl,(((Below.refl _ _).alloc (ah _) _).alloc (by simp) _).alloc (by simp;omega) _,?_,_,_,_,rfl⟩
 intro W1 O1 T0 s n K E hf he hr hk;have f1:az O w (w.alloc (.cells #[.pointer (some ⟨b,0,none⟩)] 116)):=(az.refl _ _).alloc _;have f2:=(az.refl O (w.alloc (.cells #[.pointer (some ⟨b,0,none⟩)] 116))).alloc (.cells #[.string (bb x)] 9);have f3:=(az.refl O ((w.alloc (.cells #[.pointer (some ⟨b,0,none⟩)] 116)).alloc (.cells #[.string (bb x)] 9))).alloc (.cells #[.slice A m m] 117);have h1:=eB.new w O HO.out #[.pointer (some ⟨b,0,none⟩)] 116;have h2:=eB.new (w.alloc (.cells #[.pointer (some ⟨b,0,none⟩)] 116)) O (fun k hk=>by have:=HO.out k hk;simp;omega) #[.string (bb x)] 9
 have h3:=eB.new ((w.alloc (.cells #[.pointer (some ⟨b,0,none⟩)] 116)).alloc (.cells #[.string (bb x)] 9)) O (fun k hk=>by have:=HO.out k hk;simp;omega) #[.slice A m m] 117
 rw[ao] at h2 h3;rw[ao] at h3;have Al:=((HP.out.later f1 (Ext.refl _ _)).later f2 (Ext.refl _ _)).later f3 (Ext.refl _ _);exact⟨148,_,_,rfl,enters_of Tryz.func148 (by kernel_rfl) rfl,AJ b n _ _ _ O1 T0 s K E x _ cD W1 hr HX.out (((h1.later f2 (Ext.refl _ _)).later f3 (Ext.refl _ _)).later hf he) ((h2.later f3 (Ext.refl _ _)).later hf he) (h3.later hf he) (Al.later hf he) hk⟩
end Go.Proofs.YteflkdlaoiijbaaGreatDoor
