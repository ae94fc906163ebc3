/- Parts of the proof. -/
import Derived.RegionTactic
import Derived.ChangeAlike
import Derived.Deep.RegionHeld3
import Derived.Deep.AppendLies
import Derived.Test.YteflkdlaoiijbaaGreatDoorK03
set_option maxHeartbeats 16000000
set_option maxRecDepth 20000
namespace Go.Proofs.YteflkdlaoiijbaaGreatDoor
open Go.RowKit
def nr (k n:Int) (w:World) (e:Ending) (w':World):Prop:=∃v,e=.returned v∧QX w' v (aY k n)∧Below w.heap.size w w'
theorem nW {k n:Int} {ps:List EL} (h:aY k n=ps) {w w':World} {v:Value} (hr:QX w' v ps) (hb:Below w.heap.size w w'):nr k n w (.returned v) w':=⟨v,rfl,by rw[h];exact hr,hb⟩
theorem bC (w:World) (o:Obj):Below w.heap.size w (w.alloc o):=(Below.refl _ _).alloc (ah _) _
theorem GZ (x:Nd) (A B:Option Addr) (a c b d:Nat) (w:World) (h:x.kind=13∨x.kind=14∨x.kind=16∨x.kind=11∨x.kind=22∨x.kind=21∨x.kind=28):Calls Tryz.prog 107 #[cZ x (.slice A a c) (.slice B b d)] w (nr x.kind x.num w):=by
 obtain⟨kind,line,op,num,s,names,kids⟩:=x;unfold cZ;simp only at h ⊢;have b1:=bC w (.cells #[.int .i64 kind,.int .i64 line,.int .i64 op,.int .i64 num,.string s,.slice A a c,.slice B b d] 55);rcases h with rfl|rfl|rfl|rfl|rfl|rfl|rfl;all_goals
  have B1:=aa b1;clear b1;go_enter Tryz.func107,Tryz.ntmps107
  go_wp2_with fail
  refine(Aw _ _ _ (np _ _ 180 _ (by simp))).mono ?_
  rintro e w2 ⟨v,rfl,hr,b2⟩;have HR:=aa hr;have B2:=aa (aA B1.out (aA (bC _ _) b2));obtain⟨bp,pv,rfl,_⟩:=hr;clear b2;go_wp2_with fail
  go_ret
  exact nW (by simp[aY]) HR.out B2.out
theorem G8 (x:Nd) (A B:Option Addr) (a c b d:Nat) (w:World) (h:x.kind=8∨x.kind=12∨x.kind=17∨x.kind=23∨x.kind=24):Calls Tryz.prog 107 #[cZ x (.slice A a c) (.slice B b d)] w (nr x.kind x.num w):=by
 obtain⟨kind,line,op,num,s,names,kids⟩:=x;unfold cZ;simp only at h ⊢;have b1:=bC w (.cells #[.int .i64 kind,.int .i64 line,.int .i64 op,.int .i64 num,.string s,.slice A a c,.slice B b d] 55);rcases h with rfl|rfl|rfl|rfl|rfl;all_goals
  have B1:=aa b1;clear b1;go_enter Tryz.func107,Tryz.ntmps107
  go_wp2_with fail
  refine(Aw _ _ _ (Au _ _ _ 180 _ (by simp))).mono ?_
  rintro e w2 ⟨v,rfl,hr,b2⟩;have HR:=aa hr;have B2:=aa (aA B1.out (aA (bC _ _) b2));obtain⟨bp,pv,rfl,_⟩:=hr;clear b2;go_wp2_with fail
  go_ret
  exact nW (by simp[aY]) HR.out B2.out
theorem QY (x:Nd) (A B:Option Addr) (a c b d:Nat) (w:World) (h:x.kind=9∨x.kind=10∨x.kind=19∨x.kind=29∨x.kind=15):Calls Tryz.prog 107 #[cZ x (.slice A a c) (.slice B b d)] w (nr x.kind x.num w):=by
 obtain⟨kind,line,op,num,s,names,kids⟩:=x;unfold cZ;simp only at h ⊢;have b1:=bC w (.cells #[.int .i64 kind,.int .i64 line,.int .i64 op,.int .i64 num,.string s,.slice A a c,.slice B b d] 55);rcases h with rfl|rfl|rfl|rfl|rfl;all_goals
  have B1:=aa b1;clear b1;go_enter Tryz.func107,Tryz.ntmps107
  go_wp2_with fail
  refine(kV _ _ _ _ _ (np _ _ 180 _ (by simp))).mono ?_
  rintro e w2 ⟨v,rfl,hp,b2⟩;have HP:=aa hp;have B2:=aa (aA B1.out (aA (bC _ _) b2));obtain⟨bm,br,bl,rv,rfl,_⟩:=hp;clear b2;go_wp2_with fail
  refine(nm _ _ _ (wQ (b:=w2.heap.size) (by rw[an];exact dC _) (dJ w2 _ _ _) (HP.out.below (bC w2 _)))).mono ?_
  rintro e w3 ⟨v3,rfl,hr,b3⟩;have HR:=aa hr;have B3:=aa (aA B2.out (aA (bC _ _) b3));obtain⟨bp,pv,rfl,_⟩:=hr;clear b3;go_wp2_with fail
  go_ret
  exact nW (by simp[aY,big]) HR.out B3.out
theorem Lo (x:Nd) (A B:Option Addr) (a c b d:Nat) (w:World) (h:x.kind=18∨x.kind=26∨x.kind=27∨x.kind=20):Calls Tryz.prog 107 #[cZ x (.slice A a c) (.slice B b d)] w (nr x.kind x.num w):=by
 obtain⟨kind,line,op,num,s,names,kids⟩:=x;unfold cZ;simp only at h ⊢;have b1:=bC w (.cells #[.int .i64 kind,.int .i64 line,.int .i64 op,.int .i64 num,.string s,.slice A a c,.slice B b d] 55);rcases h with rfl|rfl|rfl|rfl;all_goals
  have B1:=aa b1;clear b1;go_enter Tryz.func107,Tryz.ntmps107
  go_wp2_with fail
  refine(kV _ _ _ _ _ (np _ _ 180 _ (by simp))).mono ?_
  rintro e w2 ⟨v,rfl,hp,b2⟩;have HP:=aa hp;have B2:=aa (aA B1.out (aA (bC _ _) b2));obtain⟨bm,br,bl,rv,rfl,_⟩:=hp;clear b2;go_wp2_with fail
  refine(kV _ _ _ _ _ (np w2 _ 180 _ rfl)).mono ?_;rintro e w3 ⟨v,rfl,Af,b3⟩;have WI:=aa (HP.out.below (aA (bC w2 _) b3));have WJ:=aa Af;have B3:=aa (aA B2.out (aA (bC _ _) b3));obtain⟨bm3,br3,bl3,rv3,rfl,_⟩:=Af;clear b3 HP;go_wp2_with fail
  refine(nm _ _ _ (wR (b:=w3.heap.size) (by rw[an];exact dC _) (dJ w3 _ _ _) (dJ w3 _ _ _) (WI.out.below (bC w3 _)) (WJ.out.below (bC w3 _)))).mono ?_
  rintro e w4 ⟨v4,rfl,hr,b4⟩;have HR:=aa hr;have B4:=aa (aA B3.out (aA (bC _ _) b4));obtain⟨bp,pv,rfl,_⟩:=hr;clear b4;go_wp2_with fail
  go_ret
  exact nW (by simp[aY,big]) HR.out B4.out
theorem Lp (x:Nd) (A B:Option Addr) (a c b d:Nat) (w:World) (h:x.kind=25):Calls Tryz.prog 107 #[cZ x (.slice A a c) (.slice B b d)] w (nr x.kind x.num w):=by
 obtain⟨kind,line,op,num,s,names,kids⟩:=x;unfold cZ;simp only at h ⊢;have b1:=bC w (.cells #[.int .i64 kind,.int .i64 line,.int .i64 op,.int .i64 num,.string s,.slice A a c,.slice B b d] 55);subst h;have B1:=aa b1;clear b1;go_enter Tryz.func107,Tryz.ntmps107
 go_wp2_with fail
 refine(kV _ _ _ _ _ (Au _ _ _ 180 _ (by simp))).mono ?_
 rintro e w2 ⟨v,rfl,hp,b2⟩;have HP:=aa hp;have B2:=aa (aA B1.out (aA (bC _ _) b2));obtain⟨bm,br,bl,rv,rfl,_⟩:=hp;clear b2;go_wp2_with fail
 refine(kV _ _ _ _ _ (np w2 _ 180 _ rfl)).mono ?_;rintro e w3 ⟨v,rfl,Af,b3⟩;have WI:=aa (HP.out.below (aA (bC w2 _) b3));have WJ:=aa Af;have B3:=aa (aA B2.out (aA (bC _ _) b3));obtain⟨bm3,br3,bl3,rv3,rfl,_⟩:=Af;clear b3 HP;go_wp2_with fail
 refine(nm _ _ _ (wR (b:=w3.heap.size) (by rw[an];exact dC _) (dJ w3 _ _ _) (dJ w3 _ _ _) (WI.out.below (bC w3 _)) (WJ.out.below (bC w3 _)))).mono ?_
 rintro e w4 ⟨v4,rfl,hr,b4⟩;have HR:=aa hr;have B4:=aa (aA B3.out (aA (bC _ _) b4));obtain⟨bp,pv,rfl,_⟩:=hr;clear b4;go_wp2_with fail
 go_ret
 exact nW (by simp[aY,big]) HR.out B4.out
theorem Lq (x:Nd) (A B:Option Addr) (a c b d:Nat) (w:World) (h :∀k∈[13,14,16,8,12,17,9,10,19,29,11,22,21,28,23,24,15,18,25,26,27,(20:Int)],x.kind≠k):Calls Tryz.prog 107 #[cZ x (.slice A a c) (.slice B b d)] w (nr x.kind x.num w):=by
 obtain⟨kind,line,op,num,s,names,kids⟩:=x;unfold cZ;simp only at h ⊢;simp only[bc,oG,oH,forall_eq_or_imp,forall_eq] at h;obtain⟨h1,h2,h3,h4,h5,h6,h7,h8,h9,h10,h11,h12,h13,h14,h15,h16,h17,mi,Lr,h20,h21,h22⟩:=h;have hp:aY kind num=[]:=by simp only[aY];simp[*]
 have b1:=bC w (.cells #[.int .i64 kind,.int .i64 line,.int .i64 op,.int .i64 num,.string s,.slice A a c,.slice B b d] 55);have B1:=aa b1;have HP:=aa hp;clear b1 hp;go_enter Tryz.func107,Tryz.ntmps107
 go_wp2_with fail
 refine(nm _ [] _ ⟨none,0,rfl,.inl rfl⟩).mono ?_;rintro e w2 ⟨v,rfl,hr,b2⟩;have HR:=aa hr;have B2:=aa (aA B1.out b2);obtain⟨bp,pv,rfl,_⟩:=hr;clear b2;go_wp2_with fail
 go_ret
 exact nW HP.out HR.out B2.out
theorem QZ (x:Nd) (A B:Option Addr) (a c b d:Nat) (w:World):Calls Tryz.prog 107 #[cZ x (.slice A a c) (.slice B b d)] w (nr x.kind x.num w):=by
 by_cases h1:x.kind=13∨x.kind=14∨x.kind=16∨x.kind=11∨x.kind=22∨x.kind=21∨x.kind=28
 ·exact GZ x A B a c b d w h1
 by_cases h2:x.kind=8∨x.kind=12∨x.kind=17∨x.kind=23∨x.kind=24
 ·exact G8 x A B a c b d w h2
 by_cases h3:x.kind=9∨x.kind=10∨x.kind=19∨x.kind=29∨x.kind=15
 ·exact QY x A B a c b d w h3
 by_cases h4:x.kind=18∨x.kind=26∨x.kind=27∨x.kind=20
 ·exact Lo x A B a c b d w h4
 by_cases h5:x.kind=25
 ·exact Lp x A B a c b d w h5
 refine Lq x A B a c b d w fun k hk=>?_
 simp only[bc,oG,oH] at hk;omega
theorem dF {α:Type} {p:Prop} [Decidable p] {a b:α} (P:α→Prop) (ha:P a) (hb:P b):P (if p then a else b):=by
 by_cases h:p
 ·rw[al h];exact ha
 ·rw[af h];exact hb
def mr (ps:List EL):Prop:=ps.all (fun p=>decide (0<p.2.2.length))=true∧ps.length≤1000
theorem fN (a b:Int) (r:Int) (l:List Int):mr [(a,b,r::l)]:=⟨rfl,Nat.le_of_ble_eq_true rfl⟩
theorem nw (a b a' b':Int) (r r':Int) (l l':List Int):mr [(a,b,r::l),(a',b',r'::l')]:=⟨rfl,Nat.le_of_ble_eq_true rfl⟩
theorem Ax (k n:Int):mr (aY k n):=by
 unfold aY;refine dF mr (fN ..) <| dF mr (fN ..) <| dF mr (fN ..) <| dF mr (fN ..) <| dF mr (fN ..) <| dF mr (fN ..) <| dF mr (fN ..) <| dF mr (fN ..) <| dF mr (fN ..) <| dF mr (fN ..) <| dF mr (nw ..) <| dF mr (nw ..) <| dF mr (nw ..) <| dF mr (nw ..) <| dF mr (nw ..) ⟨rfl,bB _⟩
theorem G9 (k n:Int) :∀p∈aY k n,0<p.2.2.length:=fun p hp=>gU (List.all_eq_true.1 (Ax k n).1 p hp)
theorem Ha (k n:Int):(aY k n).length≤1000:=(Ax k n).2
def ic (T:List Nd) (x:Nd):List Int:=x.kids.map fun k=>gW (dD T k.toNat)
theorem CT (T:List Nd) (x:Nd):(ic T x).length=x.kids.length:=by simp[ic]
theorem Hb {T:List Nd} {x:Nd} {j:Nat} {k:Int} (h:x.kids[j]? = some k):(ic T x)[j]? = some (gW (dD T k.toNat)):=by simp[ic,h]
theorem Ls {W:World} {b:Nat} {l:List Int} (h:oq W b l.length (fun j=>.int .i64 (l.getD j 0))) (hb:b<W.heap.size):eC W (.slice (some ⟨b,0,none⟩) l.length l.length) l :=
 ⟨_,_,rfl,ah _,.inr ⟨b,0,rfl,hb,fun j z hj=>by
  have hl:=(aJ.1 hj).1;rw[jY,(h j hl).1];show some (Value.int .i64 (l.getD j 0))=_
  rw[jU,hj];rfl⟩⟩
theorem Lu (x:Nd) (nv kv tv:Value) (T:List Nd) (w:World) (hnv:oL w nv x.names) (Zj:eC w kv x.kids) (ht:qc w tv T) (hv :∀k∈x.kids,0≤k∧k<(T.length:Int)) (hl:x.kids.length≤20000) :
  Calls Tryz.prog 52 #[cZ x nv kv,tv] w fun e w'=>e=.returned (.bool (qf x.kind x.num (ic T x)))∧Below w.heap.size w w':=by
 have HK:=aa Zj;have HNV:=aa hnv;obtain⟨NA,nc,rfl,_,_⟩:=hnv;obtain⟨KA,kc,rfl,qe,hka⟩:=Zj;obtain⟨TA,tc,rfl,htc,hta⟩:=ht;have HOF:=aa (fun W=>QZ x NA KA x.names.length nc x.kids.length kc W)
 have HV:=aa hv;have CU:=aa hka;have HTA:=aa hta;have hW0:=bC w (.cells #[.int .i64 x.kind,.int .i64 x.line,.int .i64 x.op,.int .i64 x.num,.string x.s,.slice NA x.names.length nc,.slice KA x.kids.length kc] 55);obtain⟨w1,wP,hb1,hs1,kT⟩:=CP x.kids.length (by omega) (w.alloc (.cells #[.int .i64 x.kind,.int .i64 x.line,.int .i64 x.op,.int .i64 x.num,.string x.s,.slice NA x.names.length nc,.slice KA x.kids.length kc] 55))
 rw[an] at wP hb1 hs1 kT;have db :∀j:Nat,w1.cell? ⟨w.heap.size,j,none⟩=(#[.int .i64 x.kind,.int .i64 x.line,.int .i64 x.op,.int .i64 x.num,.string x.s,.slice NA x.names.length nc,.slice KA x.kids.length kc]:Array Value)[j]?:=fun j=>(hb1.cell (p:=⟨w.heap.size,j,none⟩) (dC _)).trans (dJ w _ _ _)
 have c6:w1.cell? ⟨w.heap.size,6,none⟩=some (.slice KA x.kids.length kc):=db 6;have qg:=aa db;have dL:=aa (hW0.trans (hb1.mono (gd _)));have fA:=aa kT;clear hv hka hta hW0 hb1 kT db;unfold cZ at HOF ⊢;go_enter Tryz.func52,Tryz.ntmps52
 go_wp2_with fail
 clear wP c6;have hsl:(ic T x).length=x.kids.length:=CT T x;have HSL:=aa hsl;clear hsl;go_loopw [15] (fun i wr=>∃k:Nat,k≤x.kids.length∧i=.int .i64 (k:Int)∧Below (w.heap.size+1) w1 wr∧oq wr (w.heap.size+1) x.kids.length (fun j=>if j<k then .int .i64 ((ic T x).getD j 0) else .int .i64 0)) (fun i _=>x.kids.length-(intOf i).toNat)
 case atStart=>exact⟨0,bB _,rfl,Below.refl _ _,fA.out.eq_ fun j _=>by rw[af (by omega)]⟩
 case round =>
  obtain⟨k,hk,rfl,hbr,ou⟩:=hrel;have HB:=aa hbr;have HF:=aa ou;have hsz:=hbr.size;have jR:=aa (dL.out.trans (hbr.mono (gd _)));clear hbr;by_cases hlt:k<x.kids.length
  ·obtain⟨z,hz⟩ :∃z,x.kids[k]? = some z:=⟨x.kids[k],bE hlt⟩
   obtain⟨z0,z1⟩:=HV.out z (aL hz);obtain⟨q,rfl⟩ :∃q:Nat,z=(q:Int):=⟨z.toNat,by omega⟩
   have hq:q<T.length:=by omega
   have hx:=bE hq;rcases CU.out with h0 | ⟨b1,o1,rfl,hb1,hc1⟩
   ·rw[h0] at hlt;exact absurd hlt (gV _)
   rcases HTA.out with h0 | ⟨b2,o2,rfl,hb2,hc2⟩
   ·rw[h0] at hq;exact absurd hq (gV _)
   have ck:=(jR.out.cell (p:=⟨b1,o1+k,none⟩) hb1).trans (hc1 k _ hz);obtain⟨nv',kv',dM,_,_⟩:=hc2 q _ hx;have ct:=(jR.out.cell (p:=⟨b2,o2+q*7,none⟩) hb2).trans dM.c0;obtain⟨fc,ff⟩:=ou k hlt;obtain⟨kd,qa⟩ :∃kd,kd=T[q].kind:=⟨_,rfl⟩;rw[←qa] at ct;have hsk:(ic T x).getD k 0=gW kd:=by
    rw[jU,Hb hz,iI,lA hx,←qa];rfl
   have HSK:=aa hsk;replace fc:wr.cell? ⟨w.heap.size+1,k,none⟩=some (.int .i64 0):=fc.trans (by
    show some (if k<k then _ else _)=_
    rw[af (by omega)])
   clear hc1 hc2 dM hz hx hsk qa ou;go_wp2_with (go_at_call 106;refine(GW kd _).mono ?_;rintro e w' ⟨rfl,rfl⟩)
   refine⟨⟨k+1,by omega,by go_num,HB.out.setCell (ah _) _,(HF.out.Wz hlt _).eq_ fun j hj=>?_⟩,by simp[intOf];omega⟩
   by_cases e:j=k
   ·subst e
    rw[al rfl,al (by omega),HSK.out]
   ·rw[af e]
    by_cases h:j<k
    ·rw[al h,al (by omega)]
    ·rw[af h,af (by omega)]
  ·have aan:oq wr (w.heap.size+1) (ic T x).length (fun j=>.int .i64 ((ic T x).getD j 0)):=by
    rw[HSL.out];exact HF.out.eq_ fun j hj=>by rw[al (by omega)]
   have HN:=aa (Ls aan (by omega))
   clear aan ou;have HC:=qg.out;have c0:=(HB.out.cell (p:=⟨w.heap.size,0,none⟩) (dC _)).trans (HC 0);have c1:=(HB.out.cell (p:=⟨w.heap.size,1,none⟩) (dC _)).trans (HC 1);have c2:=(HB.out.cell (p:=⟨w.heap.size,2,none⟩) (dC _)).trans (HC 2);have c3:=(HB.out.cell (p:=⟨w.heap.size,3,none⟩) (dC _)).trans (HC 3);have c4:=(HB.out.cell (p:=⟨w.heap.size,4,none⟩) (dC _)).trans (HC 4);have c5:=(HB.out.cell (p:=⟨w.heap.size,5,none⟩) (dC _)).trans (HC 5);have c6:=(HB.out.cell (p:=⟨w.heap.size,6,none⟩) (dC _)).trans (HC 6);clear HC;go_wp2_with fail
   refine(HOF.out wr).mono ?_;rintro e w2 ⟨v,rfl,hr,b2⟩;obtain⟨bp,pv,rfl,hbp,hcp,hpp⟩:=hr;have HRL:=aa (Ln _ _ (aY x.kind x.num) (ic T x) bp w2 hcp hpp (HN.out.below b2) (by rw[HSL.out];omega) (G9 _ _) (Ha _ _))
   have B2:=aa (jh jR.out (ah _) b2);clear hcp hpp b2;rw[HSL.out] at HRL;go_wp2_with fail
   refine HRL.out.mono ?_;rintro e w3 ⟨rfl,b3⟩;have B3:=aa (jh B2.out (ah _) b3);clear b3;go_wp2_with fail
   go_ret
   exact⟨rfl,B3.out⟩
def Uw:List (List UInt8):=[[97,110,100],[98,114,101,97,107],[100,111],[101,108,115,101],[101,108,115,101,105,102],[101,110,100],[102,97,108,115,101],[102,111,114],[102,117,110,99,116,105,111,110],[103,111,116,111],[105,102],[105,110],[108,111,99,97,108],[110,105,108],[110,111,116],[111,114],[114,101,112,101,97,116],[114,101,116,117,114,110],[116,104,101,110],[116,114,117,101],[117,110,116,105,108],[119,104,105,108,101]]
def uz (l:List UInt8):Bool:=Uw.contains l
def Q0 (c:UInt8):Bool:=decide (97≤c.toNat∧c.toNat≤122) || decide (65≤c.toNat∧c.toNat≤90) || decide (c.toNat=95)
def Ay (c:UInt8):Bool:=decide (48≤c.toNat∧c.toNat≤57)
def s9 (c:UInt8):Bool:=Q0 c || Ay c
def Lv (l:List UInt8):Bool:=match l with | []=>false|c::_=>Ay c
def gC (s:ByteArray):Bool:=decide (s.size≠0) && decide (s.size≤65536) && !Lv s.data.toList && !uz s.data.toList && s.data.toList.all s9
theorem Hc (s:ByteArray) (w:World):Calls Tryz.prog 135 #[.string s] w fun e w'=>e=.returned (.bool (uz s.data.toList))∧w=w':=by
 rw[←Lib.toList_data];go_enter Tryz.func135,Tryz.ntmps135
 go_wp2_with fail
 all_goals first
  | (go_ret;rename_i ha hb;rw[ha] at hb;cases hb;done)
  | (go_ret;exact⟨cN (by simp only[uz,Uw,J6,J9,Bool.or_false,Bool.true_or,Bool.or_true, *]),rfl⟩)
theorem CV (c:UInt8) (w:World):Calls Tryz.prog 156 #[.int .u8 (c.toNat:Int)] w fun e w'=>e=.returned (.bool (Q0 c))∧w=w':=by
 unfold Q0;have hc:=c.toNat_lt;generalize c.toNat=n at *;go_enter Tryz.func156,Tryz.ntmps156
 go_wp2_with fail
 all_goals go_ret
 all_goals exact⟨cN (by rw[mJ];simp;omega),rfl⟩
theorem wS (c:UInt8) (w:World):Calls Tryz.prog 155 #[.int .u8 (c.toNat:Int)] w fun e w'=>e=.returned (.bool (Ay c))∧w=w':=by
 unfold Ay;have hc:=c.toNat_lt;generalize c.toNat=n at *;go_enter Tryz.func155,Tryz.ntmps155
 go_wp2_with fail
 all_goals go_ret
 all_goals exact⟨cN (by rw[mJ];simp;omega),rfl⟩
theorem Lw {p:UInt8→Bool} {l:List UInt8} {k:Nat} {c:UInt8} (h:l[k]? = some c):(l.drop k).all p=(p c && (l.drop (k+1)).all p):=by
 rw[eY h,su]
theorem byte_at {s:ByteArray} {k:Nat} (h:k<s.size):s.data.toList[k]? = some s[k]:=by
 rw[Array.getElem?_toList];exact wm h
theorem wT (s:ByteArray) (w:World):Calls Tryz.prog 102 #[.string s] w fun e w'=>e=.returned (.bool (gC s))∧w=w':=by
 by_cases h0:s.size=0
 ·obtain rfl:s=⟨#[]⟩:=by
   have:s.data=#[]:=Array.eq_empty_of_size_eq_zero h0;cases s;simp_all
  go_enter Tryz.func102,Tryz.ntmps102
  go_wp2_with fail
  go_ret
  exact⟨rfl,rfl⟩
 ·have h00:0<s.size:=by omega
  have hne:s.toList.isEmpty=false:=by
   rw[Lib.toList_data];cases e:s.data.toList with
   | nil=>exact absurd (by rw[Lib.size_eq,e];rfl) h0
   | cons a t=>rfl
  have ace:¬ s.toList=[]:=fun e=>by rw[e] at hne;cases hne
  by_cases h1:s.size≤65536
  ·have g1:decide ((65536:Int)<(s.size:Int))=false:=bU (by omega)
   have hb0:=byte_at (s:=s) (k:=0) (by omega)
   have hf:Lv s.data.toList=Ay s[0]:=by
    cases e:s.data.toList with
    | nil=>rw[e] at hb0;simp at hb0
    | cons a t=>rw[e] at hb0;obtain rfl:=gz hb0;rfl
   have EM:gC s=(!Ay s[0] && !uz s.data.toList && s.data.toList.all s9):=by
    unfold gC;rw[hf,bX (show s.size≠0 from h0),bX h1]
    rfl
   rw[EM];have HW:=aa (Hc s w);have HD:=aa (wS s[0] w);obtain⟨D,hD⟩ :∃D,D=Ay s[0]:=⟨_,rfl⟩;obtain⟨K,hK⟩ :∃K,K=uz s.data.toList:=⟨_,rfl⟩;rw[←hD] at HD ⊢;rw[←hK] at HW ⊢;obtain⟨AL,WK⟩ :∃AL,AL=s.data.toList.all s9:=⟨_,rfl⟩;rw[←WK];have HAL:=aa WK;clear hD hK hf EM hb0 WK;cases D with
   | true =>
    go_enter Tryz.func102,Tryz.ntmps102
    go_wp2_with (go_at_call 155;refine HD.out.mono ?_;rintro e w' ⟨rfl,rfl⟩)
    go_ret
    exact⟨rfl,rfl⟩
   | false =>
    cases K with
    | true =>
     go_enter Tryz.func102,Tryz.ntmps102
     go_wp2_with (first|(go_at_call 155;refine HD.out.mono ?_;rintro e w' ⟨rfl,rfl⟩)|(go_at_call 135;refine HW.out.mono ?_;rintro e w' ⟨rfl,rfl⟩))
     go_ret
     exact⟨rfl,rfl⟩
    | false =>
     go_enter Tryz.func102,Tryz.ntmps102
     go_wp2_with (first|(go_at_call 155;refine HD.out.mono ?_;rintro e w' ⟨rfl,rfl⟩)|(go_at_call 135;refine HW.out.mono ?_;rintro e w' ⟨rfl,rfl⟩))
     clear HD HW;go_loop [22] (fun i=>∃k:Nat,k≤s.size∧i=.int .i64 (k:Int)∧(s.data.toList.drop k).all s9=AL) (fun i=>s.size-(intOf i).toNat)
     case atStart=>exact⟨0,bB _,rfl,HAL.out.symm⟩
     case round =>
      obtain⟨k,hk,rfl,ha⟩:=hrel;have HA:=aa ha;clear ha;by_cases hlt:k<s.size
      ·have hst:=Lw (p:=s9) (byte_at hlt)
       have HST:=aa hst;have HL:=aa (CV s[k] w);have HG:=aa (wS s[k] w);clear hst;cases e1:Q0 s[k] with
       | true =>
        have hn:s9 s[k]=true:=by unfold s9;rw[e1];rfl
        rw[e1] at HL;rw[hn,kN] at HST;clear e1 hn;go_wp2_with (go_at_call 156;refine HL.out.mono ?_;rintro e w' ⟨rfl,rfl⟩)
        go_round
        case rel=>exact⟨k+1,by omega,by go_num,by rw[←HST.out];exact HA.out⟩
        case measure=>simp[intOf];omega
       | false =>
        rw[e1] at HL;cases e2:Ay s[k] with
        | true =>
         have hn:s9 s[k]=true:=by unfold s9;rw[e1,e2];rfl
         rw[e2] at HG;rw[hn,kN] at HST;clear e1 e2 hn;go_wp2_with (first|(go_at_call 156;refine HL.out.mono ?_;rintro e w' ⟨rfl,rfl⟩)|(go_at_call 155;refine HG.out.mono ?_;rintro e w' ⟨rfl,rfl⟩))
         go_round
         case rel=>exact⟨k+1,by omega,by go_num,by rw[←HST.out];exact HA.out⟩
         case measure=>simp[intOf];omega
        | false =>
         have hn:s9 s[k]=false:=by unfold s9;rw[e1,e2];rfl
         rw[e2] at HG;rw[hn,zJ] at HST;clear e1 e2 hn;go_wp2_with (first|(go_at_call 156;refine HL.out.mono ?_;rintro e w' ⟨rfl,rfl⟩)|(go_at_call 155;refine HG.out.mono ?_;rintro e w' ⟨rfl,rfl⟩))
         go_ret
         exact⟨cN (by rw[←HA.out,HST.out];rfl),rfl⟩
      ·have hd:(s.data.toList.drop k).all s9=true:=by
        rw[pN (by rw[←Lib.size_eq];omega)];rfl
       have HD:=aa hd;clear hd;go_wp2_with fail
       go_ret
       exact⟨cN (by rw[←HA.out,HD.out]),rfl⟩
  ·have g1:decide ((65536:Int)<(s.size:Int))=true:=bX (by omega)
   have EM:gC s=false:=by
    unfold gC;rw[bU h1];simp
   rw[EM];clear EM;go_enter Tryz.func102,Tryz.ntmps102
   go_wp2_with fail
   go_ret
   exact⟨rfl,rfl⟩
def kA (k:Int):Int :=
 if k=12∨k=13 then 1 else if k=4∨k=20 then 2 else if k=11∨k=27 then 10 else if k=19∨k=26∨k=28 then 8 else if k=7∨k=10∨k=31∨k=32 then 20 else if k=5 then 4 else 0
theorem acf:bits .or .i64 2 8=10:=by kernel_rfl
theorem acg:bits .or .i64 0 8=8:=by kernel_rfl
theorem ach:bits .or .i64 16 4=20:=by kernel_rfl
theorem aci:bits .or .i64 0 4=4:=by kernel_rfl
theorem yo (k:Int) (w:World):Calls Tryz.prog 100 #[.int .i64 k] w fun e w'=>e=.returned (.int .i64 (kA k))∧w=w':=by
 go_enter Tryz.func100,Tryz.ntmps100
 go_wp2_with fail
 all_goals
  go_ret
  refine⟨At ?_,rfl⟩;simp only[kA];simp_all [acf,acg,ach,aci]
  try omega
def WL (k op:Int):Bool:=if k=12 then decide (1≤op) && decide (op≤19) else if k=13 then decide (20≤op) && decide (op≤23) else true
def pe (k n:Int):Bool:=if k=11 then n == 0 || n == 1 else if k=20∨k=27 then decide (1≤n) else true
def pg (k:Int) (n:Nat):Bool:=if k=19∨k=27 then decide (1≤n) else if k=26∨k=28 then decide (n=1) else true
def WM (a b c d:Bool):Int :=
 let x:=if a then bits .or .i64 0 1 else 0
 let y:=if b then bits .or .i64 x 2 else x
 let z:=if c then bits .or .i64 y 4 else y
 if d then bits .or .i64 z 8 else z
def Q6 (x:Nd):Int:=WM (x.op != 0) (x.num != 0) (!x.s.toList.isEmpty) (decide (0<x.names.length))
theorem Q7 (x:Nd) (A B:Option Addr) (a c b d:Nat) (w:World):Calls Tryz.prog 103 #[cZ x (.slice A a c) (.slice B b d)] w fun e w'=>e=.returned (.bool (WL x.kind x.op))∧Below w.heap.size w w':=by
 obtain⟨kind,line,op,num,s,names,kids⟩:=x;unfold cZ;simp only;go_enter Tryz.func103,Tryz.ntmps103
 go_wp2_with fail
 all_goals
  go_ret
  refine⟨cN ?_,bC w _⟩;simp only[WL];simp_all
  try omega
theorem CW (x:Nd) (A B:Option Addr) (a c b d:Nat) (w:World):Calls Tryz.prog 104 #[cZ x (.slice A a c) (.slice B b d)] w fun e w'=>e=.returned (.bool (pe x.kind x.num))∧Below w.heap.size w w':=by
 obtain⟨kind,line,op,num,s,names,kids⟩:=x;unfold cZ;simp only;go_enter Tryz.func104,Tryz.ntmps104
 go_wp2_with fail
 all_goals
  go_ret
  refine⟨cN ?_,bC w _⟩;simp only[pe];simp_all
  try omega
theorem CX (x:Nd) (A B:Option Addr) (c b d:Nat) (w:World):Calls Tryz.prog 105 #[cZ x (.slice A x.names.length c) (.slice B b d)] w fun e w'=>e=.returned (.bool (pg x.kind x.names.length))∧Below w.heap.size w w':=by
 obtain⟨kind,line,op,num,s,names,kids⟩:=x;unfold cZ;simp only;generalize names.length=a;go_enter Tryz.func105,Tryz.ntmps105
 go_wp2_with fail
 all_goals
  go_ret
  refine⟨cN ?_,bC w _⟩;simp only[pg];first
   | (simp_all;done)
   | (simp_all;omega)
   | (simp_all;rw[mJ];simp;omega)
theorem Hd (x:Nd) (A B:Option Addr) (c b d:Nat) (w:World):Calls Tryz.prog 101 #[cZ x (.slice A x.names.length c) (.slice B b d)] w fun e w'=>e=.returned (.int .i64 (Q6 x))∧Below w.heap.size w w':=by
 obtain⟨kind,line,op,num,s,names,kids⟩:=x;unfold cZ;unfold Q6;simp only;generalize names.length=a;cases e1:(op != 0)<;>cases e2:(num != 0)<;>cases e3:s.toList.isEmpty<;>by_cases e4:0<a;all_goals
  first
   | rw[bX e4]
   | rw[bU e4]
  simp only[WM,Bool.not_true,Bool.not_false,sy,J5,if_false];go_enter Tryz.func101,Tryz.ntmps101
  go_wp2_with fail
  go_ret
  exact⟨rfl,bC w _⟩
def dc (x:Nd):Bool :=
 !(bits .andNot .i64 (Q6 x) (kA x.kind) != 0) && (!(bits .and .i64 (kA x.kind) 16 != 0) || gC x.s) && x.names.all gC && (WL x.kind x.op && pe x.kind x.num && pg x.kind x.names.length)
theorem wU {α:Type} {p:α→Bool} {l:List α} {k:Nat} {c:α} (h:l[k]? = some c):(l.drop k).all p=(p c && (l.drop (k+1)).all p):=by
 rw[eY h,su]
theorem wV {w w':World} {B:Nat} {x:Nd} {nv kv:Value} (hB:w.heap.size<B) (hb:Below B (w.alloc (.cells #[.int .i64 x.kind,.int .i64 x.line,.int .i64 x.op,.int .i64 x.num,.string x.s,nv,kv] 55)) w'):lJ w' w.heap.size 0 x nv kv:=by
 have h :∀j:Nat,w'.cell? ⟨w.heap.size,j,none⟩=(#[.int .i64 x.kind,.int .i64 x.line,.int .i64 x.op,.int .i64 x.num,.string x.s,nv,kv]:Array Value)[j]?:=fun j=>(hb.cell (p:=⟨w.heap.size,j,none⟩) hB).trans (dJ w _ _ _)
 exact⟨h 0,h 1,h 2,h 3,h 4,h 5,h 6⟩
theorem CY (x:Nd) (nv kv:Value) (w:World) (hnv:oL w nv x.names) (Zj :∃A n c,kv=.slice A n c) (hl:x.names.length≤140737488355328) :
  Calls Tryz.prog 51 #[cZ x nv kv] w fun e w'=>e=.returned (.bool (dc x))∧Below w.heap.size w w':=by
 have HS:=aa hnv;obtain⟨NA,nc,rfl,_,dM⟩:=hnv;obtain⟨KA,kn,kc,rfl⟩:=Zj;have HNA:=aa dM;clear dM;obtain⟨F,hF⟩ :∃F,F=kA x.kind:=⟨_,rfl⟩;obtain⟨G,hG⟩ :∃G,G=Q6 x:=⟨_,rfl⟩;obtain⟨O,hO⟩ :∃O,O=WL x.kind x.op:=⟨_,rfl⟩;obtain⟨C,hC⟩ :∃C,C=pe x.kind x.num:=⟨_,rfl⟩;obtain⟨M,hM⟩ :∃M,M=pg x.kind x.names.length:=⟨_,rfl⟩;obtain⟨S,hS⟩ :∃S,S=gC x.s:=⟨_,rfl⟩;obtain⟨AL,WK⟩ :∃AL,AL=x.names.all gC:=⟨_,rfl⟩;have HFo:=aa (fun W=>hF▸yo x.kind W)
 have HGi:=aa (fun W=>hG▸Hd x NA KA nc kn kc W)
 have Ux:=aa (fun W=>hO▸Q7 x NA KA x.names.length nc kn kc W)
 have HCo:=aa (fun W=>hC▸CW x NA KA x.names.length nc kn kc W)
 have HNm:=aa (fun W=>hM▸CX x NA KA nc kn kc W)
 have HSn:=aa (fun W=>hS▸wT x.s W)
 have hfk:dc x=(!(bits .andNot .i64 G F != 0) && (!(bits .and .i64 F 16 != 0) || S) && AL && (O && C && M)):=by
  unfold dc;rw[hF,hG,hO,hC,hM,hS,WK]
 rw[hfk];have HAL:=aa WK;clear hF hG hO hC hM hS WK hfk;unfold cZ at HGi Ux HCo HNm ⊢;have qg:=aa (fun W (h:Below (w.heap.size+1) (w.alloc (.cells #[.int .i64 x.kind,.int .i64 x.line,.int .i64 x.op,.int .i64 x.num,.string x.s,.slice NA x.names.length nc,.slice KA kn kc] 55)) W)=>wV (dC _) h)
 have B0:=aa (bC w (.cells #[.int .i64 x.kind,.int .i64 x.line,.int .i64 x.op,.int .i64 x.num,.string x.s,.slice NA x.names.length nc,.slice KA kn kc] 55));cases e1:(bits .andNot .i64 G F != 0) with
 | true =>
  go_enter Tryz.func51,Tryz.ntmps51
  go_wp2_with (go_at_call 100;refine(HFo.out _).mono ?_;rintro e w' ⟨rfl,rfl⟩)
  refine(HGi.out _).mono ?_;rintro e w1 ⟨rfl,b1⟩;rw[an] at b1;have B1:=aa (B0.out.trans (b1.mono (gd _)));obtain⟨c0,c1,c2,c3,c4,c5,c6⟩:=qg.out _ b1;clear b1;go_wp2_with fail
  go_ret
  exact⟨rfl,B1.out⟩
 | false =>
  have key:((bits .and .i64 F 16 != 0)=true∧S=false)∨((bits .and .i64 F 16 != 0)=true∧S=true)∨(bits .and .i64 F 16 != 0)=false:=by
   cases (bits .and .i64 F 16 != 0)<;>cases S<;>simp
  rcases key with ⟨e2,rfl⟩|hh
  ·rw[e2]
   go_enter Tryz.func51,Tryz.ntmps51
   go_wp2_with (go_at_call 100;refine(HFo.out _).mono ?_;rintro e w' ⟨rfl,rfl⟩)
   refine(HGi.out _).mono ?_;rintro e w1 ⟨rfl,b1⟩;rw[an] at b1;have B1:=aa (B0.out.trans (b1.mono (gd _)));obtain⟨c0,c1,c2,c3,c4,c5,c6⟩:=qg.out _ b1;clear b1;go_wp2_with (go_at_call 102;refine(HSn.out _).mono ?_;rintro e w' ⟨rfl,rfl⟩)
   go_ret
   exact⟨rfl,B1.out⟩
  ·have hval:(!(bits .and .i64 F 16 != 0) || S)=true:=by
    rcases hh with ⟨h1,rfl⟩|h1<;>rw[h1]<;>simp
   rw[hval];clear hval;simp only[Bool.not_false,kN];rcases hh with ⟨e2,rfl⟩|e2;all_goals
    go_enter Tryz.func51,Tryz.ntmps51
    go_wp2_with (go_at_call 100;refine(HFo.out _).mono ?_;rintro e w' ⟨rfl,rfl⟩)
    refine(HGi.out _).mono ?_;rintro e w1 ⟨rfl,b1⟩;rw[an] at b1;have BW:=aa b1;have B1:=aa (B0.out.trans (b1.mono (gd _)));have CZ:=b1.size;rw[an] at CZ;obtain⟨c0,c1,c2,c3,c4,c5,c6⟩:=qg.out _ b1;clear b1;go_wp2_with (go_at_call 102;refine(HSn.out _).mono ?_;rintro e w' ⟨rfl,rfl⟩)
    clear c0 c1 c2 c3 c4 c5 c6;go_loop [28] (fun i=>∃k:Nat,k≤x.names.length∧i=.int .i64 (k:Int)∧(x.names.drop k).all gC=AL) (fun i=>x.names.length-(intOf i).toNat)
    case atStart=>exact⟨0,bB _,rfl,HAL.out.symm⟩
    case round =>
     obtain⟨k,hk,rfl,ha⟩:=hrel;have HA:=aa ha;clear ha;by_cases hlt:k<x.names.length
     ·obtain⟨y,hy⟩ :∃y,x.names[k]? = some y:=⟨x.names[k],bE hlt⟩
      rcases HNA.out with h0 | ⟨b2,o2,rfl,hb2,hc2⟩
      ·rw[h0] at hlt;exact absurd hlt (gV _)
      have ck:=(B1.out.cell (p:=⟨b2,o2+k,none⟩) hb2).trans (hc2 k _ hy);have HST:=aa (wU (p:=gC) hy);have HN:=aa (wT y w1);cases hb:gC y with
      | true =>
       rw[hb] at HN HST;rw[kN] at HST;clear hc2 hy hb;go_wp2_with (go_at_call 102;refine HN.out.mono ?_;rintro e w' ⟨rfl,rfl⟩)
       go_round
       case rel=>exact⟨k+1,by omega,by go_num,by rw[←HST.out];exact HA.out⟩
       case measure=>simp[intOf];omega
      | false =>
       rw[hb] at HN HST;rw[zJ] at HST;clear hc2 hy hb;go_wp2_with (go_at_call 102;refine HN.out.mono ?_;rintro e w' ⟨rfl,rfl⟩)
       go_ret
       exact⟨cN (by rw[←HA.out,HST.out];rfl),B1.out⟩
     ·have hd:(x.names.drop k).all gC=true:=by
       rw[pN (by omega)];rfl
      have hal:AL=true:=by rw[←HA.out,hd]
      subst hal;clear hd;obtain⟨c0,c1,c2,c3,c4,c5,c6⟩:=qg.out _ BW.out;go_wp2_with fail
      refine(Ux.out _).mono ?_;rintro e w2 ⟨rfl,b2⟩;have lz:=aa (jh BW.out (by rw[an];exact ah _) b2)
      have B2:=aa (jh B1.out (ah _) b2);clear c0 c1 c2 c3 c4 c5 c6 b2;cases O with
      | false =>
       go_wp2_with fail
       go_ret
       exact⟨rfl,B2.out⟩
      | true =>
       obtain⟨c0,c1,c2,c3,c4,c5,c6⟩:=qg.out _ lz.out;go_wp2_with fail
       refine(HCo.out _).mono ?_;rintro e w3 ⟨rfl,b3⟩;have Q8:=aa (jh lz.out (by rw[an];exact ah _) b3)
       have B3:=aa (jh B2.out (ah _) b3);clear c0 c1 c2 c3 c4 c5 c6 b3;cases C with
       | false =>
        go_wp2_with fail
        go_ret
        exact⟨rfl,B3.out⟩
       | true =>
        obtain⟨c0,c1,c2,c3,c4,c5,c6⟩:=qg.out _ Q8.out;go_wp2_with fail
        refine(HNm.out _).mono ?_;rintro e w4 ⟨rfl,b4⟩;have B4:=aa (jh B3.out (ah _) b4);clear c0 c1 c2 c3 c4 c5 c6 b4;go_wp2_with fail
        go_ret
        exact⟨by simp,B4.out⟩
def flB (F:Int) (a b c d nb na o:Bool):Bool:=!(bits .andNot .i64 (WM a b c d) F != 0) && (!(bits .and .i64 F 16 != 0) || nb) && na && o
end Go.Proofs.YteflkdlaoiijbaaGreatDoor
namespace Go.Proofs.YteflkdlaoiijbaaGreatDoor
open Go.RowKit
variable {M:Int}
theorem Az {α:Type} {c:Prop} [Decidable c] {a o:α} {y:Option α} (h:(if c then some a else y)=some o):a=o∨y=some o:=by
 by_cases hc:c
 ·rw[al hc] at h
  exact .inl (gz h)
 ·rw[af hc] at h
  exact .inr h
theorem yq {t:aj} {o:Int} (h:lD t=some o):20≤o∧o≤23:=by
 unfold lD at h;repeat
  obtain e|h:=Az h
  ·rw[←e];exact⟨by decide,by decide⟩
 cases h
end Go.Proofs.YteflkdlaoiijbaaGreatDoor
namespace Go.Proofs.YteflkdlaoiijbaaGreatDoor
def C0:aj:=(0,1,0,[])
theorem nX (k l:Int) (ks:List Ast):(nd k l ks).size=Ast.ak ks+1:=by unfold nd;rw[Ast.size]
theorem kW (k l:Int) (s:ByteArray) (ks:List Ast):(mh k l s ks).size=Ast.ak ks+1:=by unfold mh;rw[Ast.size]
theorem AA (k l o:Int) (ks:List Ast):(Zb k l o ks).size=Ast.ak ks+1:=by unfold Zb;rw[Ast.size]
theorem Lx (k l n:Int) (ks:List Ast):(JA k l n ks).size=Ast.ak ks+1:=by unfold JA;rw[Ast.size]
theorem Ly (k l n:Int) (ns:List ByteArray) (ks:List Ast):(zP k l n ns ks).size=Ast.ak ks+1:=by unfold zP;rw[Ast.size]
theorem cD:Ast.ak []=0:=by rw[Ast.ak]
theorem ie (a:Ast) (l:List Ast):Ast.ak (a::l)=a.size+Ast.ak l:=by rw[Ast.ak]
theorem fj :∀a b:List Ast,Ast.ak (a++b)=Ast.ak a+Ast.ak b:=by
 intro a;induction a with
 | nil=>intro b;rw[sj,cD,jY]
 | cons x a ih=>intro b;rw[iJ,ie,ie,ih,sw]
def ZlR (l:List Ast) (L:Nat) (v:List Ast) (L':Nat):Prop:=Ast.ak v+2*L'≤Ast.ak l+2*L
def ZaR (L:Nat) (v:List Ast) (L':Nat):Prop:=Ast.ak v+2*L'+1≤2*L
def yr:(n:NT)→Nat→VT n→Nat→Prop
 | .blk,L,v,L'=>Ast.size v+2*L'≤2*L+1
 | .vM l,L,v,L'=>ZlR l L v L'
 | .ret _,L,v,L'=>Ast.size v+2*L'≤2*L+1
 | .Ci,L,v,L'=>Ast.size v+2*L'≤2*L
 | .els l,L,v,L'=>ZlR l L v L'
 | .ZS _,L,v,L'=>Ast.size v+2*L'≤2*L+2
 | .ZT _,L,v,L'=>Ast.size v+2*L'≤2*L
 | .Zc _ x,L,v,L'=>Ast.size v+2*L'≤x.size+2*L+1
 | .loc _,L,v,L'=>Ast.size v+2*L'≤2*L+2
 | .JB _ _,L,v,L'=>Ast.size v+2*L'≤2*L
 | .VH _,L,_,L'=>L'≤L
 | .Ui,L,_,L'=>L'≤L
 | .Zd _,L,_,L'=>L'≤L
 | .Cw,L,v,L'=>ZaR L v L'
 | .Ze l,L,v,L'=>ZlR l L v L'
 | .Zf _ l,L,v,L'=>Ast.size v+2*L'≤Ast.ak l+2*L
 | .Gk,L,v,L'=>Ast.size v+2*L'+1≤2*L
 | .aR x,L,v,L'=>Ast.size v+2*L'≤x.size+2*L
 | .arg,L,v,L'=>ZaR L v L'
 | .Uj l,L,v,L'=>ZlR l L v L'
 | .VI,L,v,L'=>Ast.size v+2*L'≤2*L
 | .exp _,L,v,L'=>Ast.size v+2*L'+1≤2*L
 | .lvm _ x,L,v,L'=>Ast.size v+2*L'≤x.size+2*L
 | .una,L,v,L'=>Ast.size v+2*L'+1≤2*L
 | .Uk,L,v,L'=>Ast.size v+2*L'+1≤2*L
def Lz (n:NT) (ts:List aj) (v:VT n) (ax:List aj):Prop:=yr n ts.length v ax.length
abbrev Zp {α:Type} (g:GL α) (ts:List aj) (Q:α→List aj→Prop):Prop:=Wp Lz g ts Q
theorem yt {P:(n:NT)→List aj→VT n→List aj→Prop} {α:Type} {f:aj→GL α} {ts:List aj} {Q:α→List aj→Prop} (h :∀t ax,ts.length=ax.length+1→Wp P (f t) (t::ax) Q):Wp P (.look f) ts Q:=fun t ax e=>by
 subst e;exact h t ax rfl
theorem EN {P:(n:NT)→List aj→VT n→List aj→Prop} {α:Type} {f:aj→GL α} {t:aj} {ts:List aj} {Q:α→List aj→Prop} (h:Wp P (f t) ts Q):Wp P (.tok f) (t::ts) Q:=fun u us e=>by
 injection e with e1 e2;subst e1 e2;exact h
theorem yw {P:(n:NT)→List aj→VT n→List aj→Prop} {α:Type} {n:NT} {k:VT n→GL α} {ts:List aj} {Q:α→List aj→Prop} (h :∀v ax,P n ts v ax→Wp P (k v) ax Q):Wp P (.call n k) ts Q:=h
theorem EO {P:(n:NT)→List aj→VT n→List aj→Prop} {α:Type} {c:Prop} [Decidable c] {g g':GL α} {ts:List aj} {Q:α→List aj→Prop} (h1:Wp P g ts Q) (h2:Wp P g' ts Q):Wp P (if c then g else g') ts Q:=by
 by_cases h:c
 ·rw[al h];exact h1
 ·rw[af h];exact h2
theorem WN {P:(n:NT)→List aj→VT n→List aj→Prop} {α:Type} {s:List UInt8} {k:aj→GL α} {ts:List aj} {Q:α→List aj→Prop} (h :∀t ax,ts.length=ax.length+1→Wp P (k t) ax Q):Wp P (want s k) ts Q:=yt fun t ax e=>EO (EN (h t ax e)) trivial
theorem WO {P:(n:NT)→List aj→VT n→List aj→Prop} {α:Type} {k:aj→GL α} {ts:List aj} {Q:α→List aj→Prop} (h :∀t ax,ts.length=ax.length+1→Wp P (k t) ax Q):Wp P (name k) ts Q:=yt fun t ax e=>EO (EN (h t ax e)) trivial
theorem WQ {P:(n:NT)→List aj→VT n→List aj→Prop} {α:Type} {s:List UInt8} {a b:GL α} {ts:List aj} {Q:α→List aj→Prop} (h :∀t ax,ts.length=ax.length+1→Wp P a ax Q∧Wp P b (t::ax) Q):Wp P (take s a b) ts Q:=yt fun t ax e=>EO (EN (h t ax e).1) (h t ax e).2
theorem aao {P:(n:NT)→List aj→VT n→List aj→Prop} {α:Type} {ts:List aj} {Q:α→List aj→Prop}:Wp P (.bad:GL α) ts Q:=trivial
theorem aap {P:(n:NT)→List aj→VT n→List aj→Prop} {α:Type} {a:α} {ts:List aj} {Q:α→List aj→Prop} (h:Q a ts):Wp P (.ret a:GL α) ts Q:=h
theorem aaq (n:NT) (ts:List aj):Zp (dt n) ts (Lz n ts):=by
 cases n<;>unfold dt;all_goals
  repeat' (first
   | with_reducible refine WN fun _ _ _=>?_
   | with_reducible refine WO fun _ _ _=>?_
   | with_reducible refine WQ fun _ _ _=>⟨?_,?_⟩
   | with_reducible refine yt fun _ _ _=>?_
   | with_reducible refine EN ?_
   | with_reducible refine EO ?_ ?_
   | (refine yw ?_;intro(v:Ast) ts h)
   | (refine yw ?_;intro(v:List Ast) ts h)
   | (refine yw ?_;intro(v:List ByteArray) ts h)
   | (refine yw ?_;intro(v:List ByteArray×Int) ts h)
   | refine aap ?_
   | exact aao
   | split)
 all_goals
  simp only[Lz,yr,ZlR,ZaR,nX,kW,AA,Lx,Ly,cD,ie,fj,List.length_cons] at *;omega
theorem Fin.cons {ts:List aj} (h:Fin ts) :∃t r,ts=t::r:=by
 cases ts with
 | nil=>exact absurd rfl h.ne
 | cons t r=>exact⟨t,r,rfl⟩
def Uy (n:NT) (ts:List aj) (_:VT n) (ax:List aj):Prop:=Fin ts→Fin ax
def Ff {α:Type} (g:GL α) (ts:List aj):Prop:=Fin ts→Wp Uy g ts (fun _ ax=>Fin ax)
theorem rn {α:Type} {a:α} {ts:List aj}:Ff (.ret a) ts:=fun h=>h
theorem C5 {α:Type} {ts:List aj}:Ff (.bad:GL α) ts:=fun _=>trivial
theorem nY {α:Type} {f:aj→GL α} {ts:List aj} (h :∀t ax,Ff (f t) (t::ax)):Ff (.look f) ts:=fun hf t ax e=>by
 subst e;exact h t ax hf
theorem rp {α:Type} {f:aj→GL α} {t:aj} {ts:List aj} (ht:t.1≠0) (h:Ff (f t) ts):Ff (.tok f) (t::ts):=fun hf u us e=>by
 injection e with e1 e2;subst e1 e2;exact h (hf.tail ht)
theorem qh {α:Type} {n:NT} {k:VT n→GL α} {ts:List aj} (h :∀v ax,Ff (k v) ax):Ff (.call n k) ts:=fun hf v ax hp=>h v ax (hp hf)
theorem uA {α:Type} {c:Prop} [Decidable c] {g g':GL α} {ts:List aj} (h1:c→Ff g ts) (h2:¬ c→Ff g' ts):Ff (if c then g else g') ts:=by
 by_cases h:c
 ·rw[al h];exact h1 h
 ·rw[af h];exact h2 h
theorem aW {s:List UInt8} {t:aj} (h:aw s t=true):t.1≠0:=fun e=>by simp[aw,e] at h
theorem Q9 {α:Type} {s:List UInt8} {k:aj→GL α} {ts:List aj} (h :∀t ax,Ff (k t) ax):Ff (want s k) ts:=nY fun t ax=>uA (fun hc=>rp (aW hc) (h t ax)) fun _=>C5
theorem Ra {α:Type} {k:aj→GL α} {ts:List aj} (h :∀t ax,Ff (k t) ax):Ff (name k) ts:=nY fun t ax=>uA (fun hc=>rp (by rw[hc];decide) (h t ax)) fun _=>C5
theorem Rb {α:Type} {s:List UInt8} {a b:GL α} {ts:List aj} (h1 :∀ax,Ff a ax) (h2 :∀ax,Ff b ax):Ff (take s a b) ts:=nY fun _ ax=>uA (fun hc=>rp (aW hc) (h1 ax)) fun _=>h2 _
theorem EP {t:aj} {o:Int×Nat×Nat} (h:mq t=some o):t.1≠0:=fun e=>by simp[mq,aw,e] at h
theorem ER {t:aj} {o:Int} (h:lD t=some o):t.1≠0:=fun e=>by simp[lD,aw,e] at h
theorem WR (n:NT) (ts:List aj):Ff (dt n) ts:=by
 cases n<;>unfold dt;case lvm s x =>
  refine nY fun t ax=>?_
  cases h:mq t with
  | none=>exact rn
  | some o=>exact uA (fun _=>rp (EP h) (qh fun _ _=>qh fun _ _=>rn)) fun _=>rn
 case una =>
  refine nY fun t ax=>?_
  cases h:lD t with
  | none=>exact qh fun _ _=>rn
  | some o=>exact rp (ER h) (qh fun _ _=>rn)
 all_goals
  repeat' first
   | exact rn
   | exact C5
   | (refine Q9 fun _ _=>?_)
   | (refine Ra fun _ _=>?_)
   | (refine Rb (fun _=>?_) (fun _=>?_))
   | (refine nY fun _ _=>?_)
   | (refine qh fun _ _=>?_)
   | (refine uA (fun hc=>?_) (fun _=>?_))
   | (refine rp (by first|exact aW hc|(intro e;simp[aw,e] at hc)) ?_)
theorem Wp.always {N:Type} {V:N→Type} {Post :∀n,List aj→V n→List aj→Prop} {α:Type} (g:G N V α) :∀(ts:List aj) (Q:α→List aj→Prop),(∀a ax,Q a ax)→Wp Post g ts Q:=by
 induction g with
 | ret a=>intro ts Q h;exact h a ts
 | bad=>intro ts Q h;trivial
 | tok f ih=>intro ts Q h t ax e;exact ih t ax Q h
 | look f ih=>intro ts Q h t ax e;exact ih t ts Q h
 | call n k ih=>intro ts Q h v ax hp;exact ih v ax Q h
theorem Wp.weak {N:Type} {V:N→Type} {Post :∀n,List aj→V n→List aj→Prop} {α:Type} (g:G N V α) :∀(ts:List aj) (Q Q':α→List aj→Prop),(∀a ax,Q a ax→Q' a ax)→Wp Post g ts Q→Wp Post g ts Q':=by
 induction g with
 | ret a=>intro ts Q Q' h hw;exact h a ts hw
 | bad=>intro ts Q Q' h hw;trivial
 | tok f ih=>intro ts Q Q' h hw t ax e;exact ih t ax Q Q' h (hw t ax e)
 | look f ih=>intro ts Q Q' h hw t ax e;exact ih t ts Q Q' h (hw t ax e)
 | call n k ih=>intro ts Q Q' h hw v ax hp;exact ih v ax Q Q' h (hw v ax hp)
theorem PL.fin {n:NT} {ts ax:List aj} {v:VT n} (h:PL (dt n) ts (.ok (v,ax))) (hf:Fin ts):Fin ax :=
 P.holds (Post:=Uy) (fun n ts=>by
  by_cases hf:Fin ts
  ·exact Wp.weak _ _ _ _ (fun _ _ h _=>h) (WR n ts hf)
  ·exact Wp.always _ _ _ fun _ _ h=>(hf h).elim) h hf
end Go.Proofs.YteflkdlaoiijbaaGreatDoor
namespace Go.Proofs.YteflkdlaoiijbaaGreatDoor
def WS (x:Nd):Prop:=-9223372036854775808≤x.num∧x.num≤9223372036854775807∧x.s.size≤8000∧x.names.length≤5000∧-9223372036854775808≤x.op∧x.op≤9223372036854775807
mutual
def WT:Ast→Prop
 | .mk h ks=>WS h∧WU ks
def WU:List Ast→Prop
 | []=>True
 | a::xs=>WT a∧WU xs
end
section
variable {α:Type} {Q:α→List aj→Prop}
end
end Go.Proofs.YteflkdlaoiijbaaGreatDoor
namespace Go.Proofs.YteflkdlaoiijbaaGreatDoor
open Go.RowKit
def fW (t:aj):Value:=.agg #[.int .i64 t.1,.int .i64 t.2.1,.int .i64 t.2.2.1,.string (bK t.2.2.2)]
theorem PS.look {W:World} {b:Nat} {O:Nat→Prop} {t:aj} {ts:List aj} {T:List Nd} (h:PS W b O (t::ts) T) :
  ∃(i g n c:Nat),W.cell? ⟨b,0,none⟩=some (.slice (some ⟨g,0,none⟩) n c)∧W.cell? ⟨b,1,none⟩=some (.int .i64 (i:Int))∧i<n∧n≤20000∧n≤c ∧
   W.cell? ⟨g,i*4,none⟩=some (.int .i64 t.1)∧W.cell? ⟨g,i*4+1,none⟩=some (.int .i64 t.2.1)∧W.cell? ⟨g,i*4+2,none⟩=some (.int .i64 t.2.2.1)∧W.cell? ⟨g,i*4+3,none⟩=some (.string (bK t.2.2.2)):=by
 obtain⟨TS,i,g,c,nv,L,a1,a2,a3,a4,a5,a6,a7⟩:=h.ex;obtain⟨g',cap,e,h1,h2,h3⟩:=a2.ex;have hg:g=g'∧c=cap:=by injection e with e1 _ e3;injection e1 with e1;injection e1 with e1;exact⟨e1,e3⟩
 obtain⟨rfl,rfl⟩:=hg;have hi:TS[i]? = some t:=by
  have:=aB (·[0]?) a4
  simpa[zF] using this
 have hlt:=(aJ.1 hi).1;obtain⟨b0,b1,b2,b3⟩:=h3 i t hi;exact⟨i,g,TS.length,c,by simp[World.cell?,a1],by simp[World.cell?,a1],hlt,a5,h1,b0,b1,b2,b3⟩
theorem cG (b:Nat) (O:Nat→Prop) (t:aj) (ts:List aj) (T:List Nd) (w:World) (h:PS w b O (t::ts) T) :
  Calls Tryz.prog 34 #[.pointer (some ⟨b,0,none⟩)] w fun e w'=>e=.returned (fW t)∧Below w.heap.size w w':=by
 obtain⟨i,g,n,c,c0,c1,hi,hn,hc,d0,d1,d2,d3⟩:=h.look;obtain⟨t0,t1,t2,t3⟩:=t;have hb:b<w.heap.size:=World.block_lt_of_cell? w _ c1;have hg:g<w.heap.size:=World.block_lt_of_cell? w _ d0;clear h;go_enter Tryz.func34,Tryz.ntmps34
 go_wp2_with fail
 go_region
 all_goals go_wp2
 all_goals exact bodyPost_ret (v:=fW (t0,t1,t2,t3)) (by simp[results,Tryz.results34,go_sem,fW]) rfl ⟨rfl,((Below.refl _ _).alloc (ah _) _).drew⟩
def ag (t:aj):ByteArray:=if t.1=2∨t.1=5 then bK t.2.2.2 else ⟨#[]⟩
theorem bS (b:Nat) (O:Nat→Prop) (t:aj) (ts:List aj) (T:List Nd) (w:World) (h:PS w b O (t::ts) T) :
  Calls Tryz.prog 38 #[.pointer (some ⟨b,0,none⟩)] w fun e w'=>e=.returned (.string (ag t))∧Below w.heap.size w w':=by
 obtain⟨t0,t1,t2,t3⟩:=t;have HA:=aa (cG b O (t0,t1,t2,t3) ts T w h);unfold fW at HA;obtain⟨S,hS⟩ :∃S,S=bK t3:=⟨_,rfl⟩;dsimp only at HA
 rw[←hS] at HA;by_cases h2:t0=2
 ·subst h2
  have hw:ag (2,t1,t2,t3)=S:=by subst hS;rfl
  have HW:=aa hw;clear hw h hS;go_enter Tryz.func38,Tryz.ntmps38
  go_wp2_with fail
  refine HA.out.mono ?_;rintro e w1 ⟨rfl,b1⟩;have B1:=aa b1;clear b1;go_wp2_with fail
  go_ret
  exact⟨(by rw[HW.out];rfl),aA B1.out ((Below.refl _ _).alloc (ah _) _)⟩
 ·have g2:(t0 == 2)=false:=aC.2 h2
  have g2':(t0 != 2)=true:=mL.2 h2;by_cases h5:t0=5
  ·subst h5
   have hw:ag (5,t1,t2,t3)=S:=by subst hS;rfl
   have HW:=aa hw;clear hw h hS;go_enter Tryz.func38,Tryz.ntmps38
   go_wp2_with fail
   refine HA.out.mono ?_;rintro e w1 ⟨rfl,b1⟩;have B1:=aa b1;clear b1;go_wp2_with fail
   go_ret
   exact⟨(by rw[HW.out];rfl),aA B1.out ((Below.refl _ _).alloc (ah _) _)⟩
  ·have g5:(t0 == 5)=false:=aC.2 h5
   have g5':(t0 != 5)=true:=mL.2 h5;have hw:ag (t0,t1,t2,t3)=⟨#[]⟩:=af (by rintro(h|h)<;>contradiction)
   have HW:=aa hw;clear hw h h2 h5 hS;go_enter Tryz.func38,Tryz.ntmps38
   go_wp2_with fail
   refine HA.out.mono ?_;rintro e w1 ⟨rfl,b1⟩;have B1:=aa b1;clear b1;go_wp2_with fail
   go_ret
   exact⟨(by rw[HW.out];rfl),aA B1.out ((Below.refl _ _).alloc (ah _) _)⟩
theorem PS.step {W:World} {b:Nat} {O:Nat→Prop} {t:aj} {ts:List aj} {T:List Nd} (h:PS W b O (t::ts) T) (ht:t.1≠0) {i:Nat} (hi:W.cell? ⟨b,1,none⟩=some (.int .i64 (i:Int))) :
  PS (W.setCell ⟨b,1,none⟩ (.int .i64 ((i:Int)+1))) b O ts T:=by
 obtain⟨TS,i',g,c,nv,L,a1,a2,a3,a4,a5,a6,a7⟩:=h.ex;have hi':i'=i:=by
  simp[World.cell?,a1] at hi;omega
 subst hi';have hlt:b<W.heap.size:=(aF.1 a1).1;have hne :∀k,k≠b→(W.setCell ⟨b,1,none⟩ (.int .i64 ((i':Int)+1))).heap[k]? = W.heap[k]?:=fun k hk=>Below.heap_setCell _ _ _ k hk
 have Gf:=(yj a1 (.int .i64 ((i':Int)+1))).1;have hrow :∀{B e s n:Nat} {v:Value} {xs:List Value},W.ownsRow B e s v n xs→B=b+1→(W.setCell ⟨b,1,none⟩ (.int .i64 ((i':Int)+1))).ownsRow B e s v n xs:=fun h hB=>dh h fun k hk=>hne k (by have:=(h.lt k hk).1;omega)
 refine⟨⟨TS,i'+1,g,c,nv,L,Gf,?_,a3,?_,a5,⟨hrow a6.row rfl,a6.own,fun t ht=>?_⟩,a7⟩,h.fin.tail ht,h.at_,fun k hk=>⟨(h.own k hk).1,by simpa[World.setCell] using (h.own k hk).2⟩⟩
 ·exact a2.kept (hne g (by omega)) (by simp[World.setCell])
 ·rw[←List.drop_drop,a4];rfl
 ·have hn:=a6.each t ht
  exact⟨hrow hn.names rfl,hrow hn.kids rfl,fun g hg=>(hn.on g hg).imp id (h.fr 1 _).keeps,hn.nz,hn.ok⟩
theorem PS.place {W:World} {b:Nat} {O:Nat→Prop} {ts:List aj} {T:List Nd} (h:PS W b O ts T) :∃i:Nat,i≤20000∧W.cell? ⟨b,1,none⟩=some (.int .i64 (i:Int))∧W.frozen? ⟨b,1,none⟩=false∧b<W.heap.size:=by
 obtain⟨TS,i,g,c,nv,L,a1,a2,a3,a4,a5,a6,a7⟩:=h.ex;refine⟨i,?_,by simp[World.cell?,a1],by simp[World.frozen?,a1],(aF.1 a1).1⟩
 rcases Em TS.length i with hi|hi
 ·exact absurd (by rw[←a4];exact pN (by omega)) h.fin.ne
 ·omega
theorem tA {s:List UInt8} (hs:s≠[]) (t:aj):((ag t).data.toList == s)=aw s t:=by
 rw[mJ];unfold ag aw;by_cases h:t.1=2∨t.1=5
 ·rw[al h]
  simp[h,bK]
 ·rw[af h]
  simp[h];exact hs
theorem tB {s:List UInt8} {t:aj} (h:aw s t=true):t.1≠0:=by
 unfold aw at h;intro h0;simp[h0] at h
def kX (b:Nat) (O:Nat→Prop) (ax:List aj) (T:List Nd) (r:Bool) (w:World) (e:Ending) (w':World):Prop:=e=.returned (.bool r)∧PS w' b O ax T∧ay (· = b) w w'
theorem lK (b:Nat) (O:Nat→Prop) (t:aj) (ts:List aj) (T:List Nd) (s:List UInt8) (X:ByteArray) (hX:X=bK s) (w:World) (h:PS w b O (t::ts) T) (hs:s≠[]) (ht:aw s t=true) :
  Calls Tryz.prog 37 #[.pointer (some ⟨b,0,none⟩),.string X] w (kX b O ts T true w):=by
 have HA:=aa (bS b O t ts T w h);have hw:=tA hs t;have he:(ag t).data.toList=X.data.toList:=by
  rw[ht] at hw;rw[hX];exact eq_of_beq hw
 have he:ag t=X:=by
  cases h1:ag t with
  | mk d =>
   cases X with
   | mk d' =>
    rw[h1] at he;congr 1
    exact Array.ext' he
 rw[he] at HA;have HH:=aa h;have HT:=aa (tB ht);clear hw he hX h hs ht;go_enter Tryz.func37,Tryz.ntmps37
 go_wp2_with fail
 refine HA.out.mono ?_;rintro e w1 ⟨rfl,b1⟩;have h1:=HH.out.below b1;have B1:=aa b1;obtain⟨i,hi,c1,f1,hb⟩:=h1.place;have H1:=aa h1;have C1:=aa c1;clear b1 h1;go_wp2_with fail
 go_ret
 exact⟨rfl,H1.out.step HT.out C1.out,(ay.ae (O:=(· = b)) B1.out).trans (H1.out.fr 1 _) (Ext.refl _ _)⟩
theorem nZ (b:Nat) (O:Nat→Prop) (t:aj) (ts:List aj) (T:List Nd) (s:List UInt8) (X:ByteArray) (hX:X=bK s) (w:World) (h:PS w b O (t::ts) T) (hs:s≠[]) (ht:aw s t=false) :
  Calls Tryz.prog 37 #[.pointer (some ⟨b,0,none⟩),.string X] w (kX b O (t::ts) T false w):=by
 have HA:=aa (bS b O t ts T w h);have hw:=tA hs t;rw[ht] at hw;generalize ag t=Y at *;have hq:(Y.toList == X.toList)=false:=by rw[Lib.toList_data,Lib.toList_data,hX];exact hw
 have HH:=aa h;clear hw hX h hs ht;go_enter Tryz.func37,Tryz.ntmps37
 go_wp2_with fail
 refine HA.out.mono ?_;rintro e w1 ⟨rfl,b1⟩;have h1:=HH.out.below b1;have B1:=aa b1;have H1:=aa h1;clear b1 h1;go_wp2_with fail
 go_ret
 exact⟨rfl,H1.out,ay.ae B1.out⟩
def ES (w:World) (l:Int) (e:Ending) (w':World):Prop:=∃v,e=.returned v∧QU w.heap.size w' v l∧Below w.heap.size w w'
theorem AB (t0 t1 t2:Int) (S:ByteArray) (W:World):(Instr.field 113 (.agg #[.int .i64 t0,.int .i64 t1,.int .i64 t2,.string S]) 0).run Tryz.prog W=.ok (.int .i64 t0) W:=by kernel_rfl
theorem LB (t0 t1 t2:Int) (S:ByteArray) (W:World):(Instr.field 113 (.agg #[.int .i64 t0,.int .i64 t1,.int .i64 t2,.string S]) 1).run Tryz.prog W=.ok (.int .i64 t1) W:=by kernel_rfl
theorem qi (b:Nat) (O:Nat→Prop) (t:aj) (ts:List aj) (T:List Nd) (w:World) (h:PS w b O (t::ts) T) :
  Calls Tryz.prog 45 #[.pointer (some ⟨b,0,none⟩)] w (ES w t.2.1):=by
 obtain⟨t0,t1,t2,t3⟩:=t;have HA:=aa (cG b O (t0,t1,t2,t3) ts T w h);unfold fW at HA;dsimp only at HA ⊢
 have F1:=LB t0 t1 t2 (bK t3);clear h;go_enter Tryz.func45,Tryz.ntmps45
 go_wp2_with fail
 refine HA.out.mono ?_;rintro e w1 ⟨rfl,b1⟩;have B1:=aa b1;clear b1;go_wp2_with fail
 go_ret
 exact⟨_,rfl,⟨w1.heap.size,rfl,B1.out.size,World.alloc_heap_new w1 _⟩,aA B1.out ((Below.refl _ _).alloc (ah _) _)⟩
theorem ai {s:List UInt8} (hs:s≠[]) (t:aj) {r:Bool} (h:aw s t=r):((ag t).toList == s)=r:=by rw[Lib.toList_data,tA hs,h]
theorem bs {s s':List UInt8} {t:aj} (h:aw s t=true) (hne:s'≠s):aw s' t=false:=by
 unfold aw at h ⊢;rw[dj,iH] at h;rw[h.2,Bool.and_eq_false_iff];exact .inr (bU (fun e=>hne e.symm))
def nx (w:World) (r:Bool) (e:Ending) (w':World):Prop:=e=.returned (.bool r)∧Below w.heap.size w w'
theorem aQ (s:List UInt8) {q:List UInt8} {t:aj} (h:aw q t=true) (d:s≠[]∧s≠q):((ag t).toList == s)=false:=ai d.1 t (bs h d.2)
theorem WV (b:Nat) (O:Nat→Prop) (t:aj) (ts:List aj) (T:List Nd) (w:World) (h:PS w b O (t::ts) T) :
  Calls Tryz.prog 36 #[.pointer (some ⟨b,0,none⟩)] w (nx w (iV t)):=by
 have HW:=aa (bS b O t ts T w h);have HA:=aa (fun W hW=>cG b O t ts T W hW)
 have HP:=aa h;have hr :∀r,iV t=r→iV t=r:=fun _ h=>h
 by_cases k1:aw iU t=true
 ·have g1:((ag t).toList == [101,110,100])=true:=ai (s:=iU) (by decide) t k1
  have HE:=aa (show iV t=true by unfold iV;simp[k1])
  clear h hr k1;generalize ag t=Y at *;go_enter Tryz.func36,Tryz.ntmps36
  go_wp2_with fail
  refine HW.out.mono ?_;rintro e w1 ⟨rfl,b1⟩;have B1:=aa b1;clear b1;go_wp2_with fail
  go_ret
  exact⟨by rw[HE.out];rfl,B1.out⟩
 ·have g1:((ag t).toList == [101,110,100])=false:=ai (s:=iU) (by decide) t (by simpa using k1)
  by_cases k2:aw sB t=true
  ·have g2:((ag t).toList == [101,108,115,101])=true:=ai (s:=sB) (by decide) t k2
   have HE:=aa (show iV t=true by unfold iV;simp[k2])
   clear h hr k1 k2;generalize ag t=Y at *;go_enter Tryz.func36,Tryz.ntmps36
   go_wp2_with fail
   refine HW.out.mono ?_;rintro e w1 ⟨rfl,b1⟩;have B1:=aa b1;clear b1;go_wp2_with fail
   go_ret
   exact⟨by rw[HE.out];rfl,B1.out⟩
  ·have g2:((ag t).toList == [101,108,115,101])=false:=ai (s:=sB) (by decide) t (by simpa using k2)
   by_cases k3:aw jZ t=true
   ·have g3:((ag t).toList == [101,108,115,101,105,102])=true:=ai (s:=jZ) (by decide) t k3
    have HE:=aa (show iV t=true by unfold iV;simp[k3])
    clear h hr k1 k2 k3;generalize ag t=Y at *;go_enter Tryz.func36,Tryz.ntmps36
    go_wp2_with fail
    refine HW.out.mono ?_;rintro e w1 ⟨rfl,b1⟩;have B1:=aa b1;clear b1;go_wp2_with fail
    go_ret
    exact⟨by rw[HE.out];rfl,B1.out⟩
   ·have g3:((ag t).toList == [101,108,115,101,105,102])=false:=ai (s:=jZ) (by decide) t (by simpa using k3)
    by_cases k4:aw oX t=true
    ·have g4:((ag t).toList == [117,110,116,105,108])=true:=ai (s:=oX) (by decide) t k4
     have HE:=aa (show iV t=true by unfold iV;simp[k4])
     clear h hr k1 k2 k3 k4;generalize ag t=Y at *;go_enter Tryz.func36,Tryz.ntmps36
     go_wp2_with fail
     refine HW.out.mono ?_;rintro e w1 ⟨rfl,b1⟩;have B1:=aa b1;clear b1;go_wp2_with fail
     go_ret
     exact⟨by rw[HE.out];rfl,B1.out⟩
    ·have g4:((ag t).toList == [117,110,116,105,108])=false:=ai (s:=oX) (by decide) t (by simpa using k4)
     obtain⟨t0,t1,t2,t3⟩:=t;have HE:=aa (show iV (t0,t1,t2,t3)=decide (t0=0) by
      unfold iV;simp only[Bool.not_eq_true] at k1 k2 k3 k4;simp[k1,k2,k3,k4])
     unfold fW at HA;dsimp only at HA
     have F0:=AB t0 t1 t2 (bK t3);clear h hr k1 k2 k3 k4;generalize ag (t0,t1,t2,t3)=Y at *;generalize bK t3=S at *;by_cases h0:t0=0
     ·subst h0
      go_enter Tryz.func36,Tryz.ntmps36
      go_wp2_with fail
      refine HW.out.mono ?_;rintro e w1 ⟨rfl,b1⟩;have B1:=aa b1;have P1:=aa (HP.out.below b1);clear b1;go_wp2_with fail
      refine(HA.out _ P1.out).mono ?_;rintro e w2 ⟨rfl,b2⟩;have B2:=aa (aA B1.out b2);clear b2;go_wp2_with fail
      go_ret
      exact⟨by rw[HE.out];rfl,B2.out⟩
     ·have g0:(t0 == 0)=false:=aC.2 h0
      have HN:=aa h0;clear h0;go_enter Tryz.func36,Tryz.ntmps36
      go_wp2_with fail
      refine HW.out.mono ?_;rintro e w1 ⟨rfl,b1⟩;have B1:=aa b1;have P1:=aa (HP.out.below b1);clear b1;go_wp2_with fail
      refine(HA.out _ P1.out).mono ?_;rintro e w2 ⟨rfl,b2⟩;have B2:=aa (aA B1.out b2);clear b2;go_wp2_with fail
      go_ret
      exact⟨by rw[HE.out,bU HN.out];rfl,B2.out⟩
theorem WW (b:Nat) (O:Nat→Prop) (t:aj) (ts:List aj) (T:List Nd) (n:Value) (w:World) (h:PS w b O (t::ts) T) (ht:t.1≠0) :
  Calls Tryz.prog 40 #[.pointer (some ⟨b,0,none⟩),n] w fun e w'=>e=.returned .nilIface∧PS w' b O ts T∧ay (· = b) w w':=by
 obtain⟨i,hi,c1,f1,hb⟩:=h.place;have HH:=aa h;have HT:=aa ht;have C1:=aa c1;clear h ht;go_enter Tryz.func40,Tryz.ntmps40
 go_wp2_with fail
 go_ret
 exact⟨rfl,HH.out.step HT.out C1.out,HH.out.fr 1 _⟩
theorem j6 (b:Nat) (O:Nat→Prop) (t:aj) (ts:List aj) (T:List Nd) (w:World) (h:PS w b O (t::ts) T) (ht:aw [44] t=true) :
  Calls Tryz.prog 143 #[.pointer (some ⟨b,0,none⟩)] w (kX b O ts T true w):=by
 have HC:=aa (lK b O t ts T [44] ⟨#[44]⟩ rfl w h (by decide) ht)
 clear h ht;go_enter Tryz.func143,Tryz.ntmps143
 go_wp2_with fail
 refine HC.out.mono ?_;rintro e w1 ⟨rfl,h1,h2⟩;have H1:=aa h1;have H2:=aa h2;clear h1 h2;go_wp2_with fail
 go_ret
 exact⟨rfl,H1.out,H2.out⟩
theorem lL (b:Nat) (O:Nat→Prop) (t:aj) (ts:List aj) (T:List Nd) (w:World) (h:PS w b O (t::ts) T) (ht:aw [44] t=false) :
  Calls Tryz.prog 143 #[.pointer (some ⟨b,0,none⟩)] w (kX b O (t::ts) T false w):=by
 have HC:=aa (nZ b O t ts T [44] ⟨#[44]⟩ rfl w h (by decide) ht)
 clear h ht;go_enter Tryz.func143,Tryz.ntmps143
 go_wp2_with fail
 refine HC.out.mono ?_;rintro e w1 ⟨rfl,h1,h2⟩;have H1:=aa h1;have H2:=aa h2;clear h1 h2;go_wp2_with fail
 go_ret
 exact⟨rfl,H1.out,H2.out⟩
def LC (b:Nat) (O:Nat→Prop) (t:aj) (ts:List aj) (T:List Nd) (w:World) (e:Ending) (w':World):Prop :=
 ay (· = b) w w'∧((t.1=1∧e=.returned (.tuple #[.string (bK t.2.2.2),.nilIface])∧PS w' b O ts T)∨(t.1≠1∧∃er,e=.returned (.tuple #[.string ⟨#[]⟩,er])∧QU w.heap.size w' er t.2.1))
theorem C7 (b:Nat) (O:Nat→Prop) (t:aj) (ts:List aj) (T:List Nd) (w:World) (h:PS w b O (t::ts) T) :
  Calls Tryz.prog 146 #[.pointer (some ⟨b,0,none⟩)] w (LC b O t ts T w):=by
 obtain⟨t0,t1,t2,t3⟩:=t;have HA:=aa (cG b O (t0,t1,t2,t3) ts T w h);have HW:=aa (fun W hW=>qi b O (t0,t1,t2,t3) ts T W hW)
 unfold fW at HA;dsimp only at HA HW
 have HP:=aa h;clear h;obtain⟨S,hS⟩ :∃S,S=bK t3:=⟨_,rfl⟩;rw[←hS] at HA;have HS:=aa hS;clear hS;by_cases h1:t0=1
 ·subst h1
  go_enter Tryz.func146,Tryz.ntmps146
  go_wp2_with fail
  refine HA.out.mono ?_;rintro e w1 ⟨rfl,b1⟩;have B1:=aa b1;have h2:=HP.out.below b1;obtain⟨i,hi,c1,f1,hb⟩:=h2.place;have H2:=aa h2;have C1:=aa c1;clear h2 b1;go_wp2_with fail
  go_ret2
  have hB:=fun W:World=>(Below.refl W.heap.size W).alloc (ah _) (.cells #[.int .i64 1,.int .i64 t1,.int .i64 t2,.string S] 113)
  refine⟨?_,.inl ⟨rfl,by rw[←HS.out];rfl,(H2.out.step (show(1:Int)≠0 by decide) C1.out).below (hB _)⟩⟩
  exact((ay.ae (O:=(· = b)) B1.out).trans (H2.out.fr 1 _) (Ext.refl _ _)).alloc _
 ·have g1:(t0 == 1)=false:=aC.2 h1
  have g1':(t0 != 1)=true:=mL.2 h1;have HN:=aa h1;clear h1;go_enter Tryz.func146,Tryz.ntmps146
  go_wp2_with fail
  refine HA.out.mono ?_;rintro e w1 ⟨rfl,b1⟩;have B2:=aa (aA b1 ((Below.refl w1.heap.size w1).alloc (ah _) (.cells #[.int .i64 t0,.int .i64 t1,.int .i64 t2,.string S] 113)));have H2:=aa (HP.out.below B2.out);clear b1;go_wp2_with fail
  refine(HW.out _ H2.out).mono ?_;rintro e w3 ⟨er,rfl,m,b3⟩;have M:=aa m;have B3:=aa (aA B2.out b3);clear m b3;go_wp2_with fail
  go_ret2
  refine⟨ay.ae B3.out,.inr ⟨HN.out,_,rfl,?_⟩⟩;obtain⟨g,e1,e2,e3⟩:=M.out;exact⟨g,e1,aM B2.out.size e2,e3⟩
theorem ig {W:World} {n k:Nat} {a:Array Value} {ty:TypeId} (h:W.heap[n]? = some (.cells a ty (0,0))) (v:Value):(W.setCell ⟨n,k,none⟩ v).heap[n]? = some (.cells (a.setIfInBounds k v) ty (0,0)):=by
 obtain⟨hlt,hk⟩:=aF.1 h;show(W.heap.modify n _)[n]? = _
 rw[wm (by rw[zG];exact hlt),zz,hk]
 rfl
theorem NU.cells {W:World} {b n:Nat} {O:Nat→Prop} {x:Nd} (h:NU W b n O x) :∃nv kv,lJ W n 0 x nv kv∧jB W b O x nv kv∧(∀j,W.frozen? ⟨n,j,none⟩=false):=by
 obtain⟨nv,kv,a1,a2⟩:=h.ex;have hc :∀j,W.cell? ⟨n,j,none⟩=(aP (x,nv,kv))[j]?:=fun j=>by simp[World.cell?,a1]
 exact⟨nv,kv,⟨hc 0,hc 1,hc 2,hc 3,hc 4,hc 5,hc 6⟩,a2,fun j=>by simp[World.frozen?,a1]⟩
theorem jB.set {W:World} {b:Nat} {O:Nat→Prop} {x:Nd} {nv kv:Value} (h:jB W b O x nv kv) {n:Nat} {a:Array Value} (hn:W.heap[n]? = some (.cells a 55 (0,0))) (k:Nat) (v:Value):jB (W.setCell ⟨n,k,none⟩ v) b O x nv kv:=by
 have hne :∀g,g≠n→(W.setCell ⟨n,k,none⟩ v).heap[g]? = W.heap[g]?:=fun g hg=>Below.heap_setCell _ _ _ g hg
 have hf:=ay.vV hn (show(55:Nat)≠9 by decide) k v
 refine⟨dh h.names fun g hg=>hne g (fun e=>?_),dh h.kids fun g hg=>hne g (fun e=>?_),fun g hg=>(h.on g hg).imp id hf.keeps,h.nz,h.ok⟩
 ·obtain⟨cur,hc⟩:=eX h.names hg
  rw[e,hn] at hc;simp at hc
 ·obtain⟨cur,hc⟩:=eX h.kids hg
  rw[e,hn] at hc;simp at hc
theorem jB.head {W:World} {b:Nat} {O:Nat→Prop} {x y:Nd} {nv kv:Value} (h:jB W b O x nv kv) (h1:y.names=x.names) (h2:y.kids=x.kids):jB W b O y nv kv:=⟨h1▸h.names,h2▸h.kids,h.on,by rw[h1];exact h.nz,h.ok⟩
theorem NU.qj {W:World} {b n:Nat} {O:Nat→Prop} {x y:Nd} (h:NU W b n O x) (k:Nat) (v:Value) (h1:y.names=x.names) (h2:y.kids=x.kids)
  (hc :∀nv kv,(aP (x,nv,kv)).toArray.setIfInBounds k v=(aP (y,nv,kv)).toArray):NU (W.setCell ⟨n,k,none⟩ v) b n O y:=by
 obtain⟨nv,kv,a1,a2⟩:=h.ex;refine⟨⟨nv,kv,?_,(a2.set a1 k v).head h1 h2⟩,h.at_,fun i hi=>⟨(h.own i hi).1,by simpa[World.setCell] using (h.own i hi).2⟩⟩
 rw[ig a1,hc]
def aZ (f b:Nat):Value:=.func (.func f) #[.pointer (some ⟨b,0,none⟩)] #[]
def aD:cf:=fun s K _=>∃t ts,s.ts=t::ts∧t.1≠0∧K { s with ts:=ts}
def LD:cf:=fun s K E=>∃t ts,s.ts=t::ts∧(t.1=0→K s)∧(t.1≠0→E t.2.1)
def cQ:cf:=fun s K E=>∃t ts,s.ts=t::ts∧(t.1=1→K { s with h:={ s.h with s:=bK t.2.2.2},ts:=ts})∧(t.1≠1→E t.2.1)
def eu:cf:=fun s K _=>K { s with h:={ s.h with num:=(s.xs.length:Int)}}
theorem Real.own {W:World} {b n:Nat} {O:Nat→Prop} {T0:List Nd} {s:St} (h:Real W b n O T0 s) :∀k,O k→b≤k∧k<W.heap.size:=by
 obtain⟨Op,On,T,ks,hO,hd,hp,hn,hl,hc⟩:=h.ex;intro k hk;rcases(hO k).1 hk with hk|hk
 ·exact hp.own k hk
 ·exact⟨fx (hn.own k hk).1,(hn.own k hk).2⟩
theorem ba (W:World) (b:Nat) (O:Nat→Prop):eJ W b O (aZ 40 b) aD:=by
 rintro W1 O1 T0 s n K E _ _ hr ⟨t,ts,hs,h0,hk⟩;obtain⟨Op,On,T,ks,hO,hd,hp,hn,hl,hc⟩:=hr.ex;rw[hs] at hp;refine⟨40,_,_,rfl,enters_of Tryz.func40 (by kernel_rfl) rfl,(WW b Op t ts T _ W1 hp h0).mono ?_⟩
 rintro e w ⟨rfl,Zk,hf⟩;refine⟨hf.mono fun k hk=>(hO k).2 (.inl (hk▸hp.at_)),.inl ⟨{ s with ts:=ts},O1,rfl,⟨Op,On,T,ks,hO,hd,Zk,?_,hl,hc⟩,Ext.refl _ _,hk⟩⟩
 exact hn.kept hf fun k hk e=>hd b hp.at_ (e▸hk)
def Rc (t:aj) (w:World) (e:Ending) (w':World):Prop:=Below w.heap.size w w'∧((t.1=0∧e=.returned .nilIface)∨(t.1≠0∧∃v,e=.returned v∧QU w.heap.size w' v t.2.1))
theorem aar (b:Nat) (O:Nat→Prop) (t:aj) (ts:List aj) (T:List Nd) (n:Value) (w:World) (h:PS w b O (t::ts) T) :
  Calls Tryz.prog 21 #[.pointer (some ⟨b,0,none⟩),n] w (Rc t w):=by
 obtain⟨t0,t1,t2,t3⟩:=t;have HA:=aa (cG b O (t0,t1,t2,t3) ts T w h);have HW:=aa (fun W hW=>qi b O (t0,t1,t2,t3) ts T W hW)
 unfold fW at HA;dsimp only at HA HW
 have F0:=AB t0 t1 t2 (bK t3);generalize bK t3=S at *;have HP:=aa h;clear h;by_cases h0:t0=0
 ·subst h0
  go_enter Tryz.func21,Tryz.ntmps21
  go_wp2_with fail
  refine HA.out.mono ?_;rintro e w1 ⟨rfl,b1⟩;have B1:=aa b1;clear b1;go_wp2_with fail
  go_ret
  exact⟨B1.out,.inl ⟨rfl,rfl⟩⟩
 ·have g1:(t0 == 0)=false:=aC.2 h0
  have g1':(t0 != 0)=true:=mL.2 h0;have HN:=aa h0;clear h0;go_enter Tryz.func21,Tryz.ntmps21
  go_wp2_with fail
  refine HA.out.mono ?_;rintro e w1 ⟨rfl,b1⟩;have B1:=aa b1;have P1:=aa (HP.out.below b1);clear b1;go_wp2_with fail
  refine(HW.out _ P1.out).mono ?_;rintro e w2 ⟨v,rfl,m,b2⟩;have M:=aa m;have B2:=aa (aA B1.out b2);clear m b2;go_wp2_with fail
  go_ret
  obtain⟨g,e1,e2,e3⟩:=M.out;exact⟨B2.out,.inr ⟨HN.out,_,rfl,g,e1,aM B1.out.size e2,e3⟩⟩
theorem LF (W:World) (b:Nat) (O:Nat→Prop):eJ W b O (aZ 21 b) LD:=by
 rintro W1 O1 T0 s n K E _ _ hr ⟨t,ts,hs,hk,he⟩;obtain⟨Op,On,T,ks,hO,hd,hp,hn,hl,hc⟩:=hr.ex;have bY:=hp;rw[hs] at bY;refine⟨21,_,_,rfl,enters_of Tryz.func21 (by kernel_rfl) rfl,(aar b Op t ts T _ W1 bY).mono ?_⟩
 rintro e w ⟨hb,⟨h0,rfl⟩ | ⟨h0,v,rfl,hm⟩⟩
 ·exact⟨ay.ae hb,.inl ⟨s,O1,rfl,⟨Op,On,T,ks,hO,hd,hp.below hb,hn.below hb,hl,hc⟩,Ext.refl _ _,hk h0⟩⟩
 ·exact⟨ay.ae hb,.inr ⟨_,v,rfl,hm,he h0⟩⟩
def He (b n:Nat) (Op On:Nat→Prop) (x:Nd) (t:aj) (ts:List aj) (T:List Nd) (w:World) (e:Ending) (w':World):Prop :=
 ay (fun k=>k=b∨k=n) w w'∧((t.1=1∧e=.returned .nilIface∧PS w' b Op ts T∧NU w' b n On { x with s:=bK t.2.2.2})∨(t.1≠1∧∃v,e=.returned v∧QU w.heap.size w' v t.2.1))
theorem Re (b n:Nat) (Op On:Nat→Prop) (x:Nd) (t:aj) (ts:List aj) (T:List Nd) (w:World) (h:PS w b Op (t::ts) T) (hn:NU w b n On x) (hd :∀k,Op k→¬ On k) :
  Calls Tryz.prog 88 #[.pointer (some ⟨b,0,none⟩),.pointer (some ⟨n,0,none⟩)] w (He b n Op On x t ts T w):=by
 have HA:=aa (C7 b Op t ts T w h);have HN:=aa hn;have HP:=aa h;have hne :∀k,On k→¬ k=b:=fun k hk e=>hd b h.at_ (e▸hk)
 have EM:=(hn.own n hn.at_);have HNE:=aa hne;have HD:=aa hd;clear h hn hne hd;go_enter Tryz.func88,Tryz.ntmps88
 go_wp2_with fail
 refine HA.out.mono ?_;rintro e w1 ⟨f1,h1⟩;have F1:=aa f1;have n1:=HN.out.kept f1 HNE.out;have N1:=aa n1;obtain⟨nv,kv,hc,_,hz⟩:=n1.cells;have c4:=hc.c4;have z4:=hz 4;have jl:n<w1.heap.size:=(n1.own n n1.at_).2;clear hc hz n1;rcases h1 with ⟨g0,rfl,p1⟩ | ⟨g0,er,rfl,m⟩
 ·have P1:=aa p1
  clear p1 f1;go_wp2_with fail
  go_ret
  refine⟨(F1.out.mono fun k hk=>.inl hk).trans (N1.out.fr 4 _) (fun k hk=>.inl (.inr hk)),.inl ⟨g0,rfl,?_,N1.out.qj 4 _ rfl rfl fun _ _=>rfl⟩⟩
  exact P1.out.kept (O1:=(· = n)) (N1.out.fr 4 _) (fun k hk e=>HD.out k hk (e▸HN.out.at_)) fun k e=>by omega
 ·have M:=aa m
  clear m f1;go_wp2_with fail
  go_ret
  refine⟨(F1.out.mono fun k hk=>.inl hk).trans (N1.out.fr 4 _) (fun k hk=>.inl (.inr hk)),.inr ⟨g0,_,rfl,?_⟩⟩
  obtain⟨g,e1,e2,e3⟩:=M.out;exact⟨g,e1,e2,(Below.heap_setCell _ _ _ g (by show g≠n;omega)).trans e3⟩
theorem ij (W:World) (b:Nat) (O:Nat→Prop):eJ W b O (aZ 88 b) cQ:=by
 rintro W1 O1 T0 s n K E _ _ hr ⟨t,ts,hs,hk,he⟩;obtain⟨Op,On,T,ks,hO,hd,hp,hn,hl,hc⟩:=hr.ex;have bY:=hp;rw[hs] at bY;refine⟨88,_,_,rfl,enters_of Tryz.func88 (by kernel_rfl) rfl,(Re b n Op On _ t ts T W1 bY hn hd).mono ?_⟩
 rintro e w ⟨hf,⟨h0,rfl,p1,n1⟩ | ⟨h0,v,rfl,hm⟩⟩
 ·exact⟨hf.mono fun k hk=>(hO k).2 (hk.elim (fun e=>.inl (e▸hp.at_)) fun e=>.inr (e▸hn.at_)),.inl ⟨{ s with h:={ s.h with s:=bK t.2.2.2},ts:=ts},O1,rfl,⟨Op,On,T,ks,hO,hd,p1,n1,hl,hc⟩,Ext.refl _ _,hk h0⟩⟩
 ·exact⟨hf.mono fun k hk=>(hO k).2 (hk.elim (fun e=>.inl (e▸hp.at_)) fun e=>.inr (e▸hn.at_)),.inr ⟨_,v,rfl,hm,he h0⟩⟩
theorem bu.count {T:List Nd} :∀(xs:List Ast) (ks:List Int) (js:List Nat),bu T xs ks js→ks.length=xs.length
 | [],ks,js,h=>by
  unfold bu at h;rw[h.1];rfl
 | a::xs,ks,js,h=>by
  unfold bu at h;obtain⟨k,iu,j1,j2,rfl,_,h2,_⟩:=h;rw[List.length_cons,List.length_cons,bu.count xs iu j2 h2]
theorem bI {W:World} {B e s n:Nat} {v:Value} {xs:List Value} (h:W.ownsRow B e s v n xs) :∃A c,v=.slice A n c∧n≤c:=by
 rcases h.2 with ⟨rfl,rfl⟩ | ⟨g,cap,cur,rfl,_,_,hc,_⟩
 ·exact⟨none,0,rfl,ah _⟩
 ·exact⟨_,_,rfl,hc⟩
theorem Rf (b n:Nat) (On:Nat→Prop) (x:Nd) (w:World) (hn:NU w b n On x) :
  Calls Tryz.prog 150 #[.pointer (some ⟨n,0,none⟩)] w fun e w'=>e=.returned .nilIface∧NU w' b n On { x with num:=(x.kids.length:Int)}∧ay (· = n) w w':=by
 obtain⟨nv,kv,hc,hi,hz⟩:=hn.cells;obtain⟨A,c,rfl,hlc⟩:=bI hi.kids;have c3:=hc.c3;have c6:=hc.c6;have z3:=hz 3;have jl:n<w.heap.size:=(hn.own n hn.at_).2;have HN:=aa hn;clear hn hi hc hz;go_enter Tryz.func150,Tryz.ntmps150
 go_wp2_with fail
 go_ret
 exact⟨rfl,HN.out.qj 3 _ rfl rfl fun _ _=>rfl,HN.out.fr 3 _⟩
theorem jC (W:World) (b:Nat) (O:Nat→Prop):eJ W b O (.func (.func 150) #[] #[]) eu:=by
 rintro W1 O1 T0 s n K E _ _ hr hk;obtain⟨Op,On,T,ks,hO,hd,hp,hn,hl,hc⟩:=hr.ex;refine⟨150,_,_,rfl,enters_of Tryz.func150 (by kernel_rfl) rfl,(Rf b n On _ W1 hn).mono ?_⟩
 rintro e w ⟨rfl,n1,hf⟩;have JH:ks.length=s.xs.length:=by
  obtain⟨_,js,hj,_⟩:=hl;exact hj.count
 refine⟨hf.mono fun k hk=>(hO k).2 (.inr (hk▸hn.at_)),.inl ⟨{ s with h:={ s.h with num:=(s.xs.length:Int)}},O1,rfl,⟨Op,On,T,ks,hO,hd,?_,?_,hl,hc⟩,Ext.refl _ _,hk⟩⟩
 ·exact hp.kept hf (fun k hk e=>hd k hk (e▸hn.at_)) fun k e=>by have:=(hn.own n hn.at_).1;omega
 ·rw[←JH]
  exact n1
def jD (W:World) (b:Nat) (O:Nat→Prop):List Value→List cf→Prop
 | [],[]=>True
 | v::vs,wp::cO=>eJ W b O v wp∧jD W b O vs cO
 | _,_=>False
theorem jD.later {W W':World} {b:Nat} {O O':Nat→Prop} (hf:ay O W W') (he:Ext O O' W) :∀{vs:List Value} {cO:List cf},jD W b O vs cO→jD W' b O' vs cO
 | [],[],_=>trivial
 | _::_,_::_,h=>⟨h.1.later hf he,jD.later hf he h.2⟩
theorem jD.get {W:World} {b:Nat} {O:Nat→Prop} :∀{vs:List Value} {cO:List cf},jD W b O vs cO→∀(j:Nat) (x:Value),vs[j]? = some x→∃y,cO[j]? = some y∧eJ W b O x y
 | [],[],_,j,x,h=>by simp at h
 | a::_,c::_,h,j,x,hj=>by
  cases j with
  | zero =>
   obtain rfl:a=x:=by simpa using hj
   exact⟨c,rfl,h.1⟩
  | succ j=>exact jD.get h.2 j x (by simpa using hj)
theorem jD.len {W:World} {b:Nat} {O:Nat→Prop} :∀{vs:List Value} {cO:List cf},jD W b O vs cO→vs.length=cO.length
 | [],[],_=>rfl
 | _::_,_::_,h=>by rw[List.length_cons,List.length_cons,jD.len h.2]
structure aN (W:World) (b:Nat) (O:Nat→Prop) (v:Value) (cO:List cf):Prop where
 ex :∃vs,QV W O v vs∧jD W b O vs cO
theorem aN.later {W W':World} {b:Nat} {O O':Nat→Prop} {v:Value} {cO:List cf} (h:aN W b O v cO) (hf:ay O W W') (he:Ext O O' W):aN W' b O' v cO:=by
 obtain⟨vs,h1,h2⟩:=h.ex;exact⟨vs,h1.later hf he,h2.later hf he⟩
theorem aN.at_ {W W1:World} {b n:Nat} {O O1:Nat→Prop} {vs:List Value} {cO:List cf} {T0:List Nd} {s:St} {K:St→Prop} {E:Int→Prop} (h:jD W b O vs cO) {j:Nat} (hj:j<vs.length)
  (hf:ay O W W1) (he:Ext O O1 W) (hr:Real W1 b n O1 T0 s) (hk:aK (cO.drop j) s K E) :
  ∃f first cap,vs[j]? = some (.func (.func f) first cap)∧Enters Tryz.prog f∧Calls Tryz.prog f (first++#[.pointer (some ⟨n,0,none⟩)]++cap) W1 (bH b n O1 T0 (fun s'=>aK (cO.drop (j+1)) s' K E) E W1):=by
 obtain⟨wp,hw,hp⟩:=jD.get h j vs[j] (bE hj);have hd:cO.drop j=wp::cO.drop (j+1):=by
  obtain⟨hl,e⟩:=aJ.1 hw;rw[zA hl,e]
 rw[hd] at hk;obtain⟨f,first,cap,e,h1,h2⟩:=hp W1 O1 T0 s n _ E hf he hr hk
 exact⟨f,first,cap,by rw[bE hj,e],h1,h2⟩
theorem uB (b n:Nat) (O:Nat→Prop) (T0:List Nd) (s:St) (K:St→Prop) (E:Int→Prop) (pv:Value) (cO:List cf) (w:World) (hr:Real w b n O T0 s) (hp:aN w b O pv cO) (hk:aK cO s K E) :
  Calls Tryz.prog 35 #[.pointer (some ⟨n,0,none⟩),pv] w (bH b n O T0 K E w):=by
 obtain⟨vs,hfn,hall⟩:=hp.ex;have hlen:=hall.len;have hP :∃A,pv=.slice A vs.length vs.length∧vs.length≤100∧∀(W1:World) (O1:Nat→Prop),ay O w W1→Ext O O1 w→∀(j:Nat) v,vs[j]? = some v→∃g,A=some ⟨g,0,none⟩∧W1.cell? ⟨g,j,none⟩=some v:=by
  rcases hfn with ⟨rfl,rfl⟩ | ⟨g,rfl,h2,h3,h4⟩
  ·exact⟨none,rfl,by simp,fun W1 O1 _ _ j v h=>by simp at h⟩
  ·refine⟨_,rfl,h4,fun W1 O1 hf he j v hj=>⟨g,rfl,?_⟩⟩
   have:=hf.block g (aF.1 h2).1 h3;rw[h2] at this;simp[World.cell?,this,hj]
 obtain⟨A,rfl,aas,hcell⟩:=hP;have HC:=aa hcell;have HA:=aa hall;have HR:=aa hr;have HK:=aa hk;have HL:=aa hlen;clear hfn hp hcell hall hr hk hlen;go_enter Tryz.func35,Tryz.ntmps35
 go_wp2_with fail
 go_loopg [10] vs.length (fun z jv wr=>∃(j:Nat) (O1:Nat→Prop) (s1:St),jv=.int .i64 (j:Int)∧j≤vs.length∧vs.length-j≤z∧Real wr b n O1 T0 s1∧ay O w wr∧Ext O O1 w∧aK (cO.drop j) s1 K E)
 case atStart=>exact⟨0,O,s,rfl,bB _,ah _,HR.out,ay.refl _ _,Ext.refl _ _,HK.out⟩
 case round =>
  obtain⟨j,O1,s1,rfl,hj,hz,hr1,kT,uC,iX⟩:=hrel;have ny:=aa hr1;have fA:=aa kT;have ow:=aa uC;have PH:=aa iX;clear hr1 kT uC iX;by_cases hlt:j<vs.length
  ·obtain⟨f,first,cap,hv,ph,bz⟩:=aN.at_ HA.out hlt fA.out ow.out ny.out PH.out
   obtain⟨g,rfl,hc⟩:=HC.out wr O1 fA.out ow.out j _ hv;rw[show first++#[Value.pointer (some ⟨n,0,none⟩)]=first.push (.pointer (some ⟨n,0,none⟩)) from by simp] at bz
   have ed:=aa bz;clear bz hv;unfold Enters at ph;go_wp2_with fail
   refine ed.out.mono ?_;rintro e w2 ⟨f2,hs⟩;have F2:=aa (fA.out.trans f2 ow.out);rcases hs with ⟨s2,O2,rfl,r2,x2,k2⟩ | ⟨l,v,rfl,m2,e2⟩
   ·have R2:=aa r2
    have X2:=aa (ow.out.trans x2 fA.out.size);have K2:=aa k2;clear f2 r2 x2 k2;go_wp2_with fail
    go_roundg (vs.length-(j+1))
    case measure=>omega
    case rel=>exact⟨j+1,O2,s2,by go_num,by omega,ah _,R2.out,F2.out,X2.out,K2.out⟩
   ·obtain⟨g',rfl,hg1,hg2⟩:=m2
    have M2:=aa hg2;have HG:=aa (aM fA.out.size hg1);have E2:=aa e2;clear f2 hg1 hg2 e2;go_wp2_with fail
    go_ret
    exact⟨F2.out,.inr ⟨l,_,rfl,⟨g',rfl,HG.out,M2.out⟩,E2.out⟩⟩
  ·obtain rfl:j=vs.length:=by omega
   go_wp2_with fail
   go_ret
   have hk:=PH.out;rw[pN (by rw[HL.out];exact ah _)] at hk
   exact⟨fA.out,.inl ⟨s1,O1,rfl,ny.out,ow.out,hk⟩⟩
def eK (W:World) (O:Nat→Prop) (g:Nat) (a:Array Value) (ty:TypeId):Prop:=W.heap[g]? = some (.cells a ty (0,0))∧¬ O g
theorem eK.later {W W':World} {O O':Nat→Prop} {g:Nat} {a:Array Value} {ty:TypeId} (h:eK W O g a ty) (hf:ay O W W') (he:Ext O O' W):eK W' O' g a ty:=by
 have hlt:g<W.heap.size:=(aF.1 h.1).1;refine⟨(hf.block g hlt h.2).trans h.1,fun h5=>?_⟩
 rcases he g h5 with h6|h6
 ·exact h.2 h6
 ·omega
theorem eK.cell {W:World} {O:Nat→Prop} {g:Nat} {a:Array Value} {ty:TypeId} (h:eK W O g a ty) (j:Nat):W.cell? ⟨g,j,none⟩=a[j]?:=by simp[World.cell?,h.1]
theorem eK.new (w:World) (O:Nat→Prop) (hO :∀k,O k→k<w.heap.size) (a:Array Value) (ty:TypeId):eK (w.alloc (.cells a ty)) O w.heap.size a ty :=
 ⟨World.alloc_heap_new w _,fun h=>by have:=hO _ h;omega⟩
theorem kY {W:World} {b n:Nat} {O:Nat→Prop} {T0:List Nd} {s:St} (h:Real W b n O T0 s) {t:aj} {ts:List aj} (hs:s.ts=t::ts) (x:List UInt8) (X:ByteArray) (hX:X=bK x) (hx:x≠[]) (hw:aw x t=true) :
  Calls Tryz.prog 37 #[.pointer (some ⟨b,0,none⟩),.string X] W fun e w'=>e=.returned (.bool true)∧Real w' b n O T0 { s with ts:=ts}∧ay O W w':=by
 obtain⟨Op,On,T,ks,hO,hd,hp,hn,hl,hc⟩:=h.ex;rw[hs] at hp;refine(lK b Op t ts T x X hX W hp hx hw).mono ?_;rintro e w ⟨rfl,Zk,hf⟩;exact⟨rfl,⟨Op,On,T,ks,hO,hd,Zk,hn.kept hf fun k hk e=>hd b hp.at_ (e▸hk),hl,hc⟩,hf.mono fun k hk=>(hO k).2 (.inl (hk▸hp.at_))⟩
theorem n0 {W:World} {b n:Nat} {O:Nat→Prop} {T0:List Nd} {s:St} (h:Real W b n O T0 s) {t:aj} {ts:List aj} (hs:s.ts=t::ts) (x:List UInt8) (X:ByteArray) (hX:X=bK x) (hx:x≠[]) (hw:aw x t=false) :
  Calls Tryz.prog 37 #[.pointer (some ⟨b,0,none⟩),.string X] W fun e w'=>e=.returned (.bool false)∧Real w' b n O T0 s∧ay O W w':=by
 obtain⟨Op,On,T,ks,hO,hd,hp,hn,hl,hc⟩:=h.ex;have hp0:=hp;rw[hs] at hp;refine(nZ b Op t ts T x X hX W hp hx hw).mono ?_;rintro e w ⟨rfl,Zk,hf⟩;rw[←hs] at Zk;exact⟨rfl,⟨Op,On,T,ks,hO,hd,Zk,hn.kept hf fun k hk e=>hd b hp.at_ (e▸hk),hl,hc⟩,hf.mono fun k hk=>(hO k).2 (.inl (hk▸hp.at_))⟩
theorem C8 {W:World} {b n:Nat} {O:Nat→Prop} {T0:List Nd} {s:St} (h:Real W b n O T0 s) {t:aj} {ts:List aj} (hs:s.ts=t::ts) :
  Calls Tryz.prog 45 #[.pointer (some ⟨b,0,none⟩)] W (ES W t.2.1):=by
 obtain⟨Op,On,T,ks,hO,hd,hp,hn,hl,hc⟩:=h.ex;rw[hs] at hp;exact qi b Op t ts T W hp
def au:List (List UInt8)→cf
 | [],s,K,_=>K s
 | x::r,s,K,E=>∃t ts,s.ts=t::ts∧(aw x t=true→au r { s with ts:=ts} K E)∧(aw x t=false→E t.2.1)
theorem LG (b n g g1 g2:Nat) (O:Nat→Prop) (T0:List Nd) (s:St) (K:St→Prop) (E:Int→Prop) (ws:List (List UInt8)) (w:World) (hr:Real w b n O T0 s) (hw :∀x∈ws,x≠[]) (hl:ws.length≤100)
  (b0:eK w O g (ws.map fun x=>Value.string (bK x)).toArray 9) (b1:eK w O g1 #[.slice (some ⟨g,0,none⟩) ws.length ws.length] 53) (b2:eK w O g2 #[.pointer (some ⟨b,0,none⟩)] 116) (hk:au ws s K E) :
  Calls Tryz.prog 147 #[.pointer (some ⟨n,0,none⟩),.pointer (some ⟨g1,0,none⟩),.pointer (some ⟨g2,0,none⟩)] w (bH b n O T0 K E w):=by
 have B0:=aa b0;have c1:=b1.cell 0;have B2:=aa b2;have HR:=aa hr;have HK:=aa hk;have HW:=aa hw;clear b0 b1 b2 hr hk hw;go_enter Tryz.func147,Tryz.ntmps147
 go_wp2_with fail
 clear c1;go_loopg [9] ws.length (fun z jv wr=>∃(j:Nat) (s1:St),jv=.int .i64 (j:Int)∧j≤ws.length∧ws.length-j≤z∧Real wr b n O T0 s1∧ay O w wr∧au (ws.drop j) s1 K E)
 case atStart=>exact⟨0,s,rfl,bB _,ah _,HR.out,ay.refl _ _,HK.out⟩
 case round =>
  obtain⟨j,s1,rfl,hj,hz,hr1,kT,iX⟩:=hrel;have ny:=aa hr1;have fA:=aa kT;have c2:=(B2.out.later kT (Ext.refl _ _)).cell 0;have c0:=(B0.out.later kT (Ext.refl _ _)).cell j;by_cases hlt:j<ws.length
  ·have hd:ws.drop j=ws[j]::ws.drop (j+1):=zA hlt
   rw[hd] at iX;obtain⟨t,ts,hs,hy,hn⟩:=iX;obtain⟨X,hX⟩ :∃X,X=bK ws[j]:=⟨_,rfl⟩;have c0':wr.cell? ⟨g,j,none⟩=some (.string X):=by rw[c0,hX];simp[hlt]
   have hne:ws[j]≠[]:=HW.out _ (Kb hlt);clear c0 hr1 kT hd;cases hq:aw ws[j] t with
   | true =>
    have HC:=aa (kY ny.out hs ws[j] X hX hne hq);have PH:=aa (hy hq);clear hy hn hX hne hs hq;go_wp2_with fail
    refine HC.out.mono ?_;rintro e w2 ⟨rfl,r2,f2⟩;have R2:=aa r2;have F2:=aa (fA.out.trans f2 (Ext.refl _ _));clear r2 f2 c2 c0';go_wp2_with fail
    go_roundg (ws.length-(j+1))
    case measure=>omega
    case rel=>exact⟨j+1,_,by go_num,by omega,ah _,R2.out,F2.out,PH.out⟩
   | false =>
    have HC:=aa (n0 ny.out hs ws[j] X hX hne hq);have HE:=aa (hn hq);have HS:=aa hs;clear hy hn hX hne hs hq;go_wp2_with fail
    refine HC.out.mono ?_;rintro e w2 ⟨rfl,r2,f2⟩;have R2:=aa r2;have F2:=aa (fA.out.trans f2 (Ext.refl _ _));clear c2 c0';have c2':=(B2.out.later F2.out (Ext.refl _ _)).cell 0;have HX:=aa (C8 r2 HS.out);clear r2 f2;go_wp2_with fail
    refine HX.out.mono ?_;rintro e w3 ⟨v,rfl,m,b3⟩;have M:=aa m;have F3:=aa (F2.out.trans (ay.ae (O:=O) b3) (Ext.refl _ _));clear m b3 c2';go_wp2_with fail
    go_ret
    obtain⟨g',e1,e2,e3⟩:=M.out;exact⟨F3.out,.inr ⟨_,_,rfl,⟨g',e1,aM F2.out.size e2,e3⟩,HE.out⟩⟩
  ·obtain rfl:j=ws.length:=by omega
   have PH:=aa iX;clear hr1 kT iX c0 c2;go_wp2_with fail
   go_ret
   have hk:=PH.out;rw[pN (ah _)] at hk;exact⟨fA.out,.inl ⟨s1,O,rfl,ny.out,Ext.refl _ _,hk⟩⟩
theorem C9 {W:World} {b g g1 g2:Nat} {O:Nat→Prop} {ws:List (List UInt8)} (hw :∀x∈ws,x≠[]) (hl:ws.length≤100)
  (b0:eK W O g (ws.map fun x=>Value.string (bK x)).toArray 9) (b1:eK W O g1 #[.slice (some ⟨g,0,none⟩) ws.length ws.length] 53) (b2:eK W O g2 #[.pointer (some ⟨b,0,none⟩)] 116) :
  eJ W b O (.func (.func 147) #[] #[.pointer (some ⟨g1,0,none⟩),.pointer (some ⟨g2,0,none⟩)]) (au ws):=by
 intro W1 O1 T0 s n K E hf he hr hk;exact⟨147,_,_,rfl,enters_of Tryz.func147 (by kernel_rfl) rfl,LG b n g g1 g2 O1 T0 s K E ws W1 hr hw hl (b0.later hf he) (b1.later hf he) (b2.later hf he) hk⟩
def acj (v:Value):Prop:=∃f first cap,v=.func (.func f) first cap
def ik (b:Nat) (O:Nat→Prop) (wp:cf) (w:World) (e:Ending) (w':World):Prop:=∃v,e=.returned v∧Below w.heap.size w w'∧eJ w' b O v wp∧acj v
theorem ET (b g:Nat) (O:Nat→Prop) (ws:List (List UInt8)) (w:World) (hw :∀x∈ws,x≠[]) (hl:ws.length≤100) (b0:eK w O g (ws.map fun x=>Value.string (bK x)).toArray 9) (hO :∀k,O k→k<w.heap.size) (m:Nat) (hm:m=ws.length) :
  Calls Tryz.prog 89 #[.pointer (some ⟨b,0,none⟩),.slice (some ⟨g,0,none⟩) m m] w (ik b O (au ws) w):=by
 have B0:=aa b0;have HO:=aa hO;have HW:=aa hw;have HM:=aa hm;clear b0 hO hw hm;go_enter Tryz.func89,Tryz.ntmps89
 go_wp2
 go_ret
 have hm:=HM.out;subst hm;have h2:=eK.new w O HO.out #[.pointer (some ⟨b,0,none⟩)] 116;have h1:=eK.new (w.alloc (.cells #[.pointer (some ⟨b,0,none⟩)] 116)) O (fun k hk=>by have:=HO.out k hk;simp;omega) #[.slice (some ⟨g,0,none⟩) ws.length ws.length] 53
 have f1:ay O w (w.alloc (.cells #[.pointer (some ⟨b,0,none⟩)] 116)):=(ay.refl _ _).alloc _;have f2:ay O (w.alloc (.cells #[.pointer (some ⟨b,0,none⟩)] 116)) ((w.alloc (.cells #[.pointer (some ⟨b,0,none⟩)] 116)).alloc (.cells #[.slice (some ⟨g,0,none⟩) ws.length ws.length] 53)):=(ay.refl _ _).alloc _;rw[an] at h1;exact⟨_,rfl,((Below.refl _ _).alloc (ah _) _).alloc (by simp) _,C9 HW.out hl ((B0.out.later f1 (Ext.refl _ _)).later f2 (Ext.refl _ _)) h1 (h2.later f2 (Ext.refl _ _)),_,_,_,rfl⟩
theorem aN.form {W:World} {b:Nat} {O:Nat→Prop} {v:Value} {cO:List cf} (h:aN W b O v cO) :∃A m,v=.slice A m m:=by
 obtain⟨vs,⟨rfl,_⟩ | ⟨g,rfl,_⟩,_⟩:=h.ex
 ·exact⟨none,0,rfl⟩
 ·exact⟨_,_,rfl⟩
def bD (x:List UInt8) (cO:List cf):cf:=fun s K E=>∃t ts,s.ts=t::ts∧(aw x t=true→aK cO { s with ts:=ts} K E)∧(aw x t=false→K s)
theorem bH.after {b n:Nat} {O:Nat→Prop} {T0:List Nd} {K:St→Prop} {E:Int→Prop} {w w1:World} {e:Ending} {w':World} (h:bH b n O T0 K E w1 e w') (hf:ay O w w1):bH b n O T0 K E w e w':=by
 obtain⟨h1,h2⟩:=h;refine⟨hf.trans h1 (Ext.refl _ _),?_⟩;rcases h2 with ⟨s',O',e1,r,x,k⟩ | ⟨l,v,e1,⟨g,m1,m2,m3⟩,k⟩
 ·exact .inl ⟨s',O',e1,r,(Ext.refl O w).trans x hf.size,k⟩
 ·exact .inr ⟨l,v,e1,⟨g,m1,aM hf.size m2,m3⟩,k⟩
theorem bH.ret {b n:Nat} {O:Nat→Prop} {T0:List Nd} {K:St→Prop} {E:Int→Prop} {w:World} {e:Ending} {w':World} (h:bH b n O T0 K E w e w') :∃v,e=.returned v:=by
 rcases h.2 with ⟨_,_,e1,_⟩ | ⟨_,v,e1,_⟩
 ·exact⟨_,e1⟩
 ·exact⟨v,e1⟩
theorem Da (b n g1 g2 g3:Nat) (O:Nat→Prop) (T0:List Nd) (s:St) (K:St→Prop) (E:Int→Prop) (x:List UInt8) (pv:Value) (cO:List cf) (w:World) (hr:Real w b n O T0 s) (hx:x≠[])
  (b1:eK w O g1 #[.pointer (some ⟨b,0,none⟩)] 116) (b2:eK w O g2 #[.string (bK x)] 9) (b3:eK w O g3 #[pv] 117) (hp:aN w b O pv cO) (hk:bD x cO s K E) :
  Calls Tryz.prog 85 #[.pointer (some ⟨n,0,none⟩),.pointer (some ⟨g1,0,none⟩),.pointer (some ⟨g2,0,none⟩),.pointer (some ⟨g3,0,none⟩)] w (bH b n O T0 K E w):=by
 have c1:=b1.cell 0;obtain⟨X,hX⟩ :∃X,X=bK x:=⟨_,rfl⟩;rw[←hX] at b2;have c2:=b2.cell 0;have B3:=aa b3;have HR:=aa hr;have HP:=aa hp;obtain⟨t,ts,hs,hy,hn⟩:=hk;clear b1 b2 b3 hr hp;cases hq:aw x t with
 | true =>
  have HC:=aa (kY HR.out hs x X hX hx hq);have HK:=aa (hy hq);clear hy hn hs hq hX hx;go_enter Tryz.func85,Tryz.ntmps85
  go_wp2_with fail
  refine HC.out.mono ?_;rintro e w2 ⟨rfl,r2,f2⟩;have F2:=aa f2;have c3:=(B3.out.later f2 (Ext.refl _ _)).cell 0;have HF:=aa (uB b n O T0 _ K E pv cO w2 r2 (HP.out.later f2 (Ext.refl _ _)) HK.out);clear r2 f2 c1 c2;go_wp2_with fail
  refine HF.out.mono ?_;intro e w3 h3;obtain⟨v,rfl⟩:=h3.ret;have H3:=aa (h3.after F2.out);clear h3 c3;go_wp2_with fail
  go_ret
  exact H3.out
 | false =>
  have HC:=aa (n0 HR.out hs x X hX hx hq);have HK:=aa (hn hq);clear hy hn hs hq hX hx;go_enter Tryz.func85,Tryz.ntmps85
  go_wp2_with fail
  refine HC.out.mono ?_;rintro e w2 ⟨rfl,r2,f2⟩;have F2:=aa f2;have R2:=aa r2;clear r2 f2 c1 c2;go_wp2_with fail
  go_ret
  exact⟨F2.out,.inl ⟨s,O,rfl,R2.out,Ext.refl _ _,HK.out⟩⟩
theorem wW (b:Nat) (O:Nat→Prop) (x:List UInt8) (X:ByteArray) (hX:X=bK x) (hx:x≠[]) (pv:Value) (cO:List cf) (w:World) (hp:aN w b O pv cO) (hO :∀k,O k→k<w.heap.size) :
  Calls Tryz.prog 42 #[.pointer (some ⟨b,0,none⟩),.string X,pv] w (ik b O (bD x cO) w):=by
 subst hX;obtain⟨A,m,rfl⟩:=hp.form;have HP:=aa hp;have HO:=aa hO;have HX:=aa hx;clear hp hO hx;go_enter Tryz.func42,Tryz.ntmps42
 go_wp2
 go_ret
 refine⟨_,rfl,(((Below.refl _ _).alloc (ah _) _).alloc (by simp) _).alloc (by simp;omega) _,?_,_,_,_,rfl⟩
 intro W1 O1 T0 s n K E hf he hr hk;have f1:ay O w (w.alloc (.cells #[.pointer (some ⟨b,0,none⟩)] 116)):=(ay.refl _ _).alloc _;have f2:=(ay.refl O (w.alloc (.cells #[.pointer (some ⟨b,0,none⟩)] 116))).alloc (.cells #[.string (bK x)] 9);have f3:=(ay.refl O ((w.alloc (.cells #[.pointer (some ⟨b,0,none⟩)] 116)).alloc (.cells #[.string (bK x)] 9))).alloc (.cells #[.slice A m m] 117);have h1:=eK.new w O HO.out #[.pointer (some ⟨b,0,none⟩)] 116;have h2:=eK.new (w.alloc (.cells #[.pointer (some ⟨b,0,none⟩)] 116)) O (fun k hk=>by have:=HO.out k hk;simp;omega) #[.string (bK x)] 9
 have h3:=eK.new ((w.alloc (.cells #[.pointer (some ⟨b,0,none⟩)] 116)).alloc (.cells #[.string (bK x)] 9)) O (fun k hk=>by have:=HO.out k hk;simp;omega) #[.slice A m m] 117
 rw[an] at h2 h3;rw[an] at h3;have Af:=((HP.out.later f1 (Ext.refl _ _)).later f2 (Ext.refl _ _)).later f3 (Ext.refl _ _);exact⟨85,_,_,rfl,enters_of Tryz.func85 (by kernel_rfl) rfl,Da b n _ _ _ O1 T0 s K E x _ cO W1 hr HX.out (((h1.later f2 (Ext.refl _ _)).later f3 (Ext.refl _ _)).later hf he) ((h2.later f3 (Ext.refl _ _)).later hf he) (h3.later hf he) (Af.later hf he) hk⟩
def dG (x:List UInt8) (wp:cf):cf:=fun s K E=>∃t ts,s.ts=t::ts∧(aw x t=true→K s)∧(aw x t=false→wp s K E)
theorem Rg (w:World):Below w.heap.size w w.drew:=⟨rfl,rfl,rfl,ah _,fun _ _=>rfl⟩
theorem AD {w w':World} (h:Below w.drew.heap.size w.drew w'):Below w.heap.size w w':=⟨h.os,h.tape,h.output,h.size,h.block⟩
theorem jm {W:World} {b n:Nat} {O:Nat→Prop} {T0:List Nd} {s:St} (h:Real W b n O T0 s) {t:aj} {ts:List aj} (hs:s.ts=t::ts) (W1:World) (hb:Below W.heap.size W W1) :
  Calls Tryz.prog 38 #[.pointer (some ⟨b,0,none⟩)] W1 fun e w'=>e=.returned (.string (ag t))∧Below W1.heap.size W1 w':=by
 obtain⟨Op,On,T,ks,hO,hd,hp,hn,hl,hc⟩:=h.ex;rw[hs] at hp;exact bS b Op t ts T W1 (hp.below hb)
theorem Real.below {W W':World} {b n:Nat} {O:Nat→Prop} {T0:List Nd} {s:St} (h:Real W b n O T0 s) (hb:Below W.heap.size W W'):Real W' b n O T0 s:=by
 obtain⟨Op,On,T,ks,hO,hd,hp,hn,hl,hc⟩:=h.ex;exact⟨Op,On,T,ks,hO,hd,hp.below hb,hn.below hb,hl,hc⟩
theorem Hf (b n g1 g2 g3:Nat) (O:Nat→Prop) (T0:List Nd) (s:St) (K:St→Prop) (E:Int→Prop) (x:List UInt8) (v:Value) (wp:cf) (w:World) (hr:Real w b n O T0 s) (hx:x≠[])
  (b1:eK w O g1 #[.pointer (some ⟨b,0,none⟩)] 116) (b2:eK w O g2 #[.string (bK x)] 9) (b3:eK w O g3 #[v] 122) (hp:eJ w b O v wp) (hk:dG x wp s K E) :
  Calls Tryz.prog 208 #[.pointer (some ⟨n,0,none⟩),.pointer (some ⟨g1,0,none⟩),.pointer (some ⟨g2,0,none⟩),.pointer (some ⟨g3,0,none⟩)] w (bH b n O T0 K E w):=by
 obtain⟨X,hX⟩ :∃X,X=bK x:=⟨_,rfl⟩;rw[←hX] at b2;obtain⟨t,ts,hs,hy,hn⟩:=hk;have HW:=aa (jm hr hs);have hq :∀q,aw x t=q→((ag t).toList == X.toList)=q:=fun q h=>by rw[Lib.toList_data,Lib.toList_data,hX,←h];exact tA hx t
 generalize ag t=Y at *;have HK:Hid (∀W,Below w.heap.size w W→W.cell? ⟨g1,0,none⟩=some (.pointer (some ⟨b,0,none⟩))∧W.cell? ⟨g2,0,none⟩=some (.string X)):=aa fun W hW=>by
  have f:ay O w W:=ay.ae hW;exact⟨(b1.later f (Ext.refl _ _)).cell 0,(b2.later f (Ext.refl _ _)).cell 0⟩
 have B3:=aa b3;have HR:=aa hr;have HP:=aa hp;obtain⟨c1,c2⟩:=HK.out w (Below.refl _ _);have cur:=aa (Rg w);clear b1 b2 b3 hr hp hX hs;have k0:=aa (HK.out w (Below.refl _ _));cases hz:aw x t with
 | true =>
  have gq:=hq true hz;have HY:=aa (hy hz);clear hy hn hz hq hx;go_enter Tryz.func208,Tryz.ntmps208
  go_wp2_with fail
  go_region_held3 (fun w'=>w'.cell? ⟨g1,0,none⟩=some (.pointer (some ⟨b,0,none⟩))∧w'.cell? ⟨g2,0,none⟩=some (.string X))
   (first|exact kk.out|exact k0.out)
   ((go_at_call 38;with_reducible refine(HW.out _ cur.out).mono ?_;rintro e w2 ⟨rfl,b'⟩;have cur:=aa (AD b');have kk:=aa (HK.out _ cur.out);clear b'))
  all_goals go_wp2
  all_goals go_ret
  all_goals exact⟨ay.ae cur.out,.inl ⟨s,O,rfl,HR.out.below cur.out,Ext.refl _ _,HY.out⟩⟩
 | false =>
  have gq:=hq false hz;have HN:=aa (hn hz);clear hy hn hz hq hx;have HC:Hid (∀W,Below w.heap.size w W→∃f first cap,v=.func (.func f) first cap∧Enters Tryz.prog f∧Calls Tryz.prog f (first.push (.pointer (some ⟨n,0,none⟩))++cap) W (bH b n O T0 K E W)):=aa fun W hW=>by
   obtain⟨f,first,cap,h1,h2,h3⟩:=HP.out W O T0 s n K E (ay.ae hW) (Ext.refl _ _) (HR.out.below hW) HN.out
   exact⟨f,first,cap,h1,h2,by simpa using h3⟩
  have yx:Hid (∀W,Below w.heap.size w W→W.cell? ⟨g3,0,none⟩=some v):=aa fun W hW=>(B3.out.later (O':=O) (ay.ae hW) (Ext.refl _ _)).cell 0
  go_enter Tryz.func208,Tryz.ntmps208
  go_wp2_with fail
  go_region_held3 (fun w'=>w'.cell? ⟨g1,0,none⟩=some (.pointer (some ⟨b,0,none⟩))∧w'.cell? ⟨g2,0,none⟩=some (.string X))
   (first|exact kk.out|exact k0.out)
   ((go_at_call 38;with_reducible refine(HW.out _ cur.out).mono ?_;rintro e w2 ⟨rfl,b'⟩;have cur:=aa (AD b');have kk:=aa (HK.out _ cur.out);clear b'))
  all_goals
   have c3:=yx.out _ cur.out;obtain⟨f,first,cap,rfl,ph,bz⟩:=HC.out _ cur.out
   have ed:=aa bz;clear bz;unfold Enters at ph;go_wp2_with fail
   refine ed.out.mono ?_;intro e w3 h3;obtain⟨v',rfl⟩:=h3.ret;have H3:=aa (h3.after (ay.ae cur.out));clear h3;go_wp2_with fail
   go_ret
   exact H3.out
theorem LH (b:Nat) (O:Nat→Prop) (x:List UInt8) (X:ByteArray) (hX:X=bK x) (hx:x≠[]) (f:FuncId) (first cap:Array Value) (wp:cf) (w:World) (hp:eJ w b O (.func (.func f) first cap) wp) (hO :∀k,O k→k<w.heap.size) :
  Calls Tryz.prog 180 #[.pointer (some ⟨b,0,none⟩),.string X,.func (.func f) first cap] w (ik b O (dG x wp) w):=by
 subst hX;have HP:=aa hp;have HO:=aa hO;have HX:=aa hx;clear hp hO hx;go_enter Tryz.func180,Tryz.ntmps180
 go_wp2
 go_ret
 refine⟨_,rfl,(((Below.refl _ _).alloc (ah _) _).alloc (by simp) _).alloc (by simp;omega) _,?_,_,_,_,rfl⟩
 intro W1 O1 T0 s n K E hf he hr hk;have f1:ay O w (w.alloc (.cells #[.pointer (some ⟨b,0,none⟩)] 116)):=(ay.refl _ _).alloc _;have f2:=(ay.refl O (w.alloc (.cells #[.pointer (some ⟨b,0,none⟩)] 116))).alloc (.cells #[.string (bK x)] 9);have f3:=(ay.refl O ((w.alloc (.cells #[.pointer (some ⟨b,0,none⟩)] 116)).alloc (.cells #[.string (bK x)] 9))).alloc (.cells #[.func (.func f) first cap] 122)
 have h1:=eK.new w O HO.out #[.pointer (some ⟨b,0,none⟩)] 116;have h2:=eK.new (w.alloc (.cells #[.pointer (some ⟨b,0,none⟩)] 116)) O (fun k hk=>by have:=HO.out k hk;simp;omega) #[.string (bK x)] 9
 have h3:=eK.new ((w.alloc (.cells #[.pointer (some ⟨b,0,none⟩)] 116)).alloc (.cells #[.string (bK x)] 9)) O (fun k hk=>by have:=HO.out k hk;simp;omega) #[.func (.func f) first cap] 122
 rw[an] at h2 h3;rw[an] at h3;have Af:=((HP.out.later f1 (Ext.refl _ _)).later f2 (Ext.refl _ _)).later f3 (Ext.refl _ _);exact⟨208,_,_,rfl,enters_of Tryz.func208 (by kernel_rfl) rfl,Hf b n _ _ _ O1 T0 s K E x _ wp W1 hr HX.out (((h1.later f2 (Ext.refl _ _)).later f3 (Ext.refl _ _)).later hf he) ((h2.later f3 (Ext.refl _ _)).later hf he) (h3.later hf he) (Af.later hf he) hk⟩
def qk (x:List UInt8) (cO:List cf):Nat→cf
 | 0,_,_,_=>False
 | k+1,s,K,E=>∃t ts,s.ts=t::ts∧(aw x t=true→aK cO { s with ts:=ts} (fun s'=>qk x cO k s' K E) E)∧(aw x t=false→K s)
def rq (x:List UInt8) (cO:List cf):cf:=fun s K E=>∃k,qk x cO k s K E
theorem AE (b n g1 g2 g3:Nat) (O:Nat→Prop) (T0:List Nd) (s:St) (K:St→Prop) (E:Int→Prop) (x:List UInt8) (pv:Value) (cO:List cf) (w:World) (hr:Real w b n O T0 s) (hx:x≠[])
  (b1:eK w O g1 #[.pointer (some ⟨b,0,none⟩)] 116) (b2:eK w O g2 #[.string (bK x)] 9) (b3:eK w O g3 #[pv] 117) (hp:aN w b O pv cO) (hk:rq x cO s K E) :
  Calls Tryz.prog 148 #[.pointer (some ⟨n,0,none⟩),.pointer (some ⟨g1,0,none⟩),.pointer (some ⟨g2,0,none⟩),.pointer (some ⟨g3,0,none⟩)] w (bH b n O T0 K E w):=by
 obtain⟨X,hX⟩ :∃X,X=bK x:=⟨_,rfl⟩;rw[←hX] at b2;have B1:=aa b1;have B2:=aa b2;have B3:=aa b3;have HR:=aa hr;have HP:=aa hp;have HX:=aa hX;have HN:=aa hx;obtain⟨m,hm⟩:=hk;have HM:=aa hm;clear b1 b2 b3 hr hp hX hx hm;go_enter Tryz.func148,Tryz.ntmps148
 go_wp2_with fail
 go_loopg [] m (fun z wr=>∃(O1:Nat→Prop) (s1:St),Real wr b n O1 T0 s1∧ay O w wr∧Ext O O1 w∧qk x cO z s1 K E)
 case atStart=>exact⟨O,s,HR.out,ay.refl _ _,Ext.refl _ _,HM.out⟩
 case round =>
  obtain⟨O1,s1,hr1,kT,uC,iX⟩:=hrel;have ny:=aa hr1;have fA:=aa kT;have ow:=aa uC;have c1:=(B1.out.later kT uC).cell 0;have c2:=(B2.out.later kT uC).cell 0;cases gk with
  | zero=>exact iX.elim
  | succ z =>
   obtain⟨t,ts,hs,hy,hn⟩:=iX;clear hr1 kT uC;cases hq:aw x t with
   | true =>
    have HC:=aa (kY ny.out hs x X HX.out HN.out hq);have HK:=aa (hy hq);clear hy hn hs hq;go_wp2_with fail
    refine HC.out.mono ?_;rintro e w2 ⟨rfl,r2,f2⟩;have mj:=fA.out.trans f2 ow.out;have F2:=aa mj;have c3:=(B3.out.later mj ow.out).cell 0;have HF:=aa (uB b n O1 T0 _ (fun s'=>qk x cO z s' K E) E pv cO w2 r2 (HP.out.later mj ow.out) HK.out)
    clear r2 f2 mj c1 c2;go_wp2_with fail
    refine HF.out.mono ?_;rintro e w3 ⟨f3,h3⟩;have F3:=aa (F2.out.trans f3 ow.out);rcases h3 with ⟨s3,O3,rfl,r3,x3,k3⟩ | ⟨l,v,rfl,m3,k3⟩
    ·have R3:=aa r3
     have X3:=aa (ow.out.trans x3 F2.out.size);have K3:=aa k3;clear f3 r3 x3 k3 c3;go_wp2_with fail
     go_roundg z
     case measure=>omega
     case rel=>exact⟨O3,s3,R3.out,F3.out,X3.out,K3.out⟩
    ·obtain⟨g',rfl,hg1,hg2⟩:=m3
     have M3:=aa hg2;have HG:=aa (aM F2.out.size hg1);have K3:=aa k3;clear f3 hg1 hg2 k3 c3;go_wp2_with fail
     go_ret
     exact⟨F3.out,.inr ⟨l,_,rfl,⟨g',rfl,HG.out,M3.out⟩,K3.out⟩⟩
   | false =>
    have HC:=aa (n0 ny.out hs x X HX.out HN.out hq);have HK:=aa (hn hq);clear hy hn hs hq;go_wp2_with fail
    refine HC.out.mono ?_;rintro e w2 ⟨rfl,r2,f2⟩;have F2:=aa (fA.out.trans f2 ow.out);have R2:=aa r2;clear r2 f2 c1 c2;go_wp2_with fail
    go_ret
    exact⟨F2.out,.inl ⟨s1,O1,rfl,R2.out,ow.out,HK.out⟩⟩
theorem Db (b:Nat) (O:Nat→Prop) (x:List UInt8) (X:ByteArray) (hX:X=bK x) (hx:x≠[]) (pv:Value) (cO:List cf) (w:World) (hp:aN w b O pv cO) (hO :∀k,O k→k<w.heap.size) :
  Calls Tryz.prog 92 #[.pointer (some ⟨b,0,none⟩),.string X,pv] w (ik b O (rq x cO) w):=by
 subst hX;obtain⟨A,m,rfl⟩:=hp.form;have HP:=aa hp;have HO:=aa hO;have HX:=aa hx;clear hp hO hx;go_enter Tryz.func92,Tryz.ntmps92
 go_wp2
 go_ret
 refine⟨_,rfl,(((Below.refl _ _).alloc (ah _) _).alloc (by simp) _).alloc (by simp;omega) _,?_,_,_,_,rfl⟩
 intro W1 O1 T0 s n K E hf he hr hk;have f1:ay O w (w.alloc (.cells #[.pointer (some ⟨b,0,none⟩)] 116)):=(ay.refl _ _).alloc _;have f2:=(ay.refl O (w.alloc (.cells #[.pointer (some ⟨b,0,none⟩)] 116))).alloc (.cells #[.string (bK x)] 9);have f3:=(ay.refl O ((w.alloc (.cells #[.pointer (some ⟨b,0,none⟩)] 116)).alloc (.cells #[.string (bK x)] 9))).alloc (.cells #[.slice A m m] 117);have h1:=eK.new w O HO.out #[.pointer (some ⟨b,0,none⟩)] 116;have h2:=eK.new (w.alloc (.cells #[.pointer (some ⟨b,0,none⟩)] 116)) O (fun k hk=>by have:=HO.out k hk;simp;omega) #[.string (bK x)] 9
 have h3:=eK.new ((w.alloc (.cells #[.pointer (some ⟨b,0,none⟩)] 116)).alloc (.cells #[.string (bK x)] 9)) O (fun k hk=>by have:=HO.out k hk;simp;omega) #[.slice A m m] 117
 rw[an] at h2 h3;rw[an] at h3;have Af:=((HP.out.later f1 (Ext.refl _ _)).later f2 (Ext.refl _ _)).later f3 (Ext.refl _ _);exact⟨148,_,_,rfl,enters_of Tryz.func148 (by kernel_rfl) rfl,AE b n _ _ _ O1 T0 s K E x _ cO W1 hr HX.out (((h1.later f2 (Ext.refl _ _)).later f3 (Ext.refl _ _)).later hf he) ((h2.later f3 (Ext.refl _ _)).later hf he) (h3.later hf he) (Af.later hf he) hk⟩
theorem bu.app {T:List Nd} :∀{xs ys:List Ast} {ks ls:List Int} {js is:List Nat},bu T xs ks js→bu T ys ls is→bu T (xs++ys) (ks++ls) (js++is)
 | [],ys,ks,ls,js,is,h1,h2=>by
  unfold bu at h1;obtain⟨rfl,rfl⟩:=h1;exact h2
 | a::xs,ys,ks,ls,js,is,h1,h2=>by
  unfold bu at h1;obtain⟨k,iu,j1,j2,rfl,e1,e2,rfl⟩:=h1;show bu T (a::(xs++ys)) (k::(iu++ls)) (j1++j2++is)
  unfold bu;exact⟨k,iu++ls,j1,j2++is,rfl,e1,bu.app e2 h2,by rw[fK]⟩
theorem range_split (a b c:Nat) (h1:a≤b) (h2:b≤c):List.range' a (c-a)=List.range' a (b-a)++List.range' b (c-b):=by
 rw[show c-a=(b-a)+(c-b) by omega,←List.range'_append_1,show a+(b-a)=b by omega]
theorem ep.nil (T:List Nd):ep T T [] []:=⟨List.prefix_refl _,[],by unfold bu;exact⟨rfl,rfl⟩,by simp⟩
theorem uD {T T':List Nd} (h:T <+: T') :∀(i:Nat) x,T[i]? = some x→T'[i]? = some x:=by
 obtain⟨r,rfl⟩:=h;intro i x hi;rw[kK (aJ.1 hi).1];exact hi
theorem ep.app {T0 T T':List Nd} {xs ys:List Ast} {ks ls:List Int} (h:ep T0 T xs ks) (k:ep T T' ys ls):ep T0 T' (xs++ys) (ks++ls):=by
 obtain⟨p1,js,r1,q1⟩:=h;obtain⟨p2,is,r2,q2⟩:=k;refine⟨p1.trans p2,js++is,(bu.more (uD p2) xs ks js r1).app r2,?_⟩;rw[range_split T0.length T.length T'.length p1.length_le p2.length_le];exact q1.append q2
theorem ep.len {T0 T:List Nd} {xs:List Ast} {ks:List Int} (h:ep T0 T xs ks):T.length=T0.length+Ast.ak xs:=by
 obtain⟨p1,js,r1,q1⟩:=h;have h1:=bu.len xs ks js r1;have h2:=q1.length_eq;rw[J7] at h2;have:=p1.length_le;omega
theorem ep.num {T0 T:List Nd} {xs:List Ast} {ks:List Int} (h:ep T0 T xs ks):ks.length=xs.length:=by
 obtain⟨_,js,r1,_⟩:=h;exact r1.count
def RK (K:Ast→List aj→Prop) (E:Int→Prop):Except Int (Ast×List aj)→Prop
 | .ok (a,ts)=>K a ts
 | .error l=>E l
abbrev iT:=List aj→Nat→(Ast→List aj→Prop)→(Int→Prop)→Prop
def One (W:World) (b:Nat) (O:Nat→Prop) (v:Value) (wp:iT):Prop :=
 ∀W1 O1 T ts K E,ay O W W1→Ext O O1 W→PS W1 b O1 ts T→wp ts T.length K E→EI v #[] W1 (aG b O1 T (RK K E) W1)
theorem One.later {W W':World} {b:Nat} {O O':Nat→Prop} {v:Value} {wp:iT} (h:One W b O v wp) (hf:ay O W W') (he:Ext O O' W):One W' b O' v wp :=
 fun W1 O1 T ts K E h1 h2 h3 h4=>h W1 O1 T ts K E (hf.trans h1 he) (he.trans h2 hf.size) h3 h4
def yy (W:World) (b:Nat) (O:Nat→Prop) (v:Value) (mf:List aj→Bool×List aj):Prop :=
 ∀W1 O1 T ts,ay O W W1→Ext O O1 W→PS W1 b O1 ts T→EI v #[] W1 (kX b O1 (mf ts).2 T (mf ts).1 W1)
theorem yy.later {W W':World} {b:Nat} {O O':Nat→Prop} {v:Value} {mf:List aj→Bool×List aj} (h:yy W b O v mf) (hf:ay O W W') (he:Ext O O' W):yy W' b O' v mf :=
 fun W1 O1 T ts h1 h2 h3=>h W1 O1 T ts (hf.trans h1 he) (he.trans h2 hf.size) h3
def sK (wp:iT) (mf:List aj→Bool×List aj):Nat→List aj→Nat→List Ast→(List Ast→List aj→Prop)→(Int→Prop)→Prop
 | 0,_,_,_,_,_=>False
 | k+1,ts,n,acc,K,E=>wp ts n (fun a fI=>((mf fI).1=true→sK wp mf k (mf fI).2 (n+a.size) (acc++[a]) K E)∧((mf fI).1=false→K (acc++[a]) (mf fI).2)) E
abbrev rr (W:World) (b:Nat) (v:Value) (ks:List Int):Prop:=W.ownsRow (b+1) 3 1 v ks.length (ks.map (Value.int .i64))
def Rh (b:Nat) (O:Nat→Prop) (T0:List Nd) (K:List Ast→List aj→Prop) (E:Int→Prop) (w:World) (e:Ending) (w':World):Prop :=
 ay O w w'∧((∃v xs ks ts O' T,e=.returned (.tuple #[v,.nilIface])∧PS w' b O' ts T∧Ext O O' w∧ep T0 T xs ks∧rr w' b v ks∧(∀g,v.ownBlock=some g→¬ O' g∧w.heap.size≤g)∧ks≠[]∧ks.length≤100000∧K xs ts) ∨
  (∃l er,e=.returned (.tuple #[.slice none 0 0,er])∧QU w.heap.size w' er l∧E l))
theorem Dc:(Tryz.prog.info? 3).map (fun i=>(i.zero,i.size,i.bytes))=some (some (.int .i64 0),1,8):=by kernel_rfl
theorem ay.uG {w w':World} {v:Value} {B e s n:Nat} {xs:List Value} (h:w.grownBy w' v.ownBlock) (hown:w.ownsRow B e s v n xs) (he:e≠9):ay (fun k=>v.ownBlock=some k) w w' :=
 ⟨h.os,h.tape,h.output,h.size,fun k hk hO=>h.block k hk (fun e=>hO e.symm),fun k hk=>h.block k hk.lt (fun e1=>by
  obtain⟨c1,f1,h1⟩:=hk;obtain⟨c2,h2⟩:=eX hown e1.symm;rw[h1] at h2;injection h2 with h2;injection h2 with _ h2;exact he h2.symm)⟩
theorem WX {ops:Array Oper} {rest:List Oper} {o:Oper} {a:Act} {Q:Exit→Act→World→Prop} (w:World) (p:Int) (hgd:o.guard=none) (sl y:Operand)
  (ho:o.op=.call { callee:=.builtin .append,args:=#[sl,y],argTypes:=#[33,33]}) (b:Nat) (v:Value) (ks:List Int) (hs:a.eval sl=v) (hown:rr w b v ks) (hy:a.eval y=.slice (some ⟨w.heap.size,0,none⟩) 1 1)
  (hlen:ks.length≤1000000) (hB:b+1≤w.heap.size)
  (h :∀v' w',rr w' b v' (ks++[p])→ay (fun k=>v.ownBlock=some k) w w'→(∀g,v'.ownBlock=some g→v.ownBlock=some g∨w.heap.size≤g)→wpList Tryz.prog ops Q rest (a.put o.dst v') w'):wpList Tryz.prog ops Q (o::rest) a (w.alloc (.cells #[.int .i64 p] 3)):=by
 obtain⟨i0,mY,hz0,hz1,hz2⟩:=info_parts Dc;have hc:=cell_of_row (w.alloc (.cells #[.int .i64 p] 3)) w.heap.size 0 _ 3 (0,0) (heap_alloc_new w _);refine wpList_append_lies (P:=Tryz.prog) _ hgd sl y 33 ho (b+1) 3 i0 (.int .i64 0) 1 8 Tryz.underlying33 mY hz0 hz1 hz2 rfl (by omega) v ks.length (ks.map (Value.int .i64)) hs (World.ownsRow.alloc hown _) ⟨w.heap.size,0,none⟩ 1 1 [.int .i64 p] hy rfl
  (fun j u hj=>by
   cases j with
   | zero=>obtain rfl:=gz hj;exact hc
   | succ j=>simp at hj) (fun u hu=>by obtain rfl:=bZ.1 hu;rfl) (by omega) (by unfold maxLen;omega) (by omega) (by simp;omega) (w.heap.size+1) (by simp) ?_
 intro g cap w' h1 h2 h3 _;refine h _ w' ?_ ?_ ?_
 ·unfold rr
  rw[cI,me];exact h1
 ·exact((ay.refl (fun k=>v.ownBlock=some k) w).alloc _).trans (ay.uG h2 (World.ownsRow.alloc hown _) (by decide)) (Ext.refl _ _)
 ·intro g' vO
  simp[Value.ownBlock] at vO;subst vO;rcases h3 with h3|h3
  ·exact .inl h3
  ·exact .inr (by omega)
theorem aat (b:Nat) (O:Nat→Prop) (ts:List aj) (T0:List Nd) (one more:Value) (wp:iT) (mf:List aj→Bool×List aj) (K:List Ast→List aj→Prop) (E:Int→Prop) (m:Nat) (hm:m≤100000) (w:World) (hp:PS w b O ts T0) (h1:One w b O one wp) (h2:yy w b O more mf) (hk:sK wp mf m ts T0.length [] K E) :
  Calls Tryz.prog 145 #[one,more] w (Rh b O T0 K E w):=by
 have HP:=aa hp;have H1:=aa h1;have H2:=aa h2;have HK:=aa hk;have tb:=(hp.own b hp.at_).2;clear hp h1 h2 hk;go_enter Tryz.func145,Tryz.ntmps145
 go_wp2_with fail
 go_loopg [6] m (fun z tv wr=>∃(O1:Nat→Prop) (T:List Nd) (xs:List Ast) (ks:List Int) (tr:List aj),PS wr b O1 tr T∧ay O w wr∧Ext O O1 w∧ep T0 T xs ks∧rr wr b tv ks∧(∀g,tv.ownBlock=some g→¬ O1 g∧w.heap.size≤g)∧ks.length+z≤m∧sK wp mf z tr T.length xs K E)
 case atStart=>exact⟨O,T0,[],[],ts,HP.out,ay.refl _ _,Ext.refl _ _,ep.nil T0,World.ownsRow_nil _ _ _ _,fun g hg=>by simp[Value.ownBlock] at hg,by simp,HK.out⟩
 case round =>
  obtain⟨O1,T,xs,ks,tr,bY,kT,uC,yz,hr1,wJ,hz,iX⟩:=hrel;have AF:=aa bY;have fA:=aa kT;have ow:=aa uC;have HL1:=aa yz;have ny:=aa hr1;have JI:=aa wJ;cases gk with
  | zero=>exact iX.elim
  | succ z =>
   obtain⟨f,first,cap,rfl,ph,bz⟩:=H1.out wr O1 T tr _ E kT uC bY iX
   rw[show first++(#[]:Array Value)=first by simp] at bz
   have ed:=aa bz;obtain⟨f2,kB,CR,rfl,WY,_⟩:=H2.out wr O1 T tr kT uC bY;clear bY kT uC yz hr1 wJ iX bz;unfold Enters at ph WY;go_wp2_with fail
   refine ed.out.mono ?_;rintro e w2 ⟨fr2,h2⟩;have F2:=aa (fA.out.trans fr2 ow.out);rcases h2 with ⟨p,a,iy,O2,T2,rfl,p2,x2,l2,k2⟩ | ⟨l,v,er,rfl,m2,k2⟩
   ·have hrow2:rr w2 b u6 ks:=dh ny.out fun g hg=>fr2.block g (ny.out.lt g hg).2 (JI.out g hg).1
    have uH :∀g,u6.ownBlock=some g→¬ O2 g∧w.heap.size≤g:=fun g hg=>⟨fun h=>by
     rcases x2 g h with h|h
     ·exact(JI.out g hg).1 h
     ·have:=(ny.out.lt g hg).2
      omega,(JI.out g hg).2⟩
    have vX:=aa hrow2;have Ri:=aa uH;have P2:=aa p2;have X2:=aa (ow.out.trans x2 fA.out.size);have L2:=aa (HL1.out.app l2);have LA:=aa l2.len;have K2:=aa k2;have yn:b+1≤w2.heap.size:=by have:=(p2.own b p2.at_).2;omega
    have hsw:w.heap.size≤w2.heap.size:=F2.out.size;clear fr2 hrow2 uH p2 x2 l2 k2;go_wp2_with (at_builtin;refine WX _ (p:Int) rfl _ _ rfl b _ ks rfl vX.out rfl (by omega) yn ?_;intro v4 w4 h4 f4 o4;have H4:=aa h4;have F4:=aa f4;have O4:=aa o4;clear h4 f4 o4)
    have p4:PS w4 b O2 iy T2:=P2.out.kept F4.out (fun k hk e=>(Ri.out k e).1 hk) fun k e=>by have:=(vX.out.lt k e).1;omega
    have F5:=aa (F2.out.trans (F4.out.mono (O1:=fun k=>u6.ownBlock=some k) fun _ h=>h) (fun k hk=>.inr (Ri.out k hk).2))
    have P4:=aa p4;obtain⟨_,_,_,e2,_,pj⟩:=H2.out w4 O2 T2 iy F5.out X2.out p4;injection e2 with e3 e4 e5;injection e3 with e3;subst e3 e4 e5;rw[show kB++(#[]:Array Value)=kB by simp] at pj
    have ru:=aa pj;obtain⟨br,hbr⟩ :∃br,br=(mf iy).1:=⟨_,rfl⟩;rw[←hbr] at ru;have Dd:=aa hbr;clear p4 pj hbr;refine ru.out.mono ?_;rintro e w5 ⟨rfl,p5,WZ⟩;have hn5 :∀g,v4.ownBlock=some g→¬ O2 g∧w.heap.size≤g:=fun g hg=>by
     rcases O4.out g hg with h|h
     ·exact Ri.out g h
     ·exact⟨fun h'=>by have:=(P2.out.own g h').2;omega,by omega⟩
    have EE :∀g,v4.ownBlock=some g→g≠b:=fun g hg e=>(hn5 g hg).1 (e▸P4.out.at_)
    have LI:=aa (show rr w5 b v4 (ks++[(p:Int)]) from dh H4.out fun g hg=>WZ.block g (H4.out.lt g hg).2 (EE g hg))
    have HN5:=aa hn5;have P5:=aa p5;have F6:=aa (F5.out.trans WZ (fun k hk=>X2.out k (hk▸P4.out.at_)))
    clear p5 WZ hn5 EE;cases br with
    | true =>
     go_wp2_with fail
     go_roundg z
     case measure=>omega
     case rel=>exact⟨O2,T2,xs++[a],ks++[(p:Int)],_,P5.out,F6.out,X2.out,L2.out,LI.out,HN5.out,by simp;omega,by
      have:=K2.out.1 Dd.out.symm;rw[LA.out,Ast.ak,Ast.ak];exact this⟩
    | false =>
     go_wp2_with fail
     go_ret2
     exact⟨F6.out,.inl ⟨_,xs++[a],ks++[(p:Int)],_,O2,T2,rfl,P5.out,X2.out,L2.out,LI.out,HN5.out,by simp,by simp;omega,K2.out.2 Dd.out.symm⟩⟩
   ·obtain⟨g',rfl,hg1,hg2⟩:=m2
    have M2:=aa hg2;have HG:=aa (aM fA.out.size hg1);have K2:=aa k2;clear fr2 hg1 hg2 k2;go_wp2_with fail
    go_ret2
    exact⟨F2.out,.inr ⟨l,_,rfl,⟨g',rfl,HG.out,M2.out⟩,K2.out⟩⟩
end Go.Proofs.YteflkdlaoiijbaaGreatDoor
