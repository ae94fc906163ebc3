/- Parts of the proof. -/
import Derived.Laws.EntriesVeiled
import Derived.Test.YtodmcdfeldkocaaGreatDoorK12
set_option maxHeartbeats 16000000
set_option maxRecDepth 20000
namespace Go.Proofs.YtodmcdfeldkocaaGreatDoor
open Go.RowKit
def abA (op:iS) (li:bW):bW:=fun s K E=>∃t r,s.ts=t::r∧((t.1=4∨av [123] t=true)→dy op s K E)∧(t.1≠4→av [123] t=false→aK [au [[40]],dF [41] li,au [[41]]] s K E)
theorem Real.ps {W:World} {b n:Nat} {O:Nat→Prop} {T0:List Nd} {s:St} (h:Real W b n O T0 s) :∃Op T,PS W b Op s.ts T:=by
 obtain⟨Op,On,T,ks,hO,hd,hp,hn,hl,hc⟩:=h.ex;exact⟨Op,T,hp⟩
theorem UG {op:iS} (hT:pN 183 op) (b n:Nat) (O:Nat→Prop) (T0:List Nd) (s:St) (K:St→Prop) (E:Int→Prop) (w:World) (hr:Real w b n O T0 s) (t:ak) (r:List ak) (hs:s.ts=t::r) (hc:t.1=4∨av [123] t=true) (hk:dy op s K E):Calls Tryz.prog 190 #[.pointer (some ⟨b,0,none⟩),.pointer (some ⟨n,0,none⟩)] w (bB b n O T0 K E w):=by
 have HA:Hid (Calls Tryz.prog 49 #[.pointer (some ⟨b,0,none⟩)] w fun e w'=>e=.returned (fW t)∧Below w.heap.size w w'):=aa (by
  obtain⟨Op,T,hp⟩:=hr.ps;rw[hs] at hp;exact cB b Op t r T w hp)
 have HW:=aa (fun W hW=>ju hr hs W hW)
 have HR:=aa hr;have abB:=aa (fun W1 hb=>Cp b O 183 _ _ op W1 (hT.one (enters_of Tryz.func183 (by kernel_rfl) rfl) W1 b O) (hr.below (W':=W1) hb).lt)
 have HK:=aa hk;obtain⟨t0,t1,t2,t3⟩:=t;unfold fW at HA;dsimp only at *
 have F0:=Cm t0 t1 t2 (bG t3);by_cases h4:t0=4
 ·have q4:(t0 == 4)=true:=xd.2 h4
  clear hr hk hs hc h4 HW;generalize bG t3=S at *;go_enter Tryz.func190,Tryz.ntmps190
  go_wp2_with fail
  refine HA.out.mono ?_;rintro e w1 ⟨rfl,b1⟩;have B1:=aa b1;have HC:=aa (abB.out w1 b1);clear b1;go_wp2_with fail
  refine HC.out.mono ?_;rintro e w2 ⟨v,rfl,b2,h2⟩;obtain⟨f,first,cap,rfl,pJ,bq⟩:=h2.1.call HR.out (ax B1.out b2) HK.out
  have ec:=aa bq;clear h2 bq b2;unfold Enters at pJ;go_wp2_with fail
  refine ec.out.mono ?_;intro e w2 h3;obtain⟨v,rfl⟩:=h3.ret;have H3:=aa h3;clear h3;go_wp2_with fail
  go_ret
  exact H3.out
 ·have q4:(t0 == 4)=false:=aC.2 h4
  have hw:av [123] (t0,t1,t2,t3)=true:=hc.elim (fun h=>(h4 h).elim) id
  have g1:((ah (t0,t1,t2,t3)).toList == [123])=true:=ai (s:=[123]) (by decide) _ hw
  clear hr hk hs hc h4 hw;generalize bG t3=S at *;generalize ah (t0,t1,t2,t3)=Y at *;go_enter Tryz.func190,Tryz.ntmps190
  go_wp2_with fail
  refine HA.out.mono ?_;rintro e w1 ⟨rfl,b1⟩;have B1:=aa b1;have ji:=aa (HW.out w1 b1);clear b1;go_wp2_with fail
  refine ji.out.mono ?_;rintro e w2 ⟨rfl,b2⟩;have B2:=aa (ax B1.out b2);have HC:=aa (abB.out w2 B2.out);clear b2;go_wp2_with fail
  refine HC.out.mono ?_;rintro e w3 ⟨v,rfl,b3,h2⟩;obtain⟨f,first,cap,rfl,pJ,bq⟩:=h2.1.call HR.out (ax B2.out b3) HK.out
  have ec:=aa bq;clear h2 bq b3;unfold Enters at pJ;go_wp2_with fail
  refine ec.out.mono ?_;intro e w2 h3;obtain⟨v,rfl⟩:=h3.ret;have H3:=aa h3;clear h3;go_wp2_with fail
  go_ret
  exact H3.out
theorem Qc {li:bW} (hL:ey 98 li) (b n:Nat) (O:Nat→Prop) (T0:List Nd) (s:St) (K:St→Prop) (E:Int→Prop) (w:World) (hr:Real w b n O T0 s) (t:ak) (r:List ak) (hs:s.ts=t::r) (h4:t.1≠4) (hw:av [123] t=false) (hk:aK [au [[40]],dF [41] li,au [[41]]] s K E):Calls Tryz.prog 190 #[.pointer (some ⟨b,0,none⟩),.pointer (some ⟨n,0,none⟩)] w (bB b n O T0 K E w):=by
 have HA:Hid (Calls Tryz.prog 49 #[.pointer (some ⟨b,0,none⟩)] w fun e w'=>e=.returned (fW t)∧Below w.heap.size w w'):=aa (by
  obtain⟨Op,T,hp⟩:=hr.ps;rw[hs] at hp;exact cB b Op t r T w hp)
 have HW:=aa (fun W hW=>ju hr hs W hW)
 have HR:=aa hr;have HK:=aa hk;obtain⟨t0,t1,t2,t3⟩:=t;unfold fW at HA;dsimp only at *
 have F9:=Cm t0 t1 t2 (bG t3);have q4:(t0 == 4)=false:=aC.2 h4;have g1:((ah (t0,t1,t2,t3)).toList == [123])=false:=ai (s:=[123]) (by decide) _ hw
 clear hr hk hs h4 hw;generalize bG t3=S at *;generalize ah (t0,t1,t2,t3)=Y at *;go_enter Tryz.func190,Tryz.ntmps190
 go_wp2_with fail
 refine HA.out.mono ?_;rintro e wa ⟨rfl,b1⟩;have B1:=aa b1;have ji:=aa (HW.out wa b1);clear b1;go_wp2_with fail
 refine ji.out.mono ?_;rintro e w0 ⟨rfl,b2⟩;have F0:=aa (aw.af (O:=O) (ax B1.out b2));have P0:=aa (HR.out.below (ax B1.out b2));clear b2 HW ji HA;have pe :∀k,O k→k<w0.heap.size:=P0.out.lt;have V1:=aa (cA w0 b O pe [40] (by decide) ⟨#[40]⟩ rfl)
 clear pe;go_wp2_with fail
 refine V1.out.mono ?_;rintro e w1 ⟨f1,a1,c1,rfl,b1,h1⟩;have F1:=aa (F0.out.trans (aw.af (O:=O) b1) (Ext.refl _ _));have P1:=aa (P0.out.below b1);have H1:=aa h1;clear b1 h1 V1;have si :∀k,O k→k<w1.heap.size:=P1.out.lt;have V2:=aa (sr w1 b O si [41] (by decide) ⟨#[41]⟩ rfl 98 _ _ (li) (hL.part (enters_of Tryz.func98 (by kernel_rfl) rfl) w1 b O))
 clear si;go_wp2_with fail
 refine V2.out.mono ?_;rintro e w2 ⟨f2,a2,c2,rfl,b2,h2⟩;have F2:=aa (F1.out.trans (aw.af (O:=O) b2) (Ext.refl _ _));have P2:=aa (P1.out.below b2);have L1:=aa (H1.out.later (aw.af (O:=O) b2) (Ext.refl _ _));clear H1;have H1:=L1;clear L1;have H2:=aa h2;clear b2 h2 V2;have Kz :∀k,O k→k<w2.heap.size:=P2.out.lt;have V3:=aa (cA w2 b O Kz [41] (by decide) ⟨#[41]⟩ rfl)
 clear Kz;go_wp2_with fail
 refine V3.out.mono ?_;rintro e w3 ⟨f3,a3,c3,rfl,b3,h3⟩;have F3:=aa (F2.out.trans (aw.af (O:=O) b3) (Ext.refl _ _));have P3:=aa (P2.out.below b3);have L1:=aa (H1.out.later (aw.af (O:=O) b3) (Ext.refl _ _));clear H1;have H1:=L1;clear L1;have L2:=aa (H2.out.later (aw.af (O:=O) b3) (Ext.refl _ _));clear H2;have H2:=L2;clear L2;have H3:=aa h3;clear b3 h3 V3;have HN:=aa (jo w w3 P3.out F3.out (Ext.refl _ _) [.func (.func f1) a1 c1,.func (.func f2) a2 c2,.func (.func f3) a3 c3] [au [[40]],dF [41] (li),au [[41]]] (by simp) ⟨H1.out,H2.out,H3.out,trivial⟩ HK.out)
 go_wp2_with fail
 refine HN.out.mono ?_;intro e wz hz;obtain⟨v,rfl⟩:=hz.ret;have HZ:=aa hz;clear hz;go_wp2_with fail
 go_ret
 exact HZ.out
theorem abC {op:iS} {li:bW} (hT:pN 183 op) (hL:ey 98 li):ey 190 (abA op li):=by
 rintro b n O T0 s K E w hr ⟨t,r,hs,h1,h2⟩;by_cases hc:t.1=4∨av [123] t=true
 ·exact UG hT b n O T0 s K E w hr t r hs hc (h1 hc)
 ·have h4:t.1≠4:=fun h=>hc (.inl h)
  have hw:av [123] t=false:=by
   cases h:av [123] t with
   | true=>exact(hc (.inr h)).elim
   | false=>rfl
  exact Qc hL b n O T0 s K E w hr t r hs h4 hw (h2 h4 hw)
def kx (b:Nat) (O:Nat→Prop) (kind:Int) (cN:List bW) (w:World) (e:Ending) (w':World):Prop:=∃A m,e=.returned (.tuple #[.int .i64 kind,.slice A m m])∧Below w.heap.size w w'∧aN w' b O (.slice A m m) cN
theorem aN.nil (W:World) (b:Nat) (O:Nat→Prop):aN W b O (.slice none 0 0) []:=⟨[],.inl ⟨rfl,rfl⟩,trivial⟩
theorem UH (b:Nat) (O:Nat→Prop) (t:ak) (ts:List ak) (T:List Nd) (w:World) (hp:PS w b O (t::ts) T) (hq:av [46] t=true):Calls Tryz.prog 167 #[.pointer (some ⟨b,0,none⟩)] w (kx b O 8 [aB,tG] w):=by
 have HW:=aa (bL b O t ts T w hp);have g0:((ah t).toList == [46])=true:=ai (s:=[46]) (by decide) t hq
 have P:=aa hp;generalize ah t=Y at *;clear hp hq;go_enter Tryz.func167,Tryz.ntmps167
 go_wp2_with fail
 refine HW.out.mono ?_;rintro e w0 ⟨rfl,b0⟩;have F0:=aa (aw.af (O:=O) b0);have P0:=aa (P.out.below b0);have B0:=aa b0;clear b0;have HO:=aa (fun k hk=>(P0.out.own k hk).2)
 have HN:=aa (aN.new (w:=w0) (b:=b) (O:=O) HO.out [aZ 55 b,aZ 163 b] [aB,tG] (by simp) ⟨bc w0 b O,Py.part (enters_of Tryz.func163 (by kernel_rfl) rfl) w0 b O,trivial⟩)
 go_wp2_with fail
 go_ret2
 exact⟨_,_,rfl,ax B0.out (aX w0 _),HN.out⟩
theorem ZO {ex:bW} (hE:ey 105 ex) (b:Nat) (O:Nat→Prop) (t:ak) (ts:List ak) (T:List Nd) (w:World) (hp:PS w b O (t::ts) T) (hq:av [91] t=true):Calls Tryz.prog 167 #[.pointer (some ⟨b,0,none⟩)] w (kx b O 8 [aB,ex,au [[93]]] w):=by
 have HW:=aa (bL b O t ts T w hp);have g0:=aQ [46] hq (by decide)
 have g1:((ah t).toList == [91])=true:=ai (s:=[91]) (by decide) t hq
 have P:=aa hp;generalize ah t=Y at *;clear hp hq;go_enter Tryz.func167,Tryz.ntmps167
 go_wp2_with fail
 refine HW.out.mono ?_;rintro e w0 ⟨rfl,b0⟩;have F0:=aa (aw.af (O:=O) b0);have P0:=aa (P.out.below b0);have B0:=aa b0;clear b0;have pe :∀k,O k→k<w0.heap.size:=fun k hk=>(P0.out.own k hk).2
 have V1:=aa (cA w0 b O pe [93] (by decide) ⟨#[93]⟩ rfl)
 clear pe;go_wp2_with fail
 refine V1.out.mono ?_;rintro e w1 ⟨f1,a1,c1,rfl,b1,h1⟩;have F1:=aa (F0.out.trans (aw.af (O:=O) b1) (Ext.refl _ _));have B1:=aa (ax B0.out b1);have P1:=aa (P0.out.below b1);have H1:=aa h1;clear b1 h1 V1;have HO:=aa (fun k hk=>(P1.out.own k hk).2)
 have HN:=aa (aN.new (w:=w1) (b:=b) (O:=O) HO.out [aZ 55 b,aZ 105 b,.func (.func f1) a1 c1] [aB,ex,au [[93]]] (by simp) ⟨bc w1 b O,hE.part (enters_of Tryz.func105 (by kernel_rfl) rfl) w1 b O,H1.out,trivial⟩)
 go_wp2_with fail
 go_ret2
 exact⟨_,_,rfl,ax B1.out (aX w1 _),HN.out⟩
theorem JM {ar:bW} (hG:ey 190 ar) (b:Nat) (O:Nat→Prop) (t:ak) (ts:List ak) (T:List Nd) (w:World) (hp:PS w b O (t::ts) T) (hq:av [58] t=true):Calls Tryz.prog 167 #[.pointer (some ⟨b,0,none⟩)] w (kx b O 10 [aB,cR,ar] w):=by
 have HW:=aa (bL b O t ts T w hp);have g0:=aQ [46] hq (by decide)
 have g1:=aQ [91] hq (by decide)
 have g2:((ah t).toList == [58])=true:=ai (s:=[58]) (by decide) t hq
 have P:=aa hp;generalize ah t=Y at *;clear hp hq;go_enter Tryz.func167,Tryz.ntmps167
 go_wp2_with fail
 refine HW.out.mono ?_;rintro e w0 ⟨rfl,b0⟩;have F0:=aa (aw.af (O:=O) b0);have P0:=aa (P.out.below b0);have B0:=aa b0;clear b0;have HO:=aa (fun k hk=>(P0.out.own k hk).2)
 have HN:=aa (aN.new (w:=w0) (b:=b) (O:=O) HO.out [aZ 55 b,aZ 102 b,aZ 190 b] [aB,cR,ar] (by simp) ⟨bc w0 b O,ik w0 b O,hG.part (enters_of Tryz.func190 (by kernel_rfl) rfl) w0 b O,trivial⟩)
 go_wp2_with fail
 go_ret2
 exact⟨_,_,rfl,ax B0.out (aX w0 _),HN.out⟩
theorem JN {ar:bW} (hG:ey 190 ar) (b:Nat) (O:Nat→Prop) (t:ak) (ts:List ak) (T:List Nd) (w:World) (hp:PS w b O (t::ts) T) (hq:av [40] t=true):Calls Tryz.prog 167 #[.pointer (some ⟨b,0,none⟩)] w (kx b O 9 [ar] w):=by
 have HW:=aa (bL b O t ts T w hp);have g0:=aQ [46] hq (by decide)
 have g1:=aQ [91] hq (by decide)
 have g2:=aQ [58] hq (by decide)
 have g3:((ah t).toList == [40])=true:=ai (s:=[40]) (by decide) t hq
 have P:=aa hp;generalize ah t=Y at *;clear hp hq;go_enter Tryz.func167,Tryz.ntmps167
 go_wp2_with fail
 refine HW.out.mono ?_;rintro e w0 ⟨rfl,b0⟩;have F0:=aa (aw.af (O:=O) b0);have P0:=aa (P.out.below b0);have B0:=aa b0;clear b0;have HO:=aa (fun k hk=>(P0.out.own k hk).2)
 have HN:=aa (aN.new (w:=w0) (b:=b) (O:=O) HO.out [aZ 190 b] [ar] (by simp) ⟨hG.part (enters_of Tryz.func190 (by kernel_rfl) rfl) w0 b O,trivial⟩)
 go_wp2_with fail
 go_ret2
 exact⟨_,_,rfl,ax B0.out (aX w0 _),HN.out⟩
theorem JO {ar:bW} (hG:ey 190 ar) (b:Nat) (O:Nat→Prop) (t:ak) (ts:List ak) (T:List Nd) (w:World) (hp:PS w b O (t::ts) T) (hq:av [123] t=true):Calls Tryz.prog 167 #[.pointer (some ⟨b,0,none⟩)] w (kx b O 9 [ar] w):=by
 have HW:=aa (bL b O t ts T w hp);have g0:=aQ [46] hq (by decide)
 have g1:=aQ [91] hq (by decide)
 have g2:=aQ [58] hq (by decide)
 have g3:=aQ [40] hq (by decide)
 have g4:((ah t).toList == [123])=true:=ai (s:=[123]) (by decide) t hq
 have P:=aa hp;generalize ah t=Y at *;clear hp hq;go_enter Tryz.func167,Tryz.ntmps167
 go_wp2_with fail
 refine HW.out.mono ?_;rintro e w0 ⟨rfl,b0⟩;have F0:=aa (aw.af (O:=O) b0);have P0:=aa (P.out.below b0);have B0:=aa b0;clear b0;have HO:=aa (fun k hk=>(P0.out.own k hk).2)
 have HN:=aa (aN.new (w:=w0) (b:=b) (O:=O) HO.out [aZ 190 b] [ar] (by simp) ⟨hG.part (enters_of Tryz.func190 (by kernel_rfl) rfl) w0 b O,trivial⟩)
 go_wp2_with fail
 go_ret2
 exact⟨_,_,rfl,ax B0.out (aX w0 _),HN.out⟩
structure Qd (t:ak):Prop where
 a:av [46] t=false
 b:av [91] t=false
 c:av [58] t=false
 d:av [40] t=false
 e:av [123] t=false
theorem UI {ar:bW} (hG:ey 190 ar) (b:Nat) (O:Nat→Prop) (t:ak) (ts:List ak) (T:List Nd) (w:World) (hp:PS w b O (t::ts) T) (hq:Qd t) (h4:t.1=4):Calls Tryz.prog 167 #[.pointer (some ⟨b,0,none⟩)] w (kx b O 9 [ar] w):=by
 have HW:=aa (bL b O t ts T w hp);have g0:((ah t).toList == [46])=false:=ai (s:=[46]) (by decide) t hq.a
 have g1:((ah t).toList == [91])=false:=ai (s:=[91]) (by decide) t hq.b
 have g2:((ah t).toList == [58])=false:=ai (s:=[58]) (by decide) t hq.c
 have g3:((ah t).toList == [40])=false:=ai (s:=[40]) (by decide) t hq.d
 have g4:((ah t).toList == [123])=false:=ai (s:=[123]) (by decide) t hq.e
 have P:=aa hp;have HA:=aa (fun W hW=>cB b O t ts T W hW)
 generalize ah t=Y at *;obtain⟨t0,t1,t2,t3⟩:=t;unfold fW at HA;dsimp only at *
 subst h4;have F9:=Cm 4 t1 t2 (bG t3);generalize bG t3=S at *;clear hp hq;go_enter Tryz.func167,Tryz.ntmps167
 go_wp2_with fail
 refine HW.out.mono ?_;rintro e w0 ⟨rfl,b0⟩;have F0:=aa (aw.af (O:=O) b0);have P0:=aa (P.out.below b0);have B0:=aa b0;clear b0;have HA1:=aa (HA.out _ P0.out);go_wp2_with fail
 refine HA1.out.mono ?_;rintro e w1 ⟨rfl,b1⟩;have F1:=aa (F0.out.trans (aw.af (O:=O) b1) (Ext.refl _ _));have P1:=aa (P0.out.below b1);have B1:=aa (ax B0.out b1);clear b1;have HO:=aa (fun k hk=>(P1.out.own k hk).2)
 have HN:=aa (aN.new (w:=w1) (b:=b) (O:=O) HO.out [aZ 190 b] [ar] (by simp) ⟨hG.part (enters_of Tryz.func190 (by kernel_rfl) rfl) w1 b O,trivial⟩)
 go_wp2_with fail
 go_ret2
 exact⟨_,_,rfl,ax B1.out (aX w1 _),HN.out⟩
theorem Qe (b:Nat) (O:Nat→Prop) (t:ak) (ts:List ak) (T:List Nd) (w:World) (hp:PS w b O (t::ts) T) (hq:Qd t) (h4:t.1≠4):Calls Tryz.prog 167 #[.pointer (some ⟨b,0,none⟩)] w (kx b O 0 [] w):=by
 have HW:=aa (bL b O t ts T w hp);have g0:((ah t).toList == [46])=false:=ai (s:=[46]) (by decide) t hq.a
 have g1:((ah t).toList == [91])=false:=ai (s:=[91]) (by decide) t hq.b
 have g2:((ah t).toList == [58])=false:=ai (s:=[58]) (by decide) t hq.c
 have g3:((ah t).toList == [40])=false:=ai (s:=[40]) (by decide) t hq.d
 have g4:((ah t).toList == [123])=false:=ai (s:=[123]) (by decide) t hq.e
 have P:=aa hp;have HA:=aa (fun W hW=>cB b O t ts T W hW)
 have h4:=h4;generalize ah t=Y at *;obtain⟨t0,t1,t2,t3⟩:=t;unfold fW at HA;dsimp only at *
 have F9:=Cm t0 t1 t2 (bG t3);have q4:(t0 == 4)=false:=aC.2 h4;generalize bG t3=S at *;clear hp hq h4;go_enter Tryz.func167,Tryz.ntmps167
 go_wp2_with fail
 refine HW.out.mono ?_;rintro e w0 ⟨rfl,b0⟩;have F0:=aa (aw.af (O:=O) b0);have P0:=aa (P.out.below b0);have B0:=aa b0;clear b0;have HA1:=aa (HA.out _ P0.out);go_wp2_with fail
 refine HA1.out.mono ?_;rintro e w1 ⟨rfl,b1⟩;have F1:=aa (F0.out.trans (aw.af (O:=O) b1) (Ext.refl _ _));have P1:=aa (P0.out.below b1);have B1:=aa (ax B0.out b1);clear b1;go_wp2_with fail
 go_ret2
 exact⟨_,_,rfl,B1.out,aN.nil _ _ _⟩
theorem Ct {b:Nat} {O:Nat→Prop} {t:ak} {ts:List ak} {T0 T:List Nd} {K:Ast→List ak→Prop} {E:Int→Prop} (w2:World) (g p:Nat) (a:Ast) (hp:PS w2 b O (t::ts) T) (hg:w2.heap[g]? = some (.cells #[.int .i64 (p:Int)] 3 (0,0))) (hgO:¬ O g) (hgb:b+1≤g) (VZ:ez T0 T [a] [(p:Int)])
  (x:Nd) (hx:x=⟨x.kind,0,x.op,x.num,x.s,[],[]⟩) (pv:Value) (cN:List bW) (Gx:aN w2 b (fun k=>O k∨k=g) pv cN)
  (hk:aK cN ⟨{ x with line:=t.2.1},[a],t::ts,T0.length+a.size⟩ (bU K) E) :
  Calls Tryz.prog 23 #[.pointer (some ⟨b,0,none⟩),cZ x (.slice none 0 0) (.slice (some ⟨g,0,none⟩) 1 1),pv] w2 (aF b (fun k=>O k∨k=g) T0 (RK K E) w2):=by
 have h1:x.line=0:=by rw[hx]
 have h2:x.names=[]:=by rw[hx]
 have oT:g<w2.heap.size:=(aM.1 hg).1;have hz:T.length=T0.length+a.size:=by rw[VZ.len,Ast.al,Ast.al];omega
 rw[←hz] at hk;have hrow:w2.ownsRow (b+1) 3 1 (.slice (some ⟨g,0,none⟩) 1 1) 1 [.int .i64 (p:Int)]:=⟨rfl,.inr ⟨g,1,#[.int .i64 (p:Int)],rfl,hgb,hg,ag _,by unfold maxLen;omega,rfl,rfl⟩⟩
 have dJ:jM w2 b (· = g) { x with kids:=[(p:Int)]} (.slice none 0 0) (.slice (some ⟨g,0,none⟩) 1 1):=by
  refine⟨?_,hrow,fun g hg=>by simp[Value.ownBlock] at hg,fun g hg=>by simp[Value.ownBlock] at hg,fun k hk=>by simpa[Value.ownBlock] using hk.symm⟩
  rw[show({ x with kids:=[(p:Int)]}:Nd).names=[] from h2]
  exact World.ownsRow_nil _ _ _ _
 exact zw b O (· = g) t ts T0 T x t.2.1 [a] [(p:Int)] (.slice none 0 0) (.slice (some ⟨g,0,none⟩) 1 1) pv cN (RK K E) w2 hp dJ (fun k hk e=>hgO (e▸hk)) (fun k hk=>⟨by omega,by omega⟩) VZ Gx (.inl ⟨h1,rfl⟩) hk
def jq (t:ak):Int:=if av [46] t=true then 8 else if av [91] t=true then 8 else if av [58] t=true then 10 else if av [40] t=true then 9 else if av [123] t=true then 9 else if t.1=4 then 9 else 0
def GG (ex ar:bW) (t:ak):List bW:=if av [46] t=true then [aB,tG] else if av [91] t=true then [aB,ex,au [[93]]] else if av [58] t=true then [aB,cR,ar] else if av [40] t=true then [ar] else if av [123] t=true then [ar] else if t.1=4 then [ar] else []
theorem Qf {ex ar:bW} (hE:ey 105 ex) (hG:ey 190 ar) (b:Nat) (O:Nat→Prop) (t:ak) (ts:List ak) (T:List Nd) (w:World) (hp:PS w b O (t::ts) T):Calls Tryz.prog 167 #[.pointer (some ⟨b,0,none⟩)] w (kx b O (jq t) (GG ex ar t) w):=by
 unfold jq GG;by_cases h1:av [46] t=true
 ·rw[aj h1,aj h1];exact UH b O t ts T w hp h1
 rw[ae h1,ae h1];by_cases h2:av [91] t=true
 ·rw[aj h2,aj h2];exact ZO hE b O t ts T w hp h2
 rw[ae h2,ae h2];by_cases h3:av [58] t=true
 ·rw[aj h3,aj h3];exact JM hG b O t ts T w hp h3
 rw[ae h3,ae h3];by_cases h4:av [40] t=true
 ·rw[aj h4,aj h4];exact JN hG b O t ts T w hp h4
 rw[ae h4,ae h4];by_cases h5:av [123] t=true
 ·rw[aj h5,aj h5];exact JO hG b O t ts T w hp h5
 rw[ae h5,ae h5];have hn:Qd t:=⟨by simpa using h1,by simpa using h2,by simpa using h3,by simpa using h4,by simpa using h5⟩
 by_cases h6:t.1=4
 ·rw[aj h6,aj h6];exact UI hG b O t ts T w hp hn h6
 ·rw[ae h6,ae h6];exact Qe b O t ts T w hp hn h6
def vQ (ex ar:bW):Nat→Ast→List ak→Nat→(Ast→List ak→Prop)→(Int→Prop)→Prop
 | 0,_,_,_,_,_=>False
 | k+1,a,ts,n,K,E=>∃t r,ts=t::r∧(jq t=0→K a ts)∧(jq t≠0→aK (GG ex ar t) ⟨dz (jq t) t.2.1,[a],ts,n+a.size⟩ (bU fun a' aA=>vQ ex ar k a' aA n K E) E)
def abD (ex ar:bW):iS:=fun ts n K E=>∃t r,ts=t::r∧Pz ex t r n (fun a fG=>∃m,vQ ex ar m a fG n K E) E
theorem Em {ex ar:bW} (hE:ey 105 ex) (hG:ey 190 ar):pN 142 (abD ex ar):=by
 rintro b O ts T0 K E w hp ⟨t,r,rfl,hk⟩;have HA:=aa (Ur hE b O t r T0 _ E w hp hk);have HSF:=aa (fun(O:Nat→Prop) (t:ak) (ts:List ak) (T:List Nd) (W:World) hW=>Qf hE hG b O t ts T W hW)
 clear hp hk hE hG;go_enter Tryz.func142,Tryz.ntmps142
 go_wp2_with fail
 refine HA.out.mono ?_;intro e w1 h1;have F1:=aa h1.1;rcases h1.2 with ⟨p,a,fG,O1,T1,rfl,p1,x1,l1,k1⟩ | ⟨le,v,er,rfl,⟨g',rfl,m2,m3⟩,k1⟩
 ·obtain⟨m,k1⟩:=k1
  have P1:=aa p1;have X1:=aa x1;have L1:=aa l1;have K1:=aa k1;clear h1 p1 x1 l1 k1;go_wp2_with fail
  go_loopg [4,5] (m+1) (fun z lv ev wr=>(∃(p:Nat) (a:Ast) (tr:List ak) (Or:Nat→Prop) (Tr:List Nd) (k:Nat),lv=.int .i64 (p:Int)∧ev=.nilIface∧z=k+1∧PS wr b Or tr Tr∧aw O w wr∧Ext O Or w∧ez T0 Tr [a] [(p:Int)]∧vQ ex ar k a tr T0.length K E) ∨
   (∃(le:Int) (g':Nat),ev=.iface 82 (.pointer (some ⟨g',0,none⟩))∧w.heap.size≤g'∧wr.heap[g']? = some (.cells #[.int .i64 6,.int .i64 le] 86 (0,0))∧aw O w wr∧E le))
  case atStart=>exact .inl ⟨p,a,fG,O1,T1,m,rfl,rfl,rfl,P1.out,F1.out,X1.out,L1.out,K1.out⟩
  case round =>
   rcases hrel with ⟨p,a,tr,Or,Tr,k,rfl,rfl,rfl,pr,fr,xr,lr,kr⟩ | ⟨le,g',rfl,hg,m3,fr,ke⟩
   ·cases k with
    | zero=>exact kr.elim
    | succ k =>
     obtain⟨t,r,rfl,hle,Rf⟩:=kr;have PR:=aa pr;have FR:=aa fr;have XR:=aa xr;have LR:=aa lr;have HSX:=aa (HSF.out Or t r Tr wr pr);have HLE:=aa hle;have HGT:=aa Rf;clear pr fr xr lr hle Rf F1 P1 X1 L1 K1 HA;generalize qA:jq t=kd at *;clear qA;go_wp2_with fail
     refine HSX.out.mono ?_;rintro e w2 ⟨Av,mv,rfl,b2,hpv⟩;have B2:=aa b2;have HPV:=aa hpv;clear b2 hpv;by_cases hc:kd=0
     ·subst hc
      go_wp2_with fail
      go_ret2
      exact⟨FR.out.trans (aw.af (O:=Or) B2.out) XR.out,.inl ⟨p,a,t::r,Or,Tr,rfl,PR.out.below B2.out,XR.out,LR.out,HLE.out (by trivial)⟩⟩
     ·have g1:(kd == 0)=false:=aC.2 hc
      have HC:=aa hc;clear hc;have p2:=PR.out.below B2.out;have P2:=aa p2;have hown2 :∀k,Or k→k<w2.heap.size:=fun k hk=>(p2.own k hk).2
      have hb2:b<w2.heap.size:=(p2.own b p2.at_).2;have HN:=aa (Ct (w2.alloc (.cells #[.int .i64 (p:Int)] 3)) w2.heap.size p a (p2.below (aX w2 _)) (World.alloc_heap_new w2 _) (fun h=>by have:=hown2 _ h;omega) (by omega) LR.out ⟨kd,0,0,0,⟨#[]⟩,[],[]⟩ rfl (.slice Av mv mv) _ (HPV.out.later ((aw.refl _ _).alloc _) (fun k hk=>hk.imp id fun h=>by omega)) (HGT.out HC.out))
      have F4:=aa ((FR.out.trans (aw.af (O:=Or) B2.out) XR.out).trans (aw.af (O:=Or) (aX w2 (.cells #[.int .i64 (p:Int)] 3))) XR.out);have X4:Hid (Ext O (fun k=>Or k∨k=w2.heap.size) w):=aa fun k hk=>by
       rcases hk with hk|rfl
       ·exact XR.out k hk
       ·exact .inr (aL FR.out.size B2.out.size)
      clear p2 hown2;go_wp2_with fail
      refine HN.out.mono ?_;intro e w5 h5;have F5:=aa (F4.out.trans h5.1 X4.out);rcases h5.2 with ⟨p5,a5,ZN,O5,T5,rfl,q5,x5,l5,k5⟩ | ⟨le,v,er,rfl,⟨g',rfl,m2,m3⟩,k5⟩
      ·have Q5:=aa q5
       have X5:=aa (X4.out.trans x5 F4.out.size);have L5:=aa l5;have K5:=aa k5;clear h5 q5 x5 l5 k5;go_wp2_with fail
       go_roundg (k+1)
       case measure=>omega
       case rel=>exact .inl ⟨p5,a5,ZN,O5,T5,k,rfl,rfl,rfl,Q5.out,F5.out,X5.out,L5.out,K5.out⟩
      ·have M3:=aa m3
       have M2:=aa (aL F4.out.size m2);have K5:=aa k5;clear h5 m2 m3 k5;go_wp2_with fail
       go_roundg (k+1)
       case measure=>omega
       case rel=>exact .inr ⟨le,g',rfl,M2.out,M3.out,F5.out,K5.out⟩
   ·have M3:=aa m3
    have HG:=aa hg;have FR:=aa fr;have KE:=aa ke;clear m3 hg fr ke;go_wp2_with fail
    go_ret2
    exact⟨FR.out,.inr ⟨le,_,_,rfl,⟨g',rfl,HG.out,M3.out⟩,KE.out⟩⟩
 ·have M3:=aa m3
  have M2:=aa m2;have K1:=aa k1;clear h1 m2 m3 k1;go_wp2_with fail
  go_loopg [4,5] 1 (fun _ lv ev wr=>lv=v∧ev=.iface 82 (.pointer (some ⟨g',0,none⟩))∧wr=w1)
  case atStart=>exact⟨rfl,rfl,rfl⟩
  case round =>
   obtain⟨rfl,rfl,rfl⟩:=hrel;go_wp2_with fail
   go_ret2
   exact⟨F1.out,.inr ⟨le,_,_,rfl,⟨g',rfl,M2.out,M3.out⟩,K1.out⟩⟩
end Go.Proofs.YtodmcdfeldkocaaGreatDoor
namespace Go.Proofs.YtodmcdfeldkocaaGreatDoor
theorem Qg {t:ak} {o:Int×Nat×Nat} (h:mF t=some o) {s:Nat} (hs:¬ s≤o.2.1) (x:Ast) (ts:List ak):PL (dv (.lvm s x)) (t::ts) (.ok (x,t::ts)):=by
 refine .look ?_;rw[h];show PL (if s≤o.2.1 then _ else _) _ _
 rw[ae hs];exact .ret
variable {t1 t2:ak} {o1 o2:Int×Nat×Nat}
end Go.Proofs.YtodmcdfeldkocaaGreatDoor
namespace Go.Proofs.YtodmcdfeldkocaaGreatDoor
open Go.RowKit
abbrev JP:GL Ast:=dv .una
abbrev UJ:GL Ast:=dv .X6
def zD (N:Nat):bW:=mg (s8 N UJ) ja
section
variable {K:Ast→List ak→Prop} {E:Int→Prop} {K':St→Prop} {N k n:Nat} {h:Nd} {xs:List Ast} {t:ak} {ts:List ak}
theorem UK (K2:List Ast→List ak→Prop) (B:Nat) (C:List Ast→List ak→Prop) (hC :∀xs aA,Ast.al xs+2*aA.length≤B→Wf aA→aA.length<N→(∃u us,aA=u::us∧(av [125] u=true→K2 xs us)∧(av [125] u=false→E u.2.1))→C xs aA) :
  ∀(m:Nat) (ts:List ak) (n:Nat) (acc:List Ast) (t:ak) (r:List ak),ts=t::r→av [125] t=false→ts.length<m→ts.length<N→n+2*ts.length≤60000→Ast.al acc+2*ts.length≤B→Wf ts→Gw (dv (.VS acc):GL (List Ast)) ts K2 E→s6 (s8 N UJ) ja m ts n acc C E:=by
 intro m;induction m with
 | zero=>intro ts n acc t r _ _ h;omega
 | succ m ih =>
  rintro ts n acc t r rfl hb h1 h2 h3 hB hf H;have G:=(Gw.look H).neg (by simp[hb])
  refine⟨h2,h3,hf.zS,(Gw.call G).mono fun(e:Ast) aA p hq=>?_⟩
  have hz:e.size+2*aA.length≤2*(t::r).length:=hq.1;have hf':=p.wf hf;have he:=size_pos e;obtain⟨u,us,rfl⟩:=hf'.fin.cons;have hg:=hq.2.look;have hsz:Ast.al (acc++[e])+2*(u::us).length≤B:=by rw[fk,vL];omega
  simp only[List.length_cons] at h1 h2 h3 hz hsz;rcases eI (av [44] u || av [59] u) with hc|hc
  ·have hnz:u.1≠0:=fun e0=>by simp[av,e0] at hc
   have hf2:=hf'.tail hnz;obtain⟨v,vs,rfl⟩:=hf2.fin.cons;have e1:ja (u::v::vs)=(!av [125] v,v::vs):=pP hc;show(_→_)∧(_→_)
   rw[e1];have G2:=(Gw.call (hg.pos hc).tok).mono (K':=K2) fun l im _ hl=>hl.2.ret
   simp only[List.length_cons] at hz hsz;refine⟨fun hv=>ih (v::vs) (n+e.size) (acc++[e]) v vs rfl (by simpa using hv) (by simp only[List.length_cons];omega) (by simp only[List.length_cons];omega) (by simp only[List.length_cons];omega) (by simp only[List.length_cons];omega) hf2 G2,fun hv=>?_⟩
   have hv':av [125] v=true:=by simpa using hv
   exact hC _ _ (by simp only[List.length_cons];omega) hf2 (by simp only[List.length_cons];omega) ⟨v,vs,rfl,fun _=>((Gw.look G2).pos hv').tok.ret,fun hx=>by rw[hv'] at hx;exact(fX hx.symm).elim⟩
  ·have e1:ja (u::us)=(false,u::us):=ye hc
   show(_→_)∧(_→_)
   rw[e1];have G2:=hg.neg (by simp[hc])
   exact⟨fun hb=>(fX hb).elim,fun _=>hC _ _ (by simp only[List.length_cons];omega) hf' (by simp only[List.length_cons];omega) ⟨u,us,rfl,fun hw=>(G2.want.1 hw).ret,G2.want.2⟩⟩
theorem Qh {at_:Int} (hI:Rm N k ⟨dz 15 at_,[],ts,n⟩) (H:Gw (.call (.VS []) fun(l:List Ast)=>.ret (nd 15 at_ l):GL Ast) ts K E):aK [dF [125] (zD N),au [[125]]] ⟨dz 15 at_,[],ts,n⟩ (bU K) E:=by
 obtain⟨t,r,iY⟩:=hI.cons;dsimp only at iY
 subst iY;have hn:=hI.n;have hx:=hI.xs;have hl:=hI.len;dsimp only at hn hx hl
 have G:=(Gw.call H).mono (K':=fun(l:List Ast) aA=>K (nd 15 at_ l) aA) fun l aA _ hq=>hq.2.ret
 refine⟨t,r,rfl,fun hw=>?_,fun hw=>?_⟩
 ·have G2:=((Gw.look G).pos hw).tok.ret
  refine⟨t,r,rfl,fun _=>cu (hI.tok (h':=dz 15 at_) (aW hw)) G2,fun hw2=>?_⟩
  rw[hw] at hw2;exact(fX hw2.symm).elim
 ·refine⟨by simp,(t::r).length+1,by omega,?_⟩
  refine UK _ (2*(t::r).length) _ (fun xs aA h1 h2 h3 h4=>?_) ((t::r).length+1) (t::r) n [] t r rfl hw (dA _) hl (by omega) (by rw[cz];omega) hI.wf G
  obtain⟨u,us,rfl,h5,h6⟩:=h4;refine⟨u,us,rfl,fun hu=>?_,h6⟩
  exact⟨by show n+Ast.al xs≤_;omega,h5 hu⟩
end
def WN (ts:List ak) (v:Ast) (aA:List ak):Prop:=v.hd.kind=7→∃t,ts=t::aA∧t.1=1
def GH:(n:NT)→List ak→VT n→List ak→Prop
 | .aS x,ts,v,aA=>(Ast.hd v).kind=7→v=x∧aA=ts
 | .lvm _ x,ts,v,aA=>(Ast.hd v).kind=7→v=x∧aA=ts
 | .Im,ts,v,aA=>WN ts v aA
 | .VU,ts,v,aA=>WN ts v aA
 | .una,ts,v,aA=>WN ts v aA
 | .exp _,ts,v,aA=>WN ts v aA
 | .Ks _ _,_,v,_=>(Ast.hd v).kind=11
 | _,_,_,_=>True
section
variable {α:Type} {Q:α→List ak→Prop}
abbrev Np (g:GL α) (ts:List ak) (Q:α→List ak→Prop):Prop:=Wp GH g ts Q
theorem nV {f:ak→GL α} {ts:List ak} (h :∀t aA,ts=t::aA→Np (f t) (t::aA) Q):Np (.look f) ts Q:=fun t aA e=>by
 subst e;exact h t aA rfl
theorem gY {f:ak→GL α} {t:ak} {ts:List ak} (h:Np (f t) ts Q):Np (.tok f) (t::ts) Q:=fun u us e=>by
 injection e with e1 e2;subst e1 e2;exact h
theorem ew {n:NT} {k:VT n→GL α} {ts:List ak} (h :∀v aA,GH n ts v aA→Np (k v) aA Q):Np (.call n k) ts Q:=h
theorem gZ {c:Prop} [Decidable c] {g g':GL α} {ts:List ak} (h1:c→Np g ts Q) (h2:¬ c→Np g' ts Q):Np (if c then g else g') ts Q:=by
 by_cases h:c
 ·rw[aj h];exact h1 h
 ·rw[ae h];exact h2 h
theorem sx {s:List UInt8} {k:ak→GL α} {ts:List ak} (h :∀t aA,Np (k t) aA Q):Np (want s k) ts Q:=nV fun t aA _=>gZ (fun _=>gY (h t aA)) fun _=>trivial
theorem Qi {k:ak→GL α} {ts:List ak} (h :∀t aA,Np (k t) aA Q):Np (name k) ts Q:=nV fun t aA _=>gZ (fun _=>gY (h t aA)) fun _=>trivial
end
theorem Qj {k:Int} {P:Prop} {l:Int} {o nn:Int} {s:ByteArray} {ns:List ByteArray} {ks:List Int} {as_:List Ast} (hk:k≠7):(Ast.hd (.mk ⟨k,l,o,nn,s,ns,ks⟩ as_)).kind=7→P:=fun h=>absurd h hk
theorem abE (n:NT) (ts:List ak):Np (dv n) ts (GH n ts):=by
 cases n with
 | aS x =>
  refine nV fun t aA e=>?_
  subst e;have key :∀(y:Ast) (im:List ak),(∀P:Prop,y.hd.kind=7→P)→Np (.call (.aS y) fun(v:Ast)=>.ret v:GL Ast) im (GH (.aS x) (t::aA)):=fun y im hy=>ew fun(v:Ast) C0 (h:v.hd.kind=7→v=y∧C0=im)=>fun(hv:v.hd.kind=7)=>by
   have:=(h hv).1;subst this;exact hy _ hv
  refine gZ (fun _=>gY (Qi fun u us=>key _ _ fun P=>Qj (by decide))) fun _=>gZ (fun _=>gY (ew fun(e:Ast) us _=>sx fun _ Rn=>key _ _ fun P=>Qj (by decide))) fun _ =>
   gZ (fun _=>gY (Qi fun u us=>ew fun(l:List Ast) Rn _=>key _ _ fun P=>Qj (by decide))) fun _=>gZ (fun _=>ew fun(l:List Ast) Rn _=>key _ _ fun P=>Qj (by decide)) fun _=>?_
  exact fun _=>⟨rfl,rfl⟩
 | lvm s x =>
  refine nV fun t aA e=>?_
  subst e;cases ho:mF t with
  | none=>exact fun _=>⟨rfl,rfl⟩
  | some o =>
   refine gZ (fun _=>gY (ew fun(y:Ast) us _=>ew fun(v:Ast) Rn (h:v.hd.kind=7→v=ndO 12 t.2.1 o.1 [x,y]∧Rn=us)=>fun(hv:v.hd.kind=7)=>?_)) fun _=>fun _=>⟨rfl,rfl⟩
   have:=(h hv).1;subst this;exact absurd hv (by show(12:Int)≠7;decide)
 | Im =>
  refine nV fun t aA e=>?_
  subst e;refine gZ (fun ht=>gY (ew fun(v:Ast) us (h:v.hd.kind=7→v=oE 7 t.2.1 (bG t.2.2.2) []∧us=aA)=>fun(hv:v.hd.kind=7)=>⟨t,by rw[(h hv).2],ht⟩)) fun _ =>
   gZ (fun _=>gY (ew fun(e:Ast) us _=>sx fun _ Rn=>ew fun(v:Ast) us3 (h:v.hd.kind=7→v=nd 14 t.2.1 [e]∧us3=Rn)=>fun(hv:v.hd.kind=7)=>?_)) fun _=>trivial
  have:=(h hv).1;subst this;exact absurd hv (by show(14:Int)≠7;decide)
 | exp s =>
  refine ew fun(x:Ast) us (h1:WN ts x us)=>ew fun(y:Ast) Rn (h2:y.hd.kind=7→y=x∧Rn=us)=>fun(hv:y.hd.kind=7)=>?_
  obtain⟨rfl,rfl⟩:=h2 hv;exact h1 hv
 | una =>
  refine nV fun t aA e=>?_
  subst e;cases ho:lX t with
  | none=>exact ew fun(v:Ast) us (h:WN (t::aA) v us)=>h
  | some o=>exact gY (ew fun(v:Ast) us _=>fun hv=>absurd hv (by show(13:Int)≠7;decide))
 | VU =>
  refine nV fun t aA e=>?_
  subst e;refine gZ (fun _=>gY ?_) fun _=>gZ (fun _=>gY ?_) fun _=>gZ (fun _=>gY ?_) fun _=>gZ (fun _=>gY ?_) fun _=>gZ (fun _=>gY (ew fun(f:Ast) us (h:f.hd.kind=11)=>?_)) fun _=>gZ (fun _=>gY (ew fun(l:List Ast) us _=>?_)) fun _=>gZ (fun _=>gY ?_) fun _=>gZ (fun _=>gY ?_) fun _=>ew fun(v:Ast) us (h:WN (t::aA) v us)=>h
  ·exact Qj (by decide)
  ·exact Qj (by decide)
  ·exact Qj (by decide)
  ·exact Qj (by decide)
  ·exact fun(hv:f.hd.kind=7)=>absurd (h.symm.trans hv) (by decide)
  ·exact Qj (by decide)
  ·exact Qj (by decide)
  ·exact Qj (by decide)
 | Ks at_ self =>
  refine sx fun _ us=>nV fun t aA e=>?_
  subst e;exact gZ (fun _=>gY (ew fun(b:Ast) Rn _=>sx fun _ _=>rfl)) fun _=>ew fun(p:List ByteArray×Int) Rn _=>sx fun _ _=>ew fun(b:Ast) _ _=>sx fun _ _=>rfl
 | _=>exact Wp.always _ _ _ fun _ _=>trivial
end Go.Proofs.YtodmcdfeldkocaaGreatDoor
namespace Go.Proofs.YtodmcdfeldkocaaGreatDoor
open Go.RowKit
section
variable {K:Ast→List ak→Prop} {E:Int→Prop} {K':St→Prop} {N k n:Nat} {h:Nd} {xs:List Ast} {t:ak} {ts:List ak}
theorem lA {t:ak} (hI:Rm N k ⟨h,xs,t::ts,n⟩) (ht:t.1≠0) (hk:Rm N (k+2) ⟨h,xs,ts,n⟩→K' ⟨h,xs,ts,n⟩):aB ⟨h,xs,t::ts,n⟩ K' E:=⟨t,ts,rfl,ht,hk (hI.tok ht)⟩
theorem Rm.hd {h':Nd} (hI:Rm N k ⟨h,xs,ts,n⟩):Rm N k ⟨h',xs,ts,n⟩:=⟨hI.len,hI.n,hI.xs,hI.wf⟩
theorem UL {t:ak} (h:t.1=1) (s:List UInt8):av s t=false:=by simp[av,h]
theorem vR {t:ak} (h:t.1≠2) (h5:t.1≠5):lX t=none:=by simp[lX,av,h,h5]
theorem Qk {t u:ak} {us:List ak} (ht:t.1=1) (hu:av [61] u=true):PL (sq 1) (t::u::us) (.ok (oE 7 t.2.1 (bG t.2.2.2) [],u::us)):=by
 have hq :∀s:List UInt8,s≠[61]→¬ av s u=true:=fun s hs=>aU hu hs
 have hk:u.1=2∨u.1=5:=by rcases aO hu with ⟨l,m,rfl⟩ | ⟨l,m,rfl⟩<;>simp
 have adw:PL (dv (.aS (oE 7 t.2.1 (bG t.2.2.2) []))) (u::us) (.ok (oE 7 t.2.1 (bG t.2.2.2) [],u::us)):=by
  refine .look ?_;have e1:¬ ((av [40] u || av [123] u || decide (u.1=4))=true):=by
   have h1:=hq [40] (by decide)
   have h2:=hq [123] (by decide)
   have h4:¬ u.1=4:=by omega
   simp[h1,h2,h4]
  rw[ae (hq [46] (by decide)),ae (hq [91] (by decide)),ae (hq [58] (by decide)),ae e1]
  exact .ret
 have adx:mF u=none:=by
  have :∀s:List UInt8,s≠[61]→av s u=false:=fun s hs=>bn hu hs
  unfold mF;rw[this _ (by decide),this _ (by decide),this _ (by decide),this _ (by decide),this _ (by decide),this _ (by decide),this _ (by decide),this _ (by decide),this _ (by decide),this _ (by decide),this _ (by decide),this _ (by decide),this _ (by decide),this _ (by decide),this _ (by decide),this _ (by decide),this _ (by decide),this _ (by decide),this _ (by decide)]
  rfl
 have ady:PL (dv (.lvm 1 (oE 7 t.2.1 (bG t.2.2.2) []))) (u::us) (.ok (oE 7 t.2.1 (bG t.2.2.2) [],u::us)):=by
  refine .look ?_;rw[adx];exact .ret
 refine .call (n:=NT.una) (.look ?_) (.call ady .ret);rw[vR (by omega) (by omega)]
 refine .call (n:=NT.VU) (.look ?_) .ret;have hn :∀s:List UInt8,¬ av s t=true:=fun s=>by rw[UL ht];decide
 rw[ae (hn _),ae (hn _),ae (hn _),ae (hn _),ae (hn _),ae (hn _),ae (by omega),ae (by omega)]
 refine .call (n:=NT.Im) (.look ?_) .ret;rw[aj ht];exact .tok (.call adw .ret)
theorem UM (hI:Rm N k ⟨h,[],t::ts,n⟩) (H:Gw UJ (t::ts) K E):WH (oH N) t ts n K E:=by
 have G:=Gw.look H;have hn:=hI.n;have hx:=hI.xs;have hlen:=hI.len;dsimp only at hn hx hlen
 refine⟨fun hw=>?_,fun hw=>⟨fun hf=>?_,fun hf=>?_⟩⟩
 ·exact lA (hI.hd (h':=dz 17 t.2.1)) (aW hw) fun hI=>fR hI (G.pos hw).tok fun e _ hI _ G=>Pp hI G fun _ _ hI _ G=>fR hI G fun v _ hI _ G=>cu hI G.ret
 ·have G:=Gw.call (G.neg (by simp[hw]))
  cases ts with
  | nil=>simp[mh] at hf
  | cons u us =>
   have hf':t.1=1∧u.1=5∧u.2.2.2=[61]:=by simpa[mh,vO] using hf
   have hu:av [61] u=true:=by simp[av,hf'.2.1,hf'.2.2]
   have G2:=(G.1 _ _ (Qk (us:=us) hf'.1 hu)).2;have G3:=(Gw.look G2).pos ⟨hu,rfl⟩;show dy (dR (mJ 5) [cR]) _ (fun s'=>aK [aB,oH N] s' (bU K) E) E
   refine jQ (by simp) ⟨t,u::us,t.2.1,rfl,.inl ⟨rfl,rfl⟩,⟨t,u::us,rfl,fun _=>⟨by dsimp only;omega,nU.mk ?_⟩,fun h=>absurd hf'.1 h⟩⟩
   have hz:Ast.al [oE 5 t.2.1 (bG t.2.2.2) []]=1:=by rw[vL,lx,cz]
   have oI:Rm N k ⟨dz 17 t.2.1,[oE 5 t.2.1 (bG t.2.2.2) []],u::us,n+Ast.al [oE 5 t.2.1 (bG t.2.2.2) []]⟩:=⟨by show(u::us).length<N;rw[List.length_cons] at hlen;omega,by show n+Ast.al _+2*(u::us).length+k≤60000;rw[hz];rw[List.length_cons] at hn;omega,by show 1+2*(u::us).length+k≤60000;rw[List.length_cons,List.length_nil] at hx;omega,hI.wf.tail (by rw[hf'.1];decide)⟩
   exact lA oI (aW hu) fun hI=>fR hI G3.tok fun v _ hI _ G=>cu hI G.ret
 ·have G:=Gw.call (G.neg (by simp[hw]))
  refine jQ (by simp) ⟨hlen,by show n+2*(t::ts).length≤60000;omega,hI.wf.zS,G.mono fun(e:Ast) aA p hq=>nU.mk ?_⟩
  have hz:e.size+2*aA.length+1≤2*(t::ts).length:=hq.1;have zA:=p.wf hI.wf;obtain⟨u,us,rfl⟩:=zA.fin.cons;have hno:¬ (av [61] u=true∧e.hd.kind=7):=fun⟨h1,h2⟩=>by
   have h3:WN (t::ts) e (u::us):=p.holds abE;obtain⟨t',e1,e2⟩:=h3 h2;injection e1 with e3 e4;subst e3 e4;have h5:u.1=5∧u.2.2.2=[61]:=by
    have hl:=(zA.zS u (bH ..)).2;rcases aO h1 with ⟨l,m,rfl⟩ | ⟨l,m,rfl⟩
    ·exact absurd rfl (hl rfl)
    ·exact⟨rfl,rfl⟩
   simp[mh,vO,e2,h5.1,h5.2] at hf
  refine⟨by show n+Ast.al [e]≤_;rw[vL];omega,?_⟩
  exact((Gw.look hq.2).neg hno).ret
def rtP (N:Nat) (op:Int):iS:=s8 N (sq (wP op+1).toNat)
theorem Ql {α:Type} {K:α→List ak→Prop} {s:Nat} {kk:Ast→GL α} (hI:Rm N k ⟨h,xs,ts,n⟩) (H:Gw (.call (.exp s) kk) ts K E)
  (hk :∀(e:Ast) (aA:List ak),Rm N (k+1) ⟨h,xs++[e],aA,n+Ast.al [e]⟩→aA.length<ts.length→Gw (kk e) aA K E→K' ⟨h,xs++[e],aA,n+Ast.al [e]⟩):dy (s8 N (sq s)) ⟨h,xs,ts,n⟩ K' E:=by
 refine jQ (by have:=hI.xs;dsimp only at *;omega) ⟨hI.len,by have:=hI.n;dsimp only at *;omega,hI.wf.zS,?_⟩
 refine(Gw.call H).mono fun(e:Ast) aA p hq=>?_
 have hz:e.size+2*aA.length+1≤2*ts.length:=hq.1;exact nU.mk (hk e aA (hI.kids (by rw[vL];omega) (PL.short p) (p.wf hI.wf)) (by omega) hq.2)
theorem ZP {s:Nat} {l:Int} (hs:l+1=(s:Int)) (hl0:0≤l) :∀(m:Nat) (ts:List ak) (a:Ast) (k:Nat),ts.length<m→Rm N k ⟨dz 0 0,[a],ts,n+a.size⟩→Gw (dv (.lvm s a):GL Ast) ts K E→Cs (rtP N) l m a ts n K E:=by
 intro m;induction m with
 | zero=>intro ts a k h;omega
 | succ m ih =>
  intro ts a k h1 hI H;obtain⟨t,r,rfl⟩:=hI.wf.fin.cons;have G:=Gw.look H;refine⟨t,r,rfl,fun hle=>?_,fun Rf=>?_⟩
  ·cases ho:mF t with
   | none=>rw[ho] at G;exact G.ret
   | some o =>
    rw[ho] at G;have hb:=mi ho;rw[hb.1] at hle;exact(G.neg (by show ¬ s≤o.2.1;omega)).ret
  ·cases ho:mF t with
   | none =>
    rw[yg ho] at Rf;exact absurd (show KC 0≤l from hl0) Rf
   | some o =>
    rw[ho] at G;have hb:=mi ho;rw[hb.1] at Rf ⊢;have G2:=(G.pos (show s≤o.2.1 by omega)).tok
    have he:(wP o.1+1).toNat=o.2.2:=by rw[hb.2.2.1];rfl
    have oI:Rm N k ⟨⟨12,t.2.1,o.1,0,⟨#[]⟩,[],[]⟩,[a],t::r,n+a.size⟩:=⟨hI.len,hI.n,hI.xs,hI.wf⟩;refine lA oI (Gq ho) fun hI=>?_
    show dy (s8 N (sq (wP o.1+1).toNat)) _ _ _
    rw[he];refine Ql hI G2 fun y r2 hI hlt G=>⟨by have:=hI.n;dsimp only at *;omega,?_⟩
    have G3:=(Gw.call G).mono (K':=K) fun v im _ hv=>hv.2.ret
    refine ih r2 _ 0 (by simp at h1;omega) ⟨hI.len,?_,?_,hI.wf⟩ G3
    ·have h1:=hI.n
     rw[vL] at h1;show n+Ast.size (ndO 12 t.2.1 o.1 [a,y])+2*r2.length+0≤60000
     rw[Cl,ig,vL];dsimp only at h1
     omega
    ·have h1:=hI.xs
     show 1+2*r2.length+0≤60000
     dsimp only at h1
     omega
theorem WO {x:Ast} {ts:List ak} {r:Except Int (Ast×List ak)} (h:PL (dv (.lvm 12 x):GL Ast) ts r):r=.ok (x,ts):=by
 cases ts with
 | nil=>cases h
 | cons t ts =>
  cases ho:mF t with
  | none=>exact P.one h (.look (by rw[ho];exact .ret))
  | some o =>
   have hb:=mi ho;have hno:¬ 12≤o.2.1:=by
    have:KC o.1≤10:=by
     obtain⟨_,_,_,h7,h8⟩:=hb;have h9:o.1=1∨o.1=2∨o.1=3∨o.1=4∨o.1=5∨o.1=6∨o.1=7∨o.1=8∨o.1=9∨o.1=10∨o.1=11∨o.1=12∨o.1=13∨o.1=14∨o.1=15∨o.1=16∨o.1=17∨o.1=18∨o.1=19:=by omega
     rcases h9 with h|h|h|h|h|h|h|h|h|h|h|h|h|h|h|h|h|h|h<;>(rw[h];decide)
    omega
   exact P.one h (Qg ho hno x ts)
theorem WQ {ts:List ak} {r:Except Int (Ast×List ak)} (h:PL (sq 12) ts r):PL JP ts r:=by
 cases h with
 | @call _ n k ts fG v r h1 h2 =>
  cases h2 with
  | @call _ n2 k2 ts im v2 r h3 h4 =>
   have h5:=WO (x:=v) h3;injection h5 with h5;injection h5 with h6 h7;cases h4;have h8:PL JP ts (.ok ((v:Ast),fG)):=h1;have e6:(v2:Ast)=v:=h6;show PL JP ts (.ok ((v2:Ast),im))
   rw[e6,h7];exact h8
  | iz h3 =>
   have h5:=WO (x:=v) h3;cases h5
 | iz h1=>exact h1
end
end Go.Proofs.YtodmcdfeldkocaaGreatDoor
namespace Go.Proofs.YtodmcdfeldkocaaGreatDoor
open Go.RowKit
theorem WR :∀(L:List Ky) (p:Nat) (t:Ky),L[p]? = some t→(L.flatMap aP)[p*7]? = some (.int .i64 t.1.kind)
 | [],p,t,h=>by simp at h
 | u::L,0,t,h=>by
  obtain rfl:u=t:=by simpa using h
  rfl
 | u::L,p+1,t,h=>by
  have:=WR L p t (by simpa using h)
  rw[iC,zV (by rw[fe];omega),fe,show(p+1)*7-7=p*7 by omega]
  exact this
theorem ug (g j:Nat):(⟨g,0,none⟩:Addr).add j=⟨g,j,none⟩:=by unfold Addr.add;split<;>simp_all
theorem PS.kind {W:World} {b:Nat} {O:Nat→Prop} {ts:List ak} {T0 T:List Nd} {a:Ast} {p:Nat} (h:PS W b O ts T) (hl:ez T0 T [a] [(p:Int)]) :
  ∃g c,W.cell? ⟨b,2,none⟩=some (.slice (some ⟨g,0,none⟩) T.length c)∧T.length≤c∧p<T.length∧W.cell? ⟨g,p*7,none⟩=some (.int .i64 a.hd.kind)∧O g:=by
 obtain⟨TS,i,g0,c0,nv,L,a1,a2,a3,a4,a5,a6,a7⟩:=h.ex;obtain⟨_,js,hr,_⟩:=hl;unfold bj at hr;obtain⟨k,gU,j1,j2,e1,hr,_,_⟩:=hr;have hk:k=p:=by
  injection e1 with e1 _;omega
 subst hk;obtain⟨hd,ad2⟩:=a;unfold gp at hr;obtain⟨x,rk,hx,hxe,_,_⟩:=hr;have hlt:=(aJ.1 hx).1;have hL:L.length=T.length:=by rw[←a7,bS]
 have hrow:=a6.row;obtain⟨g,c,rfl,_,_⟩:=hrow.form (by omega)
 obtain⟨A,c1,e2,hc⟩:=bC hrow;have hcc:c=c1:=by injection e2
 have hLp :∃t,L[k]? = some t∧t.1=x:=by
  rw[←a7,ef] at hx;cases hq:L[k]? with
  | none=>rw[hq] at hx;simp at hx
  | some t=>rw[hq] at hx;exact⟨t,rfl,by simpa using hx⟩
 obtain⟨t,ht,htx⟩:=hLp;have hcell:=hrow.cells (g:=g) rfl (k*7) _ (WR L k t ht);refine⟨g,c,by rw[←hL];simp[World.cell?,a1],by rw[←hL,hcc];exact hc,hlt,?_⟩
 have LD:t.1.kind=hd.kind:=by rw[htx,hxe]
 have abF:(⟨g,0,none⟩:Addr).add (k*7)=⟨g,k*7,none⟩:=ug g (k*7);rw[abF,LD] at hcell;exact⟨hcell,a6.own g rfl⟩
theorem Real.kind {W:World} {b n:Nat} {O:Nat→Prop} {T0:List Nd} {s:St} (h:Real W b n O T0 s) (k:Int):(∃v,W.cell? ⟨n,0,none⟩=some (.int .i64 v))∧W.frozen? ⟨n,0,none⟩=false∧n<W.heap.size∧aw O W (W.setCell ⟨n,0,none⟩ (.int .i64 k)) ∧
  Real (W.setCell ⟨n,0,none⟩ (.int .i64 k)) b n O T0 { s with h:={ s.h with kind:=k}}:=by
 obtain⟨Op,On,T,ks,hO,hd,hp,hn,hl,hc⟩:=h.ex;obtain⟨nv,kv,hcs,_,hz⟩:=hn.cells;have hf:=hn.fr 0 (.int .i64 k);refine⟨⟨_,hcs.c0⟩,hz 0,(hn.own n hn.at_).2,hf.mono fun j hj=>(hO j).2 (.inr (hj▸hn.at_)),⟨Op,On,T,ks,hO,hd,?_,hn.qV 0 _ rfl rfl fun _ _=>rfl,hl,hc⟩⟩
 exact hp.kept (O1:=(· = n)) hf (fun j hj e=>hd j hj (e▸hn.at_)) fun j e=>by have:=(hn.own n hn.at_).1;omega
theorem pR {w1:World} {b n p:Nat} {Op1 On:Nat→Prop} {h:Nd} {a:Ast} {ks0:List Int} {fG:List ak} {T0 T1:List Nd} (hp:PS w1 b Op1 fG T1) (hn:NU w1 b n On { h with kids:=ks0}) (hd :∀k,Op1 k→¬ On k) (hl:ez T0 T1 [a] [(p:Int)]) :
  ∃v,(w1.alloc (.cells #[.int .i64 (p:Int)] 3)).cell? ⟨n,6,none⟩=some v∧(w1.alloc (.cells #[.int .i64 (p:Int)] 3)).frozen? ⟨n,6,none⟩=false∧n<w1.heap.size ∧
   aw On w1 ((w1.alloc (.cells #[.int .i64 (p:Int)] 3)).setCell ⟨n,6,none⟩ (.slice (some ⟨w1.heap.size,0,none⟩) 1 1)) ∧
   PS ((w1.alloc (.cells #[.int .i64 (p:Int)] 3)).setCell ⟨n,6,none⟩ (.slice (some ⟨w1.heap.size,0,none⟩) 1 1)) b Op1 fG T1 ∧
   Real ((w1.alloc (.cells #[.int .i64 (p:Int)] 3)).setCell ⟨n,6,none⟩ (.slice (some ⟨w1.heap.size,0,none⟩) 1 1)) b n (fun k=>Op1 k∨(On k∨k=w1.heap.size)) T0 ⟨h,[a],fG,T1.length⟩:=by
 obtain⟨nv,kv,ha,hi⟩:=hn.ex;have iV:=(hn.own n hn.at_).2;have Dn:=(hn.own n hn.at_).1;have hf:aw (fun k=>kv.ownBlock=some k) w1 (w1.alloc (.cells #[.int .i64 (p:Int)] 3)):=(aw.refl _ _).alloc _
 obtain⟨c6,z6,pF,mM,y8⟩:=Gu ha hi hn.at_ hn.own hf;have hb1:b+1≤w1.heap.size:=(hp.own b hp.at_).2;have hrow:se (w1.alloc (.cells #[.int .i64 (p:Int)] 3)) b (.slice (some ⟨w1.heap.size,0,none⟩) 1 1) [(p:Int)]:=⟨rfl,.inr ⟨w1.heap.size,1,#[.int .i64 (p:Int)],rfl,hb1,World.alloc_heap_new w1 _,ag _,by unfold maxLen;omega,rfl,rfl⟩⟩
 have hfn:=mM (.slice (some ⟨w1.heap.size,0,none⟩) 1 1);have hpA:=hp.below (aX w1 (.cells #[.int .i64 (p:Int)] 3));have oR:PS ((w1.alloc (.cells #[.int .i64 (p:Int)] 3)).setCell ⟨n,6,none⟩ (.slice (some ⟨w1.heap.size,0,none⟩) 1 1)) b Op1 fG T1:=hpA.kept (O1:=(· = n)) hfn (fun k hk e=>hd k hk (e▸hn.at_)) fun k e=>by omega
 refine⟨kv,c6,z6,iV,((aw.refl On w1).alloc _).trans hfn (fun k e=>.inl (e▸hn.at_)),oR,⟨Op1,fun k=>On k∨k=w1.heap.size,T1,[(p:Int)],fun _=>Iff.rfl,fun k hk e=>?_,oR,?_,hl,rfl⟩⟩
 ·rcases e with e|e
  ·exact hd k hk e
  ·have:=(hp.own k hk).2;omega
 ·exact y8 w1.heap.size 1 1 [(p:Int)] hrow (.inr (ag _))
theorem ez.same {T0 T:List Nd} {ks:List Int} (h:ez T0 T [] ks):T=T0∧ks=[]:=by
 have h1:=h.len;have h2:=h.num;obtain⟨p1,_⟩:=h;rw[Ast.al] at h1;exact⟨(List.IsPrefix.eq_of_length p1 (by omega)).symm,kK (by simpa using h2)⟩
def tgC (sf:iS):iS:=fun ts n K E=>sf ts n (fun a fG=>(isVar a→K a fG)∧(¬ isVar a→∃t r,fG=t::r∧E t.2.1)) E
theorem Qm {sf:iS} (hS:pN 142 sf):pN 168 (tgC sf):=by
 intro b O ts T0 K E w hp hk;have HA:=aa (hS b O ts T0 _ E w hp hk);clear hp hk hS;go_enter Tryz.func168,Tryz.ntmps168
 go_wp2_with fail
 refine HA.out.mono ?_;intro e w1 h1;have F1:=aa h1.1;rcases h1.2 with ⟨p,a,fG,O1,T1,rfl,p1,x1,l1,k1⟩ | ⟨le,v,er,rfl,⟨g',rfl,m2,m3⟩,k1⟩
 ·obtain⟨g,c,c2,hc,hpl,ck,_⟩:=p1.kind l1
  have hb:b<w1.heap.size:=World.block_lt_of_cell? w1 _ c2;have P1:=aa p1;have X1:=aa x1;have L1:=aa l1;have K1:=aa k1;clear h1 p1 x1 l1 k1 HA;obtain⟨kd,qA⟩ :∃kd,kd=a.hd.kind:=⟨_,rfl⟩;rw[←qA] at ck;by_cases hv:isVar a
  ·have HV:=aa hv
   unfold isVar at hv;rw[←qA] at hv;clear qA;rcases hv with rfl|rfl <;>
   ·go_wp2_with fail
    go_ret2
    exact⟨F1.out,.inl ⟨p,a,fG,O1,T1,rfl,P1.out,X1.out,L1.out,K1.out.1 HV.out⟩⟩
  ·obtain⟨t,r,rfl,hE⟩:=K1.out.2 hv
   have HX:=aa (qU b O1 t r T1 w1 P1.out);unfold isVar at hv;rw[←qA] at hv;have g1:(kd == 7)=false:=aC.2 fun e=>hv (.inl e)
   have g2:(kd == 8)=false:=aC.2 fun e=>hv (.inr e)
   have g1':(kd != 7)=true:=oO.2 fun e=>hv (.inl e)
   have g2':(kd != 8)=true:=oO.2 fun e=>hv (.inr e)
   have HE:=aa hE;clear qA hv hE;go_wp2_with fail
   refine HX.out.mono ?_;rintro e w3 ⟨v,rfl,m,b3⟩;have M:=aa m;have B3:=aa b3;clear m b3;go_wp2_with fail
   go_ret2
   obtain⟨g',e1,e2,e3⟩:=M.out;exact⟨F1.out.trans (aw.af (O:=O1) B3.out) X1.out,.inr ⟨_,_,_,rfl,⟨g',e1,aL F1.out.size e2,e3⟩,HE.out⟩⟩
 ·have M3:=aa m3
  have M2:=aa m2;have K1:=aa k1;clear h1 m2 m3 k1;go_wp2_with fail
  go_ret2
  exact⟨F1.out,.inr ⟨le,_,_,rfl,⟨g',rfl,M2.out,M3.out⟩,K1.out⟩⟩
def ZQ (sf:iS) (tg li:bW):bW:=fun s K E=>s.xs=[]∧sf s.ts s.n (fun a fG=>(a.hd.kind=9∨a.hd.kind=10→K ⟨{ s.h with kind:=21},[a],fG,s.n+Ast.al [a]⟩) ∧
 (isVar a→aK [bw [44] [tg],eu,au [[61]],li] ⟨{ s.h with kind:=20},[a],fG,s.n+Ast.al [a]⟩ K E)∧(¬ (a.hd.kind=9∨a.hd.kind=10)→¬ isVar a→∃t r,fG=t::r∧E t.2.1)) E
theorem s9 (w:World) (g:Nat) (hg:g=w.heap.size) (b:Nat) (O:Nat→Prop) (hO :∀k,O k→k<w.heap.size) (vs:List Value) (cN:List bW) (hl:vs.length≤100) (h:jO w b O vs cN) (x:List UInt8) (hx:x≠[]) (X:ByteArray) (hX:X=bG x) :
  Calls Tryz.prog 57 #[.pointer (some ⟨b,0,none⟩),.string X,.slice (some ⟨g,0,none⟩) vs.length vs.length] (w.alloc (.cells vs.toArray 123)) (kt b O (bw x cN) w):=by
 subst hg;exact pO w b O hO vs cN hl h x hx X hX
theorem UN {sf:iS} {tg li:bW} (hS:pN 142 sf) (SM:ey 143 tg) (hL:ey 98 li):ey 111 (ZQ sf tg li):=by
 rintro b n O T0 ⟨sh,sxs,wh,sn⟩ K E w hr ⟨hx,hk⟩;obtain⟨Op,On,T,ks,hO,hd,hp,hn,hl,hc⟩:=hr.ex;dsimp only at hx hk hp hn hl hc
 subst hx;obtain⟨rfl,rfl⟩:=hl.same;subst hc;have HA:=aa (hS b Op wh T _ E w hp hk);have HN:=aa hn;have HO:=aa hO;have HD:=aa hd;have hat:=hn.at_;have HOn:Hid (∀k,On k→k<w.heap.size):=aa fun k hk=>(hn.own k hk).2
 have Dn:b<n:=(hn.own n hat).1;have CZ:=aa hat;clear hp hk hr hn hO hd hl hS hat;go_enter Tryz.func111,Tryz.ntmps111
 go_wp2_with fail
 refine HA.out.mono ?_;intro e w1 h1;have F1:=aa h1.1;have N1:=aa (HN.out.kept h1.1 fun k hk h=>HD.out k h hk)
 rcases h1.2 with ⟨p,a,fG,O1,T1,rfl,p1,x1,l1,k1⟩ | ⟨le,v,er,rfl,⟨g',rfl,m2,m3⟩,k1⟩
 ·have hd1 :∀k,O1 k→¬ On k:=fun k hk h=>by
   rcases x1 k hk with h2|h2
   ·exact HD.out k h2 h
   ·have:=HOn.out k h;omega
  obtain⟨v6,c6,z6,iV,f2,p2,r2⟩:=pR p1 N1.out hd1 l1;obtain⟨g,c,c2,hc,hpl,ck,hOg⟩:=p1.kind l1;have T6:g≠n:=fun e=>hd1 g hOg (e▸CZ.out)
  have hbn':b≠n:=by omega
  have hbl:b<w1.heap.size:=by omega
  have oT:g<w1.heap.size:=(p1.own g hOg).2;have hz2:T1.length=T.length+Ast.al [a]:=l1.len;rw[hz2] at r2;obtain⟨O2,Kz⟩ :∃O2:Nat→Prop,O2=fun k=>O1 k∨(On k∨k=w1.heap.size):=⟨_,rfl⟩
  rw[←Kz] at r2;have X2:Hid (Ext O O2 w):=aa fun k hk=>by
   rw[Kz] at hk;rcases hk with hk|hk|rfl
   ·rcases x1 k hk with h|h
    ·exact .inl ((HO.out k).2 (.inl h))
    ·exact .inr h
   ·exact .inl ((HO.out k).2 (.inr hk))
   ·exact .inr h1.1.size
  have f3:aw O w ((w1.alloc (.cells #[.int .i64 (p:Int)] 3)).setCell ⟨n,6,none⟩ (.slice (some ⟨w1.heap.size,0,none⟩) 1 1)):=(h1.1.mono fun k hk=>(HO.out k).2 (.inl hk)).trans f2 fun k hk=>.inl ((HO.out k).2 (.inr hk))
  rw[World.setCell_alloc_past _ _ _ _ iV] at r2 f3 p2;have F2:=aa f3;have P2:=aa p2;have R2:=aa r2;obtain⟨nv1,kv1,zE,_,hz1⟩:=N1.out.cells;have d0:=zE.c0;have d6:=zE.c6;have y0:=hz1 0;have y6:=hz1 6;clear zE hz1;have X1:=aa x1;have K1:=aa k1;clear h1 p1 x1 l1 k1 HA hd1 f2 f3 p2 r2 hz2 hOg c6 z6 Kz;have hkK:=K1.out;obtain⟨kd,qA⟩ :∃kd,kd=a.hd.kind:=⟨_,rfl⟩;rw[←qA] at ck;have Rj:n<(w1.setCell ⟨n,6,none⟩ (.slice (some ⟨w1.heap.size,0,none⟩) 1 1)).heap.size:=by simpa using iV
  by_cases h9:a.hd.kind=9∨a.hd.kind=10
  ·have HK:=aa (hkK.1 h9)
   obtain⟨_,_,_,f4,r4⟩:=R2.out.kind 21;rw[World.setCell_alloc_past _ _ _ _ Rj] at f4 r4;have F4:=aa (F2.out.trans f4 X2.out);have R4:=aa r4;clear f4 r4 hkK K1 Rj;rw[←qA] at h9;clear qA;rcases h9 with rfl|rfl <;>
   ·go_wp2_with fail
    go_ret
    exact⟨F4.out,.inl ⟨_,O2,rfl,R4.out,X2.out,HK.out⟩⟩
  ·by_cases hv:isVar a
   ·have HK:=aa (hkK.2.1 hv)
    obtain⟨_,_,_,f4,r4⟩:=R2.out.kind 20;rw[World.setCell_alloc_past _ _ _ _ Rj] at f4 r4;have F0:=aa (F2.out.trans f4 X2.out);have P0:=aa r4;have V0:=aa (s9 _ (w1.heap.size+1) (by simp) b O2 r4.lt [aZ 143 b] [tg] (by simp) ⟨SM.part (enters_of Tryz.func143 (by kernel_rfl) rfl) _ b O2,trivial⟩ [44] (by decide) ⟨#[44]⟩ rfl)
    clear f4 r4 hkK K1 Rj h9;unfold isVar at hv;rw[←qA] at hv;clear qA;rcases hv with rfl|rfl <;>
    ·go_wp2_with fail
     refine V0.out.mono ?_;rintro e w2 ⟨f2,a2,c2',rfl,b2,h2⟩;have F2:=aa (F0.out.trans (aw.af (O:=O2) b2) X2.out);have P2:=aa (P0.out.below b2);have H2:=aa h2;clear b2 h2 V0 c2 ck d0 d6 y0 y6;have hOO :∀k,O2 k→k<w2.heap.size:=P2.out.lt;have V3:=aa (cA w2 b O2 hOO [61] (by decide) ⟨#[61]⟩ rfl)
     clear hOO;go_wp2_with fail
     refine V3.out.mono ?_;rintro e w3 ⟨f3,a3,c3,rfl,b3,h3⟩;have F3:=aa (F2.out.trans (aw.af (O:=O2) b3) X2.out);have P3:=aa (P2.out.below b3);have L2:=aa (H2.out.later (aw.af (O:=O2) b3) (Ext.refl _ _));clear H2;have H2:=L2;clear L2;have H3:=aa h3;clear b3 h3 V3;have HN:=aa (jo w w3 P3.out F3.out X2.out [.func (.func f2) a2 c2',.func (.func 139) #[] #[],.func (.func f3) a3 c3,aZ 98 b] [bw [44] [tg],eu,au [[61]],li] (by simp) ⟨H2.out,jN w3 b O2,H3.out,hL.part (enters_of Tryz.func98 (by kernel_rfl) rfl) w3 b O2,trivial⟩ HK.out)
     go_wp2_with fail
     refine HN.out.mono ?_;intro e wz hz;obtain⟨v,rfl⟩:=hz.ret;have HZ:=aa hz;clear hz;go_wp2_with fail
     go_ret
     exact HZ.out
   ·obtain⟨t,r,rfl,hE⟩:=hkK.2.2 h9 hv
    have HX:=aa (qU b O1 t r T1 _ P2.out);unfold isVar at hv;rw[←qA] at h9 hv;have q9:(kd == 9)=false:=aC.2 fun e=>h9 (.inl e)
    have Uw:(kd == 10)=false:=aC.2 fun e=>h9 (.inr e)
    have q7:(kd == 7)=false:=aC.2 fun e=>hv (.inl e)
    have q8:(kd == 8)=false:=aC.2 fun e=>hv (.inr e)
    have HE:=aa hE;clear qA h9 hv hE hkK K1 Rj;go_wp2_with fail
    refine HX.out.mono ?_;rintro e w3 ⟨v,rfl,m,b3⟩;have M:=aa m;have B3:=aa b3;clear m b3;go_wp2_with fail
    go_ret
    obtain⟨g',e1,e2,e3⟩:=M.out;exact⟨F2.out.trans (aw.af (O:=O2) B3.out) X2.out,.inr ⟨_,_,rfl,⟨g',e1,aL F2.out.size e2,e3⟩,HE.out⟩⟩
 ·have M3:=aa m3
  have M2:=aa m2;have K1:=aa k1;clear h1 m2 m3 k1;go_wp2_with fail
  go_ret
  exact⟨F1.out.mono fun k hk=>(HO.out k).2 (.inl hk),.inr ⟨le,_,rfl,⟨g',rfl,M2.out,M3.out⟩,K1.out⟩⟩
def Qn (li:bW):bW:=fun s K E=>∃t r,s.ts=t::r∧((iX t=true∨av [59] t=true)→K s)∧(iX t=false→av [59] t=false→li s K E)
theorem yh {W:World} {b n:Nat} {O:Nat→Prop} {T0:List Nd} {s:St} (h:Real W b n O T0 s) {t:ak} {ts:List ak} (hs:s.ts=t::ts):Calls Tryz.prog 51 #[.pointer (some ⟨b,0,none⟩)] W (nR W (iX t)):=by
 obtain⟨Op,On,T,ks,hO,hd,hp,hn,hl,hc⟩:=h.ex;rw[hs] at hp;exact Zy b Op t ts T W hp
theorem En {li:bW} (hL:ey 98 li):ey 56 (Qn li):=by
 rintro b n O T0 s K E w hr ⟨t,r,hs,h1,h2⟩;have HV:=aa (yh hr hs);have HW:=aa (fun W hW=>ju hr hs W hW)
 have HR:=aa hr;have HLi:=aa (fun(W:World) (hW:Real W b n O T0 s) (hk:li s K E)=>hL b n O T0 s K E W hW hk)
 have H1:=aa h1;have H2:=aa h2;clear hr hs h1 h2 hL;cases he:iX t with
 | true =>
  rw[he] at HV;have HE:=aa he;clear he HW;go_enter Tryz.func56,Tryz.ntmps56
  go_wp2_with fail
  refine HV.out.mono ?_;rintro e w1 ⟨rfl,b1⟩;have B1:=aa b1;clear b1;go_wp2_with fail
  go_ret
  exact⟨aw.af B1.out,.inl ⟨s,O,rfl,HR.out.below B1.out,Ext.refl _ _,H1.out (.inl HE.out)⟩⟩
 | false =>
  rw[he] at HV;cases hq:av [59] t with
  | true =>
   have g1:((ah t).toList == [59])=true:=ai (s:=[59]) (by decide) t hq
   have HK:=aa (H1.out (.inr hq));generalize ah t=Y at *;clear he hq;go_enter Tryz.func56,Tryz.ntmps56
   go_wp2_with fail
   refine HV.out.mono ?_;rintro e w1 ⟨rfl,b1⟩;have B1:=aa b1;have ji:=aa (HW.out w1 b1);clear b1;go_wp2_with fail
   refine ji.out.mono ?_;rintro e w2 ⟨rfl,b2⟩;have B2:=aa (ax B1.out b2);clear b2;go_wp2_with fail
   go_ret
   exact⟨aw.af B2.out,.inl ⟨s,O,rfl,HR.out.below B2.out,Ext.refl _ _,HK.out⟩⟩
  | false =>
   have g1:((ah t).toList == [59])=false:=ai (s:=[59]) (by decide) t hq
   have HK:=aa (H2.out he hq);generalize ah t=Y at *;clear he hq;go_enter Tryz.func56,Tryz.ntmps56
   go_wp2_with fail
   refine HV.out.mono ?_;rintro e w1 ⟨rfl,b1⟩;have B1:=aa b1;have ji:=aa (HW.out w1 b1);clear b1;go_wp2_with fail
   refine ji.out.mono ?_;rintro e w2 ⟨rfl,b2⟩;have B2:=aa (ax B1.out b2);have HN:=aa (HLi.out w2 (HR.out.below B2.out) HK.out);clear b2;go_wp2_with fail
   refine HN.out.mono ?_;intro e wz hz;obtain⟨v,rfl⟩:=hz.ret;have HZ:=aa (hz.after (aw.af B2.out));clear hz;go_wp2_with fail
   go_ret
   exact HZ.out
theorem Cu {b n:Nat} {O O1:Nat→Prop} {T0:List Nd} {K:St→Prop} {E:Int→Prop} {w w1 w':World} {e:Ending} (h:bB b n O1 T0 K E w1 e w') (hf:aw O w w1) (he:Ext O O1 w):bB b n O T0 K E w e w':=by
 obtain⟨h1,h2⟩:=h;refine⟨hf.trans h1 he,h2.imp ?_ ?_⟩
 ·rintro⟨s',O',e1,r1,x1,k1⟩
  exact⟨s',O',e1,r1,he.trans x1 hf.size,k1⟩
 ·rintro⟨l,v,e1,⟨g,m1,m2,m3⟩,k⟩
  exact⟨l,v,e1,⟨g,m1,aL hf.size m2,m3⟩,k⟩
def Cv (CW:iS) (li:bW):Nat→bW
 | 0=>fun _ _ _=>False
 | k+1=>fun s K E=>∃t r,s.ts=t::r∧(iX t=true→K s)∧(iX t=false→(av [59] t=true→Cv CW li k { s with ts:=r} K E) ∧
  (av [59] t=false→(av lV t=true→dy (dR (mJ 29) [aB,Qn li,bw [59] []]) s K E)∧(av lV t=false→dy CW s (fun s'=>Cv CW li k s' K E) E)))
def abG (CW:iS) (li:bW):bW:=fun s K E=>∃m,Cv CW li m s K E
theorem zF {CW:iS} {li:bW} (hS:pN 59 CW) (hL:ey 98 li):ey 24 (abG CW li):=by
 rintro b n O T0 s K E w hr ⟨m,hk⟩;have HR:=aa hr;have HK:=aa hk;have HSt:=aa (fun(W:World) (b:Nat) (O:Nat→Prop)=>hS.one (enters_of Tryz.func59 (by kernel_rfl) rfl) W b O)
 have HRt:=aa (fun(W:World) (b:Nat) (O:Nat→Prop)=>(En hL).part (enters_of Tryz.func56 (by kernel_rfl) rfl) W b O)
 clear hr hk hS hL;go_enter Tryz.func24,Tryz.ntmps24
 go_wp2_with fail
 go_loopg [] m (fun z wr=>∃(O1:Nat→Prop) (s1:St),Real wr b n O1 T0 s1∧aw O w wr∧Ext O O1 w∧Cv CW li z s1 K E)
 case atStart=>exact⟨O,s,HR.out,aw.refl _ _,Ext.refl _ _,HK.out⟩
 case round =>
  obtain⟨O1,s1,hr1,kQ,qx,iU⟩:=hrel;have np:=aa hr1;have fy:=aa kQ;have pd:=aa qx;cases gk with
  | zero=>exact iU.elim
  | succ z =>
   obtain⟨t,r,hs,hy,hn⟩:=iU;have HV:=aa (yh hr1 hs);have fj:=aa hs;clear hr1 kQ qx;cases he:iX t with
   | true =>
    rw[he] at HV;have wG:=aa (hy he);clear hy hn hs he;go_wp2_with fail
    refine HV.out.mono ?_;rintro e w1 ⟨rfl,b1⟩;have B1:=aa b1;clear b1;go_wp2_with fail
    go_ret
    exact⟨fy.out.trans (aw.af (O:=O1) B1.out) pd.out,.inl ⟨s1,O1,rfl,np.out.below B1.out,pd.out,wG.out⟩⟩
   | false =>
    rw[he] at HV;have AX:=hn he;clear hy hn he;cases hq:av [59] t with
    | true =>
     have HTk:=aa (fun(W:World) (hW:Real W b n O1 T0 s1)=>lz hW hs [59] ⟨#[59]⟩ rfl (by decide) hq)
     have wG:=aa (AX.1 hq);clear AX hs hq;go_wp2_with fail
     refine HV.out.mono ?_;rintro e w1 ⟨rfl,b1⟩;have F2:=aa (fy.out.trans (aw.af (O:=O1) b1) pd.out);have HT:=aa (HTk.out w1 (np.out.below b1));clear b1;go_wp2_with fail
     refine HT.out.mono ?_;rintro e w2 ⟨rfl,r2,f2⟩;have F3:=aa (F2.out.trans f2 pd.out);have R2:=aa r2;clear r2 f2;go_wp2_with fail
     go_roundg z
     case measure=>omega
     case rel=>exact⟨O1,_,R2.out,F3.out,pd.out,wG.out⟩
    | false =>
     have HTk:=aa (fun(W:World) (hW:Real W b n O1 T0 s1)=>oy hW hs [59] ⟨#[59]⟩ rfl (by decide) hq)
     have vd:=AX.2 hq;clear AX hq;cases pn:av lV t with
     | true =>
      have g1:((ah t).toList == [114,101,116,117,114,110])=true:=ai (s:=lV) (by decide) t pn
      have wG:=aa (vd.1 pn);have HWd:=aa (fun(W:World) (hW:Real W b n O1 T0 s1)=>ju hW hs W (Below.refl _ _))
      clear vd hs pn;generalize ah t=Y at *;go_wp2_with fail
      refine HV.out.mono ?_;rintro e w1 ⟨rfl,b1⟩;have F2:=aa (fy.out.trans (aw.af (O:=O1) b1) pd.out);have HT:=aa (HTk.out w1 (np.out.below b1));clear b1;go_wp2_with fail
      refine HT.out.mono ?_;rintro e w2 ⟨rfl,r2,f2⟩;have F3:=aa (F2.out.trans f2 pd.out);have lE:=aa (HWd.out w2 r2);have R2:=aa r2;clear r2 f2 HTk HWd HT;go_wp2_with fail
      refine lE.out.mono ?_;rintro e w3 ⟨rfl,b3⟩;have F4:=aa (F3.out.trans (aw.af (O:=O1) b3) pd.out);have R3:=aa (R2.out.below b3);have HP:=aa (xZ b O1 [59] ⟨#[59]⟩ rfl (by decide) (.slice none 0 0) [] w3 (aN.nil _ _ _) R3.out.lt)
      clear b3;go_wp2_with fail
      refine HP.out.mono ?_;rintro e w4 ⟨v,rfl,b4,h4,fi,fa,fc,rfl⟩;have R4:=aa (R3.out.below b4);have F5:=aa (F4.out.trans (aw.af (O:=O1) b4) pd.out);have HH:=aa (sj b O1 (mJ 29) (.slice none 0 0) _ _ (w4.alloc (.cells #[aZ 55 b,aZ 56 b,.func (.func fi) fa fc] 123)) (zR.nil _ b) (aN.new (w:=w4) (b:=b) (O:=O1) R4.out.lt [aZ 55 b,aZ 56 b,.func (.func fi) fa fc] [aB,Qn li,bw [59] []] (by simp) ⟨bc w4 b O1,HRt.out w4 b O1,h4,trivial⟩) (fun k hk=>by have:=R4.out.lt k hk;simp;omega))
      clear b4 h4 HP;go_wp2_with fail
      refine HH.out.mono ?_;rintro e w5 ⟨v,rfl,b5,h5⟩;obtain⟨f,first,cap,rfl,pJ,bq⟩:=h5.1.call R4.out (ax (aX w4 _) b5) wG.out
      have ec:=aa bq;clear h5 bq b5;unfold Enters at pJ;go_wp2_with fail
      refine ec.out.mono ?_;intro e w6 h6;obtain⟨v,rfl⟩:=h6.ret;have H6:=aa h6;clear h6;go_wp2_with fail
      go_ret
      exact Cu H6.out F5.out pd.out
     | false =>
      have g1:((ah t).toList == [114,101,116,117,114,110])=false:=ai (s:=lV) (by decide) t pn
      have wG:=aa (vd.2 pn);have HWd:=aa (fun(W:World) (hW:Real W b n O1 T0 s1)=>ju hW hs W (Below.refl _ _))
      clear vd hs pn;generalize ah t=Y at *;go_wp2_with fail
      refine HV.out.mono ?_;rintro e w1 ⟨rfl,b1⟩;have F2:=aa (fy.out.trans (aw.af (O:=O1) b1) pd.out);have HT:=aa (HTk.out w1 (np.out.below b1));clear b1;go_wp2_with fail
      refine HT.out.mono ?_;rintro e w2 ⟨rfl,r2,f2⟩;have F3:=aa (F2.out.trans f2 pd.out);have lE:=aa (HWd.out w2 r2);have R2:=aa r2;clear r2 f2 HTk HWd HT;go_wp2_with fail
      refine lE.out.mono ?_;rintro e w3 ⟨rfl,b3⟩;have F4:=aa (F3.out.trans (aw.af (O:=O1) b3) pd.out);have R3:=aa (R2.out.below b3);have HP:=aa (Cp b O1 59 _ _ CW w3 (HSt.out w3 b O1) R3.out.lt);clear b3;go_wp2_with fail
      refine HP.out.mono ?_;rintro e w4 ⟨v,rfl,b4,h4⟩;obtain⟨f,first,cap,rfl,pJ,bq⟩:=h4.1.call R3.out b4 wG.out
      have ec:=aa bq;clear h4 bq b4;unfold Enters at pJ;go_wp2_with fail
      refine ec.out.mono ?_;intro e w6 h6;have F6:=aa (F4.out.trans h6.1 pd.out);rcases h6.2 with ⟨s7,O7,rfl,r7,x7,k7⟩ | ⟨l,v,rfl,⟨g',rfl,hg1,hg2⟩,k7⟩
      ·have R7:=aa r7
       have X7:=aa (pd.out.trans x7 F4.out.size);have K7:=aa k7;clear h6 r7 x7 k7;go_wp2_with fail
       go_roundg z
       case measure=>omega
       case rel=>exact⟨O7,s7,R7.out,F6.out,X7.out,K7.out⟩
      ·have M3:=aa hg2
       have HG:=aa (aL F4.out.size hg1);have K7:=aa k7;clear h6 hg1 hg2 k7;go_wp2_with fail
       go_ret
       exact⟨F6.out,.inr ⟨l,_,rfl,⟨g',rfl,HG.out,M3.out⟩,K7.out⟩⟩
theorem Cw {W:World} {b n:Nat} {On:Nat→Prop} {x:Nd} (hn:NU W b n On x) (v:Value) (xs:List ByteArray) (hr:jP W b v xs) (hne:xs≠[]):NU (W.setCell ⟨n,5,none⟩ v) b n (fun k=>On k∨v.ownBlock=some k) { x with names:=xs}:=by
 obtain⟨nv,kv,ha,hi⟩:=hn.ex;have dJ:jM W b (fun k=>On k∨v.ownBlock=some k) { x with names:=xs} v kv:=⟨hr,hi.kids,fun g hg=>.inl (.inr hg),fun g _=>hne,fun g hg=>.inl (hi.ok g hg)⟩
 refine⟨⟨v,kv,ij ha _,dJ.set ha 5 v⟩,.inl hn.at_,fun k hk=>?_⟩
 have hsz:(W.setCell ⟨n,5,none⟩ v).heap.size=W.heap.size:=by simp[World.setCell]
 rw[hsz];rcases hk with hk|hk
 ·exact hn.own k hk
 ·have:=hr.lt k hk;omega
theorem Cy (W:World) (b n:Nat) (Op On:Nat→Prop) (hd :∀k,Op k→¬ On k):Pn W b n Op On (aZ 132 b) tF:=by
 intro W1 x ts T _ hp hn;obtain⟨t,r,rfl⟩:=hp.fin.cons;refine⟨132,_,_,rfl,enters_of Tryz.func132 (by kernel_rfl) rfl,?_⟩
 have kY :∀w',aw (· = b) W1 w'→NU w' b n On x:=fun w' hf=>hn.kept hf fun k hk e=>hd b hp.at_ (e▸hk)
 cases hc:av [44] t with
 | true =>
  have e1:tF (x.num,t::r)=(true,x.num,r):=by simp[tF,cX,hc]
  rw[e1];refine(kq b Op t r T W1 hp hc).mono ?_;rintro e w' ⟨rfl,h1,h2⟩;exact⟨rfl,h1,kY w' h2,h2.mono fun k hk=>.inl hk⟩
 | false =>
  have e1:tF (x.num,t::r)=(false,x.num,t::r):=by simp[tF,cX,hc]
  rw[e1];refine(me b Op t r T W1 hp hc).mono ?_;rintro e w' ⟨rfl,h1,h2⟩;exact⟨rfl,h1,kY w' h2,h2.mono fun k hk=>.inl hk⟩
theorem GI:ey 107 iB:=by
 rintro b n O T0 ⟨sh,sxs,wh,sn⟩ K E w hr ⟨m,hm,hk⟩;obtain⟨Op,On,T,ks,hO,hd,hp,hn,hl,hc⟩:=hr.ex;dsimp only at hk hp hn hl hc
 have HA:=aa (yb b n Op On { sh with kids:=ks} wh T (aZ 132 b) tF _ E m hm w hp hn hd (Cy w b n Op On hd) hk);have HO:=aa hO;have HD:=aa hd;have HL:=aa hl;have HC:=aa hc;have CZ:=aa hn.at_;have HPB:=aa hp.at_;have HOW:=aa hp.own;have hnw:n<w.heap.size:=(hn.own n hn.at_).2;clear hr hp hn hl hc hk hO hd;go_enter Tryz.func107,Tryz.ntmps107
 go_wp2_with fail
 refine HA.out.mono ?_;rintro e w1 ⟨f1,mm,n1,h1⟩;have F1:=aa (f1.mono (O1:=O) fun k hk=>(HO.out k).2 (hk.elim (fun e=>.inl (e▸HPB.out)) (fun e=>.inr (e▸CZ.out))))
 obtain⟨nv,kv,hcs,_,hz⟩:=n1.cells;have c5:=hcs.c5;have z5:=hz 5;have iV:n<w1.heap.size:=(n1.own n n1.at_).2;have Dn:b<n:=(n1.own n n1.at_).1;have N1:=aa n1;clear hcs hz n1;rcases h1 with ⟨v,xs,ts,rfl,p1,r1,o1,ne1,adn,k1⟩ | ⟨l,er,rfl,⟨g',rfl,m1,m2⟩,k1⟩
 ·have P1:=aa p1
  have R1:=aa r1;have O1:=aa o1;have NE:=aa ne1;have K1:=aa k1;obtain⟨A,c,rfl,_⟩:=bC r1;clear p1 r1 o1 ne1 k1 f1;go_wp2_with fail
  go_ret
  have f2:=N1.out.fr 5 (.slice A xs.length c);have hop :∀k,Op k→k≠n:=fun k hk e=>HD.out k hk (e▸CZ.out)
  refine⟨F1.out.trans f2 (fun k hk=>.inl (hk▸(HO.out n).2 (.inr CZ.out))),.inl ⟨_,fun k=>Op k∨(On k∨(Value.slice A xs.length c).ownBlock=some k),rfl,⟨Op,fun k=>On k∨(Value.slice A xs.length c).ownBlock=some k,T,ks,fun _=>Iff.rfl,fun k hk h=>?_,P1.out.kept (O1:=(· = n)) f2 hop (fun k e=>by omega),Cw N1.out _ xs R1.out NE.out,HL.out,HC.out⟩,fun k hk=>?_,K1.out⟩⟩
  ·rcases h with h|h
   ·exact HD.out k hk h
   ·have:=O1.out k h;have:=(HOW.out k hk).2;omega
  ·rcases hk with hk|hk|hk
   ·exact .inl ((HO.out k).2 (.inl hk))
   ·exact .inl ((HO.out k).2 (.inr hk))
   ·exact .inr (O1.out k hk)
 ·have M2:=aa m2
  have K1:=aa k1;have T6:g'≠n:=by omega
  clear m2 k1 f1;go_wp2_with fail
  go_ret
  exact⟨F1.out.trans (N1.out.fr 5 _) (fun k hk=>.inl (hk▸(HO.out n).2 (.inr CZ.out))),.inr ⟨l,_,rfl,⟨g',rfl,m1,(Below.heap_setCell _ _ _ g' T6).trans M2.out⟩,K1.out⟩⟩
def ky:NmF:=fun p=>match p.2 with
 | []=>(false,p.1,[])
 | t::r=>if av [46,46,46] t=true then (true,1,r) else (decide (p.1=1),p.1,t::r)
def Qo (b n:Nat) (Op On:Nat→Prop) (x:Nd) (T:List Nd) (o:Bool×Int×List ak) (w:World) (e:Ending) (w':World):Prop :=
 e=.returned (.bool o.1)∧PS w' b Op o.2.2 T∧NU w' b n On { x with num:=o.2.1}∧aw (fun k=>k=b∨k=n) w w'
theorem Qp (b n g1 g2:Nat) (Op On O:Nat→Prop) (x:Nd) (t:ak) (ts:List ak) (T:List Nd) (w:World) (hp:PS w b Op (t::ts) T) (hn:NU w b n On x) (hd :∀k,Op k→¬ On k) (hO :∀k,k=b∨k=n→O k)
  (b1:eG w O g1 #[.pointer (some ⟨b,0,none⟩)] 117) (b2:eG w O g2 #[.pointer (some ⟨n,0,none⟩)] 121):Calls Tryz.prog 188 #[.pointer (some ⟨g1,0,none⟩),.pointer (some ⟨g2,0,none⟩)] w (Qo b n Op On x T (ky (x.num,t::ts)) w):=by
 have c1:=b1.cell 0;have B2:=aa b2;have HN:=aa hn;have kY :∀w',aw (· = b) w w'→NU w' b n On x:=fun w' hf=>hn.kept hf fun k hk e=>hd b hp.at_ (e▸hk)
 have HK:=aa kY;have ZR:=aa hO;have Dn:b<n:=(hn.own n hn.at_).1;have HD:=aa hd;have hg2:g2≠n:=fun e=>b2.2 (e▸hO n (.inr rfl))
 by_cases h1:av [46,46,46] t=true
 ·have e1:ky (x.num,t::ts)=(true,1,ts):=by simp[ky,h1]
  rw[e1];have HT:=aa (mc b Op t ts T [46,46,46] ⟨#[46,46,46]⟩ rfl w hp (by decide) h1)
  clear hp hn hd hO b1 b2 kY h1 e1;go_enter Tryz.func188,Tryz.ntmps188
  go_wp2_with fail
  refine HT.out.mono ?_;rintro e w1 ⟨rfl,p1,f1⟩;have n1:=HK.out w1 f1;obtain⟨nv,kv,hcs,_,hz⟩:=n1.cells;have c3:=hcs.c3;have z3:=hz 3;have c2:=(B2.out.later (f1.mono fun k hk=>ZR.out k (.inl hk)) (Ext.refl _ _)).cell 0
  have iV:n<w1.heap.size:=(n1.own n n1.at_).2;have N1:=aa n1;have P1:=aa p1;have F1:=aa f1;clear n1 p1 f1 hcs hz c1;go_wp2_with fail
  go_ret
  have f2:=N1.out.fr 3 (.int .i64 1);exact⟨rfl,P1.out.kept (O1:=(· = n)) f2 (fun k hk e=>HD.out k hk (e▸N1.out.at_)) (fun k e=>by omega),N1.out.qV 3 _ rfl rfl fun _ _=>rfl,(F1.out.mono fun k hk=>.inl hk).trans f2 (fun k hk=>.inl (.inr hk))⟩
 ·have PD:av [46,46,46] t=false:=by simpa using h1
  have e1:ky (x.num,t::ts)=(decide (x.num=1),x.num,t::ts):=by simp[ky,h1]
  rw[e1];have HT:=aa (ow b Op t ts T [46,46,46] ⟨#[46,46,46]⟩ rfl w hp (by decide) PD)
  clear hp hn hd hO b1 b2 kY h1 PD e1;go_enter Tryz.func188,Tryz.ntmps188
  go_wp2_with fail
  refine HT.out.mono ?_;rintro e w1 ⟨rfl,p1,f1⟩;have n1:=HK.out w1 f1;obtain⟨nv,kv,hcs,_,hz⟩:=n1.cells;have c3:=hcs.c3;have c2:=(B2.out.later (f1.mono fun k hk=>ZR.out k (.inl hk)) (Ext.refl _ _)).cell 0
  have iV:n<w1.heap.size:=(n1.own n n1.at_).2;have N1:=aa n1;have P1:=aa p1;have F1:=aa f1;clear n1 p1 f1 hcs hz c1;go_wp2_with fail
  go_ret
  exact⟨by congr 2,P1.out,N1.out,F1.out.mono fun k hk=>.inl hk⟩
theorem UO {m:Int} {t:ak} {r:List ak} (h:av [44] t=false):pM (m,t::r)=(false,m,t::r):=by simp[pM,h]
theorem Qq {m:Int} {t u:ak} {r:List ak} (h:av [44] t=true):pM (m,t::u::r)=(!(ky (m,u::r)).1,(ky (m,u::r)).2.1,(ky (m,u::r)).2.2):=by
 cases h2:av [46,46,46] u<;>simp[pM,ky,h,h2]
theorem ZS (b n g1 g2 g3:Nat) (Op On O:Nat→Prop) (x:Nd) (t:ak) (ts:List ak) (T:List Nd) (w:World) (hp:PS w b Op (t::ts) T) (hn:NU w b n On x) (hd :∀k,Op k→¬ On k) (hO :∀k,k=b∨k=n→O k)
  (b1:eG w O g1 #[.pointer (some ⟨b,0,none⟩)] 117) (b2:eG w O g2 #[.pointer (some ⟨n,0,none⟩)] 121) (b3:eG w O g3 #[.func (.func 188) #[] #[.pointer (some ⟨g1,0,none⟩),.pointer (some ⟨g2,0,none⟩)]] 25) :
  Calls Tryz.prog 189 #[.pointer (some ⟨g1,0,none⟩),.pointer (some ⟨g3,0,none⟩)] w (Qo b n Op On x T (pM (x.num,t::ts)) w):=by
 have c1:=b1.cell 0;have B1:=aa b1;have B2:=aa b2;have B3:=aa b3;have kY :∀w',aw (· = b) w w'→NU w' b n On x:=fun w' hf=>hn.kept hf fun k hk e=>hd b hp.at_ (e▸hk)
 have HK:=aa kY;have ZR:=aa hO;have HD:=aa hd;by_cases h1:av [44] t=true
 ·obtain⟨u,us,rfl⟩:=(hp.fin.tail (ue h1)).cons
  rw[Qq h1];have HT:=aa (kq b Op t (u::us) T w hp h1);have pJ:=enters_of Tryz.func188 (by kernel_rfl) rfl
  unfold Enters at pJ;clear hp hn hd hO b1 b2 b3 kY h1;go_enter Tryz.func189,Tryz.ntmps189
  go_wp2_with fail
  refine HT.out.mono ?_;rintro e w1 ⟨rfl,p1,f1⟩;have fO:=f1.mono (O1:=O) fun k hk=>ZR.out k (.inl hk)
  have c3:=(B3.out.later fO (Ext.refl _ _)).cell 0;have HM:=aa (Qp b n g1 g2 Op On O x u us T w1 p1 (HK.out w1 f1) HD.out ZR.out (B1.out.later fO (Ext.refl _ _)) (B2.out.later fO (Ext.refl _ _)));generalize ky (x.num,u::us)=o at *;obtain⟨o1,o2,o3⟩:=o;have F1:=aa f1;clear p1 f1 fO c1;go_wp2_with fail
  refine HM.out.mono ?_;rintro e w2 ⟨rfl,p2,n2,f2⟩;have P2:=aa p2;have N2:=aa n2;have F2:=aa f2;clear p2 n2 f2 c3;go_wp2_with fail
  go_ret
  exact⟨rfl,P2.out,N2.out,(F1.out.mono fun k hk=>.inl hk).trans F2.out (Ext.refl _ _)⟩
 ·have PD:av [44] t=false:=by simpa using h1
  rw[UO PD];have HT:=aa (me b Op t ts T w hp PD);clear hp hn hd hO b1 b2 b3 kY h1 PD;go_enter Tryz.func189,Tryz.ntmps189
  go_wp2_with fail
  refine HT.out.mono ?_;rintro e w1 ⟨rfl,p1,f1⟩;have N1:=aa (HK.out w1 f1);have P1:=aa p1;have F1:=aa f1;clear p1 f1 c1;go_wp2_with fail
  go_ret
  exact⟨rfl,P1.out,N1.out,F1.out.mono fun k hk=>.inl hk⟩
theorem JR {W:World} {b n g1 g2 g3:Nat} {Op On O:Nat→Prop} (hd :∀k,Op k→¬ On k) (hO :∀k,k=b∨k=n→O k)
  (b1:eG W O g1 #[.pointer (some ⟨b,0,none⟩)] 117) (b2:eG W O g2 #[.pointer (some ⟨n,0,none⟩)] 121) (b3:eG W O g3 #[.func (.func 188) #[] #[.pointer (some ⟨g1,0,none⟩),.pointer (some ⟨g2,0,none⟩)]] 25) :
  Pn W b n Op On (.func (.func 189) #[] #[.pointer (some ⟨g1,0,none⟩),.pointer (some ⟨g3,0,none⟩)]) pM:=by
 intro W1 x ts T hf hp hn;obtain⟨t,r,rfl⟩:=hp.fin.cons;have hf':=hf.mono (O1:=O) hO;exact⟨189,_,_,rfl,enters_of Tryz.func189 (by kernel_rfl) rfl,ZS b n g1 g2 g3 Op On O x t r T W1 hp hn hd hO (b1.later hf' (Ext.refl _ _)) (b2.later hf' (Ext.refl _ _)) (b3.later hf' (Ext.refl _ _))⟩
theorem UP {W W4:World} {b n:Nat} {On:Nat→Prop} {x:Nd} {nv kv:Value} (ha:W.heap[n]? = some (.cells (aP (x,nv,kv)).toArray 54 (0,0))) (hi:jM W b On x nv kv) (hat:On n) (hown :∀k,On k→b<k∧k<W.heap.size)
  (hf:aw (fun k=>nv.ownBlock=some k) W W4) :
  aw On W W4∧W4.cell? ⟨n,5,none⟩=some nv∧W4.frozen? ⟨n,5,none⟩=false∧n<W4.heap.size∧(∀v,aw (· = n) W4 (W4.setCell ⟨n,5,none⟩ v))∧∀(g m c:Nat) (xs:List ByteArray),jP W4 b (.slice (some ⟨g,0,none⟩) m c) xs→xs≠[] →
   NU (W4.setCell ⟨n,5,none⟩ (.slice (some ⟨g,0,none⟩) m c)) b n (fun k=>On k∨k=g) { x with names:=xs}:=by
 have hne:¬ nv.ownBlock=some n:=fun e=>by
  obtain⟨cur,hc⟩:=e9 hi.names e;rw[ha] at hc;simp at hc
 have wk:aw On W W4:=⟨hf.os,hf.tape,hf.output,hf.size,fun k hk hn=>by
  by_cases e:nv.ownBlock=some k
  ·rcases hi.on k e with h|h
   ·exact(hn h).elim
   ·exact hf.str k h
  ·exact hf.block k hk e,hf.str⟩
 have pF:W4.heap[n]? = some (.cells (aP (x,nv,kv)).toArray 54 (0,0)):=(hf.block n (hown n hat).2 hne).trans ha;refine⟨wk,by simp[World.cell?,pF,aP],by simp[World.frozen?,pF],(aM.1 pF).1,fun v=>aw.wM pF (by decide) 5 v,fun g m c xs hr hx=>?_⟩
 have dJ:jM W4 b (fun k=>On k∨k=g) { x with names:=xs} (.slice (some ⟨g,0,none⟩) m c) kv:=⟨hr,di hi.kids fun k hk=>(hf.block k (hi.kids.lt k hk).2 (fun e=>by
  obtain⟨c1,h1⟩:=e9 hi.names e;obtain⟨c2,h2⟩:=e9 hi.kids hk;rw[h1] at h2;simp at h2)),fun k hk=>.inl (.inr (by simpa[Value.ownBlock] using hk.symm)),fun k _=>hx,fun k hk=>.inl (hi.ok k hk)⟩
 have oT:=hr.lt g rfl;refine⟨⟨_,kv,ij pF _,dJ.set pF 5 _⟩,.inl hat,fun k hk=>?_⟩
 rcases hk with hk|rfl
 ·exact⟨(hown k hk).1,by have:=(hown k hk).2;have:=hf.size;simp[World.setCell];omega⟩
 ·exact⟨by omega,by simp[World.setCell];omega⟩
theorem yi (w:World) (A B:Obj) (v u:Value) (ty:TypeId):(((w.alloc A).alloc B).alloc (.cells #[v] ty)).cell? ⟨w.heap.size+1+1,0,none⟩=some v∧(((w.alloc A).alloc B).alloc (.cells #[v] ty)).frozen? ⟨w.heap.size+1+1,0,none⟩=false ∧
  (((w.alloc A).alloc B).alloc (.cells #[v] ty)).setCell ⟨w.heap.size+1+1,0,none⟩ u=((w.alloc A).alloc B).alloc (.cells #[u] ty):=by
 have hz:w.heap.size+1+1=((w.alloc A).alloc B).heap.size:=by rw[ao,ao]
 rw[hz];have hn:=World.alloc_heap_new ((w.alloc A).alloc B) (.cells #[v] ty);refine⟨by simp only[World.cell?,hn];rfl,by simp only[World.frozen?,hn];rfl,?_⟩
 rw[World.setCell_alloc_at _ _ _ _ _ rfl];rfl
theorem JS {ops:Array Oper} {o:Oper} {a:Act} {K:Act→World→Prop} {Q:Exit→Act→World→Prop} {E:Prop} (w:World) (hgd:o.guard=none) (s x:Operand)
  (ho:o.op=.call { callee:=.builtin .append,args:=#[s,x],argTypes:=#[52,52]}) (b:Nat) (v:Value) (ls:List ByteArray) (hs:a.eval s=v) (hown:jP w b v ls) (hx:a.eval x=.slice none 0 0) (h:K (a.put o.dst v) w) :
  if Region.wanted o (yielded ops a.tmps)=true then Oper.wp Tryz.prog o a w K Q else E:=by
 have hw:Region.wanted o (yielded ops a.tmps)=true:=by simp[Region.wanted,hgd]
 rw[aj hw];have hrun:=run_append_owned_none (P:=Tryz.prog) (w:=w) (b+1) 52 o.type 9 _ 1 Tryz.underlying52 (info_parts Pj).choose_spec.1 v ls.length (ls.map Value.string) hown;unfold Oper.wp;simp[execOp,ho,resolve,invoke,builtin,hs,hx,hrun,Result.andThen];exact h
theorem qZ:ey 165 Cr:=by
 rintro b n O T0 ⟨sh,sxs,wh,sn⟩ K E w hr ⟨t,ts,iY,eW,UQ,hno⟩;obtain⟨Op,On,T,ks,hO,hd,hp,hn,hl,hc⟩:=hr.ex;dsimp only at iY eW UQ hno hp hn hl hc
 subst iY;have Qr:=hr.lt;obtain⟨w1,ee⟩ :∃w1,w1=w.alloc (.cells #[.pointer (some ⟨b,0,none⟩)] 117):=⟨_,rfl⟩;obtain⟨w2,hw2⟩ :∃w2,w2=w1.alloc (.cells #[.pointer (some ⟨n,0,none⟩)] 121):=⟨_,rfl⟩;obtain⟨w3,hw3⟩ :∃w3,w3=w2.alloc (.cells #[.func (.func 188) #[] #[.pointer (some ⟨w.heap.size,0,none⟩),.pointer (some ⟨w.heap.size+1,0,none⟩)]] 25):=⟨_,rfl⟩;have f1:aw O w w1:=by rw[ee];exact(aw.refl _ _).alloc _
 have f2:aw O w1 w2:=by rw[hw2];exact(aw.refl _ _).alloc _
 have f3:aw O w2 w3:=by rw[hw3];exact(aw.refl _ _).alloc _
 have z1:w1.heap.size=w.heap.size+1:=by rw[ee,ao]
 have z2:w2.heap.size=w.heap.size+1+1:=by rw[hw2,ao,z1]
 have b1:eG w1 O w.heap.size #[.pointer (some ⟨b,0,none⟩)] 117:=by rw[ee];exact eG.new w O Qr _ _
 have b2:eG w2 O (w.heap.size+1) #[.pointer (some ⟨n,0,none⟩)] 121:=by rw[hw2,←z1];exact eG.new w1 O (fun k hk=>by have:=Qr k hk;omega) _ _
 have b3:eG w3 O (w.heap.size+1+1) #[.func (.func 188) #[] #[.pointer (some ⟨w.heap.size,0,none⟩),.pointer (some ⟨w.heap.size+1,0,none⟩)]] 25:=by rw[hw3,←z2];exact eG.new w2 O (fun k hk=>by have:=Qr k hk;omega) _ _
 have f13:=(f1.trans f2 (Ext.refl _ _)).trans f3 (Ext.refl _ _);have Ym:Below w.heap.size w w3:=by
  rw[hw3,hw2,ee];exact(((Below.refl _ _).alloc (ag _) _).alloc (by simp) _).alloc (by simp;omega) _
 have b13:=(b1.later f2 (Ext.refl _ _)).later f3 (Ext.refl _ _);have b23:=b2.later f3 (Ext.refl _ _);have hbO :∀k,k=b∨k=n→O k:=fun k hk=>(hO k).2 (hk.elim (fun e=>.inl (e▸hp.at_)) (fun e=>.inr (e▸hn.at_)))
 have HM:=aa (Qp b n w.heap.size (w.heap.size+1) Op On O { sh with kids:=ks} t ts T w3 (hp.below Ym) (hn.below Ym) hd hbO b13 b23);have c23:=b23.cell 0;have c33:=b3.cell 0;have BX1:=aa b13;have BX2:=aa b23;have BX3:=aa b3;have F3:=aa f13;have HO:=aa hO;have HD:=aa hd;have HL:=aa hl;have HC:=aa hc;have HBO:=aa hbO;have CZ:=aa hn.at_;have HPW:=aa hp.own;have HNW:=aa hn.own;have hnw:n<w.heap.size:=(hn.own n hn.at_).2;have Dn:b<n:=(hn.own n hn.at_).1;have HWS:Hid (w.heap.size≤w3.heap.size):=aa f13.size;have pJ:=enters_of Tryz.func188 (by kernel_rfl) rfl
 unfold Enters at pJ;dsimp only[show({ sh with kids:=ks}:Nd).num=sh.num from rfl] at HM
 rw[eW] at HM;cases h3:av [46,46,46] t with
 | true =>
  rw[show ky (0,t::ts)=(true,1,ts) from by simp[ky,h3]] at HM
  have HK:=aa (UQ h3);rw[hw3,hw2,ee] at HM;obtain⟨q1,q2,q3⟩:=yi w (.cells #[.pointer (some ⟨b,0,none⟩)] 117) (.cells #[.pointer (some ⟨n,0,none⟩)] 121) .nilFunc (.func (.func 188) #[] #[.pointer (some ⟨w.heap.size,0,none⟩),.pointer (some ⟨w.heap.size+1,0,none⟩)]) 25;clear hr hp hn hl hc UQ hno eW h3 c23 c33 BX1 BX2 BX3 f1 f2 f3 f13 z1 z2 b1 b2 b3 b13 b23 hbO Ym hO hd Qr;go_enter Tryz.func165,Tryz.ntmps165
  go_wp2_with fail
  refine HM.out.mono ?_;rintro e w4 ⟨rfl,p4,n4,f4⟩;rw[←ee,←hw2,←hw3] at f4;have P4:=aa p4;have N4:=aa n4;have F4:=aa (F3.out.trans (f4.mono HBO.out) (Ext.refl _ _));clear p4 n4 f4 ee hw2 hw3;go_wp2_with fail
  go_ret
  exact⟨F4.out,.inl ⟨_,O,rfl,⟨Op,On,T,ks,HO.out,HD.out,P4.out,N4.out,HL.out,HC.out⟩,Ext.refl _ _,HK.out⟩⟩
 | false =>
  rw[show ky (0,t::ts)=(false,0,t::ts) from by simp[ky,h3]] at HM
  obtain⟨iV,m,hm,hk⟩:=hno h3;have HK:=aa hk;have HNL:=aa iV;rw[hw3,hw2,ee] at HM;obtain⟨q1,q2,q3⟩:=yi w (.cells #[.pointer (some ⟨b,0,none⟩)] 117) (.cells #[.pointer (some ⟨n,0,none⟩)] 121) .nilFunc (.func (.func 188) #[] #[.pointer (some ⟨w.heap.size,0,none⟩),.pointer (some ⟨w.heap.size+1,0,none⟩)]) 25;clear hr hp hn hl hc UQ hno eW h3 c23 c33 f1 f2 f3 f13 z1 z2 b1 b2 b3 b13 b23 hbO Ym hO hd Qr hk iV;have HMD:=aa hm;go_enter Tryz.func165,Tryz.ntmps165
  go_wp2_with fail
  refine HM.out.mono ?_;rintro e w4 ⟨rfl,p4,n4,f4⟩;rw[←ee,←hw2,←hw3] at f4;have fO:=f4.mono HBO.out;have bx1:=BX1.out.later fO (Ext.refl _ _);have bx2:=BX2.out.later fO (Ext.refl _ _);have bx3:=BX3.out.later fO (Ext.refl _ _);have c14:=bx1.cell 0;have HRW:=aa (yb b n Op On _ (t::ts) T (.func (.func 189) #[] #[.pointer (some ⟨w.heap.size,0,none⟩),.pointer (some ⟨w.heap.size+1+1,0,none⟩)]) pM _ E m HMD.out w4 p4 n4 HD.out (JR HD.out HBO.out bx1 bx2 bx3) HK.out);have abH:=aa bx2;have F4:=aa (F3.out.trans fO (Ext.refl _ _));have hw4s:w.heap.size+1+1<w4.heap.size:=(aM.1 bx3.1).1;clear p4 n4 f4 fO bx1 bx2 bx3 ee hw2 hw3 q1 q2 q3 HM BX1 BX2 BX3;go_wp2_with fail
  refine HRW.out.mono ?_;rintro e w5 ⟨f5,mm,n5,h5⟩;have fO5:=f5.mono HBO.out;have F5:=aa (F4.out.trans fO5 (Ext.refl _ _));have c25:=(abH.out.later fO5 (Ext.refl _ _)).cell 0;have N5:=aa n5;obtain⟨nv,kv,ha,hi⟩:=n5.ex;obtain⟨nv',kv',hcs,_,hz⟩:=n5.cells;have adz:=n5.at_;have WS:=n5.own;have hnl5:n<w5.heap.size:=(n5.own n n5.at_).2;obtain⟨A5,k5,rfl,_⟩:=bC hi.names;have c55:w5.cell? ⟨n,5,none⟩=some (.slice A5 sh.names.length k5):=by simp[World.cell?,ha,aP]
  have z55:w5.frozen? ⟨n,5,none⟩=false:=by simp[World.frozen?,ha]
  have hgx:w.heap.size+1≠n:=by omega
  have hg2l:w.heap.size+1<w5.heap.size:=by have:=f5.size;omega
  have adA:sh.names.length≤100000:=HNL.out;have adB:=aa (abH.out.later fO5 (Ext.refl _ _));have ZR:Hid (∀k,On k→O k):=aa fun k hk=>(HO.out k).2 (.inr hk)
  have HI:=aa hi;have HST:=aa (fun W4 hf=>UP (W4:=W4) ha hi adz WS hf)
  have c25n:(w5.cell? ⟨w.heap.size+1,0,none⟩)=some (.pointer (some ⟨n,0,none⟩)):=c25;clear c25 hcs hz n5 f5 fO5 c14 ha hi WS;rcases h5 with ⟨v,xs,ZN,rfl,p5,r5,o5,ne5,len5,k5'⟩ | ⟨l,er,rfl,⟨g',rfl,m1,m2⟩,k5'⟩
  ·obtain⟨Av,cv,rfl,_⟩:=bC r5
   have P5:=aa p5;have R5:=aa r5;have O5:=aa o5;have NE:=aa ne5;have K5:=aa k5';have Mr:b+1≤w5.heap.size:=by omega
   clear p5 r5 o5 ne5 k5';go_wp2_with fail
   go_region_law ((refine Jt _ (by rfl) _ _ (by rfl) b (.slice A5 sh.names.length k5) (.slice Av xs.length cv) sh.names xs (by rfl) HI.out.names HI.out.nz (by rfl) R5.out NE.out (by omega) (by omega) Mr ?_;intro g6 c6 w6 r6 f6 o6 l6;have f6':aw (fun k=>(Value.slice A5 sh.names.length k5).ownBlock=some k) w5 w6:=aw.trans (aw.af (O:=fun k=>(Value.slice A5 sh.names.length k5).ownBlock=some k) (by exact⟨rfl,rfl,rfl,ag _,fun _ _=>rfl⟩)) f6 (Ext.refl _ _);obtain⟨fo,c56,z56,hn6,fr6,y8⟩:=HST.out w6 f6';have c26:=(adB.out.later (fo.mono ZR.out) (Ext.refl _ _)).cell 0;have FO:=aa fo;have FR6:=aa (fr6 (.slice (some ⟨g6,0,none⟩) (sh.names.length+xs.length) c6));have HU:=aa (y8 g6 _ c6 _ r6 (fun e=>NE.out (KI.1 e).2));have O6:=aa o6;have L6:=aa l6;clear r6 f6 f6' o6 l6 fo fr6 y8))
   all_goals
    go_wp2
    go_ret
    have Jr :∀k,On k→O k:=fun k hk=>(HO.out k).2 (.inr hk)
    have VP:On g6∨w5.heap.size≤g6:=by
     rcases O6.out with ⟨h1,h2⟩|h1
     ·rcases HI.out.on g6 h1 with h|h
      ·exact .inl h
      ·exact(h2 h).elim
     ·exact .inr h1
    have p6:PS w6 b Op ZN T:=P5.out.kept FO.out HD.out (fun k hk=>ft (HNW.out k hk).1)
    refine⟨(F5.out.trans (FO.out.mono Jr) (Ext.refl _ _)).trans FR6.out (fun k hk=>.inl (hk▸(HO.out n).2 (.inr CZ.out))),.inl ⟨_,fun k=>Op k∨(On k∨k=g6),rfl,⟨Op,fun k=>On k∨k=g6,T,ks,fun _=>Iff.rfl,fun k hk h=>?_,?_,HU.out,HL.out,HC.out⟩,fun k hk=>?_,K5.out⟩⟩
    ·rcases h with h|rfl
     ·exact HD.out k hk h
     ·rcases VP with h|h
      ·exact HD.out _ hk h
      ·have:=(P5.out.own _ hk).2;omega
    ·exact p6.kept (O1:=(· = n)) FR6.out (fun k hk e=>HD.out k hk (e▸CZ.out)) fun k e=>by omega
    ·rcases hk with hk|hk|rfl
     ·exact .inl ((HO.out k).2 (.inl hk))
     ·exact .inl (Jr k hk)
     ·rcases VP with h|h
      ·exact .inl (Jr _ h)
      ·exact .inr (by have:=F5.out.size;omega)
  ·have M2:=aa m2
   have K5:=aa k5';have T6:g'≠n:=by have:=F4.out.size;omega
   clear m2 k5';go_wp2_with fail
   go_region_law (refine JS _ (by rfl) _ _ (by rfl) b (.slice A5 sh.names.length k5) sh.names (by rfl) HI.out.names (by rfl) ?_)
   all_goals
    go_wp2
    go_ret
    exact⟨F5.out.trans (N5.out.fr 5 (.slice A5 sh.names.length k5)).drew (fun k hk=>.inl (hk▸(HO.out n).2 (.inr CZ.out))),.inr ⟨l,_,rfl,⟨g',rfl,by have:=F4.out.size;omega,(Below.heap_setCell _ _ _ g' T6).trans M2.out⟩,K5.out⟩⟩
theorem sy (w:World) (g:Nat) (hg:g=w.heap.size) (b:Nat) (O:Nat→Prop) (hO :∀k,O k→k<w.heap.size) (x:List UInt8) (hx:x≠[]) (X:ByteArray) (hX:X=bG x) :
  Calls Tryz.prog 103 #[.pointer (some ⟨b,0,none⟩),.slice (some ⟨g,0,none⟩) 1 1] (w.alloc (.cells #[.string X] 9)) (kt b O (au [x]) w):=by
 subst hg;exact cA w b O hO x hx X hX
theorem Real.nms {W:World} {b n:Nat} {O:Nat→Prop} {T0:List Nd} {s:St} (h:Real W b n O T0 s):n<W.heap.size∧∃A c,W.cell? ⟨n,5,none⟩=some (.slice A s.h.names.length c):=by
 obtain⟨Op,On,T,ks,hO,hd,hp,hn,hl,hc⟩:=h.ex;obtain⟨nv,kv,hcs,hi,hz⟩:=hn.cells;obtain⟨A,c,rfl,_⟩:=bC hi.names;exact⟨(hn.own n hn.at_).2,A,c,hcs.c5⟩
def yj (li:bW):bW:=fun s K E=>aK [au [wIn],li,eu] { s with h:={ s.h with kind:=27}} K E
def UR (ex li:bW):bW:=fun s K E=>(s.h.names.length=1→∃t ts,s.ts=t::ts∧(av [61] t=true→aK [ex,au [[44]],ex,bw [44] [ex]] { s with h:={ s.h with kind:=26},ts:=ts} K E)∧(av [61] t=false→yj li s K E))∧(s.h.names.length≠1→yj li s K E)
theorem JT {ex:bW} (hE:ey 105 ex) (b n:Nat) (O:Nat→Prop) (T0:List Nd) (s:St) (K:St→Prop) (E:Int→Prop) (w:World) (hr:Real w b n O T0 s) (hl:s.h.names.length=1) (t:ak) (ts:List ak) (hs:s.ts=t::ts) (hq:av [61] t=true) (hk:aK [ex,au [[44]],ex,bw [44] [ex]] { s with h:={ s.h with kind:=26},ts:=ts} K E):
  Calls Tryz.prog 108 #[.pointer (some ⟨b,0,none⟩),.pointer (some ⟨n,0,none⟩)] w (bB b n O T0 K E w):=by
 obtain⟨hnw,A5,c5',c5⟩:=hr.nms;rw[hl] at c5;have HT:=aa (lz hr hs [61] ⟨#[61]⟩ rfl (by decide) hq)
 have HK:=aa hk;clear hr hk hs hq hl;go_enter Tryz.func108,Tryz.ntmps108
 go_wp2_with fail
 refine HT.out.mono ?_;rintro e wx ⟨rfl,r2,f2⟩;have FF:=aa f2;have R:=aa r2;clear r2 f2 c5;obtain⟨⟨v0,k0⟩,y0,iV,f4,r4⟩:=R.out.kind 26;have F0:=aa (FF.out.trans f4 (Ext.refl _ _));have P0:=aa r4;have V1:=aa (sy _ wx.heap.size (by simp) b O r4.lt [44] (by decide) ⟨#[44]⟩ rfl)
 clear f4 r4;go_wp2_with fail
 refine V1.out.mono ?_;rintro e w1 ⟨f1,a1,c1,rfl,b1,h1⟩;have F1:=aa (F0.out.trans (aw.af (O:=O) b1) (Ext.refl _ _));have P1:=aa (P0.out.below b1);have H1:=aa h1;clear b1 h1 V1 k0 y0;have si :∀k,O k→k<w1.heap.size:=P1.out.lt;have V2:=aa (pO w1 b O si [aZ 105 b] [ex] (by simp) ⟨hE.part (enters_of Tryz.func105 (by kernel_rfl) rfl) w1 b O,trivial⟩ [44] (by decide) ⟨#[44]⟩ rfl)
 clear si;go_wp2_with fail
 refine V2.out.mono ?_;rintro e w2 ⟨f2,a2,c2,rfl,b2,h2⟩;have F2:=aa (F1.out.trans (aw.af (O:=O) b2) (Ext.refl _ _));have P2:=aa (P1.out.below b2);have L1:=aa (H1.out.later (aw.af (O:=O) b2) (Ext.refl _ _));clear H1;have H1:=L1;clear L1;have H2:=aa h2;clear b2 h2 V2;have HN:=aa (jo w w2 P2.out F2.out (Ext.refl _ _) [aZ 105 b,.func (.func f1) a1 c1,aZ 105 b,.func (.func f2) a2 c2] [ex,au [[44]],ex,bw [44] [ex]] (by simp) ⟨hE.part (enters_of Tryz.func105 (by kernel_rfl) rfl) w2 b O,H1.out,hE.part (enters_of Tryz.func105 (by kernel_rfl) rfl) w2 b O,H2.out,trivial⟩ HK.out)
 go_wp2_with fail
 refine HN.out.mono ?_;intro e wz hz;obtain⟨v,rfl⟩:=hz.ret;have HZ:=aa hz;clear hz;go_wp2_with fail
 go_ret
 exact HZ.out
theorem Eo {li:bW} (hL:ey 98 li) (b n:Nat) (O:Nat→Prop) (T0:List Nd) (s:St) (K:St→Prop) (E:Int→Prop) (w:World) (hr:Real w b n O T0 s) (hl:s.h.names.length=1) (t:ak) (ts:List ak) (hs:s.ts=t::ts) (hq:av [61] t=false) (hk:yj li s K E):
  Calls Tryz.prog 108 #[.pointer (some ⟨b,0,none⟩),.pointer (some ⟨n,0,none⟩)] w (bB b n O T0 K E w):=by
 obtain⟨hnw,A5,c5',c5⟩:=hr.nms;rw[hl] at c5;have HT:=aa (oy hr hs [61] ⟨#[61]⟩ rfl (by decide) hq)
 unfold yj at hk;have HK:=aa hk;clear hr hk hs hq hl;go_enter Tryz.func108,Tryz.ntmps108
 go_wp2_with fail
 refine HT.out.mono ?_;rintro e wx ⟨rfl,r2,f2⟩;have FF:=aa f2;have R:=aa r2;clear r2 f2 c5;obtain⟨⟨v0,k0⟩,y0,iV,f4,r4⟩:=R.out.kind 27;have F0:=aa (FF.out.trans f4 (Ext.refl _ _));have P0:=aa r4;have V1:=aa (sy _ wx.heap.size (by simp) b O r4.lt [105,110] (by decide) ⟨#[105,110]⟩ rfl)
 clear f4 r4;go_wp2_with fail
 refine V1.out.mono ?_;rintro e w1 ⟨f1,a1,c1,rfl,b1,h1⟩;have F1:=aa (F0.out.trans (aw.af (O:=O) b1) (Ext.refl _ _));have P1:=aa (P0.out.below b1);have H1:=aa h1;clear b1 h1 V1 k0 y0;have HN:=aa (jo w w1 P1.out F1.out (Ext.refl _ _) [.func (.func f1) a1 c1,aZ 98 b,.func (.func 139) #[] #[]] [au [[105,110]],li,eu] (by simp) ⟨H1.out,hL.part (enters_of Tryz.func98 (by kernel_rfl) rfl) w1 b O,jN w1 b O,trivial⟩ HK.out)
 go_wp2_with fail
 refine HN.out.mono ?_;intro e wz hz;obtain⟨v,rfl⟩:=hz.ret;have HZ:=aa hz;clear hz;go_wp2_with fail
 go_ret
 exact HZ.out
theorem Ep {li:bW} (hL:ey 98 li) (b n:Nat) (O:Nat→Prop) (T0:List Nd) (s:St) (K:St→Prop) (E:Int→Prop) (w:World) (hr:Real w b n O T0 s) (hl:s.h.names.length≠1) (hk:yj li s K E):
  Calls Tryz.prog 108 #[.pointer (some ⟨b,0,none⟩),.pointer (some ⟨n,0,none⟩)] w (bB b n O T0 K E w):=by
 obtain⟨hnw,A5,c5',c5⟩:=hr.nms;have q1:((s.h.names.length:Int) == 1)=false:=aC.2 (by omega)
 unfold yj at hk;have HK:=aa hk;have R:=aa hr;have FF:=aa (aw.refl O w);clear hr hk hl;go_enter Tryz.func108,Tryz.ntmps108
 obtain⟨⟨v0,k0⟩,y0,iV,f4,r4⟩:=R.out.kind 27;have F0:=aa (FF.out.trans f4 (Ext.refl _ _));have P0:=aa r4;have V1:=aa (sy _ w.heap.size (by simp) b O r4.lt [105,110] (by decide) ⟨#[105,110]⟩ rfl)
 clear f4 r4;go_wp2_with fail
 refine V1.out.mono ?_;rintro e w1 ⟨f1,a1,c1,rfl,b1,h1⟩;have F1:=aa (F0.out.trans (aw.af (O:=O) b1) (Ext.refl _ _));have P1:=aa (P0.out.below b1);have H1:=aa h1;clear b1 h1 V1 k0 y0;have HN:=aa (jo w w1 P1.out F1.out (Ext.refl _ _) [.func (.func f1) a1 c1,aZ 98 b,.func (.func 139) #[] #[]] [au [[105,110]],li,eu] (by simp) ⟨H1.out,hL.part (enters_of Tryz.func98 (by kernel_rfl) rfl) w1 b O,jN w1 b O,trivial⟩ HK.out)
 go_wp2_with fail
 refine HN.out.mono ?_;intro e wz hz;obtain⟨v,rfl⟩:=hz.ret;have HZ:=aa hz;clear hz;go_wp2_with fail
 go_ret
 exact HZ.out
theorem Qs {ex li:bW} (hE:ey 105 ex) (hL:ey 98 li):ey 108 (UR ex li):=by
 rintro b n O T0 s K E w hr ⟨h1,h2⟩;by_cases hl:s.h.names.length=1
 ·obtain⟨t,ts,hs,hy,hn⟩:=h1 hl
  cases hq:av [61] t with
  | true=>exact JT hE b n O T0 s K E w hr hl t ts hs hq (hy hq)
  | false=>exact Eo hL b n O T0 s K E w hr hl t ts hs hq (hn hq)
 ·exact Ep hL b n O T0 s K E w hr hl (h2 hl)
theorem aN.zo {w:World} {b:Nat} {O:Nat→Prop} (g:Nat) (hg:g=w.heap.size) (hO :∀k,O k→k<w.heap.size) (vs:List Value) (cN:List bW) (hl:vs.length≤100) (h:jO w b O vs cN):aN (w.alloc (.cells vs.toArray 123)) b O (.slice (some ⟨g,0,none⟩) vs.length vs.length) cN:=by
 subst hg;exact aN.new hO vs cN hl h
def JU (li bd:bW):bW:=fun s K E=>∃t ts,s.ts=t::ts∧(av bo t=false→aK [iB,bw [61] [li]] { s with h:={ s.h with kind:=19}} K E) ∧
 (av bo t=true→∃u us,ts=u::us∧(u.1≠1→E u.2.1)∧(u.1=1→dy (dR ⟨11,t.2.1,0,0,⟨#[]⟩,[],[]⟩ [bd]) { s with h:={ s.h with kind:=28,names:=[bG u.2.2.2]},ts:=us} K E))
theorem vS {W:World} {b n:Nat} {O:Nat→Prop} {T0:List Nd} {s:St} (h:Real W b n O T0 s) {t:ak} {ts:List ak} (hs:s.ts=t::ts):Calls Tryz.prog 49 #[.pointer (some ⟨b,0,none⟩)] W fun e w'=>e=.returned (fW t)∧Below W.heap.size W w':=by
 obtain⟨Op,T,hp⟩:=h.ps;rw[hs] at hp;exact cB b Op t ts T W hp
theorem Er {li:bW} (hL:ey 98 li) (b n:Nat) (O:Nat→Prop) (T0:List Nd) (s:St) (K:St→Prop) (E:Int→Prop) (w:World) (hr:Real w b n O T0 s) (t:ak) (ts:List ak) (hs:s.ts=t::ts) (hq:av bo t=false) (hk:aK [iB,bw [61] [li]] { s with h:={ s.h with kind:=19}} K E) :
  Calls Tryz.prog 110 #[.pointer (some ⟨b,0,none⟩),.pointer (some ⟨n,0,none⟩)] w (bB b n O T0 K E w):=by
 have HA:=aa (vS hr hs);have HT:=aa (fun(W:World) (hW:Real W b n O T0 s)=>oy hW hs bo ⟨#[102,117,110,99,116,105,111,110]⟩ rfl (by decide) hq)
 have HK:=aa hk;have HR:=aa hr;obtain⟨t0,t1,t2,t3⟩:=t;unfold fW at HA;dsimp only at HA
 have F9:=O0 t0 t1 t2 (bG t3);generalize bG t3=S at *;clear hr hk hs hq;go_enter Tryz.func110,Tryz.ntmps110
 go_wp2_with fail
 refine HA.out.mono ?_;rintro e wa ⟨rfl,b1⟩;have B1:=aa b1;have AM:=aa (HT.out wa (HR.out.below b1));clear b1 HT;go_wp2_with fail
 refine AM.out.mono ?_;rintro e wx ⟨rfl,r2,f2⟩;obtain⟨⟨v0,k0⟩,y0,iV,f4,r4⟩:=r2.kind 19;have F0:=aa ((aw.af (O:=O) B1.out).trans (f2.trans f4 (Ext.refl _ _)) (Ext.refl _ _));have P0:=aa r4;have V1:=aa (s9 _ wx.heap.size (by simp) b O r4.lt [aZ 98 b] [li] (by simp) ⟨hL.part (enters_of Tryz.func98 (by kernel_rfl) rfl) _ b O,trivial⟩ [61] (by decide) ⟨#[61]⟩ rfl)
 clear f2 r2 f4 r4;go_wp2_with fail
 refine V1.out.mono ?_;rintro e w1 ⟨f1,a1,c1,rfl,b1,h1⟩;have F1:=aa (F0.out.trans (aw.af (O:=O) b1) (Ext.refl _ _));have P1:=aa (P0.out.below b1);have HN:=aa (jo w w1 P1.out F1.out (Ext.refl _ _) [aZ 107 b,.func (.func f1) a1 c1] [iB,bw [61] [li]] (by simp) ⟨GI.part (enters_of Tryz.func107 (by kernel_rfl) rfl) w1 b O,h1,trivial⟩ HK.out)
 clear b1 h1 V1 k0 y0;go_wp2_with fail
 refine HN.out.mono ?_;intro e wz hz;obtain⟨v,rfl⟩:=hz.ret;have HZ:=aa hz;clear hz;go_wp2_with fail
 go_ret
 exact HZ.out
theorem Real.Qt {W:World} {b n:Nat} {O:Nat→Prop} {T0:List Nd} {s:St} (h:Real W b n O T0 s) (S:ByteArray):n<W.heap.size∧(∃v,W.cell? ⟨n,5,none⟩=some v)∧W.frozen? ⟨n,5,none⟩=false ∧
  aw O W ((W.setCell ⟨n,5,none⟩ (.slice (some ⟨W.heap.size,0,none⟩) 1 1)).alloc (.cells #[.string S] 9))∧∃O2,Ext O O2 W∧Real ((W.setCell ⟨n,5,none⟩ (.slice (some ⟨W.heap.size,0,none⟩) 1 1)).alloc (.cells #[.string S] 9)) b n O2 T0 { s with h:={ s.h with names:=[S]}}:=by
 have hlt:=h.lt;obtain⟨Op,On,T,ks,hO,hd,hp,hn,hl,hc⟩:=h.ex;obtain⟨nv,kv,hcs,_,hz⟩:=hn.cells;have iV:=(hn.own n hn.at_).2;have Dn:=(hn.own n hn.at_).1;have hpA:=hp.below (aX W (.cells #[.string S] 9));have hnA:=hn.below (aX W (.cells #[.string S] 9));have hb1:b+1≤W.heap.size:=(hp.own b hp.at_).2;have hrow:jP (W.alloc (.cells #[.string S] 9)) b (.slice (some ⟨W.heap.size,0,none⟩) 1 1) [S]:=⟨rfl,.inr ⟨W.heap.size,1,#[.string S],rfl,hb1,World.alloc_heap_new W _,ag _,by unfold maxLen;omega,rfl,rfl⟩⟩
 have y8:=Cw hnA _ [S] hrow (by simp)
 have mM:=hnA.fr 5 (.slice (some ⟨W.heap.size,0,none⟩) 1 1);have oR:=hpA.kept (O1:=(· = n)) mM (fun k hk e=>hd k hk (e▸hn.at_)) fun k e=>by omega
 rw[World.setCell_alloc_past _ _ _ _ iV] at y8 mM oR;refine⟨iV,⟨_,hcs.c5⟩,hz 5,((aw.refl O W).alloc _).trans mM (fun k e=>.inl ((hO k).2 (.inr (e▸hn.at_)))),fun k=>Op k∨(On k∨(Value.slice (some ⟨W.heap.size,0,none⟩) 1 1).ownBlock=some k),fun k hk=>?_,Op,_,T,ks,fun _=>Iff.rfl,fun k hk e=>?_,oR,y8,hl,hc⟩
 ·rcases hk with hk|hk|hk
  ·exact .inl ((hO k).2 (.inl hk))
  ·exact .inl ((hO k).2 (.inr hk))
  ·exact .inr (by simp[Value.ownBlock] at hk;omega)
 ·rcases e with e|e
  ·exact hd k hk e
  ·have:=(hp.own k hk).2
   simp[Value.ownBlock] at e;omega
theorem JV {W:World} {b n:Nat} {O:Nat→Prop} {T0:List Nd} {s:St} (h:Real W b n O T0 s) {t:ak} {ts:List ak} (hs:s.ts=t::ts):Calls Tryz.prog 135 #[.pointer (some ⟨b,0,none⟩)] W fun e w'=>aw O W w' ∧
  ((t.1=1∧e=.returned (.tuple #[.string (bG t.2.2.2),.nilIface])∧Real w' b n O T0 { s with ts:=ts})∨(t.1≠1∧∃er,e=.returned (.tuple #[.string ⟨#[]⟩,er])∧TN W.heap.size w' er t.2.1)):=by
 obtain⟨Op,On,T,ks,hO,hd,hp,hn,hl,hc⟩:=h.ex;rw[hs] at hp;refine(D8 b Op t ts T W hp).mono ?_;rintro e w' ⟨hf,h1⟩;refine⟨hf.mono fun k hk=>(hO k).2 (.inl (hk▸hp.at_)),h1.imp ?_ id⟩
 rintro⟨a1,a2,a3⟩;exact⟨a1,a2,⟨Op,On,T,ks,hO,hd,a3,hn.kept hf fun k hk e=>hd b hp.at_ (e▸hk),hl,hc⟩⟩
theorem JW {bd:bW} (El:ey 141 bd) (b n:Nat) (O:Nat→Prop) (T0:List Nd) (s:St) (K:St→Prop) (E:Int→Prop) (w:World) (hr:Real w b n O T0 s) (t u:ak) (us:List ak) (hs:s.ts=t::u::us) (hq:av bo t=true) (pt:u.1≠1→E u.2.1)
  (hk:u.1=1→dy (dR ⟨11,t.2.1,0,0,⟨#[]⟩,[],[]⟩ [bd]) { s with h:={ s.h with kind:=28,names:=[bG u.2.2.2]},ts:=us} K E) :
  Calls Tryz.prog 110 #[.pointer (some ⟨b,0,none⟩),.pointer (some ⟨n,0,none⟩)] w (bB b n O T0 K E w):=by
 have HA:=aa (vS hr hs);have HT:=aa (fun(W:World) (hW:Real W b n O T0 s)=>lz hW hs bo ⟨#[102,117,110,99,116,105,111,110]⟩ rfl (by decide) hq)
 have HK:=aa hk;have HB:=aa pt;have HR:=aa hr;obtain⟨t0,t1,t2,t3⟩:=t;unfold fW at HA;dsimp only at HA HK
 have F9:=O0 t0 t1 t2 (bG t3);generalize bG t3=S at *;clear hr hk hs hq pt;go_enter Tryz.func110,Tryz.ntmps110
 go_wp2_with fail
 refine HA.out.mono ?_;rintro e wa ⟨rfl,b1⟩;have B1:=aa b1;have AM:=aa (HT.out wa (HR.out.below b1));clear b1 HT;go_wp2_with fail
 refine AM.out.mono ?_;rintro e wx ⟨rfl,r2,f2⟩;obtain⟨⟨v0,k0⟩,y0,iV,f4,r4⟩:=r2.kind 28;have F0:=aa ((aw.af (O:=O) B1.out).trans (f2.trans f4 (Ext.refl _ _)) (Ext.refl _ _));have HNm:=aa (JV r4 rfl);clear f2 r2 f4 r4;go_wp2_with fail
 refine HNm.out.mono ?_;rintro e w1 ⟨f5,h5⟩;have F1:=aa (F0.out.trans f5 (Ext.refl _ _));rcases h5 with ⟨g1,rfl,r5⟩ | ⟨g1,er,rfl,⟨g',rfl,m1,m2⟩⟩
 ·obtain⟨S2,hS2⟩ :∃S2,S2=bG u.2.2.2:=⟨_,rfl⟩
  rw[←hS2];have Rk:=HK.out g1;rw[←hS2] at Rk;have wG:=aa Rk;obtain⟨AX,⟨v5,k5⟩,y5,f6,O2,x2,r6⟩:=r5.Qt S2;have X2:Hid (Ext O O2 w):=aa ((Ext.refl O w).trans x2 F1.out.size);have F6:=aa (F1.out.trans f6 (Ext.refl _ _));have HP:=aN.zo (w:=(w1.setCell ⟨n,5,none⟩ (.slice (some ⟨w1.heap.size,0,none⟩) 1 1)).alloc (.cells #[.string S2] 9)) (b:=b) (O:=O2) (w1.heap.size+1) (by simp) r6.lt [aZ 141 b] [bd] (by simp) ⟨El.part (enters_of Tryz.func141 (by kernel_rfl) rfl) _ b O2,trivial⟩
  have HH:=aa (sj b O2 ⟨11,t1,0,0,⟨#[]⟩,[],[]⟩ (.slice none 0 0) _ [bd] _ (zR.nil _ b) HP (fun k hk=>by have:=r6.lt k hk;simp at this ⊢;omega))
  have R6:=aa r6;clear HP r6 f6 r5 f5 Rk hS2 k0 y0 x2;go_wp2_with fail
  refine HH.out.mono ?_;rintro e w7 ⟨v,rfl,b7,h7⟩;obtain⟨f,first,cap,rfl,pJ,bq⟩:=h7.1.call R6.out (ax (aX _ _) b7) wG.out
  have ec:=aa bq;clear h7 bq b7;unfold Enters at pJ;go_wp2_with fail
  refine ec.out.mono ?_;intro e w8 h8;obtain⟨v,rfl⟩:=h8.ret;have H8:=aa h8;clear h8;go_wp2_with fail
  go_ret
  exact Cu H8.out F6.out X2.out
 ·have M2:=aa m2
  have M1:=aa m1;have KB:=aa (HB.out g1);clear m1 m2 f5 k0 y0;go_wp2_with fail
  go_ret
  exact⟨F1.out,.inr ⟨_,_,rfl,⟨g',rfl,aL F0.out.size M1.out,M2.out⟩,KB.out⟩⟩
theorem Es {li bd:bW} (hL:ey 98 li) (El:ey 141 bd):ey 110 (JU li bd):=by
 rintro b n O T0 s K E w hr ⟨t,ts,hs,h1,h2⟩;cases hq:av bo t with
 | true =>
  obtain⟨u,us,rfl,h3,h4⟩:=h2 hq;exact JW El b n O T0 s K E w hr t u us hs hq h3 h4
 | false=>exact Er hL b n O T0 s K E w hr t ts hs hq (h1 hq)
end Go.Proofs.YtodmcdfeldkocaaGreatDoor
