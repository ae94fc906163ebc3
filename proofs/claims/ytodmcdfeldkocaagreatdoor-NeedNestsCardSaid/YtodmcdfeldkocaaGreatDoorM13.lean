/- Parts of the proof. -/
import Derived.Laws.EntriesVeiled
import Derived.Test.YtodmcdfeldkocaaGreatDoorM12
set_option maxHeartbeats 16000000
set_option maxRecDepth 20000
namespace Go.Proofs.YtodmcdfeldkocaaGreatDoor
open Go.RowKit
def ab4 (op:iQ) (li:bW):bW:=fun s K E=>∃t r,s.ts=t::r∧((t.1=4∨av [123] t=true)→dx op s K E)∧(t.1≠4→av [123] t=false→aJ [au [[40]],dF [41] li,au [[41]]] s K E)
theorem Real.ps {W:World} {b n:Nat} {O:Nat→Prop} {T0:List Nd} {s:St} (h:Real W b n O T0 s) :∃Op T,PS W b Op s.ts T:=by
 obtain⟨Op,On,T,ks,hO,hd,hp,hn,hl,hc⟩:=h.ex;exact⟨Op,T,hp⟩
theorem U8 {op:iQ} (hT:pI 183 op) (b n:Nat) (O:Nat→Prop) (T0:List Nd) (s:St) (K:St→Prop) (E:Int→Prop) (w:World) (hr:Real w b n O T0 s) (t:ak) (r:List ak) (hs:s.ts=t::r) (hc:t.1=4∨av [123] t=true) (hk:dx op s K E):Calls Tryz.prog 190 #[.pointer (some ⟨b,0,none⟩),.pointer (some ⟨n,0,none⟩)] w (bB b n O T0 K E w):=by
 have HA:Hid (Calls Tryz.prog 49 #[.pointer (some ⟨b,0,none⟩)] w fun e w'=>e=.returned (gb t)∧Below w.heap.size w w'):=aa (by
  obtain⟨Op,T,hp⟩:=hr.ps;rw[hs] at hp;exact cC b Op t r T w hp)
 have HW:=aa (fun W hW=>jx hr hs W hW)
 have HR:=aa hr;have ab5:=aa (fun W1 hb=>Ck b O 183 _ _ op W1 (hT.one (enters_of Tryz.func183 (by kernel_rfl) rfl) W1 b O) (hr.below (W':=W1) hb).lt)
 have HK:=aa hk;obtain⟨t0,t1,t2,t3⟩:=t;unfold gb at HA;dsimp only at *
 have F0:=Ch t0 t1 t2 (bx t3);by_cases h4:t0=4
 ·have q4:(t0 == 4)=true:=wL.2 h4
  clear hr hk hs hc h4 HW;generalize bx t3=S at *;go_enter Tryz.func190,Tryz.ntmps190
  go_wp2_with fail
  refine HA.out.mono ?_;rintro e w1 ⟨rfl,b1⟩;have B1:=aa b1;have HC:=aa (ab5.out w1 b1);clear b1;go_wp2_with fail
  refine HC.out.mono ?_;rintro e w2 ⟨v,rfl,b2,h2⟩;obtain⟨f,first,cap,rfl,pE,bs⟩:=h2.1.call HR.out (ay B1.out b2) HK.out
  have dY:=aa bs;clear h2 bs b2;unfold Enters at pE;go_wp2_with fail
  refine dY.out.mono ?_;intro e w2 h3;obtain⟨v,rfl⟩:=h3.ret;have H3:=aa h3;clear h3;go_wp2_with fail
  go_ret
  exact H3.out
 ·have q4:(t0 == 4)=false:=aC.2 h4
  have hw:av [123] (t0,t1,t2,t3)=true:=hc.elim (fun h=>(h4 h).elim) id
  have g1:((ag (t0,t1,t2,t3)).toList == [123])=true:=aj (s:=[123]) (by decide) _ hw
  clear hr hk hs hc h4 hw;generalize bx t3=S at *;generalize ag (t0,t1,t2,t3)=Y at *;go_enter Tryz.func190,Tryz.ntmps190
  go_wp2_with fail
  refine HA.out.mono ?_;rintro e w1 ⟨rfl,b1⟩;have B1:=aa b1;have je:=aa (HW.out w1 b1);clear b1;go_wp2_with fail
  refine je.out.mono ?_;rintro e w2 ⟨rfl,b2⟩;have B2:=aa (ay B1.out b2);have HC:=aa (ab5.out w2 B2.out);clear b2;go_wp2_with fail
  refine HC.out.mono ?_;rintro e w3 ⟨v,rfl,b3,h2⟩;obtain⟨f,first,cap,rfl,pE,bs⟩:=h2.1.call HR.out (ay B2.out b3) HK.out
  have dY:=aa bs;clear h2 bs b3;unfold Enters at pE;go_wp2_with fail
  refine dY.out.mono ?_;intro e w2 h3;obtain⟨v,rfl⟩:=h3.ret;have H3:=aa h3;clear h3;go_wp2_with fail
  go_ret
  exact H3.out
theorem Qh {li:bW} (hL:eu 98 li) (b n:Nat) (O:Nat→Prop) (T0:List Nd) (s:St) (K:St→Prop) (E:Int→Prop) (w:World) (hr:Real w b n O T0 s) (t:ak) (r:List ak) (hs:s.ts=t::r) (h4:t.1≠4) (hw:av [123] t=false) (hk:aJ [au [[40]],dF [41] li,au [[41]]] s K E):Calls Tryz.prog 190 #[.pointer (some ⟨b,0,none⟩),.pointer (some ⟨n,0,none⟩)] w (bB b n O T0 K E w):=by
 have HA:Hid (Calls Tryz.prog 49 #[.pointer (some ⟨b,0,none⟩)] w fun e w'=>e=.returned (gb t)∧Below w.heap.size w w'):=aa (by
  obtain⟨Op,T,hp⟩:=hr.ps;rw[hs] at hp;exact cC b Op t r T w hp)
 have HW:=aa (fun W hW=>jx hr hs W hW)
 have HR:=aa hr;have HK:=aa hk;obtain⟨t0,t1,t2,t3⟩:=t;unfold gb at HA;dsimp only at *
 have F9:=Ch t0 t1 t2 (bx t3);have q4:(t0 == 4)=false:=aC.2 h4;have g1:((ag (t0,t1,t2,t3)).toList == [123])=false:=aj (s:=[123]) (by decide) _ hw
 clear hr hk hs h4 hw;generalize bx t3=S at *;generalize ag (t0,t1,t2,t3)=Y at *;go_enter Tryz.func190,Tryz.ntmps190
 go_wp2_with fail
 refine HA.out.mono ?_;rintro e wa ⟨rfl,b1⟩;have B1:=aa b1;have je:=aa (HW.out wa b1);clear b1;go_wp2_with fail
 refine je.out.mono ?_;rintro e w0 ⟨rfl,b2⟩;have F0:=aa (ax.af (O:=O) (ay B1.out b2));have P0:=aa (HR.out.below (ay B1.out b2));clear b2 HW je HA;have oZ :∀k,O k→k<w0.heap.size:=P0.out.lt;have V1:=aa (cB w0 b O oZ [40] (by decide) ⟨#[40]⟩ rfl)
 clear oZ;go_wp2_with fail
 refine V1.out.mono ?_;rintro e w1 ⟨f1,a1,c1,rfl,b1,h1⟩;have F1:=aa (F0.out.trans (ax.af (O:=O) b1) (Ext.refl _ _));have P1:=aa (P0.out.below b1);have H1:=aa h1;clear b1 h1 V1;have rX :∀k,O k→k<w1.heap.size:=P1.out.lt;have V2:=aa (r9 w1 b O rX [41] (by decide) ⟨#[41]⟩ rfl 98 _ _ (li) (hL.part (enters_of Tryz.func98 (by kernel_rfl) rfl) w1 b O))
 clear rX;go_wp2_with fail
 refine V2.out.mono ?_;rintro e w2 ⟨f2,a2,c2,rfl,b2,h2⟩;have F2:=aa (F1.out.trans (ax.af (O:=O) b2) (Ext.refl _ _));have P2:=aa (P1.out.below b2);have L1:=aa (H1.out.later (ax.af (O:=O) b2) (Ext.refl _ _));clear H1;have H1:=L1;clear L1;have H2:=aa h2;clear b2 h2 V2;have KT :∀k,O k→k<w2.heap.size:=P2.out.lt;have V3:=aa (cB w2 b O KT [41] (by decide) ⟨#[41]⟩ rfl)
 clear KT;go_wp2_with fail
 refine V3.out.mono ?_;rintro e w3 ⟨f3,a3,c3,rfl,b3,h3⟩;have F3:=aa (F2.out.trans (ax.af (O:=O) b3) (Ext.refl _ _));have P3:=aa (P2.out.below b3);have L1:=aa (H1.out.later (ax.af (O:=O) b3) (Ext.refl _ _));clear H1;have H1:=L1;clear L1;have L2:=aa (H2.out.later (ax.af (O:=O) b3) (Ext.refl _ _));clear H2;have H2:=L2;clear L2;have H3:=aa h3;clear b3 h3 V3;have HN:=aa (jr w w3 P3.out F3.out (Ext.refl _ _) [.func (.func f1) a1 c1,.func (.func f2) a2 c2,.func (.func f3) a3 c3] [au [[40]],dF [41] (li),au [[41]]] (by simp) ⟨H1.out,H2.out,H3.out,trivial⟩ HK.out)
 go_wp2_with fail
 refine HN.out.mono ?_;intro e wz hz;obtain⟨v,rfl⟩:=hz.ret;have HZ:=aa hz;clear hz;go_wp2_with fail
 go_ret
 exact HZ.out
theorem ab6 {op:iQ} {li:bW} (hT:pI 183 op) (hL:eu 98 li):eu 190 (ab4 op li):=by
 rintro b n O T0 s K E w hr ⟨t,r,hs,h1,h2⟩;by_cases hc:t.1=4∨av [123] t=true
 ·exact U8 hT b n O T0 s K E w hr t r hs hc (h1 hc)
 ·have h4:t.1≠4:=fun h=>hc (.inl h)
  have hw:av [123] t=false:=by
   cases h:av [123] t with
   | true=>exact(hc (.inr h)).elim
   | false=>rfl
  exact Qh hL b n O T0 s K E w hr t r hs h4 hw (h2 h4 hw)
def ku (b:Nat) (O:Nat→Prop) (kind:Int) (cO:List bW) (w:World) (e:Ending) (w':World):Prop:=∃A m,e=.returned (.tuple #[.int .i64 kind,.slice A m m])∧Below w.heap.size w w'∧aM w' b O (.slice A m m) cO
theorem aM.nil (W:World) (b:Nat) (O:Nat→Prop):aM W b O (.slice none 0 0) []:=⟨[],.inl ⟨rfl,rfl⟩,trivial⟩
theorem U9 (b:Nat) (O:Nat→Prop) (t:ak) (ts:List ak) (T:List Nd) (w:World) (hp:PS w b O (t::ts) T) (hq:av [46] t=true):Calls Tryz.prog 167 #[.pointer (some ⟨b,0,none⟩)] w (ku b O 8 [aB,tq] w):=by
 have HW:=aa (bJ b O t ts T w hp);have g0:((ag t).toList == [46])=true:=aj (s:=[46]) (by decide) t hq
 have P:=aa hp;generalize ag t=Y at *;clear hp hq;go_enter Tryz.func167,Tryz.ntmps167
 go_wp2_with fail
 refine HW.out.mono ?_;rintro e w0 ⟨rfl,b0⟩;have F0:=aa (ax.af (O:=O) b0);have P0:=aa (P.out.below b0);have B0:=aa b0;clear b0;have HO:=aa (fun k hk=>(P0.out.own k hk).2)
 have HN:=aa (aM.new (w:=w0) (b:=b) (O:=O) HO.out [ba 55 b,ba 163 b] [aB,tq] (by simp) ⟨bg w0 b O,PE.part (enters_of Tryz.func163 (by kernel_rfl) rfl) w0 b O,trivial⟩)
 go_wp2_with fail
 go_ret2
 exact⟨_,_,rfl,ay B0.out (aW w0 _),HN.out⟩
theorem aag {ex:bW} (hE:eu 105 ex) (b:Nat) (O:Nat→Prop) (t:ak) (ts:List ak) (T:List Nd) (w:World) (hp:PS w b O (t::ts) T) (hq:av [91] t=true):Calls Tryz.prog 167 #[.pointer (some ⟨b,0,none⟩)] w (ku b O 8 [aB,ex,au [[93]]] w):=by
 have HW:=aa (bJ b O t ts T w hp);have g0:=aQ [46] hq (by decide)
 have g1:((ag t).toList == [91])=true:=aj (s:=[91]) (by decide) t hq
 have P:=aa hp;generalize ag t=Y at *;clear hp hq;go_enter Tryz.func167,Tryz.ntmps167
 go_wp2_with fail
 refine HW.out.mono ?_;rintro e w0 ⟨rfl,b0⟩;have F0:=aa (ax.af (O:=O) b0);have P0:=aa (P.out.below b0);have B0:=aa b0;clear b0;have oZ :∀k,O k→k<w0.heap.size:=fun k hk=>(P0.out.own k hk).2
 have V1:=aa (cB w0 b O oZ [93] (by decide) ⟨#[93]⟩ rfl)
 clear oZ;go_wp2_with fail
 refine V1.out.mono ?_;rintro e w1 ⟨f1,a1,c1,rfl,b1,h1⟩;have F1:=aa (F0.out.trans (ax.af (O:=O) b1) (Ext.refl _ _));have B1:=aa (ay B0.out b1);have P1:=aa (P0.out.below b1);have H1:=aa h1;clear b1 h1 V1;have HO:=aa (fun k hk=>(P1.out.own k hk).2)
 have HN:=aa (aM.new (w:=w1) (b:=b) (O:=O) HO.out [ba 55 b,ba 105 b,.func (.func f1) a1 c1] [aB,ex,au [[93]]] (by simp) ⟨bg w1 b O,hE.part (enters_of Tryz.func105 (by kernel_rfl) rfl) w1 b O,H1.out,trivial⟩)
 go_wp2_with fail
 go_ret2
 exact⟨_,_,rfl,ay B1.out (aW w1 _),HN.out⟩
theorem JY {ar:bW} (hG:eu 190 ar) (b:Nat) (O:Nat→Prop) (t:ak) (ts:List ak) (T:List Nd) (w:World) (hp:PS w b O (t::ts) T) (hq:av [58] t=true):Calls Tryz.prog 167 #[.pointer (some ⟨b,0,none⟩)] w (ku b O 10 [aB,cV,ar] w):=by
 have HW:=aa (bJ b O t ts T w hp);have g0:=aQ [46] hq (by decide)
 have g1:=aQ [91] hq (by decide)
 have g2:((ag t).toList == [58])=true:=aj (s:=[58]) (by decide) t hq
 have P:=aa hp;generalize ag t=Y at *;clear hp hq;go_enter Tryz.func167,Tryz.ntmps167
 go_wp2_with fail
 refine HW.out.mono ?_;rintro e w0 ⟨rfl,b0⟩;have F0:=aa (ax.af (O:=O) b0);have P0:=aa (P.out.below b0);have B0:=aa b0;clear b0;have HO:=aa (fun k hk=>(P0.out.own k hk).2)
 have HN:=aa (aM.new (w:=w0) (b:=b) (O:=O) HO.out [ba 55 b,ba 102 b,ba 190 b] [aB,cV,ar] (by simp) ⟨bg w0 b O,im w0 b O,hG.part (enters_of Tryz.func190 (by kernel_rfl) rfl) w0 b O,trivial⟩)
 go_wp2_with fail
 go_ret2
 exact⟨_,_,rfl,ay B0.out (aW w0 _),HN.out⟩
theorem JZ {ar:bW} (hG:eu 190 ar) (b:Nat) (O:Nat→Prop) (t:ak) (ts:List ak) (T:List Nd) (w:World) (hp:PS w b O (t::ts) T) (hq:av [40] t=true):Calls Tryz.prog 167 #[.pointer (some ⟨b,0,none⟩)] w (ku b O 9 [ar] w):=by
 have HW:=aa (bJ b O t ts T w hp);have g0:=aQ [46] hq (by decide)
 have g1:=aQ [91] hq (by decide)
 have g2:=aQ [58] hq (by decide)
 have g3:((ag t).toList == [40])=true:=aj (s:=[40]) (by decide) t hq
 have P:=aa hp;generalize ag t=Y at *;clear hp hq;go_enter Tryz.func167,Tryz.ntmps167
 go_wp2_with fail
 refine HW.out.mono ?_;rintro e w0 ⟨rfl,b0⟩;have F0:=aa (ax.af (O:=O) b0);have P0:=aa (P.out.below b0);have B0:=aa b0;clear b0;have HO:=aa (fun k hk=>(P0.out.own k hk).2)
 have HN:=aa (aM.new (w:=w0) (b:=b) (O:=O) HO.out [ba 190 b] [ar] (by simp) ⟨hG.part (enters_of Tryz.func190 (by kernel_rfl) rfl) w0 b O,trivial⟩)
 go_wp2_with fail
 go_ret2
 exact⟨_,_,rfl,ay B0.out (aW w0 _),HN.out⟩
theorem J0 {ar:bW} (hG:eu 190 ar) (b:Nat) (O:Nat→Prop) (t:ak) (ts:List ak) (T:List Nd) (w:World) (hp:PS w b O (t::ts) T) (hq:av [123] t=true):Calls Tryz.prog 167 #[.pointer (some ⟨b,0,none⟩)] w (ku b O 9 [ar] w):=by
 have HW:=aa (bJ b O t ts T w hp);have g0:=aQ [46] hq (by decide)
 have g1:=aQ [91] hq (by decide)
 have g2:=aQ [58] hq (by decide)
 have g3:=aQ [40] hq (by decide)
 have g4:((ag t).toList == [123])=true:=aj (s:=[123]) (by decide) t hq
 have P:=aa hp;generalize ag t=Y at *;clear hp hq;go_enter Tryz.func167,Tryz.ntmps167
 go_wp2_with fail
 refine HW.out.mono ?_;rintro e w0 ⟨rfl,b0⟩;have F0:=aa (ax.af (O:=O) b0);have P0:=aa (P.out.below b0);have B0:=aa b0;clear b0;have HO:=aa (fun k hk=>(P0.out.own k hk).2)
 have HN:=aa (aM.new (w:=w0) (b:=b) (O:=O) HO.out [ba 190 b] [ar] (by simp) ⟨hG.part (enters_of Tryz.func190 (by kernel_rfl) rfl) w0 b O,trivial⟩)
 go_wp2_with fail
 go_ret2
 exact⟨_,_,rfl,ay B0.out (aW w0 _),HN.out⟩
structure Qi (t:ak):Prop where
 a:av [46] t=false
 b:av [91] t=false
 c:av [58] t=false
 d:av [40] t=false
 e:av [123] t=false
theorem Va {ar:bW} (hG:eu 190 ar) (b:Nat) (O:Nat→Prop) (t:ak) (ts:List ak) (T:List Nd) (w:World) (hp:PS w b O (t::ts) T) (hq:Qi t) (h4:t.1=4):Calls Tryz.prog 167 #[.pointer (some ⟨b,0,none⟩)] w (ku b O 9 [ar] w):=by
 have HW:=aa (bJ b O t ts T w hp);have g0:((ag t).toList == [46])=false:=aj (s:=[46]) (by decide) t hq.a
 have g1:((ag t).toList == [91])=false:=aj (s:=[91]) (by decide) t hq.b
 have g2:((ag t).toList == [58])=false:=aj (s:=[58]) (by decide) t hq.c
 have g3:((ag t).toList == [40])=false:=aj (s:=[40]) (by decide) t hq.d
 have g4:((ag t).toList == [123])=false:=aj (s:=[123]) (by decide) t hq.e
 have P:=aa hp;have HA:=aa (fun W hW=>cC b O t ts T W hW)
 generalize ag t=Y at *;obtain⟨t0,t1,t2,t3⟩:=t;unfold gb at HA;dsimp only at *
 subst h4;have F9:=Ch 4 t1 t2 (bx t3);generalize bx t3=S at *;clear hp hq;go_enter Tryz.func167,Tryz.ntmps167
 go_wp2_with fail
 refine HW.out.mono ?_;rintro e w0 ⟨rfl,b0⟩;have F0:=aa (ax.af (O:=O) b0);have P0:=aa (P.out.below b0);have B0:=aa b0;clear b0;have HA1:=aa (HA.out _ P0.out);go_wp2_with fail
 refine HA1.out.mono ?_;rintro e w1 ⟨rfl,b1⟩;have F1:=aa (F0.out.trans (ax.af (O:=O) b1) (Ext.refl _ _));have P1:=aa (P0.out.below b1);have B1:=aa (ay B0.out b1);clear b1;have HO:=aa (fun k hk=>(P1.out.own k hk).2)
 have HN:=aa (aM.new (w:=w1) (b:=b) (O:=O) HO.out [ba 190 b] [ar] (by simp) ⟨hG.part (enters_of Tryz.func190 (by kernel_rfl) rfl) w1 b O,trivial⟩)
 go_wp2_with fail
 go_ret2
 exact⟨_,_,rfl,ay B1.out (aW w1 _),HN.out⟩
theorem Qj (b:Nat) (O:Nat→Prop) (t:ak) (ts:List ak) (T:List Nd) (w:World) (hp:PS w b O (t::ts) T) (hq:Qi t) (h4:t.1≠4):Calls Tryz.prog 167 #[.pointer (some ⟨b,0,none⟩)] w (ku b O 0 [] w):=by
 have HW:=aa (bJ b O t ts T w hp);have g0:((ag t).toList == [46])=false:=aj (s:=[46]) (by decide) t hq.a
 have g1:((ag t).toList == [91])=false:=aj (s:=[91]) (by decide) t hq.b
 have g2:((ag t).toList == [58])=false:=aj (s:=[58]) (by decide) t hq.c
 have g3:((ag t).toList == [40])=false:=aj (s:=[40]) (by decide) t hq.d
 have g4:((ag t).toList == [123])=false:=aj (s:=[123]) (by decide) t hq.e
 have P:=aa hp;have HA:=aa (fun W hW=>cC b O t ts T W hW)
 have h4:=h4;generalize ag t=Y at *;obtain⟨t0,t1,t2,t3⟩:=t;unfold gb at HA;dsimp only at *
 have F9:=Ch t0 t1 t2 (bx t3);have q4:(t0 == 4)=false:=aC.2 h4;generalize bx t3=S at *;clear hp hq h4;go_enter Tryz.func167,Tryz.ntmps167
 go_wp2_with fail
 refine HW.out.mono ?_;rintro e w0 ⟨rfl,b0⟩;have F0:=aa (ax.af (O:=O) b0);have P0:=aa (P.out.below b0);have B0:=aa b0;clear b0;have HA1:=aa (HA.out _ P0.out);go_wp2_with fail
 refine HA1.out.mono ?_;rintro e w1 ⟨rfl,b1⟩;have F1:=aa (F0.out.trans (ax.af (O:=O) b1) (Ext.refl _ _));have P1:=aa (P0.out.below b1);have B1:=aa (ay B0.out b1);clear b1;go_wp2_with fail
 go_ret2
 exact⟨_,_,rfl,B1.out,aM.nil _ _ _⟩
theorem Cp {b:Nat} {O:Nat→Prop} {t:ak} {ts:List ak} {T0 T:List Nd} {K:Ast→List ak→Prop} {E:Int→Prop} (w2:World) (g p:Nat) (a:Ast) (hp:PS w2 b O (t::ts) T) (hg:w2.heap[g]? = some (.cells #[.int .i64 (p:Int)] 3 (0,0))) (hgO:¬ O g) (hgb:b+1≤g) (Wx:eA T0 T [a] [(p:Int)])
  (x:Nd) (hx:x=⟨x.kind,0,x.op,x.num,x.s,[],[]⟩) (pv:Value) (cO:List bW) (GD:aM w2 b (fun k=>O k∨k=g) pv cO)
  (hk:aJ cO ⟨{ x with line:=t.2.1},[a],t::ts,T0.length+a.size⟩ (bT K) E) :
  Calls Tryz.prog 23 #[.pointer (some ⟨b,0,none⟩),da x (.slice none 0 0) (.slice (some ⟨g,0,none⟩) 1 1),pv] w2 (aF b (fun k=>O k∨k=g) T0 (RK K E) w2):=by
 have h1:x.line=0:=by rw[hx]
 have h2:x.names=[]:=by rw[hx]
 have re:g<w2.heap.size:=(aO.1 hg).1;have hz:T.length=T0.length+a.size:=by rw[Wx.len,Ast.al,Ast.al];omega
 rw[←hz] at hk;have hrow:w2.ownsRow (b+1) 3 1 (.slice (some ⟨g,0,none⟩) 1 1) 1 [.int .i64 (p:Int)]:=⟨rfl,.inr ⟨g,1,#[.int .i64 (p:Int)],rfl,hgb,hg,ah _,by unfold maxLen;omega,rfl,rfl⟩⟩
 have dJ:jO w2 b (· = g) { x with kids:=[(p:Int)]} (.slice none 0 0) (.slice (some ⟨g,0,none⟩) 1 1):=by
  refine⟨?_,hrow,fun g hg=>by simp[Value.ownBlock] at hg,fun g hg=>by simp[Value.ownBlock] at hg,fun k hk=>by simpa[Value.ownBlock] using hk.symm⟩
  rw[show({ x with kids:=[(p:Int)]}:Nd).names=[] from h2]
  exact World.ownsRow_nil _ _ _ _
 exact zf b O (· = g) t ts T0 T x t.2.1 [a] [(p:Int)] (.slice none 0 0) (.slice (some ⟨g,0,none⟩) 1 1) pv cO (RK K E) w2 hp dJ (fun k hk e=>hgO (e▸hk)) (fun k hk=>⟨by omega,by omega⟩) Wx GD (.inl ⟨h1,rfl⟩) hk
def jt (t:ak):Int:=if av [46] t=true then 8 else if av [91] t=true then 8 else if av [58] t=true then 10 else if av [40] t=true then 9 else if av [123] t=true then 9 else if t.1=4 then 9 else 0
def GO (ex ar:bW) (t:ak):List bW:=if av [46] t=true then [aB,tq] else if av [91] t=true then [aB,ex,au [[93]]] else if av [58] t=true then [aB,cV,ar] else if av [40] t=true then [ar] else if av [123] t=true then [ar] else if t.1=4 then [ar] else []
theorem Qk {ex ar:bW} (hE:eu 105 ex) (hG:eu 190 ar) (b:Nat) (O:Nat→Prop) (t:ak) (ts:List ak) (T:List Nd) (w:World) (hp:PS w b O (t::ts) T):Calls Tryz.prog 167 #[.pointer (some ⟨b,0,none⟩)] w (ku b O (jt t) (GO ex ar t) w):=by
 unfold jt GO;by_cases h1:av [46] t=true
 ·rw[ai h1,ai h1];exact U9 b O t ts T w hp h1
 rw[ab h1,ab h1];by_cases h2:av [91] t=true
 ·rw[ai h2,ai h2];exact aag hE b O t ts T w hp h2
 rw[ab h2,ab h2];by_cases h3:av [58] t=true
 ·rw[ai h3,ai h3];exact JY hG b O t ts T w hp h3
 rw[ab h3,ab h3];by_cases h4:av [40] t=true
 ·rw[ai h4,ai h4];exact JZ hG b O t ts T w hp h4
 rw[ab h4,ab h4];by_cases h5:av [123] t=true
 ·rw[ai h5,ai h5];exact J0 hG b O t ts T w hp h5
 rw[ab h5,ab h5];have hn:Qi t:=⟨by simpa using h1,by simpa using h2,by simpa using h3,by simpa using h4,by simpa using h5⟩
 by_cases h6:t.1=4
 ·rw[ai h6,ai h6];exact Va hG b O t ts T w hp hn h6
 ·rw[ab h6,ab h6];exact Qj b O t ts T w hp hn h6
def vy (ex ar:bW):Nat→Ast→List ak→Nat→(Ast→List ak→Prop)→(Int→Prop)→Prop
 | 0,_,_,_,_,_=>False
 | k+1,a,ts,n,K,E=>∃t r,ts=t::r∧(jt t=0→K a ts)∧(jt t≠0→aJ (GO ex ar t) ⟨dy (jt t) t.2.1,[a],ts,n+a.size⟩ (bT fun a' aA=>vy ex ar k a' aA n K E) E)
def ab7 (ex ar:bW):iQ:=fun ts n K E=>∃t r,ts=t::r∧PF ex t r n (fun a fK=>∃m,vy ex ar m a fK n K E) E
theorem Eo {ex ar:bW} (hE:eu 105 ex) (hG:eu 190 ar):pI 142 (ab7 ex ar):=by
 rintro b O ts T0 K E w hp ⟨t,r,rfl,hk⟩;have HA:=aa (UR hE b O t r T0 _ E w hp hk);have HSF:=aa (fun(O:Nat→Prop) (t:ak) (ts:List ak) (T:List Nd) (W:World) hW=>Qk hE hG b O t ts T W hW)
 clear hp hk hE hG;go_enter Tryz.func142,Tryz.ntmps142
 go_wp2_with fail
 refine HA.out.mono ?_;intro e w1 h1;have F1:=aa h1.1;rcases h1.2 with ⟨p,a,fK,O1,T1,rfl,p1,x1,l1,k1⟩ | ⟨le,v,er,rfl,⟨g',rfl,m2,m3⟩,k1⟩
 ·obtain⟨m,k1⟩:=k1
  have P1:=aa p1;have X1:=aa x1;have L1:=aa l1;have K1:=aa k1;clear h1 p1 x1 l1 k1;go_wp2_with fail
  go_loopg [4,5] (m+1) (fun z lv ev wr=>(∃(p:Nat) (a:Ast) (tr:List ak) (Or:Nat→Prop) (Tr:List Nd) (k:Nat),lv=.int .i64 (p:Int)∧ev=.nilIface∧z=k+1∧PS wr b Or tr Tr∧ax O w wr∧Ext O Or w∧eA T0 Tr [a] [(p:Int)]∧vy ex ar k a tr T0.length K E) ∨
   (∃(le:Int) (g':Nat),ev=.iface 82 (.pointer (some ⟨g',0,none⟩))∧w.heap.size≤g'∧wr.heap[g']? = some (.cells #[.int .i64 6,.int .i64 le] 86 (0,0))∧ax O w wr∧E le))
  case atStart=>exact .inl ⟨p,a,fK,O1,T1,m,rfl,rfl,rfl,P1.out,F1.out,X1.out,L1.out,K1.out⟩
  case round =>
   rcases hrel with ⟨p,a,tr,Or,Tr,k,rfl,rfl,rfl,pr,fr,xr,lr,kr⟩ | ⟨le,g',rfl,hg,m3,fr,ke⟩
   ·cases k with
    | zero=>exact kr.elim
    | succ k =>
     obtain⟨t,r,rfl,hle,RC⟩:=kr;have PR:=aa pr;have FR:=aa fr;have XR:=aa xr;have LR:=aa lr;have HSX:=aa (HSF.out Or t r Tr wr pr);have HLE:=aa hle;have HGT:=aa RC;clear pr fr xr lr hle RC F1 P1 X1 L1 K1 HA;generalize qv:jt t=kd at *;clear qv;go_wp2_with fail
     refine HSX.out.mono ?_;rintro e w2 ⟨Av,mv,rfl,b2,hpv⟩;have B2:=aa b2;have HPV:=aa hpv;clear b2 hpv;by_cases hc:kd=0
     ·subst hc
      go_wp2_with fail
      go_ret2
      exact⟨FR.out.trans (ax.af (O:=Or) B2.out) XR.out,.inl ⟨p,a,t::r,Or,Tr,rfl,PR.out.below B2.out,XR.out,LR.out,HLE.out (by trivial)⟩⟩
     ·have g1:(kd == 0)=false:=aC.2 hc
      have HC:=aa hc;clear hc;have p2:=PR.out.below B2.out;have P2:=aa p2;have hown2 :∀k,Or k→k<w2.heap.size:=fun k hk=>(p2.own k hk).2
      have hb2:b<w2.heap.size:=(p2.own b p2.at_).2;have HN:=aa (Cp (w2.alloc (.cells #[.int .i64 (p:Int)] 3)) w2.heap.size p a (p2.below (aW w2 _)) (World.alloc_heap_new w2 _) (fun h=>by have:=hown2 _ h;omega) (by omega) LR.out ⟨kd,0,0,0,⟨#[]⟩,[],[]⟩ rfl (.slice Av mv mv) _ (HPV.out.later ((ax.refl _ _).alloc _) (fun k hk=>hk.imp id fun h=>by omega)) (HGT.out HC.out))
      have F4:=aa ((FR.out.trans (ax.af (O:=Or) B2.out) XR.out).trans (ax.af (O:=Or) (aW w2 (.cells #[.int .i64 (p:Int)] 3))) XR.out);have X4:Hid (Ext O (fun k=>Or k∨k=w2.heap.size) w):=aa fun k hk=>by
       rcases hk with hk|rfl
       ·exact XR.out k hk
       ·exact .inr (aL FR.out.size B2.out.size)
      clear p2 hown2;go_wp2_with fail
      refine HN.out.mono ?_;intro e w5 h5;have F5:=aa (F4.out.trans h5.1 X4.out);rcases h5.2 with ⟨p5,a5,ts5,O5,T5,rfl,q5,x5,l5,k5⟩ | ⟨le,v,er,rfl,⟨g',rfl,m2,m3⟩,k5⟩
      ·have Q5:=aa q5
       have X5:=aa (X4.out.trans x5 F4.out.size);have L5:=aa l5;have K5:=aa k5;clear h5 q5 x5 l5 k5;go_wp2_with fail
       go_roundg (k+1)
       case measure=>omega
       case rel=>exact .inl ⟨p5,a5,ts5,O5,T5,k,rfl,rfl,rfl,Q5.out,F5.out,X5.out,L5.out,K5.out⟩
      ·have M3:=aa m3
       have M2:=aa (aL F4.out.size m2);have K5:=aa k5;clear h5 m2 m3 k5;go_wp2_with fail
       go_roundg (k+1)
       case measure=>omega
       case rel=>exact .inr ⟨le,g',rfl,M2.out,M3.out,F5.out,K5.out⟩
   ·have M3:=aa m3
    have HG:=aa hg;have FR:=aa fr;have KE:=aa ke;clear m3 hg fr ke;go_wp2_with fail
    go_ret2
    exact⟨FR.out,.inr ⟨le,_,_,rfl,⟨g',rfl,HG.out,M3.out⟩,KE.out⟩⟩
 ·have M3:=aa m3
  have M2:=aa m2;have K1:=aa k1;clear h1 m2 m3 k1;go_wp2_with fail
  go_loopg [4,5] 1 (fun _ lv ev wr=>lv=v∧ev=.iface 82 (.pointer (some ⟨g',0,none⟩))∧wr=w1)
  case atStart=>exact⟨rfl,rfl,rfl⟩
  case round =>
   obtain⟨rfl,rfl,rfl⟩:=hrel;go_wp2_with fail
   go_ret2
   exact⟨F1.out,.inr ⟨le,_,_,rfl,⟨g',rfl,M2.out,M3.out⟩,K1.out⟩⟩
end Go.Proofs.YtodmcdfeldkocaaGreatDoor
namespace Go.Proofs.YtodmcdfeldkocaaGreatDoor
theorem Ql {t:ak} {o:Int×Nat×Nat} (h:mL t=some o) {s:Nat} (hs:¬ s≤o.2.1) (x:Ast) (ts:List ak):PL (aT (.lvm s x)) (t::ts) (.ok (x,t::ts)):=by
 refine .look ?_;rw[h];show PL (if s≤o.2.1 then _ else _) _ _
 rw[ab hs];exact .ret
variable {t1 t2:ak} {o1 o2:Int×Nat×Nat}
end Go.Proofs.YtodmcdfeldkocaaGreatDoor
namespace Go.Proofs.YtodmcdfeldkocaaGreatDoor
open Go.RowKit
abbrev J1:GL Ast:=aT .una
abbrev Vb:GL Ast:=aT .Yz
def zn (N:Nat):bW:=mj (sR N Vb) iY
section
variable {K:Ast→List ak→Prop} {E:Int→Prop} {K':St→Prop} {N k n:Nat} {h:Nd} {xs:List Ast} {t:ak} {ts:List ak}
theorem Vc (K2:List Ast→List ak→Prop) (B:Nat) (C:List Ast→List ak→Prop) (hC :∀xs aA,Ast.al xs+2*aA.length≤B→Wf aA→aA.length<N→(∃u us,aA=u::us∧(av [125] u=true→K2 xs us)∧(av [125] u=false→E u.2.1))→C xs aA) :
  ∀(m:Nat) (ts:List ak) (n:Nat) (acc:List Ast) (t:ak) (r:List ak),ts=t::r→av [125] t=false→ts.length<m→ts.length<N→n+2*ts.length≤60000→Ast.al acc+2*ts.length≤B→Wf ts→Gw (aT (.Ws acc):GL (List Ast)) ts K2 E→sQ (sR N Vb) iY m ts n acc C E:=by
 intro m;induction m with
 | zero=>intro ts n acc t r _ _ h;omega
 | succ m ih =>
  rintro ts n acc t r rfl hb h1 h2 h3 hB hf H;have G:=(Gw.look H).neg (by simp[hb])
  refine⟨h2,h3,hf.zF,(Gw.call G).mono fun(e:Ast) aA p hq=>?_⟩
  have hz:e.size+2*aA.length≤2*(t::r).length:=hq.1;have hf':=p.wf hf;have he:=size_pos e;obtain⟨u,us,rfl⟩:=hf'.fin.cons;have hg:=hq.2.look;have hsz:Ast.al (acc++[e])+2*(u::us).length≤B:=by rw[fm,vr];omega
  simp only[List.length_cons] at h1 h2 h3 hz hsz;rcases eK (av [44] u || av [59] u) with hc|hc
  ·have hnz:u.1≠0:=fun e0=>by simp[av,e0] at hc
   have hf2:=hf'.tail hnz;obtain⟨v,vs,rfl⟩:=hf2.fin.cons;have e1:iY (u::v::vs)=(!av [125] v,v::vs):=pK hc;show(_→_)∧(_→_)
   rw[e1];have G2:=(Gw.call (hg.pos hc).tok).mono (K':=K2) fun l ir _ hl=>hl.2.ret
   simp only[List.length_cons] at hz hsz;refine⟨fun hv=>ih (v::vs) (n+e.size) (acc++[e]) v vs rfl (by simpa using hv) (by simp only[List.length_cons];omega) (by simp only[List.length_cons];omega) (by simp only[List.length_cons];omega) (by simp only[List.length_cons];omega) hf2 G2,fun hv=>?_⟩
   have hv':av [125] v=true:=by simpa using hv
   exact hC _ _ (by simp only[List.length_cons];omega) hf2 (by simp only[List.length_cons];omega) ⟨v,vs,rfl,fun _=>((Gw.look G2).pos hv').tok.ret,fun hx=>by rw[hv'] at hx;exact(gd hx.symm).elim⟩
  ·have e1:iY (u::us)=(false,u::us):=xS hc
   show(_→_)∧(_→_)
   rw[e1];have G2:=hg.neg (by simp[hc])
   exact⟨fun hb=>(gd hb).elim,fun _=>hC _ _ (by simp only[List.length_cons];omega) hf' (by simp only[List.length_cons];omega) ⟨u,us,rfl,fun hw=>(G2.want.1 hw).ret,G2.want.2⟩⟩
theorem Qm {at_:Int} (hI:Rm N k ⟨dy 15 at_,[],ts,n⟩) (H:Gw (.call (.Ws []) fun(l:List Ast)=>.ret (nd 15 at_ l):GL Ast) ts K E):aJ [dF [125] (zn N),au [[125]]] ⟨dy 15 at_,[],ts,n⟩ (bT K) E:=by
 obtain⟨t,r,jo⟩:=hI.cons;dsimp only at jo
 subst jo;have hn:=hI.n;have hx:=hI.xs;have hl:=hI.len;dsimp only at hn hx hl
 have G:=(Gw.call H).mono (K':=fun(l:List Ast) aA=>K (nd 15 at_ l) aA) fun l aA _ hq=>hq.2.ret
 refine⟨t,r,rfl,fun hw=>?_,fun hw=>?_⟩
 ·have G2:=((Gw.look G).pos hw).tok.ret
  refine⟨t,r,rfl,fun _=>cy (hI.tok (h':=dy 15 at_) (aV hw)) G2,fun hw2=>?_⟩
  rw[hw] at hw2;exact(gd hw2.symm).elim
 ·refine⟨by simp,(t::r).length+1,by omega,?_⟩
  refine Vc _ (2*(t::r).length) _ (fun xs aA h1 h2 h3 h4=>?_) ((t::r).length+1) (t::r) n [] t r rfl hw (dz _) hl (by omega) (by rw[cA];omega) hI.wf G
  obtain⟨u,us,rfl,h5,h6⟩:=h4;refine⟨u,us,rfl,fun hu=>?_,h6⟩
  exact⟨by show n+Ast.al xs≤_;omega,h5 hu⟩
end
def Xl (ts:List ak) (v:Ast) (aA:List ak):Prop:=v.hd.kind=7→∃t,ts=t::aA∧t.1=1
def GP:(n:NT)→List ak→VT n→List ak→Prop
 | .aR x,ts,v,aA=>(Ast.hd v).kind=7→v=x∧aA=ts
 | .lvm _ x,ts,v,aA=>(Ast.hd v).kind=7→v=x∧aA=ts
 | .FQ,ts,v,aA=>Xl ts v aA
 | .SG,ts,v,aA=>Xl ts v aA
 | .una,ts,v,aA=>Xl ts v aA
 | .exp _,ts,v,aA=>Xl ts v aA
 | .KL _ _,_,v,_=>(Ast.hd v).kind=11
 | _,_,_,_=>True
section
variable {α:Type} {Q:α→List ak→Prop}
abbrev Np (g:GL α) (ts:List ak) (Q:α→List ak→Prop):Prop:=Wp GP g ts Q
theorem nS {f:ak→GL α} {ts:List ak} (h :∀t aA,ts=t::aA→Np (f t) (t::aA) Q):Np (.look f) ts Q:=fun t aA e=>by
 subst e;exact h t aA rfl
theorem hH {f:ak→GL α} {t:ak} {ts:List ak} (h:Np (f t) ts Q):Np (.tok f) (t::ts) Q:=fun u us e=>by
 injection e with e1 e2;subst e1 e2;exact h
theorem ep {n:NT} {k:VT n→GL α} {ts:List ak} (h :∀v aA,GP n ts v aA→Np (k v) aA Q):Np (.call n k) ts Q:=h
theorem hJ {c:Prop} [Decidable c] {g g':GL α} {ts:List ak} (h1:c→Np g ts Q) (h2:¬ c→Np g' ts Q):Np (if c then g else g') ts Q:=by
 by_cases h:c
 ·rw[ai h];exact h1 h
 ·rw[ab h];exact h2 h
theorem se {s:List UInt8} {k:ak→GL α} {ts:List ak} (h :∀t aA,Np (k t) aA Q):Np (want s k) ts Q:=nS fun t aA _=>hJ (fun _=>hH (h t aA)) fun _=>trivial
theorem Qn {k:ak→GL α} {ts:List ak} (h :∀t aA,Np (k t) aA Q):Np (name k) ts Q:=nS fun t aA _=>hJ (fun _=>hH (h t aA)) fun _=>trivial
end
theorem Qo {k:Int} {P:Prop} {l:Int} {o nn:Int} {s:ByteArray} {ns:List ByteArray} {ks:List Int} {as_:List Ast} (hk:k≠7):(Ast.hd (.mk ⟨k,l,o,nn,s,ns,ks⟩ as_)).kind=7→P:=fun h=>absurd h hk
theorem ab8 (n:NT) (ts:List ak):Np (aT n) ts (GP n ts):=by
 cases n with
 | aR x =>
  refine nS fun t aA e=>?_
  subst e;have key :∀(y:Ast) (ir:List ak),(∀P:Prop,y.hd.kind=7→P)→Np (.call (.aR y) fun(v:Ast)=>.ret v:GL Ast) ir (GP (.aR x) (t::aA)):=fun y ir hy=>ep fun(v:Ast) C5 (h:v.hd.kind=7→v=y∧C5=ir)=>fun(hv:v.hd.kind=7)=>by
   have:=(h hv).1;subst this;exact hy _ hv
  refine hJ (fun _=>hH (Qn fun u us=>key _ _ fun P=>Qo (by decide))) fun _=>hJ (fun _=>hH (ep fun(e:Ast) us _=>se fun _ RJ=>key _ _ fun P=>Qo (by decide))) fun _ =>
   hJ (fun _=>hH (Qn fun u us=>ep fun(l:List Ast) RJ _=>key _ _ fun P=>Qo (by decide))) fun _=>hJ (fun _=>ep fun(l:List Ast) RJ _=>key _ _ fun P=>Qo (by decide)) fun _=>?_
  exact fun _=>⟨rfl,rfl⟩
 | lvm s x =>
  refine nS fun t aA e=>?_
  subst e;cases ho:mL t with
  | none=>exact fun _=>⟨rfl,rfl⟩
  | some o =>
   refine hJ (fun _=>hH (ep fun(y:Ast) us _=>ep fun(v:Ast) RJ (h:v.hd.kind=7→v=ndO 12 t.2.1 o.1 [x,y]∧RJ=us)=>fun(hv:v.hd.kind=7)=>?_)) fun _=>fun _=>⟨rfl,rfl⟩
   have:=(h hv).1;subst this;exact absurd hv (by show(12:Int)≠7;decide)
 | FQ =>
  refine nS fun t aA e=>?_
  subst e;refine hJ (fun ht=>hH (ep fun(v:Ast) us (h:v.hd.kind=7→v=mS 7 t.2.1 (bx t.2.2.2) []∧us=aA)=>fun(hv:v.hd.kind=7)=>⟨t,by rw[(h hv).2],ht⟩)) fun _ =>
   hJ (fun _=>hH (ep fun(e:Ast) us _=>se fun _ RJ=>ep fun(v:Ast) us3 (h:v.hd.kind=7→v=nd 14 t.2.1 [e]∧us3=RJ)=>fun(hv:v.hd.kind=7)=>?_)) fun _=>trivial
  have:=(h hv).1;subst this;exact absurd hv (by show(14:Int)≠7;decide)
 | exp s =>
  refine ep fun(x:Ast) us (h1:Xl ts x us)=>ep fun(y:Ast) RJ (h2:y.hd.kind=7→y=x∧RJ=us)=>fun(hv:y.hd.kind=7)=>?_
  obtain⟨rfl,rfl⟩:=h2 hv;exact h1 hv
 | una =>
  refine nS fun t aA e=>?_
  subst e;cases ho:lf t with
  | none=>exact ep fun(v:Ast) us (h:Xl (t::aA) v us)=>h
  | some o=>exact hH (ep fun(v:Ast) us _=>fun hv=>absurd hv (by show(13:Int)≠7;decide))
 | SG =>
  refine nS fun t aA e=>?_
  subst e;refine hJ (fun _=>hH ?_) fun _=>hJ (fun _=>hH ?_) fun _=>hJ (fun _=>hH ?_) fun _=>hJ (fun _=>hH ?_) fun _=>hJ (fun _=>hH (ep fun(f:Ast) us (h:f.hd.kind=11)=>?_)) fun _=>hJ (fun _=>hH (ep fun(l:List Ast) us _=>?_)) fun _=>hJ (fun _=>hH ?_) fun _=>hJ (fun _=>hH ?_) fun _=>ep fun(v:Ast) us (h:Xl (t::aA) v us)=>h
  ·exact Qo (by decide)
  ·exact Qo (by decide)
  ·exact Qo (by decide)
  ·exact Qo (by decide)
  ·exact fun(hv:f.hd.kind=7)=>absurd (h.symm.trans hv) (by decide)
  ·exact Qo (by decide)
  ·exact Qo (by decide)
  ·exact Qo (by decide)
 | KL at_ self =>
  refine se fun _ us=>nS fun t aA e=>?_
  subst e;exact hJ (fun _=>hH (ep fun(b:Ast) RJ _=>se fun _ _=>rfl)) fun _=>ep fun(p:List ByteArray×Int) RJ _=>se fun _ _=>ep fun(b:Ast) _ _=>se fun _ _=>rfl
 | _=>exact Wp.always _ _ _ fun _ _=>trivial
end Go.Proofs.YtodmcdfeldkocaaGreatDoor
namespace Go.Proofs.YtodmcdfeldkocaaGreatDoor
open Go.RowKit
section
variable {K:Ast→List ak→Prop} {E:Int→Prop} {K':St→Prop} {N k n:Nat} {h:Nd} {xs:List Ast} {t:ak} {ts:List ak}
theorem lD {t:ak} (hI:Rm N k ⟨h,xs,t::ts,n⟩) (ht:t.1≠0) (hk:Rm N (k+2) ⟨h,xs,ts,n⟩→K' ⟨h,xs,ts,n⟩):aB ⟨h,xs,t::ts,n⟩ K' E:=⟨t,ts,rfl,ht,hk (hI.tok ht)⟩
theorem Rm.hd {h':Nd} (hI:Rm N k ⟨h,xs,ts,n⟩):Rm N k ⟨h',xs,ts,n⟩:=⟨hI.len,hI.n,hI.xs,hI.wf⟩
theorem Vd {t:ak} (h:t.1=1) (s:List UInt8):av s t=false:=by simp[av,h]
theorem vz {t:ak} (h:t.1≠2) (h5:t.1≠5):lf t=none:=by simp[lf,av,h,h5]
theorem Qp {t u:ak} {us:List ak} (ht:t.1=1) (hu:av [61] u=true):PL (rZ 1) (t::u::us) (.ok (mS 7 t.2.1 (bx t.2.2.2) [],u::us)):=by
 have hq :∀s:List UInt8,s≠[61]→¬ av s u=true:=fun s hs=>aU hu hs
 have hk:u.1=2∨u.1=5:=by rcases aN hu with ⟨l,m,rfl⟩ | ⟨l,m,rfl⟩<;>simp
 have adV:PL (aT (.aR (mS 7 t.2.1 (bx t.2.2.2) []))) (u::us) (.ok (mS 7 t.2.1 (bx t.2.2.2) [],u::us)):=by
  refine .look ?_;have e1:¬ ((av [40] u || av [123] u || decide (u.1=4))=true):=by
   have h1:=hq [40] (by decide)
   have h2:=hq [123] (by decide)
   have h4:¬ u.1=4:=by omega
   simp[h1,h2,h4]
  rw[ab (hq [46] (by decide)),ab (hq [91] (by decide)),ab (hq [58] (by decide)),ab e1]
  exact .ret
 have adW:mL u=none:=by
  have :∀s:List UInt8,s≠[61]→av s u=false:=fun s hs=>bn hu hs
  unfold mL;rw[this _ (by decide),this _ (by decide),this _ (by decide),this _ (by decide),this _ (by decide),this _ (by decide),this _ (by decide),this _ (by decide),this _ (by decide),this _ (by decide),this _ (by decide),this _ (by decide),this _ (by decide),this _ (by decide),this _ (by decide),this _ (by decide),this _ (by decide),this _ (by decide),this _ (by decide)]
  rfl
 have adX:PL (aT (.lvm 1 (mS 7 t.2.1 (bx t.2.2.2) []))) (u::us) (.ok (mS 7 t.2.1 (bx t.2.2.2) [],u::us)):=by
  refine .look ?_;rw[adW];exact .ret
 refine .call (n:=NT.una) (.look ?_) (.call adX .ret);rw[vz (by omega) (by omega)]
 refine .call (n:=NT.SG) (.look ?_) .ret;have hn :∀s:List UInt8,¬ av s t=true:=fun s=>by rw[Vd ht];decide
 rw[ab (hn _),ab (hn _),ab (hn _),ab (hn _),ab (hn _),ab (hn _),ab (by omega),ab (by omega)]
 refine .call (n:=NT.FQ) (.look ?_) .ret;rw[ai ht];exact .tok (.call adV .ret)
theorem Ve (hI:Rm N k ⟨h,[],t::ts,n⟩) (H:Gw Vb (t::ts) K E):Xf (oE N) t ts n K E:=by
 have G:=Gw.look H;have hn:=hI.n;have hx:=hI.xs;have hlen:=hI.len;dsimp only at hn hx hlen
 refine⟨fun hw=>?_,fun hw=>⟨fun hf=>?_,fun hf=>?_⟩⟩
 ·exact lD (hI.hd (h':=dy 17 t.2.1)) (aV hw) fun hI=>fU hI (G.pos hw).tok fun e _ hI _ G=>Pu hI G fun _ _ hI _ G=>fU hI G fun v _ hI _ G=>cy hI G.ret
 ·have G:=Gw.call (G.neg (by simp[hw]))
  cases ts with
  | nil=>simp[ml] at hf
  | cons u us =>
   have hf':t.1=1∧u.1=5∧u.2.2.2=[61]:=by simpa[ml,vw] using hf
   have hu:av [61] u=true:=by simp[av,hf'.2.1,hf'.2.2]
   have G2:=(G.1 _ _ (Qp (us:=us) hf'.1 hu)).2;have G3:=(Gw.look G2).pos ⟨hu,rfl⟩;show dx (dR (mN 5) [cV]) _ (fun s'=>aJ [aB,oE N] s' (bT K) E) E
   refine jS (by simp) ⟨t,u::us,t.2.1,rfl,.inl ⟨rfl,rfl⟩,⟨t,u::us,rfl,fun _=>⟨by dsimp only;omega,nR.mk ?_⟩,fun h=>absurd hf'.1 h⟩⟩
   have hz:Ast.al [mS 5 t.2.1 (bx t.2.2.2) []]=1:=by rw[vr,lA,cA]
   have oF:Rm N k ⟨dy 17 t.2.1,[mS 5 t.2.1 (bx t.2.2.2) []],u::us,n+Ast.al [mS 5 t.2.1 (bx t.2.2.2) []]⟩:=⟨by show(u::us).length<N;rw[List.length_cons] at hlen;omega,by show n+Ast.al _+2*(u::us).length+k≤60000;rw[hz];rw[List.length_cons] at hn;omega,by show 1+2*(u::us).length+k≤60000;rw[List.length_cons,List.length_nil] at hx;omega,hI.wf.tail (by rw[hf'.1];decide)⟩
   exact lD oF (aV hu) fun hI=>fU hI G3.tok fun v _ hI _ G=>cy hI G.ret
 ·have G:=Gw.call (G.neg (by simp[hw]))
  refine jS (by simp) ⟨hlen,by show n+2*(t::ts).length≤60000;omega,hI.wf.zF,G.mono fun(e:Ast) aA p hq=>nR.mk ?_⟩
  have hz:e.size+2*aA.length+1≤2*(t::ts).length:=hq.1;have zj:=p.wf hI.wf;obtain⟨u,us,rfl⟩:=zj.fin.cons;have hno:¬ (av [61] u=true∧e.hd.kind=7):=fun⟨h1,h2⟩=>by
   have h3:Xl (t::ts) e (u::us):=p.holds ab8;obtain⟨t',e1,e2⟩:=h3 h2;injection e1 with e3 e4;subst e3 e4;have h5:u.1=5∧u.2.2.2=[61]:=by
    have hl:=(zj.zF u (bP ..)).2;rcases aN h1 with ⟨l,m,rfl⟩ | ⟨l,m,rfl⟩
    ·exact absurd rfl (hl rfl)
    ·exact⟨rfl,rfl⟩
   simp[ml,vw,e2,h5.1,h5.2] at hf
  refine⟨by show n+Ast.al [e]≤_;rw[vr];omega,?_⟩
  exact((Gw.look hq.2).neg hno).ret
def rtP (N:Nat) (op:Int):iQ:=sR N (rZ (wy op+1).toNat)
theorem Qq {α:Type} {K:α→List ak→Prop} {s:Nat} {kk:Ast→GL α} (hI:Rm N k ⟨h,xs,ts,n⟩) (H:Gw (.call (.exp s) kk) ts K E)
  (hk :∀(e:Ast) (aA:List ak),Rm N (k+1) ⟨h,xs++[e],aA,n+Ast.al [e]⟩→aA.length<ts.length→Gw (kk e) aA K E→K' ⟨h,xs++[e],aA,n+Ast.al [e]⟩):dx (sR N (rZ s)) ⟨h,xs,ts,n⟩ K' E:=by
 refine jS (by have:=hI.xs;dsimp only at *;omega) ⟨hI.len,by have:=hI.n;dsimp only at *;omega,hI.wf.zF,?_⟩
 refine(Gw.call H).mono fun(e:Ast) aA p hq=>?_
 have hz:e.size+2*aA.length+1≤2*ts.length:=hq.1;exact nR.mk (hk e aA (hI.kids (by rw[vr];omega) (PL.short p) (p.wf hI.wf)) (by omega) hq.2)
theorem aah {s:Nat} {l:Int} (hs:l+1=(s:Int)) (hl0:0≤l) :∀(m:Nat) (ts:List ak) (a:Ast) (k:Nat),ts.length<m→Rm N k ⟨dy 0 0,[a],ts,n+a.size⟩→Gw (aT (.lvm s a):GL Ast) ts K E→Co (rtP N) l m a ts n K E:=by
 intro m;induction m with
 | zero=>intro ts a k h;omega
 | succ m ih =>
  intro ts a k h1 hI H;obtain⟨t,r,rfl⟩:=hI.wf.fin.cons;have G:=Gw.look H;refine⟨t,r,rfl,fun hle=>?_,fun RC=>?_⟩
  ·cases ho:mL t with
   | none=>rw[ho] at G;exact G.ret
   | some o =>
    rw[ho] at G;have hb:=mn ho;rw[hb.1] at hle;exact(G.neg (by show ¬ s≤o.2.1;omega)).ret
  ·cases ho:mL t with
   | none =>
    rw[xU ho] at RC;exact absurd (show KU 0≤l from hl0) RC
   | some o =>
    rw[ho] at G;have hb:=mn ho;rw[hb.1] at RC ⊢;have G2:=(G.pos (show s≤o.2.1 by omega)).tok
    have he:(wy o.1+1).toNat=o.2.2:=by rw[hb.2.2.1];rfl
    have oF:Rm N k ⟨⟨12,t.2.1,o.1,0,⟨#[]⟩,[],[]⟩,[a],t::r,n+a.size⟩:=⟨hI.len,hI.n,hI.xs,hI.wf⟩;refine lD oF (Gv ho) fun hI=>?_
    show dx (sR N (rZ (wy o.1+1).toNat)) _ _ _
    rw[he];refine Qq hI G2 fun y r2 hI hlt G=>⟨by have:=hI.n;dsimp only at *;omega,?_⟩
    have G3:=(Gw.call G).mono (K':=K) fun v ir _ hv=>hv.2.ret
    refine ih r2 _ 0 (by simp at h1;omega) ⟨hI.len,?_,?_,hI.wf⟩ G3
    ·have h1:=hI.n
     rw[vr] at h1;show n+Ast.size (ndO 12 t.2.1 o.1 [a,y])+2*r2.length+0≤60000
     rw[Cf,ik,vr];dsimp only at h1
     omega
    ·have h1:=hI.xs
     show 1+2*r2.length+0≤60000
     dsimp only at h1
     omega
theorem Xm {x:Ast} {ts:List ak} {r:Except Int (Ast×List ak)} (h:PL (aT (.lvm 12 x):GL Ast) ts r):r=.ok (x,ts):=by
 cases ts with
 | nil=>cases h
 | cons t ts =>
  cases ho:mL t with
  | none=>exact P.one h (.look (by rw[ho];exact .ret))
  | some o =>
   have hb:=mn ho;have hno:¬ 12≤o.2.1:=by
    have:KU o.1≤10:=by
     obtain⟨_,_,_,h7,h8⟩:=hb;have h9:o.1=1∨o.1=2∨o.1=3∨o.1=4∨o.1=5∨o.1=6∨o.1=7∨o.1=8∨o.1=9∨o.1=10∨o.1=11∨o.1=12∨o.1=13∨o.1=14∨o.1=15∨o.1=16∨o.1=17∨o.1=18∨o.1=19:=by omega
     rcases h9 with h|h|h|h|h|h|h|h|h|h|h|h|h|h|h|h|h|h|h<;>(rw[h];decide)
    omega
   exact P.one h (Ql ho hno x ts)
theorem Xn {ts:List ak} {r:Except Int (Ast×List ak)} (h:PL (rZ 12) ts r):PL J1 ts r:=by
 cases h with
 | @call _ n k ts fK v r h1 h2 =>
  cases h2 with
  | @call _ n2 k2 ts ir v2 r h3 h4 =>
   have h5:=Xm (x:=v) h3;injection h5 with h5;injection h5 with h6 h7;cases h4;have h8:PL J1 ts (.ok ((v:Ast),fK)):=h1;have e6:(v2:Ast)=v:=h6;show PL J1 ts (.ok ((v2:Ast),ir))
   rw[e6,h7];exact h8
  | iB h3 =>
   have h5:=Xm (x:=v) h3;cases h5
 | iB h1=>exact h1
end
end Go.Proofs.YtodmcdfeldkocaaGreatDoor
namespace Go.Proofs.YtodmcdfeldkocaaGreatDoor
open Go.RowKit
theorem Xo :∀(L:List KS) (p:Nat) (t:KS),L[p]? = some t→(L.flatMap aP)[p*7]? = some (.int .i64 t.1.kind)
 | [],p,t,h=>by simp at h
 | u::L,0,t,h=>by
  obtain rfl:u=t:=by simpa using h
  rfl
 | u::L,p+1,t,h=>by
  have:=Xo L p t (by simpa using h)
  rw[ja,zI (by rw[fj];omega),fj,show(p+1)*7-7=p*7 by omega]
  exact this
theorem tR (g j:Nat):(⟨g,0,none⟩:Addr).add j=⟨g,j,none⟩:=by unfold Addr.add;split<;>simp_all
theorem PS.kind {W:World} {b:Nat} {O:Nat→Prop} {ts:List ak} {T0 T:List Nd} {a:Ast} {p:Nat} (h:PS W b O ts T) (hl:eA T0 T [a] [(p:Int)]) :
  ∃g c,W.cell? ⟨b,2,none⟩=some (.slice (some ⟨g,0,none⟩) T.length c)∧T.length≤c∧p<T.length∧W.cell? ⟨g,p*7,none⟩=some (.int .i64 a.hd.kind)∧O g:=by
 obtain⟨TS,i,g0,c0,nv,L,a1,a2,a3,a4,a5,a6,a7⟩:=h.ex;obtain⟨_,js,hr,_⟩:=hl;unfold bj at hr;obtain⟨k,gX,j1,j2,e1,hr,_,_⟩:=hr;have hk:k=p:=by
  injection e1 with e1 _;omega
 subst hk;obtain⟨hd,aev⟩:=a;unfold gC at hr;obtain⟨x,qZ,hx,hxe,_,_⟩:=hr;have hlt:=(aK.1 hx).1;have hL:L.length=T.length:=by rw[←a7,bU]
 have hrow:=a6.row;obtain⟨g,c,rfl,_,_⟩:=hrow.form (by omega)
 obtain⟨A,c1,e2,hc⟩:=bC hrow;have hcc:c=c1:=by injection e2
 have hLp :∃t,L[k]? = some t∧t.1=x:=by
  rw[←a7,eO] at hx;cases hq:L[k]? with
  | none=>rw[hq] at hx;simp at hx
  | some t=>rw[hq] at hx;exact⟨t,rfl,by simpa using hx⟩
 obtain⟨t,ht,htx⟩:=hLp;have hcell:=hrow.cells (g:=g) rfl (k*7) _ (Xo L k t ht);refine⟨g,c,by rw[←hL];simp[World.cell?,a1],by rw[←hL,hcc];exact hc,hlt,?_⟩
 have LO:t.1.kind=hd.kind:=by rw[htx,hxe]
 have ab9:(⟨g,0,none⟩:Addr).add (k*7)=⟨g,k*7,none⟩:=tR g (k*7);rw[ab9,LO] at hcell;exact⟨hcell,a6.own g rfl⟩
theorem Real.kind {W:World} {b n:Nat} {O:Nat→Prop} {T0:List Nd} {s:St} (h:Real W b n O T0 s) (k:Int):(∃v,W.cell? ⟨n,0,none⟩=some (.int .i64 v))∧W.frozen? ⟨n,0,none⟩=false∧n<W.heap.size∧ax O W (W.setCell ⟨n,0,none⟩ (.int .i64 k)) ∧
  Real (W.setCell ⟨n,0,none⟩ (.int .i64 k)) b n O T0 { s with h:={ s.h with kind:=k}}:=by
 obtain⟨Op,On,T,ks,hO,hd,hp,hn,hl,hc⟩:=h.ex;obtain⟨nv,kv,hcs,_,hz⟩:=hn.cells;have hf:=hn.fr 0 (.int .i64 k);refine⟨⟨_,hcs.c0⟩,hz 0,(hn.own n hn.at_).2,hf.mono fun j hj=>(hO j).2 (.inr (hj▸hn.at_)),⟨Op,On,T,ks,hO,hd,?_,hn.qO 0 _ rfl rfl fun _ _=>rfl,hl,hc⟩⟩
 exact hp.kept (O1:=(· = n)) hf (fun j hj e=>hd j hj (e▸hn.at_)) fun j e=>by have:=(hn.own n hn.at_).1;omega
theorem pM {w1:World} {b n p:Nat} {Op1 On:Nat→Prop} {h:Nd} {a:Ast} {ks0:List Int} {fK:List ak} {T0 T1:List Nd} (hp:PS w1 b Op1 fK T1) (hn:NU w1 b n On { h with kids:=ks0}) (hd :∀k,Op1 k→¬ On k) (hl:eA T0 T1 [a] [(p:Int)]) :
  ∃v,(w1.alloc (.cells #[.int .i64 (p:Int)] 3)).cell? ⟨n,6,none⟩=some v∧(w1.alloc (.cells #[.int .i64 (p:Int)] 3)).frozen? ⟨n,6,none⟩=false∧n<w1.heap.size ∧
   ax On w1 ((w1.alloc (.cells #[.int .i64 (p:Int)] 3)).setCell ⟨n,6,none⟩ (.slice (some ⟨w1.heap.size,0,none⟩) 1 1)) ∧
   PS ((w1.alloc (.cells #[.int .i64 (p:Int)] 3)).setCell ⟨n,6,none⟩ (.slice (some ⟨w1.heap.size,0,none⟩) 1 1)) b Op1 fK T1 ∧
   Real ((w1.alloc (.cells #[.int .i64 (p:Int)] 3)).setCell ⟨n,6,none⟩ (.slice (some ⟨w1.heap.size,0,none⟩) 1 1)) b n (fun k=>Op1 k∨(On k∨k=w1.heap.size)) T0 ⟨h,[a],fK,T1.length⟩:=by
 obtain⟨nv,kv,ha,hi⟩:=hn.ex;have jd:=(hn.own n hn.at_).2;have Ds:=(hn.own n hn.at_).1;have hf:ax (fun k=>kv.ownBlock=some k) w1 (w1.alloc (.cells #[.int .i64 (p:Int)] 3)):=(ax.refl _ _).alloc _
 obtain⟨c6,z6,qQ,mP,Bm⟩:=GB ha hi hn.at_ hn.own hf;have hb1:b+1≤w1.heap.size:=(hp.own b hp.at_).2;have hrow:rV (w1.alloc (.cells #[.int .i64 (p:Int)] 3)) b (.slice (some ⟨w1.heap.size,0,none⟩) 1 1) [(p:Int)]:=⟨rfl,.inr ⟨w1.heap.size,1,#[.int .i64 (p:Int)],rfl,hb1,World.alloc_heap_new w1 _,ah _,by unfold maxLen;omega,rfl,rfl⟩⟩
 have hfn:=mP (.slice (some ⟨w1.heap.size,0,none⟩) 1 1);have hpA:=hp.below (aW w1 (.cells #[.int .i64 (p:Int)] 3));have sG:PS ((w1.alloc (.cells #[.int .i64 (p:Int)] 3)).setCell ⟨n,6,none⟩ (.slice (some ⟨w1.heap.size,0,none⟩) 1 1)) b Op1 fK T1:=hpA.kept (O1:=(· = n)) hfn (fun k hk e=>hd k hk (e▸hn.at_)) fun k e=>by omega
 refine⟨kv,c6,z6,jd,((ax.refl On w1).alloc _).trans hfn (fun k e=>.inl (e▸hn.at_)),sG,⟨Op1,fun k=>On k∨k=w1.heap.size,T1,[(p:Int)],fun _=>Iff.rfl,fun k hk e=>?_,sG,?_,hl,rfl⟩⟩
 ·rcases e with e|e
  ·exact hd k hk e
  ·have:=(hp.own k hk).2;omega
 ·exact Bm w1.heap.size 1 1 [(p:Int)] hrow (.inr (ah _))
theorem eA.same {T0 T:List Nd} {ks:List Int} (h:eA T0 T [] ks):T=T0∧ks=[]:=by
 have h1:=h.len;have h2:=h.num;obtain⟨p1,_⟩:=h;rw[Ast.al] at h1;exact⟨(List.IsPrefix.eq_of_length p1 (by omega)).symm,oG (by simpa using h2)⟩
def tgC (sf:iQ):iQ:=fun ts n K E=>sf ts n (fun a fK=>(isVar a→K a fK)∧(¬ isVar a→∃t r,fK=t::r∧E t.2.1)) E
theorem Qr {sf:iQ} (hS:pI 142 sf):pI 168 (tgC sf):=by
 intro b O ts T0 K E w hp hk;have HA:=aa (hS b O ts T0 _ E w hp hk);clear hp hk hS;go_enter Tryz.func168,Tryz.ntmps168
 go_wp2_with fail
 refine HA.out.mono ?_;intro e w1 h1;have F1:=aa h1.1;rcases h1.2 with ⟨p,a,fK,O1,T1,rfl,p1,x1,l1,k1⟩ | ⟨le,v,er,rfl,⟨g',rfl,m2,m3⟩,k1⟩
 ·obtain⟨g,c,c2,hc,hpl,ck,_⟩:=p1.kind l1
  have hb:b<w1.heap.size:=World.block_lt_of_cell? w1 _ c2;have P1:=aa p1;have X1:=aa x1;have L1:=aa l1;have K1:=aa k1;clear h1 p1 x1 l1 k1 HA;obtain⟨kd,qv⟩ :∃kd,kd=a.hd.kind:=⟨_,rfl⟩;rw[←qv] at ck;by_cases hv:isVar a
  ·have HV:=aa hv
   unfold isVar at hv;rw[←qv] at hv;clear qv;rcases hv with rfl|rfl <;>
   ·go_wp2_with fail
    go_ret2
    exact⟨F1.out,.inl ⟨p,a,fK,O1,T1,rfl,P1.out,X1.out,L1.out,K1.out.1 HV.out⟩⟩
  ·obtain⟨t,r,rfl,hE⟩:=K1.out.2 hv
   have HX:=aa (qN b O1 t r T1 w1 P1.out);unfold isVar at hv;rw[←qv] at hv;have g1:(kd == 7)=false:=aC.2 fun e=>hv (.inl e)
   have g2:(kd == 8)=false:=aC.2 fun e=>hv (.inr e)
   have g1':(kd != 7)=true:=oL.2 fun e=>hv (.inl e)
   have g2':(kd != 8)=true:=oL.2 fun e=>hv (.inr e)
   have HE:=aa hE;clear qv hv hE;go_wp2_with fail
   refine HX.out.mono ?_;rintro e w3 ⟨v,rfl,m,b3⟩;have M:=aa m;have B3:=aa b3;clear m b3;go_wp2_with fail
   go_ret2
   obtain⟨g',e1,e2,e3⟩:=M.out;exact⟨F1.out.trans (ax.af (O:=O1) B3.out) X1.out,.inr ⟨_,_,_,rfl,⟨g',e1,aL F1.out.size e2,e3⟩,HE.out⟩⟩
 ·have M3:=aa m3
  have M2:=aa m2;have K1:=aa k1;clear h1 m2 m3 k1;go_wp2_with fail
  go_ret2
  exact⟨F1.out,.inr ⟨le,_,_,rfl,⟨g',rfl,M2.out,M3.out⟩,K1.out⟩⟩
def aai (sf:iQ) (tg li:bW):bW:=fun s K E=>s.xs=[]∧sf s.ts s.n (fun a fK=>(a.hd.kind=9∨a.hd.kind=10→K ⟨{ s.h with kind:=21},[a],fK,s.n+Ast.al [a]⟩) ∧
 (isVar a→aJ [bw [44] [tg],eo,au [[61]],li] ⟨{ s.h with kind:=20},[a],fK,s.n+Ast.al [a]⟩ K E)∧(¬ (a.hd.kind=9∨a.hd.kind=10)→¬ isVar a→∃t r,fK=t::r∧E t.2.1)) E
theorem sS (w:World) (g:Nat) (hg:g=w.heap.size) (b:Nat) (O:Nat→Prop) (hO :∀k,O k→k<w.heap.size) (vs:List Value) (cO:List bW) (hl:vs.length≤100) (h:jQ w b O vs cO) (x:List UInt8) (hx:x≠[]) (X:ByteArray) (hX:X=bx x) :
  Calls Tryz.prog 57 #[.pointer (some ⟨b,0,none⟩),.string X,.slice (some ⟨g,0,none⟩) vs.length vs.length] (w.alloc (.cells vs.toArray 123)) (kq b O (bw x cO) w):=by
 subst hg;exact pJ w b O hO vs cO hl h x hx X hX
theorem Vf {sf:iQ} {tg li:bW} (hS:pI 142 sf) (Tn:eu 143 tg) (hL:eu 98 li):eu 111 (aai sf tg li):=by
 rintro b n O T0 ⟨sh,sxs,uT,sn⟩ K E w hr ⟨hx,hk⟩;obtain⟨Op,On,T,ks,hO,hd,hp,hn,hl,hc⟩:=hr.ex;dsimp only at hx hk hp hn hl hc
 subst hx;obtain⟨rfl,rfl⟩:=hl.same;subst hc;have HA:=aa (hS b Op uT T _ E w hp hk);have HN:=aa hn;have HO:=aa hO;have HD:=aa hd;have hat:=hn.at_;have HOn:Hid (∀k,On k→k<w.heap.size):=aa fun k hk=>(hn.own k hk).2
 have Ds:b<n:=(hn.own n hat).1;have C0:=aa hat;clear hp hk hr hn hO hd hl hS hat;go_enter Tryz.func111,Tryz.ntmps111
 go_wp2_with fail
 refine HA.out.mono ?_;intro e w1 h1;have F1:=aa h1.1;have N1:=aa (HN.out.kept h1.1 fun k hk h=>HD.out k h hk)
 rcases h1.2 with ⟨p,a,fK,O1,T1,rfl,p1,x1,l1,k1⟩ | ⟨le,v,er,rfl,⟨g',rfl,m2,m3⟩,k1⟩
 ·have hd1 :∀k,O1 k→¬ On k:=fun k hk h=>by
   rcases x1 k hk with h2|h2
   ·exact HD.out k h2 h
   ·have:=HOn.out k h;omega
  obtain⟨v6,c6,z6,jd,f2,p2,r2⟩:=pM p1 N1.out hd1 l1;obtain⟨g,c,c2,hc,hpl,ck,hOg⟩:=p1.kind l1;have Uw:g≠n:=fun e=>hd1 g hOg (e▸C0.out)
  have hbn':b≠n:=by omega
  have hbl:b<w1.heap.size:=by omega
  have re:g<w1.heap.size:=(p1.own g hOg).2;have hz2:T1.length=T.length+Ast.al [a]:=l1.len;rw[hz2] at r2;obtain⟨O2,KT⟩ :∃O2:Nat→Prop,O2=fun k=>O1 k∨(On k∨k=w1.heap.size):=⟨_,rfl⟩
  rw[←KT] at r2;have X2:Hid (Ext O O2 w):=aa fun k hk=>by
   rw[KT] at hk;rcases hk with hk|hk|rfl
   ·rcases x1 k hk with h|h
    ·exact .inl ((HO.out k).2 (.inl h))
    ·exact .inr h
   ·exact .inl ((HO.out k).2 (.inr hk))
   ·exact .inr h1.1.size
  have f3:ax O w ((w1.alloc (.cells #[.int .i64 (p:Int)] 3)).setCell ⟨n,6,none⟩ (.slice (some ⟨w1.heap.size,0,none⟩) 1 1)):=(h1.1.mono fun k hk=>(HO.out k).2 (.inl hk)).trans f2 fun k hk=>.inl ((HO.out k).2 (.inr hk))
  rw[World.setCell_alloc_past _ _ _ _ jd] at r2 f3 p2;have F2:=aa f3;have P2:=aa p2;have R2:=aa r2;obtain⟨nv1,kv1,zo,_,hz1⟩:=N1.out.cells;have d0:=zo.c0;have d6:=zo.c6;have y0:=hz1 0;have y6:=hz1 6;clear zo hz1;have X1:=aa x1;have K1:=aa k1;clear h1 p1 x1 l1 k1 HA hd1 f2 f3 p2 r2 hz2 hOg c6 z6 KT;have hkK:=K1.out;obtain⟨kd,qv⟩ :∃kd,kd=a.hd.kind:=⟨_,rfl⟩;rw[←qv] at ck;have RG:n<(w1.setCell ⟨n,6,none⟩ (.slice (some ⟨w1.heap.size,0,none⟩) 1 1)).heap.size:=by simpa using jd
  by_cases h9:a.hd.kind=9∨a.hd.kind=10
  ·have HK:=aa (hkK.1 h9)
   obtain⟨_,_,_,f4,r4⟩:=R2.out.kind 21;rw[World.setCell_alloc_past _ _ _ _ RG] at f4 r4;have F4:=aa (F2.out.trans f4 X2.out);have R4:=aa r4;clear f4 r4 hkK K1 RG;rw[←qv] at h9;clear qv;rcases h9 with rfl|rfl <;>
   ·go_wp2_with fail
    go_ret
    exact⟨F4.out,.inl ⟨_,O2,rfl,R4.out,X2.out,HK.out⟩⟩
  ·by_cases hv:isVar a
   ·have HK:=aa (hkK.2.1 hv)
    obtain⟨_,_,_,f4,r4⟩:=R2.out.kind 20;rw[World.setCell_alloc_past _ _ _ _ RG] at f4 r4;have F0:=aa (F2.out.trans f4 X2.out);have P0:=aa r4;have V0:=aa (sS _ (w1.heap.size+1) (by simp) b O2 r4.lt [ba 143 b] [tg] (by simp) ⟨Tn.part (enters_of Tryz.func143 (by kernel_rfl) rfl) _ b O2,trivial⟩ [44] (by decide) ⟨#[44]⟩ rfl)
    clear f4 r4 hkK K1 RG h9;unfold isVar at hv;rw[←qv] at hv;clear qv;rcases hv with rfl|rfl <;>
    ·go_wp2_with fail
     refine V0.out.mono ?_;rintro e w2 ⟨f2,a2,c2',rfl,b2,h2⟩;have F2:=aa (F0.out.trans (ax.af (O:=O2) b2) X2.out);have P2:=aa (P0.out.below b2);have H2:=aa h2;clear b2 h2 V0 c2 ck d0 d6 y0 y6;have hOO :∀k,O2 k→k<w2.heap.size:=P2.out.lt;have V3:=aa (cB w2 b O2 hOO [61] (by decide) ⟨#[61]⟩ rfl)
     clear hOO;go_wp2_with fail
     refine V3.out.mono ?_;rintro e w3 ⟨f3,a3,c3,rfl,b3,h3⟩;have F3:=aa (F2.out.trans (ax.af (O:=O2) b3) X2.out);have P3:=aa (P2.out.below b3);have L2:=aa (H2.out.later (ax.af (O:=O2) b3) (Ext.refl _ _));clear H2;have H2:=L2;clear L2;have H3:=aa h3;clear b3 h3 V3;have HN:=aa (jr w w3 P3.out F3.out X2.out [.func (.func f2) a2 c2',.func (.func 139) #[] #[],.func (.func f3) a3 c3,ba 98 b] [bw [44] [tg],eo,au [[61]],li] (by simp) ⟨H2.out,jP w3 b O2,H3.out,hL.part (enters_of Tryz.func98 (by kernel_rfl) rfl) w3 b O2,trivial⟩ HK.out)
     go_wp2_with fail
     refine HN.out.mono ?_;intro e wz hz;obtain⟨v,rfl⟩:=hz.ret;have HZ:=aa hz;clear hz;go_wp2_with fail
     go_ret
     exact HZ.out
   ·obtain⟨t,r,rfl,hE⟩:=hkK.2.2 h9 hv
    have HX:=aa (qN b O1 t r T1 _ P2.out);unfold isVar at hv;rw[←qv] at h9 hv;have q9:(kd == 9)=false:=aC.2 fun e=>h9 (.inl e)
    have UX:(kd == 10)=false:=aC.2 fun e=>h9 (.inr e)
    have q7:(kd == 7)=false:=aC.2 fun e=>hv (.inl e)
    have q8:(kd == 8)=false:=aC.2 fun e=>hv (.inr e)
    have HE:=aa hE;clear qv h9 hv hE hkK K1 RG;go_wp2_with fail
    refine HX.out.mono ?_;rintro e w3 ⟨v,rfl,m,b3⟩;have M:=aa m;have B3:=aa b3;clear m b3;go_wp2_with fail
    go_ret
    obtain⟨g',e1,e2,e3⟩:=M.out;exact⟨F2.out.trans (ax.af (O:=O2) B3.out) X2.out,.inr ⟨_,_,rfl,⟨g',e1,aL F2.out.size e2,e3⟩,HE.out⟩⟩
 ·have M3:=aa m3
  have M2:=aa m2;have K1:=aa k1;clear h1 m2 m3 k1;go_wp2_with fail
  go_ret
  exact⟨F1.out.mono fun k hk=>(HO.out k).2 (.inl hk),.inr ⟨le,_,rfl,⟨g',rfl,M2.out,M3.out⟩,K1.out⟩⟩
def Qs (li:bW):bW:=fun s K E=>∃t r,s.ts=t::r∧((iU t=true∨av [59] t=true)→K s)∧(iU t=false→av [59] t=false→li s K E)
theorem xV {W:World} {b n:Nat} {O:Nat→Prop} {T0:List Nd} {s:St} (h:Real W b n O T0 s) {t:ak} {ts:List ak} (hs:s.ts=t::ts):Calls Tryz.prog 51 #[.pointer (some ⟨b,0,none⟩)] W (nO W (iU t)):=by
 obtain⟨Op,On,T,ks,hO,hd,hp,hn,hl,hc⟩:=h.ex;rw[hs] at hp;exact Z0 b Op t ts T W hp
theorem Ep {li:bW} (hL:eu 98 li):eu 56 (Qs li):=by
 rintro b n O T0 s K E w hr ⟨t,r,hs,h1,h2⟩;have HV:=aa (xV hr hs);have HW:=aa (fun W hW=>jx hr hs W hW)
 have HR:=aa hr;have HLi:=aa (fun(W:World) (hW:Real W b n O T0 s) (hk:li s K E)=>hL b n O T0 s K E W hW hk)
 have H1:=aa h1;have H2:=aa h2;clear hr hs h1 h2 hL;cases he:iU t with
 | true =>
  rw[he] at HV;have HE:=aa he;clear he HW;go_enter Tryz.func56,Tryz.ntmps56
  go_wp2_with fail
  refine HV.out.mono ?_;rintro e w1 ⟨rfl,b1⟩;have B1:=aa b1;clear b1;go_wp2_with fail
  go_ret
  exact⟨ax.af B1.out,.inl ⟨s,O,rfl,HR.out.below B1.out,Ext.refl _ _,H1.out (.inl HE.out)⟩⟩
 | false =>
  rw[he] at HV;cases hq:av [59] t with
  | true =>
   have g1:((ag t).toList == [59])=true:=aj (s:=[59]) (by decide) t hq
   have HK:=aa (H1.out (.inr hq));generalize ag t=Y at *;clear he hq;go_enter Tryz.func56,Tryz.ntmps56
   go_wp2_with fail
   refine HV.out.mono ?_;rintro e w1 ⟨rfl,b1⟩;have B1:=aa b1;have je:=aa (HW.out w1 b1);clear b1;go_wp2_with fail
   refine je.out.mono ?_;rintro e w2 ⟨rfl,b2⟩;have B2:=aa (ay B1.out b2);clear b2;go_wp2_with fail
   go_ret
   exact⟨ax.af B2.out,.inl ⟨s,O,rfl,HR.out.below B2.out,Ext.refl _ _,HK.out⟩⟩
  | false =>
   have g1:((ag t).toList == [59])=false:=aj (s:=[59]) (by decide) t hq
   have HK:=aa (H2.out he hq);generalize ag t=Y at *;clear he hq;go_enter Tryz.func56,Tryz.ntmps56
   go_wp2_with fail
   refine HV.out.mono ?_;rintro e w1 ⟨rfl,b1⟩;have B1:=aa b1;have je:=aa (HW.out w1 b1);clear b1;go_wp2_with fail
   refine je.out.mono ?_;rintro e w2 ⟨rfl,b2⟩;have B2:=aa (ay B1.out b2);have HN:=aa (HLi.out w2 (HR.out.below B2.out) HK.out);clear b2;go_wp2_with fail
   refine HN.out.mono ?_;intro e wz hz;obtain⟨v,rfl⟩:=hz.ret;have HZ:=aa (hz.after (ax.af B2.out));clear hz;go_wp2_with fail
   go_ret
   exact HZ.out
theorem Cq {b n:Nat} {O O1:Nat→Prop} {T0:List Nd} {K:St→Prop} {E:Int→Prop} {w w1 w':World} {e:Ending} (h:bB b n O1 T0 K E w1 e w') (hf:ax O w w1) (he:Ext O O1 w):bB b n O T0 K E w e w':=by
 obtain⟨h1,h2⟩:=h;refine⟨hf.trans h1 he,h2.imp ?_ ?_⟩
 ·rintro⟨s',O',e1,r1,x1,k1⟩
  exact⟨s',O',e1,r1,he.trans x1 hf.size,k1⟩
 ·rintro⟨l,v,e1,⟨g,m1,m2,m3⟩,k⟩
  exact⟨l,v,e1,⟨g,m1,aL hf.size m2,m3⟩,k⟩
def Cr (AY:iQ) (li:bW):Nat→bW
 | 0=>fun _ _ _=>False
 | k+1=>fun s K E=>∃t r,s.ts=t::r∧(iU t=true→K s)∧(iU t=false→(av [59] t=true→Cr AY li k { s with ts:=r} K E) ∧
  (av [59] t=false→(av ei t=true→dx (dR (mN 29) [aB,Qs li,bw [59] []]) s K E)∧(av ei t=false→dx AY s (fun s'=>Cr AY li k s' K E) E)))
def aca (AY:iQ) (li:bW):bW:=fun s K E=>∃m,Cr AY li m s K E
theorem zq {AY:iQ} {li:bW} (hS:pI 59 AY) (hL:eu 98 li):eu 24 (aca AY li):=by
 rintro b n O T0 s K E w hr ⟨m,hk⟩;have HR:=aa hr;have HK:=aa hk;have HSt:=aa (fun(W:World) (b:Nat) (O:Nat→Prop)=>hS.one (enters_of Tryz.func59 (by kernel_rfl) rfl) W b O)
 have HRt:=aa (fun(W:World) (b:Nat) (O:Nat→Prop)=>(Ep hL).part (enters_of Tryz.func56 (by kernel_rfl) rfl) W b O)
 clear hr hk hS hL;go_enter Tryz.func24,Tryz.ntmps24
 go_wp2_with fail
 go_loopg [] m (fun z wr=>∃(O1:Nat→Prop) (s1:St),Real wr b n O1 T0 s1∧ax O w wr∧Ext O O1 w∧Cr AY li z s1 K E)
 case atStart=>exact⟨O,s,HR.out,ax.refl _ _,Ext.refl _ _,HK.out⟩
 case round =>
  obtain⟨O1,s1,hr1,kQ,qp,iR⟩:=hrel;have nm:=aa hr1;have fB:=aa kQ;have oY:=aa qp;cases gk with
  | zero=>exact iR.elim
  | succ z =>
   obtain⟨t,r,hs,hy,hn⟩:=iR;have HV:=aa (xV hr1 hs);have fH:=aa hs;clear hr1 kQ qp;cases he:iU t with
   | true =>
    rw[he] at HV;have zB:=aa (hy he);clear hy hn hs he;go_wp2_with fail
    refine HV.out.mono ?_;rintro e w1 ⟨rfl,b1⟩;have B1:=aa b1;clear b1;go_wp2_with fail
    go_ret
    exact⟨fB.out.trans (ax.af (O:=O1) B1.out) oY.out,.inl ⟨s1,O1,rfl,nm.out.below B1.out,oY.out,zB.out⟩⟩
   | false =>
    rw[he] at HV;have xc:=hn he;clear hy hn he;cases hq:av [59] t with
    | true =>
     have HTk:=aa (fun(W:World) (hW:Real W b n O1 T0 s1)=>lC hW hs [59] ⟨#[59]⟩ rfl (by decide) hq)
     have zB:=aa (xc.1 hq);clear xc hs hq;go_wp2_with fail
     refine HV.out.mono ?_;rintro e w1 ⟨rfl,b1⟩;have F2:=aa (fB.out.trans (ax.af (O:=O1) b1) oY.out);have HT:=aa (HTk.out w1 (nm.out.below b1));clear b1;go_wp2_with fail
     refine HT.out.mono ?_;rintro e w2 ⟨rfl,r2,f2⟩;have F3:=aa (F2.out.trans f2 oY.out);have R2:=aa r2;clear r2 f2;go_wp2_with fail
     go_roundg z
     case measure=>omega
     case rel=>exact⟨O1,_,R2.out,F3.out,oY.out,zB.out⟩
    | false =>
     have HTk:=aa (fun(W:World) (hW:Real W b n O1 T0 s1)=>ot hW hs [59] ⟨#[59]⟩ rfl (by decide) hq)
     have uP:=xc.2 hq;clear xc hq;cases pg:av ei t with
     | true =>
      have g1:((ag t).toList == [114,101,116,117,114,110])=true:=aj (s:=ei) (by decide) t pg
      have zB:=aa (uP.1 pg);have HWd:=aa (fun(W:World) (hW:Real W b n O1 T0 s1)=>jx hW hs W (Below.refl _ _))
      clear uP hs pg;generalize ag t=Y at *;go_wp2_with fail
      refine HV.out.mono ?_;rintro e w1 ⟨rfl,b1⟩;have F2:=aa (fB.out.trans (ax.af (O:=O1) b1) oY.out);have HT:=aa (HTk.out w1 (nm.out.below b1));clear b1;go_wp2_with fail
      refine HT.out.mono ?_;rintro e w2 ⟨rfl,r2,f2⟩;have F3:=aa (F2.out.trans f2 oY.out);have lG:=aa (HWd.out w2 r2);have R2:=aa r2;clear r2 f2 HTk HWd HT;go_wp2_with fail
      refine lG.out.mono ?_;rintro e w3 ⟨rfl,b3⟩;have F4:=aa (F3.out.trans (ax.af (O:=O1) b3) oY.out);have R3:=aa (R2.out.below b3);have HP:=aa (xM b O1 [59] ⟨#[59]⟩ rfl (by decide) (.slice none 0 0) [] w3 (aM.nil _ _ _) R3.out.lt)
      clear b3;go_wp2_with fail
      refine HP.out.mono ?_;rintro e w4 ⟨v,rfl,b4,h4,fi,fa,fc,rfl⟩;have R4:=aa (R3.out.below b4);have F5:=aa (F4.out.trans (ax.af (O:=O1) b4) oY.out);have HH:=aa (rY b O1 (mN 29) (.slice none 0 0) _ _ (w4.alloc (.cells #[ba 55 b,ba 56 b,.func (.func fi) fa fc] 123)) (zE.nil _ b) (aM.new (w:=w4) (b:=b) (O:=O1) R4.out.lt [ba 55 b,ba 56 b,.func (.func fi) fa fc] [aB,Qs li,bw [59] []] (by simp) ⟨bg w4 b O1,HRt.out w4 b O1,h4,trivial⟩) (fun k hk=>by have:=R4.out.lt k hk;simp;omega))
      clear b4 h4 HP;go_wp2_with fail
      refine HH.out.mono ?_;rintro e w5 ⟨v,rfl,b5,h5⟩;obtain⟨f,first,cap,rfl,pE,bs⟩:=h5.1.call R4.out (ay (aW w4 _) b5) zB.out
      have dY:=aa bs;clear h5 bs b5;unfold Enters at pE;go_wp2_with fail
      refine dY.out.mono ?_;intro e w6 h6;obtain⟨v,rfl⟩:=h6.ret;have H6:=aa h6;clear h6;go_wp2_with fail
      go_ret
      exact Cq H6.out F5.out oY.out
     | false =>
      have g1:((ag t).toList == [114,101,116,117,114,110])=false:=aj (s:=ei) (by decide) t pg
      have zB:=aa (uP.2 pg);have HWd:=aa (fun(W:World) (hW:Real W b n O1 T0 s1)=>jx hW hs W (Below.refl _ _))
      clear uP hs pg;generalize ag t=Y at *;go_wp2_with fail
      refine HV.out.mono ?_;rintro e w1 ⟨rfl,b1⟩;have F2:=aa (fB.out.trans (ax.af (O:=O1) b1) oY.out);have HT:=aa (HTk.out w1 (nm.out.below b1));clear b1;go_wp2_with fail
      refine HT.out.mono ?_;rintro e w2 ⟨rfl,r2,f2⟩;have F3:=aa (F2.out.trans f2 oY.out);have lG:=aa (HWd.out w2 r2);have R2:=aa r2;clear r2 f2 HTk HWd HT;go_wp2_with fail
      refine lG.out.mono ?_;rintro e w3 ⟨rfl,b3⟩;have F4:=aa (F3.out.trans (ax.af (O:=O1) b3) oY.out);have R3:=aa (R2.out.below b3);have HP:=aa (Ck b O1 59 _ _ AY w3 (HSt.out w3 b O1) R3.out.lt);clear b3;go_wp2_with fail
      refine HP.out.mono ?_;rintro e w4 ⟨v,rfl,b4,h4⟩;obtain⟨f,first,cap,rfl,pE,bs⟩:=h4.1.call R3.out b4 zB.out
      have dY:=aa bs;clear h4 bs b4;unfold Enters at pE;go_wp2_with fail
      refine dY.out.mono ?_;intro e w6 h6;have F6:=aa (F4.out.trans h6.1 oY.out);rcases h6.2 with ⟨s7,O7,rfl,r7,x7,k7⟩ | ⟨l,v,rfl,⟨g',rfl,hg1,hg2⟩,k7⟩
      ·have R7:=aa r7
       have X7:=aa (oY.out.trans x7 F4.out.size);have K7:=aa k7;clear h6 r7 x7 k7;go_wp2_with fail
       go_roundg z
       case measure=>omega
       case rel=>exact⟨O7,s7,R7.out,F6.out,X7.out,K7.out⟩
      ·have M3:=aa hg2
       have HG:=aa (aL F4.out.size hg1);have K7:=aa k7;clear h6 hg1 hg2 k7;go_wp2_with fail
       go_ret
       exact⟨F6.out,.inr ⟨l,_,rfl,⟨g',rfl,HG.out,M3.out⟩,K7.out⟩⟩
theorem Cs {W:World} {b n:Nat} {On:Nat→Prop} {x:Nd} (hn:NU W b n On x) (v:Value) (xs:List ByteArray) (hr:jR W b v xs) (hne:xs≠[]):NU (W.setCell ⟨n,5,none⟩ v) b n (fun k=>On k∨v.ownBlock=some k) { x with names:=xs}:=by
 obtain⟨nv,kv,ha,hi⟩:=hn.ex;have dJ:jO W b (fun k=>On k∨v.ownBlock=some k) { x with names:=xs} v kv:=⟨hr,hi.kids,fun g hg=>.inl (.inr hg),fun g _=>hne,fun g hg=>.inl (hi.ok g hg)⟩
 refine⟨⟨v,kv,il ha _,dJ.set ha 5 v⟩,.inl hn.at_,fun k hk=>?_⟩
 have hsz:(W.setCell ⟨n,5,none⟩ v).heap.size=W.heap.size:=by simp[World.setCell]
 rw[hsz];rcases hk with hk|hk
 ·exact hn.own k hk
 ·have:=hr.lt k hk;omega
theorem Ct (W:World) (b n:Nat) (Op On:Nat→Prop) (hd :∀k,Op k→¬ On k):Ps W b n Op On (ba 132 b) tp:=by
 intro W1 x ts T _ hp hn;obtain⟨t,r,rfl⟩:=hp.fin.cons;refine⟨132,_,_,rfl,enters_of Tryz.func132 (by kernel_rfl) rfl,?_⟩
 have ld :∀w',ax (· = b) W1 w'→NU w' b n On x:=fun w' hf=>hn.kept hf fun k hk e=>hd b hp.at_ (e▸hk)
 cases hc:av [44] t with
 | true =>
  have e1:tp (x.num,t::r)=(true,x.num,r):=by simp[tp,cX,hc]
  rw[e1];refine(km b Op t r T W1 hp hc).mono ?_;rintro e w' ⟨rfl,h1,h2⟩;exact⟨rfl,h1,ld w' h2,h2.mono fun k hk=>.inl hk⟩
 | false =>
  have e1:tp (x.num,t::r)=(false,x.num,t::r):=by simp[tp,cX,hc]
  rw[e1];refine(mi b Op t r T W1 hp hc).mono ?_;rintro e w' ⟨rfl,h1,h2⟩;exact⟨rfl,h1,ld w' h2,h2.mono fun k hk=>.inl hk⟩
theorem GQ:eu 107 iD:=by
 rintro b n O T0 ⟨sh,sxs,uT,sn⟩ K E w hr ⟨m,hm,hk⟩;obtain⟨Op,On,T,ks,hO,hd,hp,hn,hl,hc⟩:=hr.ex;dsimp only at hk hp hn hl hc
 have HA:=aa (xP b n Op On { sh with kids:=ks} uT T (ba 132 b) tp _ E m hm w hp hn hd (Ct w b n Op On hd) hk);have HO:=aa hO;have HD:=aa hd;have HL:=aa hl;have HC:=aa hc;have C0:=aa hn.at_;have HPB:=aa hp.at_;have HOW:=aa hp.own;have hnw:n<w.heap.size:=(hn.own n hn.at_).2;clear hr hp hn hl hc hk hO hd;go_enter Tryz.func107,Tryz.ntmps107
 go_wp2_with fail
 refine HA.out.mono ?_;rintro e w1 ⟨f1,mm,n1,h1⟩;have F1:=aa (f1.mono (O1:=O) fun k hk=>(HO.out k).2 (hk.elim (fun e=>.inl (e▸HPB.out)) (fun e=>.inr (e▸C0.out))))
 obtain⟨nv,kv,hcs,_,hz⟩:=n1.cells;have c5:=hcs.c5;have z5:=hz 5;have jd:n<w1.heap.size:=(n1.own n n1.at_).2;have Ds:b<n:=(n1.own n n1.at_).1;have N1:=aa n1;clear hcs hz n1;rcases h1 with ⟨v,xs,ts,rfl,p1,r1,o1,ne1,adM,k1⟩ | ⟨l,er,rfl,⟨g',rfl,m1,m2⟩,k1⟩
 ·have P1:=aa p1
  have R1:=aa r1;have O1:=aa o1;have NE:=aa ne1;have K1:=aa k1;obtain⟨A,c,rfl,_⟩:=bC r1;clear p1 r1 o1 ne1 k1 f1;go_wp2_with fail
  go_ret
  have f2:=N1.out.fr 5 (.slice A xs.length c);have hop :∀k,Op k→k≠n:=fun k hk e=>HD.out k hk (e▸C0.out)
  refine⟨F1.out.trans f2 (fun k hk=>.inl (hk▸(HO.out n).2 (.inr C0.out))),.inl ⟨_,fun k=>Op k∨(On k∨(Value.slice A xs.length c).ownBlock=some k),rfl,⟨Op,fun k=>On k∨(Value.slice A xs.length c).ownBlock=some k,T,ks,fun _=>Iff.rfl,fun k hk h=>?_,P1.out.kept (O1:=(· = n)) f2 hop (fun k e=>by omega),Cs N1.out _ xs R1.out NE.out,HL.out,HC.out⟩,fun k hk=>?_,K1.out⟩⟩
  ·rcases h with h|h
   ·exact HD.out k hk h
   ·have:=O1.out k h;have:=(HOW.out k hk).2;omega
  ·rcases hk with hk|hk|hk
   ·exact .inl ((HO.out k).2 (.inl hk))
   ·exact .inl ((HO.out k).2 (.inr hk))
   ·exact .inr (O1.out k hk)
 ·have M2:=aa m2
  have K1:=aa k1;have Uw:g'≠n:=by omega
  clear m2 k1 f1;go_wp2_with fail
  go_ret
  exact⟨F1.out.trans (N1.out.fr 5 _) (fun k hk=>.inl (hk▸(HO.out n).2 (.inr C0.out))),.inr ⟨l,_,rfl,⟨g',rfl,m1,(Below.heap_setCell _ _ _ g' Uw).trans M2.out⟩,K1.out⟩⟩
def kx:NmF:=fun p=>match p.2 with
 | []=>(false,p.1,[])
 | t::r=>if av [46,46,46] t=true then (true,1,r) else (decide (p.1=1),p.1,t::r)
def Qt (b n:Nat) (Op On:Nat→Prop) (x:Nd) (T:List Nd) (o:Bool×Int×List ak) (w:World) (e:Ending) (w':World):Prop :=
 e=.returned (.bool o.1)∧PS w' b Op o.2.2 T∧NU w' b n On { x with num:=o.2.1}∧ax (fun k=>k=b∨k=n) w w'
theorem Qu (b n g1 g2:Nat) (Op On O:Nat→Prop) (x:Nd) (t:ak) (ts:List ak) (T:List Nd) (w:World) (hp:PS w b Op (t::ts) T) (hn:NU w b n On x) (hd :∀k,Op k→¬ On k) (hO :∀k,k=b∨k=n→O k)
  (b1:eI w O g1 #[.pointer (some ⟨b,0,none⟩)] 117) (b2:eI w O g2 #[.pointer (some ⟨n,0,none⟩)] 121):Calls Tryz.prog 188 #[.pointer (some ⟨g1,0,none⟩),.pointer (some ⟨g2,0,none⟩)] w (Qt b n Op On x T (kx (x.num,t::ts)) w):=by
 have c1:=b1.cell 0;have B2:=aa b2;have HN:=aa hn;have ld :∀w',ax (· = b) w w'→NU w' b n On x:=fun w' hf=>hn.kept hf fun k hk e=>hd b hp.at_ (e▸hk)
 have HK:=aa ld;have HOO:=aa hO;have Ds:b<n:=(hn.own n hn.at_).1;have HD:=aa hd;have hg2:g2≠n:=fun e=>b2.2 (e▸hO n (.inr rfl))
 by_cases h1:av [46,46,46] t=true
 ·have e1:kx (x.num,t::ts)=(true,1,ts):=by simp[kx,h1]
  rw[e1];have HT:=aa (mh b Op t ts T [46,46,46] ⟨#[46,46,46]⟩ rfl w hp (by decide) h1)
  clear hp hn hd hO b1 b2 ld h1 e1;go_enter Tryz.func188,Tryz.ntmps188
  go_wp2_with fail
  refine HT.out.mono ?_;rintro e w1 ⟨rfl,p1,f1⟩;have n1:=HK.out w1 f1;obtain⟨nv,kv,hcs,_,hz⟩:=n1.cells;have c3:=hcs.c3;have z3:=hz 3;have c2:=(B2.out.later (f1.mono fun k hk=>HOO.out k (.inl hk)) (Ext.refl _ _)).cell 0
  have jd:n<w1.heap.size:=(n1.own n n1.at_).2;have N1:=aa n1;have P1:=aa p1;have F1:=aa f1;clear n1 p1 f1 hcs hz c1;go_wp2_with fail
  go_ret
  have f2:=N1.out.fr 3 (.int .i64 1);exact⟨rfl,P1.out.kept (O1:=(· = n)) f2 (fun k hk e=>HD.out k hk (e▸N1.out.at_)) (fun k e=>by omega),N1.out.qO 3 _ rfl rfl fun _ _=>rfl,(F1.out.mono fun k hk=>.inl hk).trans f2 (fun k hk=>.inl (.inr hk))⟩
 ·have PI:av [46,46,46] t=false:=by simpa using h1
  have e1:kx (x.num,t::ts)=(decide (x.num=1),x.num,t::ts):=by simp[kx,h1]
  rw[e1];have HT:=aa (oq b Op t ts T [46,46,46] ⟨#[46,46,46]⟩ rfl w hp (by decide) PI)
  clear hp hn hd hO b1 b2 ld h1 PI e1;go_enter Tryz.func188,Tryz.ntmps188
  go_wp2_with fail
  refine HT.out.mono ?_;rintro e w1 ⟨rfl,p1,f1⟩;have n1:=HK.out w1 f1;obtain⟨nv,kv,hcs,_,hz⟩:=n1.cells;have c3:=hcs.c3;have c2:=(B2.out.later (f1.mono fun k hk=>HOO.out k (.inl hk)) (Ext.refl _ _)).cell 0
  have jd:n<w1.heap.size:=(n1.own n n1.at_).2;have N1:=aa n1;have P1:=aa p1;have F1:=aa f1;clear n1 p1 f1 hcs hz c1;go_wp2_with fail
  go_ret
  exact⟨by congr 2,P1.out,N1.out,F1.out.mono fun k hk=>.inl hk⟩
theorem Vg {m:Int} {t:ak} {r:List ak} (h:av [44] t=false):pH (m,t::r)=(false,m,t::r):=by simp[pH,h]
theorem Qv {m:Int} {t u:ak} {r:List ak} (h:av [44] t=true):pH (m,t::u::r)=(!(kx (m,u::r)).1,(kx (m,u::r)).2.1,(kx (m,u::r)).2.2):=by
 cases h2:av [46,46,46] u<;>simp[pH,kx,h,h2]
theorem aaj (b n g1 g2 g3:Nat) (Op On O:Nat→Prop) (x:Nd) (t:ak) (ts:List ak) (T:List Nd) (w:World) (hp:PS w b Op (t::ts) T) (hn:NU w b n On x) (hd :∀k,Op k→¬ On k) (hO :∀k,k=b∨k=n→O k)
  (b1:eI w O g1 #[.pointer (some ⟨b,0,none⟩)] 117) (b2:eI w O g2 #[.pointer (some ⟨n,0,none⟩)] 121) (b3:eI w O g3 #[.func (.func 188) #[] #[.pointer (some ⟨g1,0,none⟩),.pointer (some ⟨g2,0,none⟩)]] 25) :
  Calls Tryz.prog 189 #[.pointer (some ⟨g1,0,none⟩),.pointer (some ⟨g3,0,none⟩)] w (Qt b n Op On x T (pH (x.num,t::ts)) w):=by
 have c1:=b1.cell 0;have B1:=aa b1;have B2:=aa b2;have B3:=aa b3;have ld :∀w',ax (· = b) w w'→NU w' b n On x:=fun w' hf=>hn.kept hf fun k hk e=>hd b hp.at_ (e▸hk)
 have HK:=aa ld;have HOO:=aa hO;have HD:=aa hd;by_cases h1:av [44] t=true
 ·obtain⟨u,us,rfl⟩:=(hp.fin.tail (tP h1)).cons
  rw[Qv h1];have HT:=aa (km b Op t (u::us) T w hp h1);have pE:=enters_of Tryz.func188 (by kernel_rfl) rfl
  unfold Enters at pE;clear hp hn hd hO b1 b2 b3 ld h1;go_enter Tryz.func189,Tryz.ntmps189
  go_wp2_with fail
  refine HT.out.mono ?_;rintro e w1 ⟨rfl,p1,f1⟩;have fO:=f1.mono (O1:=O) fun k hk=>HOO.out k (.inl hk)
  have c3:=(B3.out.later fO (Ext.refl _ _)).cell 0;have HM:=aa (Qu b n g1 g2 Op On O x u us T w1 p1 (HK.out w1 f1) HD.out HOO.out (B1.out.later fO (Ext.refl _ _)) (B2.out.later fO (Ext.refl _ _)));generalize kx (x.num,u::us)=o at *;obtain⟨o1,o2,o3⟩:=o;have F1:=aa f1;clear p1 f1 fO c1;go_wp2_with fail
  refine HM.out.mono ?_;rintro e w2 ⟨rfl,p2,n2,f2⟩;have P2:=aa p2;have N2:=aa n2;have F2:=aa f2;clear p2 n2 f2 c3;go_wp2_with fail
  go_ret
  exact⟨rfl,P2.out,N2.out,(F1.out.mono fun k hk=>.inl hk).trans F2.out (Ext.refl _ _)⟩
 ·have PI:av [44] t=false:=by simpa using h1
  rw[Vg PI];have HT:=aa (mi b Op t ts T w hp PI);clear hp hn hd hO b1 b2 b3 ld h1 PI;go_enter Tryz.func189,Tryz.ntmps189
  go_wp2_with fail
  refine HT.out.mono ?_;rintro e w1 ⟨rfl,p1,f1⟩;have N1:=aa (HK.out w1 f1);have P1:=aa p1;have F1:=aa f1;clear p1 f1 c1;go_wp2_with fail
  go_ret
  exact⟨rfl,P1.out,N1.out,F1.out.mono fun k hk=>.inl hk⟩
theorem J2 {W:World} {b n g1 g2 g3:Nat} {Op On O:Nat→Prop} (hd :∀k,Op k→¬ On k) (hO :∀k,k=b∨k=n→O k)
  (b1:eI W O g1 #[.pointer (some ⟨b,0,none⟩)] 117) (b2:eI W O g2 #[.pointer (some ⟨n,0,none⟩)] 121) (b3:eI W O g3 #[.func (.func 188) #[] #[.pointer (some ⟨g1,0,none⟩),.pointer (some ⟨g2,0,none⟩)]] 25) :
  Ps W b n Op On (.func (.func 189) #[] #[.pointer (some ⟨g1,0,none⟩),.pointer (some ⟨g3,0,none⟩)]) pH:=by
 intro W1 x ts T hf hp hn;obtain⟨t,r,rfl⟩:=hp.fin.cons;have hf':=hf.mono (O1:=O) hO;exact⟨189,_,_,rfl,enters_of Tryz.func189 (by kernel_rfl) rfl,aaj b n g1 g2 g3 Op On O x t r T W1 hp hn hd hO (b1.later hf' (Ext.refl _ _)) (b2.later hf' (Ext.refl _ _)) (b3.later hf' (Ext.refl _ _))⟩
theorem Vh {W W4:World} {b n:Nat} {On:Nat→Prop} {x:Nd} {nv kv:Value} (ha:W.heap[n]? = some (.cells (aP (x,nv,kv)).toArray 54 (0,0))) (hi:jO W b On x nv kv) (hat:On n) (hown :∀k,On k→b<k∧k<W.heap.size)
  (hf:ax (fun k=>nv.ownBlock=some k) W W4) :
  ax On W W4∧W4.cell? ⟨n,5,none⟩=some nv∧W4.frozen? ⟨n,5,none⟩=false∧n<W4.heap.size∧(∀v,ax (· = n) W4 (W4.setCell ⟨n,5,none⟩ v))∧∀(g m c:Nat) (xs:List ByteArray),jR W4 b (.slice (some ⟨g,0,none⟩) m c) xs→xs≠[] →
   NU (W4.setCell ⟨n,5,none⟩ (.slice (some ⟨g,0,none⟩) m c)) b n (fun k=>On k∨k=g) { x with names:=xs}:=by
 have hne:¬ nv.ownBlock=some n:=fun e=>by
  obtain⟨cur,hc⟩:=fh hi.names e;rw[ha] at hc;simp at hc
 have Hl:ax On W W4:=⟨hf.os,hf.tape,hf.output,hf.size,fun k hk hn=>by
  by_cases e:nv.ownBlock=some k
  ·rcases hi.on k e with h|h
   ·exact(hn h).elim
   ·exact hf.str k h
  ·exact hf.block k hk e,hf.str⟩
 have qQ:W4.heap[n]? = some (.cells (aP (x,nv,kv)).toArray 54 (0,0)):=(hf.block n (hown n hat).2 hne).trans ha;refine⟨Hl,by simp[World.cell?,qQ,aP],by simp[World.frozen?,qQ],(aO.1 qQ).1,fun v=>ax.wo qQ (by decide) 5 v,fun g m c xs hr hx=>?_⟩
 have dJ:jO W4 b (fun k=>On k∨k=g) { x with names:=xs} (.slice (some ⟨g,0,none⟩) m c) kv:=⟨hr,dk hi.kids fun k hk=>(hf.block k (hi.kids.lt k hk).2 (fun e=>by
  obtain⟨c1,h1⟩:=fh hi.names e;obtain⟨c2,h2⟩:=fh hi.kids hk;rw[h1] at h2;simp at h2)),fun k hk=>.inl (.inr (by simpa[Value.ownBlock] using hk.symm)),fun k _=>hx,fun k hk=>.inl (hi.ok k hk)⟩
 have re:=hr.lt g rfl;refine⟨⟨_,kv,il qQ _,dJ.set qQ 5 _⟩,.inl hat,fun k hk=>?_⟩
 rcases hk with hk|rfl
 ·exact⟨(hown k hk).1,by have:=(hown k hk).2;have:=hf.size;simp[World.setCell];omega⟩
 ·exact⟨by omega,by simp[World.setCell];omega⟩
theorem xW (w:World) (A B:Obj) (v u:Value) (ty:TypeId):(((w.alloc A).alloc B).alloc (.cells #[v] ty)).cell? ⟨w.heap.size+1+1,0,none⟩=some v∧(((w.alloc A).alloc B).alloc (.cells #[v] ty)).frozen? ⟨w.heap.size+1+1,0,none⟩=false ∧
  (((w.alloc A).alloc B).alloc (.cells #[v] ty)).setCell ⟨w.heap.size+1+1,0,none⟩ u=((w.alloc A).alloc B).alloc (.cells #[u] ty):=by
 have hz:w.heap.size+1+1=((w.alloc A).alloc B).heap.size:=by rw[aq,aq]
 rw[hz];have hn:=World.alloc_heap_new ((w.alloc A).alloc B) (.cells #[v] ty);refine⟨by simp only[World.cell?,hn];rfl,by simp only[World.frozen?,hn];rfl,?_⟩
 rw[World.setCell_alloc_at _ _ _ _ _ rfl];rfl
theorem J3 {ops:Array Oper} {o:Oper} {a:Act} {K:Act→World→Prop} {Q:Exit→Act→World→Prop} {E:Prop} (w:World) (hgd:o.guard=none) (s x:Operand)
  (ho:o.op=.call { callee:=.builtin .append,args:=#[s,x],argTypes:=#[52,52]}) (b:Nat) (v:Value) (ls:List ByteArray) (hs:a.eval s=v) (hown:jR w b v ls) (hx:a.eval x=.slice none 0 0) (h:K (a.put o.dst v) w) :
  if Region.wanted o (yielded ops a.tmps)=true then Oper.wp Tryz.prog o a w K Q else E:=by
 have hw:Region.wanted o (yielded ops a.tmps)=true:=by simp[Region.wanted,hgd]
 rw[ai hw];have hrun:=run_append_owned_none (P:=Tryz.prog) (w:=w) (b+1) 52 o.type 9 _ 1 Tryz.underlying52 (info_parts Pp).choose_spec.1 v ls.length (ls.map Value.string) hown;unfold Oper.wp;simp[execOp,ho,resolve,invoke,builtin,hs,hx,hrun,Result.andThen];exact h
theorem qT:eu 165 Cn:=by
 rintro b n O T0 ⟨sh,sxs,uT,sn⟩ K E w hr ⟨t,ts,jo,e7,Vi,hno⟩;obtain⟨Op,On,T,ks,hO,hd,hp,hn,hl,hc⟩:=hr.ex;dsimp only at jo e7 Vi hno hp hn hl hc
 subst jo;have Qw:=hr.lt;obtain⟨w1,ec⟩ :∃w1,w1=w.alloc (.cells #[.pointer (some ⟨b,0,none⟩)] 117):=⟨_,rfl⟩;obtain⟨w2,hw2⟩ :∃w2,w2=w1.alloc (.cells #[.pointer (some ⟨n,0,none⟩)] 121):=⟨_,rfl⟩;obtain⟨w3,hw3⟩ :∃w3,w3=w2.alloc (.cells #[.func (.func 188) #[] #[.pointer (some ⟨w.heap.size,0,none⟩),.pointer (some ⟨w.heap.size+1,0,none⟩)]] 25):=⟨_,rfl⟩;have f1:ax O w w1:=by rw[ec];exact(ax.refl _ _).alloc _
 have f2:ax O w1 w2:=by rw[hw2];exact(ax.refl _ _).alloc _
 have f3:ax O w2 w3:=by rw[hw3];exact(ax.refl _ _).alloc _
 have z1:w1.heap.size=w.heap.size+1:=by rw[ec,aq]
 have z2:w2.heap.size=w.heap.size+1+1:=by rw[hw2,aq,z1]
 have b1:eI w1 O w.heap.size #[.pointer (some ⟨b,0,none⟩)] 117:=by rw[ec];exact eI.new w O Qw _ _
 have b2:eI w2 O (w.heap.size+1) #[.pointer (some ⟨n,0,none⟩)] 121:=by rw[hw2,←z1];exact eI.new w1 O (fun k hk=>by have:=Qw k hk;omega) _ _
 have b3:eI w3 O (w.heap.size+1+1) #[.func (.func 188) #[] #[.pointer (some ⟨w.heap.size,0,none⟩),.pointer (some ⟨w.heap.size+1,0,none⟩)]] 25:=by rw[hw3,←z2];exact eI.new w2 O (fun k hk=>by have:=Qw k hk;omega) _ _
 have f13:=(f1.trans f2 (Ext.refl _ _)).trans f3 (Ext.refl _ _);have YP:Below w.heap.size w w3:=by
  rw[hw3,hw2,ec];exact(((Below.refl _ _).alloc (ah _) _).alloc (by simp) _).alloc (by simp;omega) _
 have b13:=(b1.later f2 (Ext.refl _ _)).later f3 (Ext.refl _ _);have b23:=b2.later f3 (Ext.refl _ _);have hbO :∀k,k=b∨k=n→O k:=fun k hk=>(hO k).2 (hk.elim (fun e=>.inl (e▸hp.at_)) (fun e=>.inr (e▸hn.at_)))
 have HM:=aa (Qu b n w.heap.size (w.heap.size+1) Op On O { sh with kids:=ks} t ts T w3 (hp.below YP) (hn.below YP) hd hbO b13 b23);have c23:=b23.cell 0;have c33:=b3.cell 0;have BX1:=aa b13;have BX2:=aa b23;have BX3:=aa b3;have F3:=aa f13;have HO:=aa hO;have HD:=aa hd;have HL:=aa hl;have HC:=aa hc;have HBO:=aa hbO;have C0:=aa hn.at_;have HPW:=aa hp.own;have HNW:=aa hn.own;have hnw:n<w.heap.size:=(hn.own n hn.at_).2;have Ds:b<n:=(hn.own n hn.at_).1;have HWS:Hid (w.heap.size≤w3.heap.size):=aa f13.size;have pE:=enters_of Tryz.func188 (by kernel_rfl) rfl
 unfold Enters at pE;dsimp only[show({ sh with kids:=ks}:Nd).num=sh.num from rfl] at HM
 rw[e7] at HM;cases h3:av [46,46,46] t with
 | true =>
  rw[show kx (0,t::ts)=(true,1,ts) from by simp[kx,h3]] at HM
  have HK:=aa (Vi h3);rw[hw3,hw2,ec] at HM;obtain⟨q1,q2,q3⟩:=xW w (.cells #[.pointer (some ⟨b,0,none⟩)] 117) (.cells #[.pointer (some ⟨n,0,none⟩)] 121) .nilFunc (.func (.func 188) #[] #[.pointer (some ⟨w.heap.size,0,none⟩),.pointer (some ⟨w.heap.size+1,0,none⟩)]) 25;clear hr hp hn hl hc Vi hno e7 h3 c23 c33 BX1 BX2 BX3 f1 f2 f3 f13 z1 z2 b1 b2 b3 b13 b23 hbO YP hO hd Qw;go_enter Tryz.func165,Tryz.ntmps165
  go_wp2_with fail
  refine HM.out.mono ?_;rintro e w4 ⟨rfl,p4,n4,f4⟩;rw[←ec,←hw2,←hw3] at f4;have P4:=aa p4;have N4:=aa n4;have F4:=aa (F3.out.trans (f4.mono HBO.out) (Ext.refl _ _));clear p4 n4 f4 ec hw2 hw3;go_wp2_with fail
  go_ret
  exact⟨F4.out,.inl ⟨_,O,rfl,⟨Op,On,T,ks,HO.out,HD.out,P4.out,N4.out,HL.out,HC.out⟩,Ext.refl _ _,HK.out⟩⟩
 | false =>
  rw[show kx (0,t::ts)=(false,0,t::ts) from by simp[kx,h3]] at HM
  obtain⟨jd,m,hm,hk⟩:=hno h3;have HK:=aa hk;have HNL:=aa jd;rw[hw3,hw2,ec] at HM;obtain⟨q1,q2,q3⟩:=xW w (.cells #[.pointer (some ⟨b,0,none⟩)] 117) (.cells #[.pointer (some ⟨n,0,none⟩)] 121) .nilFunc (.func (.func 188) #[] #[.pointer (some ⟨w.heap.size,0,none⟩),.pointer (some ⟨w.heap.size+1,0,none⟩)]) 25;clear hr hp hn hl hc Vi hno e7 h3 c23 c33 f1 f2 f3 f13 z1 z2 b1 b2 b3 b13 b23 hbO YP hO hd Qw hk jd;have HMD:=aa hm;go_enter Tryz.func165,Tryz.ntmps165
  go_wp2_with fail
  refine HM.out.mono ?_;rintro e w4 ⟨rfl,p4,n4,f4⟩;rw[←ec,←hw2,←hw3] at f4;have fO:=f4.mono HBO.out;have bx1:=BX1.out.later fO (Ext.refl _ _);have bx2:=BX2.out.later fO (Ext.refl _ _);have bx3:=BX3.out.later fO (Ext.refl _ _);have c14:=bx1.cell 0;have HRW:=aa (xP b n Op On _ (t::ts) T (.func (.func 189) #[] #[.pointer (some ⟨w.heap.size,0,none⟩),.pointer (some ⟨w.heap.size+1+1,0,none⟩)]) pH _ E m HMD.out w4 p4 n4 HD.out (J2 HD.out HBO.out bx1 bx2 bx3) HK.out);have acb:=aa bx2;have F4:=aa (F3.out.trans fO (Ext.refl _ _));have hw4s:w.heap.size+1+1<w4.heap.size:=(aO.1 bx3.1).1;clear p4 n4 f4 fO bx1 bx2 bx3 ec hw2 hw3 q1 q2 q3 HM BX1 BX2 BX3;go_wp2_with fail
  refine HRW.out.mono ?_;rintro e w5 ⟨f5,mm,n5,h5⟩;have fO5:=f5.mono HBO.out;have F5:=aa (F4.out.trans fO5 (Ext.refl _ _));have c25:=(acb.out.later fO5 (Ext.refl _ _)).cell 0;have N5:=aa n5;obtain⟨nv,kv,ha,hi⟩:=n5.ex;obtain⟨nv',kv',hcs,_,hz⟩:=n5.cells;have adY:=n5.at_;have Xp:=n5.own;have hnl5:n<w5.heap.size:=(n5.own n n5.at_).2;obtain⟨A5,k5,rfl,_⟩:=bC hi.names;have c55:w5.cell? ⟨n,5,none⟩=some (.slice A5 sh.names.length k5):=by simp[World.cell?,ha,aP]
  have z55:w5.frozen? ⟨n,5,none⟩=false:=by simp[World.frozen?,ha]
  have hgx:w.heap.size+1≠n:=by omega
  have hg2l:w.heap.size+1<w5.heap.size:=by have:=f5.size;omega
  have adZ:sh.names.length≤100000:=HNL.out;have ad0:=aa (acb.out.later fO5 (Ext.refl _ _));have HOO:Hid (∀k,On k→O k):=aa fun k hk=>(HO.out k).2 (.inr hk)
  have HI:=aa hi;have HST:=aa (fun W4 hf=>Vh (W4:=W4) ha hi adY Xp hf)
  have c25n:(w5.cell? ⟨w.heap.size+1,0,none⟩)=some (.pointer (some ⟨n,0,none⟩)):=c25;clear c25 hcs hz n5 f5 fO5 c14 ha hi Xp;rcases h5 with ⟨v,xs,ts5,rfl,p5,r5,o5,ne5,len5,k5'⟩ | ⟨l,er,rfl,⟨g',rfl,m1,m2⟩,k5'⟩
  ·obtain⟨Av,cv,rfl,_⟩:=bC r5
   have P5:=aa p5;have R5:=aa r5;have O5:=aa o5;have NE:=aa ne5;have K5:=aa k5';have MC:b+1≤w5.heap.size:=by omega
   clear p5 r5 o5 ne5 k5';go_wp2_with fail
   go_region_law ((refine JF _ (by rfl) _ _ (by rfl) b (.slice A5 sh.names.length k5) (.slice Av xs.length cv) sh.names xs (by rfl) HI.out.names HI.out.nz (by rfl) R5.out NE.out (by omega) (by omega) MC ?_;intro g6 c6 w6 r6 f6 o6 l6;have f6':ax (fun k=>(Value.slice A5 sh.names.length k5).ownBlock=some k) w5 w6:=ax.trans (ax.af (O:=fun k=>(Value.slice A5 sh.names.length k5).ownBlock=some k) (by exact⟨rfl,rfl,rfl,ah _,fun _ _=>rfl⟩)) f6 (Ext.refl _ _);obtain⟨fo,c56,z56,hn6,fr6,Bm⟩:=HST.out w6 f6';have c26:=(ad0.out.later (fo.mono HOO.out) (Ext.refl _ _)).cell 0;have FO:=aa fo;have FR6:=aa (fr6 (.slice (some ⟨g6,0,none⟩) (sh.names.length+xs.length) c6));have HU:=aa (Bm g6 _ c6 _ r6 (fun e=>NE.out (KY.1 e).2));have O6:=aa o6;have L6:=aa l6;clear r6 f6 f6' o6 l6 fo fr6 Bm))
   all_goals
    go_wp2
    go_ret
    have JD :∀k,On k→O k:=fun k hk=>(HO.out k).2 (.inr hk)
    have Wo:On g6∨w5.heap.size≤g6:=by
     rcases O6.out with ⟨h1,h2⟩|h1
     ·rcases HI.out.on g6 h1 with h|h
      ·exact .inl h
      ·exact(h2 h).elim
     ·exact .inr h1
    have p6:PS w6 b Op ts5 T:=P5.out.kept FO.out HD.out (fun k hk=>fu (HNW.out k hk).1)
    refine⟨(F5.out.trans (FO.out.mono JD) (Ext.refl _ _)).trans FR6.out (fun k hk=>.inl (hk▸(HO.out n).2 (.inr C0.out))),.inl ⟨_,fun k=>Op k∨(On k∨k=g6),rfl,⟨Op,fun k=>On k∨k=g6,T,ks,fun _=>Iff.rfl,fun k hk h=>?_,?_,HU.out,HL.out,HC.out⟩,fun k hk=>?_,K5.out⟩⟩
    ·rcases h with h|rfl
     ·exact HD.out k hk h
     ·rcases Wo with h|h
      ·exact HD.out _ hk h
      ·have:=(P5.out.own _ hk).2;omega
    ·exact p6.kept (O1:=(· = n)) FR6.out (fun k hk e=>HD.out k hk (e▸C0.out)) fun k e=>by omega
    ·rcases hk with hk|hk|rfl
     ·exact .inl ((HO.out k).2 (.inl hk))
     ·exact .inl (JD k hk)
     ·rcases Wo with h|h
      ·exact .inl (JD _ h)
      ·exact .inr (by have:=F5.out.size;omega)
  ·have M2:=aa m2
   have K5:=aa k5';have Uw:g'≠n:=by have:=F4.out.size;omega
   clear m2 k5';go_wp2_with fail
   go_region_law (refine J3 _ (by rfl) _ _ (by rfl) b (.slice A5 sh.names.length k5) sh.names (by rfl) HI.out.names (by rfl) ?_)
   all_goals
    go_wp2
    go_ret
    exact⟨F5.out.trans (N5.out.fr 5 (.slice A5 sh.names.length k5)).drew (fun k hk=>.inl (hk▸(HO.out n).2 (.inr C0.out))),.inr ⟨l,_,rfl,⟨g',rfl,by have:=F4.out.size;omega,(Below.heap_setCell _ _ _ g' Uw).trans M2.out⟩,K5.out⟩⟩
theorem sg (w:World) (g:Nat) (hg:g=w.heap.size) (b:Nat) (O:Nat→Prop) (hO :∀k,O k→k<w.heap.size) (x:List UInt8) (hx:x≠[]) (X:ByteArray) (hX:X=bx x) :
  Calls Tryz.prog 103 #[.pointer (some ⟨b,0,none⟩),.slice (some ⟨g,0,none⟩) 1 1] (w.alloc (.cells #[.string X] 9)) (kq b O (au [x]) w):=by
 subst hg;exact cB w b O hO x hx X hX
theorem Real.nms {W:World} {b n:Nat} {O:Nat→Prop} {T0:List Nd} {s:St} (h:Real W b n O T0 s):n<W.heap.size∧∃A c,W.cell? ⟨n,5,none⟩=some (.slice A s.h.names.length c):=by
 obtain⟨Op,On,T,ks,hO,hd,hp,hn,hl,hc⟩:=h.ex;obtain⟨nv,kv,hcs,hi,hz⟩:=hn.cells;obtain⟨A,c,rfl,_⟩:=bC hi.names;exact⟨(hn.own n hn.at_).2,A,c,hcs.c5⟩
def xX (li:bW):bW:=fun s K E=>aJ [au [wIn],li,eo] { s with h:={ s.h with kind:=27}} K E
def Vj (ex li:bW):bW:=fun s K E=>(s.h.names.length=1→∃t ts,s.ts=t::ts∧(av [61] t=true→aJ [ex,au [[44]],ex,bw [44] [ex]] { s with h:={ s.h with kind:=26},ts:=ts} K E)∧(av [61] t=false→xX li s K E))∧(s.h.names.length≠1→xX li s K E)
theorem J4 {ex:bW} (hE:eu 105 ex) (b n:Nat) (O:Nat→Prop) (T0:List Nd) (s:St) (K:St→Prop) (E:Int→Prop) (w:World) (hr:Real w b n O T0 s) (hl:s.h.names.length=1) (t:ak) (ts:List ak) (hs:s.ts=t::ts) (hq:av [61] t=true) (hk:aJ [ex,au [[44]],ex,bw [44] [ex]] { s with h:={ s.h with kind:=26},ts:=ts} K E):
  Calls Tryz.prog 108 #[.pointer (some ⟨b,0,none⟩),.pointer (some ⟨n,0,none⟩)] w (bB b n O T0 K E w):=by
 obtain⟨hnw,A5,c5',c5⟩:=hr.nms;rw[hl] at c5;have HT:=aa (lC hr hs [61] ⟨#[61]⟩ rfl (by decide) hq)
 have HK:=aa hk;clear hr hk hs hq hl;go_enter Tryz.func108,Tryz.ntmps108
 go_wp2_with fail
 refine HT.out.mono ?_;rintro e wx ⟨rfl,r2,f2⟩;have FF:=aa f2;have R:=aa r2;clear r2 f2 c5;obtain⟨⟨v0,k0⟩,y0,jd,f4,r4⟩:=R.out.kind 26;have F0:=aa (FF.out.trans f4 (Ext.refl _ _));have P0:=aa r4;have V1:=aa (sg _ wx.heap.size (by simp) b O r4.lt [44] (by decide) ⟨#[44]⟩ rfl)
 clear f4 r4;go_wp2_with fail
 refine V1.out.mono ?_;rintro e w1 ⟨f1,a1,c1,rfl,b1,h1⟩;have F1:=aa (F0.out.trans (ax.af (O:=O) b1) (Ext.refl _ _));have P1:=aa (P0.out.below b1);have H1:=aa h1;clear b1 h1 V1 k0 y0;have rX :∀k,O k→k<w1.heap.size:=P1.out.lt;have V2:=aa (pJ w1 b O rX [ba 105 b] [ex] (by simp) ⟨hE.part (enters_of Tryz.func105 (by kernel_rfl) rfl) w1 b O,trivial⟩ [44] (by decide) ⟨#[44]⟩ rfl)
 clear rX;go_wp2_with fail
 refine V2.out.mono ?_;rintro e w2 ⟨f2,a2,c2,rfl,b2,h2⟩;have F2:=aa (F1.out.trans (ax.af (O:=O) b2) (Ext.refl _ _));have P2:=aa (P1.out.below b2);have L1:=aa (H1.out.later (ax.af (O:=O) b2) (Ext.refl _ _));clear H1;have H1:=L1;clear L1;have H2:=aa h2;clear b2 h2 V2;have HN:=aa (jr w w2 P2.out F2.out (Ext.refl _ _) [ba 105 b,.func (.func f1) a1 c1,ba 105 b,.func (.func f2) a2 c2] [ex,au [[44]],ex,bw [44] [ex]] (by simp) ⟨hE.part (enters_of Tryz.func105 (by kernel_rfl) rfl) w2 b O,H1.out,hE.part (enters_of Tryz.func105 (by kernel_rfl) rfl) w2 b O,H2.out,trivial⟩ HK.out)
 go_wp2_with fail
 refine HN.out.mono ?_;intro e wz hz;obtain⟨v,rfl⟩:=hz.ret;have HZ:=aa hz;clear hz;go_wp2_with fail
 go_ret
 exact HZ.out
theorem Er {li:bW} (hL:eu 98 li) (b n:Nat) (O:Nat→Prop) (T0:List Nd) (s:St) (K:St→Prop) (E:Int→Prop) (w:World) (hr:Real w b n O T0 s) (hl:s.h.names.length=1) (t:ak) (ts:List ak) (hs:s.ts=t::ts) (hq:av [61] t=false) (hk:xX li s K E):
  Calls Tryz.prog 108 #[.pointer (some ⟨b,0,none⟩),.pointer (some ⟨n,0,none⟩)] w (bB b n O T0 K E w):=by
 obtain⟨hnw,A5,c5',c5⟩:=hr.nms;rw[hl] at c5;have HT:=aa (ot hr hs [61] ⟨#[61]⟩ rfl (by decide) hq)
 unfold xX at hk;have HK:=aa hk;clear hr hk hs hq hl;go_enter Tryz.func108,Tryz.ntmps108
 go_wp2_with fail
 refine HT.out.mono ?_;rintro e wx ⟨rfl,r2,f2⟩;have FF:=aa f2;have R:=aa r2;clear r2 f2 c5;obtain⟨⟨v0,k0⟩,y0,jd,f4,r4⟩:=R.out.kind 27;have F0:=aa (FF.out.trans f4 (Ext.refl _ _));have P0:=aa r4;have V1:=aa (sg _ wx.heap.size (by simp) b O r4.lt [105,110] (by decide) ⟨#[105,110]⟩ rfl)
 clear f4 r4;go_wp2_with fail
 refine V1.out.mono ?_;rintro e w1 ⟨f1,a1,c1,rfl,b1,h1⟩;have F1:=aa (F0.out.trans (ax.af (O:=O) b1) (Ext.refl _ _));have P1:=aa (P0.out.below b1);have H1:=aa h1;clear b1 h1 V1 k0 y0;have HN:=aa (jr w w1 P1.out F1.out (Ext.refl _ _) [.func (.func f1) a1 c1,ba 98 b,.func (.func 139) #[] #[]] [au [[105,110]],li,eo] (by simp) ⟨H1.out,hL.part (enters_of Tryz.func98 (by kernel_rfl) rfl) w1 b O,jP w1 b O,trivial⟩ HK.out)
 go_wp2_with fail
 refine HN.out.mono ?_;intro e wz hz;obtain⟨v,rfl⟩:=hz.ret;have HZ:=aa hz;clear hz;go_wp2_with fail
 go_ret
 exact HZ.out
theorem Es {li:bW} (hL:eu 98 li) (b n:Nat) (O:Nat→Prop) (T0:List Nd) (s:St) (K:St→Prop) (E:Int→Prop) (w:World) (hr:Real w b n O T0 s) (hl:s.h.names.length≠1) (hk:xX li s K E):
  Calls Tryz.prog 108 #[.pointer (some ⟨b,0,none⟩),.pointer (some ⟨n,0,none⟩)] w (bB b n O T0 K E w):=by
 obtain⟨hnw,A5,c5',c5⟩:=hr.nms;have q1:((s.h.names.length:Int) == 1)=false:=aC.2 (by omega)
 unfold xX at hk;have HK:=aa hk;have R:=aa hr;have FF:=aa (ax.refl O w);clear hr hk hl;go_enter Tryz.func108,Tryz.ntmps108
 obtain⟨⟨v0,k0⟩,y0,jd,f4,r4⟩:=R.out.kind 27;have F0:=aa (FF.out.trans f4 (Ext.refl _ _));have P0:=aa r4;have V1:=aa (sg _ w.heap.size (by simp) b O r4.lt [105,110] (by decide) ⟨#[105,110]⟩ rfl)
 clear f4 r4;go_wp2_with fail
 refine V1.out.mono ?_;rintro e w1 ⟨f1,a1,c1,rfl,b1,h1⟩;have F1:=aa (F0.out.trans (ax.af (O:=O) b1) (Ext.refl _ _));have P1:=aa (P0.out.below b1);have H1:=aa h1;clear b1 h1 V1 k0 y0;have HN:=aa (jr w w1 P1.out F1.out (Ext.refl _ _) [.func (.func f1) a1 c1,ba 98 b,.func (.func 139) #[] #[]] [au [[105,110]],li,eo] (by simp) ⟨H1.out,hL.part (enters_of Tryz.func98 (by kernel_rfl) rfl) w1 b O,jP w1 b O,trivial⟩ HK.out)
 go_wp2_with fail
 refine HN.out.mono ?_;intro e wz hz;obtain⟨v,rfl⟩:=hz.ret;have HZ:=aa hz;clear hz;go_wp2_with fail
 go_ret
 exact HZ.out
theorem Qx {ex li:bW} (hE:eu 105 ex) (hL:eu 98 li):eu 108 (Vj ex li):=by
 rintro b n O T0 s K E w hr ⟨h1,h2⟩;by_cases hl:s.h.names.length=1
 ·obtain⟨t,ts,hs,hy,hn⟩:=h1 hl
  cases hq:av [61] t with
  | true=>exact J4 hE b n O T0 s K E w hr hl t ts hs hq (hy hq)
  | false=>exact Er hL b n O T0 s K E w hr hl t ts hs hq (hn hq)
 ·exact Es hL b n O T0 s K E w hr hl (h2 hl)
theorem aM.y8 {w:World} {b:Nat} {O:Nat→Prop} (g:Nat) (hg:g=w.heap.size) (hO :∀k,O k→k<w.heap.size) (vs:List Value) (cO:List bW) (hl:vs.length≤100) (h:jQ w b O vs cO):aM (w.alloc (.cells vs.toArray 123)) b O (.slice (some ⟨g,0,none⟩) vs.length vs.length) cO:=by
 subst hg;exact aM.new hO vs cO hl h
def J5 (li bd:bW):bW:=fun s K E=>∃t ts,s.ts=t::ts∧(av bq t=false→aJ [iD,bw [61] [li]] { s with h:={ s.h with kind:=19}} K E) ∧
 (av bq t=true→∃u us,ts=u::us∧(u.1≠1→E u.2.1)∧(u.1=1→dx (dR ⟨11,t.2.1,0,0,⟨#[]⟩,[],[]⟩ [bd]) { s with h:={ s.h with kind:=28,names:=[bx u.2.2.2]},ts:=us} K E))
theorem vA {W:World} {b n:Nat} {O:Nat→Prop} {T0:List Nd} {s:St} (h:Real W b n O T0 s) {t:ak} {ts:List ak} (hs:s.ts=t::ts):Calls Tryz.prog 49 #[.pointer (some ⟨b,0,none⟩)] W fun e w'=>e=.returned (gb t)∧Below W.heap.size W w':=by
 obtain⟨Op,T,hp⟩:=h.ps;rw[hs] at hp;exact cC b Op t ts T W hp
theorem Et {li:bW} (hL:eu 98 li) (b n:Nat) (O:Nat→Prop) (T0:List Nd) (s:St) (K:St→Prop) (E:Int→Prop) (w:World) (hr:Real w b n O T0 s) (t:ak) (ts:List ak) (hs:s.ts=t::ts) (hq:av bq t=false) (hk:aJ [iD,bw [61] [li]] { s with h:={ s.h with kind:=19}} K E) :
  Calls Tryz.prog 110 #[.pointer (some ⟨b,0,none⟩),.pointer (some ⟨n,0,none⟩)] w (bB b n O T0 K E w):=by
 have HA:=aa (vA hr hs);have HT:=aa (fun(W:World) (hW:Real W b n O T0 s)=>ot hW hs bq ⟨#[102,117,110,99,116,105,111,110]⟩ rfl (by decide) hq)
 have HK:=aa hk;have HR:=aa hr;obtain⟨t0,t1,t2,t3⟩:=t;unfold gb at HA;dsimp only at HA
 have F9:=Pe t0 t1 t2 (bx t3);generalize bx t3=S at *;clear hr hk hs hq;go_enter Tryz.func110,Tryz.ntmps110
 go_wp2_with fail
 refine HA.out.mono ?_;rintro e wa ⟨rfl,b1⟩;have B1:=aa b1;have AD:=aa (HT.out wa (HR.out.below b1));clear b1 HT;go_wp2_with fail
 refine AD.out.mono ?_;rintro e wx ⟨rfl,r2,f2⟩;obtain⟨⟨v0,k0⟩,y0,jd,f4,r4⟩:=r2.kind 19;have F0:=aa ((ax.af (O:=O) B1.out).trans (f2.trans f4 (Ext.refl _ _)) (Ext.refl _ _));have P0:=aa r4;have V1:=aa (sS _ wx.heap.size (by simp) b O r4.lt [ba 98 b] [li] (by simp) ⟨hL.part (enters_of Tryz.func98 (by kernel_rfl) rfl) _ b O,trivial⟩ [61] (by decide) ⟨#[61]⟩ rfl)
 clear f2 r2 f4 r4;go_wp2_with fail
 refine V1.out.mono ?_;rintro e w1 ⟨f1,a1,c1,rfl,b1,h1⟩;have F1:=aa (F0.out.trans (ax.af (O:=O) b1) (Ext.refl _ _));have P1:=aa (P0.out.below b1);have HN:=aa (jr w w1 P1.out F1.out (Ext.refl _ _) [ba 107 b,.func (.func f1) a1 c1] [iD,bw [61] [li]] (by simp) ⟨GQ.part (enters_of Tryz.func107 (by kernel_rfl) rfl) w1 b O,h1,trivial⟩ HK.out)
 clear b1 h1 V1 k0 y0;go_wp2_with fail
 refine HN.out.mono ?_;intro e wz hz;obtain⟨v,rfl⟩:=hz.ret;have HZ:=aa hz;clear hz;go_wp2_with fail
 go_ret
 exact HZ.out
theorem Real.Qy {W:World} {b n:Nat} {O:Nat→Prop} {T0:List Nd} {s:St} (h:Real W b n O T0 s) (S:ByteArray):n<W.heap.size∧(∃v,W.cell? ⟨n,5,none⟩=some v)∧W.frozen? ⟨n,5,none⟩=false ∧
  ax O W ((W.setCell ⟨n,5,none⟩ (.slice (some ⟨W.heap.size,0,none⟩) 1 1)).alloc (.cells #[.string S] 9))∧∃O2,Ext O O2 W∧Real ((W.setCell ⟨n,5,none⟩ (.slice (some ⟨W.heap.size,0,none⟩) 1 1)).alloc (.cells #[.string S] 9)) b n O2 T0 { s with h:={ s.h with names:=[S]}}:=by
 have hlt:=h.lt;obtain⟨Op,On,T,ks,hO,hd,hp,hn,hl,hc⟩:=h.ex;obtain⟨nv,kv,hcs,_,hz⟩:=hn.cells;have jd:=(hn.own n hn.at_).2;have Ds:=(hn.own n hn.at_).1;have hpA:=hp.below (aW W (.cells #[.string S] 9));have hnA:=hn.below (aW W (.cells #[.string S] 9));have hb1:b+1≤W.heap.size:=(hp.own b hp.at_).2;have hrow:jR (W.alloc (.cells #[.string S] 9)) b (.slice (some ⟨W.heap.size,0,none⟩) 1 1) [S]:=⟨rfl,.inr ⟨W.heap.size,1,#[.string S],rfl,hb1,World.alloc_heap_new W _,ah _,by unfold maxLen;omega,rfl,rfl⟩⟩
 have Bm:=Cs hnA _ [S] hrow (by simp)
 have mP:=hnA.fr 5 (.slice (some ⟨W.heap.size,0,none⟩) 1 1);have sG:=hpA.kept (O1:=(· = n)) mP (fun k hk e=>hd k hk (e▸hn.at_)) fun k e=>by omega
 rw[World.setCell_alloc_past _ _ _ _ jd] at Bm mP sG;refine⟨jd,⟨_,hcs.c5⟩,hz 5,((ax.refl O W).alloc _).trans mP (fun k e=>.inl ((hO k).2 (.inr (e▸hn.at_)))),fun k=>Op k∨(On k∨(Value.slice (some ⟨W.heap.size,0,none⟩) 1 1).ownBlock=some k),fun k hk=>?_,Op,_,T,ks,fun _=>Iff.rfl,fun k hk e=>?_,sG,Bm,hl,hc⟩
 ·rcases hk with hk|hk|hk
  ·exact .inl ((hO k).2 (.inl hk))
  ·exact .inl ((hO k).2 (.inr hk))
  ·exact .inr (by simp[Value.ownBlock] at hk;omega)
 ·rcases e with e|e
  ·exact hd k hk e
  ·have:=(hp.own k hk).2
   simp[Value.ownBlock] at e;omega
theorem J6 {W:World} {b n:Nat} {O:Nat→Prop} {T0:List Nd} {s:St} (h:Real W b n O T0 s) {t:ak} {ts:List ak} (hs:s.ts=t::ts):Calls Tryz.prog 135 #[.pointer (some ⟨b,0,none⟩)] W fun e w'=>ax O W w' ∧
  ((t.1=1∧e=.returned (.tuple #[.string (bx t.2.2.2),.nilIface])∧Real w' b n O T0 { s with ts:=ts})∨(t.1≠1∧∃er,e=.returned (.tuple #[.string ⟨#[]⟩,er])∧Uj W.heap.size w' er t.2.1)):=by
 obtain⟨Op,On,T,ks,hO,hd,hp,hn,hl,hc⟩:=h.ex;rw[hs] at hp;refine(Ea b Op t ts T W hp).mono ?_;rintro e w' ⟨hf,h1⟩;refine⟨hf.mono fun k hk=>(hO k).2 (.inl (hk▸hp.at_)),h1.imp ?_ id⟩
 rintro⟨a1,a2,a3⟩;exact⟨a1,a2,⟨Op,On,T,ks,hO,hd,a3,hn.kept hf fun k hk e=>hd b hp.at_ (e▸hk),hl,hc⟩⟩
theorem J7 {bd:bW} (En:eu 141 bd) (b n:Nat) (O:Nat→Prop) (T0:List Nd) (s:St) (K:St→Prop) (E:Int→Prop) (w:World) (hr:Real w b n O T0 s) (t u:ak) (us:List ak) (hs:s.ts=t::u::us) (hq:av bq t=true) (pn:u.1≠1→E u.2.1)
  (hk:u.1=1→dx (dR ⟨11,t.2.1,0,0,⟨#[]⟩,[],[]⟩ [bd]) { s with h:={ s.h with kind:=28,names:=[bx u.2.2.2]},ts:=us} K E) :
  Calls Tryz.prog 110 #[.pointer (some ⟨b,0,none⟩),.pointer (some ⟨n,0,none⟩)] w (bB b n O T0 K E w):=by
 have HA:=aa (vA hr hs);have HT:=aa (fun(W:World) (hW:Real W b n O T0 s)=>lC hW hs bq ⟨#[102,117,110,99,116,105,111,110]⟩ rfl (by decide) hq)
 have HK:=aa hk;have HB:=aa pn;have HR:=aa hr;obtain⟨t0,t1,t2,t3⟩:=t;unfold gb at HA;dsimp only at HA HK
 have F9:=Pe t0 t1 t2 (bx t3);generalize bx t3=S at *;clear hr hk hs hq pn;go_enter Tryz.func110,Tryz.ntmps110
 go_wp2_with fail
 refine HA.out.mono ?_;rintro e wa ⟨rfl,b1⟩;have B1:=aa b1;have AD:=aa (HT.out wa (HR.out.below b1));clear b1 HT;go_wp2_with fail
 refine AD.out.mono ?_;rintro e wx ⟨rfl,r2,f2⟩;obtain⟨⟨v0,k0⟩,y0,jd,f4,r4⟩:=r2.kind 28;have F0:=aa ((ax.af (O:=O) B1.out).trans (f2.trans f4 (Ext.refl _ _)) (Ext.refl _ _));have HNm:=aa (J6 r4 rfl);clear f2 r2 f4 r4;go_wp2_with fail
 refine HNm.out.mono ?_;rintro e w1 ⟨f5,h5⟩;have F1:=aa (F0.out.trans f5 (Ext.refl _ _));rcases h5 with ⟨g1,rfl,r5⟩ | ⟨g1,er,rfl,⟨g',rfl,m1,m2⟩⟩
 ·obtain⟨S2,hS2⟩ :∃S2,S2=bx u.2.2.2:=⟨_,rfl⟩
  rw[←hS2];have RH:=HK.out g1;rw[←hS2] at RH;have zB:=aa RH;obtain⟨xc,⟨v5,k5⟩,y5,f6,O2,x2,r6⟩:=r5.Qy S2;have X2:Hid (Ext O O2 w):=aa ((Ext.refl O w).trans x2 F1.out.size);have F6:=aa (F1.out.trans f6 (Ext.refl _ _));have HP:=aM.y8 (w:=(w1.setCell ⟨n,5,none⟩ (.slice (some ⟨w1.heap.size,0,none⟩) 1 1)).alloc (.cells #[.string S2] 9)) (b:=b) (O:=O2) (w1.heap.size+1) (by simp) r6.lt [ba 141 b] [bd] (by simp) ⟨En.part (enters_of Tryz.func141 (by kernel_rfl) rfl) _ b O2,trivial⟩
  have HH:=aa (rY b O2 ⟨11,t1,0,0,⟨#[]⟩,[],[]⟩ (.slice none 0 0) _ [bd] _ (zE.nil _ b) HP (fun k hk=>by have:=r6.lt k hk;simp at this ⊢;omega))
  have R6:=aa r6;clear HP r6 f6 r5 f5 RH hS2 k0 y0 x2;go_wp2_with fail
  refine HH.out.mono ?_;rintro e w7 ⟨v,rfl,b7,h7⟩;obtain⟨f,first,cap,rfl,pE,bs⟩:=h7.1.call R6.out (ay (aW _ _) b7) zB.out
  have dY:=aa bs;clear h7 bs b7;unfold Enters at pE;go_wp2_with fail
  refine dY.out.mono ?_;intro e w8 h8;obtain⟨v,rfl⟩:=h8.ret;have H8:=aa h8;clear h8;go_wp2_with fail
  go_ret
  exact Cq H8.out F6.out X2.out
 ·have M2:=aa m2
  have M1:=aa m1;have KB:=aa (HB.out g1);clear m1 m2 f5 k0 y0;go_wp2_with fail
  go_ret
  exact⟨F1.out,.inr ⟨_,_,rfl,⟨g',rfl,aL F0.out.size M1.out,M2.out⟩,KB.out⟩⟩
theorem Eu {li bd:bW} (hL:eu 98 li) (En:eu 141 bd):eu 110 (J5 li bd):=by
 rintro b n O T0 s K E w hr ⟨t,ts,hs,h1,h2⟩;cases hq:av bq t with
 | true =>
  obtain⟨u,us,rfl,h3,h4⟩:=h2 hq;exact J7 En b n O T0 s K E w hr t u us hs hq h3 h4
 | false=>exact Et hL b n O T0 s K E w hr t ts hs hq (h1 hq)
end Go.Proofs.YtodmcdfeldkocaaGreatDoor
