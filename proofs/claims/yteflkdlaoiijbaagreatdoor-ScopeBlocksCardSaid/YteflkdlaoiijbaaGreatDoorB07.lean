/- Parts of the proof. -/
import Derived.Laws.EntriesVeiled
import Derived.Test.YteflkdlaoiijbaaGreatDoorB06
set_option maxHeartbeats 16000000
set_option maxRecDepth 20000
namespace Go.Proofs.YteflkdlaoiijbaaGreatDoor
open Go.RowKit
def aa4 (op:iV) (li:bV):bV:=fun s K E=>∃t r,s.ts=t::r∧((t.1=4∨ax [123] t=true)→dp op s K E)∧(t.1≠4→ax [123] t=false→aI [av [[40]],dx [41] li,av [[41]]] s K E)
theorem Real.ps {W:World} {b n:Nat} {O:Nat→Prop} {T0:List Nd} {s:St} (h:Real W b n O T0 s) :∃Op T,PS W b Op s.ts T:=by
 obtain⟨Op,On,T,ks,hO,hd,hp,hn,hl,hc⟩:=h.ex;exact⟨Op,T,hp⟩
theorem TI {op:iV} (hT:pF 204 op) (b n:Nat) (O:Nat→Prop) (T0:List Nd) (s:St) (K:St→Prop) (E:Int→Prop) (w:World) (hr:Real w b n O T0 s) (t:ah) (r:List ah) (hs:s.ts=t::r) (hc:t.1=4∨ax [123] t=true) (hk:dp op s K E):Calls Tryz.prog 211 #[.pointer (some ⟨b,0,none⟩),.pointer (some ⟨n,0,none⟩)] w (bA b n O T0 K E w):=by
 have HA:Hid (Calls Tryz.prog 34 #[.pointer (some ⟨b,0,none⟩)] w fun e w'=>e=.returned (fY t)∧Below w.heap.size w w'):=aa (by
  obtain⟨Op,T,hp⟩:=hr.ps;rw[hs] at hp;exact cz b Op t r T w hp)
 have HW:=aa (fun W hW=>jt hr hs W hW)
 have HR:=aa hr;have aa5:=aa (fun W1 hb=>A3 b O 204 _ _ op W1 (hT.one (enters_of Tryz.func204 (by kernel_rfl) rfl) W1 b O) (hr.below (W':=W1) hb).lt)
 have HK:=aa hk;obtain⟨t0,t1,t2,t3⟩:=t;unfold fY at HA;dsimp only at *
 have F0:=AW t0 t1 t2 (bu t3);by_cases h4:t0=4
 ·have q4:(t0 == 4)=true:=wM.2 h4
  clear hr hk hs hc h4 HW;generalize bu t3=S at *;go_enter Tryz.func211,Tryz.ntmps211
  go_wp2_with fail
  refine HA.out.mono ?_;rintro e w1 ⟨rfl,b1⟩;have B1:=aa b1;have HC:=aa (aa5.out w1 b1);clear b1;go_wp2_with fail
  refine HC.out.mono ?_;rintro e w2 ⟨v,rfl,b2,h2⟩;obtain⟨f,first,cap,rfl,pz,bs⟩:=h2.1.call HR.out (aB B1.out b2) HK.out
  have dW:=aa bs;clear h2 bs b2;unfold Enters at pz;go_wp2_with fail
  refine dW.out.mono ?_;intro e w2 h3;obtain⟨v,rfl⟩:=h3.ret;have H3:=aa h3;clear h3;go_wp2_with fail
  go_ret
  exact H3.out
 ·have q4:(t0 == 4)=false:=aE.2 h4
  have hw:ax [123] (t0,t1,t2,t3)=true:=hc.elim (fun h=>(h4 h).elim) id
  have g1:((ag (t0,t1,t2,t3)).toList == [123])=true:=aj (s:=[123]) (by decide) _ hw
  clear hr hk hs hc h4 hw;generalize bu t3=S at *;generalize ag (t0,t1,t2,t3)=Y at *;go_enter Tryz.func211,Tryz.ntmps211
  go_wp2_with fail
  refine HA.out.mono ?_;rintro e w1 ⟨rfl,b1⟩;have B1:=aa b1;have jg:=aa (HW.out w1 b1);clear b1;go_wp2_with fail
  refine jg.out.mono ?_;rintro e w2 ⟨rfl,b2⟩;have B2:=aa (aB B1.out b2);have HC:=aa (aa5.out w2 B2.out);clear b2;go_wp2_with fail
  refine HC.out.mono ?_;rintro e w3 ⟨v,rfl,b3,h2⟩;obtain⟨f,first,cap,rfl,pz,bs⟩:=h2.1.call HR.out (aB B2.out b3) HK.out
  have dW:=aa bs;clear h2 bs b3;unfold Enters at pz;go_wp2_with fail
  refine dW.out.mono ?_;intro e w2 h3;obtain⟨v,rfl⟩:=h3.ret;have H3:=aa h3;clear h3;go_wp2_with fail
  go_ret
  exact H3.out
theorem NH {li:bV} (hL:eA 84 li) (b n:Nat) (O:Nat→Prop) (T0:List Nd) (s:St) (K:St→Prop) (E:Int→Prop) (w:World) (hr:Real w b n O T0 s) (t:ah) (r:List ah) (hs:s.ts=t::r) (h4:t.1≠4) (hw:ax [123] t=false) (hk:aI [av [[40]],dx [41] li,av [[41]]] s K E):Calls Tryz.prog 211 #[.pointer (some ⟨b,0,none⟩),.pointer (some ⟨n,0,none⟩)] w (bA b n O T0 K E w):=by
 have HA:Hid (Calls Tryz.prog 34 #[.pointer (some ⟨b,0,none⟩)] w fun e w'=>e=.returned (fY t)∧Below w.heap.size w w'):=aa (by
  obtain⟨Op,T,hp⟩:=hr.ps;rw[hs] at hp;exact cz b Op t r T w hp)
 have HW:=aa (fun W hW=>jt hr hs W hW)
 have HR:=aa hr;have HK:=aa hk;obtain⟨t0,t1,t2,t3⟩:=t;unfold fY at HA;dsimp only at *
 have F9:=AW t0 t1 t2 (bu t3);have q4:(t0 == 4)=false:=aE.2 h4;have g1:((ag (t0,t1,t2,t3)).toList == [123])=false:=aj (s:=[123]) (by decide) _ hw
 clear hr hk hs h4 hw;generalize bu t3=S at *;generalize ag (t0,t1,t2,t3)=Y at *;go_enter Tryz.func211,Tryz.ntmps211
 go_wp2_with fail
 refine HA.out.mono ?_;rintro e wa ⟨rfl,b1⟩;have B1:=aa b1;have jg:=aa (HW.out wa b1);clear b1;go_wp2_with fail
 refine jg.out.mono ?_;rintro e w0 ⟨rfl,b2⟩;have F0:=aa (az.ae (O:=O) (aB B1.out b2));have P0:=aa (HR.out.below (aB B1.out b2));clear b2 HW jg HA;have o9 :∀k,O k→k<w0.heap.size:=P0.out.lt;have V1:=aa (cr w0 b O o9 [40] (by decide) ⟨#[40]⟩ rfl)
 clear o9;go_wp2_with fail
 refine V1.out.mono ?_;rintro e w1 ⟨f1,a1,c1,rfl,b1,h1⟩;have F1:=aa (F0.out.trans (az.ae (O:=O) b1) (Ext.refl _ _));have P1:=aa (P0.out.below b1);have H1:=aa h1;clear b1 h1 V1;have rF :∀k,O k→k<w1.heap.size:=P1.out.lt;have V2:=aa (rJ w1 b O rF [41] (by decide) ⟨#[41]⟩ rfl 84 _ _ (li) (hL.part (enters_of Tryz.func84 (by kernel_rfl) rfl) w1 b O))
 clear rF;go_wp2_with fail
 refine V2.out.mono ?_;rintro e w2 ⟨f2,a2,c2,rfl,b2,h2⟩;have F2:=aa (F1.out.trans (az.ae (O:=O) b2) (Ext.refl _ _));have P2:=aa (P1.out.below b2);have L1:=aa (H1.out.later (az.ae (O:=O) b2) (Ext.refl _ _));clear H1;have H1:=L1;clear L1;have H2:=aa h2;clear b2 h2 V2;have Kn :∀k,O k→k<w2.heap.size:=P2.out.lt;have V3:=aa (cr w2 b O Kn [41] (by decide) ⟨#[41]⟩ rfl)
 clear Kn;go_wp2_with fail
 refine V3.out.mono ?_;rintro e w3 ⟨f3,a3,c3,rfl,b3,h3⟩;have F3:=aa (F2.out.trans (az.ae (O:=O) b3) (Ext.refl _ _));have P3:=aa (P2.out.below b3);have L1:=aa (H1.out.later (az.ae (O:=O) b3) (Ext.refl _ _));clear H1;have H1:=L1;clear L1;have L2:=aa (H2.out.later (az.ae (O:=O) b3) (Ext.refl _ _));clear H2;have H2:=L2;clear L2;have H3:=aa h3;clear b3 h3 V3;have HN:=aa (jn w w3 P3.out F3.out (Ext.refl _ _) [.func (.func f1) a1 c1,.func (.func f2) a2 c2,.func (.func f3) a3 c3] [av [[40]],dx [41] (li),av [[41]]] (by simp) ⟨H1.out,H2.out,H3.out,trivial⟩ HK.out)
 go_wp2_with fail
 refine HN.out.mono ?_;intro e wz hz;obtain⟨v,rfl⟩:=hz.ret;have HZ:=aa hz;clear hz;go_wp2_with fail
 go_ret
 exact HZ.out
theorem aa6 {op:iV} {li:bV} (hT:pF 204 op) (hL:eA 84 li):eA 211 (aa4 op li):=by
 rintro b n O T0 s K E w hr ⟨t,r,hs,h1,h2⟩;by_cases hc:t.1=4∨ax [123] t=true
 ·exact TI hT b n O T0 s K E w hr t r hs hc (h1 hc)
 ·have h4:t.1≠4:=fun h=>hc (.inl h)
  have hw:ax [123] t=false:=by
   cases h:ax [123] t with
   | true=>exact(hc (.inr h)).elim
   | false=>rfl
  exact NH hL b n O T0 s K E w hr t r hs h4 hw (h2 h4 hw)
def kx (b:Nat) (O:Nat→Prop) (kind:Int) (cI:List bV) (w:World) (e:Ending) (w':World):Prop:=∃A m,e=.returned (.tuple #[.int .i64 kind,.slice A m m])∧Below w.heap.size w w'∧aM w' b O (.slice A m m) cI
theorem aM.nil (W:World) (b:Nat) (O:Nat→Prop):aM W b O (.slice none 0 0) []:=⟨[],.inl ⟨rfl,rfl⟩,trivial⟩
theorem TJ (b:Nat) (O:Nat→Prop) (t:ah) (ts:List ah) (T:List Nd) (w:World) (hp:PS w b O (t::ts) T) (hq:ax [46] t=true):Calls Tryz.prog 183 #[.pointer (some ⟨b,0,none⟩)] w (kx b O 8 [aC,th] w):=by
 have HW:=aa (bL b O t ts T w hp);have g0:((ag t).toList == [46])=true:=aj (s:=[46]) (by decide) t hq
 have P:=aa hp;generalize ag t=Y at *;clear hp hq;go_enter Tryz.func183,Tryz.ntmps183
 go_wp2_with fail
 refine HW.out.mono ?_;rintro e w0 ⟨rfl,b0⟩;have F0:=aa (az.ae (O:=O) b0);have P0:=aa (P.out.below b0);have B0:=aa b0;clear b0;have HO:=aa (fun k hk=>(P0.out.own k hk).2)
 have HN:=aa (aM.new (w:=w0) (b:=b) (O:=O) HO.out [aX 40 b,aX 179 b] [aC,th] (by simp) ⟨aZ w0 b O,Nb.part (enters_of Tryz.func179 (by kernel_rfl) rfl) w0 b O,trivial⟩)
 go_wp2_with fail
 go_ret2
 exact⟨_,_,rfl,aB B0.out (aV w0 _),HN.out⟩
theorem YM {ex:bV} (hE:eA 91 ex) (b:Nat) (O:Nat→Prop) (t:ah) (ts:List ah) (T:List Nd) (w:World) (hp:PS w b O (t::ts) T) (hq:ax [91] t=true):Calls Tryz.prog 183 #[.pointer (some ⟨b,0,none⟩)] w (kx b O 8 [aC,ex,av [[93]]] w):=by
 have HW:=aa (bL b O t ts T w hp);have g0:=aP [46] hq (by decide)
 have g1:((ag t).toList == [91])=true:=aj (s:=[91]) (by decide) t hq
 have P:=aa hp;generalize ag t=Y at *;clear hp hq;go_enter Tryz.func183,Tryz.ntmps183
 go_wp2_with fail
 refine HW.out.mono ?_;rintro e w0 ⟨rfl,b0⟩;have F0:=aa (az.ae (O:=O) b0);have P0:=aa (P.out.below b0);have B0:=aa b0;clear b0;have o9 :∀k,O k→k<w0.heap.size:=fun k hk=>(P0.out.own k hk).2
 have V1:=aa (cr w0 b O o9 [93] (by decide) ⟨#[93]⟩ rfl)
 clear o9;go_wp2_with fail
 refine V1.out.mono ?_;rintro e w1 ⟨f1,a1,c1,rfl,b1,h1⟩;have F1:=aa (F0.out.trans (az.ae (O:=O) b1) (Ext.refl _ _));have B1:=aa (aB B0.out b1);have P1:=aa (P0.out.below b1);have H1:=aa h1;clear b1 h1 V1;have HO:=aa (fun k hk=>(P1.out.own k hk).2)
 have HN:=aa (aM.new (w:=w1) (b:=b) (O:=O) HO.out [aX 40 b,aX 91 b,.func (.func f1) a1 c1] [aC,ex,av [[93]]] (by simp) ⟨aZ w1 b O,hE.part (enters_of Tryz.func91 (by kernel_rfl) rfl) w1 b O,H1.out,trivial⟩)
 go_wp2_with fail
 go_ret2
 exact⟨_,_,rfl,aB B1.out (aV w1 _),HN.out⟩
theorem IQ {ar:bV} (hG:eA 211 ar) (b:Nat) (O:Nat→Prop) (t:ah) (ts:List ah) (T:List Nd) (w:World) (hp:PS w b O (t::ts) T) (hq:ax [58] t=true):Calls Tryz.prog 183 #[.pointer (some ⟨b,0,none⟩)] w (kx b O 10 [aC,cL,ar] w):=by
 have HW:=aa (bL b O t ts T w hp);have g0:=aP [46] hq (by decide)
 have g1:=aP [91] hq (by decide)
 have g2:((ag t).toList == [58])=true:=aj (s:=[58]) (by decide) t hq
 have P:=aa hp;generalize ag t=Y at *;clear hp hq;go_enter Tryz.func183,Tryz.ntmps183
 go_wp2_with fail
 refine HW.out.mono ?_;rintro e w0 ⟨rfl,b0⟩;have F0:=aa (az.ae (O:=O) b0);have P0:=aa (P.out.below b0);have B0:=aa b0;clear b0;have HO:=aa (fun k hk=>(P0.out.own k hk).2)
 have HN:=aa (aM.new (w:=w0) (b:=b) (O:=O) HO.out [aX 40 b,aX 88 b,aX 211 b] [aC,cL,ar] (by simp) ⟨aZ w0 b O,iu w0 b O,hG.part (enters_of Tryz.func211 (by kernel_rfl) rfl) w0 b O,trivial⟩)
 go_wp2_with fail
 go_ret2
 exact⟨_,_,rfl,aB B0.out (aV w0 _),HN.out⟩
theorem IS {ar:bV} (hG:eA 211 ar) (b:Nat) (O:Nat→Prop) (t:ah) (ts:List ah) (T:List Nd) (w:World) (hp:PS w b O (t::ts) T) (hq:ax [40] t=true):Calls Tryz.prog 183 #[.pointer (some ⟨b,0,none⟩)] w (kx b O 9 [ar] w):=by
 have HW:=aa (bL b O t ts T w hp);have g0:=aP [46] hq (by decide)
 have g1:=aP [91] hq (by decide)
 have g2:=aP [58] hq (by decide)
 have g3:((ag t).toList == [40])=true:=aj (s:=[40]) (by decide) t hq
 have P:=aa hp;generalize ag t=Y at *;clear hp hq;go_enter Tryz.func183,Tryz.ntmps183
 go_wp2_with fail
 refine HW.out.mono ?_;rintro e w0 ⟨rfl,b0⟩;have F0:=aa (az.ae (O:=O) b0);have P0:=aa (P.out.below b0);have B0:=aa b0;clear b0;have HO:=aa (fun k hk=>(P0.out.own k hk).2)
 have HN:=aa (aM.new (w:=w0) (b:=b) (O:=O) HO.out [aX 211 b] [ar] (by simp) ⟨hG.part (enters_of Tryz.func211 (by kernel_rfl) rfl) w0 b O,trivial⟩)
 go_wp2_with fail
 go_ret2
 exact⟨_,_,rfl,aB B0.out (aV w0 _),HN.out⟩
theorem IT {ar:bV} (hG:eA 211 ar) (b:Nat) (O:Nat→Prop) (t:ah) (ts:List ah) (T:List Nd) (w:World) (hp:PS w b O (t::ts) T) (hq:ax [123] t=true):Calls Tryz.prog 183 #[.pointer (some ⟨b,0,none⟩)] w (kx b O 9 [ar] w):=by
 have HW:=aa (bL b O t ts T w hp);have g0:=aP [46] hq (by decide)
 have g1:=aP [91] hq (by decide)
 have g2:=aP [58] hq (by decide)
 have g3:=aP [40] hq (by decide)
 have g4:((ag t).toList == [123])=true:=aj (s:=[123]) (by decide) t hq
 have P:=aa hp;generalize ag t=Y at *;clear hp hq;go_enter Tryz.func183,Tryz.ntmps183
 go_wp2_with fail
 refine HW.out.mono ?_;rintro e w0 ⟨rfl,b0⟩;have F0:=aa (az.ae (O:=O) b0);have P0:=aa (P.out.below b0);have B0:=aa b0;clear b0;have HO:=aa (fun k hk=>(P0.out.own k hk).2)
 have HN:=aa (aM.new (w:=w0) (b:=b) (O:=O) HO.out [aX 211 b] [ar] (by simp) ⟨hG.part (enters_of Tryz.func211 (by kernel_rfl) rfl) w0 b O,trivial⟩)
 go_wp2_with fail
 go_ret2
 exact⟨_,_,rfl,aB B0.out (aV w0 _),HN.out⟩
structure NI (t:ah):Prop where
 a:ax [46] t=false
 b:ax [91] t=false
 c:ax [58] t=false
 d:ax [40] t=false
 e:ax [123] t=false
theorem TK {ar:bV} (hG:eA 211 ar) (b:Nat) (O:Nat→Prop) (t:ah) (ts:List ah) (T:List Nd) (w:World) (hp:PS w b O (t::ts) T) (hq:NI t) (h4:t.1=4):Calls Tryz.prog 183 #[.pointer (some ⟨b,0,none⟩)] w (kx b O 9 [ar] w):=by
 have HW:=aa (bL b O t ts T w hp);have g0:((ag t).toList == [46])=false:=aj (s:=[46]) (by decide) t hq.a
 have g1:((ag t).toList == [91])=false:=aj (s:=[91]) (by decide) t hq.b
 have g2:((ag t).toList == [58])=false:=aj (s:=[58]) (by decide) t hq.c
 have g3:((ag t).toList == [40])=false:=aj (s:=[40]) (by decide) t hq.d
 have g4:((ag t).toList == [123])=false:=aj (s:=[123]) (by decide) t hq.e
 have P:=aa hp;have HA:=aa (fun W hW=>cz b O t ts T W hW)
 generalize ag t=Y at *;obtain⟨t0,t1,t2,t3⟩:=t;unfold fY at HA;dsimp only at *
 subst h4;have F9:=AW 4 t1 t2 (bu t3);generalize bu t3=S at *;clear hp hq;go_enter Tryz.func183,Tryz.ntmps183
 go_wp2_with fail
 refine HW.out.mono ?_;rintro e w0 ⟨rfl,b0⟩;have F0:=aa (az.ae (O:=O) b0);have P0:=aa (P.out.below b0);have B0:=aa b0;clear b0;have HA1:=aa (HA.out _ P0.out);go_wp2_with fail
 refine HA1.out.mono ?_;rintro e w1 ⟨rfl,b1⟩;have F1:=aa (F0.out.trans (az.ae (O:=O) b1) (Ext.refl _ _));have P1:=aa (P0.out.below b1);have B1:=aa (aB B0.out b1);clear b1;have HO:=aa (fun k hk=>(P1.out.own k hk).2)
 have HN:=aa (aM.new (w:=w1) (b:=b) (O:=O) HO.out [aX 211 b] [ar] (by simp) ⟨hG.part (enters_of Tryz.func211 (by kernel_rfl) rfl) w1 b O,trivial⟩)
 go_wp2_with fail
 go_ret2
 exact⟨_,_,rfl,aB B1.out (aV w1 _),HN.out⟩
theorem NJ (b:Nat) (O:Nat→Prop) (t:ah) (ts:List ah) (T:List Nd) (w:World) (hp:PS w b O (t::ts) T) (hq:NI t) (h4:t.1≠4):Calls Tryz.prog 183 #[.pointer (some ⟨b,0,none⟩)] w (kx b O 0 [] w):=by
 have HW:=aa (bL b O t ts T w hp);have g0:((ag t).toList == [46])=false:=aj (s:=[46]) (by decide) t hq.a
 have g1:((ag t).toList == [91])=false:=aj (s:=[91]) (by decide) t hq.b
 have g2:((ag t).toList == [58])=false:=aj (s:=[58]) (by decide) t hq.c
 have g3:((ag t).toList == [40])=false:=aj (s:=[40]) (by decide) t hq.d
 have g4:((ag t).toList == [123])=false:=aj (s:=[123]) (by decide) t hq.e
 have P:=aa hp;have HA:=aa (fun W hW=>cz b O t ts T W hW)
 have h4:=h4;generalize ag t=Y at *;obtain⟨t0,t1,t2,t3⟩:=t;unfold fY at HA;dsimp only at *
 have F9:=AW t0 t1 t2 (bu t3);have q4:(t0 == 4)=false:=aE.2 h4;generalize bu t3=S at *;clear hp hq h4;go_enter Tryz.func183,Tryz.ntmps183
 go_wp2_with fail
 refine HW.out.mono ?_;rintro e w0 ⟨rfl,b0⟩;have F0:=aa (az.ae (O:=O) b0);have P0:=aa (P.out.below b0);have B0:=aa b0;clear b0;have HA1:=aa (HA.out _ P0.out);go_wp2_with fail
 refine HA1.out.mono ?_;rintro e w1 ⟨rfl,b1⟩;have F1:=aa (F0.out.trans (az.ae (O:=O) b1) (Ext.refl _ _));have P1:=aa (P0.out.below b1);have B1:=aa (aB B0.out b1);clear b1;go_wp2_with fail
 go_ret2
 exact⟨_,_,rfl,B1.out,aM.nil _ _ _⟩
theorem Bb {b:Nat} {O:Nat→Prop} {t:ah} {ts:List ah} {T0 T:List Nd} {K:Ast→List ah→Prop} {E:Int→Prop} (w2:World) (g p:Nat) (a:Ast) (hp:PS w2 b O (t::ts) T) (hg:w2.heap[g]? = some (.cells #[.int .i64 (p:Int)] 3 (0,0))) (hgO:¬ O g) (hgb:b+1≤g) (Wi:dV T0 T [a] [(p:Int)])
  (x:Nd) (hx:x=⟨x.kind,0,x.op,x.num,x.s,[],[]⟩) (pv:Value) (cI:List bV) (Fz:aM w2 b (fun k=>O k∨k=g) pv cI)
  (hk:aI cI ⟨{ x with line:=t.2.1},[a],t::ts,T0.length+a.size⟩ (bT K) E) :
  Calls Tryz.prog 19 #[.pointer (some ⟨b,0,none⟩),cP x (.slice none 0 0) (.slice (some ⟨g,0,none⟩) 1 1),pv] w2 (aF b (fun k=>O k∨k=g) T0 (RK K E) w2):=by
 have h1:x.line=0:=by rw[hx]
 have h2:x.names=[]:=by rw[hx]
 have rr:g<w2.heap.size:=(aJ.1 hg).1;have hz:T.length=T0.length+a.size:=by rw[Wi.len,Ast.al,Ast.al];omega
 rw[←hz] at hk;have hrow:w2.ownsRow (b+1) 3 1 (.slice (some ⟨g,0,none⟩) 1 1) 1 [.int .i64 (p:Int)]:=⟨rfl,.inr ⟨g,1,#[.int .i64 (p:Int)],rfl,hgb,hg,ai _,by unfold maxLen;omega,rfl,rfl⟩⟩
 have dN:jI w2 b (· = g) { x with kids:=[(p:Int)]} (.slice none 0 0) (.slice (some ⟨g,0,none⟩) 1 1):=by
  refine⟨?_,hrow,fun g hg=>by simp[Value.ownBlock] at hg,fun g hg=>by simp[Value.ownBlock] at hg,fun k hk=>by simpa[Value.ownBlock] using hk.symm⟩
  rw[show({ x with kids:=[(p:Int)]}:Nd).names=[] from h2]
  exact World.ownsRow_nil _ _ _ _
 exact yQ b O (· = g) t ts T0 T x t.2.1 [a] [(p:Int)] (.slice none 0 0) (.slice (some ⟨g,0,none⟩) 1 1) pv cI (RK K E) w2 hp dN (fun k hk e=>hgO (e▸hk)) (fun k hk=>⟨by omega,by omega⟩) Wi Fz (.inl ⟨h1,rfl⟩) hk
def jo (t:ah):Int:=if ax [46] t=true then 8 else if ax [91] t=true then 8 else if ax [58] t=true then 10 else if ax [40] t=true then 9 else if ax [123] t=true then 9 else if t.1=4 then 9 else 0
def FK (ex ar:bV) (t:ah):List bV:=if ax [46] t=true then [aC,th] else if ax [91] t=true then [aC,ex,av [[93]]] else if ax [58] t=true then [aC,cL,ar] else if ax [40] t=true then [ar] else if ax [123] t=true then [ar] else if t.1=4 then [ar] else []
theorem NK {ex ar:bV} (hE:eA 91 ex) (hG:eA 211 ar) (b:Nat) (O:Nat→Prop) (t:ah) (ts:List ah) (T:List Nd) (w:World) (hp:PS w b O (t::ts) T):Calls Tryz.prog 183 #[.pointer (some ⟨b,0,none⟩)] w (kx b O (jo t) (FK ex ar t) w):=by
 unfold jo FK;by_cases h1:ax [46] t=true
 ·rw[ak h1,ak h1];exact TJ b O t ts T w hp h1
 rw[af h1,af h1];by_cases h2:ax [91] t=true
 ·rw[ak h2,ak h2];exact YM hE b O t ts T w hp h2
 rw[af h2,af h2];by_cases h3:ax [58] t=true
 ·rw[ak h3,ak h3];exact IQ hG b O t ts T w hp h3
 rw[af h3,af h3];by_cases h4:ax [40] t=true
 ·rw[ak h4,ak h4];exact IS hG b O t ts T w hp h4
 rw[af h4,af h4];by_cases h5:ax [123] t=true
 ·rw[ak h5,ak h5];exact IT hG b O t ts T w hp h5
 rw[af h5,af h5];have hn:NI t:=⟨by simpa using h1,by simpa using h2,by simpa using h3,by simpa using h4,by simpa using h5⟩
 by_cases h6:t.1=4
 ·rw[ak h6,ak h6];exact TK hG b O t ts T w hp hn h6
 ·rw[af h6,af h6];exact NJ b O t ts T w hp hn h6
def uU (ex ar:bV):Nat→Ast→List ah→Nat→(Ast→List ah→Prop)→(Int→Prop)→Prop
 | 0,_,_,_,_,_=>False
 | k+1,a,ts,n,K,E=>∃t r,ts=t::r∧(jo t=0→K a ts)∧(jo t≠0→aI (FK ex ar t) ⟨dr (jo t) t.2.1,[a],ts,n+a.size⟩ (bT fun a' au=>uU ex ar k a' au n K E) E)
def aa7 (ex ar:bV):iV:=fun ts n K E=>∃t r,ts=t::r∧Nc ex t r n (fun a eB=>∃m,uU ex ar m a eB n K E) E
theorem DJ {ex ar:bV} (hE:eA 91 ex) (hG:eA 211 ar):pF 153 (aa7 ex ar):=by
 rintro b O ts T0 K E w hp ⟨t,r,rfl,hk⟩;have HA:=aa (Ts hE b O t r T0 _ E w hp hk);have HSF:=aa (fun(O:Nat→Prop) (t:ah) (ts:List ah) (T:List Nd) (W:World) hW=>NK hE hG b O t ts T W hW)
 clear hp hk hE hG;go_enter Tryz.func153,Tryz.ntmps153
 go_wp2_with fail
 refine HA.out.mono ?_;intro e w1 h1;have F1:=aa h1.1;rcases h1.2 with ⟨p,a,eB,O1,T1,rfl,p1,x1,l1,k1⟩ | ⟨le,v,er,rfl,⟨g',rfl,m2,m3⟩,k1⟩
 ·obtain⟨m,k1⟩:=k1
  have P1:=aa p1;have X1:=aa x1;have L1:=aa l1;have K1:=aa k1;clear h1 p1 x1 l1 k1;go_wp2_with fail
  go_loopg [4,5] (m+1) (fun z lv ev wr=>(∃(p:Nat) (a:Ast) (tr:List ah) (Or:Nat→Prop) (Tr:List Nd) (k:Nat),lv=.int .i64 (p:Int)∧ev=.nilIface∧z=k+1∧PS wr b Or tr Tr∧az O w wr∧Ext O Or w∧dV T0 Tr [a] [(p:Int)]∧uU ex ar k a tr T0.length K E) ∨
   (∃(le:Int) (g':Nat),ev=.iface 75 (.pointer (some ⟨g',0,none⟩))∧w.heap.size≤g'∧wr.heap[g']? = some (.cells #[.int .i64 6,.int .i64 le] 81 (0,0))∧az O w wr∧E le))
  case atStart=>exact .inl ⟨p,a,eB,O1,T1,m,rfl,rfl,rfl,P1.out,F1.out,X1.out,L1.out,K1.out⟩
  case round =>
   rcases hrel with ⟨p,a,tr,Or,Tr,k,rfl,rfl,rfl,pr,fr,xr,lr,kr⟩ | ⟨le,g',rfl,hg,m3,fr,ke⟩
   ·cases k with
    | zero=>exact kr.elim
    | succ k =>
     obtain⟨t,r,rfl,hle,Kq⟩:=kr;have PR:=aa pr;have FR:=aa fr;have XR:=aa xr;have LR:=aa lr;have HSX:=aa (HSF.out Or t r Tr wr pr);have HLE:=aa hle;have HGT:=aa Kq;clear pr fr xr lr hle Kq F1 P1 X1 L1 K1 HA;generalize qf:jo t=kd at *;clear qf;go_wp2_with fail
     refine HSX.out.mono ?_;rintro e w2 ⟨Av,mv,rfl,b2,hpv⟩;have B2:=aa b2;have HPV:=aa hpv;clear b2 hpv;by_cases hc:kd=0
     ·subst hc
      go_wp2_with fail
      go_ret2
      exact⟨FR.out.trans (az.ae (O:=Or) B2.out) XR.out,.inl ⟨p,a,t::r,Or,Tr,rfl,PR.out.below B2.out,XR.out,LR.out,HLE.out (by trivial)⟩⟩
     ·have g1:(kd == 0)=false:=aE.2 hc
      have HC:=aa hc;clear hc;have p2:=PR.out.below B2.out;have P2:=aa p2;have hown2 :∀k,Or k→k<w2.heap.size:=fun k hk=>(p2.own k hk).2
      have hb2:b<w2.heap.size:=(p2.own b p2.at_).2;have HN:=aa (Bb (w2.alloc (.cells #[.int .i64 (p:Int)] 3)) w2.heap.size p a (p2.below (aV w2 _)) (World.alloc_heap_new w2 _) (fun h=>by have:=hown2 _ h;omega) (by omega) LR.out ⟨kd,0,0,0,⟨#[]⟩,[],[]⟩ rfl (.slice Av mv mv) _ (HPV.out.later ((az.refl _ _).alloc _) (fun k hk=>hk.imp id fun h=>by omega)) (HGT.out HC.out))
      have F4:=aa ((FR.out.trans (az.ae (O:=Or) B2.out) XR.out).trans (az.ae (O:=Or) (aV w2 (.cells #[.int .i64 (p:Int)] 3))) XR.out);have X4:Hid (Ext O (fun k=>Or k∨k=w2.heap.size) w):=aa fun k hk=>by
       rcases hk with hk|rfl
       ·exact XR.out k hk
       ·exact .inr (aK FR.out.size B2.out.size)
      clear p2 hown2;go_wp2_with fail
      refine HN.out.mono ?_;intro e w5 h5;have F5:=aa (F4.out.trans h5.1 X4.out);rcases h5.2 with ⟨p5,a5,YL,O5,T5,rfl,q5,x5,l5,k5⟩ | ⟨le,v,er,rfl,⟨g',rfl,m2,m3⟩,k5⟩
      ·have Q5:=aa q5
       have X5:=aa (X4.out.trans x5 F4.out.size);have L5:=aa l5;have K5:=aa k5;clear h5 q5 x5 l5 k5;go_wp2_with fail
       go_roundg (k+1)
       case measure=>omega
       case rel=>exact .inl ⟨p5,a5,YL,O5,T5,k,rfl,rfl,rfl,Q5.out,F5.out,X5.out,L5.out,K5.out⟩
      ·have M3:=aa m3
       have M2:=aa (aK F4.out.size m2);have K5:=aa k5;clear h5 m2 m3 k5;go_wp2_with fail
       go_roundg (k+1)
       case measure=>omega
       case rel=>exact .inr ⟨le,g',rfl,M2.out,M3.out,F5.out,K5.out⟩
   ·have M3:=aa m3
    have HG:=aa hg;have FR:=aa fr;have KE:=aa ke;clear m3 hg fr ke;go_wp2_with fail
    go_ret2
    exact⟨FR.out,.inr ⟨le,_,_,rfl,⟨g',rfl,HG.out,M3.out⟩,KE.out⟩⟩
 ·have M3:=aa m3
  have M2:=aa m2;have K1:=aa k1;clear h1 m2 m3 k1;go_wp2_with fail
  go_loopg [4,5] 1 (fun _ lv ev wr=>lv=v∧ev=.iface 75 (.pointer (some ⟨g',0,none⟩))∧wr=w1)
  case atStart=>exact⟨rfl,rfl,rfl⟩
  case round =>
   obtain⟨rfl,rfl,rfl⟩:=hrel;go_wp2_with fail
   go_ret2
   exact⟨F1.out,.inr ⟨le,_,_,rfl,⟨g',rfl,M2.out,M3.out⟩,K1.out⟩⟩
end Go.Proofs.YteflkdlaoiijbaaGreatDoor
namespace Go.Proofs.YteflkdlaoiijbaaGreatDoor
theorem NL {t:ah} {o:Int×Nat×Nat} (h:jD t=some o) {s:Nat} (hs:¬ s≤o.2.1) (x:Ast) (ts:List ah):PL (bg (.lvm s x)) (t::ts) (.ok (x,t::ts)):=by
 refine .look ?_;rw[h];show PL (if s≤o.2.1 then _ else _) _ _
 rw[af hs];exact .ret
variable {t1 t2:ah} {o1 o2:Int×Nat×Nat}
end Go.Proofs.YteflkdlaoiijbaaGreatDoor
namespace Go.Proofs.YteflkdlaoiijbaaGreatDoor
open Go.RowKit
abbrev IU:GL Ast:=bg .una
abbrev TL:GL Ast:=bg .GZ
def yY (N:Nat):bV:=lY (sN N TL) iZ
section
variable {K:Ast→List ah→Prop} {E:Int→Prop} {K':St→Prop} {N k n:Nat} {h:Nd} {xs:List Ast} {t:ah} {ts:List ah}
theorem TM (K2:List Ast→List ah→Prop) (B:Nat) (C:List Ast→List ah→Prop) (hC :∀xs au,Ast.al xs+2*au.length≤B→Wf au→au.length<N→(∃u us,au=u::us∧(ax [125] u=true→K2 xs us)∧(ax [125] u=false→E u.2.1))→C xs au) :
  ∀(m:Nat) (ts:List ah) (n:Nat) (acc:List Ast) (t:ah) (r:List ah),ts=t::r→ax [125] t=false→ts.length<m→ts.length<N→n+2*ts.length≤60000→Ast.al acc+2*ts.length≤B→Wf ts→Gw (bg (.Kf acc):GL (List Ast)) ts K2 E→sM (sN N TL) iZ m ts n acc C E:=by
 intro m;induction m with
 | zero=>intro ts n acc t r _ _ h;omega
 | succ m ih =>
  rintro ts n acc t r rfl hb h1 h2 h3 hB hf H;have G:=(Gw.look H).neg (by simp[hb])
  refine⟨h2,h3,hf.zF,(Gw.call G).mono fun(e:Ast) au p hq=>?_⟩
  have hz:e.size+2*au.length≤2*(t::r).length:=hq.1;have hf':=p.wf hf;have he:=size_pos e;obtain⟨u,us,rfl⟩:=hf'.fin.cons;have hg:=hq.2.look;have hsz:Ast.al (acc++[e])+2*(u::us).length≤B:=by rw[fk,tF];omega
  simp only[List.length_cons] at h1 h2 h3 hz hsz;rcases eL (ax [44] u || ax [59] u) with hc|hc
  ·have hnz:u.1≠0:=fun e0=>by simp[ax,e0] at hc
   have hf2:=hf'.tail hnz;obtain⟨v,vs,rfl⟩:=hf2.fin.cons;have e1:iZ (u::v::vs)=(!ax [125] v,v::vs):=pH hc;show(_→_)∧(_→_)
   rw[e1];have G2:=(Gw.call (hg.pos hc).tok).mono (K':=K2) fun l eP _ hl=>hl.2.ret
   simp only[List.length_cons] at hz hsz;refine⟨fun hv=>ih (v::vs) (n+e.size) (acc++[e]) v vs rfl (by simpa using hv) (by simp only[List.length_cons];omega) (by simp only[List.length_cons];omega) (by simp only[List.length_cons];omega) (by simp only[List.length_cons];omega) hf2 G2,fun hv=>?_⟩
   have hv':ax [125] v=true:=by simpa using hv
   exact hC _ _ (by simp only[List.length_cons];omega) hf2 (by simp only[List.length_cons];omega) ⟨v,vs,rfl,fun _=>((Gw.look G2).pos hv').tok.ret,fun hx=>by rw[hv'] at hx;exact(ef hx.symm).elim⟩
  ·have e1:iZ (u::us)=(false,u::us):=xy hc
   show(_→_)∧(_→_)
   rw[e1];have G2:=hg.neg (by simp[hc])
   exact⟨fun hb=>(ef hb).elim,fun _=>hC _ _ (by simp only[List.length_cons];omega) hf' (by simp only[List.length_cons];omega) ⟨u,us,rfl,fun hw=>(G2.want.1 hw).ret,G2.want.2⟩⟩
theorem NM {at_:Int} (hI:Rm N k ⟨dr 15 at_,[],ts,n⟩) (H:Gw (.call (.Kf []) fun(l:List Ast)=>.ret (nd 15 at_ l):GL Ast) ts K E):aI [dx [125] (yY N),av [[125]]] ⟨dr 15 at_,[],ts,n⟩ (bT K) E:=by
 obtain⟨t,r,jk⟩:=hI.cons;dsimp only at jk
 subst jk;have hn:=hI.n;have hx:=hI.xs;have hl:=hI.len;dsimp only at hn hx hl
 have G:=(Gw.call H).mono (K':=fun(l:List Ast) au=>K (nd 15 at_ l) au) fun l au _ hq=>hq.2.ret
 refine⟨t,r,rfl,fun hw=>?_,fun hw=>?_⟩
 ·have G2:=((Gw.look G).pos hw).tok.ret
  refine⟨t,r,rfl,fun _=>cg (hI.tok (h':=dr 15 at_) (aU hw)) G2,fun hw2=>?_⟩
  rw[hw] at hw2;exact(ef hw2.symm).elim
 ·refine⟨by simp,(t::r).length+1,by omega,?_⟩
  refine TM _ (2*(t::r).length) _ (fun xs au h1 h2 h3 h4=>?_) ((t::r).length+1) (t::r) n [] t r rfl hw (du _) hl (by omega) (by rw[cj];omega) hI.wf G
  obtain⟨u,us,rfl,h5,h6⟩:=h4;refine⟨u,us,rfl,fun hu=>?_,h6⟩
  exact⟨by show n+Ast.al xs≤_;omega,h5 hu⟩
end
def Wo (ts:List ah) (v:Ast) (au:List ah):Prop:=v.hd.kind=7→∃t,ts=t::au∧t.1=1
def FM:(n:NT)→List ah→VT n→List ah→Prop
 | .aR x,ts,v,au=>(Ast.hd v).kind=7→v=x∧au=ts
 | .lvm _ x,ts,v,au=>(Ast.hd v).kind=7→v=x∧au=ts
 | .wQ,ts,v,au=>Wo ts v au
 | .CN,ts,v,au=>Wo ts v au
 | .una,ts,v,au=>Wo ts v au
 | .exp _,ts,v,au=>Wo ts v au
 | .Ac _ _,_,v,_=>(Ast.hd v).kind=11
 | _,_,_,_=>True
section
variable {α:Type} {Q:α→List ah→Prop}
abbrev Np (g:GL α) (ts:List ah) (Q:α→List ah→Prop):Prop:=Wp FM g ts Q
theorem nS {f:ah→GL α} {ts:List ah} (h :∀t au,ts=t::au→Np (f t) (t::au) Q):Np (.look f) ts Q:=fun t au e=>by
 subst e;exact h t au rfl
theorem ia {f:ah→GL α} {t:ah} {ts:List ah} (h:Np (f t) ts Q):Np (.tok f) (t::ts) Q:=fun u us e=>by
 injection e with e1 e2;subst e1 e2;exact h
theorem ep {n:NT} {k:VT n→GL α} {ts:List ah} (h :∀v au,FM n ts v au→Np (k v) au Q):Np (.call n k) ts Q:=h
theorem ic {c:Prop} [Decidable c] {g g':GL α} {ts:List ah} (h1:c→Np g ts Q) (h2:¬ c→Np g' ts Q):Np (if c then g else g') ts Q:=by
 by_cases h:c
 ·rw[ak h];exact h1 h
 ·rw[af h];exact h2 h
theorem rM {s:List UInt8} {k:ah→GL α} {ts:List ah} (h :∀t au,Np (k t) au Q):Np (want s k) ts Q:=nS fun t au _=>ic (fun _=>ia (h t au)) fun _=>trivial
theorem NN {k:ah→GL α} {ts:List ah} (h :∀t au,Np (k t) au Q):Np (name k) ts Q:=nS fun t au _=>ic (fun _=>ia (h t au)) fun _=>trivial
end
theorem NO {k:Int} {P:Prop} {l:Int} {o nn:Int} {s:ByteArray} {ns:List ByteArray} {ks:List Int} {as_:List Ast} (hk:k≠7):(Ast.hd (.mk ⟨k,l,o,nn,s,ns,ks⟩ as_)).kind=7→P:=fun h=>absurd h hk
theorem aa8 (n:NT) (ts:List ah):Np (bg n) ts (FM n ts):=by
 cases n with
 | aR x =>
  refine nS fun t au e=>?_
  subst e;have key :∀(y:Ast) (eP:List ah),(∀P:Prop,y.hd.kind=7→P)→Np (.call (.aR y) fun(v:Ast)=>.ret v:GL Ast) eP (FM (.aR x) (t::au)):=fun y eP hy=>ep fun(v:Ast) AV (h:v.hd.kind=7→v=y∧AV=eP)=>fun(hv:v.hd.kind=7)=>by
   have:=(h hv).1;subst this;exact hy _ hv
  refine ic (fun _=>ia (NN fun u us=>key _ _ fun P=>NO (by decide))) fun _=>ic (fun _=>ia (ep fun(e:Ast) us _=>rM fun _ Re=>key _ _ fun P=>NO (by decide))) fun _ =>
   ic (fun _=>ia (NN fun u us=>ep fun(l:List Ast) Re _=>key _ _ fun P=>NO (by decide))) fun _=>ic (fun _=>ep fun(l:List Ast) Re _=>key _ _ fun P=>NO (by decide)) fun _=>?_
  exact fun _=>⟨rfl,rfl⟩
 | lvm s x =>
  refine nS fun t au e=>?_
  subst e;cases ho:jD t with
  | none=>exact fun _=>⟨rfl,rfl⟩
  | some o =>
   refine ic (fun _=>ia (ep fun(y:Ast) us _=>ep fun(v:Ast) Re (h:v.hd.kind=7→v=QY 12 t.2.1 o.1 [x,y]∧Re=us)=>fun(hv:v.hd.kind=7)=>?_)) fun _=>fun _=>⟨rfl,rfl⟩
   have:=(h hv).1;subst this;exact absurd hv (by show(12:Int)≠7;decide)
 | wQ =>
  refine nS fun t au e=>?_
  subst e;refine ic (fun ht=>ia (ep fun(v:Ast) us (h:v.hd.kind=7→v=kf 7 t.2.1 (bu t.2.2.2) []∧us=au)=>fun(hv:v.hd.kind=7)=>⟨t,by rw[(h hv).2],ht⟩)) fun _ =>
   ic (fun _=>ia (ep fun(e:Ast) us _=>rM fun _ Re=>ep fun(v:Ast) us3 (h:v.hd.kind=7→v=nd 14 t.2.1 [e]∧us3=Re)=>fun(hv:v.hd.kind=7)=>?_)) fun _=>trivial
  have:=(h hv).1;subst this;exact absurd hv (by show(14:Int)≠7;decide)
 | exp s =>
  refine ep fun(x:Ast) us (h1:Wo ts x us)=>ep fun(y:Ast) Re (h2:y.hd.kind=7→y=x∧Re=us)=>fun(hv:y.hd.kind=7)=>?_
  obtain⟨rfl,rfl⟩:=h2 hv;exact h1 hv
 | una =>
  refine nS fun t au e=>?_
  subst e;cases ho:jZ t with
  | none=>exact ep fun(v:Ast) us (h:Wo (t::au) v us)=>h
  | some o=>exact ia (ep fun(v:Ast) us _=>fun hv=>absurd hv (by show(13:Int)≠7;decide))
 | CN =>
  refine nS fun t au e=>?_
  subst e;refine ic (fun _=>ia ?_) fun _=>ic (fun _=>ia ?_) fun _=>ic (fun _=>ia ?_) fun _=>ic (fun _=>ia ?_) fun _=>ic (fun _=>ia (ep fun(f:Ast) us (h:f.hd.kind=11)=>?_)) fun _=>ic (fun _=>ia (ep fun(l:List Ast) us _=>?_)) fun _=>ic (fun _=>ia ?_) fun _=>ic (fun _=>ia ?_) fun _=>ep fun(v:Ast) us (h:Wo (t::au) v us)=>h
  ·exact NO (by decide)
  ·exact NO (by decide)
  ·exact NO (by decide)
  ·exact NO (by decide)
  ·exact fun(hv:f.hd.kind=7)=>absurd (h.symm.trans hv) (by decide)
  ·exact NO (by decide)
  ·exact NO (by decide)
  ·exact NO (by decide)
 | Ac at_ self =>
  refine rM fun _ us=>nS fun t au e=>?_
  subst e;exact ic (fun _=>ia (ep fun(b:Ast) Re _=>rM fun _ _=>rfl)) fun _=>ep fun(p:List ByteArray×Int) Re _=>rM fun _ _=>ep fun(b:Ast) _ _=>rM fun _ _=>rfl
 | _=>exact Wp.always _ _ _ fun _ _=>trivial
end Go.Proofs.YteflkdlaoiijbaaGreatDoor
namespace Go.Proofs.YteflkdlaoiijbaaGreatDoor
open Go.RowKit
section
variable {K:Ast→List ah→Prop} {E:Int→Prop} {K':St→Prop} {N k n:Nat} {h:Nd} {xs:List Ast} {t:ah} {ts:List ah}
theorem ll {t:ah} (hI:Rm N k ⟨h,xs,t::ts,n⟩) (ht:t.1≠0) (hk:Rm N (k+2) ⟨h,xs,ts,n⟩→K' ⟨h,xs,ts,n⟩):aC ⟨h,xs,t::ts,n⟩ K' E:=⟨t,ts,rfl,ht,hk (hI.tok ht)⟩
theorem Rm.hd {h':Nd} (hI:Rm N k ⟨h,xs,ts,n⟩):Rm N k ⟨h',xs,ts,n⟩:=⟨hI.len,hI.n,hI.xs,hI.wf⟩
theorem TN {t:ah} (h:t.1=1) (s:List UInt8):ax s t=false:=by simp[ax,h]
theorem uV {t:ah} (h:t.1≠2) (h5:t.1≠5):jZ t=none:=by simp[jZ,ax,h,h5]
theorem NP {t u:ah} {us:List ah} (ht:t.1=1) (hu:ax [61] u=true):PL (rI 1) (t::u::us) (.ok (kf 7 t.2.1 (bu t.2.2.2) [],u::us)):=by
 have hq :∀s:List UInt8,s≠[61]→¬ ax s u=true:=fun s hs=>aT hu hs
 have hk:u.1=2∨u.1=5:=by rcases aN hu with ⟨l,m,rfl⟩ | ⟨l,m,rfl⟩<;>simp
 have ac9:PL (bg (.aR (kf 7 t.2.1 (bu t.2.2.2) []))) (u::us) (.ok (kf 7 t.2.1 (bu t.2.2.2) [],u::us)):=by
  refine .look ?_;have e1:¬ ((ax [40] u || ax [123] u || decide (u.1=4))=true):=by
   have h1:=hq [40] (by decide)
   have h2:=hq [123] (by decide)
   have h4:¬ u.1=4:=by omega
   simp[h1,h2,h4]
  rw[af (hq [46] (by decide)),af (hq [91] (by decide)),af (hq [58] (by decide)),af e1]
  exact .ret
 have ada:jD u=none:=by
  have :∀s:List UInt8,s≠[61]→ax s u=false:=fun s hs=>bh hu hs
  unfold jD;rw[this _ (by decide),this _ (by decide),this _ (by decide),this _ (by decide),this _ (by decide),this _ (by decide),this _ (by decide),this _ (by decide),this _ (by decide),this _ (by decide),this _ (by decide),this _ (by decide),this _ (by decide),this _ (by decide),this _ (by decide),this _ (by decide),this _ (by decide),this _ (by decide),this _ (by decide)]
  rfl
 have adb:PL (bg (.lvm 1 (kf 7 t.2.1 (bu t.2.2.2) []))) (u::us) (.ok (kf 7 t.2.1 (bu t.2.2.2) [],u::us)):=by
  refine .look ?_;rw[ada];exact .ret
 refine .call (n:=NT.una) (.look ?_) (.call adb .ret);rw[uV (by omega) (by omega)]
 refine .call (n:=NT.CN) (.look ?_) .ret;have hn :∀s:List UInt8,¬ ax s t=true:=fun s=>by rw[TN ht];decide
 rw[af (hn _),af (hn _),af (hn _),af (hn _),af (hn _),af (hn _),af (by omega),af (by omega)]
 refine .call (n:=NT.wQ) (.look ?_) .ret;rw[ak ht];exact .tok (.call ac9 .ret)
theorem TO (hI:Rm N k ⟨h,[],t::ts,n⟩) (H:Gw TL (t::ts) K E):Wh (oK N) t ts n K E:=by
 have G:=Gw.look H;have hn:=hI.n;have hx:=hI.xs;have hlen:=hI.len;dsimp only at hn hx hlen
 refine⟨fun hw=>?_,fun hw=>⟨fun hf=>?_,fun hf=>?_⟩⟩
 ·exact ll (hI.hd (h':=dr 17 t.2.1)) (aU hw) fun hI=>fS hI (G.pos hw).tok fun e _ hI _ G=>MY hI G fun _ _ hI _ G=>fS hI G fun v _ hI _ G=>cg hI G.ret
 ·have G:=Gw.call (G.neg (by simp[hw]))
  cases ts with
  | nil=>simp[lZ] at hf
  | cons u us =>
   have hf':t.1=1∧u.1=5∧u.2.2.2=[61]:=by simpa[lZ,uS] using hf
   have hu:ax [61] u=true:=by simp[ax,hf'.2.1,hf'.2.2]
   have G2:=(G.1 _ _ (NP (us:=us) hf'.1 hu)).2;have G3:=(Gw.look G2).pos ⟨hu,rfl⟩;show dp (dQ (mN 5) [cL]) _ (fun s'=>aI [aC,oK N] s' (bT K) E) E
   refine jN (by simp) ⟨t,u::us,t.2.1,rfl,.inl ⟨rfl,rfl⟩,⟨t,u::us,rfl,fun _=>⟨by dsimp only;omega,nR.mk ?_⟩,fun h=>absurd hf'.1 h⟩⟩
   have hz:Ast.al [kf 5 t.2.1 (bu t.2.2.2) []]=1:=by rw[tF,lh,cj]
   have oL:Rm N k ⟨dr 17 t.2.1,[kf 5 t.2.1 (bu t.2.2.2) []],u::us,n+Ast.al [kf 5 t.2.1 (bu t.2.2.2) []]⟩:=⟨by show(u::us).length<N;rw[List.length_cons] at hlen;omega,by show n+Ast.al _+2*(u::us).length+k≤60000;rw[hz];rw[List.length_cons] at hn;omega,by show 1+2*(u::us).length+k≤60000;rw[List.length_cons,List.length_nil] at hx;omega,hI.wf.tail (by rw[hf'.1];decide)⟩
   exact ll oL (aU hu) fun hI=>fS hI G3.tok fun v _ hI _ G=>cg hI G.ret
 ·have G:=Gw.call (G.neg (by simp[hw]))
  refine jN (by simp) ⟨hlen,by show n+2*(t::ts).length≤60000;omega,hI.wf.zF,G.mono fun(e:Ast) au p hq=>nR.mk ?_⟩
  have hz:e.size+2*au.length+1≤2*(t::ts).length:=hq.1;have yU:=p.wf hI.wf;obtain⟨u,us,rfl⟩:=yU.fin.cons;have hno:¬ (ax [61] u=true∧e.hd.kind=7):=fun⟨h1,h2⟩=>by
   have h3:Wo (t::ts) e (u::us):=p.holds aa8;obtain⟨t',e1,e2⟩:=h3 h2;injection e1 with e3 e4;subst e3 e4;have h5:u.1=5∧u.2.2.2=[61]:=by
    have hl:=(yU.zF u (bQ ..)).2;rcases aN h1 with ⟨l,m,rfl⟩ | ⟨l,m,rfl⟩
    ·exact absurd rfl (hl rfl)
    ·exact⟨rfl,rfl⟩
   simp[lZ,uS,e2,h5.1,h5.2] at hf
  refine⟨by show n+Ast.al [e]≤_;rw[tF];omega,?_⟩
  exact((Gw.look hq.2).neg hno).ret
def rtP (N:Nat) (op:Int):iV:=sN N (rI (wi op+1).toNat)
theorem NR {α:Type} {K:α→List ah→Prop} {s:Nat} {kk:Ast→GL α} (hI:Rm N k ⟨h,xs,ts,n⟩) (H:Gw (.call (.exp s) kk) ts K E)
  (hk :∀(e:Ast) (au:List ah),Rm N (k+1) ⟨h,xs++[e],au,n+Ast.al [e]⟩→au.length<ts.length→Gw (kk e) au K E→K' ⟨h,xs++[e],au,n+Ast.al [e]⟩):dp (sN N (rI s)) ⟨h,xs,ts,n⟩ K' E:=by
 refine jN (by have:=hI.xs;dsimp only at *;omega) ⟨hI.len,by have:=hI.n;dsimp only at *;omega,hI.wf.zF,?_⟩
 refine(Gw.call H).mono fun(e:Ast) au p hq=>?_
 have hz:e.size+2*au.length+1≤2*ts.length:=hq.1;exact nR.mk (hk e au (hI.kids (by rw[tF];omega) (PL.short p) (p.wf hI.wf)) (by omega) hq.2)
theorem YN {s:Nat} {l:Int} (hs:l+1=(s:Int)) (hl0:0≤l) :∀(m:Nat) (ts:List ah) (a:Ast) (k:Nat),ts.length<m→Rm N k ⟨dr 0 0,[a],ts,n+a.size⟩→Gw (bg (.lvm s a):GL Ast) ts K E→Ba (rtP N) l m a ts n K E:=by
 intro m;induction m with
 | zero=>intro ts a k h;omega
 | succ m ih =>
  intro ts a k h1 hI H;obtain⟨t,r,rfl⟩:=hI.wf.fin.cons;have G:=Gw.look H;refine⟨t,r,rfl,fun hle=>?_,fun Kq=>?_⟩
  ·cases ho:jD t with
   | none=>rw[ho] at G;exact G.ret
   | some o =>
    rw[ho] at G;have hb:=ma ho;rw[hb.1] at hle;exact(G.neg (by show ¬ s≤o.2.1;omega)).ret
  ·cases ho:jD t with
   | none =>
    rw[xA ho] at Kq;exact absurd (show Ko 0≤l from hl0) Kq
   | some o =>
    rw[ho] at G;have hb:=ma ho;rw[hb.1] at Kq ⊢;have G2:=(G.pos (show s≤o.2.1 by omega)).tok
    have he:(wi o.1+1).toNat=o.2.2:=by rw[hb.2.2.1];rfl
    have oL:Rm N k ⟨⟨12,t.2.1,o.1,0,⟨#[]⟩,[],[]⟩,[a],t::r,n+a.size⟩:=⟨hI.len,hI.n,hI.xs,hI.wf⟩;refine ll oL (Fs ho) fun hI=>?_
    show dp (sN N (rI (wi o.1+1).toNat)) _ _ _
    rw[he];refine NR hI G2 fun y r2 hI hlt G=>⟨by have:=hI.n;dsimp only at *;omega,?_⟩
    have G3:=(Gw.call G).mono (K':=K) fun v eP _ hv=>hv.2.ret
    refine ih r2 _ 0 (by simp at h1;omega) ⟨hI.len,?_,?_,hI.wf⟩ G3
    ·have h1:=hI.n
     rw[tF] at h1;show n+Ast.size (QY 12 t.2.1 o.1 [a,y])+2*r2.length+0≤60000
     rw[AR,iq,tF];dsimp only at h1
     omega
    ·have h1:=hI.xs
     show 1+2*r2.length+0≤60000
     dsimp only at h1
     omega
theorem Wq {x:Ast} {ts:List ah} {r:Except Int (Ast×List ah)} (h:PL (bg (.lvm 12 x):GL Ast) ts r):r=.ok (x,ts):=by
 cases ts with
 | nil=>cases h
 | cons t ts =>
  cases ho:jD t with
  | none=>exact P.one h (.look (by rw[ho];exact .ret))
  | some o =>
   have hb:=ma ho;have hno:¬ 12≤o.2.1:=by
    have:Ko o.1≤10:=by
     obtain⟨_,_,_,h7,h8⟩:=hb;have h9:o.1=1∨o.1=2∨o.1=3∨o.1=4∨o.1=5∨o.1=6∨o.1=7∨o.1=8∨o.1=9∨o.1=10∨o.1=11∨o.1=12∨o.1=13∨o.1=14∨o.1=15∨o.1=16∨o.1=17∨o.1=18∨o.1=19:=by omega
     rcases h9 with h|h|h|h|h|h|h|h|h|h|h|h|h|h|h|h|h|h|h<;>(rw[h];decide)
    omega
   exact P.one h (NL ho hno x ts)
theorem Wr {ts:List ah} {r:Except Int (Ast×List ah)} (h:PL (rI 12) ts r):PL IU ts r:=by
 cases h with
 | @call _ n k ts eB v r h1 h2 =>
  cases h2 with
  | @call _ n2 k2 ts eP v2 r h3 h4 =>
   have h5:=Wq (x:=v) h3;injection h5 with h5;injection h5 with h6 h7;cases h4;have h8:PL IU ts (.ok ((v:Ast),eB)):=h1;have e6:(v2:Ast)=v:=h6;show PL IU ts (.ok ((v2:Ast),eP))
   rw[e6,h7];exact h8
  | fQ h3 =>
   have h5:=Wq (x:=v) h3;cases h5
 | fQ h1=>exact h1
end
end Go.Proofs.YteflkdlaoiijbaaGreatDoor
namespace Go.Proofs.YteflkdlaoiijbaaGreatDoor
open Go.RowKit
theorem Ws :∀(L:List Kj) (p:Nat) (t:Kj),L[p]? = some t→(L.flatMap aO)[p*7]? = some (.int .i64 t.1.kind)
 | [],p,t,h=>by simp at h
 | u::L,0,t,h=>by
  obtain rfl:u=t:=by simpa using h
  rfl
 | u::L,p+1,t,h=>by
  have:=Ws L p t (by simpa using h)
  rw[jd,zM (by rw[e7];omega),e7,show(p+1)*7-7=p*7 by omega]
  exact this
theorem tH (g j:Nat):(⟨g,0,none⟩:Addr).add j=⟨g,j,none⟩:=by unfold Addr.add;split<;>simp_all
theorem PS.kind {W:World} {b:Nat} {O:Nat→Prop} {ts:List ah} {T0 T:List Nd} {a:Ast} {p:Nat} (h:PS W b O ts T) (hl:dV T0 T [a] [(p:Int)]) :
  ∃g c,W.cell? ⟨b,2,none⟩=some (.slice (some ⟨g,0,none⟩) T.length c)∧T.length≤c∧p<T.length∧W.cell? ⟨g,p*7,none⟩=some (.int .i64 a.hd.kind)∧O g:=by
 obtain⟨TS,i,g0,c0,nv,L,a1,a2,a3,a4,a5,a6,a7⟩:=h.ex;obtain⟨_,js,hr,_⟩:=hl;unfold bo at hr;obtain⟨k,iz,j1,j2,e1,hr,_,_⟩:=hr;have hk:k=p:=by
  injection e1 with e1 _;omega
 subst hk;obtain⟨hd,ael⟩:=a;unfold gW at hr;obtain⟨x,sz,hx,hxe,_,_⟩:=hr;have hlt:=(aL.1 hx).1;have hL:L.length=T.length:=by rw[←a7,dm]
 have hrow:=a6.row;obtain⟨g,c,rfl,_,_⟩:=hrow.form (by omega)
 obtain⟨A,c1,e2,hc⟩:=bC hrow;have hcc:c=c1:=by injection e2
 have hLp :∃t,L[k]? = some t∧t.1=x:=by
  rw[←a7,gE] at hx;cases hq:L[k]? with
  | none=>rw[hq] at hx;simp at hx
  | some t=>rw[hq] at hx;exact⟨t,rfl,by simpa using hx⟩
 obtain⟨t,ht,htx⟩:=hLp;have hcell:=hrow.cells (g:=g) rfl (k*7) _ (Ws L k t ht);refine⟨g,c,by rw[←hL];simp[World.cell?,a1],by rw[←hL,hcc];exact hc,hlt,?_⟩
 have NS:t.1.kind=hd.kind:=by rw[htx,hxe]
 have aa9:(⟨g,0,none⟩:Addr).add (k*7)=⟨g,k*7,none⟩:=tH g (k*7);rw[aa9,NS] at hcell;exact⟨hcell,a6.own g rfl⟩
theorem Real.kind {W:World} {b n:Nat} {O:Nat→Prop} {T0:List Nd} {s:St} (h:Real W b n O T0 s) (k:Int):(∃v,W.cell? ⟨n,0,none⟩=some (.int .i64 v))∧W.frozen? ⟨n,0,none⟩=false∧n<W.heap.size∧az O W (W.setCell ⟨n,0,none⟩ (.int .i64 k)) ∧
  Real (W.setCell ⟨n,0,none⟩ (.int .i64 k)) b n O T0 { s with h:={ s.h with kind:=k}}:=by
 obtain⟨Op,On,T,ks,hO,hd,hp,hn,hl,hc⟩:=h.ex;obtain⟨nv,kv,hcs,_,hz⟩:=hn.cells;have hf:=hn.fr 0 (.int .i64 k);refine⟨⟨_,hcs.c0⟩,hz 0,(hn.own n hn.at_).2,hf.mono fun j hj=>(hO j).2 (.inr (hj▸hn.at_)),⟨Op,On,T,ks,hO,hd,?_,hn.qn 0 _ rfl rfl fun _ _=>rfl,hl,hc⟩⟩
 exact hp.kept (O1:=(· = n)) hf (fun j hj e=>hd j hj (e▸hn.at_)) fun j e=>by have:=(hn.own n hn.at_).1;omega
theorem pJ {w1:World} {b n p:Nat} {Op1 On:Nat→Prop} {h:Nd} {a:Ast} {ks0:List Int} {eB:List ah} {T0 T1:List Nd} (hp:PS w1 b Op1 eB T1) (hn:NU w1 b n On { h with kids:=ks0}) (hd :∀k,Op1 k→¬ On k) (hl:dV T0 T1 [a] [(p:Int)]) :
  ∃v,(w1.alloc (.cells #[.int .i64 (p:Int)] 3)).cell? ⟨n,6,none⟩=some v∧(w1.alloc (.cells #[.int .i64 (p:Int)] 3)).frozen? ⟨n,6,none⟩=false∧n<w1.heap.size ∧
   az On w1 ((w1.alloc (.cells #[.int .i64 (p:Int)] 3)).setCell ⟨n,6,none⟩ (.slice (some ⟨w1.heap.size,0,none⟩) 1 1)) ∧
   PS ((w1.alloc (.cells #[.int .i64 (p:Int)] 3)).setCell ⟨n,6,none⟩ (.slice (some ⟨w1.heap.size,0,none⟩) 1 1)) b Op1 eB T1 ∧
   Real ((w1.alloc (.cells #[.int .i64 (p:Int)] 3)).setCell ⟨n,6,none⟩ (.slice (some ⟨w1.heap.size,0,none⟩) 1 1)) b n (fun k=>Op1 k∨(On k∨k=w1.heap.size)) T0 ⟨h,[a],eB,T1.length⟩:=by
 obtain⟨nv,kv,ha,hi⟩:=hn.ex;have jG:=(hn.own n hn.at_).2;have DA:=(hn.own n hn.at_).1;have hf:az (fun k=>kv.ownBlock=some k) w1 (w1.alloc (.cells #[.int .i64 (p:Int)] 3)):=(az.refl _ _).alloc _
 obtain⟨c6,z6,pB,mT,A0⟩:=Fx ha hi hn.at_ hn.own hf;have hb1:b+1≤w1.heap.size:=(hp.own b hp.at_).2;have hrow:rD (w1.alloc (.cells #[.int .i64 (p:Int)] 3)) b (.slice (some ⟨w1.heap.size,0,none⟩) 1 1) [(p:Int)]:=⟨rfl,.inr ⟨w1.heap.size,1,#[.int .i64 (p:Int)],rfl,hb1,World.alloc_heap_new w1 _,ai _,by unfold maxLen;omega,rfl,rfl⟩⟩
 have hfn:=mT (.slice (some ⟨w1.heap.size,0,none⟩) 1 1);have hpA:=hp.below (aV w1 (.cells #[.int .i64 (p:Int)] 3));have sK:PS ((w1.alloc (.cells #[.int .i64 (p:Int)] 3)).setCell ⟨n,6,none⟩ (.slice (some ⟨w1.heap.size,0,none⟩) 1 1)) b Op1 eB T1:=hpA.kept (O1:=(· = n)) hfn (fun k hk e=>hd k hk (e▸hn.at_)) fun k e=>by omega
 refine⟨kv,c6,z6,jG,((az.refl On w1).alloc _).trans hfn (fun k e=>.inl (e▸hn.at_)),sK,⟨Op1,fun k=>On k∨k=w1.heap.size,T1,[(p:Int)],fun _=>Iff.rfl,fun k hk e=>?_,sK,?_,hl,rfl⟩⟩
 ·rcases e with e|e
  ·exact hd k hk e
  ·have:=(hp.own k hk).2;omega
 ·exact A0 w1.heap.size 1 1 [(p:Int)] hrow (.inr (ai _))
theorem dV.same {T0 T:List Nd} {ks:List Int} (h:dV T0 T [] ks):T=T0∧ks=[]:=by
 have h1:=h.len;have h2:=h.num;obtain⟨p1,_⟩:=h;rw[Ast.al] at h1;exact⟨(List.IsPrefix.eq_of_length p1 (by omega)).symm,mw (by simpa using h2)⟩
def tgC (sf:iV):iV:=fun ts n K E=>sf ts n (fun a eB=>(isVar a→K a eB)∧(¬ isVar a→∃t r,eB=t::r∧E t.2.1)) E
theorem NW {sf:iV} (hS:pF 153 sf):pF 184 (tgC sf):=by
 intro b O ts T0 K E w hp hk;have HA:=aa (hS b O ts T0 _ E w hp hk);clear hp hk hS;go_enter Tryz.func184,Tryz.ntmps184
 go_wp2_with fail
 refine HA.out.mono ?_;intro e w1 h1;have F1:=aa h1.1;rcases h1.2 with ⟨p,a,eB,O1,T1,rfl,p1,x1,l1,k1⟩ | ⟨le,v,er,rfl,⟨g',rfl,m2,m3⟩,k1⟩
 ·obtain⟨g,c,c2,hc,hpl,ck,_⟩:=p1.kind l1
  have hb:b<w1.heap.size:=World.block_lt_of_cell? w1 _ c2;have P1:=aa p1;have X1:=aa x1;have L1:=aa l1;have K1:=aa k1;clear h1 p1 x1 l1 k1 HA;obtain⟨kd,qf⟩ :∃kd,kd=a.hd.kind:=⟨_,rfl⟩;rw[←qf] at ck;by_cases hv:isVar a
  ·have HV:=aa hv
   unfold isVar at hv;rw[←qf] at hv;clear qf;rcases hv with rfl|rfl <;>
   ·go_wp2_with fail
    go_ret2
    exact⟨F1.out,.inl ⟨p,a,eB,O1,T1,rfl,P1.out,X1.out,L1.out,K1.out.1 HV.out⟩⟩
  ·obtain⟨t,r,rfl,hE⟩:=K1.out.2 hv
   have HX:=aa (qm b O1 t r T1 w1 P1.out);unfold isVar at hv;rw[←qf] at hv;have g1:(kd == 7)=false:=aE.2 fun e=>hv (.inl e)
   have g2:(kd == 8)=false:=aE.2 fun e=>hv (.inr e)
   have g1':(kd != 7)=true:=oU.2 fun e=>hv (.inl e)
   have g2':(kd != 8)=true:=oU.2 fun e=>hv (.inr e)
   have HE:=aa hE;clear qf hv hE;go_wp2_with fail
   refine HX.out.mono ?_;rintro e w3 ⟨v,rfl,m,b3⟩;have M:=aa m;have B3:=aa b3;clear m b3;go_wp2_with fail
   go_ret2
   obtain⟨g',e1,e2,e3⟩:=M.out;exact⟨F1.out.trans (az.ae (O:=O1) B3.out) X1.out,.inr ⟨_,_,_,rfl,⟨g',e1,aK F1.out.size e2,e3⟩,HE.out⟩⟩
 ·have M3:=aa m3
  have M2:=aa m2;have K1:=aa k1;clear h1 m2 m3 k1;go_wp2_with fail
  go_ret2
  exact⟨F1.out,.inr ⟨le,_,_,rfl,⟨g',rfl,M2.out,M3.out⟩,K1.out⟩⟩
def YO (sf:iV) (tg li:bV):bV:=fun s K E=>s.xs=[]∧sf s.ts s.n (fun a eB=>(a.hd.kind=9∨a.hd.kind=10→K ⟨{ s.h with kind:=21},[a],eB,s.n+Ast.al [a]⟩) ∧
 (isVar a→aI [bw [44] [tg],eo,av [[61]],li] ⟨{ s.h with kind:=20},[a],eB,s.n+Ast.al [a]⟩ K E)∧(¬ (a.hd.kind=9∨a.hd.kind=10)→¬ isVar a→∃t r,eB=t::r∧E t.2.1)) E
theorem sO (w:World) (g:Nat) (hg:g=w.heap.size) (b:Nat) (O:Nat→Prop) (hO :∀k,O k→k<w.heap.size) (vs:List Value) (cI:List bV) (hl:vs.length≤100) (h:jL w b O vs cI) (x:List UInt8) (hx:x≠[]) (X:ByteArray) (hX:X=bu x) :
  Calls Tryz.prog 42 #[.pointer (some ⟨b,0,none⟩),.string X,.slice (some ⟨g,0,none⟩) vs.length vs.length] (w.alloc (.cells vs.toArray 122)) (kt b O (bw x cI) w):=by
 subst hg;exact pG w b O hO vs cI hl h x hx X hX
theorem TP {sf:iV} {tg li:bV} (hS:pF 153 sf) (hTg:eA 154 tg) (hL:eA 84 li):eA 97 (YO sf tg li):=by
 rintro b n O T0 ⟨sh,sxs,nj,sn⟩ K E w hr ⟨hx,hk⟩;obtain⟨Op,On,T,ks,hO,hd,hp,hn,hl,hc⟩:=hr.ex;dsimp only at hx hk hp hn hl hc
 subst hx;obtain⟨rfl,rfl⟩:=hl.same;subst hc;have HA:=aa (hS b Op nj T _ E w hp hk);have HN:=aa hn;have HO:=aa hO;have HD:=aa hd;have hat:=hn.at_;have HOn:Hid (∀k,On k→k<w.heap.size):=aa fun k hk=>(hn.own k hk).2
 have DA:b<n:=(hn.own n hat).1;have CB:=aa hat;clear hp hk hr hn hO hd hl hS hat;go_enter Tryz.func97,Tryz.ntmps97
 go_wp2_with fail
 refine HA.out.mono ?_;intro e w1 h1;have F1:=aa h1.1;have N1:=aa (HN.out.kept h1.1 fun k hk h=>HD.out k h hk)
 rcases h1.2 with ⟨p,a,eB,O1,T1,rfl,p1,x1,l1,k1⟩ | ⟨le,v,er,rfl,⟨g',rfl,m2,m3⟩,k1⟩
 ·have hd1 :∀k,O1 k→¬ On k:=fun k hk h=>by
   rcases x1 k hk with h2|h2
   ·exact HD.out k h2 h
   ·have:=HOn.out k h;omega
  obtain⟨v6,c6,z6,jG,f2,p2,r2⟩:=pJ p1 N1.out hd1 l1;obtain⟨g,c,c2,hc,hpl,ck,hOg⟩:=p1.kind l1;have S5:g≠n:=fun e=>hd1 g hOg (e▸CB.out)
  have hbn':b≠n:=by omega
  have hbl:b<w1.heap.size:=by omega
  have rr:g<w1.heap.size:=(p1.own g hOg).2;have hz2:T1.length=T.length+Ast.al [a]:=l1.len;rw[hz2] at r2;obtain⟨O2,Kn⟩ :∃O2:Nat→Prop,O2=fun k=>O1 k∨(On k∨k=w1.heap.size):=⟨_,rfl⟩
  rw[←Kn] at r2;have X2:Hid (Ext O O2 w):=aa fun k hk=>by
   rw[Kn] at hk;rcases hk with hk|hk|rfl
   ·rcases x1 k hk with h|h
    ·exact .inl ((HO.out k).2 (.inl h))
    ·exact .inr h
   ·exact .inl ((HO.out k).2 (.inr hk))
   ·exact .inr h1.1.size
  have f3:az O w ((w1.alloc (.cells #[.int .i64 (p:Int)] 3)).setCell ⟨n,6,none⟩ (.slice (some ⟨w1.heap.size,0,none⟩) 1 1)):=(h1.1.mono fun k hk=>(HO.out k).2 (.inl hk)).trans f2 fun k hk=>.inl ((HO.out k).2 (.inr hk))
  rw[World.setCell_alloc_past _ _ _ _ jG] at r2 f3 p2;have F2:=aa f3;have P2:=aa p2;have R2:=aa r2;obtain⟨nv1,kv1,yZ,_,hz1⟩:=N1.out.cells;have d0:=yZ.c0;have d6:=yZ.c6;have y0:=hz1 0;have y6:=hz1 6;clear yZ hz1;have X1:=aa x1;have K1:=aa k1;clear h1 p1 x1 l1 k1 HA hd1 f2 f3 p2 r2 hz2 hOg c6 z6 Kn;have hkK:=K1.out;obtain⟨kd,qf⟩ :∃kd,kd=a.hd.kind:=⟨_,rfl⟩;rw[←qf] at ck;have hW6:n<(w1.setCell ⟨n,6,none⟩ (.slice (some ⟨w1.heap.size,0,none⟩) 1 1)).heap.size:=by simpa using jG
  by_cases h9:a.hd.kind=9∨a.hd.kind=10
  ·have HK:=aa (hkK.1 h9)
   obtain⟨_,_,_,f4,r4⟩:=R2.out.kind 21;rw[World.setCell_alloc_past _ _ _ _ hW6] at f4 r4;have F4:=aa (F2.out.trans f4 X2.out);have R4:=aa r4;clear f4 r4 hkK K1 hW6;rw[←qf] at h9;clear qf;rcases h9 with rfl|rfl <;>
   ·go_wp2_with fail
    go_ret
    exact⟨F4.out,.inl ⟨_,O2,rfl,R4.out,X2.out,HK.out⟩⟩
  ·by_cases hv:isVar a
   ·have HK:=aa (hkK.2.1 hv)
    obtain⟨_,_,_,f4,r4⟩:=R2.out.kind 20;rw[World.setCell_alloc_past _ _ _ _ hW6] at f4 r4;have F0:=aa (F2.out.trans f4 X2.out);have P0:=aa r4;have V0:=aa (sO _ (w1.heap.size+1) (by simp) b O2 r4.lt [aX 154 b] [tg] (by simp) ⟨hTg.part (enters_of Tryz.func154 (by kernel_rfl) rfl) _ b O2,trivial⟩ [44] (by decide) ⟨#[44]⟩ rfl)
    clear f4 r4 hkK K1 hW6 h9;unfold isVar at hv;rw[←qf] at hv;clear qf;rcases hv with rfl|rfl <;>
    ·go_wp2_with fail
     refine V0.out.mono ?_;rintro e w2 ⟨f2,a2,c2',rfl,b2,h2⟩;have F2:=aa (F0.out.trans (az.ae (O:=O2) b2) X2.out);have P2:=aa (P0.out.below b2);have H2:=aa h2;clear b2 h2 V0 c2 ck d0 d6 y0 y6;have hOO :∀k,O2 k→k<w2.heap.size:=P2.out.lt;have V3:=aa (cr w2 b O2 hOO [61] (by decide) ⟨#[61]⟩ rfl)
     clear hOO;go_wp2_with fail
     refine V3.out.mono ?_;rintro e w3 ⟨f3,a3,c3,rfl,b3,h3⟩;have F3:=aa (F2.out.trans (az.ae (O:=O2) b3) X2.out);have P3:=aa (P2.out.below b3);have L2:=aa (H2.out.later (az.ae (O:=O2) b3) (Ext.refl _ _));clear H2;have H2:=L2;clear L2;have H3:=aa h3;clear b3 h3 V3;have HN:=aa (jn w w3 P3.out F3.out X2.out [.func (.func f2) a2 c2',.func (.func 150) #[] #[],.func (.func f3) a3 c3,aX 84 b] [bw [44] [tg],eo,av [[61]],li] (by simp) ⟨H2.out,jK w3 b O2,H3.out,hL.part (enters_of Tryz.func84 (by kernel_rfl) rfl) w3 b O2,trivial⟩ HK.out)
     go_wp2_with fail
     refine HN.out.mono ?_;intro e wz hz;obtain⟨v,rfl⟩:=hz.ret;have HZ:=aa hz;clear hz;go_wp2_with fail
     go_ret
     exact HZ.out
   ·obtain⟨t,r,rfl,hE⟩:=hkK.2.2 h9 hv
    have HX:=aa (qm b O1 t r T1 _ P2.out);unfold isVar at hv;rw[←qf] at h9 hv;have q9:(kd == 9)=false:=aE.2 fun e=>h9 (.inl e)
    have Tx:(kd == 10)=false:=aE.2 fun e=>h9 (.inr e)
    have q7:(kd == 7)=false:=aE.2 fun e=>hv (.inl e)
    have q8:(kd == 8)=false:=aE.2 fun e=>hv (.inr e)
    have HE:=aa hE;clear qf h9 hv hE hkK K1 hW6;go_wp2_with fail
    refine HX.out.mono ?_;rintro e w3 ⟨v,rfl,m,b3⟩;have M:=aa m;have B3:=aa b3;clear m b3;go_wp2_with fail
    go_ret
    obtain⟨g',e1,e2,e3⟩:=M.out;exact⟨F2.out.trans (az.ae (O:=O2) B3.out) X2.out,.inr ⟨_,_,rfl,⟨g',e1,aK F2.out.size e2,e3⟩,HE.out⟩⟩
 ·have M3:=aa m3
  have M2:=aa m2;have K1:=aa k1;clear h1 m2 m3 k1;go_wp2_with fail
  go_ret
  exact⟨F1.out.mono fun k hk=>(HO.out k).2 (.inl hk),.inr ⟨le,_,rfl,⟨g',rfl,M2.out,M3.out⟩,K1.out⟩⟩
def NX (li:bV):bV:=fun s K E=>∃t r,s.ts=t::r∧((ij t=true∨ax [59] t=true)→K s)∧(ij t=false→ax [59] t=false→li s K E)
theorem xC {W:World} {b n:Nat} {O:Nat→Prop} {T0:List Nd} {s:St} (h:Real W b n O T0 s) {t:ah} {ts:List ah} (hs:s.ts=t::ts):Calls Tryz.prog 36 #[.pointer (some ⟨b,0,none⟩)] W (nN W (ij t)):=by
 obtain⟨Op,On,T,ks,hO,hd,hp,hn,hl,hc⟩:=h.ex;rw[hs] at hp;exact Yx b Op t ts T W hp
theorem DK {li:bV} (hL:eA 84 li):eA 41 (NX li):=by
 rintro b n O T0 s K E w hr ⟨t,r,hs,h1,h2⟩;have HV:=aa (xC hr hs);have HW:=aa (fun W hW=>jt hr hs W hW)
 have HR:=aa hr;have HLi:=aa (fun(W:World) (hW:Real W b n O T0 s) (hk:li s K E)=>hL b n O T0 s K E W hW hk)
 have H1:=aa h1;have H2:=aa h2;clear hr hs h1 h2 hL;cases he:ij t with
 | true =>
  rw[he] at HV;have HE:=aa he;clear he HW;go_enter Tryz.func41,Tryz.ntmps41
  go_wp2_with fail
  refine HV.out.mono ?_;rintro e w1 ⟨rfl,b1⟩;have B1:=aa b1;clear b1;go_wp2_with fail
  go_ret
  exact⟨az.ae B1.out,.inl ⟨s,O,rfl,HR.out.below B1.out,Ext.refl _ _,H1.out (.inl HE.out)⟩⟩
 | false =>
  rw[he] at HV;cases hq:ax [59] t with
  | true =>
   have g1:((ag t).toList == [59])=true:=aj (s:=[59]) (by decide) t hq
   have HK:=aa (H1.out (.inr hq));generalize ag t=Y at *;clear he hq;go_enter Tryz.func41,Tryz.ntmps41
   go_wp2_with fail
   refine HV.out.mono ?_;rintro e w1 ⟨rfl,b1⟩;have B1:=aa b1;have jg:=aa (HW.out w1 b1);clear b1;go_wp2_with fail
   refine jg.out.mono ?_;rintro e w2 ⟨rfl,b2⟩;have B2:=aa (aB B1.out b2);clear b2;go_wp2_with fail
   go_ret
   exact⟨az.ae B2.out,.inl ⟨s,O,rfl,HR.out.below B2.out,Ext.refl _ _,HK.out⟩⟩
  | false =>
   have g1:((ag t).toList == [59])=false:=aj (s:=[59]) (by decide) t hq
   have HK:=aa (H2.out he hq);generalize ag t=Y at *;clear he hq;go_enter Tryz.func41,Tryz.ntmps41
   go_wp2_with fail
   refine HV.out.mono ?_;rintro e w1 ⟨rfl,b1⟩;have B1:=aa b1;have jg:=aa (HW.out w1 b1);clear b1;go_wp2_with fail
   refine jg.out.mono ?_;rintro e w2 ⟨rfl,b2⟩;have B2:=aa (aB B1.out b2);have HN:=aa (HLi.out w2 (HR.out.below B2.out) HK.out);clear b2;go_wp2_with fail
   refine HN.out.mono ?_;intro e wz hz;obtain⟨v,rfl⟩:=hz.ret;have HZ:=aa (hz.after (az.ae B2.out));clear hz;go_wp2_with fail
   go_ret
   exact HZ.out
theorem Bc {b n:Nat} {O O1:Nat→Prop} {T0:List Nd} {K:St→Prop} {E:Int→Prop} {w w1 w':World} {e:Ending} (h:bA b n O1 T0 K E w1 e w') (hf:az O w w1) (he:Ext O O1 w):bA b n O T0 K E w e w':=by
 obtain⟨h1,h2⟩:=h;refine⟨hf.trans h1 he,h2.imp ?_ ?_⟩
 ·rintro⟨s',O',e1,r1,x1,k1⟩
  exact⟨s',O',e1,r1,he.trans x1 hf.size,k1⟩
 ·rintro⟨l,v,e1,⟨g,m1,m2,m3⟩,k⟩
  exact⟨l,v,e1,⟨g,m1,aK hf.size m2,m3⟩,k⟩
def Bd (v7:iV) (li:bV):Nat→bV
 | 0=>fun _ _ _=>False
 | k+1=>fun s K E=>∃t r,s.ts=t::r∧(ij t=true→K s)∧(ij t=false→(ax [59] t=true→Bd v7 li k { s with ts:=r} K E) ∧
  (ax [59] t=false→(ax jj t=true→dp (dQ (mN 29) [aC,NX li,bw [59] []]) s K E)∧(ax jj t=false→dp v7 s (fun s'=>Bd v7 li k s' K E) E)))
def aba (v7:iV) (li:bV):bV:=fun s K E=>∃m,Bd v7 li m s K E
theorem y7 {v7:iV} {li:bV} (hS:pF 44 v7) (hL:eA 84 li):eA 20 (aba v7 li):=by
 rintro b n O T0 s K E w hr ⟨m,hk⟩;have HR:=aa hr;have HK:=aa hk;have HSt:=aa (fun(W:World) (b:Nat) (O:Nat→Prop)=>hS.one (enters_of Tryz.func44 (by kernel_rfl) rfl) W b O)
 have HRt:=aa (fun(W:World) (b:Nat) (O:Nat→Prop)=>(DK hL).part (enters_of Tryz.func41 (by kernel_rfl) rfl) W b O)
 clear hr hk hS hL;go_enter Tryz.func20,Tryz.ntmps20
 go_wp2_with fail
 go_loopg [] m (fun z wr=>∃(O1:Nat→Prop) (s1:St),Real wr b n O1 T0 s1∧az O w wr∧Ext O O1 w∧Bd v7 li z s1 K E)
 case atStart=>exact⟨O,s,HR.out,az.refl _ _,Ext.refl _ _,HK.out⟩
 case round =>
  obtain⟨O1,s1,hr1,ld,uM,iW⟩:=hrel;have nO:=aa hr1;have fA:=aa ld;have o7:=aa uM;cases gk with
  | zero=>exact iW.elim
  | succ z =>
   obtain⟨t,r,hs,hy,hn⟩:=iW;have HV:=aa (xC hr1 hs);have eK:=aa hs;clear hr1 ld uM;cases he:ij t with
   | true =>
    rw[he] at HV;have zH:=aa (hy he);clear hy hn hs he;go_wp2_with fail
    refine HV.out.mono ?_;rintro e w1 ⟨rfl,b1⟩;have B1:=aa b1;clear b1;go_wp2_with fail
    go_ret
    exact⟨fA.out.trans (az.ae (O:=O1) B1.out) o7.out,.inl ⟨s1,O1,rfl,nO.out.below B1.out,o7.out,zH.out⟩⟩
   | false =>
    rw[he] at HV;have tz:=hn he;clear hy hn he;cases hq:ax [59] t with
    | true =>
     have HTk:=aa (fun(W:World) (hW:Real W b n O1 T0 s1)=>lk hW hs [59] ⟨#[59]⟩ rfl (by decide) hq)
     have zH:=aa (tz.1 hq);clear tz hs hq;go_wp2_with fail
     refine HV.out.mono ?_;rintro e w1 ⟨rfl,b1⟩;have F2:=aa (fA.out.trans (az.ae (O:=O1) b1) o7.out);have HT:=aa (HTk.out w1 (nO.out.below b1));clear b1;go_wp2_with fail
     refine HT.out.mono ?_;rintro e w2 ⟨rfl,r2,f2⟩;have F3:=aa (F2.out.trans f2 o7.out);have R2:=aa r2;clear r2 f2;go_wp2_with fail
     go_roundg z
     case measure=>omega
     case rel=>exact⟨O1,_,R2.out,F3.out,o7.out,zH.out⟩
    | false =>
     have HTk:=aa (fun(W:World) (hW:Real W b n O1 T0 s1)=>oy hW hs [59] ⟨#[59]⟩ rfl (by decide) hq)
     have ra:=tz.2 hq;clear tz hq;cases pD:ax jj t with
     | true =>
      have g1:((ag t).toList == [114,101,116,117,114,110])=true:=aj (s:=jj) (by decide) t pD
      have zH:=aa (ra.1 pD);have HWd:=aa (fun(W:World) (hW:Real W b n O1 T0 s1)=>jt hW hs W (Below.refl _ _))
      clear ra hs pD;generalize ag t=Y at *;go_wp2_with fail
      refine HV.out.mono ?_;rintro e w1 ⟨rfl,b1⟩;have F2:=aa (fA.out.trans (az.ae (O:=O1) b1) o7.out);have HT:=aa (HTk.out w1 (nO.out.below b1));clear b1;go_wp2_with fail
      refine HT.out.mono ?_;rintro e w2 ⟨rfl,r2,f2⟩;have F3:=aa (F2.out.trans f2 o7.out);have lM:=aa (HWd.out w2 r2);have R2:=aa r2;clear r2 f2 HTk HWd HT;go_wp2_with fail
      refine lM.out.mono ?_;rintro e w3 ⟨rfl,b3⟩;have F4:=aa (F3.out.trans (az.ae (O:=O1) b3) o7.out);have R3:=aa (R2.out.below b3);have HP:=aa (xn b O1 [59] ⟨#[59]⟩ rfl (by decide) (.slice none 0 0) [] w3 (aM.nil _ _ _) R3.out.lt)
      clear b3;go_wp2_with fail
      refine HP.out.mono ?_;rintro e w4 ⟨v,rfl,b4,h4,fi,fa,fc,rfl⟩;have R4:=aa (R3.out.below b4);have F5:=aa (F4.out.trans (az.ae (O:=O1) b4) o7.out);have HH:=aa (rG b O1 (mN 29) (.slice none 0 0) _ _ (w4.alloc (.cells #[aX 40 b,aX 41 b,.func (.func fi) fa fc] 122)) (zE.nil _ b) (aM.new (w:=w4) (b:=b) (O:=O1) R4.out.lt [aX 40 b,aX 41 b,.func (.func fi) fa fc] [aC,NX li,bw [59] []] (by simp) ⟨aZ w4 b O1,HRt.out w4 b O1,h4,trivial⟩) (fun k hk=>by have:=R4.out.lt k hk;simp;omega))
      clear b4 h4 HP;go_wp2_with fail
      refine HH.out.mono ?_;rintro e w5 ⟨v,rfl,b5,h5⟩;obtain⟨f,first,cap,rfl,pz,bs⟩:=h5.1.call R4.out (aB (aV w4 _) b5) zH.out
      have dW:=aa bs;clear h5 bs b5;unfold Enters at pz;go_wp2_with fail
      refine dW.out.mono ?_;intro e w6 h6;obtain⟨v,rfl⟩:=h6.ret;have H6:=aa h6;clear h6;go_wp2_with fail
      go_ret
      exact Bc H6.out F5.out o7.out
     | false =>
      have g1:((ag t).toList == [114,101,116,117,114,110])=false:=aj (s:=jj) (by decide) t pD
      have zH:=aa (ra.2 pD);have HWd:=aa (fun(W:World) (hW:Real W b n O1 T0 s1)=>jt hW hs W (Below.refl _ _))
      clear ra hs pD;generalize ag t=Y at *;go_wp2_with fail
      refine HV.out.mono ?_;rintro e w1 ⟨rfl,b1⟩;have F2:=aa (fA.out.trans (az.ae (O:=O1) b1) o7.out);have HT:=aa (HTk.out w1 (nO.out.below b1));clear b1;go_wp2_with fail
      refine HT.out.mono ?_;rintro e w2 ⟨rfl,r2,f2⟩;have F3:=aa (F2.out.trans f2 o7.out);have lM:=aa (HWd.out w2 r2);have R2:=aa r2;clear r2 f2 HTk HWd HT;go_wp2_with fail
      refine lM.out.mono ?_;rintro e w3 ⟨rfl,b3⟩;have F4:=aa (F3.out.trans (az.ae (O:=O1) b3) o7.out);have R3:=aa (R2.out.below b3);have HP:=aa (A3 b O1 44 _ _ v7 w3 (HSt.out w3 b O1) R3.out.lt);clear b3;go_wp2_with fail
      refine HP.out.mono ?_;rintro e w4 ⟨v,rfl,b4,h4⟩;obtain⟨f,first,cap,rfl,pz,bs⟩:=h4.1.call R3.out b4 zH.out
      have dW:=aa bs;clear h4 bs b4;unfold Enters at pz;go_wp2_with fail
      refine dW.out.mono ?_;intro e w6 h6;have F6:=aa (F4.out.trans h6.1 o7.out);rcases h6.2 with ⟨s7,O7,rfl,r7,x7,k7⟩ | ⟨l,v,rfl,⟨g',rfl,hg1,hg2⟩,k7⟩
      ·have R7:=aa r7
       have X7:=aa (o7.out.trans x7 F4.out.size);have K7:=aa k7;clear h6 r7 x7 k7;go_wp2_with fail
       go_roundg z
       case measure=>omega
       case rel=>exact⟨O7,s7,R7.out,F6.out,X7.out,K7.out⟩
      ·have M3:=aa hg2
       have HG:=aa (aK F4.out.size hg1);have K7:=aa k7;clear h6 hg1 hg2 k7;go_wp2_with fail
       go_ret
       exact⟨F6.out,.inr ⟨l,_,rfl,⟨g',rfl,HG.out,M3.out⟩,K7.out⟩⟩
theorem Be {W:World} {b n:Nat} {On:Nat→Prop} {x:Nd} (hn:NU W b n On x) (v:Value) (xs:List ByteArray) (hr:jM W b v xs) (hne:xs≠[]):NU (W.setCell ⟨n,5,none⟩ v) b n (fun k=>On k∨v.ownBlock=some k) { x with names:=xs}:=by
 obtain⟨nv,kv,ha,hi⟩:=hn.ex;have dN:jI W b (fun k=>On k∨v.ownBlock=some k) { x with names:=xs} v kv:=⟨hr,hi.kids,fun g hg=>.inl (.inr hg),fun g _=>hne,fun g hg=>.inl (hi.ok g hg)⟩
 refine⟨⟨v,kv,ir ha _,dN.set ha 5 v⟩,.inl hn.at_,fun k hk=>?_⟩
 have hsz:(W.setCell ⟨n,5,none⟩ v).heap.size=W.heap.size:=by simp[World.setCell]
 rw[hsz];rcases hk with hk|hk
 ·exact hn.own k hk
 ·have:=hr.lt k hk;omega
theorem Bf (W:World) (b n:Nat) (Op On:Nat→Prop) (hd :∀k,Op k→¬ On k):MW W b n Op On (aX 143 b) tf:=by
 intro W1 x ts T _ hp hn;obtain⟨t,r,rfl⟩:=hp.fin.cons;refine⟨143,_,_,rfl,enters_of Tryz.func143 (by kernel_rfl) rfl,?_⟩
 have lo :∀w',az (· = b) W1 w'→NU w' b n On x:=fun w' hf=>hn.kept hf fun k hk e=>hd b hp.at_ (e▸hk)
 cases hc:ax [44] t with
 | true =>
  have e1:tf (x.num,t::r)=(true,x.num,r):=by simp[tf,cO,hc]
  rw[e1];refine(kq b Op t r T W1 hp hc).mono ?_;rintro e w' ⟨rfl,h1,h2⟩;exact⟨rfl,h1,lo w' h2,h2.mono fun k hk=>.inl hk⟩
 | false =>
  have e1:tf (x.num,t::r)=(false,x.num,t::r):=by simp[tf,cO,hc]
  rw[e1];refine(lX b Op t r T W1 hp hc).mono ?_;rintro e w' ⟨rfl,h1,h2⟩;exact⟨rfl,h1,lo w' h2,h2.mono fun k hk=>.inl hk⟩
theorem FN:eA 93 iC:=by
 rintro b n O T0 ⟨sh,sxs,nj,sn⟩ K E w hr ⟨m,hm,hk⟩;obtain⟨Op,On,T,ks,hO,hd,hp,hn,hl,hc⟩:=hr.ex;dsimp only at hk hp hn hl hc
 have HA:=aa (xu b n Op On { sh with kids:=ks} nj T (aX 143 b) tf _ E m hm w hp hn hd (Bf w b n Op On hd) hk);have HO:=aa hO;have HD:=aa hd;have HL:=aa hl;have HC:=aa hc;have CB:=aa hn.at_;have HPB:=aa hp.at_;have HOW:=aa hp.own;have hnw:n<w.heap.size:=(hn.own n hn.at_).2;clear hr hp hn hl hc hk hO hd;go_enter Tryz.func93,Tryz.ntmps93
 go_wp2_with fail
 refine HA.out.mono ?_;rintro e w1 ⟨f1,mm,n1,h1⟩;have F1:=aa (f1.mono (O1:=O) fun k hk=>(HO.out k).2 (hk.elim (fun e=>.inl (e▸HPB.out)) (fun e=>.inr (e▸CB.out))))
 obtain⟨nv,kv,hcs,_,hz⟩:=n1.cells;have c5:=hcs.c5;have z5:=hz 5;have jG:n<w1.heap.size:=(n1.own n n1.at_).2;have DA:b<n:=(n1.own n n1.at_).1;have N1:=aa n1;clear hcs hz n1;rcases h1 with ⟨v,xs,ts,rfl,p1,r1,o1,ne1,ac0,k1⟩ | ⟨l,er,rfl,⟨g',rfl,m1,m2⟩,k1⟩
 ·have P1:=aa p1
  have R1:=aa r1;have O1:=aa o1;have NE:=aa ne1;have K1:=aa k1;obtain⟨A,c,rfl,_⟩:=bC r1;clear p1 r1 o1 ne1 k1 f1;go_wp2_with fail
  go_ret
  have f2:=N1.out.fr 5 (.slice A xs.length c);have hop :∀k,Op k→k≠n:=fun k hk e=>HD.out k hk (e▸CB.out)
  refine⟨F1.out.trans f2 (fun k hk=>.inl (hk▸(HO.out n).2 (.inr CB.out))),.inl ⟨_,fun k=>Op k∨(On k∨(Value.slice A xs.length c).ownBlock=some k),rfl,⟨Op,fun k=>On k∨(Value.slice A xs.length c).ownBlock=some k,T,ks,fun _=>Iff.rfl,fun k hk h=>?_,P1.out.kept (O1:=(· = n)) f2 hop (fun k e=>by omega),Be N1.out _ xs R1.out NE.out,HL.out,HC.out⟩,fun k hk=>?_,K1.out⟩⟩
  ·rcases h with h|h
   ·exact HD.out k hk h
   ·have:=O1.out k h;have:=(HOW.out k hk).2;omega
  ·rcases hk with hk|hk|hk
   ·exact .inl ((HO.out k).2 (.inl hk))
   ·exact .inl ((HO.out k).2 (.inr hk))
   ·exact .inr (O1.out k hk)
 ·have M2:=aa m2
  have K1:=aa k1;have S5:g'≠n:=by omega
  clear m2 k1 f1;go_wp2_with fail
  go_ret
  exact⟨F1.out.trans (N1.out.fr 5 _) (fun k hk=>.inl (hk▸(HO.out n).2 (.inr CB.out))),.inr ⟨l,_,rfl,⟨g',rfl,m1,(Below.heap_setCell _ _ _ g' S5).trans M2.out⟩,K1.out⟩⟩
def ky:NmF:=fun p=>match p.2 with
 | []=>(false,p.1,[])
 | t::r=>if ax [46,46,46] t=true then (true,1,r) else (decide (p.1=1),p.1,t::r)
def NY (b n:Nat) (Op On:Nat→Prop) (x:Nd) (T:List Nd) (o:Bool×Int×List ah) (w:World) (e:Ending) (w':World):Prop :=
 e=.returned (.bool o.1)∧PS w' b Op o.2.2 T∧NU w' b n On { x with num:=o.2.1}∧az (fun k=>k=b∨k=n) w w'
theorem NZ (b n g1 g2:Nat) (Op On O:Nat→Prop) (x:Nd) (t:ah) (ts:List ah) (T:List Nd) (w:World) (hp:PS w b Op (t::ts) T) (hn:NU w b n On x) (hd :∀k,Op k→¬ On k) (hO :∀k,k=b∨k=n→O k)
  (b1:eI w O g1 #[.pointer (some ⟨b,0,none⟩)] 116) (b2:eI w O g2 #[.pointer (some ⟨n,0,none⟩)] 120):Calls Tryz.prog 209 #[.pointer (some ⟨g1,0,none⟩),.pointer (some ⟨g2,0,none⟩)] w (NY b n Op On x T (ky (x.num,t::ts)) w):=by
 have c1:=b1.cell 0;have B2:=aa b2;have HN:=aa hn;have lo :∀w',az (· = b) w w'→NU w' b n On x:=fun w' hf=>hn.kept hf fun k hk e=>hd b hp.at_ (e▸hk)
 have HK:=aa lo;have YP:=aa hO;have DA:b<n:=(hn.own n hn.at_).1;have HD:=aa hd;have hg2:g2≠n:=fun e=>b2.2 (e▸hO n (.inr rfl))
 by_cases h1:ax [46,46,46] t=true
 ·have e1:ky (x.num,t::ts)=(true,1,ts):=by simp[ky,h1]
  rw[e1];have HT:=aa (lW b Op t ts T [46,46,46] ⟨#[46,46,46]⟩ rfl w hp (by decide) h1)
  clear hp hn hd hO b1 b2 lo h1 e1;go_enter Tryz.func209,Tryz.ntmps209
  go_wp2_with fail
  refine HT.out.mono ?_;rintro e w1 ⟨rfl,p1,f1⟩;have n1:=HK.out w1 f1;obtain⟨nv,kv,hcs,_,hz⟩:=n1.cells;have c3:=hcs.c3;have z3:=hz 3;have c2:=(B2.out.later (f1.mono fun k hk=>YP.out k (.inl hk)) (Ext.refl _ _)).cell 0
  have jG:n<w1.heap.size:=(n1.own n n1.at_).2;have N1:=aa n1;have P1:=aa p1;have F1:=aa f1;clear n1 p1 f1 hcs hz c1;go_wp2_with fail
  go_ret
  have f2:=N1.out.fr 3 (.int .i64 1);exact⟨rfl,P1.out.kept (O1:=(· = n)) f2 (fun k hk e=>HD.out k hk (e▸N1.out.at_)) (fun k e=>by omega),N1.out.qn 3 _ rfl rfl fun _ _=>rfl,(F1.out.mono fun k hk=>.inl hk).trans f2 (fun k hk=>.inl (.inr hk))⟩
 ·have Nh:ax [46,46,46] t=false:=by simpa using h1
  have e1:ky (x.num,t::ts)=(decide (x.num=1),x.num,t::ts):=by simp[ky,h1]
  rw[e1];have HT:=aa (ow b Op t ts T [46,46,46] ⟨#[46,46,46]⟩ rfl w hp (by decide) Nh)
  clear hp hn hd hO b1 b2 lo h1 Nh e1;go_enter Tryz.func209,Tryz.ntmps209
  go_wp2_with fail
  refine HT.out.mono ?_;rintro e w1 ⟨rfl,p1,f1⟩;have n1:=HK.out w1 f1;obtain⟨nv,kv,hcs,_,hz⟩:=n1.cells;have c3:=hcs.c3;have c2:=(B2.out.later (f1.mono fun k hk=>YP.out k (.inl hk)) (Ext.refl _ _)).cell 0
  have jG:n<w1.heap.size:=(n1.own n n1.at_).2;have N1:=aa n1;have P1:=aa p1;have F1:=aa f1;clear n1 p1 f1 hcs hz c1;go_wp2_with fail
  go_ret
  exact⟨by congr 2,P1.out,N1.out,F1.out.mono fun k hk=>.inl hk⟩
theorem TQ {m:Int} {t:ah} {r:List ah} (h:ax [44] t=false):pE (m,t::r)=(false,m,t::r):=by simp[pE,h]
theorem N0 {m:Int} {t u:ah} {r:List ah} (h:ax [44] t=true):pE (m,t::u::r)=(!(ky (m,u::r)).1,(ky (m,u::r)).2.1,(ky (m,u::r)).2.2):=by
 cases h2:ax [46,46,46] u<;>simp[pE,ky,h,h2]
theorem YQ (b n g1 g2 g3:Nat) (Op On O:Nat→Prop) (x:Nd) (t:ah) (ts:List ah) (T:List Nd) (w:World) (hp:PS w b Op (t::ts) T) (hn:NU w b n On x) (hd :∀k,Op k→¬ On k) (hO :∀k,k=b∨k=n→O k)
  (b1:eI w O g1 #[.pointer (some ⟨b,0,none⟩)] 116) (b2:eI w O g2 #[.pointer (some ⟨n,0,none⟩)] 120) (b3:eI w O g3 #[.func (.func 209) #[] #[.pointer (some ⟨g1,0,none⟩),.pointer (some ⟨g2,0,none⟩)]] 22) :
  Calls Tryz.prog 210 #[.pointer (some ⟨g1,0,none⟩),.pointer (some ⟨g3,0,none⟩)] w (NY b n Op On x T (pE (x.num,t::ts)) w):=by
 have c1:=b1.cell 0;have B1:=aa b1;have B2:=aa b2;have B3:=aa b3;have lo :∀w',az (· = b) w w'→NU w' b n On x:=fun w' hf=>hn.kept hf fun k hk e=>hd b hp.at_ (e▸hk)
 have HK:=aa lo;have YP:=aa hO;have HD:=aa hd;by_cases h1:ax [44] t=true
 ·obtain⟨u,us,rfl⟩:=(hp.fin.tail (tE h1)).cons
  rw[N0 h1];have HT:=aa (kq b Op t (u::us) T w hp h1);have pz:=enters_of Tryz.func209 (by kernel_rfl) rfl
  unfold Enters at pz;clear hp hn hd hO b1 b2 b3 lo h1;go_enter Tryz.func210,Tryz.ntmps210
  go_wp2_with fail
  refine HT.out.mono ?_;rintro e w1 ⟨rfl,p1,f1⟩;have fO:=f1.mono (O1:=O) fun k hk=>YP.out k (.inl hk)
  have c3:=(B3.out.later fO (Ext.refl _ _)).cell 0;have HM:=aa (NZ b n g1 g2 Op On O x u us T w1 p1 (HK.out w1 f1) HD.out YP.out (B1.out.later fO (Ext.refl _ _)) (B2.out.later fO (Ext.refl _ _)));generalize ky (x.num,u::us)=o at *;obtain⟨o1,o2,o3⟩:=o;have F1:=aa f1;clear p1 f1 fO c1;go_wp2_with fail
  refine HM.out.mono ?_;rintro e w2 ⟨rfl,p2,n2,f2⟩;have P2:=aa p2;have N2:=aa n2;have F2:=aa f2;clear p2 n2 f2 c3;go_wp2_with fail
  go_ret
  exact⟨rfl,P2.out,N2.out,(F1.out.mono fun k hk=>.inl hk).trans F2.out (Ext.refl _ _)⟩
 ·have Nh:ax [44] t=false:=by simpa using h1
  rw[TQ Nh];have HT:=aa (lX b Op t ts T w hp Nh);clear hp hn hd hO b1 b2 b3 lo h1 Nh;go_enter Tryz.func210,Tryz.ntmps210
  go_wp2_with fail
  refine HT.out.mono ?_;rintro e w1 ⟨rfl,p1,f1⟩;have N1:=aa (HK.out w1 f1);have P1:=aa p1;have F1:=aa f1;clear p1 f1 c1;go_wp2_with fail
  go_ret
  exact⟨rfl,P1.out,N1.out,F1.out.mono fun k hk=>.inl hk⟩
theorem IV {W:World} {b n g1 g2 g3:Nat} {Op On O:Nat→Prop} (hd :∀k,Op k→¬ On k) (hO :∀k,k=b∨k=n→O k)
  (b1:eI W O g1 #[.pointer (some ⟨b,0,none⟩)] 116) (b2:eI W O g2 #[.pointer (some ⟨n,0,none⟩)] 120) (b3:eI W O g3 #[.func (.func 209) #[] #[.pointer (some ⟨g1,0,none⟩),.pointer (some ⟨g2,0,none⟩)]] 22) :
  MW W b n Op On (.func (.func 210) #[] #[.pointer (some ⟨g1,0,none⟩),.pointer (some ⟨g3,0,none⟩)]) pE:=by
 intro W1 x ts T hf hp hn;obtain⟨t,r,rfl⟩:=hp.fin.cons;have hf':=hf.mono (O1:=O) hO;exact⟨210,_,_,rfl,enters_of Tryz.func210 (by kernel_rfl) rfl,YQ b n g1 g2 g3 Op On O x t r T W1 hp hn hd hO (b1.later hf' (Ext.refl _ _)) (b2.later hf' (Ext.refl _ _)) (b3.later hf' (Ext.refl _ _))⟩
theorem TR {W W4:World} {b n:Nat} {On:Nat→Prop} {x:Nd} {nv kv:Value} (ha:W.heap[n]? = some (.cells (aO (x,nv,kv)).toArray 55 (0,0))) (hi:jI W b On x nv kv) (hat:On n) (hown :∀k,On k→b<k∧k<W.heap.size)
  (hf:az (fun k=>nv.ownBlock=some k) W W4) :
  az On W W4∧W4.cell? ⟨n,5,none⟩=some nv∧W4.frozen? ⟨n,5,none⟩=false∧n<W4.heap.size∧(∀v,az (· = n) W4 (W4.setCell ⟨n,5,none⟩ v))∧∀(g m c:Nat) (xs:List ByteArray),jM W4 b (.slice (some ⟨g,0,none⟩) m c) xs→xs≠[] →
   NU (W4.setCell ⟨n,5,none⟩ (.slice (some ⟨g,0,none⟩) m c)) b n (fun k=>On k∨k=g) { x with names:=xs}:=by
 have hne:¬ nv.ownBlock=some n:=fun e=>by
  obtain⟨cur,hc⟩:=eY hi.names e;rw[ha] at hc;simp at hc
 have GV:az On W W4:=⟨hf.os,hf.tape,hf.output,hf.size,fun k hk hn=>by
  by_cases e:nv.ownBlock=some k
  ·rcases hi.on k e with h|h
   ·exact(hn h).elim
   ·exact hf.str k h
  ·exact hf.block k hk e,hf.str⟩
 have pB:W4.heap[n]? = some (.cells (aO (x,nv,kv)).toArray 55 (0,0)):=(hf.block n (hown n hat).2 hne).trans ha;refine⟨GV,by simp[World.cell?,pB,aO],by simp[World.frozen?,pB],(aJ.1 pB).1,fun v=>az.wc pB (by decide) 5 v,fun g m c xs hr hx=>?_⟩
 have dN:jI W4 b (fun k=>On k∨k=g) { x with names:=xs} (.slice (some ⟨g,0,none⟩) m c) kv:=⟨hr,cW hi.kids fun k hk=>(hf.block k (hi.kids.lt k hk).2 (fun e=>by
  obtain⟨c1,h1⟩:=eY hi.names e;obtain⟨c2,h2⟩:=eY hi.kids hk;rw[h1] at h2;simp at h2)),fun k hk=>.inl (.inr (by simpa[Value.ownBlock] using hk.symm)),fun k _=>hx,fun k hk=>.inl (hi.ok k hk)⟩
 have rr:=hr.lt g rfl;refine⟨⟨_,kv,ir pB _,dN.set pB 5 _⟩,.inl hat,fun k hk=>?_⟩
 rcases hk with hk|rfl
 ·exact⟨(hown k hk).1,by have:=(hown k hk).2;have:=hf.size;simp[World.setCell];omega⟩
 ·exact⟨by omega,by simp[World.setCell];omega⟩
theorem xD (w:World) (A B:Obj) (v u:Value) (ty:TypeId):(((w.alloc A).alloc B).alloc (.cells #[v] ty)).cell? ⟨w.heap.size+1+1,0,none⟩=some v∧(((w.alloc A).alloc B).alloc (.cells #[v] ty)).frozen? ⟨w.heap.size+1+1,0,none⟩=false ∧
  (((w.alloc A).alloc B).alloc (.cells #[v] ty)).setCell ⟨w.heap.size+1+1,0,none⟩ u=((w.alloc A).alloc B).alloc (.cells #[u] ty):=by
 have hz:w.heap.size+1+1=((w.alloc A).alloc B).heap.size:=by rw[an,an]
 rw[hz];have hn:=World.alloc_heap_new ((w.alloc A).alloc B) (.cells #[v] ty);refine⟨by simp only[World.cell?,hn];rfl,by simp only[World.frozen?,hn];rfl,?_⟩
 rw[World.setCell_alloc_at _ _ _ _ _ rfl];rfl
theorem IW {ops:Array Oper} {o:Oper} {a:Act} {K:Act→World→Prop} {Q:Exit→Act→World→Prop} {E:Prop} (w:World) (hgd:o.guard=none) (s x:Operand)
  (ho:o.op=.call { callee:=.builtin .append,args:=#[s,x],argTypes:=#[53,53]}) (b:Nat) (v:Value) (ls:List ByteArray) (hs:a.eval s=v) (hown:jM w b v ls) (hx:a.eval x=.slice none 0 0) (h:K (a.put o.dst v) w) :
  if Region.wanted o (yielded ops a.tmps)=true then Oper.wp Tryz.prog o a w K Q else E:=by
 have hw:Region.wanted o (yielded ops a.tmps)=true:=by simp[Region.wanted,hgd]
 rw[ak hw];have hrun:=run_append_owned_none (P:=Tryz.prog) (w:=w) (b+1) 53 o.type 9 _ 1 Tryz.underlying53 (info_parts MS).choose_spec.1 v ls.length (ls.map Value.string) hown;unfold Oper.wp;simp[execOp,ho,resolve,invoke,builtin,hs,hx,hrun,Result.andThen];exact h
theorem qt:eA 181 A8:=by
 rintro b n O T0 ⟨sh,sxs,nj,sn⟩ K E w hr ⟨t,ts,jk,fF,TT,hno⟩;obtain⟨Op,On,T,ks,hO,hd,hp,hn,hl,hc⟩:=hr.ex;dsimp only at jk fF TT hno hp hn hl hc
 subst jk;have N3:=hr.lt;obtain⟨w1,dZ⟩ :∃w1,w1=w.alloc (.cells #[.pointer (some ⟨b,0,none⟩)] 116):=⟨_,rfl⟩;obtain⟨w2,hw2⟩ :∃w2,w2=w1.alloc (.cells #[.pointer (some ⟨n,0,none⟩)] 120):=⟨_,rfl⟩;obtain⟨w3,hw3⟩ :∃w3,w3=w2.alloc (.cells #[.func (.func 209) #[] #[.pointer (some ⟨w.heap.size,0,none⟩),.pointer (some ⟨w.heap.size+1,0,none⟩)]] 22):=⟨_,rfl⟩;have f1:az O w w1:=by rw[dZ];exact(az.refl _ _).alloc _
 have f2:az O w1 w2:=by rw[hw2];exact(az.refl _ _).alloc _
 have f3:az O w2 w3:=by rw[hw3];exact(az.refl _ _).alloc _
 have z1:w1.heap.size=w.heap.size+1:=by rw[dZ,an]
 have z2:w2.heap.size=w.heap.size+1+1:=by rw[hw2,an,z1]
 have b1:eI w1 O w.heap.size #[.pointer (some ⟨b,0,none⟩)] 116:=by rw[dZ];exact eI.new w O N3 _ _
 have b2:eI w2 O (w.heap.size+1) #[.pointer (some ⟨n,0,none⟩)] 120:=by rw[hw2,←z1];exact eI.new w1 O (fun k hk=>by have:=N3 k hk;omega) _ _
 have b3:eI w3 O (w.heap.size+1+1) #[.func (.func 209) #[] #[.pointer (some ⟨w.heap.size,0,none⟩),.pointer (some ⟨w.heap.size+1,0,none⟩)]] 22:=by rw[hw3,←z2];exact eI.new w2 O (fun k hk=>by have:=N3 k hk;omega) _ _
 have f13:=(f1.trans f2 (Ext.refl _ _)).trans f3 (Ext.refl _ _);have YR:Below w.heap.size w w3:=by
  rw[hw3,hw2,dZ];exact(((Below.refl _ _).alloc (ai _) _).alloc (by simp) _).alloc (by simp;omega) _
 have b13:=(b1.later f2 (Ext.refl _ _)).later f3 (Ext.refl _ _);have b23:=b2.later f3 (Ext.refl _ _);have hbO :∀k,k=b∨k=n→O k:=fun k hk=>(hO k).2 (hk.elim (fun e=>.inl (e▸hp.at_)) (fun e=>.inr (e▸hn.at_)))
 have HM:=aa (NZ b n w.heap.size (w.heap.size+1) Op On O { sh with kids:=ks} t ts T w3 (hp.below YR) (hn.below YR) hd hbO b13 b23);have c23:=b23.cell 0;have c33:=b3.cell 0;have BX1:=aa b13;have BX2:=aa b23;have BX3:=aa b3;have F3:=aa f13;have HO:=aa hO;have HD:=aa hd;have HL:=aa hl;have HC:=aa hc;have HBO:=aa hbO;have CB:=aa hn.at_;have HPW:=aa hp.own;have HNW:=aa hn.own;have hnw:n<w.heap.size:=(hn.own n hn.at_).2;have DA:b<n:=(hn.own n hn.at_).1;have HWS:Hid (w.heap.size≤w3.heap.size):=aa f13.size;have pz:=enters_of Tryz.func209 (by kernel_rfl) rfl
 unfold Enters at pz;dsimp only[show({ sh with kids:=ks}:Nd).num=sh.num from rfl] at HM
 rw[fF] at HM;cases h3:ax [46,46,46] t with
 | true =>
  rw[show ky (0,t::ts)=(true,1,ts) from by simp[ky,h3]] at HM
  have HK:=aa (TT h3);rw[hw3,hw2,dZ] at HM;obtain⟨q1,q2,q3⟩:=xD w (.cells #[.pointer (some ⟨b,0,none⟩)] 116) (.cells #[.pointer (some ⟨n,0,none⟩)] 120) .nilFunc (.func (.func 209) #[] #[.pointer (some ⟨w.heap.size,0,none⟩),.pointer (some ⟨w.heap.size+1,0,none⟩)]) 22;clear hr hp hn hl hc TT hno fF h3 c23 c33 BX1 BX2 BX3 f1 f2 f3 f13 z1 z2 b1 b2 b3 b13 b23 hbO YR hO hd N3;go_enter Tryz.func181,Tryz.ntmps181
  go_wp2_with fail
  refine HM.out.mono ?_;rintro e w4 ⟨rfl,p4,n4,f4⟩;rw[←dZ,←hw2,←hw3] at f4;have P4:=aa p4;have N4:=aa n4;have F4:=aa (F3.out.trans (f4.mono HBO.out) (Ext.refl _ _));clear p4 n4 f4 dZ hw2 hw3;go_wp2_with fail
  go_ret
  exact⟨F4.out,.inl ⟨_,O,rfl,⟨Op,On,T,ks,HO.out,HD.out,P4.out,N4.out,HL.out,HC.out⟩,Ext.refl _ _,HK.out⟩⟩
 | false =>
  rw[show ky (0,t::ts)=(false,0,t::ts) from by simp[ky,h3]] at HM
  obtain⟨jG,m,hm,hk⟩:=hno h3;have HK:=aa hk;have HNL:=aa jG;rw[hw3,hw2,dZ] at HM;obtain⟨q1,q2,q3⟩:=xD w (.cells #[.pointer (some ⟨b,0,none⟩)] 116) (.cells #[.pointer (some ⟨n,0,none⟩)] 120) .nilFunc (.func (.func 209) #[] #[.pointer (some ⟨w.heap.size,0,none⟩),.pointer (some ⟨w.heap.size+1,0,none⟩)]) 22;clear hr hp hn hl hc TT hno fF h3 c23 c33 f1 f2 f3 f13 z1 z2 b1 b2 b3 b13 b23 hbO YR hO hd N3 hk jG;have HMD:=aa hm;go_enter Tryz.func181,Tryz.ntmps181
  go_wp2_with fail
  refine HM.out.mono ?_;rintro e w4 ⟨rfl,p4,n4,f4⟩;rw[←dZ,←hw2,←hw3] at f4;have fO:=f4.mono HBO.out;have bx1:=BX1.out.later fO (Ext.refl _ _);have bx2:=BX2.out.later fO (Ext.refl _ _);have bx3:=BX3.out.later fO (Ext.refl _ _);have c14:=bx1.cell 0;have HRW:=aa (xu b n Op On _ (t::ts) T (.func (.func 210) #[] #[.pointer (some ⟨w.heap.size,0,none⟩),.pointer (some ⟨w.heap.size+1+1,0,none⟩)]) pE _ E m HMD.out w4 p4 n4 HD.out (IV HD.out HBO.out bx1 bx2 bx3) HK.out);have abb:=aa bx2;have F4:=aa (F3.out.trans fO (Ext.refl _ _));have hw4s:w.heap.size+1+1<w4.heap.size:=(aJ.1 bx3.1).1;clear p4 n4 f4 fO bx1 bx2 bx3 dZ hw2 hw3 q1 q2 q3 HM BX1 BX2 BX3;go_wp2_with fail
  refine HRW.out.mono ?_;rintro e w5 ⟨f5,mm,n5,h5⟩;have fO5:=f5.mono HBO.out;have F5:=aa (F4.out.trans fO5 (Ext.refl _ _));have c25:=(abb.out.later fO5 (Ext.refl _ _)).cell 0;have N5:=aa n5;obtain⟨nv,kv,ha,hi⟩:=n5.ex;obtain⟨nv',kv',hcs,_,hz⟩:=n5.cells;have ade:=n5.at_;have Wt:=n5.own;have hnl5:n<w5.heap.size:=(n5.own n n5.at_).2;obtain⟨A5,k5,rfl,_⟩:=bC hi.names;have c55:w5.cell? ⟨n,5,none⟩=some (.slice A5 sh.names.length k5):=by simp[World.cell?,ha,aO]
  have z55:w5.frozen? ⟨n,5,none⟩=false:=by simp[World.frozen?,ha]
  have hgx:w.heap.size+1≠n:=by omega
  have hg2l:w.heap.size+1<w5.heap.size:=by have:=f5.size;omega
  have adf:sh.names.length≤100000:=HNL.out;have adg:=aa (abb.out.later fO5 (Ext.refl _ _));have YP:Hid (∀k,On k→O k):=aa fun k hk=>(HO.out k).2 (.inr hk)
  have HI:=aa hi;have HST:=aa (fun W4 hf=>TR (W4:=W4) ha hi ade Wt hf)
  have c25n:(w5.cell? ⟨w.heap.size+1,0,none⟩)=some (.pointer (some ⟨n,0,none⟩)):=c25;clear c25 hcs hz n5 f5 fO5 c14 ha hi Wt;rcases h5 with ⟨v,xs,YL,rfl,p5,r5,o5,ne5,len5,k5'⟩ | ⟨l,er,rfl,⟨g',rfl,m1,m2⟩,k5'⟩
  ·obtain⟨Av,cv,rfl,_⟩:=bC r5
   have P5:=aa p5;have R5:=aa r5;have O5:=aa o5;have NE:=aa ne5;have K5:=aa k5';have uW:b+1≤w5.heap.size:=by omega
   clear p5 r5 o5 ne5 k5';go_wp2_with fail
   go_region_law ((refine Iw _ (by rfl) _ _ (by rfl) b (.slice A5 sh.names.length k5) (.slice Av xs.length cv) sh.names xs (by rfl) HI.out.names HI.out.nz (by rfl) R5.out NE.out (by omega) (by omega) uW ?_;intro g6 c6 w6 r6 f6 o6 l6;have f6':az (fun k=>(Value.slice A5 sh.names.length k5).ownBlock=some k) w5 w6:=az.trans (az.ae (O:=fun k=>(Value.slice A5 sh.names.length k5).ownBlock=some k) (by exact⟨rfl,rfl,rfl,ai _,fun _ _=>rfl⟩)) f6 (Ext.refl _ _);obtain⟨fo,c56,z56,hn6,fr6,A0⟩:=HST.out w6 f6';have c26:=(adg.out.later (fo.mono YP.out) (Ext.refl _ _)).cell 0;have FO:=aa fo;have FR6:=aa (fr6 (.slice (some ⟨g6,0,none⟩) (sh.names.length+xs.length) c6));have HU:=aa (A0 g6 _ c6 _ r6 (fun e=>NE.out (EA.1 e).2));have O6:=aa o6;have L6:=aa l6;clear r6 f6 f6' o6 l6 fo fr6 A0))
   all_goals
    go_wp2
    go_ret
    have Iu :∀k,On k→O k:=fun k hk=>(HO.out k).2 (.inr hk)
    have Wu:On g6∨w5.heap.size≤g6:=by
     rcases O6.out with ⟨h1,h2⟩|h1
     ·rcases HI.out.on g6 h1 with h|h
      ·exact .inl h
      ·exact(h2 h).elim
     ·exact .inr h1
    have p6:PS w6 b Op YL T:=P5.out.kept FO.out HD.out (fun k hk=>fx (HNW.out k hk).1)
    refine⟨(F5.out.trans (FO.out.mono Iu) (Ext.refl _ _)).trans FR6.out (fun k hk=>.inl (hk▸(HO.out n).2 (.inr CB.out))),.inl ⟨_,fun k=>Op k∨(On k∨k=g6),rfl,⟨Op,fun k=>On k∨k=g6,T,ks,fun _=>Iff.rfl,fun k hk h=>?_,?_,HU.out,HL.out,HC.out⟩,fun k hk=>?_,K5.out⟩⟩
    ·rcases h with h|rfl
     ·exact HD.out k hk h
     ·rcases Wu with h|h
      ·exact HD.out _ hk h
      ·have:=(P5.out.own _ hk).2;omega
    ·exact p6.kept (O1:=(· = n)) FR6.out (fun k hk e=>HD.out k hk (e▸CB.out)) fun k e=>by omega
    ·rcases hk with hk|hk|rfl
     ·exact .inl ((HO.out k).2 (.inl hk))
     ·exact .inl (Iu k hk)
     ·rcases Wu with h|h
      ·exact .inl (Iu _ h)
      ·exact .inr (by have:=F5.out.size;omega)
  ·have M2:=aa m2
   have K5:=aa k5';have S5:g'≠n:=by have:=F4.out.size;omega
   clear m2 k5';go_wp2_with fail
   go_region_law (refine IW _ (by rfl) _ _ (by rfl) b (.slice A5 sh.names.length k5) sh.names (by rfl) HI.out.names (by rfl) ?_)
   all_goals
    go_wp2
    go_ret
    exact⟨F5.out.trans (N5.out.fr 5 (.slice A5 sh.names.length k5)).drew (fun k hk=>.inl (hk▸(HO.out n).2 (.inr CB.out))),.inr ⟨l,_,rfl,⟨g',rfl,by have:=F4.out.size;omega,(Below.heap_setCell _ _ _ g' S5).trans M2.out⟩,K5.out⟩⟩
theorem rN (w:World) (g:Nat) (hg:g=w.heap.size) (b:Nat) (O:Nat→Prop) (hO :∀k,O k→k<w.heap.size) (x:List UInt8) (hx:x≠[]) (X:ByteArray) (hX:X=bu x) :
  Calls Tryz.prog 89 #[.pointer (some ⟨b,0,none⟩),.slice (some ⟨g,0,none⟩) 1 1] (w.alloc (.cells #[.string X] 9)) (kt b O (av [x]) w):=by
 subst hg;exact cr w b O hO x hx X hX
theorem Real.nms {W:World} {b n:Nat} {O:Nat→Prop} {T0:List Nd} {s:St} (h:Real W b n O T0 s):n<W.heap.size∧∃A c,W.cell? ⟨n,5,none⟩=some (.slice A s.h.names.length c):=by
 obtain⟨Op,On,T,ks,hO,hd,hp,hn,hl,hc⟩:=h.ex;obtain⟨nv,kv,hcs,hi,hz⟩:=hn.cells;obtain⟨A,c,rfl,_⟩:=bC hi.names;exact⟨(hn.own n hn.at_).2,A,c,hcs.c5⟩
def xE (li:bV):bV:=fun s K E=>aI [av [wIn],li,eo] { s with h:={ s.h with kind:=27}} K E
def TU (ex li:bV):bV:=fun s K E=>(s.h.names.length=1→∃t ts,s.ts=t::ts∧(ax [61] t=true→aI [ex,av [[44]],ex,bw [44] [ex]] { s with h:={ s.h with kind:=26},ts:=ts} K E)∧(ax [61] t=false→xE li s K E))∧(s.h.names.length≠1→xE li s K E)
theorem IX {ex:bV} (hE:eA 91 ex) (b n:Nat) (O:Nat→Prop) (T0:List Nd) (s:St) (K:St→Prop) (E:Int→Prop) (w:World) (hr:Real w b n O T0 s) (hl:s.h.names.length=1) (t:ah) (ts:List ah) (hs:s.ts=t::ts) (hq:ax [61] t=true) (hk:aI [ex,av [[44]],ex,bw [44] [ex]] { s with h:={ s.h with kind:=26},ts:=ts} K E):
  Calls Tryz.prog 94 #[.pointer (some ⟨b,0,none⟩),.pointer (some ⟨n,0,none⟩)] w (bA b n O T0 K E w):=by
 obtain⟨hnw,A5,c5',c5⟩:=hr.nms;rw[hl] at c5;have HT:=aa (lk hr hs [61] ⟨#[61]⟩ rfl (by decide) hq)
 have HK:=aa hk;clear hr hk hs hq hl;go_enter Tryz.func94,Tryz.ntmps94
 go_wp2_with fail
 refine HT.out.mono ?_;rintro e wx ⟨rfl,r2,f2⟩;have FF:=aa f2;have R:=aa r2;clear r2 f2 c5;obtain⟨⟨v0,k0⟩,y0,jG,f4,r4⟩:=R.out.kind 26;have F0:=aa (FF.out.trans f4 (Ext.refl _ _));have P0:=aa r4;have V1:=aa (rN _ wx.heap.size (by simp) b O r4.lt [44] (by decide) ⟨#[44]⟩ rfl)
 clear f4 r4;go_wp2_with fail
 refine V1.out.mono ?_;rintro e w1 ⟨f1,a1,c1,rfl,b1,h1⟩;have F1:=aa (F0.out.trans (az.ae (O:=O) b1) (Ext.refl _ _));have P1:=aa (P0.out.below b1);have H1:=aa h1;clear b1 h1 V1 k0 y0;have rF :∀k,O k→k<w1.heap.size:=P1.out.lt;have V2:=aa (pG w1 b O rF [aX 91 b] [ex] (by simp) ⟨hE.part (enters_of Tryz.func91 (by kernel_rfl) rfl) w1 b O,trivial⟩ [44] (by decide) ⟨#[44]⟩ rfl)
 clear rF;go_wp2_with fail
 refine V2.out.mono ?_;rintro e w2 ⟨f2,a2,c2,rfl,b2,h2⟩;have F2:=aa (F1.out.trans (az.ae (O:=O) b2) (Ext.refl _ _));have P2:=aa (P1.out.below b2);have L1:=aa (H1.out.later (az.ae (O:=O) b2) (Ext.refl _ _));clear H1;have H1:=L1;clear L1;have H2:=aa h2;clear b2 h2 V2;have HN:=aa (jn w w2 P2.out F2.out (Ext.refl _ _) [aX 91 b,.func (.func f1) a1 c1,aX 91 b,.func (.func f2) a2 c2] [ex,av [[44]],ex,bw [44] [ex]] (by simp) ⟨hE.part (enters_of Tryz.func91 (by kernel_rfl) rfl) w2 b O,H1.out,hE.part (enters_of Tryz.func91 (by kernel_rfl) rfl) w2 b O,H2.out,trivial⟩ HK.out)
 go_wp2_with fail
 refine HN.out.mono ?_;intro e wz hz;obtain⟨v,rfl⟩:=hz.ret;have HZ:=aa hz;clear hz;go_wp2_with fail
 go_ret
 exact HZ.out
theorem DL {li:bV} (hL:eA 84 li) (b n:Nat) (O:Nat→Prop) (T0:List Nd) (s:St) (K:St→Prop) (E:Int→Prop) (w:World) (hr:Real w b n O T0 s) (hl:s.h.names.length=1) (t:ah) (ts:List ah) (hs:s.ts=t::ts) (hq:ax [61] t=false) (hk:xE li s K E):
  Calls Tryz.prog 94 #[.pointer (some ⟨b,0,none⟩),.pointer (some ⟨n,0,none⟩)] w (bA b n O T0 K E w):=by
 obtain⟨hnw,A5,c5',c5⟩:=hr.nms;rw[hl] at c5;have HT:=aa (oy hr hs [61] ⟨#[61]⟩ rfl (by decide) hq)
 unfold xE at hk;have HK:=aa hk;clear hr hk hs hq hl;go_enter Tryz.func94,Tryz.ntmps94
 go_wp2_with fail
 refine HT.out.mono ?_;rintro e wx ⟨rfl,r2,f2⟩;have FF:=aa f2;have R:=aa r2;clear r2 f2 c5;obtain⟨⟨v0,k0⟩,y0,jG,f4,r4⟩:=R.out.kind 27;have F0:=aa (FF.out.trans f4 (Ext.refl _ _));have P0:=aa r4;have V1:=aa (rN _ wx.heap.size (by simp) b O r4.lt [105,110] (by decide) ⟨#[105,110]⟩ rfl)
 clear f4 r4;go_wp2_with fail
 refine V1.out.mono ?_;rintro e w1 ⟨f1,a1,c1,rfl,b1,h1⟩;have F1:=aa (F0.out.trans (az.ae (O:=O) b1) (Ext.refl _ _));have P1:=aa (P0.out.below b1);have H1:=aa h1;clear b1 h1 V1 k0 y0;have HN:=aa (jn w w1 P1.out F1.out (Ext.refl _ _) [.func (.func f1) a1 c1,aX 84 b,.func (.func 150) #[] #[]] [av [[105,110]],li,eo] (by simp) ⟨H1.out,hL.part (enters_of Tryz.func84 (by kernel_rfl) rfl) w1 b O,jK w1 b O,trivial⟩ HK.out)
 go_wp2_with fail
 refine HN.out.mono ?_;intro e wz hz;obtain⟨v,rfl⟩:=hz.ret;have HZ:=aa hz;clear hz;go_wp2_with fail
 go_ret
 exact HZ.out
theorem DM {li:bV} (hL:eA 84 li) (b n:Nat) (O:Nat→Prop) (T0:List Nd) (s:St) (K:St→Prop) (E:Int→Prop) (w:World) (hr:Real w b n O T0 s) (hl:s.h.names.length≠1) (hk:xE li s K E):
  Calls Tryz.prog 94 #[.pointer (some ⟨b,0,none⟩),.pointer (some ⟨n,0,none⟩)] w (bA b n O T0 K E w):=by
 obtain⟨hnw,A5,c5',c5⟩:=hr.nms;have q1:((s.h.names.length:Int) == 1)=false:=aE.2 (by omega)
 unfold xE at hk;have HK:=aa hk;have R:=aa hr;have FF:=aa (az.refl O w);clear hr hk hl;go_enter Tryz.func94,Tryz.ntmps94
 obtain⟨⟨v0,k0⟩,y0,jG,f4,r4⟩:=R.out.kind 27;have F0:=aa (FF.out.trans f4 (Ext.refl _ _));have P0:=aa r4;have V1:=aa (rN _ w.heap.size (by simp) b O r4.lt [105,110] (by decide) ⟨#[105,110]⟩ rfl)
 clear f4 r4;go_wp2_with fail
 refine V1.out.mono ?_;rintro e w1 ⟨f1,a1,c1,rfl,b1,h1⟩;have F1:=aa (F0.out.trans (az.ae (O:=O) b1) (Ext.refl _ _));have P1:=aa (P0.out.below b1);have H1:=aa h1;clear b1 h1 V1 k0 y0;have HN:=aa (jn w w1 P1.out F1.out (Ext.refl _ _) [.func (.func f1) a1 c1,aX 84 b,.func (.func 150) #[] #[]] [av [[105,110]],li,eo] (by simp) ⟨H1.out,hL.part (enters_of Tryz.func84 (by kernel_rfl) rfl) w1 b O,jK w1 b O,trivial⟩ HK.out)
 go_wp2_with fail
 refine HN.out.mono ?_;intro e wz hz;obtain⟨v,rfl⟩:=hz.ret;have HZ:=aa hz;clear hz;go_wp2_with fail
 go_ret
 exact HZ.out
theorem N9 {ex li:bV} (hE:eA 91 ex) (hL:eA 84 li):eA 94 (TU ex li):=by
 rintro b n O T0 s K E w hr ⟨h1,h2⟩;by_cases hl:s.h.names.length=1
 ·obtain⟨t,ts,hs,hy,hn⟩:=h1 hl
  cases hq:ax [61] t with
  | true=>exact IX hE b n O T0 s K E w hr hl t ts hs hq (hy hq)
  | false=>exact DL hL b n O T0 s K E w hr hl t ts hs hq (hn hq)
 ·exact DM hL b n O T0 s K E w hr hl (h2 hl)
theorem aM.yJ {w:World} {b:Nat} {O:Nat→Prop} (g:Nat) (hg:g=w.heap.size) (hO :∀k,O k→k<w.heap.size) (vs:List Value) (cI:List bV) (hl:vs.length≤100) (h:jL w b O vs cI):aM (w.alloc (.cells vs.toArray 122)) b O (.slice (some ⟨g,0,none⟩) vs.length vs.length) cI:=by
 subst hg;exact aM.new hO vs cI hl h
def IY (li bd:bV):bV:=fun s K E=>∃t ts,s.ts=t::ts∧(ax bc t=false→aI [iC,bw [61] [li]] { s with h:={ s.h with kind:=19}} K E) ∧
 (ax bc t=true→∃u us,ts=u::us∧(u.1≠1→E u.2.1)∧(u.1=1→dp (dQ ⟨11,t.2.1,0,0,⟨#[]⟩,[],[]⟩ [bd]) { s with h:={ s.h with kind:=28,names:=[bu u.2.2.2]},ts:=us} K E))
theorem uX {W:World} {b n:Nat} {O:Nat→Prop} {T0:List Nd} {s:St} (h:Real W b n O T0 s) {t:ah} {ts:List ah} (hs:s.ts=t::ts):Calls Tryz.prog 34 #[.pointer (some ⟨b,0,none⟩)] W fun e w'=>e=.returned (fY t)∧Below W.heap.size W w':=by
 obtain⟨Op,T,hp⟩:=h.ps;rw[hs] at hp;exact cz b Op t ts T W hp
theorem DN {li:bV} (hL:eA 84 li) (b n:Nat) (O:Nat→Prop) (T0:List Nd) (s:St) (K:St→Prop) (E:Int→Prop) (w:World) (hr:Real w b n O T0 s) (t:ah) (ts:List ah) (hs:s.ts=t::ts) (hq:ax bc t=false) (hk:aI [iC,bw [61] [li]] { s with h:={ s.h with kind:=19}} K E) :
  Calls Tryz.prog 96 #[.pointer (some ⟨b,0,none⟩),.pointer (some ⟨n,0,none⟩)] w (bA b n O T0 K E w):=by
 have HA:=aa (uX hr hs);have HT:=aa (fun(W:World) (hW:Real W b n O T0 s)=>oy hW hs bc ⟨#[102,117,110,99,116,105,111,110]⟩ rfl (by decide) hq)
 have HK:=aa hk;have HR:=aa hr;obtain⟨t0,t1,t2,t3⟩:=t;unfold fY at HA;dsimp only at HA
 have F9:=MG t0 t1 t2 (bu t3);generalize bu t3=S at *;clear hr hk hs hq;go_enter Tryz.func96,Tryz.ntmps96
 go_wp2_with fail
 refine HA.out.mono ?_;rintro e wa ⟨rfl,b1⟩;have B1:=aa b1;have A9:=aa (HT.out wa (HR.out.below b1));clear b1 HT;go_wp2_with fail
 refine A9.out.mono ?_;rintro e wx ⟨rfl,r2,f2⟩;obtain⟨⟨v0,k0⟩,y0,jG,f4,r4⟩:=r2.kind 19;have F0:=aa ((az.ae (O:=O) B1.out).trans (f2.trans f4 (Ext.refl _ _)) (Ext.refl _ _));have P0:=aa r4;have V1:=aa (sO _ wx.heap.size (by simp) b O r4.lt [aX 84 b] [li] (by simp) ⟨hL.part (enters_of Tryz.func84 (by kernel_rfl) rfl) _ b O,trivial⟩ [61] (by decide) ⟨#[61]⟩ rfl)
 clear f2 r2 f4 r4;go_wp2_with fail
 refine V1.out.mono ?_;rintro e w1 ⟨f1,a1,c1,rfl,b1,h1⟩;have F1:=aa (F0.out.trans (az.ae (O:=O) b1) (Ext.refl _ _));have P1:=aa (P0.out.below b1);have HN:=aa (jn w w1 P1.out F1.out (Ext.refl _ _) [aX 93 b,.func (.func f1) a1 c1] [iC,bw [61] [li]] (by simp) ⟨FN.part (enters_of Tryz.func93 (by kernel_rfl) rfl) w1 b O,h1,trivial⟩ HK.out)
 clear b1 h1 V1 k0 y0;go_wp2_with fail
 refine HN.out.mono ?_;intro e wz hz;obtain⟨v,rfl⟩:=hz.ret;have HZ:=aa hz;clear hz;go_wp2_with fail
 go_ret
 exact HZ.out
theorem Real.Oa {W:World} {b n:Nat} {O:Nat→Prop} {T0:List Nd} {s:St} (h:Real W b n O T0 s) (S:ByteArray):n<W.heap.size∧(∃v,W.cell? ⟨n,5,none⟩=some v)∧W.frozen? ⟨n,5,none⟩=false ∧
  az O W ((W.setCell ⟨n,5,none⟩ (.slice (some ⟨W.heap.size,0,none⟩) 1 1)).alloc (.cells #[.string S] 9))∧∃O2,Ext O O2 W∧Real ((W.setCell ⟨n,5,none⟩ (.slice (some ⟨W.heap.size,0,none⟩) 1 1)).alloc (.cells #[.string S] 9)) b n O2 T0 { s with h:={ s.h with names:=[S]}}:=by
 have hlt:=h.lt;obtain⟨Op,On,T,ks,hO,hd,hp,hn,hl,hc⟩:=h.ex;obtain⟨nv,kv,hcs,_,hz⟩:=hn.cells;have jG:=(hn.own n hn.at_).2;have DA:=(hn.own n hn.at_).1;have hpA:=hp.below (aV W (.cells #[.string S] 9));have hnA:=hn.below (aV W (.cells #[.string S] 9));have hb1:b+1≤W.heap.size:=(hp.own b hp.at_).2;have hrow:jM (W.alloc (.cells #[.string S] 9)) b (.slice (some ⟨W.heap.size,0,none⟩) 1 1) [S]:=⟨rfl,.inr ⟨W.heap.size,1,#[.string S],rfl,hb1,World.alloc_heap_new W _,ai _,by unfold maxLen;omega,rfl,rfl⟩⟩
 have A0:=Be hnA _ [S] hrow (by simp)
 have mT:=hnA.fr 5 (.slice (some ⟨W.heap.size,0,none⟩) 1 1);have sK:=hpA.kept (O1:=(· = n)) mT (fun k hk e=>hd k hk (e▸hn.at_)) fun k e=>by omega
 rw[World.setCell_alloc_past _ _ _ _ jG] at A0 mT sK;refine⟨jG,⟨_,hcs.c5⟩,hz 5,((az.refl O W).alloc _).trans mT (fun k e=>.inl ((hO k).2 (.inr (e▸hn.at_)))),fun k=>Op k∨(On k∨(Value.slice (some ⟨W.heap.size,0,none⟩) 1 1).ownBlock=some k),fun k hk=>?_,Op,_,T,ks,fun _=>Iff.rfl,fun k hk e=>?_,sK,A0,hl,hc⟩
 ·rcases hk with hk|hk|hk
  ·exact .inl ((hO k).2 (.inl hk))
  ·exact .inl ((hO k).2 (.inr hk))
  ·exact .inr (by simp[Value.ownBlock] at hk;omega)
 ·rcases e with e|e
  ·exact hd k hk e
  ·have:=(hp.own k hk).2
   simp[Value.ownBlock] at e;omega
theorem IZ {W:World} {b n:Nat} {O:Nat→Prop} {T0:List Nd} {s:St} (h:Real W b n O T0 s) {t:ah} {ts:List ah} (hs:s.ts=t::ts):Calls Tryz.prog 146 #[.pointer (some ⟨b,0,none⟩)] W fun e w'=>az O W w' ∧
  ((t.1=1∧e=.returned (.tuple #[.string (bu t.2.2.2),.nilIface])∧Real w' b n O T0 { s with ts:=ts})∨(t.1≠1∧∃er,e=.returned (.tuple #[.string ⟨#[]⟩,er])∧SD W.heap.size w' er t.2.1)):=by
 obtain⟨Op,On,T,ks,hO,hd,hp,hn,hl,hc⟩:=h.ex;rw[hs] at hp;refine(Dt b Op t ts T W hp).mono ?_;rintro e w' ⟨hf,h1⟩;refine⟨hf.mono fun k hk=>(hO k).2 (.inl (hk▸hp.at_)),h1.imp ?_ id⟩
 rintro⟨a1,a2,a3⟩;exact⟨a1,a2,⟨Op,On,T,ks,hO,hd,a3,hn.kept hf fun k hk e=>hd b hp.at_ (e▸hk),hl,hc⟩⟩
theorem I0 {bd:bV} (DI:eA 152 bd) (b n:Nat) (O:Nat→Prop) (T0:List Nd) (s:St) (K:St→Prop) (E:Int→Prop) (w:World) (hr:Real w b n O T0 s) (t u:ah) (us:List ah) (hs:s.ts=t::u::us) (hq:ax bc t=true) (pw:u.1≠1→E u.2.1)
  (hk:u.1=1→dp (dQ ⟨11,t.2.1,0,0,⟨#[]⟩,[],[]⟩ [bd]) { s with h:={ s.h with kind:=28,names:=[bu u.2.2.2]},ts:=us} K E) :
  Calls Tryz.prog 96 #[.pointer (some ⟨b,0,none⟩),.pointer (some ⟨n,0,none⟩)] w (bA b n O T0 K E w):=by
 have HA:=aa (uX hr hs);have HT:=aa (fun(W:World) (hW:Real W b n O T0 s)=>lk hW hs bc ⟨#[102,117,110,99,116,105,111,110]⟩ rfl (by decide) hq)
 have HK:=aa hk;have HB:=aa pw;have HR:=aa hr;obtain⟨t0,t1,t2,t3⟩:=t;unfold fY at HA;dsimp only at HA HK
 have F9:=MG t0 t1 t2 (bu t3);generalize bu t3=S at *;clear hr hk hs hq pw;go_enter Tryz.func96,Tryz.ntmps96
 go_wp2_with fail
 refine HA.out.mono ?_;rintro e wa ⟨rfl,b1⟩;have B1:=aa b1;have A9:=aa (HT.out wa (HR.out.below b1));clear b1 HT;go_wp2_with fail
 refine A9.out.mono ?_;rintro e wx ⟨rfl,r2,f2⟩;obtain⟨⟨v0,k0⟩,y0,jG,f4,r4⟩:=r2.kind 28;have F0:=aa ((az.ae (O:=O) B1.out).trans (f2.trans f4 (Ext.refl _ _)) (Ext.refl _ _));have HNm:=aa (IZ r4 rfl);clear f2 r2 f4 r4;go_wp2_with fail
 refine HNm.out.mono ?_;rintro e w1 ⟨f5,h5⟩;have F1:=aa (F0.out.trans f5 (Ext.refl _ _));rcases h5 with ⟨g1,rfl,r5⟩ | ⟨g1,er,rfl,⟨g',rfl,m1,m2⟩⟩
 ·obtain⟨S2,hS2⟩ :∃S2,S2=bu u.2.2.2:=⟨_,rfl⟩
  rw[←hS2];have Q8:=HK.out g1;rw[←hS2] at Q8;have zH:=aa Q8;obtain⟨tz,⟨v5,k5⟩,y5,f6,O2,x2,r6⟩:=r5.Oa S2;have X2:Hid (Ext O O2 w):=aa ((Ext.refl O w).trans x2 F1.out.size);have F6:=aa (F1.out.trans f6 (Ext.refl _ _));have HP:=aM.yJ (w:=(w1.setCell ⟨n,5,none⟩ (.slice (some ⟨w1.heap.size,0,none⟩) 1 1)).alloc (.cells #[.string S2] 9)) (b:=b) (O:=O2) (w1.heap.size+1) (by simp) r6.lt [aX 152 b] [bd] (by simp) ⟨DI.part (enters_of Tryz.func152 (by kernel_rfl) rfl) _ b O2,trivial⟩
  have HH:=aa (rG b O2 ⟨11,t1,0,0,⟨#[]⟩,[],[]⟩ (.slice none 0 0) _ [bd] _ (zE.nil _ b) HP (fun k hk=>by have:=r6.lt k hk;simp at this ⊢;omega))
  have R6:=aa r6;clear HP r6 f6 r5 f5 Q8 hS2 k0 y0 x2;go_wp2_with fail
  refine HH.out.mono ?_;rintro e w7 ⟨v,rfl,b7,h7⟩;obtain⟨f,first,cap,rfl,pz,bs⟩:=h7.1.call R6.out (aB (aV _ _) b7) zH.out
  have dW:=aa bs;clear h7 bs b7;unfold Enters at pz;go_wp2_with fail
  refine dW.out.mono ?_;intro e w8 h8;obtain⟨v,rfl⟩:=h8.ret;have H8:=aa h8;clear h8;go_wp2_with fail
  go_ret
  exact Bc H8.out F6.out X2.out
 ·have M2:=aa m2
  have M1:=aa m1;have KB:=aa (HB.out g1);clear m1 m2 f5 k0 y0;go_wp2_with fail
  go_ret
  exact⟨F1.out,.inr ⟨_,_,rfl,⟨g',rfl,aK F0.out.size M1.out,M2.out⟩,KB.out⟩⟩
theorem DO {li bd:bV} (hL:eA 84 li) (DI:eA 152 bd):eA 96 (IY li bd):=by
 rintro b n O T0 s K E w hr ⟨t,ts,hs,h1,h2⟩;cases hq:ax bc t with
 | true =>
  obtain⟨u,us,rfl,h3,h4⟩:=h2 hq;exact I0 DI b n O T0 s K E w hr t u us hs hq h3 h4
 | false=>exact DN hL b n O T0 s K E w hr t ts hs hq (h1 hq)
end Go.Proofs.YteflkdlaoiijbaaGreatDoor
