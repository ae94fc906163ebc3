/- Parts of the proof. -/
import Derived.LaidEql
import Derived.Stop.Asserts
import Derived.RowKitTokens
import Derived.Test.YteflkdlaoiijbaaGreatDoorK07
set_option maxHeartbeats 16000000
set_option maxRecDepth 20000
namespace Go.Proofs.YteflkdlaoiijbaaGreatDoor
open Go.RowKit
set_option maxRecDepth 40000 in
theorem Io  (b:Nat) (O:Nat→Prop) (t:aj) (ts:List aj) (T:List Nd) (K:Ast→List aj→Prop) (E:Int→Prop) (w:World) (hp:PS w b O (t::ts) T) (hq:aw oY t=true)
  (hk:aK [aD] ⟨dA 30 t.2.1,[],t::ts,T.length⟩ (ca K) E) :
  Calls Tryz.prog 44 #[.pointer (some ⟨b,0,none⟩)] w (aG b O T (RK K E) w):=by
 have HW:=aa (bS b O t ts T w hp);have g1:((ag t).toList == [98,114,101,97,107])=true:=ai (s:=oY) (by decide) t hq
 have HK:=aa hk;generalize hY:ag t=Y at *;have P:=aa hp;clear hp hk hY hq;go_enter Tryz.func44,Tryz.ntmps44
 go_wp2_with fail
 refine HW.out.mono ?_;rintro e w0 ⟨rfl,b0⟩;have F0:=aa (ay.ae (O:=O) b0);have P0:=aa (P.out.below b0);clear b0;have HN:=aa (cH w w0 P0.out F0.out (mu 30) rfl [aZ 40 b] [aD] (by simp) ⟨ba w0 b O,trivial⟩ HK.out)
 go_wp2_with fail
 refine HN.out.mono ?_;intro e wz hz;obtain⟨v,er,rfl⟩:=hz.ret;have HZ:=aa hz;clear hz;go_wp2_with fail
 go_ret2
 exact HZ.out
set_option maxRecDepth 40000 in
theorem MZ  (b:Nat) (O:Nat→Prop) (t:aj) (ts:List aj) (T:List Nd) (K:Ast→List aj→Prop) (E:Int→Prop) (w:World) (hp:PS w b O (t::ts) T) (hq:aw sC t=true)
  (hk:aK [aD,cQ] ⟨dA 31 t.2.1,[],t::ts,T.length⟩ (ca K) E) :
  Calls Tryz.prog 44 #[.pointer (some ⟨b,0,none⟩)] w (aG b O T (RK K E) w):=by
 have HW:=aa (bS b O t ts T w hp);have g1:=aQ [98,114,101,97,107] hq (by decide)
 have g2:((ag t).toList == [103,111,116,111])=true:=ai (s:=sC) (by decide) t hq
 have HK:=aa hk;generalize hY:ag t=Y at *;have P:=aa hp;clear hp hk hY hq;go_enter Tryz.func44,Tryz.ntmps44
 go_wp2_with fail
 refine HW.out.mono ?_;rintro e w0 ⟨rfl,b0⟩;have F0:=aa (ay.ae (O:=O) b0);have P0:=aa (P.out.below b0);clear b0;have HN:=aa (cH w w0 P0.out F0.out (mu 31) rfl [aZ 40 b,aZ 88 b] [aD,cQ] (by simp) ⟨ba w0 b O,ij w0 b O,trivial⟩ HK.out)
 go_wp2_with fail
 refine HN.out.mono ?_;intro e wz hz;obtain⟨v,er,rfl⟩:=hz.ret;have HZ:=aa hz;clear hz;go_wp2_with fail
 go_ret2
 exact HZ.out
set_option maxRecDepth 40000 in
theorem Ip  (b:Nat) (O:Nat→Prop) (t:aj) (ts:List aj) (T:List Nd) (K:Ast→List aj→Prop) (E:Int→Prop) (w:World) (hp:PS w b O (t::ts) T) (hq:aw [58,58] t=true)
  (hk:aK [aD,cQ,au [[58,58]]] ⟨dA 32 t.2.1,[],t::ts,T.length⟩ (ca K) E) :
  Calls Tryz.prog 44 #[.pointer (some ⟨b,0,none⟩)] w (aG b O T (RK K E) w):=by
 have HW:=aa (bS b O t ts T w hp);have g1:=aQ [98,114,101,97,107] hq (by decide)
 have g2:=aQ [103,111,116,111] hq (by decide)
 have g3:((ag t).toList == [58,58])=true:=ai (s:=[58,58]) (by decide) t hq
 have HK:=aa hk;generalize hY:ag t=Y at *;have P:=aa hp;clear hp hk hY hq;go_enter Tryz.func44,Tryz.ntmps44
 go_wp2_with fail
 refine HW.out.mono ?_;rintro e w0 ⟨rfl,b0⟩;have F0:=aa (ay.ae (O:=O) b0);have P0:=aa (P.out.below b0);clear b0;have oN :∀k,O k→k<w0.heap.size:=fun k hk=>(P0.out.own k hk).2
 have V1:=aa (cE w0 b O oN [58,58] (by decide) ⟨#[58,58]⟩ rfl)
 clear oN;go_wp2_with fail
 refine V1.out.mono ?_;rintro e w1 ⟨f1,a1,c1,rfl,b1,h1⟩;have F1:=aa (F0.out.trans (ay.ae (O:=O) b1) (Ext.refl _ _));have P1:=aa (P0.out.below b1);have H1:=aa h1;clear b1 h1 V1;have HN:=aa (cH w w1 P1.out F1.out (mu 32) rfl [aZ 40 b,aZ 88 b,.func (.func f1) a1 c1] [aD,cQ,au [[58,58]]] (by simp) ⟨ba w1 b O,ij w1 b O,H1.out,trivial⟩ HK.out)
 go_wp2_with fail
 refine HN.out.mono ?_;intro e wz hz;obtain⟨v,er,rfl⟩:=hz.ret;have HZ:=aa hz;clear hz;go_wp2_with fail
 go_ret2
 exact HZ.out
set_option maxRecDepth 40000 in
theorem Xx {bl:cf} (hB:eB 90 bl) (b:Nat) (O:Nat→Prop) (t:aj) (ts:List aj) (T:List Nd) (K:Ast→List aj→Prop) (E:Int→Prop) (w:World) (hp:PS w b O (t::ts) T) (hq:aw Ct t=true)
  (hk:aK [aD,bl,au [[101,110,100]]] ⟨dA 22 t.2.1,[],t::ts,T.length⟩ (ca K) E) :
  Calls Tryz.prog 44 #[.pointer (some ⟨b,0,none⟩)] w (aG b O T (RK K E) w):=by
 have HW:=aa (bS b O t ts T w hp);have g1:=aQ [98,114,101,97,107] hq (by decide)
 have g2:=aQ [103,111,116,111] hq (by decide)
 have g3:=aQ [58,58] hq (by decide)
 have g4:((ag t).toList == [100,111])=true:=ai (s:=Ct) (by decide) t hq
 have HK:=aa hk;generalize hY:ag t=Y at *;have P:=aa hp;clear hp hk hY hq;go_enter Tryz.func44,Tryz.ntmps44
 go_wp2_with fail
 refine HW.out.mono ?_;rintro e w0 ⟨rfl,b0⟩;have F0:=aa (ay.ae (O:=O) b0);have P0:=aa (P.out.below b0);clear b0;have oN :∀k,O k→k<w0.heap.size:=fun k hk=>(P0.out.own k hk).2
 have V1:=aa (cE w0 b O oN [101,110,100] (by decide) ⟨#[101,110,100]⟩ rfl)
 clear oN;go_wp2_with fail
 refine V1.out.mono ?_;rintro e w1 ⟨f1,a1,c1,rfl,b1,h1⟩;have F1:=aa (F0.out.trans (ay.ae (O:=O) b1) (Ext.refl _ _));have P1:=aa (P0.out.below b1);have H1:=aa h1;clear b1 h1 V1;have HN:=aa (cH w w1 P1.out F1.out (mu 22) rfl [aZ 40 b,aZ 90 b,.func (.func f1) a1 c1] [aD,bl,au [[101,110,100]]] (by simp) ⟨ba w1 b O,hB.part (enters_of Tryz.func90 (by kernel_rfl) rfl) w1 b O,H1.out,trivial⟩ HK.out)
 go_wp2_with fail
 refine HN.out.mono ?_;intro e wz hz;obtain⟨v,er,rfl⟩:=hz.ret;have HZ:=aa hz;clear hz;go_wp2_with fail
 go_ret2
 exact HZ.out
set_option maxRecDepth 40000 in
theorem Iq {ex bl:cf} (hE:eB 91 ex) (hB:eB 90 bl) (b:Nat) (O:Nat→Prop) (t:aj) (ts:List aj) (T:List Nd) (K:Ast→List aj→Prop) (E:Int→Prop) (w:World) (hp:PS w b O (t::ts) T) (hq:aw oZ t=true)
  (hk:aK [aD,ex,au [[100,111]],bl,au [[101,110,100]]] ⟨dA 23 t.2.1,[],t::ts,T.length⟩ (ca K) E) :
  Calls Tryz.prog 44 #[.pointer (some ⟨b,0,none⟩)] w (aG b O T (RK K E) w):=by
 have HW:=aa (bS b O t ts T w hp);have g1:=aQ [98,114,101,97,107] hq (by decide)
 have g2:=aQ [103,111,116,111] hq (by decide)
 have g3:=aQ [58,58] hq (by decide)
 have g4:=aQ [100,111] hq (by decide)
 have g5:((ag t).toList == [119,104,105,108,101])=true:=ai (s:=oZ) (by decide) t hq
 have HK:=aa hk;generalize hY:ag t=Y at *;have P:=aa hp;clear hp hk hY hq;go_enter Tryz.func44,Tryz.ntmps44
 go_wp2_with fail
 refine HW.out.mono ?_;rintro e w0 ⟨rfl,b0⟩;have F0:=aa (ay.ae (O:=O) b0);have P0:=aa (P.out.below b0);clear b0;have oN :∀k,O k→k<w0.heap.size:=fun k hk=>(P0.out.own k hk).2
 have V1:=aa (cE w0 b O oN [100,111] (by decide) ⟨#[100,111]⟩ rfl)
 clear oN;go_wp2_with fail
 refine V1.out.mono ?_;rintro e w1 ⟨f1,a1,c1,rfl,b1,h1⟩;have F1:=aa (F0.out.trans (ay.ae (O:=O) b1) (Ext.refl _ _));have P1:=aa (P0.out.below b1);have H1:=aa h1;clear b1 h1 V1;have ry :∀k,O k→k<w1.heap.size:=fun k hk=>(P1.out.own k hk).2
 have V2:=aa (cE w1 b O ry [101,110,100] (by decide) ⟨#[101,110,100]⟩ rfl)
 clear ry;go_wp2_with fail
 refine V2.out.mono ?_;rintro e w2 ⟨f2,a2,c2,rfl,b2,h2⟩;have F2:=aa (F1.out.trans (ay.ae (O:=O) b2) (Ext.refl _ _));have P2:=aa (P1.out.below b2);have L1:=aa (H1.out.later (ay.ae (O:=O) b2) (Ext.refl _ _));clear H1;have H1:=L1;clear L1;have H2:=aa h2;clear b2 h2 V2;have HN:=aa (cH w w2 P2.out F2.out (mu 23) rfl [aZ 40 b,aZ 91 b,.func (.func f1) a1 c1,aZ 90 b,.func (.func f2) a2 c2] [aD,ex,au [[100,111]],bl,au [[101,110,100]]] (by simp) ⟨ba w2 b O,hE.part (enters_of Tryz.func91 (by kernel_rfl) rfl) w2 b O,H1.out,hB.part (enters_of Tryz.func90 (by kernel_rfl) rfl) w2 b O,H2.out,trivial⟩ HK.out)
 go_wp2_with fail
 refine HN.out.mono ?_;intro e wz hz;obtain⟨v,er,rfl⟩:=hz.ret;have HZ:=aa hz;clear hz;go_wp2_with fail
 go_ret2
 exact HZ.out
set_option maxRecDepth 40000 in
theorem Dw {bl ex:cf} (hB:eB 90 bl) (hE:eB 91 ex) (b:Nat) (O:Nat→Prop) (t:aj) (ts:List aj) (T:List Nd) (K:Ast→List aj→Prop) (E:Int→Prop) (w:World) (hp:PS w b O (t::ts) T) (hq:aw lB t=true)
  (hk:aK [aD,bl,au [[117,110,116,105,108]],ex] ⟨dA 24 t.2.1,[],t::ts,T.length⟩ (ca K) E) :
  Calls Tryz.prog 44 #[.pointer (some ⟨b,0,none⟩)] w (aG b O T (RK K E) w):=by
 have HW:=aa (bS b O t ts T w hp);have g1:=aQ [98,114,101,97,107] hq (by decide)
 have g2:=aQ [103,111,116,111] hq (by decide)
 have g3:=aQ [58,58] hq (by decide)
 have g4:=aQ [100,111] hq (by decide)
 have g5:=aQ [119,104,105,108,101] hq (by decide)
 have g6:((ag t).toList == [114,101,112,101,97,116])=true:=ai (s:=lB) (by decide) t hq
 have HK:=aa hk;generalize hY:ag t=Y at *;have P:=aa hp;clear hp hk hY hq;go_enter Tryz.func44,Tryz.ntmps44
 go_wp2_with fail
 refine HW.out.mono ?_;rintro e w0 ⟨rfl,b0⟩;have F0:=aa (ay.ae (O:=O) b0);have P0:=aa (P.out.below b0);clear b0;have oN :∀k,O k→k<w0.heap.size:=fun k hk=>(P0.out.own k hk).2
 have V1:=aa (cE w0 b O oN [117,110,116,105,108] (by decide) ⟨#[117,110,116,105,108]⟩ rfl)
 clear oN;go_wp2_with fail
 refine V1.out.mono ?_;rintro e w1 ⟨f1,a1,c1,rfl,b1,h1⟩;have F1:=aa (F0.out.trans (ay.ae (O:=O) b1) (Ext.refl _ _));have P1:=aa (P0.out.below b1);have H1:=aa h1;clear b1 h1 V1;have HN:=aa (cH w w1 P1.out F1.out (mu 24) rfl [aZ 40 b,aZ 90 b,.func (.func f1) a1 c1,aZ 91 b] [aD,bl,au [[117,110,116,105,108]],ex] (by simp) ⟨ba w1 b O,hB.part (enters_of Tryz.func90 (by kernel_rfl) rfl) w1 b O,H1.out,hE.part (enters_of Tryz.func91 (by kernel_rfl) rfl) w1 b O,trivial⟩ HK.out)
 go_wp2_with fail
 refine HN.out.mono ?_;intro e wz hz;obtain⟨v,er,rfl⟩:=hz.ret;have HZ:=aa hz;clear hz;go_wp2_with fail
 go_ret2
 exact HZ.out
set_option maxRecDepth 40000 in
theorem Xy {ex bl:cf} (hE:eB 91 ex) (hB:eB 90 bl) (b:Nat) (O:Nat→Prop) (t:aj) (ts:List aj) (T:List Nd) (K:Ast→List aj→Prop) (E:Int→Prop) (w:World) (hp:PS w b O (t::ts) T) (hq:aw VG t=true)
  (hk:aK [aD,ex,au [[116,104,101,110]],bl,rq [101,108,115,101,105,102] [ex,au [[116,104,101,110]],bl],bD [101,108,115,101] [bl],au [[101,110,100]]] ⟨dA 25 t.2.1,[],t::ts,T.length⟩ (ca K) E) :
  Calls Tryz.prog 44 #[.pointer (some ⟨b,0,none⟩)] w (aG b O T (RK K E) w):=by
 have HW:=aa (bS b O t ts T w hp);have g1:=aQ [98,114,101,97,107] hq (by decide)
 have g2:=aQ [103,111,116,111] hq (by decide)
 have g3:=aQ [58,58] hq (by decide)
 have g4:=aQ [100,111] hq (by decide)
 have g5:=aQ [119,104,105,108,101] hq (by decide)
 have g6:=aQ [114,101,112,101,97,116] hq (by decide)
 have g7:((ag t).toList == [105,102])=true:=ai (s:=VG) (by decide) t hq
 have HK:=aa hk;generalize hY:ag t=Y at *;have P:=aa hp;clear hp hk hY hq;go_enter Tryz.func44,Tryz.ntmps44
 go_wp2_with fail
 refine HW.out.mono ?_;rintro e w0 ⟨rfl,b0⟩;have F0:=aa (ay.ae (O:=O) b0);have P0:=aa (P.out.below b0);clear b0;have oN :∀k,O k→k<w0.heap.size:=fun k hk=>(P0.out.own k hk).2
 have V1:=aa (cE w0 b O oN [116,104,101,110] (by decide) ⟨#[116,104,101,110]⟩ rfl)
 clear oN;go_wp2_with fail
 refine V1.out.mono ?_;rintro e w1 ⟨f1,a1,c1,rfl,b1,h1⟩;have F1:=aa (F0.out.trans (ay.ae (O:=O) b1) (Ext.refl _ _));have P1:=aa (P0.out.below b1);have H1:=aa h1;clear b1 h1 V1;have ry :∀k,O k→k<w1.heap.size:=fun k hk=>(P1.out.own k hk).2
 have V2:=aa (cE w1 b O ry [116,104,101,110] (by decide) ⟨#[116,104,101,110]⟩ rfl)
 clear ry;go_wp2_with fail
 refine V2.out.mono ?_;rintro e w2 ⟨f2,a2,c2,rfl,b2,h2⟩;have F2:=aa (F1.out.trans (ay.ae (O:=O) b2) (Ext.refl _ _));have P2:=aa (P1.out.below b2);have L1:=aa (H1.out.later (ay.ae (O:=O) b2) (Ext.refl _ _));clear H1;have H1:=L1;clear L1;have H2:=aa h2;clear b2 h2 V2;have JJ :∀k,O k→k<w2.heap.size:=fun k hk=>(P2.out.own k hk).2
 have V3:=aa (RJ w2 b O JJ [aZ 91 b,.func (.func f2) a2 c2,aZ 90 b] [ex,au [[116,104,101,110]],bl] (by simp) ⟨hE.part (enters_of Tryz.func91 (by kernel_rfl) rfl) w2 b O,H2.out,hB.part (enters_of Tryz.func90 (by kernel_rfl) rfl) w2 b O,trivial⟩ [101,108,115,101,105,102] (by decide) ⟨#[101,108,115,101,105,102]⟩ rfl)
 clear JJ;go_wp2_with fail
 refine V3.out.mono ?_;rintro e w3 ⟨f3,a3,c3,rfl,b3,h3⟩;have F3:=aa (F2.out.trans (ay.ae (O:=O) b3) (Ext.refl _ _));have P3:=aa (P2.out.below b3);have L1:=aa (H1.out.later (ay.ae (O:=O) b3) (Ext.refl _ _));clear H1;have H1:=L1;clear L1;have H3:=aa h3;clear b3 h3 V3;have Cn :∀k,O k→k<w3.heap.size:=fun k hk=>(P3.out.own k hk).2
 have V4:=aa (pw w3 b O Cn [aZ 90 b] [bl] (by simp) ⟨hB.part (enters_of Tryz.func90 (by kernel_rfl) rfl) w3 b O,trivial⟩ [101,108,115,101] (by decide) ⟨#[101,108,115,101]⟩ rfl)
 clear Cn;go_wp2_with fail
 refine V4.out.mono ?_;rintro e w4 ⟨f4,a4,c4,rfl,b4,h4⟩;have F4:=aa (F3.out.trans (ay.ae (O:=O) b4) (Ext.refl _ _));have P4:=aa (P3.out.below b4);have L1:=aa (H1.out.later (ay.ae (O:=O) b4) (Ext.refl _ _));clear H1;have H1:=L1;clear L1;have L3:=aa (H3.out.later (ay.ae (O:=O) b4) (Ext.refl _ _));clear H3;have H3:=L3;clear L3;have H4:=aa h4;clear b4 h4 V4;have UB :∀k,O k→k<w4.heap.size:=fun k hk=>(P4.out.own k hk).2
 have V5:=aa (cE w4 b O UB [101,110,100] (by decide) ⟨#[101,110,100]⟩ rfl)
 clear UB;go_wp2_with fail
 refine V5.out.mono ?_;rintro e w5 ⟨f5,a5,c5,rfl,b5,h5⟩;have F5:=aa (F4.out.trans (ay.ae (O:=O) b5) (Ext.refl _ _));have P5:=aa (P4.out.below b5);have L1:=aa (H1.out.later (ay.ae (O:=O) b5) (Ext.refl _ _));clear H1;have H1:=L1;clear L1;have L3:=aa (H3.out.later (ay.ae (O:=O) b5) (Ext.refl _ _));clear H3;have H3:=L3;clear L3;have L4:=aa (H4.out.later (ay.ae (O:=O) b5) (Ext.refl _ _));clear H4;have H4:=L4;clear L4;have H5:=aa h5;clear b5 h5 V5;have HN:=aa (cH w w5 P5.out F5.out (mu 25) rfl [aZ 40 b,aZ 91 b,.func (.func f1) a1 c1,aZ 90 b,.func (.func f3) a3 c3,.func (.func f4) a4 c4,.func (.func f5) a5 c5] [aD,ex,au [[116,104,101,110]],bl,rq [101,108,115,101,105,102] [ex,au [[116,104,101,110]],bl],bD [101,108,115,101] [bl],au [[101,110,100]]] (by simp) ⟨ba w5 b O,hE.part (enters_of Tryz.func91 (by kernel_rfl) rfl) w5 b O,H1.out,hB.part (enters_of Tryz.func90 (by kernel_rfl) rfl) w5 b O,H3.out,H4.out,H5.out,trivial⟩ HK.out)
 go_wp2_with fail
 refine HN.out.mono ?_;intro e wz hz;obtain⟨v,er,rfl⟩:=hz.ret;have HZ:=aa hz;clear hz;go_wp2_with fail
 go_ret2
 exact HZ.out
set_option maxRecDepth 40000 in
theorem Sq {ro bl:cf} (hN:eB 93 iz) (hR:eB 94 ro) (hB:eB 90 bl) (b:Nat) (O:Nat→Prop) (t:aj) (ts:List aj) (T:List Nd) (K:Ast→List aj→Prop) (E:Int→Prop) (w:World) (hp:PS w b O (t::ts) T) (hq:aw Cu t=true)
  (hk:aK [aD,iz,ro,au [[100,111]],bl,au [[101,110,100]]] ⟨dA 0 t.2.1,[],t::ts,T.length⟩ (ca K) E) :
  Calls Tryz.prog 44 #[.pointer (some ⟨b,0,none⟩)] w (aG b O T (RK K E) w):=by
 have HW:=aa (bS b O t ts T w hp);have g1:=aQ [98,114,101,97,107] hq (by decide)
 have g2:=aQ [103,111,116,111] hq (by decide)
 have g3:=aQ [58,58] hq (by decide)
 have g4:=aQ [100,111] hq (by decide)
 have g5:=aQ [119,104,105,108,101] hq (by decide)
 have g6:=aQ [114,101,112,101,97,116] hq (by decide)
 have g7:=aQ [105,102] hq (by decide)
 have g8:((ag t).toList == [102,111,114])=true:=ai (s:=Cu) (by decide) t hq
 have HK:=aa hk;generalize hY:ag t=Y at *;have P:=aa hp;clear hp hk hY hq;go_enter Tryz.func44,Tryz.ntmps44
 go_wp2_with fail
 refine HW.out.mono ?_;rintro e w0 ⟨rfl,b0⟩;have F0:=aa (ay.ae (O:=O) b0);have P0:=aa (P.out.below b0);clear b0;have oN :∀k,O k→k<w0.heap.size:=fun k hk=>(P0.out.own k hk).2
 have V1:=aa (cE w0 b O oN [100,111] (by decide) ⟨#[100,111]⟩ rfl)
 clear oN;go_wp2_with fail
 refine V1.out.mono ?_;rintro e w1 ⟨f1,a1,c1,rfl,b1,h1⟩;have F1:=aa (F0.out.trans (ay.ae (O:=O) b1) (Ext.refl _ _));have P1:=aa (P0.out.below b1);have H1:=aa h1;clear b1 h1 V1;have ry :∀k,O k→k<w1.heap.size:=fun k hk=>(P1.out.own k hk).2
 have V2:=aa (cE w1 b O ry [101,110,100] (by decide) ⟨#[101,110,100]⟩ rfl)
 clear ry;go_wp2_with fail
 refine V2.out.mono ?_;rintro e w2 ⟨f2,a2,c2,rfl,b2,h2⟩;have F2:=aa (F1.out.trans (ay.ae (O:=O) b2) (Ext.refl _ _));have P2:=aa (P1.out.below b2);have L1:=aa (H1.out.later (ay.ae (O:=O) b2) (Ext.refl _ _));clear H1;have H1:=L1;clear L1;have H2:=aa h2;clear b2 h2 V2;have HN:=aa (cH w w2 P2.out F2.out (mu 0) rfl [aZ 40 b,aZ 93 b,aZ 94 b,.func (.func f1) a1 c1,aZ 90 b,.func (.func f2) a2 c2] [aD,iz,ro,au [[100,111]],bl,au [[101,110,100]]] (by simp) ⟨ba w2 b O,hN.part (enters_of Tryz.func93 (by kernel_rfl) rfl) w2 b O,hR.part (enters_of Tryz.func94 (by kernel_rfl) rfl) w2 b O,H1.out,hB.part (enters_of Tryz.func90 (by kernel_rfl) rfl) w2 b O,H2.out,trivial⟩ HK.out)
 go_wp2_with fail
 refine HN.out.mono ?_;intro e wz hz;obtain⟨v,er,rfl⟩:=hz.ret;have HZ:=aa hz;clear hz;go_wp2_with fail
 go_ret2
 exact HZ.out
set_option maxRecDepth 40000 in
theorem yM {as_:cf} (hA:eB 95 as_) (b:Nat) (O:Nat→Prop) (t:aj) (ts:List aj) (T:List Nd) (K:Ast→List aj→Prop) (E:Int→Prop) (w:World) (hp:PS w b O (t::ts) T) (hq:aw bq t=true)
  (hk:aK [as_] ⟨dA 20 t.2.1,[],t::ts,T.length⟩ (ca K) E) :
  Calls Tryz.prog 44 #[.pointer (some ⟨b,0,none⟩)] w (aG b O T (RK K E) w):=by
 have HW:=aa (bS b O t ts T w hp);have g1:=aQ [98,114,101,97,107] hq (by decide)
 have g2:=aQ [103,111,116,111] hq (by decide)
 have g3:=aQ [58,58] hq (by decide)
 have g4:=aQ [100,111] hq (by decide)
 have g5:=aQ [119,104,105,108,101] hq (by decide)
 have g6:=aQ [114,101,112,101,97,116] hq (by decide)
 have g7:=aQ [105,102] hq (by decide)
 have g8:=aQ [102,111,114] hq (by decide)
 have g9:((ag t).toList == [102,117,110,99,116,105,111,110])=true:=ai (s:=bq) (by decide) t hq
 have HK:=aa hk;generalize hY:ag t=Y at *;have P:=aa hp;clear hp hk hY hq;go_enter Tryz.func44,Tryz.ntmps44
 go_wp2_with fail
 refine HW.out.mono ?_;rintro e w0 ⟨rfl,b0⟩;have F0:=aa (ay.ae (O:=O) b0);have P0:=aa (P.out.below b0);clear b0;have HN:=aa (cH w w0 P0.out F0.out (mu 20) rfl [aZ 95 b] [as_] (by simp) ⟨hA.part (enters_of Tryz.func95 (by kernel_rfl) rfl) w0 b O,trivial⟩ HK.out)
 go_wp2_with fail
 refine HN.out.mono ?_;intro e wz hz;obtain⟨v,er,rfl⟩:=hz.ret;have HZ:=aa hz;clear hz;go_wp2_with fail
 go_ret2
 exact HZ.out
set_option maxRecDepth 40000 in
theorem Ir {de:cf} (hD:eB 96 de) (b:Nat) (O:Nat→Prop) (t:aj) (ts:List aj) (T:List Nd) (K:Ast→List aj→Prop) (E:Int→Prop) (w:World) (hp:PS w b O (t::ts) T) (hq:aw lC t=true)
  (hk:aK [aD,de] ⟨dA 0 t.2.1,[],t::ts,T.length⟩ (ca K) E) :
  Calls Tryz.prog 44 #[.pointer (some ⟨b,0,none⟩)] w (aG b O T (RK K E) w):=by
 have HW:=aa (bS b O t ts T w hp);have g1:=aQ [98,114,101,97,107] hq (by decide)
 have g2:=aQ [103,111,116,111] hq (by decide)
 have g3:=aQ [58,58] hq (by decide)
 have g4:=aQ [100,111] hq (by decide)
 have g5:=aQ [119,104,105,108,101] hq (by decide)
 have g6:=aQ [114,101,112,101,97,116] hq (by decide)
 have g7:=aQ [105,102] hq (by decide)
 have g8:=aQ [102,111,114] hq (by decide)
 have g9:=aQ [102,117,110,99,116,105,111,110] hq (by decide)
 have g10:((ag t).toList == [108,111,99,97,108])=true:=ai (s:=lC) (by decide) t hq
 have HK:=aa hk;generalize hY:ag t=Y at *;have P:=aa hp;clear hp hk hY hq;go_enter Tryz.func44,Tryz.ntmps44
 go_wp2_with fail
 refine HW.out.mono ?_;rintro e w0 ⟨rfl,b0⟩;have F0:=aa (ay.ae (O:=O) b0);have P0:=aa (P.out.below b0);clear b0;have HN:=aa (cH w w0 P0.out F0.out (mu 0) rfl [aZ 40 b,aZ 96 b] [aD,de] (by simp) ⟨ba w0 b O,hD.part (enters_of Tryz.func96 (by kernel_rfl) rfl) w0 b O,trivial⟩ HK.out)
 go_wp2_with fail
 refine HN.out.mono ?_;intro e wz hz;obtain⟨v,er,rfl⟩:=hz.ret;have HZ:=aa hz;clear hz;go_wp2_with fail
 go_ret2
 exact HZ.out
set_option maxRecDepth 40000 in
theorem Is {be:cf} (hG:eB 97 be) (b:Nat) (O:Nat→Prop) (t:aj) (ts:List aj) (T:List Nd) (K:Ast→List aj→Prop) (E:Int→Prop) (w:World) (hp:PS w b O (t::ts) T) (hq:L0 t)
  (hk:aK [be] ⟨dA 0 t.2.1,[],t::ts,T.length⟩ (ca K) E) :
  Calls Tryz.prog 44 #[.pointer (some ⟨b,0,none⟩)] w (aG b O T (RK K E) w):=by
 have HW:=aa (bS b O t ts T w hp);have g1:((ag t).toList == [98,114,101,97,107])=false:=ai (s:=oY) (by decide) t hq.b
 have g2:((ag t).toList == [103,111,116,111])=false:=ai (s:=sC) (by decide) t hq.c
 have g3:((ag t).toList == [58,58])=false:=ai (s:=[58,58]) (by decide) t hq.a
 have g4:((ag t).toList == [100,111])=false:=ai (s:=Ct) (by decide) t hq.d
 have g5:((ag t).toList == [119,104,105,108,101])=false:=ai (s:=oZ) (by decide) t hq.e
 have g6:((ag t).toList == [114,101,112,101,97,116])=false:=ai (s:=lB) (by decide) t hq.f
 have g7:((ag t).toList == [105,102])=false:=ai (s:=VG) (by decide) t hq.g
 have g8:((ag t).toList == [102,111,114])=false:=ai (s:=Cu) (by decide) t hq.h
 have g9:((ag t).toList == [102,117,110,99,116,105,111,110])=false:=ai (s:=bq) (by decide) t hq.i
 have g10:((ag t).toList == [108,111,99,97,108])=false:=ai (s:=lC) (by decide) t hq.j
 have HK:=aa hk;generalize hY:ag t=Y at *;have P:=aa hp;clear hp hk hY hq;go_enter Tryz.func44,Tryz.ntmps44
 go_wp2_with fail
 refine HW.out.mono ?_;rintro e w0 ⟨rfl,b0⟩;have F0:=aa (ay.ae (O:=O) b0);have P0:=aa (P.out.below b0);clear b0;have HN:=aa (cH w w0 P0.out F0.out (mu 0) rfl [aZ 97 b] [be] (by simp) ⟨hG.part (enters_of Tryz.func97 (by kernel_rfl) rfl) w0 b O,trivial⟩ HK.out)
 go_wp2_with fail
 refine HN.out.mono ?_;intro e wz hz;obtain⟨v,er,rfl⟩:=hz.ret;have HZ:=aa hz;clear hz;go_wp2_with fail
 go_ret2
 exact HZ.out
end Go.Proofs.YteflkdlaoiijbaaGreatDoor
namespace Go.Proofs.YteflkdlaoiijbaaGreatDoor
open Go.RowKit
section
variable {K:Ast→List aj→Prop} {E:Int→Prop} {K':St→Prop} {N k n:Nat} {h:Nd} {xs:List Ast} {t:aj} {ts:List aj}
theorem M0 {t:aj} (h:iV t=true):aw [59] t=false:=by
 cases hs:aw [59] t with
 | false=>rfl
 | true =>
  exfalso;unfold iV at h;rw[bs hs (show iU≠[59] by decide),bs hs (show sB≠[59] by decide),bs hs (show jZ≠[59] by decide),bs hs (show oX≠[59] by decide)] at h
  have:=aW hs;simp at h;exact this h
theorem Xz (K2:List Ast→List aj→Prop) (c1 c2:Nat) (hK :∀l ax n',K2 l ax→n'+c1=c2+Ast.ak l→K' ⟨h,l,ax,n'⟩) :∀(m:Nat) (ts:List aj) (xs:List Ast) (n k:Nat),ts.length<m→n+c1=c2+Ast.ak xs→Rm (N+1) k ⟨h,xs,ts,n⟩→Gw (aaw xs) ts K2 E→AO (sL (N+1) ql) (nB N) m ⟨h,xs,ts,n⟩ K' E:=by
 intro m;induction m with
 | zero=>intro ts xs n k h;omega
 | succ m ih =>
  intro ts xs n k h1 hc hI H;obtain⟨t,r,rfl⟩:=hI.wf.fin.cons;have G:=Gw.look H;have hn:=hI.n;have hx:=hI.xs;dsimp only at hn hx
  refine⟨t,r,rfl,fun he=>hK _ _ _ (G.pos he).ret hc,fun he=>?_⟩
  have G:=G.neg (by simp[he])
  refine⟨fun hw=>?_,fun hw=>⟨fun hr=>?_,fun hr=>?_⟩⟩
  ·have G2:=((G.neg (aV hw (by decide))).pos hw).tok
   exact ih r xs n (k+2) (by simp at h1;omega) hc (hI.tok (aW hw)) ((Gw.call G2).mono fun v ax _ hv=>hv.2.ret)
  ·have G2:=Gw.call (G.pos hr).tok
   have acG:Rm (N+1) k ⟨dA 29 t.2.1,[],t::r,n⟩:=⟨hI.len,hI.n,by simp only[List.length_nil];omega,hI.wf⟩
   refine jF (by dsimp only;omega) ⟨t,r,t.2.1,rfl,.inl ⟨rfl,rfl⟩,?_⟩
   refine(show aK [aD,MN (nB N),bD [59] []] ⟨dA 29 t.2.1,[],t::r,n⟩ (ca (nC _ _ K' E)) E from ?_)
   refine cR acG (aW hr) fun hI=>?_
   obtain⟨u,us,rfl⟩:=hI.wf.fin.cons;have G3:=Gw.look G2;have done :∀(l:List Ast) (iy:List aj) (j:Nat),Rm N j ⟨dA 29 t.2.1,l,iy,n+Ast.ak l⟩→K2 (xs++[nd 29 t.2.1 l]) iy→ca (nC (dU (mu 29) [aD,MN (nB N),bD [59] []]) ⟨h,xs,t::u::us,n⟩ K' E) ⟨dA 29 t.2.1,l,iy,n+Ast.ak l⟩:=fun l iy j hI hk=>cB hI (nC.mk (hK _ _ _ hk (by show n+Ast.ak [nd 29 t.2.1 l]+c1=c2+Ast.ak (xs++[nd 29 t.2.1 l]);rw[fj];omega)))
   refine⟨u,us,rfl,fun Ai=>?_,fun yA hns=>?_⟩
   ·cases hu:iV u with
    | true =>
     have G4:=(G3.pos hu).ret.2.ret;have hd:=done [] (u::us) (k+2) (by rw[cD];exact hI) G4
     rw[cD] at hd;exact⟨u,us,rfl,fun hs=>by rw[M0 hu] at hs;exact(gb hs).elim,fun _=>hd⟩
    | false =>
     have hs:aw [59] u=true:=Ai.elim (fun h=>by rw[hu] at h;exact(gb h).elim) id
     have G4:=((G3.neg (by simp[hu])).pos hs).tok.ret.2.ret
     have RE:=hI.tok (h':=dA 29 t.2.1) (aW hs);have hd:=done [] us (k+4) (by rw[cD];exact RE) G4
     rw[cD] at hd;exact⟨u,us,rfl,fun _=>hd,fun h=>by rw[hs] at h;exact(gb h.symm).elim⟩
   ·have G4:=(G3.neg (by simp[yA])).neg (by simp[hns])
    refine tC hI G4 fun l r2 hI _ G5=>?_
    obtain⟨v,vs,rfl⟩:=hI.wf.fin.cons;have G6:=G5.take;exact⟨v,vs,rfl,fun hs=>done l vs _ (hI.tok (aW hs)) (G6.1 hs).ret.2.ret,fun hs=>done l (v::vs) _ hI (G6.2 hs).ret.2.ret⟩
  ·have G2:=(G.neg (by simp[hr])).neg (by simp[hw])
   refine jF (by dsimp only;omega) ⟨hI.len,by dsimp only;omega,hI.wf.zu,(Gw.call G2).mono fun(x:Ast) ax p hq=>nC.mk ?_⟩
   have hz:x.size+2*ax.length≤2*(t::r).length:=hq.1;have hxp:=size_pos x;exact ih ax (xs++[x]) _ k (by simp only[List.length_cons] at *;omega) (by show n+Ast.ak [x]+c1=c2+Ast.ak (xs++[x]);rw[fj];omega) (Rm.kids (j:=k) hI (by rw[uJ];omega) (PL.short p) (p.wf hI.wf)) ((Gw.call hq.2).mono fun v ax _ hv=>hv.2.ret)
theorem aaO {s:St} (hf:Fin s.ts) (H:LS (N+1) s K' E):aaG (sL (N+1) ql) (nB N) s K' E:=by
 obtain⟨sh,Zs,vM,sn⟩:=s;obtain⟨h1,h2,h3,h4,h5⟩:=H;dsimp only at h1 h2 h3 h4 h5 hf
 exact⟨vM.length+1,Xz _ (Ast.ak Zs) sn (fun l ax n' hk hn=>hk n' hn) (vM.length+1) vM Zs sn 0 (dC _) rfl ⟨h1,h2,h3,⟨hf,h4⟩⟩ h5⟩
end
structure All (N:Nat):Prop where
 exp:pt 142 (sL N (rB 1))
 bnd :∀op,1≤op→op≤23→rD 178 (v7 op) (rtP N op)
 VI:pt 238 (sL N Sc)
 Gk:pt 153 (sL N Df)
 vM:eB 20 (LS N)
theorem all_zero:All 0 :=
 ⟨fun _ _ _ _ _ _ _ _ h=>absurd h.1 (gV _),fun _ _ _ _ _ _ _ _ _ _ _ h=>absurd h.1 (gV _),fun _ _ _ _ _ _ _ _ h=>absurd h.1 (gV _),fun _ _ _ _ _ _ _ _ h=>absurd h.1 (gV _),fun _ _ _ _ _ _ _ _ _ h=>absurd h.1 (gV _)⟩
theorem Fb {op:Int} (h0:1≤op) (h1:op≤23):0≤v7 op∧v7 op+1=((v7 op+1).toNat:Int):=by
 have h9:op=1∨op=2∨op=3∨op=4∨op=5∨op=6∨op=7∨op=8∨op=9∨op=10∨op=11∨op=12∨op=13∨op=14∨op=15∨op=16∨op=17∨op=18∨op=19∨op=20∨op=21∨op=22∨op=23:=by omega
 rcases h9 with h|h|h|h|h|h|h|h|h|h|h|h|h|h|h|h|h|h|h|h|h|h|h<;>(rw[h];decide)
theorem Sr {N:Nat} (A:All N) (hS:pt 153 (sL (N+1) Df)):pt 44 (sL (N+1) ql):=by
 rintro b O ts T K E w hp ⟨h1,h2,h3,h4⟩;obtain⟨t,r,rfl⟩:=hp.fin.cons;have hI :∀h',Rm (N+1) 0 ⟨h',[],t::r,T.length⟩:=fun h'=>⟨h1,h2,by simp only[List.length_nil];omega,⟨hp.fin,h3⟩⟩
 have hE:=L7 A.exp;have hL:=L9 A.exp;have hB:eB 90 (pn N):=E5 A.vM;have Dm:eB 152 (xd N):=Mc qn hB;cases c1:aw [58,58] t with
 | true=>exact Ip b O t r T K E w hp c1 (Ry (hI _) h4 c1)
 | false =>
 cases c2:aw oY t with
 | true=>exact Io b O t r T K E w hp c2 (Rz (hI _) h4 c2)
 | false =>
 cases c3:aw sC t with
 | true=>exact MZ b O t r T K E w hp c3 (Xd (hI _) h4 c3)
 | false =>
 cases c4:aw Ct t with
 | true=>exact Xx hB b O t r T K E w hp c4 (acr (hI _) h4 c4)
 | false =>
 cases c5:aw oZ t with
 | true=>exact Iq hE hB b O t r T K E w hp c5 (RC (hI _) h4 c5)
 | false =>
 cases c6:aw lB t with
 | true=>exact Dw hB hE b O t r T K E w hp c6 (LX (hI _) h4 c6)
 | false =>
 cases c7:aw VG t with
 | true=>exact Xy hE hB b O t r T K E w hp c7 (acs (hI _) h4 c7)
 | false =>
 cases c8:aw Cu t with
 | true=>exact Sq Fa (MT hE hL) hB b O t r T K E w hp c8 (aax (hI _) h4 c8)
 | false =>
 cases c9:aw bq t with
 | true=>exact yM (Du Dm) b O t r T K E w hp c9 (Dh (hI _) h4 c9)
 | false =>
 cases c10:aw lC t with
 | true=>exact Ir (Dt hL Dm) b O t r T K E w hp c10 (RF (hI _) h4 c10)
 | false =>
  have hq:L0 t:=⟨c1,c2,c3,c4,c5,c6,c7,c8,c9,c10⟩;have hTg:eB 154 (UE N):=Hn (MM A.Gk);exact Is (Sg hS hTg hL) b O t r T K E w hp hq (RH (hI _) h4 hq)
theorem all_succ {N:Nat} (A:All N):All (N+1):=by
 have hE:=L7 A.exp;have hL:=L9 A.exp;have hB:eB 90 (pn N):=E5 A.vM;have Dm:eB 152 (xd N):=Mc qn hB;have Hm:eB 235 (yJ N):=RO A.VI;have hTx:pt 204 (aaL N):=xm (fun op _ _=>Sp _ (v7 op)) (Xu _) Hm (Xt _)
 have hAr:eB 211 (AS N):=aaC hTx hL;have hS:pt 153 (sL (N+1) Df):=(Dn hE hAr).of fun ts n K E hf h=>aaN hf h
 have hO:pt 204 (sL (N+1) Ic):=(xm (fun op h0 h1=>A.bnd op (by omega) h1) Dm Hm hS).of fun ts n K E hf h=>by
  obtain⟨h1,h2,h3,h4⟩:=h;obtain⟨t,r,rfl⟩:=hf.cons;exact aaJ (h:=dA 0 0) (k:=0) ⟨h1,h2,by simp only[List.length_nil];omega,⟨hf,h3⟩⟩ h4
 have hBn :∀(l:Int) (s:Nat),0≤l→l+1=(s:Int)→rD 178 l (sL (N+1) (rB s)):=fun l s h0 hs=>(RS hO l (fun op h1 h2=>A.bnd op h1 (by omega)) h0).of fun ts n K E hf h=>aaK hs h0 hf h
 have hX:pt 142 (sL (N+1) (rB 1)):=yH (hBn 0 1 (by decide) (by decide))
 have hSt:=Sr A hS;refine⟨hX,fun op h1 h2=>hBn _ _ (Fb h1 h2).1 (Fb h1 h2).2,?_,hS,(yL hSt hL).of fun s K E hf h=>aaO hf h⟩
 rintro b O ts T K E w hp ⟨h1,h2,h3,h4⟩;obtain⟨t,r,rfl⟩:=hp.fin.cons;exact Xi (L7 hX) b O t r T K E w hp (Sf (h:=dA 0 0) (k:=0) ⟨h1,h2,by simp only[List.length_nil];omega,⟨hp.fin,h3⟩⟩ h4)
theorem AT :∀N,All N
 | 0=>all_zero
 | N+1=>all_succ (AT N)
end Go.Proofs.YteflkdlaoiijbaaGreatDoor
namespace Go.Proofs.YteflkdlaoiijbaaGreatDoor
open Go.RowKit Go.Extern.Stop Go.Stop Go.Extern
theorem XA (t:Value) (w:World) :
  Calls Tryz.prog 22 #[.nilIface,t] w fun e w'=>e=.returned (.bool false)∧w'=w:=by
 go_enter Tryz.func22,Tryz.ntmps22
 go_wp2
 go_ret
 exact⟨rfl,rfl⟩
theorem Tryz.Iu (t:Addr) (w:World):(ReflectliteValue.unpack (.iface 104 (.pointer (some t)))).run Tryz.prog w
 =.ok (.agg #[.pointer (some ⟨4,104,none⟩),.pointer (some ⟨w.heap.size,0,none⟩),.int .u64 150]) (w.alloc (.cells #[.pointer (some t)] 104)):=by kernel_rfl
theorem Tryz.type51 (a:Addr) (w:World):(ReflectliteValue.methodAny (ReflectliteValue.valueError "reflectlite.Value.Type" 0) (fun t _ _ _=>ReflectliteType.toType t) #[.agg #[.pointer (some ⟨4,104,none⟩),.pointer (some a),.int .u64 150]]).run Tryz.prog w
 =.ok (.iface 165 (.agg #[.pointer (some ⟨4,104,none⟩)])) w:=by kernel_rfl
theorem Tryz.uS (h:Value) (w:World):(Go.method 423 165 (.agg #[h]) "Kind").run Tryz.prog w=.ok (256,h) w:=by kernel_rfl
theorem Tryz.XB (w:World):((ReflectliteType.abiMethod fun t=>(fun a:Nat=>Value.int IntKind.u8 (a:Int)) <$> Rtype.kind t) #[.pointer (some ⟨4,104,none⟩)]).run Tryz.prog w=.ok (.int .u8 22) w:=by kernel_rfl
theorem Tryz.XC (w:World):((ReflectliteType.abiMethod fun t=>(fun a:Nat=>Value.int IntKind.u8 (a:Int)) <$> Rtype.kind t) #[.pointer (some ⟨4,83,none⟩)]).run Tryz.prog w=.ok (.int .u8 22) w:=by kernel_rfl
theorem rlm (z:Sem Value) (f:TypeId→Addr→Nat→Nat→Sem Value) (v:Value) :
  ReflectliteValue.method z f #[v]=(do match←ReflectliteValue.parts v with|none=>z|some (t,a,fl)=>f t a fl (fl % 32)):=rfl
theorem Tryz.Fc (a:Addr) (w:World):(ReflectliteValue.parts (.agg #[.pointer (some ⟨4,104,none⟩),.pointer (some a),.int .u64 150])).run Tryz.prog w=.ok (some (104,a,150)) w:=by kernel_rfl
theorem Tryz.Ss (a p:Addr) (W:World) (ha:W.cell? a=some (.pointer (some p))) :
  (ReflectliteValue.method (ReflectliteValue.valueError "reflectlite.Value.IsNil" 0) ReflectliteValue.isNil #[.agg #[.pointer (some ⟨4,104,none⟩),.pointer (some a),.int .u64 150]]).run Tryz.prog W=.ok (.bool false) W:=by
 rw[rlm];simp only[Sem.run_bind,Tryz.Fc,Result.andThen];simp[ReflectliteValue.isNil,loadVar,isAgg,underlying,Tryz.underlying104,ha,Result.andThen]
theorem Tryz.uT (h:Value) (w:World):(Go.method 423 165 (.agg #[h]) "Elem").run Tryz.prog w=.ok (268,.agg #[h]) w:=by kernel_rfl
theorem Tryz.lf (h:Value) (w:World):(Go.method 423 165 (.agg #[h]) "Implements").run Tryz.prog w=.ok (269,.agg #[h]) w:=by kernel_rfl
theorem Tryz.jG (h:Value) (w:World):(Go.method 423 165 (.agg #[h]) "AssignableTo").run Tryz.prog w=.ok (266,.agg #[h]) w:=by kernel_rfl
theorem Tryz.XD (w:World):(ReflectliteType.method ReflectliteType.elem #[.agg #[.pointer (some ⟨4,104,none⟩)]]).run Tryz.prog w=.ok (.iface 165 (.agg #[.pointer (some ⟨4,83,none⟩)])) w:=by kernel_rfl
theorem Tryz.yN (w:World):(ReflectliteType.relation "Implements" ReflectliteType.implements_ #[.agg #[.pointer (some ⟨4,83,none⟩)],.iface 165 (.agg #[.pointer (some ⟨4,27,none⟩)])]).run Tryz.prog w=.ok (.bool true) w:=by kernel_rfl
theorem Tryz.M4 (v:Value) (w:World):(ReflectliteType.typeOf #[.iface 83 v]).run Tryz.prog w=.ok (.iface 165 (.agg #[.pointer (some ⟨4,83,none⟩)])) w:=by kernel_rfl
theorem Tryz.yO (w:World):(ReflectliteType.relation "AssignableTo" ReflectliteType.assignableTo #[.agg #[.pointer (some ⟨4,83,none⟩)],.iface 165 (.agg #[.pointer (some ⟨4,83,none⟩)])]).run Tryz.prog w=.ok (.bool true) w:=by kernel_rfl
theorem Tryz.Iv (e:Addr) (w:World):(ReflectliteValue.unpack (.iface 83 (.pointer (some e)))).run Tryz.prog w
 =.ok (.agg #[.pointer (some ⟨4,83,none⟩),.pointer (some ⟨w.heap.size,0,none⟩),.int .u64 150]) (w.alloc (.cells #[.pointer (some e)] 83)):=by kernel_rfl
theorem Tryz.M5 (w:World):(Rtype.elem? 104).run Tryz.prog w=.ok (some 83) w:=by kernel_rfl
theorem Tryz.acH (p:Addr) (w:World):(ReflectliteValue.mk 83 p ReflectliteValue.flagAddr).run Tryz.prog w=.ok (.agg #[.pointer (some ⟨4,83,none⟩),.pointer (some p),.int .u64 406]) w:=by kernel_rfl
theorem Tryz.Su (a p:Addr) (W:World) (ha:W.cell? a=some (.pointer (some p))) :
  (ReflectliteValue.method (ReflectliteValue.valueError "reflectlite.Value.Elem" 0) ReflectliteValue.elem #[.agg #[.pointer (some ⟨4,104,none⟩),.pointer (some a),.int .u64 150]]).run Tryz.prog W
  =.ok (.agg #[.pointer (some ⟨4,83,none⟩),.pointer (some p),.int .u64 406]) W:=by
 rw[rlm];simp only[Sem.run_bind,Tryz.Fc,Result.andThen];simp[ReflectliteValue.elem,loadVar,isAgg,underlying,Tryz.underlying104,ha,Result.andThen,Tryz.M5,Tryz.acH]
theorem rls (v x:Value):ReflectliteValue.set #[v,x]=(do
  let (some (dst,a,fl),some (src,b,_)):=(←ReflectliteValue.parts v,←ReflectliteValue.parts x)
   | unsupported (.noEntry "extern/(internal/reflectlite.Value).Set.zeroValue")
  if fl / ReflectliteValue.flagAddr % 2 == 0 then unsupported (.noEntry "extern/(internal/reflectlite.Value).Set.unaddressable")
  let val←loadVar src b
  if←Rtype.directlyAssignable dst src then storeVar dst a val
  else if←Rtype.implements dst src then
   if (←Rtype.kind src) == 20 then
    match val with
    | .nilIface=>unsupported (.noEntry "extern/reflectlite: a nil value of one interface type handed on as a value of another")
    | _=>storeVar dst a val
   else storeVar dst a (.iface src val)
  else panicString ("reflectlite.Set: value of type " ++ (←Rtype.spelt src) ++ " is not assignable to type " ++ (←Rtype.spelt dst))
  pure (.tuple #[])):=rfl
theorem Tryz.M6 (a:Addr) (w:World):(ReflectliteValue.parts (.agg #[.pointer (some ⟨4,83,none⟩),.pointer (some a),.int .u64 406])).run Tryz.prog w=.ok (some (83,a,406)) w:=by kernel_rfl
theorem Tryz.Sv (a:Addr) (w:World):(ReflectliteValue.parts (.agg #[.pointer (some ⟨4,83,none⟩),.pointer (some a),.int .u64 150])).run Tryz.prog w=.ok (some (83,a,150)) w:=by kernel_rfl
theorem Tryz.M8 (w:World):(Rtype.directlyAssignable 83 83).run Tryz.prog w=.ok true w:=by kernel_rfl
theorem Tryz.aaP (ta b e:Addr) (old:Value) (W:World) (hb:W.cell? b=some (.pointer (some e))) (ht:W.cell? ta=some old) (hf:W.frozen? ta=false) :
  (ReflectliteValue.set #[.agg #[.pointer (some ⟨4,83,none⟩),.pointer (some ta),.int .u64 406],.agg #[.pointer (some ⟨4,83,none⟩),.pointer (some b),.int .u64 150]]).run Tryz.prog W
  =.ok (.tuple #[]) (W.setCell ta (.pointer (some e))):=by
 rw[rls];simp only[Sem.run_bind,Tryz.M6,Tryz.Sv,Result.andThen];simp[ReflectliteValue.flagAddr,loadVar,isAgg,underlying,Tryz.underlying83,hb,Result.andThen,Tryz.M8,storeVar,Value.cells,storeCells,Addr.add];rw[run_store Tryz.prog W ta _ _ (by rfl)]
 simp[ht,hf]
theorem XE (e t:Addr) (old:Value) (w:World) (hg:w.cell? ⟨0,0,none⟩=some (.iface 165 (.agg #[.pointer (some ⟨4,27,none⟩)]))) (Sl:w.cell? t=some old) (Sw:w.frozen? t=false) :
  Calls Tryz.prog 22 #[.iface 83 (.pointer (some e)),.iface 104 (.pointer (some t))] w fun ev w'=>ev=.returned (.bool true)∧w'=((((w.alloc (.cells #[.pointer (some t)] 104)).alloc (.cells #[.pointer (some ⟨4,104,none⟩),.pointer (some ⟨w.heap.size,0,none⟩),.int .u64 150] 130)).alloc (.cells #[.pointer (some ⟨4,104,none⟩),.pointer (some ⟨w.heap.size,0,none⟩),.int .u64 150] 130)).alloc (.cells #[.pointer (some e)] 83)).setCell t (.pointer (some e)):=by
 have h6:=@run_callFunc_extern Tryz.prog 46 _ (fun args=>ReflectliteValue.unpack (args.getD 0 (.tuple #[]))) Tryz.func46 (by kernel_rfl) (by kernel_rfl) (by kernel_rfl) (by kernel_rfl)
 have h7:=@run_callFunc_extern Tryz.prog 47 _ (ReflectliteValue.methodAny (ReflectliteValue.valueError "reflectlite.Value.Type" 0) (fun t _ _ _=>ReflectliteType.toType t)) Tryz.func47 (by kernel_rfl) (by kernel_rfl) (by kernel_rfl) (by kernel_rfl)
 have h8:=@run_callFunc_extern Tryz.prog 48 _ (ReflectliteValue.method (ReflectliteValue.valueError "reflectlite.Value.IsNil" 0) ReflectliteValue.isNil) Tryz.func48 (by kernel_rfl) (by kernel_rfl) (by kernel_rfl) (by kernel_rfl)
 have h27:=@run_callFunc_extern Tryz.prog 256 _ (ReflectliteType.abiMethod fun t=>do pure (.int .u8 (←Rtype.kind t))) Tryz.func256 (by kernel_rfl) (by kernel_rfl) (by kernel_rfl) (by kernel_rfl)
 have h37:=@run_callFunc_extern Tryz.prog 268 _ (ReflectliteType.method ReflectliteType.elem) Tryz.func268 (by kernel_rfl) (by kernel_rfl) (by kernel_rfl) (by kernel_rfl)
 have h38:=@run_callFunc_extern Tryz.prog 269 _ (ReflectliteType.relation "Implements" ReflectliteType.implements_) Tryz.func269 (by kernel_rfl) (by kernel_rfl) (by kernel_rfl) (by kernel_rfl)
 have h10:=@run_callFunc_extern Tryz.prog 65 _ ReflectliteType.typeOf Tryz.func65 (by kernel_rfl) (by kernel_rfl) (by kernel_rfl) (by kernel_rfl)
 have h35:=@run_callFunc_extern Tryz.prog 266 _ (ReflectliteType.relation "AssignableTo" ReflectliteType.assignableTo) Tryz.func266 (by kernel_rfl) (by kernel_rfl) (by kernel_rfl) (by kernel_rfl)
 have h11:=@run_callFunc_extern Tryz.prog 98 _ (ReflectliteValue.method (ReflectliteValue.valueError "reflectlite.Value.Elem" 0) ReflectliteValue.elem) Tryz.func98 (by kernel_rfl) (by kernel_rfl) (by kernel_rfl) (by kernel_rfl)
 have h12:=@run_callFunc_extern Tryz.prog 99 _ ReflectliteValue.set Tryz.func99 (by kernel_rfl) (by kernel_rfl) (by kernel_rfl) (by kernel_rfl)
 have tO:=Tryz.M4;have mA:=Tryz.jG;have a25:=Tryz.yO;have v25:=Tryz.Iv;have f6:=Tryz.Iu;have f7:=Tryz.type51;have mK:=Tryz.uS;have mE:=Tryz.uT;have mI:=Tryz.lf;have k27:=Tryz.XB;have k25:=Tryz.XC;have e27:=Tryz.XD;have i25:=Tryz.yN;have n8:=Tryz.Ss ⟨w.heap.size,0,none⟩ t ((w.alloc (.cells #[.pointer (some t)] 104)).alloc (.cells #[.pointer (some ⟨4,104,none⟩),.pointer (some ⟨w.heap.size,0,none⟩),.int .u64 150] 130)) (by simp)
 have hlt:0<w.heap.size:=by
  rcases mG w.heap.size with h0|h
  ·simp[World.cell?,h0] at hg
  ·exact h
 have hg2:((w.alloc (.cells #[.pointer (some t)] 104)).alloc (.cells #[.pointer (some ⟨4,104,none⟩),.pointer (some ⟨w.heap.size,0,none⟩),.int .u64 150] 130)).cell? ⟨0,0,none⟩=some (.iface 165 (.agg #[.pointer (some ⟨4,27,none⟩)])):=by
  rw[World.cell?_alloc_lt _ _ ⟨0,0,none⟩ (by simp),World.cell?_alloc_lt _ _ ⟨0,0,none⟩ hlt];exact hg
 have PQ:t.block<w.heap.size:=by
  rcases Em t.block w.heap.size with h|h
  ·exact h
  ·simp[World.cell?,Array.getElem?_eq_none h] at Sl
 have el:=Tryz.Su ⟨w.heap.size,0,none⟩ t (((w.alloc (.cells #[.pointer (some t)] 104)).alloc (.cells #[.pointer (some ⟨4,104,none⟩),.pointer (some ⟨w.heap.size,0,none⟩),.int .u64 150] 130)).alloc (.cells #[.pointer (some ⟨4,104,none⟩),.pointer (some ⟨w.heap.size,0,none⟩),.int .u64 150] 130)) (by rw[World.cell?_alloc_lt _ _ ⟨w.heap.size,0,none⟩ (by simp;omega)];simp)
 have st:=Tryz.aaP t ⟨w.heap.size+1+1+1,0,none⟩ e old ((((w.alloc (.cells #[.pointer (some t)] 104)).alloc (.cells #[.pointer (some ⟨4,104,none⟩),.pointer (some ⟨w.heap.size,0,none⟩),.int .u64 150] 130)).alloc (.cells #[.pointer (some ⟨4,104,none⟩),.pointer (some ⟨w.heap.size,0,none⟩),.int .u64 150] 130)).alloc (.cells #[.pointer (some e)] 83))
  (by rw[World.cell?_alloc_at _ _ _ _ (by simp)];rfl)
  (by rw[World.cell?_alloc_lt _ _ t (by simp;omega),World.cell?_alloc_lt _ _ t (by simp;omega),World.cell?_alloc_lt _ _ t (by simp;omega),World.cell?_alloc_lt _ _ t PQ];exact Sl)
  (by rw[World.frozen?_alloc_old _ _ t (by simp;omega),World.frozen?_alloc_old _ _ t (by simp;omega),World.frozen?_alloc_old _ _ t (by simp;omega),World.frozen?_alloc_old _ _ t (ju PQ)];exact Sw)
 go_enter Tryz.func22,Tryz.ntmps22
 go_wp2
 refine wp_loop_rounds 1 ?_;rw[rounds_succ];go_wp2
 go_ret
 exact⟨rfl,rfl⟩
theorem Tryz.Dx (t:Addr) (w:World):(ReflectliteValue.unpack (.iface 77 (.pointer (some t)))).run Tryz.prog w
 =.ok (.agg #[.pointer (some ⟨4,77,none⟩),.pointer (some ⟨w.heap.size,0,none⟩),.int .u64 150]) (w.alloc (.cells #[.pointer (some t)] 77)):=by kernel_rfl
theorem Tryz.Sx (a:Addr) (w:World):(ReflectliteValue.methodAny (ReflectliteValue.valueError "reflectlite.Value.Type" 0) (fun t _ _ _=>ReflectliteType.toType t) #[.agg #[.pointer (some ⟨4,77,none⟩),.pointer (some a),.int .u64 150]]).run Tryz.prog w
 =.ok (.iface 165 (.agg #[.pointer (some ⟨4,77,none⟩)])) w:=by kernel_rfl
theorem Tryz.Sy (w:World):((ReflectliteType.abiMethod fun t=>(fun a:Nat=>Value.int IntKind.u8 (a:Int)) <$> Rtype.kind t) #[.pointer (some ⟨4,77,none⟩)]).run Tryz.prog w=.ok (.int .u8 22) w:=by kernel_rfl
theorem Tryz.Sz (w:World):((ReflectliteType.abiMethod fun t=>(fun a:Nat=>Value.int IntKind.u8 (a:Int)) <$> Rtype.kind t) #[.pointer (some ⟨4,75,none⟩)]).run Tryz.prog w=.ok (.int .u8 22) w:=by kernel_rfl
theorem Tryz.AU (a:Addr) (w:World):(ReflectliteValue.parts (.agg #[.pointer (some ⟨4,77,none⟩),.pointer (some a),.int .u64 150])).run Tryz.prog w=.ok (some (77,a,150)) w:=by kernel_rfl
theorem Tryz.M9 (a p:Addr) (W:World) (ha:W.cell? a=some (.pointer (some p))) :
  (ReflectliteValue.method (ReflectliteValue.valueError "reflectlite.Value.IsNil" 0) ReflectliteValue.isNil #[.agg #[.pointer (some ⟨4,77,none⟩),.pointer (some a),.int .u64 150]]).run Tryz.prog W=.ok (.bool false) W:=by
 rw[rlm];simp only[Sem.run_bind,Tryz.AU,Result.andThen];simp[ReflectliteValue.isNil,loadVar,isAgg,underlying,Tryz.underlying77,ha,Result.andThen]
theorem Tryz.SB (w:World):(ReflectliteType.method ReflectliteType.elem #[.agg #[.pointer (some ⟨4,77,none⟩)]]).run Tryz.prog w=.ok (.iface 165 (.agg #[.pointer (some ⟨4,75,none⟩)])) w:=by kernel_rfl
theorem Tryz.wb (w:World):(ReflectliteType.relation "Implements" ReflectliteType.implements_ #[.agg #[.pointer (some ⟨4,75,none⟩)],.iface 165 (.agg #[.pointer (some ⟨4,27,none⟩)])]).run Tryz.prog w=.ok (.bool true) w:=by kernel_rfl
theorem Tryz.Iw (v:Value) (w:World):(ReflectliteType.typeOf #[.iface 75 v]).run Tryz.prog w=.ok (.iface 165 (.agg #[.pointer (some ⟨4,75,none⟩)])) w:=by kernel_rfl
theorem Tryz.wc (w:World):(ReflectliteType.relation "AssignableTo" ReflectliteType.assignableTo #[.agg #[.pointer (some ⟨4,75,none⟩)],.iface 165 (.agg #[.pointer (some ⟨4,75,none⟩)])]).run Tryz.prog w=.ok (.bool true) w:=by kernel_rfl
theorem Tryz.Dy (e:Addr) (w:World):(ReflectliteValue.unpack (.iface 75 (.pointer (some e)))).run Tryz.prog w
 =.ok (.agg #[.pointer (some ⟨4,75,none⟩),.pointer (some ⟨w.heap.size,0,none⟩),.int .u64 150]) (w.alloc (.cells #[.pointer (some e)] 75)):=by kernel_rfl
theorem Tryz.Ix (w:World):(Rtype.elem? 77).run Tryz.prog w=.ok (some 75) w:=by kernel_rfl
theorem Tryz.aaQ (p:Addr) (w:World):(ReflectliteValue.mk 75 p ReflectliteValue.flagAddr).run Tryz.prog w=.ok (.agg #[.pointer (some ⟨4,75,none⟩),.pointer (some p),.int .u64 406]) w:=by kernel_rfl
theorem Tryz.Na (a p:Addr) (W:World) (ha:W.cell? a=some (.pointer (some p))) :
  (ReflectliteValue.method (ReflectliteValue.valueError "reflectlite.Value.Elem" 0) ReflectliteValue.elem #[.agg #[.pointer (some ⟨4,77,none⟩),.pointer (some a),.int .u64 150]]).run Tryz.prog W
  =.ok (.agg #[.pointer (some ⟨4,75,none⟩),.pointer (some p),.int .u64 406]) W:=by
 rw[rlm];simp only[Sem.run_bind,Tryz.AU,Result.andThen];simp[ReflectliteValue.elem,loadVar,isAgg,underlying,Tryz.underlying77,ha,Result.andThen,Tryz.Ix,Tryz.aaQ]
theorem Tryz.Iy (a:Addr) (w:World):(ReflectliteValue.parts (.agg #[.pointer (some ⟨4,75,none⟩),.pointer (some a),.int .u64 406])).run Tryz.prog w=.ok (some (75,a,406)) w:=by kernel_rfl
theorem Tryz.Nb (a:Addr) (w:World):(ReflectliteValue.parts (.agg #[.pointer (some ⟨4,75,none⟩),.pointer (some a),.int .u64 150])).run Tryz.prog w=.ok (some (75,a,150)) w:=by kernel_rfl
theorem Tryz.Iz (w:World):(Rtype.directlyAssignable 75 75).run Tryz.prog w=.ok true w:=by kernel_rfl
theorem Tryz.XF (ta b e:Addr) (old:Value) (W:World) (hb:W.cell? b=some (.pointer (some e))) (ht:W.cell? ta=some old) (hf:W.frozen? ta=false) :
  (ReflectliteValue.set #[.agg #[.pointer (some ⟨4,75,none⟩),.pointer (some ta),.int .u64 406],.agg #[.pointer (some ⟨4,75,none⟩),.pointer (some b),.int .u64 150]]).run Tryz.prog W
  =.ok (.tuple #[]) (W.setCell ta (.pointer (some e))):=by
 rw[rls];simp only[Sem.run_bind,Tryz.Iy,Tryz.Nb,Result.andThen];simp[ReflectliteValue.flagAddr,loadVar,isAgg,underlying,Tryz.underlying75,hb,Result.andThen,Tryz.Iz,storeVar,Value.cells,storeCells,Addr.add];rw[run_store Tryz.prog W ta _ _ (by rfl)]
 simp[ht,hf]
theorem SC (e t:Addr) (old:Value) (w:World) (hg:w.cell? ⟨0,0,none⟩=some (.iface 165 (.agg #[.pointer (some ⟨4,27,none⟩)]))) (Sl:w.cell? t=some old) (Sw:w.frozen? t=false) :
  Calls Tryz.prog 22 #[.iface 75 (.pointer (some e)),.iface 77 (.pointer (some t))] w fun ev w'=>ev=.returned (.bool true)∧w'=((((w.alloc (.cells #[.pointer (some t)] 77)).alloc (.cells #[.pointer (some ⟨4,77,none⟩),.pointer (some ⟨w.heap.size,0,none⟩),.int .u64 150] 130)).alloc (.cells #[.pointer (some ⟨4,77,none⟩),.pointer (some ⟨w.heap.size,0,none⟩),.int .u64 150] 130)).alloc (.cells #[.pointer (some e)] 75)).setCell t (.pointer (some e)):=by
 have h6:=@run_callFunc_extern Tryz.prog 46 _ (fun args=>ReflectliteValue.unpack (args.getD 0 (.tuple #[]))) Tryz.func46 (by kernel_rfl) (by kernel_rfl) (by kernel_rfl) (by kernel_rfl)
 have h7:=@run_callFunc_extern Tryz.prog 47 _ (ReflectliteValue.methodAny (ReflectliteValue.valueError "reflectlite.Value.Type" 0) (fun t _ _ _=>ReflectliteType.toType t)) Tryz.func47 (by kernel_rfl) (by kernel_rfl) (by kernel_rfl) (by kernel_rfl)
 have h8:=@run_callFunc_extern Tryz.prog 48 _ (ReflectliteValue.method (ReflectliteValue.valueError "reflectlite.Value.IsNil" 0) ReflectliteValue.isNil) Tryz.func48 (by kernel_rfl) (by kernel_rfl) (by kernel_rfl) (by kernel_rfl)
 have h27:=@run_callFunc_extern Tryz.prog 256 _ (ReflectliteType.abiMethod fun t=>do pure (.int .u8 (←Rtype.kind t))) Tryz.func256 (by kernel_rfl) (by kernel_rfl) (by kernel_rfl) (by kernel_rfl)
 have h37:=@run_callFunc_extern Tryz.prog 268 _ (ReflectliteType.method ReflectliteType.elem) Tryz.func268 (by kernel_rfl) (by kernel_rfl) (by kernel_rfl) (by kernel_rfl)
 have h38:=@run_callFunc_extern Tryz.prog 269 _ (ReflectliteType.relation "Implements" ReflectliteType.implements_) Tryz.func269 (by kernel_rfl) (by kernel_rfl) (by kernel_rfl) (by kernel_rfl)
 have h10:=@run_callFunc_extern Tryz.prog 65 _ ReflectliteType.typeOf Tryz.func65 (by kernel_rfl) (by kernel_rfl) (by kernel_rfl) (by kernel_rfl)
 have h35:=@run_callFunc_extern Tryz.prog 266 _ (ReflectliteType.relation "AssignableTo" ReflectliteType.assignableTo) Tryz.func266 (by kernel_rfl) (by kernel_rfl) (by kernel_rfl) (by kernel_rfl)
 have h11:=@run_callFunc_extern Tryz.prog 98 _ (ReflectliteValue.method (ReflectliteValue.valueError "reflectlite.Value.Elem" 0) ReflectliteValue.elem) Tryz.func98 (by kernel_rfl) (by kernel_rfl) (by kernel_rfl) (by kernel_rfl)
 have h12:=@run_callFunc_extern Tryz.prog 99 _ ReflectliteValue.set Tryz.func99 (by kernel_rfl) (by kernel_rfl) (by kernel_rfl) (by kernel_rfl)
 have tO:=Tryz.Iw;have mA:=Tryz.jG;have a25:=Tryz.wc;have v25:=Tryz.Dy;have f6:=Tryz.Dx;have f7:=Tryz.Sx;have mK:=Tryz.uS;have mE:=Tryz.uT;have mI:=Tryz.lf;have k27:=Tryz.Sy;have k25:=Tryz.Sz;have e27:=Tryz.SB;have i25:=Tryz.wb;have n8:=Tryz.M9 ⟨w.heap.size,0,none⟩ t ((w.alloc (.cells #[.pointer (some t)] 77)).alloc (.cells #[.pointer (some ⟨4,77,none⟩),.pointer (some ⟨w.heap.size,0,none⟩),.int .u64 150] 130)) (by simp)
 have hlt:0<w.heap.size:=by
  rcases mG w.heap.size with h0|h
  ·simp[World.cell?,h0] at hg
  ·exact h
 have hg2:((w.alloc (.cells #[.pointer (some t)] 77)).alloc (.cells #[.pointer (some ⟨4,77,none⟩),.pointer (some ⟨w.heap.size,0,none⟩),.int .u64 150] 130)).cell? ⟨0,0,none⟩=some (.iface 165 (.agg #[.pointer (some ⟨4,27,none⟩)])):=by
  rw[World.cell?_alloc_lt _ _ ⟨0,0,none⟩ (by simp),World.cell?_alloc_lt _ _ ⟨0,0,none⟩ hlt];exact hg
 have PQ:t.block<w.heap.size:=by
  rcases Em t.block w.heap.size with h|h
  ·exact h
  ·simp[World.cell?,Array.getElem?_eq_none h] at Sl
 have el:=Tryz.Na ⟨w.heap.size,0,none⟩ t (((w.alloc (.cells #[.pointer (some t)] 77)).alloc (.cells #[.pointer (some ⟨4,77,none⟩),.pointer (some ⟨w.heap.size,0,none⟩),.int .u64 150] 130)).alloc (.cells #[.pointer (some ⟨4,77,none⟩),.pointer (some ⟨w.heap.size,0,none⟩),.int .u64 150] 130)) (by rw[World.cell?_alloc_lt _ _ ⟨w.heap.size,0,none⟩ (by simp;omega)];simp)
 have st:=Tryz.XF t ⟨w.heap.size+1+1+1,0,none⟩ e old ((((w.alloc (.cells #[.pointer (some t)] 77)).alloc (.cells #[.pointer (some ⟨4,77,none⟩),.pointer (some ⟨w.heap.size,0,none⟩),.int .u64 150] 130)).alloc (.cells #[.pointer (some ⟨4,77,none⟩),.pointer (some ⟨w.heap.size,0,none⟩),.int .u64 150] 130)).alloc (.cells #[.pointer (some e)] 75))
  (by rw[World.cell?_alloc_at _ _ _ _ (by simp)];rfl)
  (by rw[World.cell?_alloc_lt _ _ t (by simp;omega),World.cell?_alloc_lt _ _ t (by simp;omega),World.cell?_alloc_lt _ _ t (by simp;omega),World.cell?_alloc_lt _ _ t PQ];exact Sl)
  (by rw[World.frozen?_alloc_old _ _ t (by simp;omega),World.frozen?_alloc_old _ _ t (by simp;omega),World.frozen?_alloc_old _ _ t (by simp;omega),World.frozen?_alloc_old _ _ t (ju PQ)];exact Sw)
 go_enter Tryz.func22,Tryz.ntmps22
 go_wp2
 refine wp_loop_rounds 1 ?_;rw[rounds_succ];go_wp2
 go_ret
 exact⟨rfl,rfl⟩
end Go.Proofs.YteflkdlaoiijbaaGreatDoor
namespace Go.Proofs.YteflkdlaoiijbaaGreatDoor
theorem xn {r l:List UInt8} (h:r <:+ l):nl r≤nl l:=h.sublist.count_le 10
theorem Dz (l sep:List UInt8) (h:(Lib.cut l sep).2.2=true):(Lib.cut l sep).2.1 <:+ l:=by
 unfold Lib.cut at h ⊢;split
 ·exact tP _ _
 ·rename_i h0
  rw[af h0] at h;cases h
theorem uU {l t r:List UInt8} (h:JC l=some (t,r)):r <:+ l:=by
 unfold JC at h;split at h
 ·rename_i hc
  injection h with h;injection h with _ h;rw[←h];exact(Dz _ _ hc).trans (tP _ _)
 ·cases h
theorem AV {l r:List UInt8} (h:comm l=some r):r <:+ l:=by
 unfold comm at h;split at h
 ·cases e:JC l with
  | none=>rw[e] at h;cases h
  | some z =>
   obtain⟨t,r'⟩:=z;rw[e] at h;simp only[pQ,pP] at h;rw[←h];exact uU e
 ·injection h with h
  rw[←h];exact tP _ _
theorem mS.suffix {l:List UInt8} {q:Except (List UInt8) (List UInt8)} (h:mS l q) :∀{r},q=.ok r→r <:+ l:=by
 induction h with
 | done h1 h2=>intro r e;cases e;rw[←h1];exact zD _
 | @more l r1 r' o h1 h2 h3 ih =>
  intro r e;have a:=ih e;have b:=AV h2;have c:(45::45::r1) <:+ l:=by rw[←h1];exact zD _
  exact a.trans (b.trans (((tQ 45 r1).trans (tQ 45 _)).trans c))
 | bad=>intro r e;cases e
theorem sN {b:Int} {p:UInt8→Bool} {least most:Nat} {l m r:List UInt8} (h:code b p least most l=some (m,r)):r <:+ l:=by
 unfold code at h;split at h
 ·injection h with h
  injection h with _ h;rw[←h];exact tP _ _
 ·cases h
theorem DA {l m r:List UInt8} (h:pK l=some (m,r)):r <:+ l:=by
 cases l with
 | nil=>cases h
 | cons c t =>
  have h:o9 c t=some (m,r):=h;have ht:=tQ c t;cases e:vT c with
  | some y =>
   rw[gh _ e] at h;injection h with h;injection h with _ h;rw[←h];exact ht
  | none =>
   cases e1:pZ c
   ·by_cases e2:c.toNat=122
    ·rw[Kj _ e e1 e2] at h
     injection h with h;injection h with _ h;rw[←h];exact(zD _).trans ht
    ·by_cases e3:c.toNat=120
     ·rw[Kk _ e e1 e3] at h
      exact(sN h).trans ht
     ·cases e4:gr c
      ·rw[Ex _ e e1 e2 e3 e4] at h
       cases h
      ·rw[Kl _ e e1 e2 e3 e4] at h
       exact sN h
   ·rw[kP _ e e1] at h
    injection h with h;injection h with _ h;rw[←h];exact ht
theorem yg.suffix {q:UInt8} {l:List UInt8} {o:Option (List UInt8×List UInt8)} (h:yg q l o) :∀{t r},o=some (t,r)→r <:+ l:=by
 induction h with
 | shut=>intro t r e;cases e;exact tQ _ _
 | none=>intro t r e;cases e
 | line=>intro t r e;cases e
 | @pK r1 m r' o' h1 h2 h3 ih =>
  intro t r e;cases o' with
  | none=>cases e
  | some z =>
   obtain⟨t',r''⟩:=z;simp only[pQ,pP,sx] at e;rw[←e.2];exact((ih rfl).trans (DA h2)).trans (tQ _ _)
 | bad=>intro t r e;cases e
 | @byte c r1 o' h1 h2 h3 h4 ih =>
  intro t r e;cases o' with
  | none=>cases e
  | some z =>
   obtain⟨t',r''⟩:=z;simp only[pQ,pP,sx] at e;rw[←e.2];exact(ih rfl).trans (tQ _ _)
theorem Tok.suffix {l:List UInt8} {k n:Int} {s r:List UInt8} (h:Tok l (some (k,n,s,r))):r <:+ l:=by
 generalize ho:some (k,n,s,r)=o at h;cases h with
 | eof=>simp only[pP,sx] at ho;rw[ho.2.2.2];exact List.suffix_refl _
 | name=>simp only[pP,sx] at ho;rw[ho.2.2.2];exact zD _
 | num=>simp only[pP,sx] at ho;rw[ho.2.2.2];exact zD _
 | CC=>cases ho
 | @text c t o' h1 h2 h3 h4 =>
  cases o' with
  | none=>cases ho
  | some z =>
   obtain⟨a,b⟩:=z;simp only[pQ,pP,sx] at ho;rw[ho.2.2.2];exact(h4.suffix rfl).trans (tQ _ _)
 | @long c t h1 h2 h3 h4 =>
  cases e:JC (c::t) with
  | none=>rw[e] at ho;cases ho
  | some z =>
   obtain⟨a,b⟩:=z;rw[e] at ho;simp only[pQ,pP,sx] at ho;rw[ho.2.2.2];exact uU e
 | @sign c t h1 h2 h3 h4 =>
  cases e:Go.Proofs.YteflkdlaoiijbaaGreatDoor.sign (c::t) with
  | none=>rw[e] at ho;cases ho
  | some z =>
   obtain⟨a,b⟩:=z;rw[e] at ho;simp only[pQ,pP,sx] at ho;rw[ho.2.2.2];unfold Go.Proofs.YteflkdlaoiijbaaGreatDoor.sign at e;split at e
   ·injection e with e;injection e with _ e;rw[←e];exact tP _ _
   ·split at e
    ·injection e with e;injection e with _ e;rw[←e];exact tP _ _
    ·split at e
     ·injection e with e;injection e with _ e;rw[←e];exact tP _ _
     ·cases e
open Go.RowKit
theorem Fe (n k:Int) (w:World):Calls Tryz.prog 23 #[.int .i64 n,.int .i64 k] w fun e w'=>e=.returned (.iface 83 (.pointer (some ⟨w.heap.size,0,none⟩)))∧w'=w.alloc (.cells #[.int .i64 n,.iface 79 (.int .i64 k)] 85):=by
 go_enter Tryz.func23,Tryz.ntmps23
 go_wp2
 go_ret
 exact⟨rfl,rfl⟩
def Nc (W:World) (v:Value) (n k:Int):Prop:=∃g,v=.iface 83 (.pointer (some ⟨g,0,none⟩))∧W.heap[g]? = some (.cells #[.int .i64 n,.iface 79 (.int .i64 k)] 85 (0,0))
theorem XG {K:Ast→List aj→Prop} {E:Int→Prop} {N:Nat} {t:aj} {r:List aj} (hl:(t::r).length<N) (h2:(t::r).length≤20000) (hw:Wf (t::r)) (H:Gw rf (t::r) K E):aK [LS N,LD] ⟨dA 18 t.2.1,[],t::r,0⟩ (ca K) E:=by
 refine⟨hl,by dsimp only;omega,by simp only[List.length_nil];omega,hw.zu,?_⟩
 refine(Gw.call (Gw.look (Gw.call H))).mono fun(l:List Ast) ax p hq n' hn'=>?_
 have hz:Ast.ak l+2*ax.length≤Ast.ak []+2*(t::r).length:=hq.1;have po:=hq.2.ret.2;obtain⟨u,us,rfl⟩:=(PL.wf (n:=.vM []) p hw).fin.cons;have G:=Gw.look po;dsimp only at hn'
 rw[cD] at hz hn';exact⟨u,us,rfl,fun h0=>⟨by dsimp only;omega,(G.pos h0).ret⟩,fun h0=>(G.neg h0).bad⟩
theorem XH {w:World} {g c:Nat} {ts:List aj} (h:ur w (.slice (some ⟨g,0,none⟩) ts.length c) ts) (hf:Fin ts) (hl:ts.length≤20000) (hg:g<w.heap.size):PS (w.alloc (.cells #[.slice (some ⟨g,0,none⟩) ts.length c,.int .i64 0,.slice none 0 0] 71)) w.heap.size (· = w.heap.size) ts [] :=
 ⟨⟨ts,0,g,c,.slice none 0 0,[],World.alloc_heap_new w _,h.below (aX w _),hg,rfl,hl,⟨World.ownsRow_nil _ _ _ _,fun k hk=>by simp[Value.ownBlock] at hk,fun t ht=>by simp at ht⟩,rfl⟩,hf,rfl,fun k hk=>by subst hk;simp⟩
theorem Nf {W:World} {B:Nat} {v:Value} {zs:List Int} (h:W.ownsRow B 3 1 v zs.length (zs.map (Value.int .i64))):eC W v zs:=by
 obtain⟨A,c,rfl,hc⟩:=bI h;refine⟨A,c,rfl,hc,?_⟩;rcases mG zs.length with h0|h0
 ·exact .inl (ma h0)
 ·obtain⟨g,c2,e1,h1,h2⟩:=h.form h0
  injection e1 with e1 _ _;subst e1;refine .inr ⟨g,0,rfl,h2,fun j z hj=>?_⟩
  have:=h.cells (g:=g) rfl j (.int .i64 z) (by rw[fw,hj];rfl)
  rwa[tD,←jY j] at this
theorem Nh {W:World} {B:Nat} {v:Value} {zs:List ByteArray} (h:W.ownsRow B 9 1 v zs.length (zs.map Value.string)):oL W v zs:=by
 obtain⟨A,c,rfl,hc⟩:=bI h;refine⟨A,c,rfl,hc,?_⟩;rcases mG zs.length with h0|h0
 ·exact .inl (ma h0)
 ·obtain⟨g,c2,e1,h1,h2⟩:=h.form h0
  injection e1 with e1 _ _;subst e1;refine .inr ⟨g,0,rfl,h2,fun j z hj=>?_⟩
  have:=h.cells (g:=g) rfl j (.string z) (by rw[fw,hj];rfl)
  rwa[tD,←jY j] at this
theorem AW :∀(L:List JG) (p j:Nat) (t:JG),L[p]? = some t→j<7→(L.flatMap aP)[p*7+j]? = (aP t)[j]?
 | [],p,j,t,h,_=>by simp at h
 | u::L,0,j,t,h,hj=>by
  obtain rfl:u=t:=by simpa using h
  rw[iG,Eo,jY,kK (by rw[eZ];exact hj)]
 | u::L,p+1,j,t,h,hj=>by
  have:=AW L p j t (by simpa using h) hj
  rw[iG,zy (by rw[eZ];omega),eZ,show(p+1)*7+j-7=p*7+j by omega]
  exact this
theorem QT.nodes {W:World} {b:Nat} {O:Nat→Prop} {v:Value} {L:List JG} (a6:QT W b O v L) {T:List Nd} (a7:L.map (·.1)=T):qc W v T:=by
 have hL:L.length=T.length:=by rw[←a7,cy]
 obtain⟨A,c,e,hc⟩:=bI a6.row;subst e;rw[hL] at hc;refine⟨A,c,by rw[hL],hc,?_⟩
 rcases mG L.length with h0|h0
 ·exact .inl (ma (by omega))
 ·obtain⟨g,c2,e1,h1,h2⟩:=a6.row.form h0
  injection e1 with e1 _ _;subst e1;refine .inr ⟨g,0,rfl,h2,fun j x hj=>?_⟩
  have hLj :∃t,L[j]? = some t∧t.1=x:=by
   rw[←a7,fw] at hj;cases hq:L[j]? with
   | none=>rw[hq] at hj;simp at hj
   | some t=>rw[hq] at hj;exact⟨t,rfl,by simpa using hj⟩
  obtain⟨t,ht,rfl⟩:=hLj;have hcell :∀k,k<7→W.cell? ⟨g,0+j*7+k,none⟩=(aP t)[k]?:=fun k hk=>by
   have hq:=AW L j k t ht hk;have Eu:k<(aP t).length:=by rw[eZ];exact hk
   rw[bE Eu] at hq ⊢;have:=a6.row.cells (g:=g) rfl (j*7+k) _ hq;rw[tD] at this;rw[jY];exact this
  have hn:=a6.each t (aL ht);exact⟨t.2.1,t.2.2,⟨hcell 0 (by omega),hcell 1 (by omega),hcell 2 (by omega),hcell 3 (by omega),hcell 4 (by omega),hcell 5 (by omega),hcell 6 (by omega)⟩,Nh hn.names,Nf hn.kids⟩
theorem PS.nodes {W:World} {b:Nat} {O:Nat→Prop} {ts:List aj} {T:List Nd} (h:PS W b O ts T) :∃A c,W.cell? ⟨b,2,none⟩=some (.slice A T.length c)∧∀(W':World) (O1:Nat→Prop),ay O1 W W'→(∀k,O k→¬ O1 k)→qc W' (.slice A T.length c) T:=by
 obtain⟨TS,i,g0,c0,nv,L,a1,a2,a3,a4,a5,a6,a7⟩:=h.ex;have hL:L.length=T.length:=by rw[←a7,cy]
 obtain⟨A,c,e,hc⟩:=bI a6.row;subst e;refine⟨A,c,by rw[←hL];simp[World.cell?,a1],fun W' O1 hf hd=>?_⟩
 have hb :∀k,O k→W'.heap[k]? = W.heap[k]?:=fun k hk=>hf.block k (h.own k hk).2 (hd k hk)
 have a8:QT W' b O (.slice A L.length c) L:=⟨dh a6.row fun k hk=>hb k (a6.own k hk),a6.own,fun t ht=>(a6.each t ht).kept hf hd (fun _ h=>h)⟩
 rw[←hL];exact a8.nodes a7
theorem Ni {r:List UInt8} {q:Option (Int×Int×List UInt8×List UInt8)} (h:Tok r q) :∀{k n:Int} {s r':List UInt8},q=some (k,n,s,r')→r≠[]→1≤k∧(k=2→s≠[61]):=by
 have mp :∀{o:Option (List UInt8×List UInt8)} {m k n:Int} {s r':List UInt8},o.map (fun x=>(m,(0:Int),x.1,x.2))=some (k,n,s,r')→k=m:=fun{o m k n s r'} e=>by
  cases o with
  | none=>simp at e
  | some x=>simp at e;exact e.1.symm
 cases h with
 | eof=>intro k n s r' _ hr;exact absurd rfl hr
 | @name c r hc =>
  intro k n s r' e _;injection e with e;injection e with e1 e;injection e with _ e;injection e with e3 _;refine⟨by rw[←e1];split<;>decide,fun _ h=>?_⟩
  rw[h] at e3;have hn:mP c=true:=by unfold mP;rw[hc];rfl
  rw[List.takeWhile_cons,al hn] at e3;injection e3 with e4 _;rw[e4] at hc;exact absurd hc (by decide)
 | num h1 h2 h3 =>
  intro k n s r' e _;injection e with e;injection e with e1 e;rw[←e1];exact⟨by decide,fun h=>absurd h (by decide)⟩
 | CC h1 h2 h3=>intro k n s r' e _;cases e
 | text h1 h2 h3 h4=>intro k n s r' e _;rw[mp e];exact⟨by decide,fun h=>absurd h (by decide)⟩
 | long h1 h2 h3 h4=>intro k n s r' e _;rw[mp e];exact⟨by decide,fun h=>absurd h (by decide)⟩
 | sign h1 h2 h3 h4=>intro k n s r' e _;rw[mp e];exact⟨by decide,fun h=>absurd h (by decide)⟩
theorem lex_wf {L:Int} {l:List UInt8} {o:Except Int (List Tk)} (h:ky L l o):(nl l:Int)<L→∀ts,o=.ok ts→Wf ts:=by
 induction h with
 | lF=>intro _ ts e;cases e
 | pb=>intro _ ts e;cases e
 | eof _ =>
  intro hL ts e;injection e with e;subst e;exact⟨⟨[],_,rfl,rfl,by simp⟩,fun t ht=>by
   obtain rfl:=bZ.1 ht;exact⟨by dsimp only;omega,fun h=>by simp at h⟩⟩
 | @step l r r' s k n o h1 h2 h3 h4 ih =>
  intro hL ts e;cases o with
  | error x=>cases e
  | ok ts0 =>
   injection e with e;subst e;have hr:=xn (h1.suffix rfl);have Uu:=xn h3.suffix;have hw:=ih (by omega) ts0 rfl
   have hk:=Ni h3 rfl h2;obtain⟨us,e,e1,e2,e3⟩:=hw.fin;refine⟨⟨(k,L-nl r,n,s)::us,e,by rw[e1];rfl,e2,fun u hu=>?_⟩,fun t ht=>?_⟩
   ·rcases bc.1 hu with rfl|hu
    ·dsimp only;omega
    ·exact e3 u hu
   ·rcases bc.1 ht with rfl|ht
    ·exact⟨by dsimp only;omega,hk.2⟩
    ·exact hw.zu t ht
end Go.Proofs.YteflkdlaoiijbaaGreatDoor
namespace Go.Proofs.YteflkdlaoiijbaaGreatDoor
open Go.RowKit Go.Extern.Stop Go.Stop Go.Extern
theorem Tryz.AX (v:Value) (w:World):(Extern.ReflectliteType.typeOf #[.iface 79 v]).run Tryz.prog w=.ok (.iface 165 (.agg #[.pointer (some ⟨4,79,none⟩)])) w:=by kernel_rfl
theorem Tryz.jH (v:Value) (w:World):(Go.method 423 165 v "Comparable").run Tryz.prog w=.ok (267,v) w:=by kernel_rfl
theorem Tryz.UX (v:Value) (xT:TypeId) (w:World):(Instr.typeAssert (.iface 83 v) xT 207 true).run Tryz.prog w=.ok (.tuple #[.nilIface,.bool false]) w:=run_typeAssert_lacksB Tryz.underlying207 (by kernel_rfl) (by kernel_rfl) v xT w
theorem Tryz.uV (v:Value) (xT:TypeId) (w:World):(Instr.typeAssert (.iface 83 v) xT 172 true).run Tryz.prog w=.ok (.tuple #[.iface 83 v,.bool true]) w:=run_typeAssert_hasB Tryz.underlying172 (by kernel_rfl) v xT w
theorem Tryz.aaR (v:Value) (xT:TypeId) (w:World):(Instr.typeAssert (.iface 79 v) xT 207 true).run Tryz.prog w=.ok (.tuple #[.nilIface,.bool false]) w:=run_typeAssert_lacksB Tryz.underlying207 (by kernel_rfl) (by kernel_rfl) v xT w
theorem Tryz.IA (v:Value) (xT:TypeId) (w:World):(Instr.typeAssert (.iface 79 v) xT 172 true).run Tryz.prog w=.ok (.tuple #[.nilIface,.bool false]) w:=run_typeAssert_lacksB Tryz.underlying172 (by kernel_rfl) (by kernel_rfl) v xT w
theorem Tryz.DB (v:Value) (xT:TypeId) (w:World):(Instr.typeAssert (.iface 79 v) xT 173 true).run Tryz.prog w=.ok (.tuple #[.nilIface,.bool false]) w:=run_typeAssert_lacksB Tryz.underlying173 (by kernel_rfl) (by kernel_rfl) v xT w
theorem Tryz.qo (v:Value) (w:World):(Go.method 423 83 v "Unwrap").run Tryz.prog w=.ok (261,v) w:=by kernel_rfl
theorem Tryz.qp (w:World):((Extern.ReflectliteType.method fun t=>do Rtype.noPackHeld "Comparable" t;(fun a=>Value.bool a.comparable) <$> typeInfo t) #[.agg #[.pointer (some ⟨4,79,none⟩)]]).run Tryz.prog w=.ok (.bool true) w:=by kernel_rfl
end Go.Proofs.YteflkdlaoiijbaaGreatDoor
namespace Go.Proofs.YteflkdlaoiijbaaGreatDoor
open Go.RowKit
structure oA (w:World):Prop where
 mx:Mx w
 et:w.cell? ⟨0,0,none⟩=some (.iface 165 (.agg #[.pointer (some ⟨4,27,none⟩)]))
 big:4≤w.heap.size
theorem oA.below {w w':World} (h:oA w) (hb:Below w.heap.size w w'):oA w' :=
 ⟨h.mx.below hb,(hb.cell (p:=⟨0,0,none⟩) (by have:=h.big;show 0<_;omega)).trans h.et,aM h.big hb.size⟩
theorem SD (g:Nat) (w:World) (h:oA w):Calls Tryz.prog 22 #[.iface 83 (.pointer (some ⟨g,0,none⟩)),.iface 104 (.pointer (some ⟨w.heap.size,0,none⟩))] (w.alloc (.cells #[.pointer none] 83)) fun e w' =>
  e=.returned (.bool true)∧w'.cell? ⟨w.heap.size,0,none⟩=some (.pointer (some ⟨g,0,none⟩))∧Below w.heap.size w w':=by
 have hB:=(Below.refl w.heap.size w).alloc (ah _) (.cells #[.pointer none] 83);have hE:=h.below hB;have hx:=Boxed.new w 83 (.pointer none);refine(XE ⟨g,0,none⟩ ⟨w.heap.size,0,none⟩ (.pointer none) (w.alloc (.cells #[.pointer none] 83)) hE.et hx.cell hx.frozen).mono ?_;rintro e w' ⟨rfl,rfl⟩;exact⟨rfl,(((((hx.alloc _).alloc _).alloc _).alloc _).set _).cell,(((((hB.alloc (by simp) _).alloc (by simp;omega) _).alloc (by simp;omega) _).alloc (by simp;omega) _)).setCell (ah _) _⟩
theorem gj {B:Nat} {w W:World} {n j:Nat} {v:Value} (h:Below B w W) (hn:B≤n):Below B w (W.setCell ⟨n,j,none⟩ v):=⟨h.os,h.tape,h.output,by simpa[World.setCell] using h.size,fun k hk=>(Below.heap_setCell _ _ _ k (by show k≠n;omega)).trans (h.block k hk)⟩
theorem AY {W:World} {n j g:Nat} {v:Value} {o:Obj} (h:W.heap[g]? = some o) (hn:g≠n):(W.setCell ⟨n,j,none⟩ v).heap[g]? = some o:=(Below.heap_setCell _ _ _ g hn).trans h
theorem Nj (g:Nat) (w:World) (h:oA w):Calls Tryz.prog 22 #[.iface 75 (.pointer (some ⟨g,0,none⟩)),.iface 77 (.pointer (some ⟨w.heap.size,0,none⟩))] (w.alloc (.cells #[.pointer none] 75)) fun e w' =>
  e=.returned (.bool true)∧w'.cell? ⟨w.heap.size,0,none⟩=some (.pointer (some ⟨g,0,none⟩))∧Below w.heap.size w w':=by
 have hB:=(Below.refl w.heap.size w).alloc (ah _) (.cells #[.pointer none] 75);have hE:=h.below hB;have hx:=Boxed.new w 75 (.pointer none);refine(SC ⟨g,0,none⟩ ⟨w.heap.size,0,none⟩ (.pointer none) (w.alloc (.cells #[.pointer none] 75)) hE.et hx.cell hx.frozen).mono ?_;rintro e w' ⟨rfl,rfl⟩;exact⟨rfl,(((((hx.alloc _).alloc _).alloc _).alloc _).set _).cell,(((((hB.alloc (by simp) _).alloc (by simp;omega) _).alloc (by simp;omega) _).alloc (by simp;omega) _)).setCell (ah _) _⟩
def gD:Value:=.agg #[.slice none 0 0,.int .i64 0]
def IB (s:ByteArray) (w:World) (e:Ending) (w':World):Prop :=
 Below w.heap.size w w'∧∃o,ky (dy s) s.data.toList o∧match o with
  | .error n=>∃v,e=.returned (.tuple #[gD,v])∧Nc w' v n 5
  | .ok ts=>ts.length≤s.size+1∧∃q,PL rf ts q∧match q with
   | .error l=>∃v,e=.returned (.tuple #[gD,v])∧Nc w' v l 6
   | .ok (a,_)=>(100<a.depth∧∃v,e=.returned (.tuple #[gD,v])∧Nc w' v 1 7) ∨
    (a.depth≤100∧∃(v:Value) (T:List Nd) (p:Nat),e=.returned (.tuple #[v,.nilIface])∧kU w' v T (p:Int)∧ep [] T [a] [(p:Int)])
theorem SE (s:ByteArray) (w:World) (hs:s.size≤8000) (hE:oA w) (hZ :∀(ts ax:List aj) (a:Ast),ky (dy s) s.data.toList (.ok ts)→ts.length≤s.size+1→PL rf ts (.ok (a,ax))→a.size≤16384):Calls Tryz.prog 9 #[.string s] w (IB s w):=by
 have h7:=hE.big;have hM:=hE.mx;have hlx:=fun W (h1:4≤W.heap.size) (h2:Mx W)=>QR s W (by omega) h1 h2
 have HL:=aa (hlx (w.alloc (.cells #[.slice none 0 0,.int .i64 0] 25)) (by simp;omega) (hM.below (aX w _)))
 have HS:=aa hs;have HE:=aa hE;have HZ:=aa hZ;clear hlx hE hM hs h7 hZ;go_enter Tryz.func9,Tryz.ntmps9
 go_wp2_with fail
 refine HL.out.mono ?_;rintro e w1 ⟨b1,o,ho,h1⟩;have B1:=aa (aA (aX w (.cells #[.slice none 0 0,.int .i64 0] 25)) b1);have rb :∀W,Below w1.heap.size w1 W→W.heap[w.heap.size]? = some (.cells #[.slice none 0 0,.int .i64 0] 25 (0,0)):=fun W hW=>((aA b1 hW).block w.heap.size (by simp)).trans (World.alloc_heap_new w _)
 have RB:=aa rb;have d0:w1.cell? ⟨w.heap.size,0,none⟩=some (.slice none 0 0):=by simp[World.cell?,rb w1 (Below.refl _ _)]
 have d1:w1.cell? ⟨w.heap.size,1,none⟩=some (.int .i64 0):=by simp[World.cell?,rb w1 (Below.refl _ _)]
 have y0:w1.frozen? ⟨w.heap.size,0,none⟩=false:=by simp[World.frozen?,rb w1 (Below.refl _ _)]
 have y1:w1.frozen? ⟨w.heap.size,1,none⟩=false:=by simp[World.frozen?,rb w1 (Below.refl _ _)]
 have HO:=aa ho;cases o with
 | error n =>
  obtain⟨v,rfl,g,rfl,hf⟩:=h1;have HF:=aa hf;clear b1 rb ho hf;have Rl:g≠w.heap.size:=fun e=>by
   have h1:=RB.out w1 (Below.refl _ _);rw[←e,HF.out] at h1;simp at h1
  go_wp2_with fail
  refine bodyPost_ret (v:=.tuple #[gD,.iface 83 (.pointer (some ⟨g,0,none⟩))]) ?_ rfl ⟨?_,.error n,HO.out,_,rfl,g,rfl,?_⟩
  ·simp[results,Tryz.results9,go_sem,gD,d0,d1]
  ·exact gj (gj (B1.out) (ah _)) (ah _)
  ·exact AY (AY HF.out Rl) Rl
 | ok ts =>
  obtain⟨hlen,v,rfl,hT⟩:=h1;have yF:=lex_wf ho (by unfold dy;omega) ts rfl
  obtain⟨g,cp,rfl,hcp,qU,jc⟩:=hT.ex;obtain⟨t,r,iW⟩:=yF.fin.cons;have hT2:ur w1 (.slice (some ⟨g,0,none⟩) ts.length cp) ts:=hT;have WH:=XH hT2 yF.fin (by have:=HS.out;omega) qU
  have aaS:=XG (N:=ts.length+1) (t:=t) (r:=r) (by rw[iW];exact dC _) (by rw[←iW];have:=HS.out;omega) (iW▸yF) (iW▸Gw.self rf ts)
  rw[iW] at WH;have HN:=aa (qm (w1.alloc (.cells #[.slice (some ⟨g,0,none⟩) (t::r).length cp,.int .i64 0,.slice none 0 0] 71)) (w1.alloc (.cells #[.slice (some ⟨g,0,none⟩) (t::r).length cp,.int .i64 0,.slice none 0 0] 71)) (w1.heap.size+1) (by simp) WH (ay.refl _ _) (mu 18) rfl [aZ 20 w1.heap.size,aZ 21 w1.heap.size] [LS (ts.length+1),LD] (by simp) ⟨(AT (ts.length+1)).vM.part (enters_of Tryz.func20 (by kernel_rfl) rfl) _ _ _,LF _ _ _,trivial⟩ aaS)
  subst iW;have GO:=aa hlen;clear hT hT2 WH aaS yF jc ho rb b1 hlen;go_wp2_with fail
  refine HN.out.mono ?_;intro e w3 h3;have b3:Below w1.heap.size w1 w3:=Below.trans (aX w1 _) (h3.1.below (B:=w1.heap.size) (fun k hk=>by omega) (by simp))
  have B3:=aa (aA B1.out b3);have XI:=aa b3;have hbl:w1.heap.size<w3.heap.size:=cJ (by simp) h3.1.size
  have hwl:w.heap.size<w1.heap.size:=(aF.1 (RB.out w1 (Below.refl _ _))).1;have Zw:=RB.out w3 b3;have RB3:=aa Zw;have e0:w3.cell? ⟨w.heap.size,0,none⟩=some (.slice none 0 0):=by simp[World.cell?,Zw]
  have e1:w3.cell? ⟨w.heap.size,1,none⟩=some (.int .i64 0):=by simp[World.cell?,Zw]
  have z0:w3.frozen? ⟨w.heap.size,0,none⟩=false:=by simp[World.frozen?,Zw]
  have z1:w3.frozen? ⟨w.heap.size,1,none⟩=false:=by simp[World.frozen?,Zw]
  have acI:w.heap.size<w3.heap.size:=by omega
  clear Zw b3 d0 d1 y0 y1;rcases h3.2 with ⟨p,a,iy,O2,T2,rfl,p2,x2,l2,k2⟩ | ⟨le,v,er,rfl,⟨g',rfl,m2,m3⟩,k2⟩
  ·obtain⟨A,c2,cT,DC⟩:=p2.nodes
   have hsz:T2.length=a.size:=by rw[l2.len,uJ];simp
   have hle:T2.length≤16384:=by
    have:=HZ.out _ _ _ HO.out GO.out k2;omega
   have q1:decide ((16384:Int)<(T2.length:Int))=false:=bU (by omega)
   have SF :∃js,gQ T2 a p js∧js.Nodup∧js.length=T2.length:=by
    obtain⟨_,js,hr,xo⟩:=l2;unfold bu at hr;obtain⟨k,iu,j1,j2,ek,hr1,hr2,ej⟩:=hr;unfold bu at hr2;obtain⟨_,rfl⟩:=hr2;have ek2:k=p:=by injection ek with ek _;omega
    subst ek2;rw[jX] at ej;subst ej;exact⟨_,hr1,xo.nodup_iff.2 (List.nodup_range' ..),by rw[xo.length_eq,J7];simp⟩
   have oO:eS T2 (p:Int)=a.depth:=by
    obtain⟨js,r1,r2,r3⟩:=SF;exact zN r1 r2 r3 hle
   have L2:=aa l2;have K2:=aa k2;have HNd:=aa DC;have HOw:=aa (fun k (hk:O2 k)=>(p2.own k hk).1)
   have HD:=aa (fun W (hW:Below w3.heap.size w3 W)=>As (.agg #[.slice A T2.length c2,.int .i64 (p:Int)]) T2 (p:Int) W ⟨_,rfl,DC W (fun _=>False) (ay.ae hW) (fun _ _ h=>h)⟩)
   rw[oO] at HD;have HLE:=aa hle;clear h3 p2 x2 l2 k2 DC HN hsz hle SF oO;go_wp2_with fail
   refine(XA _ _).mono ?_;rintro e w4 ⟨rfl,rfl⟩;have b45:Below w3.heap.size w3 ((w3.alloc (.cells #[.pointer none] 75)).alloc (.cells #[.slice A T2.length c2,.int .i64 (p:Int)] 25)):=aA (aX w3 _) (aX _ _);have HD2:=aa (HD.out _ b45);have B45:=aa b45;clear b45 HD;go_wp2_with fail
   refine HD2.out.mono ?_;rintro e w6 ⟨rfl,b6⟩;have B6:=aa (aA B45.out b6);have rb6:=RB.out w6 (aA XI.out B6.out);have f0:w6.cell? ⟨w.heap.size,0,none⟩=some (.slice none 0 0):=by simp[World.cell?,rb6]
   have f1:w6.cell? ⟨w.heap.size,1,none⟩=some (.int .i64 0):=by simp[World.cell?,rb6]
   have g0:w6.frozen? ⟨w.heap.size,0,none⟩=false:=by simp[World.frozen?,rb6]
   have g1:w6.frozen? ⟨w.heap.size,1,none⟩=false:=by simp[World.frozen?,rb6]
   have hw6:w3.heap.size+1<w6.heap.size:=by have:=b6.size;simp at this;omega
   have acJ:w.heap.size<w6.heap.size:=by omega
   have t0:w6.cell? ⟨w3.heap.size+1,0,none⟩=some (.slice A T2.length c2):=by
    refine(b6.cell (p:=⟨w3.heap.size+1,0,none⟩) (by simp)).trans ?_
    have:=dJ (w3.alloc (.cells #[.pointer none] 75)) #[.slice A T2.length c2,.int .i64 (p:Int)] 25 0;rw[an] at this;exact this
   have t1:w6.cell? ⟨w3.heap.size+1,1,none⟩=some (.int .i64 (p:Int)):=by
    refine(b6.cell (p:=⟨w3.heap.size+1,1,none⟩) (by simp)).trans ?_
    have:=dJ (w3.alloc (.cells #[.pointer none] 75)) #[.slice A T2.length c2,.int .i64 (p:Int)] 25 1;rw[an] at this;exact this
   clear rb6 b6 HD2 e0 e1 z0 z1 cT;have B6w:=aa (aA B3.out B6.out);by_cases uu:100<a.depth
   ·have q2:decide ((100:Int)<(a.depth:Int))=true:=bX (by omega)
    have PT:=aa uu;clear uu;go_wp2_with fail
    refine(Fe 1 7 w6).mono ?_;rintro e w7 ⟨rfl,rfl⟩;go_wp2_with fail
    refine bodyPost_ret (v:=.tuple #[gD,.iface 83 (.pointer (some ⟨w6.heap.size,0,none⟩))]) ?_ rfl ⟨?_,.ok (t::r),HO.out,GO.out,.ok (a,iy),K2.out,.inl ⟨PT.out,_,rfl,w6.heap.size,rfl,?_⟩⟩
    ·have yz:w.heap.size<((w6.setCell ⟨w.heap.size,0,none⟩ (.slice none 0 0)).setCell ⟨w.heap.size,1,none⟩ (.int .i64 0)).heap.size:=by simpa[World.setCell] using acJ
     have k0:(((w6.setCell ⟨w.heap.size,0,none⟩ (.slice none 0 0)).setCell ⟨w.heap.size,1,none⟩ (.int .i64 0)).alloc (.cells #[.int .i64 1,.iface 79 (.int .i64 7)] 85)).cell? ⟨w.heap.size,0,none⟩=some (.slice none 0 0):=by rw[World.cell?_alloc_lt _ _ _ yz];simp[go_sem,f0]
     have k1:(((w6.setCell ⟨w.heap.size,0,none⟩ (.slice none 0 0)).setCell ⟨w.heap.size,1,none⟩ (.int .i64 0)).alloc (.cells #[.int .i64 1,.iface 79 (.int .i64 7)] 85)).cell? ⟨w.heap.size,1,none⟩=some (.int .i64 0):=by rw[World.cell?_alloc_lt _ _ _ yz];simp[go_sem,f1]
     simp[results,Tryz.results9,go_sem,gD,k0,k1]
    ·exact aA (gj (gj B6w.out (ah _)) (ah _)) (aX _ _)
    ·have:=World.alloc_heap_new ((w6.setCell ⟨w.heap.size,0,none⟩ (.slice none 0 0)).setCell ⟨w.heap.size,1,none⟩ (.int .i64 0)) (.cells #[.int .i64 1,.iface 79 (.int .i64 7)] 85)
     simpa[World.setCell] using this
   ·have q2:decide ((100:Int)<(a.depth:Int))=false:=bU (by omega)
    have PT:=aa uu;have XJ:=RB.out w6 (aA XI.out B6.out);have fr6:=((ay.ae (O:=(· = w.heap.size)) B6.out).trans (ay.vV XJ (show(25:Nat)≠9 by decide) 0 (.slice A T2.length c2)) (Ext.refl _ _)).trans (ay.vV (ig XJ (k:=0) (.slice A T2.length c2)) (show(25:Nat)≠9 by decide) 1 (.int .i64 (p:Int))) (Ext.refl _ _)
    have HN6:=aa (HNd.out _ _ fr6 (fun k hk e=>by have:=HOw.out k hk;omega))
    clear XJ fr6;clear uu;go_wp2_with fail
    refine bodyPost_ret (v:=.tuple #[.agg #[.slice A T2.length c2,.int .i64 (p:Int)],.nilIface]) ?_ rfl ⟨?_,.ok (t::r),HO.out,GO.out,.ok (a,iy),K2.out,.inr ⟨Nat.le_of_not_lt PT.out,_,T2,p,rfl,⟨_,rfl,?_⟩,L2.out⟩⟩
    ·simp[results,Tryz.results9,go_sem,f0,f1]
    ·exact gj (gj B6w.out (ah _)) (ah _)
    ·exact HN6.out
  ·have aaT:g' < w3.heap.size:=(aF.1 m3).1
   have hA:=Nj g' w3 (HE.out.below B3.out);have HA:=aa hA;have M3:=aa m3;have K2:=aa k2;have hgw:g'≠w.heap.size:=by simp at m2;omega
   clear h3 m2 m3 k2 HN hA e0 e1 z0 z1;go_wp2_with fail
   refine HA.out.mono ?_;rintro e w4 ⟨rfl,c4,b4⟩;have rb4:=RB.out w4 (aA XI.out b4);have f0:w4.cell? ⟨w.heap.size,0,none⟩=some (.slice none 0 0):=by simp[World.cell?,rb4]
   have f1:w4.cell? ⟨w.heap.size,1,none⟩=some (.int .i64 0):=by simp[World.cell?,rb4]
   have g0:w4.frozen? ⟨w.heap.size,0,none⟩=false:=by simp[World.frozen?,rb4]
   have g1:w4.frozen? ⟨w.heap.size,1,none⟩=false:=by simp[World.frozen?,rb4]
   have XK:w4.heap[g']? = _:=(b4.block g' aaT).trans M3.out;have j0:w4.cell? ⟨g',0,none⟩=some (.int .i64 6):=by simp[World.cell?,XK]
   have j1:w4.cell? ⟨g',1,none⟩=some (.int .i64 le):=by simp[World.cell?,XK]
   have acK:w.heap.size<w4.heap.size:=cJ acI b4.size;have hgl4:g' < w4.heap.size:=cJ aaT b4.size;have h3l4:w3.heap.size<w4.heap.size:=World.block_lt_of_cell? w4 _ c4;have B4:=aa (aA B3.out b4);clear rb4 XK b4 HA;go_wp2_with fail
   go_region_with (first|(go_at_call 23;refine(Fe le 6 _).mono ?_;rintro e w5 ⟨rfl,rfl⟩))
   all_goals
    have yz:w.heap.size<((w4.setCell ⟨w.heap.size,0,none⟩ (.slice none 0 0)).setCell ⟨w.heap.size,1,none⟩ (.int .i64 0)).heap.size:=by simpa[World.setCell] using acK
    have k0:(((w4.setCell ⟨w.heap.size,0,none⟩ (.slice none 0 0)).setCell ⟨w.heap.size,1,none⟩ (.int .i64 0)).alloc (.cells #[.int .i64 le,.iface 79 (.int .i64 6)] 85)).cell? ⟨w.heap.size,0,none⟩=some (.slice none 0 0):=by rw[World.cell?_alloc_lt _ _ _ yz];simp[go_sem,f0]
    have k1:(((w4.setCell ⟨w.heap.size,0,none⟩ (.slice none 0 0)).setCell ⟨w.heap.size,1,none⟩ (.int .i64 0)).alloc (.cells #[.int .i64 le,.iface 79 (.int .i64 6)] 85)).cell? ⟨w.heap.size,1,none⟩=some (.int .i64 0):=by rw[World.cell?_alloc_lt _ _ _ yz];simp[go_sem,f1]
    go_wp2
    refine bodyPost_ret (v:=.tuple #[gD,.iface 83 (.pointer (some ⟨w4.heap.size,0,none⟩))]) ?_ rfl ⟨?_,.ok (t::r),HO.out,GO.out,.error le,K2.out,_,rfl,w4.heap.size,rfl,?_⟩
    ·simp[results,Tryz.results9,go_sem,gD,k0,k1,Act.put]
    ·have hb:=aA (gj (j:=1) (v:=.int .i64 0) (gj (j:=0) (v:=.slice none 0 0) B4.out (ah _)) (ah _)) (aX _ (.cells #[.int .i64 le,.iface 79 (.int .i64 6)] 85))
     exact⟨hb.os,hb.tape,hb.output,hb.size,hb.block⟩
    ·have:=World.alloc_heap_new ((w4.setCell ⟨w.heap.size,0,none⟩ (.slice none 0 0)).setCell ⟨w.heap.size,1,none⟩ (.int .i64 0)) (.cells #[.int .i64 le,.iface 79 (.int .i64 6)] 85)
     simpa[World.setCell,World.drew] using this
end Go.Proofs.YteflkdlaoiijbaaGreatDoor
namespace Go.Proofs.YteflkdlaoiijbaaGreatDoor
open Go.RowKit Go.Extern.Stop Go.Stop Go.Extern
theorem SG (g:Nat) (n m:Int) (w:World) (he :∀w:World,(binOp .eql 27 (.iface 79 (.int .i64 m)) (.iface 79 (.int .i64 m))).run Tryz.prog w=.ok (.bool true) w) (hg:w.heap[g]? = some (.cells #[.int .i64 n,.iface 79 (.int .i64 m)] 85 (0,0))) :
  Calls Tryz.prog 30 #[.iface 83 (.pointer (some ⟨g,0,none⟩)),.iface 79 (.int .i64 m)] w fun e w'=>e=.returned (.bool true)∧w=w':=by
 have h1:w.cell? ⟨g,1,none⟩=some (.iface 79 (.int .i64 m)):=by simp[World.cell?,hg]
 have h41:=@run_callFunc_extern Tryz.prog 65 _ Extern.ReflectliteType.typeOf Tryz.func65 (by kernel_rfl) (by kernel_rfl) (by kernel_rfl) (by kernel_rfl)
 have XL:=@run_callFunc_extern Tryz.prog 267 _ (Extern.ReflectliteType.method fun t=>do Rtype.noPackHeld "Comparable" t;pure (.bool (←typeInfo t).comparable)) Tryz.func267 (by kernel_rfl) (by kernel_rfl) (by kernel_rfl) (by kernel_rfl)
 have tT:=Tryz.AX;have cT:=Tryz.qp;have mR:=Tryz.jH;have nF:=Tryz.UX;have uF:=Tryz.uV;have mU:=Tryz.qo;have e5:=he;have GQ:=run_eql_iface_types (P:=Tryz.prog) 83 79 (.pointer (some ⟨g,0,none⟩)) (.int .i64 m) Tryz.underlying27 (by decide) w
 clear hg;go_enter Tryz.func30,Tryz.ntmps30
 go_wp2
 refine wp_loop_rounds 2 ?_;rw[rounds_succ];go_wp2
 rw[rounds_succ];go_wp2
 go_ret
 exact⟨rfl,rfl⟩
theorem SH (g:Nat) (n m k:Int) (w:World) (he :∀w:World,(binOp .eql 27 (.iface 79 (.int .i64 m)) (.iface 79 (.int .i64 k))).run Tryz.prog w=.ok (.bool false) w) (hg:w.heap[g]? = some (.cells #[.int .i64 n,.iface 79 (.int .i64 m)] 85 (0,0))) :
  Calls Tryz.prog 30 #[.iface 83 (.pointer (some ⟨g,0,none⟩)),.iface 79 (.int .i64 k)] w fun e w'=>e=.returned (.bool false)∧w=w':=by
 have h1:w.cell? ⟨g,1,none⟩=some (.iface 79 (.int .i64 m)):=by simp[World.cell?,hg]
 have h41:=@run_callFunc_extern Tryz.prog 65 _ Extern.ReflectliteType.typeOf Tryz.func65 (by kernel_rfl) (by kernel_rfl) (by kernel_rfl) (by kernel_rfl)
 have XL:=@run_callFunc_extern Tryz.prog 267 _ (Extern.ReflectliteType.method fun t=>do Rtype.noPackHeld "Comparable" t;pure (.bool (←typeInfo t).comparable)) Tryz.func267 (by kernel_rfl) (by kernel_rfl) (by kernel_rfl) (by kernel_rfl)
 have tT:=Tryz.AX;have cT:=Tryz.qp;have mR:=Tryz.jH;have nF:=Tryz.UX;have uF:=Tryz.uV;have mU:=Tryz.qo;have nE:=Tryz.aaR;have uE:=Tryz.IA;have vE:=Tryz.DB;have GQ:=run_eql_iface_types (P:=Tryz.prog) 83 79 (.pointer (some ⟨g,0,none⟩)) (.int .i64 k) Tryz.underlying27 (by decide) w
 clear hg;go_enter Tryz.func30,Tryz.ntmps30
 go_wp2
 refine wp_loop_rounds 2 ?_;rw[rounds_succ];go_wp2
 rw[rounds_succ];go_wp2
 go_ret
 exact⟨rfl,rfl⟩
theorem Nk (w:World):Calls Tryz.prog 13 #[.nilIface] w fun e w'=>e=.returned (.tuple #[.int .i64 0,.int .i64 0])∧w=w':=by
 go_enter Tryz.func13,Tryz.ntmps13
 go_wp2_with fail
 go_ret2
 exact⟨rfl,rfl⟩
end Go.Proofs.YteflkdlaoiijbaaGreatDoor
namespace Go.Proofs.YteflkdlaoiijbaaGreatDoor
mutual
def Ast.wt:Ast→Nat
 | .mk h ks=>h.names.length+Ast.eD ks
def Ast.eD:List Ast→Nat
 | []=>0
 | a::l=>Ast.wt a+Ast.eD l
end
inductive Lt where
 | mk (i:Nat) (h:Nd) (kids:List Lt)
def Lt.loc:Lt→Nat
 | .mk i _ _=>i
def Lt.hd:Lt→Nd
 | .mk _ h _=>h
def Lt.sub:Lt→List Lt
 | .mk _ _ ks=>ks
mutual
/-- It lies so in a list of nodes. -/
def Lt.In (T:List Nd):Lt→Prop
 | .mk i h ks=>T[i]? = some h∧h.kids=ks.map (fun k=>(k.loc:Int))∧Lt.nG T ks
def Lt.nG (T:List Nd):List Lt→Prop
 | []=>True
 | k::ks=>Lt.In T k∧Lt.nG T ks
end
structure mw where
 name:ByteArray
 node:Nat
 cap:Bool
structure sO where
 loc:Bool
 idx:Nat
deriving DecidableEq
structure dr where
 node:Nat
 parent:Int
 params:Nat
 many:Bool
 vars:List mw
 ch:List sO
structure jn where
 s:ByteArray
 fn:Nat
 i:Nat
structure fF where
 fn:Nat
 node:Nat
 at_:Nat
 loop:Bool
 rep:Bool
 kids:List Lt
structure aH where
 fns:List dr
 uses:Nat→Int×Int
 of:Nat→Int
 names:List jn
 frames:List fF
abbrev Rs (α:Type):=Except (Int×Int) α
def aH.setOf (st:aH) (i fn:Nat):aH:={ st with of:=fun j=>if j=i then (fn:Int) else st.of j}
def aH.dw (st:aH) (i:Nat) (u:Int×Int):aH:={ st with uses:=fun j=>if j=i then u else st.uses j}
def aH.fn (st:aH) (f:Nat):dr:=st.fns.getD f ⟨0,0,0,false,[],[]⟩
def aH.oP (st:aH) (f:Nat) (x:dr):aH:={ st with fns:=st.fns.set f x}
def dV (node f:Nat) (line:Int):List ByteArray→aH→Rs aH
 | [],st=>.ok st
 | s::l,st =>
  if 200≤(st.fn f).vars.length then .error (11,line)
  else dV node f line l { st.oP f { st.fn f with vars:=(st.fn f).vars++[⟨s,node,false⟩]} with names:=⟨s,f,(st.fn f).vars.length⟩::st.names}
def bF (node f:Nat) (line:Int) (l:List ByteArray) (st:aH):Rs aH:=dV node f line l (st.dw node (2,((st.fn f).vars.length:Int)))
def gE (F:List dr) (f:Nat) (u:sO):Option (List dr×Nat) :=
 let x:=F.getD f ⟨0,0,0,false,[],[]⟩
 match x.ch.findIdx? (fun y=>decide (y=u)) with
 | some i=>some (F,i)
 | none=>if 60≤x.ch.length then none else some (F.set f { x with ch:=x.ch++[u]},x.ch.length)
def lQ (x:jn):Nat→List dr→Nat→Option (List dr×Nat)
 | 0,_,_=>none
 | g+1,F,f =>
  let p:=(F.getD f ⟨0,0,0,false,[],[]⟩).parent
  if p=(x.fn:Int) then gE F f ⟨true,x.i⟩
  else match lQ x g F p.toNat with
   | none=>none
   | some (F',k)=>gE F' f ⟨false,k⟩
def da (x:dr) (i:Nat):dr:={ x with vars:=match x.vars[i]? with|some v=>x.vars.set i { v with cap:=true}|none=>x.vars}
def lR (node f:Nat) (s:ByteArray) (line:Int) (st:aH):Rs aH :=
 match st.names.find? (fun n=>decide (n.s=s)) with
 | none=>.ok (st.dw node (1,0))
 | some n =>
  if n.fn=f then .ok (st.dw node (2,(n.i:Int)))
  else match lQ n st.fns.length (st.fns.set n.fn (da (st.fn n.fn) n.i)) f with
   | none=>.error (12,line)
   | some (F,k)=>.ok ({ st with fns:=F}.dw node (3,(k:Int)))
def ml (s:ByteArray) (k:Lt):Bool:=decide (k.hd.kind=32) && decide (k.hd.s=s)
def cA (ks:List Lt) (s:ByteArray):Option Nat:=ks.findIdx? (ml s)
def cM (frames:List fF) (f:Nat) (all:List Lt):Nat→List Lt→Option Int
 | _,[]=>none
 | n,k::ks =>
  if k.hd.kind=32∧((∃j,cA all k.hd.s=some j∧j<n)∨∃x∈frames,x.loop=false∧x.fn=f∧(cA x.kids k.hd.s).isSome) then some k.hd.line
  else cM frames f all (n+1) ks
def gZ (i f:Nat) (rep:Bool) (ks:List Lt) (st:aH):Rs aH :=
 match cM st.frames f ks 0 ks with
 | some l=>.error (9,l)
 | none=>.ok { st with frames:=⟨f,i,0,false,rep,ks⟩::st.frames}
def aH.at (st:aH) (n:Nat):aH:={ st with frames:=match st.frames with | []=>[]|x::l=>{ x with at_:=n}::l}
def ee (node f:Nat) (line:Int) (st:aH):Rs aH :=
 match st.frames.find? (fun x=>x.loop && decide (x.fn=f)) with
 | none=>.error (8,line)
 | some x=>.ok (st.dw node (4,(x.node:Int)))
def isDecl (k:Lt):Bool:=decide (k.hd.kind=19) || decide (k.hd.kind=28)
def lS (ks:List Lt) (a j:Nat) (rep:Bool):Bool :=
 ((ks.take j).drop (a+1)).any isDecl && !(!rep && (ks.drop (j+1)).all fun k=>decide (k.hd.kind=32))
def dm (node f:Nat) (s:ByteArray) (line:Int) (st:aH):List fF→Rs aH
 | []=>.error (8,line)
 | x::l =>
  if x.loop=true∨x.fn≠f then dm node f s line st l
  else match cA x.kids s with
   | none=>dm node f s line st l
   | some j=>if lS x.kids x.at_ j x.rep then .error (10,line) else .ok (st.dw node (4,((x.kids.getD j (.mk 0 ⟨0,0,0,0,⟨#[]⟩,[],[]⟩ [])).loc:Int)))
def du (i f:Nat) (st:aH):aH:={ st with frames:=⟨f,i,0,true,false,[]⟩::st.frames}
def aH.back (st mn:aH):aH:={ st with names:=mn.names,frames:=mn.frames}
def jI (i f:Nat) (h:Nd) (st:aH):aH:={ st with fns:=st.fns++[⟨i,(f:Int),h.names.length,decide (h.num=1),[],[]⟩]}
mutual
def bo:Lt→Nat→aH→Rs aH
 | .mk i h ks,f,mn =>
  let st:=mn.setOf i f
  if h.kind=6 then (if (st.fn f).many then .ok st else .error (14,h.line))
  else if h.kind=7 then lR i f h.s h.line st
  else if h.kind=11 then
   (bF i st.fns.length h.line h.names (jI i f h st)).bind fun st1=>(aI ks st.fns.length st1).map fun st2=>st2.back st
  else if h.kind=18 then (gZ i f false ks st).bind fun st1=>(cY ks 0 f st1).map fun st2=>st2.back st
  else if h.kind=19 then (aI ks f st).bind fun st1=>bF i f h.line h.names st1
  else if h.kind=23 then (aI ks f (du i f st)).map fun st1=>st1.back st
  else if h.kind=24 then (kD ks f (du i f st)).map fun st1=>st1.back st
  else if h.kind=26∨h.kind=27 then iO i h.line h.names ks f st
  else if h.kind=28 then (bF i f h.line h.names st).bind fun st1=>aI ks f st1
  else if h.kind=30 then ee i f h.line st
  else if h.kind=31 then dm i f h.s h.line st st.frames
  else aI ks f st
def aI:List Lt→Nat→aH→Rs aH
 | [],_,st=>.ok st
 | k::ks,f,st=>(bo k f st).bind fun st1=>aI ks f st1
/-- Statements of a block, from the one at n on. -/
def cY:List Lt→Nat→Nat→aH→Rs aH
 | [],_,_,st=>.ok st
 | k::ks,n,f,st=>(bo k f (st.at n)).bind fun st1=>cY ks (n+1) f st1
/-- A block with a test that stands in it. -/
def kD:List Lt→Nat→aH→Rs aH
 | [.mk i _ ks,t],f,st=>(gZ i f true ks (st.setOf i f)).bind fun st1=>(cY ks 0 f st1).bind fun st2=>bo t f st2
 | _,_,st=>.ok st
/-- acL, then names are declared, then a block. -/
def iO (i:Nat) (line:Int) (names:List ByteArray):List Lt→Nat→aH→Rs aH
 | [],_,st=>.ok st
 | [b],f,st=>(bF i f line names (du i f st)).bind fun st1=>(bo b f st1).map fun st2=>st2.back st
 | a::b::l,f,st=>(bo a f st).bind fun st1=>iO i line names (b::l) f st1
end
def gF (root:Nat):aH:=⟨[⟨root,-1,0,true,[],[]⟩],fun _=>(0,0),fun _=>0,[],[]⟩
def my (t:Lt):Rs aH:=bo t 0 (gF t.loc)
structure qq (x x':dr):Prop where
 node:x'.node=x.node
 parent:x'.parent=x.parent
 params:x'.params=x.params
 many:x'.many=x.many
 vars :∀(j:Nat) v,x.vars[j]? = some v→∃v':mw,x'.vars[j]? = some v'∧v'.name=v.name∧v'.node=v.node∧(v.cap=true→v'.cap=true)
 ch :∀(j:Nat) u,x.ch[j]? = some u→x'.ch[j]? = some u
theorem qq.refl (x:dr):qq x x:=⟨rfl,rfl,rfl,rfl,fun _ v h=>⟨v,h,rfl,rfl,id⟩,fun _ _ h=>h⟩
theorem qq.trans {x y z:dr} (h:qq x y) (k:qq y z):qq x z :=
 ⟨k.node.trans h.node,k.parent.trans h.parent,k.params.trans h.params,k.many.trans h.many,fun j v hv=>by
  obtain⟨v1,h1,h2,h3,h4⟩:=h.vars j v hv;obtain⟨v2,k1,k2,k3,k4⟩:=k.vars j v1 h1;exact⟨v2,k1,k2.trans h2,k3.trans h3,fun c=>k4 (h4 c)⟩,fun j u hu=>k.ch j u (h.ch j u hu)⟩
theorem qq.len {x y:dr} (h:qq x y):x.vars.length≤y.vars.length:=by
 rcases mG x.vars.length with h0|h0
 ·omega
 ·obtain⟨v',h1,_⟩:=h.vars (x.vars.length-1) _ (bE (by omega))
  have:=(aJ.1 h1).1;omega
def uW (F F':List dr):Prop:=F.length≤F'.length∧∀(f:Nat) x,F[f]? = some x→∃x',F'[f]? = some x'∧qq x x'
theorem uW.refl (F:List dr):uW F F:=⟨ah _,fun _ x h=>⟨x,h,.refl x⟩⟩
theorem uW.trans {A B C:List dr} (h:uW A B) (k:uW B C):uW A C :=
 ⟨aM h.1 k.1,fun f x hx=>by
  obtain⟨y,hy,e⟩:=h.2 f x hx;obtain⟨z,hz,e'⟩:=k.2 f y hy;exact⟨z,hz,e.trans e'⟩⟩
theorem uW.set {F:List dr} {f:Nat} {x x':dr} (h:F[f]? = some x) (e:qq x x'):uW F (F.set f x') :=
 ⟨by simp,fun g y hy=>by
  by_cases hg:g=f
  ·subst hg
   rw[h] at hy;injection hy with hy;subst hy;exact⟨x',by rw[ec (aJ.1 h).1],e⟩
  ·exact⟨y,by rw[fJ (fun e=>hg e.symm)];exact hy,.refl y⟩⟩
theorem uW.app (F:List dr) (x:dr):uW F (F++[x]) :=
 ⟨by simp,fun f y hy=>⟨y,by rw[kK (aJ.1 hy).1];exact hy,.refl y⟩⟩
structure Ffn (F:List dr) (i:Nat) (x:dr):Prop where
 par:(i=0∧x.parent = -1)∨∃p:Nat,x.parent=(p:Int)∧p<i
 acM:x.params≤x.vars.length
structure AZ (F:List dr):Prop where
 pos:0<F.length
 each :∀(i:Nat) x,F[i]? = some x→Ffn F i x
inductive Nl (F:List dr):Nat→Nat→Prop
 | same {f:Nat}:Nl F f f
 | up {a f p:Nat} {x:dr}:F[f]? = some x→x.parent=(p:Int)→Nl F a p→Nl F a f
theorem Nl.ext {F F':List dr} (h:uW F F') {a f:Nat} (k:Nl F a f):Nl F' a f:=by
 induction k with
 | same=>exact .same
 | up h1 h2 _ ih =>
  obtain⟨x',h3,e⟩:=h.2 _ _ h1;exact .up h3 (e.parent.trans h2) ih
inductive nH (F:List dr) (s:ByteArray):Nat→Nat→Prop
 | here {f k j p:Nat} {x y:dr} {v:mw}:F[f]? = some x→x.ch[k]? = some ⟨true,j⟩→x.parent=(p:Int)→F[p]? = some y→y.vars[j]? = some v→v.name=s→v.cap=true→nH F s f k
 | up {f k j p:Nat} {x:dr}:F[f]? = some x→x.ch[k]? = some ⟨false,j⟩→x.parent=(p:Int)→nH F s p j→nH F s f k
theorem nH.ext {F F':List dr} (h:uW F F') {s:ByteArray} {f k:Nat} (l:nH F s f k):nH F' s f k:=by
 induction l with
 | here h1 h2 h3 h4 h5 h6 h7 =>
  obtain⟨x',e1,l1⟩:=h.2 _ _ h1;obtain⟨y',e2,l2⟩:=h.2 _ _ h4;obtain⟨v',e3,e4,_,e5⟩:=l2.vars _ _ h5;exact .here e1 (l1.ch _ _ h2) (l1.parent.trans h3) e2 e3 (e4.trans h6) (e5 h7)
 | up h1 h2 h3 _ ih =>
  obtain⟨x',e1,l1⟩:=h.2 _ _ h1;exact .up e1 (l1.ch _ _ h2) (l1.parent.trans h3) ih
theorem gG {F:List dr} {f:Nat} {x d:dr} (h:F[f]? = some x):F.getD f d=x:=by rw[jU,h];rfl
theorem AZ.set {F:List dr} (h:AZ F) {f:Nat} {x x':dr} (hx:F[f]? = some x) (e:qq x x'):AZ (F.set f x') :=
 ⟨by rw[mg];exact h.pos,fun i y hy=>by
  by_cases hi:i=f
  ·subst hi
   rw[ec (aJ.1 hx).1] at hy;injection hy with hy;subst hy;obtain⟨p,q⟩:=h.each _ _ hx;exact⟨by rw[e.parent];exact p,by rw[e.params];exact aM q e.len⟩
  ·rw[fJ (fun e=>hi e.symm)] at hy
   obtain⟨p,q⟩:=h.each _ _ hy;exact⟨p,q⟩⟩
theorem A0 {F F':List dr} {f k:Nat} {u:sO} (h:gE F f u=some (F',k)) {x:dr} (hx:F[f]? = some x) (hF:AZ F) :
  uW F F'∧AZ F'∧F'.length=F.length∧∃x',F'[f]? = some x'∧x'.ch[k]? = some u∧x'.parent=x.parent:=by
 unfold gE at h;simp only[gG hx] at h;split at h
 ·rename_i i hi
  injection h with h;injection h with h1 h2;subst h1 h2;obtain⟨hlt,he,_⟩:=zx.1 hi;refine⟨.refl F,hF,rfl,x,hx,?_,rfl⟩;rw[bE hlt];exact aB some (gU he)
 ·split at h
  ·cases h
  ·injection h with h
   injection h with h1 h2;subst h1 h2;have e:qq x { x with ch:=x.ch++[u]}:=⟨rfl,rfl,rfl,rfl,fun _ v hv=>⟨v,hv,rfl,rfl,id⟩,fun _ w hw=>by
    rw[kK (aJ.1 hw).1];exact hw⟩
   exact⟨.set hx e,hF.set hx e,by simp,{ x with ch:=x.ch++[u]},by rw[ec (aJ.1 hx).1],by simp,rfl⟩
theorem AZ.par {F:List dr} (hF:AZ F) {f:Nat} {x:dr} (hx:F[f]? = some x) (h0:f≠0) :∃p:Nat,x.parent=(p:Int)∧p<f∧∃y,F[p]? = some y:=by
 rcases(hF.each _ _ hx).par with ⟨h,_⟩ | ⟨p,h1,h2⟩
 ·exact absurd h h0
 ·have:=(aJ.1 hx).1
  exact⟨p,h1,h2,F[p],bE (by omega)⟩
theorem Fg {n:jn} :∀(g:Nat) {F F':List dr} {f k:Nat},lQ n g F f=some (F',k)→AZ F→Nl F n.fn f→n.fn≠f→f<F.length→(∃y v,F[n.fn]? = some y∧y.vars[n.i]? = some v∧v.name=n.s∧v.cap=true) →
  uW F F'∧AZ F'∧F'.length=F.length∧nH F' n.s f k:=by
 intro g;induction g with
 | zero=>intro F F' f k h;cases h
 | succ g ih =>
  intro F F' f k h hF ha hne hf hv;obtain⟨x,hx⟩ :∃x,F[f]? = some x:=⟨_,bE hf⟩;rw[lQ] at h;simp only[gG hx] at h;cases ha with
  | same=>exact absurd rfl hne
  | @up _ p x' re hp ha =>
   rw[hx] at re;injection re with re;subst re;have h0:f≠0:=fun e=>by
    rcases(hF.each _ _ hx).par with ⟨_,h1⟩ | ⟨q,_,h2⟩
    ·omega
    ·omega
   obtain⟨q,hq,hlt,y,hy⟩:=hF.par hx h0;have hqp:q=p:=by omega
   subst hqp;rw[hq] at h;by_cases he:q=n.fn
   ·subst he
    rw[al rfl] at h;obtain⟨e1,e2,e3,x',re,hu,XM⟩:=A0 h hx hF;obtain⟨y',v,hy',hv1,hv2,hv3⟩:=hv;obtain⟨y2,hy2,l2⟩:=e1.2 _ _ hy';obtain⟨v2,hv4,hv5,_,hv6⟩:=l2.vars _ _ hv1;exact⟨e1,e2,e3,.here re hu (XM.trans hq) hy2 hv4 (hv5.trans hv2) (hv6 hv3)⟩
   ·rw[af (by omega)] at h
    simp only[iI] at h;split at h
    ·cases h
    ·rename_i F1 k1 h1
     obtain⟨e1,e2,e3,l⟩:=ih h1 hF ha (fun e=>he e.symm) (by omega) hv
     obtain⟨x1,hx1,l1⟩:=e1.2 _ _ hx;obtain⟨g1,g2,g3,x2,hx2,hu,XM⟩:=A0 h hx1 e2;exact⟨e1.trans g1,g2,g3.trans e3,.up hx2 hu (XM.trans (l1.parent.trans hq)) (l.ext g1)⟩
mutual
def Lt.dI:Lt→List Nat
 | .mk i _ ks=>i::Lt.aS ks
def Lt.aS:List Lt→List Nat
 | []=>[]
 | k::ks=>Lt.dI k++Lt.aS ks
end
mutual
def Lt.All (Q:Nat→Nd→Prop):Lt→Prop
 | .mk i h ks=>Q i h∧Lt.dN Q ks
def Lt.dN (Q:Nat→Nd→Prop):List Lt→Prop
 | []=>True
 | k::ks=>Lt.All Q k∧Lt.dN Q ks
end
mutual
theorem Lt.All.imp {Q Q':Nat→Nd→Prop} :∀(t:Lt),(∀i∈t.dI,∀h,Q i h→Q' i h)→Lt.All Q t→Lt.All Q' t
 | .mk i h ks,hi,ha=>by
  unfold Lt.All at ha ⊢;exact⟨hi i (by rw[Lt.dI];exact bT ..) h ha.1,Lt.dN.imp ks (fun j hj=>hi j (by rw[Lt.dI];exact cr _ hj)) ha.2⟩
theorem Lt.dN.imp {Q Q':Nat→Nd→Prop} :∀(ks:List Lt),(∀i∈Lt.aS ks,∀h,Q i h→Q' i h)→Lt.dN Q ks→Lt.dN Q' ks
 | [],_,_=>by unfold Lt.dN;trivial
 | k::ks,hi,ha=>by
  unfold Lt.dN at ha ⊢;exact⟨Lt.All.imp k (fun j hj=>hi j (by rw[Lt.aS];exact eO _ hj)) ha.1,Lt.dN.imp ks (fun j hj=>hi j (by rw[Lt.aS];exact iF _ hj)) ha.2⟩
end
def Kok (h:Nd) (ks:List Lt):Prop:=((h.kind=6∨h.kind=7∨h.kind=30∨h.kind=31)→ks=[])∧(h.kind=24→∃b t,ks=[b,t]∧b.hd.kind=18)
mutual
def Lt.Wf:Lt→Prop
 | .mk _ h ks=>Kok h ks∧Lt.yP ks
def Lt.yP:List Lt→Prop
 | []=>True
 | k::ks=>Lt.Wf k∧Lt.yP ks
end
theorem yQ (t:Lt):t.loc∈t.dI:=by cases t with|mk i h ks=>rw[Lt.dI];exact bT ..
theorem qt :∀{ks:List Lt} {t:Lt},t∈ks→t.loc∈Lt.aS ks
 | k::ks,t,h=>by
  rw[Lt.aS];rcases bc.1 h with rfl|h
  ·exact eO _ (yQ _)
  ·exact iF _ (qt h)
def fF.core (x:fF):fF:={ x with at_:=0}
def aH.fr (st:aH):List fF:=st.frames.map fF.core
theorem UY (st:aH) (n:Nat):(st.at n).fr=st.fr:=by
 unfold aH.at aH.fr;cases st.frames with
 | nil=>rfl
 | cons x l=>rfl
def IC (F:List dr) (f:Nat) (n:jn):Prop:=Nl F n.fn f∧∃y v,F[n.fn]? = some y∧y.vars[n.i]? = some v∧v.name=n.s
theorem IC.ext {F F':List dr} (h:uW F F') {f:Nat} {n:jn} (k:IC F f n):IC F' f n:=by
 obtain⟨a,y,v,h1,h2,h3⟩:=k;obtain⟨y',e1,l⟩:=h.2 _ _ h1;obtain⟨v',e2,e3,_⟩:=l.vars _ _ h2;exact⟨a.ext h,y',v',e1,e2,e3.trans h3⟩
structure Cx (f:Nat) (st:aH):Prop where
 ok:AZ st.fns
 lt:f<st.fns.length
 names :∀n∈st.names,IC st.fns f n
def XN (st:aH) (s:ByteArray) (j:Nat):Prop:=∃f:Nat,st.of j=(f:Int)∧(st.uses j=(1,0)∨(∃k:Nat,st.uses j=(2,(k:Int))∧∃y v,st.fns[f]? = some y∧y.vars[k]? = some v∧v.name=s)∨∃k:Nat,st.uses j=(3,(k:Int))∧nH st.fns s f k)
def XO (V:List Nat) (fr:List fF) (st:aH) (j:Nat):Prop :=
 ∃f t:Nat,st.of j=(f:Int)∧st.uses j=(4,(t:Int))∧((t∈V∧st.of t=(f:Int))∨∃x∈fr,x.fn=f∧((x.loop=true∧t=x.node)∨(x.loop=false∧t∈x.kids.map Lt.loc)))
def sP (V:List Nat) (fr:List fF) (st:aH) (i:Nat) (h:Nd):Prop:=(h.kind=7→XN st h.s i)∧(h.kind=30∨h.kind=31→XO V fr st i)
structure kE (L:List Nat) (f:Nat) (st st':aH):Prop where
 ext:uW st.fns st'.fns
 ok:AZ st'.fns
 off :∀j,j∉L→st'.uses j=st.uses j∧st'.of j=st.of j
 names :∃a,st'.names=a++st.names∧∀n∈a,IC st'.fns f n
 new :∀(g:Nat) x,st.fns.length≤g→st'.fns[g]? = some x→x.node∈L∧st'.of x.node=x.parent
theorem kE.cx {L:List Nat} {f:Nat} {st st':aH} (h:kE L f st st') (c:Cx f st):Cx f st' :=
 ⟨h.ok,cJ c.lt h.ext.1,fun n hn=>by
  obtain⟨a,e,ha⟩:=h.names;rw[e] at hn;rcases cU.1 hn with hn|hn
  ·exact ha n hn
  ·exact(c.names n hn).ext h.ext⟩
theorem kE.refl {f:Nat} {st:aH} (c:Cx f st):kE [] f st st:=⟨.refl _,c.ok,fun _ _=>⟨rfl,rfl⟩,⟨[],rfl,fun n hn=>by simp at hn⟩,fun g x h1 h2=>by have:=(aJ.1 h2).1;omega⟩
theorem kE.more {L L':List Nat} {f:Nat} {st st':aH} (h:kE L f st st') (hL :∀j∈L,j∈L'):kE L' f st st' :=
 ⟨h.ext,h.ok,fun j hj=>h.off j fun e=>hj (hL j e),h.names,fun g x h1 h2=>⟨hL _ (h.new g x h1 h2).1,(h.new g x h1 h2).2⟩⟩
theorem kE.trans {A B:List Nat} {f:Nat} {a b c:aH} (h:kE A f a b) (k:kE B f b c) (hd :∀j∈A,j∉B):kE (A++B) f a c :=
 ⟨h.ext.trans k.ext,k.ok,fun j hj=>by
  rw[cU,sz] at hj;exact⟨(k.off j hj.2).1.trans (h.off j hj.1).1,(k.off j hj.2).2.trans (h.off j hj.1).2⟩,by
  obtain⟨x,e1,h1⟩:=h.names;obtain⟨y,e2,h2⟩:=k.names;refine⟨y++x,by rw[e2,e1,fK],fun n hn=>?_⟩
  rcases cU.1 hn with hn|hn
  ·exact h2 n hn
  ·exact(h1 n hn).ext k.ext,fun g x h1 h2=>by
  by_cases hg:b.fns.length≤g
  ·exact⟨iF _ (k.new g x hg h2).1,(k.new g x hg h2).2⟩
  ·obtain⟨y,hy⟩ :∃y,b.fns[g]? = some y:=⟨_,bE (by omega)⟩
   obtain⟨x',re,l⟩:=k.ext.2 g y hy;rw[h2] at re;injection re with re;subst re;obtain⟨m1,m2⟩:=h.new g y h1 hy;rw[←l.node] at m1 m2;exact⟨eO _ m1,by rw[(k.off _ (hd _ m1)).2,m2,l.parent]⟩⟩
theorem XN.later {B:List Nat} {f:Nat} {b c:aH} {s:ByteArray} {j:Nat} (h:XN b s j) (k:kE B f b c) (hj:j∉B):XN c s j:=by
 obtain⟨g,h1,h2⟩:=h;obtain⟨e1,e2⟩:=k.off j hj;refine⟨g,by rw[e2];exact h1,?_⟩
 rw[e1];rcases h2 with h2 | ⟨n,h2,y,v,h3,h4,h5⟩ | ⟨n,h2,h3⟩
 ·exact .inl h2
 ·obtain⟨y',e3,l⟩:=k.ext.2 _ _ h3
  obtain⟨v',e4,e5,_⟩:=l.vars _ _ h4;exact .inr (.inl ⟨n,h2,y',v',e3,e4,e5.trans h5⟩)
 ·exact .inr (.inr ⟨n,h2,h3.ext k.ext⟩)
theorem XO.later {B V:List Nat} {fr:List fF} {f:Nat} {b c:aH} {j:Nat} (h:XO V fr b j) (k:kE B f b c) (hj:j∉B) (hV :∀t∈V,t∉B):XO V fr c j:=by
 obtain⟨g,t,h1,h2,h3⟩:=h;obtain⟨e1,e2⟩:=k.off j hj;refine⟨g,t,by rw[e2];exact h1,by rw[e1];exact h2,?_⟩
 rcases h3 with ⟨h3,h4⟩|h3
 ·exact .inl ⟨h3,by rw[(k.off t (hV t h3)).2];exact h4⟩
 ·exact .inr h3
theorem sP.later {B V:List Nat} {fr:List fF} {f:Nat} {b c:aH} {j:Nat} {h:Nd} (q:sP V fr b j h) (k:kE B f b c) (hj:j∉B) (hV :∀t∈V,t∉B):sP V fr c j h :=
 ⟨fun e=>(q.1 e).later k hj,fun e=>(q.2 e).later k hj hV⟩
theorem sP.more {V V':List Nat} {fr:List fF} {b:aH} {j:Nat} {h:Nd} (q:sP V fr b j h) (hV :∀t∈V,t∈V'):sP V' fr b j h :=
 ⟨q.1,fun e=>by
  obtain⟨g,t,h1,h2,h3⟩:=q.2 e;exact⟨g,t,h1,h2,h3.imp (fun h=>⟨hV t h.1,h.2⟩) id⟩⟩
theorem sP.left {V:List Nat} {x:fF} {fr:List fF} {b:aH} {j:Nat} {h:Nd} (q:sP V (x::fr) b j h) (hx :∀t,((x.loop=true∧t=x.node)∨(x.loop=false∧t∈x.kids.map Lt.loc))→t∈V∧b.of t=(x.fn:Int)):sP V fr b j h :=
 ⟨q.1,fun e=>by
  obtain⟨g,t,h1,h2,h3⟩:=q.2 e;refine⟨g,t,h1,h2,?_⟩;rcases h3 with h3 | ⟨y,hy,h4,h5⟩
  ·exact .inl h3
  ·rcases bc.1 hy with rfl|hy
   ·obtain⟨k1,k2⟩:=hx t h5
    exact .inl ⟨k1,by rw[k2,h4]⟩
   ·exact .inr ⟨y,hy,h4,h5⟩⟩
theorem sP.same {V:List Nat} {fr:List fF} {b c:aH} {j:Nat} {h:Nd} (q:sP V fr b j h) (e1:c.fns=b.fns) (e2:c.uses=b.uses) (e3:c.of=b.of):sP V fr c j h:=by
 unfold sP XN XO at *;rw[e1,e2,e3];exact q
theorem kE.back {L:List Nat} {f:Nat} {st st':aH} (h:kE L f st st'):kE L f st (st'.back st) :=
 ⟨h.ext,h.ok,h.off,⟨[],rfl,fun n hn=>by simp at hn⟩,h.new⟩
end Go.Proofs.YteflkdlaoiijbaaGreatDoor
