/- Parts of the proof. -/
import Derived.LaidEql
import Derived.Stop.Asserts
import Derived.RowKitTokens
import Derived.Test.YteflkdlaoiijbaaGreatDoorM07
set_option maxHeartbeats 16000000
set_option maxRecDepth 20000
namespace Go.Proofs.YteflkdlaoiijbaaGreatDoor
open Go.RowKit
set_option maxRecDepth 40000 in
theorem Hz  (b:Nat) (O:Nat→Prop) (t:aj) (ts:List aj) (T:List Nd) (K:Ast→List aj→Prop) (E:Int→Prop) (w:World) (hp:PS w b O (t::ts) T) (hq:av oJ t=true)
  (hk:aI [aC] ⟨dx 30 t.2.1,[],t::ts,T.length⟩ (bW K) E) :
  Calls Tryz.prog 44 #[.pointer (some ⟨b,0,none⟩)] w (aH b O T (RK K E) w):=by
 have HW:=aa (bQ b O t ts T w hp);have g1:((ag t).toList == [98,114,101,97,107])=true:=ai (s:=oJ) (by decide) t hq
 have HK:=aa hk;generalize hY:ag t=Y at *;have P:=aa hp;clear hp hk hY hq;go_enter Tryz.func44,Tryz.ntmps44
 go_wp2_with fail
 refine HW.out.mono ?_;rintro e w0 ⟨rfl,b0⟩;have F0:=aa (ay.ae (O:=O) b0);have P0:=aa (P.out.below b0);clear b0;have HN:=aa (cI w w0 P0.out F0.out (mo 30) rfl [aZ 40 b] [aC] (by simp) ⟨bb w0 b O,trivial⟩ HK.out)
 go_wp2_with fail
 refine HN.out.mono ?_;intro e wz hz;obtain⟨v,er,rfl⟩:=hz.ret;have HZ:=aa hz;clear hz;go_wp2_with fail
 go_ret2
 exact HZ.out
set_option maxRecDepth 40000 in
theorem MM  (b:Nat) (O:Nat→Prop) (t:aj) (ts:List aj) (T:List Nd) (K:Ast→List aj→Prop) (E:Int→Prop) (w:World) (hp:PS w b O (t::ts) T) (hq:av rM t=true)
  (hk:aI [aC,cS] ⟨dx 31 t.2.1,[],t::ts,T.length⟩ (bW K) E) :
  Calls Tryz.prog 44 #[.pointer (some ⟨b,0,none⟩)] w (aH b O T (RK K E) w):=by
 have HW:=aa (bQ b O t ts T w hp);have g1:=aQ [98,114,101,97,107] hq (by decide)
 have g2:((ag t).toList == [103,111,116,111])=true:=ai (s:=rM) (by decide) t hq
 have HK:=aa hk;generalize hY:ag t=Y at *;have P:=aa hp;clear hp hk hY hq;go_enter Tryz.func44,Tryz.ntmps44
 go_wp2_with fail
 refine HW.out.mono ?_;rintro e w0 ⟨rfl,b0⟩;have F0:=aa (ay.ae (O:=O) b0);have P0:=aa (P.out.below b0);clear b0;have HN:=aa (cI w w0 P0.out F0.out (mo 31) rfl [aZ 40 b,aZ 88 b] [aC,cS] (by simp) ⟨bb w0 b O,gW w0 b O,trivial⟩ HK.out)
 go_wp2_with fail
 refine HN.out.mono ?_;intro e wz hz;obtain⟨v,er,rfl⟩:=hz.ret;have HZ:=aa hz;clear hz;go_wp2_with fail
 go_ret2
 exact HZ.out
set_option maxRecDepth 40000 in
theorem H7  (b:Nat) (O:Nat→Prop) (t:aj) (ts:List aj) (T:List Nd) (K:Ast→List aj→Prop) (E:Int→Prop) (w:World) (hp:PS w b O (t::ts) T) (hq:av [58,58] t=true)
  (hk:aI [aC,cS,au [[58,58]]] ⟨dx 32 t.2.1,[],t::ts,T.length⟩ (bW K) E) :
  Calls Tryz.prog 44 #[.pointer (some ⟨b,0,none⟩)] w (aH b O T (RK K E) w):=by
 have HW:=aa (bQ b O t ts T w hp);have g1:=aQ [98,114,101,97,107] hq (by decide)
 have g2:=aQ [103,111,116,111] hq (by decide)
 have g3:((ag t).toList == [58,58])=true:=ai (s:=[58,58]) (by decide) t hq
 have HK:=aa hk;generalize hY:ag t=Y at *;have P:=aa hp;clear hp hk hY hq;go_enter Tryz.func44,Tryz.ntmps44
 go_wp2_with fail
 refine HW.out.mono ?_;rintro e w0 ⟨rfl,b0⟩;have F0:=aa (ay.ae (O:=O) b0);have P0:=aa (P.out.below b0);clear b0;have oz :∀k,O k→k<w0.heap.size:=fun k hk=>(P0.out.own k hk).2
 have V1:=aa (cF w0 b O oz [58,58] (by decide) ⟨#[58,58]⟩ rfl)
 clear oz;go_wp2_with fail
 refine V1.out.mono ?_;rintro e w1 ⟨f1,a1,c1,rfl,b1,h1⟩;have F1:=aa (F0.out.trans (ay.ae (O:=O) b1) (Ext.refl _ _));have P1:=aa (P0.out.below b1);have H1:=aa h1;clear b1 h1 V1;have HN:=aa (cI w w1 P1.out F1.out (mo 32) rfl [aZ 40 b,aZ 88 b,.func (.func f1) a1 c1] [aC,cS,au [[58,58]]] (by simp) ⟨bb w1 b O,gW w1 b O,H1.out,trivial⟩ HK.out)
 go_wp2_with fail
 refine HN.out.mono ?_;intro e wz hz;obtain⟨v,er,rfl⟩:=hz.ret;have HZ:=aa hz;clear hz;go_wp2_with fail
 go_ret2
 exact HZ.out
set_option maxRecDepth 40000 in
theorem Xb {bl:cg} (hB:ey 90 bl) (b:Nat) (O:Nat→Prop) (t:aj) (ts:List aj) (T:List Nd) (K:Ast→List aj→Prop) (E:Int→Prop) (w:World) (hp:PS w b O (t::ts) T) (hq:av Ca t=true)
  (hk:aI [aC,bl,au [[101,110,100]]] ⟨dx 22 t.2.1,[],t::ts,T.length⟩ (bW K) E) :
  Calls Tryz.prog 44 #[.pointer (some ⟨b,0,none⟩)] w (aH b O T (RK K E) w):=by
 have HW:=aa (bQ b O t ts T w hp);have g1:=aQ [98,114,101,97,107] hq (by decide)
 have g2:=aQ [103,111,116,111] hq (by decide)
 have g3:=aQ [58,58] hq (by decide)
 have g4:((ag t).toList == [100,111])=true:=ai (s:=Ca) (by decide) t hq
 have HK:=aa hk;generalize hY:ag t=Y at *;have P:=aa hp;clear hp hk hY hq;go_enter Tryz.func44,Tryz.ntmps44
 go_wp2_with fail
 refine HW.out.mono ?_;rintro e w0 ⟨rfl,b0⟩;have F0:=aa (ay.ae (O:=O) b0);have P0:=aa (P.out.below b0);clear b0;have oz :∀k,O k→k<w0.heap.size:=fun k hk=>(P0.out.own k hk).2
 have V1:=aa (cF w0 b O oz [101,110,100] (by decide) ⟨#[101,110,100]⟩ rfl)
 clear oz;go_wp2_with fail
 refine V1.out.mono ?_;rintro e w1 ⟨f1,a1,c1,rfl,b1,h1⟩;have F1:=aa (F0.out.trans (ay.ae (O:=O) b1) (Ext.refl _ _));have P1:=aa (P0.out.below b1);have H1:=aa h1;clear b1 h1 V1;have HN:=aa (cI w w1 P1.out F1.out (mo 22) rfl [aZ 40 b,aZ 90 b,.func (.func f1) a1 c1] [aC,bl,au [[101,110,100]]] (by simp) ⟨bb w1 b O,hB.part (enters_of Tryz.func90 (by kernel_rfl) rfl) w1 b O,H1.out,trivial⟩ HK.out)
 go_wp2_with fail
 refine HN.out.mono ?_;intro e wz hz;obtain⟨v,er,rfl⟩:=hz.ret;have HZ:=aa hz;clear hz;go_wp2_with fail
 go_ret2
 exact HZ.out
set_option maxRecDepth 40000 in
theorem H9 {ex bl:cg} (hE:ey 91 ex) (hB:ey 90 bl) (b:Nat) (O:Nat→Prop) (t:aj) (ts:List aj) (T:List Nd) (K:Ast→List aj→Prop) (E:Int→Prop) (w:World) (hp:PS w b O (t::ts) T) (hq:av oK t=true)
  (hk:aI [aC,ex,au [[100,111]],bl,au [[101,110,100]]] ⟨dx 23 t.2.1,[],t::ts,T.length⟩ (bW K) E) :
  Calls Tryz.prog 44 #[.pointer (some ⟨b,0,none⟩)] w (aH b O T (RK K E) w):=by
 have HW:=aa (bQ b O t ts T w hp);have g1:=aQ [98,114,101,97,107] hq (by decide)
 have g2:=aQ [103,111,116,111] hq (by decide)
 have g3:=aQ [58,58] hq (by decide)
 have g4:=aQ [100,111] hq (by decide)
 have g5:((ag t).toList == [119,104,105,108,101])=true:=ai (s:=oK) (by decide) t hq
 have HK:=aa hk;generalize hY:ag t=Y at *;have P:=aa hp;clear hp hk hY hq;go_enter Tryz.func44,Tryz.ntmps44
 go_wp2_with fail
 refine HW.out.mono ?_;rintro e w0 ⟨rfl,b0⟩;have F0:=aa (ay.ae (O:=O) b0);have P0:=aa (P.out.below b0);clear b0;have oz :∀k,O k→k<w0.heap.size:=fun k hk=>(P0.out.own k hk).2
 have V1:=aa (cF w0 b O oz [100,111] (by decide) ⟨#[100,111]⟩ rfl)
 clear oz;go_wp2_with fail
 refine V1.out.mono ?_;rintro e w1 ⟨f1,a1,c1,rfl,b1,h1⟩;have F1:=aa (F0.out.trans (ay.ae (O:=O) b1) (Ext.refl _ _));have P1:=aa (P0.out.below b1);have H1:=aa h1;clear b1 h1 V1;have qU :∀k,O k→k<w1.heap.size:=fun k hk=>(P1.out.own k hk).2
 have V2:=aa (cF w1 b O qU [101,110,100] (by decide) ⟨#[101,110,100]⟩ rfl)
 clear qU;go_wp2_with fail
 refine V2.out.mono ?_;rintro e w2 ⟨f2,a2,c2,rfl,b2,h2⟩;have F2:=aa (F1.out.trans (ay.ae (O:=O) b2) (Ext.refl _ _));have P2:=aa (P1.out.below b2);have L1:=aa (H1.out.later (ay.ae (O:=O) b2) (Ext.refl _ _));clear H1;have H1:=L1;clear L1;have H2:=aa h2;clear b2 h2 V2;have HN:=aa (cI w w2 P2.out F2.out (mo 23) rfl [aZ 40 b,aZ 91 b,.func (.func f1) a1 c1,aZ 90 b,.func (.func f2) a2 c2] [aC,ex,au [[100,111]],bl,au [[101,110,100]]] (by simp) ⟨bb w2 b O,hE.part (enters_of Tryz.func91 (by kernel_rfl) rfl) w2 b O,H1.out,hB.part (enters_of Tryz.func90 (by kernel_rfl) rfl) w2 b O,H2.out,trivial⟩ HK.out)
 go_wp2_with fail
 refine HN.out.mono ?_;intro e wz hz;obtain⟨v,er,rfl⟩:=hz.ret;have HZ:=aa hz;clear hz;go_wp2_with fail
 go_ret2
 exact HZ.out
set_option maxRecDepth 40000 in
theorem Da {bl ex:cg} (hB:ey 90 bl) (hE:ey 91 ex) (b:Nat) (O:Nat→Prop) (t:aj) (ts:List aj) (T:List Nd) (K:Ast→List aj→Prop) (E:Int→Prop) (w:World) (hp:PS w b O (t::ts) T) (hq:av ly t=true)
  (hk:aI [aC,bl,au [[117,110,116,105,108]],ex] ⟨dx 24 t.2.1,[],t::ts,T.length⟩ (bW K) E) :
  Calls Tryz.prog 44 #[.pointer (some ⟨b,0,none⟩)] w (aH b O T (RK K E) w):=by
 have HW:=aa (bQ b O t ts T w hp);have g1:=aQ [98,114,101,97,107] hq (by decide)
 have g2:=aQ [103,111,116,111] hq (by decide)
 have g3:=aQ [58,58] hq (by decide)
 have g4:=aQ [100,111] hq (by decide)
 have g5:=aQ [119,104,105,108,101] hq (by decide)
 have g6:((ag t).toList == [114,101,112,101,97,116])=true:=ai (s:=ly) (by decide) t hq
 have HK:=aa hk;generalize hY:ag t=Y at *;have P:=aa hp;clear hp hk hY hq;go_enter Tryz.func44,Tryz.ntmps44
 go_wp2_with fail
 refine HW.out.mono ?_;rintro e w0 ⟨rfl,b0⟩;have F0:=aa (ay.ae (O:=O) b0);have P0:=aa (P.out.below b0);clear b0;have oz :∀k,O k→k<w0.heap.size:=fun k hk=>(P0.out.own k hk).2
 have V1:=aa (cF w0 b O oz [117,110,116,105,108] (by decide) ⟨#[117,110,116,105,108]⟩ rfl)
 clear oz;go_wp2_with fail
 refine V1.out.mono ?_;rintro e w1 ⟨f1,a1,c1,rfl,b1,h1⟩;have F1:=aa (F0.out.trans (ay.ae (O:=O) b1) (Ext.refl _ _));have P1:=aa (P0.out.below b1);have H1:=aa h1;clear b1 h1 V1;have HN:=aa (cI w w1 P1.out F1.out (mo 24) rfl [aZ 40 b,aZ 90 b,.func (.func f1) a1 c1,aZ 91 b] [aC,bl,au [[117,110,116,105,108]],ex] (by simp) ⟨bb w1 b O,hB.part (enters_of Tryz.func90 (by kernel_rfl) rfl) w1 b O,H1.out,hE.part (enters_of Tryz.func91 (by kernel_rfl) rfl) w1 b O,trivial⟩ HK.out)
 go_wp2_with fail
 refine HN.out.mono ?_;intro e wz hz;obtain⟨v,er,rfl⟩:=hz.ret;have HZ:=aa hz;clear hz;go_wp2_with fail
 go_ret2
 exact HZ.out
set_option maxRecDepth 40000 in
theorem Xc {ex bl:cg} (hE:ey 91 ex) (hB:ey 90 bl) (b:Nat) (O:Nat→Prop) (t:aj) (ts:List aj) (T:List Nd) (K:Ast→List aj→Prop) (E:Int→Prop) (w:World) (hp:PS w b O (t::ts) T) (hq:av Vm t=true)
  (hk:aI [aC,ex,au [[116,104,101,110]],bl,qQ [101,108,115,101,105,102] [ex,au [[116,104,101,110]],bl],bB [101,108,115,101] [bl],au [[101,110,100]]] ⟨dx 25 t.2.1,[],t::ts,T.length⟩ (bW K) E) :
  Calls Tryz.prog 44 #[.pointer (some ⟨b,0,none⟩)] w (aH b O T (RK K E) w):=by
 have HW:=aa (bQ b O t ts T w hp);have g1:=aQ [98,114,101,97,107] hq (by decide)
 have g2:=aQ [103,111,116,111] hq (by decide)
 have g3:=aQ [58,58] hq (by decide)
 have g4:=aQ [100,111] hq (by decide)
 have g5:=aQ [119,104,105,108,101] hq (by decide)
 have g6:=aQ [114,101,112,101,97,116] hq (by decide)
 have g7:((ag t).toList == [105,102])=true:=ai (s:=Vm) (by decide) t hq
 have HK:=aa hk;generalize hY:ag t=Y at *;have P:=aa hp;clear hp hk hY hq;go_enter Tryz.func44,Tryz.ntmps44
 go_wp2_with fail
 refine HW.out.mono ?_;rintro e w0 ⟨rfl,b0⟩;have F0:=aa (ay.ae (O:=O) b0);have P0:=aa (P.out.below b0);clear b0;have oz :∀k,O k→k<w0.heap.size:=fun k hk=>(P0.out.own k hk).2
 have V1:=aa (cF w0 b O oz [116,104,101,110] (by decide) ⟨#[116,104,101,110]⟩ rfl)
 clear oz;go_wp2_with fail
 refine V1.out.mono ?_;rintro e w1 ⟨f1,a1,c1,rfl,b1,h1⟩;have F1:=aa (F0.out.trans (ay.ae (O:=O) b1) (Ext.refl _ _));have P1:=aa (P0.out.below b1);have H1:=aa h1;clear b1 h1 V1;have qU :∀k,O k→k<w1.heap.size:=fun k hk=>(P1.out.own k hk).2
 have V2:=aa (cF w1 b O qU [116,104,101,110] (by decide) ⟨#[116,104,101,110]⟩ rfl)
 clear qU;go_wp2_with fail
 refine V2.out.mono ?_;rintro e w2 ⟨f2,a2,c2,rfl,b2,h2⟩;have F2:=aa (F1.out.trans (ay.ae (O:=O) b2) (Ext.refl _ _));have P2:=aa (P1.out.below b2);have L1:=aa (H1.out.later (ay.ae (O:=O) b2) (Ext.refl _ _));clear H1;have H1:=L1;clear L1;have H2:=aa h2;clear b2 h2 V2;have Jy :∀k,O k→k<w2.heap.size:=fun k hk=>(P2.out.own k hk).2
 have V3:=aa (Rt w2 b O Jy [aZ 91 b,.func (.func f2) a2 c2,aZ 90 b] [ex,au [[116,104,101,110]],bl] (by simp) ⟨hE.part (enters_of Tryz.func91 (by kernel_rfl) rfl) w2 b O,H2.out,hB.part (enters_of Tryz.func90 (by kernel_rfl) rfl) w2 b O,trivial⟩ [101,108,115,101,105,102] (by decide) ⟨#[101,108,115,101,105,102]⟩ rfl)
 clear Jy;go_wp2_with fail
 refine V3.out.mono ?_;rintro e w3 ⟨f3,a3,c3,rfl,b3,h3⟩;have F3:=aa (F2.out.trans (ay.ae (O:=O) b3) (Ext.refl _ _));have P3:=aa (P2.out.below b3);have L1:=aa (H1.out.later (ay.ae (O:=O) b3) (Ext.refl _ _));clear H1;have H1:=L1;clear L1;have H3:=aa h3;clear b3 h3 V3;have BO :∀k,O k→k<w3.heap.size:=fun k hk=>(P3.out.own k hk).2
 have V4:=aa (oZ w3 b O BO [aZ 90 b] [bl] (by simp) ⟨hB.part (enters_of Tryz.func90 (by kernel_rfl) rfl) w3 b O,trivial⟩ [101,108,115,101] (by decide) ⟨#[101,108,115,101]⟩ rfl)
 clear BO;go_wp2_with fail
 refine V4.out.mono ?_;rintro e w4 ⟨f4,a4,c4,rfl,b4,h4⟩;have F4:=aa (F3.out.trans (ay.ae (O:=O) b4) (Ext.refl _ _));have P4:=aa (P3.out.below b4);have L1:=aa (H1.out.later (ay.ae (O:=O) b4) (Ext.refl _ _));clear H1;have H1:=L1;clear L1;have L3:=aa (H3.out.later (ay.ae (O:=O) b4) (Ext.refl _ _));clear H3;have H3:=L3;clear L3;have H4:=aa h4;clear b4 h4 V4;have Uj :∀k,O k→k<w4.heap.size:=fun k hk=>(P4.out.own k hk).2
 have V5:=aa (cF w4 b O Uj [101,110,100] (by decide) ⟨#[101,110,100]⟩ rfl)
 clear Uj;go_wp2_with fail
 refine V5.out.mono ?_;rintro e w5 ⟨f5,a5,c5,rfl,b5,h5⟩;have F5:=aa (F4.out.trans (ay.ae (O:=O) b5) (Ext.refl _ _));have P5:=aa (P4.out.below b5);have L1:=aa (H1.out.later (ay.ae (O:=O) b5) (Ext.refl _ _));clear H1;have H1:=L1;clear L1;have L3:=aa (H3.out.later (ay.ae (O:=O) b5) (Ext.refl _ _));clear H3;have H3:=L3;clear L3;have L4:=aa (H4.out.later (ay.ae (O:=O) b5) (Ext.refl _ _));clear H4;have H4:=L4;clear L4;have H5:=aa h5;clear b5 h5 V5;have HN:=aa (cI w w5 P5.out F5.out (mo 25) rfl [aZ 40 b,aZ 91 b,.func (.func f1) a1 c1,aZ 90 b,.func (.func f3) a3 c3,.func (.func f4) a4 c4,.func (.func f5) a5 c5] [aC,ex,au [[116,104,101,110]],bl,qQ [101,108,115,101,105,102] [ex,au [[116,104,101,110]],bl],bB [101,108,115,101] [bl],au [[101,110,100]]] (by simp) ⟨bb w5 b O,hE.part (enters_of Tryz.func91 (by kernel_rfl) rfl) w5 b O,H1.out,hB.part (enters_of Tryz.func90 (by kernel_rfl) rfl) w5 b O,H3.out,H4.out,H5.out,trivial⟩ HK.out)
 go_wp2_with fail
 refine HN.out.mono ?_;intro e wz hz;obtain⟨v,er,rfl⟩:=hz.ret;have HZ:=aa hz;clear hz;go_wp2_with fail
 go_ret2
 exact HZ.out
set_option maxRecDepth 40000 in
theorem Sc {ro bl:cg} (hN:ey 93 im) (hR:ey 94 ro) (hB:ey 90 bl) (b:Nat) (O:Nat→Prop) (t:aj) (ts:List aj) (T:List Nd) (K:Ast→List aj→Prop) (E:Int→Prop) (w:World) (hp:PS w b O (t::ts) T) (hq:av Cb t=true)
  (hk:aI [aC,im,ro,au [[100,111]],bl,au [[101,110,100]]] ⟨dx 0 t.2.1,[],t::ts,T.length⟩ (bW K) E) :
  Calls Tryz.prog 44 #[.pointer (some ⟨b,0,none⟩)] w (aH b O T (RK K E) w):=by
 have HW:=aa (bQ b O t ts T w hp);have g1:=aQ [98,114,101,97,107] hq (by decide)
 have g2:=aQ [103,111,116,111] hq (by decide)
 have g3:=aQ [58,58] hq (by decide)
 have g4:=aQ [100,111] hq (by decide)
 have g5:=aQ [119,104,105,108,101] hq (by decide)
 have g6:=aQ [114,101,112,101,97,116] hq (by decide)
 have g7:=aQ [105,102] hq (by decide)
 have g8:((ag t).toList == [102,111,114])=true:=ai (s:=Cb) (by decide) t hq
 have HK:=aa hk;generalize hY:ag t=Y at *;have P:=aa hp;clear hp hk hY hq;go_enter Tryz.func44,Tryz.ntmps44
 go_wp2_with fail
 refine HW.out.mono ?_;rintro e w0 ⟨rfl,b0⟩;have F0:=aa (ay.ae (O:=O) b0);have P0:=aa (P.out.below b0);clear b0;have oz :∀k,O k→k<w0.heap.size:=fun k hk=>(P0.out.own k hk).2
 have V1:=aa (cF w0 b O oz [100,111] (by decide) ⟨#[100,111]⟩ rfl)
 clear oz;go_wp2_with fail
 refine V1.out.mono ?_;rintro e w1 ⟨f1,a1,c1,rfl,b1,h1⟩;have F1:=aa (F0.out.trans (ay.ae (O:=O) b1) (Ext.refl _ _));have P1:=aa (P0.out.below b1);have H1:=aa h1;clear b1 h1 V1;have qU :∀k,O k→k<w1.heap.size:=fun k hk=>(P1.out.own k hk).2
 have V2:=aa (cF w1 b O qU [101,110,100] (by decide) ⟨#[101,110,100]⟩ rfl)
 clear qU;go_wp2_with fail
 refine V2.out.mono ?_;rintro e w2 ⟨f2,a2,c2,rfl,b2,h2⟩;have F2:=aa (F1.out.trans (ay.ae (O:=O) b2) (Ext.refl _ _));have P2:=aa (P1.out.below b2);have L1:=aa (H1.out.later (ay.ae (O:=O) b2) (Ext.refl _ _));clear H1;have H1:=L1;clear L1;have H2:=aa h2;clear b2 h2 V2;have HN:=aa (cI w w2 P2.out F2.out (mo 0) rfl [aZ 40 b,aZ 93 b,aZ 94 b,.func (.func f1) a1 c1,aZ 90 b,.func (.func f2) a2 c2] [aC,im,ro,au [[100,111]],bl,au [[101,110,100]]] (by simp) ⟨bb w2 b O,hN.part (enters_of Tryz.func93 (by kernel_rfl) rfl) w2 b O,hR.part (enters_of Tryz.func94 (by kernel_rfl) rfl) w2 b O,H1.out,hB.part (enters_of Tryz.func90 (by kernel_rfl) rfl) w2 b O,H2.out,trivial⟩ HK.out)
 go_wp2_with fail
 refine HN.out.mono ?_;intro e wz hz;obtain⟨v,er,rfl⟩:=hz.ret;have HZ:=aa hz;clear hz;go_wp2_with fail
 go_ret2
 exact HZ.out
set_option maxRecDepth 40000 in
theorem yg {as_:cg} (hA:ey 95 as_) (b:Nat) (O:Nat→Prop) (t:aj) (ts:List aj) (T:List Nd) (K:Ast→List aj→Prop) (E:Int→Prop) (w:World) (hp:PS w b O (t::ts) T) (hq:av ba t=true)
  (hk:aI [as_] ⟨dx 20 t.2.1,[],t::ts,T.length⟩ (bW K) E) :
  Calls Tryz.prog 44 #[.pointer (some ⟨b,0,none⟩)] w (aH b O T (RK K E) w):=by
 have HW:=aa (bQ b O t ts T w hp);have g1:=aQ [98,114,101,97,107] hq (by decide)
 have g2:=aQ [103,111,116,111] hq (by decide)
 have g3:=aQ [58,58] hq (by decide)
 have g4:=aQ [100,111] hq (by decide)
 have g5:=aQ [119,104,105,108,101] hq (by decide)
 have g6:=aQ [114,101,112,101,97,116] hq (by decide)
 have g7:=aQ [105,102] hq (by decide)
 have g8:=aQ [102,111,114] hq (by decide)
 have g9:((ag t).toList == [102,117,110,99,116,105,111,110])=true:=ai (s:=ba) (by decide) t hq
 have HK:=aa hk;generalize hY:ag t=Y at *;have P:=aa hp;clear hp hk hY hq;go_enter Tryz.func44,Tryz.ntmps44
 go_wp2_with fail
 refine HW.out.mono ?_;rintro e w0 ⟨rfl,b0⟩;have F0:=aa (ay.ae (O:=O) b0);have P0:=aa (P.out.below b0);clear b0;have HN:=aa (cI w w0 P0.out F0.out (mo 20) rfl [aZ 95 b] [as_] (by simp) ⟨hA.part (enters_of Tryz.func95 (by kernel_rfl) rfl) w0 b O,trivial⟩ HK.out)
 go_wp2_with fail
 refine HN.out.mono ?_;intro e wz hz;obtain⟨v,er,rfl⟩:=hz.ret;have HZ:=aa hz;clear hz;go_wp2_with fail
 go_ret2
 exact HZ.out
set_option maxRecDepth 40000 in
theorem Ia {de:cg} (hD:ey 96 de) (b:Nat) (O:Nat→Prop) (t:aj) (ts:List aj) (T:List Nd) (K:Ast→List aj→Prop) (E:Int→Prop) (w:World) (hp:PS w b O (t::ts) T) (hq:av fx t=true)
  (hk:aI [aC,de] ⟨dx 0 t.2.1,[],t::ts,T.length⟩ (bW K) E) :
  Calls Tryz.prog 44 #[.pointer (some ⟨b,0,none⟩)] w (aH b O T (RK K E) w):=by
 have HW:=aa (bQ b O t ts T w hp);have g1:=aQ [98,114,101,97,107] hq (by decide)
 have g2:=aQ [103,111,116,111] hq (by decide)
 have g3:=aQ [58,58] hq (by decide)
 have g4:=aQ [100,111] hq (by decide)
 have g5:=aQ [119,104,105,108,101] hq (by decide)
 have g6:=aQ [114,101,112,101,97,116] hq (by decide)
 have g7:=aQ [105,102] hq (by decide)
 have g8:=aQ [102,111,114] hq (by decide)
 have g9:=aQ [102,117,110,99,116,105,111,110] hq (by decide)
 have g10:((ag t).toList == [108,111,99,97,108])=true:=ai (s:=fx) (by decide) t hq
 have HK:=aa hk;generalize hY:ag t=Y at *;have P:=aa hp;clear hp hk hY hq;go_enter Tryz.func44,Tryz.ntmps44
 go_wp2_with fail
 refine HW.out.mono ?_;rintro e w0 ⟨rfl,b0⟩;have F0:=aa (ay.ae (O:=O) b0);have P0:=aa (P.out.below b0);clear b0;have HN:=aa (cI w w0 P0.out F0.out (mo 0) rfl [aZ 40 b,aZ 96 b] [aC,de] (by simp) ⟨bb w0 b O,hD.part (enters_of Tryz.func96 (by kernel_rfl) rfl) w0 b O,trivial⟩ HK.out)
 go_wp2_with fail
 refine HN.out.mono ?_;intro e wz hz;obtain⟨v,er,rfl⟩:=hz.ret;have HZ:=aa hz;clear hz;go_wp2_with fail
 go_ret2
 exact HZ.out
set_option maxRecDepth 40000 in
theorem Ib {be:cg} (hG:ey 97 be) (b:Nat) (O:Nat→Prop) (t:aj) (ts:List aj) (T:List Nd) (K:Ast→List aj→Prop) (E:Int→Prop) (w:World) (hp:PS w b O (t::ts) T) (hq:LN t)
  (hk:aI [be] ⟨dx 0 t.2.1,[],t::ts,T.length⟩ (bW K) E) :
  Calls Tryz.prog 44 #[.pointer (some ⟨b,0,none⟩)] w (aH b O T (RK K E) w):=by
 have HW:=aa (bQ b O t ts T w hp);have g1:((ag t).toList == [98,114,101,97,107])=false:=ai (s:=oJ) (by decide) t hq.b
 have g2:((ag t).toList == [103,111,116,111])=false:=ai (s:=rM) (by decide) t hq.c
 have g3:((ag t).toList == [58,58])=false:=ai (s:=[58,58]) (by decide) t hq.a
 have g4:((ag t).toList == [100,111])=false:=ai (s:=Ca) (by decide) t hq.d
 have g5:((ag t).toList == [119,104,105,108,101])=false:=ai (s:=oK) (by decide) t hq.e
 have g6:((ag t).toList == [114,101,112,101,97,116])=false:=ai (s:=ly) (by decide) t hq.f
 have g7:((ag t).toList == [105,102])=false:=ai (s:=Vm) (by decide) t hq.g
 have g8:((ag t).toList == [102,111,114])=false:=ai (s:=Cb) (by decide) t hq.h
 have g9:((ag t).toList == [102,117,110,99,116,105,111,110])=false:=ai (s:=ba) (by decide) t hq.i
 have g10:((ag t).toList == [108,111,99,97,108])=false:=ai (s:=fx) (by decide) t hq.j
 have HK:=aa hk;generalize hY:ag t=Y at *;have P:=aa hp;clear hp hk hY hq;go_enter Tryz.func44,Tryz.ntmps44
 go_wp2_with fail
 refine HW.out.mono ?_;rintro e w0 ⟨rfl,b0⟩;have F0:=aa (ay.ae (O:=O) b0);have P0:=aa (P.out.below b0);clear b0;have HN:=aa (cI w w0 P0.out F0.out (mo 0) rfl [aZ 97 b] [be] (by simp) ⟨hG.part (enters_of Tryz.func97 (by kernel_rfl) rfl) w0 b O,trivial⟩ HK.out)
 go_wp2_with fail
 refine HN.out.mono ?_;intro e wz hz;obtain⟨v,er,rfl⟩:=hz.ret;have HZ:=aa hz;clear hz;go_wp2_with fail
 go_ret2
 exact HZ.out
end Go.Proofs.YteflkdlaoiijbaaGreatDoor
namespace Go.Proofs.YteflkdlaoiijbaaGreatDoor
open Go.RowKit
section
variable {K:Ast→List aj→Prop} {E:Int→Prop} {K':St→Prop} {N k n:Nat} {h:Nd} {xs:List Ast} {t:aj} {ts:List aj}
theorem MN {t:aj} (h:iN t=true):av [59] t=false:=by
 cases hs:av [59] t with
 | false=>rfl
 | true =>
  exfalso;unfold iN at h;rw[bn hs (show iC≠[59] by decide),bn hs (show rL≠[59] by decide),bn hs (show jU≠[59] by decide),bn hs (show oI≠[59] by decide)] at h
  have:=aW hs;simp at h;exact this h
theorem Xd (K2:List Ast→List aj→Prop) (c1 c2:Nat) (hK :∀l ax n',K2 l ax→n'+c1=c2+Ast.ak l→K' ⟨h,l,ax,n'⟩) :∀(m:Nat) (ts:List aj) (xs:List Ast) (n k:Nat),ts.length<m→n+c1=c2+Ast.ak xs→Rm (N+1) k ⟨h,xs,ts,n⟩→Gw (aag xs) ts K2 E→Ao (rZ (N+1) pX) (ng N) m ⟨h,xs,ts,n⟩ K' E:=by
 intro m;induction m with
 | zero=>intro ts xs n k h;omega
 | succ m ih =>
  intro ts xs n k h1 hc hI H;obtain⟨t,r,rfl⟩:=hI.wf.fin.cons;have G:=Gw.look H;have hn:=hI.n;have hx:=hI.xs;dsimp only at hn hx
  refine⟨t,r,rfl,fun he=>hK _ _ _ (G.pos he).ret hc,fun he=>?_⟩
  have G:=G.neg (by simp[he])
  refine⟨fun hw=>?_,fun hw=>⟨fun hr=>?_,fun hr=>?_⟩⟩
  ·have G2:=((G.neg (aU hw (by decide))).pos hw).tok
   exact ih r xs n (k+2) (by simp at h1;omega) hc (hI.tok (aW hw)) ((Gw.call G2).mono fun v ax _ hv=>hv.2.ret)
  ·have G2:=Gw.call (G.pos hr).tok
   have acn:Rm (N+1) k ⟨dx 29 t.2.1,[],t::r,n⟩:=⟨hI.len,hI.n,by simp only[List.length_nil];omega,hI.wf⟩
   refine jF (by dsimp only;omega) ⟨t,r,t.2.1,rfl,.inl ⟨rfl,rfl⟩,?_⟩
   refine(show aI [aC,MC (ng N),bB [59] []] ⟨dx 29 t.2.1,[],t::r,n⟩ (bW (nh _ _ K' E)) E from ?_)
   refine cU acn (aW hr) fun hI=>?_
   obtain⟨u,us,rfl⟩:=hI.wf.fin.cons;have G3:=Gw.look G2;have done :∀(l:List Ast) (il:List aj) (j:Nat),Rm N j ⟨dx 29 t.2.1,l,il,n+Ast.ak l⟩→K2 (xs++[nd 29 t.2.1 l]) il→bW (nh (dO (mo 29) [aC,MC (ng N),bB [59] []]) ⟨h,xs,t::u::us,n⟩ K' E) ⟨dx 29 t.2.1,l,il,n+Ast.ak l⟩:=fun l il j hI hk=>cy hI (nh.mk (hK _ _ _ hk (by show n+Ast.ak [nd 29 t.2.1 l]+c1=c2+Ast.ak (xs++[nd 29 t.2.1 l]);rw[eZ];omega)))
   refine⟨u,us,rfl,fun zL=>?_,fun Ad hns=>?_⟩
   ·cases hu:iN u with
    | true =>
     have G4:=(G3.pos hu).ret.2.ret;have hd:=done [] (u::us) (k+2) (by rw[cE];exact hI) G4
     rw[cE] at hd;exact⟨u,us,rfl,fun hs=>by rw[MN hu] at hs;exact(fV hs).elim,fun _=>hd⟩
    | false =>
     have hs:av [59] u=true:=zL.elim (fun h=>by rw[hu] at h;exact(fV h).elim) id
     have G4:=((G3.neg (by simp[hu])).pos hs).tok.ret.2.ret
     have Rn:=hI.tok (h':=dx 29 t.2.1) (aW hs);have hd:=done [] us (k+4) (by rw[cE];exact Rn) G4
     rw[cE] at hd;exact⟨u,us,rfl,fun _=>hd,fun h=>by rw[hs] at h;exact(fV h.symm).elim⟩
   ·have G4:=(G3.neg (by simp[Ad])).neg (by simp[hns])
    refine sV hI G4 fun l r2 hI _ G5=>?_
    obtain⟨v,vs,rfl⟩:=hI.wf.fin.cons;have G6:=G5.take;exact⟨v,vs,rfl,fun hs=>done l vs _ (hI.tok (aW hs)) (G6.1 hs).ret.2.ret,fun hs=>done l (v::vs) _ hI (G6.2 hs).ret.2.ret⟩
  ·have G2:=(G.neg (by simp[hr])).neg (by simp[hw])
   refine jF (by dsimp only;omega) ⟨hI.len,by dsimp only;omega,hI.wf.yQ,(Gw.call G2).mono fun(x:Ast) ax p hq=>nh.mk ?_⟩
   have hz:x.size+2*ax.length≤2*(t::r).length:=hq.1;have hxp:=size_pos x;exact ih ax (xs++[x]) _ k (by simp only[List.length_cons] at *;omega) (by show n+Ast.ak [x]+c1=c2+Ast.ak (xs++[x]);rw[eZ];omega) (Rm.kids (j:=k) hI (by rw[tX];omega) (PL.short p) (p.wf hI.wf)) ((Gw.call hq.2).mono fun v ax _ hv=>hv.2.ret)
theorem aay {s:St} (hf:Fin s.ts) (H:LG (N+1) s K' E):aaq (rZ (N+1) pX) (ng N) s K' E:=by
 obtain⟨sh,Y0,oL,sn⟩:=s;obtain⟨h1,h2,h3,h4,h5⟩:=H;dsimp only at h1 h2 h3 h4 h5 hf
 exact⟨oL.length+1,Xd _ (Ast.ak Y0) sn (fun l ax n' hk hn=>hk n' hn) (oL.length+1) oL Y0 sn 0 (dz _) rfl ⟨h1,h2,h3,⟨hf,h4⟩⟩ h5⟩
end
structure All (N:Nat):Prop where
 exp:oY 142 (rZ N (qX 1))
 bnd :∀op,1≤op→op≤23→qZ 178 (vt op) (rtP N op)
 Vo:oY 238 (rZ N RO)
 FW:oY 153 (rZ N CP)
 oL:ey 20 (LG N)
theorem all_zero:All 0 :=
 ⟨fun _ _ _ _ _ _ _ _ h=>absurd h.1 (jq _),fun _ _ _ _ _ _ _ _ _ _ _ h=>absurd h.1 (jq _),fun _ _ _ _ _ _ _ _ h=>absurd h.1 (jq _),fun _ _ _ _ _ _ _ _ h=>absurd h.1 (jq _),fun _ _ _ _ _ _ _ _ _ h=>absurd h.1 (jq _)⟩
theorem EJ {op:Int} (h0:1≤op) (h1:op≤23):0≤vt op∧vt op+1=((vt op+1).toNat:Int):=by
 have h9:op=1∨op=2∨op=3∨op=4∨op=5∨op=6∨op=7∨op=8∨op=9∨op=10∨op=11∨op=12∨op=13∨op=14∨op=15∨op=16∨op=17∨op=18∨op=19∨op=20∨op=21∨op=22∨op=23:=by omega
 rcases h9 with h|h|h|h|h|h|h|h|h|h|h|h|h|h|h|h|h|h|h|h|h|h|h<;>(rw[h];decide)
theorem Sd {N:Nat} (A:All N) (hS:oY 153 (rZ (N+1) CP)):oY 44 (rZ (N+1) pX):=by
 rintro b O ts T K E w hp ⟨h1,h2,h3,h4⟩;obtain⟨t,r,rfl⟩:=hp.fin.cons;have hI :∀h',Rm (N+1) 0 ⟨h',[],t::r,T.length⟩:=fun h'=>⟨h1,h2,by simp only[List.length_nil];omega,⟨hp.fin,h3⟩⟩
 have hE:=LO A.exp;have hL:=LP A.exp;have hB:ey 90 (oV N):=ED A.oL;have CW:ey 152 (wo N):=LU pZ hB;cases c1:av [58,58] t with
 | true=>exact H7 b O t r T K E w hp c1 (Ri (hI _) h4 c1)
 | false =>
 cases c2:av oJ t with
 | true=>exact Hz b O t r T K E w hp c2 (Rj (hI _) h4 c2)
 | false =>
 cases c3:av rM t with
 | true=>exact MM b O t r T K E w hp c3 (WH (hI _) h4 c3)
 | false =>
 cases c4:av Ca t with
 | true=>exact Xb hB b O t r T K E w hp c4 (ab7 (hI _) h4 c4)
 | false =>
 cases c5:av oK t with
 | true=>exact H9 hE hB b O t r T K E w hp c5 (Rk (hI _) h4 c5)
 | false =>
 cases c6:av ly t with
 | true=>exact Da hB hE b O t r T K E w hp c6 (LK (hI _) h4 c6)
 | false =>
 cases c7:av Vm t with
 | true=>exact Xc hE hB b O t r T K E w hp c7 (ab8 (hI _) h4 c7)
 | false =>
 cases c8:av Cb t with
 | true=>exact Sc EI (MH hE hL) hB b O t r T K E w hp c8 (aah (hI _) h4 c8)
 | false =>
 cases c9:av ba t with
 | true=>exact yg (C8 CW) b O t r T K E w hp c9 (CR (hI _) h4 c9)
 | false =>
 cases c10:av fx t with
 | true=>exact Ia (C7 hL CW) b O t r T K E w hp c10 (Ro (hI _) h4 c10)
 | false =>
  have hq:LN t:=⟨c1,c2,c3,c4,c5,c6,c7,c8,c9,c10⟩;have hTg:ey 154 (Um N):=G9 (MB A.FW);exact Ib (RT hS hTg hL) b O t r T K E w hp hq (Rq (hI _) h4 hq)
theorem all_succ {N:Nat} (A:All N):All (N+1):=by
 have hE:=LO A.exp;have hL:=LP A.exp;have hB:ey 90 (oV N):=ED A.oL;have CW:ey 152 (wo N):=LU pZ hB;have G8:ey 235 (yc N):=Rw A.Vo;have hTx:oY 204 (aav N):=wE (fun op _ _=>Sb _ (vt op)) (WZ _) G8 (WY _)
 have hAr:ey 211 (As N):=aam hTx hL;have hS:oY 153 (rZ (N+1) CP):=(CX hE hAr).of fun ts n K E hf h=>aax hf h
 have hO:oY 204 (rZ (N+1) Hq):=(wE (fun op h0 h1=>A.bnd op (by omega) h1) CW G8 hS).of fun ts n K E hf h=>by
  obtain⟨h1,h2,h3,h4⟩:=h;obtain⟨t,r,rfl⟩:=hf.cons;exact aat (h:=dx 0 0) (k:=0) ⟨h1,h2,by simp only[List.length_nil];omega,⟨hf,h3⟩⟩ h4
 have hBn :∀(l:Int) (s:Nat),0≤l→l+1=(s:Int)→qZ 178 l (rZ (N+1) (qX s)):=fun l s h0 hs=>(Rz hO l (fun op h1 h2=>A.bnd op h1 (by omega)) h0).of fun ts n K E hf h=>aau hs h0 hf h
 have hX:oY 142 (rZ (N+1) (qX 1)):=ya (hBn 0 1 (by decide) (by decide))
 have hSt:=Sd A hS;refine⟨hX,fun op h1 h2=>hBn _ _ (EJ h1 h2).1 (EJ h1 h2).2,?_,hS,(ye hSt hL).of fun s K E hf h=>aay hf h⟩
 rintro b O ts T K E w hp ⟨h1,h2,h3,h4⟩;obtain⟨t,r,rfl⟩:=hp.fin.cons;exact WM (LO hX) b O t r T K E w hp (RS (h:=dx 0 0) (k:=0) ⟨h1,h2,by simp only[List.length_nil];omega,⟨hp.fin,h3⟩⟩ h4)
theorem At :∀N,All N
 | 0=>all_zero
 | N+1=>all_succ (At N)
end Go.Proofs.YteflkdlaoiijbaaGreatDoor
namespace Go.Proofs.YteflkdlaoiijbaaGreatDoor
open Go.RowKit Go.Extern.Stop Go.Stop Go.Extern
theorem Xe (t:Value) (w:World) :
  Calls Tryz.prog 22 #[.nilIface,t] w fun e w'=>e=.returned (.bool false)∧w'=w:=by
 go_enter Tryz.func22,Tryz.ntmps22
 go_wp2
 go_ret
 exact⟨rfl,rfl⟩
theorem Tryz.Ic (t:Addr) (w:World):(ReflectliteValue.unpack (.iface 104 (.pointer (some t)))).run Tryz.prog w
 =.ok (.agg #[.pointer (some ⟨4,104,none⟩),.pointer (some ⟨w.heap.size,0,none⟩),.int .u64 150]) (w.alloc (.cells #[.pointer (some t)] 104)):=by kernel_rfl
theorem Tryz.type51 (a:Addr) (w:World):(ReflectliteValue.methodAny (ReflectliteValue.valueError "reflectlite.Value.Type" 0) (fun t _ _ _=>ReflectliteType.toType t) #[.agg #[.pointer (some ⟨4,104,none⟩),.pointer (some a),.int .u64 150]]).run Tryz.prog w
 =.ok (.iface 165 (.agg #[.pointer (some ⟨4,104,none⟩)])) w:=by kernel_rfl
theorem Tryz.uj (h:Value) (w:World):(Go.method 423 165 (.agg #[h]) "Kind").run Tryz.prog w=.ok (256,h) w:=by kernel_rfl
theorem Tryz.Xf (w:World):((ReflectliteType.abiMethod fun t=>(fun a:Nat=>Value.int IntKind.u8 (a:Int)) <$> Rtype.kind t) #[.pointer (some ⟨4,104,none⟩)]).run Tryz.prog w=.ok (.int .u8 22) w:=by kernel_rfl
theorem Tryz.Xg (w:World):((ReflectliteType.abiMethod fun t=>(fun a:Nat=>Value.int IntKind.u8 (a:Int)) <$> Rtype.kind t) #[.pointer (some ⟨4,83,none⟩)]).run Tryz.prog w=.ok (.int .u8 22) w:=by kernel_rfl
theorem rlm (z:Sem Value) (f:TypeId→Addr→Nat→Nat→Sem Value) (v:Value) :
  ReflectliteValue.method z f #[v]=(do match←ReflectliteValue.parts v with|none=>z|some (t,a,fl)=>f t a fl (fl % 32)):=rfl
theorem Tryz.EK (a:Addr) (w:World):(ReflectliteValue.parts (.agg #[.pointer (some ⟨4,104,none⟩),.pointer (some a),.int .u64 150])).run Tryz.prog w=.ok (some (104,a,150)) w:=by kernel_rfl
theorem Tryz.Se (a p:Addr) (W:World) (ha:W.cell? a=some (.pointer (some p))) :
  (ReflectliteValue.method (ReflectliteValue.valueError "reflectlite.Value.IsNil" 0) ReflectliteValue.isNil #[.agg #[.pointer (some ⟨4,104,none⟩),.pointer (some a),.int .u64 150]]).run Tryz.prog W=.ok (.bool false) W:=by
 rw[rlm];simp only[Sem.run_bind,Tryz.EK,Result.andThen];simp[ReflectliteValue.isNil,loadVar,isAgg,underlying,Tryz.underlying104,ha,Result.andThen]
theorem Tryz.uk (h:Value) (w:World):(Go.method 423 165 (.agg #[h]) "Elem").run Tryz.prog w=.ok (268,.agg #[h]) w:=by kernel_rfl
theorem Tryz.kV (h:Value) (w:World):(Go.method 423 165 (.agg #[h]) "Implements").run Tryz.prog w=.ok (269,.agg #[h]) w:=by kernel_rfl
theorem Tryz.jG (h:Value) (w:World):(Go.method 423 165 (.agg #[h]) "AssignableTo").run Tryz.prog w=.ok (266,.agg #[h]) w:=by kernel_rfl
theorem Tryz.Xh (w:World):(ReflectliteType.method ReflectliteType.elem #[.agg #[.pointer (some ⟨4,104,none⟩)]]).run Tryz.prog w=.ok (.iface 165 (.agg #[.pointer (some ⟨4,83,none⟩)])) w:=by kernel_rfl
theorem Tryz.yh (w:World):(ReflectliteType.relation "Implements" ReflectliteType.implements_ #[.agg #[.pointer (some ⟨4,83,none⟩)],.iface 165 (.agg #[.pointer (some ⟨4,27,none⟩)])]).run Tryz.prog w=.ok (.bool true) w:=by kernel_rfl
theorem Tryz.MP (v:Value) (w:World):(ReflectliteType.typeOf #[.iface 83 v]).run Tryz.prog w=.ok (.iface 165 (.agg #[.pointer (some ⟨4,83,none⟩)])) w:=by kernel_rfl
theorem Tryz.yi (w:World):(ReflectliteType.relation "AssignableTo" ReflectliteType.assignableTo #[.agg #[.pointer (some ⟨4,83,none⟩)],.iface 165 (.agg #[.pointer (some ⟨4,83,none⟩)])]).run Tryz.prog w=.ok (.bool true) w:=by kernel_rfl
theorem Tryz.Ie (e:Addr) (w:World):(ReflectliteValue.unpack (.iface 83 (.pointer (some e)))).run Tryz.prog w
 =.ok (.agg #[.pointer (some ⟨4,83,none⟩),.pointer (some ⟨w.heap.size,0,none⟩),.int .u64 150]) (w.alloc (.cells #[.pointer (some e)] 83)):=by kernel_rfl
theorem Tryz.MQ (w:World):(Rtype.elem? 104).run Tryz.prog w=.ok (some 83) w:=by kernel_rfl
theorem Tryz.aco (p:Addr) (w:World):(ReflectliteValue.mk 83 p ReflectliteValue.flagAddr).run Tryz.prog w=.ok (.agg #[.pointer (some ⟨4,83,none⟩),.pointer (some p),.int .u64 406]) w:=by kernel_rfl
theorem Tryz.Sf (a p:Addr) (W:World) (ha:W.cell? a=some (.pointer (some p))) :
  (ReflectliteValue.method (ReflectliteValue.valueError "reflectlite.Value.Elem" 0) ReflectliteValue.elem #[.agg #[.pointer (some ⟨4,104,none⟩),.pointer (some a),.int .u64 150]]).run Tryz.prog W
  =.ok (.agg #[.pointer (some ⟨4,83,none⟩),.pointer (some p),.int .u64 406]) W:=by
 rw[rlm];simp only[Sem.run_bind,Tryz.EK,Result.andThen];simp[ReflectliteValue.elem,loadVar,isAgg,underlying,Tryz.underlying104,ha,Result.andThen,Tryz.MQ,Tryz.aco]
theorem rls (v x:Value):ReflectliteValue.set #[v,x]=(do
  let (some (dst,a,fl),some (src,b,_)):=(←ReflectliteValue.parts v,←ReflectliteValue.parts x)
   | unsupported (.noEntry "extern/(internal/reflectlite.Value).Set.zeroValue")
  if fl / ReflectliteValue.flagAddr % 2 == 0 then unsupported (.noEntry "extern/(internal/reflectlite.Value).Set.unaddressable")
  let val←loadVar src b
  if←Rtype.directlyAssignable dst src then storeVar dst a val
  else if←Rtype.implements dst src then
   if (←Rtype.kind src) == 20 then
    match val with
    | .nilIface=>unsupported (.noEntry "extern/reflectlite: a nil value of one interface type handed on as a value of another")
    | _=>storeVar dst a val
   else storeVar dst a (.iface src val)
  else panicString ("reflectlite.Set: value of type " ++ (←Rtype.spelt src) ++ " is not assignable to type " ++ (←Rtype.spelt dst))
  pure (.tuple #[])):=rfl
theorem Tryz.MR (a:Addr) (w:World):(ReflectliteValue.parts (.agg #[.pointer (some ⟨4,83,none⟩),.pointer (some a),.int .u64 406])).run Tryz.prog w=.ok (some (83,a,406)) w:=by kernel_rfl
theorem Tryz.Sg (a:Addr) (w:World):(ReflectliteValue.parts (.agg #[.pointer (some ⟨4,83,none⟩),.pointer (some a),.int .u64 150])).run Tryz.prog w=.ok (some (83,a,150)) w:=by kernel_rfl
theorem Tryz.MS (w:World):(Rtype.directlyAssignable 83 83).run Tryz.prog w=.ok true w:=by kernel_rfl
theorem Tryz.aaz (ta b e:Addr) (old:Value) (W:World) (hb:W.cell? b=some (.pointer (some e))) (ht:W.cell? ta=some old) (hf:W.frozen? ta=false) :
  (ReflectliteValue.set #[.agg #[.pointer (some ⟨4,83,none⟩),.pointer (some ta),.int .u64 406],.agg #[.pointer (some ⟨4,83,none⟩),.pointer (some b),.int .u64 150]]).run Tryz.prog W
  =.ok (.tuple #[]) (W.setCell ta (.pointer (some e))):=by
 rw[rls];simp only[Sem.run_bind,Tryz.MR,Tryz.Sg,Result.andThen];simp[ReflectliteValue.flagAddr,loadVar,isAgg,underlying,Tryz.underlying83,hb,Result.andThen,Tryz.MS,storeVar,Value.cells,storeCells,Addr.add];rw[run_store Tryz.prog W ta _ _ (by rfl)]
 simp[ht,hf]
theorem Xi (e t:Addr) (old:Value) (w:World) (hg:w.cell? ⟨0,0,none⟩=some (.iface 165 (.agg #[.pointer (some ⟨4,27,none⟩)]))) (RY:w.cell? t=some old) (Sh:w.frozen? t=false) :
  Calls Tryz.prog 22 #[.iface 83 (.pointer (some e)),.iface 104 (.pointer (some t))] w fun ev w'=>ev=.returned (.bool true)∧w'=((((w.alloc (.cells #[.pointer (some t)] 104)).alloc (.cells #[.pointer (some ⟨4,104,none⟩),.pointer (some ⟨w.heap.size,0,none⟩),.int .u64 150] 130)).alloc (.cells #[.pointer (some ⟨4,104,none⟩),.pointer (some ⟨w.heap.size,0,none⟩),.int .u64 150] 130)).alloc (.cells #[.pointer (some e)] 83)).setCell t (.pointer (some e)):=by
 have h6:=@run_callFunc_extern Tryz.prog 46 _ (fun args=>ReflectliteValue.unpack (args.getD 0 (.tuple #[]))) Tryz.func46 (by kernel_rfl) (by kernel_rfl) (by kernel_rfl) (by kernel_rfl)
 have h7:=@run_callFunc_extern Tryz.prog 47 _ (ReflectliteValue.methodAny (ReflectliteValue.valueError "reflectlite.Value.Type" 0) (fun t _ _ _=>ReflectliteType.toType t)) Tryz.func47 (by kernel_rfl) (by kernel_rfl) (by kernel_rfl) (by kernel_rfl)
 have h8:=@run_callFunc_extern Tryz.prog 48 _ (ReflectliteValue.method (ReflectliteValue.valueError "reflectlite.Value.IsNil" 0) ReflectliteValue.isNil) Tryz.func48 (by kernel_rfl) (by kernel_rfl) (by kernel_rfl) (by kernel_rfl)
 have h27:=@run_callFunc_extern Tryz.prog 256 _ (ReflectliteType.abiMethod fun t=>do pure (.int .u8 (←Rtype.kind t))) Tryz.func256 (by kernel_rfl) (by kernel_rfl) (by kernel_rfl) (by kernel_rfl)
 have h37:=@run_callFunc_extern Tryz.prog 268 _ (ReflectliteType.method ReflectliteType.elem) Tryz.func268 (by kernel_rfl) (by kernel_rfl) (by kernel_rfl) (by kernel_rfl)
 have h38:=@run_callFunc_extern Tryz.prog 269 _ (ReflectliteType.relation "Implements" ReflectliteType.implements_) Tryz.func269 (by kernel_rfl) (by kernel_rfl) (by kernel_rfl) (by kernel_rfl)
 have h10:=@run_callFunc_extern Tryz.prog 65 _ ReflectliteType.typeOf Tryz.func65 (by kernel_rfl) (by kernel_rfl) (by kernel_rfl) (by kernel_rfl)
 have h35:=@run_callFunc_extern Tryz.prog 266 _ (ReflectliteType.relation "AssignableTo" ReflectliteType.assignableTo) Tryz.func266 (by kernel_rfl) (by kernel_rfl) (by kernel_rfl) (by kernel_rfl)
 have h11:=@run_callFunc_extern Tryz.prog 98 _ (ReflectliteValue.method (ReflectliteValue.valueError "reflectlite.Value.Elem" 0) ReflectliteValue.elem) Tryz.func98 (by kernel_rfl) (by kernel_rfl) (by kernel_rfl) (by kernel_rfl)
 have h12:=@run_callFunc_extern Tryz.prog 99 _ ReflectliteValue.set Tryz.func99 (by kernel_rfl) (by kernel_rfl) (by kernel_rfl) (by kernel_rfl)
 have tO:=Tryz.MP;have mA:=Tryz.jG;have a25:=Tryz.yi;have v25:=Tryz.Ie;have f6:=Tryz.Ic;have f7:=Tryz.type51;have mK:=Tryz.uj;have mE:=Tryz.uk;have mI:=Tryz.kV;have k27:=Tryz.Xf;have k25:=Tryz.Xg;have e27:=Tryz.Xh;have i25:=Tryz.yh;have n8:=Tryz.Se ⟨w.heap.size,0,none⟩ t ((w.alloc (.cells #[.pointer (some t)] 104)).alloc (.cells #[.pointer (some ⟨4,104,none⟩),.pointer (some ⟨w.heap.size,0,none⟩),.int .u64 150] 130)) (by simp)
 have hlt:0<w.heap.size:=by
  rcases rH w.heap.size with h0|h
  ·simp[World.cell?,h0] at hg
  ·exact h
 have hg2:((w.alloc (.cells #[.pointer (some t)] 104)).alloc (.cells #[.pointer (some ⟨4,104,none⟩),.pointer (some ⟨w.heap.size,0,none⟩),.int .u64 150] 130)).cell? ⟨0,0,none⟩=some (.iface 165 (.agg #[.pointer (some ⟨4,27,none⟩)])):=by
  rw[World.cell?_alloc_lt _ _ ⟨0,0,none⟩ (by simp),World.cell?_alloc_lt _ _ ⟨0,0,none⟩ hlt];exact hg
 have Pz:t.block<w.heap.size:=by
  rcases DZ t.block w.heap.size with h|h
  ·exact h
  ·simp[World.cell?,Array.getElem?_eq_none h] at RY
 have el:=Tryz.Sf ⟨w.heap.size,0,none⟩ t (((w.alloc (.cells #[.pointer (some t)] 104)).alloc (.cells #[.pointer (some ⟨4,104,none⟩),.pointer (some ⟨w.heap.size,0,none⟩),.int .u64 150] 130)).alloc (.cells #[.pointer (some ⟨4,104,none⟩),.pointer (some ⟨w.heap.size,0,none⟩),.int .u64 150] 130)) (by rw[World.cell?_alloc_lt _ _ ⟨w.heap.size,0,none⟩ (by simp;omega)];simp)
 have st:=Tryz.aaz t ⟨w.heap.size+1+1+1,0,none⟩ e old ((((w.alloc (.cells #[.pointer (some t)] 104)).alloc (.cells #[.pointer (some ⟨4,104,none⟩),.pointer (some ⟨w.heap.size,0,none⟩),.int .u64 150] 130)).alloc (.cells #[.pointer (some ⟨4,104,none⟩),.pointer (some ⟨w.heap.size,0,none⟩),.int .u64 150] 130)).alloc (.cells #[.pointer (some e)] 83))
  (by rw[World.cell?_alloc_at _ _ _ _ (by simp)];rfl)
  (by rw[World.cell?_alloc_lt _ _ t (by simp;omega),World.cell?_alloc_lt _ _ t (by simp;omega),World.cell?_alloc_lt _ _ t (by simp;omega),World.cell?_alloc_lt _ _ t Pz];exact RY)
  (by rw[World.frozen?_alloc_old _ _ t (by simp;omega),World.frozen?_alloc_old _ _ t (by simp;omega),World.frozen?_alloc_old _ _ t (by simp;omega),World.frozen?_alloc_old _ _ t (jt Pz)];exact Sh)
 go_enter Tryz.func22,Tryz.ntmps22
 go_wp2
 refine wp_loop_rounds 1 ?_;rw[rounds_succ];go_wp2
 go_ret
 exact⟨rfl,rfl⟩
theorem Tryz.Db (t:Addr) (w:World):(ReflectliteValue.unpack (.iface 77 (.pointer (some t)))).run Tryz.prog w
 =.ok (.agg #[.pointer (some ⟨4,77,none⟩),.pointer (some ⟨w.heap.size,0,none⟩),.int .u64 150]) (w.alloc (.cells #[.pointer (some t)] 77)):=by kernel_rfl
theorem Tryz.Si (a:Addr) (w:World):(ReflectliteValue.methodAny (ReflectliteValue.valueError "reflectlite.Value.Type" 0) (fun t _ _ _=>ReflectliteType.toType t) #[.agg #[.pointer (some ⟨4,77,none⟩),.pointer (some a),.int .u64 150]]).run Tryz.prog w
 =.ok (.iface 165 (.agg #[.pointer (some ⟨4,77,none⟩)])) w:=by kernel_rfl
theorem Tryz.Sj (w:World):((ReflectliteType.abiMethod fun t=>(fun a:Nat=>Value.int IntKind.u8 (a:Int)) <$> Rtype.kind t) #[.pointer (some ⟨4,77,none⟩)]).run Tryz.prog w=.ok (.int .u8 22) w:=by kernel_rfl
theorem Tryz.Sk (w:World):((ReflectliteType.abiMethod fun t=>(fun a:Nat=>Value.int IntKind.u8 (a:Int)) <$> Rtype.kind t) #[.pointer (some ⟨4,75,none⟩)]).run Tryz.prog w=.ok (.int .u8 22) w:=by kernel_rfl
theorem Tryz.Au (a:Addr) (w:World):(ReflectliteValue.parts (.agg #[.pointer (some ⟨4,77,none⟩),.pointer (some a),.int .u64 150])).run Tryz.prog w=.ok (some (77,a,150)) w:=by kernel_rfl
theorem Tryz.MT (a p:Addr) (W:World) (ha:W.cell? a=some (.pointer (some p))) :
  (ReflectliteValue.method (ReflectliteValue.valueError "reflectlite.Value.IsNil" 0) ReflectliteValue.isNil #[.agg #[.pointer (some ⟨4,77,none⟩),.pointer (some a),.int .u64 150]]).run Tryz.prog W=.ok (.bool false) W:=by
 rw[rlm];simp only[Sem.run_bind,Tryz.Au,Result.andThen];simp[ReflectliteValue.isNil,loadVar,isAgg,underlying,Tryz.underlying77,ha,Result.andThen]
theorem Tryz.Sl (w:World):(ReflectliteType.method ReflectliteType.elem #[.agg #[.pointer (some ⟨4,77,none⟩)]]).run Tryz.prog w=.ok (.iface 165 (.agg #[.pointer (some ⟨4,75,none⟩)])) w:=by kernel_rfl
theorem Tryz.vu (w:World):(ReflectliteType.relation "Implements" ReflectliteType.implements_ #[.agg #[.pointer (some ⟨4,75,none⟩)],.iface 165 (.agg #[.pointer (some ⟨4,27,none⟩)])]).run Tryz.prog w=.ok (.bool true) w:=by kernel_rfl
theorem Tryz.Ig (v:Value) (w:World):(ReflectliteType.typeOf #[.iface 75 v]).run Tryz.prog w=.ok (.iface 165 (.agg #[.pointer (some ⟨4,75,none⟩)])) w:=by kernel_rfl
theorem Tryz.vv (w:World):(ReflectliteType.relation "AssignableTo" ReflectliteType.assignableTo #[.agg #[.pointer (some ⟨4,75,none⟩)],.iface 165 (.agg #[.pointer (some ⟨4,75,none⟩)])]).run Tryz.prog w=.ok (.bool true) w:=by kernel_rfl
theorem Tryz.Dc (e:Addr) (w:World):(ReflectliteValue.unpack (.iface 75 (.pointer (some e)))).run Tryz.prog w
 =.ok (.agg #[.pointer (some ⟨4,75,none⟩),.pointer (some ⟨w.heap.size,0,none⟩),.int .u64 150]) (w.alloc (.cells #[.pointer (some e)] 75)):=by kernel_rfl
theorem Tryz.Ih (w:World):(Rtype.elem? 77).run Tryz.prog w=.ok (some 75) w:=by kernel_rfl
theorem Tryz.aaA (p:Addr) (w:World):(ReflectliteValue.mk 75 p ReflectliteValue.flagAddr).run Tryz.prog w=.ok (.agg #[.pointer (some ⟨4,75,none⟩),.pointer (some p),.int .u64 406]) w:=by kernel_rfl
theorem Tryz.MV (a p:Addr) (W:World) (ha:W.cell? a=some (.pointer (some p))) :
  (ReflectliteValue.method (ReflectliteValue.valueError "reflectlite.Value.Elem" 0) ReflectliteValue.elem #[.agg #[.pointer (some ⟨4,77,none⟩),.pointer (some a),.int .u64 150]]).run Tryz.prog W
  =.ok (.agg #[.pointer (some ⟨4,75,none⟩),.pointer (some p),.int .u64 406]) W:=by
 rw[rlm];simp only[Sem.run_bind,Tryz.Au,Result.andThen];simp[ReflectliteValue.elem,loadVar,isAgg,underlying,Tryz.underlying77,ha,Result.andThen,Tryz.Ih,Tryz.aaA]
theorem Tryz.Ii (a:Addr) (w:World):(ReflectliteValue.parts (.agg #[.pointer (some ⟨4,75,none⟩),.pointer (some a),.int .u64 406])).run Tryz.prog w=.ok (some (75,a,406)) w:=by kernel_rfl
theorem Tryz.MW (a:Addr) (w:World):(ReflectliteValue.parts (.agg #[.pointer (some ⟨4,75,none⟩),.pointer (some a),.int .u64 150])).run Tryz.prog w=.ok (some (75,a,150)) w:=by kernel_rfl
theorem Tryz.Ij (w:World):(Rtype.directlyAssignable 75 75).run Tryz.prog w=.ok true w:=by kernel_rfl
theorem Tryz.Xj (ta b e:Addr) (old:Value) (W:World) (hb:W.cell? b=some (.pointer (some e))) (ht:W.cell? ta=some old) (hf:W.frozen? ta=false) :
  (ReflectliteValue.set #[.agg #[.pointer (some ⟨4,75,none⟩),.pointer (some ta),.int .u64 406],.agg #[.pointer (some ⟨4,75,none⟩),.pointer (some b),.int .u64 150]]).run Tryz.prog W
  =.ok (.tuple #[]) (W.setCell ta (.pointer (some e))):=by
 rw[rls];simp only[Sem.run_bind,Tryz.Ii,Tryz.MW,Result.andThen];simp[ReflectliteValue.flagAddr,loadVar,isAgg,underlying,Tryz.underlying75,hb,Result.andThen,Tryz.Ij,storeVar,Value.cells,storeCells,Addr.add];rw[run_store Tryz.prog W ta _ _ (by rfl)]
 simp[ht,hf]
theorem Sm (e t:Addr) (old:Value) (w:World) (hg:w.cell? ⟨0,0,none⟩=some (.iface 165 (.agg #[.pointer (some ⟨4,27,none⟩)]))) (RY:w.cell? t=some old) (Sh:w.frozen? t=false) :
  Calls Tryz.prog 22 #[.iface 75 (.pointer (some e)),.iface 77 (.pointer (some t))] w fun ev w'=>ev=.returned (.bool true)∧w'=((((w.alloc (.cells #[.pointer (some t)] 77)).alloc (.cells #[.pointer (some ⟨4,77,none⟩),.pointer (some ⟨w.heap.size,0,none⟩),.int .u64 150] 130)).alloc (.cells #[.pointer (some ⟨4,77,none⟩),.pointer (some ⟨w.heap.size,0,none⟩),.int .u64 150] 130)).alloc (.cells #[.pointer (some e)] 75)).setCell t (.pointer (some e)):=by
 have h6:=@run_callFunc_extern Tryz.prog 46 _ (fun args=>ReflectliteValue.unpack (args.getD 0 (.tuple #[]))) Tryz.func46 (by kernel_rfl) (by kernel_rfl) (by kernel_rfl) (by kernel_rfl)
 have h7:=@run_callFunc_extern Tryz.prog 47 _ (ReflectliteValue.methodAny (ReflectliteValue.valueError "reflectlite.Value.Type" 0) (fun t _ _ _=>ReflectliteType.toType t)) Tryz.func47 (by kernel_rfl) (by kernel_rfl) (by kernel_rfl) (by kernel_rfl)
 have h8:=@run_callFunc_extern Tryz.prog 48 _ (ReflectliteValue.method (ReflectliteValue.valueError "reflectlite.Value.IsNil" 0) ReflectliteValue.isNil) Tryz.func48 (by kernel_rfl) (by kernel_rfl) (by kernel_rfl) (by kernel_rfl)
 have h27:=@run_callFunc_extern Tryz.prog 256 _ (ReflectliteType.abiMethod fun t=>do pure (.int .u8 (←Rtype.kind t))) Tryz.func256 (by kernel_rfl) (by kernel_rfl) (by kernel_rfl) (by kernel_rfl)
 have h37:=@run_callFunc_extern Tryz.prog 268 _ (ReflectliteType.method ReflectliteType.elem) Tryz.func268 (by kernel_rfl) (by kernel_rfl) (by kernel_rfl) (by kernel_rfl)
 have h38:=@run_callFunc_extern Tryz.prog 269 _ (ReflectliteType.relation "Implements" ReflectliteType.implements_) Tryz.func269 (by kernel_rfl) (by kernel_rfl) (by kernel_rfl) (by kernel_rfl)
 have h10:=@run_callFunc_extern Tryz.prog 65 _ ReflectliteType.typeOf Tryz.func65 (by kernel_rfl) (by kernel_rfl) (by kernel_rfl) (by kernel_rfl)
 have h35:=@run_callFunc_extern Tryz.prog 266 _ (ReflectliteType.relation "AssignableTo" ReflectliteType.assignableTo) Tryz.func266 (by kernel_rfl) (by kernel_rfl) (by kernel_rfl) (by kernel_rfl)
 have h11:=@run_callFunc_extern Tryz.prog 98 _ (ReflectliteValue.method (ReflectliteValue.valueError "reflectlite.Value.Elem" 0) ReflectliteValue.elem) Tryz.func98 (by kernel_rfl) (by kernel_rfl) (by kernel_rfl) (by kernel_rfl)
 have h12:=@run_callFunc_extern Tryz.prog 99 _ ReflectliteValue.set Tryz.func99 (by kernel_rfl) (by kernel_rfl) (by kernel_rfl) (by kernel_rfl)
 have tO:=Tryz.Ig;have mA:=Tryz.jG;have a25:=Tryz.vv;have v25:=Tryz.Dc;have f6:=Tryz.Db;have f7:=Tryz.Si;have mK:=Tryz.uj;have mE:=Tryz.uk;have mI:=Tryz.kV;have k27:=Tryz.Sj;have k25:=Tryz.Sk;have e27:=Tryz.Sl;have i25:=Tryz.vu;have n8:=Tryz.MT ⟨w.heap.size,0,none⟩ t ((w.alloc (.cells #[.pointer (some t)] 77)).alloc (.cells #[.pointer (some ⟨4,77,none⟩),.pointer (some ⟨w.heap.size,0,none⟩),.int .u64 150] 130)) (by simp)
 have hlt:0<w.heap.size:=by
  rcases rH w.heap.size with h0|h
  ·simp[World.cell?,h0] at hg
  ·exact h
 have hg2:((w.alloc (.cells #[.pointer (some t)] 77)).alloc (.cells #[.pointer (some ⟨4,77,none⟩),.pointer (some ⟨w.heap.size,0,none⟩),.int .u64 150] 130)).cell? ⟨0,0,none⟩=some (.iface 165 (.agg #[.pointer (some ⟨4,27,none⟩)])):=by
  rw[World.cell?_alloc_lt _ _ ⟨0,0,none⟩ (by simp),World.cell?_alloc_lt _ _ ⟨0,0,none⟩ hlt];exact hg
 have Pz:t.block<w.heap.size:=by
  rcases DZ t.block w.heap.size with h|h
  ·exact h
  ·simp[World.cell?,Array.getElem?_eq_none h] at RY
 have el:=Tryz.MV ⟨w.heap.size,0,none⟩ t (((w.alloc (.cells #[.pointer (some t)] 77)).alloc (.cells #[.pointer (some ⟨4,77,none⟩),.pointer (some ⟨w.heap.size,0,none⟩),.int .u64 150] 130)).alloc (.cells #[.pointer (some ⟨4,77,none⟩),.pointer (some ⟨w.heap.size,0,none⟩),.int .u64 150] 130)) (by rw[World.cell?_alloc_lt _ _ ⟨w.heap.size,0,none⟩ (by simp;omega)];simp)
 have st:=Tryz.Xj t ⟨w.heap.size+1+1+1,0,none⟩ e old ((((w.alloc (.cells #[.pointer (some t)] 77)).alloc (.cells #[.pointer (some ⟨4,77,none⟩),.pointer (some ⟨w.heap.size,0,none⟩),.int .u64 150] 130)).alloc (.cells #[.pointer (some ⟨4,77,none⟩),.pointer (some ⟨w.heap.size,0,none⟩),.int .u64 150] 130)).alloc (.cells #[.pointer (some e)] 75))
  (by rw[World.cell?_alloc_at _ _ _ _ (by simp)];rfl)
  (by rw[World.cell?_alloc_lt _ _ t (by simp;omega),World.cell?_alloc_lt _ _ t (by simp;omega),World.cell?_alloc_lt _ _ t (by simp;omega),World.cell?_alloc_lt _ _ t Pz];exact RY)
  (by rw[World.frozen?_alloc_old _ _ t (by simp;omega),World.frozen?_alloc_old _ _ t (by simp;omega),World.frozen?_alloc_old _ _ t (by simp;omega),World.frozen?_alloc_old _ _ t (jt Pz)];exact Sh)
 go_enter Tryz.func22,Tryz.ntmps22
 go_wp2
 refine wp_loop_rounds 1 ?_;rw[rounds_succ];go_wp2
 go_ret
 exact⟨rfl,rfl⟩
end Go.Proofs.YteflkdlaoiijbaaGreatDoor
namespace Go.Proofs.YteflkdlaoiijbaaGreatDoor
theorem wF {r l:List UInt8} (h:r <:+ l):nl r≤nl l:=h.sublist.count_le 10
theorem Dd (l sep:List UInt8) (h:(Lib.cut l sep).2.2=true):(Lib.cut l sep).2.1 <:+ l:=by
 unfold Lib.cut at h ⊢;split
 ·exact th _ _
 ·rename_i h0
  rw[af h0] at h;cases h
theorem um {l t r:List UInt8} (h:Jo l=some (t,r)):r <:+ l:=by
 unfold Jo at h;split at h
 ·rename_i hc
  injection h with h;injection h with _ h;rw[←h];exact(Dd _ _ hc).trans (th _ _)
 ·cases h
theorem Aw {l r:List UInt8} (h:comm l=some r):r <:+ l:=by
 unfold comm at h;split at h
 ·cases e:Jo l with
  | none=>rw[e] at h;cases h
  | some z =>
   obtain⟨t,r'⟩:=z;rw[e] at h;simp only[pB,pA] at h;rw[←h];exact um e
 ·injection h with h
  rw[←h];exact th _ _
theorem mD.suffix {l:List UInt8} {q:Except (List UInt8) (List UInt8)} (h:mD l q) :∀{r},q=.ok r→r <:+ l:=by
 induction h with
 | done h1 h2=>intro r e;cases e;rw[←h1];exact y9 _
 | @more l r1 r' o h1 h2 h3 ih =>
  intro r e;have a:=ih e;have b:=Aw h2;have c:(45::45::r1) <:+ l:=by rw[←h1];exact y9 _
  exact a.trans (b.trans (((ti 45 r1).trans (ti 45 _)).trans c))
 | bad=>intro r e;cases e
theorem sa {b:Int} {p:UInt8→Bool} {least most:Nat} {l m r:List UInt8} (h:code b p least most l=some (m,r)):r <:+ l:=by
 unfold code at h;split at h
 ·injection h with h
  injection h with _ h;rw[←h];exact th _ _
 ·cases h
theorem De {l m r:List UInt8} (h:pq l=some (m,r)):r <:+ l:=by
 cases l with
 | nil=>cases h
 | cons c t =>
  have h:oO c t=some (m,r):=h;have ht:=ti c t;cases e:vn c with
  | some y =>
   rw[gb _ e] at h;injection h with h;injection h with _ h;rw[←h];exact ht
  | none =>
   cases e1:pL c
   ·by_cases e2:c.toNat=122
    ·rw[J6 _ e e1 e2] at h
     injection h with h;injection h with _ h;rw[←h];exact(y9 _).trans ht
    ·by_cases e3:c.toNat=120
     ·rw[J7 _ e e1 e3] at h
      exact(sa h).trans ht
     ·cases e4:gj c
      ·rw[D8 _ e e1 e2 e3 e4] at h
       cases h
      ·rw[J8 _ e e1 e2 e3 e4] at h
       exact sa h
   ·rw[kK _ e e1] at h
    injection h with h;injection h with _ h;rw[←h];exact ht
theorem xE.suffix {q:UInt8} {l:List UInt8} {o:Option (List UInt8×List UInt8)} (h:xE q l o) :∀{t r},o=some (t,r)→r <:+ l:=by
 induction h with
 | shut=>intro t r e;cases e;exact ti _ _
 | none=>intro t r e;cases e
 | line=>intro t r e;cases e
 | @pq r1 m r' o' h1 h2 h3 ih =>
  intro t r e;cases o' with
  | none=>cases e
  | some z =>
   obtain⟨t',r''⟩:=z;simp only[pB,pA,rJ] at e;rw[←e.2];exact((ih rfl).trans (De h2)).trans (ti _ _)
 | bad=>intro t r e;cases e
 | @byte c r1 o' h1 h2 h3 h4 ih =>
  intro t r e;cases o' with
  | none=>cases e
  | some z =>
   obtain⟨t',r''⟩:=z;simp only[pB,pA,rJ] at e;rw[←e.2];exact(ih rfl).trans (ti _ _)
theorem Tok.suffix {l:List UInt8} {k n:Int} {s r:List UInt8} (h:Tok l (some (k,n,s,r))):r <:+ l:=by
 generalize ho:some (k,n,s,r)=o at h;cases h with
 | eof=>simp only[pA,rJ] at ho;rw[ho.2.2.2];exact List.suffix_refl _
 | name=>simp only[pA,rJ] at ho;rw[ho.2.2.2];exact y9 _
 | num=>simp only[pA,rJ] at ho;rw[ho.2.2.2];exact y9 _
 | Ci=>cases ho
 | @text c t o' h1 h2 h3 h4 =>
  cases o' with
  | none=>cases ho
  | some z =>
   obtain⟨a,b⟩:=z;simp only[pB,pA,rJ] at ho;rw[ho.2.2.2];exact(h4.suffix rfl).trans (ti _ _)
 | @long c t h1 h2 h3 h4 =>
  cases e:Jo (c::t) with
  | none=>rw[e] at ho;cases ho
  | some z =>
   obtain⟨a,b⟩:=z;rw[e] at ho;simp only[pB,pA,rJ] at ho;rw[ho.2.2.2];exact um e
 | @sign c t h1 h2 h3 h4 =>
  cases e:Go.Proofs.YteflkdlaoiijbaaGreatDoor.sign (c::t) with
  | none=>rw[e] at ho;cases ho
  | some z =>
   obtain⟨a,b⟩:=z;rw[e] at ho;simp only[pB,pA,rJ] at ho;rw[ho.2.2.2];unfold Go.Proofs.YteflkdlaoiijbaaGreatDoor.sign at e;split at e
   ·injection e with e;injection e with _ e;rw[←e];exact th _ _
   ·split at e
    ·injection e with e;injection e with _ e;rw[←e];exact th _ _
    ·split at e
     ·injection e with e;injection e with _ e;rw[←e];exact th _ _
     ·cases e
open Go.RowKit
theorem EL (n k:Int) (w:World):Calls Tryz.prog 23 #[.int .i64 n,.int .i64 k] w fun e w'=>e=.returned (.iface 83 (.pointer (some ⟨w.heap.size,0,none⟩)))∧w'=w.alloc (.cells #[.int .i64 n,.iface 79 (.int .i64 k)] 85):=by
 go_enter Tryz.func23,Tryz.ntmps23
 go_wp2
 go_ret
 exact⟨rfl,rfl⟩
def MX (W:World) (v:Value) (n k:Int):Prop:=∃g,v=.iface 83 (.pointer (some ⟨g,0,none⟩))∧W.heap[g]? = some (.cells #[.int .i64 n,.iface 79 (.int .i64 k)] 85 (0,0))
theorem Xk {K:Ast→List aj→Prop} {E:Int→Prop} {N:Nat} {t:aj} {r:List aj} (hl:(t::r).length<N) (h2:(t::r).length≤20000) (hw:Wf (t::r)) (H:Gw oM (t::r) K E):aI [LG N,Lq] ⟨dx 18 t.2.1,[],t::r,0⟩ (bW K) E:=by
 refine⟨hl,by dsimp only;omega,by simp only[List.length_nil];omega,hw.yQ,?_⟩
 refine(Gw.call (Gw.look (Gw.call H))).mono fun(l:List Ast) ax p hq n' hn'=>?_
 have hz:Ast.ak l+2*ax.length≤Ast.ak []+2*(t::r).length:=hq.1;have oW:=hq.2.ret.2;obtain⟨u,us,rfl⟩:=(PL.wf (n:=.oL []) p hw).fin.cons;have G:=Gw.look oW;dsimp only at hn'
 rw[cE] at hz hn';exact⟨u,us,rfl,fun h0=>⟨by dsimp only;omega,(G.pos h0).ret⟩,fun h0=>(G.neg h0).bad⟩
theorem Xl {w:World} {g c:Nat} {ts:List aj} (h:tI w (.slice (some ⟨g,0,none⟩) ts.length c) ts) (hf:Fin ts) (hl:ts.length≤20000) (hg:g<w.heap.size):PS (w.alloc (.cells #[.slice (some ⟨g,0,none⟩) ts.length c,.int .i64 0,.slice none 0 0] 71)) w.heap.size (· = w.heap.size) ts [] :=
 ⟨⟨ts,0,g,c,.slice none 0 0,[],World.alloc_heap_new w _,h.below (aX w _),hg,rfl,hl,⟨World.ownsRow_nil _ _ _ _,fun k hk=>by simp[Value.ownBlock] at hk,fun t ht=>by simp at ht⟩,rfl⟩,hf,rfl,fun k hk=>by subst hk;simp⟩
theorem MY {W:World} {B:Nat} {v:Value} {zs:List Int} (h:W.ownsRow B 3 1 v zs.length (zs.map (Value.int .i64))):eR W v zs:=by
 obtain⟨A,c,rfl,hc⟩:=bF h;refine⟨A,c,rfl,hc,?_⟩;rcases rH zs.length with h0|h0
 ·exact .inl (pw h0)
 ·obtain⟨g,c2,e1,h1,h2⟩:=h.form h0
  injection e1 with e1 _ _;subst e1;refine .inr ⟨g,0,rfl,h2,fun j z hj=>?_⟩
  have:=h.cells (g:=g) rfl j (.int .i64 z) (by rw[iA,hj];rfl)
  rwa[sW,←iY j] at this
theorem MZ {W:World} {B:Nat} {v:Value} {zs:List ByteArray} (h:W.ownsRow B 9 1 v zs.length (zs.map Value.string)):rR W v zs:=by
 obtain⟨A,c,rfl,hc⟩:=bF h;refine⟨A,c,rfl,hc,?_⟩;rcases rH zs.length with h0|h0
 ·exact .inl (pw h0)
 ·obtain⟨g,c2,e1,h1,h2⟩:=h.form h0
  injection e1 with e1 _ _;subst e1;refine .inr ⟨g,0,rfl,h2,fun j z hj=>?_⟩
  have:=h.cells (g:=g) rfl j (.string z) (by rw[iA,hj];rfl)
  rwa[sW,←iY j] at this
theorem Ax :∀(L:List Js) (p j:Nat) (t:Js),L[p]? = some t→j<7→(L.flatMap aP)[p*7+j]? = (aP t)[j]?
 | [],p,j,t,h,_=>by simp at h
 | u::L,0,j,t,h,hj=>by
  obtain rfl:u=t:=by simpa using h
  rw[iW,Nat.zero_mul,iY,kC (by rw[eU];exact hj)]
 | u::L,p+1,j,t,h,hj=>by
  have:=Ax L p j t (by simpa using h) hj
  rw[iW,yX (by rw[eU];omega),eU,show(p+1)*7+j-7=p*7+j by omega]
  exact this
theorem QE.nodes {W:World} {b:Nat} {O:Nat→Prop} {v:Value} {L:List Js} (a6:QE W b O v L) {T:List Nd} (a7:L.map (·.1)=T):rS W v T:=by
 have hL:L.length=T.length:=by rw[←a7,cD]
 obtain⟨A,c,e,hc⟩:=bF a6.row;subst e;rw[hL] at hc;refine⟨A,c,by rw[hL],hc,?_⟩
 rcases rH L.length with h0|h0
 ·exact .inl (pw (by omega))
 ·obtain⟨g,c2,e1,h1,h2⟩:=a6.row.form h0
  injection e1 with e1 _ _;subst e1;refine .inr ⟨g,0,rfl,h2,fun j x hj=>?_⟩
  have hLj :∃t,L[j]? = some t∧t.1=x:=by
   rw[←a7,iA] at hj;cases hq:L[j]? with
   | none=>rw[hq] at hj;simp at hj
   | some t=>rw[hq] at hj;exact⟨t,rfl,by simpa using hj⟩
  obtain⟨t,ht,rfl⟩:=hLj;have hcell :∀k,k<7→W.cell? ⟨g,0+j*7+k,none⟩=(aP t)[k]?:=fun k hk=>by
   have hq:=Ax L j k t ht hk;have sP:k<(aP t).length:=by rw[eU];exact hk
   rw[bX sP] at hq ⊢;have:=a6.row.cells (g:=g) rfl (j*7+k) _ hq;rw[sW] at this;rw[iY];exact this
  have hn:=a6.each t (aM ht);exact⟨t.2.1,t.2.2,⟨hcell 0 (by omega),hcell 1 (by omega),hcell 2 (by omega),hcell 3 (by omega),hcell 4 (by omega),hcell 5 (by omega),hcell 6 (by omega)⟩,MZ hn.names,MY hn.kids⟩
theorem PS.nodes {W:World} {b:Nat} {O:Nat→Prop} {ts:List aj} {T:List Nd} (h:PS W b O ts T) :∃A c,W.cell? ⟨b,2,none⟩=some (.slice A T.length c)∧∀(W':World) (O1:Nat→Prop),ay O1 W W'→(∀k,O k→¬ O1 k)→rS W' (.slice A T.length c) T:=by
 obtain⟨TS,i,g0,c0,nv,L,a1,a2,a3,a4,a5,a6,a7⟩:=h.ex;have hL:L.length=T.length:=by rw[←a7,cD]
 obtain⟨A,c,e,hc⟩:=bF a6.row;subst e;refine⟨A,c,by rw[←hL];simp[World.cell?,a1],fun W' O1 hf hd=>?_⟩
 have hb :∀k,O k→W'.heap[k]? = W.heap[k]?:=fun k hk=>hf.block k (h.own k hk).2 (hd k hk)
 have a8:QE W' b O (.slice A L.length c) L:=⟨dd a6.row fun k hk=>hb k (a6.own k hk),a6.own,fun t ht=>(a6.each t ht).kept hf hd (fun _ h=>h)⟩
 rw[←hL];exact a8.nodes a7
theorem M0 {r:List UInt8} {q:Option (Int×Int×List UInt8×List UInt8)} (h:Tok r q) :∀{k n:Int} {s r':List UInt8},q=some (k,n,s,r')→r≠[]→1≤k∧(k=2→s≠[61]):=by
 have mp :∀{o:Option (List UInt8×List UInt8)} {m k n:Int} {s r':List UInt8},o.map (fun x=>(m,(0:Int),x.1,x.2))=some (k,n,s,r')→k=m:=fun{o m k n s r'} e=>by
  cases o with
  | none=>simp at e
  | some x=>simp at e;exact e.1.symm
 cases h with
 | eof=>intro k n s r' _ hr;exact absurd rfl hr
 | @name c r hc =>
  intro k n s r' e _;injection e with e;injection e with e1 e;injection e with _ e;injection e with e3 _;refine⟨by rw[←e1];split<;>decide,fun _ h=>?_⟩
  rw[h] at e3;have hn:mB c=true:=by unfold mB;rw[hc];rfl
  rw[List.takeWhile_cons,al hn] at e3;injection e3 with e4 _;rw[e4] at hc;exact absurd hc (by decide)
 | num h1 h2 h3 =>
  intro k n s r' e _;injection e with e;injection e with e1 e;rw[←e1];exact⟨by decide,fun h=>absurd h (by decide)⟩
 | Ci h1 h2 h3=>intro k n s r' e _;cases e
 | text h1 h2 h3 h4=>intro k n s r' e _;rw[mp e];exact⟨by decide,fun h=>absurd h (by decide)⟩
 | long h1 h2 h3 h4=>intro k n s r' e _;rw[mp e];exact⟨by decide,fun h=>absurd h (by decide)⟩
 | sign h1 h2 h3 h4=>intro k n s r' e _;rw[mp e];exact⟨by decide,fun h=>absurd h (by decide)⟩
theorem lex_wf {L:Int} {l:List UInt8} {o:Except Int (List Tk)} (h:jQ L l o):(nl l:Int)<L→∀ts,o=.ok ts→Wf ts:=by
 induction h with
 | lC=>intro _ ts e;cases e
 | oP=>intro _ ts e;cases e
 | eof _ =>
  intro hL ts e;injection e with e;subst e;exact⟨⟨[],_,rfl,rfl,by simp⟩,fun t ht=>by
   obtain rfl:=bR.1 ht;exact⟨by dsimp only;omega,fun h=>by simp at h⟩⟩
 | @step l r r' s k n o h1 h2 h3 h4 ih =>
  intro hL ts e;cases o with
  | error x=>cases e
  | ok ts0 =>
   injection e with e;subst e;have hr:=wF (h1.suffix rfl);have Ud:=wF h3.suffix;have hw:=ih (by omega) ts0 rfl
   have hk:=M0 h3 rfl h2;obtain⟨us,e,e1,e2,e3⟩:=hw.fin;refine⟨⟨(k,L-nl r,n,s)::us,e,by rw[e1];rfl,e2,fun u hu=>?_⟩,fun t ht=>?_⟩
   ·rcases bq.1 hu with rfl|hu
    ·dsimp only;omega
    ·exact e3 u hu
   ·rcases bq.1 ht with rfl|ht
    ·exact⟨by dsimp only;omega,hk.2⟩
    ·exact hw.yQ t ht
end Go.Proofs.YteflkdlaoiijbaaGreatDoor
namespace Go.Proofs.YteflkdlaoiijbaaGreatDoor
open Go.RowKit Go.Extern.Stop Go.Stop Go.Extern
theorem Tryz.Ay (v:Value) (w:World):(Extern.ReflectliteType.typeOf #[.iface 79 v]).run Tryz.prog w=.ok (.iface 165 (.agg #[.pointer (some ⟨4,79,none⟩)])) w:=by kernel_rfl
theorem Tryz.jH (v:Value) (w:World):(Go.method 423 165 v "Comparable").run Tryz.prog w=.ok (267,v) w:=by kernel_rfl
theorem Tryz.UF (v:Value) (xT:TypeId) (w:World):(Instr.typeAssert (.iface 83 v) xT 207 true).run Tryz.prog w=.ok (.tuple #[.nilIface,.bool false]) w:=run_typeAssert_lacksB Tryz.underlying207 (by kernel_rfl) (by kernel_rfl) v xT w
theorem Tryz.uo (v:Value) (xT:TypeId) (w:World):(Instr.typeAssert (.iface 83 v) xT 172 true).run Tryz.prog w=.ok (.tuple #[.iface 83 v,.bool true]) w:=run_typeAssert_hasB Tryz.underlying172 (by kernel_rfl) v xT w
theorem Tryz.aaB (v:Value) (xT:TypeId) (w:World):(Instr.typeAssert (.iface 79 v) xT 207 true).run Tryz.prog w=.ok (.tuple #[.nilIface,.bool false]) w:=run_typeAssert_lacksB Tryz.underlying207 (by kernel_rfl) (by kernel_rfl) v xT w
theorem Tryz.Ik (v:Value) (xT:TypeId) (w:World):(Instr.typeAssert (.iface 79 v) xT 172 true).run Tryz.prog w=.ok (.tuple #[.nilIface,.bool false]) w:=run_typeAssert_lacksB Tryz.underlying172 (by kernel_rfl) (by kernel_rfl) v xT w
theorem Tryz.Df (v:Value) (xT:TypeId) (w:World):(Instr.typeAssert (.iface 79 v) xT 173 true).run Tryz.prog w=.ok (.tuple #[.nilIface,.bool false]) w:=run_typeAssert_lacksB Tryz.underlying173 (by kernel_rfl) (by kernel_rfl) v xT w
theorem Tryz.p7 (v:Value) (w:World):(Go.method 423 83 v "Unwrap").run Tryz.prog w=.ok (261,v) w:=by kernel_rfl
theorem Tryz.p9 (w:World):((Extern.ReflectliteType.method fun t=>do Rtype.noPackHeld "Comparable" t;(fun a=>Value.bool a.comparable) <$> typeInfo t) #[.agg #[.pointer (some ⟨4,79,none⟩)]]).run Tryz.prog w=.ok (.bool true) w:=by kernel_rfl
end Go.Proofs.YteflkdlaoiijbaaGreatDoor
namespace Go.Proofs.YteflkdlaoiijbaaGreatDoor
open Go.RowKit
structure nj (w:World):Prop where
 mx:Mx w
 et:w.cell? ⟨0,0,none⟩=some (.iface 165 (.agg #[.pointer (some ⟨4,27,none⟩)]))
 big:4≤w.heap.size
theorem nj.below {w w':World} (h:nj w) (hb:Below w.heap.size w w'):nj w' :=
 ⟨h.mx.below hb,(hb.cell (p:=⟨0,0,none⟩) (by have:=h.big;show 0<_;omega)).trans h.et,aL h.big hb.size⟩
theorem Sn (g:Nat) (w:World) (h:nj w):Calls Tryz.prog 22 #[.iface 83 (.pointer (some ⟨g,0,none⟩)),.iface 104 (.pointer (some ⟨w.heap.size,0,none⟩))] (w.alloc (.cells #[.pointer none] 83)) fun e w' =>
  e=.returned (.bool true)∧w'.cell? ⟨w.heap.size,0,none⟩=some (.pointer (some ⟨g,0,none⟩))∧Below w.heap.size w w':=by
 have hB:=(Below.refl w.heap.size w).alloc (ah _) (.cells #[.pointer none] 83);have hE:=h.below hB;have hx:=Boxed.new w 83 (.pointer none);refine(Xi ⟨g,0,none⟩ ⟨w.heap.size,0,none⟩ (.pointer none) (w.alloc (.cells #[.pointer none] 83)) hE.et hx.cell hx.frozen).mono ?_;rintro e w' ⟨rfl,rfl⟩;exact⟨rfl,(((((hx.alloc _).alloc _).alloc _).alloc _).set _).cell,(((((hB.alloc (by simp) _).alloc (by simp;omega) _).alloc (by simp;omega) _).alloc (by simp;omega) _)).setCell (ah _) _⟩
theorem gh {B:Nat} {w W:World} {n j:Nat} {v:Value} (h:Below B w W) (hn:B≤n):Below B w (W.setCell ⟨n,j,none⟩ v):=⟨h.os,h.tape,h.output,by simpa[World.setCell] using h.size,fun k hk=>(Below.heap_setCell _ _ _ k (by show k≠n;omega)).trans (h.block k hk)⟩
theorem Az {W:World} {n j g:Nat} {v:Value} {o:Obj} (h:W.heap[g]? = some o) (hn:g≠n):(W.setCell ⟨n,j,none⟩ v).heap[g]? = some o:=(Below.heap_setCell _ _ _ g hn).trans h
theorem M4 (g:Nat) (w:World) (h:nj w):Calls Tryz.prog 22 #[.iface 75 (.pointer (some ⟨g,0,none⟩)),.iface 77 (.pointer (some ⟨w.heap.size,0,none⟩))] (w.alloc (.cells #[.pointer none] 75)) fun e w' =>
  e=.returned (.bool true)∧w'.cell? ⟨w.heap.size,0,none⟩=some (.pointer (some ⟨g,0,none⟩))∧Below w.heap.size w w':=by
 have hB:=(Below.refl w.heap.size w).alloc (ah _) (.cells #[.pointer none] 75);have hE:=h.below hB;have hx:=Boxed.new w 75 (.pointer none);refine(Sm ⟨g,0,none⟩ ⟨w.heap.size,0,none⟩ (.pointer none) (w.alloc (.cells #[.pointer none] 75)) hE.et hx.cell hx.frozen).mono ?_;rintro e w' ⟨rfl,rfl⟩;exact⟨rfl,(((((hx.alloc _).alloc _).alloc _).alloc _).set _).cell,(((((hB.alloc (by simp) _).alloc (by simp;omega) _).alloc (by simp;omega) _).alloc (by simp;omega) _)).setCell (ah _) _⟩
def gy:Value:=.agg #[.slice none 0 0,.int .i64 0]
def Il (s:ByteArray) (w:World) (e:Ending) (w':World):Prop :=
 Below w.heap.size w w'∧∃o,jQ (dc s) s.data.toList o∧match o with
  | .error n=>∃v,e=.returned (.tuple #[gy,v])∧MX w' v n 5
  | .ok ts=>ts.length≤s.size+1∧∃q,PL oM ts q∧match q with
   | .error l=>∃v,e=.returned (.tuple #[gy,v])∧MX w' v l 6
   | .ok (a,_)=>(100<a.depth∧∃v,e=.returned (.tuple #[gy,v])∧MX w' v 1 7) ∨
    (a.depth≤100∧∃(v:Value) (T:List Nd) (p:Nat),e=.returned (.tuple #[v,.nilIface])∧ow w' v T (p:Int)∧ei [] T [a] [(p:Int)])
theorem So (s:ByteArray) (w:World) (hs:s.size≤8000) (hE:nj w) (hZ :∀(ts ax:List aj) (a:Ast),jQ (dc s) s.data.toList (.ok ts)→ts.length≤s.size+1→PL oM ts (.ok (a,ax))→a.size≤16384):Calls Tryz.prog 9 #[.string s] w (Il s w):=by
 have h7:=hE.big;have hM:=hE.mx;have hlx:=fun W (h1:4≤W.heap.size) (h2:Mx W)=>QC s W (by omega) h1 h2
 have HL:=aa (hlx (w.alloc (.cells #[.slice none 0 0,.int .i64 0] 25)) (by simp;omega) (hM.below (aX w _)))
 have HS:=aa hs;have HE:=aa hE;have HZ:=aa hZ;clear hlx hE hM hs h7 hZ;go_enter Tryz.func9,Tryz.ntmps9
 go_wp2_with fail
 refine HL.out.mono ?_;rintro e w1 ⟨b1,o,ho,h1⟩;have B1:=aa (aB (aX w (.cells #[.slice none 0 0,.int .i64 0] 25)) b1);have rb :∀W,Below w1.heap.size w1 W→W.heap[w.heap.size]? = some (.cells #[.slice none 0 0,.int .i64 0] 25 (0,0)):=fun W hW=>((aB b1 hW).block w.heap.size (by simp)).trans (World.alloc_heap_new w _)
 have RB:=aa rb;have d0:w1.cell? ⟨w.heap.size,0,none⟩=some (.slice none 0 0):=by simp[World.cell?,rb w1 (Below.refl _ _)]
 have d1:w1.cell? ⟨w.heap.size,1,none⟩=some (.int .i64 0):=by simp[World.cell?,rb w1 (Below.refl _ _)]
 have y0:w1.frozen? ⟨w.heap.size,0,none⟩=false:=by simp[World.frozen?,rb w1 (Below.refl _ _)]
 have y1:w1.frozen? ⟨w.heap.size,1,none⟩=false:=by simp[World.frozen?,rb w1 (Below.refl _ _)]
 have HO:=aa ho;cases o with
 | error n =>
  obtain⟨v,rfl,g,rfl,hf⟩:=h1;have HF:=aa hf;clear b1 rb ho hf;have Q6:g≠w.heap.size:=fun e=>by
   have h1:=RB.out w1 (Below.refl _ _);rw[←e,HF.out] at h1;simp at h1
  go_wp2_with fail
  refine bodyPost_ret (v:=.tuple #[gy,.iface 83 (.pointer (some ⟨g,0,none⟩))]) ?_ rfl ⟨?_,.error n,HO.out,_,rfl,g,rfl,?_⟩
  ·simp[results,Tryz.results9,go_sem,gy,d0,d1]
  ·exact gh (gh (B1.out) (ah _)) (ah _)
  ·exact Az (Az HF.out Q6) Q6
 | ok ts =>
  obtain⟨hlen,v,rfl,hT⟩:=h1;have xZ:=lex_wf ho (by unfold dc;omega) ts rfl
  obtain⟨g,cp,rfl,hcp,qN,iT⟩:=hT.ex;obtain⟨t,r,jc⟩:=xZ.fin.cons;have hT2:tI w1 (.slice (some ⟨g,0,none⟩) ts.length cp) ts:=hT;have Wm:=Xl hT2 xZ.fin (by have:=HS.out;omega) qN
  have aaC:=Xk (N:=ts.length+1) (t:=t) (r:=r) (by rw[jc];exact dz _) (by rw[←jc];have:=HS.out;omega) (jc▸xZ) (jc▸Gw.self oM ts)
  rw[jc] at Wm;have HN:=aa (pY (w1.alloc (.cells #[.slice (some ⟨g,0,none⟩) (t::r).length cp,.int .i64 0,.slice none 0 0] 71)) (w1.alloc (.cells #[.slice (some ⟨g,0,none⟩) (t::r).length cp,.int .i64 0,.slice none 0 0] 71)) (w1.heap.size+1) (by simp) Wm (ay.refl _ _) (mo 18) rfl [aZ 20 w1.heap.size,aZ 21 w1.heap.size] [LG (ts.length+1),Lq] (by simp) ⟨(At (ts.length+1)).oL.part (enters_of Tryz.func20 (by kernel_rfl) rfl) _ _ _,Lr _ _ _,trivial⟩ aaC)
  subst jc;have Gx:=aa hlen;clear hT hT2 Wm aaC xZ iT ho rb b1 hlen;go_wp2_with fail
  refine HN.out.mono ?_;intro e w3 h3;have b3:Below w1.heap.size w1 w3:=Below.trans (aX w1 _) (h3.1.below (B:=w1.heap.size) (fun k hk=>by omega) (by simp))
  have B3:=aa (aB B1.out b3);have Xm:=aa b3;have hbl:w1.heap.size<w3.heap.size:=cL (by simp) h3.1.size
  have hwl:w.heap.size<w1.heap.size:=(aJ.1 (RB.out w1 (Below.refl _ _))).1;have Y4:=RB.out w3 b3;have RB3:=aa Y4;have e0:w3.cell? ⟨w.heap.size,0,none⟩=some (.slice none 0 0):=by simp[World.cell?,Y4]
  have e1:w3.cell? ⟨w.heap.size,1,none⟩=some (.int .i64 0):=by simp[World.cell?,Y4]
  have z0:w3.frozen? ⟨w.heap.size,0,none⟩=false:=by simp[World.frozen?,Y4]
  have z1:w3.frozen? ⟨w.heap.size,1,none⟩=false:=by simp[World.frozen?,Y4]
  have acp:w.heap.size<w3.heap.size:=by omega
  clear Y4 b3 d0 d1 y0 y1;rcases h3.2 with ⟨p,a,il,O2,T2,rfl,p2,x2,l2,k2⟩ | ⟨le,v,er,rfl,⟨g',rfl,m2,m3⟩,k2⟩
  ·obtain⟨A,c2,cT,Dg⟩:=p2.nodes
   have hsz:T2.length=a.size:=by rw[l2.len,tX];simp
   have hle:T2.length≤16384:=by
    have:=HZ.out _ _ _ HO.out Gx.out k2;omega
   have q1:decide ((16384:Int)<(T2.length:Int))=false:=cr (by omega)
   have Sp :∃js,gJ T2 a p js∧js.Nodup∧js.length=T2.length:=by
    obtain⟨_,js,hr,wG⟩:=l2;unfold bs at hr;obtain⟨k,ic,j1,j2,ek,hr1,hr2,ej⟩:=hr;unfold bs at hr2;obtain⟨_,rfl⟩:=hr2;have ek2:k=p:=by injection ek with ek _;omega
    subst ek2;rw[iX] at ej;subst ej;exact⟨_,hr1,wG.nodup_iff.2 (List.nodup_range' ..),by rw[wG.length_eq,JU];simp⟩
   have oA:eN T2 (p:Int)=a.depth:=by
    obtain⟨js,r1,r2,r3⟩:=Sp;exact zl r1 r2 r3 hle
   have L2:=aa l2;have K2:=aa k2;have HNd:=aa Dg;have HOw:=aa (fun k (hk:O2 k)=>(p2.own k hk).1)
   have HD:=aa (fun W (hW:Below w3.heap.size w3 W)=>zT (.agg #[.slice A T2.length c2,.int .i64 (p:Int)]) T2 (p:Int) W ⟨_,rfl,Dg W (fun _=>False) (ay.ae hW) (fun _ _ h=>h)⟩)
   rw[oA] at HD;have HLE:=aa hle;clear h3 p2 x2 l2 k2 Dg HN hsz hle Sp oA;go_wp2_with fail
   refine(Xe _ _).mono ?_;rintro e w4 ⟨rfl,rfl⟩;have b45:Below w3.heap.size w3 ((w3.alloc (.cells #[.pointer none] 75)).alloc (.cells #[.slice A T2.length c2,.int .i64 (p:Int)] 25)):=aB (aX w3 _) (aX _ _);have HD2:=aa (HD.out _ b45);have B45:=aa b45;clear b45 HD;go_wp2_with fail
   refine HD2.out.mono ?_;rintro e w6 ⟨rfl,b6⟩;have B6:=aa (aB B45.out b6);have rb6:=RB.out w6 (aB Xm.out B6.out);have f0:w6.cell? ⟨w.heap.size,0,none⟩=some (.slice none 0 0):=by simp[World.cell?,rb6]
   have f1:w6.cell? ⟨w.heap.size,1,none⟩=some (.int .i64 0):=by simp[World.cell?,rb6]
   have g0:w6.frozen? ⟨w.heap.size,0,none⟩=false:=by simp[World.frozen?,rb6]
   have g1:w6.frozen? ⟨w.heap.size,1,none⟩=false:=by simp[World.frozen?,rb6]
   have hw6:w3.heap.size+1<w6.heap.size:=by have:=b6.size;simp at this;omega
   have acq:w.heap.size<w6.heap.size:=by omega
   have t0:w6.cell? ⟨w3.heap.size+1,0,none⟩=some (.slice A T2.length c2):=by
    refine(b6.cell (p:=⟨w3.heap.size+1,0,none⟩) (by simp)).trans ?_
    have:=dF (w3.alloc (.cells #[.pointer none] 75)) #[.slice A T2.length c2,.int .i64 (p:Int)] 25 0;rw[ao] at this;exact this
   have t1:w6.cell? ⟨w3.heap.size+1,1,none⟩=some (.int .i64 (p:Int)):=by
    refine(b6.cell (p:=⟨w3.heap.size+1,1,none⟩) (by simp)).trans ?_
    have:=dF (w3.alloc (.cells #[.pointer none] 75)) #[.slice A T2.length c2,.int .i64 (p:Int)] 25 1;rw[ao] at this;exact this
   clear rb6 b6 HD2 e0 e1 z0 z1 cT;have B6w:=aa (aB B3.out B6.out);by_cases tJ:100<a.depth
   ·have q2:decide ((100:Int)<(a.depth:Int))=true:=bZ (by omega)
    have PB:=aa tJ;clear tJ;go_wp2_with fail
    refine(EL 1 7 w6).mono ?_;rintro e w7 ⟨rfl,rfl⟩;go_wp2_with fail
    refine bodyPost_ret (v:=.tuple #[gy,.iface 83 (.pointer (some ⟨w6.heap.size,0,none⟩))]) ?_ rfl ⟨?_,.ok (t::r),HO.out,Gx.out,.ok (a,il),K2.out,.inl ⟨PB.out,_,rfl,w6.heap.size,rfl,?_⟩⟩
    ·have xU:w.heap.size<((w6.setCell ⟨w.heap.size,0,none⟩ (.slice none 0 0)).setCell ⟨w.heap.size,1,none⟩ (.int .i64 0)).heap.size:=by simpa[World.setCell] using acq
     have k0:(((w6.setCell ⟨w.heap.size,0,none⟩ (.slice none 0 0)).setCell ⟨w.heap.size,1,none⟩ (.int .i64 0)).alloc (.cells #[.int .i64 1,.iface 79 (.int .i64 7)] 85)).cell? ⟨w.heap.size,0,none⟩=some (.slice none 0 0):=by rw[World.cell?_alloc_lt _ _ _ xU];simp[go_sem,f0]
     have k1:(((w6.setCell ⟨w.heap.size,0,none⟩ (.slice none 0 0)).setCell ⟨w.heap.size,1,none⟩ (.int .i64 0)).alloc (.cells #[.int .i64 1,.iface 79 (.int .i64 7)] 85)).cell? ⟨w.heap.size,1,none⟩=some (.int .i64 0):=by rw[World.cell?_alloc_lt _ _ _ xU];simp[go_sem,f1]
     simp[results,Tryz.results9,go_sem,gy,k0,k1]
    ·exact aB (gh (gh B6w.out (ah _)) (ah _)) (aX _ _)
    ·have:=World.alloc_heap_new ((w6.setCell ⟨w.heap.size,0,none⟩ (.slice none 0 0)).setCell ⟨w.heap.size,1,none⟩ (.int .i64 0)) (.cells #[.int .i64 1,.iface 79 (.int .i64 7)] 85)
     simpa[World.setCell] using this
   ·have q2:decide ((100:Int)<(a.depth:Int))=false:=cr (by omega)
    have PB:=aa tJ;have Xn:=RB.out w6 (aB Xm.out B6.out);have fr6:=((ay.ae (O:=(· = w.heap.size)) B6.out).trans (ay.vp Xn (show(25:Nat)≠9 by decide) 0 (.slice A T2.length c2)) (Ext.refl _ _)).trans (ay.vp (gV Xn (k:=0) (.slice A T2.length c2)) (show(25:Nat)≠9 by decide) 1 (.int .i64 (p:Int))) (Ext.refl _ _)
    have HN6:=aa (HNd.out _ _ fr6 (fun k hk e=>by have:=HOw.out k hk;omega))
    clear Xn fr6;clear tJ;go_wp2_with fail
    refine bodyPost_ret (v:=.tuple #[.agg #[.slice A T2.length c2,.int .i64 (p:Int)],.nilIface]) ?_ rfl ⟨?_,.ok (t::r),HO.out,Gx.out,.ok (a,il),K2.out,.inr ⟨Nat.le_of_not_lt PB.out,_,T2,p,rfl,⟨_,rfl,?_⟩,L2.out⟩⟩
    ·simp[results,Tryz.results9,go_sem,f0,f1]
    ·exact gh (gh B6w.out (ah _)) (ah _)
    ·exact HN6.out
  ·have aaD:g' < w3.heap.size:=(aJ.1 m3).1
   have hA:=M4 g' w3 (HE.out.below B3.out);have HA:=aa hA;have M3:=aa m3;have K2:=aa k2;have hgw:g'≠w.heap.size:=by simp at m2;omega
   clear h3 m2 m3 k2 HN hA e0 e1 z0 z1;go_wp2_with fail
   refine HA.out.mono ?_;rintro e w4 ⟨rfl,c4,b4⟩;have rb4:=RB.out w4 (aB Xm.out b4);have f0:w4.cell? ⟨w.heap.size,0,none⟩=some (.slice none 0 0):=by simp[World.cell?,rb4]
   have f1:w4.cell? ⟨w.heap.size,1,none⟩=some (.int .i64 0):=by simp[World.cell?,rb4]
   have g0:w4.frozen? ⟨w.heap.size,0,none⟩=false:=by simp[World.frozen?,rb4]
   have g1:w4.frozen? ⟨w.heap.size,1,none⟩=false:=by simp[World.frozen?,rb4]
   have Xo:w4.heap[g']? = _:=(b4.block g' aaD).trans M3.out;have j0:w4.cell? ⟨g',0,none⟩=some (.int .i64 6):=by simp[World.cell?,Xo]
   have j1:w4.cell? ⟨g',1,none⟩=some (.int .i64 le):=by simp[World.cell?,Xo]
   have acr:w.heap.size<w4.heap.size:=cL acp b4.size;have hgl4:g' < w4.heap.size:=cL aaD b4.size;have h3l4:w3.heap.size<w4.heap.size:=World.block_lt_of_cell? w4 _ c4;have B4:=aa (aB B3.out b4);clear rb4 Xo b4 HA;go_wp2_with fail
   go_region_with (first|(go_at_call 23;refine(EL le 6 _).mono ?_;rintro e w5 ⟨rfl,rfl⟩))
   all_goals
    have xU:w.heap.size<((w4.setCell ⟨w.heap.size,0,none⟩ (.slice none 0 0)).setCell ⟨w.heap.size,1,none⟩ (.int .i64 0)).heap.size:=by simpa[World.setCell] using acr
    have k0:(((w4.setCell ⟨w.heap.size,0,none⟩ (.slice none 0 0)).setCell ⟨w.heap.size,1,none⟩ (.int .i64 0)).alloc (.cells #[.int .i64 le,.iface 79 (.int .i64 6)] 85)).cell? ⟨w.heap.size,0,none⟩=some (.slice none 0 0):=by rw[World.cell?_alloc_lt _ _ _ xU];simp[go_sem,f0]
    have k1:(((w4.setCell ⟨w.heap.size,0,none⟩ (.slice none 0 0)).setCell ⟨w.heap.size,1,none⟩ (.int .i64 0)).alloc (.cells #[.int .i64 le,.iface 79 (.int .i64 6)] 85)).cell? ⟨w.heap.size,1,none⟩=some (.int .i64 0):=by rw[World.cell?_alloc_lt _ _ _ xU];simp[go_sem,f1]
    go_wp2
    refine bodyPost_ret (v:=.tuple #[gy,.iface 83 (.pointer (some ⟨w4.heap.size,0,none⟩))]) ?_ rfl ⟨?_,.ok (t::r),HO.out,Gx.out,.error le,K2.out,_,rfl,w4.heap.size,rfl,?_⟩
    ·simp[results,Tryz.results9,go_sem,gy,k0,k1,Act.put]
    ·have hb:=aB (gh (j:=1) (v:=.int .i64 0) (gh (j:=0) (v:=.slice none 0 0) B4.out (ah _)) (ah _)) (aX _ (.cells #[.int .i64 le,.iface 79 (.int .i64 6)] 85))
     exact⟨hb.os,hb.tape,hb.output,hb.size,hb.block⟩
    ·have:=World.alloc_heap_new ((w4.setCell ⟨w.heap.size,0,none⟩ (.slice none 0 0)).setCell ⟨w.heap.size,1,none⟩ (.int .i64 0)) (.cells #[.int .i64 le,.iface 79 (.int .i64 6)] 85)
     simpa[World.setCell,World.drew] using this
end Go.Proofs.YteflkdlaoiijbaaGreatDoor
namespace Go.Proofs.YteflkdlaoiijbaaGreatDoor
open Go.RowKit Go.Extern.Stop Go.Stop Go.Extern
theorem Sq (g:Nat) (n m:Int) (w:World) (he :∀w:World,(binOp .eql 27 (.iface 79 (.int .i64 m)) (.iface 79 (.int .i64 m))).run Tryz.prog w=.ok (.bool true) w) (hg:w.heap[g]? = some (.cells #[.int .i64 n,.iface 79 (.int .i64 m)] 85 (0,0))) :
  Calls Tryz.prog 30 #[.iface 83 (.pointer (some ⟨g,0,none⟩)),.iface 79 (.int .i64 m)] w fun e w'=>e=.returned (.bool true)∧w=w':=by
 have h1:w.cell? ⟨g,1,none⟩=some (.iface 79 (.int .i64 m)):=by simp[World.cell?,hg]
 have h41:=@run_callFunc_extern Tryz.prog 65 _ Extern.ReflectliteType.typeOf Tryz.func65 (by kernel_rfl) (by kernel_rfl) (by kernel_rfl) (by kernel_rfl)
 have Xp:=@run_callFunc_extern Tryz.prog 267 _ (Extern.ReflectliteType.method fun t=>do Rtype.noPackHeld "Comparable" t;pure (.bool (←typeInfo t).comparable)) Tryz.func267 (by kernel_rfl) (by kernel_rfl) (by kernel_rfl) (by kernel_rfl)
 have tT:=Tryz.Ay;have cT:=Tryz.p9;have mR:=Tryz.jH;have nF:=Tryz.UF;have uF:=Tryz.uo;have mU:=Tryz.p7;have e5:=he;have Gz:=run_eql_iface_types (P:=Tryz.prog) 83 79 (.pointer (some ⟨g,0,none⟩)) (.int .i64 m) Tryz.underlying27 (by decide) w
 clear hg;go_enter Tryz.func30,Tryz.ntmps30
 go_wp2
 refine wp_loop_rounds 2 ?_;rw[rounds_succ];go_wp2
 rw[rounds_succ];go_wp2
 go_ret
 exact⟨rfl,rfl⟩
theorem Sr (g:Nat) (n m k:Int) (w:World) (he :∀w:World,(binOp .eql 27 (.iface 79 (.int .i64 m)) (.iface 79 (.int .i64 k))).run Tryz.prog w=.ok (.bool false) w) (hg:w.heap[g]? = some (.cells #[.int .i64 n,.iface 79 (.int .i64 m)] 85 (0,0))) :
  Calls Tryz.prog 30 #[.iface 83 (.pointer (some ⟨g,0,none⟩)),.iface 79 (.int .i64 k)] w fun e w'=>e=.returned (.bool false)∧w=w':=by
 have h1:w.cell? ⟨g,1,none⟩=some (.iface 79 (.int .i64 m)):=by simp[World.cell?,hg]
 have h41:=@run_callFunc_extern Tryz.prog 65 _ Extern.ReflectliteType.typeOf Tryz.func65 (by kernel_rfl) (by kernel_rfl) (by kernel_rfl) (by kernel_rfl)
 have Xp:=@run_callFunc_extern Tryz.prog 267 _ (Extern.ReflectliteType.method fun t=>do Rtype.noPackHeld "Comparable" t;pure (.bool (←typeInfo t).comparable)) Tryz.func267 (by kernel_rfl) (by kernel_rfl) (by kernel_rfl) (by kernel_rfl)
 have tT:=Tryz.Ay;have cT:=Tryz.p9;have mR:=Tryz.jH;have nF:=Tryz.UF;have uF:=Tryz.uo;have mU:=Tryz.p7;have nE:=Tryz.aaB;have uE:=Tryz.Ik;have vE:=Tryz.Df;have Gz:=run_eql_iface_types (P:=Tryz.prog) 83 79 (.pointer (some ⟨g,0,none⟩)) (.int .i64 k) Tryz.underlying27 (by decide) w
 clear hg;go_enter Tryz.func30,Tryz.ntmps30
 go_wp2
 refine wp_loop_rounds 2 ?_;rw[rounds_succ];go_wp2
 rw[rounds_succ];go_wp2
 go_ret
 exact⟨rfl,rfl⟩
theorem M5 (w:World):Calls Tryz.prog 13 #[.nilIface] w fun e w'=>e=.returned (.tuple #[.int .i64 0,.int .i64 0])∧w=w':=by
 go_enter Tryz.func13,Tryz.ntmps13
 go_wp2_with fail
 go_ret2
 exact⟨rfl,rfl⟩
end Go.Proofs.YteflkdlaoiijbaaGreatDoor
namespace Go.Proofs.YteflkdlaoiijbaaGreatDoor
mutual
def Ast.wt:Ast→Nat
 | .mk h ks=>h.names.length+Ast.ec ks
def Ast.ec:List Ast→Nat
 | []=>0
 | a::l=>Ast.wt a+Ast.ec l
end
theorem Xq (k l:Int) (ks:List Ast):(nd k l ks).wt=Ast.ec ks:=by unfold nd;rw[Ast.wt];simp
theorem Im (a:Ast) (l:List Ast):Ast.ec (a::l)=a.wt+Ast.ec l:=by rw[Ast.ec]
inductive Lt where
 | mk (i:Nat) (h:Nd) (kids:List Lt)
def Lt.loc:Lt→Nat
 | .mk i _ _=>i
def Lt.hd:Lt→Nd
 | .mk _ h _=>h
def Lt.sub:Lt→List Lt
 | .mk _ _ ks=>ks
mutual
/-- It lies so in a list of nodes. -/
def Lt.In (T:List Nd):Lt→Prop
 | .mk i h ks=>T[i]? = some h∧h.kids=ks.map (fun k=>(k.loc:Int))∧Lt.uq T ks
def Lt.uq (T:List Nd):List Lt→Prop
 | []=>True
 | k::ks=>Lt.In T k∧Lt.uq T ks
end
structure mq where
 name:ByteArray
 node:Nat
 cap:Bool
structure sd where
 loc:Bool
 idx:Nat
deriving DecidableEq
structure dr where
 node:Nat
 parent:Int
 params:Nat
 many:Bool
 vars:List mq
 cz:List sd
structure jj where
 s:ByteArray
 fn:Nat
 i:Nat
structure e8 where
 fn:Nat
 node:Nat
 at_:Nat
 loop:Bool
 rep:Bool
 kids:List Lt
structure aF where
 fns:List dr
 uses:Nat→Int×Int
 of:Nat→Int
 names:List jj
 frames:List e8
abbrev Rs (α:Type):=Except (Int×Int) α
def aF.setOf (st:aF) (i fn:Nat):aF:={ st with of:=fun j=>if j=i then (fn:Int) else st.of j}
def aF.cK (st:aF) (i:Nat) (u:Int×Int):aF:={ st with uses:=fun j=>if j=i then u else st.uses j}
def aF.fn (st:aF) (f:Nat):dr:=st.fns.getD f ⟨0,0,0,false,[],[]⟩
def aF.oB (st:aF) (f:Nat) (x:dr):aF:={ st with fns:=st.fns.set f x}
def du (node f:Nat) (line:Int):List ByteArray→aF→Rs aF
 | [],st=>.ok st
 | s::l,st =>
  if 200≤(st.fn f).vars.length then .error (11,line)
  else du node f line l { st.oB f { st.fn f with vars:=(st.fn f).vars++[⟨s,node,false⟩]} with names:=⟨s,f,(st.fn f).vars.length⟩::st.names}
def bo (node f:Nat) (line:Int) (l:List ByteArray) (st:aF):Rs aF:=du node f line l (st.cK node (2,((st.fn f).vars.length:Int)))
def gz (F:List dr) (f:Nat) (u:sd):Option (List dr×Nat) :=
 let x:=F.getD f ⟨0,0,0,false,[],[]⟩
 match x.cz.findIdx? (fun y=>decide (y=u)) with
 | some i=>some (F,i)
 | none=>if 60≤x.cz.length then none else some (F.set f { x with cz:=x.cz++[u]},x.cz.length)
def lO (x:jj):Nat→List dr→Nat→Option (List dr×Nat)
 | 0,_,_=>none
 | g+1,F,f =>
  let p:=(F.getD f ⟨0,0,0,false,[],[]⟩).parent
  if p=(x.fn:Int) then gz F f ⟨true,x.i⟩
  else match lO x g F p.toNat with
   | none=>none
   | some (F',k)=>gz F' f ⟨false,k⟩
def cZ (x:dr) (i:Nat):dr:={ x with vars:=match x.vars[i]? with|some v=>x.vars.set i { v with cap:=true}|none=>x.vars}
def lP (node f:Nat) (s:ByteArray) (line:Int) (st:aF):Rs aF :=
 match st.names.find? (fun n=>decide (n.s=s)) with
 | none=>.ok (st.cK node (1,0))
 | some n =>
  if n.fn=f then .ok (st.cK node (2,(n.i:Int)))
  else match lO n st.fns.length (st.fns.set n.fn (cZ (st.fn n.fn) n.i)) f with
   | none=>.error (12,line)
   | some (F,k)=>.ok ({ st with fns:=F}.cK node (3,(k:Int)))
def kW (s:ByteArray) (k:Lt):Bool:=decide (k.hd.kind=32) && decide (k.hd.s=s)
def ca (ks:List Lt) (s:ByteArray):Option Nat:=ks.findIdx? (kW s)
def cA (frames:List e8) (f:Nat) (all:List Lt):Nat→List Lt→Option Int
 | _,[]=>none
 | n,k::ks =>
  if k.hd.kind=32∧((∃j,ca all k.hd.s=some j∧j<n)∨∃x∈frames,x.loop=false∧x.fn=f∧(ca x.kids k.hd.s).isSome) then some k.hd.line
  else cA frames f all (n+1) ks
def ft (i f:Nat) (rep:Bool) (ks:List Lt) (st:aF):Rs aF :=
 match cA st.frames f ks 0 ks with
 | some l=>.error (9,l)
 | none=>.ok { st with frames:=⟨f,i,0,false,rep,ks⟩::st.frames}
def aF.at (st:aF) (n:Nat):aF:={ st with frames:=match st.frames with | []=>[]|x::l=>{ x with at_:=n}::l}
def dY (node f:Nat) (line:Int) (st:aF):Rs aF :=
 match st.frames.find? (fun x=>x.loop && decide (x.fn=f)) with
 | none=>.error (8,line)
 | some x=>.ok (st.cK node (4,(x.node:Int)))
def isDecl (k:Lt):Bool:=decide (k.hd.kind=19) || decide (k.hd.kind=28)
def lQ (ks:List Lt) (a j:Nat) (rep:Bool):Bool :=
 ((ks.take j).drop (a+1)).any isDecl && !(!rep && (ks.drop (j+1)).all fun k=>decide (k.hd.kind=32))
def dm (node f:Nat) (s:ByteArray) (line:Int) (st:aF):List e8→Rs aF
 | []=>.error (8,line)
 | x::l =>
  if x.loop=true∨x.fn≠f then dm node f s line st l
  else match ca x.kids s with
   | none=>dm node f s line st l
   | some j=>if lQ x.kids x.at_ j x.rep then .error (10,line) else .ok (st.cK node (4,((x.kids.getD j (.mk 0 ⟨0,0,0,0,⟨#[]⟩,[],[]⟩ [])).loc:Int)))
def dt (i f:Nat) (st:aF):aF:={ st with frames:=⟨f,i,0,true,false,[]⟩::st.frames}
def aF.back (st mg:aF):aF:={ st with names:=mg.names,frames:=mg.frames}
def ez (i f:Nat) (h:Nd) (st:aF):aF:={ st with fns:=st.fns++[⟨i,(f:Int),h.names.length,decide (h.num=1),[],[]⟩]}
mutual
def aV:Lt→Nat→aF→Rs aF
 | .mk i h ks,f,mg =>
  let st:=mg.setOf i f
  if h.kind=6 then (if (st.fn f).many then .ok st else .error (14,h.line))
  else if h.kind=7 then lP i f h.s h.line st
  else if h.kind=11 then
   (bo i st.fns.length h.line h.names (ez i f h st)).bind fun st1=>(aE ks st.fns.length st1).map fun st2=>st2.back st
  else if h.kind=18 then (ft i f false ks st).bind fun st1=>(bz ks 0 f st1).map fun st2=>st2.back st
  else if h.kind=19 then (aE ks f st).bind fun st1=>bo i f h.line h.names st1
  else if h.kind=23 then (aE ks f (dt i f st)).map fun st1=>st1.back st
  else if h.kind=24 then (kq ks f (dt i f st)).map fun st1=>st1.back st
  else if h.kind=26∨h.kind=27 then iH i h.line h.names ks f st
  else if h.kind=28 then (bo i f h.line h.names st).bind fun st1=>aE ks f st1
  else if h.kind=30 then dY i f h.line st
  else if h.kind=31 then dm i f h.s h.line st st.frames
  else aE ks f st
def aE:List Lt→Nat→aF→Rs aF
 | [],_,st=>.ok st
 | k::ks,f,st=>(aV k f st).bind fun st1=>aE ks f st1
/-- Statements of a block, from the one at n on. -/
def bz:List Lt→Nat→Nat→aF→Rs aF
 | [],_,_,st=>.ok st
 | k::ks,n,f,st=>(aV k f (st.at n)).bind fun st1=>bz ks (n+1) f st1
/-- A block with a test that stands in it. -/
def kq:List Lt→Nat→aF→Rs aF
 | [.mk i _ ks,t],f,st=>(ft i f true ks (st.setOf i f)).bind fun st1=>(bz ks 0 f st1).bind fun st2=>aV t f st2
 | _,_,st=>.ok st
/-- acs, then names are declared, then a block. -/
def iH (i:Nat) (line:Int) (names:List ByteArray):List Lt→Nat→aF→Rs aF
 | [],_,st=>.ok st
 | [b],f,st=>(bo i f line names (dt i f st)).bind fun st1=>(aV b f st1).map fun st2=>st2.back st
 | a::b::l,f,st=>(aV a f st).bind fun st1=>iH i line names (b::l) f st1
end
def gZ (root:Nat):aF:=⟨[⟨root,-1,0,true,[],[]⟩],fun _=>(0,0),fun _=>0,[],[]⟩
def lR (t:Lt):Rs aF:=aV t 0 (gZ t.loc)
structure qa (x x':dr):Prop where
 node:x'.node=x.node
 parent:x'.parent=x.parent
 params:x'.params=x.params
 many:x'.many=x.many
 vars :∀(j:Nat) v,x.vars[j]? = some v→∃v':mq,x'.vars[j]? = some v'∧v'.name=v.name∧v'.node=v.node∧(v.cap=true→v'.cap=true)
 cz :∀(j:Nat) u,x.cz[j]? = some u→x'.cz[j]? = some u
theorem qa.refl (x:dr):qa x x:=⟨rfl,rfl,rfl,rfl,fun _ v h=>⟨v,h,rfl,rfl,id⟩,fun _ _ h=>h⟩
theorem qa.trans {x y z:dr} (h:qa x y) (k:qa y z):qa x z :=
 ⟨k.node.trans h.node,k.parent.trans h.parent,k.params.trans h.params,k.many.trans h.many,fun j v hv=>by
  obtain⟨v1,h1,h2,h3,h4⟩:=h.vars j v hv;obtain⟨v2,k1,k2,k3,k4⟩:=k.vars j v1 h1;exact⟨v2,k1,k2.trans h2,k3.trans h3,fun c=>k4 (h4 c)⟩,fun j u hu=>k.cz j u (h.cz j u hu)⟩
theorem qa.len {x y:dr} (h:qa x y):x.vars.length≤y.vars.length:=by
 rcases rH x.vars.length with h0|h0
 ·omega
 ·obtain⟨v',h1,_⟩:=h.vars (x.vars.length-1) _ (bX (by omega))
  have:=(aK.1 h1).1;omega
def ur (F F':List dr):Prop:=F.length≤F'.length∧∀(f:Nat) x,F[f]? = some x→∃x',F'[f]? = some x'∧qa x x'
theorem ur.refl (F:List dr):ur F F:=⟨ah _,fun _ x h=>⟨x,h,.refl x⟩⟩
theorem ur.trans {A B C:List dr} (h:ur A B) (k:ur B C):ur A C :=
 ⟨aL h.1 k.1,fun f x hx=>by
  obtain⟨y,hy,e⟩:=h.2 f x hx;obtain⟨z,hz,e'⟩:=k.2 f y hy;exact⟨z,hz,e.trans e'⟩⟩
theorem ur.set {F:List dr} {f:Nat} {x x':dr} (h:F[f]? = some x) (e:qa x x'):ur F (F.set f x') :=
 ⟨by simp,fun g y hy=>by
  by_cases hg:g=f
  ·subst hg
   rw[h] at hy;injection hy with hy;subst hy;exact⟨x',by rw[dR (aK.1 h).1],e⟩
  ·exact⟨y,by rw[fD (fun e=>hg e.symm)];exact hy,.refl y⟩⟩
theorem ur.app (F:List dr) (x:dr):ur F (F++[x]) :=
 ⟨by simp,fun f y hy=>⟨y,by rw[kC (aK.1 hy).1];exact hy,.refl y⟩⟩
structure Ffn (F:List dr) (i:Nat) (x:dr):Prop where
 par:(i=0∧x.parent = -1)∨∃p:Nat,x.parent=(p:Int)∧p<i
 par0:x.params≤x.vars.length
structure BP (F:List dr):Prop where
 pos:0<F.length
 each :∀(i:Nat) x,F[i]? = some x→Ffn F i x
inductive M6 (F:List dr):Nat→Nat→Prop
 | same {f:Nat}:M6 F f f
 | up {a f p:Nat} {x:dr}:F[f]? = some x→x.parent=(p:Int)→M6 F a p→M6 F a f
theorem M6.ext {F F':List dr} (h:ur F F') {a f:Nat} (k:M6 F a f):M6 F' a f:=by
 induction k with
 | same=>exact .same
 | up h1 h2 _ ih =>
  obtain⟨x',h3,e⟩:=h.2 _ _ h1;exact .up h3 (e.parent.trans h2) ih
inductive se (F:List dr) (s:ByteArray):Nat→Nat→Prop
 | here {f k j p:Nat} {x y:dr} {v:mq}:F[f]? = some x→x.cz[k]? = some ⟨true,j⟩→x.parent=(p:Int)→F[p]? = some y→y.vars[j]? = some v→v.name=s→v.cap=true→se F s f k
 | up {f k j p:Nat} {x:dr}:F[f]? = some x→x.cz[k]? = some ⟨false,j⟩→x.parent=(p:Int)→se F s p j→se F s f k
theorem se.ext {F F':List dr} (h:ur F F') {s:ByteArray} {f k:Nat} (l:se F s f k):se F' s f k:=by
 induction l with
 | here h1 h2 h3 h4 h5 h6 h7 =>
  obtain⟨x',e1,l1⟩:=h.2 _ _ h1;obtain⟨y',e2,l2⟩:=h.2 _ _ h4;obtain⟨v',e3,e4,_,e5⟩:=l2.vars _ _ h5;exact .here e1 (l1.cz _ _ h2) (l1.parent.trans h3) e2 e3 (e4.trans h6) (e5 h7)
 | up h1 h2 h3 _ ih =>
  obtain⟨x',e1,l1⟩:=h.2 _ _ h1;exact .up e1 (l1.cz _ _ h2) (l1.parent.trans h3) ih
theorem gA {F:List dr} {f:Nat} {x d:dr} (h:F[f]? = some x):F.getD f d=x:=by rw[kB,h];rfl
theorem BP.set {F:List dr} (h:BP F) {f:Nat} {x x':dr} (hx:F[f]? = some x) (e:qa x x'):BP (F.set f x') :=
 ⟨by rw[kG];exact h.pos,fun i y hy=>by
  by_cases hi:i=f
  ·subst hi
   rw[dR (aK.1 hx).1] at hy;injection hy with hy;subst hy;obtain⟨p,q⟩:=h.each _ _ hx;exact⟨by rw[e.parent];exact p,by rw[e.params];exact aL q e.len⟩
  ·rw[fD (fun e=>hi e.symm)] at hy
   obtain⟨p,q⟩:=h.each _ _ hy;exact⟨p,q⟩⟩
theorem AA {F F':List dr} {f k:Nat} {u:sd} (h:gz F f u=some (F',k)) {x:dr} (hx:F[f]? = some x) (hF:BP F) :
  ur F F'∧BP F'∧F'.length=F.length∧∃x',F'[f]? = some x'∧x'.cz[k]? = some u∧x'.parent=x.parent:=by
 unfold gz at h;simp only[gA hx] at h;split at h
 ·rename_i i hi
  injection h with h;injection h with h1 h2;subst h1 h2;obtain⟨hlt,he,_⟩:=yW.1 hi;refine⟨.refl F,hF,rfl,x,hx,?_,rfl⟩;rw[bX hlt];exact az some (iB he)
 ·split at h
  ·cases h
  ·injection h with h
   injection h with h1 h2;subst h1 h2;have e:qa x { x with cz:=x.cz++[u]}:=⟨rfl,rfl,rfl,rfl,fun _ v hv=>⟨v,hv,rfl,rfl,id⟩,fun _ w hw=>by
    rw[kC (aK.1 hw).1];exact hw⟩
   exact⟨.set hx e,hF.set hx e,by simp,{ x with cz:=x.cz++[u]},by rw[dR (aK.1 hx).1],by simp,rfl⟩
theorem BP.par {F:List dr} (hF:BP F) {f:Nat} {x:dr} (hx:F[f]? = some x) (h0:f≠0) :∃p:Nat,x.parent=(p:Int)∧p<f∧∃y,F[p]? = some y:=by
 rcases(hF.each _ _ hx).par with ⟨h,_⟩ | ⟨p,h1,h2⟩
 ·exact absurd h h0
 ·have:=(aK.1 hx).1
  exact⟨p,h1,h2,F[p],bX (by omega)⟩
theorem EM {n:jj} :∀(g:Nat) {F F':List dr} {f k:Nat},lO n g F f=some (F',k)→BP F→M6 F n.fn f→n.fn≠f→f<F.length→(∃y v,F[n.fn]? = some y∧y.vars[n.i]? = some v∧v.name=n.s∧v.cap=true) →
  ur F F'∧BP F'∧F'.length=F.length∧se F' n.s f k:=by
 intro g;induction g with
 | zero=>intro F F' f k h;cases h
 | succ g ih =>
  intro F F' f k h hF ha hne hf hv;obtain⟨x,hx⟩ :∃x,F[f]? = some x:=⟨_,bX hf⟩;rw[lO] at h;simp only[gA hx] at h;cases ha with
  | same=>exact absurd rfl hne
  | @up _ p x' sw hp ha =>
   rw[hx] at sw;injection sw with sw;subst sw;have h0:f≠0:=fun e=>by
    rcases(hF.each _ _ hx).par with ⟨_,h1⟩ | ⟨q,_,h2⟩
    ·omega
    ·omega
   obtain⟨q,hq,hlt,y,hy⟩:=hF.par hx h0;have hqp:q=p:=by omega
   subst hqp;rw[hq] at h;by_cases he:q=n.fn
   ·subst he
    rw[al rfl] at h;obtain⟨e1,e2,e3,x',sw,hu,Xr⟩:=AA h hx hF;obtain⟨y',v,hy',hv1,hv2,hv3⟩:=hv;obtain⟨y2,hy2,l2⟩:=e1.2 _ _ hy';obtain⟨v2,hv4,hv5,_,hv6⟩:=l2.vars _ _ hv1;exact⟨e1,e2,e3,.here sw hu (Xr.trans hq) hy2 hv4 (hv5.trans hv2) (hv6 hv3)⟩
   ·rw[af (by omega)] at h
    simp only[iz] at h;split at h
    ·cases h
    ·rename_i F1 k1 h1
     obtain⟨e1,e2,e3,l⟩:=ih h1 hF ha (fun e=>he e.symm) (by omega) hv
     obtain⟨x1,hx1,l1⟩:=e1.2 _ _ hx;obtain⟨g1,g2,g3,x2,hx2,hu,Xr⟩:=AA h hx1 e2;exact⟨e1.trans g1,g2,g3.trans e3,.up hx2 hu (Xr.trans (l1.parent.trans hq)) (l.ext g1)⟩
mutual
def Lt.gM:Lt→List Nat
 | .mk i _ ks=>i::Lt.bx ks
def Lt.bx:List Lt→List Nat
 | []=>[]
 | k::ks=>Lt.gM k++Lt.bx ks
end
mutual
def Lt.All (Q:Nat→Nd→Prop):Lt→Prop
 | .mk i h ks=>Q i h∧Lt.ed Q ks
def Lt.ed (Q:Nat→Nd→Prop):List Lt→Prop
 | []=>True
 | k::ks=>Lt.All Q k∧Lt.ed Q ks
end
mutual
theorem Lt.All.imp {Q Q':Nat→Nd→Prop} :∀(t:Lt),(∀i∈t.gM,∀h,Q i h→Q' i h)→Lt.All Q t→Lt.All Q' t
 | .mk i h ks,hi,ha=>by
  unfold Lt.All at ha ⊢;exact⟨hi i (by rw[Lt.gM];exact bV ..) h ha.1,Lt.ed.imp ks (fun j hj=>hi j (by rw[Lt.gM];exact bY _ hj)) ha.2⟩
theorem Lt.ed.imp {Q Q':Nat→Nd→Prop} :∀(ks:List Lt),(∀i∈Lt.bx ks,∀h,Q i h→Q' i h)→Lt.ed Q ks→Lt.ed Q' ks
 | [],_,_=>by unfold Lt.ed;trivial
 | k::ks,hi,ha=>by
  unfold Lt.ed at ha ⊢;exact⟨Lt.All.imp k (fun j hj=>hi j (by rw[Lt.bx];exact fU _ hj)) ha.1,Lt.ed.imp ks (fun j hj=>hi j (by rw[Lt.bx];exact iV _ hj)) ha.2⟩
end
def Kok (h:Nd) (ks:List Lt):Prop:=((h.kind=6∨h.kind=7∨h.kind=30∨h.kind=31)→ks=[])∧(h.kind=24→∃b t,ks=[b,t]∧b.hd.kind=18)
mutual
def Lt.Wf:Lt→Prop
 | .mk _ h ks=>Kok h ks∧Lt.yj ks
def Lt.yj:List Lt→Prop
 | []=>True
 | k::ks=>Lt.Wf k∧Lt.yj ks
end
theorem yk (t:Lt):t.loc∈t.gM:=by cases t with|mk i h ks=>rw[Lt.gM];exact bV ..
theorem qb :∀{ks:List Lt} {t:Lt},t∈ks→t.loc∈Lt.bx ks
 | k::ks,t,h=>by
  rw[Lt.bx];rcases bq.1 h with rfl|h
  ·exact fU _ (yk _)
  ·exact iV _ (qb h)
def e8.core (x:e8):e8:={ x with at_:=0}
def aF.fr (st:aF):List e8:=st.frames.map e8.core
theorem UG (st:aF) (n:Nat):(st.at n).fr=st.fr:=by
 unfold aF.at aF.fr;cases st.frames with
 | nil=>rfl
 | cons x l=>rfl
def Io (F:List dr) (f:Nat) (n:jj):Prop:=M6 F n.fn f∧∃y v,F[n.fn]? = some y∧y.vars[n.i]? = some v∧v.name=n.s
theorem Io.ext {F F':List dr} (h:ur F F') {f:Nat} {n:jj} (k:Io F f n):Io F' f n:=by
 obtain⟨a,y,v,h1,h2,h3⟩:=k;obtain⟨y',e1,l⟩:=h.2 _ _ h1;obtain⟨v',e2,e3,_⟩:=l.vars _ _ h2;exact⟨a.ext h,y',v',e1,e2,e3.trans h3⟩
structure Cx (f:Nat) (st:aF):Prop where
 ok:BP st.fns
 lt:f<st.fns.length
 names :∀n∈st.names,Io st.fns f n
def Y5 (st:aF) (s:ByteArray) (j:Nat):Prop:=∃f:Nat,st.of j=(f:Int)∧(st.uses j=(1,0)∨(∃k:Nat,st.uses j=(2,(k:Int))∧∃y v,st.fns[f]? = some y∧y.vars[k]? = some v∧v.name=s)∨∃k:Nat,st.uses j=(3,(k:Int))∧se st.fns s f k)
def Xs (V:List Nat) (fr:List e8) (st:aF) (j:Nat):Prop :=
 ∃f t:Nat,st.of j=(f:Int)∧st.uses j=(4,(t:Int))∧((t∈V∧st.of t=(f:Int))∨∃x∈fr,x.fn=f∧((x.loop=true∧t=x.node)∨(x.loop=false∧t∈x.kids.map Lt.loc)))
def sg (V:List Nat) (fr:List e8) (st:aF) (i:Nat) (h:Nd):Prop:=(h.kind=7→Y5 st h.s i)∧(h.kind=30∨h.kind=31→Xs V fr st i)
structure kt (L:List Nat) (f:Nat) (st st':aF):Prop where
 ext:ur st.fns st'.fns
 ok:BP st'.fns
 off :∀j,j∉L→st'.uses j=st.uses j∧st'.of j=st.of j
 names :∃a,st'.names=a++st.names∧∀n∈a,Io st'.fns f n
 new :∀(g:Nat) x,st.fns.length≤g→st'.fns[g]? = some x→x.node∈L∧st'.of x.node=x.parent
theorem kt.cx {L:List Nat} {f:Nat} {st st':aF} (h:kt L f st st') (c:Cx f st):Cx f st' :=
 ⟨h.ok,cL c.lt h.ext.1,fun n hn=>by
  obtain⟨a,e,ha⟩:=h.names;rw[e] at hn;rcases dj.1 hn with hn|hn
  ·exact ha n hn
  ·exact(c.names n hn).ext h.ext⟩
theorem kt.refl {f:Nat} {st:aF} (c:Cx f st):kt [] f st st:=⟨.refl _,c.ok,fun _ _=>⟨rfl,rfl⟩,⟨[],rfl,fun n hn=>by simp at hn⟩,fun g x h1 h2=>by have:=(aK.1 h2).1;omega⟩
theorem kt.more {L L':List Nat} {f:Nat} {st st':aF} (h:kt L f st st') (hL :∀j∈L,j∈L'):kt L' f st st' :=
 ⟨h.ext,h.ok,fun j hj=>h.off j fun e=>hj (hL j e),h.names,fun g x h1 h2=>⟨hL _ (h.new g x h1 h2).1,(h.new g x h1 h2).2⟩⟩
theorem kt.trans {A B:List Nat} {f:Nat} {a b c:aF} (h:kt A f a b) (k:kt B f b c) (hd :∀j∈A,j∉B):kt (A++B) f a c :=
 ⟨h.ext.trans k.ext,k.ok,fun j hj=>by
  rw[dj,not_or] at hj;exact⟨(k.off j hj.2).1.trans (h.off j hj.1).1,(k.off j hj.2).2.trans (h.off j hj.1).2⟩,by
  obtain⟨x,e1,h1⟩:=h.names;obtain⟨y,e2,h2⟩:=k.names;refine⟨y++x,by rw[e2,e1,fg],fun n hn=>?_⟩
  rcases dj.1 hn with hn|hn
  ·exact h2 n hn
  ·exact(h1 n hn).ext k.ext,fun g x h1 h2=>by
  by_cases hg:b.fns.length≤g
  ·exact⟨iV _ (k.new g x hg h2).1,(k.new g x hg h2).2⟩
  ·obtain⟨y,hy⟩ :∃y,b.fns[g]? = some y:=⟨_,bX (by omega)⟩
   obtain⟨x',sw,l⟩:=k.ext.2 g y hy;rw[h2] at sw;injection sw with sw;subst sw;obtain⟨m1,m2⟩:=h.new g y h1 hy;rw[←l.node] at m1 m2;exact⟨fU _ m1,by rw[(k.off _ (hd _ m1)).2,m2,l.parent]⟩⟩
theorem Y5.later {B:List Nat} {f:Nat} {b c:aF} {s:ByteArray} {j:Nat} (h:Y5 b s j) (k:kt B f b c) (hj:j∉B):Y5 c s j:=by
 obtain⟨g,h1,h2⟩:=h;obtain⟨e1,e2⟩:=k.off j hj;refine⟨g,by rw[e2];exact h1,?_⟩
 rw[e1];rcases h2 with h2 | ⟨n,h2,y,v,h3,h4,h5⟩ | ⟨n,h2,h3⟩
 ·exact .inl h2
 ·obtain⟨y',e3,l⟩:=k.ext.2 _ _ h3
  obtain⟨v',e4,e5,_⟩:=l.vars _ _ h4;exact .inr (.inl ⟨n,h2,y',v',e3,e4,e5.trans h5⟩)
 ·exact .inr (.inr ⟨n,h2,h3.ext k.ext⟩)
theorem Xs.later {B V:List Nat} {fr:List e8} {f:Nat} {b c:aF} {j:Nat} (h:Xs V fr b j) (k:kt B f b c) (hj:j∉B) (hV :∀t∈V,t∉B):Xs V fr c j:=by
 obtain⟨g,t,h1,h2,h3⟩:=h;obtain⟨e1,e2⟩:=k.off j hj;refine⟨g,t,by rw[e2];exact h1,by rw[e1];exact h2,?_⟩
 rcases h3 with ⟨h3,h4⟩|h3
 ·exact .inl ⟨h3,by rw[(k.off t (hV t h3)).2];exact h4⟩
 ·exact .inr h3
theorem sg.later {B V:List Nat} {fr:List e8} {f:Nat} {b c:aF} {j:Nat} {h:Nd} (q:sg V fr b j h) (k:kt B f b c) (hj:j∉B) (hV :∀t∈V,t∉B):sg V fr c j h :=
 ⟨fun e=>(q.1 e).later k hj,fun e=>(q.2 e).later k hj hV⟩
theorem sg.more {V V':List Nat} {fr:List e8} {b:aF} {j:Nat} {h:Nd} (q:sg V fr b j h) (hV :∀t∈V,t∈V'):sg V' fr b j h :=
 ⟨q.1,fun e=>by
  obtain⟨g,t,h1,h2,h3⟩:=q.2 e;exact⟨g,t,h1,h2,h3.imp (fun h=>⟨hV t h.1,h.2⟩) id⟩⟩
theorem sg.left {V:List Nat} {x:e8} {fr:List e8} {b:aF} {j:Nat} {h:Nd} (q:sg V (x::fr) b j h) (hx :∀t,((x.loop=true∧t=x.node)∨(x.loop=false∧t∈x.kids.map Lt.loc))→t∈V∧b.of t=(x.fn:Int)):sg V fr b j h :=
 ⟨q.1,fun e=>by
  obtain⟨g,t,h1,h2,h3⟩:=q.2 e;refine⟨g,t,h1,h2,?_⟩;rcases h3 with h3 | ⟨y,hy,h4,h5⟩
  ·exact .inl h3
  ·rcases bq.1 hy with rfl|hy
   ·obtain⟨k1,k2⟩:=hx t h5
    exact .inl ⟨k1,by rw[k2,h4]⟩
   ·exact .inr ⟨y,hy,h4,h5⟩⟩
theorem sg.same {V:List Nat} {fr:List e8} {b c:aF} {j:Nat} {h:Nd} (q:sg V fr b j h) (e1:c.fns=b.fns) (e2:c.uses=b.uses) (e3:c.of=b.of):sg V fr c j h:=by
 unfold sg Y5 Xs at *;rw[e1,e2,e3];exact q
theorem kt.back {L:List Nat} {f:Nat} {st st':aF} (h:kt L f st st'):kt L f st (st'.back st) :=
 ⟨h.ext,h.ok,h.off,⟨[],rfl,fun n hn=>by simp at hn⟩,h.new⟩
end Go.Proofs.YteflkdlaoiijbaaGreatDoor
