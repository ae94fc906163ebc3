/- Parts of the proof. -/
import Derived.StillTail
import Derived.Lib.IfaceEq
import Derived.Test.YteflkdlaoiijbaaGreatDoorK13
set_option maxHeartbeats 16000000
set_option maxRecDepth 20000
namespace Go.Proofs.YteflkdlaoiijbaaGreatDoor
open Go.RowKit
structure DW (T:List Nd) (B b:Nat) (nv:Value) (ub ob f:Nat) (pa:Option Addr) (lv:Value) (ms:List Nat) (L:List cS) (st:aH) (w:World) (a s:Nat):Prop where
 dB:wg w B nv T
 rs:jN w B b nv T.length st ub ob
 pos:oR w B f (.pointer pa) lv ms L st
 hd:HdF f L
 lt:f<st.fns.length
 few:dW st.fns
 fr :∀x∈st.frames,x.fn<st.fns.length
 names:st.names.length+a≤100000
 fns:st.fns.length+s≤100000
 fB:L.length+s≤100000
structure sT (T:List Nd) (B b:Nat) (nv:Value) (ub ob f:Nat) (pa:Option Addr) (lv:Value) (ms:List Nat) (L:List cS) (st:aH) (w:World) (a s:Nat):Prop where
 dB:wg w B nv T
 rs:jN w B b nv T.length st ub ob
 pos:oR w B f (.pointer pa) lv ms L st
 lt:f<st.fns.length
 few:dW st.fns
 fr :∀x∈st.frames,x.fn<st.fns.length
 names:st.names.length+a≤100000
 fns:st.fns.length+s≤100000
 fB:L.length+1+s≤100000
theorem DX {T:List Nd} {B b:Nat} {nv:Value} {ub ob f:Nat} {pa la:Option Addr} {lc:Nat} {ms:List Nat} {L:List cS} {st:aH} {w:World} {a s:Nat} (loop:Int) (h:sT T B b nv ub ob f pa (.slice la L.length lc) ms L st w a s) :
  Calls Tryz.prog 112 #[.agg #[.int .i64 (f:Int),.int .i64 loop,.pointer pa,.slice la L.length lc]] w fun e w'=>∃g c m,e=.returned (.agg #[.int .i64 (f:Int),.int .i64 loop,.pointer pa,.slice (some ⟨g,0,none⟩) (L.length+1) c])∧DW T B b nv ub ob f pa (.slice (some ⟨g,0,none⟩) (L.length+1) c) ms (⟨f,m,[]⟩::L) st w' a s∧w.heap.size≤m∧((Value.slice la L.length lc).ownBlock=some g∨w.heap.size≤g)∧cW B ob (.slice la L.length lc) L.length none w w':=by
 have cC:B≤w.heap.size:=by obtain⟨_,_,_,_,_,h,_⟩:=h.dB.nodes;exact h
 refine(xJ f loop pa la lc L w h.pos.fB (by have:=h.fB;omega) cC).mono ?_
 rintro e w' ⟨g,c,m,he,h1,h2,h3,h4,h5⟩;have hf:=h4 ob;refine⟨g,c,m,he,⟨h.dB.below hf.below,?_,⟨h1,h.pos.blk.jk hf (by simp),h.pos.names,?_⟩,?_,h.lt,h.few,h.fr,h.names,h.fns,?_⟩,h2,h3,hf⟩
 ·obtain⟨fv,FL,hw⟩:=h.rs
  exact⟨fv,FL,hw.fr h5 (by decide)⟩
 ·intro m' hm' l hl
  rcases bc.1 hl with rfl|hl
  ·have:=cz.lt h.pos.blk m' hm'
   show m'≠m
   omega
  ·exact h.pos.apart m' hm' l hl
 ·intro l r e
  injection e with e _;rw[←e]
 ·have:=h.fB
  rw[List.length_cons];omega
theorem sT.dp {T:List Nd} {B b:Nat} {nv:Value} {ub ob f:Nat} {pa:Option Addr} {lv:Value} {ms:List Nat} {L:List cS} {st:aH} {w w':World} {a s:Nat} (h:sT T B b nv ub ob f pa lv ms L st w a s) (hb:Below w.heap.size w w'):sT T B b nv ub ob f pa lv ms L st w' a s:=by
 have cC:B≤w.heap.size:=by obtain⟨_,_,_,_,_,h,_⟩:=h.dB.nodes;exact h
 have h2:cW B ob lv L.length none w w':=cW.bR hb cC;refine⟨h.dB.below h2.below,?_,⟨h.pos.fB.jk h2 (ah _),h.pos.blk.jk h2 (by simp),h.pos.names,h.pos.apart⟩,h.lt,h.few,h.fr,h.names,h.fns,h.fB⟩
 obtain⟨fv,FL,hw⟩:=h.rs;exact⟨fv,FL,hw.later hb⟩
theorem sT.levels {T:List Nd} {B b:Nat} {nv:Value} {ub ob f:Nat} {pa:Option Addr} {lv:Value} {ms:List Nat} {L:List cS} {st:aH} {w:World} {a s:Nat} (h:sT T B b nv ub ob f pa lv ms L st w a s) :∀l∈L,l.blk<w.heap.size:=fun l hl=>(h.pos.fB.maps l hl).1.lt
theorem DW.TH {T:List Nd} {B b:Nat} {nv:Value} {ub ob f:Nat} {pa:Option Addr} {lv:Value} {ms:List Nat} {L:List cS} {st:aH} {w w':World} {a s:Nat} (h:DW T B b nv ub ob f pa lv ms L st w a s) (k:Fr [92] w w') (hb:Below B w w'):DW T B b nv ub ob f pa lv ms L st w' a s:=by
 refine⟨h.dB.below hb,?_,⟨h.pos.fB.fr k (by decide),cz.fr k (by decide) h.pos.blk,h.pos.names,h.pos.apart⟩,h.hd,h.lt,h.few,h.fr,h.names,h.fns,h.fB⟩
 obtain⟨fv,FL,hw⟩:=h.rs;exact⟨fv,FL,hw.fr k (by decide)⟩
theorem DW.step {T:List Nd} {B b:Nat} {nv:Value} {ub ob f:Nat} {pa:Option Addr} {lv:Value} {ms:List Nat} {L:List cS} {st st':aH} {w w':World} {a s a1 s1:Nat} {e:Ending} (h:DW T B b nv ub ob f pa lv ms L st w (a1+a) (s1+s)) (wP:Mk a1 s1 st st') (qV:Cx f st') (hf:st'.frames=st.frames) (hp:aq B b nv T.length ub ob lv L st (.ok st') w e w') :
  e=.returned .nilIface∧∃x,st'.names=x++st.names∧(L=[]→x=[])∧eF T B b nv ub ob f pa lv ms (grow x L) st' w' a s∧cW B ob lv L.length (eE L) w w':=by
 obtain⟨hb,rfl,Qc,ou,x,hx1,hx2,hx3⟩:=hp;refine⟨rfl,x,hx1,hx2,⟨h.dB.below hb,Qc,h.pos.on ou hx3 hx1 hx2 hf,h.hd.grow x,qV,wP.few,fun y hy=>?_,?_,?_,?_⟩,ou⟩
 ·rw[hf] at hy
  exact cJ (h.fr y hy) wP.least
 ·have:=wP.names;have:=h.names;omega
 ·have:=wP.fns;have:=h.fns;omega
 ·rw[cF];have:=h.fB;omega
theorem Jj {T:List Nd} {B b:Nat} {nv:Value} {ub ob:Nat} (i f:Nat) (h:Nd) (rest:List Lt) (loop:Int) (pa la:Option Addr) (lc:Nat) (ms:List Nat) (L:List cS) (st:aH) (w:World) (hr:sT T B b nv ub ob f pa (.slice la L.length lc) ms L st w (h.names.length+Lt.eD rest) (Lt.ak rest)) (hx:T[i]? = some h) (hk:h.kids=rest.map fun k=>(k.loc:Int)) (BM:rest≠[]) (uH:dX T rest) (hV2 :∀k∈rest,bM T B b nv ub ob k)
  (hl :∀k∈rest,18≤k.hd.kind→loop=bP f st.frames) (hsz :∀s∈h.names,s.size≤65536) (qV :∀s2,bF i f h.line h.names st=.ok s2→Cx f s2) (hd:gJ h.kind h.kids.length=(true,0,true)) :
  Calls Tryz.prog 55 #[.pointer (some ⟨b,0,none⟩),.int .i64 (i:Int),.agg #[.int .i64 (f:Int),.int .i64 loop,.pointer pa,.slice la L.length lc]] w (aq B b nv T.length ub ob (.slice la L.length lc) L st (((bF i f h.line h.names st).bind fun s2=>aI rest f s2).map fun s=>s.back st) w):=by
 obtain⟨bk,o,c,rfl,bN,cC,cL⟩:=hr.dB.nodes;obtain⟨pL,pM,dM,⟨NA,nc,kI,_⟩,fE⟩:=cL i h hx;have tm:h.kids.length≤20000:=(hr.dB.small h (aL hx)).1;have fX:h.kids.length=rest.length:=by rw[hk,cy]
 have hr1:1≤rest.length:=wu.2 BM;obtain⟨KA,kc,jx,qe,kt⟩:=id fE;subst kI jx;obtain⟨sb,so,rfl⟩ :∃sb so,KA=some ⟨sb,so,none⟩:=by
  rcases kt with h0 | ⟨sb,so,h1,_⟩
  ·rw[h0] at fX;simp at fX;omega
  ·exact⟨sb,so,h1⟩
 obtain⟨x0,x1,x2,x3,x4,x5,x6⟩:=dM;have y9:i<T.length:=(aJ.1 hx).1;have qY:=hr.dB.few;have hbl:b<w.heap.size:=by obtain⟨_,_,hw⟩:=hr.rs;exact hw.gR.1
 have d0:w.cell? ⟨b,0,none⟩=some (.slice (some ⟨bk,o,none⟩) T.length c):=by obtain⟨_,_,hw⟩:=hr.rs;exact ab hw.blk 0
 have iR:bk<w.heap.size:=by omega
 have HD:=aa (gK h.kind h.line h.op h.num h.s NA (some ⟨sb,so,none⟩) h.names.length nc h.kids.length kc);have BN:gH w B (.slice (some ⟨sb,so,none⟩) h.kids.length kc) (rest.map fun k=>(k.loc:Int)):=by
  rw[←hk];exact fE
 have HR:=aa hr;have Ri:=aa uH;have HV2:=aa hV2;have Pb:=aa BN;have TG:=aa hd;have HK:=aa hk;have ny:=aa hr1;have qF:=aa hsz;have HX:=aa hx;have qR:=aa fX;have HL:=aa hl;have Ym:=aa qV;clear qV hr1 fX hr hl fE BN hd cL hk uH hV2 kt hsz hx BM;go_enter Tryz.func55,Tryz.ntmps55
 go_wp2_with fail
 refine(HD.out _ (by omega)).mono ?_
 rw[TG.out];rintro e w1 ⟨rfl,hb1⟩;have dL:=aa hb1;clear hb1;go_wp2_with fail
 have zf:=ly rfl dL.out (.bool true) (.int .i64 0) (.bool true);have qP:=aa zf.2;have oS:=aa zf.1;clear zf;clear d0 x0 x1 x2 x3 x4 x5 x6;generalize w1.alloc (.cells #[.bool true,.int .i64 0,.bool true] 189)=W2 at qP oS ⊢;generalize w1.heap.size=q at qP ⊢;generalize w.heap.size+1=p at qP ⊢;obtain⟨k0,k1,k2,k3,k4,k5,k6,k7,k8⟩:=qP.out.cells;go_still_tail 7,(by kernel_rfl)
 change wpList _ _ _ _ _ W2.drew;have D2:=aa (show Below W2.heap.size W2 W2.drew from(Below.refl _ _).drew)
 generalize W2.drew=W3 at D2 ⊢;go_wp2_with fail
 refine(all_nil b f loop pa la (some ⟨sb,so,none⟩) L.length lc kc W3).mono ?_;rintro e w4 ⟨rfl,hb4⟩;have Cq:=D2.out.trans (hb4.mono D2.out.size);have tb:=oS.out.trans (Cq.mono oS.out.size);have P5:=aa (qP.out.later Cq);have OZ:Hid (cW B ob (.slice la L.length lc) L.length (eE L) w w4):=aa (cW.bR tb cC);have hz:=HR.out.dp tb;have HZ:=aa hz;have ZE:=aa (DX loop hz);have ac9:=tb.size;clear hb4 Cq tb hz k0 k1 k2 k3 k4 k5 k6 k7 k8;obtain⟨k0,k1,k2,k3,k4,k5,k6,k7,k8⟩:=P5.out.cells;go_wp2_with fail
 refine ZE.out.mono ?_;rintro e w6 ⟨g,c6,m,rfl,Ox,hm,hg,Qd⟩;have P6:=aa (P5.out.jk Qd);have y0:=av P6.out.pos 0;have y1:=av P6.out.pos 1;have y2:=av P6.out.pos 2;have y3:=av P6.out.pos 3;have HR6:=aa Ox;have HM:=aa hm;have HG:=aa hg;have Oy:=aa Qd;clear Ox hm hg Qd k0 k1 k2 k3 k4 k5 k6 k7 k8;obtain⟨k0,k1,k2,k3,k4,k5,k6,k7,k8⟩:=P6.out.cells;obtain⟨W7,wi⟩ :∃W7,W7=four w6 w.heap.size (.int .i64 (f:Int)) (.int .i64 loop) (.pointer pa) (.slice (some ⟨g,0,none⟩) (L.length+1) c6):=⟨_,rfl⟩;have P7:Hid (fg w W7 p q f loop pa (.slice (some ⟨g,0,none⟩) (L.length+1) c6) (.slice (some ⟨sb,so,none⟩) h.kids.length kc) (.slice NA h.names.length nc) (.bool true) (.int .i64 0) (.bool true)):=aa (by rw[wi];exact P6.out.four _ _ _)
 have kn:vP w6 w.heap.size 92:=⟨_,_,P6.out.pos⟩;have F7:Hid (Fr [92] w6 W7):=aa (by rw[wi];exact vB kn _ _ _ _)
 have B7:Hid (Below B w6 W7):=aa (by rw[wi];exact pG w6 cC _ _ _ _)
 have K7:Hid (∀k,k≠w.heap.size→W7.heap[k]? = w6.heap[k]?):=aa (by rw[wi];exact fun k hk=>nQ w6 _ _ _ _ _ k hk)
 unfold four at wi;have HW7:=aa wi;clear wi kn;have Zi:p≠w.heap.size:=by have:=P5.out.pne;omega
 have ZF:q≠w.heap.size:=by have:=P5.out.qne;omega
 go_wp2_with fail
 rw[←HW7.out];have HZ0:=HZ.out;have hlt :∀l∈L,l.blk≠m:=fun l hl=>by have:=HZ.out.levels l hl;have:=HM.out;omega
 have BO:=HR6.out.TH F7.out B7.out;have Vc:cW B ob (.slice la L.length lc) L.length (eE L) w W7:=(OZ.out.trans (Oy.out.Fu _)).past B7.out fun k hk=>K7.out k (by omega)
 have hLV:dk W7 B (.slice la L.length lc) L:=((HZ.out.pos.fB).jk Oy.out (ah _)).fr F7.out (by decide)
 have Vh:(Value.slice la L.length lc).ownBlock=some g∨w.heap.size≤g:=HG.out.imp id fun h=>by omega
 have Vi:w.heap.size≤m:=by have:=HM.out;omega
 have Jf:=aa BO;have YE:=aa Vc;have Vj:=aa hLV;have HOW:=aa Vh;have Vk:=aa Vi;have mD:=aa hlt;have hdec:Calls Tryz.prog 113 #[.pointer (some ⟨b,0,none⟩),.int .i64 (i:Int),.agg #[.int .i64 (f:Int),.int .i64 loop,.pointer pa,.slice (some ⟨g,0,none⟩) (L.length+1) c6]] W7 (aq B b (.slice (some ⟨bk,o,none⟩) T.length c) T.length ub ob (.slice (some ⟨g,0,none⟩) (L.length+1) c6) (⟨f,m,[]⟩::L) st (bF i f h.line h.names st) W7) :=
  km b i f h loop pa (some ⟨g,0,none⟩) c6 ⟨f,m,[]⟩ L st W7 BO.dB BO.rs HX.out BO.lt BO.pos.fB rfl (by have:=BO.fB;omega) BO.few (by simp) qF.out
 clear BO Vc hLV Vh Vi hlt HZ0 k0 k1 k2 k3 k4 k5 k6 k7 k8 y0 y1 y2 y3;refine hdec.mono ?_;intro e w8 hp;clear hdec;cases jO:bF i f h.line h.names st with
 | error y =>
  rw[jO] at hp;have HP:=aa hp;obtain⟨_,v,rfl,g2,rfl,_⟩:=hp;have HE:Hid ((((bF i f h.line h.names st).bind fun s2=>aI rest f s2).map fun s=>s.back st)=.error y):=aa (by  rw[jO];rfl)
  clear jO;go_wp2_with fail
  go_ret
  rw[HE.out];exact(aq.inner (st:=st) YE.out Vj.out mD.out HOW.out Vk.out HP.out)
 | ok s2 =>
  rw[jO] at hp;have vA:=vk jO;obtain⟨rfl,x,hx1,hx2,TJ,TK⟩:=DW.step (a1:=h.names.length) (s1:=0) (by rw[jY];exact Jf.out) (jK jO Jf.out.few) (Ym.out s2 jO) vA hp
  have P9:=aa (P7.out.jk TK);have HC:Hid (∀W,Below w8.heap.size w8 W→Calls Tryz.prog 111 #[.pointer (some ⟨b,0,none⟩),.slice (some ⟨sb,so,none⟩) h.kids.length kc,.agg #[.int .i64 (f:Int),.int .i64 loop,.pointer pa,.slice (some ⟨g,0,none⟩) (L.length+1) c6]] W (aq B b (.slice (some ⟨bk,o,none⟩) T.length c) T.length ub ob (.slice (some ⟨g,0,none⟩) (L.length+1) c6) (grow x (⟨f,m,[]⟩::L)) s2 (aI rest f s2) w8)):=aa fun W hW =>
   (DT f loop pa (some ⟨g,0,none⟩) c6 ms (⟨f,m,[]⟩::L) x s2 W (.slice (some ⟨sb,so,none⟩) h.kids.length kc) rest (TJ.dp hW) Ri.out HV2.out (Pb.out.below ((YE.out.below.trans TK.below).trans (hW.mono TJ.world))) (fun k hk mi=>(HL.out k hk mi).trans (tL vA).symm) (fun k _=>.inl (by simp)) (by have:=qR.out;omega)).mono fun e w' h=>h.from hW TJ.world
  have Yf:=aa TK;have OX:=aa hx1;have HE:Hid ((((bF i f h.line h.names st).bind fun s2=>aI rest f s2).map fun s=>s.back st)=(aI rest f s2).map fun s=>s.back st):=aa (by  rw[jO];rfl)
  clear hp TJ TK vA hx1 hx2 jO;obtain⟨k0,k1,k2,k3,k4,k5,k6,k7,k8⟩:=P9.out.cells;go_wp2_with fail
  go_still_tail 7,(by kernel_rfl)
  change wpList _ _ _ _ _ w8.drew;have Vf:=aa (HC.out w8.drew (Below.refl _ _).drew);generalize w8.drew=W9 at Vf ⊢;go_wp2_with fail
  refine Vf.out.mono ?_;intro e w10 hp;obtain⟨v,rfl⟩:=hp.ret;have HP:=aa hp;clear hp;go_wp2_with fail
  go_ret
  rw[HE.out];exact(aq.inner (st:=st) YE.out Vj.out mD.out HOW.out Vk.out (aq.trans (L:=⟨f,m,[]⟩::L) (st1:=s2) (x:=x) Yf.out.below Yf.out OX.out (fun e=>by cases e) HP.out))
theorem xN {f:Nat} :∀{fr:List fF},(∀x∈fr,x.fn<f)→dH f fr=[]
 | [],_=>rfl
 | x::fr,h=>by
  rw[rR (.inr (ju (h x (bT ..))))];exact xN fun y hy=>h y (cr _ hy)
theorem Jk {f:Nat} {fr:List fF} (h :∀x∈fr,x.fn<f):bP f fr = -1:=by
 unfold bP;have:fr.find? (fun x=>x.loop && decide (x.fn=f))=none:=by
  rw[Ec];intro x hx;have:=h x hx;simp;intro _;omega
 rw[this]
theorem Pq {T:List Nd} {B b:Nat} {nv:Value} {ub ob:Nat} (gO :∀x∈T,x.s.size≤65536∧∀s∈x.names,s.size≤65536) (i:Nat) (h:Nd) (ks:List Lt) (hn:lx T (.mk i h ks)) (iE :∀u:Lt,u.size<Lt.ak ks+1→lx T u→bM T B b nv ub ob u) (hk:h.kind=11):bM T B b nv ub ob (.mk i h ks):=by
 intro f loop pa la lc ms L st w hr bg bG;show Calls Tryz.prog 26 #[.pointer (some ⟨b,0,none⟩),.int .i64 (i:Int),.agg #[.int .i64 (f:Int),.int .i64 loop,.pointer pa,.slice la L.length lc]] w (aq B b nv T.length ub ob (.slice la L.length lc) L st (bo (.mk i h ks) f st) w)
 have fL:=hn.sub;have fD:=hn.vQ;unfold Lt.In at fD;obtain⟨hx,bw,_⟩:=fD;replace hr:eF T B b nv ub ob f pa (.slice la L.length lc) ms L st w (h.names.length+Lt.eD ks) (Lt.ak ks+1):=by have h1:=hr;rw[Lt.wt,Lt.size] at h1;exact h1
 replace bg:18≤h.kind→loop=bP f st.frames:=bg;replace bG:L≠[]∨h.kind=18:=bG;obtain⟨bh,bj,bn⟩:=fL;replace bh:dX T ks:=bh;replace bj:h.kind≠18→∀k∈ks,Still k:=bj;replace bn:hH h.kind h.num (jd ks):=bn;have kJ:=gO h (aL hx);obtain⟨bk,o,c,rfl,bN,cC,cL⟩:=hr.dB.nodes;obtain⟨pL,pM,dM,⟨NA,nc,kI,_⟩,⟨KA,kc,jx,qe,kt⟩⟩:=cL i h hx;have tm:h.kids.length≤20000:=(hr.dB.small h (aL hx)).1;have fX:h.kids.length=ks.length:=by rw[bw,cy]
 subst kI jx;obtain⟨x0,x1,x2,x3,x4,x5,x6⟩:=dM;have y9:i<T.length:=(aJ.1 hx).1;have qY:=hr.dB.few;obtain⟨fv,FL,hw⟩:=id hr.rs;obtain⟨hbl,pE,uq⟩:=hw.gR;have d0:w.cell? ⟨b,0,none⟩=some (.slice (some ⟨bk,o,none⟩) T.length c):=ab hw.blk 0;have d3:w.cell? ⟨b,3,none⟩=some (.slice (some ⟨ob,0,none⟩) T.length T.length):=ab hw.blk 3;obtain⟨u0,v0⟩:=bA hw.mC (j:=i) (by omega)
 have iR:bk<w.heap.size:=by omega
 have HR:=aa hr;have HN:=aa hn;have tJ:=aa iE;have iS:=aa bg;have kG:=aa bG;have eM:=aa bh;have sH:=aa bj;have oh:=aa bn;have fP:=aa bw;have qR:=aa fX;have HX:=aa hx;have zh:=aa kJ;have CU:=aa kt;clear hr hn iE bg bG bh bj bn bw fX hx kJ cL hw gO kt;have q6:(h.kind == 6)=false:=by rw[hk];rfl
 have q7:(h.kind == 7)=false:=by rw[hk];rfl
 have yG:(h.kind == 11)=true:=by rw[hk];rfl
 have bV:=aa hk;clear hk;go_enter Tryz.func26,Tryz.ntmps26
 go_wp2_with fail
 go_region
 have aU:=HR.out.ir i (.cells #[.int .i64 (f:Int),.int .i64 loop,.pointer pa,.slice la L.length lc] 92);have db:=heap_alloc_new (w.setCell ⟨ob,i,none⟩ (.int .i64 (f:Int))) (.cells #[.int .i64 (f:Int),.int .i64 loop,.pointer pa,.slice la L.length lc] 92);obtain⟨W1,hW1⟩ :∃W1,W1=((w.setCell ⟨ob,i,none⟩ (.int .i64 (f:Int))).alloc (.cells #[.int .i64 (f:Int),.int .i64 loop,.pointer pa,.slice la L.length lc] 92)).drew:=⟨_,rfl⟩;rw[←hW1] at aU;have bY:W1.heap[w.heap.size]? = some (.cells #[.int .i64 (f:Int),.int .i64 loop,.pointer pa,.slice la L.length lc] 92 (0,0)):=by
  rw[hW1];have e:(w.setCell ⟨ob,i,none⟩ (.int .i64 (f:Int))).heap.size=w.heap.size:=by simp[World.setCell]
  rw[e] at db;exact db
 rw[←hW1];have x0:=(aU.2.1.below.cell (p:=⟨bk,o+i*7,none⟩) bN).trans x0;have x1:=(aU.2.1.below.cell (p:=⟨bk,o+i*7+1,none⟩) bN).trans x1;have x2:=(aU.2.1.below.cell (p:=⟨bk,o+i*7+2,none⟩) bN).trans x2;have x3:=(aU.2.1.below.cell (p:=⟨bk,o+i*7+3,none⟩) bN).trans x3;have x4:=(aU.2.1.below.cell (p:=⟨bk,o+i*7+4,none⟩) bN).trans x4;have x5:=(aU.2.1.below.cell (p:=⟨bk,o+i*7+5,none⟩) bN).trans x5;have x6:=(aU.2.1.below.cell (p:=⟨bk,o+i*7+6,none⟩) bN).trans x6;clear hW1 db d0 d3 u0 v0;have d0:W1.cell? ⟨b,0,none⟩=some (.slice (some ⟨bk,o,none⟩) T.length c):=by obtain⟨_,_,hw⟩:=aU.1.rs;exact ab hw.blk 0
 have tn:b<W1.heap.size:=by obtain⟨_,_,hw⟩:=aU.1.rs;exact hw.gR.1
 have oC:w.heap.size<W1.heap.size:=(aF.1 bY).1;have tp:bk<W1.heap.size:=by omega
 have k0:W1.cell? ⟨w.heap.size,0,none⟩=some (.int .i64 (f:Int)):=ab bY 0;have k1:W1.cell? ⟨w.heap.size,1,none⟩=some (.int .i64 loop):=ab bY 1;have k2:W1.cell? ⟨w.heap.size,2,none⟩=some (.pointer pa):=ab bY 2;have k3:W1.cell? ⟨w.heap.size,3,none⟩=some (.slice la L.length lc):=ab bY 3;have HZ:=aa aU.1;have fA:=aa aU.2.1;have pH:=aa aU.2.2;have AF:=aa bY;clear aU bY;have gn:(h.num == 1)=decide (h.num=1):=rfl;go_wp2_with fail
 obtain⟨W3,hW3⟩ :∃W3,W3=(W1.alloc (.cells #[.int .i64 h.kind,.int .i64 h.line,.int .i64 h.op,.int .i64 h.num,.string h.s,.slice NA h.names.length nc,.slice KA h.kids.length kc] 55)).alloc (.cells #[.int .i64 (i:Int),.int .i64 (f:Int),.int .i64 (h.names.length:Int),.bool (decide (h.num=1)),.slice none 0 0,.slice none 0 0] 52):=⟨_,rfl⟩;have di:Below W1.heap.size W1 W3:=by rw[hW3];exact Below.two _ _
 rw[←hW3];clear hW3;have hr3:=HZ.out.dp di;have hf3:cW B ob (.slice la L.length lc) L.length (eE L) w W3:=fA.out.trans (cW.bR di HZ.out.world);have tq :∀k∈ks,bM T B b (.slice (some ⟨bk,o,none⟩) T.length c) ub ob k:=fun k hk=>tJ.out k (by have:=fh hk;omega) (eM.out.at_ k hk)
 refine(xH b ⟨i,(f:Int),h.names.length,decide (h.num=1),[],[]⟩ la L.length lc (st.setOf i f) W3 hr3.rs rfl rfl (by have:=hr3.fns;omega)).mono ?_
 rintro e w5 ⟨rfl,h1,h2,h3⟩;have hfa :∀top,cW B ob (.slice la L.length lc) L.length top W3 w5:=fun top=>cW.vi h3 (by decide) h2
 have h1:jN w5 B b (.slice (some ⟨bk,o,none⟩) T.length c) T.length (jI i f h (st.setOf i f)) ub ob:=h1;have JH:ks≠[]:=by
  have:=oh.out.body (.inl bV.out);intro e;rw[e] at this;cases this
 have FK:sT T B b (.slice (some ⟨bk,o,none⟩) T.length c) ub ob (st.setOf i f).fns.length none (.slice la L.length lc) [] L (jI i f h (st.setOf i f)) w5 (h.names.length+Lt.eD ks) (Lt.ak ks):=by
  have hlen:(jI i f h (st.setOf i f)).fns.length=(st.setOf i f).fns.length+1:=by unfold jI;simp
  refine⟨hr3.dB.below h2,h1,⟨hr3.pos.fB.jk (hfa none) (ah _),?_,hr3.pos.names,fun m hm=>by cases hm⟩,by omega,hr3.few.app ⟨bB _,bB _⟩,fun x hx=>?_,hr3.names,?_,?_⟩
  ·show oQ w5 B (dH (st.setOf i f).fns.length (st.setOf i f).frames) [] _
   rw[xN hr3.fr];exact⟨rfl,rfl⟩
  ·have:=hr3.fr x hx
   omega
  ·have:=hr3.fns;omega
  ·have:=hr3.fB;omega
 have sJ:=aa (Jj i (st.setOf i f).fns.length h ks (-1) none la lc [] L (jI i f h (st.setOf i f)) w5 FK HX.out fP.out JH eM.out tq (fun k hk mi=>(Jk (fr:=(st.setOf i f).frames) hr3.fr).symm) zh.out.2 (fun s2 e=>(xq e hr3.cx).1) (by
  unfold gJ;rw[af (by have:=bV.out;omega),al bV.out]))
 have lO:=aa (hf3.trans (hfa (eE L)));clear hr3 hf3 tq h1 h2 h3 hfa FK JH;go_wp2_with fail
 refine sJ.out.mono ?_;intro e w6 hp;obtain⟨v,rfl⟩:=hp.ret;have HV:=aa hp;clear hp;go_wp2_with fail
 go_ret
 have hE:bo (.mk i h ks) f st=((bF i (st.setOf i f).fns.length h.line h.names (jI i f h (st.setOf i f))).bind fun s2=>aI ks (st.setOf i f).fns.length s2).map fun s=>s.back (jI i f h (st.setOf i f)):=by
  rw[cV];rw[af (by have:=bV.out;omega)]
  rw[af (by have:=bV.out;omega)]
  rw[al bV.out];cases bF i (st.setOf i f).fns.length h.line h.names (jI i f h (st.setOf i f)) with
  | error y=>rfl
  | ok s1=>rfl
 rw[hE];exact aq.after lO.out rfl HV.out
def Vr (T:List Nd) (B b:Nat) (nv:Value) (ub ob:Nat):Prop:=∀(i:Nat) (h:Nd) (ks:List Lt),lx T (.mk i h ks)→(∀u:Lt,u.size<Lt.ak ks+1→lx T u→bM T B b nv ub ob u)→h.kind=24→bM T B b nv ub ob (.mk i h ks)
theorem xO {T:List Nd} {B b:Nat} {nv:Value} {ub ob:Nat} (gO :∀x∈T,x.s.size≤65536∧∀s∈x.names,s.size≤65536) (Nr:Vr T B b nv ub ob) :∀(n:Nat) (t:Lt),t.size≤n→lx T t→bM T B b nv ub ob t
 | 0,t,hs,_=>by rw[Bb] at hs;omega
 | n+1,.mk i h ks,hs,hn=>by
  have iE :∀u:Lt,u.size<Lt.ak ks+1→lx T u→bM T B b nv ub ob u:=fun u hu yA=>xO gO Nr n u (by rw[Lt.size] at hs;omega) yA
  have hk:1≤h.kind∧h.kind≤32:=hn.kind;by_cases h6:h.kind=6
  ·exact TO gO i h ks hn iE h6
  by_cases h7:h.kind=7
  ·exact TP gO i h ks hn iE h7
  by_cases h11:h.kind=11
  ·exact Pq gO i h ks hn iE h11
  by_cases mi:h.kind=18
  ·exact Pm gO i h ks hn iE mi
  by_cases Lr:h.kind=19
  ·exact Pj gO i h ks hn iE Lr
  by_cases PU:h.kind=23
  ·exact Pn gO i h ks hn iE PU
  by_cases abj:h.kind=24
  ·exact Nr i h ks hn iE abj
  by_cases PV:h.kind=26
  ·exact Po gO i h ks hn iE PV
  by_cases h27:h.kind=27
  ·exact Pp gO i h ks hn iE h27
  by_cases PW:h.kind=28
  ·exact Pk gO i h ks hn iE PW
  by_cases Fi:h.kind=30
  ·exact Pf gO i h ks hn iE Fi
  by_cases Fj:h.kind=31
  ·exact Pg gO i h ks hn iE Fj
  ·exact DV gO i h ks hn iE ⟨h6,h7,h11,mi,Lr,PU,abj,PV,h27,PW,Fi,Fj⟩
end Go.Proofs.YteflkdlaoiijbaaGreatDoor
namespace Go.Proofs.YteflkdlaoiijbaaGreatDoor
section
variable {P:Program} {ops:Array Oper} {Q:Exit→Act→World→Prop} {md:Region.Mode} {S:World→Prop} {n:Nat}
def cj (P:Program) (md:Region.Mode) (ops:Array Oper) (Q:Exit→Act→World→Prop) (S:World→Prop) (n:Nat):Nat→Array Bool→Act→World→Prop
 | 0,listed,a,w=>Region.ready md ops listed=[]∧Q .normal a w
 | g+1,listed,a,w=>(Region.ready md ops listed=[]→Q .normal a w) ∧
  ∀i∈Region.ready md ops listed,wpOp P ops Q i (fun a' w'=>(i<n→S w')∧cj P md ops Q S n g (listed.setIfInBounds i true) a' w') a w
theorem cj.any :∀(g:Nat) (listed:Array Bool) (a:Act) (w:World),cj P md ops Q S n g listed a w→wpAny P md ops Q g listed a w
 | 0,_,_,_,h=>h
 | g+1,_,_,_,h=>⟨h.1,fun i hi=>wpOp_mono (fun _ _ k=>cj.any g _ _ _ k.2) (h.2 i hi)⟩
def FN (md:Region.Mode) (ops:Array Oper) (n:Nat):Bool:=Region.noSelect ops && decide (n<ops.size) && Region.sinkB md ops n && Region.chainB md ops n
def FQ (md:Region.Mode) (ops:Array Oper) (n:Nat) (listed:Array Bool):Bool :=
 listed.size == ops.size && (List.range ops.size).all (fun j=>match ops[j]? with
  | some o=>!listed.getD j false || o.after.all fun e=>!Region.binds md e || listed.getD e.on false
  | none=>true) && (List.range ops.size).all fun t=>decide (t<n) || !listed.getD t true
theorem Jl {listed:Array Bool} (h:FQ md ops n listed=true):HeadInv md ops n listed:=by
 unfold FQ at h;simp only[dj,wD] at h;obtain⟨⟨h1,h2⟩,h3⟩:=h;refine⟨h1,fun j o hj hl e he hb=>?_,fun t ht U6=>?_⟩
 ·have hjl:=(aF.1 hj).1
  have h4:=List.all_eq_true.1 h2 j (sr.2 hjl);rw[hj] at h4;simp only[hl,Bool.not_true,Bool.false_or] at h4;have h5:=Array.all_eq_true'.1 h4 e he;rw[hb] at h5;simpa using h5
 ·have h4:=List.all_eq_true.1 h3 t (sr.2 U6)
  rw[bU (by omega)] at h4
  simpa using h4
theorem cj.first {i:Nat} {oi:Oper} {v:Value} (hi:ops[i]? = some oi) (ht:FN md ops n=true) (fD:i<n)
  (hQ :∀c a w,Q (.panic c) (a.put oi.dst v) w→Q (.panic c) a w) :
  ∀(g:Nat) (listed:Array Bool) (a:Act) (w:World),HeadInv md ops n listed →
   (∀j oj,ops[j]? = some oj→j≠i→listed.getD j true=false→(∀e∈oj.after,Region.binds md e=true→e.on≠i)→oi.apart ops oj=true) →
   i∈Region.ready md ops listed→YieldsIf P ops S oi v a→S w →
   cj P md ops Q S n g (listed.setIfInBounds i true) (a.put oi.dst v) w→cj P md ops Q S n (g+1) listed a w:=by
 have U6:=ht;unfold FN at U6;simp only[dj,iH] at U6;obtain⟨⟨⟨adb,jl⟩,hsk⟩,hch⟩:=U6;have sel:=Region.noSelect_spec adb;intro g;induction g with
 | zero =>
  intro listed a w inv _ hr hy hS H;refine⟨fun h=>(by rw[h] at hr;cases hr),fun j hj=>?_⟩
  by_cases Vs:j=i
  ·subst Vs;exact hy.wpOp hi hS ⟨fun _=>hS,H⟩
  ·have h1:=ready_mono hj Vs
   rw[H.1] at h1;cases h1
 | succ g ih =>
  intro listed a w inv Vt hr hy hS H;have hun:=(mem_ready.1 hr).1;refine⟨fun h=>(by rw[h] at hr;cases hr),fun j hj=>?_⟩
  by_cases Vs:j=i
  ·subst Vs;exact hy.wpOp hi hS ⟨fun _=>hS,H⟩
  ·have hjn:j<n:=by
    rcases Em j n with h|h
    ·exact h
    ·exact absurd hj (tail_waits hsk hch jl inv _ i rfl fD hun j h)
   obtain⟨abk,oj,hoj,hall⟩:=mem_ready.1 hj;have ade :∀e∈oj.after,Region.binds md e=true→e.on≠i:=fun e he hb heq=>by
    have h1:=hall e he hb;rw[heq,getD_both hun] at h1;cases h1
   refine wpOp_mono (fun a' w' k=>⟨fun _=>k.2.1 hjn,ih _ a' w' (inv.set hj hjn) (fun x ox hx Yu hxu hno=>Vt x ox hx Yu ?_ hno) (ready_mono hr (Ne.symm Vs)) k.1 (k.2.1 hjn) ?_⟩)
    (wpOp_putIf hoj (Vt j oj hoj Vs abk ade) (fun cs b=>sel i oi cs b hi) (fun cs b=>sel j oj cs b hoj) hQ hy (H.2 j (ready_mono hj Vs)))
   ·by_cases hjx:j=x
    ·subst hjx;exact abk
    ·rw[getD_set_ne true hjx] at hxu;exact hxu
   ·rw[Array.setIfInBounds_comm _ _ Vs]
    exact k.2.2
theorem cj.take {i:Nat} {oi:Oper} {v:Value} {g:Nat} {listed:Array Bool} {a:Act} {w:World} (hi:ops[i]? = some oi) (ht:FN md ops n=true) (fD:i<n)
  (hh:FQ md ops n listed=true) (hf:Region.free md ops listed i=true) (hr:(Region.ready md ops listed).contains i=true)
  (hQ :∀c a w,Q (.panic c) (a.put oi.dst v) w→Q (.panic c) a w) (hw:Region.wanted oi (yielded ops a.tmps)=true) (hy :∀w,S w→(execOp a.eval oi).run P w=.ok (.value v) w) (hS:S w)
  (h:cj P md ops Q S n g (listed.setIfInBounds i true) (a.put oi.dst v) w):cj P md ops Q S n (g+1) listed a w :=
 cj.first hi ht fD hQ g listed a w (Jl hh) (Region.free_spec hi hf) (by simpa using hr) (.inl ⟨hw,hy⟩) hS h
theorem cj.one {i:Nat} {o:Oper} {g:Nat} {listed:Array Bool} {a:Act} {w:World} (hr:Region.ready md ops listed=[i]) (ho:ops[i]? = some o)
  (h :∀K:Act→World→Prop,Shut (∀a w,(i<n→S w)→cj P md ops Q S n g (listed.setIfInBounds i true) a w→K a w)→if Region.wanted o (yielded ops a.tmps)=true then Oper.wp P o a w K Q else K (a.put o.dst undef) w):cj P md ops Q S n (g+1) listed a w:=by
 refine⟨fun h0=>(by rw[hr] at h0;cases h0),fun j hj=>?_⟩
 rw[hr,bZ] at hj;subst hj;exact wpOp_step ho fun K hK=>h K fun a w h1 h2=>hK a w ⟨h1,h2⟩
theorem cj.two {i j:Nat} {o o':Oper} {g:Nat} {listed:Array Bool} {a:Act} {w:World} (hr:Region.ready md ops listed=[i,j]) (ho:ops[i]? = some o) (ho':ops[j]? = some o')
  (h :∀K:Act→World→Prop,Shut (∀a w,(i<n→S w)→cj P md ops Q S n g (listed.setIfInBounds i true) a w→K a w)→if Region.wanted o (yielded ops a.tmps)=true then Oper.wp P o a w K Q else K (a.put o.dst undef) w)
  (h' :∀K:Act→World→Prop,Shut (∀a w,(j<n→S w)→cj P md ops Q S n g (listed.setIfInBounds j true) a w→K a w)→if Region.wanted o' (yielded ops a.tmps)=true then Oper.wp P o' a w K Q else K (a.put o'.dst undef) w):cj P md ops Q S n (g+1) listed a w:=by
 refine⟨fun h0=>(by rw[hr] at h0;cases h0),fun x hx=>?_⟩
 rw[hr] at hx;simp only[bc,oG,oH] at hx;rcases hx with rfl|rfl
 ·exact wpOp_step ho fun K hK=>h K fun a w h1 h2=>hK a w ⟨h1,h2⟩
 ·exact wpOp_step ho' fun K hK=>h' K fun a w h1 h2=>hK a w ⟨h1,h2⟩
theorem cj.done {listed:Array Bool} {a:Act} {w:World} (hr:Region.ready md ops listed=[]) (h:Q .normal a w) :∀g,cj P md ops Q S n g listed a w
 | 0=>⟨hr,h⟩
 | _+1=>⟨fun _=>h,by rw[hr];simp⟩
theorem cj.Pr {id:Nat} {a:Act} {w:World} (hm:P.follows .mixedOrders=true) (h:cj P .any ops Q S n ops.size (Array.replicate ops.size false) a w.drew):(Code.region id ops true).wp P Q a w :=
 wp_region_any hm (cj.any _ _ _ _ h)
def eA (ops:Array Oper) (i:Nat) (F:Oper→Prop):Prop:=match ops[i]? with|some o=>F o|none=>False
theorem eA.ex {i:Nat} {F:Oper→Prop} (h:eA ops i F) :∃o,ops[i]? = some o∧F o:=by
 unfold eA at h;split at h
 ·exact⟨_,‹_›,h⟩
 ·cases h
theorem cj.fu {g:Nat} {listed:Array Bool} {a:Act} {w:World} (i:Nat) (v:Value) (ht:FN md ops n=true) (fD:i<n)
  (hh:FQ md ops n listed=true) (hf:Region.free md ops listed i=true) (hr:(Region.ready md ops listed).contains i=true)
  (hQ :∀c a d w,Q (.panic c) (Act.put a (some d) v) w→Q (.panic c) a w) (hS:S w)
  (h:eA ops i fun oi=>oi.dst.isSome=true∧Region.wanted oi (yielded ops a.tmps)=true∧(∀w,S w→(execOp a.eval oi).run P w=.ok (.value v) w)∧cj P md ops Q S n g (listed.setIfInBounds i true) (a.put oi.dst v) w):cj P md ops Q S n (g+1) listed a w:=by
 obtain⟨o,ho,h0,h1,h2,h3⟩:=h.ex;obtain⟨d,hd⟩:=zB.1 h0;exact cj.take ho ht fD hh hf hr (fun c a w hp=>hQ c a d w (by rw[hd] at hp;exact hp)) h1 h2 hS h3
theorem cj.jP {g:Nat} {listed:Array Bool} {a:Act} {w:World} (i:Nat) (hr:Region.ready md ops listed=[i])
  (h :∀K:Act→World→Prop,Shut (∀a w,(i<n→S w)→cj P md ops Q S n g (listed.setIfInBounds i true) a w→K a w)→eA ops i fun o=>if Region.wanted o (yielded ops a.tmps)=true then Oper.wp P o a w K Q else K (a.put o.dst undef) w):cj P md ops Q S n (g+1) listed a w:=by
 cases ho:ops[i]? with
 | none =>
  have h1:=h (fun _ _=>True) (fun _ _ _ _=>trivial)
  unfold eA at h1;rw[ho] at h1;cases h1
 | some o =>
  refine cj.one hr ho fun K hK=>?_
  have h1:=h K hK;unfold eA at h1;rw[ho] at h1;exact h1
theorem cj.YL {g:Nat} {listed:Array Bool} {a:Act} {w:World} (i j:Nat) (hr:Region.ready md ops listed=[i,j])
  (h :∀K:Act→World→Prop,Shut (∀a w,(i<n→S w)→cj P md ops Q S n g (listed.setIfInBounds i true) a w→K a w)→eA ops i fun o=>if Region.wanted o (yielded ops a.tmps)=true then Oper.wp P o a w K Q else K (a.put o.dst undef) w)
  (h' :∀K:Act→World→Prop,Shut (∀a w,(j<n→S w)→cj P md ops Q S n g (listed.setIfInBounds j true) a w→K a w)→eA ops j fun o=>if Region.wanted o (yielded ops a.tmps)=true then Oper.wp P o a w K Q else K (a.put o.dst undef) w):cj P md ops Q S n (g+1) listed a w:=by
 cases ho:ops[i]? with
 | none =>
  have h1:=h (fun _ _=>True) (fun _ _ _ _=>trivial)
  unfold eA at h1;rw[ho] at h1;cases h1
 | some o =>
  cases ho':ops[j]? with
  | none =>
   have h1:=h' (fun _ _=>True) (fun _ _ _ _=>trivial)
   unfold eA at h1;rw[ho'] at h1;cases h1
  | some o' =>
   refine cj.two hr ho ho' (fun K hK=>?_) fun K hK=>?_
   ·have h1:=h K hK
    unfold eA at h1;rw[ho] at h1;exact h1
   ·have h1:=h' K hK
    unfold eA at h1;rw[ho'] at h1;exact h1
end
end Go.Proofs.YteflkdlaoiijbaaGreatDoor
namespace Go.Proofs.YteflkdlaoiijbaaGreatDoor
open Go.RowKit
def fH (T:List Nd) (r:Int):Bool:=oV dc qf gW T r
def okK (T:List Nd) (x:Nd):Bool:=ku dc qf gW T x
theorem YM (T:List Nd) (x:Nd):okK T x=(decide (1≤x.line) && dc x && qf x.kind x.num (ic T x)):=rfl
theorem vD {T:List Nd} {r:Int} (h:eS T r=0∨100<eS T r∨dD T r.toNat≠18):fH T r=false:=by
 rw[Bool.eq_false_iff];intro hh;obtain⟨h1,h2,h3,_⟩:=(eT dc qf gW).1 hh;rcases h with h|h|h
 ·exact h1 h
 ·omega
 ·exact h h3
theorem Jm {T:List Nd} {r:Int} (h1:eS T r≠0) (h2:¬ 100<eS T r) (h3:dD T r.toNat=18):fH T r=T.all (okK T):=by
 unfold fH oV;rw[bX h1,bX (show eS T r≤100 by omega),bX h3]
 rfl
def Szd (T:List Nd):Prop:=∀x∈T,x.names.length≤140737488355328
theorem BU {T:List Nd} {r:Nat} {d:Nat→Nat} {m:List Nat} (hs:Ch T r d m) {i:Nat} {x:Nd} (hx:T[i]? = some x):(∀k∈x.kids,0≤k∧k<(T.length:Int))∧x.kids.length≤T.length:=by
 have hi:=(aJ.1 hx).1;have h1 :∀k∈x.kids,0≤k∧k<(T.length:Int):=fun k hk=>by
  obtain⟨a,b,_⟩:=hs.kid i (hs.mem hi) k (by rw[fQ hx];exact hk)
  exact⟨a,b⟩
 refine⟨h1,?_⟩;have hn:=hs.Gb hi;rw[fQ hx] at hn;have h2:=tW T.length (x.kids.map Int.toNat) (by
  rw[List.Nodup,List.pairwise_map];refine JU ?_ hn;intro a b ha hb hab e;have:=h1 a ha;have:=h1 b hb;exact hab (by omega)) (fun j hj=>by
  obtain⟨k,hk,rfl⟩:=eQ.1 hj;have:=h1 k hk;omega)
 rw[cy] at h2;exact h2
theorem xP (v:Value) (T:List Nd) (r:Int) (w:World) (h:kU w v T r) (hz:Szd T):Calls Tryz.prog 25 #[v] w fun e w'=>e=.returned (.bool (fH T r))∧Below w.heap.size w w':=by
 have PT:=aa (fun W (hW:kU W v T r)=>As v T r W hW)
 have HTV:=aa h;obtain⟨nv,rfl,A,c,rfl,hc,hn⟩:=h;have HN:=aa hn;have HZ:=aa hz;obtain⟨D,hD⟩ :∃D,D=eS T r:=⟨_,rfl⟩;rw[←hD] at PT;have HD:=aa hD;obtain⟨R,hR⟩ :∃R,R=fH T r:=⟨_,rfl⟩;rw[←hR];have HR:=aa hR;clear hR;have db :∀W,Below (w.heap.size+1) (w.alloc (.cells #[.slice A T.length c,.int .i64 r] 25)) W→W.cell? ⟨w.heap.size,0,none⟩=some (.slice A T.length c)∧W.cell? ⟨w.heap.size,1,none⟩=some (.int .i64 r):=fun W hW =>
  ⟨(hW.cell (p:=⟨w.heap.size,0,none⟩) (dC _)).trans (dJ w _ _ _),(hW.cell (p:=⟨w.heap.size,1,none⟩) (dC _)).trans (dJ w _ _ _)⟩
 have qg:=aa db;have B0:=aa (bC w (.cells #[.slice A T.length c,.int .i64 r] 25));clear hD db hn hz;go_enter Tryz.func25,Tryz.ntmps25
 go_wp2_with fail
 refine(PT.out _ (HTV.out.below B0.out)).mono ?_;rintro e w1 ⟨rfl,b1⟩;rw[an] at b1;have BW1:=aa b1;have B1:=aa (B0.out.trans (b1.mono (gd _)));have CZ:=b1.size;rw[an] at CZ;obtain⟨x0,x1⟩:=qg.out _ b1;clear b1 PT;by_cases h0:D=0
 ·have Ug:R=false:=HR.out.trans <| vD (.inl (by rw[←HD.out];exact h0))
  subst Ug;subst h0;go_wp2_with fail
  go_ret
  exact⟨rfl,B1.out⟩
 ·have g0:((D:Int) == 0)=false:=aC.2 (by omega)
  by_cases h1:100<D
  ·have Ug:R=false:=HR.out.trans <| vD (.inr (.inl (by rw[←HD.out];exact h1)))
   subst Ug;have g1:decide ((100:Int)<(D:Int))=true:=bX (by omega)
   go_wp2_with fail
   go_ret
   exact⟨rfl,B1.out⟩
  ·have g1:decide ((100:Int)<(D:Int))=false:=bU (by omega)
   obtain⟨hN,Ug,hr1,d,m,hs⟩:=tX (T:=T) (r:=r) (by rw[←HD.out];exact h0)
   rcases HN.out with hT | ⟨b,o,rfl,hb,hx⟩
   ·rw[hT] at hr1;simp at hr1;omega
   obtain⟨q,rfl⟩ :∃q:Nat,r=(q:Int):=⟨r.toNat,by omega⟩
   have hq:q<T.length:=by omega
   have hxq:=bE hq;obtain⟨nvq,kvq,dM,_,_⟩:=hx q _ hxq;have ck:=(B1.out.cell (p:=⟨b,o+q*7,none⟩) hb).trans dM.c0;obtain⟨kd,qa⟩ :∃kd,kd=T[q].kind:=⟨_,rfl⟩;rw[←qa] at ck;have jx:dD T (q:Int).toNat=kd:=by rw[iI,lA hxq,qa]
   have HX:=aa hx;have HSn:=aa hs;clear dM hx hs hxq qa;by_cases mi:kd=18
   ·have hry:R=T.all (okK T):=HR.out.trans <| Jm (T:=T) (r:=(q:Int)) (by rw[←HD.out];exact h0) (by rw[←HD.out];exact h1) (by rw[jx,mi])
    have HAL:=aa hry;subst mi;clear jx hry HR;go_wp2_with fail
    go_loopw [27] (fun i wr=>∃k:Nat,k≤T.length∧i=.int .i64 (k:Int)∧(T.drop k).all (okK T)=R∧Below (w.heap.size+1) (w.alloc (.cells #[.slice (some ⟨b,o,none⟩) T.length c,.int .i64 (q:Int)] 25)) wr) (fun i _=>T.length-(intOf i).toNat)
    case atStart=>exact⟨0,bB _,rfl,HAL.out.symm,BW1.out⟩
    case round =>
     obtain⟨k,hk,rfl,ha,hbr⟩:=hrel;have HA:=aa ha;have Dd:=aa hbr;have BR:=aa (B0.out.trans (hbr.mono (gd _)));have YN:=hbr.size;rw[an] at YN;clear ha hbr x0 x1 ck;by_cases hlt:k<T.length
     ·obtain⟨x,Qe⟩ :∃x,T[k]? = some x:=⟨T[k],bE hlt⟩
      obtain⟨pL,pM,dM,hst,yA⟩:=HX.out k x Qe;obtain⟨c0,c1,c2,c3,c4,c5,c6⟩:=dM.below BR.out hb;have HST:=aa (wU (p:=okK T) Qe);have hxz:=HZ.out x (aL Qe);have zM:=BU HSn.out Qe;have HSS:=aa hst;have HNU:=aa yA;obtain⟨SA,sc,rfl,_,_⟩:=hst;obtain⟨UA,uc,rfl,_,_⟩:=yA;clear Qe dM;have YO:=aa (bC wr (.cells #[.int .i64 x.kind,.int .i64 x.line,.int .i64 x.op,.int .i64 x.num,.string x.s,.slice SA x.names.length sc,.slice UA x.kids.length uc] 55));have HFL:=aa (CY x _ (.slice UA x.kids.length uc) (wr.alloc (.cells #[.int .i64 x.kind,.int .i64 x.line,.int .i64 x.op,.int .i64 x.num,.string x.s,.slice SA x.names.length sc,.slice UA x.kids.length uc] 55)) ((HSS.out.below BR.out).below YO.out) ⟨_,_,_,rfl⟩ hxz);have DY:=aa (fun W (h:Below (wr.heap.size+1) (wr.alloc (.cells #[.int .i64 x.kind,.int .i64 x.line,.int .i64 x.op,.int .i64 x.num,.string x.s,.slice SA x.names.length sc,.slice UA x.kids.length uc] 55)) W)=>wV (dC _) h)
      have bV:=aa (fun W hA hB hC=>Lu x (.slice SA x.names.length sc) (.slice UA x.kids.length uc) (.slice (some ⟨b,o,none⟩) T.length c) T W hA hB hC zM.1 (by have:=zM.2;omega))
      have Hj:=aa (YM T x);obtain⟨FL,hFL⟩ :∃FL,FL=dc x:=⟨_,rfl⟩;obtain⟨KD,hKD⟩ :∃KD,KD=qf x.kind x.num (ic T x):=⟨_,rfl⟩;rw[←hFL] at HFL Hj;rw[←hKD] at bV Hj;obtain⟨x0,x1⟩:=qg.out _ (Dd.out.trans (YO.out.mono YN));unfold cZ at HFL bV;clear hFL hKD zM hxz;by_cases yz:x.line<1
      ·go_wp2_with fail
       go_ret
       exact⟨cN (by rw[←HA.out,HST.out,Hj.out,bU (by omega)];rfl),BR.out.trans (YO.out.mono BR.out.size)⟩
      ·have gl:decide (1≤x.line)=true:=bX (by omega)
       rw[gl,kN] at Hj;go_wp2_with fail
       refine HFL.out.mono ?_;rintro e w3 ⟨rfl,b3⟩;have B3:=aa ((BR.out.trans (YO.out.mono BR.out.size)).trans (b3.mono (by rw[an];have:=BR.out.size;omega)))
       have BB3:=aa ((Dd.out.trans (YO.out.mono YN)).trans (b3.mono (by rw[an];omega)))
       have HQ3:=aa (DY.out _ (by rw[an] at b3;exact b3))
       clear b3 x0 x1 c0 c1 c2 c3 c4 c5 c6;cases FL with
       | false =>
        go_wp2_with fail
        go_ret
        exact⟨cN (by rw[←HA.out,HST.out,Hj.out];rfl),B3.out⟩
       | true =>
        rw[kN] at Hj;obtain⟨c0,c1,c2,c3,c4,c5,c6⟩:=HQ3.out;obtain⟨x0,x1⟩:=qg.out _ BB3.out;go_wp2_with fail
        refine(bV.out _ (HSS.out.below B3.out) (HNU.out.below B3.out) ?_).mono ?_
        ·exact qc.below (W:=w) ⟨some ⟨b,o,none⟩,c,rfl,hc,.inr ⟨b,o,rfl,hb,HX.out⟩⟩ B3.out
        rintro e w4 ⟨rfl,b4⟩;have B4:=aa (jh B3.out (ah _) b4);have BB4:=aa (BB3.out.trans (b4.mono (by have:=BB3.out.size;rw[an] at this;exact this)))
        clear b4 x0 x1 c0 c1 c2 c3 c4 c5 c6;cases KD with
        | false =>
         go_wp2_with fail
         go_ret
         exact⟨cN (by rw[←HA.out,HST.out,Hj.out];rfl),B4.out⟩
        | true =>
         go_wp2_with fail
         go_roundw
         case rel=>exact⟨k+1,by omega,by go_num,by rw[←HA.out,HST.out,Hj.out,kN],BB4.out⟩
         case measure=>simp[intOf];omega
     ·have hd:R=true:=by rw[←HA.out,pN (by omega)];rfl
      subst hd;go_wp2_with fail
      go_ret
      exact⟨rfl,BR.out⟩
   ·have Ug:R=false:=HR.out.trans <| vD (.inr (.inr (by rw[jx];exact mi)))
    subst Ug;have g18:(kd != 18)=true:=mL.2 mi;clear HR jx;go_wp2_with fail
    go_ret
    exact⟨rfl,B1.out⟩
end Go.Proofs.YteflkdlaoiijbaaGreatDoor
namespace Go.Proofs.YteflkdlaoiijbaaGreatDoor
open Go.RowKit
theorem Vu {z:Array Value} {v:Value} (m:Nat) (hz:0<z.size) (h :∀j,j<z.size→z[j]? = some v) (f:Nat→Value) (hf :∀j,f j=v):(madeCells z m).toList=(List.range m).map f:=by
 unfold madeCells;rw[Array.toList_map,Array.toList_range];refine wy fun j _=>?_
 rw[hf j];have h1:=h (j % z.size) (Nat.mod_lt _ hz);rw[getElem!_def,h1]
theorem Jn:(Tryz.prog.info? 57).map (fun i=>(i.zero,i.size,i.bytes))=some (some (.agg #[.int .i64 0,.int .i64 0]),2,16):=by kernel_rfl
theorem Jo:(Tryz.prog.info? 3).map (fun i=>(i.zero,i.size,i.bytes))=some (some (.int .i64 0),1,8):=by kernel_rfl
theorem Jp (n:Nat) (hn:n≤1000000) :∃M:Array Value,∀w:World,(Instr.makeSlice 32 (.int .i64 (n:Int)) (.int .i64 (n:Int))).run Tryz.prog w=.ok (.slice (some ⟨w.heap.size,0,none⟩) n n) (w.alloc (.cells M 57)) ∧
  ∀base,base≤w.heap.size→e8 (w.alloc (.cells M 57)) base 57 2 w.heap.size n (pC fun _=>(0,0)):=by
 obtain⟨i0,mY,hz0,hz1,hz2⟩:=info_parts Jn;refine⟨madeCells (Value.cells (.agg #[.int .i64 0,.int .i64 0])) (n*i0.size),fun w=>?_⟩
 have hr:=run_make (P:=Tryz.prog) w 32 57 i0 _ Tryz.underlying32 mY hz0 .i64 .i64 (n:Int) (n:Int) (by omega) (Int.le_refl _) (by rw[hz2];omega) (by omega)
 simp only[iI] at hr;refine⟨hr,fun base hb=>?_⟩
 obtain⟨W,h1,h2,_⟩:=run_make_full (P:=Tryz.prog) w base 32 57 i0 _ 2 Tryz.underlying32 mY hz0 hz1 .i64 .i64 n (by rw[hz2];omega) (by unfold maxLen;omega) hb
 rw[hr] at h1;injection h1 with _ h1;rw[h1];have e:(madeCells (Value.cells (.agg #[.int .i64 0,.int .i64 0])) (n*2)).toList=(List.range (n*2)).map (pC fun _=>(0,0)):=Vu (v:=.int .i64 0) _ (by decide) (fun j hj=>by
  have hj:j<2:=hj;match j,hj with
  | 0,_=>rfl
  | 1,_=>rfl) _ fun j=>by unfold pC;split<;>rfl
 rw[e] at h2;exact h2
theorem Ps (n:Nat) (hn:n≤1000000) :∃M:Array Value,∀w:World,(Instr.makeSlice 33 (.int .i64 (n:Int)) (.int .i64 (n:Int))).run Tryz.prog w=.ok (.slice (some ⟨w.heap.size,0,none⟩) n n) (w.alloc (.cells M 3)) ∧
  ∀base,base≤w.heap.size→e8 (w.alloc (.cells M 3)) base 3 1 w.heap.size n (PX fun _=>0):=by
 obtain⟨i0,mY,hz0,hz1,hz2⟩:=info_parts Jo;refine⟨madeCells (Value.cells (.int .i64 0)) (n*i0.size),fun w=>?_⟩
 have hr:=run_make (P:=Tryz.prog) w 33 3 i0 _ Tryz.underlying33 mY hz0 .i64 .i64 (n:Int) (n:Int) (by omega) (Int.le_refl _) (by rw[hz2];omega) (by omega)
 simp only[iI] at hr;refine⟨hr,fun base hb=>?_⟩
 obtain⟨W,h1,h2,_⟩:=run_make_full (P:=Tryz.prog) w base 33 3 i0 _ 1 Tryz.underlying33 mY hz0 hz1 .i64 .i64 n (by rw[hz2];omega) (by unfold maxLen;omega) hb
 rw[hr] at h1;injection h1 with _ h1;rw[h1];have e:(madeCells (Value.cells (.int .i64 0)) (n*1)).toList=(List.range (n*1)).map (PX fun _=>0):=Vu (v:=.int .i64 0) _ (by decide) (fun j hj=>by
  have hj:j<1:=hj;match j,hj with
  | 0,_=>rfl) _ fun j=>rfl
 rw[e] at h2;exact h2
def kH (W:World) (B N:Nat) (v:Value) (st:aH):Prop:=∃fv ub ob L,v=.agg #[fv,.slice (some ⟨ub,0,none⟩) N N,.slice (some ⟨ob,0,none⟩) N N]∧mz W B fv L∧L.map (·.1)=st.fns∧e8 W B 57 2 ub N (pC st.uses)∧e8 W B 3 1 ob N (PX st.of)
theorem e9.scope {W:World} {B b:Nat} {nv:Value} {N:Nat} {st:aH} {fv:Value} {ub ob:Nat} {L:List mB} (h:e9 W B b nv N st fv ub ob L):kH W B N (.agg #[fv,.slice (some ⟨ub,0,none⟩) N N,.slice (some ⟨ob,0,none⟩) N N]) st:=⟨fv,ub,ob,L,rfl,h.fns,h.are,h.uses,h.mC⟩
def gP:Value:=.agg #[.slice none 0 0,.slice none 0 0,.slice none 0 0]
def TR (B N:Nat) (r:Rs aH) (e:Ending) (w':World):Prop :=
 match r with
 | .ok st=>∃v B',B≤B'∧e=.returned (.tuple #[v,.nilIface])∧kH w' B' N v st
 | .error x=>∃v,e=.returned (.tuple #[gP,v])∧DH w' v x.2 x.1
theorem Pt {T:List Nd} {r:Int} (h:fH T r=true) :∃t:Lt,Lt.In T t∧(t.loc:Int)=r∧t.dI.Nodup∧(∀j,j<T.length↔j∈t.dI)∧lx T t∧t.hd.kind=18:=by
 obtain⟨h1,h2,h3,h4⟩:=(eT dc qf gW).1 h;obtain⟨hl,h0,hlt,d,m,hs⟩:=tX h1;obtain⟨t,hi,e,hn,hall⟩:=IE hs;have hT :∀x∈T,qf x.kind x.num (x.kids.map fun k=>gW (dD T k.toNat))=true:=fun x hx=>by
  obtain⟨i,hi⟩:=jV.1 hx;exact((oW dc qf gW).1 (h4 i x hi)).2.2
 have hk:t.hd.kind=18:=by
  have:=(yR hi).2.1;rw[e] at this;rw[←h3,lA this]
 exact⟨t,hi,by rw[e];omega,hn,hall,OV hT hi hn (by rw[hk];decide),hk⟩
theorem BV (w:World) (X Y Z:Obj):Below w.heap.size w (((w.alloc X).alloc Y).alloc Z).drew:=((((Below.refl _ _).alloc (ah _) _).alloc (by rw[an];omega) _).alloc (by rw[an,an];omega) _).drew
theorem TT (w:World) (X Y Z:Obj):(((w.alloc X).alloc Y).alloc Z).drew.heap[w.heap.size]? = some X :=
 (Below.heap_alloc ((w.alloc X).alloc Y) Z _ (by rw[an,an];omega)).trans ((Below.heap_alloc (w.alloc X) Y _ (by rw[an];omega)).trans (heap_alloc_new w X))
theorem TU (w:World) (X Y Z:Obj):(((w.alloc X).alloc Y).alloc Z).drew.heap[w.heap.size+1]? = some Y:=by
 have h:=heap_alloc_new (w.alloc X) Y;rw[an] at h;exact(Below.heap_alloc ((w.alloc X).alloc Y) Z _ (by rw[an,an];omega)).trans h
theorem TV (w:World) (X Y Z:Obj):(((w.alloc X).alloc Y).alloc Z).drew.heap[w.heap.size+1+1]? = some Z:=by
 have h:=heap_alloc_new ((w.alloc X).alloc Y) Z;rw[an,an] at h;exact h
theorem e8.later {W W':World} {B b n s:Nat} {ty:TypeId} {f:Nat→Value} (h:e8 W B ty s b n f) (hb:Below W.heap.size W W'):e8 W' B ty s b n f:=(Fr.ae (E:=[]) hb).row h (by simp)
section
variable {B n s:Nat} {ty:TypeId} {f:Nat→Value}
theorem Vv (w:World) (X Y Z:Obj) (h:e8 (w.alloc X) B ty s w.heap.size n f):e8 (((w.alloc X).alloc Y).alloc Z).drew B ty s w.heap.size n f:=h.later (Below.two Y Z).drew
theorem Vw (w:World) (X Y Z:Obj) (h:e8 ((w.alloc X).alloc Y) B ty s (w.alloc X).heap.size n f):e8 (((w.alloc X).alloc Y).alloc Z).drew B ty s (w.heap.size+1) n f:=by
 rw[an] at h;exact h.later ((Below.refl _ _).alloc (ah _) Z).drew
theorem Vx (w:World) (X Y Z:Obj) (h:e8 (((w.alloc X).alloc Y).alloc Z) B ty s ((w.alloc X).alloc Y).heap.size n f):e8 (((w.alloc X).alloc Y).alloc Z).drew B ty s (w.heap.size+1+1) n f:=by
 rw[an,an] at h;exact h.later (Below.refl _ _).drew
end
structure MkZ (w2 W:World) (B:Nat) (nv:Value) (N ub ob b:Nat):Prop where
 below:Below w2.heap.size w2 W
 le:w2.heap.size≤b
 blk:W.heap[b]? = some (.cells #[nv,.slice none 0 0,.slice (some ⟨ub,0,none⟩) N N,.slice (some ⟨ob,0,none⟩) N N] 87 (0,0))
 uses:e8 W B 57 2 ub N (pC fun _=>(0,0))
 mC:e8 W B 3 1 ob N (PX fun _=>0)
theorem Jq {P:Program} {id:Nat} {ops:Array Oper} {Q:Exit→Act→World→Prop} {a:Act} {w:World} {F:Nat→Nat→Nat→Act} {H:Nat→Nat→Nat→World→Prop} (hr:(∀ub ob b W,H ub ob b W→Q .normal (F ub ob b) W)→(Code.region id ops true).wp P Q a w) (h :∀ub ob b W,H ub ob b W→Q .normal (F ub ob b) W):(Code.region id ops true).wp P Q a w:=hr h
end Go.Proofs.YteflkdlaoiijbaaGreatDoor
namespace Go.Proofs.YteflkdlaoiijbaaGreatDoor
open Go.RowKit
theorem cP {W w':World} (h:Below W.heap.size W w'):(∀b i:Nat,b<W.heap.size→w'.cell? ⟨b,i,none⟩=W.cell? ⟨b,i,none⟩)∧∀b i:Nat,b<W.heap.size→w'.frozen? ⟨b,i,none⟩=W.frozen? ⟨b,i,none⟩:=⟨fun b i hb=>h.cell (p:=⟨b,i,none⟩) hb,fun b i hb=>h.frozen (p:=⟨b,i,none⟩) hb⟩
theorem aq.rename {B b:Nat} {nv:Value} {N ub ob:Nat} {lv:Value} {L:List cS} {st s1 s2:aH} {r:Rs aH} {w w2:World} {e:Ending} (h:aq B b nv N ub ob lv L st (r.map fun s=>s.back s1) w e w2) (hn:s2.names=s1.names):aq B b nv N ub ob lv L st (r.map fun s=>s.back s2) w e w2:=by
 refine h.same rfl ?_;cases r with
 | error y=>rfl
 | ok s=>exact⟨rfl,rfl,rfl,hn⟩
theorem FT {ib f:Nat} {hb:Nd} {kb:List Lt} {t:Lt} {s:aH}:kD [.mk ib hb kb,t] f s=wj ib f true kb [t] s:=by
 rw[yS];unfold wj;congr 1
 funext s1
 congr 1
 funext s2
 rw[rY]
theorem YP {ks:List Lt} {a:Int} (h:jd ks=[18,a]) :∃ib hb kb t,ks=[.mk ib hb kb,t]∧hb.kind=18∧t.hd.kind=a:=by
 unfold jd at h;match ks,h with
 | [.mk ib hb kb,t],h =>
  injection h with h1 h2;injection h2 with h2 _;exact⟨ib,hb,kb,t,rfl,h1,h2⟩
 | [],h=>exact absurd (aB List.length h) (by simp)
 | [.mk _ _ _],h=>exact absurd (aB List.length h) (by simp)
 | .mk _ _ _::_::_::_,h=>exact absurd (aB List.length h) (by simp)
theorem Pu {T:List Nd} {B b:Nat} {nv:Value} {ub ob:Nat} (gO :∀x∈T,x.s.size≤65536∧∀s∈x.names,s.size≤65536) (i:Nat) (h:Nd) (ks:List Lt) (hn:lx T (.mk i h ks)) (iE :∀u:Lt,u.size<Lt.ak ks+1→lx T u→bM T B b nv ub ob u) (hk:h.kind=24):bM T B b nv ub ob (.mk i h ks):=by
 intro f loop pa la lc ms L st w hr bg bG;show Calls Tryz.prog 26 #[.pointer (some ⟨b,0,none⟩),.int .i64 (i:Int),.agg #[.int .i64 (f:Int),.int .i64 loop,.pointer pa,.slice la L.length lc]] w (aq B b nv T.length ub ob (.slice la L.length lc) L st (bo (.mk i h ks) f st) w)
 have fL:=hn.sub;have fD:=hn.vQ;unfold Lt.In at fD;obtain⟨hx,bw,_⟩:=fD;replace hr:eF T B b nv ub ob f pa (.slice la L.length lc) ms L st w (h.names.length+Lt.eD ks) (Lt.ak ks+1):=by have h1:=hr;rw[Lt.wt,Lt.size] at h1;exact h1
 replace bg:18≤h.kind→loop=bP f st.frames:=bg;replace bG:L≠[]∨h.kind=18:=bG;obtain⟨bh,bj,bn⟩:=fL;replace bh:dX T ks:=bh;replace bj:h.kind≠18→∀k∈ks,Still k:=bj;replace bn:hH h.kind h.num (jd ks):=bn;have kJ:=gO h (aL hx);obtain⟨bk,o,c,rfl,bN,cC,cL⟩:=hr.dB.nodes;obtain⟨pL,pM,dM,⟨NA,nc,kI,_⟩,⟨KA,kc,jx,qe,kt⟩⟩:=cL i h hx;have tm:h.kids.length≤20000:=(hr.dB.small h (aL hx)).1;have fX:h.kids.length=ks.length:=by rw[bw,cy]
 subst kI jx;obtain⟨x0,x1,x2,x3,x4,x5,x6⟩:=dM;have y9:i<T.length:=(aJ.1 hx).1;have qY:=hr.dB.few;obtain⟨fv,FL,hw⟩:=id hr.rs;obtain⟨hbl,pE,uq⟩:=hw.gR;have d0:w.cell? ⟨b,0,none⟩=some (.slice (some ⟨bk,o,none⟩) T.length c):=ab hw.blk 0;have d3:w.cell? ⟨b,3,none⟩=some (.slice (some ⟨ob,0,none⟩) T.length T.length):=ab hw.blk 3;obtain⟨u0,v0⟩:=bA hw.mC (j:=i) (by omega)
 have iR:bk<w.heap.size:=by omega
 have qF:=aa gO;have HR:=aa hr;have HN:=aa hn;have tJ:=aa iE;have iS:=aa bg;have kG:=aa bG;have eM:=aa bh;have sH:=aa bj;have oh:=aa bn;have fP:=aa bw;have qR:=aa fX;have HX:=aa hx;have zh:=aa kJ;have CU:=aa kt;clear hr hn iE bg bG bh bj bn bw fX hx kJ cL hw gO kt;have q6:(h.kind == 6)=false:=by rw[hk];rfl
 have q7:(h.kind == 7)=false:=by rw[hk];rfl
 have yG:(h.kind == 11)=false:=by rw[hk];rfl
 have zv:(h.kind == 18)=false:=by rw[hk];rfl
 have Vo:(h.kind == 23)=false:=by rw[hk];rfl
 have YK:(h.kind == 26)=false:=by rw[hk];rfl
 have ZH:(h.kind == 27)=false:=by rw[hk];rfl
 have q24:(h.kind == 24)=true:=by rw[hk];rfl
 have bV:=aa hk;clear hk;go_enter Tryz.func26,Tryz.ntmps26
 go_wp2_with fail
 go_region
 have aU:=HR.out.ir i (.cells #[.int .i64 (f:Int),.int .i64 loop,.pointer pa,.slice la L.length lc] 92);have db:=heap_alloc_new (w.setCell ⟨ob,i,none⟩ (.int .i64 (f:Int))) (.cells #[.int .i64 (f:Int),.int .i64 loop,.pointer pa,.slice la L.length lc] 92);obtain⟨W1,hW1⟩ :∃W1,W1=((w.setCell ⟨ob,i,none⟩ (.int .i64 (f:Int))).alloc (.cells #[.int .i64 (f:Int),.int .i64 loop,.pointer pa,.slice la L.length lc] 92)).drew:=⟨_,rfl⟩;rw[←hW1] at aU;have bY:W1.heap[w.heap.size]? = some (.cells #[.int .i64 (f:Int),.int .i64 loop,.pointer pa,.slice la L.length lc] 92 (0,0)):=by
  rw[hW1];have e:(w.setCell ⟨ob,i,none⟩ (.int .i64 (f:Int))).heap.size=w.heap.size:=by simp[World.setCell]
  rw[e] at db;exact db
 rw[←hW1];have x0:=(aU.2.1.below.cell (p:=⟨bk,o+i*7,none⟩) bN).trans x0;have x1:=(aU.2.1.below.cell (p:=⟨bk,o+i*7+1,none⟩) bN).trans x1;have x2:=(aU.2.1.below.cell (p:=⟨bk,o+i*7+2,none⟩) bN).trans x2;have x3:=(aU.2.1.below.cell (p:=⟨bk,o+i*7+3,none⟩) bN).trans x3;have x4:=(aU.2.1.below.cell (p:=⟨bk,o+i*7+4,none⟩) bN).trans x4;have x5:=(aU.2.1.below.cell (p:=⟨bk,o+i*7+5,none⟩) bN).trans x5;have x6:=(aU.2.1.below.cell (p:=⟨bk,o+i*7+6,none⟩) bN).trans x6;clear hW1 db d0 d3 u0 v0;have d0:W1.cell? ⟨b,0,none⟩=some (.slice (some ⟨bk,o,none⟩) T.length c):=by obtain⟨_,_,hw⟩:=aU.1.rs;exact ab hw.blk 0
 have tn:b<W1.heap.size:=by obtain⟨_,_,hw⟩:=aU.1.rs;exact hw.gR.1
 have oC:w.heap.size<W1.heap.size:=(aF.1 bY).1;have tp:bk<W1.heap.size:=by omega
 have k0:W1.cell? ⟨w.heap.size,0,none⟩=some (.int .i64 (f:Int)):=ab bY 0;have k1:W1.cell? ⟨w.heap.size,1,none⟩=some (.int .i64 loop):=ab bY 1;have k2:W1.cell? ⟨w.heap.size,2,none⟩=some (.pointer pa):=ab bY 2;have k3:W1.cell? ⟨w.heap.size,3,none⟩=some (.slice la L.length lc):=ab bY 3;have HZ:=aa aU.1;have fA:=aa aU.2.1;have pH:=aa aU.2.2;have AF:=aa bY;clear aU bY;obtain⟨ea,hl0,hea⟩:=oh.out.Fo bV.out;obtain⟨ib,hb,kb,t,rfl,abl,abm⟩:=YP hl0;have bw:h.kids=[(ib:Int),(t.loc:Int)]:=fP.out;obtain⟨sb,so,hKA,Ys,YQ⟩ :∃sb so,KA=some ⟨sb,so,none⟩∧sb<B∧∀(j:Nat) x,h.kids[j]? = some x→w.cell? ⟨sb,so+j,none⟩=some (.int .i64 x):=by
  rcases CU.out with h0 | ⟨sb,so,h1,h2,h3⟩
  ·rw[bw] at h0;cases h0
  ·exact⟨sb,so,h1,h2,h3⟩
 subst hKA;have y0:=(fA.out.below.cell (p:=⟨sb,so,none⟩) Ys).trans (YQ 0 (ib:Int) (by rw[bw];rfl))
 have y1:=(fA.out.below.cell (p:=⟨sb,so+1,none⟩) Ys).trans (YQ 1 (t.loc:Int) (by rw[bw];rfl))
 have abn:h.kids.length=2:=by rw[bw];rfl
 have adf:=aa abn;have hkg0:0<h.kids.length:=by omega
 have hkg1:1<h.kids.length:=by omega
 have abo:sb<W1.heap.size:=by omega
 have HHK:=aa bw;have HEA:=aa hea;have adg:=aa abm;have HB18:=aa abl;clear YQ bw abn hea abm abl hl0;go_wp2_with fail
 obtain⟨W2,hW2⟩ :∃W2,W2=W1.alloc (.cells #[.int .i64 h.kind,.int .i64 h.line,.int .i64 h.op,.int .i64 h.num,.string h.s,.slice NA h.names.length nc,.slice (some ⟨sb,so,none⟩) h.kids.length kc] 55):=⟨_,rfl⟩;have di:Below W1.heap.size W1 W2:=by rw[hW2];exact(Below.refl _ _).alloc (ah _) _
 rw[←hW2];have hz2:=heap_alloc_new W1 (.cells #[.int .i64 h.kind,.int .i64 h.line,.int .i64 h.op,.int .i64 h.num,.string h.s,.slice NA h.names.length nc,.slice (some ⟨sb,so,none⟩) h.kids.length kc] 55);rw[←hW2] at hz2;have n6:=ab hz2 6;rw[adf.out] at n6;replace n6:W2.cell? ⟨W1.heap.size,6,none⟩=some (.slice (some ⟨sb,so,none⟩) 2 kc):=n6;have p0:=(di.cell (p:=⟨w.heap.size,0,none⟩) oC).trans k0;have p1:=(di.cell (p:=⟨w.heap.size,1,none⟩) oC).trans k1;have p2:=(di.cell (p:=⟨w.heap.size,2,none⟩) oC).trans k2;have p3:=(di.cell (p:=⟨w.heap.size,3,none⟩) oC).trans k3;have y0:=(di.cell (p:=⟨sb,so,none⟩) abo).trans y0;have y1:=(di.cell (p:=⟨sb,so+1,none⟩) abo).trans y1;have hl2:W1.heap.size<W2.heap.size:=by rw[hW2,an];omega
 have abp:=aa di;have BX:sb<W2.heap.size:=by omega
 have oD:w.heap.size<W2.heap.size:=by omega
 clear hW2 hz2 di x0 x1 x2 x3 x4 x5 x6 d0 k0 k1 k2 k3;have Xq:Hid (∀W,Calls Tryz.prog 57 #[.agg #[.int .i64 (f:Int),.int .i64 loop,.pointer pa,.slice la L.length lc],.int .i64 (i:Int)] W fun e w'=>e=.returned (.agg #[.int .i64 (f:Int),.int .i64 (i:Int),.pointer pa,.slice la L.length lc])∧Below W.heap.size W w'):=aa fun W=>lX f loop (i:Int) pa la L.length lc W
 have abq:Hid (∀W g,Below W2.heap.size W2 W→W.heap[g]? = some (.cells #[.int .i64 (t.loc:Int)] 3 (0,0))→W2.heap.size≤g→Calls Tryz.prog 56 #[.pointer (some ⟨b,0,none⟩),.int .i64 (ib:Int),.agg #[.int .i64 (f:Int),.int .i64 (i:Int),.pointer pa,.slice la L.length lc],.slice (some ⟨g,0,none⟩) 1 1] W (aq B b (.slice (some ⟨bk,o,none⟩) T.length c) T.length ub ob (.slice la L.length lc) L st ((wj ib f true kb [t] (du i f (st.setOf i f))).map fun s=>s.back (du i f (st.setOf i f))) w)):=aa fun W g hW hg hge=>by
  have hW1:=abp.out.trans (hW.mono abp.out.size);have Yn:=(HZ.out.dp hW1).om i;have Pe:Lt.mk ib hb kb∈[Lt.mk ib hb kb,t]:=bT ..;have EM:=eM.out.at_ _ Pe;have hnt:=eM.out.cons.2;have fD:=EM.vQ;unfold Lt.In at fD;have hsz:Lt.ak [Lt.mk ib hb kb,t]=Lt.ak kb+1+t.size:=by simp[Lt.ak,Lt.size]
  have hwt:Lt.eD [Lt.mk ib hb kb,t]=hb.names.length+Lt.eD kb+t.wt:=by simp[Lt.eD,Lt.wt]
  have hs1:Lt.ak [t]=t.size:=by simp[Lt.ak]
  have ef:Lt.eD [t]=t.wt:=by simp[Lt.eD]
  have adh:g≠ob:=by
   obtain⟨_,_,hw⟩:=HZ.out.rs;have:=hw.gR;omega
  refine(xL ib f hb kb [t] true (i:Int) pa la lc ms L (du i f (st.setOf i f)) W (.slice (some ⟨g,0,none⟩) 1 1) (Yn.Vp (by rw[hwt,ef];omega) (by rw[hsz,hs1];omega)) fD.1 fD.2.1 EM.sub.1 hnt (fun k hk=>tJ.out k (by have:=fh hk;rw[hsz];omega) (EM.sub.1.at_ k hk)) (fun k hk=>tJ.out k (by have:=fh hk;rw[hs1] at this;rw[hsz];omega) (hnt.at_ k hk)) ⟨_,_,rfl,ah _,.inr ⟨g,0,rfl,fun w' hf j x hj=>?_⟩⟩ rfl (fun k hk mi=>(vq f i _).symm) (fun k hk mi=>?_) (fun x hx=>(qF.out x.hd (aL (ve fD.2.2 (List.getElem?_of_mem hx).choose_spec).2)).1) (by simp)).mono fun e w' hp=>aq.after (fA.out.trans (cW.bR hW1 HZ.out.world)) rfl hp
  ·have h1:=hf.ints g _ _ hg adh
   cases j with
   | zero =>
    injection hj with hj;rw[←hj];exact ab h1 0
   | succ j=>cases hj
  ·rw[bZ] at hk
   have:=HEA.out;rw[←adg.out,←hk] at this;unfold tG at this;omega
 refine cj.Pr (n:=13) (S:=(fun W=>W.cell? ⟨W1.heap.size,6,none⟩=some (.slice (some ⟨sb,so,none⟩) 2 kc)∧W.cell? ⟨w.heap.size,0,none⟩=some (.int .i64 (f:Int))∧W.cell? ⟨w.heap.size,1,none⟩=some (.int .i64 loop)∧W.cell? ⟨w.heap.size,2,none⟩=some (.pointer pa)∧W.cell? ⟨w.heap.size,3,none⟩=some (.slice la L.length lc)∧W.cell? ⟨sb,so,none⟩=some (.int .i64 (ib:Int))∧W.cell? ⟨sb,so+1,none⟩=some (.int .i64 (t.loc:Int)))) (by kernel_rfl) ?_
 have FU:(fun W=>W.cell? ⟨W1.heap.size,6,none⟩=some (.slice (some ⟨sb,so,none⟩) 2 kc)∧W.cell? ⟨w.heap.size,0,none⟩=some (.int .i64 (f:Int))∧W.cell? ⟨w.heap.size,1,none⟩=some (.int .i64 loop)∧W.cell? ⟨w.heap.size,2,none⟩=some (.pointer pa)∧W.cell? ⟨w.heap.size,3,none⟩=some (.slice la L.length lc)∧W.cell? ⟨sb,so,none⟩=some (.int .i64 (ib:Int))∧W.cell? ⟨sb,so+1,none⟩=some (.int .i64 (t.loc:Int))) W2.drew:=⟨n6,p0,p1,p2,p3,y0,y1⟩
 refine cj.fu 0 (.pointer (some ⟨b,0,none⟩)) (by kernel_rfl) (by decide) (by kernel_rfl) (by kernel_rfl) (by kernel_rfl) (fun _ _ _ _ h=>h) FU ?_
 simp only[eA,ei,dZ,eh];refine⟨by rfl,by rfl,?_,?_⟩
 ·intro w hSw
  (try dsimp only at hSw)
  go_simp
 simp only[Act.put,dY,dQ,dR];refine cj.fu 1 (.pointer (some ⟨W1.heap.size,6,none⟩)) (by kernel_rfl) (by decide) (by kernel_rfl) (by kernel_rfl) (by kernel_rfl) (fun _ _ _ _ h=>h) FU ?_
 simp only[eA,ei,dZ,eh];refine⟨by rfl,by rfl,?_,?_⟩
 ·intro w hSw
  (try dsimp only at hSw)
  go_simp
 simp only[Act.put,dY,dQ,dR];refine cj.fu 2 (.slice (some ⟨sb,so,none⟩) 2 kc) (by kernel_rfl) (by decide) (by kernel_rfl) (by kernel_rfl) (by kernel_rfl) (fun _ _ _ _ h=>h) FU ?_
 simp only[eA,ei,dZ,eh];refine⟨by rfl,by rfl,?_,?_⟩
 ·intro w hSw
  (try dsimp only at hSw)
  go_simp
 simp only[Act.put,dY,dQ,dR];refine cj.fu 3 (.pointer (some ⟨sb,so,none⟩)) (by kernel_rfl) (by decide) (by kernel_rfl) (by kernel_rfl) (by kernel_rfl) (fun _ _ _ _ h=>h) FU ?_
 simp only[eA,ei,dZ,eh];refine⟨by rfl,by rfl,?_,?_⟩
 ·intro w hSw
  (try dsimp only at hSw)
  go_simp
 simp only[Act.put,dY,dQ,dR];refine cj.fu 4 (.int .i64 (ib:Int)) (by kernel_rfl) (by decide) (by kernel_rfl) (by kernel_rfl) (by kernel_rfl) (fun _ _ _ _ h=>h) FU ?_
 simp only[eA,ei,dZ,eh];refine⟨by rfl,by rfl,?_,?_⟩
 ·intro w hSw
  (try dsimp only at hSw)
  go_simp
 simp only[Act.put,dY,dQ,dR];refine cj.fu 5 (.agg #[.int .i64 (f:Int),.int .i64 loop,.pointer pa,.slice la L.length lc]) (by kernel_rfl) (by decide) (by kernel_rfl) (by kernel_rfl) (by kernel_rfl) (fun _ _ _ _ h=>h) FU ?_
 simp only[eA,ei,dZ,eh];refine⟨by rfl,by rfl,?_,?_⟩
 ·intro w hSw
  (try dsimp only at hSw)
  go_simp
 simp only[Act.put,dY,dQ,dR];refine cj.fu 6 (.int .i64 (i:Int)) (by kernel_rfl) (by decide) (by kernel_rfl) (by kernel_rfl) (by kernel_rfl) (fun _ _ _ _ h=>h) FU ?_
 simp only[eA,ei,dZ,eh];refine⟨by rfl,by rfl,?_,?_⟩
 ·intro w hSw
  (try dsimp only at hSw)
  go_simp
 simp only[Act.put,dY,dQ,dR];refine cj.fu 8 (.pointer (some ⟨W1.heap.size,6,none⟩)) (by kernel_rfl) (by decide) (by kernel_rfl) (by kernel_rfl) (by kernel_rfl) (fun _ _ _ _ h=>h) FU ?_
 simp only[eA,ei,dZ,eh];refine⟨by rfl,by rfl,?_,?_⟩
 ·intro w hSw
  (try dsimp only at hSw)
  go_simp
 simp only[Act.put,dY,dQ,dR];refine cj.fu 9 (.slice (some ⟨sb,so,none⟩) 2 kc) (by kernel_rfl) (by decide) (by kernel_rfl) (by kernel_rfl) (by kernel_rfl) (fun _ _ _ _ h=>h) FU ?_
 simp only[eA,ei,dZ,eh];refine⟨by rfl,by rfl,?_,?_⟩
 ·intro w hSw
  (try dsimp only at hSw)
  go_simp
 simp only[Act.put,dY,dQ,dR];refine cj.fu 10 (.pointer (some ⟨sb,so+1,none⟩)) (by kernel_rfl) (by decide) (by kernel_rfl) (by kernel_rfl) (by kernel_rfl) (fun _ _ _ _ h=>h) FU ?_
 simp only[eA,ei,dZ,eh];refine⟨by rfl,by rfl,?_,?_⟩
 ·intro w hSw
  (try dsimp only at hSw)
  go_simp
 simp only[Act.put,dY,dQ,dR];refine cj.fu 11 (.int .i64 (t.loc:Int)) (by kernel_rfl) (by decide) (by kernel_rfl) (by kernel_rfl) (by kernel_rfl) (fun _ _ _ _ h=>h) FU ?_
 simp only[eA,ei,dZ,eh];refine⟨by rfl,by rfl,?_,?_⟩
 ·intro w hSw
  (try dsimp only at hSw)
  go_simp
 simp only[Act.put,dY,dQ,dR];refine cj.YL 7 12 (by kernel_rfl) (fun K hK=>?_) fun K hK=>?_
 ·simp only[eA,ei,dZ,eh]
  go_simp
  go_at_call 57
  with_reducible refine(Xq.out _).mono ?_
  rintro e w3 ⟨rfl,hb3⟩;go_wp2_with fail
  have wk:Below W2.heap.size W2 w3:=iD hb3;refine hK.out _ _ (fun _=>⟨((cP wk).1 _ 6 hl2).trans n6,((cP wk).1 _ 0 oD).trans p0,((cP wk).1 _ 1 oD).trans p1,((cP wk).1 _ 2 oD).trans p2,((cP wk).1 _ 3 oD).trans p3,((cP wk).1 sb so BX).trans y0,((cP wk).1 sb (so+1) BX).trans y1⟩) ?_
  clear hK K
  (try simp only[Act.put,dY,dQ,dR])
  refine cj.jP 12 (by kernel_rfl) fun K hK=>?_
  simp only[eA,ei,dZ,eh];go_simp
  have YR:=wk.alloc wk.size (.cells #[.int .i64 (t.loc:Int)] 3);refine hK.out _ _ (fun _=>⟨((cP YR).1 _ 6 hl2).trans n6,((cP YR).1 _ 0 oD).trans p0,((cP YR).1 _ 1 oD).trans p1,((cP YR).1 _ 2 oD).trans p2,((cP YR).1 _ 3 oD).trans p3,((cP YR).1 sb so BX).trans y0,((cP YR).1 sb (so+1) BX).trans y1⟩) ?_
  clear hK K
  (try simp only[Act.put,dY,dQ,dR])
  refine cj.jP 13 (by kernel_rfl) fun K hK=>?_
  simp only[eA,ei,dZ,eh];go_simp
  go_at_call 56
  with_reducible refine(abq.out _ w3.heap.size (wk.alloc wk.size _) (heap_alloc_new _ _) wk.size).mono ?_
  intro e w4 hp;obtain⟨v,rfl⟩:=hp.ret;have HV:=aa hp;clear hp;go_wp2_with fail
  refine hK.out _ _ (fun h=>absurd h (by decide)) ?_
  clear hK K
  (try simp only[Act.put,dY,dQ,dR])
  refine cj.jP 14 (by kernel_rfl) fun K hK=>?_
  simp only[eA,ei,dZ,eh];go_simp
  refine hK.out _ _ (fun h=>absurd h (by decide)) ?_
  clear hK K
  (try simp only[Act.put,dY,dQ,dR])
  refine cj.done (by kernel_rfl) ?_ _
  go_wp2_with fail
  go_ret
  have hE:bo (.mk i h [.mk ib hb kb,t]) f st=(wj ib f true kb [t] (du i f (st.setOf i f))).map fun s=>s.back (st.setOf i f):=by
   rw[cV];rw[af (by have:=bV.out;omega)]
   rw[af (by have:=bV.out;omega)]
   rw[af (by have:=bV.out;omega)]
   rw[af (by have:=bV.out;omega)]
   rw[af (by have:=bV.out;omega)]
   rw[af (by have:=bV.out;omega)]
   rw[al bV.out];rw[FT]
  rw[hE];exact HV.out.rename rfl
 ·simp only[eA,ei,dZ,eh]
  go_simp
  have po:Below W2.heap.size W2 (W2.drew.alloc (.cells #[.int .i64 (t.loc:Int)] 3)):=((Below.refl _ W2).drew).alloc (ah _) _;refine hK.out _ _ (fun _=>⟨((cP po).1 _ 6 hl2).trans n6,((cP po).1 _ 0 oD).trans p0,((cP po).1 _ 1 oD).trans p1,((cP po).1 _ 2 oD).trans p2,((cP po).1 _ 3 oD).trans p3,((cP po).1 sb so BX).trans y0,((cP po).1 sb (so+1) BX).trans y1⟩) ?_
  clear hK K
  (try simp only[Act.put,dY,dQ,dR])
  refine cj.jP 7 (by kernel_rfl) fun K hK=>?_
  simp only[eA,ei,dZ,eh];go_simp
  go_at_call 57
  with_reducible refine(Xq.out _).mono ?_
  rintro e w3 ⟨rfl,hb3⟩;go_wp2_with fail
  have hrow:=((iD hb3).block W2.heap.size (by rw[an];omega)).trans (heap_alloc_new W2 (.cells #[.int .i64 (t.loc:Int)] 3))
  have wk:Below W2.heap.size W2 w3:=((Below.refl _ _).alloc (ah _) _).trans ((iD hb3).mono (by rw[an];omega))
  refine hK.out _ _ (fun _=>⟨((cP wk).1 _ 6 hl2).trans n6,((cP wk).1 _ 0 oD).trans p0,((cP wk).1 _ 1 oD).trans p1,((cP wk).1 _ 2 oD).trans p2,((cP wk).1 _ 3 oD).trans p3,((cP wk).1 sb so BX).trans y0,((cP wk).1 sb (so+1) BX).trans y1⟩) ?_
  clear hK K
  (try simp only[Act.put,dY,dQ,dR])
  refine cj.jP 13 (by kernel_rfl) fun K hK=>?_
  simp only[eA,ei,dZ,eh];go_simp
  go_at_call 56
  with_reducible refine(abq.out _ W2.heap.size wk hrow (ah _)).mono ?_
  intro e w4 hp;obtain⟨v,rfl⟩:=hp.ret;have HV:=aa hp;clear hp;go_wp2_with fail
  refine hK.out _ _ (fun h=>absurd h (by decide)) ?_
  clear hK K
  (try simp only[Act.put,dY,dQ,dR])
  refine cj.jP 14 (by kernel_rfl) fun K hK=>?_
  simp only[eA,ei,dZ,eh];go_simp
  refine hK.out _ _ (fun h=>absurd h (by decide)) ?_
  clear hK K
  (try simp only[Act.put,dY,dQ,dR])
  refine cj.done (by kernel_rfl) ?_ _
  go_wp2_with fail
  go_ret
  have hE:bo (.mk i h [.mk ib hb kb,t]) f st=(wj ib f true kb [t] (du i f (st.setOf i f))).map fun s=>s.back (st.setOf i f):=by
   rw[cV];rw[af (by have:=bV.out;omega)]
   rw[af (by have:=bV.out;omega)]
   rw[af (by have:=bV.out;omega)]
   rw[af (by have:=bV.out;omega)]
   rw[af (by have:=bV.out;omega)]
   rw[af (by have:=bV.out;omega)]
   rw[al bV.out];rw[FT]
  rw[hE];exact HV.out.rename rfl
theorem YS {T:List Nd} {B b:Nat} {nv:Value} {ub ob:Nat} (gO :∀x∈T,x.s.size≤65536∧∀s∈x.names,s.size≤65536):Vr T B b nv ub ob:=fun i h ks hn iE hk=>Pu gO i h ks hn iE hk
theorem Jr {T:List Nd} {B b:Nat} {nv:Value} {ub ob:Nat} (gO :∀x∈T,x.s.size≤65536∧∀s∈x.names,s.size≤65536) (t:Lt) (hn:lx T t):bM T B b nv ub ob t:=xO gO (YS gO) t.size t (ah _) hn
structure ZI (T:List Nd):Prop where
 kids :∀x∈T,x.kids.length≤20000∧x.names.length≤20000
 size :∀x∈T,x.s.size≤65536∧∀s∈x.names,s.size≤65536
theorem ZI.szd {T:List Nd} (h:ZI T):Szd T:=fun x hx=>by have:=(h.kids x hx).2;omega
theorem DZ (v:Value) (T:List Nd) (r:Int) (w:World) (h:kU w v T r) (hs:Szd T) (hR:fH T r=false):Calls Tryz.prog 11 #[v] w fun e w'=>Below w.heap.size w w'∧∃u,e=.returned (.tuple #[gP,u])∧DH w' u 0 4:=by
 have HT:=aa h;have HS:=aa hs;have HR:=aa hR;obtain⟨nv,rfl,A,c,rfl,hc,hn⟩:=h;clear hs hn hR;go_enter Tryz.func11,Tryz.ntmps11
 go_wp2_with fail
 obtain⟨W1,hW1⟩ :∃W1,W1=(w.alloc (.cells #[.slice A T.length c,.int .i64 r] 25)).alloc (.cells #[.slice none 0 0,.slice none 0 0,.slice none 0 0] 35):=⟨_,rfl⟩;have hb1:Below w.heap.size w W1:=by rw[hW1];exact Below.two _ _
 have hs1:W1.heap.size=w.heap.size+1+1:=by rw[hW1,an,an]
 have hsc:W1.heap[w.heap.size+1]? = some (.cells #[.slice none 0 0,.slice none 0 0,.slice none 0 0] 35 (0,0)):=by
  rw[hW1];have:=heap_alloc_new (w.alloc (.cells #[.slice A T.length c,.int .i64 r] 25)) (.cells #[.slice none 0 0,.slice none 0 0,.slice none 0 0] 35);rwa[an] at this
 rw[←hW1];have dL:=aa hb1;have YT:=aa hsc;have eM:=aa hs1;clear hW1 hb1 hsc hs1;refine(xP _ T r W1 (HT.out.below dL.out) HS.out).mono ?_;rintro e w2 ⟨rfl,b2⟩;have B2:=aa b2;clear b2;rw[HR.out];have nS:=(B2.out.block (w.heap.size+1) (by rw[eM.out];omega)).trans YT.out
 have z0:=av nS 0;have z1:=av nS 1;have z2:=av nS 2;have y0:w2.cell? ⟨w.heap.size+1,0,none⟩=some (.slice none 0 0):=ab nS 0;have y1:w2.cell? ⟨w.heap.size+1,1,none⟩=some (.slice none 0 0):=ab nS 1;have y2:w2.cell? ⟨w.heap.size+1,2,none⟩=some (.slice none 0 0):=ab nS 2;have hl2:w.heap.size+1<w2.heap.size:=(aF.1 nS).1;have rZ:=aa nS;clear nS;go_wp2_with fail
 have h3:=bt (bt (bt rZ.out 0 (.slice none 0 0)) 1 (.slice none 0 0)) 2 (.slice none 0 0);have hb3:Below w.heap.size w2 (((w2.setCell ⟨w.heap.size+1,0,none⟩ (.slice none 0 0)).setCell ⟨w.heap.size+1,1,none⟩ (.slice none 0 0)).setCell ⟨w.heap.size+1,2,none⟩ (.slice none 0 0)):=(((Below.refl _ _).setCell (p:=⟨w.heap.size+1,0,none⟩) (by show _≤w.heap.size+1;omega) _).setCell (p:=⟨w.heap.size+1,1,none⟩) (by show _≤w.heap.size+1;omega) _).setCell (p:=⟨w.heap.size+1,2,none⟩) (by show _≤w.heap.size+1;omega) _
 have hs3:(((w2.setCell ⟨w.heap.size+1,0,none⟩ (.slice none 0 0)).setCell ⟨w.heap.size+1,1,none⟩ (.slice none 0 0)).setCell ⟨w.heap.size+1,2,none⟩ (.slice none 0 0)).heap.size=w2.heap.size:=by simp[World.setCell]
 generalize ((w2.setCell ⟨w.heap.size+1,0,none⟩ (.slice none 0 0)).setCell ⟨w.heap.size+1,1,none⟩ (.slice none 0 0)).setCell ⟨w.heap.size+1,2,none⟩ (.slice none 0 0)=W3 at h3 hb3 hs3 ⊢;rw[←hs3];have h4:=(Below.heap_alloc W3 (.cells #[.int .i64 0,.iface 79 (.int .i64 4)] 85) _ (aF.1 h3).1).trans h3;have pk:=heap_alloc_new W3 (.cells #[.int .i64 0,.iface 79 (.int .i64 4)] 85);have c0:(W3.alloc (.cells #[.int .i64 0,.iface 79 (.int .i64 4)] 85)).cell? ⟨w.heap.size+1,0,none⟩=some (.slice none 0 0):=ab h4 0;have c1:(W3.alloc (.cells #[.int .i64 0,.iface 79 (.int .i64 4)] 85)).cell? ⟨w.heap.size+1,1,none⟩=some (.slice none 0 0):=ab h4 1;have c2:(W3.alloc (.cells #[.int .i64 0,.iface 79 (.int .i64 4)] 85)).cell? ⟨w.heap.size+1,2,none⟩=some (.slice none 0 0):=ab h4 2;refine bodyPost_ret (v:=.tuple #[gP,.iface 83 (.pointer (some ⟨W3.heap.size,0,none⟩))]) (by simp[results,Tryz.results11,go_sem,gP,c0,c1,c2]) rfl ⟨((dL.out.trans (B2.out.mono dL.out.size)).trans hb3).trans ((Below.refl _ _).alloc (by have:=dL.out.size;omega) _),_,rfl,_,rfl,pk⟩
theorem sU (v:Value) (T:List Nd) (r:Int) (w:World) (h:kU w v T r) (hs:ZI T) (hR:fH T r=true) (t:Lt) (hr:(t.loc:Int)=r) (hn:lx T t) (mi:t.hd.kind=18) (hN:T.length≤16384) (hwt:t.wt≤50000) (hsz:t.size=T.length):Calls Tryz.prog 11 #[v] w fun e w'=>Below w.heap.size w w'∧TR w.heap.size T.length (my t) e w':=by
 have HT:=aa h;have HS:=aa hs;have HR:=aa hR;have HND:=aa hn;have H18:=aa mi;have HWT:=aa hwt;have qF:=aa hsz;obtain⟨nv,rfl,A,c,rfl,hc,hX⟩:=h;have PQ:t.loc<T.length:=(aJ.1 (yR hn.vQ).2.1).1;have hX2 :∃bk o,A=some ⟨bk,o,none⟩∧bk<w.heap.size∧tz w bk o T:=by
  rcases hX with hX | ⟨bk,o,e,hb,hX⟩
  ·rw[hX] at PQ;cases PQ
  ·exact⟨bk,o,e,hb,hX⟩
 obtain⟨bk,o,rfl,bN,hX3⟩:=hX2;have HX:=aa hX3;subst hr;clear hX hX3 hs hR hn mi hwt hsz;go_enter Tryz.func11,Tryz.ntmps11
 go_wp2_with fail
 obtain⟨W1,hW1⟩ :∃W1,W1=(w.alloc (.cells #[.slice (some ⟨bk,o,none⟩) T.length c,.int .i64 (t.loc:Int)] 25)).alloc (.cells #[.slice none 0 0,.slice none 0 0,.slice none 0 0] 35):=⟨_,rfl⟩;have hb1:Below w.heap.size w W1:=by rw[hW1];exact Below.two _ _
 have hs1:W1.heap.size=w.heap.size+1+1:=by rw[hW1,an,an]
 have Js:W1.heap[w.heap.size]? = some (.cells #[.slice (some ⟨bk,o,none⟩) T.length c,.int .i64 (t.loc:Int)] 25 (0,0)):=by
  rw[hW1];exact(Below.heap_alloc _ _ _ (by rw[an];omega)).trans (heap_alloc_new w _)
 have hsc:W1.heap[w.heap.size+1]? = some (.cells #[.slice none 0 0,.slice none 0 0,.slice none 0 0] 35 (0,0)):=by
  rw[hW1];have:=heap_alloc_new (w.alloc (.cells #[.slice (some ⟨bk,o,none⟩) T.length c,.int .i64 (t.loc:Int)] 25)) (.cells #[.slice none 0 0,.slice none 0 0,.slice none 0 0] 35);rwa[an] at this
 rw[←hW1];have dL:=aa hb1;have HTR:=aa Js;have YT:=aa hsc;have eM:=aa hs1;clear hW1 hb1 hsc hs1 Js;refine(xP _ T _ W1 (HT.out.below dL.out) HS.out.szd).mono ?_;rintro e w2 ⟨rfl,b2⟩;rw[HR.out];have nS:=(b2.block (w.heap.size+1) (by rw[eM.out];omega)).trans YT.out
 have D0:=(b2.block w.heap.size (by rw[eM.out];omega)).trans HTR.out
 have hb2:Below w.heap.size w w2:=dL.out.trans (b2.mono dL.out.size);have B2:=aa hb2;have rZ:=aa nS;have zj:=aa D0;have hl2:w.heap.size+1<w2.heap.size:=(aF.1 nS).1;have t0:w2.cell? ⟨w.heap.size,0,none⟩=some (.slice (some ⟨bk,o,none⟩) T.length c):=ab D0 0;have t1:w2.cell? ⟨w.heap.size,1,none⟩=some (.int .i64 (t.loc:Int)):=ab D0 1;clear b2 nS D0 hb2 dL HTR YT eM;obtain⟨MU,hMU⟩:=Jp T.length (by omega)
 obtain⟨MO,hMO⟩:=Ps T.length (by omega)
 have mU:=fun W=>(hMU W).1
 have mO:=fun W=>(hMO W).1
 have HMU:=aa fun W=>(hMU W).2
 have HMO:=aa fun W=>(hMO W).2
 clear hMU hMO;go_wp2_with fail
 have hK :∀W,Below w2.heap.size w2 W→W.cell? ⟨w.heap.size,0,none⟩=some (.slice (some ⟨bk,o,none⟩) T.length c):=fun W hW=>(hW.cell (p:=⟨w.heap.size,0,none⟩) (by show w.heap.size<_;omega)).trans t0
 have HK:=aa hK;clear hK;refine Jq (F:=fun ub ob b=>⟨#[.agg #[.slice (some ⟨bk,o,none⟩) T.length c,.int .i64 (t.loc:Int)],.pointer (some ⟨w.heap.size,0,none⟩),.pointer (some ⟨w.heap.size+1,0,none⟩),.nilIface,.int .i64 (T.length:Int),
  .pointer (some ⟨b,0,none⟩),undef,undef,.agg #[.slice (some ⟨bk,o,none⟩) T.length c,.int .i64 (t.loc:Int)],.bool true,.bool false,undef,undef,undef,undef,undef,.pointer (some ⟨w.heap.size,0,none⟩),.slice (some ⟨bk,o,none⟩) T.length c,.int .i64 (T.length:Int),
  .pointer (some ⟨w.heap.size,0,none⟩),.slice (some ⟨bk,o,none⟩) T.length c,.int .i64 (T.length:Int),.slice (some ⟨ub,0,none⟩) T.length T.length,.int .i64 (T.length:Int),.slice (some ⟨ob,0,none⟩) T.length T.length,
  .agg #[.slice none 0 0,.slice (some ⟨ub,0,none⟩) T.length T.length,.slice (some ⟨ob,0,none⟩) T.length T.length],.agg #[.slice (some ⟨bk,o,none⟩) T.length c,.slice none 0 0,.slice (some ⟨ub,0,none⟩) T.length T.length,.slice (some ⟨ob,0,none⟩) T.length T.length],
  undef,undef,undef,undef,undef,undef,undef,undef,undef,undef,undef,undef,undef,undef],[]⟩) (H:=fun ub ob b W=>MkZ w2 W w2.heap.size (.slice (some ⟨bk,o,none⟩) T.length c) T.length ub ob b) (fun HQ=>?_) (fun ub ob b W hM=>?_)
 ·have HQ:=aa HQ
  go_region_held3 (fun W=>W.cell? ⟨w.heap.size,0,none⟩=some (.slice (some ⟨bk,o,none⟩) T.length c)) ((apply HK.out;(repeat (first|exact Below.refl _ _|refine Below.drew ?_|refine Below.alloc ?_ (by simp;try omega) _|refine Below.setCell ?_ (by simp;try omega) _)))) (fail)
  all_goals
   refine HQ.out _ _ _ _ ⟨BV _ _ _ _,by omega,?_,?_,?_⟩
   ·first
     | exact TT _ _ _ _
     | exact TU _ _ _ _
     | exact TV _ _ _ _
   ·first
     | exact Vv _ _ _ _ (HMU.out _ _ (ah _))
     | exact Vw _ _ _ _ (HMU.out _ _ (by rw[an];omega))
     | exact Vx _ _ _ _ (HMU.out _ _ (by rw[an,an];omega))
   ·first
     | exact Vv _ _ _ _ (HMO.out _ _ (ah _))
     | exact Vw _ _ _ _ (HMO.out _ _ (by rw[an];omega))
     | exact Vx _ _ _ _ (HMO.out _ _ (by rw[an,an];omega))
 ·dsimp only
  have HM:=aa hM;have hblk:=hM.blk;have adi:=hM.below;have TW:=(hM.below.block w.heap.size (by omega)).trans zj.out
  have abr:=(hM.below.block (w.heap.size+1) (by omega)).trans rZ.out
  have t0:W.cell? ⟨w.heap.size,0,none⟩=some (.slice (some ⟨bk,o,none⟩) T.length c):=ab TW 0;have t1:W.cell? ⟨w.heap.size,1,none⟩=some (.int .i64 (t.loc:Int)):=ab TW 1;have hlW:w2.heap.size≤W.heap.size:=hM.below.size;have HTRW:=aa TW;have HSCW:=aa abr;clear hM hblk adi TW abr mU mO HMU HMO;go_wp2_with fail
  obtain⟨WF,hWF⟩ :∃WF,WF=W.alloc (.cells #[.int .i64 (t.loc:Int),.int .i64 (-1),.int .i64 0,.bool true,.slice none 0 0,.slice none 0 0] 52):=⟨_,rfl⟩;rw[←hWF];have hbF:Below W.heap.size W WF:=by rw[hWF];exact(Below.refl _ _).alloc (ah _) _
  have Vy:WF.heap[W.heap.size]? = some (.cells #[.int .i64 (t.loc:Int),.int .i64 (-1),.int .i64 0,.bool true,.slice none 0 0,.slice none 0 0] 52 (0,0)):=by rw[hWF];exact heap_alloc_new _ _
  have f0:WF.cell? ⟨W.heap.size,0,none⟩=some (.int .i64 (t.loc:Int)):=ab Vy 0;have f1:WF.cell? ⟨W.heap.size,1,none⟩=some (.int .i64 (-1)):=ab Vy 1;have f2:WF.cell? ⟨W.heap.size,2,none⟩=some (.int .i64 0):=ab Vy 2;have f3:WF.cell? ⟨W.heap.size,3,none⟩=some (.bool true):=ab Vy 3;have f4:WF.cell? ⟨W.heap.size,4,none⟩=some (.slice none 0 0):=ab Vy 4;have f5:WF.cell? ⟨W.heap.size,5,none⟩=some (.slice none 0 0):=ab Vy 5;have YU:Below w2.heap.size w2 WF:=HM.out.below.trans (hbF.mono hlW);have hRX:e9 WF w2.heap.size b (.slice (some ⟨bk,o,none⟩) T.length c) T.length ⟨[],fun _=>(0,0),fun _=>0,[],[]⟩ (.slice none 0 0) ub ob []:=by
   refine⟨(hbF.block b (aF.1 HM.out.blk).1).trans HM.out.blk,⟨World.ownsRow_nil _ _ _ _,(fun _ h=>by cases h),(fun _ h=>by cases h),(fun _ _ _ _ _ h=>by cases h),(fun _ _ _ _ _ h=>by cases h)⟩,rfl,HM.out.uses.later hbF,HM.out.mC.later hbF,HM.out.le⟩
  have HRX:=aa hRX;have adj:=aa YU;have abt:tz w2 bk o T:=fun j x hj=>by
   obtain⟨nv,kv,h1,h2,h3⟩:=HX.out j x hj;exact⟨nv,kv,h1.below B2.out bN,h2.below B2.out,h3.below B2.out⟩
  have HTI:=aa abt;have hK2 :∀W',Below w2.heap.size WF W'→W'.cell? ⟨w.heap.size,1,none⟩=some (.int .i64 (t.loc:Int)):=fun W' ZJ=>(ZJ.cell (p:=⟨w.heap.size,1,none⟩) (by show w.heap.size<_;omega)).trans (ab ((YU.block w.heap.size (by omega)).trans zj.out) 1)
  have HK2:=aa hK2;have t1F:=hK2 WF (Below.refl _ _);have HEN:=aa (fun W' (ZJ:Below w2.heap.size WF W') (hr:e9 W' w2.heap.size b (.slice (some ⟨bk,o,none⟩) T.length c) T.length ⟨[],fun _=>(0,0),fun _=>0,[],[]⟩ (.slice none 0 0) ub ob [])=>xH b ⟨t.loc,-1,0,true,[],[]⟩ none 0 0 ⟨[],fun _=>(0,0),fun _=>0,[],[]⟩ W' ⟨_,_,hr⟩ rfl rfl (by show 0≤100000;omega))
  have hlF:W.heap.size<WF.heap.size:=(aF.1 Vy).1;clear hWF hbF Vy hRX YU abt hK2;refine cj.Pr (n:=4) (S:=fun W'=>W'.cell? ⟨w.heap.size,1,none⟩=some (.int .i64 (t.loc:Int))) (by kernel_rfl) ?_
  have FU:(fun W':World=>W'.cell? ⟨w.heap.size,1,none⟩=some (.int .i64 (t.loc:Int))) WF.drew:=t1F
  refine cj.fu 0 (.pointer (some ⟨w.heap.size,1,none⟩)) (by kernel_rfl) (by decide) (by kernel_rfl) (by kernel_rfl) (by kernel_rfl) (fun _ _ _ _ h=>h) FU ?_
  simp only[eA,ei,dZ,eh];refine⟨by rfl,by rfl,?_,?_⟩
  ·intro w hSw
   go_simp
  (try simp only[Act.put,dY,dQ,dR])
  refine cj.fu 1 (.int .i64 (t.loc:Int)) (by kernel_rfl) (by decide) (by kernel_rfl) (by kernel_rfl) (by kernel_rfl) (fun _ _ _ _ h=>h) FU ?_
  simp only[eA,ei,dZ,eh];refine⟨by rfl,by rfl,?_,?_⟩
  ·intro w hSw
   go_simp
  (try simp only[Act.put,dY,dQ,dR])
  refine cj.jP 2 (by kernel_rfl) fun K hK=>?_
  simp only[eA,ei,dZ,eh];go_simp
  refine hK.out _ _ (fun _=>t1F) ?_
  clear hK K
  (try simp only[Act.put,dY,dQ,dR])
  refine cj.jP 3 (by kernel_rfl) fun K hK=>?_
  simp only[eA,ei,dZ,eh];go_simp
  go_at_call 27
  refine(HEN.out _ ((Below.refl _ _).drew) HRX.out.drew).mono ?_;rintro e w5 ⟨rfl,h1,h2,h3⟩;have hS5:=HK2.out w5 (((Below.refl _ _).drew).trans h2);have H1:=aa h1;have H2:=aa h2;clear h1 h2 h3;go_wp2_with fail
  refine hK.out _ _ (fun _=>hS5) ?_
  clear hK K
  (try simp only[Act.put,dY,dQ,dR])
  have uQ:Below w2.heap.size w2 w5:=adj.out.trans ((Below.refl _ _).drew.trans H2.out);have abu:eF T w2.heap.size b (.slice (some ⟨bk,o,none⟩) T.length c) ub ob 0 none (.slice none 0 0) [] [] (gF t.loc) w5 t.wt t.size:=by
   refine⟨⟨⟨w2,bk,o,c,rfl,by have:=B2.out.size;omega,rfl,HTI.out,uQ⟩,by omega,HS.out.kids⟩,H1.out,⟨⟨World.ownsRow_nil _ _ _ _,(fun _ h=>by cases h),(fun _ h=>by cases h),Ei⟩,⟨rfl,rfl⟩,rfl,(fun _ h=>by cases h)⟩,(fun _ _ h=>by cases h),BD _,?_,(fun _ h=>by cases h),?_,?_,?_⟩
   ·intro g x hx
    match g,hx with
    | 0,hx=>injection hx with hx;rw[←hx];exact⟨bB _,bB _⟩
    | g+1,hx=>cases hx
   ·have:=HWT.out
    show 0+t.wt≤100000
    omega
   ·have:=qF.out
    show 1+t.size≤100000
    omega
   ·have:=qF.out
    show 0+t.size≤100000
    omega
  have HV:=aa (Jr HS.out.size t HND.out 0 (-1) none none 0 [] [] (gF t.loc) w5 abu (fun _=>rfl) (.inr H18.out))
  have H5:=aa uQ;clear abu uQ;refine cj.jP 4 (by kernel_rfl) fun K hK=>?_
  simp only[eA,ei,dZ,eh];go_simp
  go_at_call 26
  refine HV.out.mono ?_;intro e w6 hp;have hE:my t=bo t 0 (gF t.loc):=rfl;rw[←hE] at hp;obtain⟨bY,oM⟩:=hp;have hB6:=H5.out.trans bY;have BY:=(hB6.block (w.heap.size+1) (by omega)).trans rZ.out
  have s0:w6.cell? ⟨w.heap.size+1,0,none⟩=some (.slice none 0 0):=ab BY 0;have s1:w6.cell? ⟨w.heap.size+1,1,none⟩=some (.slice none 0 0):=ab BY 1;have s2:w6.cell? ⟨w.heap.size+1,2,none⟩=some (.slice none 0 0):=ab BY 2;have u0:=av BY 0;have u1:=av BY 1;have u2:=av BY 2;have H6:=aa hB6;have BZ:=aa BY;clear bY hB6 BY;obtain⟨R,hR⟩ :∃R,R=my t:=⟨_,rfl⟩;rw[←hR] at oM;have RT:=aa hR;clear hR;cases R with
  | error x =>
   obtain⟨v,rfl,abv⟩:=oM;have HFL:=aa abv;obtain⟨g6,rfl,_⟩:=abv;go_wp2_with fail
   refine hK.out _ _ (fun h=>absurd h (by decide)) ?_
   clear hK K
   (try simp only[Act.put,dY,dQ,dR])
   refine cj.jP 5 (by kernel_rfl) fun K hK=>?_
   simp only[eA,ei,dZ,eh];go_simp
   refine hK.out _ _ (fun h=>absurd h (by decide)) ?_
   clear hK K
   (try simp only[Act.put,dY,dQ,dR])
   refine cj.done (by kernel_rfl) ?_ _
   go_wp2_with fail
   have h7:=bt (bt (bt BZ.out 0 (.slice none 0 0)) 1 (.slice none 0 0)) 2 (.slice none 0 0);have FI:Below w.heap.size w6 (((w6.setCell ⟨w.heap.size+1,0,none⟩ (.slice none 0 0)).setCell ⟨w.heap.size+1,1,none⟩ (.slice none 0 0)).setCell ⟨w.heap.size+1,2,none⟩ (.slice none 0 0)):=(((Below.refl _ _).setCell (p:=⟨w.heap.size+1,0,none⟩) (by show _≤w.heap.size+1;omega) _).setCell (p:=⟨w.heap.size+1,1,none⟩) (by show _≤w.heap.size+1;omega) _).setCell (p:=⟨w.heap.size+1,2,none⟩) (by show _≤w.heap.size+1;omega) _
   have TX:Fr [35] w6 (((w6.setCell ⟨w.heap.size+1,0,none⟩ (.slice none 0 0)).setCell ⟨w.heap.size+1,1,none⟩ (.slice none 0 0)).setCell ⟨w.heap.size+1,2,none⟩ (.slice none 0 0)):=((Fr.set BZ.out (by decide) _ _).trans (Fr.set (bt BZ.out 0 _) (by decide) _ _)).trans (Fr.set (bt (bt BZ.out 0 _) 1 _) (by decide) _ _)
   generalize ((w6.setCell ⟨w.heap.size+1,0,none⟩ (.slice none 0 0)).setCell ⟨w.heap.size+1,1,none⟩ (.slice none 0 0)).setCell ⟨w.heap.size+1,2,none⟩ (.slice none 0 0)=W7 at h7 FI TX ⊢;have c0:W7.cell? ⟨w.heap.size+1,0,none⟩=some (.slice none 0 0):=ab h7 0;have c1:W7.cell? ⟨w.heap.size+1,1,none⟩=some (.slice none 0 0):=ab h7 1;have c2:W7.cell? ⟨w.heap.size+1,2,none⟩=some (.slice none 0 0):=ab h7 2;refine bodyPost_ret (v:=.tuple #[gP,.iface 83 (.pointer (some ⟨g6,0,none⟩))]) (by simp[results,Tryz.results11,go_sem,gP,c0,c1,c2]) rfl ⟨(B2.out.trans (H6.out.mono B2.out.size)).trans FI,?_⟩
   rw[←RT.out];refine⟨_,rfl,?_⟩;obtain⟨g,e1,e2⟩:=HFL.out;exact⟨g,e1,TX.cells g _ _ _ e2 (by decide)⟩
  | ok st =>
   obtain⟨rfl,Qc,adk,_⟩:=oM;obtain⟨fv,FL,ZK⟩:=Qc;obtain⟨FA,fc,hfv,_,_⟩:=dv ZK.fns.row;subst hfv;have r1:w6.cell? ⟨b,1,none⟩=some (.slice FA FL.length fc):=ab ZK.blk 1;have r2:w6.cell? ⟨b,2,none⟩=some (.slice (some ⟨ub,0,none⟩) T.length T.length):=ab ZK.blk 2;have r3:w6.cell? ⟨b,3,none⟩=some (.slice (some ⟨ob,0,none⟩) T.length T.length):=ab ZK.blk 3;have adl:=aa ZK;clear ZK adk;go_wp2_with fail
   refine hK.out _ _ (fun h=>absurd h (by decide)) ?_
   clear hK K
   (try simp only[Act.put,dY,dQ,dR])
   refine cj.jP 5 (by kernel_rfl) fun K hK=>?_
   simp only[eA,ei,dZ,eh];go_simp
   refine hK.out _ _ (fun h=>absurd h (by decide)) ?_
   clear hK K
   (try simp only[Act.put,dY,dQ,dR])
   refine cj.done (by kernel_rfl) ?_ _
   go_wp2_with fail
   have h7:=bt (bt (bt BZ.out 0 (.slice FA FL.length fc)) 1 (.slice (some ⟨ub,0,none⟩) T.length T.length)) 2 (.slice (some ⟨ob,0,none⟩) T.length T.length);have FI:Below w.heap.size w6 (((w6.setCell ⟨w.heap.size+1,0,none⟩ (.slice FA FL.length fc)).setCell ⟨w.heap.size+1,1,none⟩ (.slice (some ⟨ub,0,none⟩) T.length T.length)).setCell ⟨w.heap.size+1,2,none⟩ (.slice (some ⟨ob,0,none⟩) T.length T.length)):=(((Below.refl _ _).setCell (p:=⟨w.heap.size+1,0,none⟩) (by show _≤w.heap.size+1;omega) _).setCell (p:=⟨w.heap.size+1,1,none⟩) (by show _≤w.heap.size+1;omega) _).setCell (p:=⟨w.heap.size+1,2,none⟩) (by show _≤w.heap.size+1;omega) _
   have TX:Fr [35] w6 (((w6.setCell ⟨w.heap.size+1,0,none⟩ (.slice FA FL.length fc)).setCell ⟨w.heap.size+1,1,none⟩ (.slice (some ⟨ub,0,none⟩) T.length T.length)).setCell ⟨w.heap.size+1,2,none⟩ (.slice (some ⟨ob,0,none⟩) T.length T.length)):=((Fr.set BZ.out (by decide) _ _).trans (Fr.set (bt BZ.out 0 _) (by decide) _ _)).trans (Fr.set (bt (bt BZ.out 0 _) 1 _) (by decide) _ _)
   generalize ((w6.setCell ⟨w.heap.size+1,0,none⟩ (.slice FA FL.length fc)).setCell ⟨w.heap.size+1,1,none⟩ (.slice (some ⟨ub,0,none⟩) T.length T.length)).setCell ⟨w.heap.size+1,2,none⟩ (.slice (some ⟨ob,0,none⟩) T.length T.length)=W7 at h7 FI TX ⊢;have c0:W7.cell? ⟨w.heap.size+1,0,none⟩=some (.slice FA FL.length fc):=ab h7 0;have c1:W7.cell? ⟨w.heap.size+1,1,none⟩=some (.slice (some ⟨ub,0,none⟩) T.length T.length):=ab h7 1;have c2:W7.cell? ⟨w.heap.size+1,2,none⟩=some (.slice (some ⟨ob,0,none⟩) T.length T.length):=ab h7 2;refine bodyPost_ret (v:=.tuple #[.agg #[.slice FA FL.length fc,.slice (some ⟨ub,0,none⟩) T.length T.length,.slice (some ⟨ob,0,none⟩) T.length T.length],.nilIface]) (by simp[results,Tryz.results11,go_sem,c0,c1,c2]) rfl ⟨(B2.out.trans (H6.out.mono B2.out.size)).trans FI,?_⟩
   rw[←RT.out];exact⟨_,_,B2.out.size,rfl,(adl.out.fr TX (by decide)).scope⟩
mutual
def Every (Q:Nd→Prop):Ast→Prop
 | .mk h ks=>Q h∧pI Q ks
def pI (Q:Nd→Prop):List Ast→Prop
 | []=>True
 | a::xs=>Every Q a∧pI Q xs
end
mutual
theorem B9 :∀a:Ast,WT a→Every WS a
 | .mk h ks,hs=>by
  unfold WT at hs;unfold Every;exact⟨hs.1,xQ ks hs.2⟩
theorem xQ :∀l:List Ast,WU l→pI WS l
 | [],_=>by unfold pI;trivial
 | a::l,hs=>by
  unfold WU at hs;unfold pI;exact⟨B9 a hs.1,xQ l hs.2⟩
end
mutual
theorem gQ.every {T:List Nd} {Q:Nd→Prop} (hQ :∀h ks,Q h→Q { h with kids:=ks}) :∀(a:Ast) (i:Nat) (js:List Nat),gQ T a i js→Every Q a→∀j∈js,∀x,T[j]? = some x→Q x
 | .mk h xs,i,js,hr,hs=>by
  unfold gQ at hr;unfold Every at hs;obtain⟨x,sA,hx,he,hr2,rfl⟩:=hr;intro j hj y hy;rcases bc.1 hj with rfl|hj
  ·rw[hx] at hy
   injection hy with hy;rw[←hy,he];exact hQ h _ hs.1
  ·exact bu.every hQ xs x.kids sA hr2 hs.2 j hj y hy
theorem bu.every {T:List Nd} {Q:Nd→Prop} (hQ :∀h ks,Q h→Q { h with kids:=ks}) :∀(l:List Ast) (ks:List Int) (js:List Nat),bu T l ks js→pI Q l→∀j∈js,∀x,T[j]? = some x→Q x
 | [],ks,js,hr,_=>by
  unfold bu at hr;obtain⟨_,rfl⟩:=hr;intro j hj;simp at hj
 | a::l,ks,js,hr,hs=>by
  unfold bu at hr;unfold pI at hs;obtain⟨k,iu,j1,j2,rfl,h1,h2,rfl⟩:=hr;intro j hj y hy;rcases cU.1 hj with hj|hj
  ·exact gQ.every hQ a k j1 h1 hs.1 j hj y hy
  ·exact bu.every hQ l iu j2 h2 hs.2 j hj y hy
end
theorem ep.alone {T:List Nd} {a:Ast} {p:Nat} (h:ep [] T [a] [(p:Int)]) :∃js,gQ T a p js∧js.Nodup∧js.length=T.length∧∀j,j<T.length→j∈js:=by
 obtain⟨_,js,hr,xo⟩:=h;unfold bu at hr;obtain⟨k,iu,j1,j2,ek,hr1,hr2,ej⟩:=hr;unfold bu at hr2;obtain⟨_,rfl⟩:=hr2;have ek2:k=p:=by injection ek with ek _;omega
 subst ek2;rw[jX] at ej;subst ej;exact⟨_,hr1,xo.nodup_iff.2 (List.nodup_range' ..),by rw[xo.length_eq,J7];simp,fun j hj=>xo.mem_iff.2 (by rw[List.mem_range'_1];simp;exact hj)⟩
theorem ep.every {T:List Nd} {a:Ast} {p:Nat} {Q:Nd→Prop} (h:ep [] T [a] [(p:Int)]) (hQ :∀h ks,Q h→Q { h with kids:=ks}) (hs:Every Q a) :∀x∈T,Q x:=fun x hx=>by
 obtain⟨js,h1,h2,h3,h4⟩:=h.alone;obtain⟨j,hj⟩:=jV.1 hx;exact gQ.every hQ a p js h1 hs j (h4 j (aJ.1 hj).1) x hj
theorem zk (x:Nd) (ks:List Int):dc { x with kids:=ks}=dc x:=rfl
theorem D1 {s:ByteArray} (h:gC s=true):s.size≤65536:=by
 unfold gC at h;simp only[dj] at h;exact gU h.1.1.1.2
mutual
theorem Pv :∀(a:Ast) (t:Lt),zw id a.lt t→t.wt=a.wt
 | .mk h as',.mk i x ks,hs=>by
  rw[Ast.lt] at hs;unfold zw at hs;obtain⟨_,_,_,h4,h5⟩:=hs;have h4:x.names=h.names.map id:=h4;have h5:dO id (Ast.SU as') ks:=h5;rw[Lt.wt,Ast.wt,FV as' ks h5,h4,List.map_id]
theorem FV :∀(l:List Ast) (ks:List Lt),dO id (Ast.SU l) ks→Lt.eD ks=Ast.eD l
 | [],ks,hs=>by
  rw[Ast.SU] at hs;unfold dO at hs;rw[hs,Lt.eD,Ast.eD]
 | a::l,ks,hs=>by
  rw[Ast.SU] at hs;unfold dO at hs;obtain⟨t,ts,rfl,h1,h2⟩:=hs;rw[Lt.eD,Ast.eD,Pv a t h1,FV l ts h2]
end
theorem sV {T:List Nd} {r:Int} (h:fH T r=true) :∀x∈T,∀s∈x.names,s.size≤65536:=fun x hx s hs=>by
 obtain⟨h1,h2,h3,h4⟩:=(eT dc qf gW).1 h;obtain⟨i,hi⟩:=jV.1 hx;exact D1 ((OU ((oW dc qf gW).1 (h4 i x hi)).2.1).all s hs)
structure D3 (a:Ast):Prop where
 ok:Ast.ok dc qf gW a=true
 kind:a.hd.kind=18
 sm:WT a
 size:a.size≤16384
 wt:a.wt≤50000
def abw (s:ByteArray):Prop:=∀(ts ax:List aj) (a:Ast),ky (dy s) s.data.toList (.ok ts)→ts.length≤s.size+1→PL rf ts (.ok (a,ax))→D3 a
theorem TY {s:ByteArray} {ts ax:List aj} {a:Ast} (hl:ky (dy s) s.data.toList (.ok ts)) (hp:PL rf ts (.ok (a,ax))) (ha:D3 a):abw s:=fun iy adm a2 h1 _ h2=>by
 have e1:=hl.s5 h1;injection e1 with e1;subst e1;have e2:=hp.one h2;injection e2 with e2;injection e2 with e2 _;subst e2;exact ha
structure abx (T:List Nd) (p:Nat) (a:Ast) (t:Lt):Prop where
 right:fH T (p:Int)=true
 sml:ZI T
 few:T.length≤16384
 vQ:Lt.In T t
 loc:t.loc=p
 nodup:t.dI.Nodup
 all :∀j,j<T.length↔j∈t.dI
 nod:lx T t
 kind:t.hd.kind=18
 wt:t.wt≤50000
 size:t.size=T.length
 sim:zw id a.lt t
theorem Pw {a:Ast} {T:List Nd} {p:Nat} (hA:D3 a) (hd:a.depth≤100) (hL:ep [] T [a] [(p:Int)]) :∃t,abx T p a t:=by
 have hm:=hA.sm;have hN:T.length≤16384:=by
  have h1:=hL.len;have h2:=hA.size;rw[uJ] at h1;simp at h1;omega
 obtain⟨js,r1,r2,r3,r4⟩:=hL.alone;have hrt:fH T (p:Int)=true:=by
  unfold fH;rw[Gi zk r1 r2 r3 hN,hA.ok,bX hd,bX hA.kind];rfl
 have h1:=hL.every (Q:=WS) (fun x ks hx=>hx) (B9 a hm)
 obtain⟨t,e1,e2,e3,e4⟩:=ND a p js r1;have hlt:=gQ.lt a p js r1;have bw :∀x∈T,x.kids.length≤20000:=fun x hx=>by
  obtain⟨_,_,_,h4⟩:=(eT dc qf gW).1 hrt;obtain⟨d,m,hs,_,_⟩:=Gc dc qf gW hrt;obtain⟨i,hi⟩:=jV.1 hx;have:=(BU hs hi).2;omega
 have hk:t.hd.kind=18:=by
  obtain⟨_,_,h3,_⟩:=(eT dc qf gW).1 hrt;have:=(yR e1).2.1;rw[e2] at this;rw[←h3,iI,lA this]
 have hT :∀x∈T,qf x.kind x.num (x.kids.map fun k=>gW (dD T k.toNat))=true:=fun x hx=>by
  obtain⟨_,_,_,h4⟩:=(eT dc qf gW).1 hrt;obtain⟨i,hi⟩:=jV.1 hx;exact((oW dc qf gW).1 (h4 i x hi)).2.2
 refine⟨t,hrt,⟨fun x hx=>⟨bw x hx,by have:=(h1 x hx).2.2.2.1;omega⟩,fun x hx=>⟨by have:=(h1 x hx).2.2.1;omega,sV hrt x hx⟩⟩,hN,e1,e2,by rw[e3];exact r2,fun j=>by rw[e3];exact⟨r4 j,hlt j⟩,OV hT e1 (by rw[e3];exact r2) (by rw[hk];decide),hk,?_,?_,e4⟩
 ·rw[Pv a t e4]
  exact hA.wt
 ·rw[←Lt.rJ,e3,r3]
theorem Jt:(Tryz.prog.info? 79).map (·.comparable)=some true:=by kernel_rfl
theorem xR (m k:Int) (w:World):(binOp .eql 27 (.iface 79 (.int .i64 m)) (.iface 79 (.int .i64 k))).run Tryz.prog w=.ok (.bool (m == k)) w:=Lib.run_eql_iface_int w m k Tryz.underlying27 Jt Tryz.underlying79
theorem YV (v:Value) (n:Int) (k:Nat) (w:World) (h:oA w) (hf:Nc w v n (k:Int)) (hk:1≤k∧k≤19):Calls Tryz.prog 13 #[v] w fun e w'=>e=.returned (.tuple #[.int .i64 (k:Int),.int .i64 n])∧Below w.heap.size w w':=by
 obtain⟨g,rfl,hg⟩:=hf;have qU:g<w.heap.size:=(aF.1 hg).1;have A1:=aa (SD g w h);have HG:=aa hg;clear h hg;go_enter Tryz.func13,Tryz.ntmps13
 go_wp2_with fail
 refine A1.out.mono ?_;rintro e w1 ⟨rfl,hc,hb⟩;have hg1:w1.heap[g]? = _:=(hb.block g qU).trans HG.out;have HB:=aa hb;have HI:=aa (SG g n (k:Int) w1 (fun w=>by rw[xR];simp) hg1)
 have HN:=aa (fun(j:Nat) (hj:j<k)=>SH g n (k:Int) (j:Int) w1 (fun w=>by rw[xR];congr 2;exact aC.2 (by omega)) hg1)
 have hc0:w1.cell? ⟨g,0,none⟩=some (.int .i64 n):=by simp[World.cell?,hg1]
 clear hg1 hb;go_wp2_with fail
 go_loop [5] (fun i=>∃j:Nat,1≤j∧j≤k∧i=.int .i64 j) (fun i=>k-(intOf i).toNat)
 case atStart=>exact⟨1,by omega,by omega,rfl⟩
 case round =>
  obtain⟨j,hj1,hj5,rfl⟩:=hrel;have hle:decide ((j:Int)≤19)=true:=bX (by omega)
  by_cases hjk:j<k
  ·have N1:=aa (HN.out j hjk)
   go_wp2_with (go_at_call 30;refine N1.out.mono ?_;rintro e w' ⟨rfl,rfl⟩)
   go_round
   case rel=>exact⟨j+1,by omega,by omega,by go_num⟩
   case measure=>simp[intOf];omega
  ·obtain rfl:j=k:=by omega
   go_wp2_with (go_at_call 30;refine HI.out.mono ?_;rintro e w' ⟨rfl,rfl⟩)
   go_quiet (fail)
   go_wp2_with fail
   go_ret2
   exact⟨rfl,HB.out.trans ⟨rfl,rfl,rfl,ah _,fun _ _=>rfl⟩⟩
end Go.Proofs.YteflkdlaoiijbaaGreatDoor
