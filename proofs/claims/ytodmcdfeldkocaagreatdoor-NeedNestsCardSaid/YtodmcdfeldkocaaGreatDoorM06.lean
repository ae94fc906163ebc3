/- Parts of the proof. -/
import Derived.StillTail
import Derived.Test.YtodmcdfeldkocaaGreatDoorM05
set_option maxHeartbeats 16000000
set_option maxRecDepth 20000
namespace Go.Proofs.YtodmcdfeldkocaaGreatDoor
open Go.RowKit
theorem yI.setOf {T:List Nd} {B b:Nat} {nv:Value} {ub ob f:Nat} {pa:Option Addr} {lv:Value} {ms:List Nat} {L:List cR} {st:aI} {w:World} {a s:Nat} (i:Nat) (h:yI T B b nv ub ob f pa lv ms L st w a s) (o:Obj):yI T B b nv ub ob f pa lv ms L (st.setOf i f) ((w.setCell ⟨ob,i,none⟩ (.int .i64 (f:Int))).alloc o).drew a s∧cU B ob lv L.length (eh L) w ((w.setCell ⟨ob,i,none⟩ (.int .i64 (f:Int))).alloc o).drew∧df ((w.setCell ⟨ob,i,none⟩ (.int .i64 (f:Int))).alloc o).drew B lv L:=by
 obtain⟨fv,FL,hw⟩:=h.rs;obtain⟨cs,hc⟩:=kU hw.vX;have kQ :∀top,cU B ob lv L.length top w (w.setCell ⟨ob,i,none⟩ (.int .i64 (f:Int))):=fun top=>cU.aaR hc hw.jc.2 i _
 have hB:B≤(w.setCell ⟨ob,i,none⟩ (.int .i64 (f:Int))).heap.size:=by have:=hw.mQ;have:=hw.pos;simp[World.setCell];omega
 have hf :∀top,cU B ob lv L.length top w ((w.setCell ⟨ob,i,none⟩ (.int .i64 (f:Int))).alloc o).drew:=fun top=>(kQ top).trans ((cU.bH (((Below.refl _ _).alloc (ah _) o).drew) hB))
 exact⟨⟨h.fC.below (hf none).below,⟨fv,FL,((hw.of_ i f).alloc o).drew⟩,⟨h.pos.fx.jk (hf none) (ah _),h.pos.blk.jk (hf none) (by simp),h.pos.names,h.pos.apart⟩,⟨h.cx.ok,h.cx.lt,h.cx.names⟩,h.few,h.fr,h.names,h.fns,h.fx⟩,hf _,h.pos.fx.jk (hf none) (ah _)⟩
theorem xu {T:List Nd} {B b:Nat} {nv:Value} {ub ob:Nat} (i f:Nat) (h:Nd) (ks tests:List Lt) (rep:Bool) (loop:Int) (pa la:Option Addr) (lc:Nat) (ms:List Nat) (L:List cR) (st:aI) (w:World) (tv:Value) (hr:yI T B b nv ub ob f pa (.slice la L.length lc) ms L st w (Lt.ey ks+Lt.ey tests) (Lt.al ks+Lt.al tests)) (hx:T[i]? = some h) (hk:h.kids=ks.map fun k=>(k.loc:Int)) (hn:fI T ks) (uP:fI T tests) (hV :∀k∈ks,bA T B b nv ub ob k) (hV2 :∀k∈tests,bA T B b nv ub ob k)
  (htv:qq B ob (.slice la L.length lc) L.length (eh L) w tv (tests.map fun k=>(k.loc:Int))) (S8:rep=decide (0<tests.length)) (hl :∀k∈ks,18≤k.hd.kind→loop=cM f st.frames) (hl2 :∀k∈tests,18≤k.hd.kind→loop=cM f st.frames) (hs :∀x∈ks,x.hd.s.size≤65536) (DM:tests.length≤20000) :
  Calls Tryz.prog 36 #[.pointer (some ⟨b,0,none⟩),.int .i64 (i:Int),.agg #[.int .i64 (f:Int),.int .i64 loop,.pointer pa,.slice la L.length lc],tv] w (ao B b nv T.length ub ob (.slice la L.length lc) L st ((wg i f rep ks tests st).map fun s=>s.back st) w):=by
 subst S8;obtain⟨bk,o,c,rfl,dU,cg,dJ⟩:=hr.fC.nodes;obtain⟨vM,vN,eT,⟨NA,nc,vQ,_⟩,e7⟩:=dJ i h hx;have rK:h.kids.length≤20000:=(hr.fC.small h (aX hx)).1;have oQ:h.kids.length=ks.length:=by rw[hk,bU]
 obtain⟨KA,kc,rl,wT,_⟩:=id e7;subst vQ rl;have HTV:=aa htv;obtain⟨TA,tc,rfl,htc,_⟩:=htv;have x6:=eT.c6;have v7:i<T.length:=(aK.1 hx).1;have pO:=hr.fC.few;obtain⟨fv,FL,hw⟩:=id hr.rs;obtain⟨hbl,ph,sZ⟩:=hw.mQ;have d0:w.cell? ⟨b,0,none⟩=some (.slice (some ⟨bk,o,none⟩) T.length c):=ae hw.blk 0;have d3:w.cell? ⟨b,3,none⟩=some (.slice (some ⟨ob,0,none⟩) T.length T.length):=ae hw.blk 3;obtain⟨u0,v0⟩:=cf hw.vX (j:=i) (by omega)
 have gT:bk<w.heap.size:=by omega
 have HR:=aa hr;have HN:=aa hn;have SZ:=aa uP;have HV:=aa hV;have HV2:=aa hV2;have HL:=aa hl;have HL2:=aa hl2;have HS:=aa hs;have IK:=aa e7;have HK:=aa hk;have sJ:=aa oQ;have HX:=aa hx;simp only[bU] at htc ⊢;clear hr hn uP hV hV2 hl hl2 hs e7 hk oQ hx dJ eT hw;go_enter Tryz.func36,Tryz.ntmps36
 go_wp2_with fail
 go_region
 have rk:=HR.out.setOf i (.cells #[.int .i64 (f:Int),.int .i64 loop,.pointer pa,.slice la L.length lc] 69);have eM:=heap_alloc_new (w.setCell ⟨ob,i,none⟩ (.int .i64 (f:Int))) (.cells #[.int .i64 (f:Int),.int .i64 loop,.pointer pa,.slice la L.length lc] 69);obtain⟨W1,hW1⟩ :∃W1,W1=((w.setCell ⟨ob,i,none⟩ (.int .i64 (f:Int))).alloc (.cells #[.int .i64 (f:Int),.int .i64 loop,.pointer pa,.slice la L.length lc] 69)).drew:=⟨_,rfl⟩;rw[←hW1] at rk;have lH:W1.heap[w.heap.size]? = some (.cells #[.int .i64 (f:Int),.int .i64 loop,.pointer pa,.slice la L.length lc] 69 (0,0)):=by
  rw[hW1];have e:(w.setCell ⟨ob,i,none⟩ (.int .i64 (f:Int))).heap.size=w.heap.size:=by simp[World.setCell]
  rw[e] at eM;exact eM
 rw[←hW1];clear hW1 eM d0 d3 u0 v0;have x6:=(rk.2.1.below.cell (p:=⟨bk,o+i*7+6,none⟩) dU).trans x6;have d0:W1.cell? ⟨b,0,none⟩=some (.slice (some ⟨bk,o,none⟩) T.length c):=by obtain⟨_,_,hw⟩:=rk.1.rs;exact ae hw.blk 0
 have k0:W1.cell? ⟨w.heap.size,0,none⟩=some (.int .i64 (f:Int)):=ae lH 0;have k1:W1.cell? ⟨w.heap.size,1,none⟩=some (.int .i64 loop):=ae lH 1;have k2:W1.cell? ⟨w.heap.size,2,none⟩=some (.pointer pa):=ae lH 2;have k3:W1.cell? ⟨w.heap.size,3,none⟩=some (.slice la L.length lc):=ae lH 3;have HZ:=aa rk.1;have fB:=aa rk.2.1;have pA:=aa rk.2.2;have Bl:=aa lH;have HOP:=aa (xt loop rk.1);clear rk lH;go_wp2_with fail
 refine HOP.out.mono ?_;rintro e w2 ⟨g,c6,m,rfl,hr2,hm,hg,hf2⟩;have sG:=hf2.cells _ _ _ _ Bl.out (by decide)
 have y0:=aH sG 0;have y1:=aH sG 1;have y2:=aH sG 2;have y3:=aH sG 3;have k0:w2.cell? ⟨w.heap.size,0,none⟩=some (.int .i64 (f:Int)):=ae sG 0;have k1:w2.cell? ⟨w.heap.size,1,none⟩=some (.int .i64 loop):=ae sG 1;have k2:w2.cell? ⟨w.heap.size,2,none⟩=some (.pointer pa):=ae sG 2;have k3:w2.cell? ⟨w.heap.size,3,none⟩=some (.slice la L.length lc):=ae sG 3;have hpl:w.heap.size<w2.heap.size:=(aO.1 sG).1;have YA:=aa sG;have v8:=aa hr2;have HM:=aa hm;have HG:=aa hg;have lV:=aa hf2;clear sG hr2 hm hg hf2;go_wp2_with fail
 obtain⟨W3,hW3⟩ :∃W3,W3=four w2 w.heap.size (.int .i64 (f:Int)) (.int .i64 loop) (.pointer pa) (.slice (some ⟨g,0,none⟩) (L.length+1) c6):=⟨_,rfl⟩;have kn:vO w2 w.heap.size 69:=⟨_,_,YA.out⟩;have WD:W3.heap[w.heap.size]? = some (.cells #[.int .i64 (f:Int),.int .i64 loop,.pointer pa,.slice (some ⟨g,0,none⟩) (L.length+1) c6] 69 (0,0)):=by
  rw[hW3];exact bM (bM (bM (bM YA.out 0 _) 1 _) 2 _) 3 _
 have hF3:Fr [69] w2 W3:=by rw[hW3];exact u4 kn _ _ _ _
 have YP:Below B w2 W3:=by rw[hW3];exact pz w2 cg _ _ _ _
 have hK3 :∀k,k≠w.heap.size→W3.heap[k]? = w2.heap[k]?:=by rw[hW3];exact fun k hk=>nj w2 _ _ _ _ _ k hk
 have hs3:W3.heap.size=w2.heap.size:=by rw[hW3];simp[four,World.setCell]
 unfold four at hW3;rw[←hW3];have hrun:=run_makeMap (P:=Tryz.prog) 148 W3;have k0:W3.cell? ⟨w.heap.size,0,none⟩=some (.int .i64 (f:Int)):=ae WD 0;have k1:W3.cell? ⟨w.heap.size,1,none⟩=some (.int .i64 loop):=ae WD 1;have k2:W3.cell? ⟨w.heap.size,2,none⟩=some (.pointer pa):=ae WD 2;have k3:W3.cell? ⟨w.heap.size,3,none⟩=some (.slice (some ⟨g,0,none⟩) (L.length+1) c6):=ae WD 3;have y2:=aH WD 2;have hpl:w.heap.size<W3.heap.size:=(aO.1 WD).1;have YB:=aa WD;have Fx:=aa hF3;have yz:=aa YP;have HK3:=aa hK3;have oU:=aa hs3;clear hW3 kn WD hF3 YP hK3 hs3 y0 y1 y3;rw[hrun];clear hrun;go_wp2_with fail
 obtain⟨W4,YQ⟩ :∃W4,W4=((W3.setCell ⟨w.heap.size,2,none⟩ (.pointer (some ⟨W3.heap.size+1,0,none⟩))).alloc (.map #[] 0)).alloc (.cells #[.pointer pa,.map (some W3.heap.size),.int .i64 0] 150):=⟨_,rfl⟩;rw[←YQ];obtain⟨Wa,YR⟩ :∃Wa,Wa=W3.setCell ⟨w.heap.size,2,none⟩ (.pointer (some ⟨W3.heap.size+1,0,none⟩)):=⟨_,rfl⟩;rw[←YR] at YQ;have hsa:Wa.heap.size=W3.heap.size:=by rw[YR];simp[World.setCell]
 have hFa:Fr [69] W3 Wa:=by rw[YR];exact Fr.set YB.out (by decide) _ _
 have hBa:Below B W3 Wa:=by rw[YR];exact(Below.refl B W3).setCell (p:=⟨w.heap.size,2,none⟩) cg _
 have hPa:Wa.heap[w.heap.size]? = some (.cells #[.int .i64 (f:Int),.int .i64 loop,.pointer (some ⟨W3.heap.size+1,0,none⟩),.slice (some ⟨g,0,none⟩) (L.length+1) c6] 69 (0,0)):=by rw[YR];exact bM YB.out 2 _
 have hKa :∀k,k≠w.heap.size→Wa.heap[k]? = W3.heap[k]?:=by rw[YR];exact fun k hk=>Below.heap_setCell _ _ _ k hk
 have hab:Below Wa.heap.size Wa W4:=by rw[YQ];exact Below.two _ _
 have hs4:W4.heap.size=W3.heap.size+2:=by rw[YQ,aq,aq,hsa]
 have YS:dL Tryz.prog 9 W4 W3.heap.size 0 (fun _=>none):=by
  rw[YQ,←hsa];exact(dL.made Wa Tryz.prog 9).same (Below.heap_alloc _ _ _ (by rw[aq];omega))
 have hkb:W4.heap[W3.heap.size+1]? = some (.cells #[.pointer pa,.map (some W3.heap.size),.int .i64 0] 150 (0,0)):=by
  rw[YQ];have:=heap_alloc_new (Wa.alloc (.map #[] 0)) (.cells #[.pointer pa,.map (some W3.heap.size),.int .i64 0] 150);rwa[aq,hsa] at this
 clear YQ YR;have hF4:Fr [69] W3 W4:=hFa.trans (Fr.af hab);have MK:Below B W3 W4:=hBa.trans (hab.mono (by have:=v8.out.world;have:=oU.out;omega))
 have hP4:=(hab.block w.heap.size (by omega)).trans hPa
 have hK4 :∀k,k<W3.heap.size→k≠w.heap.size→W4.heap[k]? = W3.heap[k]?:=fun k hk hn=>(hab.block k (by omega)).trans (hKa k hn)
 clear hab hsa hFa hBa hPa hKa Wa k0 k1 k2 k3 y2 d0 x6;have hr4:=(v8.out.SX Fx.out yz.out).SX hF4 MK;have Hl:cU B ob (.slice la L.length lc) L.length (eh L) w W4:=(fB.out.trans (lV.out.Fu _)).past ((yz.out.trans MK)) fun k hk=>(hK4 k (by omega) (by omega)).trans (HK3.out k (by omega))
 have hlv:df W4 B (.slice la L.length lc) L:=((pA.out.jk lV.out (ah _)).fr Fx.out (by decide)).fr hF4 (by decide)
 have Sy :∀a,pa=some a→a.block<W3.heap.size+1:=fun a ha=>by have:=cb.first (v8.out.SX Fx.out yz.out).pos.blk a ha;omega
 have hms :∀x∈ms,x<W3.heap.size:=cb.lt (v8.out.SX Fx.out yz.out).pos.blk;have hbs :∀l∈(⟨f,m,[]⟩::L:List cR),l.blk<W3.heap.size:=fun l hl=>((v8.out.SX Fx.out yz.out).pos.fx.maps l hl).1.lt
 have Wm:B≤W3.heap.size:=(v8.out.SX Fx.out yz.out).world;have hww:w.heap.size≤W3.heap.size:=fu hpl;generalize hmb:W3.heap.size=mb at *;have WE:Hid (Calls Tryz.prog 76 #[.pointer (some ⟨b,0,none⟩),.pointer (some ⟨mb+1,0,none⟩),.slice KA h.kids.length kc,.bool (decide (0<tests.length))] W4 (AS mb ks (decide (0<tests.length)) (b9 st.frames f ks 0 ks) W4)):=by
  obtain⟨fv4,FL4,hw4⟩:=hr4.rs;exact aa (MH b (mb+1) mb f pa (.slice KA h.kids.length kc) ks st.frames ms (decide (0<tests.length)) fv4 _ _ W4 hr4.fC hw4.blk (by rw[←HK.out];exact IK.out.below Hl.below) HN.out.yF (by have:=sJ.out;omega) hkb YS hr4.pos.blk Sy (fun Nr=>by have:=hms mb Nr;omega) (by omega) Wm HS.out)
 have HR4:=aa hr4;have HFO:=aa Hl;have WB:=aa hlv;have HPK:=aa Sy;have HMS:=aa hms;have HBS:=aa hbs;have HM4:=aa YS;have HKB:=aa hkb;have HP4:=aa hP4;have HS4:=aa hs4;have Wz:(Value.slice la L.length lc).ownBlock=some g∨w.heap.size≤g:=HG.out.imp id fun h=>by have:=fB.out.below.size;omega
 have WA:w.heap.size≤m:=by have:=HM.out;have:=fB.out.below.size;omega
 have HOW:=aa Wz;have WC:=aa WA;have HWW:=aa hww;have S9:B≤mb:=Wm;clear hr4 Hl hlv Sy hms hbs YS hkb hP4 hs4 hF4 MK hK4 Wz WA hww Wm hmb hpl;refine WE.out.mono ?_;intro e w5 hp;obtain⟨RE,hp⟩:=hp;cases Ss:b9 st.frames f ks 0 ks with
 | some l =>
  rw[Ss] at hp;obtain⟨v,rfl,g2,rfl,h2⟩:=hp;have H2:=aa h2;have HE:Hid (((wg i f (decide (0<tests.length)) ks tests st).map fun s=>s.back st)=.error (9,l)):=aa (by
   show Except.map _ (Except.bind (gY i f _ ks (st.setOf i f)) _)=_
   rw[Bk];show Except.map _ (Except.bind (match b9 st.frames f ks 0 ks with|some l=>_|none=>_) _)=_
   rw[Ss];rfl)
  have HG5:=aa RE;clear h2 Ss RE;go_wp2_with fail
  go_ret
  rw[HE.out];exact⟨HFO.out.below.trans (j9 HG5.out S9 HR4.out.world),_,rfl,_,rfl,H2.out⟩
 | none =>
  rw[Ss] at hp;obtain⟨rfl,hm5⟩:=hp;have hZ1:=HZ.out;have ur:Hid (BS B mb g m pa (.slice la L.length lc) ms L w):=aa ⟨HOW.out,WC.out,HWW.out,S9,HPK.out,HMS.out,fun l hl=>HBS.out l (bO _ hl),HBS.out ⟨f,m,[]⟩ (bP ..),fun l hl=>by have:=hZ1.levels l hl;have:=HM.out;omega,cg⟩
  obtain⟨s0,hs0⟩ :∃s0:aI,s0={ st.setOf i f with frames:=⟨f,i,0,false,decide (0<tests.length),ks⟩::st.frames}:=⟨_,rfl⟩;have sY:=eX RE HM4.out.isMap;have HI:Hid (BI T B b (.slice (some ⟨bk,o,none⟩) T.length c) ub ob f i mb g c6 m (decide (0<tests.length)) ks tests pa (.slice la L.length lc) ms L st.frames loop w 0 [] s0 w5):=by
   refine aa ⟨?_,by rw[hs0],by rw[Az];exact sY _ _ _ _ HKB.out,hm5,sY _ _ _ _ HP4.out,HFO.out.past (j9 RE S9 HR4.out.world) fun k hk=>RE.block k (by have:=HFO.out.below.size;omega) (fun e=>by injection e with e;have:=HWW.out;omega),WB.out.grown RE HM4.out.isMap fun l hl=>by have:=HBS.out l (bO _ hl);omega⟩
   have h1:=HR4.out.grown RE HM4.out.isMap S9 (fun Nr=>by have:=HMS.out mb Nr;omega) (fun l hl=>by have:=HBS.out l hl;omega)
   rw[hs0,oJ,jH];exact h1
  obtain⟨R,hR⟩ :∃R,R=cL ks 0 f s0:=⟨_,rfl⟩;have HE:Hid (((wg i f (decide (0<tests.length)) ks tests st).map fun s=>s.back st)=(R.bind fun s2=>aE tests f s2).map fun s=>s.back st):=aa (by
   rw[hR,hs0];show Except.map _ (Except.bind (gY i f _ ks (st.setOf i f)) _)=_
   rw[Bk];show Except.map _ (Except.bind (match b9 st.frames f ks 0 ks with|some l=>_|none=>_) _)=_
   rw[Ss];rfl)
  have HRS:=aa hR;clear hR hs0 sY Ss hm5 RE hZ1 HZ fB pA Bl HOP YA v8 HM HG lV YB Fx yz HK3 oU WE HR4 HFO WB HPK HMS HBS HM4 HKB HP4 HS4 HOW WC HWW;go_wp2_with fail
  go_loopw [52] (fun tk wr=>∃(n:Nat) (x:List jw) (s1:aI),tk=.int .i64 (n:Int)∧n≤ks.length∧BI T B b (.slice (some ⟨bk,o,none⟩) T.length c) ub ob f i mb g c6 m (decide (0<tests.length)) ks tests pa (.slice la L.length lc) ms L st.frames loop w n x s1 wr∧cL (ks.drop n) n f s1=R) (fun tk _=>h.kids.length-(intOf tk).toNat)
  case atStart=>exact⟨0,[],s0,rfl,bo _,HI.out,by rw[oJ];exact HRS.out.symm⟩
  case round =>
   obtain⟨n,x,s1,rfl,zz,FV,hrn⟩:=hrel;have p0:wr.cell? ⟨w.heap.size,0,none⟩=some (.int .i64 (f:Int)):=ae FV.box 0;have p1:wr.cell? ⟨w.heap.size,1,none⟩=some (.int .i64 loop):=ae FV.box 1;have p2:wr.cell? ⟨w.heap.size,2,none⟩=some (.pointer (some ⟨mb+1,0,none⟩)):=ae FV.box 2;have p3:wr.cell? ⟨w.heap.size,3,none⟩=some (.slice (some ⟨g,0,none⟩) (L.length+1) c6):=ae FV.box 3;have q2:wr.cell? ⟨mb+1,2,none⟩=some (.int .i64 (gS ks n:Int)):=ae FV.kb 2;have z2:=aH FV.kb 2;have hne:w.heap.size≠mb+1:=by have:=ur.out.old;omega
   have hdc:gS ks n≤20000:=aL (LY ks n) (by have:=sJ.out;omega)
   have xw:=aa FV;have SV:=aa hrn;clear FV hrn;by_cases hlt:n<h.kids.length
   ·obtain⟨k,hk⟩ :∃k,ks[n]? = some k:=⟨ks[n]'(by have:=sJ.out;omega),bG _⟩
    obtain⟨A',c',he,_,eF⟩:=IK.out.below xw.out.jk.below;injection he with qp _ MD;subst qp MD;rcases eF with h0 | ⟨sb,so,rfl,yD,hsc⟩
    ·rw[h0] at hlt;exact absurd hlt (jA _)
    have cs:wr.cell? ⟨sb,so+n,none⟩=some (.int .i64 (k.loc:Int)):=hsc n _ (by rw[HK.out,eO,hk];rfl)
    obtain⟨Yr,Iu⟩:=uy HN.out.yF hk;have wU:k.loc<T.length:=(aK.1 Iu).1;have HKM:=aa (aX hk);have hdr:=drop_at hk;have uq:=aa hdr;have zB:=aa hk;have jf:=aa hlt;have d0:wr.cell? ⟨b,0,none⟩=some (.slice (some ⟨bk,o,none⟩) T.length c):=by obtain⟨_,_,hw⟩:=xw.out.rd.rs;exact ae hw.blk 0
    have MJ:Hid (Calls Tryz.prog 77 #[.pointer (some ⟨b,0,none⟩),.int .i64 (k.loc:Int)] wr fun e w'=>e=.returned (.bool (isDecl k))∧wr=w'):=aa (sD b k.loc k.hd wr xw.out.rd.fC d0 Iu)
    clear hdr hk Yr Iu hsc d0;cases Dv:isDecl k with
    | false =>
     rw[Dv] at MJ;have HDX:=aa Dv;clear Dv;go_wp2_with fail
     refine MJ.out.mono ?_;rintro e w2 ⟨rfl,rfl⟩;go_wp2_with fail
     obtain⟨r1,r2,r3,r4,r5⟩:=xw.out.ready ur.out zB.out (.inl ⟨rfl,HDX.out⟩);have bs:=HV.out k HKM.out f loop (some ⟨mb+1,0,none⟩) (some ⟨g,0,none⟩) c6 (mb::ms) (grow x (⟨f,m,[]⟩::L)) (s1.at n) _ (by rw[cz];exact r1.mono (gD _ _) (gD _ _)) (fun h=>by rw[FU xw.out.frames n];exact(HL.out k HKM.out h).trans (uL rfl _).symm) (.inl (qx (by simp)))
     rw[cz,List.length_cons] at bs;have R1:=aa r1;have R2:=aa r2;have R3:=aa r3;have R4:=aa r4;have R5:=aa r5;clear r1 r2 r3 r4 r5;refine bs.mono ?_;clear bs;intro e w3 hp;cases dJ:aY k f (s1.at n) with
     | error y =>
      rw[dJ] at hp;obtain⟨hb,v,rfl,g2,rfl,h2⟩:=hp;have H2:=aa h2;have HB:=aa hb;have Ta:Hid (R=.error y):=aa (by rw[←SV.out,uq.out,fW,dJ];rfl)
      clear h2 hb dJ;go_wp2_with fail
      go_ret
      rw[HE.out,Ta.out];exact⟨R4.out.below.trans HB.out,_,rfl,_,rfl,H2.out⟩
     | ok s2 =>
      rw[dJ] at hp;obtain⟨rfl,y,FV⟩:=BI.next ur.out (HN.out.at_ k HKM.out) xw.out.frames R1.out R2.out R3.out R4.out R5.out dJ hp;have HBN:=aa FV;have Ta:Hid (cL (ks.drop (n+1)) (n+1) f s2=R):=aa (by rw[←SV.out,uq.out,fW,dJ];rfl)
      clear hp FV dJ;go_wp2_with fail
      exact⟨⟨n+1,y++x,s2,by go_num,by have:=jf.out;have:=sJ.out;omega,HBN.out,Ta.out⟩,by have:=jf.out;simp[intOf];omega⟩
    | true =>
     rw[Dv] at MJ;have HDX:=aa Dv;clear Dv;go_wp2_with fail
     refine MJ.out.mono ?_;rintro e w2 ⟨rfl,rfl⟩;go_wp2_with fail
     obtain⟨r1,r2,r3,r4,r5⟩:=xw.out.ready ur.out zB.out (.inr ⟨rfl,HDX.out⟩);have bs:=HV.out k HKM.out f loop (some ⟨mb+1,0,none⟩) (some ⟨g,0,none⟩) c6 (mb::ms) (grow x (⟨f,m,[]⟩::L)) (s1.at n) _ (by rw[cz];exact r1.mono (gD _ _) (gD _ _)) (fun h=>by rw[FU xw.out.frames n];exact(HL.out k HKM.out h).trans (uL rfl _).symm) (.inl (qx (by simp)))
     rw[cz,List.length_cons] at bs;have R1:=aa r1;have R2:=aa r2;have R3:=aa r3;have R4:=aa r4;have R5:=aa r5;clear r1 r2 r3 r4 r5;refine bs.mono ?_;clear bs;intro e w3 hp;cases dJ:aY k f (s1.at n) with
     | error y =>
      rw[dJ] at hp;obtain⟨hb,v,rfl,g2,rfl,h2⟩:=hp;have H2:=aa h2;have HB:=aa hb;have Ta:Hid (R=.error y):=aa (by rw[←SV.out,uq.out,fW,dJ];rfl)
      clear h2 hb dJ;go_wp2_with fail
      go_ret
      rw[HE.out,Ta.out];exact⟨R4.out.below.trans HB.out,_,rfl,_,rfl,H2.out⟩
     | ok s2 =>
      rw[dJ] at hp;obtain⟨rfl,y,FV⟩:=BI.next ur.out (HN.out.at_ k HKM.out) xw.out.frames R1.out R2.out R3.out R4.out R5.out dJ hp;have HBN:=aa FV;have Ta:Hid (cL (ks.drop (n+1)) (n+1) f s2=R):=aa (by rw[←SV.out,uq.out,fW,dJ];rfl)
      clear hp FV dJ;go_wp2_with fail
      exact⟨⟨n+1,y++x,s2,by go_num,by have:=jf.out;have:=sJ.out;omega,HBN.out,Ta.out⟩,by have:=jf.out;simp[intOf];omega⟩
   ·have ru:n=ks.length:=by have:=sJ.out;omega
    have RD:=xw.out.rd;rw[ru,wG] at RD;have hkb:=xw.out.kb;rw[ru,←Nq] at hkb;have YT:=(RD.mono (a':=Lt.ey tests) (s':=Lt.al tests) (wI _ _) (wI _ _)).Bj (i:=i) (n:=ks.length-1) (rep:=decide (0<tests.length)) hkb xw.out.mp (by have:=ur.out.low;omega) ur.out.low ur.out.ptr (ur.out.grow x)
    have Tc:=xw.out.frames;rw[ru] at Tc;have hst:({ ({ s1 with frames:=st.frames}:aI) with frames:=⟨f,i,ks.length-1,false,decide (0<tests.length),ks⟩::st.frames}:aI)=s1:=by
     rw[←Tc]
    rw[hst] at YT;have bs:=qy f loop (some ⟨mb+1,0,none⟩) (some ⟨g,0,none⟩) c6 (mb::ms) (grow x (⟨f,m,[]⟩::L)) s1 wr (.slice TA tests.length tc) tests (by rw[cz];exact YT) SZ.out HV2.out (by have:=HTV.out.inner (c:=c6) xw.out.jk ur.out.own ur.out.top;rw[bU] at this;rw[cz,nX];exact this) (fun k hk kH=>by rw[Tc];exact(HL2.out k hk kH).trans (uL rfl _).symm) (fun k _=>.inl (qx (by simp))) DM
    rw[cz,List.length_cons] at bs;have Ta:Hid (R=.ok s1):=aa (by rw[←SV.out,ru,wG,ry])
    have mD:=aa bs;clear RD hkb YT Tc hst bs ru;go_wp2_with fail
    refine mD.out.mono ?_;intro e w3 hp;obtain⟨v,rfl⟩:=hp.ret;have HP:=aa hp;clear hp;go_wp2_with fail
    go_ret
    rw[HE.out,Ta.out];exact ao.YO (l:={ fn:=f,blk:=m,iz:=x++[]}) xw.out.jk xw.out.fx ur.out.apart ur.out.own ur.out.top HP.out
theorem eY.YU {T:List Nd} {B b:Nat} {nv:Value} {ub ob f:Nat} {pa:Option Addr} {lv:Value} {ms:List Nat} {L:List cR} {st:aI} {w:World} {a s:Nat} (i:Nat) (h:eY T B b nv ub ob f pa lv ms L st w a (s+1)) (o:Obj):eY T B b nv ub ob f pa lv ms L (st.setOf i f) ((w.setCell ⟨ob,i,none⟩ (.int .i64 (f:Int))).alloc o).drew a (s+1)∧cU B ob lv L.length (eh L) w ((w.setCell ⟨ob,i,none⟩ (.int .i64 (f:Int))).alloc o).drew∧df ((w.setCell ⟨ob,i,none⟩ (.int .i64 (f:Int))).alloc o).drew B lv L:=by
 obtain⟨h1,h2,h3⟩:=h.zero.setOf i o;exact⟨⟨h1.fC,h1.rs,h1.pos,h.hd,h1.cx,h1.few,h1.fr,h1.names,h.fns,h.fx⟩,h2,h3⟩
theorem ao.tI {T:List Nd} {B b:Nat} {nv:Value} {ub ob f:Nat} {pa:Option Addr} {lv:Value} {ms:List Nat} {L:List cR} {st:aI} {w w':World} {a s:Nat} {r:Rs aI} {e:Ending} (h:eY T B b nv ub ob f pa lv ms L st w a s) (hp:gH B b nv T.length ub ob r w e w') (hn :∀s',r=.ok s'→s'.names=st.names):ao B b nv T.length ub ob lv L st r w e w':=by
 refine⟨hp.1,?_⟩;have h2:=hp.2;cases r with
 | error y=>exact h2
 | ok s' =>
  obtain⟨k1,k2,k3⟩:=h2;have hf :∀top,cU B ob lv L.length top w w':=fun top=>cU.uB k3 (by decide) hp.1
  refine⟨k1,k2,hf _,[],hn s' rfl,fun _=>rfl,?_⟩
  rw[jH];exact h.pos.fx.jk (hf none) (ah _)
theorem ao.after {B b:Nat} {nv:Value} {N ub ob:Nat} {lv:Value} {L:List cR} {st s1:aI} {r:Rs aI} {w w1 w2:World} {e:Ending} (hf:cU B ob lv L.length (eh L) w w1) (hn:s1.names=st.names) (h:ao B b nv N ub ob lv L s1 r w1 e w2):ao B b nv N ub ob lv L st r w e w2:=by
 refine⟨hf.below.trans h.1,?_⟩;have h2:=h.2;cases r with
 | error y=>exact h2
 | ok s =>
  obtain⟨k1,k2,k3,x,k4,k5,k6⟩:=h2;exact⟨k1,k2,hf.trans k3,x,by rw[k4,hn],k5,k6⟩
theorem dX {T:List Nd} {B b ub ob f bk o c lc a s:Nat} {pa la:Option Addr} {ms:List Nat} {L:List cR} {st:aI} {w:World} (loop:Int) (i:Nat) (h:eY T B b (.slice (some ⟨bk,o,none⟩) T.length c) ub ob f pa (.slice la L.length lc) ms L st w a (s+1)) (dU:bk<B) :∃W1,W1=((w.setCell ⟨ob,i,none⟩ (.int .i64 (f:Int))).alloc (.cells #[.int .i64 (f:Int),.int .i64 loop,.pointer pa,.slice la L.length lc] 69)).drew∧RowKit.Hid (eY T B b (.slice (some ⟨bk,o,none⟩) T.length c) ub ob f pa (.slice la L.length lc) ms L (st.setOf i f) W1 a (s+1))∧RowKit.Hid (cU B ob (.slice la L.length lc) L.length (eh L) w W1)∧RowKit.Hid (df W1 B (.slice la L.length lc) L)∧RowKit.Hid (W1.heap[w.heap.size]? = some (.cells #[.int .i64 (f:Int),.int .i64 loop,.pointer pa,.slice la L.length lc] 69 (0,0)))∧(∀j v,w.cell? ⟨bk,j,none⟩=some v→W1.cell? ⟨bk,j,none⟩=some v)∧W1.cell? ⟨b,0,none⟩=some (.slice (some ⟨bk,o,none⟩) T.length c)∧b<W1.heap.size∧w.heap.size<W1.heap.size∧bk<W1.heap.size∧W1.cell? ⟨w.heap.size,0,none⟩=some (.int .i64 (f:Int))∧W1.cell? ⟨w.heap.size,1,none⟩=some (.int .i64 loop)∧W1.cell? ⟨w.heap.size,2,none⟩=some (.pointer pa)∧W1.cell? ⟨w.heap.size,3,none⟩=some (.slice la L.length lc):=by
 have rk:=h.YU i (.cells #[.int .i64 (f:Int),.int .i64 loop,.pointer pa,.slice la L.length lc] 69);have eM:=heap_alloc_new (w.setCell ⟨ob,i,none⟩ (.int .i64 (f:Int))) (.cells #[.int .i64 (f:Int),.int .i64 loop,.pointer pa,.slice la L.length lc] 69);obtain⟨W1,hW1⟩ :∃W1,W1=((w.setCell ⟨ob,i,none⟩ (.int .i64 (f:Int))).alloc (.cells #[.int .i64 (f:Int),.int .i64 loop,.pointer pa,.slice la L.length lc] 69)).drew:=⟨_,rfl⟩;rw[←hW1] at rk;have lH:W1.heap[w.heap.size]? = some (.cells #[.int .i64 (f:Int),.int .i64 loop,.pointer pa,.slice la L.length lc] 69 (0,0)):=by
  rw[hW1];have e:(w.setCell ⟨ob,i,none⟩ (.int .i64 (f:Int))).heap.size=w.heap.size:=by simp[World.setCell]
  rw[e] at eM;exact eM
 obtain⟨_,_,hw⟩:=rk.1.rs;have hl:=(aO.1 lH).1;have hB:=h.rs;obtain⟨_,_,hv⟩:=hB;have cg:B≤w.heap.size:=by have:=h.fC.nodes;obtain⟨_,_,_,_,_,h2,_⟩:=this;omega
 exact⟨W1,hW1,aa rk.1,aa rk.2.1,aa rk.2.2,aa lH,fun j v hv=>(rk.2.1.below.cell (p:=⟨bk,j,none⟩) dU).trans hv,ae hw.blk 0,hw.mQ.1,hl,by omega,ae lH 0,ae lH 1,ae lH 2,ae lH 3⟩
theorem gP {T:List Nd} {B b ub ob i f lc:Nat} {nv:Value} {h:Nd} {ks:List Lt} {loop:Int} {pa la:Option Addr} {ms:List Nat} {L:List cR} {st:aI} {w:World} (gA :∀x∈T,x.s.size≤65536∧∀s∈x.names,s.size≤65536) (hn:ic T (.mk i h ks)) (gZ :∀u:Lt,u.size<Lt.al ks+1→ic T u→bA T B b nv ub ob u) (hr:eY T B b nv ub ob f pa (.slice la L.length lc) ms L st w (Lt.wt (.mk i h ks)) (Lt.size (.mk i h ks))) (bR:18≤(Lt.mk i h ks).hd.kind→loop=cM f st.frames) (cw:L≠[]∨(Lt.mk i h ks).hd.kind=18) :
  ∃(bk o c:Nat) (NA:Option Addr) (nc:Nat) (KA:Option Addr) (kc:Nat),nv=(.slice (some ⟨bk,o,none⟩) T.length c)∧bk<B∧B≤w.heap.size∧w.cell? ⟨bk,o+i*7,none⟩=some (.int .i64 h.kind)∧w.cell? ⟨bk,o+i*7+1,none⟩=some (.int .i64 h.line)∧w.cell? ⟨bk,o+i*7+2,none⟩=some (.int .i64 h.op)∧w.cell? ⟨bk,o+i*7+3,none⟩=some (.int .i64 h.num)∧w.cell? ⟨bk,o+i*7+4,none⟩=some (.string h.s)∧w.cell? ⟨bk,o+i*7+5,none⟩=some (.slice NA h.names.length nc)∧w.cell? ⟨bk,o+i*7+6,none⟩=some (.slice KA h.kids.length kc)∧h.kids.length≤20000∧i<T.length∧T.length≤20000∧b<w.heap.size∧ub<w.heap.size∧ob<w.heap.size∧w.cell? ⟨b,0,none⟩=some (.slice (some ⟨bk,o,none⟩) T.length c)∧w.cell? ⟨b,3,none⟩=some (.slice (some ⟨ob,0,none⟩) T.length T.length)∧w.cell? ⟨ob,i,none⟩=some (Hv st.of i)∧w.frozen? ⟨ob,i,none⟩=false∧bk<w.heap.size ∧
   RowKit.Hid (eY T B b (.slice (some ⟨bk,o,none⟩) T.length c) ub ob f pa (.slice la L.length lc) ms L st w (h.names.length+Lt.ey ks) (Lt.al ks+1))∧RowKit.Hid (ic T (.mk i h ks))∧RowKit.Hid (∀u:Lt,u.size<Lt.al ks+1→ic T u→bA T B b (.slice (some ⟨bk,o,none⟩) T.length c) ub ob u)∧RowKit.Hid (18≤h.kind→loop=cM f st.frames)∧RowKit.Hid (L≠[]∨h.kind=18)∧RowKit.Hid (fI T ks)∧RowKit.Hid (h.kind≠18→∀k∈ks,Still k)∧RowKit.Hid (qc h.kind h.num (jG ks))∧RowKit.Hid (h.kids=ks.map fun k=>(k.loc:Int))∧RowKit.Hid (h.kids.length=ks.length)∧RowKit.Hid (T[i]? = some h)∧RowKit.Hid (h.s.size≤65536∧∀s∈h.names,s.size≤65536)∧RowKit.Hid (h.kids=[]∨∃bk o,KA=some ⟨bk,o,none⟩∧bk<B∧∀(j:Nat) x,h.kids[j]? = some x→w.cell? ⟨bk,o+j,none⟩=some (.int .i64 x)):=by
 have pW:=hn.sub;have nV:=hn.yF;unfold Lt.In at nV;obtain⟨hx,dh,_⟩:=nV;replace hr:eY T B b nv ub ob f pa (.slice la L.length lc) ms L st w (h.names.length+Lt.ey ks) (Lt.al ks+1):=by have h1:=hr;rw[Lt.wt,Lt.size] at h1;exact h1
 replace bR:18≤h.kind→loop=cM f st.frames:=bR;replace cw:L≠[]∨h.kind=18:=cw;obtain⟨lj,lk,ll⟩:=pW;replace lj:fI T ks:=lj;replace lk:h.kind≠18→∀k∈ks,Still k:=lk;replace ll:qc h.kind h.num (jG ks):=ll;have RF:=gA h (aX hx);obtain⟨bk,o,c,rfl,dU,cg,dJ⟩:=hr.fC.nodes;obtain⟨vM,vN,eT,⟨NA,nc,vQ,_⟩,⟨KA,kc,rl,wT,IN⟩⟩:=dJ i h hx;have rK:h.kids.length≤20000:=(hr.fC.small h (aX hx)).1;have oQ:h.kids.length=ks.length:=by rw[dh,bU]
 subst vQ rl;obtain⟨x0,x1,x2,x3,x4,x5,x6⟩:=eT;have v7:i<T.length:=(aK.1 hx).1;have pO:=hr.fC.few;obtain⟨fv,FL,hw⟩:=id hr.rs;obtain⟨hbl,ph,sZ⟩:=hw.mQ;have d0:w.cell? ⟨b,0,none⟩=some (.slice (some ⟨bk,o,none⟩) T.length c):=ae hw.blk 0;have d3:w.cell? ⟨b,3,none⟩=some (.slice (some ⟨ob,0,none⟩) T.length T.length):=ae hw.blk 3;obtain⟨u0,v0⟩:=cf hw.vX (j:=i) (by omega)
 have gT:bk<w.heap.size:=by omega
 exact⟨bk,o,c,NA,nc,KA,kc,rfl,dU,cg,x0,x1,x2,x3,x4,x5,x6,rK,v7,pO,hbl,ph,sZ,d0,d3,u0,v0,gT,aa hr,aa hn,aa gZ,aa bR,aa cw,aa lj,aa lk,aa ll,aa dh,aa oQ,aa hx,aa RF,aa IN⟩
theorem Td {T:List Nd} {B b:Nat} {nv:Value} {ub ob:Nat} (gA :∀x∈T,x.s.size≤65536∧∀s∈x.names,s.size≤65536) (i:Nat) (h:Nd) (ks:List Lt) (hn:ic T (.mk i h ks)) (gZ :∀u:Lt,u.size<Lt.al ks+1→ic T u→bA T B b nv ub ob u) (hk:h.kind=6):bA T B b nv ub ob (.mk i h ks):=by
 intro f loop pa la lc ms L st w hr bR cw;show Calls Tryz.prog 18 #[.pointer (some ⟨b,0,none⟩),.int .i64 (i:Int),.agg #[.int .i64 (f:Int),.int .i64 loop,.pointer pa,.slice la L.length lc]] w (ao B b nv T.length ub ob (.slice la L.length lc) L st (aY (.mk i h ks) f st) w)
 obtain⟨bk,o,c,NA,nc,KA,kc,rfl,dU,cg,x0,x1,x2,x3,x4,x5,x6,rK,v7,pO,hbl,ph,sZ,d0,d3,u0,v0,gT,HR,HN,tG,iL,kD,fH,tC,oU,fN,sJ,HX,yJ,DC⟩:=gP gA hn gZ hr bR cw;clear hr hn gZ bR cw gA;have q6:(h.kind == 6)=true:=by rw[hk];rfl
 have bL:=aa hk;clear hk;go_enter Tryz.func18,Tryz.ntmps18
 go_wp2_with fail
 go_region
 obtain⟨W1,hW1,HZ,fB,pA,Bl,K,y0,th,oB,ti,k0,k1,k2,k3⟩:=dX loop i HR.out dU;rw[←hW1];have x0:=K _ _ x0;have x1:=K _ _ x1;have x2:=K _ _ x2;have x3:=K _ _ x3;have x4:=K _ _ x4;have x5:=K _ _ x5;have x6:=K _ _ x6;clear hW1 K d0 d3 u0 v0;have d0:=y0;clear y0;go_wp2_with fail
 obtain⟨W2,hW2⟩ :∃W2,W2=W1.alloc (.cells #[.int .i64 h.kind,.int .i64 h.line,.int .i64 h.op,.int .i64 h.num,.string h.s,.slice NA h.names.length nc,.slice KA h.kids.length kc] 54):=⟨_,rfl⟩;have di:Below W1.heap.size W1 W2:=by rw[hW2];exact(Below.refl _ _).alloc (ah _) _
 rw[←hW2];have hr2:=HZ.out.du di;have hf2:cU B ob (.slice la L.length lc) L.length (eh L) w W2:=fB.out.trans (cU.bH di HZ.out.world);have v8:=aa hr2;have lV:=aa hf2;refine(L9 b i f h loop pa la L.length lc (st.setOf i f) W2 hr2.fC hr2.rs HX.out hr2.cx.lt).mono ?_;intro e w3 hp;have hv:=ao.tI hr2 hp (fun s' hs'=>by
  split at hs'
  ·injection hs' with hs';rw[←hs']
  ·cases hs')
 obtain⟨v,rfl⟩:=hv.ret;have HV:=aa hv;clear hp hv hr2 hf2;go_wp2_with fail
 go_ret
 have hE:aY (.mk i h ks) f st=(if ((st.setOf i f).fn f).many then .ok (st.setOf i f) else .error (14,h.line)):=by
  rw[ca];rw[ai bL.out]
 rw[hE];exact ao.after lV.out rfl HV.out
theorem Te {T:List Nd} {B b:Nat} {nv:Value} {ub ob:Nat} (gA :∀x∈T,x.s.size≤65536∧∀s∈x.names,s.size≤65536) (i:Nat) (h:Nd) (ks:List Lt) (hn:ic T (.mk i h ks)) (gZ :∀u:Lt,u.size<Lt.al ks+1→ic T u→bA T B b nv ub ob u) (hk:h.kind=7):bA T B b nv ub ob (.mk i h ks):=by
 intro f loop pa la lc ms L st w hr bR cw;show Calls Tryz.prog 18 #[.pointer (some ⟨b,0,none⟩),.int .i64 (i:Int),.agg #[.int .i64 (f:Int),.int .i64 loop,.pointer pa,.slice la L.length lc]] w (ao B b nv T.length ub ob (.slice la L.length lc) L st (aY (.mk i h ks) f st) w)
 obtain⟨bk,o,c,NA,nc,KA,kc,rfl,dU,cg,x0,x1,x2,x3,x4,x5,x6,rK,v7,pO,hbl,ph,sZ,d0,d3,u0,v0,gT,HR,HN,tG,iL,kD,fH,tC,oU,fN,sJ,HX,yJ,DC⟩:=gP gA hn gZ hr bR cw;clear hr hn gZ bR cw gA;have q6:(h.kind == 6)=false:=by rw[hk];rfl
 have q7:(h.kind == 7)=true:=by rw[hk];rfl
 have bL:=aa hk;clear hk;go_enter Tryz.func18,Tryz.ntmps18
 go_wp2_with fail
 go_region
 obtain⟨W1,hW1,HZ,fB,pA,Bl,K,y0,th,oB,ti,k0,k1,k2,k3⟩:=dX loop i HR.out dU;rw[←hW1];have x0:=K _ _ x0;have x1:=K _ _ x1;have x2:=K _ _ x2;have x3:=K _ _ x3;have x4:=K _ _ x4;have x5:=K _ _ x5;have x6:=K _ _ x6;clear hW1 K d0 d3 u0 v0;have d0:=y0;clear y0;go_wp2_with fail
 obtain⟨W2,hW2⟩ :∃W2,W2=W1.alloc (.cells #[.int .i64 h.kind,.int .i64 h.line,.int .i64 h.op,.int .i64 h.num,.string h.s,.slice NA h.names.length nc,.slice KA h.kids.length kc] 54):=⟨_,rfl⟩;have di:Below W1.heap.size W1 W2:=by rw[hW2];exact(Below.refl _ _).alloc (ah _) _
 rw[←hW2];have hr2:=HZ.out.du di;have hf2:cU B ob (.slice la L.length lc) L.length (eh L) w W2:=fB.out.trans (cU.bH di HZ.out.world);have v8:=aa hr2;have lV:=aa hf2;refine(My b i f h loop pa la lc L (st.setOf i f) W2 hr2.fC hr2.rs HX.out hr2.pos.fx hr2.pos.names hr2.cx hr2.few (by have:=hr2.fns;omega) (by have:=hr2.fx;omega) (by have:=yJ.out.1;unfold maxLen;omega)).mono ?_
 intro e w3 hp;have hv:=ao.tI hr2 hp (fun s' hs'=>(yr hs').2)
 obtain⟨v,rfl⟩:=hv.ret;have HV:=aa hv;clear hp hv hr2 hf2;go_wp2_with fail
 go_ret
 have hE:aY (.mk i h ks) f st=lL i f h.s h.line (st.setOf i f):=by
  rw[ca];rw[ab (by have:=bL.out;omega)]
  rw[ai bL.out]
 rw[hE];exact ao.after lV.out rfl HV.out
theorem Ns {T:List Nd} {B b:Nat} {nv:Value} {ub ob:Nat} (gA :∀x∈T,x.s.size≤65536∧∀s∈x.names,s.size≤65536) (i:Nat) (h:Nd) (ks:List Lt) (hn:ic T (.mk i h ks)) (gZ :∀u:Lt,u.size<Lt.al ks+1→ic T u→bA T B b nv ub ob u) (hk:h.kind=30):bA T B b nv ub ob (.mk i h ks):=by
 intro f loop pa la lc ms L st w hr bR cw;show Calls Tryz.prog 18 #[.pointer (some ⟨b,0,none⟩),.int .i64 (i:Int),.agg #[.int .i64 (f:Int),.int .i64 loop,.pointer pa,.slice la L.length lc]] w (ao B b nv T.length ub ob (.slice la L.length lc) L st (aY (.mk i h ks) f st) w)
 obtain⟨bk,o,c,NA,nc,KA,kc,rfl,dU,cg,x0,x1,x2,x3,x4,x5,x6,rK,v7,pO,hbl,ph,sZ,d0,d3,u0,v0,gT,HR,HN,tG,iL,kD,fH,tC,oU,fN,sJ,HX,yJ,DC⟩:=gP gA hn gZ hr bR cw;clear hr hn gZ bR cw gA;have q6:(h.kind == 6)=false:=by rw[hk];rfl
 have q7:(h.kind == 7)=false:=by rw[hk];rfl
 have yK:(h.kind == 11)=false:=by rw[hk];rfl
 have zC:(h.kind == 18)=false:=by rw[hk];rfl
 have WG:(h.kind == 23)=false:=by rw[hk];rfl
 have YV:(h.kind == 26)=false:=by rw[hk];rfl
 have q27:(h.kind == 27)=false:=by rw[hk];rfl
 have q24:(h.kind == 24)=false:=by rw[hk];rfl
 have q30:(h.kind == 30)=true:=by rw[hk];rfl
 have bL:=aa hk;clear hk;go_enter Tryz.func18,Tryz.ntmps18
 go_wp2_with fail
 go_region
 obtain⟨W1,hW1,HZ,fB,pA,Bl,K,y0,th,oB,ti,k0,k1,k2,k3⟩:=dX loop i HR.out dU;rw[←hW1];have x0:=K _ _ x0;have x1:=K _ _ x1;have x2:=K _ _ x2;have x3:=K _ _ x3;have x4:=K _ _ x4;have x5:=K _ _ x5;have x6:=K _ _ x6;clear hW1 K d0 d3 u0 v0;have d0:=y0;clear y0;go_wp2_with fail
 obtain⟨W2,hW2⟩ :∃W2,W2=W1.alloc (.cells #[.int .i64 h.kind,.int .i64 h.line,.int .i64 h.op,.int .i64 h.num,.string h.s,.slice NA h.names.length nc,.slice KA h.kids.length kc] 54):=⟨_,rfl⟩;have di:Below W1.heap.size W1 W2:=by rw[hW2];exact(Below.refl _ _).alloc (ah _) _
 rw[←hW2];have hr2:=HZ.out.du di;have hf2:cU B ob (.slice la L.length lc) L.length (eh L) w W2:=fB.out.trans (cU.bH di HZ.out.world);have v8:=aa hr2;have lV:=aa hf2;refine(AG b i f h loop pa la L.length lc (st.setOf i f) W2 hr2.fC hr2.rs HX.out (iL.out (by have:=bL.out;omega))).mono ?_
 intro e w3 hp;have hv:=ao.tI hr2 hp (fun s' hs'=>(rB hs').2)
 obtain⟨v,rfl⟩:=hv.ret;have HV:=aa hv;clear hp hv hr2 hf2;go_wp2_with fail
 go_ret
 have hE:aY (.mk i h ks) f st=eD i f h.line (st.setOf i f):=by
  rw[ca];rw[ab (by have:=bL.out;omega)]
  rw[ab (by have:=bL.out;omega)]
  rw[ab (by have:=bL.out;omega)]
  rw[ab (by have:=bL.out;omega)]
  rw[ab (by have:=bL.out;omega)]
  rw[ab (by have:=bL.out;omega)]
  rw[ab (by have:=bL.out;omega)]
  rw[ab (by have:=bL.out;omega)]
  rw[ab (by have:=bL.out;omega)]
  rw[ai bL.out]
 rw[hE];exact ao.after lV.out rfl HV.out
theorem Nt {T:List Nd} {B b:Nat} {nv:Value} {ub ob:Nat} (gA :∀x∈T,x.s.size≤65536∧∀s∈x.names,s.size≤65536) (i:Nat) (h:Nd) (ks:List Lt) (hn:ic T (.mk i h ks)) (gZ :∀u:Lt,u.size<Lt.al ks+1→ic T u→bA T B b nv ub ob u) (hk:h.kind=31):bA T B b nv ub ob (.mk i h ks):=by
 intro f loop pa la lc ms L st w hr bR cw;show Calls Tryz.prog 18 #[.pointer (some ⟨b,0,none⟩),.int .i64 (i:Int),.agg #[.int .i64 (f:Int),.int .i64 loop,.pointer pa,.slice la L.length lc]] w (ao B b nv T.length ub ob (.slice la L.length lc) L st (aY (.mk i h ks) f st) w)
 obtain⟨bk,o,c,NA,nc,KA,kc,rfl,dU,cg,x0,x1,x2,x3,x4,x5,x6,rK,v7,pO,hbl,ph,sZ,d0,d3,u0,v0,gT,HR,HN,tG,iL,kD,fH,tC,oU,fN,sJ,HX,yJ,DC⟩:=gP gA hn gZ hr bR cw;clear hr hn gZ bR cw gA;have q6:(h.kind == 6)=false:=by rw[hk];rfl
 have q7:(h.kind == 7)=false:=by rw[hk];rfl
 have yK:(h.kind == 11)=false:=by rw[hk];rfl
 have zC:(h.kind == 18)=false:=by rw[hk];rfl
 have WG:(h.kind == 23)=false:=by rw[hk];rfl
 have YV:(h.kind == 26)=false:=by rw[hk];rfl
 have q27:(h.kind == 27)=false:=by rw[hk];rfl
 have q24:(h.kind == 24)=false:=by rw[hk];rfl
 have q30:(h.kind == 30)=false:=by rw[hk];rfl
 have q31:(h.kind == 31)=true:=by rw[hk];rfl
 have bL:=aa hk;clear hk;go_enter Tryz.func18,Tryz.ntmps18
 go_wp2_with fail
 go_region
 obtain⟨W1,hW1,HZ,fB,pA,Bl,K,y0,th,oB,ti,k0,k1,k2,k3⟩:=dX loop i HR.out dU;rw[←hW1];have x0:=K _ _ x0;have x1:=K _ _ x1;have x2:=K _ _ x2;have x3:=K _ _ x3;have x4:=K _ _ x4;have x5:=K _ _ x5;have x6:=K _ _ x6;clear hW1 K d0 d3 u0 v0;have d0:=y0;clear y0;go_wp2_with fail
 obtain⟨W2,hW2⟩ :∃W2,W2=W1.alloc (.cells #[.int .i64 h.kind,.int .i64 h.line,.int .i64 h.op,.int .i64 h.num,.string h.s,.slice NA h.names.length nc,.slice KA h.kids.length kc] 54):=⟨_,rfl⟩;have di:Below W1.heap.size W1 W2:=by rw[hW2];exact(Below.refl _ _).alloc (ah _) _
 rw[←hW2];have hr2:=HZ.out.du di;have hf2:cU B ob (.slice la L.length lc) L.length (eh L) w W2:=fB.out.trans (cU.bH di HZ.out.world);have v8:=aa hr2;have lV:=aa hf2;refine(MB b i f h loop pa la lc L.length ms (st.setOf i f) W2 hr2.fC hr2.rs HX.out hr2.pos.blk (by have:=yJ.out.1;unfold maxLen;omega)).mono ?_
 intro e w3 hp;have hv:=ao.tI hr2 hp (fun s' hs'=>(rC _ hs').2)
 obtain⟨v,rfl⟩:=hv.ret;have HV:=aa hv;clear hp hv hr2 hf2;go_wp2_with fail
 go_ret
 have hE:aY (.mk i h ks) f st=dK i f h.s h.line (st.setOf i f) (st.setOf i f).frames:=by
  rw[ca];rw[ab (by have:=bL.out;omega)]
  rw[ab (by have:=bL.out;omega)]
  rw[ab (by have:=bL.out;omega)]
  rw[ab (by have:=bL.out;omega)]
  rw[ab (by have:=bL.out;omega)]
  rw[ab (by have:=bL.out;omega)]
  rw[ab (by have:=bL.out;omega)]
  rw[ab (by have:=bL.out;omega)]
  rw[ab (by have:=bL.out;omega)]
  rw[ab (by have:=bL.out;omega)]
  rw[ai bL.out]
 rw[hE];exact ao.after lV.out rfl HV.out
theorem e8 :∀{ks:List Lt} {k:Lt},k∈ks→k.size≤Lt.al ks
 | x::ks,k,h=>by
  rw[Lt.al];rcases bc.1 h with rfl|h
  ·omega
  ·have:=e8 h;omega
theorem Nu {k n:Int} {kk:List Int} (h:qc k n kk) (h1:1≤k) (h2:k<18) (h3:k≠11) :∀a∈kk,a<18:=by
 intro a ha;by_cases c1:k=1∨k=2∨k=3∨k=4∨k=5∨k=6∨k=7∨k=30∨k=31∨k=32
 ·rw[h.none c1] at ha;cases ha
 by_cases c2:k=8∨k=12∨k=17
 ·obtain⟨x,y,e,hx,hy⟩:=h.two c2
  unfold tD at hx hy;rw[e] at ha;simp only[bc,oI,oM] at ha;rcases ha with rfl|rfl<;>omega
 by_cases c3:k=9∨k=10
 ·have:=(h.call c3).2 a ha
  unfold tD at this;omega
 by_cases c5:k=13∨k=14∨k=16
 ·obtain⟨x,e,hx⟩:=h.one c5
  unfold tD at hx;rw[e,bK] at ha;omega
 by_cases c6:k=15
 ·have:=h.items c6 a ha
  omega
 omega
theorem IP (st:aI) (i f:Nat):(st.setOf i f).setOf i f=st.setOf i f:=by
 unfold aI.setOf;simp only[aI.mk.injEq,true_and,and_true];funext j
 by_cases e:j=i
 ·simp[e]
 ·simp[e]
theorem ao.Tf {B b:Nat} {nv:Value} {N ub ob:Nat} {lv:Value} {L:List cR} {st st':aI} {r:Rs aI} {w w2:World} {e:Ending} (h:ao B b nv N ub ob lv L st r w e w2) (hn:st'.names=st.names) (hr :∀s,r=.ok s→s.names=st.names):ao B b nv N ub ob lv L st' (r.map fun s=>s.back st') w e w2:=by
 cases r with
 | error y=>exact h.same hn rfl
 | ok s=>exact h.same hn ⟨rfl,rfl,rfl,hn.trans (hr s rfl).symm⟩
theorem IQ {T:List Nd} {B b:Nat} {nv:Value} {ub ob:Nat} (i f:Nat) (h:Nd) (ks:List Lt) (loop:Int) (pa la:Option Addr) (lc:Nat) (ms:List Nat) (L:List cR) (hL:L≠[]) (st:aI) (w:World) (hr:eY T B b nv ub ob f pa (.slice la L.length lc) ms L st w (h.names.length+Lt.ey ks) (Lt.al ks)) (hx:T[i]? = some h) (hk:h.kids=ks.map fun k=>(k.loc:Int)) (hn:fI T ks) (hV :∀k∈ks,bA T B b nv ub ob k)
  (hl :∀k∈ks,18≤k.hd.kind→loop=cM f st.frames) (hsz :∀s∈h.names,s.size≤65536) (hd:gI h.kind h.kids.length=(true,(h.kids.length:Int),false)) :
  Calls Tryz.prog 35 #[.pointer (some ⟨b,0,none⟩),.int .i64 (i:Int),.agg #[.int .i64 (f:Int),.int .i64 loop,.pointer pa,.slice la L.length lc]] w (ao B b nv T.length ub ob (.slice la L.length lc) L st ((aE ks f st).bind fun s1=>bu i f h.line h.names s1) w):=by
 cases L with
 | nil=>exact absurd rfl hL
 | cons l r=>exact Nf i f h ks loop pa la lc ms l r st w hr hx hk hn hV hl hsz hd
theorem IS {T:List Nd} {B b:Nat} {nv:Value} {ub ob:Nat} (i f:Nat) (h:Nd) (ks:List Lt) (loop:Int) (pa la:Option Addr) (lc:Nat) (ms:List Nat) (L:List cR) (hL:L≠[]) (st:aI) (w:World) (hr:eY T B b nv ub ob f pa (.slice la L.length lc) ms L st w (h.names.length+Lt.ey ks) (Lt.al ks)) (hx:T[i]? = some h) (hk:h.kids=ks.map fun k=>(k.loc:Int)) (hn:fI T ks) (hV :∀k∈ks,bA T B b nv ub ob k)
  (hl :∀k∈ks,18≤k.hd.kind→loop=cM f st.frames) (hsz :∀s∈h.names,s.size≤65536) (hd:gI h.kind h.kids.length=(true,0,false)) :
  Calls Tryz.prog 35 #[.pointer (some ⟨b,0,none⟩),.int .i64 (i:Int),.agg #[.int .i64 (f:Int),.int .i64 loop,.pointer pa,.slice la L.length lc]] w (ao B b nv T.length ub ob (.slice la L.length lc) L st ((bu i f h.line h.names st).bind fun s1=>aE ks f s1) w):=by
 cases L with
 | nil=>exact absurd rfl hL
 | cons l r=>exact Nj i f h ks loop pa la lc ms l r st w hr hx hk hn hV hl hsz hd
theorem DN {T:List Nd} {B b:Nat} {nv:Value} {ub ob:Nat} (gA :∀x∈T,x.s.size≤65536∧∀s∈x.names,s.size≤65536) (i:Nat) (h:Nd) (ks:List Lt) (hn:ic T (.mk i h ks)) (gZ :∀u:Lt,u.size<Lt.al ks+1→ic T u→bA T B b nv ub ob u) (hk:h.kind≠6∧h.kind≠7∧h.kind≠11∧h.kind≠18∧h.kind≠19∧h.kind≠23∧h.kind≠24∧h.kind≠26∧h.kind≠27∧h.kind≠28∧h.kind≠30∧h.kind≠31):bA T B b nv ub ob (.mk i h ks):=by
 intro f loop pa la lc ms L st w hr bR cw;show Calls Tryz.prog 18 #[.pointer (some ⟨b,0,none⟩),.int .i64 (i:Int),.agg #[.int .i64 (f:Int),.int .i64 loop,.pointer pa,.slice la L.length lc]] w (ao B b nv T.length ub ob (.slice la L.length lc) L st (aY (.mk i h ks) f st) w)
 obtain⟨bk,o,c,NA,nc,KA,kc,rfl,dU,cg,x0,x1,x2,x3,x4,x5,x6,rK,v7,pO,hbl,ph,sZ,d0,d3,u0,v0,gT,HR,HN,tG,iL,kD,fH,tC,oU,fN,sJ,HX,yJ,DC⟩:=gP gA hn gZ hr bR cw;clear hr hn gZ bR cw gA;have q6:(h.kind == 6)=false:=aC.2 (by omega)
 have q7:(h.kind == 7)=false:=aC.2 (by omega)
 have yK:(h.kind == 11)=false:=aC.2 (by omega)
 have zC:(h.kind == 18)=false:=aC.2 (by omega)
 have WG:(h.kind == 23)=false:=aC.2 (by omega)
 have YV:(h.kind == 26)=false:=aC.2 (by omega)
 have q27:(h.kind == 27)=false:=aC.2 (by omega)
 have q24:(h.kind == 24)=false:=aC.2 (by omega)
 have q30:(h.kind == 30)=false:=aC.2 (by omega)
 have q31:(h.kind == 31)=false:=aC.2 (by omega)
 have bL:=aa hk;clear hk;go_enter Tryz.func18,Tryz.ntmps18
 go_wp2_with fail
 go_region
 obtain⟨W1,hW1,HZ,fB,pA,Bl,K,y0,th,oB,ti,k0,k1,k2,k3⟩:=dX loop i HR.out dU;rw[←hW1];have x0:=K _ _ x0;have x1:=K _ _ x1;have x2:=K _ _ x2;have x3:=K _ _ x3;have x4:=K _ _ x4;have x5:=K _ _ x5;have x6:=K _ _ x6;clear hW1 K d0 d3 u0 v0;have d0:=y0;clear y0;go_wp2_with fail
 obtain⟨W2,hW2⟩ :∃W2,W2=W1.alloc (.cells #[.int .i64 h.kind,.int .i64 h.line,.int .i64 h.op,.int .i64 h.num,.string h.s,.slice NA h.names.length nc,.slice KA h.kids.length kc] 54):=⟨_,rfl⟩;have di:Below W1.heap.size W1 W2:=by rw[hW2];exact(Below.refl _ _).alloc (ah _) _
 rw[←hW2];have hr2:=HZ.out.du di;have hf2:cU B ob (.slice la L.length lc) L.length (eh L) w W2:=fB.out.trans (cU.bH di HZ.out.world);have tj :∀k∈ks,bA T B b (.slice (some ⟨bk,o,none⟩) T.length c) ub ob k:=fun k hk=>tG.out k (by have:=e8 hk;omega) (fH.out.at_ k hk)
 refine(FT i f h ks loop pa la lc ms L (st.setOf i f) W2 (hr2.mono (wI _ _) (iH _)) HX.out fN.out fH.out tj (fun k hk kH=>by
  by_cases e:18≤h.kind
  ·exact iL.out e
  ·have:=Nu oU.out HN.out.kind.1 (by show h.kind<18;omega) (by have:=bL.out;omega) _ (j3 hk)
   omega) (fun k _=>.inl (kD.out.resolve_right (by have:=bL.out;omega))) (by
  unfold gI;rw[ab (by have:=bL.out;omega),ab (by have:=bL.out;omega),ab (by have:=bL.out;omega),ab (by have:=bL.out;omega)])).mono ?_
 intro e w3 hp;obtain⟨v,rfl⟩:=hp.ret;have HV:=aa hp;have lV:=aa hf2;clear hp hr2 hf2 tj;go_wp2_with fail
 go_ret
 have hE:aY (.mk i h ks) f st=aE ks f (st.setOf i f):=by
  rw[ca];rw[ab (by have:=bL.out;omega)]
  rw[ab (by have:=bL.out;omega)]
  rw[ab (by have:=bL.out;omega)]
  rw[ab (by have:=bL.out;omega)]
  rw[ab (by have:=bL.out;omega)]
  rw[ab (by have:=bL.out;omega)]
  rw[ab (by have:=bL.out;omega)]
  rw[ab (by have:=bL.out;omega)]
  rw[ab (by have:=bL.out;omega)]
  rw[ab (by have:=bL.out;omega)]
  rw[ab (by have:=bL.out;omega)]
 rw[hE];exact ao.after lV.out rfl HV.out
theorem Nv {T:List Nd} {B b:Nat} {nv:Value} {ub ob:Nat} (gA :∀x∈T,x.s.size≤65536∧∀s∈x.names,s.size≤65536) (i:Nat) (h:Nd) (ks:List Lt) (hn:ic T (.mk i h ks)) (gZ :∀u:Lt,u.size<Lt.al ks+1→ic T u→bA T B b nv ub ob u) (hk:h.kind=19):bA T B b nv ub ob (.mk i h ks):=by
 intro f loop pa la lc ms L st w hr bR cw;show Calls Tryz.prog 18 #[.pointer (some ⟨b,0,none⟩),.int .i64 (i:Int),.agg #[.int .i64 (f:Int),.int .i64 loop,.pointer pa,.slice la L.length lc]] w (ao B b nv T.length ub ob (.slice la L.length lc) L st (aY (.mk i h ks) f st) w)
 obtain⟨bk,o,c,NA,nc,KA,kc,rfl,dU,cg,x0,x1,x2,x3,x4,x5,x6,rK,v7,pO,hbl,ph,sZ,d0,d3,u0,v0,gT,HR,HN,tG,iL,kD,fH,tC,oU,fN,sJ,HX,yJ,DC⟩:=gP gA hn gZ hr bR cw;clear hr hn gZ bR cw gA;have q6:(h.kind == 6)=false:=aC.2 (by omega)
 have q7:(h.kind == 7)=false:=aC.2 (by omega)
 have yK:(h.kind == 11)=false:=aC.2 (by omega)
 have zC:(h.kind == 18)=false:=aC.2 (by omega)
 have WG:(h.kind == 23)=false:=aC.2 (by omega)
 have YV:(h.kind == 26)=false:=aC.2 (by omega)
 have q27:(h.kind == 27)=false:=aC.2 (by omega)
 have q24:(h.kind == 24)=false:=aC.2 (by omega)
 have q30:(h.kind == 30)=false:=aC.2 (by omega)
 have q31:(h.kind == 31)=false:=aC.2 (by omega)
 have bL:=aa hk;clear hk;go_enter Tryz.func18,Tryz.ntmps18
 go_wp2_with fail
 go_region
 obtain⟨W1,hW1,HZ,fB,pA,Bl,K,y0,th,oB,ti,k0,k1,k2,k3⟩:=dX loop i HR.out dU;rw[←hW1];have x0:=K _ _ x0;have x1:=K _ _ x1;have x2:=K _ _ x2;have x3:=K _ _ x3;have x4:=K _ _ x4;have x5:=K _ _ x5;have x6:=K _ _ x6;clear hW1 K d0 d3 u0 v0;have d0:=y0;clear y0;go_wp2_with fail
 obtain⟨W2,hW2⟩ :∃W2,W2=W1.alloc (.cells #[.int .i64 h.kind,.int .i64 h.line,.int .i64 h.op,.int .i64 h.num,.string h.s,.slice NA h.names.length nc,.slice KA h.kids.length kc] 54):=⟨_,rfl⟩;have di:Below W1.heap.size W1 W2:=by rw[hW2];exact(Below.refl _ _).alloc (ah _) _
 rw[←hW2];have hr2:=HZ.out.du di;have hf2:cU B ob (.slice la L.length lc) L.length (eh L) w W2:=fB.out.trans (cU.bH di HZ.out.world);have tj :∀k∈ks,bA T B b (.slice (some ⟨bk,o,none⟩) T.length c) ub ob k:=fun k hk=>tG.out k (by have:=e8 hk;omega) (fH.out.at_ k hk)
 refine(IQ i f h ks loop pa la lc ms L (kD.out.resolve_right (by have:=bL.out;omega)) (st.setOf i f) W2 (hr2.mono (ah _) (iH _)) HX.out fN.out fH.out tj (fun k hk kH=>iL.out (by have:=bL.out;omega)) yJ.out.2 (by
  unfold gI;rw[ab (by have:=bL.out;omega),ab (by have:=bL.out;omega),ab (by have:=bL.out;omega),ai bL.out])).mono ?_
 intro e w3 hp;obtain⟨v,rfl⟩:=hp.ret;have HV:=aa hp;have lV:=aa hf2;clear hp hr2 hf2 tj;go_wp2_with fail
 go_ret
 have hE:aY (.mk i h ks) f st=((aE ks f (st.setOf i f)).bind fun s1=>bu i f h.line h.names s1):=by
  rw[ca];rw[ab (by have:=bL.out;omega)]
  rw[ab (by have:=bL.out;omega)]
  rw[ab (by have:=bL.out;omega)]
  rw[ab (by have:=bL.out;omega)]
  rw[ai bL.out]
 rw[hE];exact ao.after lV.out rfl HV.out
theorem Nw {T:List Nd} {B b:Nat} {nv:Value} {ub ob:Nat} (gA :∀x∈T,x.s.size≤65536∧∀s∈x.names,s.size≤65536) (i:Nat) (h:Nd) (ks:List Lt) (hn:ic T (.mk i h ks)) (gZ :∀u:Lt,u.size<Lt.al ks+1→ic T u→bA T B b nv ub ob u) (hk:h.kind=28):bA T B b nv ub ob (.mk i h ks):=by
 intro f loop pa la lc ms L st w hr bR cw;show Calls Tryz.prog 18 #[.pointer (some ⟨b,0,none⟩),.int .i64 (i:Int),.agg #[.int .i64 (f:Int),.int .i64 loop,.pointer pa,.slice la L.length lc]] w (ao B b nv T.length ub ob (.slice la L.length lc) L st (aY (.mk i h ks) f st) w)
 obtain⟨bk,o,c,NA,nc,KA,kc,rfl,dU,cg,x0,x1,x2,x3,x4,x5,x6,rK,v7,pO,hbl,ph,sZ,d0,d3,u0,v0,gT,HR,HN,tG,iL,kD,fH,tC,oU,fN,sJ,HX,yJ,DC⟩:=gP gA hn gZ hr bR cw;clear hr hn gZ bR cw gA;have q6:(h.kind == 6)=false:=aC.2 (by omega)
 have q7:(h.kind == 7)=false:=aC.2 (by omega)
 have yK:(h.kind == 11)=false:=aC.2 (by omega)
 have zC:(h.kind == 18)=false:=aC.2 (by omega)
 have WG:(h.kind == 23)=false:=aC.2 (by omega)
 have YV:(h.kind == 26)=false:=aC.2 (by omega)
 have q27:(h.kind == 27)=false:=aC.2 (by omega)
 have q24:(h.kind == 24)=false:=aC.2 (by omega)
 have q30:(h.kind == 30)=false:=aC.2 (by omega)
 have q31:(h.kind == 31)=false:=aC.2 (by omega)
 have bL:=aa hk;clear hk;go_enter Tryz.func18,Tryz.ntmps18
 go_wp2_with fail
 go_region
 obtain⟨W1,hW1,HZ,fB,pA,Bl,K,y0,th,oB,ti,k0,k1,k2,k3⟩:=dX loop i HR.out dU;rw[←hW1];have x0:=K _ _ x0;have x1:=K _ _ x1;have x2:=K _ _ x2;have x3:=K _ _ x3;have x4:=K _ _ x4;have x5:=K _ _ x5;have x6:=K _ _ x6;clear hW1 K d0 d3 u0 v0;have d0:=y0;clear y0;go_wp2_with fail
 obtain⟨W2,hW2⟩ :∃W2,W2=W1.alloc (.cells #[.int .i64 h.kind,.int .i64 h.line,.int .i64 h.op,.int .i64 h.num,.string h.s,.slice NA h.names.length nc,.slice KA h.kids.length kc] 54):=⟨_,rfl⟩;have di:Below W1.heap.size W1 W2:=by rw[hW2];exact(Below.refl _ _).alloc (ah _) _
 rw[←hW2];have hr2:=HZ.out.du di;have hf2:cU B ob (.slice la L.length lc) L.length (eh L) w W2:=fB.out.trans (cU.bH di HZ.out.world);have tj :∀k∈ks,bA T B b (.slice (some ⟨bk,o,none⟩) T.length c) ub ob k:=fun k hk=>tG.out k (by have:=e8 hk;omega) (fH.out.at_ k hk)
 refine(IS i f h ks loop pa la lc ms L (kD.out.resolve_right (by have:=bL.out;omega)) (st.setOf i f) W2 (hr2.mono (ah _) (iH _)) HX.out fN.out fH.out tj (fun k hk kH=>iL.out (by have:=bL.out;omega)) yJ.out.2 (by
  unfold gI;rw[ab (by have:=bL.out;omega),ab (by have:=bL.out;omega),ai bL.out])).mono ?_
 intro e w3 hp;obtain⟨v,rfl⟩:=hp.ret;have HV:=aa hp;have lV:=aa hf2;clear hp hr2 hf2 tj;go_wp2_with fail
 go_ret
 have hE:aY (.mk i h ks) f st=((bu i f h.line h.names (st.setOf i f)).bind fun s1=>aE ks f s1):=by
  rw[ca];rw[ab (by have:=bL.out;omega)]
  rw[ab (by have:=bL.out;omega)]
  rw[ab (by have:=bL.out;omega)]
  rw[ab (by have:=bL.out;omega)]
  rw[ab (by have:=bL.out;omega)]
  rw[ab (by have:=bL.out;omega)]
  rw[ab (by have:=bL.out;omega)]
  rw[ab (by have:=bL.out;omega)]
  rw[ai bL.out]
 rw[hE];exact ao.after lV.out rfl HV.out
theorem eY.WH {T:List Nd} {B b:Nat} {nv:Value} {ub ob f:Nat} {pa:Option Addr} {lv:Value} {ms:List Nat} {L:List cR} {st:aI} {w:World} {a s a' s':Nat} (h:eY T B b nv ub ob f pa lv ms L st w a s) (h1:a'≤a) (h2:s'+1≤s):yI T B b nv ub ob f pa lv ms L st w a' s' :=
 ⟨h.fC,h.rs,h.pos,h.cx,h.few,h.fr,by have:=h.names;omega,by have:=h.fns;omega,by have:=h.fx;omega⟩
theorem Nx {T:List Nd} {B b:Nat} {nv:Value} {ub ob:Nat} (gA :∀x∈T,x.s.size≤65536∧∀s∈x.names,s.size≤65536) (i:Nat) (h:Nd) (ks:List Lt) (hn:ic T (.mk i h ks)) (gZ :∀u:Lt,u.size<Lt.al ks+1→ic T u→bA T B b nv ub ob u) (hk:h.kind=18):bA T B b nv ub ob (.mk i h ks):=by
 intro f loop pa la lc ms L st w hr bR cw;show Calls Tryz.prog 18 #[.pointer (some ⟨b,0,none⟩),.int .i64 (i:Int),.agg #[.int .i64 (f:Int),.int .i64 loop,.pointer pa,.slice la L.length lc]] w (ao B b nv T.length ub ob (.slice la L.length lc) L st (aY (.mk i h ks) f st) w)
 have pW:=hn.sub;have nV:=hn.yF;unfold Lt.In at nV;obtain⟨hx,dh,_⟩:=nV;replace hr:eY T B b nv ub ob f pa (.slice la L.length lc) ms L st w (h.names.length+Lt.ey ks) (Lt.al ks+1):=by have h1:=hr;rw[Lt.wt,Lt.size] at h1;exact h1
 replace bR:18≤h.kind→loop=cM f st.frames:=bR;replace cw:L≠[]∨h.kind=18:=cw;obtain⟨lj,lk,ll⟩:=pW;replace lj:fI T ks:=lj;replace lk:h.kind≠18→∀k∈ks,Still k:=lk;replace ll:qc h.kind h.num (jG ks):=ll;have RF:=gA h (aX hx);obtain⟨bk,o,c,rfl,dU,cg,dJ⟩:=hr.fC.nodes;obtain⟨vM,vN,eT,⟨NA,nc,vQ,_⟩,⟨KA,kc,rl,wT,IN⟩⟩:=dJ i h hx;have rK:h.kids.length≤20000:=(hr.fC.small h (aX hx)).1;have oQ:h.kids.length=ks.length:=by rw[dh,bU]
 subst vQ rl;obtain⟨x0,x1,x2,x3,x4,x5,x6⟩:=eT;have v7:i<T.length:=(aK.1 hx).1;have pO:=hr.fC.few;obtain⟨fv,FL,hw⟩:=id hr.rs;obtain⟨hbl,ph,sZ⟩:=hw.mQ;have d0:w.cell? ⟨b,0,none⟩=some (.slice (some ⟨bk,o,none⟩) T.length c):=ae hw.blk 0;have d3:w.cell? ⟨b,3,none⟩=some (.slice (some ⟨ob,0,none⟩) T.length T.length):=ae hw.blk 3;obtain⟨u0,v0⟩:=cf hw.vX (j:=i) (by omega)
 have gT:bk<w.heap.size:=by omega
 have qj:=aa gA;have HR:=aa hr;have HN:=aa hn;have tG:=aa gZ;have iL:=aa bR;have kD:=aa cw;have fH:=aa lj;have tC:=aa lk;have oU:=aa ll;have fN:=aa dh;have sJ:=aa oQ;have HX:=aa hx;have yJ:=aa RF;have DC:=aa IN;clear hr hn gZ bR cw lj lk ll dh oQ hx RF dJ hw gA IN;have q6:(h.kind == 6)=false:=by rw[hk];rfl
 have q7:(h.kind == 7)=false:=by rw[hk];rfl
 have yK:(h.kind == 11)=false:=by rw[hk];rfl
 have zC:(h.kind == 18)=true:=by rw[hk];rfl
 have bL:=aa hk;clear hk;go_enter Tryz.func18,Tryz.ntmps18
 go_wp2_with fail
 go_region
 obtain⟨W1,hW1,HZ,fB,pA,Bl,K,y0,th,oB,ti,k0,k1,k2,k3⟩:=dX loop i HR.out dU;rw[←hW1];have x0:=K _ _ x0;have x1:=K _ _ x1;have x2:=K _ _ x2;have x3:=K _ _ x3;have x4:=K _ _ x4;have x5:=K _ _ x5;have x6:=K _ _ x6;clear hW1 K d0 d3 u0 v0;have d0:=y0;clear y0;go_wp2_with fail
 obtain⟨W2,hW2⟩ :∃W2,W2=W1.alloc (.cells #[.int .i64 h.kind,.int .i64 h.line,.int .i64 h.op,.int .i64 h.num,.string h.s,.slice NA h.names.length nc,.slice KA h.kids.length kc] 54):=⟨_,rfl⟩;have di:Below W1.heap.size W1 W2:=by rw[hW2];exact(Below.refl _ _).alloc (ah _) _
 rw[←hW2];have hr2:=HZ.out.du di;have hf2:cU B ob (.slice la L.length lc) L.length (eh L) w W2:=fB.out.trans (cU.bH di HZ.out.world);have tj :∀k∈ks,bA T B b (.slice (some ⟨bk,o,none⟩) T.length c) ub ob k:=fun k hk=>tG.out k (by have:=e8 hk;omega) (fH.out.at_ k hk)
 refine(xu i f h ks [] false loop pa la lc ms L (st.setOf i f) W2 (.slice none 0 0) (hr2.WH (wI _ _) (by show Lt.al ks+0+1≤_;omega)) HX.out fN.out fH.out ⟨by unfold Lt.sW;trivial,by unfold Lt.ix;trivial,by unfold Lt.ym;trivial,by unfold Lt.bh;exact EW,fun k hk=>by cases hk⟩ tj (fun k hk=>by cases hk) ⟨none,0,rfl,ah _,.inl rfl⟩ rfl (fun k hk kH=>iL.out (by have:=bL.out;omega)) (fun k hk=>by cases hk) (fun x hx=>(qj.out x.hd (aX (uy fH.out.yF (List.getElem?_of_mem hx).choose_spec).2)).1) (by simp)).mono ?_
 intro e w3 hp;obtain⟨v,rfl⟩:=hp.ret;have HV:=aa hp;have lV:=aa hf2;clear hp hr2 hf2 tj;go_wp2_with fail
 go_ret
 have hE:aY (.mk i h ks) f st=(wg i f false ks [] (st.setOf i f)).map fun s=>s.back (st.setOf i f):=by
  rw[ca];rw[ab (by have:=bL.out;omega)]
  rw[ab (by have:=bL.out;omega)]
  rw[ab (by have:=bL.out;omega)]
  rw[ai bL.out];unfold wg;rw[IP];cases gY i f false ks (st.setOf i f) with
  | error y=>rfl
  | ok s1 =>
   show(cL ks 0 f s1).map _=((cL ks 0 f s1).bind fun s2=>aE [] f s2).map _
   cases cL ks 0 f s1 with
   | error y=>rfl
   | ok s2=>show _=(aE [] f s2).map _;rw[eB]
 rw[hE];exact ao.after lV.out rfl HV.out
theorem Ny {T:List Nd} {B b:Nat} {nv:Value} {ub ob:Nat} (gA :∀x∈T,x.s.size≤65536∧∀s∈x.names,s.size≤65536) (i:Nat) (h:Nd) (ks:List Lt) (hn:ic T (.mk i h ks)) (gZ :∀u:Lt,u.size<Lt.al ks+1→ic T u→bA T B b nv ub ob u) (hk:h.kind=23):bA T B b nv ub ob (.mk i h ks):=by
 intro f loop pa la lc ms L st w hr bR cw;show Calls Tryz.prog 18 #[.pointer (some ⟨b,0,none⟩),.int .i64 (i:Int),.agg #[.int .i64 (f:Int),.int .i64 loop,.pointer pa,.slice la L.length lc]] w (ao B b nv T.length ub ob (.slice la L.length lc) L st (aY (.mk i h ks) f st) w)
 obtain⟨bk,o,c,NA,nc,KA,kc,rfl,dU,cg,x0,x1,x2,x3,x4,x5,x6,rK,v7,pO,hbl,ph,sZ,d0,d3,u0,v0,gT,HR,HN,tG,iL,kD,fH,tC,oU,fN,sJ,HX,yJ,DC⟩:=gP gA hn gZ hr bR cw;clear hr hn gZ bR cw gA;have q6:(h.kind == 6)=false:=by rw[hk];rfl
 have q7:(h.kind == 7)=false:=by rw[hk];rfl
 have yK:(h.kind == 11)=false:=by rw[hk];rfl
 have zC:(h.kind == 18)=false:=by rw[hk];rfl
 have WG:(h.kind == 23)=true:=by rw[hk];rfl
 have bL:=aa hk;clear hk;go_enter Tryz.func18,Tryz.ntmps18
 go_wp2_with fail
 go_region
 obtain⟨W1,hW1,HZ,fB,pA,Bl,K,y0,th,oB,ti,k0,k1,k2,k3⟩:=dX loop i HR.out dU;rw[←hW1];have x0:=K _ _ x0;have x1:=K _ _ x1;have x2:=K _ _ x2;have x3:=K _ _ x3;have x4:=K _ _ x4;have x5:=K _ _ x5;have x6:=K _ _ x6;clear hW1 K d0 d3 u0 v0;have d0:=y0;clear y0;go_wp2_with fail
 obtain⟨W2,hW2⟩ :∃W2,W2=W1.alloc (.cells #[.int .i64 h.kind,.int .i64 h.line,.int .i64 h.op,.int .i64 h.num,.string h.s,.slice NA h.names.length nc,.slice KA h.kids.length kc] 54):=⟨_,rfl⟩;have di:Below W1.heap.size W1 W2:=by rw[hW2];exact(Below.refl _ _).alloc (ah _) _
 rw[←hW2];refine(lU f loop (i:Int) pa la L.length lc W2).mono ?_;rintro e wv ⟨rfl,WI⟩;have di:=di.trans (WI.mono di.size);clear hW2 WI;go_wp2_with fail
 have hr2:=HZ.out.du di;have hf2:cU B ob (.slice la L.length lc) L.length (eh L) w wv:=fB.out.trans (cU.bH di HZ.out.world);have tj :∀k∈ks,bA T B b (.slice (some ⟨bk,o,none⟩) T.length c) ub ob k:=fun k hk=>tG.out k (by have:=e8 hk;omega) (fH.out.at_ k hk)
 refine(FT i f h ks (i:Int) pa la lc ms L (dv i f (st.setOf i f)) wv ((hr2.mono (wI _ _) (iH _)).oa i) HX.out fN.out fH.out tj (fun k hk kH=>(uK f i _).symm) (fun k _=>.inl (kD.out.resolve_right (by have:=bL.out;omega))) (by
  unfold gI;rw[ab (by have:=bL.out;omega),ab (by have:=bL.out;omega),ab (by have:=bL.out;omega),ab (by have:=bL.out;omega)])).mono ?_
 intro e w3 hp;obtain⟨v,rfl⟩:=hp.ret;have HV:=aa hp;have lV:=aa hf2;clear hp hr2 hf2 tj;go_wp2_with fail
 go_ret
 have hE:aY (.mk i h ks) f st=(aE ks f (dv i f (st.setOf i f))).map fun s=>s.back (st.setOf i f):=by
  rw[ca];rw[ab (by have:=bL.out;omega)]
  rw[ab (by have:=bL.out;omega)]
  rw[ab (by have:=bL.out;omega)]
  rw[ab (by have:=bL.out;omega)]
  rw[ab (by have:=bL.out;omega)]
  rw[ai bL.out]
 rw[hE];exact ao.after lV.out rfl (HV.out.Tf (st':=st.setOf i f) rfl fun s' hs'=>qi ks fH.out.quiet (tC.out (by have:=bL.out;omega)) hs')
theorem yL :∀a b:List Lt,Lt.ey (a++b)=Lt.ey a+Lt.ey b
 | [],b=>by rw[kM,show Lt.ey []=0 from rfl,gi]
 | x::a,b=>by rw[dT,Lt.ey,Lt.ey,yL a b,oK]
theorem xx :∀a b:List Lt,Lt.bh (a++b)=Lt.bh a++Lt.bh b
 | [],b=>rfl
 | x::a,b=>by rw[dT,Lt.bh,Lt.bh,xx a b,cP]
theorem fI.app {T:List Nd} :∀{a b:List Lt},fI T (a++b)→fI T a∧fI T b
 | [],b,h=>⟨⟨by unfold Lt.sW;trivial,by unfold Lt.ix;trivial,by unfold Lt.ym;trivial,by unfold Lt.bh;exact EW,fun k hk=>by cases hk⟩,h⟩
 | x::a,b,h=>by
  obtain⟨h1,h2⟩:=fI.cons (k:=x) (ks:=a++b) h;obtain⟨h3,h4⟩:=fI.app h2;have h5:=h.nodup;rw[xx,oH] at h5;exact⟨⟨by unfold Lt.sW;exact⟨h1.yF,h3.yF⟩,by unfold Lt.ix;exact⟨h1.form,h3.form⟩,by unfold Lt.ym;exact⟨h1.wf,h3.wf⟩,h5.1,fun k hk=>h.kind k (eN b hk)⟩,h4⟩
theorem u5 {ks:List Lt} {l:List Int} (h:jG ks=l++[18]) :∃vals blk,ks=vals++[blk]∧jG vals=l∧blk.hd.kind=18:=by
 unfold jG at h;obtain⟨a,b,e,h1,h2⟩:=wD.1 h;obtain⟨x,e2,h3⟩:=List.map_eq_singleton_iff.1 h2;exact⟨a,x,by rw[e,e2],h1,h3⟩
theorem Nz {T:List Nd} {B b:Nat} {nv:Value} {ub ob:Nat} (gA :∀x∈T,x.s.size≤65536∧∀s∈x.names,s.size≤65536) (i:Nat) (h:Nd) (ks:List Lt) (hn:ic T (.mk i h ks)) (gZ :∀u:Lt,u.size<Lt.al ks+1→ic T u→bA T B b nv ub ob u) (hk:h.kind=26):bA T B b nv ub ob (.mk i h ks):=by
 intro f loop pa la lc ms L st w hr bR cw;show Calls Tryz.prog 18 #[.pointer (some ⟨b,0,none⟩),.int .i64 (i:Int),.agg #[.int .i64 (f:Int),.int .i64 loop,.pointer pa,.slice la L.length lc]] w (ao B b nv T.length ub ob (.slice la L.length lc) L st (aY (.mk i h ks) f st) w)
 obtain⟨bk,o,c,NA,nc,KA,kc,rfl,dU,cg,x0,x1,x2,x3,x4,x5,x6,rK,v7,pO,hbl,ph,sZ,d0,d3,u0,v0,gT,HR,HN,tG,iL,kD,fH,tC,oU,fN,sJ,HX,yJ,DC⟩:=gP gA hn gZ hr bR cw;clear hr hn gZ bR cw gA;have q6:(h.kind == 6)=false:=by rw[hk];rfl
 have q7:(h.kind == 7)=false:=by rw[hk];rfl
 have yK:(h.kind == 11)=false:=by rw[hk];rfl
 have zC:(h.kind == 18)=false:=by rw[hk];rfl
 have WG:(h.kind == 23)=false:=by rw[hk];rfl
 have YV:(h.kind == 26)=true:=by rw[hk];rfl
 have bL:=aa hk;clear hk;go_enter Tryz.func18,Tryz.ntmps18
 go_wp2_with fail
 go_region
 obtain⟨W1,hW1,HZ,fB,pA,Bl,K,y0,th,oB,ti,k0,k1,k2,k3⟩:=dX loop i HR.out dU;rw[←hW1];have x0:=K _ _ x0;have x1:=K _ _ x1;have x2:=K _ _ x2;have x3:=K _ _ x3;have x4:=K _ _ x4;have x5:=K _ _ x5;have x6:=K _ _ x6;clear hW1 K d0 d3 u0 v0;have d0:=y0;clear y0;obtain⟨l,hl0,qn⟩ :∃l,jG ks=l++[18]∧∀a∈l,tD a:=by
  obtain⟨l,h1,_,h2⟩:=oU.out.for_ bL.out;exact⟨l,h1,h2⟩
 obtain⟨vals,blk,rfl,hv,hb⟩:=u5 hl0;subst hv;go_wp2_with fail
 obtain⟨W2,hW2⟩ :∃W2,W2=W1.alloc (.cells #[.int .i64 h.kind,.int .i64 h.line,.int .i64 h.op,.int .i64 h.num,.string h.s,.slice NA h.names.length nc,.slice KA h.kids.length kc] 54):=⟨_,rfl⟩;have di:Below W1.heap.size W1 W2:=by rw[hW2];exact(Below.refl _ _).alloc (ah _) _
 rw[←hW2];refine(lU f loop (i:Int) pa la L.length lc W2).mono ?_;rintro e wv ⟨rfl,WI⟩;have di:=di.trans (WI.mono di.size);clear hW2 WI;go_wp2_with fail
 have hr2:=HZ.out.du di;have hf2:cU B ob (.slice la L.length lc) L.length (eh L) w wv:=fB.out.trans (cU.bH di HZ.out.world);have tj :∀k∈vals++[blk],bA T B b (.slice (some ⟨bk,o,none⟩) T.length c) ub ob k:=fun k hk=>tG.out k (by have:=e8 hk;omega) (fH.out.at_ k hk)
 have hlen:h.kids.length=vals.length+1:=by rw[sJ.out,bY,mT]
 refine(Bf i f h vals [blk] (i:Int) pa la lc ms L (st.setOf i f) wv (hr2.mono (by rw[yL];omega) (by rw[pe];omega)) HX.out (by rw[fN.out,kN]) (by simp) fH.out.app.1 fH.out.app.2 (fun k hk=>tj k (eN _ hk)) (fun k hk=>tj k (iE _ hk)) (fun k hk=>by have:=qn _ (j3 hk);unfold tD at this;omega) (fun k hk=>tC.out (by have:=bL.out;omega) k (eN _ hk)) (kD.out.resolve_right (by have:=bL.out;omega)) yJ.out.2 rfl (by
  unfold gI;rw[ai (by have:=bL.out;omega),hlen]
  congr 2
  omega)).mono ?_
 intro e w3 hp;obtain⟨v,rfl⟩:=hp.ret;have HV:=aa hp;have lV:=aa hf2;clear hp hr2 hf2 tj;go_wp2_with fail
 go_ret
 have hE:aY (.mk i h (vals++[blk])) f st=((aE vals f (st.setOf i f)).bind fun s1=>((bu i f h.line h.names (dv i f s1)).bind fun s2=>aE [blk] f s2).map fun s=>s.back s1):=by
  rw[ca];rw[ab (by have:=bL.out;omega)]
  rw[ab (by have:=bL.out;omega)]
  rw[ab (by have:=bL.out;omega)]
  rw[ab (by have:=bL.out;omega)]
  rw[ab (by have:=bL.out;omega)]
  rw[ab (by have:=bL.out;omega)]
  rw[ab (by have:=bL.out;omega)]
  rw[ai (by have:=bL.out;omega)]
  exact qA blk vals (st.setOf i f)
 rw[hE];exact ao.after lV.out rfl HV.out
theorem NB {T:List Nd} {B b:Nat} {nv:Value} {ub ob:Nat} (gA :∀x∈T,x.s.size≤65536∧∀s∈x.names,s.size≤65536) (i:Nat) (h:Nd) (ks:List Lt) (hn:ic T (.mk i h ks)) (gZ :∀u:Lt,u.size<Lt.al ks+1→ic T u→bA T B b nv ub ob u) (hk:h.kind=27):bA T B b nv ub ob (.mk i h ks):=by
 intro f loop pa la lc ms L st w hr bR cw;show Calls Tryz.prog 18 #[.pointer (some ⟨b,0,none⟩),.int .i64 (i:Int),.agg #[.int .i64 (f:Int),.int .i64 loop,.pointer pa,.slice la L.length lc]] w (ao B b nv T.length ub ob (.slice la L.length lc) L st (aY (.mk i h ks) f st) w)
 obtain⟨bk,o,c,NA,nc,KA,kc,rfl,dU,cg,x0,x1,x2,x3,x4,x5,x6,rK,v7,pO,hbl,ph,sZ,d0,d3,u0,v0,gT,HR,HN,tG,iL,kD,fH,tC,oU,fN,sJ,HX,yJ,DC⟩:=gP gA hn gZ hr bR cw;clear hr hn gZ bR cw gA;have q6:(h.kind == 6)=false:=by rw[hk];rfl
 have q7:(h.kind == 7)=false:=by rw[hk];rfl
 have yK:(h.kind == 11)=false:=by rw[hk];rfl
 have zC:(h.kind == 18)=false:=by rw[hk];rfl
 have WG:(h.kind == 23)=false:=by rw[hk];rfl
 have YV:(h.kind == 26)=false:=by rw[hk];rfl
 have q27:(h.kind == 27)=true:=by rw[hk];rfl
 have bL:=aa hk;clear hk;go_enter Tryz.func18,Tryz.ntmps18
 go_wp2_with fail
 go_region
 obtain⟨W1,hW1,HZ,fB,pA,Bl,K,y0,th,oB,ti,k0,k1,k2,k3⟩:=dX loop i HR.out dU;rw[←hW1];have x0:=K _ _ x0;have x1:=K _ _ x1;have x2:=K _ _ x2;have x3:=K _ _ x3;have x4:=K _ _ x4;have x5:=K _ _ x5;have x6:=K _ _ x6;clear hW1 K d0 d3 u0 v0;have d0:=y0;clear y0;obtain⟨l,hl0,qn⟩ :∃l,jG ks=l++[18]∧∀a∈l,tD a:=by
  obtain⟨l,h1,_,h2⟩:=oU.out.each bL.out;exact⟨l,h1,h2⟩
 obtain⟨vals,blk,rfl,hv,hb⟩:=u5 hl0;subst hv;go_wp2_with fail
 obtain⟨W2,hW2⟩ :∃W2,W2=W1.alloc (.cells #[.int .i64 h.kind,.int .i64 h.line,.int .i64 h.op,.int .i64 h.num,.string h.s,.slice NA h.names.length nc,.slice KA h.kids.length kc] 54):=⟨_,rfl⟩;have di:Below W1.heap.size W1 W2:=by rw[hW2];exact(Below.refl _ _).alloc (ah _) _
 rw[←hW2];refine(lU f loop (i:Int) pa la L.length lc W2).mono ?_;rintro e wv ⟨rfl,WI⟩;have di:=di.trans (WI.mono di.size);clear hW2 WI;go_wp2_with fail
 have hr2:=HZ.out.du di;have hf2:cU B ob (.slice la L.length lc) L.length (eh L) w wv:=fB.out.trans (cU.bH di HZ.out.world);have tj :∀k∈vals++[blk],bA T B b (.slice (some ⟨bk,o,none⟩) T.length c) ub ob k:=fun k hk=>tG.out k (by have:=e8 hk;omega) (fH.out.at_ k hk)
 have hlen:h.kids.length=vals.length+1:=by rw[sJ.out,bY,mT]
 refine(Bf i f h vals [blk] (i:Int) pa la lc ms L (st.setOf i f) wv (hr2.mono (by rw[yL];omega) (by rw[pe];omega)) HX.out (by rw[fN.out,kN]) (by simp) fH.out.app.1 fH.out.app.2 (fun k hk=>tj k (eN _ hk)) (fun k hk=>tj k (iE _ hk)) (fun k hk=>by have:=qn _ (j3 hk);unfold tD at this;omega) (fun k hk=>tC.out (by have:=bL.out;omega) k (eN _ hk)) (kD.out.resolve_right (by have:=bL.out;omega)) yJ.out.2 rfl (by
  unfold gI;rw[ai (by have:=bL.out;omega),hlen]
  congr 2
  omega)).mono ?_
 intro e w3 hp;obtain⟨v,rfl⟩:=hp.ret;have HV:=aa hp;have lV:=aa hf2;clear hp hr2 hf2 tj;go_wp2_with fail
 go_ret
 have hE:aY (.mk i h (vals++[blk])) f st=((aE vals f (st.setOf i f)).bind fun s1=>((bu i f h.line h.names (dv i f s1)).bind fun s2=>aE [blk] f s2).map fun s=>s.back s1):=by
  rw[ca];rw[ab (by have:=bL.out;omega)]
  rw[ab (by have:=bL.out;omega)]
  rw[ab (by have:=bL.out;omega)]
  rw[ab (by have:=bL.out;omega)]
  rw[ab (by have:=bL.out;omega)]
  rw[ab (by have:=bL.out;omega)]
  rw[ab (by have:=bL.out;omega)]
  rw[ai (by have:=bL.out;omega)]
  exact qA blk vals (st.setOf i f)
 rw[hE];exact ao.after lV.out rfl HV.out
structure DO (T:List Nd) (B b:Nat) (nv:Value) (ub ob f:Nat) (pa:Option Addr) (lv:Value) (ms:List Nat) (L:List cR) (st:aI) (w:World) (a s:Nat):Prop where
 fC:vW w B nv T
 rs:jI w B b nv T.length st ub ob
 pos:oP w B f (.pointer pa) lv ms L st
 hd:HdF f L
 lt:f<st.fns.length
 few:dP st.fns
 fr :∀x∈st.frames,x.fn<st.fns.length
 names:st.names.length+a≤100000
 fns:st.fns.length+s≤100000
 fx:L.length+s≤100000
structure sK (T:List Nd) (B b:Nat) (nv:Value) (ub ob f:Nat) (pa:Option Addr) (lv:Value) (ms:List Nat) (L:List cR) (st:aI) (w:World) (a s:Nat):Prop where
 fC:vW w B nv T
 rs:jI w B b nv T.length st ub ob
 pos:oP w B f (.pointer pa) lv ms L st
 lt:f<st.fns.length
 few:dP st.fns
 fr :∀x∈st.frames,x.fn<st.fns.length
 names:st.names.length+a≤100000
 fns:st.fns.length+s≤100000
 fx:L.length+1+s≤100000
theorem DP {T:List Nd} {B b:Nat} {nv:Value} {ub ob f:Nat} {pa la:Option Addr} {lc:Nat} {ms:List Nat} {L:List cR} {st:aI} {w:World} {a s:Nat} (loop:Int) (h:sK T B b nv ub ob f pa (.slice la L.length lc) ms L st w a s) :
  Calls Tryz.prog 74 #[.agg #[.int .i64 (f:Int),.int .i64 loop,.pointer pa,.slice la L.length lc]] w fun e w'=>∃g c m,e=.returned (.agg #[.int .i64 (f:Int),.int .i64 loop,.pointer pa,.slice (some ⟨g,0,none⟩) (L.length+1) c])∧DO T B b nv ub ob f pa (.slice (some ⟨g,0,none⟩) (L.length+1) c) ms (⟨f,m,[]⟩::L) st w' a s∧w.heap.size≤m∧((Value.slice la L.length lc).ownBlock=some g∨w.heap.size≤g)∧cU B ob (.slice la L.length lc) L.length none w w':=by
 have cg:B≤w.heap.size:=by obtain⟨_,_,_,_,_,h,_⟩:=h.fC.nodes;exact h
 refine(xq f loop pa la lc L w h.pos.fx (by have:=h.fx;omega) cg).mono ?_
 rintro e w' ⟨g,c,m,he,h1,h2,h3,h4,h5⟩;have hf:=h4 ob;refine⟨g,c,m,he,⟨h.fC.below hf.below,?_,⟨h1,h.pos.blk.jk hf (by simp),h.pos.names,?_⟩,?_,h.lt,h.few,h.fr,h.names,h.fns,?_⟩,h2,h3,hf⟩
 ·obtain⟨fv,FL,hw⟩:=h.rs
  exact⟨fv,FL,hw.fr h5 (by decide)⟩
 ·intro m' hm' l hl
  rcases bc.1 hl with rfl|hl
  ·have:=cb.lt h.pos.blk m' hm'
   show m'≠m
   omega
  ·exact h.pos.apart m' hm' l hl
 ·intro l r e
  injection e with e _;rw[←e]
 ·have:=h.fx
  rw[List.length_cons];omega
theorem sK.du {T:List Nd} {B b:Nat} {nv:Value} {ub ob f:Nat} {pa:Option Addr} {lv:Value} {ms:List Nat} {L:List cR} {st:aI} {w w':World} {a s:Nat} (h:sK T B b nv ub ob f pa lv ms L st w a s) (hb:Below w.heap.size w w'):sK T B b nv ub ob f pa lv ms L st w' a s:=by
 have cg:B≤w.heap.size:=by obtain⟨_,_,_,_,_,h,_⟩:=h.fC.nodes;exact h
 have h2:cU B ob lv L.length none w w':=cU.bH hb cg;refine⟨h.fC.below h2.below,?_,⟨h.pos.fx.jk h2 (ah _),h.pos.blk.jk h2 (by simp),h.pos.names,h.pos.apart⟩,h.lt,h.few,h.fr,h.names,h.fns,h.fx⟩
 obtain⟨fv,FL,hw⟩:=h.rs;exact⟨fv,FL,hw.later hb⟩
theorem sK.levels {T:List Nd} {B b:Nat} {nv:Value} {ub ob f:Nat} {pa:Option Addr} {lv:Value} {ms:List Nat} {L:List cR} {st:aI} {w:World} {a s:Nat} (h:sK T B b nv ub ob f pa lv ms L st w a s) :∀l∈L,l.blk<w.heap.size:=fun l hl=>(h.pos.fx.maps l hl).1.lt
theorem DO.SX {T:List Nd} {B b:Nat} {nv:Value} {ub ob f:Nat} {pa:Option Addr} {lv:Value} {ms:List Nat} {L:List cR} {st:aI} {w w':World} {a s:Nat} (h:DO T B b nv ub ob f pa lv ms L st w a s) (k:Fr [69] w w') (hb:Below B w w'):DO T B b nv ub ob f pa lv ms L st w' a s:=by
 refine⟨h.fC.below hb,?_,⟨h.pos.fx.fr k (by decide),cb.fr k (by decide) h.pos.blk,h.pos.names,h.pos.apart⟩,h.hd,h.lt,h.few,h.fr,h.names,h.fns,h.fx⟩
 obtain⟨fv,FL,hw⟩:=h.rs;exact⟨fv,FL,hw.fr k (by decide)⟩
theorem DO.step {T:List Nd} {B b:Nat} {nv:Value} {ub ob f:Nat} {pa:Option Addr} {lv:Value} {ms:List Nat} {L:List cR} {st st':aI} {w w':World} {a s a1 s1:Nat} {e:Ending} (h:DO T B b nv ub ob f pa lv ms L st w (a1+a) (s1+s)) (wS:Mk a1 s1 st st') (vP:Cx f st') (hf:st'.frames=st.frames) (hp:ao B b nv T.length ub ob lv L st (.ok st') w e w') :
  e=.returned .nilIface∧∃x,st'.names=x++st.names∧(L=[]→x=[])∧eY T B b nv ub ob f pa lv ms (grow x L) st' w' a s∧cU B ob lv L.length (eh L) w w':=by
 obtain⟨hb,rfl,Rx,mP,x,hx1,hx2,hx3⟩:=hp;refine⟨rfl,x,hx1,hx2,⟨h.fC.below hb,Rx,h.pos.on mP hx3 hx1 hx2 hf,h.hd.grow x,vP,wS.few,fun y hy=>?_,?_,?_,?_⟩,mP⟩
 ·rw[hf] at hy
  exact cG (h.fr y hy) wS.least
 ·have:=wS.names;have:=h.names;omega
 ·have:=wS.fns;have:=h.fns;omega
 ·rw[cz];have:=h.fx;omega
theorem IT {T:List Nd} {B b:Nat} {nv:Value} {ub ob:Nat} (i f:Nat) (h:Nd) (rest:List Lt) (loop:Int) (pa la:Option Addr) (lc:Nat) (ms:List Nat) (L:List cR) (st:aI) (w:World) (hr:sK T B b nv ub ob f pa (.slice la L.length lc) ms L st w (h.names.length+Lt.ey rest) (Lt.al rest)) (hx:T[i]? = some h) (hk:h.kids=rest.map fun k=>(k.loc:Int)) (Bg:rest≠[]) (uP:fI T rest) (hV2 :∀k∈rest,bA T B b nv ub ob k)
  (hl :∀k∈rest,18≤k.hd.kind→loop=cM f st.frames) (hsz :∀s∈h.names,s.size≤65536) (vP :∀s2,bu i f h.line h.names st=.ok s2→Cx f s2) (hd:gI h.kind h.kids.length=(true,0,true)) :
  Calls Tryz.prog 35 #[.pointer (some ⟨b,0,none⟩),.int .i64 (i:Int),.agg #[.int .i64 (f:Int),.int .i64 loop,.pointer pa,.slice la L.length lc]] w (ao B b nv T.length ub ob (.slice la L.length lc) L st (((bu i f h.line h.names st).bind fun s2=>aE rest f s2).map fun s=>s.back st) w):=by
 obtain⟨bk,o,c,rfl,dU,cg,dJ⟩:=hr.fC.nodes;obtain⟨vM,vN,eT,⟨NA,nc,vQ,_⟩,e7⟩:=dJ i h hx;have rK:h.kids.length≤20000:=(hr.fC.small h (aX hx)).1;have oQ:h.kids.length=rest.length:=by rw[hk,bU]
 have hr1:1≤rest.length:=wE.2 Bg;obtain⟨KA,kc,rl,wT,IN⟩:=id e7;subst vQ rl;obtain⟨sb,so,rfl⟩ :∃sb so,KA=some ⟨sb,so,none⟩:=by
  rcases IN with h0 | ⟨sb,so,h1,_⟩
  ·rw[h0] at oQ;simp at oQ;omega
  ·exact⟨sb,so,h1⟩
 obtain⟨x0,x1,x2,x3,x4,x5,x6⟩:=eT;have v7:i<T.length:=(aK.1 hx).1;have pO:=hr.fC.few;have hbl:b<w.heap.size:=by obtain⟨_,_,hw⟩:=hr.rs;exact hw.mQ.1
 have d0:w.cell? ⟨b,0,none⟩=some (.slice (some ⟨bk,o,none⟩) T.length c):=by obtain⟨_,_,hw⟩:=hr.rs;exact ae hw.blk 0
 have gT:bk<w.heap.size:=by omega
 have HD:=aa (gJ h.kind h.line h.op h.num h.s NA (some ⟨sb,so,none⟩) h.names.length nc h.kids.length kc);have Bh:gG w B (.slice (some ⟨sb,so,none⟩) h.kids.length kc) (rest.map fun k=>(k.loc:Int)):=by
  rw[←hk];exact e7
 have HR:=aa hr;have SZ:=aa uP;have HV2:=aa hV2;have Nn:=aa Bh;have SW:=aa hd;have HK:=aa hk;have nm:=aa hr1;have qj:=aa hsz;have HX:=aa hx;have sJ:=aa oQ;have HL:=aa hl;have HCX:=aa vP;clear vP hr1 oQ hr hl e7 Bh hd dJ hk uP hV2 IN hsz hx Bg;go_enter Tryz.func35,Tryz.ntmps35
 go_wp2_with fail
 refine(HD.out _ (by omega)).mono ?_
 rw[SW.out];rintro e w1 ⟨rfl,hb1⟩;have ee:=aa hb1;clear hb1;go_wp2_with fail
 have yH:=lh rfl ee.out (.bool true) (.int .i64 0) (.bool true);have qz:=aa yH.2;have oR:=aa yH.1;clear yH;clear d0 x0 x1 x2 x3 x4 x5 x6;generalize w1.alloc (.cells #[.bool true,.int .i64 0,.bool true] 144)=W2 at qz oR ⊢;generalize w1.heap.size=q at qz ⊢;generalize w.heap.size+1=p at qz ⊢;obtain⟨k0,k1,k2,k3,k4,k5,k6,k7,k8⟩:=qz.out.cells;go_still_tail 7,(by kernel_rfl)
 change wpList _ _ _ _ _ W2.drew;have D2:=aa (show Below W2.heap.size W2 W2.drew from(Below.refl _ _).drew)
 generalize W2.drew=W3 at D2 ⊢;go_wp2_with fail
 refine(all_nil b f loop pa la (some ⟨sb,so,none⟩) L.length lc kc W3).mono ?_;rintro e w4 ⟨rfl,hb4⟩;have MK:=D2.out.trans (hb4.mono D2.out.size);have pj:=oR.out.trans (MK.mono oR.out.size);have P5:=aa (qz.out.later MK);have Ni:Hid (cU B ob (.slice la L.length lc) L.length (eh L) w w4):=aa (cU.bH pj cg);have hz:=HR.out.du pj;have HZ:=aa hz;have HOP:=aa (DP loop hz);have ac8:=pj.size;clear hb4 MK pj hz k0 k1 k2 k3 k4 k5 k6 k7 k8;obtain⟨k0,k1,k2,k3,k4,k5,k6,k7,k8⟩:=P5.out.cells;go_wp2_with fail
 refine HOP.out.mono ?_;rintro e w6 ⟨g,c6,m,rfl,Mr,hm,hg,Ry⟩;have P6:=aa (P5.out.jk Ry);have y0:=aH P6.out.pos 0;have y1:=aH P6.out.pos 1;have y2:=aH P6.out.pos 2;have y3:=aH P6.out.pos 3;have HR6:=aa Mr;have HM:=aa hm;have HG:=aa hg;have Mt:=aa Ry;clear Mr hm hg Ry k0 k1 k2 k3 k4 k5 k6 k7 k8;obtain⟨k0,k1,k2,k3,k4,k5,k6,k7,k8⟩:=P6.out.cells;obtain⟨W7,DL⟩ :∃W7,W7=four w6 w.heap.size (.int .i64 (f:Int)) (.int .i64 loop) (.pointer pa) (.slice (some ⟨g,0,none⟩) (L.length+1) c6):=⟨_,rfl⟩;have P7:Hid (eZ w W7 p q f loop pa (.slice (some ⟨g,0,none⟩) (L.length+1) c6) (.slice (some ⟨sb,so,none⟩) h.kids.length kc) (.slice NA h.names.length nc) (.bool true) (.int .i64 0) (.bool true)):=aa (by rw[DL];exact P6.out.four _ _ _)
 have kn:vO w6 w.heap.size 69:=⟨_,_,P6.out.pos⟩;have F7:Hid (Fr [69] w6 W7):=aa (by rw[DL];exact u4 kn _ _ _ _)
 have B7:Hid (Below B w6 W7):=aa (by rw[DL];exact pz w6 cg _ _ _ _)
 have K7:Hid (∀k,k≠w.heap.size→W7.heap[k]? = w6.heap[k]?):=aa (by rw[DL];exact fun k hk=>nj w6 _ _ _ _ _ k hk)
 unfold four at DL;have HW7:=aa DL;clear DL kn;have hpn:p≠w.heap.size:=by have:=P5.out.pne;omega
 have hqn:q≠w.heap.size:=by have:=P5.out.qne;omega
 go_wp2_with fail
 rw[←HW7.out];have HZ0:=HZ.out;have hlt :∀l∈L,l.blk≠m:=fun l hl=>by have:=HZ.out.levels l hl;have:=HM.out;omega
 have Bi:=HR6.out.SX F7.out B7.out;have Wn:cU B ob (.slice la L.length lc) L.length (eh L) w W7:=(Ni.out.trans (Mt.out.Fu _)).past B7.out fun k hk=>K7.out k (by omega)
 have hLV:df W7 B (.slice la L.length lc) L:=((HZ.out.pos.fx).jk Mt.out (ah _)).fr F7.out (by decide)
 have Wz:(Value.slice la L.length lc).ownBlock=some g∨w.heap.size≤g:=HG.out.imp id fun h=>by omega
 have WA:w.heap.size≤m:=by have:=HM.out;omega
 have YM:=aa Bi;have YN:=aa Wn;have WB:=aa hLV;have HOW:=aa Wz;have WC:=aa WA;have jf:=aa hlt;have hdec:Calls Tryz.prog 75 #[.pointer (some ⟨b,0,none⟩),.int .i64 (i:Int),.agg #[.int .i64 (f:Int),.int .i64 loop,.pointer pa,.slice (some ⟨g,0,none⟩) (L.length+1) c6]] W7 (ao B b (.slice (some ⟨bk,o,none⟩) T.length c) T.length ub ob (.slice (some ⟨g,0,none⟩) (L.length+1) c6) (⟨f,m,[]⟩::L) st (bu i f h.line h.names st) W7) :=
  j8 b i f h loop pa (some ⟨g,0,none⟩) c6 ⟨f,m,[]⟩ L st W7 Bi.fC Bi.rs HX.out Bi.lt Bi.pos.fx rfl (by have:=Bi.fx;omega) Bi.few (by simp) qj.out
 clear Bi Wn hLV Wz WA hlt HZ0 k0 k1 k2 k3 k4 k5 k6 k7 k8 y0 y1 y2 y3;refine hdec.mono ?_;intro e w8 hp;clear hdec;cases jJ:bu i f h.line h.names st with
 | error y =>
  rw[jJ] at hp;have HP:=aa hp;obtain⟨_,v,rfl,g2,rfl,_⟩:=hp;have HE:Hid ((((bu i f h.line h.names st).bind fun s2=>aE rest f s2).map fun s=>s.back st)=.error y):=aa (by  rw[jJ];rfl)
  clear jJ;go_wp2_with fail
  go_ret
  rw[HE.out];exact(ao.inner (st:=st) YN.out WB.out jf.out HOW.out WC.out HP.out)
 | ok s2 =>
  rw[jJ] at hp;have uZ:=uD jJ;obtain⟨rfl,x,hx1,hx2,S4,S5⟩:=DO.step (a1:=h.names.length) (s1:=0) (by rw[gi];exact YM.out) (jF jJ YM.out.few) (HCX.out s2 jJ) uZ hp
  have P9:=aa (P7.out.jk S5);have HC:Hid (∀W,Below w8.heap.size w8 W→Calls Tryz.prog 73 #[.pointer (some ⟨b,0,none⟩),.slice (some ⟨sb,so,none⟩) h.kids.length kc,.agg #[.int .i64 (f:Int),.int .i64 loop,.pointer pa,.slice (some ⟨g,0,none⟩) (L.length+1) c6]] W (ao B b (.slice (some ⟨bk,o,none⟩) T.length c) T.length ub ob (.slice (some ⟨g,0,none⟩) (L.length+1) c6) (grow x (⟨f,m,[]⟩::L)) s2 (aE rest f s2) w8)):=aa fun W hW =>
   (DJ f loop pa (some ⟨g,0,none⟩) c6 ms (⟨f,m,[]⟩::L) x s2 W (.slice (some ⟨sb,so,none⟩) h.kids.length kc) rest (S4.du hW) SZ.out HV2.out (Nn.out.below ((YN.out.below.trans S5.below).trans (hW.mono S4.world))) (fun k hk kH=>(HL.out k hk kH).trans (tH uZ).symm) (fun k _=>.inl (by simp)) (by have:=sJ.out;omega)).mono fun e w' h=>h.from hW S4.world
  have Ye:=aa S5;have Nc:=aa hx1;have HE:Hid ((((bu i f h.line h.names st).bind fun s2=>aE rest f s2).map fun s=>s.back st)=(aE rest f s2).map fun s=>s.back st):=aa (by  rw[jJ];rfl)
  clear hp S4 S5 uZ hx1 hx2 jJ;obtain⟨k0,k1,k2,k3,k4,k5,k6,k7,k8⟩:=P9.out.cells;go_wp2_with fail
  go_still_tail 7,(by kernel_rfl)
  change wpList _ _ _ _ _ w8.drew;have Ww:=aa (HC.out w8.drew (Below.refl _ _).drew);generalize w8.drew=W9 at Ww ⊢;go_wp2_with fail
  refine Ww.out.mono ?_;intro e w10 hp;obtain⟨v,rfl⟩:=hp.ret;have HP:=aa hp;clear hp;go_wp2_with fail
  go_ret
  rw[HE.out];exact(ao.inner (st:=st) YN.out WB.out jf.out HOW.out WC.out (ao.trans (L:=⟨f,m,[]⟩::L) (st1:=s2) (x:=x) Ye.out.below Ye.out Nc.out (fun e=>by cases e) HP.out))
theorem xy {f:Nat} :∀{fr:List fE},(∀x∈fr,x.fn<f)→dB f fr=[]
 | [],_=>rfl
 | x::fr,h=>by
  rw[rD (.inr (jC (h x (bP ..))))];exact xy fun y hy=>h y (bO _ hy)
theorem IU {f:Nat} {fr:List fE} (h :∀x∈fr,x.fn<f):cM f fr = -1:=by
 unfold cM;have:fr.find? (fun x=>x.loop && decide (x.fn=f))=none:=by
  rw[zP];intro x hx;have:=h x hx;simp;intro _;omega
 rw[this]
theorem NC {T:List Nd} {B b:Nat} {nv:Value} {ub ob:Nat} (gA :∀x∈T,x.s.size≤65536∧∀s∈x.names,s.size≤65536) (i:Nat) (h:Nd) (ks:List Lt) (hn:ic T (.mk i h ks)) (gZ :∀u:Lt,u.size<Lt.al ks+1→ic T u→bA T B b nv ub ob u) (hk:h.kind=11):bA T B b nv ub ob (.mk i h ks):=by
 intro f loop pa la lc ms L st w hr bR cw;show Calls Tryz.prog 18 #[.pointer (some ⟨b,0,none⟩),.int .i64 (i:Int),.agg #[.int .i64 (f:Int),.int .i64 loop,.pointer pa,.slice la L.length lc]] w (ao B b nv T.length ub ob (.slice la L.length lc) L st (aY (.mk i h ks) f st) w)
 obtain⟨bk,o,c,NA,nc,KA,kc,rfl,dU,cg,x0,x1,x2,x3,x4,x5,x6,rK,v7,pO,hbl,ph,sZ,d0,d3,u0,v0,gT,HR,HN,tG,iL,kD,fH,tC,oU,fN,sJ,HX,yJ,DC⟩:=gP gA hn gZ hr bR cw;clear hr hn gZ bR cw gA;have q6:(h.kind == 6)=false:=by rw[hk];rfl
 have q7:(h.kind == 7)=false:=by rw[hk];rfl
 have yK:(h.kind == 11)=true:=by rw[hk];rfl
 have bL:=aa hk;clear hk;go_enter Tryz.func18,Tryz.ntmps18
 go_wp2_with fail
 go_region
 obtain⟨W1,hW1,HZ,fB,pA,Bl,K,y0,th,oB,ti,k0,k1,k2,k3⟩:=dX loop i HR.out dU;rw[←hW1];have x0:=K _ _ x0;have x1:=K _ _ x1;have x2:=K _ _ x2;have x3:=K _ _ x3;have x4:=K _ _ x4;have x5:=K _ _ x5;have x6:=K _ _ x6;clear hW1 K d0 d3 u0 v0;have d0:=y0;clear y0;have gn:(h.num == 1)=decide (h.num=1):=rfl;go_wp2_with fail
 obtain⟨W3,hW3⟩ :∃W3,W3=(W1.alloc (.cells #[.int .i64 h.kind,.int .i64 h.line,.int .i64 h.op,.int .i64 h.num,.string h.s,.slice NA h.names.length nc,.slice KA h.kids.length kc] 54)).alloc (.cells #[.int .i64 (i:Int),.int .i64 (f:Int),.int .i64 (h.names.length:Int),.bool (decide (h.num=1)),.slice none 0 0,.slice none 0 0] 43):=⟨_,rfl⟩;have di:Below W1.heap.size W1 W3:=by rw[hW3];exact Below.two _ _
 rw[←hW3];clear hW3;have hr3:=HZ.out.du di;have hf3:cU B ob (.slice la L.length lc) L.length (eh L) w W3:=fB.out.trans (cU.bH di HZ.out.world);have tj :∀k∈ks,bA T B b (.slice (some ⟨bk,o,none⟩) T.length c) ub ob k:=fun k hk=>tG.out k (by have:=e8 hk;omega) (fH.out.at_ k hk)
 refine(xh b ⟨i,(f:Int),h.names.length,decide (h.num=1),[],[]⟩ la L.length lc (st.setOf i f) W3 hr3.rs rfl rfl (by have:=hr3.fns;omega)).mono ?_
 rintro e w5 ⟨rfl,h1,h2,h3⟩;have hfa :∀top,cU B ob (.slice la L.length lc) L.length top W3 w5:=fun top=>cU.uB h3 (by decide) h2
 have h1:jI w5 B b (.slice (some ⟨bk,o,none⟩) T.length c) T.length (jD i f h (st.setOf i f)) ub ob:=h1;have KF:ks≠[]:=by
  have:=oU.out.body (.inl bL.out);intro e;rw[e] at this;cases this
 have RD:sK T B b (.slice (some ⟨bk,o,none⟩) T.length c) ub ob (st.setOf i f).fns.length none (.slice la L.length lc) [] L (jD i f h (st.setOf i f)) w5 (h.names.length+Lt.ey ks) (Lt.al ks):=by
  have hlen:(jD i f h (st.setOf i f)).fns.length=(st.setOf i f).fns.length+1:=by unfold jD;simp
  refine⟨hr3.fC.below h2,h1,⟨hr3.pos.fx.jk (hfa none) (ah _),?_,hr3.pos.names,fun m hm=>by cases hm⟩,by omega,hr3.few.app ⟨bo _,bo _⟩,fun x hx=>?_,hr3.names,?_,?_⟩
  ·show oO w5 B (dB (st.setOf i f).fns.length (st.setOf i f).frames) [] _
   rw[xy hr3.fr];exact⟨rfl,rfl⟩
  ·have:=hr3.fr x hx
   omega
  ·have:=hr3.fns;omega
  ·have:=hr3.fx;omega
 have mD:=aa (IT i (st.setOf i f).fns.length h ks (-1) none la lc [] L (jD i f h (st.setOf i f)) w5 RD HX.out fN.out KF fH.out tj (fun k hk kH=>(IU (fr:=(st.setOf i f).frames) hr3.fr).symm) yJ.out.2 (fun s2 e=>(wO e hr3.cx).1) (by
  unfold gI;rw[ab (by have:=bL.out;omega),ai bL.out]))
 have lV:=aa (hf3.trans (hfa (eh L)));clear hr3 hf3 tj h1 h2 h3 hfa RD KF;go_wp2_with fail
 refine mD.out.mono ?_;intro e w6 hp;obtain⟨v,rfl⟩:=hp.ret;have HV:=aa hp;clear hp;go_wp2_with fail
 go_ret
 have hE:aY (.mk i h ks) f st=((bu i (st.setOf i f).fns.length h.line h.names (jD i f h (st.setOf i f))).bind fun s2=>aE ks (st.setOf i f).fns.length s2).map fun s=>s.back (jD i f h (st.setOf i f)):=by
  rw[ca];rw[ab (by have:=bL.out;omega)]
  rw[ab (by have:=bL.out;omega)]
  rw[ai bL.out];cases bu i (st.setOf i f).fns.length h.line h.names (jD i f h (st.setOf i f)) with
  | error y=>rfl
  | ok s1=>rfl
 rw[hE];exact ao.after lV.out rfl HV.out
def WJ (T:List Nd) (B b:Nat) (nv:Value) (ub ob:Nat):Prop:=∀(i:Nat) (h:Nd) (ks:List Lt),ic T (.mk i h ks)→(∀u:Lt,u.size<Lt.al ks+1→ic T u→bA T B b nv ub ob u)→h.kind=24→bA T B b nv ub ob (.mk i h ks)
theorem xA {T:List Nd} {B b:Nat} {nv:Value} {ub ob:Nat} (gA :∀x∈T,x.s.size≤65536∧∀s∈x.names,s.size≤65536) (Lv:WJ T B b nv ub ob) :∀(n:Nat) (t:Lt),t.size≤n→ic T t→bA T B b nv ub ob t
 | 0,t,hs,_=>by rw[um] at hs;omega
 | n+1,.mk i h ks,hs,hn=>by
  have gZ :∀u:Lt,u.size<Lt.al ks+1→ic T u→bA T B b nv ub ob u:=fun u hu Bm=>xA gA Lv n u (by rw[Lt.size] at hs;omega) Bm
  have hk:1≤h.kind∧h.kind≤32:=hn.kind;by_cases h6:h.kind=6
  ·exact Td gA i h ks hn gZ h6
  by_cases h7:h.kind=7
  ·exact Te gA i h ks hn gZ h7
  by_cases h11:h.kind=11
  ·exact NC gA i h ks hn gZ h11
  by_cases kH:h.kind=18
  ·exact Nx gA i h ks hn gZ kH
  by_cases Lu:h.kind=19
  ·exact Nv gA i h ks hn gZ Lu
  by_cases Rp:h.kind=23
  ·exact Ny gA i h ks hn gZ Rp
  by_cases abd:h.kind=24
  ·exact Lv i h ks hn gZ abd
  by_cases Rq:h.kind=26
  ·exact Nz gA i h ks hn gZ Rq
  by_cases h27:h.kind=27
  ·exact NB gA i h ks hn gZ h27
  by_cases Rr:h.kind=28
  ·exact Nw gA i h ks hn gZ Rr
  by_cases Fe:h.kind=30
  ·exact Ns gA i h ks hn gZ Fe
  by_cases Fg:h.kind=31
  ·exact Nt gA i h ks hn gZ Fg
  ·exact DN gA i h ks hn gZ ⟨h6,h7,h11,kH,Lu,Rp,abd,Rq,h27,Rr,Fe,Fg⟩
end Go.Proofs.YtodmcdfeldkocaaGreatDoor
namespace Go.Proofs.YtodmcdfeldkocaaGreatDoor
section
variable {P:Program} {ops:Array Oper} {Q:Exit→Act→World→Prop} {md:Region.Mode} {S:World→Prop} {n:Nat}
def bz (P:Program) (md:Region.Mode) (ops:Array Oper) (Q:Exit→Act→World→Prop) (S:World→Prop) (n:Nat):Nat→Array Bool→Act→World→Prop
 | 0,listed,a,w=>Region.ready md ops listed=[]∧Q .normal a w
 | g+1,listed,a,w=>(Region.ready md ops listed=[]→Q .normal a w) ∧
  ∀i∈Region.ready md ops listed,wpOp P ops Q i (fun a' w'=>(i<n→S w')∧bz P md ops Q S n g (listed.setIfInBounds i true) a' w') a w
theorem bz.any :∀(g:Nat) (listed:Array Bool) (a:Act) (w:World),bz P md ops Q S n g listed a w→wpAny P md ops Q g listed a w
 | 0,_,_,_,h=>h
 | g+1,_,_,_,h=>⟨h.1,fun i hi=>wpOp_mono (fun _ _ k=>bz.any g _ _ _ k.2) (h.2 i hi)⟩
def FW (md:Region.Mode) (ops:Array Oper) (n:Nat):Bool:=Region.noSelect ops && decide (n<ops.size) && Region.sinkB md ops n && Region.chainB md ops n
def FX (md:Region.Mode) (ops:Array Oper) (n:Nat) (listed:Array Bool):Bool :=
 listed.size == ops.size && (List.range ops.size).all (fun j=>match ops[j]? with
  | some o=>!listed.getD j false || o.after.all fun e=>!Region.binds md e || listed.getD e.on false
  | none=>true) && (List.range ops.size).all fun t=>decide (t<n) || !listed.getD t true
theorem IV {listed:Array Bool} (h:FX md ops n listed=true):HeadInv md ops n listed:=by
 unfold FX at h;simp only[dp,wL] at h;obtain⟨⟨h1,h2⟩,h3⟩:=h;refine⟨h1,fun j o hj hl e he hb=>?_,fun t ht Wh=>?_⟩
 ·have hjl:=(aO.1 hj).1
  have h4:=List.all_eq_true.1 h2 j (EX.2 hjl);rw[hj] at h4;simp only[hl,Bool.not_true,Bool.false_or] at h4;have h5:=Array.all_eq_true'.1 h4 e he;rw[hb] at h5;simpa using h5
 ·have h4:=List.all_eq_true.1 h3 t (EX.2 Wh)
  rw[bZ (by omega)] at h4
  simpa using h4
theorem bz.first {i:Nat} {oi:Oper} {v:Value} (hi:ops[i]? = some oi) (ht:FW md ops n=true) (nV:i<n)
  (hQ :∀c a w,Q (.panic c) (a.put oi.dst v) w→Q (.panic c) a w) :
  ∀(g:Nat) (listed:Array Bool) (a:Act) (w:World),HeadInv md ops n listed →
   (∀j oj,ops[j]? = some oj→j≠i→listed.getD j true=false→(∀e∈oj.after,Region.binds md e=true→e.on≠i)→oi.apart ops oj=true) →
   i∈Region.ready md ops listed→YieldsIf P ops S oi v a→S w →
   bz P md ops Q S n g (listed.setIfInBounds i true) (a.put oi.dst v) w→bz P md ops Q S n (g+1) listed a w:=by
 have Wh:=ht;unfold FW at Wh;simp only[dp,iF] at Wh;obtain⟨⟨⟨ada,jd⟩,hsk⟩,hch⟩:=Wh;have sel:=Region.noSelect_spec ada;intro g;induction g with
 | zero =>
  intro listed a w inv _ hr hy hS H;refine⟨fun h=>(by rw[h] at hr;cases hr),fun j hj=>?_⟩
  by_cases WK:j=i
  ·subst WK;exact hy.wpOp hi hS ⟨fun _=>hS,H⟩
  ·have h1:=ready_mono hj WK
   rw[H.1] at h1;cases h1
 | succ g ih =>
  intro listed a w inv WL hr hy hS H;have KM:=(mem_ready.1 hr).1;refine⟨fun h=>(by rw[h] at hr;cases hr),fun j hj=>?_⟩
  by_cases WK:j=i
  ·subst WK;exact hy.wpOp hi hS ⟨fun _=>hS,H⟩
  ·have hjn:j<n:=by
    rcases E3 j n with h|h
    ·exact h
    ·exact absurd hj (tail_waits hsk hch jd inv _ i rfl nV KM j h)
   obtain⟨abe,oj,hoj,hall⟩:=mem_ready.1 hj;have adb :∀e∈oj.after,Region.binds md e=true→e.on≠i:=fun e he hb heq=>by
    have h1:=hall e he hb;rw[heq,getD_both KM] at h1;cases h1
   refine wpOp_mono (fun a' w' k=>⟨fun _=>k.2.1 hjn,ih _ a' w' (inv.set hj hjn) (fun x ox hx Yr hxu hno=>WL x ox hx Yr ?_ hno) (ready_mono hr (Ne.symm WK)) k.1 (k.2.1 hjn) ?_⟩)
    (wpOp_putIf hoj (WL j oj hoj WK abe adb) (fun cs b=>sel i oi cs b hi) (fun cs b=>sel j oj cs b hoj) hQ hy (H.2 j (ready_mono hj WK)))
   ·by_cases hjx:j=x
    ·subst hjx;exact abe
    ·rw[getD_set_ne true hjx] at hxu;exact hxu
   ·rw[Array.setIfInBounds_comm _ _ WK]
    exact k.2.2
theorem bz.take {i:Nat} {oi:Oper} {v:Value} {g:Nat} {listed:Array Bool} {a:Act} {w:World} (hi:ops[i]? = some oi) (ht:FW md ops n=true) (nV:i<n)
  (hh:FX md ops n listed=true) (hf:Region.free md ops listed i=true) (hr:(Region.ready md ops listed).contains i=true)
  (hQ :∀c a w,Q (.panic c) (a.put oi.dst v) w→Q (.panic c) a w) (hw:Region.wanted oi (yielded ops a.tmps)=true) (hy :∀w,S w→(execOp a.eval oi).run P w=.ok (.value v) w) (hS:S w)
  (h:bz P md ops Q S n g (listed.setIfInBounds i true) (a.put oi.dst v) w):bz P md ops Q S n (g+1) listed a w :=
 bz.first hi ht nV hQ g listed a w (IV hh) (Region.free_spec hi hf) (by simpa using hr) (.inl ⟨hw,hy⟩) hS h
theorem bz.one {i:Nat} {o:Oper} {g:Nat} {listed:Array Bool} {a:Act} {w:World} (hr:Region.ready md ops listed=[i]) (ho:ops[i]? = some o)
  (h :∀K:Act→World→Prop,Shut (∀a w,(i<n→S w)→bz P md ops Q S n g (listed.setIfInBounds i true) a w→K a w)→if Region.wanted o (yielded ops a.tmps)=true then Oper.wp P o a w K Q else K (a.put o.dst undef) w):bz P md ops Q S n (g+1) listed a w:=by
 refine⟨fun h0=>(by rw[hr] at h0;cases h0),fun j hj=>?_⟩
 rw[hr,bK] at hj;subst hj;exact wpOp_step ho fun K hK=>h K fun a w h1 h2=>hK a w ⟨h1,h2⟩
theorem bz.two {i j:Nat} {o o':Oper} {g:Nat} {listed:Array Bool} {a:Act} {w:World} (hr:Region.ready md ops listed=[i,j]) (ho:ops[i]? = some o) (ho':ops[j]? = some o')
  (h :∀K:Act→World→Prop,Shut (∀a w,(i<n→S w)→bz P md ops Q S n g (listed.setIfInBounds i true) a w→K a w)→if Region.wanted o (yielded ops a.tmps)=true then Oper.wp P o a w K Q else K (a.put o.dst undef) w)
  (h' :∀K:Act→World→Prop,Shut (∀a w,(j<n→S w)→bz P md ops Q S n g (listed.setIfInBounds j true) a w→K a w)→if Region.wanted o' (yielded ops a.tmps)=true then Oper.wp P o' a w K Q else K (a.put o'.dst undef) w):bz P md ops Q S n (g+1) listed a w:=by
 refine⟨fun h0=>(by rw[hr] at h0;cases h0),fun x hx=>?_⟩
 rw[hr] at hx;simp only[bc,oI,oM] at hx;rcases hx with rfl|rfl
 ·exact wpOp_step ho fun K hK=>h K fun a w h1 h2=>hK a w ⟨h1,h2⟩
 ·exact wpOp_step ho' fun K hK=>h' K fun a w h1 h2=>hK a w ⟨h1,h2⟩
theorem bz.done {listed:Array Bool} {a:Act} {w:World} (hr:Region.ready md ops listed=[]) (h:Q .normal a w) :∀g,bz P md ops Q S n g listed a w
 | 0=>⟨hr,h⟩
 | _+1=>⟨fun _=>h,by rw[hr];simp⟩
theorem bz.DQ {id:Nat} {a:Act} {w:World} (hm:P.follows .mixedOrders=true) (h:bz P .any ops Q S n ops.size (Array.replicate ops.size false) a w.drew):(Code.region id ops true).wp P Q a w :=
 wp_region_any hm (bz.any _ _ _ _ h)
def dm (ops:Array Oper) (i:Nat) (F:Oper→Prop):Prop:=match ops[i]? with|some o=>F o|none=>False
theorem dm.ex {i:Nat} {F:Oper→Prop} (h:dm ops i F) :∃o,ops[i]? = some o∧F o:=by
 unfold dm at h;split at h
 ·exact⟨_,‹_›,h⟩
 ·cases h
theorem bz.dc {g:Nat} {listed:Array Bool} {a:Act} {w:World} (i:Nat) (v:Value) (ht:FW md ops n=true) (nV:i<n)
  (hh:FX md ops n listed=true) (hf:Region.free md ops listed i=true) (hr:(Region.ready md ops listed).contains i=true)
  (hQ :∀c a d w,Q (.panic c) (Act.put a (some d) v) w→Q (.panic c) a w) (hS:S w)
  (h:dm ops i fun oi=>oi.dst.isSome=true∧Region.wanted oi (yielded ops a.tmps)=true∧(∀w,S w→(execOp a.eval oi).run P w=.ok (.value v) w)∧bz P md ops Q S n g (listed.setIfInBounds i true) (a.put oi.dst v) w):bz P md ops Q S n (g+1) listed a w:=by
 obtain⟨o,ho,h0,h1,h2,h3⟩:=h.ex;obtain⟨d,hd⟩:=zK.1 h0;exact bz.take ho ht nV hh hf hr (fun c a w hp=>hQ c a d w (by rw[hd] at hp;exact hp)) h1 h2 hS h3
theorem bz.fJ {g:Nat} {listed:Array Bool} {a:Act} {w:World} (i:Nat) (hr:Region.ready md ops listed=[i])
  (h :∀K:Act→World→Prop,Shut (∀a w,(i<n→S w)→bz P md ops Q S n g (listed.setIfInBounds i true) a w→K a w)→dm ops i fun o=>if Region.wanted o (yielded ops a.tmps)=true then Oper.wp P o a w K Q else K (a.put o.dst undef) w):bz P md ops Q S n (g+1) listed a w:=by
 cases ho:ops[i]? with
 | none =>
  have h1:=h (fun _ _=>True) (fun _ _ _ _=>trivial)
  unfold dm at h1;rw[ho] at h1;cases h1
 | some o =>
  refine bz.one hr ho fun K hK=>?_
  have h1:=h K hK;unfold dm at h1;rw[ho] at h1;exact h1
theorem bz.YW {g:Nat} {listed:Array Bool} {a:Act} {w:World} (i j:Nat) (hr:Region.ready md ops listed=[i,j])
  (h :∀K:Act→World→Prop,Shut (∀a w,(i<n→S w)→bz P md ops Q S n g (listed.setIfInBounds i true) a w→K a w)→dm ops i fun o=>if Region.wanted o (yielded ops a.tmps)=true then Oper.wp P o a w K Q else K (a.put o.dst undef) w)
  (h' :∀K:Act→World→Prop,Shut (∀a w,(j<n→S w)→bz P md ops Q S n g (listed.setIfInBounds j true) a w→K a w)→dm ops j fun o=>if Region.wanted o (yielded ops a.tmps)=true then Oper.wp P o a w K Q else K (a.put o.dst undef) w):bz P md ops Q S n (g+1) listed a w:=by
 cases ho:ops[i]? with
 | none =>
  have h1:=h (fun _ _=>True) (fun _ _ _ _=>trivial)
  unfold dm at h1;rw[ho] at h1;cases h1
 | some o =>
  cases ho':ops[j]? with
  | none =>
   have h1:=h' (fun _ _=>True) (fun _ _ _ _=>trivial)
   unfold dm at h1;rw[ho'] at h1;cases h1
  | some o' =>
   refine bz.two hr ho ho' (fun K hK=>?_) fun K hK=>?_
   ·have h1:=h K hK
    unfold dm at h1;rw[ho] at h1;exact h1
   ·have h1:=h' K hK
    unfold dm at h1;rw[ho'] at h1;exact h1
end
end Go.Proofs.YtodmcdfeldkocaaGreatDoor
namespace Go.Proofs.YtodmcdfeldkocaaGreatDoor
open Go.RowKit
def iV (T:List Nd) (r:Int):Bool:=o9 bS lI eL T r
def okK (T:List Nd) (x:Nd):Bool:=ky bS lI eL T x
theorem YX (T:List Nd) (x:Nd):okK T x=(decide (1≤x.line) && bS x && lI x.kind x.num (ie T x)):=rfl
theorem u7 {T:List Nd} {r:Int} (h:eP T r=0∨100<eP T r∨dI T r.toNat≠18):iV T r=false:=by
 rw[Bool.eq_false_iff];intro hh;obtain⟨h1,h2,h3,_⟩:=(eQ bS lI eL).1 hh;rcases h with h|h|h
 ·exact h1 h
 ·omega
 ·exact h h3
theorem IW {T:List Nd} {r:Int} (h1:eP T r≠0) (h2:¬ 100<eP T r) (h3:dI T r.toNat=18):iV T r=T.all (okK T):=by
 unfold iV o9;rw[bQ h1,bQ (show eP T r≤100 by omega),bQ h3]
 rfl
def Szd (T:List Nd):Prop:=∀x∈T,x.names.length≤140737488355328
theorem Bn {T:List Nd} {r:Nat} {d:Nat→Nat} {m:List Nat} (hs:XF T r d m) {i:Nat} {x:Nd} (hx:T[i]? = some x):(∀k∈x.kids,0≤k∧k<(T.length:Int))∧x.kids.length≤T.length:=by
 have hi:=(aK.1 hx).1;have h1 :∀k∈x.kids,0≤k∧k<(T.length:Int):=fun k hk=>by
  obtain⟨a,b,_⟩:=hs.kid i (hs.mem hi) k (by rw[jh hx];exact hk)
  exact⟨a,b⟩
 refine⟨h1,?_⟩;have hn:=hs.Hf hi;rw[jh hx] at hn;have h2:=ua T.length (x.kids.map Int.toNat) (by
  rw[List.Nodup,List.pairwise_map];refine KX ?_ hn;intro a b ha hb hab e;have:=h1 a ha;have:=h1 b hb;exact hab (by omega)) (fun j hj=>by
  obtain⟨k,hk,rfl⟩:=jB.1 hj;have:=h1 k hk;omega)
 rw[bU] at h2;exact h2
theorem IX (v:Value) (T:List Nd) (r:Int) (w:World) (h:my w v T r) (hz:Szd T):Calls Tryz.prog 17 #[v] w fun e w'=>e=.returned (.bool (iV T r))∧Below w.heap.size w w':=by
 have Rz:=aa (fun W (hW:my W v T r)=>Ao v T r W hW)
 have HTV:=aa h;obtain⟨nv,rfl,A,c,rfl,hc,hn⟩:=h;have HN:=aa hn;have HZ:=aa hz;obtain⟨D,hD⟩ :∃D,D=eP T r:=⟨_,rfl⟩;rw[←hD] at Rz;have HD:=aa hD;obtain⟨R,hR⟩ :∃R,R=iV T r:=⟨_,rfl⟩;rw[←hR];have HR:=aa hR;clear hR;have eM :∀W,Below (w.heap.size+1) (w.alloc (.cells #[.slice A T.length c,.int .i64 r] 24)) W→W.cell? ⟨w.heap.size,0,none⟩=some (.slice A T.length c)∧W.cell? ⟨w.heap.size,1,none⟩=some (.int .i64 r):=fun W hW =>
  ⟨(hW.cell (p:=⟨w.heap.size,0,none⟩) (dz _)).trans (dG w _ _ _),(hW.cell (p:=⟨w.heap.size,1,none⟩) (dz _)).trans (dG w _ _ _)⟩
 have mB:=aa eM;have B0:=aa (bD w (.cells #[.slice A T.length c,.int .i64 r] 24));clear hD eM hn hz;go_enter Tryz.func17,Tryz.ntmps17
 go_wp2_with fail
 refine(Rz.out _ (HTV.out.below B0.out)).mono ?_;rintro e w1 ⟨rfl,b1⟩;rw[aq] at b1;have BW1:=aa b1;have B1:=aa (B0.out.trans (b1.mono (iH _)));have Df:=b1.size;rw[aq] at Df;obtain⟨x0,x1⟩:=mB.out _ b1;clear b1 Rz;by_cases h0:D=0
 ·have V6:R=false:=HR.out.trans <| u7 (.inl (by rw[←HD.out];exact h0))
  subst V6;subst h0;go_wp2_with fail
  go_ret
  exact⟨rfl,B1.out⟩
 ·have g0:((D:Int) == 0)=false:=aC.2 (by omega)
  by_cases h1:100<D
  ·have V6:R=false:=HR.out.trans <| u7 (.inr (.inl (by rw[←HD.out];exact h1)))
   subst V6;have g1:decide ((100:Int)<(D:Int))=true:=bQ (by omega)
   go_wp2_with fail
   go_ret
   exact⟨rfl,B1.out⟩
  ·have g1:decide ((100:Int)<(D:Int))=false:=bZ (by omega)
   obtain⟨hN,V6,hr1,d,m,hs⟩:=zZ (T:=T) (r:=r) (by rw[←HD.out];exact h0)
   rcases HN.out with hT | ⟨b,o,rfl,hb,hx⟩
   ·rw[hT] at hr1;simp at hr1;omega
   obtain⟨q,rfl⟩ :∃q:Nat,r=(q:Int):=⟨r.toNat,by omega⟩
   have hq:q<T.length:=by omega
   have hxq:=bG hq;obtain⟨nvq,kvq,eT,_,_⟩:=hx q _ hxq;have ck:=(B1.out.cell (p:=⟨b,o+q*7,none⟩) hb).trans eT.c0;obtain⟨kd,qv⟩ :∃kd,kd=T[q].kind:=⟨_,rfl⟩;rw[←qv] at ck;have rl:dI T (q:Int).toNat=kd:=by rw[gV,nT hxq,qv]
   have HX:=aa hx;have HSn:=aa hs;clear eT hx hs hxq qv;by_cases kH:kd=18
   ·have hry:R=T.all (okK T):=HR.out.trans <| IW (T:=T) (r:=(q:Int)) (by rw[←HD.out];exact h0) (by rw[←HD.out];exact h1) (by rw[rl,kH])
    have HAL:=aa hry;subst kH;clear rl hry HR;go_wp2_with fail
    go_loopw [27] (fun i wr=>∃k:Nat,k≤T.length∧i=.int .i64 (k:Int)∧(T.drop k).all (okK T)=R∧Below (w.heap.size+1) (w.alloc (.cells #[.slice (some ⟨b,o,none⟩) T.length c,.int .i64 (q:Int)] 24)) wr) (fun i _=>T.length-(intOf i).toNat)
    case atStart=>exact⟨0,bo _,rfl,HAL.out.symm,BW1.out⟩
    case round =>
     obtain⟨k,hk,rfl,ha,hbr⟩:=hrel;have HA:=aa ha;have pP:=aa hbr;have BR:=aa (B0.out.trans (hbr.mono (iH _)));have YY:=hbr.size;rw[aq] at YY;clear ha hbr x0 x1 ck;by_cases hlt:k<T.length
     ·obtain⟨x,hxk⟩ :∃x,T[k]? = some x:=⟨T[k],bG hlt⟩
      obtain⟨vM,vN,eT,hst,Bm⟩:=HX.out k x hxk;obtain⟨c0,c1,c2,c3,c4,c5,c6⟩:=eT.below BR.out hb;have HST:=aa (xn (p:=okK T) hxk);have hxz:=HZ.out x (aX hxk);have z8:=Bn HSn.out hxk;have HSS:=aa hst;have HNU:=aa Bm;obtain⟨SA,sc,rfl,_,_⟩:=hst;obtain⟨UA,uc,rfl,_,_⟩:=Bm;clear hxk eT;have HWN:=aa (bD wr (.cells #[.int .i64 x.kind,.int .i64 x.line,.int .i64 x.op,.int .i64 x.num,.string x.s,.slice SA x.names.length sc,.slice UA x.kids.length uc] 54));have Tg:=aa (DH x _ (.slice UA x.kids.length uc) (wr.alloc (.cells #[.int .i64 x.kind,.int .i64 x.line,.int .i64 x.op,.int .i64 x.num,.string x.s,.slice SA x.names.length sc,.slice UA x.kids.length uc] 54)) ((HSS.out.below BR.out).below HWN.out) ⟨_,_,_,rfl⟩ hxz);have HBQ:=aa (fun W (h:Below (wr.heap.size+1) (wr.alloc (.cells #[.int .i64 x.kind,.int .i64 x.line,.int .i64 x.op,.int .i64 x.num,.string x.s,.slice SA x.names.length sc,.slice UA x.kids.length uc] 54)) W)=>xo (dz _) h)
      have bL:=aa (fun W hA hB hC=>M6 x (.slice SA x.names.length sc) (.slice UA x.kids.length uc) (.slice (some ⟨b,o,none⟩) T.length c) T W hA hB hC z8.1 (by have:=z8.2;omega))
      have Ih:=aa (YX T x);obtain⟨FL,hFL⟩ :∃FL,FL=bS x:=⟨_,rfl⟩;obtain⟨KD,hKD⟩ :∃KD,KD=lI x.kind x.num (ie T x):=⟨_,rfl⟩;rw[←hFL] at Tg Ih;rw[←hKD] at bL Ih;obtain⟨x0,x1⟩:=mB.out _ (pP.out.trans (HWN.out.mono YY));unfold da at Tg bL;clear hFL hKD z8 hxz;by_cases qn:x.line<1
      ·go_wp2_with fail
       go_ret
       exact⟨cN (by rw[←HA.out,HST.out,Ih.out,bZ (by omega)];rfl),BR.out.trans (HWN.out.mono BR.out.size)⟩
      ·have gl:decide (1≤x.line)=true:=bQ (by omega)
       rw[gl,kP] at Ih;go_wp2_with fail
       refine Tg.out.mono ?_;rintro e w3 ⟨rfl,b3⟩;have B3:=aa ((BR.out.trans (HWN.out.mono BR.out.size)).trans (b3.mono (by rw[aq];have:=BR.out.size;omega)))
       have BB3:=aa ((pP.out.trans (HWN.out.mono YY)).trans (b3.mono (by rw[aq];omega)))
       have HQ3:=aa (HBQ.out _ (by rw[aq] at b3;exact b3))
       clear b3 x0 x1 c0 c1 c2 c3 c4 c5 c6;cases FL with
       | false =>
        go_wp2_with fail
        go_ret
        exact⟨cN (by rw[←HA.out,HST.out,Ih.out];rfl),B3.out⟩
       | true =>
        rw[kP] at Ih;obtain⟨c0,c1,c2,c3,c4,c5,c6⟩:=HQ3.out;obtain⟨x0,x1⟩:=mB.out _ BB3.out;go_wp2_with fail
        refine(bL.out _ (HSS.out.below B3.out) (HNU.out.below B3.out) ?_).mono ?_
        ·exact fw.below (W:=w) ⟨some ⟨b,o,none⟩,c,rfl,hc,.inr ⟨b,o,rfl,hb,HX.out⟩⟩ B3.out
        rintro e w4 ⟨rfl,b4⟩;have B4:=aa (jj B3.out (ah _) b4);have BB4:=aa (BB3.out.trans (b4.mono (by have:=BB3.out.size;rw[aq] at this;exact this)))
        clear b4 x0 x1 c0 c1 c2 c3 c4 c5 c6;cases KD with
        | false =>
         go_wp2_with fail
         go_ret
         exact⟨cN (by rw[←HA.out,HST.out,Ih.out];rfl),B4.out⟩
        | true =>
         go_wp2_with fail
         go_roundw
         case rel=>exact⟨k+1,by omega,by go_num,by rw[←HA.out,HST.out,Ih.out,kP],BB4.out⟩
         case measure=>simp[intOf];omega
     ·have hd:R=true:=by rw[←HA.out,mr (by omega)];rfl
      subst hd;go_wp2_with fail
      go_ret
      exact⟨rfl,BR.out⟩
   ·have V6:R=false:=HR.out.trans <| u7 (.inr (.inr (by rw[rl];exact kH)))
    subst V6;have g18:(kd != 18)=true:=oL.2 kH;clear HR rl;go_wp2_with fail
    go_ret
    exact⟨rfl,B1.out⟩
end Go.Proofs.YtodmcdfeldkocaaGreatDoor
