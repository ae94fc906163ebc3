/- Parts of the proof. -/
import Derived.Test.YteflkdlaoiijbaaGreatDoorM12
set_option maxHeartbeats 16000000
set_option maxRecDepth 20000
namespace Go.Proofs.YteflkdlaoiijbaaGreatDoor
open Go.RowKit
theorem yD.setOf {T:List Nd} {B b:Nat} {nv:Value} {ub ob f:Nat} {pa:Option Addr} {lv:Value} {ms:List Nat} {L:List cV} {st:aF} {w:World} {a s:Nat} (i:Nat) (h:yD T B b nv ub ob f pa lv ms L st w a s) (o:Obj):yD T B b nv ub ob f pa lv ms L (st.setOf i f) ((w.setCell ⟨ob,i,none⟩ (.int .i64 (f:Int))).alloc o).drew a s∧cW B ob lv L.length (eB L) w ((w.setCell ⟨ob,i,none⟩ (.int .i64 (f:Int))).alloc o).drew∧dk ((w.setCell ⟨ob,i,none⟩ (.int .i64 (f:Int))).alloc o).drew B lv L:=by
 obtain⟨fv,FL,hw⟩:=h.rs;obtain⟨cs,hc⟩:=ld hw.pe;have kN :∀top,cW B ob lv L.length top w (w.setCell ⟨ob,i,none⟩ (.int .i64 (f:Int))):=fun top=>cW.aaI hc hw.ja.2 i _
 have hB:B≤(w.setCell ⟨ob,i,none⟩ (.int .i64 (f:Int))).heap.size:=by have:=hw.gK;have:=hw.pos;simp[World.setCell];omega
 have hf :∀top,cW B ob lv L.length top w ((w.setCell ⟨ob,i,none⟩ (.int .i64 (f:Int))).alloc o).drew:=fun top=>(kN top).trans ((cW.bP (((Below.refl _ _).alloc (ah _) o).drew) hB))
 exact⟨⟨h.dy.below (hf none).below,⟨fv,FL,((hw.of_ i f).alloc o).drew⟩,⟨h.pos.fu.jh (hf none) (ah _),h.pos.blk.jh (hf none) (by simp),h.pos.names,h.pos.apart⟩,⟨h.cx.ok,h.cx.lt,h.cx.names⟩,h.few,h.fr,h.names,h.fns,h.fu⟩,hf _,h.pos.fu.jh (hf none) (ah _)⟩
theorem xc {T:List Nd} {B b:Nat} {nv:Value} {ub ob:Nat} (i f:Nat) (h:Nd) (ks tests:List Lt) (rep:Bool) (loop:Int) (pa la:Option Addr) (lc:Nat) (ms:List Nat) (L:List cV) (st:aF) (w:World) (tv:Value) (hr:yD T B b nv ub ob f pa (.slice la L.length lc) ms L st w (Lt.ec ks+Lt.ec tests) (Lt.ak ks+Lt.ak tests)) (hx:T[i]? = some h) (hk:h.kids=ks.map fun k=>(k.loc:Int)) (hn:dT T ks) (qS:dT T tests) (hV :∀k∈ks,bI T B b nv ub ob k) (hV2 :∀k∈tests,bI T B b nv ub ob k)
  (htv:qt B ob (.slice la L.length lc) L.length (eB L) w tv (tests.map fun k=>(k.loc:Int))) (Sp:rep=decide (0<tests.length)) (hl :∀k∈ks,18≤k.hd.kind→loop=bM f st.frames) (hl2 :∀k∈tests,18≤k.hd.kind→loop=bM f st.frames) (hs :∀x∈ks,x.hd.s.size≤65536) (Pz:tests.length≤20000) :
  Calls Tryz.prog 56 #[.pointer (some ⟨b,0,none⟩),.int .i64 (i:Int),.agg #[.int .i64 (f:Int),.int .i64 loop,.pointer pa,.slice la L.length lc],tv] w (aq B b nv T.length ub ob (.slice la L.length lc) L st ((vA i f rep ks tests st).map fun s=>s.back st) w):=by
 subst Sp;obtain⟨bk,o,c,rfl,bS,cB,cN⟩:=hr.dy.nodes;obtain⟨qD,qE,dS,⟨NA,nc,kA,_⟩,fy⟩:=cN i h hx;have sK:h.kids.length≤20000:=(hr.dy.small h (aM hx)).1;have fR:h.kids.length=ks.length:=by rw[hk,cD]
 obtain⟨KA,kc,jw,rT,_⟩:=id fy;subst kA jw;have HTV:=aa htv;obtain⟨TA,tc,rfl,htc,_⟩:=htv;have x6:=dS.c6;have yx:i<T.length:=(aK.1 hx).1;have qF:=hr.dy.few;obtain⟨fv,FL,hw⟩:=id hr.rs;obtain⟨hbl,pg,tH⟩:=hw.gK;have d0:w.cell? ⟨b,0,none⟩=some (.slice (some ⟨bk,o,none⟩) T.length c):=ab hw.blk 0;have d3:w.cell? ⟨b,3,none⟩=some (.slice (some ⟨ob,0,none⟩) T.length T.length):=ab hw.blk 3;obtain⟨u0,v0⟩:=bJ hw.pe (j:=i) (by omega)
 have iK:bk<w.heap.size:=by omega
 have HR:=aa hr;have HN:=aa hn;have QX:=aa qS;have HV:=aa hV;have HV2:=aa hV2;have HL:=aa hl;have HL2:=aa hl2;have HS:=aa hs;have IY:=aa fy;have HK:=aa hk;have sr:=aa fR;have HX:=aa hx;simp only[cD] at htc ⊢;clear hr hn qS hV hV2 hl hl2 hs fy hk fR hx cN dS hw;go_enter Tryz.func56,Tryz.ntmps56
 go_wp2_with fail
 go_region
 have aT:=HR.out.setOf i (.cells #[.int .i64 (f:Int),.int .i64 loop,.pointer pa,.slice la L.length lc] 92);have dh:=heap_alloc_new (w.setCell ⟨ob,i,none⟩ (.int .i64 (f:Int))) (.cells #[.int .i64 (f:Int),.int .i64 loop,.pointer pa,.slice la L.length lc] 92);obtain⟨W1,hW1⟩ :∃W1,W1=((w.setCell ⟨ob,i,none⟩ (.int .i64 (f:Int))).alloc (.cells #[.int .i64 (f:Int),.int .i64 loop,.pointer pa,.slice la L.length lc] 92)).drew:=⟨_,rfl⟩;rw[←hW1] at aT;have b9:W1.heap[w.heap.size]? = some (.cells #[.int .i64 (f:Int),.int .i64 loop,.pointer pa,.slice la L.length lc] 92 (0,0)):=by
  rw[hW1];have e:(w.setCell ⟨ob,i,none⟩ (.int .i64 (f:Int))).heap.size=w.heap.size:=by simp[World.setCell]
  rw[e] at dh;exact dh
 rw[←hW1];clear hW1 dh d0 d3 u0 v0;have x6:=(aT.2.1.below.cell (p:=⟨bk,o+i*7+6,none⟩) bS).trans x6;have d0:W1.cell? ⟨b,0,none⟩=some (.slice (some ⟨bk,o,none⟩) T.length c):=by obtain⟨_,_,hw⟩:=aT.1.rs;exact ab hw.blk 0
 have k0:W1.cell? ⟨w.heap.size,0,none⟩=some (.int .i64 (f:Int)):=ab b9 0;have k1:W1.cell? ⟨w.heap.size,1,none⟩=some (.int .i64 loop):=ab b9 1;have k2:W1.cell? ⟨w.heap.size,2,none⟩=some (.pointer pa):=ab b9 2;have k3:W1.cell? ⟨w.heap.size,3,none⟩=some (.slice la L.length lc):=ab b9 3;have HZ:=aa aT.1;have fm:=aa aT.2.1;have pk:=aa aT.2.2;have Ac:=aa b9;have Zf:=aa (wZ loop aT.1);clear aT b9;go_wp2_with fail
 refine Zf.out.mono ?_;rintro e w2 ⟨g,c6,m,rfl,hr2,hm,hg,hf2⟩;have rW:=hf2.cells _ _ _ _ Ac.out (by decide)
 have y0:=aw rW 0;have y1:=aw rW 1;have y2:=aw rW 2;have y3:=aw rW 3;have k0:w2.cell? ⟨w.heap.size,0,none⟩=some (.int .i64 (f:Int)):=ab rW 0;have k1:w2.cell? ⟨w.heap.size,1,none⟩=some (.int .i64 loop):=ab rW 1;have k2:w2.cell? ⟨w.heap.size,2,none⟩=some (.pointer pa):=ab rW 2;have k3:w2.cell? ⟨w.heap.size,3,none⟩=some (.slice la L.length lc):=ab rW 3;have hpl:w.heap.size<w2.heap.size:=(aJ.1 rW).1;have Wn:=aa rW;have vq:=aa hr2;have HM:=aa hm;have HG:=aa hg;have lM:=aa hf2;clear rW hr2 hm hg hf2;go_wp2_with fail
 obtain⟨W3,hW3⟩ :∃W3,W3=four w2 w.heap.size (.int .i64 (f:Int)) (.int .i64 loop) (.pointer pa) (.slice (some ⟨g,0,none⟩) (L.length+1) c6):=⟨_,rfl⟩;have kn:vi w2 w.heap.size 92:=⟨_,_,Wn.out⟩;have U0:W3.heap[w.heap.size]? = some (.cells #[.int .i64 (f:Int),.int .i64 loop,.pointer pa,.slice (some ⟨g,0,none⟩) (L.length+1) c6] 92 (0,0)):=by
  rw[hW3];exact bA (bA (bA (bA Wn.out 0 _) 1 _) 2 _) 3 _
 have hF3:Fr [92] w2 W3:=by rw[hW3];exact uY kn _ _ _ _
 have WU:Below B w2 W3:=by rw[hW3];exact pj w2 cB _ _ _ _
 have hK3 :∀k,k≠w.heap.size→W3.heap[k]? = w2.heap[k]?:=by rw[hW3];exact fun k hk=>nB w2 _ _ _ _ _ k hk
 have hs3:W3.heap.size=w2.heap.size:=by rw[hW3];simp[four,World.setCell]
 unfold four at hW3;rw[←hW3];have hrun:=run_makeMap (P:=Tryz.prog) 193 W3;have k0:W3.cell? ⟨w.heap.size,0,none⟩=some (.int .i64 (f:Int)):=ab U0 0;have k1:W3.cell? ⟨w.heap.size,1,none⟩=some (.int .i64 loop):=ab U0 1;have k2:W3.cell? ⟨w.heap.size,2,none⟩=some (.pointer pa):=ab U0 2;have k3:W3.cell? ⟨w.heap.size,3,none⟩=some (.slice (some ⟨g,0,none⟩) (L.length+1) c6):=ab U0 3;have y2:=aw U0 2;have hpl:w.heap.size<W3.heap.size:=(aJ.1 U0).1;have Wo:=aa U0;have EE:=aa hF3;have xR:=aa WU;have HK3:=aa hK3;have nW:=aa hs3;clear hW3 kn U0 hF3 WU hK3 hs3 y0 y1 y3;rw[hrun];clear hrun;go_wp2_with fail
 obtain⟨W4,Yl⟩ :∃W4,W4=((W3.setCell ⟨w.heap.size,2,none⟩ (.pointer (some ⟨W3.heap.size+1,0,none⟩))).alloc (.map #[] 0)).alloc (.cells #[.pointer pa,.map (some W3.heap.size),.int .i64 0] 195):=⟨_,rfl⟩;rw[←Yl];obtain⟨Wa,Ym⟩ :∃Wa,Wa=W3.setCell ⟨w.heap.size,2,none⟩ (.pointer (some ⟨W3.heap.size+1,0,none⟩)):=⟨_,rfl⟩;rw[←Ym] at Yl;have hsa:Wa.heap.size=W3.heap.size:=by rw[Ym];simp[World.setCell]
 have hFa:Fr [92] W3 Wa:=by rw[Ym];exact Fr.set Wo.out (by decide) _ _
 have hBa:Below B W3 Wa:=by rw[Ym];exact(Below.refl B W3).setCell (p:=⟨w.heap.size,2,none⟩) cB _
 have hPa:Wa.heap[w.heap.size]? = some (.cells #[.int .i64 (f:Int),.int .i64 loop,.pointer (some ⟨W3.heap.size+1,0,none⟩),.slice (some ⟨g,0,none⟩) (L.length+1) c6] 92 (0,0)):=by rw[Ym];exact bA Wo.out 2 _
 have hKa :∀k,k≠w.heap.size→Wa.heap[k]? = W3.heap[k]?:=by rw[Ym];exact fun k hk=>Below.heap_setCell _ _ _ k hk
 have hab:Below Wa.heap.size Wa W4:=by rw[Yl];exact Below.two _ _
 have hs4:W4.heap.size=W3.heap.size+2:=by rw[Yl,ao,ao,hsa]
 have Xo:dJ Tryz.prog 9 W4 W3.heap.size 0 (fun _=>none):=by
  rw[Yl,←hsa];exact(dJ.made Wa Tryz.prog 9).same (Below.heap_alloc _ _ _ (by rw[ao];omega))
 have hkb:W4.heap[W3.heap.size+1]? = some (.cells #[.pointer pa,.map (some W3.heap.size),.int .i64 0] 195 (0,0)):=by
  rw[Yl];have:=heap_alloc_new (Wa.alloc (.map #[] 0)) (.cells #[.pointer pa,.map (some W3.heap.size),.int .i64 0] 195);rwa[ao,hsa] at this
 clear Yl Ym;have hF4:Fr [92] W3 W4:=hFa.trans (Fr.ae hab);have BX:Below B W3 W4:=hBa.trans (hab.mono (by have:=vq.out.world;have:=nW.out;omega))
 have hP4:=(hab.block w.heap.size (by omega)).trans hPa
 have hK4 :∀k,k<W3.heap.size→k≠w.heap.size→W4.heap[k]? = W3.heap[k]?:=fun k hk hn=>(hab.block k (by omega)).trans (hKa k hn)
 clear hab hsa hFa hBa hPa hKa Wa k0 k1 k2 k3 y2 d0 x6;have hr4:=(vq.out.Tm EE.out xR.out).Tm hF4 BX;have FT:cW B ob (.slice la L.length lc) L.length (eB L) w W4:=(fm.out.trans (lM.out.E5 _)).past ((xR.out.trans BX)) fun k hk=>(hK4 k (by omega) (by omega)).trans (HK3.out k (by omega))
 have hlv:dk W4 B (.slice la L.length lc) L:=((pk.out.jh lM.out (ah _)).fr EE.out (by decide)).fr hF4 (by decide)
 have S8 :∀a,pa=some a→a.block<W3.heap.size+1:=fun a ha=>by have:=cw.first (vq.out.Tm EE.out xR.out).pos.blk a ha;omega
 have hms :∀x∈ms,x<W3.heap.size:=cw.lt (vq.out.Tm EE.out xR.out).pos.blk;have hbs :∀l∈(⟨f,m,[]⟩::L:List cV),l.blk<W3.heap.size:=fun l hl=>((vq.out.Tm EE.out xR.out).pos.fu.maps l hl).1.lt
 have UP:B≤W3.heap.size:=(vq.out.Tm EE.out xR.out).world;have hww:w.heap.size≤W3.heap.size:=fj hpl;generalize hmb:W3.heap.size=mb at *;have U3:Hid (Calls Tryz.prog 114 #[.pointer (some ⟨b,0,none⟩),.pointer (some ⟨mb+1,0,none⟩),.slice KA h.kids.length kc,.bool (decide (0<tests.length))] W4 (Bb mb ks (decide (0<tests.length)) (cA st.frames f ks 0 ks) W4)):=by
  obtain⟨fv4,FL4,hw4⟩:=hr4.rs;exact aa (Ot b (mb+1) mb f pa (.slice KA h.kids.length kc) ks st.frames ms (decide (0<tests.length)) fv4 _ _ W4 hr4.dy hw4.blk (by rw[←HK.out];exact IY.out.below FT.below) HN.out.vk (by have:=sr.out;omega) hkb Xo hr4.pos.blk S8 (fun OP=>by have:=hms mb OP;omega) (by omega) UP HS.out)
 have HR4:=aa hr4;have HFO:=aa FT;have UY:=aa hlv;have HPK:=aa S8;have HMS:=aa hms;have HBS:=aa hbs;have HM4:=aa Xo;have HKB:=aa hkb;have HP4:=aa hP4;have HS4:=aa hs4;have UW:(Value.slice la L.length lc).ownBlock=some g∨w.heap.size≤g:=HG.out.imp id fun h=>by have:=fm.out.below.size;omega
 have UX:w.heap.size≤m:=by have:=HM.out;have:=fm.out.below.size;omega
 have HOW:=aa UW;have UZ:=aa UX;have HWW:=aa hww;have Tt:B≤mb:=UP;clear hr4 FT hlv S8 hms hbs Xo hkb hP4 hs4 hF4 BX hK4 UW UX hww UP hmb hpl;refine U3.out.mono ?_;intro e w5 hp;obtain⟨Pu,hp⟩:=hp;cases S0:cA st.frames f ks 0 ks with
 | some l =>
  rw[S0] at hp;obtain⟨v,rfl,g2,rfl,h2⟩:=hp;have H2:=aa h2;have HE:Hid (((vA i f (decide (0<tests.length)) ks tests st).map fun s=>s.back st)=.error (9,l)):=aa (by
   show Except.map _ (Except.bind (ft i f _ ks (st.setOf i f)) _)=_
   rw[Bm];show Except.map _ (Except.bind (match cA st.frames f ks 0 ks with|some l=>_|none=>_) _)=_
   rw[S0];rfl)
  have HG5:=aa Pu;clear h2 S0 Pu;go_wp2_with fail
  go_ret
  rw[HE.out];exact⟨HFO.out.below.trans (j8 HG5.out Tt HR4.out.world),_,rfl,_,rfl,H2.out⟩
 | none =>
  rw[S0] at hp;obtain⟨rfl,hm5⟩:=hp;have hZ1:=HZ.out;have tL:Hid (BS B mb g m pa (.slice la L.length lc) ms L w):=aa ⟨HOW.out,UZ.out,HWW.out,Tt,HPK.out,HMS.out,fun l hl=>HBS.out l (bY _ hl),HBS.out ⟨f,m,[]⟩ (bV ..),fun l hl=>by have:=hZ1.levels l hl;have:=HM.out;omega,cB⟩
  obtain⟨s0,hs0⟩ :∃s0:aF,s0={ st.setOf i f with frames:=⟨f,i,0,false,decide (0<tests.length),ks⟩::st.frames}:=⟨_,rfl⟩;have sC:=eW Pu HM4.out.isMap;have HI:Hid (BI T B b (.slice (some ⟨bk,o,none⟩) T.length c) ub ob f i mb g c6 m (decide (0<tests.length)) ks tests pa (.slice la L.length lc) ms L st.frames loop w 0 [] s0 w5):=by
   refine aa ⟨?_,by rw[hs0],by rw[AT];exact sC _ _ _ _ HKB.out,hm5,sC _ _ _ _ HP4.out,HFO.out.past (j8 Pu Tt HR4.out.world) fun k hk=>Pu.block k (by have:=HFO.out.below.size;omega) (fun e=>by injection e with e;have:=HWW.out;omega),UY.out.grown Pu HM4.out.isMap fun l hl=>by have:=HBS.out l (bY _ hl);omega⟩
   have h1:=HR4.out.grown Pu HM4.out.isMap Tt (fun OP=>by have:=HMS.out mb OP;omega) (fun l hl=>by have:=HBS.out l hl;omega)
   rw[hs0,tj,jK];exact h1
  obtain⟨R,hR⟩ :∃R,R=bz ks 0 f s0:=⟨_,rfl⟩;have HE:Hid (((vA i f (decide (0<tests.length)) ks tests st).map fun s=>s.back st)=(R.bind fun s2=>aE tests f s2).map fun s=>s.back st):=aa (by
   rw[hR,hs0];show Except.map _ (Except.bind (ft i f _ ks (st.setOf i f)) _)=_
   rw[Bm];show Except.map _ (Except.bind (match cA st.frames f ks 0 ks with|some l=>_|none=>_) _)=_
   rw[S0];rfl)
  have HRS:=aa hR;clear hR hs0 sC S0 hm5 Pu hZ1 HZ fm pk Ac Zf Wn vq HM HG lM Wo EE xR HK3 nW U3 HR4 HFO UY HPK HMS HBS HM4 HKB HP4 HS4 HOW UZ HWW;go_wp2_with fail
  go_loopw [52] (fun tk wr=>∃(n:Nat) (x:List jj) (s1:aF),tk=.int .i64 (n:Int)∧n≤ks.length∧BI T B b (.slice (some ⟨bk,o,none⟩) T.length c) ub ob f i mb g c6 m (decide (0<tests.length)) ks tests pa (.slice la L.length lc) ms L st.frames loop w n x s1 wr∧bz (ks.drop n) n f s1=R) (fun tk _=>h.kids.length-(intOf tk).toNat)
  case atStart=>exact⟨0,[],s0,rfl,bK _,HI.out,by rw[tj];exact HRS.out.symm⟩
  case round =>
   obtain⟨n,x,s1,rfl,BZ,Fl,hrn⟩:=hrel;have p0:wr.cell? ⟨w.heap.size,0,none⟩=some (.int .i64 (f:Int)):=ab Fl.box 0;have p1:wr.cell? ⟨w.heap.size,1,none⟩=some (.int .i64 loop):=ab Fl.box 1;have p2:wr.cell? ⟨w.heap.size,2,none⟩=some (.pointer (some ⟨mb+1,0,none⟩)):=ab Fl.box 2;have p3:wr.cell? ⟨w.heap.size,3,none⟩=some (.slice (some ⟨g,0,none⟩) (L.length+1) c6):=ab Fl.box 3;have q2:wr.cell? ⟨mb+1,2,none⟩=some (.int .i64 (gN ks n:Int)):=ab Fl.kb 2;have z2:=aw Fl.kb 2;have hne:w.heap.size≠mb+1:=by have:=tL.out.old;omega
   have hdc:gN ks n≤20000:=aL (ND ks n) (by have:=sr.out;omega)
   have wA:=aa Fl;have Tj:=aa hrn;clear Fl hrn;by_cases hlt:n<h.kids.length
   ·obtain⟨k,hk⟩ :∃k,ks[n]? = some k:=⟨ks[n]'(by have:=sr.out;omega),bX _⟩
    obtain⟨A',c',he,_,iT⟩:=IY.out.below wA.out.jh.below;injection he with tR _ he2;subst tR he2;rcases iT with h0 | ⟨sb,so,rfl,XZ,hsc⟩
    ·rw[h0] at hlt;exact absurd hlt (jq _)
    have cs:wr.cell? ⟨sb,so+n,none⟩=some (.int .i64 (k.loc:Int)):=hsc n _ (by rw[HK.out,iA,hk];rfl)
    obtain⟨X6,IU⟩:=uC HN.out.vk hk;have vY:k.loc<T.length:=(aK.1 IU).1;have Zg:=aa (aM hk);have hdr:=drop_at hk;have tK:=aa hdr;have yS:=aa hk;have mu:=aa hlt;have d0:wr.cell? ⟨b,0,none⟩=some (.slice (some ⟨bk,o,none⟩) T.length c):=by obtain⟨_,_,hw⟩:=wA.out.rd.rs;exact ab hw.blk 0
    have Ov:Hid (Calls Tryz.prog 115 #[.pointer (some ⟨b,0,none⟩),.int .i64 (k.loc:Int)] wr fun e w'=>e=.returned (.bool (isDecl k))∧wr=w'):=aa (sj b k.loc k.hd wr wA.out.rd.dy d0 IU)
    clear hdr hk X6 IU hsc d0;cases Dw:isDecl k with
    | false =>
     rw[Dw] at Ov;have HDX:=aa Dw;clear Dw;go_wp2_with fail
     refine Ov.out.mono ?_;rintro e w2 ⟨rfl,rfl⟩;go_wp2_with fail
     obtain⟨r1,r2,r3,r4,r5⟩:=wA.out.ready tL.out yS.out (.inl ⟨rfl,HDX.out⟩);have bw:=HV.out k Zg.out f loop (some ⟨mb+1,0,none⟩) (some ⟨g,0,none⟩) c6 (mb::ms) (grow x (⟨f,m,[]⟩::L)) (s1.at n) _ (by rw[cG];exact r1.mono (gp _ _) (gp _ _)) (fun h=>by rw[Fk wA.out.frames n];exact(HL.out k Zg.out h).trans (uP rfl _).symm) (.inl (qx (by simp)))
     rw[cG,List.length_cons] at bw;have R1:=aa r1;have R2:=aa r2;have R3:=aa r3;have R4:=aa r4;have R5:=aa r5;clear r1 r2 r3 r4 r5;refine bw.mono ?_;clear bw;intro e w3 hp;cases cN:aV k f (s1.at n) with
     | error y =>
      rw[cN] at hp;obtain⟨hb,v,rfl,g2,rfl,h2⟩:=hp;have H2:=aa h2;have HB:=aa hb;have JC:Hid (R=.error y):=aa (by rw[←Tj.out,tK.out,dD,cN];rfl)
      clear h2 hb cN;go_wp2_with fail
      go_ret
      rw[HE.out,JC.out];exact⟨R4.out.below.trans HB.out,_,rfl,_,rfl,H2.out⟩
     | ok s2 =>
      rw[cN] at hp;obtain⟨rfl,y,Fl⟩:=BI.next tL.out (HN.out.at_ k Zg.out) wA.out.frames R1.out R2.out R3.out R4.out R5.out cN hp;have HBN:=aa Fl;have JC:Hid (bz (ks.drop (n+1)) (n+1) f s2=R):=aa (by rw[←Tj.out,tK.out,dD,cN];rfl)
      clear hp Fl cN;go_wp2_with fail
      exact⟨⟨n+1,y++x,s2,by go_num,by have:=mu.out;have:=sr.out;omega,HBN.out,JC.out⟩,by have:=mu.out;simp[intOf];omega⟩
    | true =>
     rw[Dw] at Ov;have HDX:=aa Dw;clear Dw;go_wp2_with fail
     refine Ov.out.mono ?_;rintro e w2 ⟨rfl,rfl⟩;go_wp2_with fail
     obtain⟨r1,r2,r3,r4,r5⟩:=wA.out.ready tL.out yS.out (.inr ⟨rfl,HDX.out⟩);have bw:=HV.out k Zg.out f loop (some ⟨mb+1,0,none⟩) (some ⟨g,0,none⟩) c6 (mb::ms) (grow x (⟨f,m,[]⟩::L)) (s1.at n) _ (by rw[cG];exact r1.mono (gp _ _) (gp _ _)) (fun h=>by rw[Fk wA.out.frames n];exact(HL.out k Zg.out h).trans (uP rfl _).symm) (.inl (qx (by simp)))
     rw[cG,List.length_cons] at bw;have R1:=aa r1;have R2:=aa r2;have R3:=aa r3;have R4:=aa r4;have R5:=aa r5;clear r1 r2 r3 r4 r5;refine bw.mono ?_;clear bw;intro e w3 hp;cases cN:aV k f (s1.at n) with
     | error y =>
      rw[cN] at hp;obtain⟨hb,v,rfl,g2,rfl,h2⟩:=hp;have H2:=aa h2;have HB:=aa hb;have JC:Hid (R=.error y):=aa (by rw[←Tj.out,tK.out,dD,cN];rfl)
      clear h2 hb cN;go_wp2_with fail
      go_ret
      rw[HE.out,JC.out];exact⟨R4.out.below.trans HB.out,_,rfl,_,rfl,H2.out⟩
     | ok s2 =>
      rw[cN] at hp;obtain⟨rfl,y,Fl⟩:=BI.next tL.out (HN.out.at_ k Zg.out) wA.out.frames R1.out R2.out R3.out R4.out R5.out cN hp;have HBN:=aa Fl;have JC:Hid (bz (ks.drop (n+1)) (n+1) f s2=R):=aa (by rw[←Tj.out,tK.out,dD,cN];rfl)
      clear hp Fl cN;go_wp2_with fail
      exact⟨⟨n+1,y++x,s2,by go_num,by have:=mu.out;have:=sr.out;omega,HBN.out,JC.out⟩,by have:=mu.out;simp[intOf];omega⟩
   ·have yO:n=ks.length:=by have:=sr.out;omega
    have PM:=wA.out.rd;rw[yO,vI] at PM;have hkb:=wA.out.kb;rw[yO,←OO] at hkb;have Yn:=(PM.mono (a':=Lt.ec tests) (s':=Lt.ak tests) (vK _ _) (vK _ _)).Bl (i:=i) (n:=ks.length-1) (rep:=decide (0<tests.length)) hkb wA.out.mp (by have:=tL.out.low;omega) tL.out.low tL.out.ptr (tL.out.grow x)
    have Tu:=wA.out.frames;rw[yO] at Tu;have hst:({ ({ s1 with frames:=st.frames}:aF) with frames:=⟨f,i,ks.length-1,false,decide (0<tests.length),ks⟩::st.frames}:aF)=s1:=by
     rw[←Tu]
    rw[hst] at Yn;have bw:=qy f loop (some ⟨mb+1,0,none⟩) (some ⟨g,0,none⟩) c6 (mb::ms) (grow x (⟨f,m,[]⟩::L)) s1 wr (.slice TA tests.length tc) tests (by rw[cG];exact Yn) QX.out HV2.out (by have:=HTV.out.inner (c:=c6) wA.out.jh tL.out.own tL.out.top;rw[cD] at this;rw[cG,nS];exact this) (fun k hk mc=>by rw[Tu];exact(HL2.out k hk mc).trans (uP rfl _).symm) (fun k _=>.inl (qx (by simp))) Pz
    rw[cG,List.length_cons] at bw;have JC:Hid (R=.ok s1):=aa (by rw[←Tj.out,yO,vI,jl])
    have rX:=aa bw;clear PM hkb Yn Tu hst bw yO;go_wp2_with fail
    refine rX.out.mono ?_;intro e w3 hp;obtain⟨v,rfl⟩:=hp.ret;have HP:=aa hp;clear hp;go_wp2_with fail
    go_ret
    rw[HE.out,JC.out];exact aq.Yk (l:={ fn:=f,blk:=m,iv:=x++[]}) wA.out.jh wA.out.fu tL.out.apart tL.out.own tL.out.top HP.out
theorem eC.hJ {T:List Nd} {B b:Nat} {nv:Value} {ub ob f:Nat} {pa:Option Addr} {lv:Value} {ms:List Nat} {L:List cV} {st:aF} {w:World} {a s:Nat} (i:Nat) (h:eC T B b nv ub ob f pa lv ms L st w a (s+1)) (o:Obj):eC T B b nv ub ob f pa lv ms L (st.setOf i f) ((w.setCell ⟨ob,i,none⟩ (.int .i64 (f:Int))).alloc o).drew a (s+1)∧cW B ob lv L.length (eB L) w ((w.setCell ⟨ob,i,none⟩ (.int .i64 (f:Int))).alloc o).drew∧dk ((w.setCell ⟨ob,i,none⟩ (.int .i64 (f:Int))).alloc o).drew B lv L:=by
 obtain⟨h1,h2,h3⟩:=h.zero.setOf i o;exact⟨⟨h1.dy,h1.rs,h1.pos,h.hd,h1.cx,h1.few,h1.fr,h1.names,h.fns,h.fu⟩,h2,h3⟩
theorem aq.s9 {T:List Nd} {B b:Nat} {nv:Value} {ub ob f:Nat} {pa:Option Addr} {lv:Value} {ms:List Nat} {L:List cV} {st:aF} {w w':World} {a s:Nat} {r:Rs aF} {e:Ending} (h:eC T B b nv ub ob f pa lv ms L st w a s) (hp:gC B b nv T.length ub ob r w e w') (hn :∀s',r=.ok s'→s'.names=st.names):aq B b nv T.length ub ob lv L st r w e w':=by
 refine⟨hp.1,?_⟩;have h2:=hp.2;cases r with
 | error y=>exact h2
 | ok s' =>
  obtain⟨k1,k2,k3⟩:=h2;have hf :∀top,cW B ob lv L.length top w w':=fun top=>cW.uH k3 (by decide) hp.1
  refine⟨k1,k2,hf _,[],hn s' rfl,fun _=>rfl,?_⟩
  rw[jK];exact h.pos.fu.jh (hf none) (ah _)
theorem aq.after {B b:Nat} {nv:Value} {N ub ob:Nat} {lv:Value} {L:List cV} {st s1:aF} {r:Rs aF} {w w1 w2:World} {e:Ending} (hf:cW B ob lv L.length (eB L) w w1) (hn:s1.names=st.names) (h:aq B b nv N ub ob lv L s1 r w1 e w2):aq B b nv N ub ob lv L st r w e w2:=by
 refine⟨hf.below.trans h.1,?_⟩;have h2:=h.2;cases r with
 | error y=>exact h2
 | ok s =>
  obtain⟨k1,k2,k3,x,k4,k5,k6⟩:=h2;exact⟨k1,k2,hf.trans k3,x,by rw[k4,hn],k5,k6⟩
theorem Tv {T:List Nd} {B b:Nat} {nv:Value} {ub ob:Nat} (gI :∀x∈T,x.s.size≤65536∧∀s∈x.names,s.size≤65536) (i:Nat) (h:Nd) (ks:List Lt) (hn:lq T (.mk i h ks)) (ix :∀u:Lt,u.size<Lt.ak ks+1→lq T u→bI T B b nv ub ob u) (hk:h.kind=6):bI T B b nv ub ob (.mk i h ks):=by
 intro f loop pa la lc ms L st w hr bc bD;show Calls Tryz.prog 26 #[.pointer (some ⟨b,0,none⟩),.int .i64 (i:Int),.agg #[.int .i64 (f:Int),.int .i64 loop,.pointer pa,.slice la L.length lc]] w (aq B b nv T.length ub ob (.slice la L.length lc) L st (aV (.mk i h ks) f st) w)
 have fE:=hn.sub;have fJ:=hn.vk;unfold Lt.In at fJ;obtain⟨hx,bt,_⟩:=fJ;replace hr:eC T B b nv ub ob f pa (.slice la L.length lc) ms L st w (h.names.length+Lt.ec ks) (Lt.ak ks+1):=by have h1:=hr;rw[Lt.wt,Lt.size] at h1;exact h1
 replace bc:18≤h.kind→loop=bM f st.frames:=bc;replace bD:L≠[]∨h.kind=18:=bD;obtain⟨bg,bh,bj⟩:=fE;replace bg:dT T ks:=bg;replace bh:h.kind≠18→∀k∈ks,Still k:=bh;replace bj:gR h.kind h.num (iU ks):=bj;have mi:=gI h (aM hx);obtain⟨bk,o,c,rfl,bS,cB,cN⟩:=hr.dy.nodes;obtain⟨qD,qE,dS,⟨NA,nc,kA,_⟩,⟨KA,kc,jw,rT,j9⟩⟩:=cN i h hx;have sK:h.kids.length≤20000:=(hr.dy.small h (aM hx)).1;have fR:h.kids.length=ks.length:=by rw[bt,cD]
 subst kA jw;obtain⟨x0,x1,x2,x3,x4,x5,x6⟩:=dS;have yx:i<T.length:=(aK.1 hx).1;have qF:=hr.dy.few;obtain⟨fv,FL,hw⟩:=id hr.rs;obtain⟨hbl,pg,tH⟩:=hw.gK;have d0:w.cell? ⟨b,0,none⟩=some (.slice (some ⟨bk,o,none⟩) T.length c):=ab hw.blk 0;have d3:w.cell? ⟨b,3,none⟩=some (.slice (some ⟨ob,0,none⟩) T.length T.length):=ab hw.blk 3;obtain⟨u0,v0⟩:=bJ hw.pe (j:=i) (by omega)
 have iK:bk<w.heap.size:=by omega
 have HR:=aa hr;have HN:=aa hn;have s6:=aa ix;have iL:=aa bc;have kx:=aa bD;have eM:=aa bg;have rU:=aa bh;have nW:=aa bj;have fH:=aa bt;have sr:=aa fR;have HX:=aa hx;have yE:=aa mi;have Cz:=aa j9;clear hr hn ix bc bD bg bh bj bt fR hx mi cN hw gI j9;have q6:(h.kind == 6)=true:=by rw[hk];rfl
 have bT:=aa hk;clear hk;go_enter Tryz.func26,Tryz.ntmps26
 go_wp2_with fail
 go_region
 have aT:=HR.out.hJ i (.cells #[.int .i64 (f:Int),.int .i64 loop,.pointer pa,.slice la L.length lc] 92);have dh:=heap_alloc_new (w.setCell ⟨ob,i,none⟩ (.int .i64 (f:Int))) (.cells #[.int .i64 (f:Int),.int .i64 loop,.pointer pa,.slice la L.length lc] 92);obtain⟨W1,hW1⟩ :∃W1,W1=((w.setCell ⟨ob,i,none⟩ (.int .i64 (f:Int))).alloc (.cells #[.int .i64 (f:Int),.int .i64 loop,.pointer pa,.slice la L.length lc] 92)).drew:=⟨_,rfl⟩;rw[←hW1] at aT;have b9:W1.heap[w.heap.size]? = some (.cells #[.int .i64 (f:Int),.int .i64 loop,.pointer pa,.slice la L.length lc] 92 (0,0)):=by
  rw[hW1];have e:(w.setCell ⟨ob,i,none⟩ (.int .i64 (f:Int))).heap.size=w.heap.size:=by simp[World.setCell]
  rw[e] at dh;exact dh
 rw[←hW1];have x0:=(aT.2.1.below.cell (p:=⟨bk,o+i*7,none⟩) bS).trans x0;have x1:=(aT.2.1.below.cell (p:=⟨bk,o+i*7+1,none⟩) bS).trans x1;have x2:=(aT.2.1.below.cell (p:=⟨bk,o+i*7+2,none⟩) bS).trans x2;have x3:=(aT.2.1.below.cell (p:=⟨bk,o+i*7+3,none⟩) bS).trans x3;have x4:=(aT.2.1.below.cell (p:=⟨bk,o+i*7+4,none⟩) bS).trans x4;have x5:=(aT.2.1.below.cell (p:=⟨bk,o+i*7+5,none⟩) bS).trans x5;have x6:=(aT.2.1.below.cell (p:=⟨bk,o+i*7+6,none⟩) bS).trans x6;clear hW1 dh d0 d3 u0 v0;have d0:W1.cell? ⟨b,0,none⟩=some (.slice (some ⟨bk,o,none⟩) T.length c):=by obtain⟨_,_,hw⟩:=aT.1.rs;exact ab hw.blk 0
 have sL:b<W1.heap.size:=by obtain⟨_,_,hw⟩:=aT.1.rs;exact hw.gK.1
 have oa:w.heap.size<W1.heap.size:=(aJ.1 b9).1;have sM:bk<W1.heap.size:=by omega
 have k0:W1.cell? ⟨w.heap.size,0,none⟩=some (.int .i64 (f:Int)):=ab b9 0;have k1:W1.cell? ⟨w.heap.size,1,none⟩=some (.int .i64 loop):=ab b9 1;have k2:W1.cell? ⟨w.heap.size,2,none⟩=some (.pointer pa):=ab b9 2;have k3:W1.cell? ⟨w.heap.size,3,none⟩=some (.slice la L.length lc):=ab b9 3;have HZ:=aa aT.1;have fm:=aa aT.2.1;have pk:=aa aT.2.2;have Ac:=aa b9;clear aT b9;go_wp2_with fail
 obtain⟨W2,hW2⟩ :∃W2,W2=W1.alloc (.cells #[.int .i64 h.kind,.int .i64 h.line,.int .i64 h.op,.int .i64 h.num,.string h.s,.slice NA h.names.length nc,.slice KA h.kids.length kc] 55):=⟨_,rfl⟩;have df:Below W1.heap.size W1 W2:=by rw[hW2];exact(Below.refl _ _).alloc (ah _) _
 rw[←hW2];have hr2:=HZ.out.dp df;have hf2:cW B ob (.slice la L.length lc) L.length (eB L) w W2:=fm.out.trans (cW.bP df HZ.out.world);have vq:=aa hr2;have lM:=aa hf2;refine(NJ b i f h loop pa la L.length lc (st.setOf i f) W2 hr2.dy hr2.rs HX.out hr2.cx.lt).mono ?_;intro e w3 hp;have hv:=aq.s9 hr2 hp (fun s' hs'=>by
  split at hs'
  ·injection hs' with hs';rw[←hs']
  ·cases hs')
 obtain⟨v,rfl⟩:=hv.ret;have HV:=aa hv;clear hp hv hr2 hf2;go_wp2_with fail
 go_ret
 have hE:aV (.mk i h ks) f st=(if ((st.setOf i f).fn f).many then .ok (st.setOf i f) else .error (14,h.line)):=by
  rw[cb];rw[al bT.out]
 rw[hE];exact aq.after lM.out rfl HV.out
theorem Tw {T:List Nd} {B b:Nat} {nv:Value} {ub ob:Nat} (gI :∀x∈T,x.s.size≤65536∧∀s∈x.names,s.size≤65536) (i:Nat) (h:Nd) (ks:List Lt) (hn:lq T (.mk i h ks)) (ix :∀u:Lt,u.size<Lt.ak ks+1→lq T u→bI T B b nv ub ob u) (hk:h.kind=7):bI T B b nv ub ob (.mk i h ks):=by
 intro f loop pa la lc ms L st w hr bc bD;show Calls Tryz.prog 26 #[.pointer (some ⟨b,0,none⟩),.int .i64 (i:Int),.agg #[.int .i64 (f:Int),.int .i64 loop,.pointer pa,.slice la L.length lc]] w (aq B b nv T.length ub ob (.slice la L.length lc) L st (aV (.mk i h ks) f st) w)
 have fE:=hn.sub;have fJ:=hn.vk;unfold Lt.In at fJ;obtain⟨hx,bt,_⟩:=fJ;replace hr:eC T B b nv ub ob f pa (.slice la L.length lc) ms L st w (h.names.length+Lt.ec ks) (Lt.ak ks+1):=by have h1:=hr;rw[Lt.wt,Lt.size] at h1;exact h1
 replace bc:18≤h.kind→loop=bM f st.frames:=bc;replace bD:L≠[]∨h.kind=18:=bD;obtain⟨bg,bh,bj⟩:=fE;replace bg:dT T ks:=bg;replace bh:h.kind≠18→∀k∈ks,Still k:=bh;replace bj:gR h.kind h.num (iU ks):=bj;have mi:=gI h (aM hx);obtain⟨bk,o,c,rfl,bS,cB,cN⟩:=hr.dy.nodes;obtain⟨qD,qE,dS,⟨NA,nc,kA,_⟩,⟨KA,kc,jw,rT,j9⟩⟩:=cN i h hx;have sK:h.kids.length≤20000:=(hr.dy.small h (aM hx)).1;have fR:h.kids.length=ks.length:=by rw[bt,cD]
 subst kA jw;obtain⟨x0,x1,x2,x3,x4,x5,x6⟩:=dS;have yx:i<T.length:=(aK.1 hx).1;have qF:=hr.dy.few;obtain⟨fv,FL,hw⟩:=id hr.rs;obtain⟨hbl,pg,tH⟩:=hw.gK;have d0:w.cell? ⟨b,0,none⟩=some (.slice (some ⟨bk,o,none⟩) T.length c):=ab hw.blk 0;have d3:w.cell? ⟨b,3,none⟩=some (.slice (some ⟨ob,0,none⟩) T.length T.length):=ab hw.blk 3;obtain⟨u0,v0⟩:=bJ hw.pe (j:=i) (by omega)
 have iK:bk<w.heap.size:=by omega
 have HR:=aa hr;have HN:=aa hn;have s6:=aa ix;have iL:=aa bc;have kx:=aa bD;have eM:=aa bg;have rU:=aa bh;have nW:=aa bj;have fH:=aa bt;have sr:=aa fR;have HX:=aa hx;have yE:=aa mi;have Cz:=aa j9;clear hr hn ix bc bD bg bh bj bt fR hx mi cN hw gI j9;have q6:(h.kind == 6)=false:=by rw[hk];rfl
 have q7:(h.kind == 7)=true:=by rw[hk];rfl
 have bT:=aa hk;clear hk;go_enter Tryz.func26,Tryz.ntmps26
 go_wp2_with fail
 go_region
 have aT:=HR.out.hJ i (.cells #[.int .i64 (f:Int),.int .i64 loop,.pointer pa,.slice la L.length lc] 92);have dh:=heap_alloc_new (w.setCell ⟨ob,i,none⟩ (.int .i64 (f:Int))) (.cells #[.int .i64 (f:Int),.int .i64 loop,.pointer pa,.slice la L.length lc] 92);obtain⟨W1,hW1⟩ :∃W1,W1=((w.setCell ⟨ob,i,none⟩ (.int .i64 (f:Int))).alloc (.cells #[.int .i64 (f:Int),.int .i64 loop,.pointer pa,.slice la L.length lc] 92)).drew:=⟨_,rfl⟩;rw[←hW1] at aT;have b9:W1.heap[w.heap.size]? = some (.cells #[.int .i64 (f:Int),.int .i64 loop,.pointer pa,.slice la L.length lc] 92 (0,0)):=by
  rw[hW1];have e:(w.setCell ⟨ob,i,none⟩ (.int .i64 (f:Int))).heap.size=w.heap.size:=by simp[World.setCell]
  rw[e] at dh;exact dh
 rw[←hW1];have x0:=(aT.2.1.below.cell (p:=⟨bk,o+i*7,none⟩) bS).trans x0;have x1:=(aT.2.1.below.cell (p:=⟨bk,o+i*7+1,none⟩) bS).trans x1;have x2:=(aT.2.1.below.cell (p:=⟨bk,o+i*7+2,none⟩) bS).trans x2;have x3:=(aT.2.1.below.cell (p:=⟨bk,o+i*7+3,none⟩) bS).trans x3;have x4:=(aT.2.1.below.cell (p:=⟨bk,o+i*7+4,none⟩) bS).trans x4;have x5:=(aT.2.1.below.cell (p:=⟨bk,o+i*7+5,none⟩) bS).trans x5;have x6:=(aT.2.1.below.cell (p:=⟨bk,o+i*7+6,none⟩) bS).trans x6;clear hW1 dh d0 d3 u0 v0;have d0:W1.cell? ⟨b,0,none⟩=some (.slice (some ⟨bk,o,none⟩) T.length c):=by obtain⟨_,_,hw⟩:=aT.1.rs;exact ab hw.blk 0
 have sL:b<W1.heap.size:=by obtain⟨_,_,hw⟩:=aT.1.rs;exact hw.gK.1
 have oa:w.heap.size<W1.heap.size:=(aJ.1 b9).1;have sM:bk<W1.heap.size:=by omega
 have k0:W1.cell? ⟨w.heap.size,0,none⟩=some (.int .i64 (f:Int)):=ab b9 0;have k1:W1.cell? ⟨w.heap.size,1,none⟩=some (.int .i64 loop):=ab b9 1;have k2:W1.cell? ⟨w.heap.size,2,none⟩=some (.pointer pa):=ab b9 2;have k3:W1.cell? ⟨w.heap.size,3,none⟩=some (.slice la L.length lc):=ab b9 3;have HZ:=aa aT.1;have fm:=aa aT.2.1;have pk:=aa aT.2.2;have Ac:=aa b9;clear aT b9;go_wp2_with fail
 obtain⟨W2,hW2⟩ :∃W2,W2=W1.alloc (.cells #[.int .i64 h.kind,.int .i64 h.line,.int .i64 h.op,.int .i64 h.num,.string h.s,.slice NA h.names.length nc,.slice KA h.kids.length kc] 55):=⟨_,rfl⟩;have df:Below W1.heap.size W1 W2:=by rw[hW2];exact(Below.refl _ _).alloc (ah _) _
 rw[←hW2];have hr2:=HZ.out.dp df;have hf2:cW B ob (.slice la L.length lc) L.length (eB L) w W2:=fm.out.trans (cW.bP df HZ.out.world);have vq:=aa hr2;have lM:=aa hf2;refine(Oi b i f h loop pa la lc L (st.setOf i f) W2 hr2.dy hr2.rs HX.out hr2.pos.fu hr2.pos.names hr2.cx hr2.few (by have:=hr2.fns;omega) (by have:=hr2.fu;omega) (by have:=yE.out.1;unfold maxLen;omega)).mono ?_
 intro e w3 hp;have hv:=aq.s9 hr2 hp (fun s' hs'=>(yn hs').2)
 obtain⟨v,rfl⟩:=hv.ret;have HV:=aa hv;clear hp hv hr2 hf2;go_wp2_with fail
 go_ret
 have hE:aV (.mk i h ks) f st=lP i f h.s h.line (st.setOf i f):=by
  rw[cb];rw[af (by have:=bT.out;omega)]
  rw[al bT.out]
 rw[hE];exact aq.after lM.out rfl HV.out
theorem OQ {T:List Nd} {B b:Nat} {nv:Value} {ub ob:Nat} (gI :∀x∈T,x.s.size≤65536∧∀s∈x.names,s.size≤65536) (i:Nat) (h:Nd) (ks:List Lt) (hn:lq T (.mk i h ks)) (ix :∀u:Lt,u.size<Lt.ak ks+1→lq T u→bI T B b nv ub ob u) (hk:h.kind=30):bI T B b nv ub ob (.mk i h ks):=by
 intro f loop pa la lc ms L st w hr bc bD;show Calls Tryz.prog 26 #[.pointer (some ⟨b,0,none⟩),.int .i64 (i:Int),.agg #[.int .i64 (f:Int),.int .i64 loop,.pointer pa,.slice la L.length lc]] w (aq B b nv T.length ub ob (.slice la L.length lc) L st (aV (.mk i h ks) f st) w)
 have fE:=hn.sub;have fJ:=hn.vk;unfold Lt.In at fJ;obtain⟨hx,bt,_⟩:=fJ;replace hr:eC T B b nv ub ob f pa (.slice la L.length lc) ms L st w (h.names.length+Lt.ec ks) (Lt.ak ks+1):=by have h1:=hr;rw[Lt.wt,Lt.size] at h1;exact h1
 replace bc:18≤h.kind→loop=bM f st.frames:=bc;replace bD:L≠[]∨h.kind=18:=bD;obtain⟨bg,bh,bj⟩:=fE;replace bg:dT T ks:=bg;replace bh:h.kind≠18→∀k∈ks,Still k:=bh;replace bj:gR h.kind h.num (iU ks):=bj;have mi:=gI h (aM hx);obtain⟨bk,o,c,rfl,bS,cB,cN⟩:=hr.dy.nodes;obtain⟨qD,qE,dS,⟨NA,nc,kA,_⟩,⟨KA,kc,jw,rT,j9⟩⟩:=cN i h hx;have sK:h.kids.length≤20000:=(hr.dy.small h (aM hx)).1;have fR:h.kids.length=ks.length:=by rw[bt,cD]
 subst kA jw;obtain⟨x0,x1,x2,x3,x4,x5,x6⟩:=dS;have yx:i<T.length:=(aK.1 hx).1;have qF:=hr.dy.few;obtain⟨fv,FL,hw⟩:=id hr.rs;obtain⟨hbl,pg,tH⟩:=hw.gK;have d0:w.cell? ⟨b,0,none⟩=some (.slice (some ⟨bk,o,none⟩) T.length c):=ab hw.blk 0;have d3:w.cell? ⟨b,3,none⟩=some (.slice (some ⟨ob,0,none⟩) T.length T.length):=ab hw.blk 3;obtain⟨u0,v0⟩:=bJ hw.pe (j:=i) (by omega)
 have iK:bk<w.heap.size:=by omega
 have HR:=aa hr;have HN:=aa hn;have s6:=aa ix;have iL:=aa bc;have kx:=aa bD;have eM:=aa bg;have rU:=aa bh;have nW:=aa bj;have fH:=aa bt;have sr:=aa fR;have HX:=aa hx;have yE:=aa mi;have Cz:=aa j9;clear hr hn ix bc bD bg bh bj bt fR hx mi cN hw gI j9;have q6:(h.kind == 6)=false:=by rw[hk];rfl
 have q7:(h.kind == 7)=false:=by rw[hk];rfl
 have x9:(h.kind == 11)=false:=by rw[hk];rfl
 have yR:(h.kind == 18)=false:=by rw[hk];rfl
 have U4:(h.kind == 23)=false:=by rw[hk];rfl
 have Yo:(h.kind == 26)=false:=by rw[hk];rfl
 have Zh:(h.kind == 27)=false:=by rw[hk];rfl
 have q24:(h.kind == 24)=false:=by rw[hk];rfl
 have q30:(h.kind == 30)=true:=by rw[hk];rfl
 have bT:=aa hk;clear hk;go_enter Tryz.func26,Tryz.ntmps26
 go_wp2_with fail
 go_region
 have aT:=HR.out.hJ i (.cells #[.int .i64 (f:Int),.int .i64 loop,.pointer pa,.slice la L.length lc] 92);have dh:=heap_alloc_new (w.setCell ⟨ob,i,none⟩ (.int .i64 (f:Int))) (.cells #[.int .i64 (f:Int),.int .i64 loop,.pointer pa,.slice la L.length lc] 92);obtain⟨W1,hW1⟩ :∃W1,W1=((w.setCell ⟨ob,i,none⟩ (.int .i64 (f:Int))).alloc (.cells #[.int .i64 (f:Int),.int .i64 loop,.pointer pa,.slice la L.length lc] 92)).drew:=⟨_,rfl⟩;rw[←hW1] at aT;have b9:W1.heap[w.heap.size]? = some (.cells #[.int .i64 (f:Int),.int .i64 loop,.pointer pa,.slice la L.length lc] 92 (0,0)):=by
  rw[hW1];have e:(w.setCell ⟨ob,i,none⟩ (.int .i64 (f:Int))).heap.size=w.heap.size:=by simp[World.setCell]
  rw[e] at dh;exact dh
 rw[←hW1];have x0:=(aT.2.1.below.cell (p:=⟨bk,o+i*7,none⟩) bS).trans x0;have x1:=(aT.2.1.below.cell (p:=⟨bk,o+i*7+1,none⟩) bS).trans x1;have x2:=(aT.2.1.below.cell (p:=⟨bk,o+i*7+2,none⟩) bS).trans x2;have x3:=(aT.2.1.below.cell (p:=⟨bk,o+i*7+3,none⟩) bS).trans x3;have x4:=(aT.2.1.below.cell (p:=⟨bk,o+i*7+4,none⟩) bS).trans x4;have x5:=(aT.2.1.below.cell (p:=⟨bk,o+i*7+5,none⟩) bS).trans x5;have x6:=(aT.2.1.below.cell (p:=⟨bk,o+i*7+6,none⟩) bS).trans x6;clear hW1 dh d0 d3 u0 v0;have d0:W1.cell? ⟨b,0,none⟩=some (.slice (some ⟨bk,o,none⟩) T.length c):=by obtain⟨_,_,hw⟩:=aT.1.rs;exact ab hw.blk 0
 have sL:b<W1.heap.size:=by obtain⟨_,_,hw⟩:=aT.1.rs;exact hw.gK.1
 have oa:w.heap.size<W1.heap.size:=(aJ.1 b9).1;have sM:bk<W1.heap.size:=by omega
 have k0:W1.cell? ⟨w.heap.size,0,none⟩=some (.int .i64 (f:Int)):=ab b9 0;have k1:W1.cell? ⟨w.heap.size,1,none⟩=some (.int .i64 loop):=ab b9 1;have k2:W1.cell? ⟨w.heap.size,2,none⟩=some (.pointer pa):=ab b9 2;have k3:W1.cell? ⟨w.heap.size,3,none⟩=some (.slice la L.length lc):=ab b9 3;have HZ:=aa aT.1;have fm:=aa aT.2.1;have pk:=aa aT.2.2;have Ac:=aa b9;clear aT b9;go_wp2_with fail
 obtain⟨W2,hW2⟩ :∃W2,W2=W1.alloc (.cells #[.int .i64 h.kind,.int .i64 h.line,.int .i64 h.op,.int .i64 h.num,.string h.s,.slice NA h.names.length nc,.slice KA h.kids.length kc] 55):=⟨_,rfl⟩;have df:Below W1.heap.size W1 W2:=by rw[hW2];exact(Below.refl _ _).alloc (ah _) _
 rw[←hW2];have hr2:=HZ.out.dp df;have hf2:cW B ob (.slice la L.length lc) L.length (eB L) w W2:=fm.out.trans (cW.bP df HZ.out.world);have vq:=aa hr2;have lM:=aa hf2;refine(AW b i f h loop pa la L.length lc (st.setOf i f) W2 hr2.dy hr2.rs HX.out (iL.out (by have:=bT.out;omega))).mono ?_
 intro e w3 hp;have hv:=aq.s9 hr2 hp (fun s' hs'=>(rp hs').2)
 obtain⟨v,rfl⟩:=hv.ret;have HV:=aa hv;clear hp hv hr2 hf2;go_wp2_with fail
 go_ret
 have hE:aV (.mk i h ks) f st=dY i f h.line (st.setOf i f):=by
  rw[cb];rw[af (by have:=bT.out;omega)]
  rw[af (by have:=bT.out;omega)]
  rw[af (by have:=bT.out;omega)]
  rw[af (by have:=bT.out;omega)]
  rw[af (by have:=bT.out;omega)]
  rw[af (by have:=bT.out;omega)]
  rw[af (by have:=bT.out;omega)]
  rw[af (by have:=bT.out;omega)]
  rw[af (by have:=bT.out;omega)]
  rw[al bT.out]
 rw[hE];exact aq.after lM.out rfl HV.out
theorem OR {T:List Nd} {B b:Nat} {nv:Value} {ub ob:Nat} (gI :∀x∈T,x.s.size≤65536∧∀s∈x.names,s.size≤65536) (i:Nat) (h:Nd) (ks:List Lt) (hn:lq T (.mk i h ks)) (ix :∀u:Lt,u.size<Lt.ak ks+1→lq T u→bI T B b nv ub ob u) (hk:h.kind=31):bI T B b nv ub ob (.mk i h ks):=by
 intro f loop pa la lc ms L st w hr bc bD;show Calls Tryz.prog 26 #[.pointer (some ⟨b,0,none⟩),.int .i64 (i:Int),.agg #[.int .i64 (f:Int),.int .i64 loop,.pointer pa,.slice la L.length lc]] w (aq B b nv T.length ub ob (.slice la L.length lc) L st (aV (.mk i h ks) f st) w)
 have fE:=hn.sub;have fJ:=hn.vk;unfold Lt.In at fJ;obtain⟨hx,bt,_⟩:=fJ;replace hr:eC T B b nv ub ob f pa (.slice la L.length lc) ms L st w (h.names.length+Lt.ec ks) (Lt.ak ks+1):=by have h1:=hr;rw[Lt.wt,Lt.size] at h1;exact h1
 replace bc:18≤h.kind→loop=bM f st.frames:=bc;replace bD:L≠[]∨h.kind=18:=bD;obtain⟨bg,bh,bj⟩:=fE;replace bg:dT T ks:=bg;replace bh:h.kind≠18→∀k∈ks,Still k:=bh;replace bj:gR h.kind h.num (iU ks):=bj;have mi:=gI h (aM hx);obtain⟨bk,o,c,rfl,bS,cB,cN⟩:=hr.dy.nodes;obtain⟨qD,qE,dS,⟨NA,nc,kA,_⟩,⟨KA,kc,jw,rT,j9⟩⟩:=cN i h hx;have sK:h.kids.length≤20000:=(hr.dy.small h (aM hx)).1;have fR:h.kids.length=ks.length:=by rw[bt,cD]
 subst kA jw;obtain⟨x0,x1,x2,x3,x4,x5,x6⟩:=dS;have yx:i<T.length:=(aK.1 hx).1;have qF:=hr.dy.few;obtain⟨fv,FL,hw⟩:=id hr.rs;obtain⟨hbl,pg,tH⟩:=hw.gK;have d0:w.cell? ⟨b,0,none⟩=some (.slice (some ⟨bk,o,none⟩) T.length c):=ab hw.blk 0;have d3:w.cell? ⟨b,3,none⟩=some (.slice (some ⟨ob,0,none⟩) T.length T.length):=ab hw.blk 3;obtain⟨u0,v0⟩:=bJ hw.pe (j:=i) (by omega)
 have iK:bk<w.heap.size:=by omega
 have HR:=aa hr;have HN:=aa hn;have s6:=aa ix;have iL:=aa bc;have kx:=aa bD;have eM:=aa bg;have rU:=aa bh;have nW:=aa bj;have fH:=aa bt;have sr:=aa fR;have HX:=aa hx;have yE:=aa mi;have Cz:=aa j9;clear hr hn ix bc bD bg bh bj bt fR hx mi cN hw gI j9;have q6:(h.kind == 6)=false:=by rw[hk];rfl
 have q7:(h.kind == 7)=false:=by rw[hk];rfl
 have x9:(h.kind == 11)=false:=by rw[hk];rfl
 have yR:(h.kind == 18)=false:=by rw[hk];rfl
 have U4:(h.kind == 23)=false:=by rw[hk];rfl
 have Yo:(h.kind == 26)=false:=by rw[hk];rfl
 have Zh:(h.kind == 27)=false:=by rw[hk];rfl
 have q24:(h.kind == 24)=false:=by rw[hk];rfl
 have q30:(h.kind == 30)=false:=by rw[hk];rfl
 have q31:(h.kind == 31)=true:=by rw[hk];rfl
 have bT:=aa hk;clear hk;go_enter Tryz.func26,Tryz.ntmps26
 go_wp2_with fail
 go_region
 have aT:=HR.out.hJ i (.cells #[.int .i64 (f:Int),.int .i64 loop,.pointer pa,.slice la L.length lc] 92);have dh:=heap_alloc_new (w.setCell ⟨ob,i,none⟩ (.int .i64 (f:Int))) (.cells #[.int .i64 (f:Int),.int .i64 loop,.pointer pa,.slice la L.length lc] 92);obtain⟨W1,hW1⟩ :∃W1,W1=((w.setCell ⟨ob,i,none⟩ (.int .i64 (f:Int))).alloc (.cells #[.int .i64 (f:Int),.int .i64 loop,.pointer pa,.slice la L.length lc] 92)).drew:=⟨_,rfl⟩;rw[←hW1] at aT;have b9:W1.heap[w.heap.size]? = some (.cells #[.int .i64 (f:Int),.int .i64 loop,.pointer pa,.slice la L.length lc] 92 (0,0)):=by
  rw[hW1];have e:(w.setCell ⟨ob,i,none⟩ (.int .i64 (f:Int))).heap.size=w.heap.size:=by simp[World.setCell]
  rw[e] at dh;exact dh
 rw[←hW1];have x0:=(aT.2.1.below.cell (p:=⟨bk,o+i*7,none⟩) bS).trans x0;have x1:=(aT.2.1.below.cell (p:=⟨bk,o+i*7+1,none⟩) bS).trans x1;have x2:=(aT.2.1.below.cell (p:=⟨bk,o+i*7+2,none⟩) bS).trans x2;have x3:=(aT.2.1.below.cell (p:=⟨bk,o+i*7+3,none⟩) bS).trans x3;have x4:=(aT.2.1.below.cell (p:=⟨bk,o+i*7+4,none⟩) bS).trans x4;have x5:=(aT.2.1.below.cell (p:=⟨bk,o+i*7+5,none⟩) bS).trans x5;have x6:=(aT.2.1.below.cell (p:=⟨bk,o+i*7+6,none⟩) bS).trans x6;clear hW1 dh d0 d3 u0 v0;have d0:W1.cell? ⟨b,0,none⟩=some (.slice (some ⟨bk,o,none⟩) T.length c):=by obtain⟨_,_,hw⟩:=aT.1.rs;exact ab hw.blk 0
 have sL:b<W1.heap.size:=by obtain⟨_,_,hw⟩:=aT.1.rs;exact hw.gK.1
 have oa:w.heap.size<W1.heap.size:=(aJ.1 b9).1;have sM:bk<W1.heap.size:=by omega
 have k0:W1.cell? ⟨w.heap.size,0,none⟩=some (.int .i64 (f:Int)):=ab b9 0;have k1:W1.cell? ⟨w.heap.size,1,none⟩=some (.int .i64 loop):=ab b9 1;have k2:W1.cell? ⟨w.heap.size,2,none⟩=some (.pointer pa):=ab b9 2;have k3:W1.cell? ⟨w.heap.size,3,none⟩=some (.slice la L.length lc):=ab b9 3;have HZ:=aa aT.1;have fm:=aa aT.2.1;have pk:=aa aT.2.2;have Ac:=aa b9;clear aT b9;go_wp2_with fail
 obtain⟨W2,hW2⟩ :∃W2,W2=W1.alloc (.cells #[.int .i64 h.kind,.int .i64 h.line,.int .i64 h.op,.int .i64 h.num,.string h.s,.slice NA h.names.length nc,.slice KA h.kids.length kc] 55):=⟨_,rfl⟩;have df:Below W1.heap.size W1 W2:=by rw[hW2];exact(Below.refl _ _).alloc (ah _) _
 rw[←hW2];have hr2:=HZ.out.dp df;have hf2:cW B ob (.slice la L.length lc) L.length (eB L) w W2:=fm.out.trans (cW.bP df HZ.out.world);have vq:=aa hr2;have lM:=aa hf2;refine(Ol b i f h loop pa la lc L.length ms (st.setOf i f) W2 hr2.dy hr2.rs HX.out hr2.pos.blk (by have:=yE.out.1;unfold maxLen;omega)).mono ?_
 intro e w3 hp;have hv:=aq.s9 hr2 hp (fun s' hs'=>(rq _ hs').2)
 obtain⟨v,rfl⟩:=hv.ret;have HV:=aa hv;clear hp hv hr2 hf2;go_wp2_with fail
 go_ret
 have hE:aV (.mk i h ks) f st=dm i f h.s h.line (st.setOf i f) (st.setOf i f).frames:=by
  rw[cb];rw[af (by have:=bT.out;omega)]
  rw[af (by have:=bT.out;omega)]
  rw[af (by have:=bT.out;omega)]
  rw[af (by have:=bT.out;omega)]
  rw[af (by have:=bT.out;omega)]
  rw[af (by have:=bT.out;omega)]
  rw[af (by have:=bT.out;omega)]
  rw[af (by have:=bT.out;omega)]
  rw[af (by have:=bT.out;omega)]
  rw[af (by have:=bT.out;omega)]
  rw[al bT.out]
 rw[hE];exact aq.after lM.out rfl HV.out
theorem eY :∀{ks:List Lt} {k:Lt},k∈ks→k.size≤Lt.ak ks
 | x::ks,k,h=>by
  rw[Lt.ak];rcases bq.1 h with rfl|h
  ·omega
  ·have:=eY h;omega
theorem OS {k n:Int} {kk:List Int} (h:gR k n kk) (h1:1≤k) (h2:k<18) (h3:k≠11) :∀a∈kk,a<18:=by
 intro a ha;by_cases c1:k=1∨k=2∨k=3∨k=4∨k=5∨k=6∨k=7∨k=30∨k=31∨k=32
 ·rw[h.none c1] at ha;cases ha
 by_cases c2:k=8∨k=12∨k=17
 ·obtain⟨x,y,e,hx,hy⟩:=h.two c2
  unfold sZ at hx hy;rw[e] at ha;simp only[bq,oh,oo] at ha;rcases ha with rfl|rfl<;>omega
 by_cases c3:k=9∨k=10
 ·have:=(h.call c3).2 a ha
  unfold sZ at this;omega
 by_cases c5:k=13∨k=14∨k=16
 ·obtain⟨x,e,hx⟩:=h.one c5
  unfold sZ at hx;rw[e,bR] at ha;omega
 by_cases c6:k=15
 ·have:=h.items c6 a ha
  omega
 omega
theorem I0 (st:aF) (i f:Nat):(st.setOf i f).setOf i f=st.setOf i f:=by
 unfold aF.setOf;simp only[aF.mk.injEq,true_and,and_true];funext j
 by_cases e:j=i
 ·simp[e]
 ·simp[e]
theorem aq.Tx {B b:Nat} {nv:Value} {N ub ob:Nat} {lv:Value} {L:List cV} {st st':aF} {r:Rs aF} {w w2:World} {e:Ending} (h:aq B b nv N ub ob lv L st r w e w2) (hn:st'.names=st.names) (hr :∀s,r=.ok s→s.names=st.names):aq B b nv N ub ob lv L st' (r.map fun s=>s.back st') w e w2:=by
 cases r with
 | error y=>exact h.same hn rfl
 | ok s=>exact h.same hn ⟨rfl,rfl,rfl,hn.trans (hr s rfl).symm⟩
theorem I2 {T:List Nd} {B b:Nat} {nv:Value} {ub ob:Nat} (i f:Nat) (h:Nd) (ks:List Lt) (loop:Int) (pa la:Option Addr) (lc:Nat) (ms:List Nat) (L:List cV) (hL:L≠[]) (st:aF) (w:World) (hr:eC T B b nv ub ob f pa (.slice la L.length lc) ms L st w (h.names.length+Lt.ec ks) (Lt.ak ks)) (hx:T[i]? = some h) (hk:h.kids=ks.map fun k=>(k.loc:Int)) (hn:dT T ks) (hV :∀k∈ks,bI T B b nv ub ob k)
  (hl :∀k∈ks,18≤k.hd.kind→loop=bM f st.frames) (hsz :∀s∈h.names,s.size≤65536) (hd:gD h.kind h.kids.length=(true,(h.kids.length:Int),false)) :
  Calls Tryz.prog 55 #[.pointer (some ⟨b,0,none⟩),.int .i64 (i:Int),.agg #[.int .i64 (f:Int),.int .i64 loop,.pointer pa,.slice la L.length lc]] w (aq B b nv T.length ub ob (.slice la L.length lc) L st ((aE ks f st).bind fun s1=>bo i f h.line h.names s1) w):=by
 cases L with
 | nil=>exact absurd rfl hL
 | cons l r=>exact OH i f h ks loop pa la lc ms l r st w hr hx hk hn hV hl hsz hd
theorem I3 {T:List Nd} {B b:Nat} {nv:Value} {ub ob:Nat} (i f:Nat) (h:Nd) (ks:List Lt) (loop:Int) (pa la:Option Addr) (lc:Nat) (ms:List Nat) (L:List cV) (hL:L≠[]) (st:aF) (w:World) (hr:eC T B b nv ub ob f pa (.slice la L.length lc) ms L st w (h.names.length+Lt.ec ks) (Lt.ak ks)) (hx:T[i]? = some h) (hk:h.kids=ks.map fun k=>(k.loc:Int)) (hn:dT T ks) (hV :∀k∈ks,bI T B b nv ub ob k)
  (hl :∀k∈ks,18≤k.hd.kind→loop=bM f st.frames) (hsz :∀s∈h.names,s.size≤65536) (hd:gD h.kind h.kids.length=(true,0,false)) :
  Calls Tryz.prog 55 #[.pointer (some ⟨b,0,none⟩),.int .i64 (i:Int),.agg #[.int .i64 (f:Int),.int .i64 loop,.pointer pa,.slice la L.length lc]] w (aq B b nv T.length ub ob (.slice la L.length lc) L st ((bo i f h.line h.names st).bind fun s1=>aE ks f s1) w):=by
 cases L with
 | nil=>exact absurd rfl hL
 | cons l r=>exact OJ i f h ks loop pa la lc ms l r st w hr hx hk hn hV hl hsz hd
theorem Dz {T:List Nd} {B b:Nat} {nv:Value} {ub ob:Nat} (gI :∀x∈T,x.s.size≤65536∧∀s∈x.names,s.size≤65536) (i:Nat) (h:Nd) (ks:List Lt) (hn:lq T (.mk i h ks)) (ix :∀u:Lt,u.size<Lt.ak ks+1→lq T u→bI T B b nv ub ob u) (hk:h.kind≠6∧h.kind≠7∧h.kind≠11∧h.kind≠18∧h.kind≠19∧h.kind≠23∧h.kind≠24∧h.kind≠26∧h.kind≠27∧h.kind≠28∧h.kind≠30∧h.kind≠31):bI T B b nv ub ob (.mk i h ks):=by
 intro f loop pa la lc ms L st w hr bc bD;show Calls Tryz.prog 26 #[.pointer (some ⟨b,0,none⟩),.int .i64 (i:Int),.agg #[.int .i64 (f:Int),.int .i64 loop,.pointer pa,.slice la L.length lc]] w (aq B b nv T.length ub ob (.slice la L.length lc) L st (aV (.mk i h ks) f st) w)
 have fE:=hn.sub;have fJ:=hn.vk;unfold Lt.In at fJ;obtain⟨hx,bt,_⟩:=fJ;replace hr:eC T B b nv ub ob f pa (.slice la L.length lc) ms L st w (h.names.length+Lt.ec ks) (Lt.ak ks+1):=by have h1:=hr;rw[Lt.wt,Lt.size] at h1;exact h1
 replace bc:18≤h.kind→loop=bM f st.frames:=bc;replace bD:L≠[]∨h.kind=18:=bD;obtain⟨bg,bh,bj⟩:=fE;replace bg:dT T ks:=bg;replace bh:h.kind≠18→∀k∈ks,Still k:=bh;replace bj:gR h.kind h.num (iU ks):=bj;have mi:=gI h (aM hx);obtain⟨bk,o,c,rfl,bS,cB,cN⟩:=hr.dy.nodes;obtain⟨qD,qE,dS,⟨NA,nc,kA,_⟩,⟨KA,kc,jw,rT,j9⟩⟩:=cN i h hx;have sK:h.kids.length≤20000:=(hr.dy.small h (aM hx)).1;have fR:h.kids.length=ks.length:=by rw[bt,cD]
 subst kA jw;obtain⟨x0,x1,x2,x3,x4,x5,x6⟩:=dS;have yx:i<T.length:=(aK.1 hx).1;have qF:=hr.dy.few;obtain⟨fv,FL,hw⟩:=id hr.rs;obtain⟨hbl,pg,tH⟩:=hw.gK;have d0:w.cell? ⟨b,0,none⟩=some (.slice (some ⟨bk,o,none⟩) T.length c):=ab hw.blk 0;have d3:w.cell? ⟨b,3,none⟩=some (.slice (some ⟨ob,0,none⟩) T.length T.length):=ab hw.blk 3;obtain⟨u0,v0⟩:=bJ hw.pe (j:=i) (by omega)
 have iK:bk<w.heap.size:=by omega
 have HR:=aa hr;have HN:=aa hn;have s6:=aa ix;have iL:=aa bc;have kx:=aa bD;have eM:=aa bg;have rU:=aa bh;have nW:=aa bj;have fH:=aa bt;have sr:=aa fR;have HX:=aa hx;have yE:=aa mi;have Cz:=aa j9;clear hr hn ix bc bD bg bh bj bt fR hx mi cN hw gI j9;have q6:(h.kind == 6)=false:=aG.2 (by omega)
 have q7:(h.kind == 7)=false:=aG.2 (by omega)
 have x9:(h.kind == 11)=false:=aG.2 (by omega)
 have yR:(h.kind == 18)=false:=aG.2 (by omega)
 have U4:(h.kind == 23)=false:=aG.2 (by omega)
 have Yo:(h.kind == 26)=false:=aG.2 (by omega)
 have Zh:(h.kind == 27)=false:=aG.2 (by omega)
 have q24:(h.kind == 24)=false:=aG.2 (by omega)
 have q30:(h.kind == 30)=false:=aG.2 (by omega)
 have q31:(h.kind == 31)=false:=aG.2 (by omega)
 have bT:=aa hk;clear hk;go_enter Tryz.func26,Tryz.ntmps26
 go_wp2_with fail
 go_region
 have aT:=HR.out.hJ i (.cells #[.int .i64 (f:Int),.int .i64 loop,.pointer pa,.slice la L.length lc] 92);have dh:=heap_alloc_new (w.setCell ⟨ob,i,none⟩ (.int .i64 (f:Int))) (.cells #[.int .i64 (f:Int),.int .i64 loop,.pointer pa,.slice la L.length lc] 92);obtain⟨W1,hW1⟩ :∃W1,W1=((w.setCell ⟨ob,i,none⟩ (.int .i64 (f:Int))).alloc (.cells #[.int .i64 (f:Int),.int .i64 loop,.pointer pa,.slice la L.length lc] 92)).drew:=⟨_,rfl⟩;rw[←hW1] at aT;have b9:W1.heap[w.heap.size]? = some (.cells #[.int .i64 (f:Int),.int .i64 loop,.pointer pa,.slice la L.length lc] 92 (0,0)):=by
  rw[hW1];have e:(w.setCell ⟨ob,i,none⟩ (.int .i64 (f:Int))).heap.size=w.heap.size:=by simp[World.setCell]
  rw[e] at dh;exact dh
 rw[←hW1];have x0:=(aT.2.1.below.cell (p:=⟨bk,o+i*7,none⟩) bS).trans x0;have x1:=(aT.2.1.below.cell (p:=⟨bk,o+i*7+1,none⟩) bS).trans x1;have x2:=(aT.2.1.below.cell (p:=⟨bk,o+i*7+2,none⟩) bS).trans x2;have x3:=(aT.2.1.below.cell (p:=⟨bk,o+i*7+3,none⟩) bS).trans x3;have x4:=(aT.2.1.below.cell (p:=⟨bk,o+i*7+4,none⟩) bS).trans x4;have x5:=(aT.2.1.below.cell (p:=⟨bk,o+i*7+5,none⟩) bS).trans x5;have x6:=(aT.2.1.below.cell (p:=⟨bk,o+i*7+6,none⟩) bS).trans x6;clear hW1 dh d0 d3 u0 v0;have d0:W1.cell? ⟨b,0,none⟩=some (.slice (some ⟨bk,o,none⟩) T.length c):=by obtain⟨_,_,hw⟩:=aT.1.rs;exact ab hw.blk 0
 have sL:b<W1.heap.size:=by obtain⟨_,_,hw⟩:=aT.1.rs;exact hw.gK.1
 have oa:w.heap.size<W1.heap.size:=(aJ.1 b9).1;have sM:bk<W1.heap.size:=by omega
 have k0:W1.cell? ⟨w.heap.size,0,none⟩=some (.int .i64 (f:Int)):=ab b9 0;have k1:W1.cell? ⟨w.heap.size,1,none⟩=some (.int .i64 loop):=ab b9 1;have k2:W1.cell? ⟨w.heap.size,2,none⟩=some (.pointer pa):=ab b9 2;have k3:W1.cell? ⟨w.heap.size,3,none⟩=some (.slice la L.length lc):=ab b9 3;have HZ:=aa aT.1;have fm:=aa aT.2.1;have pk:=aa aT.2.2;have Ac:=aa b9;clear aT b9;go_wp2_with fail
 obtain⟨W2,hW2⟩ :∃W2,W2=W1.alloc (.cells #[.int .i64 h.kind,.int .i64 h.line,.int .i64 h.op,.int .i64 h.num,.string h.s,.slice NA h.names.length nc,.slice KA h.kids.length kc] 55):=⟨_,rfl⟩;have df:Below W1.heap.size W1 W2:=by rw[hW2];exact(Below.refl _ _).alloc (ah _) _
 rw[←hW2];have hr2:=HZ.out.dp df;have hf2:cW B ob (.slice la L.length lc) L.length (eB L) w W2:=fm.out.trans (cW.bP df HZ.out.world);have sN :∀k∈ks,bI T B b (.slice (some ⟨bk,o,none⟩) T.length c) ub ob k:=fun k hk=>s6.out k (by have:=eY hk;omega) (eM.out.at_ k hk)
 refine(Fi i f h ks loop pa la lc ms L (st.setOf i f) W2 (hr2.mono (vK _ _) (fX _)) HX.out fH.out eM.out sN (fun k hk mc=>by
  by_cases e:18≤h.kind
  ·exact iL.out e
  ·have:=OS nW.out HN.out.kind.1 (by show h.kind<18;omega) (by have:=bT.out;omega) _ (jT hk)
   omega) (fun k _=>.inl (kx.out.resolve_right (by have:=bT.out;omega))) (by
  unfold gD;rw[af (by have:=bT.out;omega),af (by have:=bT.out;omega),af (by have:=bT.out;omega),af (by have:=bT.out;omega)])).mono ?_
 intro e w3 hp;obtain⟨v,rfl⟩:=hp.ret;have HV:=aa hp;have lM:=aa hf2;clear hp hr2 hf2 sN;go_wp2_with fail
 go_ret
 have hE:aV (.mk i h ks) f st=aE ks f (st.setOf i f):=by
  rw[cb];rw[af (by have:=bT.out;omega)]
  rw[af (by have:=bT.out;omega)]
  rw[af (by have:=bT.out;omega)]
  rw[af (by have:=bT.out;omega)]
  rw[af (by have:=bT.out;omega)]
  rw[af (by have:=bT.out;omega)]
  rw[af (by have:=bT.out;omega)]
  rw[af (by have:=bT.out;omega)]
  rw[af (by have:=bT.out;omega)]
  rw[af (by have:=bT.out;omega)]
  rw[af (by have:=bT.out;omega)]
 rw[hE];exact aq.after lM.out rfl HV.out
theorem OT {T:List Nd} {B b:Nat} {nv:Value} {ub ob:Nat} (gI :∀x∈T,x.s.size≤65536∧∀s∈x.names,s.size≤65536) (i:Nat) (h:Nd) (ks:List Lt) (hn:lq T (.mk i h ks)) (ix :∀u:Lt,u.size<Lt.ak ks+1→lq T u→bI T B b nv ub ob u) (hk:h.kind=19):bI T B b nv ub ob (.mk i h ks):=by
 intro f loop pa la lc ms L st w hr bc bD;show Calls Tryz.prog 26 #[.pointer (some ⟨b,0,none⟩),.int .i64 (i:Int),.agg #[.int .i64 (f:Int),.int .i64 loop,.pointer pa,.slice la L.length lc]] w (aq B b nv T.length ub ob (.slice la L.length lc) L st (aV (.mk i h ks) f st) w)
 have fE:=hn.sub;have fJ:=hn.vk;unfold Lt.In at fJ;obtain⟨hx,bt,_⟩:=fJ;replace hr:eC T B b nv ub ob f pa (.slice la L.length lc) ms L st w (h.names.length+Lt.ec ks) (Lt.ak ks+1):=by have h1:=hr;rw[Lt.wt,Lt.size] at h1;exact h1
 replace bc:18≤h.kind→loop=bM f st.frames:=bc;replace bD:L≠[]∨h.kind=18:=bD;obtain⟨bg,bh,bj⟩:=fE;replace bg:dT T ks:=bg;replace bh:h.kind≠18→∀k∈ks,Still k:=bh;replace bj:gR h.kind h.num (iU ks):=bj;have mi:=gI h (aM hx);obtain⟨bk,o,c,rfl,bS,cB,cN⟩:=hr.dy.nodes;obtain⟨qD,qE,dS,⟨NA,nc,kA,_⟩,⟨KA,kc,jw,rT,j9⟩⟩:=cN i h hx;have sK:h.kids.length≤20000:=(hr.dy.small h (aM hx)).1;have fR:h.kids.length=ks.length:=by rw[bt,cD]
 subst kA jw;obtain⟨x0,x1,x2,x3,x4,x5,x6⟩:=dS;have yx:i<T.length:=(aK.1 hx).1;have qF:=hr.dy.few;obtain⟨fv,FL,hw⟩:=id hr.rs;obtain⟨hbl,pg,tH⟩:=hw.gK;have d0:w.cell? ⟨b,0,none⟩=some (.slice (some ⟨bk,o,none⟩) T.length c):=ab hw.blk 0;have d3:w.cell? ⟨b,3,none⟩=some (.slice (some ⟨ob,0,none⟩) T.length T.length):=ab hw.blk 3;obtain⟨u0,v0⟩:=bJ hw.pe (j:=i) (by omega)
 have iK:bk<w.heap.size:=by omega
 have HR:=aa hr;have HN:=aa hn;have s6:=aa ix;have iL:=aa bc;have kx:=aa bD;have eM:=aa bg;have rU:=aa bh;have nW:=aa bj;have fH:=aa bt;have sr:=aa fR;have HX:=aa hx;have yE:=aa mi;have Cz:=aa j9;clear hr hn ix bc bD bg bh bj bt fR hx mi cN hw gI j9;have q6:(h.kind == 6)=false:=aG.2 (by omega)
 have q7:(h.kind == 7)=false:=aG.2 (by omega)
 have x9:(h.kind == 11)=false:=aG.2 (by omega)
 have yR:(h.kind == 18)=false:=aG.2 (by omega)
 have U4:(h.kind == 23)=false:=aG.2 (by omega)
 have Yo:(h.kind == 26)=false:=aG.2 (by omega)
 have Zh:(h.kind == 27)=false:=aG.2 (by omega)
 have q24:(h.kind == 24)=false:=aG.2 (by omega)
 have q30:(h.kind == 30)=false:=aG.2 (by omega)
 have q31:(h.kind == 31)=false:=aG.2 (by omega)
 have bT:=aa hk;clear hk;go_enter Tryz.func26,Tryz.ntmps26
 go_wp2_with fail
 go_region
 have aT:=HR.out.hJ i (.cells #[.int .i64 (f:Int),.int .i64 loop,.pointer pa,.slice la L.length lc] 92);have dh:=heap_alloc_new (w.setCell ⟨ob,i,none⟩ (.int .i64 (f:Int))) (.cells #[.int .i64 (f:Int),.int .i64 loop,.pointer pa,.slice la L.length lc] 92);obtain⟨W1,hW1⟩ :∃W1,W1=((w.setCell ⟨ob,i,none⟩ (.int .i64 (f:Int))).alloc (.cells #[.int .i64 (f:Int),.int .i64 loop,.pointer pa,.slice la L.length lc] 92)).drew:=⟨_,rfl⟩;rw[←hW1] at aT;have b9:W1.heap[w.heap.size]? = some (.cells #[.int .i64 (f:Int),.int .i64 loop,.pointer pa,.slice la L.length lc] 92 (0,0)):=by
  rw[hW1];have e:(w.setCell ⟨ob,i,none⟩ (.int .i64 (f:Int))).heap.size=w.heap.size:=by simp[World.setCell]
  rw[e] at dh;exact dh
 rw[←hW1];have x0:=(aT.2.1.below.cell (p:=⟨bk,o+i*7,none⟩) bS).trans x0;have x1:=(aT.2.1.below.cell (p:=⟨bk,o+i*7+1,none⟩) bS).trans x1;have x2:=(aT.2.1.below.cell (p:=⟨bk,o+i*7+2,none⟩) bS).trans x2;have x3:=(aT.2.1.below.cell (p:=⟨bk,o+i*7+3,none⟩) bS).trans x3;have x4:=(aT.2.1.below.cell (p:=⟨bk,o+i*7+4,none⟩) bS).trans x4;have x5:=(aT.2.1.below.cell (p:=⟨bk,o+i*7+5,none⟩) bS).trans x5;have x6:=(aT.2.1.below.cell (p:=⟨bk,o+i*7+6,none⟩) bS).trans x6;clear hW1 dh d0 d3 u0 v0;have d0:W1.cell? ⟨b,0,none⟩=some (.slice (some ⟨bk,o,none⟩) T.length c):=by obtain⟨_,_,hw⟩:=aT.1.rs;exact ab hw.blk 0
 have sL:b<W1.heap.size:=by obtain⟨_,_,hw⟩:=aT.1.rs;exact hw.gK.1
 have oa:w.heap.size<W1.heap.size:=(aJ.1 b9).1;have sM:bk<W1.heap.size:=by omega
 have k0:W1.cell? ⟨w.heap.size,0,none⟩=some (.int .i64 (f:Int)):=ab b9 0;have k1:W1.cell? ⟨w.heap.size,1,none⟩=some (.int .i64 loop):=ab b9 1;have k2:W1.cell? ⟨w.heap.size,2,none⟩=some (.pointer pa):=ab b9 2;have k3:W1.cell? ⟨w.heap.size,3,none⟩=some (.slice la L.length lc):=ab b9 3;have HZ:=aa aT.1;have fm:=aa aT.2.1;have pk:=aa aT.2.2;have Ac:=aa b9;clear aT b9;go_wp2_with fail
 obtain⟨W2,hW2⟩ :∃W2,W2=W1.alloc (.cells #[.int .i64 h.kind,.int .i64 h.line,.int .i64 h.op,.int .i64 h.num,.string h.s,.slice NA h.names.length nc,.slice KA h.kids.length kc] 55):=⟨_,rfl⟩;have df:Below W1.heap.size W1 W2:=by rw[hW2];exact(Below.refl _ _).alloc (ah _) _
 rw[←hW2];have hr2:=HZ.out.dp df;have hf2:cW B ob (.slice la L.length lc) L.length (eB L) w W2:=fm.out.trans (cW.bP df HZ.out.world);have sN :∀k∈ks,bI T B b (.slice (some ⟨bk,o,none⟩) T.length c) ub ob k:=fun k hk=>s6.out k (by have:=eY hk;omega) (eM.out.at_ k hk)
 refine(I2 i f h ks loop pa la lc ms L (kx.out.resolve_right (by have:=bT.out;omega)) (st.setOf i f) W2 (hr2.mono (ah _) (fX _)) HX.out fH.out eM.out sN (fun k hk mc=>iL.out (by have:=bT.out;omega)) yE.out.2 (by
  unfold gD;rw[af (by have:=bT.out;omega),af (by have:=bT.out;omega),af (by have:=bT.out;omega),al bT.out])).mono ?_
 intro e w3 hp;obtain⟨v,rfl⟩:=hp.ret;have HV:=aa hp;have lM:=aa hf2;clear hp hr2 hf2 sN;go_wp2_with fail
 go_ret
 have hE:aV (.mk i h ks) f st=((aE ks f (st.setOf i f)).bind fun s1=>bo i f h.line h.names s1):=by
  rw[cb];rw[af (by have:=bT.out;omega)]
  rw[af (by have:=bT.out;omega)]
  rw[af (by have:=bT.out;omega)]
  rw[af (by have:=bT.out;omega)]
  rw[al bT.out]
 rw[hE];exact aq.after lM.out rfl HV.out
theorem OU {T:List Nd} {B b:Nat} {nv:Value} {ub ob:Nat} (gI :∀x∈T,x.s.size≤65536∧∀s∈x.names,s.size≤65536) (i:Nat) (h:Nd) (ks:List Lt) (hn:lq T (.mk i h ks)) (ix :∀u:Lt,u.size<Lt.ak ks+1→lq T u→bI T B b nv ub ob u) (hk:h.kind=28):bI T B b nv ub ob (.mk i h ks):=by
 intro f loop pa la lc ms L st w hr bc bD;show Calls Tryz.prog 26 #[.pointer (some ⟨b,0,none⟩),.int .i64 (i:Int),.agg #[.int .i64 (f:Int),.int .i64 loop,.pointer pa,.slice la L.length lc]] w (aq B b nv T.length ub ob (.slice la L.length lc) L st (aV (.mk i h ks) f st) w)
 have fE:=hn.sub;have fJ:=hn.vk;unfold Lt.In at fJ;obtain⟨hx,bt,_⟩:=fJ;replace hr:eC T B b nv ub ob f pa (.slice la L.length lc) ms L st w (h.names.length+Lt.ec ks) (Lt.ak ks+1):=by have h1:=hr;rw[Lt.wt,Lt.size] at h1;exact h1
 replace bc:18≤h.kind→loop=bM f st.frames:=bc;replace bD:L≠[]∨h.kind=18:=bD;obtain⟨bg,bh,bj⟩:=fE;replace bg:dT T ks:=bg;replace bh:h.kind≠18→∀k∈ks,Still k:=bh;replace bj:gR h.kind h.num (iU ks):=bj;have mi:=gI h (aM hx);obtain⟨bk,o,c,rfl,bS,cB,cN⟩:=hr.dy.nodes;obtain⟨qD,qE,dS,⟨NA,nc,kA,_⟩,⟨KA,kc,jw,rT,j9⟩⟩:=cN i h hx;have sK:h.kids.length≤20000:=(hr.dy.small h (aM hx)).1;have fR:h.kids.length=ks.length:=by rw[bt,cD]
 subst kA jw;obtain⟨x0,x1,x2,x3,x4,x5,x6⟩:=dS;have yx:i<T.length:=(aK.1 hx).1;have qF:=hr.dy.few;obtain⟨fv,FL,hw⟩:=id hr.rs;obtain⟨hbl,pg,tH⟩:=hw.gK;have d0:w.cell? ⟨b,0,none⟩=some (.slice (some ⟨bk,o,none⟩) T.length c):=ab hw.blk 0;have d3:w.cell? ⟨b,3,none⟩=some (.slice (some ⟨ob,0,none⟩) T.length T.length):=ab hw.blk 3;obtain⟨u0,v0⟩:=bJ hw.pe (j:=i) (by omega)
 have iK:bk<w.heap.size:=by omega
 have HR:=aa hr;have HN:=aa hn;have s6:=aa ix;have iL:=aa bc;have kx:=aa bD;have eM:=aa bg;have rU:=aa bh;have nW:=aa bj;have fH:=aa bt;have sr:=aa fR;have HX:=aa hx;have yE:=aa mi;have Cz:=aa j9;clear hr hn ix bc bD bg bh bj bt fR hx mi cN hw gI j9;have q6:(h.kind == 6)=false:=aG.2 (by omega)
 have q7:(h.kind == 7)=false:=aG.2 (by omega)
 have x9:(h.kind == 11)=false:=aG.2 (by omega)
 have yR:(h.kind == 18)=false:=aG.2 (by omega)
 have U4:(h.kind == 23)=false:=aG.2 (by omega)
 have Yo:(h.kind == 26)=false:=aG.2 (by omega)
 have Zh:(h.kind == 27)=false:=aG.2 (by omega)
 have q24:(h.kind == 24)=false:=aG.2 (by omega)
 have q30:(h.kind == 30)=false:=aG.2 (by omega)
 have q31:(h.kind == 31)=false:=aG.2 (by omega)
 have bT:=aa hk;clear hk;go_enter Tryz.func26,Tryz.ntmps26
 go_wp2_with fail
 go_region
 have aT:=HR.out.hJ i (.cells #[.int .i64 (f:Int),.int .i64 loop,.pointer pa,.slice la L.length lc] 92);have dh:=heap_alloc_new (w.setCell ⟨ob,i,none⟩ (.int .i64 (f:Int))) (.cells #[.int .i64 (f:Int),.int .i64 loop,.pointer pa,.slice la L.length lc] 92);obtain⟨W1,hW1⟩ :∃W1,W1=((w.setCell ⟨ob,i,none⟩ (.int .i64 (f:Int))).alloc (.cells #[.int .i64 (f:Int),.int .i64 loop,.pointer pa,.slice la L.length lc] 92)).drew:=⟨_,rfl⟩;rw[←hW1] at aT;have b9:W1.heap[w.heap.size]? = some (.cells #[.int .i64 (f:Int),.int .i64 loop,.pointer pa,.slice la L.length lc] 92 (0,0)):=by
  rw[hW1];have e:(w.setCell ⟨ob,i,none⟩ (.int .i64 (f:Int))).heap.size=w.heap.size:=by simp[World.setCell]
  rw[e] at dh;exact dh
 rw[←hW1];have x0:=(aT.2.1.below.cell (p:=⟨bk,o+i*7,none⟩) bS).trans x0;have x1:=(aT.2.1.below.cell (p:=⟨bk,o+i*7+1,none⟩) bS).trans x1;have x2:=(aT.2.1.below.cell (p:=⟨bk,o+i*7+2,none⟩) bS).trans x2;have x3:=(aT.2.1.below.cell (p:=⟨bk,o+i*7+3,none⟩) bS).trans x3;have x4:=(aT.2.1.below.cell (p:=⟨bk,o+i*7+4,none⟩) bS).trans x4;have x5:=(aT.2.1.below.cell (p:=⟨bk,o+i*7+5,none⟩) bS).trans x5;have x6:=(aT.2.1.below.cell (p:=⟨bk,o+i*7+6,none⟩) bS).trans x6;clear hW1 dh d0 d3 u0 v0;have d0:W1.cell? ⟨b,0,none⟩=some (.slice (some ⟨bk,o,none⟩) T.length c):=by obtain⟨_,_,hw⟩:=aT.1.rs;exact ab hw.blk 0
 have sL:b<W1.heap.size:=by obtain⟨_,_,hw⟩:=aT.1.rs;exact hw.gK.1
 have oa:w.heap.size<W1.heap.size:=(aJ.1 b9).1;have sM:bk<W1.heap.size:=by omega
 have k0:W1.cell? ⟨w.heap.size,0,none⟩=some (.int .i64 (f:Int)):=ab b9 0;have k1:W1.cell? ⟨w.heap.size,1,none⟩=some (.int .i64 loop):=ab b9 1;have k2:W1.cell? ⟨w.heap.size,2,none⟩=some (.pointer pa):=ab b9 2;have k3:W1.cell? ⟨w.heap.size,3,none⟩=some (.slice la L.length lc):=ab b9 3;have HZ:=aa aT.1;have fm:=aa aT.2.1;have pk:=aa aT.2.2;have Ac:=aa b9;clear aT b9;go_wp2_with fail
 obtain⟨W2,hW2⟩ :∃W2,W2=W1.alloc (.cells #[.int .i64 h.kind,.int .i64 h.line,.int .i64 h.op,.int .i64 h.num,.string h.s,.slice NA h.names.length nc,.slice KA h.kids.length kc] 55):=⟨_,rfl⟩;have df:Below W1.heap.size W1 W2:=by rw[hW2];exact(Below.refl _ _).alloc (ah _) _
 rw[←hW2];have hr2:=HZ.out.dp df;have hf2:cW B ob (.slice la L.length lc) L.length (eB L) w W2:=fm.out.trans (cW.bP df HZ.out.world);have sN :∀k∈ks,bI T B b (.slice (some ⟨bk,o,none⟩) T.length c) ub ob k:=fun k hk=>s6.out k (by have:=eY hk;omega) (eM.out.at_ k hk)
 refine(I3 i f h ks loop pa la lc ms L (kx.out.resolve_right (by have:=bT.out;omega)) (st.setOf i f) W2 (hr2.mono (ah _) (fX _)) HX.out fH.out eM.out sN (fun k hk mc=>iL.out (by have:=bT.out;omega)) yE.out.2 (by
  unfold gD;rw[af (by have:=bT.out;omega),af (by have:=bT.out;omega),al bT.out])).mono ?_
 intro e w3 hp;obtain⟨v,rfl⟩:=hp.ret;have HV:=aa hp;have lM:=aa hf2;clear hp hr2 hf2 sN;go_wp2_with fail
 go_ret
 have hE:aV (.mk i h ks) f st=((bo i f h.line h.names (st.setOf i f)).bind fun s1=>aE ks f s1):=by
  rw[cb];rw[af (by have:=bT.out;omega)]
  rw[af (by have:=bT.out;omega)]
  rw[af (by have:=bT.out;omega)]
  rw[af (by have:=bT.out;omega)]
  rw[af (by have:=bT.out;omega)]
  rw[af (by have:=bT.out;omega)]
  rw[af (by have:=bT.out;omega)]
  rw[af (by have:=bT.out;omega)]
  rw[al bT.out]
 rw[hE];exact aq.after lM.out rfl HV.out
theorem eC.U6 {T:List Nd} {B b:Nat} {nv:Value} {ub ob f:Nat} {pa:Option Addr} {lv:Value} {ms:List Nat} {L:List cV} {st:aF} {w:World} {a s a' s':Nat} (h:eC T B b nv ub ob f pa lv ms L st w a s) (h1:a'≤a) (h2:s'+1≤s):yD T B b nv ub ob f pa lv ms L st w a' s' :=
 ⟨h.dy,h.rs,h.pos,h.cx,h.few,h.fr,by have:=h.names;omega,by have:=h.fns;omega,by have:=h.fu;omega⟩
theorem OV {T:List Nd} {B b:Nat} {nv:Value} {ub ob:Nat} (gI :∀x∈T,x.s.size≤65536∧∀s∈x.names,s.size≤65536) (i:Nat) (h:Nd) (ks:List Lt) (hn:lq T (.mk i h ks)) (ix :∀u:Lt,u.size<Lt.ak ks+1→lq T u→bI T B b nv ub ob u) (hk:h.kind=18):bI T B b nv ub ob (.mk i h ks):=by
 intro f loop pa la lc ms L st w hr bc bD;show Calls Tryz.prog 26 #[.pointer (some ⟨b,0,none⟩),.int .i64 (i:Int),.agg #[.int .i64 (f:Int),.int .i64 loop,.pointer pa,.slice la L.length lc]] w (aq B b nv T.length ub ob (.slice la L.length lc) L st (aV (.mk i h ks) f st) w)
 have fE:=hn.sub;have fJ:=hn.vk;unfold Lt.In at fJ;obtain⟨hx,bt,_⟩:=fJ;replace hr:eC T B b nv ub ob f pa (.slice la L.length lc) ms L st w (h.names.length+Lt.ec ks) (Lt.ak ks+1):=by have h1:=hr;rw[Lt.wt,Lt.size] at h1;exact h1
 replace bc:18≤h.kind→loop=bM f st.frames:=bc;replace bD:L≠[]∨h.kind=18:=bD;obtain⟨bg,bh,bj⟩:=fE;replace bg:dT T ks:=bg;replace bh:h.kind≠18→∀k∈ks,Still k:=bh;replace bj:gR h.kind h.num (iU ks):=bj;have mi:=gI h (aM hx);obtain⟨bk,o,c,rfl,bS,cB,cN⟩:=hr.dy.nodes;obtain⟨qD,qE,dS,⟨NA,nc,kA,_⟩,⟨KA,kc,jw,rT,j9⟩⟩:=cN i h hx;have sK:h.kids.length≤20000:=(hr.dy.small h (aM hx)).1;have fR:h.kids.length=ks.length:=by rw[bt,cD]
 subst kA jw;obtain⟨x0,x1,x2,x3,x4,x5,x6⟩:=dS;have yx:i<T.length:=(aK.1 hx).1;have qF:=hr.dy.few;obtain⟨fv,FL,hw⟩:=id hr.rs;obtain⟨hbl,pg,tH⟩:=hw.gK;have d0:w.cell? ⟨b,0,none⟩=some (.slice (some ⟨bk,o,none⟩) T.length c):=ab hw.blk 0;have d3:w.cell? ⟨b,3,none⟩=some (.slice (some ⟨ob,0,none⟩) T.length T.length):=ab hw.blk 3;obtain⟨u0,v0⟩:=bJ hw.pe (j:=i) (by omega)
 have iK:bk<w.heap.size:=by omega
 have qm:=aa gI;have HR:=aa hr;have HN:=aa hn;have s6:=aa ix;have iL:=aa bc;have kx:=aa bD;have eM:=aa bg;have rU:=aa bh;have nW:=aa bj;have fH:=aa bt;have sr:=aa fR;have HX:=aa hx;have yE:=aa mi;have Cz:=aa j9;clear hr hn ix bc bD bg bh bj bt fR hx mi cN hw gI j9;have q6:(h.kind == 6)=false:=by rw[hk];rfl
 have q7:(h.kind == 7)=false:=by rw[hk];rfl
 have x9:(h.kind == 11)=false:=by rw[hk];rfl
 have yR:(h.kind == 18)=true:=by rw[hk];rfl
 have bT:=aa hk;clear hk;go_enter Tryz.func26,Tryz.ntmps26
 go_wp2_with fail
 go_region
 have aT:=HR.out.hJ i (.cells #[.int .i64 (f:Int),.int .i64 loop,.pointer pa,.slice la L.length lc] 92);have dh:=heap_alloc_new (w.setCell ⟨ob,i,none⟩ (.int .i64 (f:Int))) (.cells #[.int .i64 (f:Int),.int .i64 loop,.pointer pa,.slice la L.length lc] 92);obtain⟨W1,hW1⟩ :∃W1,W1=((w.setCell ⟨ob,i,none⟩ (.int .i64 (f:Int))).alloc (.cells #[.int .i64 (f:Int),.int .i64 loop,.pointer pa,.slice la L.length lc] 92)).drew:=⟨_,rfl⟩;rw[←hW1] at aT;have b9:W1.heap[w.heap.size]? = some (.cells #[.int .i64 (f:Int),.int .i64 loop,.pointer pa,.slice la L.length lc] 92 (0,0)):=by
  rw[hW1];have e:(w.setCell ⟨ob,i,none⟩ (.int .i64 (f:Int))).heap.size=w.heap.size:=by simp[World.setCell]
  rw[e] at dh;exact dh
 rw[←hW1];have x0:=(aT.2.1.below.cell (p:=⟨bk,o+i*7,none⟩) bS).trans x0;have x1:=(aT.2.1.below.cell (p:=⟨bk,o+i*7+1,none⟩) bS).trans x1;have x2:=(aT.2.1.below.cell (p:=⟨bk,o+i*7+2,none⟩) bS).trans x2;have x3:=(aT.2.1.below.cell (p:=⟨bk,o+i*7+3,none⟩) bS).trans x3;have x4:=(aT.2.1.below.cell (p:=⟨bk,o+i*7+4,none⟩) bS).trans x4;have x5:=(aT.2.1.below.cell (p:=⟨bk,o+i*7+5,none⟩) bS).trans x5;have x6:=(aT.2.1.below.cell (p:=⟨bk,o+i*7+6,none⟩) bS).trans x6;clear hW1 dh d0 d3 u0 v0;have d0:W1.cell? ⟨b,0,none⟩=some (.slice (some ⟨bk,o,none⟩) T.length c):=by obtain⟨_,_,hw⟩:=aT.1.rs;exact ab hw.blk 0
 have sL:b<W1.heap.size:=by obtain⟨_,_,hw⟩:=aT.1.rs;exact hw.gK.1
 have oa:w.heap.size<W1.heap.size:=(aJ.1 b9).1;have sM:bk<W1.heap.size:=by omega
 have k0:W1.cell? ⟨w.heap.size,0,none⟩=some (.int .i64 (f:Int)):=ab b9 0;have k1:W1.cell? ⟨w.heap.size,1,none⟩=some (.int .i64 loop):=ab b9 1;have k2:W1.cell? ⟨w.heap.size,2,none⟩=some (.pointer pa):=ab b9 2;have k3:W1.cell? ⟨w.heap.size,3,none⟩=some (.slice la L.length lc):=ab b9 3;have HZ:=aa aT.1;have fm:=aa aT.2.1;have pk:=aa aT.2.2;have Ac:=aa b9;clear aT b9;go_wp2_with fail
 obtain⟨W2,hW2⟩ :∃W2,W2=W1.alloc (.cells #[.int .i64 h.kind,.int .i64 h.line,.int .i64 h.op,.int .i64 h.num,.string h.s,.slice NA h.names.length nc,.slice KA h.kids.length kc] 55):=⟨_,rfl⟩;have df:Below W1.heap.size W1 W2:=by rw[hW2];exact(Below.refl _ _).alloc (ah _) _
 rw[←hW2];have hr2:=HZ.out.dp df;have hf2:cW B ob (.slice la L.length lc) L.length (eB L) w W2:=fm.out.trans (cW.bP df HZ.out.world);have sN :∀k∈ks,bI T B b (.slice (some ⟨bk,o,none⟩) T.length c) ub ob k:=fun k hk=>s6.out k (by have:=eY hk;omega) (eM.out.at_ k hk)
 refine(xc i f h ks [] false loop pa la lc ms L (st.setOf i f) W2 (.slice none 0 0) (hr2.U6 (vK _ _) (by show Lt.ak ks+0+1≤_;omega)) HX.out fH.out eM.out ⟨by unfold Lt.uq;trivial,by unfold Lt.ir;trivial,by unfold Lt.yj;trivial,by unfold Lt.bx;exact DU,fun k hk=>by cases hk⟩ sN (fun k hk=>by cases hk) ⟨none,0,rfl,ah _,.inl rfl⟩ rfl (fun k hk mc=>iL.out (by have:=bT.out;omega)) (fun k hk=>by cases hk) (fun x hx=>(qm.out x.hd (aM (uC eM.out.vk (List.getElem?_of_mem hx).choose_spec).2)).1) (by simp)).mono ?_
 intro e w3 hp;obtain⟨v,rfl⟩:=hp.ret;have HV:=aa hp;have lM:=aa hf2;clear hp hr2 hf2 sN;go_wp2_with fail
 go_ret
 have hE:aV (.mk i h ks) f st=(vA i f false ks [] (st.setOf i f)).map fun s=>s.back (st.setOf i f):=by
  rw[cb];rw[af (by have:=bT.out;omega)]
  rw[af (by have:=bT.out;omega)]
  rw[af (by have:=bT.out;omega)]
  rw[al bT.out];unfold vA;rw[I0];cases ft i f false ks (st.setOf i f) with
  | error y=>rfl
  | ok s1 =>
   show(bz ks 0 f s1).map _=((bz ks 0 f s1).bind fun s2=>aE [] f s2).map _
   cases bz ks 0 f s1 with
   | error y=>rfl
   | ok s2=>show _=(aE [] f s2).map _;rw[eE]
 rw[hE];exact aq.after lM.out rfl HV.out
theorem OW {T:List Nd} {B b:Nat} {nv:Value} {ub ob:Nat} (gI :∀x∈T,x.s.size≤65536∧∀s∈x.names,s.size≤65536) (i:Nat) (h:Nd) (ks:List Lt) (hn:lq T (.mk i h ks)) (ix :∀u:Lt,u.size<Lt.ak ks+1→lq T u→bI T B b nv ub ob u) (hk:h.kind=23):bI T B b nv ub ob (.mk i h ks):=by
 intro f loop pa la lc ms L st w hr bc bD;show Calls Tryz.prog 26 #[.pointer (some ⟨b,0,none⟩),.int .i64 (i:Int),.agg #[.int .i64 (f:Int),.int .i64 loop,.pointer pa,.slice la L.length lc]] w (aq B b nv T.length ub ob (.slice la L.length lc) L st (aV (.mk i h ks) f st) w)
 have fE:=hn.sub;have fJ:=hn.vk;unfold Lt.In at fJ;obtain⟨hx,bt,_⟩:=fJ;replace hr:eC T B b nv ub ob f pa (.slice la L.length lc) ms L st w (h.names.length+Lt.ec ks) (Lt.ak ks+1):=by have h1:=hr;rw[Lt.wt,Lt.size] at h1;exact h1
 replace bc:18≤h.kind→loop=bM f st.frames:=bc;replace bD:L≠[]∨h.kind=18:=bD;obtain⟨bg,bh,bj⟩:=fE;replace bg:dT T ks:=bg;replace bh:h.kind≠18→∀k∈ks,Still k:=bh;replace bj:gR h.kind h.num (iU ks):=bj;have mi:=gI h (aM hx);obtain⟨bk,o,c,rfl,bS,cB,cN⟩:=hr.dy.nodes;obtain⟨qD,qE,dS,⟨NA,nc,kA,_⟩,⟨KA,kc,jw,rT,j9⟩⟩:=cN i h hx;have sK:h.kids.length≤20000:=(hr.dy.small h (aM hx)).1;have fR:h.kids.length=ks.length:=by rw[bt,cD]
 subst kA jw;obtain⟨x0,x1,x2,x3,x4,x5,x6⟩:=dS;have yx:i<T.length:=(aK.1 hx).1;have qF:=hr.dy.few;obtain⟨fv,FL,hw⟩:=id hr.rs;obtain⟨hbl,pg,tH⟩:=hw.gK;have d0:w.cell? ⟨b,0,none⟩=some (.slice (some ⟨bk,o,none⟩) T.length c):=ab hw.blk 0;have d3:w.cell? ⟨b,3,none⟩=some (.slice (some ⟨ob,0,none⟩) T.length T.length):=ab hw.blk 3;obtain⟨u0,v0⟩:=bJ hw.pe (j:=i) (by omega)
 have iK:bk<w.heap.size:=by omega
 have HR:=aa hr;have HN:=aa hn;have s6:=aa ix;have iL:=aa bc;have kx:=aa bD;have eM:=aa bg;have rU:=aa bh;have nW:=aa bj;have fH:=aa bt;have sr:=aa fR;have HX:=aa hx;have yE:=aa mi;have Cz:=aa j9;clear hr hn ix bc bD bg bh bj bt fR hx mi cN hw gI j9;have q6:(h.kind == 6)=false:=by rw[hk];rfl
 have q7:(h.kind == 7)=false:=by rw[hk];rfl
 have x9:(h.kind == 11)=false:=by rw[hk];rfl
 have yR:(h.kind == 18)=false:=by rw[hk];rfl
 have U4:(h.kind == 23)=true:=by rw[hk];rfl
 have bT:=aa hk;clear hk;go_enter Tryz.func26,Tryz.ntmps26
 go_wp2_with fail
 go_region
 have aT:=HR.out.hJ i (.cells #[.int .i64 (f:Int),.int .i64 loop,.pointer pa,.slice la L.length lc] 92);have dh:=heap_alloc_new (w.setCell ⟨ob,i,none⟩ (.int .i64 (f:Int))) (.cells #[.int .i64 (f:Int),.int .i64 loop,.pointer pa,.slice la L.length lc] 92);obtain⟨W1,hW1⟩ :∃W1,W1=((w.setCell ⟨ob,i,none⟩ (.int .i64 (f:Int))).alloc (.cells #[.int .i64 (f:Int),.int .i64 loop,.pointer pa,.slice la L.length lc] 92)).drew:=⟨_,rfl⟩;rw[←hW1] at aT;have b9:W1.heap[w.heap.size]? = some (.cells #[.int .i64 (f:Int),.int .i64 loop,.pointer pa,.slice la L.length lc] 92 (0,0)):=by
  rw[hW1];have e:(w.setCell ⟨ob,i,none⟩ (.int .i64 (f:Int))).heap.size=w.heap.size:=by simp[World.setCell]
  rw[e] at dh;exact dh
 rw[←hW1];have x0:=(aT.2.1.below.cell (p:=⟨bk,o+i*7,none⟩) bS).trans x0;have x1:=(aT.2.1.below.cell (p:=⟨bk,o+i*7+1,none⟩) bS).trans x1;have x2:=(aT.2.1.below.cell (p:=⟨bk,o+i*7+2,none⟩) bS).trans x2;have x3:=(aT.2.1.below.cell (p:=⟨bk,o+i*7+3,none⟩) bS).trans x3;have x4:=(aT.2.1.below.cell (p:=⟨bk,o+i*7+4,none⟩) bS).trans x4;have x5:=(aT.2.1.below.cell (p:=⟨bk,o+i*7+5,none⟩) bS).trans x5;have x6:=(aT.2.1.below.cell (p:=⟨bk,o+i*7+6,none⟩) bS).trans x6;clear hW1 dh d0 d3 u0 v0;have d0:W1.cell? ⟨b,0,none⟩=some (.slice (some ⟨bk,o,none⟩) T.length c):=by obtain⟨_,_,hw⟩:=aT.1.rs;exact ab hw.blk 0
 have sL:b<W1.heap.size:=by obtain⟨_,_,hw⟩:=aT.1.rs;exact hw.gK.1
 have oa:w.heap.size<W1.heap.size:=(aJ.1 b9).1;have sM:bk<W1.heap.size:=by omega
 have k0:W1.cell? ⟨w.heap.size,0,none⟩=some (.int .i64 (f:Int)):=ab b9 0;have k1:W1.cell? ⟨w.heap.size,1,none⟩=some (.int .i64 loop):=ab b9 1;have k2:W1.cell? ⟨w.heap.size,2,none⟩=some (.pointer pa):=ab b9 2;have k3:W1.cell? ⟨w.heap.size,3,none⟩=some (.slice la L.length lc):=ab b9 3;have HZ:=aa aT.1;have fm:=aa aT.2.1;have pk:=aa aT.2.2;have Ac:=aa b9;clear aT b9;go_wp2_with fail
 obtain⟨W2,hW2⟩ :∃W2,W2=W1.alloc (.cells #[.int .i64 h.kind,.int .i64 h.line,.int .i64 h.op,.int .i64 h.num,.string h.s,.slice NA h.names.length nc,.slice KA h.kids.length kc] 55):=⟨_,rfl⟩;have df:Below W1.heap.size W1 W2:=by rw[hW2];exact(Below.refl _ _).alloc (ah _) _
 rw[←hW2];refine(lV f loop (i:Int) pa la L.length lc W2).mono ?_;rintro e wv ⟨rfl,U7⟩;have df:=df.trans (U7.mono df.size);clear hW2 U7;go_wp2_with fail
 have hr2:=HZ.out.dp df;have hf2:cW B ob (.slice la L.length lc) L.length (eB L) w wv:=fm.out.trans (cW.bP df HZ.out.world);have sN :∀k∈ks,bI T B b (.slice (some ⟨bk,o,none⟩) T.length c) ub ob k:=fun k hk=>s6.out k (by have:=eY hk;omega) (eM.out.at_ k hk)
 refine(Fi i f h ks (i:Int) pa la lc ms L (dt i f (st.setOf i f)) wv ((hr2.mono (vK _ _) (fX _)).nX i) HX.out fH.out eM.out sN (fun k hk mc=>(uO f i _).symm) (fun k _=>.inl (kx.out.resolve_right (by have:=bT.out;omega))) (by
  unfold gD;rw[af (by have:=bT.out;omega),af (by have:=bT.out;omega),af (by have:=bT.out;omega),af (by have:=bT.out;omega)])).mono ?_
 intro e w3 hp;obtain⟨v,rfl⟩:=hp.ret;have HV:=aa hp;have lM:=aa hf2;clear hp hr2 hf2 sN;go_wp2_with fail
 go_ret
 have hE:aV (.mk i h ks) f st=(aE ks f (dt i f (st.setOf i f))).map fun s=>s.back (st.setOf i f):=by
  rw[cb];rw[af (by have:=bT.out;omega)]
  rw[af (by have:=bT.out;omega)]
  rw[af (by have:=bT.out;omega)]
  rw[af (by have:=bT.out;omega)]
  rw[af (by have:=bT.out;omega)]
  rw[al bT.out]
 rw[hE];exact aq.after lM.out rfl (HV.out.Tx (st':=st.setOf i f) rfl fun s' hs'=>qk ks eM.out.quiet (rU.out (by have:=bT.out;omega)) hs')
theorem yF :∀a b:List Lt,Lt.ec (a++b)=Lt.ec a+Lt.ec b
 | [],b=>by rw[kF,show Lt.ec []=0 from rfl,iY]
 | x::a,b=>by rw[fh,Lt.ec,Lt.ec,yF a b,pC]
theorem xd :∀a b:List Lt,Lt.bx (a++b)=Lt.bx a++Lt.bx b
 | [],b=>rfl
 | x::a,b=>by rw[fh,Lt.bx,Lt.bx,xd a b,fg]
theorem dT.app {T:List Nd} :∀{a b:List Lt},dT T (a++b)→dT T a∧dT T b
 | [],b,h=>⟨⟨by unfold Lt.uq;trivial,by unfold Lt.ir;trivial,by unfold Lt.yj;trivial,by unfold Lt.bx;exact DU,fun k hk=>by cases hk⟩,h⟩
 | x::a,b,h=>by
  obtain⟨h1,h2⟩:=dT.cons (k:=x) (ks:=a++b) h;obtain⟨h3,h4⟩:=dT.app h2;have h5:=h.nodup;rw[xd,oe] at h5;exact⟨⟨by unfold Lt.uq;exact⟨h1.vk,h3.vk⟩,by unfold Lt.ir;exact⟨h1.form,h3.form⟩,by unfold Lt.yj;exact⟨h1.wf,h3.wf⟩,h5.1,fun k hk=>h.kind k (fU b hk)⟩,h4⟩
theorem uZ {ks:List Lt} {l:List Int} (h:iU ks=l++[18]) :∃vals blk,ks=vals++[blk]∧iU vals=l∧blk.hd.kind=18:=by
 unfold iU at h;obtain⟨a,b,e,h1,h2⟩:=vD.1 h;obtain⟨x,e2,h3⟩:=List.map_eq_singleton_iff.1 h2;exact⟨a,x,by rw[e,e2],h1,h3⟩
theorem OX {T:List Nd} {B b:Nat} {nv:Value} {ub ob:Nat} (gI :∀x∈T,x.s.size≤65536∧∀s∈x.names,s.size≤65536) (i:Nat) (h:Nd) (ks:List Lt) (hn:lq T (.mk i h ks)) (ix :∀u:Lt,u.size<Lt.ak ks+1→lq T u→bI T B b nv ub ob u) (hk:h.kind=26):bI T B b nv ub ob (.mk i h ks):=by
 intro f loop pa la lc ms L st w hr bc bD;show Calls Tryz.prog 26 #[.pointer (some ⟨b,0,none⟩),.int .i64 (i:Int),.agg #[.int .i64 (f:Int),.int .i64 loop,.pointer pa,.slice la L.length lc]] w (aq B b nv T.length ub ob (.slice la L.length lc) L st (aV (.mk i h ks) f st) w)
 have fE:=hn.sub;have fJ:=hn.vk;unfold Lt.In at fJ;obtain⟨hx,bt,_⟩:=fJ;replace hr:eC T B b nv ub ob f pa (.slice la L.length lc) ms L st w (h.names.length+Lt.ec ks) (Lt.ak ks+1):=by have h1:=hr;rw[Lt.wt,Lt.size] at h1;exact h1
 replace bc:18≤h.kind→loop=bM f st.frames:=bc;replace bD:L≠[]∨h.kind=18:=bD;obtain⟨bg,bh,bj⟩:=fE;replace bg:dT T ks:=bg;replace bh:h.kind≠18→∀k∈ks,Still k:=bh;replace bj:gR h.kind h.num (iU ks):=bj;have mi:=gI h (aM hx);obtain⟨bk,o,c,rfl,bS,cB,cN⟩:=hr.dy.nodes;obtain⟨qD,qE,dS,⟨NA,nc,kA,_⟩,⟨KA,kc,jw,rT,j9⟩⟩:=cN i h hx;have sK:h.kids.length≤20000:=(hr.dy.small h (aM hx)).1;have fR:h.kids.length=ks.length:=by rw[bt,cD]
 subst kA jw;obtain⟨x0,x1,x2,x3,x4,x5,x6⟩:=dS;have yx:i<T.length:=(aK.1 hx).1;have qF:=hr.dy.few;obtain⟨fv,FL,hw⟩:=id hr.rs;obtain⟨hbl,pg,tH⟩:=hw.gK;have d0:w.cell? ⟨b,0,none⟩=some (.slice (some ⟨bk,o,none⟩) T.length c):=ab hw.blk 0;have d3:w.cell? ⟨b,3,none⟩=some (.slice (some ⟨ob,0,none⟩) T.length T.length):=ab hw.blk 3;obtain⟨u0,v0⟩:=bJ hw.pe (j:=i) (by omega)
 have iK:bk<w.heap.size:=by omega
 have HR:=aa hr;have HN:=aa hn;have s6:=aa ix;have iL:=aa bc;have kx:=aa bD;have eM:=aa bg;have rU:=aa bh;have nW:=aa bj;have fH:=aa bt;have sr:=aa fR;have HX:=aa hx;have yE:=aa mi;have Cz:=aa j9;clear hr hn ix bc bD bg bh bj bt fR hx mi cN hw gI j9;have q6:(h.kind == 6)=false:=by rw[hk];rfl
 have q7:(h.kind == 7)=false:=by rw[hk];rfl
 have x9:(h.kind == 11)=false:=by rw[hk];rfl
 have yR:(h.kind == 18)=false:=by rw[hk];rfl
 have U4:(h.kind == 23)=false:=by rw[hk];rfl
 have Yo:(h.kind == 26)=true:=by rw[hk];rfl
 have bT:=aa hk;clear hk;go_enter Tryz.func26,Tryz.ntmps26
 go_wp2_with fail
 go_region
 have aT:=HR.out.hJ i (.cells #[.int .i64 (f:Int),.int .i64 loop,.pointer pa,.slice la L.length lc] 92);have dh:=heap_alloc_new (w.setCell ⟨ob,i,none⟩ (.int .i64 (f:Int))) (.cells #[.int .i64 (f:Int),.int .i64 loop,.pointer pa,.slice la L.length lc] 92);obtain⟨W1,hW1⟩ :∃W1,W1=((w.setCell ⟨ob,i,none⟩ (.int .i64 (f:Int))).alloc (.cells #[.int .i64 (f:Int),.int .i64 loop,.pointer pa,.slice la L.length lc] 92)).drew:=⟨_,rfl⟩;rw[←hW1] at aT;have b9:W1.heap[w.heap.size]? = some (.cells #[.int .i64 (f:Int),.int .i64 loop,.pointer pa,.slice la L.length lc] 92 (0,0)):=by
  rw[hW1];have e:(w.setCell ⟨ob,i,none⟩ (.int .i64 (f:Int))).heap.size=w.heap.size:=by simp[World.setCell]
  rw[e] at dh;exact dh
 rw[←hW1];have x0:=(aT.2.1.below.cell (p:=⟨bk,o+i*7,none⟩) bS).trans x0;have x1:=(aT.2.1.below.cell (p:=⟨bk,o+i*7+1,none⟩) bS).trans x1;have x2:=(aT.2.1.below.cell (p:=⟨bk,o+i*7+2,none⟩) bS).trans x2;have x3:=(aT.2.1.below.cell (p:=⟨bk,o+i*7+3,none⟩) bS).trans x3;have x4:=(aT.2.1.below.cell (p:=⟨bk,o+i*7+4,none⟩) bS).trans x4;have x5:=(aT.2.1.below.cell (p:=⟨bk,o+i*7+5,none⟩) bS).trans x5;have x6:=(aT.2.1.below.cell (p:=⟨bk,o+i*7+6,none⟩) bS).trans x6;clear hW1 dh d0 d3 u0 v0;have d0:W1.cell? ⟨b,0,none⟩=some (.slice (some ⟨bk,o,none⟩) T.length c):=by obtain⟨_,_,hw⟩:=aT.1.rs;exact ab hw.blk 0
 have sL:b<W1.heap.size:=by obtain⟨_,_,hw⟩:=aT.1.rs;exact hw.gK.1
 have oa:w.heap.size<W1.heap.size:=(aJ.1 b9).1;have sM:bk<W1.heap.size:=by omega
 have k0:W1.cell? ⟨w.heap.size,0,none⟩=some (.int .i64 (f:Int)):=ab b9 0;have k1:W1.cell? ⟨w.heap.size,1,none⟩=some (.int .i64 loop):=ab b9 1;have k2:W1.cell? ⟨w.heap.size,2,none⟩=some (.pointer pa):=ab b9 2;have k3:W1.cell? ⟨w.heap.size,3,none⟩=some (.slice la L.length lc):=ab b9 3;have HZ:=aa aT.1;have fm:=aa aT.2.1;have pk:=aa aT.2.2;have Ac:=aa b9;clear aT b9;obtain⟨l,hl0,xU⟩ :∃l,iU ks=l++[18]∧∀a∈l,sZ a:=by
  obtain⟨l,h1,_,h2⟩:=nW.out.for_ bT.out;exact⟨l,h1,h2⟩
 obtain⟨vals,blk,rfl,hv,hb⟩:=uZ hl0;subst hv;go_wp2_with fail
 obtain⟨W2,hW2⟩ :∃W2,W2=W1.alloc (.cells #[.int .i64 h.kind,.int .i64 h.line,.int .i64 h.op,.int .i64 h.num,.string h.s,.slice NA h.names.length nc,.slice KA h.kids.length kc] 55):=⟨_,rfl⟩;have df:Below W1.heap.size W1 W2:=by rw[hW2];exact(Below.refl _ _).alloc (ah _) _
 rw[←hW2];refine(lV f loop (i:Int) pa la L.length lc W2).mono ?_;rintro e wv ⟨rfl,U7⟩;have df:=df.trans (U7.mono df.size);clear hW2 U7;go_wp2_with fail
 have hr2:=HZ.out.dp df;have hf2:cW B ob (.slice la L.length lc) L.length (eB L) w wv:=fm.out.trans (cW.bP df HZ.out.world);have sN :∀k∈vals++[blk],bI T B b (.slice (some ⟨bk,o,none⟩) T.length c) ub ob k:=fun k hk=>s6.out k (by have:=eY hk;omega) (eM.out.at_ k hk)
 have hlen:h.kids.length=vals.length+1:=by rw[sr.out,cC,mw]
 refine(Bh i f h vals [blk] (i:Int) pa la lc ms L (st.setOf i f) wv (hr2.mono (by rw[yF];omega) (by rw[pb];omega)) HX.out (by rw[fH.out,l9]) (by simp) eM.out.app.1 eM.out.app.2 (fun k hk=>sN k (fU _ hk)) (fun k hk=>sN k (iV _ hk)) (fun k hk=>by have:=xU _ (jT hk);unfold sZ at this;omega) (fun k hk=>rU.out (by have:=bT.out;omega) k (fU _ hk)) (kx.out.resolve_right (by have:=bT.out;omega)) yE.out.2 rfl (by
  unfold gD;rw[al (by have:=bT.out;omega),hlen]
  congr 2
  omega)).mono ?_
 intro e w3 hp;obtain⟨v,rfl⟩:=hp.ret;have HV:=aa hp;have lM:=aa hf2;clear hp hr2 hf2 sN;go_wp2_with fail
 go_ret
 have hE:aV (.mk i h (vals++[blk])) f st=((aE vals f (st.setOf i f)).bind fun s1=>((bo i f h.line h.names (dt i f s1)).bind fun s2=>aE [blk] f s2).map fun s=>s.back s1):=by
  rw[cb];rw[af (by have:=bT.out;omega)]
  rw[af (by have:=bT.out;omega)]
  rw[af (by have:=bT.out;omega)]
  rw[af (by have:=bT.out;omega)]
  rw[af (by have:=bT.out;omega)]
  rw[af (by have:=bT.out;omega)]
  rw[af (by have:=bT.out;omega)]
  rw[al (by have:=bT.out;omega)]
  exact qA blk vals (st.setOf i f)
 rw[hE];exact aq.after lM.out rfl HV.out
theorem OY {T:List Nd} {B b:Nat} {nv:Value} {ub ob:Nat} (gI :∀x∈T,x.s.size≤65536∧∀s∈x.names,s.size≤65536) (i:Nat) (h:Nd) (ks:List Lt) (hn:lq T (.mk i h ks)) (ix :∀u:Lt,u.size<Lt.ak ks+1→lq T u→bI T B b nv ub ob u) (hk:h.kind=27):bI T B b nv ub ob (.mk i h ks):=by
 intro f loop pa la lc ms L st w hr bc bD;show Calls Tryz.prog 26 #[.pointer (some ⟨b,0,none⟩),.int .i64 (i:Int),.agg #[.int .i64 (f:Int),.int .i64 loop,.pointer pa,.slice la L.length lc]] w (aq B b nv T.length ub ob (.slice la L.length lc) L st (aV (.mk i h ks) f st) w)
 have fE:=hn.sub;have fJ:=hn.vk;unfold Lt.In at fJ;obtain⟨hx,bt,_⟩:=fJ;replace hr:eC T B b nv ub ob f pa (.slice la L.length lc) ms L st w (h.names.length+Lt.ec ks) (Lt.ak ks+1):=by have h1:=hr;rw[Lt.wt,Lt.size] at h1;exact h1
 replace bc:18≤h.kind→loop=bM f st.frames:=bc;replace bD:L≠[]∨h.kind=18:=bD;obtain⟨bg,bh,bj⟩:=fE;replace bg:dT T ks:=bg;replace bh:h.kind≠18→∀k∈ks,Still k:=bh;replace bj:gR h.kind h.num (iU ks):=bj;have mi:=gI h (aM hx);obtain⟨bk,o,c,rfl,bS,cB,cN⟩:=hr.dy.nodes;obtain⟨qD,qE,dS,⟨NA,nc,kA,_⟩,⟨KA,kc,jw,rT,j9⟩⟩:=cN i h hx;have sK:h.kids.length≤20000:=(hr.dy.small h (aM hx)).1;have fR:h.kids.length=ks.length:=by rw[bt,cD]
 subst kA jw;obtain⟨x0,x1,x2,x3,x4,x5,x6⟩:=dS;have yx:i<T.length:=(aK.1 hx).1;have qF:=hr.dy.few;obtain⟨fv,FL,hw⟩:=id hr.rs;obtain⟨hbl,pg,tH⟩:=hw.gK;have d0:w.cell? ⟨b,0,none⟩=some (.slice (some ⟨bk,o,none⟩) T.length c):=ab hw.blk 0;have d3:w.cell? ⟨b,3,none⟩=some (.slice (some ⟨ob,0,none⟩) T.length T.length):=ab hw.blk 3;obtain⟨u0,v0⟩:=bJ hw.pe (j:=i) (by omega)
 have iK:bk<w.heap.size:=by omega
 have HR:=aa hr;have HN:=aa hn;have s6:=aa ix;have iL:=aa bc;have kx:=aa bD;have eM:=aa bg;have rU:=aa bh;have nW:=aa bj;have fH:=aa bt;have sr:=aa fR;have HX:=aa hx;have yE:=aa mi;have Cz:=aa j9;clear hr hn ix bc bD bg bh bj bt fR hx mi cN hw gI j9;have q6:(h.kind == 6)=false:=by rw[hk];rfl
 have q7:(h.kind == 7)=false:=by rw[hk];rfl
 have x9:(h.kind == 11)=false:=by rw[hk];rfl
 have yR:(h.kind == 18)=false:=by rw[hk];rfl
 have U4:(h.kind == 23)=false:=by rw[hk];rfl
 have Yo:(h.kind == 26)=false:=by rw[hk];rfl
 have Zh:(h.kind == 27)=true:=by rw[hk];rfl
 have bT:=aa hk;clear hk;go_enter Tryz.func26,Tryz.ntmps26
 go_wp2_with fail
 go_region
 have aT:=HR.out.hJ i (.cells #[.int .i64 (f:Int),.int .i64 loop,.pointer pa,.slice la L.length lc] 92);have dh:=heap_alloc_new (w.setCell ⟨ob,i,none⟩ (.int .i64 (f:Int))) (.cells #[.int .i64 (f:Int),.int .i64 loop,.pointer pa,.slice la L.length lc] 92);obtain⟨W1,hW1⟩ :∃W1,W1=((w.setCell ⟨ob,i,none⟩ (.int .i64 (f:Int))).alloc (.cells #[.int .i64 (f:Int),.int .i64 loop,.pointer pa,.slice la L.length lc] 92)).drew:=⟨_,rfl⟩;rw[←hW1] at aT;have b9:W1.heap[w.heap.size]? = some (.cells #[.int .i64 (f:Int),.int .i64 loop,.pointer pa,.slice la L.length lc] 92 (0,0)):=by
  rw[hW1];have e:(w.setCell ⟨ob,i,none⟩ (.int .i64 (f:Int))).heap.size=w.heap.size:=by simp[World.setCell]
  rw[e] at dh;exact dh
 rw[←hW1];have x0:=(aT.2.1.below.cell (p:=⟨bk,o+i*7,none⟩) bS).trans x0;have x1:=(aT.2.1.below.cell (p:=⟨bk,o+i*7+1,none⟩) bS).trans x1;have x2:=(aT.2.1.below.cell (p:=⟨bk,o+i*7+2,none⟩) bS).trans x2;have x3:=(aT.2.1.below.cell (p:=⟨bk,o+i*7+3,none⟩) bS).trans x3;have x4:=(aT.2.1.below.cell (p:=⟨bk,o+i*7+4,none⟩) bS).trans x4;have x5:=(aT.2.1.below.cell (p:=⟨bk,o+i*7+5,none⟩) bS).trans x5;have x6:=(aT.2.1.below.cell (p:=⟨bk,o+i*7+6,none⟩) bS).trans x6;clear hW1 dh d0 d3 u0 v0;have d0:W1.cell? ⟨b,0,none⟩=some (.slice (some ⟨bk,o,none⟩) T.length c):=by obtain⟨_,_,hw⟩:=aT.1.rs;exact ab hw.blk 0
 have sL:b<W1.heap.size:=by obtain⟨_,_,hw⟩:=aT.1.rs;exact hw.gK.1
 have oa:w.heap.size<W1.heap.size:=(aJ.1 b9).1;have sM:bk<W1.heap.size:=by omega
 have k0:W1.cell? ⟨w.heap.size,0,none⟩=some (.int .i64 (f:Int)):=ab b9 0;have k1:W1.cell? ⟨w.heap.size,1,none⟩=some (.int .i64 loop):=ab b9 1;have k2:W1.cell? ⟨w.heap.size,2,none⟩=some (.pointer pa):=ab b9 2;have k3:W1.cell? ⟨w.heap.size,3,none⟩=some (.slice la L.length lc):=ab b9 3;have HZ:=aa aT.1;have fm:=aa aT.2.1;have pk:=aa aT.2.2;have Ac:=aa b9;clear aT b9;obtain⟨l,hl0,xU⟩ :∃l,iU ks=l++[18]∧∀a∈l,sZ a:=by
  obtain⟨l,h1,_,h2⟩:=nW.out.each bT.out;exact⟨l,h1,h2⟩
 obtain⟨vals,blk,rfl,hv,hb⟩:=uZ hl0;subst hv;go_wp2_with fail
 obtain⟨W2,hW2⟩ :∃W2,W2=W1.alloc (.cells #[.int .i64 h.kind,.int .i64 h.line,.int .i64 h.op,.int .i64 h.num,.string h.s,.slice NA h.names.length nc,.slice KA h.kids.length kc] 55):=⟨_,rfl⟩;have df:Below W1.heap.size W1 W2:=by rw[hW2];exact(Below.refl _ _).alloc (ah _) _
 rw[←hW2];refine(lV f loop (i:Int) pa la L.length lc W2).mono ?_;rintro e wv ⟨rfl,U7⟩;have df:=df.trans (U7.mono df.size);clear hW2 U7;go_wp2_with fail
 have hr2:=HZ.out.dp df;have hf2:cW B ob (.slice la L.length lc) L.length (eB L) w wv:=fm.out.trans (cW.bP df HZ.out.world);have sN :∀k∈vals++[blk],bI T B b (.slice (some ⟨bk,o,none⟩) T.length c) ub ob k:=fun k hk=>s6.out k (by have:=eY hk;omega) (eM.out.at_ k hk)
 have hlen:h.kids.length=vals.length+1:=by rw[sr.out,cC,mw]
 refine(Bh i f h vals [blk] (i:Int) pa la lc ms L (st.setOf i f) wv (hr2.mono (by rw[yF];omega) (by rw[pb];omega)) HX.out (by rw[fH.out,l9]) (by simp) eM.out.app.1 eM.out.app.2 (fun k hk=>sN k (fU _ hk)) (fun k hk=>sN k (iV _ hk)) (fun k hk=>by have:=xU _ (jT hk);unfold sZ at this;omega) (fun k hk=>rU.out (by have:=bT.out;omega) k (fU _ hk)) (kx.out.resolve_right (by have:=bT.out;omega)) yE.out.2 rfl (by
  unfold gD;rw[al (by have:=bT.out;omega),hlen]
  congr 2
  omega)).mono ?_
 intro e w3 hp;obtain⟨v,rfl⟩:=hp.ret;have HV:=aa hp;have lM:=aa hf2;clear hp hr2 hf2 sN;go_wp2_with fail
 go_ret
 have hE:aV (.mk i h (vals++[blk])) f st=((aE vals f (st.setOf i f)).bind fun s1=>((bo i f h.line h.names (dt i f s1)).bind fun s2=>aE [blk] f s2).map fun s=>s.back s1):=by
  rw[cb];rw[af (by have:=bT.out;omega)]
  rw[af (by have:=bT.out;omega)]
  rw[af (by have:=bT.out;omega)]
  rw[af (by have:=bT.out;omega)]
  rw[af (by have:=bT.out;omega)]
  rw[af (by have:=bT.out;omega)]
  rw[af (by have:=bT.out;omega)]
  rw[al (by have:=bT.out;omega)]
  exact qA blk vals (st.setOf i f)
 rw[hE];exact aq.after lM.out rfl HV.out
structure DA (T:List Nd) (B b:Nat) (nv:Value) (ub ob f:Nat) (pa:Option Addr) (lv:Value) (ms:List Nat) (L:List cV) (st:aF) (w:World) (a s:Nat):Prop where
 dy:vx w B nv T
 rs:jL w B b nv T.length st ub ob
 pos:oE w B f (.pointer pa) lv ms L st
 hd:HdF f L
 lt:f<st.fns.length
 few:dQ st.fns
 fr :∀x∈st.frames,x.fn<st.fns.length
 names:st.names.length+a≤100000
 fns:st.fns.length+s≤100000
 fu:L.length+s≤100000
structure su (T:List Nd) (B b:Nat) (nv:Value) (ub ob f:Nat) (pa:Option Addr) (lv:Value) (ms:List Nat) (L:List cV) (st:aF) (w:World) (a s:Nat):Prop where
 dy:vx w B nv T
 rs:jL w B b nv T.length st ub ob
 pos:oE w B f (.pointer pa) lv ms L st
 lt:f<st.fns.length
 few:dQ st.fns
 fr :∀x∈st.frames,x.fn<st.fns.length
 names:st.names.length+a≤100000
 fns:st.fns.length+s≤100000
 fu:L.length+1+s≤100000
theorem DB {T:List Nd} {B b:Nat} {nv:Value} {ub ob f:Nat} {pa la:Option Addr} {lc:Nat} {ms:List Nat} {L:List cV} {st:aF} {w:World} {a s:Nat} (loop:Int) (h:su T B b nv ub ob f pa (.slice la L.length lc) ms L st w a s) :
  Calls Tryz.prog 112 #[.agg #[.int .i64 (f:Int),.int .i64 loop,.pointer pa,.slice la L.length lc]] w fun e w'=>∃g c m,e=.returned (.agg #[.int .i64 (f:Int),.int .i64 loop,.pointer pa,.slice (some ⟨g,0,none⟩) (L.length+1) c])∧DA T B b nv ub ob f pa (.slice (some ⟨g,0,none⟩) (L.length+1) c) ms (⟨f,m,[]⟩::L) st w' a s∧w.heap.size≤m∧((Value.slice la L.length lc).ownBlock=some g∨w.heap.size≤g)∧cW B ob (.slice la L.length lc) L.length none w w':=by
 have cB:B≤w.heap.size:=by obtain⟨_,_,_,_,_,h,_⟩:=h.dy.nodes;exact h
 refine(wY f loop pa la lc L w h.pos.fu (by have:=h.fu;omega) cB).mono ?_
 rintro e w' ⟨g,c,m,he,h1,h2,h3,h4,h5⟩;have hf:=h4 ob;refine⟨g,c,m,he,⟨h.dy.below hf.below,?_,⟨h1,h.pos.blk.jh hf (by simp),h.pos.names,?_⟩,?_,h.lt,h.few,h.fr,h.names,h.fns,?_⟩,h2,h3,hf⟩
 ·obtain⟨fv,FL,hw⟩:=h.rs
  exact⟨fv,FL,hw.fr h5 (by decide)⟩
 ·intro m' hm' l hl
  rcases bq.1 hl with rfl|hl
  ·have:=cw.lt h.pos.blk m' hm'
   show m'≠m
   omega
  ·exact h.pos.apart m' hm' l hl
 ·intro l r e
  injection e with e _;rw[←e]
 ·have:=h.fu
  rw[List.length_cons];omega
theorem su.dp {T:List Nd} {B b:Nat} {nv:Value} {ub ob f:Nat} {pa:Option Addr} {lv:Value} {ms:List Nat} {L:List cV} {st:aF} {w w':World} {a s:Nat} (h:su T B b nv ub ob f pa lv ms L st w a s) (hb:Below w.heap.size w w'):su T B b nv ub ob f pa lv ms L st w' a s:=by
 have cB:B≤w.heap.size:=by obtain⟨_,_,_,_,_,h,_⟩:=h.dy.nodes;exact h
 have h2:cW B ob lv L.length none w w':=cW.bP hb cB;refine⟨h.dy.below h2.below,?_,⟨h.pos.fu.jh h2 (ah _),h.pos.blk.jh h2 (by simp),h.pos.names,h.pos.apart⟩,h.lt,h.few,h.fr,h.names,h.fns,h.fu⟩
 obtain⟨fv,FL,hw⟩:=h.rs;exact⟨fv,FL,hw.later hb⟩
theorem su.levels {T:List Nd} {B b:Nat} {nv:Value} {ub ob f:Nat} {pa:Option Addr} {lv:Value} {ms:List Nat} {L:List cV} {st:aF} {w:World} {a s:Nat} (h:su T B b nv ub ob f pa lv ms L st w a s) :∀l∈L,l.blk<w.heap.size:=fun l hl=>(h.pos.fu.maps l hl).1.lt
theorem DA.Tm {T:List Nd} {B b:Nat} {nv:Value} {ub ob f:Nat} {pa:Option Addr} {lv:Value} {ms:List Nat} {L:List cV} {st:aF} {w w':World} {a s:Nat} (h:DA T B b nv ub ob f pa lv ms L st w a s) (k:Fr [92] w w') (hb:Below B w w'):DA T B b nv ub ob f pa lv ms L st w' a s:=by
 refine⟨h.dy.below hb,?_,⟨h.pos.fu.fr k (by decide),cw.fr k (by decide) h.pos.blk,h.pos.names,h.pos.apart⟩,h.hd,h.lt,h.few,h.fr,h.names,h.fns,h.fu⟩
 obtain⟨fv,FL,hw⟩:=h.rs;exact⟨fv,FL,hw.fr k (by decide)⟩
theorem DA.step {T:List Nd} {B b:Nat} {nv:Value} {ub ob f:Nat} {pa:Option Addr} {lv:Value} {ms:List Nat} {L:List cV} {st st':aF} {w w':World} {a s a1 s1:Nat} {e:Ending} (h:DA T B b nv ub ob f pa lv ms L st w (a1+a) (s1+s)) (vX:Mk a1 s1 st st') (CN:Cx f st') (hf:st'.frames=st.frames) (hp:aq B b nv T.length ub ob lv L st (.ok st') w e w') :
  e=.returned .nilIface∧∃x,st'.names=x++st.names∧(L=[]→x=[])∧eC T B b nv ub ob f pa lv ms (grow x L) st' w' a s∧cW B ob lv L.length (eB L) w w':=by
 obtain⟨hb,rfl,PJ,nZ,x,hx1,hx2,hx3⟩:=hp;refine⟨rfl,x,hx1,hx2,⟨h.dy.below hb,PJ,h.pos.on nZ hx3 hx1 hx2 hf,h.hd.grow x,CN,vX.few,fun y hy=>?_,?_,?_,?_⟩,nZ⟩
 ·rw[hf] at hy
  exact cL (h.fr y hy) vX.least
 ·have:=vX.names;have:=h.names;omega
 ·have:=vX.fns;have:=h.fns;omega
 ·rw[cG];have:=h.fu;omega
theorem I4 {T:List Nd} {B b:Nat} {nv:Value} {ub ob:Nat} (i f:Nat) (h:Nd) (rest:List Lt) (loop:Int) (pa la:Option Addr) (lc:Nat) (ms:List Nat) (L:List cV) (st:aF) (w:World) (hr:su T B b nv ub ob f pa (.slice la L.length lc) ms L st w (h.names.length+Lt.ec rest) (Lt.ak rest)) (hx:T[i]? = some h) (hk:h.kids=rest.map fun k=>(k.loc:Int)) (Bi:rest≠[]) (qS:dT T rest) (hV2 :∀k∈rest,bI T B b nv ub ob k)
  (hl :∀k∈rest,18≤k.hd.kind→loop=bM f st.frames) (hsz :∀s∈h.names,s.size≤65536) (CN :∀s2,bo i f h.line h.names st=.ok s2→Cx f s2) (hd:gD h.kind h.kids.length=(true,0,true)) :
  Calls Tryz.prog 55 #[.pointer (some ⟨b,0,none⟩),.int .i64 (i:Int),.agg #[.int .i64 (f:Int),.int .i64 loop,.pointer pa,.slice la L.length lc]] w (aq B b nv T.length ub ob (.slice la L.length lc) L st (((bo i f h.line h.names st).bind fun s2=>aE rest f s2).map fun s=>s.back st) w):=by
 obtain⟨bk,o,c,rfl,bS,cB,cN⟩:=hr.dy.nodes;obtain⟨qD,qE,dS,⟨NA,nc,kA,_⟩,fy⟩:=cN i h hx;have sK:h.kids.length≤20000:=(hr.dy.small h (aM hx)).1;have fR:h.kids.length=rest.length:=by rw[hk,cD]
 have hr1:1≤rest.length:=vG.2 Bi;obtain⟨KA,kc,jw,rT,j9⟩:=id fy;subst kA jw;obtain⟨sb,so,rfl⟩ :∃sb so,KA=some ⟨sb,so,none⟩:=by
  rcases j9 with h0 | ⟨sb,so,h1,_⟩
  ·rw[h0] at fR;simp at fR;omega
  ·exact⟨sb,so,h1⟩
 obtain⟨x0,x1,x2,x3,x4,x5,x6⟩:=dS;have yx:i<T.length:=(aK.1 hx).1;have qF:=hr.dy.few;have hbl:b<w.heap.size:=by obtain⟨_,_,hw⟩:=hr.rs;exact hw.gK.1
 have d0:w.cell? ⟨b,0,none⟩=some (.slice (some ⟨bk,o,none⟩) T.length c):=by obtain⟨_,_,hw⟩:=hr.rs;exact ab hw.blk 0
 have iK:bk<w.heap.size:=by omega
 have HD:=aa (gE h.kind h.line h.op h.num h.s NA (some ⟨sb,so,none⟩) h.names.length nc h.kids.length kc);have Bj:gB w B (.slice (some ⟨sb,so,none⟩) h.kids.length kc) (rest.map fun k=>(k.loc:Int)):=by
  rw[←hk];exact fy
 have HR:=aa hr;have QX:=aa qS;have HV2:=aa hV2;have OM:=aa Bj;have Tl:=aa hd;have HK:=aa hk;have mY:=aa hr1;have qm:=aa hsz;have HX:=aa hx;have sr:=aa fR;have HL:=aa hl;have Y9:=aa CN;clear CN hr1 fR hr hl fy Bj hd cN hk qS hV2 j9 hsz hx Bi;go_enter Tryz.func55,Tryz.ntmps55
 go_wp2_with fail
 refine(HD.out _ (by omega)).mono ?_
 rw[Tl.out];rintro e w1 ⟨rfl,hb1⟩;have dU:=aa hb1;clear hb1;go_wp2_with fail
 have yC:=lk rfl dU.out (.bool true) (.int .i64 0) (.bool true);have qz:=aa yC.2;have oF:=aa yC.1;clear yC;clear d0 x0 x1 x2 x3 x4 x5 x6;generalize w1.alloc (.cells #[.bool true,.int .i64 0,.bool true] 189)=W2 at qz oF ⊢;generalize w1.heap.size=q at qz ⊢;generalize w.heap.size+1=p at qz ⊢;obtain⟨k0,k1,k2,k3,k4,k5,k6,k7,k8⟩:=qz.out.cells;go_still_tail 7,(by kernel_rfl)
 change wpList _ _ _ _ _ W2.drew;have D2:=aa (show Below W2.heap.size W2 W2.drew from(Below.refl _ _).drew)
 generalize W2.drew=W3 at D2 ⊢;go_wp2_with fail
 refine(all_nil b f loop pa la (some ⟨sb,so,none⟩) L.length lc kc W3).mono ?_;rintro e w4 ⟨rfl,hb4⟩;have BX:=D2.out.trans (hb4.mono D2.out.size);have wh:=oF.out.trans (BX.mono oF.out.size);have P5:=aa (qz.out.later BX);have OI:Hid (cW B ob (.slice la L.length lc) L.length (eB L) w w4):=aa (cW.bP wh cB);have hz:=HR.out.dp wh;have HZ:=aa hz;have Zf:=aa (DB loop hz);have acP:=wh.size;clear hb4 BX wh hz k0 k1 k2 k3 k4 k5 k6 k7 k8;obtain⟨k0,k1,k2,k3,k4,k5,k6,k7,k8⟩:=P5.out.cells;go_wp2_with fail
 refine Zf.out.mono ?_;rintro e w6 ⟨g,c6,m,rfl,Oc,hm,hg,PK⟩;have P6:=aa (P5.out.jh PK);have y0:=aw P6.out.pos 0;have y1:=aw P6.out.pos 1;have y2:=aw P6.out.pos 2;have y3:=aw P6.out.pos 3;have HR6:=aa Oc;have HM:=aa hm;have HG:=aa hg;have Od:=aa PK;clear Oc hm hg PK k0 k1 k2 k3 k4 k5 k6 k7 k8;obtain⟨k0,k1,k2,k3,k4,k5,k6,k7,k8⟩:=P6.out.cells;obtain⟨W7,vz⟩ :∃W7,W7=four w6 w.heap.size (.int .i64 (f:Int)) (.int .i64 loop) (.pointer pa) (.slice (some ⟨g,0,none⟩) (L.length+1) c6):=⟨_,rfl⟩;have P7:Hid (eX w W7 p q f loop pa (.slice (some ⟨g,0,none⟩) (L.length+1) c6) (.slice (some ⟨sb,so,none⟩) h.kids.length kc) (.slice NA h.names.length nc) (.bool true) (.int .i64 0) (.bool true)):=aa (by rw[vz];exact P6.out.four _ _ _)
 have kn:vi w6 w.heap.size 92:=⟨_,_,P6.out.pos⟩;have F7:Hid (Fr [92] w6 W7):=aa (by rw[vz];exact uY kn _ _ _ _)
 have B7:Hid (Below B w6 W7):=aa (by rw[vz];exact pj w6 cB _ _ _ _)
 have K7:Hid (∀k,k≠w.heap.size→W7.heap[k]? = w6.heap[k]?):=aa (by rw[vz];exact fun k hk=>nB w6 _ _ _ _ _ k hk)
 unfold four at vz;have HW7:=aa vz;clear vz kn;have YS:p≠w.heap.size:=by have:=P5.out.pne;omega
 have hqn:q≠w.heap.size:=by have:=P5.out.qne;omega
 go_wp2_with fail
 rw[←HW7.out];have HZ0:=HZ.out;have hlt :∀l∈L,l.blk≠m:=fun l hl=>by have:=HZ.out.levels l hl;have:=HM.out;omega
 have Bk:=HR6.out.Tm F7.out B7.out;have UQ:cW B ob (.slice la L.length lc) L.length (eB L) w W7:=(OI.out.trans (Od.out.E5 _)).past B7.out fun k hk=>K7.out k (by omega)
 have hLV:dk W7 B (.slice la L.length lc) L:=((HZ.out.pos.fu).jh Od.out (ah _)).fr F7.out (by decide)
 have UW:(Value.slice la L.length lc).ownBlock=some g∨w.heap.size≤g:=HG.out.imp id fun h=>by omega
 have UX:w.heap.size≤m:=by have:=HM.out;omega
 have To:=aa Bk;have Yj:=aa UQ;have UY:=aa hLV;have HOW:=aa UW;have UZ:=aa UX;have mu:=aa hlt;have hdec:Calls Tryz.prog 113 #[.pointer (some ⟨b,0,none⟩),.int .i64 (i:Int),.agg #[.int .i64 (f:Int),.int .i64 loop,.pointer pa,.slice (some ⟨g,0,none⟩) (L.length+1) c6]] W7 (aq B b (.slice (some ⟨bk,o,none⟩) T.length c) T.length ub ob (.slice (some ⟨g,0,none⟩) (L.length+1) c6) (⟨f,m,[]⟩::L) st (bo i f h.line h.names st) W7) :=
  j7 b i f h loop pa (some ⟨g,0,none⟩) c6 ⟨f,m,[]⟩ L st W7 Bk.dy Bk.rs HX.out Bk.lt Bk.pos.fu rfl (by have:=Bk.fu;omega) Bk.few (by simp) qm.out
 clear Bk UQ hLV UW UX hlt HZ0 k0 k1 k2 k3 k4 k5 k6 k7 k8 y0 y1 y2 y3;refine hdec.mono ?_;intro e w8 hp;clear hdec;cases jM:bo i f h.line h.names st with
 | error y =>
  rw[jM] at hp;have HP:=aa hp;obtain⟨_,v,rfl,g2,rfl,_⟩:=hp;have HE:Hid ((((bo i f h.line h.names st).bind fun s2=>aE rest f s2).map fun s=>s.back st)=.error y):=aa (by  rw[jM];rfl)
  clear jM;go_wp2_with fail
  go_ret
  rw[HE.out];exact(aq.inner (st:=st) Yj.out UY.out mu.out HOW.out UZ.out HP.out)
 | ok s2 =>
  rw[jM] at hp;have uX:=uJ jM;obtain⟨rfl,x,hx1,hx2,Tp,Tq⟩:=DA.step (a1:=h.names.length) (s1:=0) (by rw[iY];exact To.out) (jI jM To.out.few) (Y9.out s2 jM) uX hp
  have P9:=aa (P7.out.jh Tq);have HC:Hid (∀W,Below w8.heap.size w8 W→Calls Tryz.prog 111 #[.pointer (some ⟨b,0,none⟩),.slice (some ⟨sb,so,none⟩) h.kids.length kc,.agg #[.int .i64 (f:Int),.int .i64 loop,.pointer pa,.slice (some ⟨g,0,none⟩) (L.length+1) c6]] W (aq B b (.slice (some ⟨bk,o,none⟩) T.length c) T.length ub ob (.slice (some ⟨g,0,none⟩) (L.length+1) c6) (grow x (⟨f,m,[]⟩::L)) s2 (aE rest f s2) w8)):=aa fun W hW =>
   (Dx f loop pa (some ⟨g,0,none⟩) c6 ms (⟨f,m,[]⟩::L) x s2 W (.slice (some ⟨sb,so,none⟩) h.kids.length kc) rest (Tp.dp hW) QX.out HV2.out (OM.out.below ((Yj.out.below.trans Tq.below).trans (hW.mono Tp.world))) (fun k hk mc=>(HL.out k hk mc).trans (s8 uX).symm) (fun k _=>.inl (by simp)) (by have:=sr.out;omega)).mono fun e w' h=>h.from hW Tp.world
  have XL:=aa Tq;have OG:=aa hx1;have HE:Hid ((((bo i f h.line h.names st).bind fun s2=>aE rest f s2).map fun s=>s.back st)=(aE rest f s2).map fun s=>s.back st):=aa (by  rw[jM];rfl)
  clear hp Tp Tq uX hx1 hx2 jM;obtain⟨k0,k1,k2,k3,k4,k5,k6,k7,k8⟩:=P9.out.cells;go_wp2_with fail
  go_still_tail 7,(by kernel_rfl)
  change wpList _ _ _ _ _ w8.drew;have UT:=aa (HC.out w8.drew (Below.refl _ _).drew);generalize w8.drew=W9 at UT ⊢;go_wp2_with fail
  refine UT.out.mono ?_;intro e w10 hp;obtain⟨v,rfl⟩:=hp.ret;have HP:=aa hp;clear hp;go_wp2_with fail
  go_ret
  rw[HE.out];exact(aq.inner (st:=st) Yj.out UY.out mu.out HOW.out UZ.out (aq.trans (L:=⟨f,m,[]⟩::L) (st1:=s2) (x:=x) XL.out.below XL.out OG.out (fun e=>by cases e) HP.out))
end Go.Proofs.YteflkdlaoiijbaaGreatDoor
