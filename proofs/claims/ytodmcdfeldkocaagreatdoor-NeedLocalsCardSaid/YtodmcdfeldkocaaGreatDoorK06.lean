/- Parts of the proof. -/
import Derived.Test.YtodmcdfeldkocaaGreatDoorK05
set_option maxHeartbeats 16000000
set_option maxRecDepth 20000
namespace Go.Proofs.YtodmcdfeldkocaaGreatDoor
open Go.RowKit
theorem yX.levels {T:List Nd} {B b:Nat} {nv:Value} {ub ob f:Nat} {pa:Option Addr} {lv:Value} {ms:List Nat} {L:List cO} {st:aI} {w:World} {a s:Nat} (h:yX T B b nv ub ob f pa lv ms L st w a s) :∀l∈L,l.blk<w.heap.size:=fun l hl=>(h.pos.fw.maps l hl).1.lt
theorem aq.Sw {B b:Nat} {nv:Value} {N ub ob:Nat} {lv:Value} {L:List cO} {st s1:aI} {r:Rs aI} {w w2:World} {e:Ending} (h:aq B b nv N ub ob lv L st (r.map fun s=>s.back st) w e w2) (hn:s1.names=st.names):aq B b nv N ub ob lv L st (r.map fun s=>s.back s1) w e w2:=by
 refine h.same rfl ?_;cases r with
 | error y=>rfl
 | ok s=>exact⟨rfl,rfl,rfl,hn⟩
theorem Bl {T:List Nd} {B b:Nat} {nv:Value} {ub ob:Nat} (i f:Nat) (h:Nd) (vals rest:List Lt) (loop:Int) (pa la:Option Addr) (lc:Nat) (ms:List Nat) (L:List cO) (st:aI) (w:World) (hr:eU T B b nv ub ob f pa (.slice la L.length lc) ms L st w (Lt.fu vals+(h.names.length+Lt.fu rest)) (Lt.al vals+(Lt.al rest+1))) (hx:T[i]? = some h) (hk:h.kids=(vals.map fun k=>(k.loc:Int))++rest.map fun k=>(k.loc:Int)) (Bm:rest≠[]) (hn:fE T vals) (vd:fE T rest) (hV :∀k∈vals,bA T B b nv ub ob k) (hV2 :∀k∈rest,bA T B b nv ub ob k)
  (hl :∀k∈vals,k.hd.kind<18) (hst :∀k∈vals,Still k) (hL:L≠[]) (hsz :∀s∈h.names,s.size≤65536) (VZ:loop=(i:Int)) (hd:gE h.kind h.kids.length=(true,(vals.length:Int),true)) :
  Calls Tryz.prog 35 #[.pointer (some ⟨b,0,none⟩),.int .i64 (i:Int),.agg #[.int .i64 (f:Int),.int .i64 loop,.pointer pa,.slice la L.length lc]] w (aq B b nv T.length ub ob (.slice la L.length lc) L st ((aG vals f st).bind fun s1=>((bz i f h.line h.names (du i f s1)).bind fun s2=>aG rest f s2).map fun s=>s.back s1) w):=by
 obtain⟨bk,o,c,rfl,dH,ca,dJ⟩:=hr.fA.nodes;obtain⟨u7,u9,eL,⟨NA,nc,wg,_⟩,eW⟩:=dJ i h hx;have rS:h.kids.length≤20000:=(hr.fA.small h (aV hx)).1;have oW:h.kids.length=vals.length+rest.length:=by rw[hk,cb,bS,bS]
 have hr1:1≤rest.length:=wV.2 Bm;obtain⟨KA,kc,rz,uC,IC⟩:=id eW;subst wg rz;obtain⟨sb,so,rfl⟩ :∃sb so,KA=some ⟨sb,so,none⟩:=by
  rcases IC with h0 | ⟨sb,so,h1,_⟩
  ·rw[h0] at oW;simp at oW;omega
  ·exact⟨sb,so,h1⟩
 obtain⟨x0,x1,x2,x3,x4,x5,x6⟩:=eL;have wC:i<T.length:=(aJ.1 hx).1;have pU:=hr.fA.few;have hbl:b<w.heap.size:=by obtain⟨_,_,hw⟩:=hr.rs;exact hw.mN.1
 have d0:w.cell? ⟨b,0,none⟩=some (.slice (some ⟨bk,o,none⟩) T.length c):=by obtain⟨_,_,hw⟩:=hr.rs;exact ab hw.blk 0
 have gP:bk<w.heap.size:=by omega
 have HD:=aa (gF h.kind h.line h.op h.num h.s NA (some ⟨sb,so,none⟩) h.names.length nc h.kids.length kc);have V6:gC w B (.slice (some ⟨sb,so,none⟩) vals.length kc) (vals.map fun k=>(k.loc:Int)):=by
  rw[hk] at eW;have:=eW.first
  rwa[bS] at this
 have Bn:gC w B (.slice (some ⟨sb,so+vals.length,none⟩) rest.length (kc-vals.length)) (rest.map fun k=>(k.loc:Int)):=by
  rw[hk] at eW;have:=eW.last;rwa[bS,bS] at this
 have tt:Hid (∀W,Below w.heap.size w W→Calls Tryz.prog 73 #[.pointer (some ⟨b,0,none⟩),.slice (some ⟨sb,so,none⟩) vals.length kc,.agg #[.int .i64 (f:Int),.int .i64 loop,.pointer pa,.slice la L.length lc]] W (aq B b (.slice (some ⟨bk,o,none⟩) T.length c) T.length ub ob (.slice la L.length lc) L st (aG vals f st) W)):=aa fun W hW =>
  qD f loop pa la lc ms L st W (.slice (some ⟨sb,so,none⟩) vals.length kc) vals ((hr.dt hW).mono (gr _ _) (gr _ _)) hn hV (V6.below (hW.mono ca)).keeps (fun k hk kJ=>by have:=hl k hk;omega) (fun k _=>.inl hL) (by omega)
 have HR:=aa hr;have HN:=aa hn;have Sx:=aa vd;have HV2:=aa hV2;have HST:=aa hst;have Na:=aa Bn;have Su:=aa hd;have HLI:=aa VZ;have HK:=aa hk;have hvl:vals.length≤kc:=by omega
 have Rp:vals.length≤h.kids.length:=by omega
 have np:=aa hr1;have HL:=aa hL;have qo:=aa hsz;have HX:=aa hx;have qG:=aa oW;have HRL:Hid (h.kids.length-vals.length=rest.length):=aa (by omega)
 have hv2:vals.length≤20000:=by omega
 clear hr1 oW hr hn hV hl eW V6 Bn hd dJ hk vd hV2 hst IC VZ hL hsz hx Bm;go_enter Tryz.func35,Tryz.ntmps35
 go_wp2_with fail
 refine(HD.out _ (by omega)).mono ?_
 rw[Su.out];rintro e w1 ⟨rfl,hb1⟩;have dU:=aa hb1;clear hb1;go_wp2_with fail
 have yW:=ld rfl dU.out (.bool true) (.int .i64 (vals.length:Int)) (.bool true);have qE:=aa yW.2;have oX:=aa yW.1;clear yW;clear d0 x0 x1 x2 x3 x4 x5 x6;generalize w1.alloc (.cells #[.bool true,.int .i64 (vals.length:Int),.bool true] 144)=W2 at qE oX ⊢;generalize w1.heap.size=q at qE ⊢;generalize w.heap.size+1=p at qE ⊢;obtain⟨k0,k1,k2,k3,k4,k5,k6,k7,k8⟩:=qE.out.cells;go_still_tail 7,(by kernel_rfl)
 change wpList _ _ _ _ _ W2.drew;have D2:=aa (show Below W2.heap.size W2 W2.drew from(Below.refl _ _).drew)
 generalize W2.drew=W3 at D2 ⊢;go_wp2_with fail
 have iL:=aa (oX.out.trans (D2.out.mono oX.out.size));refine(tt.out W3 iL.out).mono ?_;intro e w4 hp;cases oZ:aG vals f st with
 | error y =>
  rw[oZ] at hp;obtain⟨hb,v,rfl,g2,rfl,h2⟩:=hp;have H2:=aa h2;have HB:=aa hb;have HE:Hid (((aG vals f st).bind fun s1=>((bz i f h.line h.names (du i f s1)).bind fun s2=>aG rest f s2).map fun s=>s.back s1)=.error y):=aa (by rw[oZ];rfl)
  clear h2 hb oZ;go_wp2_with fail
  go_ret
  rw[HE.out];exact⟨(iL.out.mono ca).trans HB.out,_,rfl,_,rfl,H2.out⟩
 | ok s1 =>
  rw[oZ] at hp;have hr4:=HR.out.dt iL.out;have hst:=(fZ vals oZ HN.out.nodup hr4.cx HN.out.wf).1;have Lf:=qn vals HN.out.quiet HST.out oZ;obtain⟨rfl,x,hx1,hx2,wE,DH⟩:=eU.step (a1:=Lt.fu vals) (s1:=Lt.al vals) hr4 (iJ vals oZ hr4.few) (hst.cx hr4.cx) (kU vals oZ) hp;rw[Lf] at hx1;have hx0:=Yj hx1;subst hx0;rw[jF] at wE;have P5:=aa ((qE.out.later D2.out).jk DH);have HB5:=aa ((iL.out.mono ca).trans DH.below);have M5:Hid (cQ B ob (.slice la L.length lc) L.length (ep L) w w4):=aa ((cQ.bJ iL.out ca).trans DH);have M4:=aa (wE.oe i);have hz:=(wE.oe i).zero;have HZ:=aa hz;have HOP:=aa (xG loop hz);have HNM:=aa Lf;have Re:=aa oZ;have hsz5:=DH.below.size;have acJ:=iL.out.size;clear hp hr4 wE DH hst hx1 hx2 oZ hz Lf k0 k1 k2 k3 k4 k5 k6 k7 k8;obtain⟨k0,k1,k2,k3,k4,k5,k6,k7,k8⟩:=P5.out.cells;go_wp2_with fail
  refine HOP.out.mono ?_;rintro e w6 ⟨g,c6,m,rfl,Mg,hm,hg,Rc⟩;have P6:=aa (P5.out.jk Rc);have y0:=aE P6.out.pos 0;have y1:=aE P6.out.pos 1;have y2:=aE P6.out.pos 2;have y3:=aE P6.out.pos 3;have HR6:=aa Mg;have HM:=aa hm;have HG:=aa hg;have Mi:=aa Rc;clear Mg hm hg Rc k0 k1 k2 k3 k4 k5 k6 k7 k8;obtain⟨k0,k1,k2,k3,k4,k5,k6,k7,k8⟩:=P6.out.cells;obtain⟨W7,DI⟩ :∃W7,W7=four w6 w.heap.size (.int .i64 (f:Int)) (.int .i64 loop) (.pointer pa) (.slice (some ⟨g,0,none⟩) (L.length+1) c6):=⟨_,rfl⟩;have P7:Hid (eV w W7 p q f loop pa (.slice (some ⟨g,0,none⟩) (L.length+1) c6) (.slice (some ⟨sb,so,none⟩) h.kids.length kc) (.slice NA h.names.length nc) (.bool true) (.int .i64 (vals.length:Int)) (.bool true)):=aa (by rw[DI];exact P6.out.four _ _ _)
  have kn:wc w6 w.heap.size 69:=⟨_,_,P6.out.pos⟩;have F7:Hid (Fr [69] w6 W7):=aa (by rw[DI];exact vn kn _ _ _ _)
  have B7:Hid (Below B w6 W7):=aa (by rw[DI];exact pD w6 ca _ _ _ _)
  have K7:Hid (∀k,k≠w.heap.size→W7.heap[k]? = w6.heap[k]?):=aa (by rw[DI];exact fun k hk=>nm w6 _ _ _ _ _ k hk)
  unfold four at DI;have HW7:=aa DI;clear DI kn;have hpn:p≠w.heap.size:=by have:=P5.out.pne;omega
  have hqn:q≠w.heap.size:=by have:=P5.out.qne;omega
  go_wp2_with fail
  rw[←HW7.out];have HZ0:=HZ.out;have hlt :∀l∈L,l.blk≠m:=fun l hl=>by have:=HZ.out.levels l hl;have:=HM.out;omega
  have Bo:=HR6.out.Sv F7.out B7.out;have VO:cQ B ob (.slice la L.length lc) L.length (ep L) w W7:=(M5.out.trans (Mi.out.Fo _)).past B7.out fun k hk=>K7.out k (by omega)
  have hLV:dc W7 B (.slice la L.length lc) L:=((HZ.out.pos.fw).jk Mi.out (ag _)).fr F7.out (by decide)
  have V7:(Value.slice la L.length lc).ownBlock=some g∨w.heap.size≤g:=HG.out.imp id fun h=>by omega
  have V8:w.heap.size≤m:=by have:=HM.out;omega
  have Nb:=aa Bo;have Yk:=aa VO;have V9:=aa hLV;have HOW:=aa V7;have Wb:=aa V8;have iM:=aa hlt;have hdec:Calls Tryz.prog 75 #[.pointer (some ⟨b,0,none⟩),.int .i64 (i:Int),.agg #[.int .i64 (f:Int),.int .i64 loop,.pointer pa,.slice (some ⟨g,0,none⟩) (L.length+1) c6]] W7 (aq B b (.slice (some ⟨bk,o,none⟩) T.length c) T.length ub ob (.slice (some ⟨g,0,none⟩) (L.length+1) c6) (⟨f,m,[]⟩::L) (du i f s1) (bz i f h.line h.names (du i f s1)) W7) :=
   j7 b i f h loop pa (some ⟨g,0,none⟩) c6 ⟨f,m,[]⟩ L (du i f s1) W7 Bo.fA Bo.rs HX.out Bo.cx.lt Bo.pos.fw rfl (by have:=Bo.fw;omega) Bo.few (by simp) qo.out
  clear Bo VO hLV V7 V8 hlt HZ0 k0 k1 k2 k3 k4 k5 k6 k7 k8 y0 y1 y2 y3;refine hdec.mono ?_;intro e w8 hp;clear hdec;cases jH:bz i f h.line h.names (du i f s1) with
  | error y =>
   rw[jH] at hp;have HP:=aa hp;obtain⟨_,v,rfl,g2,rfl,_⟩:=hp;have HE:Hid (((aG vals f st).bind fun s1=>((bz i f h.line h.names (du i f s1)).bind fun s2=>aG rest f s2).map fun s=>s.back s1)=.error y):=aa (by rw[Re.out];show Except.map _ (Except.bind _ _)=_;rw[jH];rfl)
   clear jH;go_wp2_with fail
   go_ret
   rw[HE.out];exact(aq.inner (st:=st) Yk.out V9.out iM.out HOW.out Wb.out HP.out).same rfl rfl
  | ok s2 =>
   rw[jH] at hp;obtain⟨M8,vm,_⟩:=mX jH Nb.out.cx;obtain⟨rfl,x,hx1,hx2,Sy,Sz⟩:=eU.step (a1:=h.names.length) (s1:=0) (by rw[jg];exact Nb.out) (jD jH Nb.out.few) (M8.cx Nb.out.cx) vm hp
   have P9:=aa (P7.out.jk Sz);have HC:Hid (∀W,Below w8.heap.size w8 W→Calls Tryz.prog 73 #[.pointer (some ⟨b,0,none⟩),.slice (some ⟨sb,so+vals.length,none⟩) rest.length (kc-vals.length),.agg #[.int .i64 (f:Int),.int .i64 loop,.pointer pa,.slice (some ⟨g,0,none⟩) (L.length+1) c6]] W (aq B b (.slice (some ⟨bk,o,none⟩) T.length c) T.length ub ob (.slice (some ⟨g,0,none⟩) (L.length+1) c6) (grow x (⟨f,m,[]⟩::L)) s2 (aG rest f s2) w8)):=aa fun W hW =>
    (DG f loop pa (some ⟨g,0,none⟩) c6 ms (⟨f,m,[]⟩::L) x s2 W (.slice (some ⟨sb,so+vals.length,none⟩) rest.length (kc-vals.length)) rest (Sy.dt hW) Sx.out HV2.out (Na.out.below ((Yk.out.below.trans Sz.below).trans (hW.mono Sy.world))) (fun k hk kJ=>by rw[tU vm,HLI.out];exact(uX f i _).symm) (fun k _=>.inl (by simp)) (by have:=qG.out;omega)).mono fun e w' h=>h.from hW Sy.world
   have XC:=aa Sz;have MY:=aa hx1;have HE:Hid (((aG vals f st).bind fun s1=>((bz i f h.line h.names (du i f s1)).bind fun s2=>aG rest f s2).map fun s=>s.back s1)=(aG rest f s2).map fun s=>s.back s1):=aa (by rw[Re.out];show Except.map _ (Except.bind _ _)=_;rw[jH];rfl)
   clear hp Sy Sz M8 vm hx1 hx2 jH;obtain⟨k0,k1,k2,k3,k4,k5,k6,k7,k8⟩:=P9.out.cells;go_wp2_with fail
   have Rf:vals.length<kc:=by have:=np.out;have:=qG.out;omega
   go_still_tail 7,(by kernel_rfl)
   change wpList _ _ _ _ _ w8.drew;have VY:=aa (HC.out w8.drew (Below.refl _ _).drew);generalize w8.drew=W9 at VY ⊢;go_wp2_with fail
   rw[HRL.out];refine VY.out.mono ?_;intro e w10 hp;obtain⟨v,rfl⟩:=hp.ret;have HP:=aa hp;clear hp;go_wp2_with fail
   go_ret
   rw[HE.out];exact(aq.inner (st:=st) Yk.out V9.out iM.out HOW.out Wb.out (aq.trans (L:=⟨f,m,[]⟩::L) (st1:=s2) (x:=x) XC.out.below XC.out MY.out (fun e=>by cases e) HP.out)).Sw HNM.out
end Go.Proofs.YtodmcdfeldkocaaGreatDoor
namespace Go.Proofs.YtodmcdfeldkocaaGreatDoor
open Go.RowKit
def wF (i f:Nat) (rep:Bool) (ks tests:List Lt) (st:aI):Rs aI:=(gV i f rep ks (st.setOf i f)).bind fun s1=>(cW ks 0 f s1).bind fun s2=>aG tests f s2
theorem bY.but {W W':World} {B kb:Nat} (h2 :∀k,k≠kb→k<W.heap.size→W'.heap[k]? = W.heap[k]?) :∀{fs:List (Nat×Nat×(ByteArray→Option Value))} {ms:List Nat} {p:Option Addr},bY W B fs ms (.pointer p)→(∀a,p=some a→a.block<kb)→(∀m∈ms,m≠kb)→bY W' B fs ms (.pointer p)
 | [],_,_,h,_,_=>h
 | x::fs,ms,p,h,hp,hm=>by
  obtain⟨k',p',m,CT,e,rfl,h1,h3,h4,h5,h6,h7⟩:=h;injection e with e;have hk:=hp _ e;replace hk:k' < kb:=hk;exact⟨k',p',m,CT,by rw[e],rfl,h1,(h2 k' (by omega) (aM.1 h3).1).trans h3,h4.same (h2 m (hm m (bH ..)) h4.lt),h5,h6,bY.but h2 h7 (fun a ha=>Nat.lt_trans (h6 a ha) hk) fun x hx=>hm x (bQ _ hx)⟩
theorem bY.first {W:World} {B:Nat} {fs:List (Nat×Nat×(ByteArray→Option Value))} {ms:List Nat} {p:Option Addr} (h:bY W B fs ms (.pointer p)) :∀a,p=some a→a.block<W.heap.size:=by
 intro a ha;cases fs with
 | nil=>rw[ha] at h;cases h.2
 | cons x fs =>
  obtain⟨k',_,_,_,e,_,_,h3,_⟩:=h;injection e with e;rw[ha] at e;injection e with e;rw[e];exact(aM.1 h3).1
section
variable {T:List Nd} {B b:Nat} {nv:Value} {ub ob f kb mb i n:Nat} {rep:Bool} {ks:List Lt} {pa:Option Addr} {lv:Value} {ms:List Nat} {L:List cO} {st:aI} {w w':World} {a s:Nat}
theorem eU.Bp (h:eU T B b nv ub ob f pa lv ms L st w a s) (hk:w.heap[kb]? = some (.cells #[.pointer pa,.map (some mb),.int .i64 (gO ks (n+1):Int)] 150 (0,0))) (hm:dK Tryz.prog 9 w mb ks.length (fD ks rep ks.length)) (hBk:B≤kb) (hBm:B≤mb) (Sb :∀a,pa=some a→a.block<kb) (hap :∀l∈L,mb≠l.blk) :
  eU T B b nv ub ob f (some ⟨kb,0,none⟩) lv (mb::ms) L { st with frames:=⟨f,i,n,false,rep,ks⟩::st.frames} w a s:=by
 refine⟨h.fA,?_,⟨h.pos.fw,?_,h.pos.names,fun m hm l hl=>?_⟩,h.hd,⟨h.cx.ok,h.cx.lt,h.cx.names⟩,h.few,fun x hx=>?_,h.names,h.fns,h.fw⟩
 ·obtain⟨fv,FL,hw⟩:=h.rs
  exact⟨fv,FL,hw.on rfl rfl rfl⟩
 ·show oU w B (dC f (⟨f,i,n,false,rep,ks⟩::st.frames)) (mb::ms) _
  rw[uT (f:=f) (x:=⟨f,i,n,false,rep,ks⟩) rfl rfl];exact⟨kb,pa,mb,ms,rfl,rfl,hBk,hk,hm,hBm,Sb,h.pos.blk⟩
 ·rcases ba.1 hm with rfl|hm
  ·exact hap l hl
  ·exact h.pos.apart m hm l hl
 ·rcases ba.1 hx with rfl|hx
  ·exact h.cx.lt
  ·exact h.fr x hx
theorem eU.SB {Nc:List fC} {v:Value} (h:eU T B b nv ub ob f (some ⟨kb,0,none⟩) lv (mb::ms) L st w a s) (hf:st.frames=⟨f,i,n,false,rep,ks⟩::Nc) (hk:w.heap[kb]? = some (.cells #[.pointer pa,.map (some mb),v] 150 (0,0))) :
  eU T B b nv ub ob f pa lv ms L { st with frames:=Nc} w a s∧dK Tryz.prog 9 w mb ks.length (fD ks rep ks.length):=by
 have hb:oU w B (dC f st.frames) (mb::ms) (.pointer (some ⟨kb,0,none⟩)):=h.pos.blk;rw[hf,uT (f:=f) (x:=⟨f,i,n,false,rep,ks⟩) rfl rfl] at hb;obtain⟨k',p',m,CT,e,e2,h1,h3,h4,h5,h6,h7⟩:=hb;injection e with e;injection e with e;injection e with e;subst e;injection e2 with e2 e3;subst e2 e3;rw[hk] at h3;injection h3 with h3;injection h3 with h3;have h8:[Value.pointer pa,.map (some mb),v]=[.pointer p',.map (some mb),.int .i64 (gO ks (n+1):Int)]:=az Array.toList h3;injection h8 with h8 _;injection h8 with h8;subst h8;refine⟨⟨h.fA,?_,⟨h.pos.fw,h7,h.pos.names,fun m hm l hl=>h.pos.apart m (bQ _ hm) l hl⟩,h.hd,⟨h.cx.ok,h.cx.lt,h.cx.names⟩,h.few,fun x hx=>h.fr x (by rw[hf];exact bQ _ hx),h.names,h.fns,h.fw⟩,h4⟩
 obtain⟨fv,FL,hw⟩:=h.rs;exact⟨fv,FL,hw.on rfl rfl rfl⟩
theorem eU.but (h:eU T B b nv ub ob f pa lv ms L st w a s) (k:Fr [150] w w') (hb:Below B w w') (h2 :∀j,j≠kb→j<w.heap.size→w'.heap[j]? = w.heap[j]?) (Sb :∀a,pa=some a→a.block<kb) (hm :∀m∈ms,m≠kb):eU T B b nv ub ob f pa lv ms L st w' a s:=by
 refine⟨h.fA.below hb,?_,⟨h.pos.fw.fr k (by decide),bY.but h2 h.pos.blk Sb hm,h.pos.names,h.pos.apart⟩,h.hd,h.cx,h.few,h.fr,h.names,h.fns,h.fw⟩
 obtain⟨fv,FL,hw⟩:=h.rs;exact⟨fv,FL,hw.fr k (by decide)⟩
theorem eU.grown (h:eU T B b nv ub ob f pa lv ms L st w a s) (hg:w.grownBy w' (some mb)) (hm :∃es c,w.heap[mb]? = some (.map es c)) (hB:B≤mb) (h1:mb∉ms) (h2 :∀l∈L,mb≠l.blk):eU T B b nv ub ob f pa lv ms L st w' a s:=by
 have ca:=h.world;refine⟨h.fA.below (j8 hg hB ca),?_,⟨⟨hJ (eT hg hm) h.pos.fw.row,fun l hl=>⟨(h.pos.fw.maps l hl).1.same (hg.block _ (h.pos.fw.maps l hl).1.lt fun e=>h2 l hl (by injection e with e;exact e.symm)),(h.pos.fw.maps l hl).2⟩,h.pos.fw.own,h.pos.fw.apart⟩,bY.grown hg hm h.pos.blk h1,h.pos.names,h.pos.apart⟩,h.hd,h.cx,h.few,h.fr,h.names,h.fns,h.fw⟩
 obtain⟨fv,FL,hw⟩:=h.rs;exact⟨fv,FL,hw.keep (eT hg hm)⟩
theorem dc.grown (h:dc w B lv L) (hg:w.grownBy w' (some mb)) (hm :∃es c,w.heap[mb]? = some (.map es c)) (h2 :∀l∈L,mb≠l.blk):dc w' B lv L :=
 ⟨hJ (eT hg hm) h.row,fun l hl=>⟨(h.maps l hl).1.same (hg.block _ (h.maps l hl).1.lt fun e=>h2 l hl (by injection e with e;exact e.symm)),(h.maps l hl).2⟩,h.own,h.apart⟩
end
theorem qy.inner {B ob g c m n:Nat} {lv kv:Value} {top:Option Nat} {w w1:World} {xs:List Int} (h:qy B ob lv n top w kv xs) (h1:cQ B ob lv n top w w1) (hg:lv.ownBlock=some g∨w.heap.size≤g) (hm:w.heap.size≤m):qy B ob (.slice (some ⟨g,0,none⟩) (n+1) c) (n+1) (some m) w1 kv xs:=by
 obtain⟨A,c',e,hc,h2⟩:=h;refine⟨A,c',e,hc,h2.imp id ?_⟩;rintro⟨bk,o,e2,hx⟩;exact⟨bk,o,e2,fun w' hf=>hx w' (h1.inner hg hm hf)⟩
theorem Bq {i f:Nat} {rep:Bool} {ks:List Lt} {st:aI}:gV i f rep ks st=match cJ st.frames f ks 0 ks with|some l=>.error (9,l)|none=>.ok { st with frames:=⟨f,i,0,false,rep,ks⟩::st.frames}:=rfl
end Go.Proofs.YtodmcdfeldkocaaGreatDoor
namespace Go.Proofs.YtodmcdfeldkocaaGreatDoor
open Go.RowKit
structure BI (T:List Nd) (B b:Nat) (nv:Value) (ub ob f i mb g c6 m:Nat) (rep:Bool) (ks tests:List Lt) (pa:Option Addr) (lv:Value) (ms:List Nat) (L:List cO) (Nc:List fC) (loop:Int) (w:World) (n:Nat) (x:List jr) (s1:aI) (wr:World):Prop where
 rd:eU T B b nv ub ob f pa (.slice (some ⟨g,0,none⟩) (L.length+1) c6) ms (grow x (⟨f,m,[]⟩::L)) { s1 with frames:=Nc} wr (Lt.fu (ks.drop n)+Lt.fu tests) (Lt.al (ks.drop n)+Lt.al tests)
 frames:s1.frames=⟨f,i,n-1,false,rep,ks⟩::Nc
 kb:wr.heap[mb+1]? = some (.cells #[.pointer pa,.map (some mb),.int .i64 (gO ks n:Int)] 150 (0,0))
 mp:dK Tryz.prog 9 wr mb ks.length (fD ks rep ks.length)
 box:wr.heap[w.heap.size]? = some (.cells #[.int .i64 (f:Int),.int .i64 loop,.pointer (some ⟨mb+1,0,none⟩),.slice (some ⟨g,0,none⟩) (L.length+1) c6] 69 (0,0))
 jk:cQ B ob lv L.length (ep L) w wr
 fw:dc wr B lv L
structure BS (B mb g m:Nat) (pa:Option Addr) (lv:Value) (ms:List Nat) (L:List cO) (w:World):Prop where
 own:lv.ownBlock=some g∨w.heap.size≤g
 top:w.heap.size≤m
 old:w.heap.size≤mb
 low:B≤mb
 ptr :∀a,pa=some a→a.block<mb+1
 maps :∀x∈ms,x<mb
 acK :∀l∈L,l.blk<mb
 mlt:m<mb
 apart :∀l∈L,l.blk≠m
 base:B≤w.heap.size
section
variable {T:List Nd} {B b:Nat} {nv:Value} {ub ob f i mb g c6 m:Nat} {rep:Bool} {ks tests:List Lt} {pa:Option Addr} {lv:Value} {ms:List Nat} {L:List cO} {Nc:List fC} {loop:Int} {w:World} {n:Nat} {x:List jr} {s1:aI} {wr wr':World}
theorem BS.grow (h:BS B mb g m pa lv ms L w) (x:List jr) :∀l∈grow x (⟨f,m,[]⟩::L),mb≠l.blk:=by
 intro l hl;have h1:l.blk∈(Go.Proofs.YtodmcdfeldkocaaGreatDoor.grow x (⟨f,m,[]⟩::L)).map cO.blk:=j3 hl;rw[uZ] at h1;rcases ba.1 h1 with h1|h1
 ·have:=h.mlt
  replace h1:l.blk=m:=h1;omega
 ·obtain⟨u,hu,e⟩:=eJ.1 h1
  have:=h.acK u hu;omega
theorem FH {s:aI} {y:fC} {l:List fC} (h:s.frames=y::l) (n:Nat):s.at n={ s with frames:={ y with at_:=n}::l}:=by
 unfold aI.at;rw[h]
theorem BI.ready (h:BI T B b nv ub ob f i mb g c6 m rep ks tests pa lv ms L Nc loop w n x s1 wr) (hb:BS B mb g m pa lv ms L w) {k:Lt} (hk:ks[n]? = some k) (hw:(wr'=wr∧isDecl k=false)∨(wr'=wr.setCell ⟨mb+1,2,none⟩ (.int .i64 ((gO ks n:Int)+1))∧isDecl k=true)) :
  eU T B b nv ub ob f (some ⟨mb+1,0,none⟩) (.slice (some ⟨g,0,none⟩) (L.length+1) c6) (mb::ms) (grow x (⟨f,m,[]⟩::L)) (s1.at n) wr' (k.wt+(Lt.fu (ks.drop (n+1))+Lt.fu tests)) (k.size+(Lt.al (ks.drop (n+1))+Lt.al tests))∧wr'.heap[mb+1]? = some (.cells #[.pointer pa,.map (some mb),.int .i64 (gO ks (n+1):Int)] 150 (0,0))∧wr'.heap[w.heap.size]? = some (.cells #[.int .i64 (f:Int),.int .i64 loop,.pointer (some ⟨mb+1,0,none⟩),.slice (some ⟨g,0,none⟩) (L.length+1) c6] 69 (0,0))∧cQ B ob lv L.length (ep L) w wr'∧dc wr' B lv L:=by
 have tR:=uU hk;have FI:=h.rd;rw[(qz hk).1,(qz hk).2,oN,oN] at FI;have hmb:=hb.low;have tm:=hb.old;have key :∀(W:World),eU T B b nv ub ob f pa (.slice (some ⟨g,0,none⟩) (L.length+1) c6) ms (Go.Proofs.YtodmcdfeldkocaaGreatDoor.grow x (⟨f,m,[]⟩::L)) { s1 with frames:=Nc} W (k.wt+(Lt.fu (ks.drop (n+1))+Lt.fu tests)) (k.size+(Lt.al (ks.drop (n+1))+Lt.al tests))→W.heap[mb+1]? = some (.cells #[.pointer pa,.map (some mb),.int .i64 (gO ks (n+1):Int)] 150 (0,0))→dK Tryz.prog 9 W mb ks.length (fD ks rep ks.length)→eU T B b nv ub ob f (some ⟨mb+1,0,none⟩) (.slice (some ⟨g,0,none⟩) (L.length+1) c6) (mb::ms) (Go.Proofs.YtodmcdfeldkocaaGreatDoor.grow x (⟨f,m,[]⟩::L)) (s1.at n) W (k.wt+(Lt.fu (ks.drop (n+1))+Lt.fu tests)) (k.size+(Lt.al (ks.drop (n+1))+Lt.al tests)):=fun W h1 h2 h3=>by
  rw[FH h.frames n];exact h1.Bp (i:=i) (n:=n) (rep:=rep) h2 h3 (by omega) hmb hb.ptr (hb.grow x)
 rcases hw with ⟨rfl,hd⟩ | ⟨rfl,hd⟩
 ·rw[hd] at tR
  have tR:gO ks (n+1)=gO ks n:=tR;have hkb:=h.kb;rw[←tR] at hkb;exact⟨key _ FI hkb h.mp,hkb,h.box,h.jk,h.fw⟩
 ·rw[hd] at tR
  have tR:gO ks (n+1)=gO ks n+1:=tR;have hF:Fr [150] wr (wr.setCell ⟨mb+1,2,none⟩ (.int .i64 ((gO ks n:Int)+1))):=Fr.set h.kb (by decide) _ _
  have hB:Below B wr (wr.setCell ⟨mb+1,2,none⟩ (.int .i64 ((gO ks n:Int)+1))):=(Below.refl B wr).setCell (p:=⟨mb+1,2,none⟩) (by show B≤mb+1;omega) _
  have hK :∀j,j≠mb+1→(wr.setCell ⟨mb+1,2,none⟩ (.int .i64 ((gO ks n:Int)+1))).heap[j]? = wr.heap[j]?:=fun j hj=>Below.heap_setCell _ _ _ j hj
  have hkb:(wr.setCell ⟨mb+1,2,none⟩ (.int .i64 ((gO ks n:Int)+1))).heap[mb+1]? = some (.cells #[.pointer pa,.map (some mb),.int .i64 (gO ks (n+1):Int)] 150 (0,0)):=by
   have:=bE h.kb 2 (.int .i64 ((gO ks n:Int)+1));rw[tR];exact this
  exact⟨key _ (FI.but hF hB (fun j hj _=>hK j hj) hb.ptr (fun y hy=>by have:=hb.maps y hy;omega)) hkb (hF.map h.mp),hkb,(hK _ (by omega)).trans h.box,h.jk.past hB fun j hj=>hK j (by omega),h.fw.fr hF (by decide)⟩
theorem BI.next {k:Lt} {s2:aI} {w2:World} {e:Ending} (hb:BS B mb g m pa lv ms L w) (hn:gW T k) (mM:s1.frames=⟨f,i,n-1,false,rep,ks⟩::Nc)
  (h1:eU T B b nv ub ob f (some ⟨mb+1,0,none⟩) (.slice (some ⟨g,0,none⟩) (L.length+1) c6) (mb::ms) (grow x (⟨f,m,[]⟩::L)) (s1.at n) wr' (k.wt+(Lt.fu (ks.drop (n+1))+Lt.fu tests)) (k.size+(Lt.al (ks.drop (n+1))+Lt.al tests))) (h2:wr'.heap[mb+1]? = some (.cells #[.pointer pa,.map (some mb),.int .i64 (gO ks (n+1):Int)] 150 (0,0))) (h3:wr'.heap[w.heap.size]? = some (.cells #[.int .i64 (f:Int),.int .i64 loop,.pointer (some ⟨mb+1,0,none⟩),.slice (some ⟨g,0,none⟩) (L.length+1) c6] 69 (0,0))) (h4:cQ B ob lv L.length (ep L) w wr') (h5:dc wr' B lv L)
  (hr:bh k f (s1.at n)=.ok s2) (hp:aq B b nv T.length ub ob (.slice (some ⟨g,0,none⟩) (L.length+1) c6) (grow x (⟨f,m,[]⟩::L)) (s1.at n) (.ok s2) wr' e w2) :
  e=.returned .nilIface∧∃y,BI T B b nv ub ob f i mb g c6 m rep ks tests pa lv ms L Nc loop w (n+1) (y++x) s2 w2:=by
 obtain⟨he,y,_,_,hr2,hf2,rT⟩:=eU.next h1 hn hr hp;rw[grow_grow] at hr2;rw[cy,nZ] at hf2;rw[FH mM n] at rT;replace rT:s2.frames=⟨f,i,n,false,rep,ks⟩::Nc:=rT;have hkb:=hf2.cells _ _ _ _ h2 (by decide)
 obtain⟨q1,q2⟩:=hr2.SB (pa:=pa) rT hkb;exact⟨he,y,⟨q1,rT,hkb,q2,hf2.cells _ _ _ _ h3 (by decide),h4.inner hb.own hb.top hf2,h5.inner hb.apart hf2⟩⟩
end
theorem aq.Yl {B b:Nat} {nv:Value} {N ub ob g c:Nat} {lv:Value} {L:List cO} {l:cO} {st st1:aI} {r:Rs aI} {w w1 w2:World} {e:Ending} (h1:cQ B ob lv L.length (ep L) w w1) (hl:dc w1 B lv L) (hne :∀u∈L,u.blk≠l.blk) (hg:lv.ownBlock=some g∨w.heap.size≤g) (hm:w.heap.size≤l.blk) (h:aq B b nv N ub ob (.slice (some ⟨g,0,none⟩) (L.length+1) c) (l::L) st1 r w1 e w2):aq B b nv N ub ob lv L st (r.map fun s=>s.back st) w e w2:=by
 refine⟨h1.below.trans h.1,?_⟩;have h2:=h.2;cases r with
 | error y=>exact h2
 | ok s =>
  obtain⟨k1,⟨fv,FL,k2⟩,k3,_⟩:=h2;refine⟨k1,⟨fv,FL,k2.on rfl rfl rfl⟩,h1.inner hg hm k3,[],rfl,fun _=>rfl,?_⟩
  rw[jF];exact hl.inner hne k3
theorem Nf (ks:List Lt):gO ks (ks.length-1+1)=gO ks ks.length:=by
 rcases mQ ks.length with h|h
 ·rw[List.length_eq_zero_iff.1 h];rfl
 ·rw[show ks.length-1+1=ks.length by omega]
end Go.Proofs.YtodmcdfeldkocaaGreatDoor
namespace Go.Proofs.YtodmcdfeldkocaaGreatDoor
open Go.RowKit
theorem yX.setOf {T:List Nd} {B b:Nat} {nv:Value} {ub ob f:Nat} {pa:Option Addr} {lv:Value} {ms:List Nat} {L:List cO} {st:aI} {w:World} {a s:Nat} (i:Nat) (h:yX T B b nv ub ob f pa lv ms L st w a s) (o:Obj):yX T B b nv ub ob f pa lv ms L (st.setOf i f) ((w.setCell ⟨ob,i,none⟩ (.int .i64 (f:Int))).alloc o).drew a s∧cQ B ob lv L.length (ep L) w ((w.setCell ⟨ob,i,none⟩ (.int .i64 (f:Int))).alloc o).drew∧dc ((w.setCell ⟨ob,i,none⟩ (.int .i64 (f:Int))).alloc o).drew B lv L:=by
 obtain⟨fv,FL,hw⟩:=h.rs;obtain⟨cs,hc⟩:=kS hw.wy;have kQ :∀top,cQ B ob lv L.length top w (w.setCell ⟨ob,i,none⟩ (.int .i64 (f:Int))):=fun top=>cQ.aao hc hw.jh.2 i _
 have hB:B≤(w.setCell ⟨ob,i,none⟩ (.int .i64 (f:Int))).heap.size:=by have:=hw.mN;have:=hw.pos;simp[World.setCell];omega
 have hf :∀top,cQ B ob lv L.length top w ((w.setCell ⟨ob,i,none⟩ (.int .i64 (f:Int))).alloc o).drew:=fun top=>(kQ top).trans ((cQ.bJ (((Below.refl _ _).alloc (ag _) o).drew) hB))
 exact⟨⟨h.fA.below (hf none).below,⟨fv,FL,((hw.of_ i f).alloc o).drew⟩,⟨h.pos.fw.jk (hf none) (ag _),h.pos.blk.jk (hf none) (by simp),h.pos.names,h.pos.apart⟩,⟨h.cx.ok,h.cx.lt,h.cx.names⟩,h.few,h.fr,h.names,h.fns,h.fw⟩,hf _,h.pos.fw.jk (hf none) (ag _)⟩
theorem xH {T:List Nd} {B b:Nat} {nv:Value} {ub ob:Nat} (i f:Nat) (h:Nd) (ks tests:List Lt) (rep:Bool) (loop:Int) (pa la:Option Addr) (lc:Nat) (ms:List Nat) (L:List cO) (st:aI) (w:World) (tv:Value) (hr:yX T B b nv ub ob f pa (.slice la L.length lc) ms L st w (Lt.fu ks+Lt.fu tests) (Lt.al ks+Lt.al tests)) (hx:T[i]? = some h) (hk:h.kids=ks.map fun k=>(k.loc:Int)) (hn:fE T ks) (vd:fE T tests) (hV :∀k∈ks,bA T B b nv ub ob k) (hV2 :∀k∈tests,bA T B b nv ub ob k)
  (htv:qy B ob (.slice la L.length lc) L.length (ep L) w tv (tests.map fun k=>(k.loc:Int))) (SC:rep=decide (0<tests.length)) (hl :∀k∈ks,18≤k.hd.kind→loop=cK f st.frames) (hl2 :∀k∈tests,18≤k.hd.kind→loop=cK f st.frames) (hs :∀x∈ks,x.hd.s.size≤65536) (DJ:tests.length≤20000) :
  Calls Tryz.prog 36 #[.pointer (some ⟨b,0,none⟩),.int .i64 (i:Int),.agg #[.int .i64 (f:Int),.int .i64 loop,.pointer pa,.slice la L.length lc],tv] w (aq B b nv T.length ub ob (.slice la L.length lc) L st ((wF i f rep ks tests st).map fun s=>s.back st) w):=by
 subst SC;obtain⟨bk,o,c,rfl,dH,ca,dJ⟩:=hr.fA.nodes;obtain⟨u7,u9,eL,⟨NA,nc,wg,_⟩,eW⟩:=dJ i h hx;have rS:h.kids.length≤20000:=(hr.fA.small h (aV hx)).1;have oW:h.kids.length=ks.length:=by rw[hk,bS]
 obtain⟨KA,kc,rz,uC,_⟩:=id eW;subst wg rz;have HTV:=aa htv;obtain⟨TA,tc,rfl,htc,_⟩:=htv;have x6:=eL.c6;have wC:i<T.length:=(aJ.1 hx).1;have pU:=hr.fA.few;obtain⟨fv,FL,hw⟩:=id hr.rs;obtain⟨hbl,po,tm⟩:=hw.mN;have d0:w.cell? ⟨b,0,none⟩=some (.slice (some ⟨bk,o,none⟩) T.length c):=ab hw.blk 0;have d3:w.cell? ⟨b,3,none⟩=some (.slice (some ⟨ob,0,none⟩) T.length T.length):=ab hw.blk 3;obtain⟨u0,v0⟩:=bZ hw.wy (j:=i) (by omega)
 have gP:bk<w.heap.size:=by omega
 have HR:=aa hr;have HN:=aa hn;have Sx:=aa vd;have HV:=aa hV;have HV2:=aa hV2;have HL:=aa hl;have HL2:=aa hl2;have HS:=aa hs;have Iz:=aa eW;have HK:=aa hk;have qG:=aa oW;have HX:=aa hx;simp only[bS] at htc ⊢;clear hr hn vd hV hV2 hl hl2 hs eW hk oW hx dJ eL hw;go_enter Tryz.func36,Tryz.ntmps36
 go_wp2_with fail
 go_region
 have ru:=HR.out.setOf i (.cells #[.int .i64 (f:Int),.int .i64 loop,.pointer pa,.slice la L.length lc] 69);have eB:=heap_alloc_new (w.setCell ⟨ob,i,none⟩ (.int .i64 (f:Int))) (.cells #[.int .i64 (f:Int),.int .i64 loop,.pointer pa,.slice la L.length lc] 69);obtain⟨W1,hW1⟩ :∃W1,W1=((w.setCell ⟨ob,i,none⟩ (.int .i64 (f:Int))).alloc (.cells #[.int .i64 (f:Int),.int .i64 loop,.pointer pa,.slice la L.length lc] 69)).drew:=⟨_,rfl⟩;rw[←hW1] at ru;have jV:W1.heap[w.heap.size]? = some (.cells #[.int .i64 (f:Int),.int .i64 loop,.pointer pa,.slice la L.length lc] 69 (0,0)):=by
  rw[hW1];have e:(w.setCell ⟨ob,i,none⟩ (.int .i64 (f:Int))).heap.size=w.heap.size:=by simp[World.setCell]
  rw[e] at eB;exact eB
 rw[←hW1];clear hW1 eB d0 d3 u0 v0;have x6:=(ru.2.1.below.cell (p:=⟨bk,o+i*7+6,none⟩) dH).trans x6;have d0:W1.cell? ⟨b,0,none⟩=some (.slice (some ⟨bk,o,none⟩) T.length c):=by obtain⟨_,_,hw⟩:=ru.1.rs;exact ab hw.blk 0
 have k0:W1.cell? ⟨w.heap.size,0,none⟩=some (.int .i64 (f:Int)):=ab jV 0;have k1:W1.cell? ⟨w.heap.size,1,none⟩=some (.int .i64 loop):=ab jV 1;have k2:W1.cell? ⟨w.heap.size,2,none⟩=some (.pointer pa):=ab jV 2;have k3:W1.cell? ⟨w.heap.size,3,none⟩=some (.slice la L.length lc):=ab jV 3;have HZ:=aa ru.1;have fy:=aa ru.2.1;have pE:=aa ru.2.2;have Br:=aa jV;have HOP:=aa (xG loop ru.1);clear ru jV;go_wp2_with fail
 refine HOP.out.mono ?_;rintro e w2 ⟨g,c6,m,rfl,hr2,hm,hg,hf2⟩;have oR:=hf2.cells _ _ _ _ Br.out (by decide)
 have y0:=aE oR 0;have y1:=aE oR 1;have y2:=aE oR 2;have y3:=aE oR 3;have k0:w2.cell? ⟨w.heap.size,0,none⟩=some (.int .i64 (f:Int)):=ab oR 0;have k1:w2.cell? ⟨w.heap.size,1,none⟩=some (.int .i64 loop):=ab oR 1;have k2:w2.cell? ⟨w.heap.size,2,none⟩=some (.pointer pa):=ab oR 2;have k3:w2.cell? ⟨w.heap.size,3,none⟩=some (.slice la L.length lc):=ab oR 3;have hpl:w.heap.size<w2.heap.size:=(aM.1 oR).1;have X9:=aa oR;have wD:=aa hr2;have HM:=aa hm;have HG:=aa hg;have lR:=aa hf2;clear oR hr2 hm hg hf2;go_wp2_with fail
 obtain⟨W3,hW3⟩ :∃W3,W3=four w2 w.heap.size (.int .i64 (f:Int)) (.int .i64 loop) (.pointer pa) (.slice (some ⟨g,0,none⟩) (L.length+1) c6):=⟨_,rfl⟩;have kn:wc w2 w.heap.size 69:=⟨_,_,X9.out⟩;have Wc:W3.heap[w.heap.size]? = some (.cells #[.int .i64 (f:Int),.int .i64 loop,.pointer pa,.slice (some ⟨g,0,none⟩) (L.length+1) c6] 69 (0,0)):=by
  rw[hW3];exact bE (bE (bE (bE X9.out 0 _) 1 _) 2 _) 3 _
 have hF3:Fr [69] w2 W3:=by rw[hW3];exact vn kn _ _ _ _
 have Ym:Below B w2 W3:=by rw[hW3];exact pD w2 ca _ _ _ _
 have hK3 :∀k,k≠w.heap.size→W3.heap[k]? = w2.heap[k]?:=by rw[hW3];exact fun k hk=>nm w2 _ _ _ _ _ k hk
 have hs3:W3.heap.size=w2.heap.size:=by rw[hW3];simp[four,World.setCell]
 unfold four at hW3;rw[←hW3];have hrun:=run_makeMap (P:=Tryz.prog) 148 W3;have k0:W3.cell? ⟨w.heap.size,0,none⟩=some (.int .i64 (f:Int)):=ab Wc 0;have k1:W3.cell? ⟨w.heap.size,1,none⟩=some (.int .i64 loop):=ab Wc 1;have k2:W3.cell? ⟨w.heap.size,2,none⟩=some (.pointer pa):=ab Wc 2;have k3:W3.cell? ⟨w.heap.size,3,none⟩=some (.slice (some ⟨g,0,none⟩) (L.length+1) c6):=ab Wc 3;have y2:=aE Wc 2;have hpl:w.heap.size<W3.heap.size:=(aM.1 Wc).1;have Ya:=aa Wc;have zN:=aa hF3;have yN:=aa Ym;have HK3:=aa hK3;have o0:=aa hs3;clear hW3 kn Wc hF3 Ym hK3 hs3 y0 y1 y3;rw[hrun];clear hrun;go_wp2_with fail
 obtain⟨W4,Yn⟩ :∃W4,W4=((W3.setCell ⟨w.heap.size,2,none⟩ (.pointer (some ⟨W3.heap.size+1,0,none⟩))).alloc (.map #[] 0)).alloc (.cells #[.pointer pa,.map (some W3.heap.size),.int .i64 0] 150):=⟨_,rfl⟩;rw[←Yn];obtain⟨Wa,Yo⟩ :∃Wa,Wa=W3.setCell ⟨w.heap.size,2,none⟩ (.pointer (some ⟨W3.heap.size+1,0,none⟩)):=⟨_,rfl⟩;rw[←Yo] at Yn;have Yp:Wa.heap.size=W3.heap.size:=by rw[Yo];simp[World.setCell]
 have hFa:Fr [69] W3 Wa:=by rw[Yo];exact Fr.set Ya.out (by decide) _ _
 have hBa:Below B W3 Wa:=by rw[Yo];exact(Below.refl B W3).setCell (p:=⟨w.heap.size,2,none⟩) ca _
 have hPa:Wa.heap[w.heap.size]? = some (.cells #[.int .i64 (f:Int),.int .i64 loop,.pointer (some ⟨W3.heap.size+1,0,none⟩),.slice (some ⟨g,0,none⟩) (L.length+1) c6] 69 (0,0)):=by rw[Yo];exact bE Ya.out 2 _
 have hKa :∀k,k≠w.heap.size→Wa.heap[k]? = W3.heap[k]?:=by rw[Yo];exact fun k hk=>Below.heap_setCell _ _ _ k hk
 have hab:Below Wa.heap.size Wa W4:=by rw[Yn];exact Below.two _ _
 have hs4:W4.heap.size=W3.heap.size+2:=by rw[Yn,ao,ao,Yp]
 have Yq:dK Tryz.prog 9 W4 W3.heap.size 0 (fun _=>none):=by
  rw[Yn,←Yp];exact(dK.made Wa Tryz.prog 9).same (Below.heap_alloc _ _ _ (by rw[ao];omega))
 have hkb:W4.heap[W3.heap.size+1]? = some (.cells #[.pointer pa,.map (some W3.heap.size),.int .i64 0] 150 (0,0)):=by
  rw[Yn];have:=heap_alloc_new (Wa.alloc (.map #[] 0)) (.cells #[.pointer pa,.map (some W3.heap.size),.int .i64 0] 150);rwa[ao,Yp] at this
 clear Yn Yo;have hF4:Fr [69] W3 W4:=hFa.trans (Fr.af hab);have MA:Below B W3 W4:=hBa.trans (hab.mono (by have:=wD.out.world;have:=o0.out;omega))
 have hP4:=(hab.block w.heap.size (by omega)).trans hPa
 have hK4 :∀k,k<W3.heap.size→k≠w.heap.size→W4.heap[k]? = W3.heap[k]?:=fun k hk hn=>(hab.block k (by omega)).trans (hKa k hn)
 clear hab Yp hFa hBa hPa hKa Wa k0 k1 k2 k3 y2 d0 x6;have hr4:=(wD.out.Sv zN.out yN.out).Sv hF4 MA;have wk:cQ B ob (.slice la L.length lc) L.length (ep L) w W4:=(fy.out.trans (lR.out.Fo _)).past ((yN.out.trans MA)) fun k hk=>(hK4 k (by omega) (by omega)).trans (HK3.out k (by omega))
 have hlv:dc W4 B (.slice la L.length lc) L:=((pE.out.jk lR.out (ag _)).fr zN.out (by decide)).fr hF4 (by decide)
 have Sb :∀a,pa=some a→a.block<W3.heap.size+1:=fun a ha=>by have:=bY.first (wD.out.Sv zN.out yN.out).pos.blk a ha;omega
 have hms :∀x∈ms,x<W3.heap.size:=bY.lt (wD.out.Sv zN.out yN.out).pos.blk;have hbs :∀l∈(⟨f,m,[]⟩::L:List cO),l.blk<W3.heap.size:=fun l hl=>((wD.out.Sv zN.out yN.out).pos.fw.maps l hl).1.lt
 have VN:B≤W3.heap.size:=(wD.out.Sv zN.out yN.out).world;have hww:w.heap.size≤W3.heap.size:=ft hpl;generalize hmb:W3.heap.size=mb at *;have Wd:Hid (Calls Tryz.prog 76 #[.pointer (some ⟨b,0,none⟩),.pointer (some ⟨mb+1,0,none⟩),.slice KA h.kids.length kc,.bool (decide (0<tests.length))] W4 (A3 mb ks (decide (0<tests.length)) (cJ st.frames f ks 0 ks) W4)):=by
  obtain⟨fv4,FL4,hw4⟩:=hr4.rs;exact aa (Mw b (mb+1) mb f pa (.slice KA h.kids.length kc) ks st.frames ms (decide (0<tests.length)) fv4 _ _ W4 hr4.fA hw4.blk (by rw[←HK.out];exact Iz.out.below wk.below) HN.out.yT (by have:=qG.out;omega) hkb Yq hr4.pos.blk Sb (fun Nh=>by have:=hms mb Nh;omega) (by omega) VN HS.out)
 have HR4:=aa hr4;have HFO:=aa wk;have V9:=aa hlv;have HPK:=aa Sb;have HMS:=aa hms;have HBS:=aa hbs;have HM4:=aa Yq;have HKB:=aa hkb;have HP4:=aa hP4;have HS4:=aa hs4;have V7:(Value.slice la L.length lc).ownBlock=some g∨w.heap.size≤g:=HG.out.imp id fun h=>by have:=fy.out.below.size;omega
 have V8:w.heap.size≤m:=by have:=HM.out;have:=fy.out.below.size;omega
 have HOW:=aa V7;have Wb:=aa V8;have HWW:=aa hww;have SD:B≤mb:=VN;clear hr4 wk hlv Sb hms hbs Yq hkb hP4 hs4 hF4 MA hK4 V7 V8 hww VN hmb hpl;refine Wd.out.mono ?_;intro e w5 hp;obtain⟨Rg,hp⟩:=hp;cases RX:cJ st.frames f ks 0 ks with
 | some l =>
  rw[RX] at hp;obtain⟨v,rfl,g2,rfl,h2⟩:=hp;have H2:=aa h2;have HE:Hid (((wF i f (decide (0<tests.length)) ks tests st).map fun s=>s.back st)=.error (9,l)):=aa (by
   show Except.map _ (Except.bind (gV i f _ ks (st.setOf i f)) _)=_
   rw[Bq];show Except.map _ (Except.bind (match cJ st.frames f ks 0 ks with|some l=>_|none=>_) _)=_
   rw[RX];rfl)
  have HG5:=aa Rg;clear h2 RX Rg;go_wp2_with fail
  go_ret
  rw[HE.out];exact⟨HFO.out.below.trans (j8 HG5.out SD HR4.out.world),_,rfl,_,rfl,H2.out⟩
 | none =>
  rw[RX] at hp;obtain⟨rfl,hm5⟩:=hp;have hZ1:=HZ.out;have uJ:Hid (BS B mb g m pa (.slice la L.length lc) ms L w):=aa ⟨HOW.out,Wb.out,HWW.out,SD,HPK.out,HMS.out,fun l hl=>HBS.out l (bQ _ hl),HBS.out ⟨f,m,[]⟩ (bH ..),fun l hl=>by have:=hZ1.levels l hl;have:=HM.out;omega,ca⟩
  obtain⟨s0,hs0⟩ :∃s0:aI,s0={ st.setOf i f with frames:=⟨f,i,0,false,decide (0<tests.length),ks⟩::st.frames}:=⟨_,rfl⟩;have tj:=eT Rg HM4.out.isMap;have HI:Hid (BI T B b (.slice (some ⟨bk,o,none⟩) T.length c) ub ob f i mb g c6 m (decide (0<tests.length)) ks tests pa (.slice la L.length lc) ms L st.frames loop w 0 [] s0 w5):=by
   refine aa ⟨?_,by rw[hs0],by rw[AJ];exact tj _ _ _ _ HKB.out,hm5,tj _ _ _ _ HP4.out,HFO.out.past (j8 Rg SD HR4.out.world) fun k hk=>Rg.block k (by have:=HFO.out.below.size;omega) (fun e=>by injection e with e;have:=HWW.out;omega),V9.out.grown Rg HM4.out.isMap fun l hl=>by have:=HBS.out l (bQ _ hl);omega⟩
   have h1:=HR4.out.grown Rg HM4.out.isMap SD (fun Nh=>by have:=HMS.out mb Nh;omega) (fun l hl=>by have:=HBS.out l hl;omega)
   rw[hs0,oM,jF];exact h1
  obtain⟨R,hR⟩ :∃R,R=cW ks 0 f s0:=⟨_,rfl⟩;have HE:Hid (((wF i f (decide (0<tests.length)) ks tests st).map fun s=>s.back st)=(R.bind fun s2=>aG tests f s2).map fun s=>s.back st):=aa (by
   rw[hR,hs0];show Except.map _ (Except.bind (gV i f _ ks (st.setOf i f)) _)=_
   rw[Bq];show Except.map _ (Except.bind (match cJ st.frames f ks 0 ks with|some l=>_|none=>_) _)=_
   rw[RX];rfl)
  have HRS:=aa hR;clear hR hs0 tj RX hm5 Rg hZ1 HZ fy pE Br HOP X9 wD HM HG lR Ya zN yN HK3 o0 Wd HR4 HFO V9 HPK HMS HBS HM4 HKB HP4 HS4 HOW Wb HWW;go_wp2_with fail
  go_loopw [52] (fun tk wr=>∃(n:Nat) (x:List jr) (s1:aI),tk=.int .i64 (n:Int)∧n≤ks.length∧BI T B b (.slice (some ⟨bk,o,none⟩) T.length c) ub ob f i mb g c6 m (decide (0<tests.length)) ks tests pa (.slice la L.length lc) ms L st.frames loop w n x s1 wr∧cW (ks.drop n) n f s1=R) (fun tk _=>h.kids.length-(intOf tk).toNat)
  case atStart=>exact⟨0,[],s0,rfl,bg _,HI.out,by rw[oM];exact HRS.out.symm⟩
  case round =>
   obtain⟨n,x,s1,rfl,zM,FJ,hrn⟩:=hrel;have p0:wr.cell? ⟨w.heap.size,0,none⟩=some (.int .i64 (f:Int)):=ab FJ.box 0;have p1:wr.cell? ⟨w.heap.size,1,none⟩=some (.int .i64 loop):=ab FJ.box 1;have p2:wr.cell? ⟨w.heap.size,2,none⟩=some (.pointer (some ⟨mb+1,0,none⟩)):=ab FJ.box 2;have p3:wr.cell? ⟨w.heap.size,3,none⟩=some (.slice (some ⟨g,0,none⟩) (L.length+1) c6):=ab FJ.box 3;have q2:wr.cell? ⟨mb+1,2,none⟩=some (.int .i64 (gO ks n:Int)):=ab FJ.kb 2;have z2:=aE FJ.kb 2;have hne:w.heap.size≠mb+1:=by have:=uJ.out.old;omega
   have hdc:gO ks n≤20000:=aL (LM ks n) (by have:=qG.out;omega)
   have xI:=aa FJ;have Ss:=aa hrn;clear FJ hrn;by_cases hlt:n<h.kids.length
   ·obtain⟨k,hk⟩ :∃k,ks[n]? = some k:=⟨ks[n]'(by have:=qG.out;omega),bt _⟩
    obtain⟨A',c',he,_,eD⟩:=Iz.out.below xI.out.jk.below;injection he with qx _ Ms;subst qx Ms;rcases eD with h0 | ⟨sb,so,rfl,yR,hsc⟩
    ·rw[h0] at hlt;exact absurd hlt (iF _)
    have cs:wr.cell? ⟨sb,so+n,none⟩=some (.int .i64 (k.loc:Int)):=hsc n _ (by rw[HK.out,ef,hk];rfl)
    obtain⟨XQ,Ig⟩:=uN HN.out.yT hk;have wo:k.loc<T.length:=(aJ.1 Ig).1;have HKM:=aa (aV hk);have hdr:=drop_at hk;have uI:=aa hdr;have wG:=aa hk;have iM:=aa hlt;have d0:wr.cell? ⟨b,0,none⟩=some (.slice (some ⟨bk,o,none⟩) T.length c):=by obtain⟨_,_,hw⟩:=xI.out.rd.rs;exact ab hw.blk 0
    have Mz:Hid (Calls Tryz.prog 77 #[.pointer (some ⟨b,0,none⟩),.int .i64 (k.loc:Int)] wr fun e w'=>e=.returned (.bool (isDecl k))∧wr=w'):=aa (sP b k.loc k.hd wr xI.out.rd.fA d0 Ig)
    clear hdr hk XQ Ig hsc d0;cases Dr:isDecl k with
    | false =>
     rw[Dr] at Mz;have HDX:=aa Dr;clear Dr;go_wp2_with fail
     refine Mz.out.mono ?_;rintro e w2 ⟨rfl,rfl⟩;go_wp2_with fail
     obtain⟨r1,r2,r3,r4,r5⟩:=xI.out.ready uJ.out wG.out (.inl ⟨rfl,HDX.out⟩);have bq:=HV.out k HKM.out f loop (some ⟨mb+1,0,none⟩) (some ⟨g,0,none⟩) c6 (mb::ms) (grow x (⟨f,m,[]⟩::L)) (s1.at n) _ (by rw[cy];exact r1.mono (gr _ _) (gr _ _)) (fun h=>by rw[FH xI.out.frames n];exact(HL.out k HKM.out h).trans (uY rfl _).symm) (.inl (qC (by simp)))
     rw[cy,List.length_cons] at bq;have R1:=aa r1;have R2:=aa r2;have R3:=aa r3;have R4:=aa r4;have R5:=aa r5;clear r1 r2 r3 r4 r5;refine bq.mono ?_;clear bq;intro e w3 hp;cases dJ:bh k f (s1.at n) with
     | error y =>
      rw[dJ] at hp;obtain⟨hb,v,rfl,g2,rfl,h2⟩:=hp;have H2:=aa h2;have HB:=aa hb;have Ni:Hid (R=.error y):=aa (by rw[←Ss.out,uI.out,hH,dJ];rfl)
      clear h2 hb dJ;go_wp2_with fail
      go_ret
      rw[HE.out,Ni.out];exact⟨R4.out.below.trans HB.out,_,rfl,_,rfl,H2.out⟩
     | ok s2 =>
      rw[dJ] at hp;obtain⟨rfl,y,FJ⟩:=BI.next uJ.out (HN.out.at_ k HKM.out) xI.out.frames R1.out R2.out R3.out R4.out R5.out dJ hp;have We:=aa FJ;have Ni:Hid (cW (ks.drop (n+1)) (n+1) f s2=R):=aa (by rw[←Ss.out,uI.out,hH,dJ];rfl)
      clear hp FJ dJ;go_wp2_with fail
      exact⟨⟨n+1,y++x,s2,by go_num,by have:=iM.out;have:=qG.out;omega,We.out,Ni.out⟩,by have:=iM.out;simp[intOf];omega⟩
    | true =>
     rw[Dr] at Mz;have HDX:=aa Dr;clear Dr;go_wp2_with fail
     refine Mz.out.mono ?_;rintro e w2 ⟨rfl,rfl⟩;go_wp2_with fail
     obtain⟨r1,r2,r3,r4,r5⟩:=xI.out.ready uJ.out wG.out (.inr ⟨rfl,HDX.out⟩);have bq:=HV.out k HKM.out f loop (some ⟨mb+1,0,none⟩) (some ⟨g,0,none⟩) c6 (mb::ms) (grow x (⟨f,m,[]⟩::L)) (s1.at n) _ (by rw[cy];exact r1.mono (gr _ _) (gr _ _)) (fun h=>by rw[FH xI.out.frames n];exact(HL.out k HKM.out h).trans (uY rfl _).symm) (.inl (qC (by simp)))
     rw[cy,List.length_cons] at bq;have R1:=aa r1;have R2:=aa r2;have R3:=aa r3;have R4:=aa r4;have R5:=aa r5;clear r1 r2 r3 r4 r5;refine bq.mono ?_;clear bq;intro e w3 hp;cases dJ:bh k f (s1.at n) with
     | error y =>
      rw[dJ] at hp;obtain⟨hb,v,rfl,g2,rfl,h2⟩:=hp;have H2:=aa h2;have HB:=aa hb;have Ni:Hid (R=.error y):=aa (by rw[←Ss.out,uI.out,hH,dJ];rfl)
      clear h2 hb dJ;go_wp2_with fail
      go_ret
      rw[HE.out,Ni.out];exact⟨R4.out.below.trans HB.out,_,rfl,_,rfl,H2.out⟩
     | ok s2 =>
      rw[dJ] at hp;obtain⟨rfl,y,FJ⟩:=BI.next uJ.out (HN.out.at_ k HKM.out) xI.out.frames R1.out R2.out R3.out R4.out R5.out dJ hp;have We:=aa FJ;have Ni:Hid (cW (ks.drop (n+1)) (n+1) f s2=R):=aa (by rw[←Ss.out,uI.out,hH,dJ];rfl)
      clear hp FJ dJ;go_wp2_with fail
      exact⟨⟨n+1,y++x,s2,by go_num,by have:=iM.out;have:=qG.out;omega,We.out,Ni.out⟩,by have:=iM.out;simp[intOf];omega⟩
   ·have rm:n=ks.length:=by have:=qG.out;omega
    have FI:=xI.out.rd;rw[rm,wX] at FI;have hkb:=xI.out.kb;rw[rm,←Nf] at hkb;have Yr:=(FI.mono (a':=Lt.fu tests) (s':=Lt.al tests) (wZ _ _) (wZ _ _)).Bp (i:=i) (n:=ks.length-1) (rep:=decide (0<tests.length)) hkb xI.out.mp (by have:=uJ.out.low;omega) uJ.out.low uJ.out.ptr (uJ.out.grow x)
    have SE:=xI.out.frames;rw[rm] at SE;have hst:({ ({ s1 with frames:=st.frames}:aI) with frames:=⟨f,i,ks.length-1,false,decide (0<tests.length),ks⟩::st.frames}:aI)=s1:=by
     rw[←SE]
    rw[hst] at Yr;have bq:=qD f loop (some ⟨mb+1,0,none⟩) (some ⟨g,0,none⟩) c6 (mb::ms) (grow x (⟨f,m,[]⟩::L)) s1 wr (.slice TA tests.length tc) tests (by rw[cy];exact Yr) Sx.out HV2.out (by have:=HTV.out.inner (c:=c6) xI.out.jk uJ.out.own uJ.out.top;rw[bS] at this;rw[cy,nZ];exact this) (fun k hk kJ=>by rw[SE];exact(HL2.out k hk kJ).trans (uY rfl _).symm) (fun k _=>.inl (qC (by simp))) DJ
    rw[cy,List.length_cons] at bq;have Ni:Hid (R=.ok s1):=aa (by rw[←Ss.out,rm,wX,rG])
    have mz:=aa bq;clear FI hkb Yr SE hst bq rm;go_wp2_with fail
    refine mz.out.mono ?_;intro e w3 hp;obtain⟨v,rfl⟩:=hp.ret;have HP:=aa hp;clear hp;go_wp2_with fail
    go_ret
    rw[HE.out,Ni.out];exact aq.Yl (l:={ fn:=f,blk:=m,iw:=x++[]}) xI.out.jk xI.out.fw uJ.out.apart uJ.out.own uJ.out.top HP.out
theorem eU.Ys {T:List Nd} {B b:Nat} {nv:Value} {ub ob f:Nat} {pa:Option Addr} {lv:Value} {ms:List Nat} {L:List cO} {st:aI} {w:World} {a s:Nat} (i:Nat) (h:eU T B b nv ub ob f pa lv ms L st w a (s+1)) (o:Obj):eU T B b nv ub ob f pa lv ms L (st.setOf i f) ((w.setCell ⟨ob,i,none⟩ (.int .i64 (f:Int))).alloc o).drew a (s+1)∧cQ B ob lv L.length (ep L) w ((w.setCell ⟨ob,i,none⟩ (.int .i64 (f:Int))).alloc o).drew∧dc ((w.setCell ⟨ob,i,none⟩ (.int .i64 (f:Int))).alloc o).drew B lv L:=by
 obtain⟨h1,h2,h3⟩:=h.zero.setOf i o;exact⟨⟨h1.fA,h1.rs,h1.pos,h.hd,h1.cx,h1.few,h1.fr,h1.names,h.fns,h.fw⟩,h2,h3⟩
theorem aq.tV {T:List Nd} {B b:Nat} {nv:Value} {ub ob f:Nat} {pa:Option Addr} {lv:Value} {ms:List Nat} {L:List cO} {st:aI} {w w':World} {a s:Nat} {r:Rs aI} {e:Ending} (h:eU T B b nv ub ob f pa lv ms L st w a s) (hp:gD B b nv T.length ub ob r w e w') (hn :∀s',r=.ok s'→s'.names=st.names):aq B b nv T.length ub ob lv L st r w e w':=by
 refine⟨hp.1,?_⟩;have h2:=hp.2;cases r with
 | error y=>exact h2
 | ok s' =>
  obtain⟨k1,k2,k3⟩:=h2;have hf :∀top,cQ B ob lv L.length top w w':=fun top=>cQ.uQ k3 (by decide) hp.1
  refine⟨k1,k2,hf _,[],hn s' rfl,fun _=>rfl,?_⟩
  rw[jF];exact h.pos.fw.jk (hf none) (ag _)
theorem aq.after {B b:Nat} {nv:Value} {N ub ob:Nat} {lv:Value} {L:List cO} {st s1:aI} {r:Rs aI} {w w1 w2:World} {e:Ending} (hf:cQ B ob lv L.length (ep L) w w1) (hn:s1.names=st.names) (h:aq B b nv N ub ob lv L s1 r w1 e w2):aq B b nv N ub ob lv L st r w e w2:=by
 refine⟨hf.below.trans h.1,?_⟩;have h2:=h.2;cases r with
 | error y=>exact h2
 | ok s =>
  obtain⟨k1,k2,k3,x,k4,k5,k6⟩:=h2;exact⟨k1,k2,hf.trans k3,x,by rw[k4,hn],k5,k6⟩
theorem dZ {T:List Nd} {B b ub ob f bk o c lc a s:Nat} {pa la:Option Addr} {ms:List Nat} {L:List cO} {st:aI} {w:World} (loop:Int) (i:Nat) (h:eU T B b (.slice (some ⟨bk,o,none⟩) T.length c) ub ob f pa (.slice la L.length lc) ms L st w a (s+1)) (dH:bk<B) :∃W1,W1=((w.setCell ⟨ob,i,none⟩ (.int .i64 (f:Int))).alloc (.cells #[.int .i64 (f:Int),.int .i64 loop,.pointer pa,.slice la L.length lc] 69)).drew∧RowKit.Hid (eU T B b (.slice (some ⟨bk,o,none⟩) T.length c) ub ob f pa (.slice la L.length lc) ms L (st.setOf i f) W1 a (s+1))∧RowKit.Hid (cQ B ob (.slice la L.length lc) L.length (ep L) w W1)∧RowKit.Hid (dc W1 B (.slice la L.length lc) L)∧RowKit.Hid (W1.heap[w.heap.size]? = some (.cells #[.int .i64 (f:Int),.int .i64 loop,.pointer pa,.slice la L.length lc] 69 (0,0)))∧(∀j v,w.cell? ⟨bk,j,none⟩=some v→W1.cell? ⟨bk,j,none⟩=some v)∧W1.cell? ⟨b,0,none⟩=some (.slice (some ⟨bk,o,none⟩) T.length c)∧b<W1.heap.size∧w.heap.size<W1.heap.size∧bk<W1.heap.size∧W1.cell? ⟨w.heap.size,0,none⟩=some (.int .i64 (f:Int))∧W1.cell? ⟨w.heap.size,1,none⟩=some (.int .i64 loop)∧W1.cell? ⟨w.heap.size,2,none⟩=some (.pointer pa)∧W1.cell? ⟨w.heap.size,3,none⟩=some (.slice la L.length lc):=by
 have ru:=h.Ys i (.cells #[.int .i64 (f:Int),.int .i64 loop,.pointer pa,.slice la L.length lc] 69);have eB:=heap_alloc_new (w.setCell ⟨ob,i,none⟩ (.int .i64 (f:Int))) (.cells #[.int .i64 (f:Int),.int .i64 loop,.pointer pa,.slice la L.length lc] 69);obtain⟨W1,hW1⟩ :∃W1,W1=((w.setCell ⟨ob,i,none⟩ (.int .i64 (f:Int))).alloc (.cells #[.int .i64 (f:Int),.int .i64 loop,.pointer pa,.slice la L.length lc] 69)).drew:=⟨_,rfl⟩;rw[←hW1] at ru;have jV:W1.heap[w.heap.size]? = some (.cells #[.int .i64 (f:Int),.int .i64 loop,.pointer pa,.slice la L.length lc] 69 (0,0)):=by
  rw[hW1];have e:(w.setCell ⟨ob,i,none⟩ (.int .i64 (f:Int))).heap.size=w.heap.size:=by simp[World.setCell]
  rw[e] at eB;exact eB
 obtain⟨_,_,hw⟩:=ru.1.rs;have hl:=(aM.1 jV).1;have hB:=h.rs;obtain⟨_,_,hv⟩:=hB;have ca:B≤w.heap.size:=by have:=h.fA.nodes;obtain⟨_,_,_,_,_,h2,_⟩:=this;omega
 exact⟨W1,hW1,aa ru.1,aa ru.2.1,aa ru.2.2,aa jV,fun j v hv=>(ru.2.1.below.cell (p:=⟨bk,j,none⟩) dH).trans hv,ab hw.blk 0,hw.mN.1,hl,by omega,ab jV 0,ab jV 1,ab jV 2,ab jV 3⟩
theorem gL {T:List Nd} {B b ub ob i f lc:Nat} {nv:Value} {h:Nd} {ks:List Lt} {loop:Int} {pa la:Option Addr} {ms:List Nat} {L:List cO} {st:aI} {w:World} (gj :∀x∈T,x.s.size≤65536∧∀s∈x.names,s.size≤65536) (hn:gW T (.mk i h ks)) (gX :∀u:Lt,u.size<Lt.al ks+1→gW T u→bA T B b nv ub ob u) (hr:eU T B b nv ub ob f pa (.slice la L.length lc) ms L st w (Lt.wt (.mk i h ks)) (Lt.size (.mk i h ks))) (bT:18≤(Lt.mk i h ks).hd.kind→loop=cK f st.frames) (cr:L≠[]∨(Lt.mk i h ks).hd.kind=18) :
  ∃(bk o c:Nat) (NA:Option Addr) (nc:Nat) (KA:Option Addr) (kc:Nat),nv=(.slice (some ⟨bk,o,none⟩) T.length c)∧bk<B∧B≤w.heap.size∧w.cell? ⟨bk,o+i*7,none⟩=some (.int .i64 h.kind)∧w.cell? ⟨bk,o+i*7+1,none⟩=some (.int .i64 h.line)∧w.cell? ⟨bk,o+i*7+2,none⟩=some (.int .i64 h.op)∧w.cell? ⟨bk,o+i*7+3,none⟩=some (.int .i64 h.num)∧w.cell? ⟨bk,o+i*7+4,none⟩=some (.string h.s)∧w.cell? ⟨bk,o+i*7+5,none⟩=some (.slice NA h.names.length nc)∧w.cell? ⟨bk,o+i*7+6,none⟩=some (.slice KA h.kids.length kc)∧h.kids.length≤20000∧i<T.length∧T.length≤20000∧b<w.heap.size∧ub<w.heap.size∧ob<w.heap.size∧w.cell? ⟨b,0,none⟩=some (.slice (some ⟨bk,o,none⟩) T.length c)∧w.cell? ⟨b,3,none⟩=some (.slice (some ⟨ob,0,none⟩) T.length T.length)∧w.cell? ⟨ob,i,none⟩=some (Hi st.of i)∧w.frozen? ⟨ob,i,none⟩=false∧bk<w.heap.size ∧
   RowKit.Hid (eU T B b (.slice (some ⟨bk,o,none⟩) T.length c) ub ob f pa (.slice la L.length lc) ms L st w (h.names.length+Lt.fu ks) (Lt.al ks+1))∧RowKit.Hid (gW T (.mk i h ks))∧RowKit.Hid (∀u:Lt,u.size<Lt.al ks+1→gW T u→bA T B b (.slice (some ⟨bk,o,none⟩) T.length c) ub ob u)∧RowKit.Hid (18≤h.kind→loop=cK f st.frames)∧RowKit.Hid (L≠[]∨h.kind=18)∧RowKit.Hid (fE T ks)∧RowKit.Hid (h.kind≠18→∀k∈ks,Still k)∧RowKit.Hid (qh h.kind h.num (jE ks))∧RowKit.Hid (h.kids=ks.map fun k=>(k.loc:Int))∧RowKit.Hid (h.kids.length=ks.length)∧RowKit.Hid (T[i]? = some h)∧RowKit.Hid (h.s.size≤65536∧∀s∈h.names,s.size≤65536)∧RowKit.Hid (h.kids=[]∨∃bk o,KA=some ⟨bk,o,none⟩∧bk<B∧∀(j:Nat) x,h.kids[j]? = some x→w.cell? ⟨bk,o+j,none⟩=some (.int .i64 x)):=by
 have p9:=hn.sub;have mD:=hn.yT;unfold Lt.In at mD;obtain⟨hx,dd,_⟩:=mD;replace hr:eU T B b nv ub ob f pa (.slice la L.length lc) ms L st w (h.names.length+Lt.fu ks) (Lt.al ks+1):=by have h1:=hr;rw[Lt.wt,Lt.size] at h1;exact h1
 replace bT:18≤h.kind→loop=cK f st.frames:=bT;replace cr:L≠[]∨h.kind=18:=cr;obtain⟨lf,lg,lh⟩:=p9;replace lf:fE T ks:=lf;replace lg:h.kind≠18→∀k∈ks,Still k:=lg;replace lh:qh h.kind h.num (jE ks):=lh;have FK:=gj h (aV hx);obtain⟨bk,o,c,rfl,dH,ca,dJ⟩:=hr.fA.nodes;obtain⟨u7,u9,eL,⟨NA,nc,wg,_⟩,⟨KA,kc,rz,uC,IC⟩⟩:=dJ i h hx;have rS:h.kids.length≤20000:=(hr.fA.small h (aV hx)).1;have oW:h.kids.length=ks.length:=by rw[dd,bS]
 subst wg rz;obtain⟨x0,x1,x2,x3,x4,x5,x6⟩:=eL;have wC:i<T.length:=(aJ.1 hx).1;have pU:=hr.fA.few;obtain⟨fv,FL,hw⟩:=id hr.rs;obtain⟨hbl,po,tm⟩:=hw.mN;have d0:w.cell? ⟨b,0,none⟩=some (.slice (some ⟨bk,o,none⟩) T.length c):=ab hw.blk 0;have d3:w.cell? ⟨b,3,none⟩=some (.slice (some ⟨ob,0,none⟩) T.length T.length):=ab hw.blk 3;obtain⟨u0,v0⟩:=bZ hw.wy (j:=i) (by omega)
 have gP:bk<w.heap.size:=by omega
 exact⟨bk,o,c,NA,nc,KA,kc,rfl,dH,ca,x0,x1,x2,x3,x4,x5,x6,rS,wC,pU,hbl,po,tm,d0,d3,u0,v0,gP,aa hr,aa hn,aa gX,aa bT,aa cr,aa lf,aa lg,aa lh,aa dd,aa oW,aa hx,aa FK,aa IC⟩
theorem SF {T:List Nd} {B b:Nat} {nv:Value} {ub ob:Nat} (gj :∀x∈T,x.s.size≤65536∧∀s∈x.names,s.size≤65536) (i:Nat) (h:Nd) (ks:List Lt) (hn:gW T (.mk i h ks)) (gX :∀u:Lt,u.size<Lt.al ks+1→gW T u→bA T B b nv ub ob u) (hk:h.kind=6):bA T B b nv ub ob (.mk i h ks):=by
 intro f loop pa la lc ms L st w hr bT cr;show Calls Tryz.prog 18 #[.pointer (some ⟨b,0,none⟩),.int .i64 (i:Int),.agg #[.int .i64 (f:Int),.int .i64 loop,.pointer pa,.slice la L.length lc]] w (aq B b nv T.length ub ob (.slice la L.length lc) L st (bh (.mk i h ks) f st) w)
 obtain⟨bk,o,c,NA,nc,KA,kc,rfl,dH,ca,x0,x1,x2,x3,x4,x5,x6,rS,wC,pU,hbl,po,tm,d0,d3,u0,v0,gP,HR,HN,tQ,iN,kG,fj,tL,o0,fK,qG,HX,yY,Dz⟩:=gL gj hn gX hr bT cr;clear hr hn gX bT cr gj;have q6:(h.kind == 6)=true:=by rw[hk];rfl
 have bO:=aa hk;clear hk;go_enter Tryz.func18,Tryz.ntmps18
 go_wp2_with fail
 go_region
 obtain⟨W1,hW1,HZ,fy,pE,Br,K,y0,tz,oF,tA,k0,k1,k2,k3⟩:=dZ loop i HR.out dH;rw[←hW1];have x0:=K _ _ x0;have x1:=K _ _ x1;have x2:=K _ _ x2;have x3:=K _ _ x3;have x4:=K _ _ x4;have x5:=K _ _ x5;have x6:=K _ _ x6;clear hW1 K d0 d3 u0 v0;have d0:=y0;clear y0;go_wp2_with fail
 obtain⟨W2,hW2⟩ :∃W2,W2=W1.alloc (.cells #[.int .i64 h.kind,.int .i64 h.line,.int .i64 h.op,.int .i64 h.num,.string h.s,.slice NA h.names.length nc,.slice KA h.kids.length kc] 54):=⟨_,rfl⟩;have df:Below W1.heap.size W1 W2:=by rw[hW2];exact(Below.refl _ _).alloc (ag _) _
 rw[←hW2];have hr2:=HZ.out.dt df;have hf2:cQ B ob (.slice la L.length lc) L.length (ep L) w W2:=fy.out.trans (cQ.bJ df HZ.out.world);have wD:=aa hr2;have lR:=aa hf2;refine(LQ b i f h loop pa la L.length lc (st.setOf i f) W2 hr2.fA hr2.rs HX.out hr2.cx.lt).mono ?_;intro e w3 hp;have hv:=aq.tV hr2 hp (fun s' hs'=>by
  split at hs'
  ·injection hs' with hs';rw[←hs']
  ·cases hs')
 obtain⟨v,rfl⟩:=hv.ret;have HV:=aa hv;clear hp hv hr2 hf2;go_wp2_with fail
 go_ret
 have hE:bh (.mk i h ks) f st=(if ((st.setOf i f).fn f).many then .ok (st.setOf i f) else .error (14,h.line)):=by
  rw[cV];rw[aj bO.out]
 rw[hE];exact aq.after lR.out rfl HV.out
theorem SG {T:List Nd} {B b:Nat} {nv:Value} {ub ob:Nat} (gj :∀x∈T,x.s.size≤65536∧∀s∈x.names,s.size≤65536) (i:Nat) (h:Nd) (ks:List Lt) (hn:gW T (.mk i h ks)) (gX :∀u:Lt,u.size<Lt.al ks+1→gW T u→bA T B b nv ub ob u) (hk:h.kind=7):bA T B b nv ub ob (.mk i h ks):=by
 intro f loop pa la lc ms L st w hr bT cr;show Calls Tryz.prog 18 #[.pointer (some ⟨b,0,none⟩),.int .i64 (i:Int),.agg #[.int .i64 (f:Int),.int .i64 loop,.pointer pa,.slice la L.length lc]] w (aq B b nv T.length ub ob (.slice la L.length lc) L st (bh (.mk i h ks) f st) w)
 obtain⟨bk,o,c,NA,nc,KA,kc,rfl,dH,ca,x0,x1,x2,x3,x4,x5,x6,rS,wC,pU,hbl,po,tm,d0,d3,u0,v0,gP,HR,HN,tQ,iN,kG,fj,tL,o0,fK,qG,HX,yY,Dz⟩:=gL gj hn gX hr bT cr;clear hr hn gX bT cr gj;have q6:(h.kind == 6)=false:=by rw[hk];rfl
 have q7:(h.kind == 7)=true:=by rw[hk];rfl
 have bO:=aa hk;clear hk;go_enter Tryz.func18,Tryz.ntmps18
 go_wp2_with fail
 go_region
 obtain⟨W1,hW1,HZ,fy,pE,Br,K,y0,tz,oF,tA,k0,k1,k2,k3⟩:=dZ loop i HR.out dH;rw[←hW1];have x0:=K _ _ x0;have x1:=K _ _ x1;have x2:=K _ _ x2;have x3:=K _ _ x3;have x4:=K _ _ x4;have x5:=K _ _ x5;have x6:=K _ _ x6;clear hW1 K d0 d3 u0 v0;have d0:=y0;clear y0;go_wp2_with fail
 obtain⟨W2,hW2⟩ :∃W2,W2=W1.alloc (.cells #[.int .i64 h.kind,.int .i64 h.line,.int .i64 h.op,.int .i64 h.num,.string h.s,.slice NA h.names.length nc,.slice KA h.kids.length kc] 54):=⟨_,rfl⟩;have df:Below W1.heap.size W1 W2:=by rw[hW2];exact(Below.refl _ _).alloc (ag _) _
 rw[←hW2];have hr2:=HZ.out.dt df;have hf2:cQ B ob (.slice la L.length lc) L.length (ep L) w W2:=fy.out.trans (cQ.bJ df HZ.out.world);have wD:=aa hr2;have lR:=aa hf2;refine(Mn b i f h loop pa la lc L (st.setOf i f) W2 hr2.fA hr2.rs HX.out hr2.pos.fw hr2.pos.names hr2.cx hr2.few (by have:=hr2.fns;omega) (by have:=hr2.fw;omega) (by have:=yY.out.1;unfold maxLen;omega)).mono ?_
 intro e w3 hp;have hv:=aq.tV hr2 hp (fun s' hs'=>(yI hs').2)
 obtain⟨v,rfl⟩:=hv.ret;have HV:=aa hv;clear hp hv hr2 hf2;go_wp2_with fail
 go_ret
 have hE:bh (.mk i h ks) f st=lI i f h.s h.line (st.setOf i f):=by
  rw[cV];rw[ae (by have:=bO.out;omega)]
  rw[aj bO.out]
 rw[hE];exact aq.after lR.out rfl HV.out
theorem Nj {T:List Nd} {B b:Nat} {nv:Value} {ub ob:Nat} (gj :∀x∈T,x.s.size≤65536∧∀s∈x.names,s.size≤65536) (i:Nat) (h:Nd) (ks:List Lt) (hn:gW T (.mk i h ks)) (gX :∀u:Lt,u.size<Lt.al ks+1→gW T u→bA T B b nv ub ob u) (hk:h.kind=30):bA T B b nv ub ob (.mk i h ks):=by
 intro f loop pa la lc ms L st w hr bT cr;show Calls Tryz.prog 18 #[.pointer (some ⟨b,0,none⟩),.int .i64 (i:Int),.agg #[.int .i64 (f:Int),.int .i64 loop,.pointer pa,.slice la L.length lc]] w (aq B b nv T.length ub ob (.slice la L.length lc) L st (bh (.mk i h ks) f st) w)
 obtain⟨bk,o,c,NA,nc,KA,kc,rfl,dH,ca,x0,x1,x2,x3,x4,x5,x6,rS,wC,pU,hbl,po,tm,d0,d3,u0,v0,gP,HR,HN,tQ,iN,kG,fj,tL,o0,fK,qG,HX,yY,Dz⟩:=gL gj hn gX hr bT cr;clear hr hn gX bT cr gj;have q6:(h.kind == 6)=false:=by rw[hk];rfl
 have q7:(h.kind == 7)=false:=by rw[hk];rfl
 have yZ:(h.kind == 11)=false:=by rw[hk];rfl
 have zO:(h.kind == 18)=false:=by rw[hk];rfl
 have Wg:(h.kind == 23)=false:=by rw[hk];rfl
 have Yt:(h.kind == 26)=false:=by rw[hk];rfl
 have q27:(h.kind == 27)=false:=by rw[hk];rfl
 have q24:(h.kind == 24)=false:=by rw[hk];rfl
 have q30:(h.kind == 30)=true:=by rw[hk];rfl
 have bO:=aa hk;clear hk;go_enter Tryz.func18,Tryz.ntmps18
 go_wp2_with fail
 go_region
 obtain⟨W1,hW1,HZ,fy,pE,Br,K,y0,tz,oF,tA,k0,k1,k2,k3⟩:=dZ loop i HR.out dH;rw[←hW1];have x0:=K _ _ x0;have x1:=K _ _ x1;have x2:=K _ _ x2;have x3:=K _ _ x3;have x4:=K _ _ x4;have x5:=K _ _ x5;have x6:=K _ _ x6;clear hW1 K d0 d3 u0 v0;have d0:=y0;clear y0;go_wp2_with fail
 obtain⟨W2,hW2⟩ :∃W2,W2=W1.alloc (.cells #[.int .i64 h.kind,.int .i64 h.line,.int .i64 h.op,.int .i64 h.num,.string h.s,.slice NA h.names.length nc,.slice KA h.kids.length kc] 54):=⟨_,rfl⟩;have df:Below W1.heap.size W1 W2:=by rw[hW2];exact(Below.refl _ _).alloc (ag _) _
 rw[←hW2];have hr2:=HZ.out.dt df;have hf2:cQ B ob (.slice la L.length lc) L.length (ep L) w W2:=fy.out.trans (cQ.bJ df HZ.out.world);have wD:=aa hr2;have lR:=aa hf2;refine(AP b i f h loop pa la L.length lc (st.setOf i f) W2 hr2.fA hr2.rs HX.out (iN.out (by have:=bO.out;omega))).mono ?_
 intro e w3 hp;have hv:=aq.tV hr2 hp (fun s' hs'=>(rJ hs').2)
 obtain⟨v,rfl⟩:=hv.ret;have HV:=aa hv;clear hp hv hr2 hf2;go_wp2_with fail
 go_ret
 have hE:bh (.mk i h ks) f st=dX i f h.line (st.setOf i f):=by
  rw[cV];rw[ae (by have:=bO.out;omega)]
  rw[ae (by have:=bO.out;omega)]
  rw[ae (by have:=bO.out;omega)]
  rw[ae (by have:=bO.out;omega)]
  rw[ae (by have:=bO.out;omega)]
  rw[ae (by have:=bO.out;omega)]
  rw[ae (by have:=bO.out;omega)]
  rw[ae (by have:=bO.out;omega)]
  rw[ae (by have:=bO.out;omega)]
  rw[aj bO.out]
 rw[hE];exact aq.after lR.out rfl HV.out
theorem Nk {T:List Nd} {B b:Nat} {nv:Value} {ub ob:Nat} (gj :∀x∈T,x.s.size≤65536∧∀s∈x.names,s.size≤65536) (i:Nat) (h:Nd) (ks:List Lt) (hn:gW T (.mk i h ks)) (gX :∀u:Lt,u.size<Lt.al ks+1→gW T u→bA T B b nv ub ob u) (hk:h.kind=31):bA T B b nv ub ob (.mk i h ks):=by
 intro f loop pa la lc ms L st w hr bT cr;show Calls Tryz.prog 18 #[.pointer (some ⟨b,0,none⟩),.int .i64 (i:Int),.agg #[.int .i64 (f:Int),.int .i64 loop,.pointer pa,.slice la L.length lc]] w (aq B b nv T.length ub ob (.slice la L.length lc) L st (bh (.mk i h ks) f st) w)
 obtain⟨bk,o,c,NA,nc,KA,kc,rfl,dH,ca,x0,x1,x2,x3,x4,x5,x6,rS,wC,pU,hbl,po,tm,d0,d3,u0,v0,gP,HR,HN,tQ,iN,kG,fj,tL,o0,fK,qG,HX,yY,Dz⟩:=gL gj hn gX hr bT cr;clear hr hn gX bT cr gj;have q6:(h.kind == 6)=false:=by rw[hk];rfl
 have q7:(h.kind == 7)=false:=by rw[hk];rfl
 have yZ:(h.kind == 11)=false:=by rw[hk];rfl
 have zO:(h.kind == 18)=false:=by rw[hk];rfl
 have Wg:(h.kind == 23)=false:=by rw[hk];rfl
 have Yt:(h.kind == 26)=false:=by rw[hk];rfl
 have q27:(h.kind == 27)=false:=by rw[hk];rfl
 have q24:(h.kind == 24)=false:=by rw[hk];rfl
 have q30:(h.kind == 30)=false:=by rw[hk];rfl
 have q31:(h.kind == 31)=true:=by rw[hk];rfl
 have bO:=aa hk;clear hk;go_enter Tryz.func18,Tryz.ntmps18
 go_wp2_with fail
 go_region
 obtain⟨W1,hW1,HZ,fy,pE,Br,K,y0,tz,oF,tA,k0,k1,k2,k3⟩:=dZ loop i HR.out dH;rw[←hW1];have x0:=K _ _ x0;have x1:=K _ _ x1;have x2:=K _ _ x2;have x3:=K _ _ x3;have x4:=K _ _ x4;have x5:=K _ _ x5;have x6:=K _ _ x6;clear hW1 K d0 d3 u0 v0;have d0:=y0;clear y0;go_wp2_with fail
 obtain⟨W2,hW2⟩ :∃W2,W2=W1.alloc (.cells #[.int .i64 h.kind,.int .i64 h.line,.int .i64 h.op,.int .i64 h.num,.string h.s,.slice NA h.names.length nc,.slice KA h.kids.length kc] 54):=⟨_,rfl⟩;have df:Below W1.heap.size W1 W2:=by rw[hW2];exact(Below.refl _ _).alloc (ag _) _
 rw[←hW2];have hr2:=HZ.out.dt df;have hf2:cQ B ob (.slice la L.length lc) L.length (ep L) w W2:=fy.out.trans (cQ.bJ df HZ.out.world);have wD:=aa hr2;have lR:=aa hf2;refine(Mq b i f h loop pa la lc L.length ms (st.setOf i f) W2 hr2.fA hr2.rs HX.out hr2.pos.blk (by have:=yY.out.1;unfold maxLen;omega)).mono ?_
 intro e w3 hp;have hv:=aq.tV hr2 hp (fun s' hs'=>(rK _ hs').2)
 obtain⟨v,rfl⟩:=hv.ret;have HV:=aa hv;clear hp hv hr2 hf2;go_wp2_with fail
 go_ret
 have hE:bh (.mk i h ks) f st=dp i f h.s h.line (st.setOf i f) (st.setOf i f).frames:=by
  rw[cV];rw[ae (by have:=bO.out;omega)]
  rw[ae (by have:=bO.out;omega)]
  rw[ae (by have:=bO.out;omega)]
  rw[ae (by have:=bO.out;omega)]
  rw[ae (by have:=bO.out;omega)]
  rw[ae (by have:=bO.out;omega)]
  rw[ae (by have:=bO.out;omega)]
  rw[ae (by have:=bO.out;omega)]
  rw[ae (by have:=bO.out;omega)]
  rw[ae (by have:=bO.out;omega)]
  rw[aj bO.out]
 rw[hE];exact aq.after lR.out rfl HV.out
theorem eX :∀{ks:List Lt} {k:Lt},k∈ks→k.size≤Lt.al ks
 | x::ks,k,h=>by
  rw[Lt.al];rcases ba.1 h with rfl|h
  ·omega
  ·have:=eX h;omega
theorem Nl {k n:Int} {kk:List Int} (h:qh k n kk) (h1:1≤k) (h2:k<18) (h3:k≠11) :∀a∈kk,a<18:=by
 intro a ha;by_cases c1:k=1∨k=2∨k=3∨k=4∨k=5∨k=6∨k=7∨k=30∨k=31∨k=32
 ·rw[h.none c1] at ha;cases ha
 by_cases c2:k=8∨k=12∨k=17
 ·obtain⟨x,y,e,hx,hy⟩:=h.two c2
  unfold tM at hx hy;rw[e] at ha;simp only[ba,oL,oP] at ha;rcases ha with rfl|rfl<;>omega
 by_cases c3:k=9∨k=10
 ·have:=(h.call c3).2 a ha
  unfold tM at this;omega
 by_cases c5:k=13∨k=14∨k=16
 ·obtain⟨x,e,hx⟩:=h.one c5
  unfold tM at hx;rw[e,bR] at ha;omega
 by_cases c6:k=15
 ·have:=h.items c6 a ha
  omega
 omega
theorem ID (st:aI) (i f:Nat):(st.setOf i f).setOf i f=st.setOf i f:=by
 unfold aI.setOf;simp only[aI.mk.injEq,true_and,p7];funext j
 by_cases e:j=i
 ·simp[e]
 ·simp[e]
theorem aq.SH {B b:Nat} {nv:Value} {N ub ob:Nat} {lv:Value} {L:List cO} {st st':aI} {r:Rs aI} {w w2:World} {e:Ending} (h:aq B b nv N ub ob lv L st r w e w2) (hn:st'.names=st.names) (hr :∀s,r=.ok s→s.names=st.names):aq B b nv N ub ob lv L st' (r.map fun s=>s.back st') w e w2:=by
 cases r with
 | error y=>exact h.same hn rfl
 | ok s=>exact h.same hn ⟨rfl,rfl,rfl,hn.trans (hr s rfl).symm⟩
theorem IE {T:List Nd} {B b:Nat} {nv:Value} {ub ob:Nat} (i f:Nat) (h:Nd) (ks:List Lt) (loop:Int) (pa la:Option Addr) (lc:Nat) (ms:List Nat) (L:List cO) (hL:L≠[]) (st:aI) (w:World) (hr:eU T B b nv ub ob f pa (.slice la L.length lc) ms L st w (h.names.length+Lt.fu ks) (Lt.al ks)) (hx:T[i]? = some h) (hk:h.kids=ks.map fun k=>(k.loc:Int)) (hn:fE T ks) (hV :∀k∈ks,bA T B b nv ub ob k)
  (hl :∀k∈ks,18≤k.hd.kind→loop=cK f st.frames) (hsz :∀s∈h.names,s.size≤65536) (hd:gE h.kind h.kids.length=(true,(h.kids.length:Int),false)) :
  Calls Tryz.prog 35 #[.pointer (some ⟨b,0,none⟩),.int .i64 (i:Int),.agg #[.int .i64 (f:Int),.int .i64 loop,.pointer pa,.slice la L.length lc]] w (aq B b nv T.length ub ob (.slice la L.length lc) L st ((aG ks f st).bind fun s1=>bz i f h.line h.names s1) w):=by
 cases L with
 | nil=>exact absurd rfl hL
 | cons l r=>exact MZ i f h ks loop pa la lc ms l r st w hr hx hk hn hV hl hsz hd
theorem IF {T:List Nd} {B b:Nat} {nv:Value} {ub ob:Nat} (i f:Nat) (h:Nd) (ks:List Lt) (loop:Int) (pa la:Option Addr) (lc:Nat) (ms:List Nat) (L:List cO) (hL:L≠[]) (st:aI) (w:World) (hr:eU T B b nv ub ob f pa (.slice la L.length lc) ms L st w (h.names.length+Lt.fu ks) (Lt.al ks)) (hx:T[i]? = some h) (hk:h.kids=ks.map fun k=>(k.loc:Int)) (hn:fE T ks) (hV :∀k∈ks,bA T B b nv ub ob k)
  (hl :∀k∈ks,18≤k.hd.kind→loop=cK f st.frames) (hsz :∀s∈h.names,s.size≤65536) (hd:gE h.kind h.kids.length=(true,0,false)) :
  Calls Tryz.prog 35 #[.pointer (some ⟨b,0,none⟩),.int .i64 (i:Int),.agg #[.int .i64 (f:Int),.int .i64 loop,.pointer pa,.slice la L.length lc]] w (aq B b nv T.length ub ob (.slice la L.length lc) L st ((bz i f h.line h.names st).bind fun s1=>aG ks f s1) w):=by
 cases L with
 | nil=>exact absurd rfl hL
 | cons l r=>exact M6 i f h ks loop pa la lc ms l r st w hr hx hk hn hV hl hsz hd
theorem DK {T:List Nd} {B b:Nat} {nv:Value} {ub ob:Nat} (gj :∀x∈T,x.s.size≤65536∧∀s∈x.names,s.size≤65536) (i:Nat) (h:Nd) (ks:List Lt) (hn:gW T (.mk i h ks)) (gX :∀u:Lt,u.size<Lt.al ks+1→gW T u→bA T B b nv ub ob u) (hk:h.kind≠6∧h.kind≠7∧h.kind≠11∧h.kind≠18∧h.kind≠19∧h.kind≠23∧h.kind≠24∧h.kind≠26∧h.kind≠27∧h.kind≠28∧h.kind≠30∧h.kind≠31):bA T B b nv ub ob (.mk i h ks):=by
 intro f loop pa la lc ms L st w hr bT cr;show Calls Tryz.prog 18 #[.pointer (some ⟨b,0,none⟩),.int .i64 (i:Int),.agg #[.int .i64 (f:Int),.int .i64 loop,.pointer pa,.slice la L.length lc]] w (aq B b nv T.length ub ob (.slice la L.length lc) L st (bh (.mk i h ks) f st) w)
 obtain⟨bk,o,c,NA,nc,KA,kc,rfl,dH,ca,x0,x1,x2,x3,x4,x5,x6,rS,wC,pU,hbl,po,tm,d0,d3,u0,v0,gP,HR,HN,tQ,iN,kG,fj,tL,o0,fK,qG,HX,yY,Dz⟩:=gL gj hn gX hr bT cr;clear hr hn gX bT cr gj;have q6:(h.kind == 6)=false:=aC.2 (by omega)
 have q7:(h.kind == 7)=false:=aC.2 (by omega)
 have yZ:(h.kind == 11)=false:=aC.2 (by omega)
 have zO:(h.kind == 18)=false:=aC.2 (by omega)
 have Wg:(h.kind == 23)=false:=aC.2 (by omega)
 have Yt:(h.kind == 26)=false:=aC.2 (by omega)
 have q27:(h.kind == 27)=false:=aC.2 (by omega)
 have q24:(h.kind == 24)=false:=aC.2 (by omega)
 have q30:(h.kind == 30)=false:=aC.2 (by omega)
 have q31:(h.kind == 31)=false:=aC.2 (by omega)
 have bO:=aa hk;clear hk;go_enter Tryz.func18,Tryz.ntmps18
 go_wp2_with fail
 go_region
 obtain⟨W1,hW1,HZ,fy,pE,Br,K,y0,tz,oF,tA,k0,k1,k2,k3⟩:=dZ loop i HR.out dH;rw[←hW1];have x0:=K _ _ x0;have x1:=K _ _ x1;have x2:=K _ _ x2;have x3:=K _ _ x3;have x4:=K _ _ x4;have x5:=K _ _ x5;have x6:=K _ _ x6;clear hW1 K d0 d3 u0 v0;have d0:=y0;clear y0;go_wp2_with fail
 obtain⟨W2,hW2⟩ :∃W2,W2=W1.alloc (.cells #[.int .i64 h.kind,.int .i64 h.line,.int .i64 h.op,.int .i64 h.num,.string h.s,.slice NA h.names.length nc,.slice KA h.kids.length kc] 54):=⟨_,rfl⟩;have df:Below W1.heap.size W1 W2:=by rw[hW2];exact(Below.refl _ _).alloc (ag _) _
 rw[←hW2];have hr2:=HZ.out.dt df;have hf2:cQ B ob (.slice la L.length lc) L.length (ep L) w W2:=fy.out.trans (cQ.bJ df HZ.out.world);have tB :∀k∈ks,bA T B b (.slice (some ⟨bk,o,none⟩) T.length c) ub ob k:=fun k hk=>tQ.out k (by have:=eX hk;omega) (fj.out.at_ k hk)
 refine(FG i f h ks loop pa la lc ms L (st.setOf i f) W2 (hr2.mono (wZ _ _) (iG _)) HX.out fK.out fj.out tB (fun k hk kJ=>by
  by_cases e:18≤h.kind
  ·exact iN.out e
  ·have:=Nl o0.out HN.out.kind.1 (by show h.kind<18;omega) (by have:=bO.out;omega) _ (j3 hk)
   omega) (fun k _=>.inl (kG.out.resolve_right (by have:=bO.out;omega))) (by
  unfold gE;rw[ae (by have:=bO.out;omega),ae (by have:=bO.out;omega),ae (by have:=bO.out;omega),ae (by have:=bO.out;omega)])).mono ?_
 intro e w3 hp;obtain⟨v,rfl⟩:=hp.ret;have HV:=aa hp;have lR:=aa hf2;clear hp hr2 hf2 tB;go_wp2_with fail
 go_ret
 have hE:bh (.mk i h ks) f st=aG ks f (st.setOf i f):=by
  rw[cV];rw[ae (by have:=bO.out;omega)]
  rw[ae (by have:=bO.out;omega)]
  rw[ae (by have:=bO.out;omega)]
  rw[ae (by have:=bO.out;omega)]
  rw[ae (by have:=bO.out;omega)]
  rw[ae (by have:=bO.out;omega)]
  rw[ae (by have:=bO.out;omega)]
  rw[ae (by have:=bO.out;omega)]
  rw[ae (by have:=bO.out;omega)]
  rw[ae (by have:=bO.out;omega)]
  rw[ae (by have:=bO.out;omega)]
 rw[hE];exact aq.after lR.out rfl HV.out
theorem Nn {T:List Nd} {B b:Nat} {nv:Value} {ub ob:Nat} (gj :∀x∈T,x.s.size≤65536∧∀s∈x.names,s.size≤65536) (i:Nat) (h:Nd) (ks:List Lt) (hn:gW T (.mk i h ks)) (gX :∀u:Lt,u.size<Lt.al ks+1→gW T u→bA T B b nv ub ob u) (hk:h.kind=19):bA T B b nv ub ob (.mk i h ks):=by
 intro f loop pa la lc ms L st w hr bT cr;show Calls Tryz.prog 18 #[.pointer (some ⟨b,0,none⟩),.int .i64 (i:Int),.agg #[.int .i64 (f:Int),.int .i64 loop,.pointer pa,.slice la L.length lc]] w (aq B b nv T.length ub ob (.slice la L.length lc) L st (bh (.mk i h ks) f st) w)
 obtain⟨bk,o,c,NA,nc,KA,kc,rfl,dH,ca,x0,x1,x2,x3,x4,x5,x6,rS,wC,pU,hbl,po,tm,d0,d3,u0,v0,gP,HR,HN,tQ,iN,kG,fj,tL,o0,fK,qG,HX,yY,Dz⟩:=gL gj hn gX hr bT cr;clear hr hn gX bT cr gj;have q6:(h.kind == 6)=false:=aC.2 (by omega)
 have q7:(h.kind == 7)=false:=aC.2 (by omega)
 have yZ:(h.kind == 11)=false:=aC.2 (by omega)
 have zO:(h.kind == 18)=false:=aC.2 (by omega)
 have Wg:(h.kind == 23)=false:=aC.2 (by omega)
 have Yt:(h.kind == 26)=false:=aC.2 (by omega)
 have q27:(h.kind == 27)=false:=aC.2 (by omega)
 have q24:(h.kind == 24)=false:=aC.2 (by omega)
 have q30:(h.kind == 30)=false:=aC.2 (by omega)
 have q31:(h.kind == 31)=false:=aC.2 (by omega)
 have bO:=aa hk;clear hk;go_enter Tryz.func18,Tryz.ntmps18
 go_wp2_with fail
 go_region
 obtain⟨W1,hW1,HZ,fy,pE,Br,K,y0,tz,oF,tA,k0,k1,k2,k3⟩:=dZ loop i HR.out dH;rw[←hW1];have x0:=K _ _ x0;have x1:=K _ _ x1;have x2:=K _ _ x2;have x3:=K _ _ x3;have x4:=K _ _ x4;have x5:=K _ _ x5;have x6:=K _ _ x6;clear hW1 K d0 d3 u0 v0;have d0:=y0;clear y0;go_wp2_with fail
 obtain⟨W2,hW2⟩ :∃W2,W2=W1.alloc (.cells #[.int .i64 h.kind,.int .i64 h.line,.int .i64 h.op,.int .i64 h.num,.string h.s,.slice NA h.names.length nc,.slice KA h.kids.length kc] 54):=⟨_,rfl⟩;have df:Below W1.heap.size W1 W2:=by rw[hW2];exact(Below.refl _ _).alloc (ag _) _
 rw[←hW2];have hr2:=HZ.out.dt df;have hf2:cQ B ob (.slice la L.length lc) L.length (ep L) w W2:=fy.out.trans (cQ.bJ df HZ.out.world);have tB :∀k∈ks,bA T B b (.slice (some ⟨bk,o,none⟩) T.length c) ub ob k:=fun k hk=>tQ.out k (by have:=eX hk;omega) (fj.out.at_ k hk)
 refine(IE i f h ks loop pa la lc ms L (kG.out.resolve_right (by have:=bO.out;omega)) (st.setOf i f) W2 (hr2.mono (ag _) (iG _)) HX.out fK.out fj.out tB (fun k hk kJ=>iN.out (by have:=bO.out;omega)) yY.out.2 (by
  unfold gE;rw[ae (by have:=bO.out;omega),ae (by have:=bO.out;omega),ae (by have:=bO.out;omega),aj bO.out])).mono ?_
 intro e w3 hp;obtain⟨v,rfl⟩:=hp.ret;have HV:=aa hp;have lR:=aa hf2;clear hp hr2 hf2 tB;go_wp2_with fail
 go_ret
 have hE:bh (.mk i h ks) f st=((aG ks f (st.setOf i f)).bind fun s1=>bz i f h.line h.names s1):=by
  rw[cV];rw[ae (by have:=bO.out;omega)]
  rw[ae (by have:=bO.out;omega)]
  rw[ae (by have:=bO.out;omega)]
  rw[ae (by have:=bO.out;omega)]
  rw[aj bO.out]
 rw[hE];exact aq.after lR.out rfl HV.out
theorem No {T:List Nd} {B b:Nat} {nv:Value} {ub ob:Nat} (gj :∀x∈T,x.s.size≤65536∧∀s∈x.names,s.size≤65536) (i:Nat) (h:Nd) (ks:List Lt) (hn:gW T (.mk i h ks)) (gX :∀u:Lt,u.size<Lt.al ks+1→gW T u→bA T B b nv ub ob u) (hk:h.kind=28):bA T B b nv ub ob (.mk i h ks):=by
 intro f loop pa la lc ms L st w hr bT cr;show Calls Tryz.prog 18 #[.pointer (some ⟨b,0,none⟩),.int .i64 (i:Int),.agg #[.int .i64 (f:Int),.int .i64 loop,.pointer pa,.slice la L.length lc]] w (aq B b nv T.length ub ob (.slice la L.length lc) L st (bh (.mk i h ks) f st) w)
 obtain⟨bk,o,c,NA,nc,KA,kc,rfl,dH,ca,x0,x1,x2,x3,x4,x5,x6,rS,wC,pU,hbl,po,tm,d0,d3,u0,v0,gP,HR,HN,tQ,iN,kG,fj,tL,o0,fK,qG,HX,yY,Dz⟩:=gL gj hn gX hr bT cr;clear hr hn gX bT cr gj;have q6:(h.kind == 6)=false:=aC.2 (by omega)
 have q7:(h.kind == 7)=false:=aC.2 (by omega)
 have yZ:(h.kind == 11)=false:=aC.2 (by omega)
 have zO:(h.kind == 18)=false:=aC.2 (by omega)
 have Wg:(h.kind == 23)=false:=aC.2 (by omega)
 have Yt:(h.kind == 26)=false:=aC.2 (by omega)
 have q27:(h.kind == 27)=false:=aC.2 (by omega)
 have q24:(h.kind == 24)=false:=aC.2 (by omega)
 have q30:(h.kind == 30)=false:=aC.2 (by omega)
 have q31:(h.kind == 31)=false:=aC.2 (by omega)
 have bO:=aa hk;clear hk;go_enter Tryz.func18,Tryz.ntmps18
 go_wp2_with fail
 go_region
 obtain⟨W1,hW1,HZ,fy,pE,Br,K,y0,tz,oF,tA,k0,k1,k2,k3⟩:=dZ loop i HR.out dH;rw[←hW1];have x0:=K _ _ x0;have x1:=K _ _ x1;have x2:=K _ _ x2;have x3:=K _ _ x3;have x4:=K _ _ x4;have x5:=K _ _ x5;have x6:=K _ _ x6;clear hW1 K d0 d3 u0 v0;have d0:=y0;clear y0;go_wp2_with fail
 obtain⟨W2,hW2⟩ :∃W2,W2=W1.alloc (.cells #[.int .i64 h.kind,.int .i64 h.line,.int .i64 h.op,.int .i64 h.num,.string h.s,.slice NA h.names.length nc,.slice KA h.kids.length kc] 54):=⟨_,rfl⟩;have df:Below W1.heap.size W1 W2:=by rw[hW2];exact(Below.refl _ _).alloc (ag _) _
 rw[←hW2];have hr2:=HZ.out.dt df;have hf2:cQ B ob (.slice la L.length lc) L.length (ep L) w W2:=fy.out.trans (cQ.bJ df HZ.out.world);have tB :∀k∈ks,bA T B b (.slice (some ⟨bk,o,none⟩) T.length c) ub ob k:=fun k hk=>tQ.out k (by have:=eX hk;omega) (fj.out.at_ k hk)
 refine(IF i f h ks loop pa la lc ms L (kG.out.resolve_right (by have:=bO.out;omega)) (st.setOf i f) W2 (hr2.mono (ag _) (iG _)) HX.out fK.out fj.out tB (fun k hk kJ=>iN.out (by have:=bO.out;omega)) yY.out.2 (by
  unfold gE;rw[ae (by have:=bO.out;omega),ae (by have:=bO.out;omega),aj bO.out])).mono ?_
 intro e w3 hp;obtain⟨v,rfl⟩:=hp.ret;have HV:=aa hp;have lR:=aa hf2;clear hp hr2 hf2 tB;go_wp2_with fail
 go_ret
 have hE:bh (.mk i h ks) f st=((bz i f h.line h.names (st.setOf i f)).bind fun s1=>aG ks f s1):=by
  rw[cV];rw[ae (by have:=bO.out;omega)]
  rw[ae (by have:=bO.out;omega)]
  rw[ae (by have:=bO.out;omega)]
  rw[ae (by have:=bO.out;omega)]
  rw[ae (by have:=bO.out;omega)]
  rw[ae (by have:=bO.out;omega)]
  rw[ae (by have:=bO.out;omega)]
  rw[ae (by have:=bO.out;omega)]
  rw[aj bO.out]
 rw[hE];exact aq.after lR.out rfl HV.out
theorem eU.Wh {T:List Nd} {B b:Nat} {nv:Value} {ub ob f:Nat} {pa:Option Addr} {lv:Value} {ms:List Nat} {L:List cO} {st:aI} {w:World} {a s a' s':Nat} (h:eU T B b nv ub ob f pa lv ms L st w a s) (h1:a'≤a) (h2:s'+1≤s):yX T B b nv ub ob f pa lv ms L st w a' s' :=
 ⟨h.fA,h.rs,h.pos,h.cx,h.few,h.fr,by have:=h.names;omega,by have:=h.fns;omega,by have:=h.fw;omega⟩
theorem Nq {T:List Nd} {B b:Nat} {nv:Value} {ub ob:Nat} (gj :∀x∈T,x.s.size≤65536∧∀s∈x.names,s.size≤65536) (i:Nat) (h:Nd) (ks:List Lt) (hn:gW T (.mk i h ks)) (gX :∀u:Lt,u.size<Lt.al ks+1→gW T u→bA T B b nv ub ob u) (hk:h.kind=18):bA T B b nv ub ob (.mk i h ks):=by
 intro f loop pa la lc ms L st w hr bT cr;show Calls Tryz.prog 18 #[.pointer (some ⟨b,0,none⟩),.int .i64 (i:Int),.agg #[.int .i64 (f:Int),.int .i64 loop,.pointer pa,.slice la L.length lc]] w (aq B b nv T.length ub ob (.slice la L.length lc) L st (bh (.mk i h ks) f st) w)
 have p9:=hn.sub;have mD:=hn.yT;unfold Lt.In at mD;obtain⟨hx,dd,_⟩:=mD;replace hr:eU T B b nv ub ob f pa (.slice la L.length lc) ms L st w (h.names.length+Lt.fu ks) (Lt.al ks+1):=by have h1:=hr;rw[Lt.wt,Lt.size] at h1;exact h1
 replace bT:18≤h.kind→loop=cK f st.frames:=bT;replace cr:L≠[]∨h.kind=18:=cr;obtain⟨lf,lg,lh⟩:=p9;replace lf:fE T ks:=lf;replace lg:h.kind≠18→∀k∈ks,Still k:=lg;replace lh:qh h.kind h.num (jE ks):=lh;have FK:=gj h (aV hx);obtain⟨bk,o,c,rfl,dH,ca,dJ⟩:=hr.fA.nodes;obtain⟨u7,u9,eL,⟨NA,nc,wg,_⟩,⟨KA,kc,rz,uC,IC⟩⟩:=dJ i h hx;have rS:h.kids.length≤20000:=(hr.fA.small h (aV hx)).1;have oW:h.kids.length=ks.length:=by rw[dd,bS]
 subst wg rz;obtain⟨x0,x1,x2,x3,x4,x5,x6⟩:=eL;have wC:i<T.length:=(aJ.1 hx).1;have pU:=hr.fA.few;obtain⟨fv,FL,hw⟩:=id hr.rs;obtain⟨hbl,po,tm⟩:=hw.mN;have d0:w.cell? ⟨b,0,none⟩=some (.slice (some ⟨bk,o,none⟩) T.length c):=ab hw.blk 0;have d3:w.cell? ⟨b,3,none⟩=some (.slice (some ⟨ob,0,none⟩) T.length T.length):=ab hw.blk 3;obtain⟨u0,v0⟩:=bZ hw.wy (j:=i) (by omega)
 have gP:bk<w.heap.size:=by omega
 have qo:=aa gj;have HR:=aa hr;have HN:=aa hn;have tQ:=aa gX;have iN:=aa bT;have kG:=aa cr;have fj:=aa lf;have tL:=aa lg;have o0:=aa lh;have fK:=aa dd;have qG:=aa oW;have HX:=aa hx;have yY:=aa FK;have Dz:=aa IC;clear hr hn gX bT cr lf lg lh dd oW hx FK dJ hw gj IC;have q6:(h.kind == 6)=false:=by rw[hk];rfl
 have q7:(h.kind == 7)=false:=by rw[hk];rfl
 have yZ:(h.kind == 11)=false:=by rw[hk];rfl
 have zO:(h.kind == 18)=true:=by rw[hk];rfl
 have bO:=aa hk;clear hk;go_enter Tryz.func18,Tryz.ntmps18
 go_wp2_with fail
 go_region
 obtain⟨W1,hW1,HZ,fy,pE,Br,K,y0,tz,oF,tA,k0,k1,k2,k3⟩:=dZ loop i HR.out dH;rw[←hW1];have x0:=K _ _ x0;have x1:=K _ _ x1;have x2:=K _ _ x2;have x3:=K _ _ x3;have x4:=K _ _ x4;have x5:=K _ _ x5;have x6:=K _ _ x6;clear hW1 K d0 d3 u0 v0;have d0:=y0;clear y0;go_wp2_with fail
 obtain⟨W2,hW2⟩ :∃W2,W2=W1.alloc (.cells #[.int .i64 h.kind,.int .i64 h.line,.int .i64 h.op,.int .i64 h.num,.string h.s,.slice NA h.names.length nc,.slice KA h.kids.length kc] 54):=⟨_,rfl⟩;have df:Below W1.heap.size W1 W2:=by rw[hW2];exact(Below.refl _ _).alloc (ag _) _
 rw[←hW2];have hr2:=HZ.out.dt df;have hf2:cQ B ob (.slice la L.length lc) L.length (ep L) w W2:=fy.out.trans (cQ.bJ df HZ.out.world);have tB :∀k∈ks,bA T B b (.slice (some ⟨bk,o,none⟩) T.length c) ub ob k:=fun k hk=>tQ.out k (by have:=eX hk;omega) (fj.out.at_ k hk)
 refine(xH i f h ks [] false loop pa la lc ms L (st.setOf i f) W2 (.slice none 0 0) (hr2.Wh (wZ _ _) (by show Lt.al ks+0+1≤_;omega)) HX.out fK.out fj.out ⟨by unfold Lt.mW;trivial,by unfold Lt.iu;trivial,by unfold Lt.yC;trivial,by unfold Lt.aR;exact ER,fun k hk=>by cases hk⟩ tB (fun k hk=>by cases hk) ⟨none,0,rfl,ag _,.inl rfl⟩ rfl (fun k hk kJ=>iN.out (by have:=bO.out;omega)) (fun k hk=>by cases hk) (fun x hx=>(qo.out x.hd (aV (uN fj.out.yT (List.getElem?_of_mem hx).choose_spec).2)).1) (by simp)).mono ?_
 intro e w3 hp;obtain⟨v,rfl⟩:=hp.ret;have HV:=aa hp;have lR:=aa hf2;clear hp hr2 hf2 tB;go_wp2_with fail
 go_ret
 have hE:bh (.mk i h ks) f st=(wF i f false ks [] (st.setOf i f)).map fun s=>s.back (st.setOf i f):=by
  rw[cV];rw[ae (by have:=bO.out;omega)]
  rw[ae (by have:=bO.out;omega)]
  rw[ae (by have:=bO.out;omega)]
  rw[aj bO.out];unfold wF;rw[ID];cases gV i f false ks (st.setOf i f) with
  | error y=>rfl
  | ok s1 =>
   show(cW ks 0 f s1).map _=((cW ks 0 f s1).bind fun s2=>aG [] f s2).map _
   cases cW ks 0 f s1 with
   | error y=>rfl
   | ok s2=>show _=(aG [] f s2).map _;rw[fg]
 rw[hE];exact aq.after lR.out rfl HV.out
theorem Nr {T:List Nd} {B b:Nat} {nv:Value} {ub ob:Nat} (gj :∀x∈T,x.s.size≤65536∧∀s∈x.names,s.size≤65536) (i:Nat) (h:Nd) (ks:List Lt) (hn:gW T (.mk i h ks)) (gX :∀u:Lt,u.size<Lt.al ks+1→gW T u→bA T B b nv ub ob u) (hk:h.kind=23):bA T B b nv ub ob (.mk i h ks):=by
 intro f loop pa la lc ms L st w hr bT cr;show Calls Tryz.prog 18 #[.pointer (some ⟨b,0,none⟩),.int .i64 (i:Int),.agg #[.int .i64 (f:Int),.int .i64 loop,.pointer pa,.slice la L.length lc]] w (aq B b nv T.length ub ob (.slice la L.length lc) L st (bh (.mk i h ks) f st) w)
 obtain⟨bk,o,c,NA,nc,KA,kc,rfl,dH,ca,x0,x1,x2,x3,x4,x5,x6,rS,wC,pU,hbl,po,tm,d0,d3,u0,v0,gP,HR,HN,tQ,iN,kG,fj,tL,o0,fK,qG,HX,yY,Dz⟩:=gL gj hn gX hr bT cr;clear hr hn gX bT cr gj;have q6:(h.kind == 6)=false:=by rw[hk];rfl
 have q7:(h.kind == 7)=false:=by rw[hk];rfl
 have yZ:(h.kind == 11)=false:=by rw[hk];rfl
 have zO:(h.kind == 18)=false:=by rw[hk];rfl
 have Wg:(h.kind == 23)=true:=by rw[hk];rfl
 have bO:=aa hk;clear hk;go_enter Tryz.func18,Tryz.ntmps18
 go_wp2_with fail
 go_region
 obtain⟨W1,hW1,HZ,fy,pE,Br,K,y0,tz,oF,tA,k0,k1,k2,k3⟩:=dZ loop i HR.out dH;rw[←hW1];have x0:=K _ _ x0;have x1:=K _ _ x1;have x2:=K _ _ x2;have x3:=K _ _ x3;have x4:=K _ _ x4;have x5:=K _ _ x5;have x6:=K _ _ x6;clear hW1 K d0 d3 u0 v0;have d0:=y0;clear y0;go_wp2_with fail
 obtain⟨W2,hW2⟩ :∃W2,W2=W1.alloc (.cells #[.int .i64 h.kind,.int .i64 h.line,.int .i64 h.op,.int .i64 h.num,.string h.s,.slice NA h.names.length nc,.slice KA h.kids.length kc] 54):=⟨_,rfl⟩;have df:Below W1.heap.size W1 W2:=by rw[hW2];exact(Below.refl _ _).alloc (ag _) _
 rw[←hW2];refine(lQ f loop (i:Int) pa la L.length lc W2).mono ?_;rintro e wv ⟨rfl,Wi⟩;have df:=df.trans (Wi.mono df.size);clear hW2 Wi;go_wp2_with fail
 have hr2:=HZ.out.dt df;have hf2:cQ B ob (.slice la L.length lc) L.length (ep L) w wv:=fy.out.trans (cQ.bJ df HZ.out.world);have tB :∀k∈ks,bA T B b (.slice (some ⟨bk,o,none⟩) T.length c) ub ob k:=fun k hk=>tQ.out k (by have:=eX hk;omega) (fj.out.at_ k hk)
 refine(FG i f h ks (i:Int) pa la lc ms L (du i f (st.setOf i f)) wv ((hr2.mono (wZ _ _) (iG _)).oe i) HX.out fK.out fj.out tB (fun k hk kJ=>(uX f i _).symm) (fun k _=>.inl (kG.out.resolve_right (by have:=bO.out;omega))) (by
  unfold gE;rw[ae (by have:=bO.out;omega),ae (by have:=bO.out;omega),ae (by have:=bO.out;omega),ae (by have:=bO.out;omega)])).mono ?_
 intro e w3 hp;obtain⟨v,rfl⟩:=hp.ret;have HV:=aa hp;have lR:=aa hf2;clear hp hr2 hf2 tB;go_wp2_with fail
 go_ret
 have hE:bh (.mk i h ks) f st=(aG ks f (du i f (st.setOf i f))).map fun s=>s.back (st.setOf i f):=by
  rw[cV];rw[ae (by have:=bO.out;omega)]
  rw[ae (by have:=bO.out;omega)]
  rw[ae (by have:=bO.out;omega)]
  rw[ae (by have:=bO.out;omega)]
  rw[ae (by have:=bO.out;omega)]
  rw[aj bO.out]
 rw[hE];exact aq.after lR.out rfl (HV.out.SH (st':=st.setOf i f) rfl fun s' hs'=>qn ks fj.out.quiet (tL.out (by have:=bO.out;omega)) hs')
theorem y7 :∀a b:List Lt,Lt.fu (a++b)=Lt.fu a+Lt.fu b
 | [],b=>by rw[sG,show Lt.fu []=0 from rfl,jg]
 | x::a,b=>by rw[iE,Lt.fu,Lt.fu,y7 a b,oN]
theorem xJ :∀a b:List Lt,Lt.aR (a++b)=Lt.aR a++Lt.aR b
 | [],b=>rfl
 | x::a,b=>by rw[iE,Lt.aR,Lt.aR,xJ a b,fI]
theorem fE.app {T:List Nd} :∀{a b:List Lt},fE T (a++b)→fE T a∧fE T b
 | [],b,h=>⟨⟨by unfold Lt.mW;trivial,by unfold Lt.iu;trivial,by unfold Lt.yC;trivial,by unfold Lt.aR;exact ER,fun k hk=>by cases hk⟩,h⟩
 | x::a,b,h=>by
  obtain⟨h1,h2⟩:=fE.cons (k:=x) (ks:=a++b) h;obtain⟨h3,h4⟩:=fE.app h2;have h5:=h.nodup;rw[xJ,oK] at h5;exact⟨⟨by unfold Lt.mW;exact⟨h1.yT,h3.yT⟩,by unfold Lt.iu;exact⟨h1.form,h3.form⟩,by unfold Lt.yC;exact⟨h1.wf,h3.wf⟩,h5.1,fun k hk=>h.kind k (dW b hk)⟩,h4⟩
theorem vo {ks:List Lt} {l:List Int} (h:jE ks=l++[18]) :∃vals blk,ks=vals++[blk]∧jE vals=l∧blk.hd.kind=18:=by
 unfold jE at h;obtain⟨a,b,e,h1,h2⟩:=wT.1 h;obtain⟨x,e2,h3⟩:=List.map_eq_singleton_iff.1 h2;exact⟨a,x,by rw[e,e2],h1,h3⟩
theorem Ns {T:List Nd} {B b:Nat} {nv:Value} {ub ob:Nat} (gj :∀x∈T,x.s.size≤65536∧∀s∈x.names,s.size≤65536) (i:Nat) (h:Nd) (ks:List Lt) (hn:gW T (.mk i h ks)) (gX :∀u:Lt,u.size<Lt.al ks+1→gW T u→bA T B b nv ub ob u) (hk:h.kind=26):bA T B b nv ub ob (.mk i h ks):=by
 intro f loop pa la lc ms L st w hr bT cr;show Calls Tryz.prog 18 #[.pointer (some ⟨b,0,none⟩),.int .i64 (i:Int),.agg #[.int .i64 (f:Int),.int .i64 loop,.pointer pa,.slice la L.length lc]] w (aq B b nv T.length ub ob (.slice la L.length lc) L st (bh (.mk i h ks) f st) w)
 obtain⟨bk,o,c,NA,nc,KA,kc,rfl,dH,ca,x0,x1,x2,x3,x4,x5,x6,rS,wC,pU,hbl,po,tm,d0,d3,u0,v0,gP,HR,HN,tQ,iN,kG,fj,tL,o0,fK,qG,HX,yY,Dz⟩:=gL gj hn gX hr bT cr;clear hr hn gX bT cr gj;have q6:(h.kind == 6)=false:=by rw[hk];rfl
 have q7:(h.kind == 7)=false:=by rw[hk];rfl
 have yZ:(h.kind == 11)=false:=by rw[hk];rfl
 have zO:(h.kind == 18)=false:=by rw[hk];rfl
 have Wg:(h.kind == 23)=false:=by rw[hk];rfl
 have Yt:(h.kind == 26)=true:=by rw[hk];rfl
 have bO:=aa hk;clear hk;go_enter Tryz.func18,Tryz.ntmps18
 go_wp2_with fail
 go_region
 obtain⟨W1,hW1,HZ,fy,pE,Br,K,y0,tz,oF,tA,k0,k1,k2,k3⟩:=dZ loop i HR.out dH;rw[←hW1];have x0:=K _ _ x0;have x1:=K _ _ x1;have x2:=K _ _ x2;have x3:=K _ _ x3;have x4:=K _ _ x4;have x5:=K _ _ x5;have x6:=K _ _ x6;clear hW1 K d0 d3 u0 v0;have d0:=y0;clear y0;obtain⟨l,hl0,qv⟩ :∃l,jE ks=l++[18]∧∀a∈l,tM a:=by
  obtain⟨l,h1,_,h2⟩:=o0.out.for_ bO.out;exact⟨l,h1,h2⟩
 obtain⟨vals,blk,rfl,hv,hb⟩:=vo hl0;subst hv;go_wp2_with fail
 obtain⟨W2,hW2⟩ :∃W2,W2=W1.alloc (.cells #[.int .i64 h.kind,.int .i64 h.line,.int .i64 h.op,.int .i64 h.num,.string h.s,.slice NA h.names.length nc,.slice KA h.kids.length kc] 54):=⟨_,rfl⟩;have df:Below W1.heap.size W1 W2:=by rw[hW2];exact(Below.refl _ _).alloc (ag _) _
 rw[←hW2];refine(lQ f loop (i:Int) pa la L.length lc W2).mono ?_;rintro e wv ⟨rfl,Wi⟩;have df:=df.trans (Wi.mono df.size);clear hW2 Wi;go_wp2_with fail
 have hr2:=HZ.out.dt df;have hf2:cQ B ob (.slice la L.length lc) L.length (ep L) w wv:=fy.out.trans (cQ.bJ df HZ.out.world);have tB :∀k∈vals++[blk],bA T B b (.slice (some ⟨bk,o,none⟩) T.length c) ub ob k:=fun k hk=>tQ.out k (by have:=eX hk;omega) (fj.out.at_ k hk)
 have hlen:h.kids.length=vals.length+1:=by rw[qG.out,cb,mP]
 refine(Bl i f h vals [blk] (i:Int) pa la lc ms L (st.setOf i f) wv (hr2.mono (by rw[y7];omega) (by rw[pk];omega)) HX.out (by rw[fK.out,kN]) (by simp) fj.out.app.1 fj.out.app.2 (fun k hk=>tB k (dW _ hk)) (fun k hk=>tB k (gR _ hk)) (fun k hk=>by have:=qv _ (j3 hk);unfold tM at this;omega) (fun k hk=>tL.out (by have:=bO.out;omega) k (dW _ hk)) (kG.out.resolve_right (by have:=bO.out;omega)) yY.out.2 rfl (by
  unfold gE;rw[aj (by have:=bO.out;omega),hlen]
  congr 2
  omega)).mono ?_
 intro e w3 hp;obtain⟨v,rfl⟩:=hp.ret;have HV:=aa hp;have lR:=aa hf2;clear hp hr2 hf2 tB;go_wp2_with fail
 go_ret
 have hE:bh (.mk i h (vals++[blk])) f st=((aG vals f (st.setOf i f)).bind fun s1=>((bz i f h.line h.names (du i f s1)).bind fun s2=>aG [blk] f s2).map fun s=>s.back s1):=by
  rw[cV];rw[ae (by have:=bO.out;omega)]
  rw[ae (by have:=bO.out;omega)]
  rw[ae (by have:=bO.out;omega)]
  rw[ae (by have:=bO.out;omega)]
  rw[ae (by have:=bO.out;omega)]
  rw[ae (by have:=bO.out;omega)]
  rw[ae (by have:=bO.out;omega)]
  rw[aj (by have:=bO.out;omega)]
  exact qF blk vals (st.setOf i f)
 rw[hE];exact aq.after lR.out rfl HV.out
theorem Nt {T:List Nd} {B b:Nat} {nv:Value} {ub ob:Nat} (gj :∀x∈T,x.s.size≤65536∧∀s∈x.names,s.size≤65536) (i:Nat) (h:Nd) (ks:List Lt) (hn:gW T (.mk i h ks)) (gX :∀u:Lt,u.size<Lt.al ks+1→gW T u→bA T B b nv ub ob u) (hk:h.kind=27):bA T B b nv ub ob (.mk i h ks):=by
 intro f loop pa la lc ms L st w hr bT cr;show Calls Tryz.prog 18 #[.pointer (some ⟨b,0,none⟩),.int .i64 (i:Int),.agg #[.int .i64 (f:Int),.int .i64 loop,.pointer pa,.slice la L.length lc]] w (aq B b nv T.length ub ob (.slice la L.length lc) L st (bh (.mk i h ks) f st) w)
 obtain⟨bk,o,c,NA,nc,KA,kc,rfl,dH,ca,x0,x1,x2,x3,x4,x5,x6,rS,wC,pU,hbl,po,tm,d0,d3,u0,v0,gP,HR,HN,tQ,iN,kG,fj,tL,o0,fK,qG,HX,yY,Dz⟩:=gL gj hn gX hr bT cr;clear hr hn gX bT cr gj;have q6:(h.kind == 6)=false:=by rw[hk];rfl
 have q7:(h.kind == 7)=false:=by rw[hk];rfl
 have yZ:(h.kind == 11)=false:=by rw[hk];rfl
 have zO:(h.kind == 18)=false:=by rw[hk];rfl
 have Wg:(h.kind == 23)=false:=by rw[hk];rfl
 have Yt:(h.kind == 26)=false:=by rw[hk];rfl
 have q27:(h.kind == 27)=true:=by rw[hk];rfl
 have bO:=aa hk;clear hk;go_enter Tryz.func18,Tryz.ntmps18
 go_wp2_with fail
 go_region
 obtain⟨W1,hW1,HZ,fy,pE,Br,K,y0,tz,oF,tA,k0,k1,k2,k3⟩:=dZ loop i HR.out dH;rw[←hW1];have x0:=K _ _ x0;have x1:=K _ _ x1;have x2:=K _ _ x2;have x3:=K _ _ x3;have x4:=K _ _ x4;have x5:=K _ _ x5;have x6:=K _ _ x6;clear hW1 K d0 d3 u0 v0;have d0:=y0;clear y0;obtain⟨l,hl0,qv⟩ :∃l,jE ks=l++[18]∧∀a∈l,tM a:=by
  obtain⟨l,h1,_,h2⟩:=o0.out.each bO.out;exact⟨l,h1,h2⟩
 obtain⟨vals,blk,rfl,hv,hb⟩:=vo hl0;subst hv;go_wp2_with fail
 obtain⟨W2,hW2⟩ :∃W2,W2=W1.alloc (.cells #[.int .i64 h.kind,.int .i64 h.line,.int .i64 h.op,.int .i64 h.num,.string h.s,.slice NA h.names.length nc,.slice KA h.kids.length kc] 54):=⟨_,rfl⟩;have df:Below W1.heap.size W1 W2:=by rw[hW2];exact(Below.refl _ _).alloc (ag _) _
 rw[←hW2];refine(lQ f loop (i:Int) pa la L.length lc W2).mono ?_;rintro e wv ⟨rfl,Wi⟩;have df:=df.trans (Wi.mono df.size);clear hW2 Wi;go_wp2_with fail
 have hr2:=HZ.out.dt df;have hf2:cQ B ob (.slice la L.length lc) L.length (ep L) w wv:=fy.out.trans (cQ.bJ df HZ.out.world);have tB :∀k∈vals++[blk],bA T B b (.slice (some ⟨bk,o,none⟩) T.length c) ub ob k:=fun k hk=>tQ.out k (by have:=eX hk;omega) (fj.out.at_ k hk)
 have hlen:h.kids.length=vals.length+1:=by rw[qG.out,cb,mP]
 refine(Bl i f h vals [blk] (i:Int) pa la lc ms L (st.setOf i f) wv (hr2.mono (by rw[y7];omega) (by rw[pk];omega)) HX.out (by rw[fK.out,kN]) (by simp) fj.out.app.1 fj.out.app.2 (fun k hk=>tB k (dW _ hk)) (fun k hk=>tB k (gR _ hk)) (fun k hk=>by have:=qv _ (j3 hk);unfold tM at this;omega) (fun k hk=>tL.out (by have:=bO.out;omega) k (dW _ hk)) (kG.out.resolve_right (by have:=bO.out;omega)) yY.out.2 rfl (by
  unfold gE;rw[aj (by have:=bO.out;omega),hlen]
  congr 2
  omega)).mono ?_
 intro e w3 hp;obtain⟨v,rfl⟩:=hp.ret;have HV:=aa hp;have lR:=aa hf2;clear hp hr2 hf2 tB;go_wp2_with fail
 go_ret
 have hE:bh (.mk i h (vals++[blk])) f st=((aG vals f (st.setOf i f)).bind fun s1=>((bz i f h.line h.names (du i f s1)).bind fun s2=>aG [blk] f s2).map fun s=>s.back s1):=by
  rw[cV];rw[ae (by have:=bO.out;omega)]
  rw[ae (by have:=bO.out;omega)]
  rw[ae (by have:=bO.out;omega)]
  rw[ae (by have:=bO.out;omega)]
  rw[ae (by have:=bO.out;omega)]
  rw[ae (by have:=bO.out;omega)]
  rw[ae (by have:=bO.out;omega)]
  rw[aj (by have:=bO.out;omega)]
  exact qF blk vals (st.setOf i f)
 rw[hE];exact aq.after lR.out rfl HV.out
structure DL (T:List Nd) (B b:Nat) (nv:Value) (ub ob f:Nat) (pa:Option Addr) (lv:Value) (ms:List Nat) (L:List cO) (st:aI) (w:World) (a s:Nat):Prop where
 fA:wu w B nv T
 rs:jG w B b nv T.length st ub ob
 pos:oV w B f (.pointer pa) lv ms L st
 hd:HdF f L
 lt:f<st.fns.length
 few:dP st.fns
 fr :∀x∈st.frames,x.fn<st.fns.length
 names:st.names.length+a≤100000
 fns:st.fns.length+s≤100000
 fw:L.length+s≤100000
structure sU (T:List Nd) (B b:Nat) (nv:Value) (ub ob f:Nat) (pa:Option Addr) (lv:Value) (ms:List Nat) (L:List cO) (st:aI) (w:World) (a s:Nat):Prop where
 fA:wu w B nv T
 rs:jG w B b nv T.length st ub ob
 pos:oV w B f (.pointer pa) lv ms L st
 lt:f<st.fns.length
 few:dP st.fns
 fr :∀x∈st.frames,x.fn<st.fns.length
 names:st.names.length+a≤100000
 fns:st.fns.length+s≤100000
 fw:L.length+1+s≤100000
theorem DM {T:List Nd} {B b:Nat} {nv:Value} {ub ob f:Nat} {pa la:Option Addr} {lc:Nat} {ms:List Nat} {L:List cO} {st:aI} {w:World} {a s:Nat} (loop:Int) (h:sU T B b nv ub ob f pa (.slice la L.length lc) ms L st w a s) :
  Calls Tryz.prog 74 #[.agg #[.int .i64 (f:Int),.int .i64 loop,.pointer pa,.slice la L.length lc]] w fun e w'=>∃g c m,e=.returned (.agg #[.int .i64 (f:Int),.int .i64 loop,.pointer pa,.slice (some ⟨g,0,none⟩) (L.length+1) c])∧DL T B b nv ub ob f pa (.slice (some ⟨g,0,none⟩) (L.length+1) c) ms (⟨f,m,[]⟩::L) st w' a s∧w.heap.size≤m∧((Value.slice la L.length lc).ownBlock=some g∨w.heap.size≤g)∧cQ B ob (.slice la L.length lc) L.length none w w':=by
 have ca:B≤w.heap.size:=by obtain⟨_,_,_,_,_,h,_⟩:=h.fA.nodes;exact h
 refine(xF f loop pa la lc L w h.pos.fw (by have:=h.fw;omega) ca).mono ?_
 rintro e w' ⟨g,c,m,he,h1,h2,h3,h4,h5⟩;have hf:=h4 ob;refine⟨g,c,m,he,⟨h.fA.below hf.below,?_,⟨h1,h.pos.blk.jk hf (by simp),h.pos.names,?_⟩,?_,h.lt,h.few,h.fr,h.names,h.fns,?_⟩,h2,h3,hf⟩
 ·obtain⟨fv,FL,hw⟩:=h.rs
  exact⟨fv,FL,hw.fr h5 (by decide)⟩
 ·intro m' hm' l hl
  rcases ba.1 hl with rfl|hl
  ·have:=bY.lt h.pos.blk m' hm'
   show m'≠m
   omega
  ·exact h.pos.apart m' hm' l hl
 ·intro l r e
  injection e with e _;rw[←e]
 ·have:=h.fw
  rw[List.length_cons];omega
theorem sU.dt {T:List Nd} {B b:Nat} {nv:Value} {ub ob f:Nat} {pa:Option Addr} {lv:Value} {ms:List Nat} {L:List cO} {st:aI} {w w':World} {a s:Nat} (h:sU T B b nv ub ob f pa lv ms L st w a s) (hb:Below w.heap.size w w'):sU T B b nv ub ob f pa lv ms L st w' a s:=by
 have ca:B≤w.heap.size:=by obtain⟨_,_,_,_,_,h,_⟩:=h.fA.nodes;exact h
 have h2:cQ B ob lv L.length none w w':=cQ.bJ hb ca;refine⟨h.fA.below h2.below,?_,⟨h.pos.fw.jk h2 (ag _),h.pos.blk.jk h2 (by simp),h.pos.names,h.pos.apart⟩,h.lt,h.few,h.fr,h.names,h.fns,h.fw⟩
 obtain⟨fv,FL,hw⟩:=h.rs;exact⟨fv,FL,hw.later hb⟩
theorem sU.levels {T:List Nd} {B b:Nat} {nv:Value} {ub ob f:Nat} {pa:Option Addr} {lv:Value} {ms:List Nat} {L:List cO} {st:aI} {w:World} {a s:Nat} (h:sU T B b nv ub ob f pa lv ms L st w a s) :∀l∈L,l.blk<w.heap.size:=fun l hl=>(h.pos.fw.maps l hl).1.lt
theorem DL.Sv {T:List Nd} {B b:Nat} {nv:Value} {ub ob f:Nat} {pa:Option Addr} {lv:Value} {ms:List Nat} {L:List cO} {st:aI} {w w':World} {a s:Nat} (h:DL T B b nv ub ob f pa lv ms L st w a s) (k:Fr [69] w w') (hb:Below B w w'):DL T B b nv ub ob f pa lv ms L st w' a s:=by
 refine⟨h.fA.below hb,?_,⟨h.pos.fw.fr k (by decide),bY.fr k (by decide) h.pos.blk,h.pos.names,h.pos.apart⟩,h.hd,h.lt,h.few,h.fr,h.names,h.fns,h.fw⟩
 obtain⟨fv,FL,hw⟩:=h.rs;exact⟨fv,FL,hw.fr k (by decide)⟩
theorem DL.step {T:List Nd} {B b:Nat} {nv:Value} {ub ob f:Nat} {pa:Option Addr} {lv:Value} {ms:List Nat} {L:List cO} {st st':aI} {w w':World} {a s a1 s1:Nat} {e:Ending} (h:DL T B b nv ub ob f pa lv ms L st w (a1+a) (s1+s)) (xi:Mk a1 s1 st st') (we:Cx f st') (hf:st'.frames=st.frames) (hp:aq B b nv T.length ub ob lv L st (.ok st') w e w') :
  e=.returned .nilIface∧∃x,st'.names=x++st.names∧(L=[]→x=[])∧eU T B b nv ub ob f pa lv ms (grow x L) st' w' a s∧cQ B ob lv L.length (ep L) w w':=by
 obtain⟨hb,rfl,Ra,mM,x,hx1,hx2,hx3⟩:=hp;refine⟨rfl,x,hx1,hx2,⟨h.fA.below hb,Ra,h.pos.on mM hx3 hx1 hx2 hf,h.hd.grow x,we,xi.few,fun y hy=>?_,?_,?_,?_⟩,mM⟩
 ·rw[hf] at hy
  exact cw (h.fr y hy) xi.least
 ·have:=xi.names;have:=h.names;omega
 ·have:=xi.fns;have:=h.fns;omega
 ·rw[cy];have:=h.fw;omega
theorem IG {T:List Nd} {B b:Nat} {nv:Value} {ub ob:Nat} (i f:Nat) (h:Nd) (rest:List Lt) (loop:Int) (pa la:Option Addr) (lc:Nat) (ms:List Nat) (L:List cO) (st:aI) (w:World) (hr:sU T B b nv ub ob f pa (.slice la L.length lc) ms L st w (h.names.length+Lt.fu rest) (Lt.al rest)) (hx:T[i]? = some h) (hk:h.kids=rest.map fun k=>(k.loc:Int)) (Bm:rest≠[]) (vd:fE T rest) (hV2 :∀k∈rest,bA T B b nv ub ob k)
  (hl :∀k∈rest,18≤k.hd.kind→loop=cK f st.frames) (hsz :∀s∈h.names,s.size≤65536) (we :∀s2,bz i f h.line h.names st=.ok s2→Cx f s2) (hd:gE h.kind h.kids.length=(true,0,true)) :
  Calls Tryz.prog 35 #[.pointer (some ⟨b,0,none⟩),.int .i64 (i:Int),.agg #[.int .i64 (f:Int),.int .i64 loop,.pointer pa,.slice la L.length lc]] w (aq B b nv T.length ub ob (.slice la L.length lc) L st (((bz i f h.line h.names st).bind fun s2=>aG rest f s2).map fun s=>s.back st) w):=by
 obtain⟨bk,o,c,rfl,dH,ca,dJ⟩:=hr.fA.nodes;obtain⟨u7,u9,eL,⟨NA,nc,wg,_⟩,eW⟩:=dJ i h hx;have rS:h.kids.length≤20000:=(hr.fA.small h (aV hx)).1;have oW:h.kids.length=rest.length:=by rw[hk,bS]
 have hr1:1≤rest.length:=wV.2 Bm;obtain⟨KA,kc,rz,uC,IC⟩:=id eW;subst wg rz;obtain⟨sb,so,rfl⟩ :∃sb so,KA=some ⟨sb,so,none⟩:=by
  rcases IC with h0 | ⟨sb,so,h1,_⟩
  ·rw[h0] at oW;simp at oW;omega
  ·exact⟨sb,so,h1⟩
 obtain⟨x0,x1,x2,x3,x4,x5,x6⟩:=eL;have wC:i<T.length:=(aJ.1 hx).1;have pU:=hr.fA.few;have hbl:b<w.heap.size:=by obtain⟨_,_,hw⟩:=hr.rs;exact hw.mN.1
 have d0:w.cell? ⟨b,0,none⟩=some (.slice (some ⟨bk,o,none⟩) T.length c):=by obtain⟨_,_,hw⟩:=hr.rs;exact ab hw.blk 0
 have gP:bk<w.heap.size:=by omega
 have HD:=aa (gF h.kind h.line h.op h.num h.s NA (some ⟨sb,so,none⟩) h.names.length nc h.kids.length kc);have Bn:gC w B (.slice (some ⟨sb,so,none⟩) h.kids.length kc) (rest.map fun k=>(k.loc:Int)):=by
  rw[←hk];exact eW
 have HR:=aa hr;have Sx:=aa vd;have HV2:=aa hV2;have Na:=aa Bn;have Su:=aa hd;have HK:=aa hk;have np:=aa hr1;have qo:=aa hsz;have HX:=aa hx;have qG:=aa oW;have HL:=aa hl;have HCX:=aa we;clear we hr1 oW hr hl eW Bn hd dJ hk vd hV2 IC hsz hx Bm;go_enter Tryz.func35,Tryz.ntmps35
 go_wp2_with fail
 refine(HD.out _ (by omega)).mono ?_
 rw[Su.out];rintro e w1 ⟨rfl,hb1⟩;have dU:=aa hb1;clear hb1;go_wp2_with fail
 have yW:=ld rfl dU.out (.bool true) (.int .i64 0) (.bool true);have qE:=aa yW.2;have oX:=aa yW.1;clear yW;clear d0 x0 x1 x2 x3 x4 x5 x6;generalize w1.alloc (.cells #[.bool true,.int .i64 0,.bool true] 144)=W2 at qE oX ⊢;generalize w1.heap.size=q at qE ⊢;generalize w.heap.size+1=p at qE ⊢;obtain⟨k0,k1,k2,k3,k4,k5,k6,k7,k8⟩:=qE.out.cells;go_still_tail 7,(by kernel_rfl)
 change wpList _ _ _ _ _ W2.drew;have D2:=aa (show Below W2.heap.size W2 W2.drew from(Below.refl _ _).drew)
 generalize W2.drew=W3 at D2 ⊢;go_wp2_with fail
 refine(all_nil b f loop pa la (some ⟨sb,so,none⟩) L.length lc kc W3).mono ?_;rintro e w4 ⟨rfl,hb4⟩;have MA:=D2.out.trans (hb4.mono D2.out.size);have pq:=oX.out.trans (MA.mono oX.out.size);have P5:=aa (qE.out.later MA);have M5:Hid (cQ B ob (.slice la L.length lc) L.length (ep L) w w4):=aa (cQ.bJ pq ca);have hz:=HR.out.dt pq;have HZ:=aa hz;have HOP:=aa (DM loop hz);have acJ:=pq.size;clear hb4 MA pq hz k0 k1 k2 k3 k4 k5 k6 k7 k8;obtain⟨k0,k1,k2,k3,k4,k5,k6,k7,k8⟩:=P5.out.cells;go_wp2_with fail
 refine HOP.out.mono ?_;rintro e w6 ⟨g,c6,m,rfl,Mg,hm,hg,Rc⟩;have P6:=aa (P5.out.jk Rc);have y0:=aE P6.out.pos 0;have y1:=aE P6.out.pos 1;have y2:=aE P6.out.pos 2;have y3:=aE P6.out.pos 3;have HR6:=aa Mg;have HM:=aa hm;have HG:=aa hg;have Mi:=aa Rc;clear Mg hm hg Rc k0 k1 k2 k3 k4 k5 k6 k7 k8;obtain⟨k0,k1,k2,k3,k4,k5,k6,k7,k8⟩:=P6.out.cells;obtain⟨W7,DI⟩ :∃W7,W7=four w6 w.heap.size (.int .i64 (f:Int)) (.int .i64 loop) (.pointer pa) (.slice (some ⟨g,0,none⟩) (L.length+1) c6):=⟨_,rfl⟩;have P7:Hid (eV w W7 p q f loop pa (.slice (some ⟨g,0,none⟩) (L.length+1) c6) (.slice (some ⟨sb,so,none⟩) h.kids.length kc) (.slice NA h.names.length nc) (.bool true) (.int .i64 0) (.bool true)):=aa (by rw[DI];exact P6.out.four _ _ _)
 have kn:wc w6 w.heap.size 69:=⟨_,_,P6.out.pos⟩;have F7:Hid (Fr [69] w6 W7):=aa (by rw[DI];exact vn kn _ _ _ _)
 have B7:Hid (Below B w6 W7):=aa (by rw[DI];exact pD w6 ca _ _ _ _)
 have K7:Hid (∀k,k≠w.heap.size→W7.heap[k]? = w6.heap[k]?):=aa (by rw[DI];exact fun k hk=>nm w6 _ _ _ _ _ k hk)
 unfold four at DI;have HW7:=aa DI;clear DI kn;have hpn:p≠w.heap.size:=by have:=P5.out.pne;omega
 have hqn:q≠w.heap.size:=by have:=P5.out.qne;omega
 go_wp2_with fail
 rw[←HW7.out];have HZ0:=HZ.out;have hlt :∀l∈L,l.blk≠m:=fun l hl=>by have:=HZ.out.levels l hl;have:=HM.out;omega
 have Bo:=HR6.out.Sv F7.out B7.out;have VO:cQ B ob (.slice la L.length lc) L.length (ep L) w W7:=(M5.out.trans (Mi.out.Fo _)).past B7.out fun k hk=>K7.out k (by omega)
 have hLV:dc W7 B (.slice la L.length lc) L:=((HZ.out.pos.fw).jk Mi.out (ag _)).fr F7.out (by decide)
 have V7:(Value.slice la L.length lc).ownBlock=some g∨w.heap.size≤g:=HG.out.imp id fun h=>by omega
 have V8:w.heap.size≤m:=by have:=HM.out;omega
 have Nb:=aa Bo;have Yk:=aa VO;have V9:=aa hLV;have HOW:=aa V7;have Wb:=aa V8;have iM:=aa hlt;have hdec:Calls Tryz.prog 75 #[.pointer (some ⟨b,0,none⟩),.int .i64 (i:Int),.agg #[.int .i64 (f:Int),.int .i64 loop,.pointer pa,.slice (some ⟨g,0,none⟩) (L.length+1) c6]] W7 (aq B b (.slice (some ⟨bk,o,none⟩) T.length c) T.length ub ob (.slice (some ⟨g,0,none⟩) (L.length+1) c6) (⟨f,m,[]⟩::L) st (bz i f h.line h.names st) W7) :=
  j7 b i f h loop pa (some ⟨g,0,none⟩) c6 ⟨f,m,[]⟩ L st W7 Bo.fA Bo.rs HX.out Bo.lt Bo.pos.fw rfl (by have:=Bo.fw;omega) Bo.few (by simp) qo.out
 clear Bo VO hLV V7 V8 hlt HZ0 k0 k1 k2 k3 k4 k5 k6 k7 k8 y0 y1 y2 y3;refine hdec.mono ?_;intro e w8 hp;clear hdec;cases jH:bz i f h.line h.names st with
 | error y =>
  rw[jH] at hp;have HP:=aa hp;obtain⟨_,v,rfl,g2,rfl,_⟩:=hp;have HE:Hid ((((bz i f h.line h.names st).bind fun s2=>aG rest f s2).map fun s=>s.back st)=.error y):=aa (by  rw[jH];rfl)
  clear jH;go_wp2_with fail
  go_ret
  rw[HE.out];exact(aq.inner (st:=st) Yk.out V9.out iM.out HOW.out Wb.out HP.out)
 | ok s2 =>
  rw[jH] at hp;have vm:=uS jH;obtain⟨rfl,x,hx1,hx2,Sy,Sz⟩:=DL.step (a1:=h.names.length) (s1:=0) (by rw[jg];exact Nb.out) (jD jH Nb.out.few) (HCX.out s2 jH) vm hp
  have P9:=aa (P7.out.jk Sz);have HC:Hid (∀W,Below w8.heap.size w8 W→Calls Tryz.prog 73 #[.pointer (some ⟨b,0,none⟩),.slice (some ⟨sb,so,none⟩) h.kids.length kc,.agg #[.int .i64 (f:Int),.int .i64 loop,.pointer pa,.slice (some ⟨g,0,none⟩) (L.length+1) c6]] W (aq B b (.slice (some ⟨bk,o,none⟩) T.length c) T.length ub ob (.slice (some ⟨g,0,none⟩) (L.length+1) c6) (grow x (⟨f,m,[]⟩::L)) s2 (aG rest f s2) w8)):=aa fun W hW =>
   (DG f loop pa (some ⟨g,0,none⟩) c6 ms (⟨f,m,[]⟩::L) x s2 W (.slice (some ⟨sb,so,none⟩) h.kids.length kc) rest (Sy.dt hW) Sx.out HV2.out (Na.out.below ((Yk.out.below.trans Sz.below).trans (hW.mono Sy.world))) (fun k hk kJ=>(HL.out k hk kJ).trans (tU vm).symm) (fun k _=>.inl (by simp)) (by have:=qG.out;omega)).mono fun e w' h=>h.from hW Sy.world
  have XC:=aa Sz;have MY:=aa hx1;have HE:Hid ((((bz i f h.line h.names st).bind fun s2=>aG rest f s2).map fun s=>s.back st)=(aG rest f s2).map fun s=>s.back st):=aa (by  rw[jH];rfl)
  clear hp Sy Sz vm hx1 hx2 jH;obtain⟨k0,k1,k2,k3,k4,k5,k6,k7,k8⟩:=P9.out.cells;go_wp2_with fail
  go_still_tail 7,(by kernel_rfl)
  change wpList _ _ _ _ _ w8.drew;have VY:=aa (HC.out w8.drew (Below.refl _ _).drew);generalize w8.drew=W9 at VY ⊢;go_wp2_with fail
  refine VY.out.mono ?_;intro e w10 hp;obtain⟨v,rfl⟩:=hp.ret;have HP:=aa hp;clear hp;go_wp2_with fail
  go_ret
  rw[HE.out];exact(aq.inner (st:=st) Yk.out V9.out iM.out HOW.out Wb.out (aq.trans (L:=⟨f,m,[]⟩::L) (st1:=s2) (x:=x) XC.out.below XC.out MY.out (fun e=>by cases e) HP.out))
end Go.Proofs.YtodmcdfeldkocaaGreatDoor
