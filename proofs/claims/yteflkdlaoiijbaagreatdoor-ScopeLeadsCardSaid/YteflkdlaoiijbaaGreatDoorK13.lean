/- Parts of the proof. -/
import Derived.Test.YteflkdlaoiijbaaGreatDoorK12
set_option maxHeartbeats 16000000
set_option maxRecDepth 20000
namespace Go.Proofs.YteflkdlaoiijbaaGreatDoor
open Go.RowKit
structure BI (T:List Nd) (B b:Nat) (nv:Value) (ub ob f i mb g c6 m:Nat) (rep:Bool) (ks tests:List Lt) (pa:Option Addr) (lv:Value) (ms:List Nat) (L:List cS) (Pc:List fF) (loop:Int) (w:World) (n:Nat) (x:List jn) (s1:aH) (wr:World):Prop where
 rd:eF T B b nv ub ob f pa (.slice (some ⟨g,0,none⟩) (L.length+1) c6) ms (grow x (⟨f,m,[]⟩::L)) { s1 with frames:=Pc} wr (Lt.eD (ks.drop n)+Lt.eD tests) (Lt.ak (ks.drop n)+Lt.ak tests)
 frames:s1.frames=⟨f,i,n-1,false,rep,ks⟩::Pc
 kb:wr.heap[mb+1]? = some (.cells #[.pointer pa,.map (some mb),.int .i64 (gT ks n:Int)] 195 (0,0))
 mp:dP Tryz.prog 9 wr mb ks.length (fG ks rep ks.length)
 box:wr.heap[w.heap.size]? = some (.cells #[.int .i64 (f:Int),.int .i64 loop,.pointer (some ⟨mb+1,0,none⟩),.slice (some ⟨g,0,none⟩) (L.length+1) c6] 92 (0,0))
 jk:cW B ob lv L.length (eE L) w wr
 fB:dk wr B lv L
structure BS (B mb g m:Nat) (pa:Option Addr) (lv:Value) (ms:List Nat) (L:List cS) (w:World):Prop where
 own:lv.ownBlock=some g∨w.heap.size≤g
 top:w.heap.size≤m
 old:w.heap.size≤mb
 low:B≤mb
 ptr :∀a,pa=some a→a.block<mb+1
 maps :∀x∈ms,x<mb
 ada :∀l∈L,l.blk<mb
 mlt:m<mb
 apart :∀l∈L,l.blk≠m
 base:B≤w.heap.size
section
variable {T:List Nd} {B b:Nat} {nv:Value} {ub ob f i mb g c6 m:Nat} {rep:Bool} {ks tests:List Lt} {pa:Option Addr} {lv:Value} {ms:List Nat} {L:List cS} {Pc:List fF} {loop:Int} {w:World} {n:Nat} {x:List jn} {s1:aH} {wr wr':World}
theorem BS.grow (h:BS B mb g m pa lv ms L w) (x:List jn) :∀l∈grow x (⟨f,m,[]⟩::L),mb≠l.blk:=by
 intro l hl;have h1:l.blk∈(Go.Proofs.YteflkdlaoiijbaaGreatDoor.grow x (⟨f,m,[]⟩::L)).map cS.blk:=jW hl;rw[vt] at h1;rcases bc.1 h1 with h1|h1
 ·have:=h.mlt
  replace h1:l.blk=m:=h1;omega
 ·obtain⟨u,hu,e⟩:=eQ.1 h1
  have:=h.ada u hu;omega
theorem FJ {s:aH} {y:fF} {l:List fF} (h:s.frames=y::l) (n:Nat):s.at n={ s with frames:={ y with at_:=n}::l}:=by
 unfold aH.at;rw[h]
theorem BI.ready (h:BI T B b nv ub ob f i mb g c6 m rep ks tests pa lv ms L Pc loop w n x s1 wr) (hb:BS B mb g m pa lv ms L w) {k:Lt} (hk:ks[n]? = some k) (hw:(wr'=wr∧isDecl k=false)∨(wr'=wr.setCell ⟨mb+1,2,none⟩ (.int .i64 ((gT ks n:Int)+1))∧isDecl k=true)) :
  eF T B b nv ub ob f (some ⟨mb+1,0,none⟩) (.slice (some ⟨g,0,none⟩) (L.length+1) c6) (mb::ms) (grow x (⟨f,m,[]⟩::L)) (s1.at n) wr' (k.wt+(Lt.eD (ks.drop (n+1))+Lt.eD tests)) (k.size+(Lt.ak (ks.drop (n+1))+Lt.ak tests))∧wr'.heap[mb+1]? = some (.cells #[.pointer pa,.map (some mb),.int .i64 (gT ks (n+1):Int)] 195 (0,0))∧wr'.heap[w.heap.size]? = some (.cells #[.int .i64 (f:Int),.int .i64 loop,.pointer (some ⟨mb+1,0,none⟩),.slice (some ⟨g,0,none⟩) (L.length+1) c6] 92 (0,0))∧cW B ob lv L.length (eE L) w wr'∧dk wr' B lv L:=by
 have tK:=vm hk;have FK:=h.rd;rw[(qL hk).1,(qL hk).2,sw,sw] at FK;have hmb:=hb.low;have uq:=hb.old;have key :∀(W:World),eF T B b nv ub ob f pa (.slice (some ⟨g,0,none⟩) (L.length+1) c6) ms (Go.Proofs.YteflkdlaoiijbaaGreatDoor.grow x (⟨f,m,[]⟩::L)) { s1 with frames:=Pc} W (k.wt+(Lt.eD (ks.drop (n+1))+Lt.eD tests)) (k.size+(Lt.ak (ks.drop (n+1))+Lt.ak tests))→W.heap[mb+1]? = some (.cells #[.pointer pa,.map (some mb),.int .i64 (gT ks (n+1):Int)] 195 (0,0))→dP Tryz.prog 9 W mb ks.length (fG ks rep ks.length)→eF T B b nv ub ob f (some ⟨mb+1,0,none⟩) (.slice (some ⟨g,0,none⟩) (L.length+1) c6) (mb::ms) (Go.Proofs.YteflkdlaoiijbaaGreatDoor.grow x (⟨f,m,[]⟩::L)) (s1.at n) W (k.wt+(Lt.eD (ks.drop (n+1))+Lt.eD tests)) (k.size+(Lt.ak (ks.drop (n+1))+Lt.ak tests)):=fun W h1 h2 h3=>by
  rw[FJ h.frames n];exact h1.BP (i:=i) (n:=n) (rep:=rep) h2 h3 (by omega) hmb hb.ptr (hb.grow x)
 rcases hw with ⟨rfl,hd⟩ | ⟨rfl,hd⟩
 ·rw[hd] at tK
  have tK:gT ks (n+1)=gT ks n:=tK;have hkb:=h.kb;rw[←tK] at hkb;exact⟨key _ FK hkb h.mp,hkb,h.box,h.jk,h.fB⟩
 ·rw[hd] at tK
  have tK:gT ks (n+1)=gT ks n+1:=tK;have hF:Fr [195] wr (wr.setCell ⟨mb+1,2,none⟩ (.int .i64 ((gT ks n:Int)+1))):=Fr.set h.kb (by decide) _ _
  have hB:Below B wr (wr.setCell ⟨mb+1,2,none⟩ (.int .i64 ((gT ks n:Int)+1))):=(Below.refl B wr).setCell (p:=⟨mb+1,2,none⟩) (by show B≤mb+1;omega) _
  have hK :∀j,j≠mb+1→(wr.setCell ⟨mb+1,2,none⟩ (.int .i64 ((gT ks n:Int)+1))).heap[j]? = wr.heap[j]?:=fun j hj=>Below.heap_setCell _ _ _ j hj
  have hkb:(wr.setCell ⟨mb+1,2,none⟩ (.int .i64 ((gT ks n:Int)+1))).heap[mb+1]? = some (.cells #[.pointer pa,.map (some mb),.int .i64 (gT ks (n+1):Int)] 195 (0,0)):=by
   have:=bt h.kb 2 (.int .i64 ((gT ks n:Int)+1));rw[tK];exact this
  exact⟨key _ (FK.but hF hB (fun j hj _=>hK j hj) hb.ptr (fun y hy=>by have:=hb.maps y hy;omega)) hkb (hF.map h.mp),hkb,(hK _ (by omega)).trans h.box,h.jk.past hB fun j hj=>hK j (by omega),h.fB.fr hF (by decide)⟩
theorem BI.next {k:Lt} {s2:aH} {w2:World} {e:Ending} (hb:BS B mb g m pa lv ms L w) (hn:lx T k) (ou:s1.frames=⟨f,i,n-1,false,rep,ks⟩::Pc)
  (h1:eF T B b nv ub ob f (some ⟨mb+1,0,none⟩) (.slice (some ⟨g,0,none⟩) (L.length+1) c6) (mb::ms) (grow x (⟨f,m,[]⟩::L)) (s1.at n) wr' (k.wt+(Lt.eD (ks.drop (n+1))+Lt.eD tests)) (k.size+(Lt.ak (ks.drop (n+1))+Lt.ak tests))) (h2:wr'.heap[mb+1]? = some (.cells #[.pointer pa,.map (some mb),.int .i64 (gT ks (n+1):Int)] 195 (0,0))) (h3:wr'.heap[w.heap.size]? = some (.cells #[.int .i64 (f:Int),.int .i64 loop,.pointer (some ⟨mb+1,0,none⟩),.slice (some ⟨g,0,none⟩) (L.length+1) c6] 92 (0,0))) (h4:cW B ob lv L.length (eE L) w wr') (h5:dk wr' B lv L)
  (hr:bo k f (s1.at n)=.ok s2) (hp:aq B b nv T.length ub ob (.slice (some ⟨g,0,none⟩) (L.length+1) c6) (grow x (⟨f,m,[]⟩::L)) (s1.at n) (.ok s2) wr' e w2) :
  e=.returned .nilIface∧∃y,BI T B b nv ub ob f i mb g c6 m rep ks tests pa lv ms L Pc loop w (n+1) (y++x) s2 w2:=by
 obtain⟨he,y,_,_,hr2,hf2,rA⟩:=eF.next h1 hn hr hp;rw[grow_grow] at hr2;rw[cF,oa] at hf2;rw[FJ ou n] at rA;replace rA:s2.frames=⟨f,i,n,false,rep,ks⟩::Pc:=rA;have hkb:=hf2.cells _ _ _ _ h2 (by decide)
 obtain⟨q1,q2⟩:=hr2.TL (pa:=pa) rA hkb;exact⟨he,y,⟨q1,rA,hkb,q2,hf2.cells _ _ _ _ h3 (by decide),h4.inner hb.own hb.top hf2,h5.inner hb.apart hf2⟩⟩
end
theorem aq.YF {B b:Nat} {nv:Value} {N ub ob g c:Nat} {lv:Value} {L:List cS} {l:cS} {st st1:aH} {r:Rs aH} {w w1 w2:World} {e:Ending} (h1:cW B ob lv L.length (eE L) w w1) (hl:dk w1 B lv L) (hne :∀u∈L,u.blk≠l.blk) (hg:lv.ownBlock=some g∨w.heap.size≤g) (hm:w.heap.size≤l.blk) (h:aq B b nv N ub ob (.slice (some ⟨g,0,none⟩) (L.length+1) c) (l::L) st1 r w1 e w2):aq B b nv N ub ob lv L st (r.map fun s=>s.back st) w e w2:=by
 refine⟨h1.below.trans h.1,?_⟩;have h2:=h.2;cases r with
 | error y=>exact h2
 | ok s =>
  obtain⟨k1,⟨fv,FL,k2⟩,k3,_⟩:=h2;refine⟨k1,⟨fv,FL,k2.on rfl rfl rfl⟩,h1.inner hg hm k3,[],rfl,fun _=>rfl,?_⟩
  rw[jM];exact hl.inner hne k3
theorem Pd (ks:List Lt):gT ks (ks.length-1+1)=gT ks ks.length:=by
 rcases mG ks.length with h|h
 ·rw[List.length_eq_zero_iff.1 h];rfl
 ·rw[show ks.length-1+1=ks.length by omega]
end Go.Proofs.YteflkdlaoiijbaaGreatDoor
namespace Go.Proofs.YteflkdlaoiijbaaGreatDoor
open Go.RowKit
theorem zg.setOf {T:List Nd} {B b:Nat} {nv:Value} {ub ob f:Nat} {pa:Option Addr} {lv:Value} {ms:List Nat} {L:List cS} {st:aH} {w:World} {a s:Nat} (i:Nat) (h:zg T B b nv ub ob f pa lv ms L st w a s) (o:Obj):zg T B b nv ub ob f pa lv ms L (st.setOf i f) ((w.setCell ⟨ob,i,none⟩ (.int .i64 (f:Int))).alloc o).drew a s∧cW B ob lv L.length (eE L) w ((w.setCell ⟨ob,i,none⟩ (.int .i64 (f:Int))).alloc o).drew∧dk ((w.setCell ⟨ob,i,none⟩ (.int .i64 (f:Int))).alloc o).drew B lv L:=by
 obtain⟨fv,FL,hw⟩:=h.rs;obtain⟨cs,hc⟩:=lj hw.mC;have kT :∀top,cW B ob lv L.length top w (w.setCell ⟨ob,i,none⟩ (.int .i64 (f:Int))):=fun top=>cW.aaY hc hw.jf.2 i _
 have hB:B≤(w.setCell ⟨ob,i,none⟩ (.int .i64 (f:Int))).heap.size:=by have:=hw.gR;have:=hw.pos;simp[World.setCell];omega
 have hf :∀top,cW B ob lv L.length top w ((w.setCell ⟨ob,i,none⟩ (.int .i64 (f:Int))).alloc o).drew:=fun top=>(kT top).trans ((cW.bR (((Below.refl _ _).alloc (ah _) o).drew) hB))
 exact⟨⟨h.dB.below (hf none).below,⟨fv,FL,((hw.of_ i f).alloc o).drew⟩,⟨h.pos.fB.jk (hf none) (ah _),h.pos.blk.jk (hf none) (by simp),h.pos.names,h.pos.apart⟩,⟨h.cx.ok,h.cx.lt,h.cx.names⟩,h.few,h.fr,h.names,h.fns,h.fB⟩,hf _,h.pos.fB.jk (hf none) (ah _)⟩
theorem xL {T:List Nd} {B b:Nat} {nv:Value} {ub ob:Nat} (i f:Nat) (h:Nd) (ks tests:List Lt) (rep:Bool) (loop:Int) (pa la:Option Addr) (lc:Nat) (ms:List Nat) (L:List cS) (st:aH) (w:World) (tv:Value) (hr:zg T B b nv ub ob f pa (.slice la L.length lc) ms L st w (Lt.eD ks+Lt.eD tests) (Lt.ak ks+Lt.ak tests)) (hx:T[i]? = some h) (hk:h.kids=ks.map fun k=>(k.loc:Int)) (hn:dX T ks) (uH:dX T tests) (hV :∀k∈ks,bM T B b nv ub ob k) (hV2 :∀k∈tests,bM T B b nv ub ob k)
  (htv:qK B ob (.slice la L.length lc) L.length (eE L) w tv (tests.map fun k=>(k.loc:Int))) (SF:rep=decide (0<tests.length)) (hl :∀k∈ks,18≤k.hd.kind→loop=bP f st.frames) (hl2 :∀k∈tests,18≤k.hd.kind→loop=bP f st.frames) (hs :∀x∈ks,x.hd.s.size≤65536) (PQ:tests.length≤20000) :
  Calls Tryz.prog 56 #[.pointer (some ⟨b,0,none⟩),.int .i64 (i:Int),.agg #[.int .i64 (f:Int),.int .i64 loop,.pointer pa,.slice la L.length lc],tv] w (aq B b nv T.length ub ob (.slice la L.length lc) L st ((wj i f rep ks tests st).map fun s=>s.back st) w):=by
 subst SF;obtain⟨bk,o,c,rfl,bN,cC,cL⟩:=hr.dB.nodes;obtain⟨pL,pM,dM,⟨NA,nc,kI,_⟩,fE⟩:=cL i h hx;have tm:h.kids.length≤20000:=(hr.dB.small h (aL hx)).1;have fX:h.kids.length=ks.length:=by rw[hk,cy]
 obtain⟨KA,kc,jx,qe,_⟩:=id fE;subst kI jx;have HTV:=aa htv;obtain⟨TA,tc,rfl,htc,_⟩:=htv;have x6:=dM.c6;have y9:i<T.length:=(aJ.1 hx).1;have qY:=hr.dB.few;obtain⟨fv,FL,hw⟩:=id hr.rs;obtain⟨hbl,pE,uq⟩:=hw.gR;have d0:w.cell? ⟨b,0,none⟩=some (.slice (some ⟨bk,o,none⟩) T.length c):=ab hw.blk 0;have d3:w.cell? ⟨b,3,none⟩=some (.slice (some ⟨ob,0,none⟩) T.length T.length):=ab hw.blk 3;obtain⟨u0,v0⟩:=bA hw.mC (j:=i) (by omega)
 have iR:bk<w.heap.size:=by omega
 have HR:=aa hr;have HN:=aa hn;have Ri:=aa uH;have HV:=aa hV;have HV2:=aa hV2;have HL:=aa hl;have HL2:=aa hl2;have HS:=aa hs;have Jd:=aa fE;have HK:=aa hk;have qR:=aa fX;have HX:=aa hx;simp only[cy] at htc ⊢;clear hr hn uH hV hV2 hl hl2 hs fE hk fX hx cL dM hw;go_enter Tryz.func56,Tryz.ntmps56
 go_wp2_with fail
 go_region
 have aU:=HR.out.setOf i (.cells #[.int .i64 (f:Int),.int .i64 loop,.pointer pa,.slice la L.length lc] 92);have db:=heap_alloc_new (w.setCell ⟨ob,i,none⟩ (.int .i64 (f:Int))) (.cells #[.int .i64 (f:Int),.int .i64 loop,.pointer pa,.slice la L.length lc] 92);obtain⟨W1,hW1⟩ :∃W1,W1=((w.setCell ⟨ob,i,none⟩ (.int .i64 (f:Int))).alloc (.cells #[.int .i64 (f:Int),.int .i64 loop,.pointer pa,.slice la L.length lc] 92)).drew:=⟨_,rfl⟩;rw[←hW1] at aU;have bY:W1.heap[w.heap.size]? = some (.cells #[.int .i64 (f:Int),.int .i64 loop,.pointer pa,.slice la L.length lc] 92 (0,0)):=by
  rw[hW1];have e:(w.setCell ⟨ob,i,none⟩ (.int .i64 (f:Int))).heap.size=w.heap.size:=by simp[World.setCell]
  rw[e] at db;exact db
 rw[←hW1];clear hW1 db d0 d3 u0 v0;have x6:=(aU.2.1.below.cell (p:=⟨bk,o+i*7+6,none⟩) bN).trans x6;have d0:W1.cell? ⟨b,0,none⟩=some (.slice (some ⟨bk,o,none⟩) T.length c):=by obtain⟨_,_,hw⟩:=aU.1.rs;exact ab hw.blk 0
 have k0:W1.cell? ⟨w.heap.size,0,none⟩=some (.int .i64 (f:Int)):=ab bY 0;have k1:W1.cell? ⟨w.heap.size,1,none⟩=some (.int .i64 loop):=ab bY 1;have k2:W1.cell? ⟨w.heap.size,2,none⟩=some (.pointer pa):=ab bY 2;have k3:W1.cell? ⟨w.heap.size,3,none⟩=some (.slice la L.length lc):=ab bY 3;have HZ:=aa aU.1;have fA:=aa aU.2.1;have pH:=aa aU.2.2;have AF:=aa bY;have ZE:=aa (xK loop aU.1);clear aU bY;go_wp2_with fail
 refine ZE.out.mono ?_;rintro e w2 ⟨g,c6,m,rfl,hr2,hm,hg,hf2⟩;have oM:=hf2.cells _ _ _ _ AF.out (by decide)
 have y0:=av oM 0;have y1:=av oM 1;have y2:=av oM 2;have y3:=av oM 3;have k0:w2.cell? ⟨w.heap.size,0,none⟩=some (.int .i64 (f:Int)):=ab oM 0;have k1:w2.cell? ⟨w.heap.size,1,none⟩=some (.int .i64 loop):=ab oM 1;have k2:w2.cell? ⟨w.heap.size,2,none⟩=some (.pointer pa):=ab oM 2;have k3:w2.cell? ⟨w.heap.size,3,none⟩=some (.slice la L.length lc):=ab oM 3;have hpl:w.heap.size<w2.heap.size:=(aF.1 oM).1;have WI:=aa oM;have vX:=aa hr2;have HM:=aa hm;have HG:=aa hg;have lO:=aa hf2;clear oM hr2 hm hg hf2;go_wp2_with fail
 obtain⟨W3,hW3⟩ :∃W3,W3=four w2 w.heap.size (.int .i64 (f:Int)) (.int .i64 loop) (.pointer pa) (.slice (some ⟨g,0,none⟩) (L.length+1) c6):=⟨_,rfl⟩;have kn:vP w2 w.heap.size 92:=⟨_,_,WI.out⟩;have Vl:W3.heap[w.heap.size]? = some (.cells #[.int .i64 (f:Int),.int .i64 loop,.pointer pa,.slice (some ⟨g,0,none⟩) (L.length+1) c6] 92 (0,0)):=by
  rw[hW3];exact bt (bt (bt (bt WI.out 0 _) 1 _) 2 _) 3 _
 have hF3:Fr [92] w2 W3:=by rw[hW3];exact vB kn _ _ _ _
 have Xp:Below B w2 W3:=by rw[hW3];exact pG w2 cC _ _ _ _
 have hK3 :∀k,k≠w.heap.size→W3.heap[k]? = w2.heap[k]?:=by rw[hW3];exact fun k hk=>nQ w2 _ _ _ _ _ k hk
 have hs3:W3.heap.size=w2.heap.size:=by rw[hW3];simp[four,World.setCell]
 unfold four at hW3;rw[←hW3];have hrun:=run_makeMap (P:=Tryz.prog) 193 W3;have k0:W3.cell? ⟨w.heap.size,0,none⟩=some (.int .i64 (f:Int)):=ab Vl 0;have k1:W3.cell? ⟨w.heap.size,1,none⟩=some (.int .i64 loop):=ab Vl 1;have k2:W3.cell? ⟨w.heap.size,2,none⟩=some (.pointer pa):=ab Vl 2;have k3:W3.cell? ⟨w.heap.size,3,none⟩=some (.slice (some ⟨g,0,none⟩) (L.length+1) c6):=ab Vl 3;have y2:=av Vl 2;have hpl:w.heap.size<W3.heap.size:=(aF.1 Vl).1;have WJ:=aa Vl;have E6:=aa hF3;have yx:=aa Xp;have HK3:=aa hK3;have oh:=aa hs3;clear hW3 kn Vl hF3 Xp hK3 hs3 y0 y1 y3;rw[hrun];clear hrun;go_wp2_with fail
 obtain⟨W4,YG⟩ :∃W4,W4=((W3.setCell ⟨w.heap.size,2,none⟩ (.pointer (some ⟨W3.heap.size+1,0,none⟩))).alloc (.map #[] 0)).alloc (.cells #[.pointer pa,.map (some W3.heap.size),.int .i64 0] 195):=⟨_,rfl⟩;rw[←YG];obtain⟨Wa,YH⟩ :∃Wa,Wa=W3.setCell ⟨w.heap.size,2,none⟩ (.pointer (some ⟨W3.heap.size+1,0,none⟩)):=⟨_,rfl⟩;rw[←YH] at YG;have YI:Wa.heap.size=W3.heap.size:=by rw[YH];simp[World.setCell]
 have hFa:Fr [92] W3 Wa:=by rw[YH];exact Fr.set WJ.out (by decide) _ _
 have hBa:Below B W3 Wa:=by rw[YH];exact(Below.refl B W3).setCell (p:=⟨w.heap.size,2,none⟩) cC _
 have hPa:Wa.heap[w.heap.size]? = some (.cells #[.int .i64 (f:Int),.int .i64 loop,.pointer (some ⟨W3.heap.size+1,0,none⟩),.slice (some ⟨g,0,none⟩) (L.length+1) c6] 92 (0,0)):=by rw[YH];exact bt WJ.out 2 _
 have hKa :∀k,k≠w.heap.size→Wa.heap[k]? = W3.heap[k]?:=by rw[YH];exact fun k hk=>Below.heap_setCell _ _ _ k hk
 have hab:Below Wa.heap.size Wa W4:=by rw[YG];exact Below.two _ _
 have hs4:W4.heap.size=W3.heap.size+2:=by rw[YG,an,an,YI]
 have XK:dP Tryz.prog 9 W4 W3.heap.size 0 (fun _=>none):=by
  rw[YG,←YI];exact(dP.made Wa Tryz.prog 9).same (Below.heap_alloc _ _ _ (by rw[an];omega))
 have hkb:W4.heap[W3.heap.size+1]? = some (.cells #[.pointer pa,.map (some W3.heap.size),.int .i64 0] 195 (0,0)):=by
  rw[YG];have:=heap_alloc_new (Wa.alloc (.map #[] 0)) (.cells #[.pointer pa,.map (some W3.heap.size),.int .i64 0] 195);rwa[an,YI] at this
 clear YG YH;have hF4:Fr [92] W3 W4:=hFa.trans (Fr.ae hab);have Cq:Below B W3 W4:=hBa.trans (hab.mono (by have:=vX.out.world;have:=oh.out;omega))
 have hP4:=(hab.block w.heap.size (by omega)).trans hPa
 have hK4 :∀k,k<W3.heap.size→k≠w.heap.size→W4.heap[k]? = W3.heap[k]?:=fun k hk hn=>(hab.block k (by omega)).trans (hKa k hn)
 clear hab YI hFa hBa hPa hKa Wa k0 k1 k2 k3 y2 d0 x6;have hr4:=(vX.out.TH E6.out yx.out).TH hF4 Cq;have Gh:cW B ob (.slice la L.length lc) L.length (eE L) w W4:=(fA.out.trans (lO.out.Fu _)).past ((yx.out.trans Cq)) fun k hk=>(hK4 k (by omega) (by omega)).trans (HK3.out k (by omega))
 have hlv:dk W4 B (.slice la L.length lc) L:=((pH.out.jk lO.out (ah _)).fr E6.out (by decide)).fr hF4 (by decide)
 have Qa :∀a,pa=some a→a.block<W3.heap.size+1:=fun a ha=>by have:=cz.first (vX.out.TH E6.out yx.out).pos.blk a ha;omega
 have hms :∀x∈ms,x<W3.heap.size:=cz.lt (vX.out.TH E6.out yx.out).pos.blk;have hbs :∀l∈(⟨f,m,[]⟩::L:List cS),l.blk<W3.heap.size:=fun l hl=>((vX.out.TH E6.out yx.out).pos.fB.maps l hl).1.lt
 have Vb:B≤W3.heap.size:=(vX.out.TH E6.out yx.out).world;have hww:w.heap.size≤W3.heap.size:=fx hpl;generalize hmb:W3.heap.size=mb at *;have Vm:Hid (Calls Tryz.prog 114 #[.pointer (some ⟨b,0,none⟩),.pointer (some ⟨mb+1,0,none⟩),.slice KA h.kids.length kc,.bool (decide (0<tests.length))] W4 (BB mb ks (decide (0<tests.length)) (cM st.frames f ks 0 ks) W4)):=by
  obtain⟨fv4,FL4,hw4⟩:=hr4.rs;exact aa (OK b (mb+1) mb f pa (.slice KA h.kids.length kc) ks st.frames ms (decide (0<tests.length)) fv4 _ _ W4 hr4.dB hw4.blk (by rw[←HK.out];exact Jd.out.below Gh.below) HN.out.vQ (by have:=qR.out;omega) hkb XK hr4.pos.blk Qa (fun Pe=>by have:=hms mb Pe;omega) (by omega) Vb HS.out)
 have HR4:=aa hr4;have HFO:=aa Gh;have Vj:=aa hlv;have HPK:=aa Qa;have HMS:=aa hms;have HBS:=aa hbs;have HM4:=aa XK;have HKB:=aa hkb;have HP4:=aa hP4;have HS4:=aa hs4;have Vh:(Value.slice la L.length lc).ownBlock=some g∨w.heap.size≤g:=HG.out.imp id fun h=>by have:=fA.out.below.size;omega
 have Vi:w.heap.size≤m:=by have:=HM.out;have:=fA.out.below.size;omega
 have HOW:=aa Vh;have Vk:=aa Vi;have HWW:=aa hww;have TM:B≤mb:=Vb;clear hr4 Gh hlv Qa hms hbs XK hkb hP4 hs4 hF4 Cq hK4 Vh Vi hww Vb hmb hpl;refine Vm.out.mono ?_;intro e w5 hp;obtain⟨PJ,hp⟩:=hp;cases To:cM st.frames f ks 0 ks with
 | some l =>
  rw[To] at hp;obtain⟨v,rfl,g2,rfl,h2⟩:=hp;have H2:=aa h2;have HE:Hid (((wj i f (decide (0<tests.length)) ks tests st).map fun s=>s.back st)=.error (9,l)):=aa (by
   show Except.map _ (Except.bind (gZ i f _ ks (st.setOf i f)) _)=_
   rw[BQ];show Except.map _ (Except.bind (match cM st.frames f ks 0 ks with|some l=>_|none=>_) _)=_
   rw[To];rfl)
  have HG5:=aa PJ;clear h2 To PJ;go_wp2_with fail
  go_ret
  rw[HE.out];exact⟨HFO.out.below.trans (kq HG5.out TM HR4.out.world),_,rfl,_,rfl,H2.out⟩
 | none =>
  rw[To] at hp;obtain⟨rfl,hm5⟩:=hp;have hZ1:=HZ.out;have ux:Hid (BS B mb g m pa (.slice la L.length lc) ms L w):=aa ⟨HOW.out,Vk.out,HWW.out,TM,HPK.out,HMS.out,fun l hl=>HBS.out l (cr _ hl),HBS.out ⟨f,m,[]⟩ (bT ..),fun l hl=>by have:=hZ1.levels l hl;have:=HM.out;omega,cC⟩
  obtain⟨s0,hs0⟩ :∃s0:aH,s0={ st.setOf i f with frames:=⟨f,i,0,false,decide (0<tests.length),ks⟩::st.frames}:=⟨_,rfl⟩;have s8:=fe PJ HM4.out.isMap;have HI:Hid (BI T B b (.slice (some ⟨bk,o,none⟩) T.length c) ub ob f i mb g c6 m (decide (0<tests.length)) ks tests pa (.slice la L.length lc) ms L st.frames loop w 0 [] s0 w5):=by
   refine aa ⟨?_,by rw[hs0],by rw[Bl];exact s8 _ _ _ _ HKB.out,hm5,s8 _ _ _ _ HP4.out,HFO.out.past (kq PJ TM HR4.out.world) fun k hk=>PJ.block k (by have:=HFO.out.below.size;omega) (fun e=>by injection e with e;have:=HWW.out;omega),Vj.out.grown PJ HM4.out.isMap fun l hl=>by have:=HBS.out l (cr _ hl);omega⟩
   have h1:=HR4.out.grown PJ HM4.out.isMap TM (fun Pe=>by have:=HMS.out mb Pe;omega) (fun l hl=>by have:=HBS.out l hl;omega)
   rw[hs0,tR,jM];exact h1
  obtain⟨R,hR⟩ :∃R,R=cY ks 0 f s0:=⟨_,rfl⟩;have HE:Hid (((wj i f (decide (0<tests.length)) ks tests st).map fun s=>s.back st)=(R.bind fun s2=>aI tests f s2).map fun s=>s.back st):=aa (by
   rw[hR,hs0];show Except.map _ (Except.bind (gZ i f _ ks (st.setOf i f)) _)=_
   rw[BQ];show Except.map _ (Except.bind (match cM st.frames f ks 0 ks with|some l=>_|none=>_) _)=_
   rw[To];rfl)
  have HRS:=aa hR;clear hR hs0 s8 To hm5 PJ hZ1 HZ fA pH AF ZE WI vX HM HG lO WJ E6 yx HK3 oh Vm HR4 HFO Vj HPK HMS HBS HM4 HKB HP4 HS4 HOW Vk HWW;go_wp2_with fail
  go_loopw [52] (fun tk wr=>∃(n:Nat) (x:List jn) (s1:aH),tk=.int .i64 (n:Int)∧n≤ks.length∧BI T B b (.slice (some ⟨bk,o,none⟩) T.length c) ub ob f i mb g c6 m (decide (0<tests.length)) ks tests pa (.slice la L.length lc) ms L st.frames loop w n x s1 wr∧cY (ks.drop n) n f s1=R) (fun tk _=>h.kids.length-(intOf tk).toNat)
  case atStart=>exact⟨0,[],s0,rfl,bB _,HI.out,by rw[tR];exact HRS.out.symm⟩
  case round =>
   obtain⟨n,x,s1,rfl,Cr,FM,hrn⟩:=hrel;have p0:wr.cell? ⟨w.heap.size,0,none⟩=some (.int .i64 (f:Int)):=ab FM.box 0;have p1:wr.cell? ⟨w.heap.size,1,none⟩=some (.int .i64 loop):=ab FM.box 1;have p2:wr.cell? ⟨w.heap.size,2,none⟩=some (.pointer (some ⟨mb+1,0,none⟩)):=ab FM.box 2;have p3:wr.cell? ⟨w.heap.size,3,none⟩=some (.slice (some ⟨g,0,none⟩) (L.length+1) c6):=ab FM.box 3;have q2:wr.cell? ⟨mb+1,2,none⟩=some (.int .i64 (gT ks n:Int)):=ab FM.kb 2;have z2:=av FM.kb 2;have hne:w.heap.size≠mb+1:=by have:=ux.out.old;omega
   have hdc:gT ks n≤20000:=aM (NZ ks n) (by have:=qR.out;omega)
   have xi:=aa FM;have TF:=aa hrn;clear FM hrn;by_cases hlt:n<h.kids.length
   ·obtain⟨k,hk⟩ :∃k,ks[n]? = some k:=⟨ks[n]'(by have:=qR.out;omega),bE _⟩
    obtain⟨A',c',he,_,jc⟩:=Jd.out.below xi.out.jk.below;injection he with uC _ he2;subst uC he2;rcases jc with h0 | ⟨sb,so,rfl,Ys,hsc⟩
    ·rw[h0] at hlt;exact absurd hlt (gV _)
    have cs:wr.cell? ⟨sb,so+n,none⟩=some (.int .i64 (k.loc:Int)):=hsc n _ (by rw[HK.out,fw,hk];rfl)
    obtain⟨Yu,I9⟩:=ve HN.out.vQ hk;have vW:k.loc<T.length:=(aJ.1 I9).1;have ZG:=aa (aL hk);have hdr:=drop_at hk;have uw:=aa hdr;have v8:=aa hk;have mD:=aa hlt;have d0:wr.cell? ⟨b,0,none⟩=some (.slice (some ⟨bk,o,none⟩) T.length c):=by obtain⟨_,_,hw⟩:=xi.out.rd.rs;exact ab hw.blk 0
    have OM:Hid (Calls Tryz.prog 115 #[.pointer (some ⟨b,0,none⟩),.int .i64 (k.loc:Int)] wr fun e w'=>e=.returned (.bool (isDecl k))∧wr=w'):=aa (sR b k.loc k.hd wr xi.out.rd.dB d0 I9)
    clear hdr hk Yu I9 hsc d0;cases DR:isDecl k with
    | false =>
     rw[DR] at OM;have HDX:=aa DR;clear DR;go_wp2_with fail
     refine OM.out.mono ?_;rintro e w2 ⟨rfl,rfl⟩;go_wp2_with fail
     obtain⟨r1,r2,r3,r4,r5⟩:=xi.out.ready ux.out v8.out (.inl ⟨rfl,HDX.out⟩);have bz:=HV.out k ZG.out f loop (some ⟨mb+1,0,none⟩) (some ⟨g,0,none⟩) c6 (mb::ms) (grow x (⟨f,m,[]⟩::L)) (s1.at n) _ (by rw[cF];exact r1.mono (gy _ _) (gy _ _)) (fun h=>by rw[FJ xi.out.frames n];exact(HL.out k ZG.out h).trans (vr rfl _).symm) (.inl (qN (by simp)))
     rw[cF,List.length_cons] at bz;have R1:=aa r1;have R2:=aa r2;have R3:=aa r3;have R4:=aa r4;have R5:=aa r5;clear r1 r2 r3 r4 r5;refine bz.mono ?_;clear bz;intro e w3 hp;cases cL:bo k f (s1.at n) with
     | error y =>
      rw[cL] at hp;obtain⟨hb,v,rfl,g2,rfl,h2⟩:=hp;have H2:=aa h2;have HB:=aa hb;have JP:Hid (R=.error y):=aa (by rw[←TF.out,uw.out,im,cL];rfl)
      clear h2 hb cL;go_wp2_with fail
      go_ret
      rw[HE.out,JP.out];exact⟨R4.out.below.trans HB.out,_,rfl,_,rfl,H2.out⟩
     | ok s2 =>
      rw[cL] at hp;obtain⟨rfl,y,FM⟩:=BI.next ux.out (HN.out.at_ k ZG.out) xi.out.frames R1.out R2.out R3.out R4.out R5.out cL hp;have Vn:=aa FM;have JP:Hid (cY (ks.drop (n+1)) (n+1) f s2=R):=aa (by rw[←TF.out,uw.out,im,cL];rfl)
      clear hp FM cL;go_wp2_with fail
      exact⟨⟨n+1,y++x,s2,by go_num,by have:=mD.out;have:=qR.out;omega,Vn.out,JP.out⟩,by have:=mD.out;simp[intOf];omega⟩
    | true =>
     rw[DR] at OM;have HDX:=aa DR;clear DR;go_wp2_with fail
     refine OM.out.mono ?_;rintro e w2 ⟨rfl,rfl⟩;go_wp2_with fail
     obtain⟨r1,r2,r3,r4,r5⟩:=xi.out.ready ux.out v8.out (.inr ⟨rfl,HDX.out⟩);have bz:=HV.out k ZG.out f loop (some ⟨mb+1,0,none⟩) (some ⟨g,0,none⟩) c6 (mb::ms) (grow x (⟨f,m,[]⟩::L)) (s1.at n) _ (by rw[cF];exact r1.mono (gy _ _) (gy _ _)) (fun h=>by rw[FJ xi.out.frames n];exact(HL.out k ZG.out h).trans (vr rfl _).symm) (.inl (qN (by simp)))
     rw[cF,List.length_cons] at bz;have R1:=aa r1;have R2:=aa r2;have R3:=aa r3;have R4:=aa r4;have R5:=aa r5;clear r1 r2 r3 r4 r5;refine bz.mono ?_;clear bz;intro e w3 hp;cases cL:bo k f (s1.at n) with
     | error y =>
      rw[cL] at hp;obtain⟨hb,v,rfl,g2,rfl,h2⟩:=hp;have H2:=aa h2;have HB:=aa hb;have JP:Hid (R=.error y):=aa (by rw[←TF.out,uw.out,im,cL];rfl)
      clear h2 hb cL;go_wp2_with fail
      go_ret
      rw[HE.out,JP.out];exact⟨R4.out.below.trans HB.out,_,rfl,_,rfl,H2.out⟩
     | ok s2 =>
      rw[cL] at hp;obtain⟨rfl,y,FM⟩:=BI.next ux.out (HN.out.at_ k ZG.out) xi.out.frames R1.out R2.out R3.out R4.out R5.out cL hp;have Vn:=aa FM;have JP:Hid (cY (ks.drop (n+1)) (n+1) f s2=R):=aa (by rw[←TF.out,uw.out,im,cL];rfl)
      clear hp FM cL;go_wp2_with fail
      exact⟨⟨n+1,y++x,s2,by go_num,by have:=mD.out;have:=qR.out;omega,Vn.out,JP.out⟩,by have:=mD.out;simp[intOf];omega⟩
   ·have zr:n=ks.length:=by have:=qR.out;omega
    have FK:=xi.out.rd;rw[zr,wA] at FK;have hkb:=xi.out.kb;rw[zr,←Pd] at hkb;have YJ:=(FK.mono (a':=Lt.eD tests) (s':=Lt.ak tests) (wC _ _) (wC _ _)).BP (i:=i) (n:=ks.length-1) (rep:=decide (0<tests.length)) hkb xi.out.mp (by have:=ux.out.low;omega) ux.out.low ux.out.ptr (ux.out.grow x)
    have TN:=xi.out.frames;rw[zr] at TN;have hst:({ ({ s1 with frames:=st.frames}:aH) with frames:=⟨f,i,ks.length-1,false,decide (0<tests.length),ks⟩::st.frames}:aH)=s1:=by
     rw[←TN]
    rw[hst] at YJ;have bz:=qO f loop (some ⟨mb+1,0,none⟩) (some ⟨g,0,none⟩) c6 (mb::ms) (grow x (⟨f,m,[]⟩::L)) s1 wr (.slice TA tests.length tc) tests (by rw[cF];exact YJ) Ri.out HV2.out (by have:=HTV.out.inner (c:=c6) xi.out.jk ux.out.own ux.out.top;rw[cy] at this;rw[cF,oa];exact this) (fun k hk mi=>by rw[TN];exact(HL2.out k hk mi).trans (vr rfl _).symm) (fun k _=>.inl (qN (by simp))) PQ
    rw[cF,List.length_cons] at bz;have JP:Hid (R=.ok s1):=aa (by rw[←TF.out,zr,wA,rM])
    have sJ:=aa bz;clear FK hkb YJ TN hst bz zr;go_wp2_with fail
    refine sJ.out.mono ?_;intro e w3 hp;obtain⟨v,rfl⟩:=hp.ret;have HP:=aa hp;clear hp;go_wp2_with fail
    go_ret
    rw[HE.out,JP.out];exact aq.YF (l:={ fn:=f,blk:=m,iC:=x++[]}) xi.out.jk xi.out.fB ux.out.apart ux.out.own ux.out.top HP.out
theorem eF.ir {T:List Nd} {B b:Nat} {nv:Value} {ub ob f:Nat} {pa:Option Addr} {lv:Value} {ms:List Nat} {L:List cS} {st:aH} {w:World} {a s:Nat} (i:Nat) (h:eF T B b nv ub ob f pa lv ms L st w a (s+1)) (o:Obj):eF T B b nv ub ob f pa lv ms L (st.setOf i f) ((w.setCell ⟨ob,i,none⟩ (.int .i64 (f:Int))).alloc o).drew a (s+1)∧cW B ob lv L.length (eE L) w ((w.setCell ⟨ob,i,none⟩ (.int .i64 (f:Int))).alloc o).drew∧dk ((w.setCell ⟨ob,i,none⟩ (.int .i64 (f:Int))).alloc o).drew B lv L:=by
 obtain⟨h1,h2,h3⟩:=h.zero.setOf i o;exact⟨⟨h1.dB,h1.rs,h1.pos,h.hd,h1.cx,h1.few,h1.fr,h1.names,h.fns,h.fB⟩,h2,h3⟩
theorem aq.tM {T:List Nd} {B b:Nat} {nv:Value} {ub ob f:Nat} {pa:Option Addr} {lv:Value} {ms:List Nat} {L:List cS} {st:aH} {w w':World} {a s:Nat} {r:Rs aH} {e:Ending} (h:eF T B b nv ub ob f pa lv ms L st w a s) (hp:gI B b nv T.length ub ob r w e w') (hn :∀s',r=.ok s'→s'.names=st.names):aq B b nv T.length ub ob lv L st r w e w':=by
 refine⟨hp.1,?_⟩;have h2:=hp.2;cases r with
 | error y=>exact h2
 | ok s' =>
  obtain⟨k1,k2,k3⟩:=h2;have hf :∀top,cW B ob lv L.length top w w':=fun top=>cW.vi k3 (by decide) hp.1
  refine⟨k1,k2,hf _,[],hn s' rfl,fun _=>rfl,?_⟩
  rw[jM];exact h.pos.fB.jk (hf none) (ah _)
theorem aq.after {B b:Nat} {nv:Value} {N ub ob:Nat} {lv:Value} {L:List cS} {st s1:aH} {r:Rs aH} {w w1 w2:World} {e:Ending} (hf:cW B ob lv L.length (eE L) w w1) (hn:s1.names=st.names) (h:aq B b nv N ub ob lv L s1 r w1 e w2):aq B b nv N ub ob lv L st r w e w2:=by
 refine⟨hf.below.trans h.1,?_⟩;have h2:=h.2;cases r with
 | error y=>exact h2
 | ok s =>
  obtain⟨k1,k2,k3,x,k4,k5,k6⟩:=h2;exact⟨k1,k2,hf.trans k3,x,by rw[k4,hn],k5,k6⟩
theorem TO {T:List Nd} {B b:Nat} {nv:Value} {ub ob:Nat} (gO :∀x∈T,x.s.size≤65536∧∀s∈x.names,s.size≤65536) (i:Nat) (h:Nd) (ks:List Lt) (hn:lx T (.mk i h ks)) (iE :∀u:Lt,u.size<Lt.ak ks+1→lx T u→bM T B b nv ub ob u) (hk:h.kind=6):bM T B b nv ub ob (.mk i h ks):=by
 intro f loop pa la lc ms L st w hr bg bG;show Calls Tryz.prog 26 #[.pointer (some ⟨b,0,none⟩),.int .i64 (i:Int),.agg #[.int .i64 (f:Int),.int .i64 loop,.pointer pa,.slice la L.length lc]] w (aq B b nv T.length ub ob (.slice la L.length lc) L st (bo (.mk i h ks) f st) w)
 have fL:=hn.sub;have fD:=hn.vQ;unfold Lt.In at fD;obtain⟨hx,bw,_⟩:=fD;replace hr:eF T B b nv ub ob f pa (.slice la L.length lc) ms L st w (h.names.length+Lt.eD ks) (Lt.ak ks+1):=by have h1:=hr;rw[Lt.wt,Lt.size] at h1;exact h1
 replace bg:18≤h.kind→loop=bP f st.frames:=bg;replace bG:L≠[]∨h.kind=18:=bG;obtain⟨bh,bj,bn⟩:=fL;replace bh:dX T ks:=bh;replace bj:h.kind≠18→∀k∈ks,Still k:=bj;replace bn:hH h.kind h.num (jd ks):=bn;have kJ:=gO h (aL hx);obtain⟨bk,o,c,rfl,bN,cC,cL⟩:=hr.dB.nodes;obtain⟨pL,pM,dM,⟨NA,nc,kI,_⟩,⟨KA,kc,jx,qe,kt⟩⟩:=cL i h hx;have tm:h.kids.length≤20000:=(hr.dB.small h (aL hx)).1;have fX:h.kids.length=ks.length:=by rw[bw,cy]
 subst kI jx;obtain⟨x0,x1,x2,x3,x4,x5,x6⟩:=dM;have y9:i<T.length:=(aJ.1 hx).1;have qY:=hr.dB.few;obtain⟨fv,FL,hw⟩:=id hr.rs;obtain⟨hbl,pE,uq⟩:=hw.gR;have d0:w.cell? ⟨b,0,none⟩=some (.slice (some ⟨bk,o,none⟩) T.length c):=ab hw.blk 0;have d3:w.cell? ⟨b,3,none⟩=some (.slice (some ⟨ob,0,none⟩) T.length T.length):=ab hw.blk 3;obtain⟨u0,v0⟩:=bA hw.mC (j:=i) (by omega)
 have iR:bk<w.heap.size:=by omega
 have HR:=aa hr;have HN:=aa hn;have tJ:=aa iE;have iS:=aa bg;have kG:=aa bG;have eM:=aa bh;have sH:=aa bj;have oh:=aa bn;have fP:=aa bw;have qR:=aa fX;have HX:=aa hx;have zh:=aa kJ;have CU:=aa kt;clear hr hn iE bg bG bh bj bn bw fX hx kJ cL hw gO kt;have q6:(h.kind == 6)=true:=by rw[hk];rfl
 have bV:=aa hk;clear hk;go_enter Tryz.func26,Tryz.ntmps26
 go_wp2_with fail
 go_region
 have aU:=HR.out.ir i (.cells #[.int .i64 (f:Int),.int .i64 loop,.pointer pa,.slice la L.length lc] 92);have db:=heap_alloc_new (w.setCell ⟨ob,i,none⟩ (.int .i64 (f:Int))) (.cells #[.int .i64 (f:Int),.int .i64 loop,.pointer pa,.slice la L.length lc] 92);obtain⟨W1,hW1⟩ :∃W1,W1=((w.setCell ⟨ob,i,none⟩ (.int .i64 (f:Int))).alloc (.cells #[.int .i64 (f:Int),.int .i64 loop,.pointer pa,.slice la L.length lc] 92)).drew:=⟨_,rfl⟩;rw[←hW1] at aU;have bY:W1.heap[w.heap.size]? = some (.cells #[.int .i64 (f:Int),.int .i64 loop,.pointer pa,.slice la L.length lc] 92 (0,0)):=by
  rw[hW1];have e:(w.setCell ⟨ob,i,none⟩ (.int .i64 (f:Int))).heap.size=w.heap.size:=by simp[World.setCell]
  rw[e] at db;exact db
 rw[←hW1];have x0:=(aU.2.1.below.cell (p:=⟨bk,o+i*7,none⟩) bN).trans x0;have x1:=(aU.2.1.below.cell (p:=⟨bk,o+i*7+1,none⟩) bN).trans x1;have x2:=(aU.2.1.below.cell (p:=⟨bk,o+i*7+2,none⟩) bN).trans x2;have x3:=(aU.2.1.below.cell (p:=⟨bk,o+i*7+3,none⟩) bN).trans x3;have x4:=(aU.2.1.below.cell (p:=⟨bk,o+i*7+4,none⟩) bN).trans x4;have x5:=(aU.2.1.below.cell (p:=⟨bk,o+i*7+5,none⟩) bN).trans x5;have x6:=(aU.2.1.below.cell (p:=⟨bk,o+i*7+6,none⟩) bN).trans x6;clear hW1 db d0 d3 u0 v0;have d0:W1.cell? ⟨b,0,none⟩=some (.slice (some ⟨bk,o,none⟩) T.length c):=by obtain⟨_,_,hw⟩:=aU.1.rs;exact ab hw.blk 0
 have tn:b<W1.heap.size:=by obtain⟨_,_,hw⟩:=aU.1.rs;exact hw.gR.1
 have oC:w.heap.size<W1.heap.size:=(aF.1 bY).1;have tp:bk<W1.heap.size:=by omega
 have k0:W1.cell? ⟨w.heap.size,0,none⟩=some (.int .i64 (f:Int)):=ab bY 0;have k1:W1.cell? ⟨w.heap.size,1,none⟩=some (.int .i64 loop):=ab bY 1;have k2:W1.cell? ⟨w.heap.size,2,none⟩=some (.pointer pa):=ab bY 2;have k3:W1.cell? ⟨w.heap.size,3,none⟩=some (.slice la L.length lc):=ab bY 3;have HZ:=aa aU.1;have fA:=aa aU.2.1;have pH:=aa aU.2.2;have AF:=aa bY;clear aU bY;go_wp2_with fail
 obtain⟨W2,hW2⟩ :∃W2,W2=W1.alloc (.cells #[.int .i64 h.kind,.int .i64 h.line,.int .i64 h.op,.int .i64 h.num,.string h.s,.slice NA h.names.length nc,.slice KA h.kids.length kc] 55):=⟨_,rfl⟩;have di:Below W1.heap.size W1 W2:=by rw[hW2];exact(Below.refl _ _).alloc (ah _) _
 rw[←hW2];have hr2:=HZ.out.dp di;have hf2:cW B ob (.slice la L.length lc) L.length (eE L) w W2:=fA.out.trans (cW.bR di HZ.out.world);have vX:=aa hr2;have lO:=aa hf2;refine(Oa b i f h loop pa la L.length lc (st.setOf i f) W2 hr2.dB hr2.rs HX.out hr2.cx.lt).mono ?_;intro e w3 hp;have hv:=aq.tM hr2 hp (fun s' hs'=>by
  split at hs'
  ·injection hs' with hs';rw[←hs']
  ·cases hs')
 obtain⟨v,rfl⟩:=hv.ret;have HV:=aa hv;clear hp hv hr2 hf2;go_wp2_with fail
 go_ret
 have hE:bo (.mk i h ks) f st=(if ((st.setOf i f).fn f).many then .ok (st.setOf i f) else .error (14,h.line)):=by
  rw[cV];rw[al bV.out]
 rw[hE];exact aq.after lO.out rfl HV.out
theorem TP {T:List Nd} {B b:Nat} {nv:Value} {ub ob:Nat} (gO :∀x∈T,x.s.size≤65536∧∀s∈x.names,s.size≤65536) (i:Nat) (h:Nd) (ks:List Lt) (hn:lx T (.mk i h ks)) (iE :∀u:Lt,u.size<Lt.ak ks+1→lx T u→bM T B b nv ub ob u) (hk:h.kind=7):bM T B b nv ub ob (.mk i h ks):=by
 intro f loop pa la lc ms L st w hr bg bG;show Calls Tryz.prog 26 #[.pointer (some ⟨b,0,none⟩),.int .i64 (i:Int),.agg #[.int .i64 (f:Int),.int .i64 loop,.pointer pa,.slice la L.length lc]] w (aq B b nv T.length ub ob (.slice la L.length lc) L st (bo (.mk i h ks) f st) w)
 have fL:=hn.sub;have fD:=hn.vQ;unfold Lt.In at fD;obtain⟨hx,bw,_⟩:=fD;replace hr:eF T B b nv ub ob f pa (.slice la L.length lc) ms L st w (h.names.length+Lt.eD ks) (Lt.ak ks+1):=by have h1:=hr;rw[Lt.wt,Lt.size] at h1;exact h1
 replace bg:18≤h.kind→loop=bP f st.frames:=bg;replace bG:L≠[]∨h.kind=18:=bG;obtain⟨bh,bj,bn⟩:=fL;replace bh:dX T ks:=bh;replace bj:h.kind≠18→∀k∈ks,Still k:=bj;replace bn:hH h.kind h.num (jd ks):=bn;have kJ:=gO h (aL hx);obtain⟨bk,o,c,rfl,bN,cC,cL⟩:=hr.dB.nodes;obtain⟨pL,pM,dM,⟨NA,nc,kI,_⟩,⟨KA,kc,jx,qe,kt⟩⟩:=cL i h hx;have tm:h.kids.length≤20000:=(hr.dB.small h (aL hx)).1;have fX:h.kids.length=ks.length:=by rw[bw,cy]
 subst kI jx;obtain⟨x0,x1,x2,x3,x4,x5,x6⟩:=dM;have y9:i<T.length:=(aJ.1 hx).1;have qY:=hr.dB.few;obtain⟨fv,FL,hw⟩:=id hr.rs;obtain⟨hbl,pE,uq⟩:=hw.gR;have d0:w.cell? ⟨b,0,none⟩=some (.slice (some ⟨bk,o,none⟩) T.length c):=ab hw.blk 0;have d3:w.cell? ⟨b,3,none⟩=some (.slice (some ⟨ob,0,none⟩) T.length T.length):=ab hw.blk 3;obtain⟨u0,v0⟩:=bA hw.mC (j:=i) (by omega)
 have iR:bk<w.heap.size:=by omega
 have HR:=aa hr;have HN:=aa hn;have tJ:=aa iE;have iS:=aa bg;have kG:=aa bG;have eM:=aa bh;have sH:=aa bj;have oh:=aa bn;have fP:=aa bw;have qR:=aa fX;have HX:=aa hx;have zh:=aa kJ;have CU:=aa kt;clear hr hn iE bg bG bh bj bn bw fX hx kJ cL hw gO kt;have q6:(h.kind == 6)=false:=by rw[hk];rfl
 have q7:(h.kind == 7)=true:=by rw[hk];rfl
 have bV:=aa hk;clear hk;go_enter Tryz.func26,Tryz.ntmps26
 go_wp2_with fail
 go_region
 have aU:=HR.out.ir i (.cells #[.int .i64 (f:Int),.int .i64 loop,.pointer pa,.slice la L.length lc] 92);have db:=heap_alloc_new (w.setCell ⟨ob,i,none⟩ (.int .i64 (f:Int))) (.cells #[.int .i64 (f:Int),.int .i64 loop,.pointer pa,.slice la L.length lc] 92);obtain⟨W1,hW1⟩ :∃W1,W1=((w.setCell ⟨ob,i,none⟩ (.int .i64 (f:Int))).alloc (.cells #[.int .i64 (f:Int),.int .i64 loop,.pointer pa,.slice la L.length lc] 92)).drew:=⟨_,rfl⟩;rw[←hW1] at aU;have bY:W1.heap[w.heap.size]? = some (.cells #[.int .i64 (f:Int),.int .i64 loop,.pointer pa,.slice la L.length lc] 92 (0,0)):=by
  rw[hW1];have e:(w.setCell ⟨ob,i,none⟩ (.int .i64 (f:Int))).heap.size=w.heap.size:=by simp[World.setCell]
  rw[e] at db;exact db
 rw[←hW1];have x0:=(aU.2.1.below.cell (p:=⟨bk,o+i*7,none⟩) bN).trans x0;have x1:=(aU.2.1.below.cell (p:=⟨bk,o+i*7+1,none⟩) bN).trans x1;have x2:=(aU.2.1.below.cell (p:=⟨bk,o+i*7+2,none⟩) bN).trans x2;have x3:=(aU.2.1.below.cell (p:=⟨bk,o+i*7+3,none⟩) bN).trans x3;have x4:=(aU.2.1.below.cell (p:=⟨bk,o+i*7+4,none⟩) bN).trans x4;have x5:=(aU.2.1.below.cell (p:=⟨bk,o+i*7+5,none⟩) bN).trans x5;have x6:=(aU.2.1.below.cell (p:=⟨bk,o+i*7+6,none⟩) bN).trans x6;clear hW1 db d0 d3 u0 v0;have d0:W1.cell? ⟨b,0,none⟩=some (.slice (some ⟨bk,o,none⟩) T.length c):=by obtain⟨_,_,hw⟩:=aU.1.rs;exact ab hw.blk 0
 have tn:b<W1.heap.size:=by obtain⟨_,_,hw⟩:=aU.1.rs;exact hw.gR.1
 have oC:w.heap.size<W1.heap.size:=(aF.1 bY).1;have tp:bk<W1.heap.size:=by omega
 have k0:W1.cell? ⟨w.heap.size,0,none⟩=some (.int .i64 (f:Int)):=ab bY 0;have k1:W1.cell? ⟨w.heap.size,1,none⟩=some (.int .i64 loop):=ab bY 1;have k2:W1.cell? ⟨w.heap.size,2,none⟩=some (.pointer pa):=ab bY 2;have k3:W1.cell? ⟨w.heap.size,3,none⟩=some (.slice la L.length lc):=ab bY 3;have HZ:=aa aU.1;have fA:=aa aU.2.1;have pH:=aa aU.2.2;have AF:=aa bY;clear aU bY;go_wp2_with fail
 obtain⟨W2,hW2⟩ :∃W2,W2=W1.alloc (.cells #[.int .i64 h.kind,.int .i64 h.line,.int .i64 h.op,.int .i64 h.num,.string h.s,.slice NA h.names.length nc,.slice KA h.kids.length kc] 55):=⟨_,rfl⟩;have di:Below W1.heap.size W1 W2:=by rw[hW2];exact(Below.refl _ _).alloc (ah _) _
 rw[←hW2];have hr2:=HZ.out.dp di;have hf2:cW B ob (.slice la L.length lc) L.length (eE L) w W2:=fA.out.trans (cW.bR di HZ.out.world);have vX:=aa hr2;have lO:=aa hf2;refine(OD b i f h loop pa la lc L (st.setOf i f) W2 hr2.dB hr2.rs HX.out hr2.pos.fB hr2.pos.names hr2.cx hr2.few (by have:=hr2.fns;omega) (by have:=hr2.fB;omega) (by have:=zh.out.1;unfold maxLen;omega)).mono ?_
 intro e w3 hp;have hv:=aq.tM hr2 hp (fun s' hs'=>(yV hs').2)
 obtain⟨v,rfl⟩:=hv.ret;have HV:=aa hv;clear hp hv hr2 hf2;go_wp2_with fail
 go_ret
 have hE:bo (.mk i h ks) f st=lR i f h.s h.line (st.setOf i f):=by
  rw[cV];rw[af (by have:=bV.out;omega)]
  rw[al bV.out]
 rw[hE];exact aq.after lO.out rfl HV.out
theorem Pf {T:List Nd} {B b:Nat} {nv:Value} {ub ob:Nat} (gO :∀x∈T,x.s.size≤65536∧∀s∈x.names,s.size≤65536) (i:Nat) (h:Nd) (ks:List Lt) (hn:lx T (.mk i h ks)) (iE :∀u:Lt,u.size<Lt.ak ks+1→lx T u→bM T B b nv ub ob u) (hk:h.kind=30):bM T B b nv ub ob (.mk i h ks):=by
 intro f loop pa la lc ms L st w hr bg bG;show Calls Tryz.prog 26 #[.pointer (some ⟨b,0,none⟩),.int .i64 (i:Int),.agg #[.int .i64 (f:Int),.int .i64 loop,.pointer pa,.slice la L.length lc]] w (aq B b nv T.length ub ob (.slice la L.length lc) L st (bo (.mk i h ks) f st) w)
 have fL:=hn.sub;have fD:=hn.vQ;unfold Lt.In at fD;obtain⟨hx,bw,_⟩:=fD;replace hr:eF T B b nv ub ob f pa (.slice la L.length lc) ms L st w (h.names.length+Lt.eD ks) (Lt.ak ks+1):=by have h1:=hr;rw[Lt.wt,Lt.size] at h1;exact h1
 replace bg:18≤h.kind→loop=bP f st.frames:=bg;replace bG:L≠[]∨h.kind=18:=bG;obtain⟨bh,bj,bn⟩:=fL;replace bh:dX T ks:=bh;replace bj:h.kind≠18→∀k∈ks,Still k:=bj;replace bn:hH h.kind h.num (jd ks):=bn;have kJ:=gO h (aL hx);obtain⟨bk,o,c,rfl,bN,cC,cL⟩:=hr.dB.nodes;obtain⟨pL,pM,dM,⟨NA,nc,kI,_⟩,⟨KA,kc,jx,qe,kt⟩⟩:=cL i h hx;have tm:h.kids.length≤20000:=(hr.dB.small h (aL hx)).1;have fX:h.kids.length=ks.length:=by rw[bw,cy]
 subst kI jx;obtain⟨x0,x1,x2,x3,x4,x5,x6⟩:=dM;have y9:i<T.length:=(aJ.1 hx).1;have qY:=hr.dB.few;obtain⟨fv,FL,hw⟩:=id hr.rs;obtain⟨hbl,pE,uq⟩:=hw.gR;have d0:w.cell? ⟨b,0,none⟩=some (.slice (some ⟨bk,o,none⟩) T.length c):=ab hw.blk 0;have d3:w.cell? ⟨b,3,none⟩=some (.slice (some ⟨ob,0,none⟩) T.length T.length):=ab hw.blk 3;obtain⟨u0,v0⟩:=bA hw.mC (j:=i) (by omega)
 have iR:bk<w.heap.size:=by omega
 have HR:=aa hr;have HN:=aa hn;have tJ:=aa iE;have iS:=aa bg;have kG:=aa bG;have eM:=aa bh;have sH:=aa bj;have oh:=aa bn;have fP:=aa bw;have qR:=aa fX;have HX:=aa hx;have zh:=aa kJ;have CU:=aa kt;clear hr hn iE bg bG bh bj bn bw fX hx kJ cL hw gO kt;have q6:(h.kind == 6)=false:=by rw[hk];rfl
 have q7:(h.kind == 7)=false:=by rw[hk];rfl
 have yG:(h.kind == 11)=false:=by rw[hk];rfl
 have zv:(h.kind == 18)=false:=by rw[hk];rfl
 have Vo:(h.kind == 23)=false:=by rw[hk];rfl
 have YK:(h.kind == 26)=false:=by rw[hk];rfl
 have ZH:(h.kind == 27)=false:=by rw[hk];rfl
 have q24:(h.kind == 24)=false:=by rw[hk];rfl
 have q30:(h.kind == 30)=true:=by rw[hk];rfl
 have bV:=aa hk;clear hk;go_enter Tryz.func26,Tryz.ntmps26
 go_wp2_with fail
 go_region
 have aU:=HR.out.ir i (.cells #[.int .i64 (f:Int),.int .i64 loop,.pointer pa,.slice la L.length lc] 92);have db:=heap_alloc_new (w.setCell ⟨ob,i,none⟩ (.int .i64 (f:Int))) (.cells #[.int .i64 (f:Int),.int .i64 loop,.pointer pa,.slice la L.length lc] 92);obtain⟨W1,hW1⟩ :∃W1,W1=((w.setCell ⟨ob,i,none⟩ (.int .i64 (f:Int))).alloc (.cells #[.int .i64 (f:Int),.int .i64 loop,.pointer pa,.slice la L.length lc] 92)).drew:=⟨_,rfl⟩;rw[←hW1] at aU;have bY:W1.heap[w.heap.size]? = some (.cells #[.int .i64 (f:Int),.int .i64 loop,.pointer pa,.slice la L.length lc] 92 (0,0)):=by
  rw[hW1];have e:(w.setCell ⟨ob,i,none⟩ (.int .i64 (f:Int))).heap.size=w.heap.size:=by simp[World.setCell]
  rw[e] at db;exact db
 rw[←hW1];have x0:=(aU.2.1.below.cell (p:=⟨bk,o+i*7,none⟩) bN).trans x0;have x1:=(aU.2.1.below.cell (p:=⟨bk,o+i*7+1,none⟩) bN).trans x1;have x2:=(aU.2.1.below.cell (p:=⟨bk,o+i*7+2,none⟩) bN).trans x2;have x3:=(aU.2.1.below.cell (p:=⟨bk,o+i*7+3,none⟩) bN).trans x3;have x4:=(aU.2.1.below.cell (p:=⟨bk,o+i*7+4,none⟩) bN).trans x4;have x5:=(aU.2.1.below.cell (p:=⟨bk,o+i*7+5,none⟩) bN).trans x5;have x6:=(aU.2.1.below.cell (p:=⟨bk,o+i*7+6,none⟩) bN).trans x6;clear hW1 db d0 d3 u0 v0;have d0:W1.cell? ⟨b,0,none⟩=some (.slice (some ⟨bk,o,none⟩) T.length c):=by obtain⟨_,_,hw⟩:=aU.1.rs;exact ab hw.blk 0
 have tn:b<W1.heap.size:=by obtain⟨_,_,hw⟩:=aU.1.rs;exact hw.gR.1
 have oC:w.heap.size<W1.heap.size:=(aF.1 bY).1;have tp:bk<W1.heap.size:=by omega
 have k0:W1.cell? ⟨w.heap.size,0,none⟩=some (.int .i64 (f:Int)):=ab bY 0;have k1:W1.cell? ⟨w.heap.size,1,none⟩=some (.int .i64 loop):=ab bY 1;have k2:W1.cell? ⟨w.heap.size,2,none⟩=some (.pointer pa):=ab bY 2;have k3:W1.cell? ⟨w.heap.size,3,none⟩=some (.slice la L.length lc):=ab bY 3;have HZ:=aa aU.1;have fA:=aa aU.2.1;have pH:=aa aU.2.2;have AF:=aa bY;clear aU bY;go_wp2_with fail
 obtain⟨W2,hW2⟩ :∃W2,W2=W1.alloc (.cells #[.int .i64 h.kind,.int .i64 h.line,.int .i64 h.op,.int .i64 h.num,.string h.s,.slice NA h.names.length nc,.slice KA h.kids.length kc] 55):=⟨_,rfl⟩;have di:Below W1.heap.size W1 W2:=by rw[hW2];exact(Below.refl _ _).alloc (ah _) _
 rw[←hW2];have hr2:=HZ.out.dp di;have hf2:cW B ob (.slice la L.length lc) L.length (eE L) w W2:=fA.out.trans (cW.bR di HZ.out.world);have vX:=aa hr2;have lO:=aa hf2;refine(Bo b i f h loop pa la L.length lc (st.setOf i f) W2 hr2.dB hr2.rs HX.out (iS.out (by have:=bV.out;omega))).mono ?_
 intro e w3 hp;have hv:=aq.tM hr2 hp (fun s' hs'=>(rP hs').2)
 obtain⟨v,rfl⟩:=hv.ret;have HV:=aa hv;clear hp hv hr2 hf2;go_wp2_with fail
 go_ret
 have hE:bo (.mk i h ks) f st=ee i f h.line (st.setOf i f):=by
  rw[cV];rw[af (by have:=bV.out;omega)]
  rw[af (by have:=bV.out;omega)]
  rw[af (by have:=bV.out;omega)]
  rw[af (by have:=bV.out;omega)]
  rw[af (by have:=bV.out;omega)]
  rw[af (by have:=bV.out;omega)]
  rw[af (by have:=bV.out;omega)]
  rw[af (by have:=bV.out;omega)]
  rw[af (by have:=bV.out;omega)]
  rw[al bV.out]
 rw[hE];exact aq.after lO.out rfl HV.out
theorem Pg {T:List Nd} {B b:Nat} {nv:Value} {ub ob:Nat} (gO :∀x∈T,x.s.size≤65536∧∀s∈x.names,s.size≤65536) (i:Nat) (h:Nd) (ks:List Lt) (hn:lx T (.mk i h ks)) (iE :∀u:Lt,u.size<Lt.ak ks+1→lx T u→bM T B b nv ub ob u) (hk:h.kind=31):bM T B b nv ub ob (.mk i h ks):=by
 intro f loop pa la lc ms L st w hr bg bG;show Calls Tryz.prog 26 #[.pointer (some ⟨b,0,none⟩),.int .i64 (i:Int),.agg #[.int .i64 (f:Int),.int .i64 loop,.pointer pa,.slice la L.length lc]] w (aq B b nv T.length ub ob (.slice la L.length lc) L st (bo (.mk i h ks) f st) w)
 have fL:=hn.sub;have fD:=hn.vQ;unfold Lt.In at fD;obtain⟨hx,bw,_⟩:=fD;replace hr:eF T B b nv ub ob f pa (.slice la L.length lc) ms L st w (h.names.length+Lt.eD ks) (Lt.ak ks+1):=by have h1:=hr;rw[Lt.wt,Lt.size] at h1;exact h1
 replace bg:18≤h.kind→loop=bP f st.frames:=bg;replace bG:L≠[]∨h.kind=18:=bG;obtain⟨bh,bj,bn⟩:=fL;replace bh:dX T ks:=bh;replace bj:h.kind≠18→∀k∈ks,Still k:=bj;replace bn:hH h.kind h.num (jd ks):=bn;have kJ:=gO h (aL hx);obtain⟨bk,o,c,rfl,bN,cC,cL⟩:=hr.dB.nodes;obtain⟨pL,pM,dM,⟨NA,nc,kI,_⟩,⟨KA,kc,jx,qe,kt⟩⟩:=cL i h hx;have tm:h.kids.length≤20000:=(hr.dB.small h (aL hx)).1;have fX:h.kids.length=ks.length:=by rw[bw,cy]
 subst kI jx;obtain⟨x0,x1,x2,x3,x4,x5,x6⟩:=dM;have y9:i<T.length:=(aJ.1 hx).1;have qY:=hr.dB.few;obtain⟨fv,FL,hw⟩:=id hr.rs;obtain⟨hbl,pE,uq⟩:=hw.gR;have d0:w.cell? ⟨b,0,none⟩=some (.slice (some ⟨bk,o,none⟩) T.length c):=ab hw.blk 0;have d3:w.cell? ⟨b,3,none⟩=some (.slice (some ⟨ob,0,none⟩) T.length T.length):=ab hw.blk 3;obtain⟨u0,v0⟩:=bA hw.mC (j:=i) (by omega)
 have iR:bk<w.heap.size:=by omega
 have HR:=aa hr;have HN:=aa hn;have tJ:=aa iE;have iS:=aa bg;have kG:=aa bG;have eM:=aa bh;have sH:=aa bj;have oh:=aa bn;have fP:=aa bw;have qR:=aa fX;have HX:=aa hx;have zh:=aa kJ;have CU:=aa kt;clear hr hn iE bg bG bh bj bn bw fX hx kJ cL hw gO kt;have q6:(h.kind == 6)=false:=by rw[hk];rfl
 have q7:(h.kind == 7)=false:=by rw[hk];rfl
 have yG:(h.kind == 11)=false:=by rw[hk];rfl
 have zv:(h.kind == 18)=false:=by rw[hk];rfl
 have Vo:(h.kind == 23)=false:=by rw[hk];rfl
 have YK:(h.kind == 26)=false:=by rw[hk];rfl
 have ZH:(h.kind == 27)=false:=by rw[hk];rfl
 have q24:(h.kind == 24)=false:=by rw[hk];rfl
 have q30:(h.kind == 30)=false:=by rw[hk];rfl
 have q31:(h.kind == 31)=true:=by rw[hk];rfl
 have bV:=aa hk;clear hk;go_enter Tryz.func26,Tryz.ntmps26
 go_wp2_with fail
 go_region
 have aU:=HR.out.ir i (.cells #[.int .i64 (f:Int),.int .i64 loop,.pointer pa,.slice la L.length lc] 92);have db:=heap_alloc_new (w.setCell ⟨ob,i,none⟩ (.int .i64 (f:Int))) (.cells #[.int .i64 (f:Int),.int .i64 loop,.pointer pa,.slice la L.length lc] 92);obtain⟨W1,hW1⟩ :∃W1,W1=((w.setCell ⟨ob,i,none⟩ (.int .i64 (f:Int))).alloc (.cells #[.int .i64 (f:Int),.int .i64 loop,.pointer pa,.slice la L.length lc] 92)).drew:=⟨_,rfl⟩;rw[←hW1] at aU;have bY:W1.heap[w.heap.size]? = some (.cells #[.int .i64 (f:Int),.int .i64 loop,.pointer pa,.slice la L.length lc] 92 (0,0)):=by
  rw[hW1];have e:(w.setCell ⟨ob,i,none⟩ (.int .i64 (f:Int))).heap.size=w.heap.size:=by simp[World.setCell]
  rw[e] at db;exact db
 rw[←hW1];have x0:=(aU.2.1.below.cell (p:=⟨bk,o+i*7,none⟩) bN).trans x0;have x1:=(aU.2.1.below.cell (p:=⟨bk,o+i*7+1,none⟩) bN).trans x1;have x2:=(aU.2.1.below.cell (p:=⟨bk,o+i*7+2,none⟩) bN).trans x2;have x3:=(aU.2.1.below.cell (p:=⟨bk,o+i*7+3,none⟩) bN).trans x3;have x4:=(aU.2.1.below.cell (p:=⟨bk,o+i*7+4,none⟩) bN).trans x4;have x5:=(aU.2.1.below.cell (p:=⟨bk,o+i*7+5,none⟩) bN).trans x5;have x6:=(aU.2.1.below.cell (p:=⟨bk,o+i*7+6,none⟩) bN).trans x6;clear hW1 db d0 d3 u0 v0;have d0:W1.cell? ⟨b,0,none⟩=some (.slice (some ⟨bk,o,none⟩) T.length c):=by obtain⟨_,_,hw⟩:=aU.1.rs;exact ab hw.blk 0
 have tn:b<W1.heap.size:=by obtain⟨_,_,hw⟩:=aU.1.rs;exact hw.gR.1
 have oC:w.heap.size<W1.heap.size:=(aF.1 bY).1;have tp:bk<W1.heap.size:=by omega
 have k0:W1.cell? ⟨w.heap.size,0,none⟩=some (.int .i64 (f:Int)):=ab bY 0;have k1:W1.cell? ⟨w.heap.size,1,none⟩=some (.int .i64 loop):=ab bY 1;have k2:W1.cell? ⟨w.heap.size,2,none⟩=some (.pointer pa):=ab bY 2;have k3:W1.cell? ⟨w.heap.size,3,none⟩=some (.slice la L.length lc):=ab bY 3;have HZ:=aa aU.1;have fA:=aa aU.2.1;have pH:=aa aU.2.2;have AF:=aa bY;clear aU bY;go_wp2_with fail
 obtain⟨W2,hW2⟩ :∃W2,W2=W1.alloc (.cells #[.int .i64 h.kind,.int .i64 h.line,.int .i64 h.op,.int .i64 h.num,.string h.s,.slice NA h.names.length nc,.slice KA h.kids.length kc] 55):=⟨_,rfl⟩;have di:Below W1.heap.size W1 W2:=by rw[hW2];exact(Below.refl _ _).alloc (ah _) _
 rw[←hW2];have hr2:=HZ.out.dp di;have hf2:cW B ob (.slice la L.length lc) L.length (eE L) w W2:=fA.out.trans (cW.bR di HZ.out.world);have vX:=aa hr2;have lO:=aa hf2;refine(OG b i f h loop pa la lc L.length ms (st.setOf i f) W2 hr2.dB hr2.rs HX.out hr2.pos.blk (by have:=zh.out.1;unfold maxLen;omega)).mono ?_
 intro e w3 hp;have hv:=aq.tM hr2 hp (fun s' hs'=>(rQ _ hs').2)
 obtain⟨v,rfl⟩:=hv.ret;have HV:=aa hv;clear hp hv hr2 hf2;go_wp2_with fail
 go_ret
 have hE:bo (.mk i h ks) f st=dm i f h.s h.line (st.setOf i f) (st.setOf i f).frames:=by
  rw[cV];rw[af (by have:=bV.out;omega)]
  rw[af (by have:=bV.out;omega)]
  rw[af (by have:=bV.out;omega)]
  rw[af (by have:=bV.out;omega)]
  rw[af (by have:=bV.out;omega)]
  rw[af (by have:=bV.out;omega)]
  rw[af (by have:=bV.out;omega)]
  rw[af (by have:=bV.out;omega)]
  rw[af (by have:=bV.out;omega)]
  rw[af (by have:=bV.out;omega)]
  rw[al bV.out]
 rw[hE];exact aq.after lO.out rfl HV.out
theorem fh :∀{ks:List Lt} {k:Lt},k∈ks→k.size≤Lt.ak ks
 | x::ks,k,h=>by
  rw[Lt.ak];rcases bc.1 h with rfl|h
  ·omega
  ·have:=fh h;omega
theorem Ph {k n:Int} {kk:List Int} (h:hH k n kk) (h1:1≤k) (h2:k<18) (h3:k≠11) :∀a∈kk,a<18:=by
 intro a ha;by_cases c1:k=1∨k=2∨k=3∨k=4∨k=5∨k=6∨k=7∨k=30∨k=31∨k=32
 ·rw[h.none c1] at ha;cases ha
 by_cases c2:k=8∨k=12∨k=17
 ·obtain⟨x,y,e,hx,hy⟩:=h.two c2
  unfold tG at hx hy;rw[e] at ha;simp only[bc,oG,oH] at ha;rcases ha with rfl|rfl<;>omega
 by_cases c3:k=9∨k=10
 ·have:=(h.call c3).2 a ha
  unfold tG at this;omega
 by_cases c5:k=13∨k=14∨k=16
 ·obtain⟨x,e,hx⟩:=h.one c5
  unfold tG at hx;rw[e,bZ] at ha;omega
 by_cases c6:k=15
 ·have:=h.items c6 a ha
  omega
 omega
theorem Jg (st:aH) (i f:Nat):(st.setOf i f).setOf i f=st.setOf i f:=by
 unfold aH.setOf;simp only[aH.mk.injEq,true_and,pR];funext j
 by_cases e:j=i
 ·simp[e]
 ·simp[e]
theorem aq.TQ {B b:Nat} {nv:Value} {N ub ob:Nat} {lv:Value} {L:List cS} {st st':aH} {r:Rs aH} {w w2:World} {e:Ending} (h:aq B b nv N ub ob lv L st r w e w2) (hn:st'.names=st.names) (hr :∀s,r=.ok s→s.names=st.names):aq B b nv N ub ob lv L st' (r.map fun s=>s.back st') w e w2:=by
 cases r with
 | error y=>exact h.same hn rfl
 | ok s=>exact h.same hn ⟨rfl,rfl,rfl,hn.trans (hr s rfl).symm⟩
theorem Jh {T:List Nd} {B b:Nat} {nv:Value} {ub ob:Nat} (i f:Nat) (h:Nd) (ks:List Lt) (loop:Int) (pa la:Option Addr) (lc:Nat) (ms:List Nat) (L:List cS) (hL:L≠[]) (st:aH) (w:World) (hr:eF T B b nv ub ob f pa (.slice la L.length lc) ms L st w (h.names.length+Lt.eD ks) (Lt.ak ks)) (hx:T[i]? = some h) (hk:h.kids=ks.map fun k=>(k.loc:Int)) (hn:dX T ks) (hV :∀k∈ks,bM T B b nv ub ob k)
  (hl :∀k∈ks,18≤k.hd.kind→loop=bP f st.frames) (hsz :∀s∈h.names,s.size≤65536) (hd:gJ h.kind h.kids.length=(true,(h.kids.length:Int),false)) :
  Calls Tryz.prog 55 #[.pointer (some ⟨b,0,none⟩),.int .i64 (i:Int),.agg #[.int .i64 (f:Int),.int .i64 loop,.pointer pa,.slice la L.length lc]] w (aq B b nv T.length ub ob (.slice la L.length lc) L st ((aI ks f st).bind fun s1=>bF i f h.line h.names s1) w):=by
 cases L with
 | nil=>exact absurd rfl hL
 | cons l r=>exact OY i f h ks loop pa la lc ms l r st w hr hx hk hn hV hl hsz hd
theorem Ji {T:List Nd} {B b:Nat} {nv:Value} {ub ob:Nat} (i f:Nat) (h:Nd) (ks:List Lt) (loop:Int) (pa la:Option Addr) (lc:Nat) (ms:List Nat) (L:List cS) (hL:L≠[]) (st:aH) (w:World) (hr:eF T B b nv ub ob f pa (.slice la L.length lc) ms L st w (h.names.length+Lt.eD ks) (Lt.ak ks)) (hx:T[i]? = some h) (hk:h.kids=ks.map fun k=>(k.loc:Int)) (hn:dX T ks) (hV :∀k∈ks,bM T B b nv ub ob k)
  (hl :∀k∈ks,18≤k.hd.kind→loop=bP f st.frames) (hsz :∀s∈h.names,s.size≤65536) (hd:gJ h.kind h.kids.length=(true,0,false)) :
  Calls Tryz.prog 55 #[.pointer (some ⟨b,0,none⟩),.int .i64 (i:Int),.agg #[.int .i64 (f:Int),.int .i64 loop,.pointer pa,.slice la L.length lc]] w (aq B b nv T.length ub ob (.slice la L.length lc) L st ((bF i f h.line h.names st).bind fun s1=>aI ks f s1) w):=by
 cases L with
 | nil=>exact absurd rfl hL
 | cons l r=>exact O0 i f h ks loop pa la lc ms l r st w hr hx hk hn hV hl hsz hd
theorem DV {T:List Nd} {B b:Nat} {nv:Value} {ub ob:Nat} (gO :∀x∈T,x.s.size≤65536∧∀s∈x.names,s.size≤65536) (i:Nat) (h:Nd) (ks:List Lt) (hn:lx T (.mk i h ks)) (iE :∀u:Lt,u.size<Lt.ak ks+1→lx T u→bM T B b nv ub ob u) (hk:h.kind≠6∧h.kind≠7∧h.kind≠11∧h.kind≠18∧h.kind≠19∧h.kind≠23∧h.kind≠24∧h.kind≠26∧h.kind≠27∧h.kind≠28∧h.kind≠30∧h.kind≠31):bM T B b nv ub ob (.mk i h ks):=by
 intro f loop pa la lc ms L st w hr bg bG;show Calls Tryz.prog 26 #[.pointer (some ⟨b,0,none⟩),.int .i64 (i:Int),.agg #[.int .i64 (f:Int),.int .i64 loop,.pointer pa,.slice la L.length lc]] w (aq B b nv T.length ub ob (.slice la L.length lc) L st (bo (.mk i h ks) f st) w)
 have fL:=hn.sub;have fD:=hn.vQ;unfold Lt.In at fD;obtain⟨hx,bw,_⟩:=fD;replace hr:eF T B b nv ub ob f pa (.slice la L.length lc) ms L st w (h.names.length+Lt.eD ks) (Lt.ak ks+1):=by have h1:=hr;rw[Lt.wt,Lt.size] at h1;exact h1
 replace bg:18≤h.kind→loop=bP f st.frames:=bg;replace bG:L≠[]∨h.kind=18:=bG;obtain⟨bh,bj,bn⟩:=fL;replace bh:dX T ks:=bh;replace bj:h.kind≠18→∀k∈ks,Still k:=bj;replace bn:hH h.kind h.num (jd ks):=bn;have kJ:=gO h (aL hx);obtain⟨bk,o,c,rfl,bN,cC,cL⟩:=hr.dB.nodes;obtain⟨pL,pM,dM,⟨NA,nc,kI,_⟩,⟨KA,kc,jx,qe,kt⟩⟩:=cL i h hx;have tm:h.kids.length≤20000:=(hr.dB.small h (aL hx)).1;have fX:h.kids.length=ks.length:=by rw[bw,cy]
 subst kI jx;obtain⟨x0,x1,x2,x3,x4,x5,x6⟩:=dM;have y9:i<T.length:=(aJ.1 hx).1;have qY:=hr.dB.few;obtain⟨fv,FL,hw⟩:=id hr.rs;obtain⟨hbl,pE,uq⟩:=hw.gR;have d0:w.cell? ⟨b,0,none⟩=some (.slice (some ⟨bk,o,none⟩) T.length c):=ab hw.blk 0;have d3:w.cell? ⟨b,3,none⟩=some (.slice (some ⟨ob,0,none⟩) T.length T.length):=ab hw.blk 3;obtain⟨u0,v0⟩:=bA hw.mC (j:=i) (by omega)
 have iR:bk<w.heap.size:=by omega
 have HR:=aa hr;have HN:=aa hn;have tJ:=aa iE;have iS:=aa bg;have kG:=aa bG;have eM:=aa bh;have sH:=aa bj;have oh:=aa bn;have fP:=aa bw;have qR:=aa fX;have HX:=aa hx;have zh:=aa kJ;have CU:=aa kt;clear hr hn iE bg bG bh bj bn bw fX hx kJ cL hw gO kt;have q6:(h.kind == 6)=false:=aC.2 (by omega)
 have q7:(h.kind == 7)=false:=aC.2 (by omega)
 have yG:(h.kind == 11)=false:=aC.2 (by omega)
 have zv:(h.kind == 18)=false:=aC.2 (by omega)
 have Vo:(h.kind == 23)=false:=aC.2 (by omega)
 have YK:(h.kind == 26)=false:=aC.2 (by omega)
 have ZH:(h.kind == 27)=false:=aC.2 (by omega)
 have q24:(h.kind == 24)=false:=aC.2 (by omega)
 have q30:(h.kind == 30)=false:=aC.2 (by omega)
 have q31:(h.kind == 31)=false:=aC.2 (by omega)
 have bV:=aa hk;clear hk;go_enter Tryz.func26,Tryz.ntmps26
 go_wp2_with fail
 go_region
 have aU:=HR.out.ir i (.cells #[.int .i64 (f:Int),.int .i64 loop,.pointer pa,.slice la L.length lc] 92);have db:=heap_alloc_new (w.setCell ⟨ob,i,none⟩ (.int .i64 (f:Int))) (.cells #[.int .i64 (f:Int),.int .i64 loop,.pointer pa,.slice la L.length lc] 92);obtain⟨W1,hW1⟩ :∃W1,W1=((w.setCell ⟨ob,i,none⟩ (.int .i64 (f:Int))).alloc (.cells #[.int .i64 (f:Int),.int .i64 loop,.pointer pa,.slice la L.length lc] 92)).drew:=⟨_,rfl⟩;rw[←hW1] at aU;have bY:W1.heap[w.heap.size]? = some (.cells #[.int .i64 (f:Int),.int .i64 loop,.pointer pa,.slice la L.length lc] 92 (0,0)):=by
  rw[hW1];have e:(w.setCell ⟨ob,i,none⟩ (.int .i64 (f:Int))).heap.size=w.heap.size:=by simp[World.setCell]
  rw[e] at db;exact db
 rw[←hW1];have x0:=(aU.2.1.below.cell (p:=⟨bk,o+i*7,none⟩) bN).trans x0;have x1:=(aU.2.1.below.cell (p:=⟨bk,o+i*7+1,none⟩) bN).trans x1;have x2:=(aU.2.1.below.cell (p:=⟨bk,o+i*7+2,none⟩) bN).trans x2;have x3:=(aU.2.1.below.cell (p:=⟨bk,o+i*7+3,none⟩) bN).trans x3;have x4:=(aU.2.1.below.cell (p:=⟨bk,o+i*7+4,none⟩) bN).trans x4;have x5:=(aU.2.1.below.cell (p:=⟨bk,o+i*7+5,none⟩) bN).trans x5;have x6:=(aU.2.1.below.cell (p:=⟨bk,o+i*7+6,none⟩) bN).trans x6;clear hW1 db d0 d3 u0 v0;have d0:W1.cell? ⟨b,0,none⟩=some (.slice (some ⟨bk,o,none⟩) T.length c):=by obtain⟨_,_,hw⟩:=aU.1.rs;exact ab hw.blk 0
 have tn:b<W1.heap.size:=by obtain⟨_,_,hw⟩:=aU.1.rs;exact hw.gR.1
 have oC:w.heap.size<W1.heap.size:=(aF.1 bY).1;have tp:bk<W1.heap.size:=by omega
 have k0:W1.cell? ⟨w.heap.size,0,none⟩=some (.int .i64 (f:Int)):=ab bY 0;have k1:W1.cell? ⟨w.heap.size,1,none⟩=some (.int .i64 loop):=ab bY 1;have k2:W1.cell? ⟨w.heap.size,2,none⟩=some (.pointer pa):=ab bY 2;have k3:W1.cell? ⟨w.heap.size,3,none⟩=some (.slice la L.length lc):=ab bY 3;have HZ:=aa aU.1;have fA:=aa aU.2.1;have pH:=aa aU.2.2;have AF:=aa bY;clear aU bY;go_wp2_with fail
 obtain⟨W2,hW2⟩ :∃W2,W2=W1.alloc (.cells #[.int .i64 h.kind,.int .i64 h.line,.int .i64 h.op,.int .i64 h.num,.string h.s,.slice NA h.names.length nc,.slice KA h.kids.length kc] 55):=⟨_,rfl⟩;have di:Below W1.heap.size W1 W2:=by rw[hW2];exact(Below.refl _ _).alloc (ah _) _
 rw[←hW2];have hr2:=HZ.out.dp di;have hf2:cW B ob (.slice la L.length lc) L.length (eE L) w W2:=fA.out.trans (cW.bR di HZ.out.world);have tq :∀k∈ks,bM T B b (.slice (some ⟨bk,o,none⟩) T.length c) ub ob k:=fun k hk=>tJ.out k (by have:=fh hk;omega) (eM.out.at_ k hk)
 refine(FH i f h ks loop pa la lc ms L (st.setOf i f) W2 (hr2.mono (wC _ _) (gd _)) HX.out fP.out eM.out tq (fun k hk mi=>by
  by_cases e:18≤h.kind
  ·exact iS.out e
  ·have:=Ph oh.out HN.out.kind.1 (by show h.kind<18;omega) (by have:=bV.out;omega) _ (jW hk)
   omega) (fun k _=>.inl (kG.out.resolve_right (by have:=bV.out;omega))) (by
  unfold gJ;rw[af (by have:=bV.out;omega),af (by have:=bV.out;omega),af (by have:=bV.out;omega),af (by have:=bV.out;omega)])).mono ?_
 intro e w3 hp;obtain⟨v,rfl⟩:=hp.ret;have HV:=aa hp;have lO:=aa hf2;clear hp hr2 hf2 tq;go_wp2_with fail
 go_ret
 have hE:bo (.mk i h ks) f st=aI ks f (st.setOf i f):=by
  rw[cV];rw[af (by have:=bV.out;omega)]
  rw[af (by have:=bV.out;omega)]
  rw[af (by have:=bV.out;omega)]
  rw[af (by have:=bV.out;omega)]
  rw[af (by have:=bV.out;omega)]
  rw[af (by have:=bV.out;omega)]
  rw[af (by have:=bV.out;omega)]
  rw[af (by have:=bV.out;omega)]
  rw[af (by have:=bV.out;omega)]
  rw[af (by have:=bV.out;omega)]
  rw[af (by have:=bV.out;omega)]
 rw[hE];exact aq.after lO.out rfl HV.out
theorem Pj {T:List Nd} {B b:Nat} {nv:Value} {ub ob:Nat} (gO :∀x∈T,x.s.size≤65536∧∀s∈x.names,s.size≤65536) (i:Nat) (h:Nd) (ks:List Lt) (hn:lx T (.mk i h ks)) (iE :∀u:Lt,u.size<Lt.ak ks+1→lx T u→bM T B b nv ub ob u) (hk:h.kind=19):bM T B b nv ub ob (.mk i h ks):=by
 intro f loop pa la lc ms L st w hr bg bG;show Calls Tryz.prog 26 #[.pointer (some ⟨b,0,none⟩),.int .i64 (i:Int),.agg #[.int .i64 (f:Int),.int .i64 loop,.pointer pa,.slice la L.length lc]] w (aq B b nv T.length ub ob (.slice la L.length lc) L st (bo (.mk i h ks) f st) w)
 have fL:=hn.sub;have fD:=hn.vQ;unfold Lt.In at fD;obtain⟨hx,bw,_⟩:=fD;replace hr:eF T B b nv ub ob f pa (.slice la L.length lc) ms L st w (h.names.length+Lt.eD ks) (Lt.ak ks+1):=by have h1:=hr;rw[Lt.wt,Lt.size] at h1;exact h1
 replace bg:18≤h.kind→loop=bP f st.frames:=bg;replace bG:L≠[]∨h.kind=18:=bG;obtain⟨bh,bj,bn⟩:=fL;replace bh:dX T ks:=bh;replace bj:h.kind≠18→∀k∈ks,Still k:=bj;replace bn:hH h.kind h.num (jd ks):=bn;have kJ:=gO h (aL hx);obtain⟨bk,o,c,rfl,bN,cC,cL⟩:=hr.dB.nodes;obtain⟨pL,pM,dM,⟨NA,nc,kI,_⟩,⟨KA,kc,jx,qe,kt⟩⟩:=cL i h hx;have tm:h.kids.length≤20000:=(hr.dB.small h (aL hx)).1;have fX:h.kids.length=ks.length:=by rw[bw,cy]
 subst kI jx;obtain⟨x0,x1,x2,x3,x4,x5,x6⟩:=dM;have y9:i<T.length:=(aJ.1 hx).1;have qY:=hr.dB.few;obtain⟨fv,FL,hw⟩:=id hr.rs;obtain⟨hbl,pE,uq⟩:=hw.gR;have d0:w.cell? ⟨b,0,none⟩=some (.slice (some ⟨bk,o,none⟩) T.length c):=ab hw.blk 0;have d3:w.cell? ⟨b,3,none⟩=some (.slice (some ⟨ob,0,none⟩) T.length T.length):=ab hw.blk 3;obtain⟨u0,v0⟩:=bA hw.mC (j:=i) (by omega)
 have iR:bk<w.heap.size:=by omega
 have HR:=aa hr;have HN:=aa hn;have tJ:=aa iE;have iS:=aa bg;have kG:=aa bG;have eM:=aa bh;have sH:=aa bj;have oh:=aa bn;have fP:=aa bw;have qR:=aa fX;have HX:=aa hx;have zh:=aa kJ;have CU:=aa kt;clear hr hn iE bg bG bh bj bn bw fX hx kJ cL hw gO kt;have q6:(h.kind == 6)=false:=aC.2 (by omega)
 have q7:(h.kind == 7)=false:=aC.2 (by omega)
 have yG:(h.kind == 11)=false:=aC.2 (by omega)
 have zv:(h.kind == 18)=false:=aC.2 (by omega)
 have Vo:(h.kind == 23)=false:=aC.2 (by omega)
 have YK:(h.kind == 26)=false:=aC.2 (by omega)
 have ZH:(h.kind == 27)=false:=aC.2 (by omega)
 have q24:(h.kind == 24)=false:=aC.2 (by omega)
 have q30:(h.kind == 30)=false:=aC.2 (by omega)
 have q31:(h.kind == 31)=false:=aC.2 (by omega)
 have bV:=aa hk;clear hk;go_enter Tryz.func26,Tryz.ntmps26
 go_wp2_with fail
 go_region
 have aU:=HR.out.ir i (.cells #[.int .i64 (f:Int),.int .i64 loop,.pointer pa,.slice la L.length lc] 92);have db:=heap_alloc_new (w.setCell ⟨ob,i,none⟩ (.int .i64 (f:Int))) (.cells #[.int .i64 (f:Int),.int .i64 loop,.pointer pa,.slice la L.length lc] 92);obtain⟨W1,hW1⟩ :∃W1,W1=((w.setCell ⟨ob,i,none⟩ (.int .i64 (f:Int))).alloc (.cells #[.int .i64 (f:Int),.int .i64 loop,.pointer pa,.slice la L.length lc] 92)).drew:=⟨_,rfl⟩;rw[←hW1] at aU;have bY:W1.heap[w.heap.size]? = some (.cells #[.int .i64 (f:Int),.int .i64 loop,.pointer pa,.slice la L.length lc] 92 (0,0)):=by
  rw[hW1];have e:(w.setCell ⟨ob,i,none⟩ (.int .i64 (f:Int))).heap.size=w.heap.size:=by simp[World.setCell]
  rw[e] at db;exact db
 rw[←hW1];have x0:=(aU.2.1.below.cell (p:=⟨bk,o+i*7,none⟩) bN).trans x0;have x1:=(aU.2.1.below.cell (p:=⟨bk,o+i*7+1,none⟩) bN).trans x1;have x2:=(aU.2.1.below.cell (p:=⟨bk,o+i*7+2,none⟩) bN).trans x2;have x3:=(aU.2.1.below.cell (p:=⟨bk,o+i*7+3,none⟩) bN).trans x3;have x4:=(aU.2.1.below.cell (p:=⟨bk,o+i*7+4,none⟩) bN).trans x4;have x5:=(aU.2.1.below.cell (p:=⟨bk,o+i*7+5,none⟩) bN).trans x5;have x6:=(aU.2.1.below.cell (p:=⟨bk,o+i*7+6,none⟩) bN).trans x6;clear hW1 db d0 d3 u0 v0;have d0:W1.cell? ⟨b,0,none⟩=some (.slice (some ⟨bk,o,none⟩) T.length c):=by obtain⟨_,_,hw⟩:=aU.1.rs;exact ab hw.blk 0
 have tn:b<W1.heap.size:=by obtain⟨_,_,hw⟩:=aU.1.rs;exact hw.gR.1
 have oC:w.heap.size<W1.heap.size:=(aF.1 bY).1;have tp:bk<W1.heap.size:=by omega
 have k0:W1.cell? ⟨w.heap.size,0,none⟩=some (.int .i64 (f:Int)):=ab bY 0;have k1:W1.cell? ⟨w.heap.size,1,none⟩=some (.int .i64 loop):=ab bY 1;have k2:W1.cell? ⟨w.heap.size,2,none⟩=some (.pointer pa):=ab bY 2;have k3:W1.cell? ⟨w.heap.size,3,none⟩=some (.slice la L.length lc):=ab bY 3;have HZ:=aa aU.1;have fA:=aa aU.2.1;have pH:=aa aU.2.2;have AF:=aa bY;clear aU bY;go_wp2_with fail
 obtain⟨W2,hW2⟩ :∃W2,W2=W1.alloc (.cells #[.int .i64 h.kind,.int .i64 h.line,.int .i64 h.op,.int .i64 h.num,.string h.s,.slice NA h.names.length nc,.slice KA h.kids.length kc] 55):=⟨_,rfl⟩;have di:Below W1.heap.size W1 W2:=by rw[hW2];exact(Below.refl _ _).alloc (ah _) _
 rw[←hW2];have hr2:=HZ.out.dp di;have hf2:cW B ob (.slice la L.length lc) L.length (eE L) w W2:=fA.out.trans (cW.bR di HZ.out.world);have tq :∀k∈ks,bM T B b (.slice (some ⟨bk,o,none⟩) T.length c) ub ob k:=fun k hk=>tJ.out k (by have:=fh hk;omega) (eM.out.at_ k hk)
 refine(Jh i f h ks loop pa la lc ms L (kG.out.resolve_right (by have:=bV.out;omega)) (st.setOf i f) W2 (hr2.mono (ah _) (gd _)) HX.out fP.out eM.out tq (fun k hk mi=>iS.out (by have:=bV.out;omega)) zh.out.2 (by
  unfold gJ;rw[af (by have:=bV.out;omega),af (by have:=bV.out;omega),af (by have:=bV.out;omega),al bV.out])).mono ?_
 intro e w3 hp;obtain⟨v,rfl⟩:=hp.ret;have HV:=aa hp;have lO:=aa hf2;clear hp hr2 hf2 tq;go_wp2_with fail
 go_ret
 have hE:bo (.mk i h ks) f st=((aI ks f (st.setOf i f)).bind fun s1=>bF i f h.line h.names s1):=by
  rw[cV];rw[af (by have:=bV.out;omega)]
  rw[af (by have:=bV.out;omega)]
  rw[af (by have:=bV.out;omega)]
  rw[af (by have:=bV.out;omega)]
  rw[al bV.out]
 rw[hE];exact aq.after lO.out rfl HV.out
theorem Pk {T:List Nd} {B b:Nat} {nv:Value} {ub ob:Nat} (gO :∀x∈T,x.s.size≤65536∧∀s∈x.names,s.size≤65536) (i:Nat) (h:Nd) (ks:List Lt) (hn:lx T (.mk i h ks)) (iE :∀u:Lt,u.size<Lt.ak ks+1→lx T u→bM T B b nv ub ob u) (hk:h.kind=28):bM T B b nv ub ob (.mk i h ks):=by
 intro f loop pa la lc ms L st w hr bg bG;show Calls Tryz.prog 26 #[.pointer (some ⟨b,0,none⟩),.int .i64 (i:Int),.agg #[.int .i64 (f:Int),.int .i64 loop,.pointer pa,.slice la L.length lc]] w (aq B b nv T.length ub ob (.slice la L.length lc) L st (bo (.mk i h ks) f st) w)
 have fL:=hn.sub;have fD:=hn.vQ;unfold Lt.In at fD;obtain⟨hx,bw,_⟩:=fD;replace hr:eF T B b nv ub ob f pa (.slice la L.length lc) ms L st w (h.names.length+Lt.eD ks) (Lt.ak ks+1):=by have h1:=hr;rw[Lt.wt,Lt.size] at h1;exact h1
 replace bg:18≤h.kind→loop=bP f st.frames:=bg;replace bG:L≠[]∨h.kind=18:=bG;obtain⟨bh,bj,bn⟩:=fL;replace bh:dX T ks:=bh;replace bj:h.kind≠18→∀k∈ks,Still k:=bj;replace bn:hH h.kind h.num (jd ks):=bn;have kJ:=gO h (aL hx);obtain⟨bk,o,c,rfl,bN,cC,cL⟩:=hr.dB.nodes;obtain⟨pL,pM,dM,⟨NA,nc,kI,_⟩,⟨KA,kc,jx,qe,kt⟩⟩:=cL i h hx;have tm:h.kids.length≤20000:=(hr.dB.small h (aL hx)).1;have fX:h.kids.length=ks.length:=by rw[bw,cy]
 subst kI jx;obtain⟨x0,x1,x2,x3,x4,x5,x6⟩:=dM;have y9:i<T.length:=(aJ.1 hx).1;have qY:=hr.dB.few;obtain⟨fv,FL,hw⟩:=id hr.rs;obtain⟨hbl,pE,uq⟩:=hw.gR;have d0:w.cell? ⟨b,0,none⟩=some (.slice (some ⟨bk,o,none⟩) T.length c):=ab hw.blk 0;have d3:w.cell? ⟨b,3,none⟩=some (.slice (some ⟨ob,0,none⟩) T.length T.length):=ab hw.blk 3;obtain⟨u0,v0⟩:=bA hw.mC (j:=i) (by omega)
 have iR:bk<w.heap.size:=by omega
 have HR:=aa hr;have HN:=aa hn;have tJ:=aa iE;have iS:=aa bg;have kG:=aa bG;have eM:=aa bh;have sH:=aa bj;have oh:=aa bn;have fP:=aa bw;have qR:=aa fX;have HX:=aa hx;have zh:=aa kJ;have CU:=aa kt;clear hr hn iE bg bG bh bj bn bw fX hx kJ cL hw gO kt;have q6:(h.kind == 6)=false:=aC.2 (by omega)
 have q7:(h.kind == 7)=false:=aC.2 (by omega)
 have yG:(h.kind == 11)=false:=aC.2 (by omega)
 have zv:(h.kind == 18)=false:=aC.2 (by omega)
 have Vo:(h.kind == 23)=false:=aC.2 (by omega)
 have YK:(h.kind == 26)=false:=aC.2 (by omega)
 have ZH:(h.kind == 27)=false:=aC.2 (by omega)
 have q24:(h.kind == 24)=false:=aC.2 (by omega)
 have q30:(h.kind == 30)=false:=aC.2 (by omega)
 have q31:(h.kind == 31)=false:=aC.2 (by omega)
 have bV:=aa hk;clear hk;go_enter Tryz.func26,Tryz.ntmps26
 go_wp2_with fail
 go_region
 have aU:=HR.out.ir i (.cells #[.int .i64 (f:Int),.int .i64 loop,.pointer pa,.slice la L.length lc] 92);have db:=heap_alloc_new (w.setCell ⟨ob,i,none⟩ (.int .i64 (f:Int))) (.cells #[.int .i64 (f:Int),.int .i64 loop,.pointer pa,.slice la L.length lc] 92);obtain⟨W1,hW1⟩ :∃W1,W1=((w.setCell ⟨ob,i,none⟩ (.int .i64 (f:Int))).alloc (.cells #[.int .i64 (f:Int),.int .i64 loop,.pointer pa,.slice la L.length lc] 92)).drew:=⟨_,rfl⟩;rw[←hW1] at aU;have bY:W1.heap[w.heap.size]? = some (.cells #[.int .i64 (f:Int),.int .i64 loop,.pointer pa,.slice la L.length lc] 92 (0,0)):=by
  rw[hW1];have e:(w.setCell ⟨ob,i,none⟩ (.int .i64 (f:Int))).heap.size=w.heap.size:=by simp[World.setCell]
  rw[e] at db;exact db
 rw[←hW1];have x0:=(aU.2.1.below.cell (p:=⟨bk,o+i*7,none⟩) bN).trans x0;have x1:=(aU.2.1.below.cell (p:=⟨bk,o+i*7+1,none⟩) bN).trans x1;have x2:=(aU.2.1.below.cell (p:=⟨bk,o+i*7+2,none⟩) bN).trans x2;have x3:=(aU.2.1.below.cell (p:=⟨bk,o+i*7+3,none⟩) bN).trans x3;have x4:=(aU.2.1.below.cell (p:=⟨bk,o+i*7+4,none⟩) bN).trans x4;have x5:=(aU.2.1.below.cell (p:=⟨bk,o+i*7+5,none⟩) bN).trans x5;have x6:=(aU.2.1.below.cell (p:=⟨bk,o+i*7+6,none⟩) bN).trans x6;clear hW1 db d0 d3 u0 v0;have d0:W1.cell? ⟨b,0,none⟩=some (.slice (some ⟨bk,o,none⟩) T.length c):=by obtain⟨_,_,hw⟩:=aU.1.rs;exact ab hw.blk 0
 have tn:b<W1.heap.size:=by obtain⟨_,_,hw⟩:=aU.1.rs;exact hw.gR.1
 have oC:w.heap.size<W1.heap.size:=(aF.1 bY).1;have tp:bk<W1.heap.size:=by omega
 have k0:W1.cell? ⟨w.heap.size,0,none⟩=some (.int .i64 (f:Int)):=ab bY 0;have k1:W1.cell? ⟨w.heap.size,1,none⟩=some (.int .i64 loop):=ab bY 1;have k2:W1.cell? ⟨w.heap.size,2,none⟩=some (.pointer pa):=ab bY 2;have k3:W1.cell? ⟨w.heap.size,3,none⟩=some (.slice la L.length lc):=ab bY 3;have HZ:=aa aU.1;have fA:=aa aU.2.1;have pH:=aa aU.2.2;have AF:=aa bY;clear aU bY;go_wp2_with fail
 obtain⟨W2,hW2⟩ :∃W2,W2=W1.alloc (.cells #[.int .i64 h.kind,.int .i64 h.line,.int .i64 h.op,.int .i64 h.num,.string h.s,.slice NA h.names.length nc,.slice KA h.kids.length kc] 55):=⟨_,rfl⟩;have di:Below W1.heap.size W1 W2:=by rw[hW2];exact(Below.refl _ _).alloc (ah _) _
 rw[←hW2];have hr2:=HZ.out.dp di;have hf2:cW B ob (.slice la L.length lc) L.length (eE L) w W2:=fA.out.trans (cW.bR di HZ.out.world);have tq :∀k∈ks,bM T B b (.slice (some ⟨bk,o,none⟩) T.length c) ub ob k:=fun k hk=>tJ.out k (by have:=fh hk;omega) (eM.out.at_ k hk)
 refine(Ji i f h ks loop pa la lc ms L (kG.out.resolve_right (by have:=bV.out;omega)) (st.setOf i f) W2 (hr2.mono (ah _) (gd _)) HX.out fP.out eM.out tq (fun k hk mi=>iS.out (by have:=bV.out;omega)) zh.out.2 (by
  unfold gJ;rw[af (by have:=bV.out;omega),af (by have:=bV.out;omega),al bV.out])).mono ?_
 intro e w3 hp;obtain⟨v,rfl⟩:=hp.ret;have HV:=aa hp;have lO:=aa hf2;clear hp hr2 hf2 tq;go_wp2_with fail
 go_ret
 have hE:bo (.mk i h ks) f st=((bF i f h.line h.names (st.setOf i f)).bind fun s1=>aI ks f s1):=by
  rw[cV];rw[af (by have:=bV.out;omega)]
  rw[af (by have:=bV.out;omega)]
  rw[af (by have:=bV.out;omega)]
  rw[af (by have:=bV.out;omega)]
  rw[af (by have:=bV.out;omega)]
  rw[af (by have:=bV.out;omega)]
  rw[af (by have:=bV.out;omega)]
  rw[af (by have:=bV.out;omega)]
  rw[al bV.out]
 rw[hE];exact aq.after lO.out rfl HV.out
theorem eF.Vp {T:List Nd} {B b:Nat} {nv:Value} {ub ob f:Nat} {pa:Option Addr} {lv:Value} {ms:List Nat} {L:List cS} {st:aH} {w:World} {a s a' s':Nat} (h:eF T B b nv ub ob f pa lv ms L st w a s) (h1:a'≤a) (h2:s'+1≤s):zg T B b nv ub ob f pa lv ms L st w a' s' :=
 ⟨h.dB,h.rs,h.pos,h.cx,h.few,h.fr,by have:=h.names;omega,by have:=h.fns;omega,by have:=h.fB;omega⟩
theorem Pm {T:List Nd} {B b:Nat} {nv:Value} {ub ob:Nat} (gO :∀x∈T,x.s.size≤65536∧∀s∈x.names,s.size≤65536) (i:Nat) (h:Nd) (ks:List Lt) (hn:lx T (.mk i h ks)) (iE :∀u:Lt,u.size<Lt.ak ks+1→lx T u→bM T B b nv ub ob u) (hk:h.kind=18):bM T B b nv ub ob (.mk i h ks):=by
 intro f loop pa la lc ms L st w hr bg bG;show Calls Tryz.prog 26 #[.pointer (some ⟨b,0,none⟩),.int .i64 (i:Int),.agg #[.int .i64 (f:Int),.int .i64 loop,.pointer pa,.slice la L.length lc]] w (aq B b nv T.length ub ob (.slice la L.length lc) L st (bo (.mk i h ks) f st) w)
 have fL:=hn.sub;have fD:=hn.vQ;unfold Lt.In at fD;obtain⟨hx,bw,_⟩:=fD;replace hr:eF T B b nv ub ob f pa (.slice la L.length lc) ms L st w (h.names.length+Lt.eD ks) (Lt.ak ks+1):=by have h1:=hr;rw[Lt.wt,Lt.size] at h1;exact h1
 replace bg:18≤h.kind→loop=bP f st.frames:=bg;replace bG:L≠[]∨h.kind=18:=bG;obtain⟨bh,bj,bn⟩:=fL;replace bh:dX T ks:=bh;replace bj:h.kind≠18→∀k∈ks,Still k:=bj;replace bn:hH h.kind h.num (jd ks):=bn;have kJ:=gO h (aL hx);obtain⟨bk,o,c,rfl,bN,cC,cL⟩:=hr.dB.nodes;obtain⟨pL,pM,dM,⟨NA,nc,kI,_⟩,⟨KA,kc,jx,qe,kt⟩⟩:=cL i h hx;have tm:h.kids.length≤20000:=(hr.dB.small h (aL hx)).1;have fX:h.kids.length=ks.length:=by rw[bw,cy]
 subst kI jx;obtain⟨x0,x1,x2,x3,x4,x5,x6⟩:=dM;have y9:i<T.length:=(aJ.1 hx).1;have qY:=hr.dB.few;obtain⟨fv,FL,hw⟩:=id hr.rs;obtain⟨hbl,pE,uq⟩:=hw.gR;have d0:w.cell? ⟨b,0,none⟩=some (.slice (some ⟨bk,o,none⟩) T.length c):=ab hw.blk 0;have d3:w.cell? ⟨b,3,none⟩=some (.slice (some ⟨ob,0,none⟩) T.length T.length):=ab hw.blk 3;obtain⟨u0,v0⟩:=bA hw.mC (j:=i) (by omega)
 have iR:bk<w.heap.size:=by omega
 have qF:=aa gO;have HR:=aa hr;have HN:=aa hn;have tJ:=aa iE;have iS:=aa bg;have kG:=aa bG;have eM:=aa bh;have sH:=aa bj;have oh:=aa bn;have fP:=aa bw;have qR:=aa fX;have HX:=aa hx;have zh:=aa kJ;have CU:=aa kt;clear hr hn iE bg bG bh bj bn bw fX hx kJ cL hw gO kt;have q6:(h.kind == 6)=false:=by rw[hk];rfl
 have q7:(h.kind == 7)=false:=by rw[hk];rfl
 have yG:(h.kind == 11)=false:=by rw[hk];rfl
 have zv:(h.kind == 18)=true:=by rw[hk];rfl
 have bV:=aa hk;clear hk;go_enter Tryz.func26,Tryz.ntmps26
 go_wp2_with fail
 go_region
 have aU:=HR.out.ir i (.cells #[.int .i64 (f:Int),.int .i64 loop,.pointer pa,.slice la L.length lc] 92);have db:=heap_alloc_new (w.setCell ⟨ob,i,none⟩ (.int .i64 (f:Int))) (.cells #[.int .i64 (f:Int),.int .i64 loop,.pointer pa,.slice la L.length lc] 92);obtain⟨W1,hW1⟩ :∃W1,W1=((w.setCell ⟨ob,i,none⟩ (.int .i64 (f:Int))).alloc (.cells #[.int .i64 (f:Int),.int .i64 loop,.pointer pa,.slice la L.length lc] 92)).drew:=⟨_,rfl⟩;rw[←hW1] at aU;have bY:W1.heap[w.heap.size]? = some (.cells #[.int .i64 (f:Int),.int .i64 loop,.pointer pa,.slice la L.length lc] 92 (0,0)):=by
  rw[hW1];have e:(w.setCell ⟨ob,i,none⟩ (.int .i64 (f:Int))).heap.size=w.heap.size:=by simp[World.setCell]
  rw[e] at db;exact db
 rw[←hW1];have x0:=(aU.2.1.below.cell (p:=⟨bk,o+i*7,none⟩) bN).trans x0;have x1:=(aU.2.1.below.cell (p:=⟨bk,o+i*7+1,none⟩) bN).trans x1;have x2:=(aU.2.1.below.cell (p:=⟨bk,o+i*7+2,none⟩) bN).trans x2;have x3:=(aU.2.1.below.cell (p:=⟨bk,o+i*7+3,none⟩) bN).trans x3;have x4:=(aU.2.1.below.cell (p:=⟨bk,o+i*7+4,none⟩) bN).trans x4;have x5:=(aU.2.1.below.cell (p:=⟨bk,o+i*7+5,none⟩) bN).trans x5;have x6:=(aU.2.1.below.cell (p:=⟨bk,o+i*7+6,none⟩) bN).trans x6;clear hW1 db d0 d3 u0 v0;have d0:W1.cell? ⟨b,0,none⟩=some (.slice (some ⟨bk,o,none⟩) T.length c):=by obtain⟨_,_,hw⟩:=aU.1.rs;exact ab hw.blk 0
 have tn:b<W1.heap.size:=by obtain⟨_,_,hw⟩:=aU.1.rs;exact hw.gR.1
 have oC:w.heap.size<W1.heap.size:=(aF.1 bY).1;have tp:bk<W1.heap.size:=by omega
 have k0:W1.cell? ⟨w.heap.size,0,none⟩=some (.int .i64 (f:Int)):=ab bY 0;have k1:W1.cell? ⟨w.heap.size,1,none⟩=some (.int .i64 loop):=ab bY 1;have k2:W1.cell? ⟨w.heap.size,2,none⟩=some (.pointer pa):=ab bY 2;have k3:W1.cell? ⟨w.heap.size,3,none⟩=some (.slice la L.length lc):=ab bY 3;have HZ:=aa aU.1;have fA:=aa aU.2.1;have pH:=aa aU.2.2;have AF:=aa bY;clear aU bY;go_wp2_with fail
 obtain⟨W2,hW2⟩ :∃W2,W2=W1.alloc (.cells #[.int .i64 h.kind,.int .i64 h.line,.int .i64 h.op,.int .i64 h.num,.string h.s,.slice NA h.names.length nc,.slice KA h.kids.length kc] 55):=⟨_,rfl⟩;have di:Below W1.heap.size W1 W2:=by rw[hW2];exact(Below.refl _ _).alloc (ah _) _
 rw[←hW2];have hr2:=HZ.out.dp di;have hf2:cW B ob (.slice la L.length lc) L.length (eE L) w W2:=fA.out.trans (cW.bR di HZ.out.world);have tq :∀k∈ks,bM T B b (.slice (some ⟨bk,o,none⟩) T.length c) ub ob k:=fun k hk=>tJ.out k (by have:=fh hk;omega) (eM.out.at_ k hk)
 refine(xL i f h ks [] false loop pa la lc ms L (st.setOf i f) W2 (.slice none 0 0) (hr2.Vp (wC _ _) (by show Lt.ak ks+0+1≤_;omega)) HX.out fP.out eM.out ⟨by unfold Lt.nG;trivial,by unfold Lt.iB;trivial,by unfold Lt.yP;trivial,by unfold Lt.aS;exact Ei,fun k hk=>by cases hk⟩ tq (fun k hk=>by cases hk) ⟨none,0,rfl,ah _,.inl rfl⟩ rfl (fun k hk mi=>iS.out (by have:=bV.out;omega)) (fun k hk=>by cases hk) (fun x hx=>(qF.out x.hd (aL (ve eM.out.vQ (List.getElem?_of_mem hx).choose_spec).2)).1) (by simp)).mono ?_
 intro e w3 hp;obtain⟨v,rfl⟩:=hp.ret;have HV:=aa hp;have lO:=aa hf2;clear hp hr2 hf2 tq;go_wp2_with fail
 go_ret
 have hE:bo (.mk i h ks) f st=(wj i f false ks [] (st.setOf i f)).map fun s=>s.back (st.setOf i f):=by
  rw[cV];rw[af (by have:=bV.out;omega)]
  rw[af (by have:=bV.out;omega)]
  rw[af (by have:=bV.out;omega)]
  rw[al bV.out];unfold wj;rw[Jg];cases gZ i f false ks (st.setOf i f) with
  | error y=>rfl
  | ok s1 =>
   show(cY ks 0 f s1).map _=((cY ks 0 f s1).bind fun s2=>aI [] f s2).map _
   cases cY ks 0 f s1 with
   | error y=>rfl
   | ok s2=>show _=(aI [] f s2).map _;rw[fm]
 rw[hE];exact aq.after lO.out rfl HV.out
theorem Pn {T:List Nd} {B b:Nat} {nv:Value} {ub ob:Nat} (gO :∀x∈T,x.s.size≤65536∧∀s∈x.names,s.size≤65536) (i:Nat) (h:Nd) (ks:List Lt) (hn:lx T (.mk i h ks)) (iE :∀u:Lt,u.size<Lt.ak ks+1→lx T u→bM T B b nv ub ob u) (hk:h.kind=23):bM T B b nv ub ob (.mk i h ks):=by
 intro f loop pa la lc ms L st w hr bg bG;show Calls Tryz.prog 26 #[.pointer (some ⟨b,0,none⟩),.int .i64 (i:Int),.agg #[.int .i64 (f:Int),.int .i64 loop,.pointer pa,.slice la L.length lc]] w (aq B b nv T.length ub ob (.slice la L.length lc) L st (bo (.mk i h ks) f st) w)
 have fL:=hn.sub;have fD:=hn.vQ;unfold Lt.In at fD;obtain⟨hx,bw,_⟩:=fD;replace hr:eF T B b nv ub ob f pa (.slice la L.length lc) ms L st w (h.names.length+Lt.eD ks) (Lt.ak ks+1):=by have h1:=hr;rw[Lt.wt,Lt.size] at h1;exact h1
 replace bg:18≤h.kind→loop=bP f st.frames:=bg;replace bG:L≠[]∨h.kind=18:=bG;obtain⟨bh,bj,bn⟩:=fL;replace bh:dX T ks:=bh;replace bj:h.kind≠18→∀k∈ks,Still k:=bj;replace bn:hH h.kind h.num (jd ks):=bn;have kJ:=gO h (aL hx);obtain⟨bk,o,c,rfl,bN,cC,cL⟩:=hr.dB.nodes;obtain⟨pL,pM,dM,⟨NA,nc,kI,_⟩,⟨KA,kc,jx,qe,kt⟩⟩:=cL i h hx;have tm:h.kids.length≤20000:=(hr.dB.small h (aL hx)).1;have fX:h.kids.length=ks.length:=by rw[bw,cy]
 subst kI jx;obtain⟨x0,x1,x2,x3,x4,x5,x6⟩:=dM;have y9:i<T.length:=(aJ.1 hx).1;have qY:=hr.dB.few;obtain⟨fv,FL,hw⟩:=id hr.rs;obtain⟨hbl,pE,uq⟩:=hw.gR;have d0:w.cell? ⟨b,0,none⟩=some (.slice (some ⟨bk,o,none⟩) T.length c):=ab hw.blk 0;have d3:w.cell? ⟨b,3,none⟩=some (.slice (some ⟨ob,0,none⟩) T.length T.length):=ab hw.blk 3;obtain⟨u0,v0⟩:=bA hw.mC (j:=i) (by omega)
 have iR:bk<w.heap.size:=by omega
 have HR:=aa hr;have HN:=aa hn;have tJ:=aa iE;have iS:=aa bg;have kG:=aa bG;have eM:=aa bh;have sH:=aa bj;have oh:=aa bn;have fP:=aa bw;have qR:=aa fX;have HX:=aa hx;have zh:=aa kJ;have CU:=aa kt;clear hr hn iE bg bG bh bj bn bw fX hx kJ cL hw gO kt;have q6:(h.kind == 6)=false:=by rw[hk];rfl
 have q7:(h.kind == 7)=false:=by rw[hk];rfl
 have yG:(h.kind == 11)=false:=by rw[hk];rfl
 have zv:(h.kind == 18)=false:=by rw[hk];rfl
 have Vo:(h.kind == 23)=true:=by rw[hk];rfl
 have bV:=aa hk;clear hk;go_enter Tryz.func26,Tryz.ntmps26
 go_wp2_with fail
 go_region
 have aU:=HR.out.ir i (.cells #[.int .i64 (f:Int),.int .i64 loop,.pointer pa,.slice la L.length lc] 92);have db:=heap_alloc_new (w.setCell ⟨ob,i,none⟩ (.int .i64 (f:Int))) (.cells #[.int .i64 (f:Int),.int .i64 loop,.pointer pa,.slice la L.length lc] 92);obtain⟨W1,hW1⟩ :∃W1,W1=((w.setCell ⟨ob,i,none⟩ (.int .i64 (f:Int))).alloc (.cells #[.int .i64 (f:Int),.int .i64 loop,.pointer pa,.slice la L.length lc] 92)).drew:=⟨_,rfl⟩;rw[←hW1] at aU;have bY:W1.heap[w.heap.size]? = some (.cells #[.int .i64 (f:Int),.int .i64 loop,.pointer pa,.slice la L.length lc] 92 (0,0)):=by
  rw[hW1];have e:(w.setCell ⟨ob,i,none⟩ (.int .i64 (f:Int))).heap.size=w.heap.size:=by simp[World.setCell]
  rw[e] at db;exact db
 rw[←hW1];have x0:=(aU.2.1.below.cell (p:=⟨bk,o+i*7,none⟩) bN).trans x0;have x1:=(aU.2.1.below.cell (p:=⟨bk,o+i*7+1,none⟩) bN).trans x1;have x2:=(aU.2.1.below.cell (p:=⟨bk,o+i*7+2,none⟩) bN).trans x2;have x3:=(aU.2.1.below.cell (p:=⟨bk,o+i*7+3,none⟩) bN).trans x3;have x4:=(aU.2.1.below.cell (p:=⟨bk,o+i*7+4,none⟩) bN).trans x4;have x5:=(aU.2.1.below.cell (p:=⟨bk,o+i*7+5,none⟩) bN).trans x5;have x6:=(aU.2.1.below.cell (p:=⟨bk,o+i*7+6,none⟩) bN).trans x6;clear hW1 db d0 d3 u0 v0;have d0:W1.cell? ⟨b,0,none⟩=some (.slice (some ⟨bk,o,none⟩) T.length c):=by obtain⟨_,_,hw⟩:=aU.1.rs;exact ab hw.blk 0
 have tn:b<W1.heap.size:=by obtain⟨_,_,hw⟩:=aU.1.rs;exact hw.gR.1
 have oC:w.heap.size<W1.heap.size:=(aF.1 bY).1;have tp:bk<W1.heap.size:=by omega
 have k0:W1.cell? ⟨w.heap.size,0,none⟩=some (.int .i64 (f:Int)):=ab bY 0;have k1:W1.cell? ⟨w.heap.size,1,none⟩=some (.int .i64 loop):=ab bY 1;have k2:W1.cell? ⟨w.heap.size,2,none⟩=some (.pointer pa):=ab bY 2;have k3:W1.cell? ⟨w.heap.size,3,none⟩=some (.slice la L.length lc):=ab bY 3;have HZ:=aa aU.1;have fA:=aa aU.2.1;have pH:=aa aU.2.2;have AF:=aa bY;clear aU bY;go_wp2_with fail
 obtain⟨W2,hW2⟩ :∃W2,W2=W1.alloc (.cells #[.int .i64 h.kind,.int .i64 h.line,.int .i64 h.op,.int .i64 h.num,.string h.s,.slice NA h.names.length nc,.slice KA h.kids.length kc] 55):=⟨_,rfl⟩;have di:Below W1.heap.size W1 W2:=by rw[hW2];exact(Below.refl _ _).alloc (ah _) _
 rw[←hW2];refine(lX f loop (i:Int) pa la L.length lc W2).mono ?_;rintro e wv ⟨rfl,Vq⟩;have di:=di.trans (Vq.mono di.size);clear hW2 Vq;go_wp2_with fail
 have hr2:=HZ.out.dp di;have hf2:cW B ob (.slice la L.length lc) L.length (eE L) w wv:=fA.out.trans (cW.bR di HZ.out.world);have tq :∀k∈ks,bM T B b (.slice (some ⟨bk,o,none⟩) T.length c) ub ob k:=fun k hk=>tJ.out k (by have:=fh hk;omega) (eM.out.at_ k hk)
 refine(FH i f h ks (i:Int) pa la lc ms L (du i f (st.setOf i f)) wv ((hr2.mono (wC _ _) (gd _)).om i) HX.out fP.out eM.out tq (fun k hk mi=>(vq f i _).symm) (fun k _=>.inl (kG.out.resolve_right (by have:=bV.out;omega))) (by
  unfold gJ;rw[af (by have:=bV.out;omega),af (by have:=bV.out;omega),af (by have:=bV.out;omega),af (by have:=bV.out;omega)])).mono ?_
 intro e w3 hp;obtain⟨v,rfl⟩:=hp.ret;have HV:=aa hp;have lO:=aa hf2;clear hp hr2 hf2 tq;go_wp2_with fail
 go_ret
 have hE:bo (.mk i h ks) f st=(aI ks f (du i f (st.setOf i f))).map fun s=>s.back (st.setOf i f):=by
  rw[cV];rw[af (by have:=bV.out;omega)]
  rw[af (by have:=bV.out;omega)]
  rw[af (by have:=bV.out;omega)]
  rw[af (by have:=bV.out;omega)]
  rw[af (by have:=bV.out;omega)]
  rw[al bV.out]
 rw[hE];exact aq.after lO.out rfl (HV.out.TQ (st':=st.setOf i f) rfl fun s' hs'=>qD ks eM.out.quiet (sH.out (by have:=bV.out;omega)) hs')
theorem zi :∀a b:List Lt,Lt.eD (a++b)=Lt.eD a+Lt.eD b
 | [],b=>by rw[sj,show Lt.eD []=0 from rfl,jY]
 | x::a,b=>by rw[iJ,Lt.eD,Lt.eD,zi a b,sw]
theorem xM :∀a b:List Lt,Lt.aS (a++b)=Lt.aS a++Lt.aS b
 | [],b=>rfl
 | x::a,b=>by rw[iJ,Lt.aS,Lt.aS,xM a b,fK]
theorem dX.app {T:List Nd} :∀{a b:List Lt},dX T (a++b)→dX T a∧dX T b
 | [],b,h=>⟨⟨by unfold Lt.nG;trivial,by unfold Lt.iB;trivial,by unfold Lt.yP;trivial,by unfold Lt.aS;exact Ei,fun k hk=>by cases hk⟩,h⟩
 | x::a,b,h=>by
  obtain⟨h1,h2⟩:=dX.cons (k:=x) (ks:=a++b) h;obtain⟨h3,h4⟩:=dX.app h2;have h5:=h.nodup;rw[xM,oF] at h5;exact⟨⟨by unfold Lt.nG;exact⟨h1.vQ,h3.vQ⟩,by unfold Lt.iB;exact⟨h1.form,h3.form⟩,by unfold Lt.yP;exact⟨h1.wf,h3.wf⟩,h5.1,fun k hk=>h.kind k (eO b hk)⟩,h4⟩
theorem vC {ks:List Lt} {l:List Int} (h:jd ks=l++[18]) :∃vals blk,ks=vals++[blk]∧jd vals=l∧blk.hd.kind=18:=by
 unfold jd at h;obtain⟨a,b,e,h1,h2⟩:=wo.1 h;obtain⟨x,e2,h3⟩:=List.map_eq_singleton_iff.1 h2;exact⟨a,x,by rw[e,e2],h1,h3⟩
theorem Po {T:List Nd} {B b:Nat} {nv:Value} {ub ob:Nat} (gO :∀x∈T,x.s.size≤65536∧∀s∈x.names,s.size≤65536) (i:Nat) (h:Nd) (ks:List Lt) (hn:lx T (.mk i h ks)) (iE :∀u:Lt,u.size<Lt.ak ks+1→lx T u→bM T B b nv ub ob u) (hk:h.kind=26):bM T B b nv ub ob (.mk i h ks):=by
 intro f loop pa la lc ms L st w hr bg bG;show Calls Tryz.prog 26 #[.pointer (some ⟨b,0,none⟩),.int .i64 (i:Int),.agg #[.int .i64 (f:Int),.int .i64 loop,.pointer pa,.slice la L.length lc]] w (aq B b nv T.length ub ob (.slice la L.length lc) L st (bo (.mk i h ks) f st) w)
 have fL:=hn.sub;have fD:=hn.vQ;unfold Lt.In at fD;obtain⟨hx,bw,_⟩:=fD;replace hr:eF T B b nv ub ob f pa (.slice la L.length lc) ms L st w (h.names.length+Lt.eD ks) (Lt.ak ks+1):=by have h1:=hr;rw[Lt.wt,Lt.size] at h1;exact h1
 replace bg:18≤h.kind→loop=bP f st.frames:=bg;replace bG:L≠[]∨h.kind=18:=bG;obtain⟨bh,bj,bn⟩:=fL;replace bh:dX T ks:=bh;replace bj:h.kind≠18→∀k∈ks,Still k:=bj;replace bn:hH h.kind h.num (jd ks):=bn;have kJ:=gO h (aL hx);obtain⟨bk,o,c,rfl,bN,cC,cL⟩:=hr.dB.nodes;obtain⟨pL,pM,dM,⟨NA,nc,kI,_⟩,⟨KA,kc,jx,qe,kt⟩⟩:=cL i h hx;have tm:h.kids.length≤20000:=(hr.dB.small h (aL hx)).1;have fX:h.kids.length=ks.length:=by rw[bw,cy]
 subst kI jx;obtain⟨x0,x1,x2,x3,x4,x5,x6⟩:=dM;have y9:i<T.length:=(aJ.1 hx).1;have qY:=hr.dB.few;obtain⟨fv,FL,hw⟩:=id hr.rs;obtain⟨hbl,pE,uq⟩:=hw.gR;have d0:w.cell? ⟨b,0,none⟩=some (.slice (some ⟨bk,o,none⟩) T.length c):=ab hw.blk 0;have d3:w.cell? ⟨b,3,none⟩=some (.slice (some ⟨ob,0,none⟩) T.length T.length):=ab hw.blk 3;obtain⟨u0,v0⟩:=bA hw.mC (j:=i) (by omega)
 have iR:bk<w.heap.size:=by omega
 have HR:=aa hr;have HN:=aa hn;have tJ:=aa iE;have iS:=aa bg;have kG:=aa bG;have eM:=aa bh;have sH:=aa bj;have oh:=aa bn;have fP:=aa bw;have qR:=aa fX;have HX:=aa hx;have zh:=aa kJ;have CU:=aa kt;clear hr hn iE bg bG bh bj bn bw fX hx kJ cL hw gO kt;have q6:(h.kind == 6)=false:=by rw[hk];rfl
 have q7:(h.kind == 7)=false:=by rw[hk];rfl
 have yG:(h.kind == 11)=false:=by rw[hk];rfl
 have zv:(h.kind == 18)=false:=by rw[hk];rfl
 have Vo:(h.kind == 23)=false:=by rw[hk];rfl
 have YK:(h.kind == 26)=true:=by rw[hk];rfl
 have bV:=aa hk;clear hk;go_enter Tryz.func26,Tryz.ntmps26
 go_wp2_with fail
 go_region
 have aU:=HR.out.ir i (.cells #[.int .i64 (f:Int),.int .i64 loop,.pointer pa,.slice la L.length lc] 92);have db:=heap_alloc_new (w.setCell ⟨ob,i,none⟩ (.int .i64 (f:Int))) (.cells #[.int .i64 (f:Int),.int .i64 loop,.pointer pa,.slice la L.length lc] 92);obtain⟨W1,hW1⟩ :∃W1,W1=((w.setCell ⟨ob,i,none⟩ (.int .i64 (f:Int))).alloc (.cells #[.int .i64 (f:Int),.int .i64 loop,.pointer pa,.slice la L.length lc] 92)).drew:=⟨_,rfl⟩;rw[←hW1] at aU;have bY:W1.heap[w.heap.size]? = some (.cells #[.int .i64 (f:Int),.int .i64 loop,.pointer pa,.slice la L.length lc] 92 (0,0)):=by
  rw[hW1];have e:(w.setCell ⟨ob,i,none⟩ (.int .i64 (f:Int))).heap.size=w.heap.size:=by simp[World.setCell]
  rw[e] at db;exact db
 rw[←hW1];have x0:=(aU.2.1.below.cell (p:=⟨bk,o+i*7,none⟩) bN).trans x0;have x1:=(aU.2.1.below.cell (p:=⟨bk,o+i*7+1,none⟩) bN).trans x1;have x2:=(aU.2.1.below.cell (p:=⟨bk,o+i*7+2,none⟩) bN).trans x2;have x3:=(aU.2.1.below.cell (p:=⟨bk,o+i*7+3,none⟩) bN).trans x3;have x4:=(aU.2.1.below.cell (p:=⟨bk,o+i*7+4,none⟩) bN).trans x4;have x5:=(aU.2.1.below.cell (p:=⟨bk,o+i*7+5,none⟩) bN).trans x5;have x6:=(aU.2.1.below.cell (p:=⟨bk,o+i*7+6,none⟩) bN).trans x6;clear hW1 db d0 d3 u0 v0;have d0:W1.cell? ⟨b,0,none⟩=some (.slice (some ⟨bk,o,none⟩) T.length c):=by obtain⟨_,_,hw⟩:=aU.1.rs;exact ab hw.blk 0
 have tn:b<W1.heap.size:=by obtain⟨_,_,hw⟩:=aU.1.rs;exact hw.gR.1
 have oC:w.heap.size<W1.heap.size:=(aF.1 bY).1;have tp:bk<W1.heap.size:=by omega
 have k0:W1.cell? ⟨w.heap.size,0,none⟩=some (.int .i64 (f:Int)):=ab bY 0;have k1:W1.cell? ⟨w.heap.size,1,none⟩=some (.int .i64 loop):=ab bY 1;have k2:W1.cell? ⟨w.heap.size,2,none⟩=some (.pointer pa):=ab bY 2;have k3:W1.cell? ⟨w.heap.size,3,none⟩=some (.slice la L.length lc):=ab bY 3;have HZ:=aa aU.1;have fA:=aa aU.2.1;have pH:=aa aU.2.2;have AF:=aa bY;clear aU bY;obtain⟨l,hl0,yz⟩ :∃l,jd ks=l++[18]∧∀a∈l,tG a:=by
  obtain⟨l,h1,_,h2⟩:=oh.out.for_ bV.out;exact⟨l,h1,h2⟩
 obtain⟨vals,blk,rfl,hv,hb⟩:=vC hl0;subst hv;go_wp2_with fail
 obtain⟨W2,hW2⟩ :∃W2,W2=W1.alloc (.cells #[.int .i64 h.kind,.int .i64 h.line,.int .i64 h.op,.int .i64 h.num,.string h.s,.slice NA h.names.length nc,.slice KA h.kids.length kc] 55):=⟨_,rfl⟩;have di:Below W1.heap.size W1 W2:=by rw[hW2];exact(Below.refl _ _).alloc (ah _) _
 rw[←hW2];refine(lX f loop (i:Int) pa la L.length lc W2).mono ?_;rintro e wv ⟨rfl,Vq⟩;have di:=di.trans (Vq.mono di.size);clear hW2 Vq;go_wp2_with fail
 have hr2:=HZ.out.dp di;have hf2:cW B ob (.slice la L.length lc) L.length (eE L) w wv:=fA.out.trans (cW.bR di HZ.out.world);have tq :∀k∈vals++[blk],bM T B b (.slice (some ⟨bk,o,none⟩) T.length c) ub ob k:=fun k hk=>tJ.out k (by have:=fh hk;omega) (eM.out.at_ k hk)
 have hlen:h.kids.length=vals.length+1:=by rw[qR.out,cI,mF]
 refine(BK i f h vals [blk] (i:Int) pa la lc ms L (st.setOf i f) wv (hr2.mono (by rw[zi];omega) (by rw[pA];omega)) HX.out (by rw[fP.out,me]) (by simp) eM.out.app.1 eM.out.app.2 (fun k hk=>tq k (eO _ hk)) (fun k hk=>tq k (iF _ hk)) (fun k hk=>by have:=yz _ (jW hk);unfold tG at this;omega) (fun k hk=>sH.out (by have:=bV.out;omega) k (eO _ hk)) (kG.out.resolve_right (by have:=bV.out;omega)) zh.out.2 rfl (by
  unfold gJ;rw[al (by have:=bV.out;omega),hlen]
  congr 2
  omega)).mono ?_
 intro e w3 hp;obtain⟨v,rfl⟩:=hp.ret;have HV:=aa hp;have lO:=aa hf2;clear hp hr2 hf2 tq;go_wp2_with fail
 go_ret
 have hE:bo (.mk i h (vals++[blk])) f st=((aI vals f (st.setOf i f)).bind fun s1=>((bF i f h.line h.names (du i f s1)).bind fun s2=>aI [blk] f s2).map fun s=>s.back s1):=by
  rw[cV];rw[af (by have:=bV.out;omega)]
  rw[af (by have:=bV.out;omega)]
  rw[af (by have:=bV.out;omega)]
  rw[af (by have:=bV.out;omega)]
  rw[af (by have:=bV.out;omega)]
  rw[af (by have:=bV.out;omega)]
  rw[af (by have:=bV.out;omega)]
  rw[al (by have:=bV.out;omega)]
  exact qQ blk vals (st.setOf i f)
 rw[hE];exact aq.after lO.out rfl HV.out
theorem Pp {T:List Nd} {B b:Nat} {nv:Value} {ub ob:Nat} (gO :∀x∈T,x.s.size≤65536∧∀s∈x.names,s.size≤65536) (i:Nat) (h:Nd) (ks:List Lt) (hn:lx T (.mk i h ks)) (iE :∀u:Lt,u.size<Lt.ak ks+1→lx T u→bM T B b nv ub ob u) (hk:h.kind=27):bM T B b nv ub ob (.mk i h ks):=by
 intro f loop pa la lc ms L st w hr bg bG;show Calls Tryz.prog 26 #[.pointer (some ⟨b,0,none⟩),.int .i64 (i:Int),.agg #[.int .i64 (f:Int),.int .i64 loop,.pointer pa,.slice la L.length lc]] w (aq B b nv T.length ub ob (.slice la L.length lc) L st (bo (.mk i h ks) f st) w)
 have fL:=hn.sub;have fD:=hn.vQ;unfold Lt.In at fD;obtain⟨hx,bw,_⟩:=fD;replace hr:eF T B b nv ub ob f pa (.slice la L.length lc) ms L st w (h.names.length+Lt.eD ks) (Lt.ak ks+1):=by have h1:=hr;rw[Lt.wt,Lt.size] at h1;exact h1
 replace bg:18≤h.kind→loop=bP f st.frames:=bg;replace bG:L≠[]∨h.kind=18:=bG;obtain⟨bh,bj,bn⟩:=fL;replace bh:dX T ks:=bh;replace bj:h.kind≠18→∀k∈ks,Still k:=bj;replace bn:hH h.kind h.num (jd ks):=bn;have kJ:=gO h (aL hx);obtain⟨bk,o,c,rfl,bN,cC,cL⟩:=hr.dB.nodes;obtain⟨pL,pM,dM,⟨NA,nc,kI,_⟩,⟨KA,kc,jx,qe,kt⟩⟩:=cL i h hx;have tm:h.kids.length≤20000:=(hr.dB.small h (aL hx)).1;have fX:h.kids.length=ks.length:=by rw[bw,cy]
 subst kI jx;obtain⟨x0,x1,x2,x3,x4,x5,x6⟩:=dM;have y9:i<T.length:=(aJ.1 hx).1;have qY:=hr.dB.few;obtain⟨fv,FL,hw⟩:=id hr.rs;obtain⟨hbl,pE,uq⟩:=hw.gR;have d0:w.cell? ⟨b,0,none⟩=some (.slice (some ⟨bk,o,none⟩) T.length c):=ab hw.blk 0;have d3:w.cell? ⟨b,3,none⟩=some (.slice (some ⟨ob,0,none⟩) T.length T.length):=ab hw.blk 3;obtain⟨u0,v0⟩:=bA hw.mC (j:=i) (by omega)
 have iR:bk<w.heap.size:=by omega
 have HR:=aa hr;have HN:=aa hn;have tJ:=aa iE;have iS:=aa bg;have kG:=aa bG;have eM:=aa bh;have sH:=aa bj;have oh:=aa bn;have fP:=aa bw;have qR:=aa fX;have HX:=aa hx;have zh:=aa kJ;have CU:=aa kt;clear hr hn iE bg bG bh bj bn bw fX hx kJ cL hw gO kt;have q6:(h.kind == 6)=false:=by rw[hk];rfl
 have q7:(h.kind == 7)=false:=by rw[hk];rfl
 have yG:(h.kind == 11)=false:=by rw[hk];rfl
 have zv:(h.kind == 18)=false:=by rw[hk];rfl
 have Vo:(h.kind == 23)=false:=by rw[hk];rfl
 have YK:(h.kind == 26)=false:=by rw[hk];rfl
 have ZH:(h.kind == 27)=true:=by rw[hk];rfl
 have bV:=aa hk;clear hk;go_enter Tryz.func26,Tryz.ntmps26
 go_wp2_with fail
 go_region
 have aU:=HR.out.ir i (.cells #[.int .i64 (f:Int),.int .i64 loop,.pointer pa,.slice la L.length lc] 92);have db:=heap_alloc_new (w.setCell ⟨ob,i,none⟩ (.int .i64 (f:Int))) (.cells #[.int .i64 (f:Int),.int .i64 loop,.pointer pa,.slice la L.length lc] 92);obtain⟨W1,hW1⟩ :∃W1,W1=((w.setCell ⟨ob,i,none⟩ (.int .i64 (f:Int))).alloc (.cells #[.int .i64 (f:Int),.int .i64 loop,.pointer pa,.slice la L.length lc] 92)).drew:=⟨_,rfl⟩;rw[←hW1] at aU;have bY:W1.heap[w.heap.size]? = some (.cells #[.int .i64 (f:Int),.int .i64 loop,.pointer pa,.slice la L.length lc] 92 (0,0)):=by
  rw[hW1];have e:(w.setCell ⟨ob,i,none⟩ (.int .i64 (f:Int))).heap.size=w.heap.size:=by simp[World.setCell]
  rw[e] at db;exact db
 rw[←hW1];have x0:=(aU.2.1.below.cell (p:=⟨bk,o+i*7,none⟩) bN).trans x0;have x1:=(aU.2.1.below.cell (p:=⟨bk,o+i*7+1,none⟩) bN).trans x1;have x2:=(aU.2.1.below.cell (p:=⟨bk,o+i*7+2,none⟩) bN).trans x2;have x3:=(aU.2.1.below.cell (p:=⟨bk,o+i*7+3,none⟩) bN).trans x3;have x4:=(aU.2.1.below.cell (p:=⟨bk,o+i*7+4,none⟩) bN).trans x4;have x5:=(aU.2.1.below.cell (p:=⟨bk,o+i*7+5,none⟩) bN).trans x5;have x6:=(aU.2.1.below.cell (p:=⟨bk,o+i*7+6,none⟩) bN).trans x6;clear hW1 db d0 d3 u0 v0;have d0:W1.cell? ⟨b,0,none⟩=some (.slice (some ⟨bk,o,none⟩) T.length c):=by obtain⟨_,_,hw⟩:=aU.1.rs;exact ab hw.blk 0
 have tn:b<W1.heap.size:=by obtain⟨_,_,hw⟩:=aU.1.rs;exact hw.gR.1
 have oC:w.heap.size<W1.heap.size:=(aF.1 bY).1;have tp:bk<W1.heap.size:=by omega
 have k0:W1.cell? ⟨w.heap.size,0,none⟩=some (.int .i64 (f:Int)):=ab bY 0;have k1:W1.cell? ⟨w.heap.size,1,none⟩=some (.int .i64 loop):=ab bY 1;have k2:W1.cell? ⟨w.heap.size,2,none⟩=some (.pointer pa):=ab bY 2;have k3:W1.cell? ⟨w.heap.size,3,none⟩=some (.slice la L.length lc):=ab bY 3;have HZ:=aa aU.1;have fA:=aa aU.2.1;have pH:=aa aU.2.2;have AF:=aa bY;clear aU bY;obtain⟨l,hl0,yz⟩ :∃l,jd ks=l++[18]∧∀a∈l,tG a:=by
  obtain⟨l,h1,_,h2⟩:=oh.out.each bV.out;exact⟨l,h1,h2⟩
 obtain⟨vals,blk,rfl,hv,hb⟩:=vC hl0;subst hv;go_wp2_with fail
 obtain⟨W2,hW2⟩ :∃W2,W2=W1.alloc (.cells #[.int .i64 h.kind,.int .i64 h.line,.int .i64 h.op,.int .i64 h.num,.string h.s,.slice NA h.names.length nc,.slice KA h.kids.length kc] 55):=⟨_,rfl⟩;have di:Below W1.heap.size W1 W2:=by rw[hW2];exact(Below.refl _ _).alloc (ah _) _
 rw[←hW2];refine(lX f loop (i:Int) pa la L.length lc W2).mono ?_;rintro e wv ⟨rfl,Vq⟩;have di:=di.trans (Vq.mono di.size);clear hW2 Vq;go_wp2_with fail
 have hr2:=HZ.out.dp di;have hf2:cW B ob (.slice la L.length lc) L.length (eE L) w wv:=fA.out.trans (cW.bR di HZ.out.world);have tq :∀k∈vals++[blk],bM T B b (.slice (some ⟨bk,o,none⟩) T.length c) ub ob k:=fun k hk=>tJ.out k (by have:=fh hk;omega) (eM.out.at_ k hk)
 have hlen:h.kids.length=vals.length+1:=by rw[qR.out,cI,mF]
 refine(BK i f h vals [blk] (i:Int) pa la lc ms L (st.setOf i f) wv (hr2.mono (by rw[zi];omega) (by rw[pA];omega)) HX.out (by rw[fP.out,me]) (by simp) eM.out.app.1 eM.out.app.2 (fun k hk=>tq k (eO _ hk)) (fun k hk=>tq k (iF _ hk)) (fun k hk=>by have:=yz _ (jW hk);unfold tG at this;omega) (fun k hk=>sH.out (by have:=bV.out;omega) k (eO _ hk)) (kG.out.resolve_right (by have:=bV.out;omega)) zh.out.2 rfl (by
  unfold gJ;rw[al (by have:=bV.out;omega),hlen]
  congr 2
  omega)).mono ?_
 intro e w3 hp;obtain⟨v,rfl⟩:=hp.ret;have HV:=aa hp;have lO:=aa hf2;clear hp hr2 hf2 tq;go_wp2_with fail
 go_ret
 have hE:bo (.mk i h (vals++[blk])) f st=((aI vals f (st.setOf i f)).bind fun s1=>((bF i f h.line h.names (du i f s1)).bind fun s2=>aI [blk] f s2).map fun s=>s.back s1):=by
  rw[cV];rw[af (by have:=bV.out;omega)]
  rw[af (by have:=bV.out;omega)]
  rw[af (by have:=bV.out;omega)]
  rw[af (by have:=bV.out;omega)]
  rw[af (by have:=bV.out;omega)]
  rw[af (by have:=bV.out;omega)]
  rw[af (by have:=bV.out;omega)]
  rw[al (by have:=bV.out;omega)]
  exact qQ blk vals (st.setOf i f)
 rw[hE];exact aq.after lO.out rfl HV.out
end Go.Proofs.YteflkdlaoiijbaaGreatDoor
