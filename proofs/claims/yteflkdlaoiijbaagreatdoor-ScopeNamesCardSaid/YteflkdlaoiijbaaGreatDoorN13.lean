/- Parts of the proof. -/
import Derived.StillTail
import Derived.Test.YteflkdlaoiijbaaGreatDoorN12
set_option maxHeartbeats 16000000
set_option maxRecDepth 20000
namespace Go.Proofs.YteflkdlaoiijbaaGreatDoor
open Go.RowKit
structure BI (T:List Nd) (B b:Nat) (nv:Value) (ub ob f i mb g c6 m:Nat) (rep:Bool) (ks tests:List Lt) (pa:Option Addr) (lv:Value) (ms:List Nat) (L:List cE) (Pq:List fw) (loop:Int) (w:World) (n:Nat) (x:List jr) (s1:aG) (wr:World):Prop where
 rd:eS T B b nv ub ob f pa (.slice (some ⟨g,0,none⟩) (L.length+1) c6) ms (grow x (⟨f,m,[]⟩::L)) { s1 with frames:=Pq} wr (Lt.eY (ks.drop n)+Lt.eY tests) (Lt.al (ks.drop n)+Lt.al tests)
 frames:s1.frames=⟨f,i,n-1,false,rep,ks⟩::Pq
 kb:wr.heap[mb+1]? = some (.cells #[.pointer pa,.map (some mb),.int .i64 (gS ks n:Int)] 195 (0,0))
 mp:dA Tryz.prog 9 wr mb ks.length (fy ks rep ks.length)
 box:wr.heap[w.heap.size]? = some (.cells #[.int .i64 (f:Int),.int .i64 loop,.pointer (some ⟨mb+1,0,none⟩),.slice (some ⟨g,0,none⟩) (L.length+1) c6] 92 (0,0))
 jo:cJ B ob lv L.length (ei L) w wr
 fk:cU wr B lv L
structure BS (B mb g m:Nat) (pa:Option Addr) (lv:Value) (ms:List Nat) (L:List cE) (w:World):Prop where
 own:lv.ownBlock=some g∨w.heap.size≤g
 top:w.heap.size≤m
 old:w.heap.size≤mb
 low:B≤mb
 ptr :∀a,pa=some a→a.block<mb+1
 maps :∀x∈ms,x<mb
 adt :∀l∈L,l.blk<mb
 mlt:m<mb
 apart :∀l∈L,l.blk≠m
 base:B≤w.heap.size
section
variable {T:List Nd} {B b:Nat} {nv:Value} {ub ob f i mb g c6 m:Nat} {rep:Bool} {ks tests:List Lt} {pa:Option Addr} {lv:Value} {ms:List Nat} {L:List cE} {Pq:List fw} {loop:Int} {w:World} {n:Nat} {x:List jr} {s1:aG} {wr wr':World}
theorem BS.grow (h:BS B mb g m pa lv ms L w) (x:List jr) :∀l∈grow x (⟨f,m,[]⟩::L),mb≠l.blk:=by
 intro l hl;have h1:l.blk∈(Go.Proofs.YteflkdlaoiijbaaGreatDoor.grow x (⟨f,m,[]⟩::L)).map cE.blk:=jV hl;rw[vk] at h1;rcases bn.1 h1 with h1|h1
 ·have:=h.mlt
  replace h1:l.blk=m:=h1;omega
 ·obtain⟨u,hu,e⟩:=jd.1 h1
  have:=h.adt u hu;omega
theorem FW {s:aG} {y:fw} {l:List fw} (h:s.frames=y::l) (n:Nat):s.at n={ s with frames:={ y with at_:=n}::l}:=by
 unfold aG.at;rw[h]
theorem BI.ready (h:BI T B b nv ub ob f i mb g c6 m rep ks tests pa lv ms L Pq loop w n x s1 wr) (hb:BS B mb g m pa lv ms L w) {k:Lt} (hk:ks[n]? = some k) (hw:(wr'=wr∧isDecl k=false)∨(wr'=wr.setCell ⟨mb+1,2,none⟩ (.int .i64 ((gS ks n:Int)+1))∧isDecl k=true)) :
  eS T B b nv ub ob f (some ⟨mb+1,0,none⟩) (.slice (some ⟨g,0,none⟩) (L.length+1) c6) (mb::ms) (grow x (⟨f,m,[]⟩::L)) (s1.at n) wr' (k.wt+(Lt.eY (ks.drop (n+1))+Lt.eY tests)) (k.size+(Lt.al (ks.drop (n+1))+Lt.al tests))∧wr'.heap[mb+1]? = some (.cells #[.pointer pa,.map (some mb),.int .i64 (gS ks (n+1):Int)] 195 (0,0))∧wr'.heap[w.heap.size]? = some (.cells #[.int .i64 (f:Int),.int .i64 loop,.pointer (some ⟨mb+1,0,none⟩),.slice (some ⟨g,0,none⟩) (L.length+1) c6] 92 (0,0))∧cJ B ob lv L.length (ei L) w wr'∧cU wr' B lv L:=by
 have vM:=ve hk;have QC:=h.rd;rw[(qK hk).1,(qK hk).2,r9,r9] at QC;have hmb:=hb.low;have sV:=hb.old;have key :∀(W:World),eS T B b nv ub ob f pa (.slice (some ⟨g,0,none⟩) (L.length+1) c6) ms (Go.Proofs.YteflkdlaoiijbaaGreatDoor.grow x (⟨f,m,[]⟩::L)) { s1 with frames:=Pq} W (k.wt+(Lt.eY (ks.drop (n+1))+Lt.eY tests)) (k.size+(Lt.al (ks.drop (n+1))+Lt.al tests))→W.heap[mb+1]? = some (.cells #[.pointer pa,.map (some mb),.int .i64 (gS ks (n+1):Int)] 195 (0,0))→dA Tryz.prog 9 W mb ks.length (fy ks rep ks.length)→eS T B b nv ub ob f (some ⟨mb+1,0,none⟩) (.slice (some ⟨g,0,none⟩) (L.length+1) c6) (mb::ms) (Go.Proofs.YteflkdlaoiijbaaGreatDoor.grow x (⟨f,m,[]⟩::L)) (s1.at n) W (k.wt+(Lt.eY (ks.drop (n+1))+Lt.eY tests)) (k.size+(Lt.al (ks.drop (n+1))+Lt.al tests)):=fun W h1 h2 h3=>by
  rw[FW h.frames n];exact h1.BY (i:=i) (n:=n) (rep:=rep) h2 h3 (by omega) hmb hb.ptr (hb.grow x)
 rcases hw with ⟨rfl,hd⟩ | ⟨rfl,hd⟩
 ·rw[hd] at vM
  have vM:gS ks (n+1)=gS ks n:=vM;have hkb:=h.kb;rw[←vM] at hkb;exact⟨key _ QC hkb h.mp,hkb,h.box,h.jo,h.fk⟩
 ·rw[hd] at vM
  have vM:gS ks (n+1)=gS ks n+1:=vM;have hF:Fr [195] wr (wr.setCell ⟨mb+1,2,none⟩ (.int .i64 ((gS ks n:Int)+1))):=Fr.set h.kb (by decide) _ _
  have hB:Below B wr (wr.setCell ⟨mb+1,2,none⟩ (.int .i64 ((gS ks n:Int)+1))):=(Below.refl B wr).setCell (p:=⟨mb+1,2,none⟩) (by show B≤mb+1;omega) _
  have hK :∀j,j≠mb+1→(wr.setCell ⟨mb+1,2,none⟩ (.int .i64 ((gS ks n:Int)+1))).heap[j]? = wr.heap[j]?:=fun j hj=>Below.heap_setCell _ _ _ j hj
  have hkb:(wr.setCell ⟨mb+1,2,none⟩ (.int .i64 ((gS ks n:Int)+1))).heap[mb+1]? = some (.cells #[.pointer pa,.map (some mb),.int .i64 (gS ks (n+1):Int)] 195 (0,0)):=by
   have:=bt h.kb 2 (.int .i64 ((gS ks n:Int)+1));rw[vM];exact this
  exact⟨key _ (QC.but hF hB (fun j hj _=>hK j hj) hb.ptr (fun y hy=>by have:=hb.maps y hy;omega)) hkb (hF.map h.mp),hkb,(hK _ (by omega)).trans h.box,h.jo.past hB fun j hj=>hK j (by omega),h.fk.fr hF (by decide)⟩
theorem BI.next {k:Lt} {s2:aG} {w2:World} {e:Ending} (hb:BS B mb g m pa lv ms L w) (hn:kj T k) (oD:s1.frames=⟨f,i,n-1,false,rep,ks⟩::Pq)
  (h1:eS T B b nv ub ob f (some ⟨mb+1,0,none⟩) (.slice (some ⟨g,0,none⟩) (L.length+1) c6) (mb::ms) (grow x (⟨f,m,[]⟩::L)) (s1.at n) wr' (k.wt+(Lt.eY (ks.drop (n+1))+Lt.eY tests)) (k.size+(Lt.al (ks.drop (n+1))+Lt.al tests))) (h2:wr'.heap[mb+1]? = some (.cells #[.pointer pa,.map (some mb),.int .i64 (gS ks (n+1):Int)] 195 (0,0))) (h3:wr'.heap[w.heap.size]? = some (.cells #[.int .i64 (f:Int),.int .i64 loop,.pointer (some ⟨mb+1,0,none⟩),.slice (some ⟨g,0,none⟩) (L.length+1) c6] 92 (0,0))) (h4:cJ B ob lv L.length (ei L) w wr') (h5:cU wr' B lv L)
  (hr:bg k f (s1.at n)=.ok s2) (hp:aq B b nv T.length ub ob (.slice (some ⟨g,0,none⟩) (L.length+1) c6) (grow x (⟨f,m,[]⟩::L)) (s1.at n) (.ok s2) wr' e w2) :
  e=.returned .nilIface∧∃y,BI T B b nv ub ob f i mb g c6 m rep ks tests pa lv ms L Pq loop w (n+1) (y++x) s2 w2:=by
 obtain⟨he,y,_,_,hr2,hf2,ru⟩:=eS.next h1 hn hr hp;rw[grow_grow] at hr2;rw[ch,om] at hf2;rw[FW oD n] at ru;replace ru:s2.frames=⟨f,i,n,false,rep,ks⟩::Pq:=ru;have hkb:=hf2.cells _ _ _ _ h2 (by decide)
 obtain⟨q1,q2⟩:=hr2.Uf (pa:=pa) ru hkb;exact⟨he,y,⟨q1,ru,hkb,q2,hf2.cells _ _ _ _ h3 (by decide),h4.inner hb.own hb.top hf2,h5.inner hb.apart hf2⟩⟩
end
theorem aq.Y3 {B b:Nat} {nv:Value} {N ub ob g c:Nat} {lv:Value} {L:List cE} {l:cE} {st st1:aG} {r:Rs aG} {w w1 w2:World} {e:Ending} (h1:cJ B ob lv L.length (ei L) w w1) (hl:cU w1 B lv L) (hne :∀u∈L,u.blk≠l.blk) (hg:lv.ownBlock=some g∨w.heap.size≤g) (hm:w.heap.size≤l.blk) (h:aq B b nv N ub ob (.slice (some ⟨g,0,none⟩) (L.length+1) c) (l::L) st1 r w1 e w2):aq B b nv N ub ob lv L st (r.map fun s=>s.back st) w e w2:=by
 refine⟨h1.below.trans h.1,?_⟩;have h2:=h.2;cases r with
 | error y=>exact h2
 | ok s =>
  obtain⟨k1,⟨fv,FL,k2⟩,k3,_⟩:=h2;refine⟨k1,⟨fv,FL,k2.on rfl rfl rfl⟩,h1.inner hg hm k3,[],rfl,fun _=>rfl,?_⟩
  rw[jN];exact hl.inner hne k3
theorem Pr (ks:List Lt):gS ks (ks.length-1+1)=gS ks ks.length:=by
 rcases rY ks.length with h|h
 ·rw[List.length_eq_zero_iff.1 h];rfl
 ·rw[show ks.length-1+1=ks.length by omega]
end Go.Proofs.YteflkdlaoiijbaaGreatDoor
namespace Go.Proofs.YteflkdlaoiijbaaGreatDoor
open Go.RowKit
theorem zb.setOf {T:List Nd} {B b:Nat} {nv:Value} {ub ob f:Nat} {pa:Option Addr} {lv:Value} {ms:List Nat} {L:List cE} {st:aG} {w:World} {a s:Nat} (i:Nat) (h:zb T B b nv ub ob f pa lv ms L st w a s) (o:Obj):zb T B b nv ub ob f pa lv ms L (st.setOf i f) ((w.setCell ⟨ob,i,none⟩ (.int .i64 (f:Int))).alloc o).drew a s∧cJ B ob lv L.length (ei L) w ((w.setCell ⟨ob,i,none⟩ (.int .i64 (f:Int))).alloc o).drew∧cU ((w.setCell ⟨ob,i,none⟩ (.int .i64 (f:Int))).alloc o).drew B lv L:=by
 obtain⟨fv,FL,hw⟩:=h.rs;obtain⟨cs,hc⟩:=lf hw.vZ;have kO :∀top,cJ B ob lv L.length top w (w.setCell ⟨ob,i,none⟩ (.int .i64 (f:Int))):=fun top=>cJ.aa8 hc hw.jf.2 i _
 have hB:B≤(w.setCell ⟨ob,i,none⟩ (.int .i64 (f:Int))).heap.size:=by have:=hw.mL;have:=hw.pos;simp[World.setCell];omega
 have hf :∀top,cJ B ob lv L.length top w ((w.setCell ⟨ob,i,none⟩ (.int .i64 (f:Int))).alloc o).drew:=fun top=>(kO top).trans ((cJ.bH (((Below.refl _ _).alloc (ah _) o).drew) hB))
 exact⟨⟨h.ft.below (hf none).below,⟨fv,FL,((hw.of_ i f).alloc o).drew⟩,⟨h.pos.fk.jo (hf none) (ah _),h.pos.blk.jo (hf none) (by simp),h.pos.names,h.pos.apart⟩,⟨h.cx.ok,h.cx.lt,h.cx.names⟩,h.few,h.fr,h.names,h.fns,h.fk⟩,hf _,h.pos.fk.jo (hf none) (ah _)⟩
theorem xN {T:List Nd} {B b:Nat} {nv:Value} {ub ob:Nat} (i f:Nat) (h:Nd) (ks tests:List Lt) (rep:Bool) (loop:Int) (pa la:Option Addr) (lc:Nat) (ms:List Nat) (L:List cE) (st:aG) (w:World) (tv:Value) (hr:zb T B b nv ub ob f pa (.slice la L.length lc) ms L st w (Lt.eY ks+Lt.eY tests) (Lt.al ks+Lt.al tests)) (hx:T[i]? = some h) (hk:h.kids=ks.map fun k=>(k.loc:Int)) (hn:fA T ks) (uz:fA T tests) (hV :∀k∈ks,bA T B b nv ub ob k) (hV2 :∀k∈tests,bA T B b nv ub ob k)
  (htv:qJ B ob (.slice la L.length lc) L.length (ei L) w tv (tests.map fun k=>(k.loc:Int))) (Tf:rep=decide (0<tests.length)) (hl :∀k∈ks,18≤k.hd.kind→loop=cB f st.frames) (hl2 :∀k∈tests,18≤k.hd.kind→loop=cB f st.frames) (hs :∀x∈ks,x.hd.s.size≤65536) (Qq:tests.length≤20000) :
  Calls Tryz.prog 56 #[.pointer (some ⟨b,0,none⟩),.int .i64 (i:Int),.agg #[.int .i64 (f:Int),.int .i64 loop,.pointer pa,.slice la L.length lc],tv] w (aq B b nv T.length ub ob (.slice la L.length lc) L st ((wg i f rep ks tests st).map fun s=>s.back st) w):=by
 subst Tf;obtain⟨bk,o,c,rfl,eG,bX,dG⟩:=hr.ft.nodes;obtain⟨zx,zy,fE,⟨NA,nc,vL,_⟩,fu⟩:=dG i h hx;have rU:h.kids.length≤20000:=(hr.ft.small h (ba hx)).1;have o0:h.kids.length=ks.length:=by rw[hk,cN]
 obtain⟨KA,kc,qX,Cm,_⟩:=id fu;subst vL qX;have HTV:=aa htv;obtain⟨TA,tc,rfl,htc,_⟩:=htv;have x6:=fE.c6;have v7:i<T.length:=(aL.1 hx).1;have pN:=hr.ft.few;obtain⟨fv,FL,hw⟩:=id hr.rs;obtain⟨hbl,mH,sV⟩:=hw.mL;have d0:w.cell? ⟨b,0,none⟩=some (.slice (some ⟨bk,o,none⟩) T.length c):=ab hw.blk 0;have d3:w.cell? ⟨b,3,none⟩=some (.slice (some ⟨ob,0,none⟩) T.length T.length):=ab hw.blk 3;obtain⟨u0,v0⟩:=cZ hw.vZ (j:=i) (by omega)
 have gT:bk<w.heap.size:=by omega
 have HR:=aa hr;have HN:=aa hn;have RT:=aa uz;have HV:=aa hV;have HV2:=aa hV2;have HL:=aa hl;have HL2:=aa hl2;have HS:=aa hs;have Jq:=aa fu;have HK:=aa hk;have sM:=aa o0;have HX:=aa hx;simp only[cN] at htc ⊢;clear hr hn uz hV hV2 hl hl2 hs fu hk o0 hx dG fE hw;go_enter Tryz.func56,Tryz.ntmps56
 go_wp2_with fail
 go_region
 have qW:=HR.out.setOf i (.cells #[.int .i64 (f:Int),.int .i64 loop,.pointer pa,.slice la L.length lc] 92);have gr:=heap_alloc_new (w.setCell ⟨ob,i,none⟩ (.int .i64 (f:Int))) (.cells #[.int .i64 (f:Int),.int .i64 loop,.pointer pa,.slice la L.length lc] 92);obtain⟨W1,hW1⟩ :∃W1,W1=((w.setCell ⟨ob,i,none⟩ (.int .i64 (f:Int))).alloc (.cells #[.int .i64 (f:Int),.int .i64 loop,.pointer pa,.slice la L.length lc] 92)).drew:=⟨_,rfl⟩;rw[←hW1] at qW;have lF:W1.heap[w.heap.size]? = some (.cells #[.int .i64 (f:Int),.int .i64 loop,.pointer pa,.slice la L.length lc] 92 (0,0)):=by
  rw[hW1];have e:(w.setCell ⟨ob,i,none⟩ (.int .i64 (f:Int))).heap.size=w.heap.size:=by simp[World.setCell]
  rw[e] at gr;exact gr
 rw[←hW1];clear hW1 gr d0 d3 u0 v0;have x6:=(qW.2.1.below.cell (p:=⟨bk,o+i*7+6,none⟩) eG).trans x6;have d0:W1.cell? ⟨b,0,none⟩=some (.slice (some ⟨bk,o,none⟩) T.length c):=by obtain⟨_,_,hw⟩:=qW.1.rs;exact ab hw.blk 0
 have k0:W1.cell? ⟨w.heap.size,0,none⟩=some (.int .i64 (f:Int)):=ab lF 0;have k1:W1.cell? ⟨w.heap.size,1,none⟩=some (.int .i64 loop):=ab lF 1;have k2:W1.cell? ⟨w.heap.size,2,none⟩=some (.pointer pa):=ab lF 2;have k3:W1.cell? ⟨w.heap.size,3,none⟩=some (.slice la L.length lc):=ab lF 3;have HZ:=aa qW.1;have fj:=aa qW.2.1;have pJ:=aa qW.2.2;have AK:=aa lF;have HOP:=aa (xM loop qW.1);clear qW lF;go_wp2_with fail
 refine HOP.out.mono ?_;rintro e w2 ⟨g,c6,m,rfl,hr2,hm,hg,hf2⟩;have sA:=hf2.cells _ _ _ _ AK.out (by decide)
 have y0:=aw sA 0;have y1:=aw sA 1;have y2:=aw sA 2;have y3:=aw sA 3;have k0:w2.cell? ⟨w.heap.size,0,none⟩=some (.int .i64 (f:Int)):=ab sA 0;have k1:w2.cell? ⟨w.heap.size,1,none⟩=some (.int .i64 loop):=ab sA 1;have k2:w2.cell? ⟨w.heap.size,2,none⟩=some (.pointer pa):=ab sA 2;have k3:w2.cell? ⟨w.heap.size,3,none⟩=some (.slice la L.length lc):=ab sA 3;have hpl:w.heap.size<w2.heap.size:=(aI.1 sA).1;have Xi:=aa sA;have vS:=aa hr2;have HM:=aa hm;have HG:=aa hg;have lV:=aa hf2;clear sA hr2 hm hg hf2;go_wp2_with fail
 obtain⟨W3,hW3⟩ :∃W3,W3=four w2 w.heap.size (.int .i64 (f:Int)) (.int .i64 loop) (.pointer pa) (.slice (some ⟨g,0,none⟩) (L.length+1) c6):=⟨_,rfl⟩;have kn:vK w2 w.heap.size 92:=⟨_,_,Xi.out⟩;have VI:W3.heap[w.heap.size]? = some (.cells #[.int .i64 (f:Int),.int .i64 loop,.pointer pa,.slice (some ⟨g,0,none⟩) (L.length+1) c6] 92 (0,0)):=by
  rw[hW3];exact bt (bt (bt (bt Xi.out 0 _) 1 _) 2 _) 3 _
 have hF3:Fr [92] w2 W3:=by rw[hW3];exact vu kn _ _ _ _
 have XL:Below B w2 W3:=by rw[hW3];exact pI w2 bX _ _ _ _
 have hK3 :∀k,k≠w.heap.size→W3.heap[k]? = w2.heap[k]?:=by rw[hW3];exact fun k hk=>nR w2 _ _ _ _ _ k hk
 have hs3:W3.heap.size=w2.heap.size:=by rw[hW3];simp[four,World.setCell]
 unfold four at hW3;rw[←hW3];have hrun:=run_makeMap (P:=Tryz.prog) 193 W3;have k0:W3.cell? ⟨w.heap.size,0,none⟩=some (.int .i64 (f:Int)):=ab VI 0;have k1:W3.cell? ⟨w.heap.size,1,none⟩=some (.int .i64 loop):=ab VI 1;have k2:W3.cell? ⟨w.heap.size,2,none⟩=some (.pointer pa):=ab VI 2;have k3:W3.cell? ⟨w.heap.size,3,none⟩=some (.slice (some ⟨g,0,none⟩) (L.length+1) c6):=ab VI 3;have y2:=aw VI 2;have hpl:w.heap.size<W3.heap.size:=(aI.1 VI).1;have Xj:=aa VI;have Fa:=aa hF3;have yA:=aa XL;have HK3:=aa hK3;have ou:=aa hs3;clear hW3 kn VI hF3 XL hK3 hs3 y0 y1 y3;rw[hrun];clear hrun;go_wp2_with fail
 obtain⟨W4,Y7⟩ :∃W4,W4=((W3.setCell ⟨w.heap.size,2,none⟩ (.pointer (some ⟨W3.heap.size+1,0,none⟩))).alloc (.map #[] 0)).alloc (.cells #[.pointer pa,.map (some W3.heap.size),.int .i64 0] 195):=⟨_,rfl⟩;rw[←Y7];obtain⟨Wa,Y8⟩ :∃Wa,Wa=W3.setCell ⟨w.heap.size,2,none⟩ (.pointer (some ⟨W3.heap.size+1,0,none⟩)):=⟨_,rfl⟩;rw[←Y8] at Y7;have hsa:Wa.heap.size=W3.heap.size:=by rw[Y8];simp[World.setCell]
 have hFa:Fr [92] W3 Wa:=by rw[Y8];exact Fr.set Xj.out (by decide) _ _
 have hBa:Below B W3 Wa:=by rw[Y8];exact(Below.refl B W3).setCell (p:=⟨w.heap.size,2,none⟩) bX _
 have hPa:Wa.heap[w.heap.size]? = some (.cells #[.int .i64 (f:Int),.int .i64 loop,.pointer (some ⟨W3.heap.size+1,0,none⟩),.slice (some ⟨g,0,none⟩) (L.length+1) c6] 92 (0,0)):=by rw[Y8];exact bt Xj.out 2 _
 have hKa :∀k,k≠w.heap.size→Wa.heap[k]? = W3.heap[k]?:=by rw[Y8];exact fun k hk=>Below.heap_setCell _ _ _ k hk
 have hab:Below Wa.heap.size Wa W4:=by rw[Y7];exact Below.two _ _
 have hs4:W4.heap.size=W3.heap.size+2:=by rw[Y7,ao,ao,hsa]
 have Yh:dA Tryz.prog 9 W4 W3.heap.size 0 (fun _=>none):=by
  rw[Y7,←hsa];exact(dA.made Wa Tryz.prog 9).same (Below.heap_alloc _ _ _ (by rw[ao];omega))
 have hkb:W4.heap[W3.heap.size+1]? = some (.cells #[.pointer pa,.map (some W3.heap.size),.int .i64 0] 195 (0,0)):=by
  rw[Y7];have:=heap_alloc_new (Wa.alloc (.map #[] 0)) (.cells #[.pointer pa,.map (some W3.heap.size),.int .i64 0] 195);rwa[ao,hsa] at this
 clear Y7 Y8;have hF4:Fr [92] W3 W4:=hFa.trans (Fr.ae hab);have Cv:Below B W3 W4:=hBa.trans (hab.mono (by have:=vS.out.world;have:=ou.out;omega))
 have hP4:=(hab.block w.heap.size (by omega)).trans hPa
 have hK4 :∀k,k<W3.heap.size→k≠w.heap.size→W4.heap[k]? = W3.heap[k]?:=fun k hk hn=>(hab.block k (by omega)).trans (hKa k hn)
 clear hab hsa hFa hBa hPa hKa Wa k0 k1 k2 k3 y2 d0 x6;have hr4:=(vS.out.Ua Fa.out yA.out).Ua hF4 Cv;have Gv:cJ B ob (.slice la L.length lc) L.length (ei L) w W4:=(fj.out.trans (lV.out.FB _)).past ((yA.out.trans Cv)) fun k hk=>(hK4 k (by omega) (by omega)).trans (HK3.out k (by omega))
 have hlv:cU W4 B (.slice la L.length lc) L:=((pJ.out.jo lV.out (ah _)).fr Fa.out (by decide)).fr hF4 (by decide)
 have TR :∀a,pa=some a→a.block<W3.heap.size+1:=fun a ha=>by have:=bW.first (vS.out.Ua Fa.out yA.out).pos.blk a ha;omega
 have hms :∀x∈ms,x<W3.heap.size:=bW.lt (vS.out.Ua Fa.out yA.out).pos.blk;have hbs :∀l∈(⟨f,m,[]⟩::L:List cE),l.blk<W3.heap.size:=fun l hl=>((vS.out.Ua Fa.out yA.out).pos.fk.maps l hl).1.lt
 have Vx:B≤W3.heap.size:=(vS.out.Ua Fa.out yA.out).world;have hww:w.heap.size≤W3.heap.size:=fg hpl;generalize hmb:W3.heap.size=mb at *;have VJ:Hid (Calls Tryz.prog 114 #[.pointer (some ⟨b,0,none⟩),.pointer (some ⟨mb+1,0,none⟩),.slice KA h.kids.length kc,.bool (decide (0<tests.length))] W4 (BH mb ks (decide (0<tests.length)) (cA st.frames f ks 0 ks) W4)):=by
  obtain⟨fv4,FL4,hw4⟩:=hr4.rs;exact aa (OX b (mb+1) mb f pa (.slice KA h.kids.length kc) ks st.frames ms (decide (0<tests.length)) fv4 _ _ W4 hr4.ft hw4.blk (by rw[←HK.out];exact Jq.out.below Gv.below) HN.out.J2 (by have:=sM.out;omega) hkb Yh hr4.pos.blk TR (fun Ps=>by have:=hms mb Ps;omega) (by omega) Vx HS.out)
 have HR4:=aa hr4;have HFO:=aa Gv;have Pp:=aa hlv;have HPK:=aa TR;have HMS:=aa hms;have HBS:=aa hbs;have HM4:=aa Yh;have HKB:=aa hkb;have HP4:=aa hP4;have HS4:=aa hs4;have VF:(Value.slice la L.length lc).ownBlock=some g∨w.heap.size≤g:=HG.out.imp id fun h=>by have:=fj.out.below.size;omega
 have VG:w.heap.size≤m:=by have:=HM.out;have:=fj.out.below.size;omega
 have HOW:=aa VF;have VH:=aa VG;have HWW:=aa hww;have Ug:B≤mb:=Vx;clear hr4 Gv hlv TR hms hbs Yh hkb hP4 hs4 hF4 Cv hK4 VF VG hww Vx hmb hpl;refine VJ.out.mono ?_;intro e w5 hp;obtain⟨Qk,hp⟩:=hp;cases TM:cA st.frames f ks 0 ks with
 | some l =>
  rw[TM] at hp;obtain⟨v,rfl,g2,rfl,h2⟩:=hp;have H2:=aa h2;have HE:Hid (((wg i f (decide (0<tests.length)) ks tests st).map fun s=>s.back st)=.error (9,l)):=aa (by
   show Except.map _ (Except.bind (gX i f _ ks (st.setOf i f)) _)=_
   rw[BZ];show Except.map _ (Except.bind (match cA st.frames f ks 0 ks with|some l=>_|none=>_) _)=_
   rw[TM];rfl)
  have HG5:=aa Qk;clear h2 TM Qk;go_wp2_with fail
  go_ret
  rw[HE.out];exact⟨HFO.out.below.trans (ki HG5.out Ug HR4.out.world),_,rfl,_,rfl,H2.out⟩
 | none =>
  rw[TM] at hp;obtain⟨rfl,hm5⟩:=hp;have hZ1:=HZ.out;have um:Hid (BS B mb g m pa (.slice la L.length lc) ms L w):=aa ⟨HOW.out,VH.out,HWW.out,Ug,HPK.out,HMS.out,fun l hl=>HBS.out l (bY _ hl),HBS.out ⟨f,m,[]⟩ (bU ..),fun l hl=>by have:=hZ1.levels l hl;have:=HM.out;omega,bX⟩
  obtain⟨s0,hs0⟩ :∃s0:aG,s0={ st.setOf i f with frames:=⟨f,i,0,false,decide (0<tests.length),ks⟩::st.frames}:=⟨_,rfl⟩;have sX:=eR Qk HM4.out.isMap;have HI:Hid (BI T B b (.slice (some ⟨bk,o,none⟩) T.length c) ub ob f i mb g c6 m (decide (0<tests.length)) ks tests pa (.slice la L.length lc) ms L st.frames loop w 0 [] s0 w5):=by
   refine aa ⟨?_,by rw[hs0],by rw[Bq];exact sX _ _ _ _ HKB.out,hm5,sX _ _ _ _ HP4.out,HFO.out.past (ki Qk Ug HR4.out.world) fun k hk=>Qk.block k (by have:=HFO.out.below.size;omega) (fun e=>by injection e with e;have:=HWW.out;omega),Pp.out.grown Qk HM4.out.isMap fun l hl=>by have:=HBS.out l (bY _ hl);omega⟩
   have h1:=HR4.out.grown Qk HM4.out.isMap Ug (fun Ps=>by have:=HMS.out mb Ps;omega) (fun l hl=>by have:=HBS.out l hl;omega)
   rw[hs0,tL,jN];exact h1
  obtain⟨R,hR⟩ :∃R,R=cM ks 0 f s0:=⟨_,rfl⟩;have HE:Hid (((wg i f (decide (0<tests.length)) ks tests st).map fun s=>s.back st)=(R.bind fun s2=>aH tests f s2).map fun s=>s.back st):=aa (by
   rw[hR,hs0];show Except.map _ (Except.bind (gX i f _ ks (st.setOf i f)) _)=_
   rw[BZ];show Except.map _ (Except.bind (match cA st.frames f ks 0 ks with|some l=>_|none=>_) _)=_
   rw[TM];rfl)
  have HRS:=aa hR;clear hR hs0 sX TM hm5 Qk hZ1 HZ fj pJ AK HOP Xi vS HM HG lV Xj Fa yA HK3 ou VJ HR4 HFO Pp HPK HMS HBS HM4 HKB HP4 HS4 HOW VH HWW;go_wp2_with fail
  go_loopw [52] (fun tk wr=>∃(n:Nat) (x:List jr) (s1:aG),tk=.int .i64 (n:Int)∧n≤ks.length∧BI T B b (.slice (some ⟨bk,o,none⟩) T.length c) ub ob f i mb g c6 m (decide (0<tests.length)) ks tests pa (.slice la L.length lc) ms L st.frames loop w n x s1 wr∧cM (ks.drop n) n f s1=R) (fun tk _=>h.kids.length-(intOf tk).toNat)
  case atStart=>exact⟨0,[],s0,rfl,aR _,HI.out,by rw[tL];exact HRS.out.symm⟩
  case round =>
   obtain⟨n,x,s1,rfl,Cz,FX,hrn⟩:=hrel;have p0:wr.cell? ⟨w.heap.size,0,none⟩=some (.int .i64 (f:Int)):=ab FX.box 0;have p1:wr.cell? ⟨w.heap.size,1,none⟩=some (.int .i64 loop):=ab FX.box 1;have p2:wr.cell? ⟨w.heap.size,2,none⟩=some (.pointer (some ⟨mb+1,0,none⟩)):=ab FX.box 2;have p3:wr.cell? ⟨w.heap.size,3,none⟩=some (.slice (some ⟨g,0,none⟩) (L.length+1) c6):=ab FX.box 3;have q2:wr.cell? ⟨mb+1,2,none⟩=some (.int .i64 (gS ks n:Int)):=ab FX.kb 2;have z2:=aw FX.kb 2;have hne:w.heap.size≠mb+1:=by have:=um.out.old;omega
   have hdc:gS ks n≤20000:=aK (Ok ks n) (by have:=sM.out;omega)
   have xj:=aa FX;have T7:=aa hrn;clear FX hrn;by_cases hlt:n<h.kids.length
   ·obtain⟨k,hk⟩ :∃k,ks[n]? = some k:=⟨ks[n]'(by have:=sM.out;omega),bE _⟩
    obtain⟨A',c',he,_,iY⟩:=Jq.out.below xj.out.jo.below;injection he with uw _ he2;subst uw he2;rcases iY with h0 | ⟨sb,so,rfl,YP,hsc⟩
    ·rw[h0] at hlt;exact absurd hlt (jx _)
    have cs:wr.cell? ⟨sb,so+n,none⟩=some (.int .i64 (k.loc:Int)):=hsc n _ (by rw[HK.out,gw,hk];rfl)
    obtain⟨YR,Jm⟩:=uZ HN.out.J2 hk;have wQ:k.loc<T.length:=(aL.1 Jm).1;have HKM:=aa (ba hk);have hdr:=drop_at hk;have uk:=aa hdr;have zw:=aa hk;have lo:=aa hlt;have d0:wr.cell? ⟨b,0,none⟩=some (.slice (some ⟨bk,o,none⟩) T.length c):=by obtain⟨_,_,hw⟩:=xj.out.rd.rs;exact ab hw.blk 0
    have OZ:Hid (Calls Tryz.prog 115 #[.pointer (some ⟨b,0,none⟩),.int .i64 (k.loc:Int)] wr fun e w'=>e=.returned (.bool (isDecl k))∧wr=w'):=aa (sK b k.loc k.hd wr xj.out.rd.ft d0 Jm)
    clear hdr hk YR Jm hsc d0;cases DT:isDecl k with
    | false =>
     rw[DT] at OZ;have HDX:=aa DT;clear DT;go_wp2_with fail
     refine OZ.out.mono ?_;rintro e w2 ⟨rfl,rfl⟩;go_wp2_with fail
     obtain⟨r1,r2,r3,r4,r5⟩:=xj.out.ready um.out zw.out (.inl ⟨rfl,HDX.out⟩);have bq:=HV.out k HKM.out f loop (some ⟨mb+1,0,none⟩) (some ⟨g,0,none⟩) c6 (mb::ms) (grow x (⟨f,m,[]⟩::L)) (s1.at n) _ (by rw[ch];exact r1.mono (gy _ _) (gy _ _)) (fun h=>by rw[FW xj.out.frames n];exact(HL.out k HKM.out h).trans (vj rfl _).symm) (.inl (qM (by simp)))
     rw[ch,List.length_cons] at bq;have R1:=aa r1;have R2:=aa r2;have R3:=aa r3;have R4:=aa r4;have R5:=aa r5;clear r1 r2 r3 r4 r5;refine bq.mono ?_;clear bq;intro e w3 hp;cases dG:bg k f (s1.at n) with
     | error y =>
      rw[dG] at hp;obtain⟨hb,v,rfl,g2,rfl,h2⟩:=hp;have H2:=aa h2;have HB:=aa hb;have J3:Hid (R=.error y):=aa (by rw[←T7.out,uk.out,il,dG];rfl)
      clear h2 hb dG;go_wp2_with fail
      go_ret
      rw[HE.out,J3.out];exact⟨R4.out.below.trans HB.out,_,rfl,_,rfl,H2.out⟩
     | ok s2 =>
      rw[dG] at hp;obtain⟨rfl,y,FX⟩:=BI.next um.out (HN.out.at_ k HKM.out) xj.out.frames R1.out R2.out R3.out R4.out R5.out dG hp;have HBN:=aa FX;have J3:Hid (cM (ks.drop (n+1)) (n+1) f s2=R):=aa (by rw[←T7.out,uk.out,il,dG];rfl)
      clear hp FX dG;go_wp2_with fail
      exact⟨⟨n+1,y++x,s2,by go_num,by have:=lo.out;have:=sM.out;omega,HBN.out,J3.out⟩,by have:=lo.out;simp[intOf];omega⟩
    | true =>
     rw[DT] at OZ;have HDX:=aa DT;clear DT;go_wp2_with fail
     refine OZ.out.mono ?_;rintro e w2 ⟨rfl,rfl⟩;go_wp2_with fail
     obtain⟨r1,r2,r3,r4,r5⟩:=xj.out.ready um.out zw.out (.inr ⟨rfl,HDX.out⟩);have bq:=HV.out k HKM.out f loop (some ⟨mb+1,0,none⟩) (some ⟨g,0,none⟩) c6 (mb::ms) (grow x (⟨f,m,[]⟩::L)) (s1.at n) _ (by rw[ch];exact r1.mono (gy _ _) (gy _ _)) (fun h=>by rw[FW xj.out.frames n];exact(HL.out k HKM.out h).trans (vj rfl _).symm) (.inl (qM (by simp)))
     rw[ch,List.length_cons] at bq;have R1:=aa r1;have R2:=aa r2;have R3:=aa r3;have R4:=aa r4;have R5:=aa r5;clear r1 r2 r3 r4 r5;refine bq.mono ?_;clear bq;intro e w3 hp;cases dG:bg k f (s1.at n) with
     | error y =>
      rw[dG] at hp;obtain⟨hb,v,rfl,g2,rfl,h2⟩:=hp;have H2:=aa h2;have HB:=aa hb;have J3:Hid (R=.error y):=aa (by rw[←T7.out,uk.out,il,dG];rfl)
      clear h2 hb dG;go_wp2_with fail
      go_ret
      rw[HE.out,J3.out];exact⟨R4.out.below.trans HB.out,_,rfl,_,rfl,H2.out⟩
     | ok s2 =>
      rw[dG] at hp;obtain⟨rfl,y,FX⟩:=BI.next um.out (HN.out.at_ k HKM.out) xj.out.frames R1.out R2.out R3.out R4.out R5.out dG hp;have HBN:=aa FX;have J3:Hid (cM (ks.drop (n+1)) (n+1) f s2=R):=aa (by rw[←T7.out,uk.out,il,dG];rfl)
      clear hp FX dG;go_wp2_with fail
      exact⟨⟨n+1,y++x,s2,by go_num,by have:=lo.out;have:=sM.out;omega,HBN.out,J3.out⟩,by have:=lo.out;simp[intOf];omega⟩
   ·have zr:n=ks.length:=by have:=sM.out;omega
    have QC:=xj.out.rd;rw[zr,wy] at QC;have hkb:=xj.out.kb;rw[zr,←Pr] at hkb;have Y9:=(QC.mono (a':=Lt.eY tests) (s':=Lt.al tests) (wB _ _) (wB _ _)).BY (i:=i) (n:=ks.length-1) (rep:=decide (0<tests.length)) hkb xj.out.mp (by have:=um.out.low;omega) um.out.low um.out.ptr (um.out.grow x)
    have Uh:=xj.out.frames;rw[zr] at Uh;have hst:({ ({ s1 with frames:=st.frames}:aG) with frames:=⟨f,i,ks.length-1,false,decide (0<tests.length),ks⟩::st.frames}:aG)=s1:=by
     rw[←Uh]
    rw[hst] at Y9;have bq:=qN f loop (some ⟨mb+1,0,none⟩) (some ⟨g,0,none⟩) c6 (mb::ms) (grow x (⟨f,m,[]⟩::L)) s1 wr (.slice TA tests.length tc) tests (by rw[ch];exact Y9) RT.out HV2.out (by have:=HTV.out.inner (c:=c6) xj.out.jo um.out.own um.out.top;rw[cN] at this;rw[ch,om];exact this) (fun k hk mo=>by rw[Uh];exact(HL2.out k hk mo).trans (vj rfl _).symm) (fun k _=>.inl (qM (by simp))) Qq
    rw[ch,List.length_cons] at bq;have J3:Hid (R=.ok s1):=aa (by rw[←T7.out,zr,wy,rI])
    have sB:=aa bq;clear QC hkb Y9 Uh hst bq zr;go_wp2_with fail
    refine sB.out.mono ?_;intro e w3 hp;obtain⟨v,rfl⟩:=hp.ret;have HP:=aa hp;clear hp;go_wp2_with fail
    go_ret
    rw[HE.out,J3.out];exact aq.Y3 (l:={ fn:=f,blk:=m,iC:=x++[]}) xj.out.jo xj.out.fk um.out.apart um.out.own um.out.top HP.out
theorem eS.Za {T:List Nd} {B b:Nat} {nv:Value} {ub ob f:Nat} {pa:Option Addr} {lv:Value} {ms:List Nat} {L:List cE} {st:aG} {w:World} {a s:Nat} (i:Nat) (h:eS T B b nv ub ob f pa lv ms L st w a (s+1)) (o:Obj):eS T B b nv ub ob f pa lv ms L (st.setOf i f) ((w.setCell ⟨ob,i,none⟩ (.int .i64 (f:Int))).alloc o).drew a (s+1)∧cJ B ob lv L.length (ei L) w ((w.setCell ⟨ob,i,none⟩ (.int .i64 (f:Int))).alloc o).drew∧cU ((w.setCell ⟨ob,i,none⟩ (.int .i64 (f:Int))).alloc o).drew B lv L:=by
 obtain⟨h1,h2,h3⟩:=h.zero.setOf i o;exact⟨⟨h1.ft,h1.rs,h1.pos,h.hd,h1.cx,h1.few,h1.fr,h1.names,h.fns,h.fk⟩,h2,h3⟩
theorem aq.tF {T:List Nd} {B b:Nat} {nv:Value} {ub ob f:Nat} {pa:Option Addr} {lv:Value} {ms:List Nat} {L:List cE} {st:aG} {w w':World} {a s:Nat} {r:Rs aG} {e:Ending} (h:eS T B b nv ub ob f pa lv ms L st w a s) (hp:gG B b nv T.length ub ob r w e w') (hn :∀s',r=.ok s'→s'.names=st.names):aq B b nv T.length ub ob lv L st r w e w':=by
 refine⟨hp.1,?_⟩;have h2:=hp.2;cases r with
 | error y=>exact h2
 | ok s' =>
  obtain⟨k1,k2,k3⟩:=h2;have hf :∀top,cJ B ob lv L.length top w w':=fun top=>cJ.u7 k3 (by decide) hp.1
  refine⟨k1,k2,hf _,[],hn s' rfl,fun _=>rfl,?_⟩
  rw[jN];exact h.pos.fk.jo (hf none) (ah _)
theorem aq.after {B b:Nat} {nv:Value} {N ub ob:Nat} {lv:Value} {L:List cE} {st s1:aG} {r:Rs aG} {w w1 w2:World} {e:Ending} (hf:cJ B ob lv L.length (ei L) w w1) (hn:s1.names=st.names) (h:aq B b nv N ub ob lv L s1 r w1 e w2):aq B b nv N ub ob lv L st r w e w2:=by
 refine⟨hf.below.trans h.1,?_⟩;have h2:=h.2;cases r with
 | error y=>exact h2
 | ok s =>
  obtain⟨k1,k2,k3,x,k4,k5,k6⟩:=h2;exact⟨k1,k2,hf.trans k3,x,by rw[k4,hn],k5,k6⟩
theorem dU {T:List Nd} {B b ub ob f bk o c lc a s:Nat} {pa la:Option Addr} {ms:List Nat} {L:List cE} {st:aG} {w:World} (loop:Int) (i:Nat) (h:eS T B b (.slice (some ⟨bk,o,none⟩) T.length c) ub ob f pa (.slice la L.length lc) ms L st w a (s+1)) (eG:bk<B) :∃W1,W1=((w.setCell ⟨ob,i,none⟩ (.int .i64 (f:Int))).alloc (.cells #[.int .i64 (f:Int),.int .i64 loop,.pointer pa,.slice la L.length lc] 92)).drew∧RowKit.Hid (eS T B b (.slice (some ⟨bk,o,none⟩) T.length c) ub ob f pa (.slice la L.length lc) ms L (st.setOf i f) W1 a (s+1))∧RowKit.Hid (cJ B ob (.slice la L.length lc) L.length (ei L) w W1)∧RowKit.Hid (cU W1 B (.slice la L.length lc) L)∧RowKit.Hid (W1.heap[w.heap.size]? = some (.cells #[.int .i64 (f:Int),.int .i64 loop,.pointer pa,.slice la L.length lc] 92 (0,0)))∧(∀j v,w.cell? ⟨bk,j,none⟩=some v→W1.cell? ⟨bk,j,none⟩=some v)∧W1.cell? ⟨b,0,none⟩=some (.slice (some ⟨bk,o,none⟩) T.length c)∧b<W1.heap.size∧w.heap.size<W1.heap.size∧bk<W1.heap.size∧W1.cell? ⟨w.heap.size,0,none⟩=some (.int .i64 (f:Int))∧W1.cell? ⟨w.heap.size,1,none⟩=some (.int .i64 loop)∧W1.cell? ⟨w.heap.size,2,none⟩=some (.pointer pa)∧W1.cell? ⟨w.heap.size,3,none⟩=some (.slice la L.length lc):=by
 have qW:=h.Za i (.cells #[.int .i64 (f:Int),.int .i64 loop,.pointer pa,.slice la L.length lc] 92);have gr:=heap_alloc_new (w.setCell ⟨ob,i,none⟩ (.int .i64 (f:Int))) (.cells #[.int .i64 (f:Int),.int .i64 loop,.pointer pa,.slice la L.length lc] 92);obtain⟨W1,hW1⟩ :∃W1,W1=((w.setCell ⟨ob,i,none⟩ (.int .i64 (f:Int))).alloc (.cells #[.int .i64 (f:Int),.int .i64 loop,.pointer pa,.slice la L.length lc] 92)).drew:=⟨_,rfl⟩;rw[←hW1] at qW;have lF:W1.heap[w.heap.size]? = some (.cells #[.int .i64 (f:Int),.int .i64 loop,.pointer pa,.slice la L.length lc] 92 (0,0)):=by
  rw[hW1];have e:(w.setCell ⟨ob,i,none⟩ (.int .i64 (f:Int))).heap.size=w.heap.size:=by simp[World.setCell]
  rw[e] at gr;exact gr
 obtain⟨_,_,hw⟩:=qW.1.rs;have hl:=(aI.1 lF).1;have hB:=h.rs;obtain⟨_,_,hv⟩:=hB;have bX:B≤w.heap.size:=by have:=h.ft.nodes;obtain⟨_,_,_,_,_,h2,_⟩:=this;omega
 exact⟨W1,hW1,aa qW.1,aa qW.2.1,aa qW.2.2,aa lF,fun j v hv=>(qW.2.1.below.cell (p:=⟨bk,j,none⟩) eG).trans hv,ab hw.blk 0,hw.mL.1,hl,by omega,ab lF 0,ab lF 1,ab lF 2,ab lF 3⟩
theorem gM {T:List Nd} {B b ub ob i f lc:Nat} {nv:Value} {h:Nd} {ks:List Lt} {loop:Int} {pa la:Option Addr} {ms:List Nat} {L:List cE} {st:aG} {w:World} (gp :∀x∈T,x.s.size≤65536∧∀s∈x.names,s.size≤65536) (hn:kj T (.mk i h ks)) (gY :∀u:Lt,u.size<Lt.al ks+1→kj T u→bA T B b nv ub ob u) (hr:eS T B b nv ub ob f pa (.slice la L.length lc) ms L st w (Lt.wt (.mk i h ks)) (Lt.size (.mk i h ks))) (bN:18≤(Lt.mk i h ks).hd.kind→loop=cB f st.frames) (b9:L≠[]∨(Lt.mk i h ks).hd.kind=18) :
  ∃(bk o c:Nat) (NA:Option Addr) (nc:Nat) (KA:Option Addr) (kc:Nat),nv=(.slice (some ⟨bk,o,none⟩) T.length c)∧bk<B∧B≤w.heap.size∧w.cell? ⟨bk,o+i*7,none⟩=some (.int .i64 h.kind)∧w.cell? ⟨bk,o+i*7+1,none⟩=some (.int .i64 h.line)∧w.cell? ⟨bk,o+i*7+2,none⟩=some (.int .i64 h.op)∧w.cell? ⟨bk,o+i*7+3,none⟩=some (.int .i64 h.num)∧w.cell? ⟨bk,o+i*7+4,none⟩=some (.string h.s)∧w.cell? ⟨bk,o+i*7+5,none⟩=some (.slice NA h.names.length nc)∧w.cell? ⟨bk,o+i*7+6,none⟩=some (.slice KA h.kids.length kc)∧h.kids.length≤20000∧i<T.length∧T.length≤20000∧b<w.heap.size∧ub<w.heap.size∧ob<w.heap.size∧w.cell? ⟨b,0,none⟩=some (.slice (some ⟨bk,o,none⟩) T.length c)∧w.cell? ⟨b,3,none⟩=some (.slice (some ⟨ob,0,none⟩) T.length T.length)∧w.cell? ⟨ob,i,none⟩=some (Qw st.of i)∧w.frozen? ⟨ob,i,none⟩=false∧bk<w.heap.size ∧
   RowKit.Hid (eS T B b (.slice (some ⟨bk,o,none⟩) T.length c) ub ob f pa (.slice la L.length lc) ms L st w (h.names.length+Lt.eY ks) (Lt.al ks+1))∧RowKit.Hid (kj T (.mk i h ks))∧RowKit.Hid (∀u:Lt,u.size<Lt.al ks+1→kj T u→bA T B b (.slice (some ⟨bk,o,none⟩) T.length c) ub ob u)∧RowKit.Hid (18≤h.kind→loop=cB f st.frames)∧RowKit.Hid (L≠[]∨h.kind=18)∧RowKit.Hid (fA T ks)∧RowKit.Hid (h.kind≠18→∀k∈ks,Still k)∧RowKit.Hid (qw h.kind h.num (oG ks))∧RowKit.Hid (h.kids=ks.map fun k=>(k.loc:Int))∧RowKit.Hid (h.kids.length=ks.length)∧RowKit.Hid (T[i]? = some h)∧RowKit.Hid (h.s.size≤65536∧∀s∈h.names,s.size≤65536)∧RowKit.Hid (h.kids=[]∨∃bk o,KA=some ⟨bk,o,none⟩∧bk<B∧∀(j:Nat) x,h.kids[j]? = some x→w.cell? ⟨bk,o+j,none⟩=some (.int .i64 x)):=by
 have sP:=hn.sub;have oa:=hn.J2;unfold Lt.In at oa;obtain⟨hx,gN,_⟩:=oa;replace hr:eS T B b nv ub ob f pa (.slice la L.length lc) ms L st w (h.names.length+Lt.eY ks) (Lt.al ks+1):=by have h1:=hr;rw[Lt.wt,Lt.size] at h1;exact h1
 replace bN:18≤h.kind→loop=cB f st.frames:=bN;replace b9:L≠[]∨h.kind=18:=b9;obtain⟨lq,lz,lA⟩:=sP;replace lq:fA T ks:=lq;replace lz:h.kind≠18→∀k∈ks,Still k:=lz;replace lA:qw h.kind h.num (oG ks):=lA;have Zb:=gp h (ba hx);obtain⟨bk,o,c,rfl,eG,bX,dG⟩:=hr.ft.nodes;obtain⟨zx,zy,fE,⟨NA,nc,vL,_⟩,⟨KA,kc,qX,Cm,Js⟩⟩:=dG i h hx;have rU:h.kids.length≤20000:=(hr.ft.small h (ba hx)).1;have o0:h.kids.length=ks.length:=by rw[gN,cN]
 subst vL qX;obtain⟨x0,x1,x2,x3,x4,x5,x6⟩:=fE;have v7:i<T.length:=(aL.1 hx).1;have pN:=hr.ft.few;obtain⟨fv,FL,hw⟩:=id hr.rs;obtain⟨hbl,mH,sV⟩:=hw.mL;have d0:w.cell? ⟨b,0,none⟩=some (.slice (some ⟨bk,o,none⟩) T.length c):=ab hw.blk 0;have d3:w.cell? ⟨b,3,none⟩=some (.slice (some ⟨ob,0,none⟩) T.length T.length):=ab hw.blk 3;obtain⟨u0,v0⟩:=cZ hw.vZ (j:=i) (by omega)
 have gT:bk<w.heap.size:=by omega
 exact⟨bk,o,c,NA,nc,KA,kc,rfl,eG,bX,x0,x1,x2,x3,x4,x5,x6,rU,v7,pN,hbl,mH,sV,d0,d3,u0,v0,gT,aa hr,aa hn,aa gY,aa bN,aa b9,aa lq,aa lz,aa lA,aa gN,aa o0,aa hx,aa Zb,aa Js⟩
theorem Ui {T:List Nd} {B b:Nat} {nv:Value} {ub ob:Nat} (gp :∀x∈T,x.s.size≤65536∧∀s∈x.names,s.size≤65536) (i:Nat) (h:Nd) (ks:List Lt) (hn:kj T (.mk i h ks)) (gY :∀u:Lt,u.size<Lt.al ks+1→kj T u→bA T B b nv ub ob u) (hk:h.kind=6):bA T B b nv ub ob (.mk i h ks):=by
 intro f loop pa la lc ms L st w hr bN b9;show Calls Tryz.prog 26 #[.pointer (some ⟨b,0,none⟩),.int .i64 (i:Int),.agg #[.int .i64 (f:Int),.int .i64 loop,.pointer pa,.slice la L.length lc]] w (aq B b nv T.length ub ob (.slice la L.length lc) L st (bg (.mk i h ks) f st) w)
 obtain⟨bk,o,c,NA,nc,KA,kc,rfl,eG,bX,x0,x1,x2,x3,x4,x5,x6,rU,v7,pN,hbl,mH,sV,d0,d3,u0,v0,gT,HR,HN,tD,iO,kD,eF,qd,ou,fH,sM,HX,zc,CY⟩:=gM gp hn gY hr bN b9;clear hr hn gY bN b9 gp;have q6:(h.kind == 6)=true:=by rw[hk];rfl
 have bJ:=aa hk;clear hk;go_enter Tryz.func26,Tryz.ntmps26
 go_wp2_with fail
 go_region
 obtain⟨W1,hW1,HZ,fj,pJ,AK,K,y0,te,oI,tf,k0,k1,k2,k3⟩:=dU loop i HR.out eG;rw[←hW1];have x0:=K _ _ x0;have x1:=K _ _ x1;have x2:=K _ _ x2;have x3:=K _ _ x3;have x4:=K _ _ x4;have x5:=K _ _ x5;have x6:=K _ _ x6;clear hW1 K d0 d3 u0 v0;have d0:=y0;clear y0;go_wp2_with fail
 obtain⟨W2,hW2⟩ :∃W2,W2=W1.alloc (.cells #[.int .i64 h.kind,.int .i64 h.line,.int .i64 h.op,.int .i64 h.num,.string h.s,.slice NA h.names.length nc,.slice KA h.kids.length kc] 55):=⟨_,rfl⟩;have cV:Below W1.heap.size W1 W2:=by rw[hW2];exact(Below.refl _ _).alloc (ah _) _
 rw[←hW2];have hr2:=HZ.out.dc cV;have hf2:cJ B ob (.slice la L.length lc) L.length (ei L) w W2:=fj.out.trans (cJ.bH cV HZ.out.world);have vS:=aa hr2;have lV:=aa hf2;refine(Oq b i f h loop pa la L.length lc (st.setOf i f) W2 hr2.ft hr2.rs HX.out hr2.cx.lt).mono ?_;intro e w3 hp;have hv:=aq.tF hr2 hp (fun s' hs'=>by
  split at hs'
  ·injection hs' with hs';rw[←hs']
  ·cases hs')
 obtain⟨v,rfl⟩:=hv.ret;have HV:=aa hv;clear hp hv hr2 hf2;go_wp2_with fail
 go_ret
 have hE:bg (.mk i h ks) f st=(if ((st.setOf i f).fn f).many then .ok (st.setOf i f) else .error (14,h.line)):=by
  rw[cK];rw[ak bJ.out]
 rw[hE];exact aq.after lV.out rfl HV.out
theorem Uj {T:List Nd} {B b:Nat} {nv:Value} {ub ob:Nat} (gp :∀x∈T,x.s.size≤65536∧∀s∈x.names,s.size≤65536) (i:Nat) (h:Nd) (ks:List Lt) (hn:kj T (.mk i h ks)) (gY :∀u:Lt,u.size<Lt.al ks+1→kj T u→bA T B b nv ub ob u) (hk:h.kind=7):bA T B b nv ub ob (.mk i h ks):=by
 intro f loop pa la lc ms L st w hr bN b9;show Calls Tryz.prog 26 #[.pointer (some ⟨b,0,none⟩),.int .i64 (i:Int),.agg #[.int .i64 (f:Int),.int .i64 loop,.pointer pa,.slice la L.length lc]] w (aq B b nv T.length ub ob (.slice la L.length lc) L st (bg (.mk i h ks) f st) w)
 obtain⟨bk,o,c,NA,nc,KA,kc,rfl,eG,bX,x0,x1,x2,x3,x4,x5,x6,rU,v7,pN,hbl,mH,sV,d0,d3,u0,v0,gT,HR,HN,tD,iO,kD,eF,qd,ou,fH,sM,HX,zc,CY⟩:=gM gp hn gY hr bN b9;clear hr hn gY bN b9 gp;have q6:(h.kind == 6)=false:=by rw[hk];rfl
 have q7:(h.kind == 7)=true:=by rw[hk];rfl
 have bJ:=aa hk;clear hk;go_enter Tryz.func26,Tryz.ntmps26
 go_wp2_with fail
 go_region
 obtain⟨W1,hW1,HZ,fj,pJ,AK,K,y0,te,oI,tf,k0,k1,k2,k3⟩:=dU loop i HR.out eG;rw[←hW1];have x0:=K _ _ x0;have x1:=K _ _ x1;have x2:=K _ _ x2;have x3:=K _ _ x3;have x4:=K _ _ x4;have x5:=K _ _ x5;have x6:=K _ _ x6;clear hW1 K d0 d3 u0 v0;have d0:=y0;clear y0;go_wp2_with fail
 obtain⟨W2,hW2⟩ :∃W2,W2=W1.alloc (.cells #[.int .i64 h.kind,.int .i64 h.line,.int .i64 h.op,.int .i64 h.num,.string h.s,.slice NA h.names.length nc,.slice KA h.kids.length kc] 55):=⟨_,rfl⟩;have cV:Below W1.heap.size W1 W2:=by rw[hW2];exact(Below.refl _ _).alloc (ah _) _
 rw[←hW2];have hr2:=HZ.out.dc cV;have hf2:cJ B ob (.slice la L.length lc) L.length (ei L) w W2:=fj.out.trans (cJ.bH cV HZ.out.world);have vS:=aa hr2;have lV:=aa hf2;refine(OQ b i f h loop pa la lc L (st.setOf i f) W2 hr2.ft hr2.rs HX.out hr2.pos.fk hr2.pos.names hr2.cx hr2.few (by have:=hr2.fns;omega) (by have:=hr2.fk;omega) (by have:=zc.out.1;unfold maxLen;omega)).mono ?_
 intro e w3 hp;have hv:=aq.tF hr2 hp (fun s' hs'=>(yT hs').2)
 obtain⟨v,rfl⟩:=hv.ret;have HV:=aa hv;clear hp hv hr2 hf2;go_wp2_with fail
 go_ret
 have hE:bg (.mk i h ks) f st=lY i f h.s h.line (st.setOf i f):=by
  rw[cK];rw[af (by have:=bJ.out;omega)]
  rw[ak bJ.out]
 rw[hE];exact aq.after lV.out rfl HV.out
theorem Pt {T:List Nd} {B b:Nat} {nv:Value} {ub ob:Nat} (gp :∀x∈T,x.s.size≤65536∧∀s∈x.names,s.size≤65536) (i:Nat) (h:Nd) (ks:List Lt) (hn:kj T (.mk i h ks)) (gY :∀u:Lt,u.size<Lt.al ks+1→kj T u→bA T B b nv ub ob u) (hk:h.kind=30):bA T B b nv ub ob (.mk i h ks):=by
 intro f loop pa la lc ms L st w hr bN b9;show Calls Tryz.prog 26 #[.pointer (some ⟨b,0,none⟩),.int .i64 (i:Int),.agg #[.int .i64 (f:Int),.int .i64 loop,.pointer pa,.slice la L.length lc]] w (aq B b nv T.length ub ob (.slice la L.length lc) L st (bg (.mk i h ks) f st) w)
 obtain⟨bk,o,c,NA,nc,KA,kc,rfl,eG,bX,x0,x1,x2,x3,x4,x5,x6,rU,v7,pN,hbl,mH,sV,d0,d3,u0,v0,gT,HR,HN,tD,iO,kD,eF,qd,ou,fH,sM,HX,zc,CY⟩:=gM gp hn gY hr bN b9;clear hr hn gY bN b9 gp;have q6:(h.kind == 6)=false:=by rw[hk];rfl
 have q7:(h.kind == 7)=false:=by rw[hk];rfl
 have yH:(h.kind == 11)=false:=by rw[hk];rfl
 have zv:(h.kind == 18)=false:=by rw[hk];rfl
 have VK:(h.kind == 23)=false:=by rw[hk];rfl
 have Zc:(h.kind == 26)=false:=by rw[hk];rfl
 have q27:(h.kind == 27)=false:=by rw[hk];rfl
 have q24:(h.kind == 24)=false:=by rw[hk];rfl
 have q30:(h.kind == 30)=true:=by rw[hk];rfl
 have bJ:=aa hk;clear hk;go_enter Tryz.func26,Tryz.ntmps26
 go_wp2_with fail
 go_region
 obtain⟨W1,hW1,HZ,fj,pJ,AK,K,y0,te,oI,tf,k0,k1,k2,k3⟩:=dU loop i HR.out eG;rw[←hW1];have x0:=K _ _ x0;have x1:=K _ _ x1;have x2:=K _ _ x2;have x3:=K _ _ x3;have x4:=K _ _ x4;have x5:=K _ _ x5;have x6:=K _ _ x6;clear hW1 K d0 d3 u0 v0;have d0:=y0;clear y0;go_wp2_with fail
 obtain⟨W2,hW2⟩ :∃W2,W2=W1.alloc (.cells #[.int .i64 h.kind,.int .i64 h.line,.int .i64 h.op,.int .i64 h.num,.string h.s,.slice NA h.names.length nc,.slice KA h.kids.length kc] 55):=⟨_,rfl⟩;have cV:Below W1.heap.size W1 W2:=by rw[hW2];exact(Below.refl _ _).alloc (ah _) _
 rw[←hW2];have hr2:=HZ.out.dc cV;have hf2:cJ B ob (.slice la L.length lc) L.length (ei L) w W2:=fj.out.trans (cJ.bH cV HZ.out.world);have vS:=aa hr2;have lV:=aa hf2;refine(Bu b i f h loop pa la L.length lc (st.setOf i f) W2 hr2.ft hr2.rs HX.out (iO.out (by have:=bJ.out;omega))).mono ?_
 intro e w3 hp;have hv:=aq.tF hr2 hp (fun s' hs'=>(rL hs').2)
 obtain⟨v,rfl⟩:=hv.ret;have HV:=aa hv;clear hp hv hr2 hf2;go_wp2_with fail
 go_ret
 have hE:bg (.mk i h ks) f st=dT i f h.line (st.setOf i f):=by
  rw[cK];rw[af (by have:=bJ.out;omega)]
  rw[af (by have:=bJ.out;omega)]
  rw[af (by have:=bJ.out;omega)]
  rw[af (by have:=bJ.out;omega)]
  rw[af (by have:=bJ.out;omega)]
  rw[af (by have:=bJ.out;omega)]
  rw[af (by have:=bJ.out;omega)]
  rw[af (by have:=bJ.out;omega)]
  rw[af (by have:=bJ.out;omega)]
  rw[ak bJ.out]
 rw[hE];exact aq.after lV.out rfl HV.out
theorem Pu {T:List Nd} {B b:Nat} {nv:Value} {ub ob:Nat} (gp :∀x∈T,x.s.size≤65536∧∀s∈x.names,s.size≤65536) (i:Nat) (h:Nd) (ks:List Lt) (hn:kj T (.mk i h ks)) (gY :∀u:Lt,u.size<Lt.al ks+1→kj T u→bA T B b nv ub ob u) (hk:h.kind=31):bA T B b nv ub ob (.mk i h ks):=by
 intro f loop pa la lc ms L st w hr bN b9;show Calls Tryz.prog 26 #[.pointer (some ⟨b,0,none⟩),.int .i64 (i:Int),.agg #[.int .i64 (f:Int),.int .i64 loop,.pointer pa,.slice la L.length lc]] w (aq B b nv T.length ub ob (.slice la L.length lc) L st (bg (.mk i h ks) f st) w)
 obtain⟨bk,o,c,NA,nc,KA,kc,rfl,eG,bX,x0,x1,x2,x3,x4,x5,x6,rU,v7,pN,hbl,mH,sV,d0,d3,u0,v0,gT,HR,HN,tD,iO,kD,eF,qd,ou,fH,sM,HX,zc,CY⟩:=gM gp hn gY hr bN b9;clear hr hn gY bN b9 gp;have q6:(h.kind == 6)=false:=by rw[hk];rfl
 have q7:(h.kind == 7)=false:=by rw[hk];rfl
 have yH:(h.kind == 11)=false:=by rw[hk];rfl
 have zv:(h.kind == 18)=false:=by rw[hk];rfl
 have VK:(h.kind == 23)=false:=by rw[hk];rfl
 have Zc:(h.kind == 26)=false:=by rw[hk];rfl
 have q27:(h.kind == 27)=false:=by rw[hk];rfl
 have q24:(h.kind == 24)=false:=by rw[hk];rfl
 have q30:(h.kind == 30)=false:=by rw[hk];rfl
 have q31:(h.kind == 31)=true:=by rw[hk];rfl
 have bJ:=aa hk;clear hk;go_enter Tryz.func26,Tryz.ntmps26
 go_wp2_with fail
 go_region
 obtain⟨W1,hW1,HZ,fj,pJ,AK,K,y0,te,oI,tf,k0,k1,k2,k3⟩:=dU loop i HR.out eG;rw[←hW1];have x0:=K _ _ x0;have x1:=K _ _ x1;have x2:=K _ _ x2;have x3:=K _ _ x3;have x4:=K _ _ x4;have x5:=K _ _ x5;have x6:=K _ _ x6;clear hW1 K d0 d3 u0 v0;have d0:=y0;clear y0;go_wp2_with fail
 obtain⟨W2,hW2⟩ :∃W2,W2=W1.alloc (.cells #[.int .i64 h.kind,.int .i64 h.line,.int .i64 h.op,.int .i64 h.num,.string h.s,.slice NA h.names.length nc,.slice KA h.kids.length kc] 55):=⟨_,rfl⟩;have cV:Below W1.heap.size W1 W2:=by rw[hW2];exact(Below.refl _ _).alloc (ah _) _
 rw[←hW2];have hr2:=HZ.out.dc cV;have hf2:cJ B ob (.slice la L.length lc) L.length (ei L) w W2:=fj.out.trans (cJ.bH cV HZ.out.world);have vS:=aa hr2;have lV:=aa hf2;refine(OT b i f h loop pa la lc L.length ms (st.setOf i f) W2 hr2.ft hr2.rs HX.out hr2.pos.blk (by have:=zc.out.1;unfold maxLen;omega)).mono ?_
 intro e w3 hp;have hv:=aq.tF hr2 hp (fun s' hs'=>(rM _ hs').2)
 obtain⟨v,rfl⟩:=hv.ret;have HV:=aa hv;clear hp hv hr2 hf2;go_wp2_with fail
 go_ret
 have hE:bg (.mk i h ks) f st=db i f h.s h.line (st.setOf i f) (st.setOf i f).frames:=by
  rw[cK];rw[af (by have:=bJ.out;omega)]
  rw[af (by have:=bJ.out;omega)]
  rw[af (by have:=bJ.out;omega)]
  rw[af (by have:=bJ.out;omega)]
  rw[af (by have:=bJ.out;omega)]
  rw[af (by have:=bJ.out;omega)]
  rw[af (by have:=bJ.out;omega)]
  rw[af (by have:=bJ.out;omega)]
  rw[af (by have:=bJ.out;omega)]
  rw[af (by have:=bJ.out;omega)]
  rw[ak bJ.out]
 rw[hE];exact aq.after lV.out rfl HV.out
theorem eU :∀{ks:List Lt} {k:Lt},k∈ks→k.size≤Lt.al ks
 | x::ks,k,h=>by
  rw[Lt.al];rcases bn.1 h with rfl|h
  ·omega
  ·have:=eU h;omega
theorem Pv {k n:Int} {kk:List Int} (h:qw k n kk) (h1:1≤k) (h2:k<18) (h3:k≠11) :∀a∈kk,a<18:=by
 intro a ha;by_cases c1:k=1∨k=2∨k=3∨k=4∨k=5∨k=6∨k=7∨k=30∨k=31∨k=32
 ·rw[h.none c1] at ha;cases ha
 by_cases c2:k=8∨k=12∨k=17
 ·obtain⟨x,y,e,hx,hy⟩:=h.two c2
  unfold tA at hx hy;rw[e] at ha;simp only[bn,oM,oP] at ha;rcases ha with rfl|rfl<;>omega
 by_cases c3:k=9∨k=10
 ·have:=(h.call c3).2 a ha
  unfold tA at this;omega
 by_cases c5:k=13∨k=14∨k=16
 ·obtain⟨x,e,hx⟩:=h.one c5
  unfold tA at hx;rw[e,bP] at ha;omega
 by_cases c6:k=15
 ·have:=h.items c6 a ha
  omega
 omega
theorem Jt (st:aG) (i f:Nat):(st.setOf i f).setOf i f=st.setOf i f:=by
 unfold aG.setOf;simp only[aG.mk.injEq,true_and,and_true];funext j
 by_cases e:j=i
 ·simp[e]
 ·simp[e]
theorem aq.Uk {B b:Nat} {nv:Value} {N ub ob:Nat} {lv:Value} {L:List cE} {st st':aG} {r:Rs aG} {w w2:World} {e:Ending} (h:aq B b nv N ub ob lv L st r w e w2) (hn:st'.names=st.names) (hr :∀s,r=.ok s→s.names=st.names):aq B b nv N ub ob lv L st' (r.map fun s=>s.back st') w e w2:=by
 cases r with
 | error y=>exact h.same hn rfl
 | ok s=>exact h.same hn ⟨rfl,rfl,rfl,hn.trans (hr s rfl).symm⟩
theorem Ju {T:List Nd} {B b:Nat} {nv:Value} {ub ob:Nat} (i f:Nat) (h:Nd) (ks:List Lt) (loop:Int) (pa la:Option Addr) (lc:Nat) (ms:List Nat) (L:List cE) (hL:L≠[]) (st:aG) (w:World) (hr:eS T B b nv ub ob f pa (.slice la L.length lc) ms L st w (h.names.length+Lt.eY ks) (Lt.al ks)) (hx:T[i]? = some h) (hk:h.kids=ks.map fun k=>(k.loc:Int)) (hn:fA T ks) (hV :∀k∈ks,bA T B b nv ub ob k)
  (hl :∀k∈ks,18≤k.hd.kind→loop=cB f st.frames) (hsz :∀s∈h.names,s.size≤65536) (hd:gH h.kind h.kids.length=(true,(h.kids.length:Int),false)) :
  Calls Tryz.prog 55 #[.pointer (some ⟨b,0,none⟩),.int .i64 (i:Int),.agg #[.int .i64 (f:Int),.int .i64 loop,.pointer pa,.slice la L.length lc]] w (aq B b nv T.length ub ob (.slice la L.length lc) L st ((aH ks f st).bind fun s1=>bw i f h.line h.names s1) w):=by
 cases L with
 | nil=>exact absurd rfl hL
 | cons l r=>exact Pj i f h ks loop pa la lc ms l r st w hr hx hk hn hV hl hsz hd
theorem Jv {T:List Nd} {B b:Nat} {nv:Value} {ub ob:Nat} (i f:Nat) (h:Nd) (ks:List Lt) (loop:Int) (pa la:Option Addr) (lc:Nat) (ms:List Nat) (L:List cE) (hL:L≠[]) (st:aG) (w:World) (hr:eS T B b nv ub ob f pa (.slice la L.length lc) ms L st w (h.names.length+Lt.eY ks) (Lt.al ks)) (hx:T[i]? = some h) (hk:h.kids=ks.map fun k=>(k.loc:Int)) (hn:fA T ks) (hV :∀k∈ks,bA T B b nv ub ob k)
  (hl :∀k∈ks,18≤k.hd.kind→loop=cB f st.frames) (hsz :∀s∈h.names,s.size≤65536) (hd:gH h.kind h.kids.length=(true,0,false)) :
  Calls Tryz.prog 55 #[.pointer (some ⟨b,0,none⟩),.int .i64 (i:Int),.agg #[.int .i64 (f:Int),.int .i64 loop,.pointer pa,.slice la L.length lc]] w (aq B b nv T.length ub ob (.slice la L.length lc) L st ((bw i f h.line h.names st).bind fun s1=>aH ks f s1) w):=by
 cases L with
 | nil=>exact absurd rfl hL
 | cons l r=>exact Pl i f h ks loop pa la lc ms l r st w hr hx hk hn hV hl hsz hd
theorem DW {T:List Nd} {B b:Nat} {nv:Value} {ub ob:Nat} (gp :∀x∈T,x.s.size≤65536∧∀s∈x.names,s.size≤65536) (i:Nat) (h:Nd) (ks:List Lt) (hn:kj T (.mk i h ks)) (gY :∀u:Lt,u.size<Lt.al ks+1→kj T u→bA T B b nv ub ob u) (hk:h.kind≠6∧h.kind≠7∧h.kind≠11∧h.kind≠18∧h.kind≠19∧h.kind≠23∧h.kind≠24∧h.kind≠26∧h.kind≠27∧h.kind≠28∧h.kind≠30∧h.kind≠31):bA T B b nv ub ob (.mk i h ks):=by
 intro f loop pa la lc ms L st w hr bN b9;show Calls Tryz.prog 26 #[.pointer (some ⟨b,0,none⟩),.int .i64 (i:Int),.agg #[.int .i64 (f:Int),.int .i64 loop,.pointer pa,.slice la L.length lc]] w (aq B b nv T.length ub ob (.slice la L.length lc) L st (bg (.mk i h ks) f st) w)
 obtain⟨bk,o,c,NA,nc,KA,kc,rfl,eG,bX,x0,x1,x2,x3,x4,x5,x6,rU,v7,pN,hbl,mH,sV,d0,d3,u0,v0,gT,HR,HN,tD,iO,kD,eF,qd,ou,fH,sM,HX,zc,CY⟩:=gM gp hn gY hr bN b9;clear hr hn gY bN b9 gp;have q6:(h.kind == 6)=false:=aE.2 (by omega)
 have q7:(h.kind == 7)=false:=aE.2 (by omega)
 have yH:(h.kind == 11)=false:=aE.2 (by omega)
 have zv:(h.kind == 18)=false:=aE.2 (by omega)
 have VK:(h.kind == 23)=false:=aE.2 (by omega)
 have Zc:(h.kind == 26)=false:=aE.2 (by omega)
 have q27:(h.kind == 27)=false:=aE.2 (by omega)
 have q24:(h.kind == 24)=false:=aE.2 (by omega)
 have q30:(h.kind == 30)=false:=aE.2 (by omega)
 have q31:(h.kind == 31)=false:=aE.2 (by omega)
 have bJ:=aa hk;clear hk;go_enter Tryz.func26,Tryz.ntmps26
 go_wp2_with fail
 go_region
 obtain⟨W1,hW1,HZ,fj,pJ,AK,K,y0,te,oI,tf,k0,k1,k2,k3⟩:=dU loop i HR.out eG;rw[←hW1];have x0:=K _ _ x0;have x1:=K _ _ x1;have x2:=K _ _ x2;have x3:=K _ _ x3;have x4:=K _ _ x4;have x5:=K _ _ x5;have x6:=K _ _ x6;clear hW1 K d0 d3 u0 v0;have d0:=y0;clear y0;go_wp2_with fail
 obtain⟨W2,hW2⟩ :∃W2,W2=W1.alloc (.cells #[.int .i64 h.kind,.int .i64 h.line,.int .i64 h.op,.int .i64 h.num,.string h.s,.slice NA h.names.length nc,.slice KA h.kids.length kc] 55):=⟨_,rfl⟩;have cV:Below W1.heap.size W1 W2:=by rw[hW2];exact(Below.refl _ _).alloc (ah _) _
 rw[←hW2];have hr2:=HZ.out.dc cV;have hf2:cJ B ob (.slice la L.length lc) L.length (ei L) w W2:=fj.out.trans (cJ.bH cV HZ.out.world);have th :∀k∈ks,bA T B b (.slice (some ⟨bk,o,none⟩) T.length c) ub ob k:=fun k hk=>tD.out k (by have:=eU hk;omega) (eF.out.at_ k hk)
 refine(FU i f h ks loop pa la lc ms L (st.setOf i f) W2 (hr2.mono (wB _ _) (fY _)) HX.out fH.out eF.out th (fun k hk mo=>by
  by_cases e:18≤h.kind
  ·exact iO.out e
  ·have:=Pv ou.out HN.out.kind.1 (by show h.kind<18;omega) (by have:=bJ.out;omega) _ (jV hk)
   omega) (fun k _=>.inl (kD.out.resolve_right (by have:=bJ.out;omega))) (by
  unfold gH;rw[af (by have:=bJ.out;omega),af (by have:=bJ.out;omega),af (by have:=bJ.out;omega),af (by have:=bJ.out;omega)])).mono ?_
 intro e w3 hp;obtain⟨v,rfl⟩:=hp.ret;have HV:=aa hp;have lV:=aa hf2;clear hp hr2 hf2 th;go_wp2_with fail
 go_ret
 have hE:bg (.mk i h ks) f st=aH ks f (st.setOf i f):=by
  rw[cK];rw[af (by have:=bJ.out;omega)]
  rw[af (by have:=bJ.out;omega)]
  rw[af (by have:=bJ.out;omega)]
  rw[af (by have:=bJ.out;omega)]
  rw[af (by have:=bJ.out;omega)]
  rw[af (by have:=bJ.out;omega)]
  rw[af (by have:=bJ.out;omega)]
  rw[af (by have:=bJ.out;omega)]
  rw[af (by have:=bJ.out;omega)]
  rw[af (by have:=bJ.out;omega)]
  rw[af (by have:=bJ.out;omega)]
 rw[hE];exact aq.after lV.out rfl HV.out
theorem Pw {T:List Nd} {B b:Nat} {nv:Value} {ub ob:Nat} (gp :∀x∈T,x.s.size≤65536∧∀s∈x.names,s.size≤65536) (i:Nat) (h:Nd) (ks:List Lt) (hn:kj T (.mk i h ks)) (gY :∀u:Lt,u.size<Lt.al ks+1→kj T u→bA T B b nv ub ob u) (hk:h.kind=19):bA T B b nv ub ob (.mk i h ks):=by
 intro f loop pa la lc ms L st w hr bN b9;show Calls Tryz.prog 26 #[.pointer (some ⟨b,0,none⟩),.int .i64 (i:Int),.agg #[.int .i64 (f:Int),.int .i64 loop,.pointer pa,.slice la L.length lc]] w (aq B b nv T.length ub ob (.slice la L.length lc) L st (bg (.mk i h ks) f st) w)
 obtain⟨bk,o,c,NA,nc,KA,kc,rfl,eG,bX,x0,x1,x2,x3,x4,x5,x6,rU,v7,pN,hbl,mH,sV,d0,d3,u0,v0,gT,HR,HN,tD,iO,kD,eF,qd,ou,fH,sM,HX,zc,CY⟩:=gM gp hn gY hr bN b9;clear hr hn gY bN b9 gp;have q6:(h.kind == 6)=false:=aE.2 (by omega)
 have q7:(h.kind == 7)=false:=aE.2 (by omega)
 have yH:(h.kind == 11)=false:=aE.2 (by omega)
 have zv:(h.kind == 18)=false:=aE.2 (by omega)
 have VK:(h.kind == 23)=false:=aE.2 (by omega)
 have Zc:(h.kind == 26)=false:=aE.2 (by omega)
 have q27:(h.kind == 27)=false:=aE.2 (by omega)
 have q24:(h.kind == 24)=false:=aE.2 (by omega)
 have q30:(h.kind == 30)=false:=aE.2 (by omega)
 have q31:(h.kind == 31)=false:=aE.2 (by omega)
 have bJ:=aa hk;clear hk;go_enter Tryz.func26,Tryz.ntmps26
 go_wp2_with fail
 go_region
 obtain⟨W1,hW1,HZ,fj,pJ,AK,K,y0,te,oI,tf,k0,k1,k2,k3⟩:=dU loop i HR.out eG;rw[←hW1];have x0:=K _ _ x0;have x1:=K _ _ x1;have x2:=K _ _ x2;have x3:=K _ _ x3;have x4:=K _ _ x4;have x5:=K _ _ x5;have x6:=K _ _ x6;clear hW1 K d0 d3 u0 v0;have d0:=y0;clear y0;go_wp2_with fail
 obtain⟨W2,hW2⟩ :∃W2,W2=W1.alloc (.cells #[.int .i64 h.kind,.int .i64 h.line,.int .i64 h.op,.int .i64 h.num,.string h.s,.slice NA h.names.length nc,.slice KA h.kids.length kc] 55):=⟨_,rfl⟩;have cV:Below W1.heap.size W1 W2:=by rw[hW2];exact(Below.refl _ _).alloc (ah _) _
 rw[←hW2];have hr2:=HZ.out.dc cV;have hf2:cJ B ob (.slice la L.length lc) L.length (ei L) w W2:=fj.out.trans (cJ.bH cV HZ.out.world);have th :∀k∈ks,bA T B b (.slice (some ⟨bk,o,none⟩) T.length c) ub ob k:=fun k hk=>tD.out k (by have:=eU hk;omega) (eF.out.at_ k hk)
 refine(Ju i f h ks loop pa la lc ms L (kD.out.resolve_right (by have:=bJ.out;omega)) (st.setOf i f) W2 (hr2.mono (ah _) (fY _)) HX.out fH.out eF.out th (fun k hk mo=>iO.out (by have:=bJ.out;omega)) zc.out.2 (by
  unfold gH;rw[af (by have:=bJ.out;omega),af (by have:=bJ.out;omega),af (by have:=bJ.out;omega),ak bJ.out])).mono ?_
 intro e w3 hp;obtain⟨v,rfl⟩:=hp.ret;have HV:=aa hp;have lV:=aa hf2;clear hp hr2 hf2 th;go_wp2_with fail
 go_ret
 have hE:bg (.mk i h ks) f st=((aH ks f (st.setOf i f)).bind fun s1=>bw i f h.line h.names s1):=by
  rw[cK];rw[af (by have:=bJ.out;omega)]
  rw[af (by have:=bJ.out;omega)]
  rw[af (by have:=bJ.out;omega)]
  rw[af (by have:=bJ.out;omega)]
  rw[ak bJ.out]
 rw[hE];exact aq.after lV.out rfl HV.out
theorem Px {T:List Nd} {B b:Nat} {nv:Value} {ub ob:Nat} (gp :∀x∈T,x.s.size≤65536∧∀s∈x.names,s.size≤65536) (i:Nat) (h:Nd) (ks:List Lt) (hn:kj T (.mk i h ks)) (gY :∀u:Lt,u.size<Lt.al ks+1→kj T u→bA T B b nv ub ob u) (hk:h.kind=28):bA T B b nv ub ob (.mk i h ks):=by
 intro f loop pa la lc ms L st w hr bN b9;show Calls Tryz.prog 26 #[.pointer (some ⟨b,0,none⟩),.int .i64 (i:Int),.agg #[.int .i64 (f:Int),.int .i64 loop,.pointer pa,.slice la L.length lc]] w (aq B b nv T.length ub ob (.slice la L.length lc) L st (bg (.mk i h ks) f st) w)
 obtain⟨bk,o,c,NA,nc,KA,kc,rfl,eG,bX,x0,x1,x2,x3,x4,x5,x6,rU,v7,pN,hbl,mH,sV,d0,d3,u0,v0,gT,HR,HN,tD,iO,kD,eF,qd,ou,fH,sM,HX,zc,CY⟩:=gM gp hn gY hr bN b9;clear hr hn gY bN b9 gp;have q6:(h.kind == 6)=false:=aE.2 (by omega)
 have q7:(h.kind == 7)=false:=aE.2 (by omega)
 have yH:(h.kind == 11)=false:=aE.2 (by omega)
 have zv:(h.kind == 18)=false:=aE.2 (by omega)
 have VK:(h.kind == 23)=false:=aE.2 (by omega)
 have Zc:(h.kind == 26)=false:=aE.2 (by omega)
 have q27:(h.kind == 27)=false:=aE.2 (by omega)
 have q24:(h.kind == 24)=false:=aE.2 (by omega)
 have q30:(h.kind == 30)=false:=aE.2 (by omega)
 have q31:(h.kind == 31)=false:=aE.2 (by omega)
 have bJ:=aa hk;clear hk;go_enter Tryz.func26,Tryz.ntmps26
 go_wp2_with fail
 go_region
 obtain⟨W1,hW1,HZ,fj,pJ,AK,K,y0,te,oI,tf,k0,k1,k2,k3⟩:=dU loop i HR.out eG;rw[←hW1];have x0:=K _ _ x0;have x1:=K _ _ x1;have x2:=K _ _ x2;have x3:=K _ _ x3;have x4:=K _ _ x4;have x5:=K _ _ x5;have x6:=K _ _ x6;clear hW1 K d0 d3 u0 v0;have d0:=y0;clear y0;go_wp2_with fail
 obtain⟨W2,hW2⟩ :∃W2,W2=W1.alloc (.cells #[.int .i64 h.kind,.int .i64 h.line,.int .i64 h.op,.int .i64 h.num,.string h.s,.slice NA h.names.length nc,.slice KA h.kids.length kc] 55):=⟨_,rfl⟩;have cV:Below W1.heap.size W1 W2:=by rw[hW2];exact(Below.refl _ _).alloc (ah _) _
 rw[←hW2];have hr2:=HZ.out.dc cV;have hf2:cJ B ob (.slice la L.length lc) L.length (ei L) w W2:=fj.out.trans (cJ.bH cV HZ.out.world);have th :∀k∈ks,bA T B b (.slice (some ⟨bk,o,none⟩) T.length c) ub ob k:=fun k hk=>tD.out k (by have:=eU hk;omega) (eF.out.at_ k hk)
 refine(Jv i f h ks loop pa la lc ms L (kD.out.resolve_right (by have:=bJ.out;omega)) (st.setOf i f) W2 (hr2.mono (ah _) (fY _)) HX.out fH.out eF.out th (fun k hk mo=>iO.out (by have:=bJ.out;omega)) zc.out.2 (by
  unfold gH;rw[af (by have:=bJ.out;omega),af (by have:=bJ.out;omega),ak bJ.out])).mono ?_
 intro e w3 hp;obtain⟨v,rfl⟩:=hp.ret;have HV:=aa hp;have lV:=aa hf2;clear hp hr2 hf2 th;go_wp2_with fail
 go_ret
 have hE:bg (.mk i h ks) f st=((bw i f h.line h.names (st.setOf i f)).bind fun s1=>aH ks f s1):=by
  rw[cK];rw[af (by have:=bJ.out;omega)]
  rw[af (by have:=bJ.out;omega)]
  rw[af (by have:=bJ.out;omega)]
  rw[af (by have:=bJ.out;omega)]
  rw[af (by have:=bJ.out;omega)]
  rw[af (by have:=bJ.out;omega)]
  rw[af (by have:=bJ.out;omega)]
  rw[af (by have:=bJ.out;omega)]
  rw[ak bJ.out]
 rw[hE];exact aq.after lV.out rfl HV.out
theorem eS.VL {T:List Nd} {B b:Nat} {nv:Value} {ub ob f:Nat} {pa:Option Addr} {lv:Value} {ms:List Nat} {L:List cE} {st:aG} {w:World} {a s a' s':Nat} (h:eS T B b nv ub ob f pa lv ms L st w a s) (h1:a'≤a) (h2:s'+1≤s):zb T B b nv ub ob f pa lv ms L st w a' s' :=
 ⟨h.ft,h.rs,h.pos,h.cx,h.few,h.fr,by have:=h.names;omega,by have:=h.fns;omega,by have:=h.fk;omega⟩
theorem Py {T:List Nd} {B b:Nat} {nv:Value} {ub ob:Nat} (gp :∀x∈T,x.s.size≤65536∧∀s∈x.names,s.size≤65536) (i:Nat) (h:Nd) (ks:List Lt) (hn:kj T (.mk i h ks)) (gY :∀u:Lt,u.size<Lt.al ks+1→kj T u→bA T B b nv ub ob u) (hk:h.kind=18):bA T B b nv ub ob (.mk i h ks):=by
 intro f loop pa la lc ms L st w hr bN b9;show Calls Tryz.prog 26 #[.pointer (some ⟨b,0,none⟩),.int .i64 (i:Int),.agg #[.int .i64 (f:Int),.int .i64 loop,.pointer pa,.slice la L.length lc]] w (aq B b nv T.length ub ob (.slice la L.length lc) L st (bg (.mk i h ks) f st) w)
 have sP:=hn.sub;have oa:=hn.J2;unfold Lt.In at oa;obtain⟨hx,gN,_⟩:=oa;replace hr:eS T B b nv ub ob f pa (.slice la L.length lc) ms L st w (h.names.length+Lt.eY ks) (Lt.al ks+1):=by have h1:=hr;rw[Lt.wt,Lt.size] at h1;exact h1
 replace bN:18≤h.kind→loop=cB f st.frames:=bN;replace b9:L≠[]∨h.kind=18:=b9;obtain⟨lq,lz,lA⟩:=sP;replace lq:fA T ks:=lq;replace lz:h.kind≠18→∀k∈ks,Still k:=lz;replace lA:qw h.kind h.num (oG ks):=lA;have Zb:=gp h (ba hx);obtain⟨bk,o,c,rfl,eG,bX,dG⟩:=hr.ft.nodes;obtain⟨zx,zy,fE,⟨NA,nc,vL,_⟩,⟨KA,kc,qX,Cm,Js⟩⟩:=dG i h hx;have rU:h.kids.length≤20000:=(hr.ft.small h (ba hx)).1;have o0:h.kids.length=ks.length:=by rw[gN,cN]
 subst vL qX;obtain⟨x0,x1,x2,x3,x4,x5,x6⟩:=fE;have v7:i<T.length:=(aL.1 hx).1;have pN:=hr.ft.few;obtain⟨fv,FL,hw⟩:=id hr.rs;obtain⟨hbl,mH,sV⟩:=hw.mL;have d0:w.cell? ⟨b,0,none⟩=some (.slice (some ⟨bk,o,none⟩) T.length c):=ab hw.blk 0;have d3:w.cell? ⟨b,3,none⟩=some (.slice (some ⟨ob,0,none⟩) T.length T.length):=ab hw.blk 3;obtain⟨u0,v0⟩:=cZ hw.vZ (j:=i) (by omega)
 have gT:bk<w.heap.size:=by omega
 have qE:=aa gp;have HR:=aa hr;have HN:=aa hn;have tD:=aa gY;have iO:=aa bN;have kD:=aa b9;have eF:=aa lq;have qd:=aa lz;have ou:=aa lA;have fH:=aa gN;have sM:=aa o0;have HX:=aa hx;have zc:=aa Zb;have CY:=aa Js;clear hr hn gY bN b9 lq lz lA gN o0 hx Zb dG hw gp Js;have q6:(h.kind == 6)=false:=by rw[hk];rfl
 have q7:(h.kind == 7)=false:=by rw[hk];rfl
 have yH:(h.kind == 11)=false:=by rw[hk];rfl
 have zv:(h.kind == 18)=true:=by rw[hk];rfl
 have bJ:=aa hk;clear hk;go_enter Tryz.func26,Tryz.ntmps26
 go_wp2_with fail
 go_region
 obtain⟨W1,hW1,HZ,fj,pJ,AK,K,y0,te,oI,tf,k0,k1,k2,k3⟩:=dU loop i HR.out eG;rw[←hW1];have x0:=K _ _ x0;have x1:=K _ _ x1;have x2:=K _ _ x2;have x3:=K _ _ x3;have x4:=K _ _ x4;have x5:=K _ _ x5;have x6:=K _ _ x6;clear hW1 K d0 d3 u0 v0;have d0:=y0;clear y0;go_wp2_with fail
 obtain⟨W2,hW2⟩ :∃W2,W2=W1.alloc (.cells #[.int .i64 h.kind,.int .i64 h.line,.int .i64 h.op,.int .i64 h.num,.string h.s,.slice NA h.names.length nc,.slice KA h.kids.length kc] 55):=⟨_,rfl⟩;have cV:Below W1.heap.size W1 W2:=by rw[hW2];exact(Below.refl _ _).alloc (ah _) _
 rw[←hW2];have hr2:=HZ.out.dc cV;have hf2:cJ B ob (.slice la L.length lc) L.length (ei L) w W2:=fj.out.trans (cJ.bH cV HZ.out.world);have th :∀k∈ks,bA T B b (.slice (some ⟨bk,o,none⟩) T.length c) ub ob k:=fun k hk=>tD.out k (by have:=eU hk;omega) (eF.out.at_ k hk)
 refine(xN i f h ks [] false loop pa la lc ms L (st.setOf i f) W2 (.slice none 0 0) (hr2.VL (wB _ _) (by show Lt.al ks+0+1≤_;omega)) HX.out fH.out eF.out ⟨by unfold Lt.uP;trivial,by unfold Lt.iB;trivial,by unfold Lt.yQ;trivial,by unfold Lt.bs;exact Eh,fun k hk=>by cases hk⟩ th (fun k hk=>by cases hk) ⟨none,0,rfl,ah _,.inl rfl⟩ rfl (fun k hk mo=>iO.out (by have:=bJ.out;omega)) (fun k hk=>by cases hk) (fun x hx=>(qE.out x.hd (ba (uZ eF.out.J2 (List.getElem?_of_mem hx).choose_spec).2)).1) (by simp)).mono ?_
 intro e w3 hp;obtain⟨v,rfl⟩:=hp.ret;have HV:=aa hp;have lV:=aa hf2;clear hp hr2 hf2 th;go_wp2_with fail
 go_ret
 have hE:bg (.mk i h ks) f st=(wg i f false ks [] (st.setOf i f)).map fun s=>s.back (st.setOf i f):=by
  rw[cK];rw[af (by have:=bJ.out;omega)]
  rw[af (by have:=bJ.out;omega)]
  rw[af (by have:=bJ.out;omega)]
  rw[ak bJ.out];unfold wg;rw[Jt];cases gX i f false ks (st.setOf i f) with
  | error y=>rfl
  | ok s1 =>
   show(cM ks 0 f s1).map _=((cM ks 0 f s1).bind fun s2=>aH [] f s2).map _
   cases cM ks 0 f s1 with
   | error y=>rfl
   | ok s2=>show _=(aH [] f s2).map _;rw[eZ]
 rw[hE];exact aq.after lV.out rfl HV.out
theorem Pz {T:List Nd} {B b:Nat} {nv:Value} {ub ob:Nat} (gp :∀x∈T,x.s.size≤65536∧∀s∈x.names,s.size≤65536) (i:Nat) (h:Nd) (ks:List Lt) (hn:kj T (.mk i h ks)) (gY :∀u:Lt,u.size<Lt.al ks+1→kj T u→bA T B b nv ub ob u) (hk:h.kind=23):bA T B b nv ub ob (.mk i h ks):=by
 intro f loop pa la lc ms L st w hr bN b9;show Calls Tryz.prog 26 #[.pointer (some ⟨b,0,none⟩),.int .i64 (i:Int),.agg #[.int .i64 (f:Int),.int .i64 loop,.pointer pa,.slice la L.length lc]] w (aq B b nv T.length ub ob (.slice la L.length lc) L st (bg (.mk i h ks) f st) w)
 obtain⟨bk,o,c,NA,nc,KA,kc,rfl,eG,bX,x0,x1,x2,x3,x4,x5,x6,rU,v7,pN,hbl,mH,sV,d0,d3,u0,v0,gT,HR,HN,tD,iO,kD,eF,qd,ou,fH,sM,HX,zc,CY⟩:=gM gp hn gY hr bN b9;clear hr hn gY bN b9 gp;have q6:(h.kind == 6)=false:=by rw[hk];rfl
 have q7:(h.kind == 7)=false:=by rw[hk];rfl
 have yH:(h.kind == 11)=false:=by rw[hk];rfl
 have zv:(h.kind == 18)=false:=by rw[hk];rfl
 have VK:(h.kind == 23)=true:=by rw[hk];rfl
 have bJ:=aa hk;clear hk;go_enter Tryz.func26,Tryz.ntmps26
 go_wp2_with fail
 go_region
 obtain⟨W1,hW1,HZ,fj,pJ,AK,K,y0,te,oI,tf,k0,k1,k2,k3⟩:=dU loop i HR.out eG;rw[←hW1];have x0:=K _ _ x0;have x1:=K _ _ x1;have x2:=K _ _ x2;have x3:=K _ _ x3;have x4:=K _ _ x4;have x5:=K _ _ x5;have x6:=K _ _ x6;clear hW1 K d0 d3 u0 v0;have d0:=y0;clear y0;go_wp2_with fail
 obtain⟨W2,hW2⟩ :∃W2,W2=W1.alloc (.cells #[.int .i64 h.kind,.int .i64 h.line,.int .i64 h.op,.int .i64 h.num,.string h.s,.slice NA h.names.length nc,.slice KA h.kids.length kc] 55):=⟨_,rfl⟩;have cV:Below W1.heap.size W1 W2:=by rw[hW2];exact(Below.refl _ _).alloc (ah _) _
 rw[←hW2];refine(mg f loop (i:Int) pa la L.length lc W2).mono ?_;rintro e wv ⟨rfl,VM⟩;have cV:=cV.trans (VM.mono cV.size);clear hW2 VM;go_wp2_with fail
 have hr2:=HZ.out.dc cV;have hf2:cJ B ob (.slice la L.length lc) L.length (ei L) w wv:=fj.out.trans (cJ.bH cV HZ.out.world);have th :∀k∈ks,bA T B b (.slice (some ⟨bk,o,none⟩) T.length c) ub ob k:=fun k hk=>tD.out k (by have:=eU hk;omega) (eF.out.at_ k hk)
 refine(FU i f h ks (i:Int) pa la lc ms L (di i f (st.setOf i f)) wv ((hr2.mono (wB _ _) (fY _)).ow i) HX.out fH.out eF.out th (fun k hk mo=>(vi f i _).symm) (fun k _=>.inl (kD.out.resolve_right (by have:=bJ.out;omega))) (by
  unfold gH;rw[af (by have:=bJ.out;omega),af (by have:=bJ.out;omega),af (by have:=bJ.out;omega),af (by have:=bJ.out;omega)])).mono ?_
 intro e w3 hp;obtain⟨v,rfl⟩:=hp.ret;have HV:=aa hp;have lV:=aa hf2;clear hp hr2 hf2 th;go_wp2_with fail
 go_ret
 have hE:bg (.mk i h ks) f st=(aH ks f (di i f (st.setOf i f))).map fun s=>s.back (st.setOf i f):=by
  rw[cK];rw[af (by have:=bJ.out;omega)]
  rw[af (by have:=bJ.out;omega)]
  rw[af (by have:=bJ.out;omega)]
  rw[af (by have:=bJ.out;omega)]
  rw[af (by have:=bJ.out;omega)]
  rw[ak bJ.out]
 rw[hE];exact aq.after lV.out rfl (HV.out.Uk (st':=st.setOf i f) rfl fun s' hs'=>qC ks eF.out.quiet (qd.out (by have:=bJ.out;omega)) hs')
theorem ze :∀a b:List Lt,Lt.eY (a++b)=Lt.eY a+Lt.eY b
 | [],b=>by rw[mQ,show Lt.eY []=0 from rfl,jX]
 | x::a,b=>by rw[gU,Lt.eY,Lt.eY,ze a b,r9]
theorem xO :∀a b:List Lt,Lt.bs (a++b)=Lt.bs a++Lt.bs b
 | [],b=>rfl
 | x::a,b=>by rw[gU,Lt.bs,Lt.bs,xO a b,fe]
theorem fA.app {T:List Nd} :∀{a b:List Lt},fA T (a++b)→fA T a∧fA T b
 | [],b,h=>⟨⟨by unfold Lt.uP;trivial,by unfold Lt.iB;trivial,by unfold Lt.yQ;trivial,by unfold Lt.bs;exact Eh,fun k hk=>by cases hk⟩,h⟩
 | x::a,b,h=>by
  obtain⟨h1,h2⟩:=fA.cons (k:=x) (ks:=a++b) h;obtain⟨h3,h4⟩:=fA.app h2;have h5:=h.nodup;rw[xO,oK] at h5;exact⟨⟨by unfold Lt.uP;exact⟨h1.J2,h3.J2⟩,by unfold Lt.iB;exact⟨h1.form,h3.form⟩,by unfold Lt.yQ;exact⟨h1.wf,h3.wf⟩,h5.1,fun k hk=>h.kind k (fV b hk)⟩,h4⟩
theorem vv {ks:List Lt} {l:List Int} (h:oG ks=l++[18]) :∃vals blk,ks=vals++[blk]∧oG vals=l∧blk.hd.kind=18:=by
 unfold oG at h;obtain⟨a,b,e,h1,h2⟩:=wk.1 h;obtain⟨x,e2,h3⟩:=List.map_eq_singleton_iff.1 h2;exact⟨a,x,by rw[e,e2],h1,h3⟩
theorem PB {T:List Nd} {B b:Nat} {nv:Value} {ub ob:Nat} (gp :∀x∈T,x.s.size≤65536∧∀s∈x.names,s.size≤65536) (i:Nat) (h:Nd) (ks:List Lt) (hn:kj T (.mk i h ks)) (gY :∀u:Lt,u.size<Lt.al ks+1→kj T u→bA T B b nv ub ob u) (hk:h.kind=26):bA T B b nv ub ob (.mk i h ks):=by
 intro f loop pa la lc ms L st w hr bN b9;show Calls Tryz.prog 26 #[.pointer (some ⟨b,0,none⟩),.int .i64 (i:Int),.agg #[.int .i64 (f:Int),.int .i64 loop,.pointer pa,.slice la L.length lc]] w (aq B b nv T.length ub ob (.slice la L.length lc) L st (bg (.mk i h ks) f st) w)
 obtain⟨bk,o,c,NA,nc,KA,kc,rfl,eG,bX,x0,x1,x2,x3,x4,x5,x6,rU,v7,pN,hbl,mH,sV,d0,d3,u0,v0,gT,HR,HN,tD,iO,kD,eF,qd,ou,fH,sM,HX,zc,CY⟩:=gM gp hn gY hr bN b9;clear hr hn gY bN b9 gp;have q6:(h.kind == 6)=false:=by rw[hk];rfl
 have q7:(h.kind == 7)=false:=by rw[hk];rfl
 have yH:(h.kind == 11)=false:=by rw[hk];rfl
 have zv:(h.kind == 18)=false:=by rw[hk];rfl
 have VK:(h.kind == 23)=false:=by rw[hk];rfl
 have Zc:(h.kind == 26)=true:=by rw[hk];rfl
 have bJ:=aa hk;clear hk;go_enter Tryz.func26,Tryz.ntmps26
 go_wp2_with fail
 go_region
 obtain⟨W1,hW1,HZ,fj,pJ,AK,K,y0,te,oI,tf,k0,k1,k2,k3⟩:=dU loop i HR.out eG;rw[←hW1];have x0:=K _ _ x0;have x1:=K _ _ x1;have x2:=K _ _ x2;have x3:=K _ _ x3;have x4:=K _ _ x4;have x5:=K _ _ x5;have x6:=K _ _ x6;clear hW1 K d0 d3 u0 v0;have d0:=y0;clear y0;obtain⟨l,hl0,vR⟩ :∃l,oG ks=l++[18]∧∀a∈l,tA a:=by
  obtain⟨l,h1,_,h2⟩:=ou.out.for_ bJ.out;exact⟨l,h1,h2⟩
 obtain⟨vals,blk,rfl,hv,hb⟩:=vv hl0;subst hv;go_wp2_with fail
 obtain⟨W2,hW2⟩ :∃W2,W2=W1.alloc (.cells #[.int .i64 h.kind,.int .i64 h.line,.int .i64 h.op,.int .i64 h.num,.string h.s,.slice NA h.names.length nc,.slice KA h.kids.length kc] 55):=⟨_,rfl⟩;have cV:Below W1.heap.size W1 W2:=by rw[hW2];exact(Below.refl _ _).alloc (ah _) _
 rw[←hW2];refine(mg f loop (i:Int) pa la L.length lc W2).mono ?_;rintro e wv ⟨rfl,VM⟩;have cV:=cV.trans (VM.mono cV.size);clear hW2 VM;go_wp2_with fail
 have hr2:=HZ.out.dc cV;have hf2:cJ B ob (.slice la L.length lc) L.length (ei L) w wv:=fj.out.trans (cJ.bH cV HZ.out.world);have th :∀k∈vals++[blk],bA T B b (.slice (some ⟨bk,o,none⟩) T.length c) ub ob k:=fun k hk=>tD.out k (by have:=eU hk;omega) (eF.out.at_ k hk)
 have hlen:h.kids.length=vals.length+1:=by rw[sM.out,bV,mM]
 refine(BP i f h vals [blk] (i:Int) pa la lc ms L (st.setOf i f) wv (hr2.mono (by rw[ze];omega) (by rw[pE];omega)) HX.out (by rw[fH.out,mP]) (by simp) eF.out.app.1 eF.out.app.2 (fun k hk=>th k (fV _ hk)) (fun k hk=>th k (jb _ hk)) (fun k hk=>by have:=vR _ (jV hk);unfold tA at this;omega) (fun k hk=>qd.out (by have:=bJ.out;omega) k (fV _ hk)) (kD.out.resolve_right (by have:=bJ.out;omega)) zc.out.2 rfl (by
  unfold gH;rw[ak (by have:=bJ.out;omega),hlen]
  congr 2
  omega)).mono ?_
 intro e w3 hp;obtain⟨v,rfl⟩:=hp.ret;have HV:=aa hp;have lV:=aa hf2;clear hp hr2 hf2 th;go_wp2_with fail
 go_ret
 have hE:bg (.mk i h (vals++[blk])) f st=((aH vals f (st.setOf i f)).bind fun s1=>((bw i f h.line h.names (di i f s1)).bind fun s2=>aH [blk] f s2).map fun s=>s.back s1):=by
  rw[cK];rw[af (by have:=bJ.out;omega)]
  rw[af (by have:=bJ.out;omega)]
  rw[af (by have:=bJ.out;omega)]
  rw[af (by have:=bJ.out;omega)]
  rw[af (by have:=bJ.out;omega)]
  rw[af (by have:=bJ.out;omega)]
  rw[af (by have:=bJ.out;omega)]
  rw[ak (by have:=bJ.out;omega)]
  exact qP blk vals (st.setOf i f)
 rw[hE];exact aq.after lV.out rfl HV.out
theorem PC {T:List Nd} {B b:Nat} {nv:Value} {ub ob:Nat} (gp :∀x∈T,x.s.size≤65536∧∀s∈x.names,s.size≤65536) (i:Nat) (h:Nd) (ks:List Lt) (hn:kj T (.mk i h ks)) (gY :∀u:Lt,u.size<Lt.al ks+1→kj T u→bA T B b nv ub ob u) (hk:h.kind=27):bA T B b nv ub ob (.mk i h ks):=by
 intro f loop pa la lc ms L st w hr bN b9;show Calls Tryz.prog 26 #[.pointer (some ⟨b,0,none⟩),.int .i64 (i:Int),.agg #[.int .i64 (f:Int),.int .i64 loop,.pointer pa,.slice la L.length lc]] w (aq B b nv T.length ub ob (.slice la L.length lc) L st (bg (.mk i h ks) f st) w)
 obtain⟨bk,o,c,NA,nc,KA,kc,rfl,eG,bX,x0,x1,x2,x3,x4,x5,x6,rU,v7,pN,hbl,mH,sV,d0,d3,u0,v0,gT,HR,HN,tD,iO,kD,eF,qd,ou,fH,sM,HX,zc,CY⟩:=gM gp hn gY hr bN b9;clear hr hn gY bN b9 gp;have q6:(h.kind == 6)=false:=by rw[hk];rfl
 have q7:(h.kind == 7)=false:=by rw[hk];rfl
 have yH:(h.kind == 11)=false:=by rw[hk];rfl
 have zv:(h.kind == 18)=false:=by rw[hk];rfl
 have VK:(h.kind == 23)=false:=by rw[hk];rfl
 have Zc:(h.kind == 26)=false:=by rw[hk];rfl
 have q27:(h.kind == 27)=true:=by rw[hk];rfl
 have bJ:=aa hk;clear hk;go_enter Tryz.func26,Tryz.ntmps26
 go_wp2_with fail
 go_region
 obtain⟨W1,hW1,HZ,fj,pJ,AK,K,y0,te,oI,tf,k0,k1,k2,k3⟩:=dU loop i HR.out eG;rw[←hW1];have x0:=K _ _ x0;have x1:=K _ _ x1;have x2:=K _ _ x2;have x3:=K _ _ x3;have x4:=K _ _ x4;have x5:=K _ _ x5;have x6:=K _ _ x6;clear hW1 K d0 d3 u0 v0;have d0:=y0;clear y0;obtain⟨l,hl0,vR⟩ :∃l,oG ks=l++[18]∧∀a∈l,tA a:=by
  obtain⟨l,h1,_,h2⟩:=ou.out.each bJ.out;exact⟨l,h1,h2⟩
 obtain⟨vals,blk,rfl,hv,hb⟩:=vv hl0;subst hv;go_wp2_with fail
 obtain⟨W2,hW2⟩ :∃W2,W2=W1.alloc (.cells #[.int .i64 h.kind,.int .i64 h.line,.int .i64 h.op,.int .i64 h.num,.string h.s,.slice NA h.names.length nc,.slice KA h.kids.length kc] 55):=⟨_,rfl⟩;have cV:Below W1.heap.size W1 W2:=by rw[hW2];exact(Below.refl _ _).alloc (ah _) _
 rw[←hW2];refine(mg f loop (i:Int) pa la L.length lc W2).mono ?_;rintro e wv ⟨rfl,VM⟩;have cV:=cV.trans (VM.mono cV.size);clear hW2 VM;go_wp2_with fail
 have hr2:=HZ.out.dc cV;have hf2:cJ B ob (.slice la L.length lc) L.length (ei L) w wv:=fj.out.trans (cJ.bH cV HZ.out.world);have th :∀k∈vals++[blk],bA T B b (.slice (some ⟨bk,o,none⟩) T.length c) ub ob k:=fun k hk=>tD.out k (by have:=eU hk;omega) (eF.out.at_ k hk)
 have hlen:h.kids.length=vals.length+1:=by rw[sM.out,bV,mM]
 refine(BP i f h vals [blk] (i:Int) pa la lc ms L (st.setOf i f) wv (hr2.mono (by rw[ze];omega) (by rw[pE];omega)) HX.out (by rw[fH.out,mP]) (by simp) eF.out.app.1 eF.out.app.2 (fun k hk=>th k (fV _ hk)) (fun k hk=>th k (jb _ hk)) (fun k hk=>by have:=vR _ (jV hk);unfold tA at this;omega) (fun k hk=>qd.out (by have:=bJ.out;omega) k (fV _ hk)) (kD.out.resolve_right (by have:=bJ.out;omega)) zc.out.2 rfl (by
  unfold gH;rw[ak (by have:=bJ.out;omega),hlen]
  congr 2
  omega)).mono ?_
 intro e w3 hp;obtain⟨v,rfl⟩:=hp.ret;have HV:=aa hp;have lV:=aa hf2;clear hp hr2 hf2 th;go_wp2_with fail
 go_ret
 have hE:bg (.mk i h (vals++[blk])) f st=((aH vals f (st.setOf i f)).bind fun s1=>((bw i f h.line h.names (di i f s1)).bind fun s2=>aH [blk] f s2).map fun s=>s.back s1):=by
  rw[cK];rw[af (by have:=bJ.out;omega)]
  rw[af (by have:=bJ.out;omega)]
  rw[af (by have:=bJ.out;omega)]
  rw[af (by have:=bJ.out;omega)]
  rw[af (by have:=bJ.out;omega)]
  rw[af (by have:=bJ.out;omega)]
  rw[af (by have:=bJ.out;omega)]
  rw[ak (by have:=bJ.out;omega)]
  exact qP blk vals (st.setOf i f)
 rw[hE];exact aq.after lV.out rfl HV.out
structure DX (T:List Nd) (B b:Nat) (nv:Value) (ub ob f:Nat) (pa:Option Addr) (lv:Value) (ms:List Nat) (L:List cE) (st:aG) (w:World) (a s:Nat):Prop where
 ft:vY w B nv T
 rs:jO w B b nv T.length st ub ob
 pos:oZ w B f (.pointer pa) lv ms L st
 hd:HdF f L
 lt:f<st.fns.length
 few:dK st.fns
 fr :∀x∈st.frames,x.fn<st.fns.length
 names:st.names.length+a≤100000
 fns:st.fns.length+s≤100000
 fk:L.length+s≤100000
structure sN (T:List Nd) (B b:Nat) (nv:Value) (ub ob f:Nat) (pa:Option Addr) (lv:Value) (ms:List Nat) (L:List cE) (st:aG) (w:World) (a s:Nat):Prop where
 ft:vY w B nv T
 rs:jO w B b nv T.length st ub ob
 pos:oZ w B f (.pointer pa) lv ms L st
 lt:f<st.fns.length
 few:dK st.fns
 fr :∀x∈st.frames,x.fn<st.fns.length
 names:st.names.length+a≤100000
 fns:st.fns.length+s≤100000
 fk:L.length+1+s≤100000
theorem DY {T:List Nd} {B b:Nat} {nv:Value} {ub ob f:Nat} {pa la:Option Addr} {lc:Nat} {ms:List Nat} {L:List cE} {st:aG} {w:World} {a s:Nat} (loop:Int) (h:sN T B b nv ub ob f pa (.slice la L.length lc) ms L st w a s) :
  Calls Tryz.prog 112 #[.agg #[.int .i64 (f:Int),.int .i64 loop,.pointer pa,.slice la L.length lc]] w fun e w'=>∃g c m,e=.returned (.agg #[.int .i64 (f:Int),.int .i64 loop,.pointer pa,.slice (some ⟨g,0,none⟩) (L.length+1) c])∧DX T B b nv ub ob f pa (.slice (some ⟨g,0,none⟩) (L.length+1) c) ms (⟨f,m,[]⟩::L) st w' a s∧w.heap.size≤m∧((Value.slice la L.length lc).ownBlock=some g∨w.heap.size≤g)∧cJ B ob (.slice la L.length lc) L.length none w w':=by
 have bX:B≤w.heap.size:=by obtain⟨_,_,_,_,_,h,_⟩:=h.ft.nodes;exact h
 refine(xL f loop pa la lc L w h.pos.fk (by have:=h.fk;omega) bX).mono ?_
 rintro e w' ⟨g,c,m,he,h1,h2,h3,h4,h5⟩;have hf:=h4 ob;refine⟨g,c,m,he,⟨h.ft.below hf.below,?_,⟨h1,h.pos.blk.jo hf (by simp),h.pos.names,?_⟩,?_,h.lt,h.few,h.fr,h.names,h.fns,?_⟩,h2,h3,hf⟩
 ·obtain⟨fv,FL,hw⟩:=h.rs
  exact⟨fv,FL,hw.fr h5 (by decide)⟩
 ·intro m' hm' l hl
  rcases bn.1 hl with rfl|hl
  ·have:=bW.lt h.pos.blk m' hm'
   show m'≠m
   omega
  ·exact h.pos.apart m' hm' l hl
 ·intro l r e
  injection e with e _;rw[←e]
 ·have:=h.fk
  rw[List.length_cons];omega
theorem sN.dc {T:List Nd} {B b:Nat} {nv:Value} {ub ob f:Nat} {pa:Option Addr} {lv:Value} {ms:List Nat} {L:List cE} {st:aG} {w w':World} {a s:Nat} (h:sN T B b nv ub ob f pa lv ms L st w a s) (hb:Below w.heap.size w w'):sN T B b nv ub ob f pa lv ms L st w' a s:=by
 have bX:B≤w.heap.size:=by obtain⟨_,_,_,_,_,h,_⟩:=h.ft.nodes;exact h
 have h2:cJ B ob lv L.length none w w':=cJ.bH hb bX;refine⟨h.ft.below h2.below,?_,⟨h.pos.fk.jo h2 (ah _),h.pos.blk.jo h2 (by simp),h.pos.names,h.pos.apart⟩,h.lt,h.few,h.fr,h.names,h.fns,h.fk⟩
 obtain⟨fv,FL,hw⟩:=h.rs;exact⟨fv,FL,hw.later hb⟩
theorem sN.levels {T:List Nd} {B b:Nat} {nv:Value} {ub ob f:Nat} {pa:Option Addr} {lv:Value} {ms:List Nat} {L:List cE} {st:aG} {w:World} {a s:Nat} (h:sN T B b nv ub ob f pa lv ms L st w a s) :∀l∈L,l.blk<w.heap.size:=fun l hl=>(h.pos.fk.maps l hl).1.lt
theorem DX.Ua {T:List Nd} {B b:Nat} {nv:Value} {ub ob f:Nat} {pa:Option Addr} {lv:Value} {ms:List Nat} {L:List cE} {st:aG} {w w':World} {a s:Nat} (h:DX T B b nv ub ob f pa lv ms L st w a s) (k:Fr [92] w w') (hb:Below B w w'):DX T B b nv ub ob f pa lv ms L st w' a s:=by
 refine⟨h.ft.below hb,?_,⟨h.pos.fk.fr k (by decide),bW.fr k (by decide) h.pos.blk,h.pos.names,h.pos.apart⟩,h.hd,h.lt,h.few,h.fr,h.names,h.fns,h.fk⟩
 obtain⟨fv,FL,hw⟩:=h.rs;exact⟨fv,FL,hw.fr k (by decide)⟩
theorem DX.step {T:List Nd} {B b:Nat} {nv:Value} {ub ob f:Nat} {pa:Option Addr} {lv:Value} {ms:List Nat} {L:List cE} {st st':aG} {w w':World} {a s a1 s1:Nat} {e:Ending} (h:DX T B b nv ub ob f pa lv ms L st w (a1+a) (s1+s)) (wP:Mk a1 s1 st st') (vJ:Cx f st') (hf:st'.frames=st.frames) (hp:aq B b nv T.length ub ob lv L st (.ok st') w e w') :
  e=.returned .nilIface∧∃x,st'.names=x++st.names∧(L=[]→x=[])∧eS T B b nv ub ob f pa lv ms (grow x L) st' w' a s∧cJ B ob lv L.length (ei L) w w':=by
 obtain⟨hb,rfl,QA,oD,x,hx1,hx2,hx3⟩:=hp;refine⟨rfl,x,hx1,hx2,⟨h.ft.below hb,QA,h.pos.on oD hx3 hx1 hx2 hf,h.hd.grow x,vJ,wP.few,fun y hy=>?_,?_,?_,?_⟩,oD⟩
 ·rw[hf] at hy
  exact cy (h.fr y hy) wP.least
 ·have:=wP.names;have:=h.names;omega
 ·have:=wP.fns;have:=h.fns;omega
 ·rw[ch];have:=h.fk;omega
theorem Jw {T:List Nd} {B b:Nat} {nv:Value} {ub ob:Nat} (i f:Nat) (h:Nd) (rest:List Lt) (loop:Int) (pa la:Option Addr) (lc:Nat) (ms:List Nat) (L:List cE) (st:aG) (w:World) (hr:sN T B b nv ub ob f pa (.slice la L.length lc) ms L st w (h.names.length+Lt.eY rest) (Lt.al rest)) (hx:T[i]? = some h) (hk:h.kids=rest.map fun k=>(k.loc:Int)) (BU:rest≠[]) (uz:fA T rest) (hV2 :∀k∈rest,bA T B b nv ub ob k)
  (hl :∀k∈rest,18≤k.hd.kind→loop=cB f st.frames) (hsz :∀s∈h.names,s.size≤65536) (vJ :∀s2,bw i f h.line h.names st=.ok s2→Cx f s2) (hd:gH h.kind h.kids.length=(true,0,true)) :
  Calls Tryz.prog 55 #[.pointer (some ⟨b,0,none⟩),.int .i64 (i:Int),.agg #[.int .i64 (f:Int),.int .i64 loop,.pointer pa,.slice la L.length lc]] w (aq B b nv T.length ub ob (.slice la L.length lc) L st (((bw i f h.line h.names st).bind fun s2=>aH rest f s2).map fun s=>s.back st) w):=by
 obtain⟨bk,o,c,rfl,eG,bX,dG⟩:=hr.ft.nodes;obtain⟨zx,zy,fE,⟨NA,nc,vL,_⟩,fu⟩:=dG i h hx;have rU:h.kids.length≤20000:=(hr.ft.small h (ba hx)).1;have o0:h.kids.length=rest.length:=by rw[hk,cN]
 have hr1:1≤rest.length:=wu.2 BU;obtain⟨KA,kc,qX,Cm,Js⟩:=id fu;subst vL qX;obtain⟨sb,so,rfl⟩ :∃sb so,KA=some ⟨sb,so,none⟩:=by
  rcases Js with h0 | ⟨sb,so,h1,_⟩
  ·rw[h0] at o0;simp at o0;omega
  ·exact⟨sb,so,h1⟩
 obtain⟨x0,x1,x2,x3,x4,x5,x6⟩:=fE;have v7:i<T.length:=(aL.1 hx).1;have pN:=hr.ft.few;have hbl:b<w.heap.size:=by obtain⟨_,_,hw⟩:=hr.rs;exact hw.mL.1
 have d0:w.cell? ⟨b,0,none⟩=some (.slice (some ⟨bk,o,none⟩) T.length c):=by obtain⟨_,_,hw⟩:=hr.rs;exact ab hw.blk 0
 have gT:bk<w.heap.size:=by omega
 have HD:=aa (gI h.kind h.line h.op h.num h.s NA (some ⟨sb,so,none⟩) h.names.length nc h.kids.length kc);have BV:gF w B (.slice (some ⟨sb,so,none⟩) h.kids.length kc) (rest.map fun k=>(k.loc:Int)):=by
  rw[←hk];exact fu
 have HR:=aa hr;have RT:=aa uz;have HV2:=aa hV2;have Po:=aa BV;have T9:=aa hd;have HK:=aa hk;have nC:=aa hr1;have qE:=aa hsz;have HX:=aa hx;have sM:=aa o0;have HL:=aa hl;have Z4:=aa vJ;clear vJ hr1 o0 hr hl fu BV hd dG hk uz hV2 Js hsz hx BU;go_enter Tryz.func55,Tryz.ntmps55
 go_wp2_with fail
 refine(HD.out _ (by omega)).mono ?_
 rw[T9.out];rintro e w1 ⟨rfl,hb1⟩;have dM:=aa hb1;clear hb1;go_wp2_with fail
 have za:=lp rfl dM.out (.bool true) (.int .i64 0) (.bool true);have qO:=aa za.2;have o7:=aa za.1;clear za;clear d0 x0 x1 x2 x3 x4 x5 x6;generalize w1.alloc (.cells #[.bool true,.int .i64 0,.bool true] 189)=W2 at qO o7 ⊢;generalize w1.heap.size=q at qO ⊢;generalize w.heap.size+1=p at qO ⊢;obtain⟨k0,k1,k2,k3,k4,k5,k6,k7,k8⟩:=qO.out.cells;go_still_tail 7,(by kernel_rfl)
 change wpList _ _ _ _ _ W2.drew;have D2:=aa (show Below W2.heap.size W2 W2.drew from(Below.refl _ _).drew)
 generalize W2.drew=W3 at D2 ⊢;go_wp2_with fail
 refine(all_nil b f loop pa la (some ⟨sb,so,none⟩) L.length lc kc W3).mono ?_;rintro e w4 ⟨rfl,hb4⟩;have Cv:=D2.out.trans (hb4.mono D2.out.size);have wY:=o7.out.trans (Cv.mono o7.out.size);have P5:=aa (qO.out.later Cv);have Pk:Hid (cJ B ob (.slice la L.length lc) L.length (ei L) w w4):=aa (cJ.bH wY bX);have hz:=HR.out.dc wY;have HZ:=aa hz;have HOP:=aa (DY loop hz);have ads:=wY.size;clear hb4 Cv wY hz k0 k1 k2 k3 k4 k5 k6 k7 k8;obtain⟨k0,k1,k2,k3,k4,k5,k6,k7,k8⟩:=P5.out.cells;go_wp2_with fail
 refine HOP.out.mono ?_;rintro e w6 ⟨g,c6,m,rfl,OL,hm,hg,QB⟩;have P6:=aa (P5.out.jo QB);have y0:=aw P6.out.pos 0;have y1:=aw P6.out.pos 1;have y2:=aw P6.out.pos 2;have y3:=aw P6.out.pos 3;have HR6:=aa OL;have HM:=aa hm;have HG:=aa hg;have OM:=aa QB;clear OL hm hg QB k0 k1 k2 k3 k4 k5 k6 k7 k8;obtain⟨k0,k1,k2,k3,k4,k5,k6,k7,k8⟩:=P6.out.cells;obtain⟨W7,we⟩ :∃W7,W7=four w6 w.heap.size (.int .i64 (f:Int)) (.int .i64 loop) (.pointer pa) (.slice (some ⟨g,0,none⟩) (L.length+1) c6):=⟨_,rfl⟩;have P7:Hid (eT w W7 p q f loop pa (.slice (some ⟨g,0,none⟩) (L.length+1) c6) (.slice (some ⟨sb,so,none⟩) h.kids.length kc) (.slice NA h.names.length nc) (.bool true) (.int .i64 0) (.bool true)):=aa (by rw[we];exact P6.out.four _ _ _)
 have kn:vK w6 w.heap.size 92:=⟨_,_,P6.out.pos⟩;have F7:Hid (Fr [92] w6 W7):=aa (by rw[we];exact vu kn _ _ _ _)
 have B7:Hid (Below B w6 W7):=aa (by rw[we];exact pI w6 bX _ _ _ _)
 have K7:Hid (∀k,k≠w.heap.size→W7.heap[k]? = w6.heap[k]?):=aa (by rw[we];exact fun k hk=>nR w6 _ _ _ _ _ k hk)
 unfold four at we;have HW7:=aa we;clear we kn;have ZI:p≠w.heap.size:=by have:=P5.out.pne;omega
 have hqn:q≠w.heap.size:=by have:=P5.out.qne;omega
 go_wp2_with fail
 rw[←HW7.out];have HZ0:=HZ.out;have hlt :∀l∈L,l.blk≠m:=fun l hl=>by have:=HZ.out.levels l hl;have:=HM.out;omega
 have BX:=HR6.out.Ua F7.out B7.out;have Vy:cJ B ob (.slice la L.length lc) L.length (ei L) w W7:=(Pk.out.trans (OM.out.FB _)).past B7.out fun k hk=>K7.out k (by omega)
 have hLV:cU W7 B (.slice la L.length lc) L:=((HZ.out.pos.fk).jo OM.out (ah _)).fr F7.out (by decide)
 have VF:(Value.slice la L.length lc).ownBlock=some g∨w.heap.size≤g:=HG.out.imp id fun h=>by omega
 have VG:w.heap.size≤m:=by have:=HM.out;omega
 have Uc:=aa BX;have Y2:=aa Vy;have Pp:=aa hLV;have HOW:=aa VF;have VH:=aa VG;have lo:=aa hlt;have hdec:Calls Tryz.prog 113 #[.pointer (some ⟨b,0,none⟩),.int .i64 (i:Int),.agg #[.int .i64 (f:Int),.int .i64 loop,.pointer pa,.slice (some ⟨g,0,none⟩) (L.length+1) c6]] W7 (aq B b (.slice (some ⟨bk,o,none⟩) T.length c) T.length ub ob (.slice (some ⟨g,0,none⟩) (L.length+1) c6) (⟨f,m,[]⟩::L) st (bw i f h.line h.names st) W7) :=
  kh b i f h loop pa (some ⟨g,0,none⟩) c6 ⟨f,m,[]⟩ L st W7 BX.ft BX.rs HX.out BX.lt BX.pos.fk rfl (by have:=BX.fk;omega) BX.few (by simp) qE.out
 clear BX Vy hLV VF VG hlt HZ0 k0 k1 k2 k3 k4 k5 k6 k7 k8 y0 y1 y2 y3;refine hdec.mono ?_;intro e w8 hp;clear hdec;cases jP:bw i f h.line h.names st with
 | error y =>
  rw[jP] at hp;have HP:=aa hp;obtain⟨_,v,rfl,g2,rfl,_⟩:=hp;have HE:Hid ((((bw i f h.line h.names st).bind fun s2=>aH rest f s2).map fun s=>s.back st)=.error y):=aa (by  rw[jP];rfl)
  clear jP;go_wp2_with fail
  go_ret
  rw[HE.out];exact(aq.inner (st:=st) Y2.out Pp.out lo.out HOW.out VH.out HP.out)
 | ok s2 =>
  rw[jP] at hp;have vt:=va jP;obtain⟨rfl,x,hx1,hx2,Ud,Ue⟩:=DX.step (a1:=h.names.length) (s1:=0) (by rw[jX];exact Uc.out) (jL jP Uc.out.few) (Z4.out s2 jP) vt hp
  have P9:=aa (P7.out.jo Ue);have HC:Hid (∀W,Below w8.heap.size w8 W→Calls Tryz.prog 111 #[.pointer (some ⟨b,0,none⟩),.slice (some ⟨sb,so,none⟩) h.kids.length kc,.agg #[.int .i64 (f:Int),.int .i64 loop,.pointer pa,.slice (some ⟨g,0,none⟩) (L.length+1) c6]] W (aq B b (.slice (some ⟨bk,o,none⟩) T.length c) T.length ub ob (.slice (some ⟨g,0,none⟩) (L.length+1) c6) (grow x (⟨f,m,[]⟩::L)) s2 (aH rest f s2) w8)):=aa fun W hW =>
   (DU f loop pa (some ⟨g,0,none⟩) c6 ms (⟨f,m,[]⟩::L) x s2 W (.slice (some ⟨sb,so,none⟩) h.kids.length kc) rest (Ud.dc hW) RT.out HV2.out (Po.out.below ((Y2.out.below.trans Ue.below).trans (hW.mono Ud.world))) (fun k hk mo=>(HL.out k hk mo).trans (tE vt).symm) (fun k _=>.inl (by simp)) (by have:=sM.out;omega)).mono fun e w' h=>h.from hW Ud.world
  have YC:=aa Ue;have Ph:=aa hx1;have HE:Hid ((((bw i f h.line h.names st).bind fun s2=>aH rest f s2).map fun s=>s.back st)=(aH rest f s2).map fun s=>s.back st):=aa (by  rw[jP];rfl)
  clear hp Ud Ue vt hx1 hx2 jP;obtain⟨k0,k1,k2,k3,k4,k5,k6,k7,k8⟩:=P9.out.cells;go_wp2_with fail
  go_still_tail 7,(by kernel_rfl)
  change wpList _ _ _ _ _ w8.drew;have VD:=aa (HC.out w8.drew (Below.refl _ _).drew);generalize w8.drew=W9 at VD ⊢;go_wp2_with fail
  refine VD.out.mono ?_;intro e w10 hp;obtain⟨v,rfl⟩:=hp.ret;have HP:=aa hp;clear hp;go_wp2_with fail
  go_ret
  rw[HE.out];exact(aq.inner (st:=st) Y2.out Pp.out lo.out HOW.out VH.out (aq.trans (L:=⟨f,m,[]⟩::L) (st1:=s2) (x:=x) YC.out.below YC.out Ph.out (fun e=>by cases e) HP.out))
theorem xP {f:Nat} :∀{fr:List fw},(∀x∈fr,x.fn<f)→dw f fr=[]
 | [],_=>rfl
 | x::fr,h=>by
  rw[rN (.inr (jy (h x (bU ..))))];exact xP fun y hy=>h y (bY _ hy)
theorem Jy {f:Nat} {fr:List fw} (h :∀x∈fr,x.fn<f):cB f fr = -1:=by
 unfold cB;have:fr.find? (fun x=>x.loop && decide (x.fn=f))=none:=by
  rw[Ec];intro x hx;have:=h x hx;simp;intro _;omega
 rw[this]
theorem PD {T:List Nd} {B b:Nat} {nv:Value} {ub ob:Nat} (gp :∀x∈T,x.s.size≤65536∧∀s∈x.names,s.size≤65536) (i:Nat) (h:Nd) (ks:List Lt) (hn:kj T (.mk i h ks)) (gY :∀u:Lt,u.size<Lt.al ks+1→kj T u→bA T B b nv ub ob u) (hk:h.kind=11):bA T B b nv ub ob (.mk i h ks):=by
 intro f loop pa la lc ms L st w hr bN b9;show Calls Tryz.prog 26 #[.pointer (some ⟨b,0,none⟩),.int .i64 (i:Int),.agg #[.int .i64 (f:Int),.int .i64 loop,.pointer pa,.slice la L.length lc]] w (aq B b nv T.length ub ob (.slice la L.length lc) L st (bg (.mk i h ks) f st) w)
 obtain⟨bk,o,c,NA,nc,KA,kc,rfl,eG,bX,x0,x1,x2,x3,x4,x5,x6,rU,v7,pN,hbl,mH,sV,d0,d3,u0,v0,gT,HR,HN,tD,iO,kD,eF,qd,ou,fH,sM,HX,zc,CY⟩:=gM gp hn gY hr bN b9;clear hr hn gY bN b9 gp;have q6:(h.kind == 6)=false:=by rw[hk];rfl
 have q7:(h.kind == 7)=false:=by rw[hk];rfl
 have yH:(h.kind == 11)=true:=by rw[hk];rfl
 have bJ:=aa hk;clear hk;go_enter Tryz.func26,Tryz.ntmps26
 go_wp2_with fail
 go_region
 obtain⟨W1,hW1,HZ,fj,pJ,AK,K,y0,te,oI,tf,k0,k1,k2,k3⟩:=dU loop i HR.out eG;rw[←hW1];have x0:=K _ _ x0;have x1:=K _ _ x1;have x2:=K _ _ x2;have x3:=K _ _ x3;have x4:=K _ _ x4;have x5:=K _ _ x5;have x6:=K _ _ x6;clear hW1 K d0 d3 u0 v0;have d0:=y0;clear y0;have gn:(h.num == 1)=decide (h.num=1):=rfl;go_wp2_with fail
 obtain⟨W3,hW3⟩ :∃W3,W3=(W1.alloc (.cells #[.int .i64 h.kind,.int .i64 h.line,.int .i64 h.op,.int .i64 h.num,.string h.s,.slice NA h.names.length nc,.slice KA h.kids.length kc] 55)).alloc (.cells #[.int .i64 (i:Int),.int .i64 (f:Int),.int .i64 (h.names.length:Int),.bool (decide (h.num=1)),.slice none 0 0,.slice none 0 0] 52):=⟨_,rfl⟩;have cV:Below W1.heap.size W1 W3:=by rw[hW3];exact Below.two _ _
 rw[←hW3];clear hW3;have hr3:=HZ.out.dc cV;have hf3:cJ B ob (.slice la L.length lc) L.length (ei L) w W3:=fj.out.trans (cJ.bH cV HZ.out.world);have th :∀k∈ks,bA T B b (.slice (some ⟨bk,o,none⟩) T.length c) ub ob k:=fun k hk=>tD.out k (by have:=eU hk;omega) (eF.out.at_ k hk)
 refine(xJ b ⟨i,(f:Int),h.names.length,decide (h.num=1),[],[]⟩ la L.length lc (st.setOf i f) W3 hr3.rs rfl rfl (by have:=hr3.fns;omega)).mono ?_
 rintro e w5 ⟨rfl,h1,h2,h3⟩;have hfa :∀top,cJ B ob (.slice la L.length lc) L.length top W3 w5:=fun top=>cJ.u7 h3 (by decide) h2
 have h1:jO w5 B b (.slice (some ⟨bk,o,none⟩) T.length c) T.length (jK i f h (st.setOf i f)) ub ob:=h1;have JU:ks≠[]:=by
  have:=ou.out.body (.inl bJ.out);intro e;rw[e] at this;cases this
 have QC:sN T B b (.slice (some ⟨bk,o,none⟩) T.length c) ub ob (st.setOf i f).fns.length none (.slice la L.length lc) [] L (jK i f h (st.setOf i f)) w5 (h.names.length+Lt.eY ks) (Lt.al ks):=by
  have hlen:(jK i f h (st.setOf i f)).fns.length=(st.setOf i f).fns.length+1:=by unfold jK;simp
  refine⟨hr3.ft.below h2,h1,⟨hr3.pos.fk.jo (hfa none) (ah _),?_,hr3.pos.names,fun m hm=>by cases hm⟩,by omega,hr3.few.app ⟨aR _,aR _⟩,fun x hx=>?_,hr3.names,?_,?_⟩
  ·show oY w5 B (dw (st.setOf i f).fns.length (st.setOf i f).frames) [] _
   rw[xP hr3.fr];exact⟨rfl,rfl⟩
  ·have:=hr3.fr x hx
   omega
  ·have:=hr3.fns;omega
  ·have:=hr3.fk;omega
 have sB:=aa (Jw i (st.setOf i f).fns.length h ks (-1) none la lc [] L (jK i f h (st.setOf i f)) w5 QC HX.out fH.out JU eF.out th (fun k hk mo=>(Jy (fr:=(st.setOf i f).frames) hr3.fr).symm) zc.out.2 (fun s2 e=>(xt e hr3.cx).1) (by
  unfold gH;rw[af (by have:=bJ.out;omega),ak bJ.out]))
 have lV:=aa (hf3.trans (hfa (ei L)));clear hr3 hf3 th h1 h2 h3 hfa QC JU;go_wp2_with fail
 refine sB.out.mono ?_;intro e w6 hp;obtain⟨v,rfl⟩:=hp.ret;have HV:=aa hp;clear hp;go_wp2_with fail
 go_ret
 have hE:bg (.mk i h ks) f st=((bw i (st.setOf i f).fns.length h.line h.names (jK i f h (st.setOf i f))).bind fun s2=>aH ks (st.setOf i f).fns.length s2).map fun s=>s.back (jK i f h (st.setOf i f)):=by
  rw[cK];rw[af (by have:=bJ.out;omega)]
  rw[af (by have:=bJ.out;omega)]
  rw[ak bJ.out];cases bw i (st.setOf i f).fns.length h.line h.names (jK i f h (st.setOf i f)) with
  | error y=>rfl
  | ok s1=>rfl
 rw[hE];exact aq.after lV.out rfl HV.out
def VN (T:List Nd) (B b:Nat) (nv:Value) (ub ob:Nat):Prop:=∀(i:Nat) (h:Nd) (ks:List Lt),kj T (.mk i h ks)→(∀u:Lt,u.size<Lt.al ks+1→kj T u→bA T B b nv ub ob u)→h.kind=24→bA T B b nv ub ob (.mk i h ks)
theorem xQ {T:List Nd} {B b:Nat} {nv:Value} {ub ob:Nat} (gp :∀x∈T,x.s.size≤65536∧∀s∈x.names,s.size≤65536) (NK:VN T B b nv ub ob) :∀(n:Nat) (t:Lt),t.size≤n→kj T t→bA T B b nv ub ob t
 | 0,t,hs,_=>by rw[NL] at hs;omega
 | n+1,.mk i h ks,hs,hn=>by
  have gY :∀u:Lt,u.size<Lt.al ks+1→kj T u→bA T B b nv ub ob u:=fun u hu AM=>xQ gp NK n u (by rw[Lt.size] at hs;omega) AM
  have hk:1≤h.kind∧h.kind≤32:=hn.kind;by_cases h6:h.kind=6
  ·exact Ui gp i h ks hn gY h6
  by_cases h7:h.kind=7
  ·exact Uj gp i h ks hn gY h7
  by_cases h11:h.kind=11
  ·exact PD gp i h ks hn gY h11
  by_cases mo:h.kind=18
  ·exact Py gp i h ks hn gY mo
  by_cases LI:h.kind=19
  ·exact Pw gp i h ks hn gY LI
  by_cases Qt:h.kind=23
  ·exact Pz gp i h ks hn gY Qt
  by_cases abu:h.kind=24
  ·exact NK i h ks hn gY abu
  by_cases Qu:h.kind=26
  ·exact PB gp i h ks hn gY Qu
  by_cases h27:h.kind=27
  ·exact PC gp i h ks hn gY h27
  by_cases Qv:h.kind=28
  ·exact Px gp i h ks hn gY Qv
  by_cases Fm:h.kind=30
  ·exact Pt gp i h ks hn gY Fm
  by_cases Fo:h.kind=31
  ·exact Pu gp i h ks hn gY Fo
  ·exact DW gp i h ks hn gY ⟨h6,h7,h11,mo,LI,Qt,abu,Qu,h27,Qv,Fm,Fo⟩
end Go.Proofs.YteflkdlaoiijbaaGreatDoor
namespace Go.Proofs.YteflkdlaoiijbaaGreatDoor
section
variable {P:Program} {ops:Array Oper} {Q:Exit→Act→World→Prop} {md:Region.Mode} {S:World→Prop} {n:Nat}
def bS (P:Program) (md:Region.Mode) (ops:Array Oper) (Q:Exit→Act→World→Prop) (S:World→Prop) (n:Nat):Nat→Array Bool→Act→World→Prop
 | 0,listed,a,w=>Region.ready md ops listed=[]∧Q .normal a w
 | g+1,listed,a,w=>(Region.ready md ops listed=[]→Q .normal a w) ∧
  ∀i∈Region.ready md ops listed,wpOp P ops Q i (fun a' w'=>(i<n→S w')∧bS P md ops Q S n g (listed.setIfInBounds i true) a' w') a w
theorem bS.any :∀(g:Nat) (listed:Array Bool) (a:Act) (w:World),bS P md ops Q S n g listed a w→wpAny P md ops Q g listed a w
 | 0,_,_,_,h=>h
 | g+1,_,_,_,h=>⟨h.1,fun i hi=>wpOp_mono (fun _ _ k=>bS.any g _ _ _ k.2) (h.2 i hi)⟩
def FY (md:Region.Mode) (ops:Array Oper) (n:Nat):Bool:=Region.noSelect ops && decide (n<ops.size) && Region.sinkB md ops n && Region.chainB md ops n
def FZ (md:Region.Mode) (ops:Array Oper) (n:Nat) (listed:Array Bool):Bool :=
 listed.size == ops.size && (List.range ops.size).all (fun j=>match ops[j]? with
  | some o=>!listed.getD j false || o.after.all fun e=>!Region.binds md e || listed.getD e.on false
  | none=>true) && (List.range ops.size).all fun t=>decide (t<n) || !listed.getD t true
theorem Jz {listed:Array Bool} (h:FZ md ops n listed=true):HeadInv md ops n listed:=by
 unfold FZ at h;simp only[cX,tN] at h;obtain⟨⟨h1,h2⟩,h3⟩:=h;refine⟨h1,fun j o hj hl e he hb=>?_,fun t ht Vs=>?_⟩
 ·have hjl:=(aI.1 hj).1
  have h4:=List.all_eq_true.1 h2 j (Ei.2 hjl);rw[hj] at h4;simp only[hl,Bool.not_true,Bool.false_or] at h4;have h5:=Array.all_eq_true'.1 h4 e he;rw[hb] at h5;simpa using h5
 ·have h4:=List.all_eq_true.1 h3 t (Ei.2 Vs)
  rw[bL (by omega)] at h4
  simpa using h4
theorem bS.first {i:Nat} {oi:Oper} {v:Value} (hi:ops[i]? = some oi) (ht:FY md ops n=true) (oa:i<n)
  (hQ :∀c a w,Q (.panic c) (a.put oi.dst v) w→Q (.panic c) a w) :
  ∀(g:Nat) (listed:Array Bool) (a:Act) (w:World),HeadInv md ops n listed →
   (∀j oj,ops[j]? = some oj→j≠i→listed.getD j true=false→(∀e∈oj.after,Region.binds md e=true→e.on≠i)→oi.apart ops oj=true) →
   i∈Region.ready md ops listed→YieldsIf P ops S oi v a→S w →
   bS P md ops Q S n g (listed.setIfInBounds i true) (a.put oi.dst v) w→bS P md ops Q S n (g+1) listed a w:=by
 have Vs:=ht;unfold FY at Vs;simp only[cX,iE] at Vs;obtain⟨⟨⟨adu,jB⟩,hsk⟩,hch⟩:=Vs;have sel:=Region.noSelect_spec adu;intro g;induction g with
 | zero =>
  intro listed a w inv _ hr hy hS H;refine⟨fun h=>(by rw[h] at hr;cases hr),fun j hj=>?_⟩
  by_cases QD:j=i
  ·subst QD;exact hy.wpOp hi hS ⟨fun _=>hS,H⟩
  ·have h1:=ready_mono hj QD
   rw[H.1] at h1;cases h1
 | succ g ih =>
  intro listed a w inv VO hr hy hS H;have XT:=(mem_ready.1 hr).1;refine⟨fun h=>(by rw[h] at hr;cases hr),fun j hj=>?_⟩
  by_cases QD:j=i
  ·subst QD;exact hy.wpOp hi hS ⟨fun _=>hS,H⟩
  ·have hjn:j<n:=by
    rcases Em j n with h|h
    ·exact h
    ·exact absurd hj (tail_waits hsk hch jB inv _ i rfl oa XT j h)
   obtain⟨abv,oj,hoj,hall⟩:=mem_ready.1 hj;have adv :∀e∈oj.after,Region.binds md e=true→e.on≠i:=fun e he hb heq=>by
    have h1:=hall e he hb;rw[heq,getD_both XT] at h1;cases h1
   refine wpOp_mono (fun a' w' k=>⟨fun _=>k.2.1 hjn,ih _ a' w' (inv.set hj hjn) (fun x ox hx YR hxu hno=>VO x ox hx YR ?_ hno) (ready_mono hr (Ne.symm QD)) k.1 (k.2.1 hjn) ?_⟩)
    (wpOp_putIf hoj (VO j oj hoj QD abv adv) (fun cs b=>sel i oi cs b hi) (fun cs b=>sel j oj cs b hoj) hQ hy (H.2 j (ready_mono hj QD)))
   ·by_cases hjx:j=x
    ·subst hjx;exact abv
    ·rw[getD_set_ne true hjx] at hxu;exact hxu
   ·rw[Array.setIfInBounds_comm _ _ QD]
    exact k.2.2
theorem bS.take {i:Nat} {oi:Oper} {v:Value} {g:Nat} {listed:Array Bool} {a:Act} {w:World} (hi:ops[i]? = some oi) (ht:FY md ops n=true) (oa:i<n)
  (hh:FZ md ops n listed=true) (hf:Region.free md ops listed i=true) (hr:(Region.ready md ops listed).contains i=true)
  (hQ :∀c a w,Q (.panic c) (a.put oi.dst v) w→Q (.panic c) a w) (hw:Region.wanted oi (yielded ops a.tmps)=true) (hy :∀w,S w→(execOp a.eval oi).run P w=.ok (.value v) w) (hS:S w)
  (h:bS P md ops Q S n g (listed.setIfInBounds i true) (a.put oi.dst v) w):bS P md ops Q S n (g+1) listed a w :=
 bS.first hi ht oa hQ g listed a w (Jz hh) (Region.free_spec hi hf) (by simpa using hr) (.inl ⟨hw,hy⟩) hS h
theorem bS.one {i:Nat} {o:Oper} {g:Nat} {listed:Array Bool} {a:Act} {w:World} (hr:Region.ready md ops listed=[i]) (ho:ops[i]? = some o)
  (h :∀K:Act→World→Prop,Shut (∀a w,(i<n→S w)→bS P md ops Q S n g (listed.setIfInBounds i true) a w→K a w)→if Region.wanted o (yielded ops a.tmps)=true then Oper.wp P o a w K Q else K (a.put o.dst undef) w):bS P md ops Q S n (g+1) listed a w:=by
 refine⟨fun h0=>(by rw[hr] at h0;cases h0),fun j hj=>?_⟩
 rw[hr,bP] at hj;subst hj;exact wpOp_step ho fun K hK=>h K fun a w h1 h2=>hK a w ⟨h1,h2⟩
theorem bS.two {i j:Nat} {o o':Oper} {g:Nat} {listed:Array Bool} {a:Act} {w:World} (hr:Region.ready md ops listed=[i,j]) (ho:ops[i]? = some o) (ho':ops[j]? = some o')
  (h :∀K:Act→World→Prop,Shut (∀a w,(i<n→S w)→bS P md ops Q S n g (listed.setIfInBounds i true) a w→K a w)→if Region.wanted o (yielded ops a.tmps)=true then Oper.wp P o a w K Q else K (a.put o.dst undef) w)
  (h' :∀K:Act→World→Prop,Shut (∀a w,(j<n→S w)→bS P md ops Q S n g (listed.setIfInBounds j true) a w→K a w)→if Region.wanted o' (yielded ops a.tmps)=true then Oper.wp P o' a w K Q else K (a.put o'.dst undef) w):bS P md ops Q S n (g+1) listed a w:=by
 refine⟨fun h0=>(by rw[hr] at h0;cases h0),fun x hx=>?_⟩
 rw[hr] at hx;simp only[bn,oM,oP] at hx;rcases hx with rfl|rfl
 ·exact wpOp_step ho fun K hK=>h K fun a w h1 h2=>hK a w ⟨h1,h2⟩
 ·exact wpOp_step ho' fun K hK=>h' K fun a w h1 h2=>hK a w ⟨h1,h2⟩
theorem bS.done {listed:Array Bool} {a:Act} {w:World} (hr:Region.ready md ops listed=[]) (h:Q .normal a w) :∀g,bS P md ops Q S n g listed a w
 | 0=>⟨hr,h⟩
 | _+1=>⟨fun _=>h,by rw[hr];simp⟩
theorem bS.PE {id:Nat} {a:Act} {w:World} (hm:P.follows .mixedOrders=true) (h:bS P .any ops Q S n ops.size (Array.replicate ops.size false) a w.drew):(Code.region id ops true).wp P Q a w :=
 wp_region_any hm (bS.any _ _ _ _ h)
def eo (ops:Array Oper) (i:Nat) (F:Oper→Prop):Prop:=match ops[i]? with|some o=>F o|none=>False
theorem eo.ex {i:Nat} {F:Oper→Prop} (h:eo ops i F) :∃o,ops[i]? = some o∧F o:=by
 unfold eo at h;split at h
 ·exact⟨_,‹_›,h⟩
 ·cases h
theorem bS.e9 {g:Nat} {listed:Array Bool} {a:Act} {w:World} (i:Nat) (v:Value) (ht:FY md ops n=true) (oa:i<n)
  (hh:FZ md ops n listed=true) (hf:Region.free md ops listed i=true) (hr:(Region.ready md ops listed).contains i=true)
  (hQ :∀c a d w,Q (.panic c) (Act.put a (some d) v) w→Q (.panic c) a w) (hS:S w)
  (h:eo ops i fun oi=>oi.dst.isSome=true∧Region.wanted oi (yielded ops a.tmps)=true∧(∀w,S w→(execOp a.eval oi).run P w=.ok (.value v) w)∧bS P md ops Q S n g (listed.setIfInBounds i true) (a.put oi.dst v) w):bS P md ops Q S n (g+1) listed a w:=by
 obtain⟨o,ho,h0,h1,h2,h3⟩:=h.ex;obtain⟨d,hd⟩:=zD.1 h0;exact bS.take ho ht oa hh hf hr (fun c a w hp=>hQ c a d w (by rw[hd] at hp;exact hp)) h1 h2 hS h3
theorem bS.jQ {g:Nat} {listed:Array Bool} {a:Act} {w:World} (i:Nat) (hr:Region.ready md ops listed=[i])
  (h :∀K:Act→World→Prop,Shut (∀a w,(i<n→S w)→bS P md ops Q S n g (listed.setIfInBounds i true) a w→K a w)→eo ops i fun o=>if Region.wanted o (yielded ops a.tmps)=true then Oper.wp P o a w K Q else K (a.put o.dst undef) w):bS P md ops Q S n (g+1) listed a w:=by
 cases ho:ops[i]? with
 | none =>
  have h1:=h (fun _ _=>True) (fun _ _ _ _=>trivial)
  unfold eo at h1;rw[ho] at h1;cases h1
 | some o =>
  refine bS.one hr ho fun K hK=>?_
  have h1:=h K hK;unfold eo at h1;rw[ho] at h1;exact h1
theorem bS.Zd {g:Nat} {listed:Array Bool} {a:Act} {w:World} (i j:Nat) (hr:Region.ready md ops listed=[i,j])
  (h :∀K:Act→World→Prop,Shut (∀a w,(i<n→S w)→bS P md ops Q S n g (listed.setIfInBounds i true) a w→K a w)→eo ops i fun o=>if Region.wanted o (yielded ops a.tmps)=true then Oper.wp P o a w K Q else K (a.put o.dst undef) w)
  (h' :∀K:Act→World→Prop,Shut (∀a w,(j<n→S w)→bS P md ops Q S n g (listed.setIfInBounds j true) a w→K a w)→eo ops j fun o=>if Region.wanted o (yielded ops a.tmps)=true then Oper.wp P o a w K Q else K (a.put o.dst undef) w):bS P md ops Q S n (g+1) listed a w:=by
 cases ho:ops[i]? with
 | none =>
  have h1:=h (fun _ _=>True) (fun _ _ _ _=>trivial)
  unfold eo at h1;rw[ho] at h1;cases h1
 | some o =>
  cases ho':ops[j]? with
  | none =>
   have h1:=h' (fun _ _=>True) (fun _ _ _ _=>trivial)
   unfold eo at h1;rw[ho'] at h1;cases h1
  | some o' =>
   refine bS.two hr ho ho' (fun K hK=>?_) fun K hK=>?_
   ·have h1:=h K hK
    unfold eo at h1;rw[ho] at h1;exact h1
   ·have h1:=h' K hK
    unfold eo at h1;rw[ho'] at h1;exact h1
end
end Go.Proofs.YteflkdlaoiijbaaGreatDoor
