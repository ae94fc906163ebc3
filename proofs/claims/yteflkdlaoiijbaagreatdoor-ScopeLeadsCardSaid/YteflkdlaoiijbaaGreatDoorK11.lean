/- Parts of the proof. -/
import Derived.Test.YteflkdlaoiijbaaGreatDoorK10
set_option maxHeartbeats 16000000
set_option maxRecDepth 20000
namespace Go.Proofs.YteflkdlaoiijbaaGreatDoor
open Go.RowKit Go.Shelf
section
attribute [local go_sem] Oper.semAt_some
def Bv (B b:Nat) (nv:Value) (N ub ob:Nat) (st:aH) (f:Nat) (s:ByteArray) (w:World) (e:Ending) (w':World):Prop :=
 Below B w w'∧Fr [52,61,59] w w'∧match st.names.find? fun n=>decide (n.s=s) with
 | none=>e=.returned (.tuple #[.agg #[.int .i64 0,.int .i64 0],.iface 79 (.int .i64 16)])∧jN w' B b nv N st ub ob
 | some n=>match fC n st.fns.length f st.fns with
  | some (F,k,i)=>e=.returned (.tuple #[.agg #[.int .i64 k,.int .i64 (i:Int)],.nilIface])∧jN w' B b nv N { st with fns:=F} ub ob
  | none=>e=.returned (.tuple #[.agg #[.int .i64 0,.int .i64 0],.iface 79 (.int .i64 12)])
theorem fZ {W:World} {o x:Obj} {k:Nat} (h:W.heap[k]? = some x):(W.alloc o).heap[k]? = some x:=(Below.heap_alloc W o k (aF.1 h).1).trans h
theorem rV {W:World} {o:Obj} {n:Nat} (h:W.heap.size=n):(W.alloc o).heap[n]? = some o:=by rw[←h];exact heap_alloc_new W o
theorem I0 (w:World) (o1 o2 o3 o4 o5 o6:Obj) {W:World} (h:((((((w.alloc o1).alloc o2).alloc o3).alloc o4).alloc o5).alloc o6)=W):W.heap.size=w.heap.size+1+1+1+1+1+1∧Below w.heap.size w W∧W.heap[w.heap.size]? = some o1∧W.heap[w.heap.size+1]? = some o2∧W.heap[w.heap.size+1+1]? = some o3∧W.heap[w.heap.size+1+1+1]? = some o4∧W.heap[w.heap.size+1+1+1+1]? = some o5∧W.heap[w.heap.size+1+1+1+1+1]? = some o6:=by
 subst h;refine⟨by rw[an,an,an,an,an,an],(((((((Below.refl _ w).alloc (ah _) _).alloc (by rw[an];omega) _).alloc (by rw[an,an];omega) _).alloc (by rw[an,an,an];omega) _).alloc (by rw[an,an,an,an];omega) _).alloc (by rw[an,an,an,an,an];omega) _),fZ (fZ (fZ (fZ (fZ (rV rfl))))),fZ (fZ (fZ (fZ (rV (by rw[an]))))),fZ (fZ (fZ (rV (by rw[an,an])))),fZ (fZ (rV (by rw[an,an,an]))),fZ (rV (by rw[an,an,an,an])),rV (by rw[an,an,an,an,an])⟩
structure Ti (W W':World):Prop where
 size:W.heap.size≤W'.heap.size
 cells :∀(k:Nat) c (e:TypeId) fz,W.heap[k]? = some (.cells c e fz)→W'.heap[k]? = some (.cells c e fz)
theorem Ti.row {W W':World} {B e s n:Nat} {v:Value} {xs:List Value} (h:Ti W W') (hr:W.ownsRow B e s v n xs):W'.ownsRow B e s v n xs:=by
 refine⟨hr.1,?_⟩;rcases hr.2 with hn | ⟨g,cap,cur,rfl,hB,hg,rest⟩
 ·exact .inl hn
 ·exact .inr ⟨g,cap,cur,rfl,hB,h.cells g _ _ _ hg,rest⟩
theorem jN.Zz {W W':World} {B b:Nat} {nv:Value} {N:Nat} {st:aH} {ub ob:Nat} (h:jN W B b nv N st ub ob) (k:Ti W W'):jN W' B b nv N st ub ob:=by
 obtain⟨fv,L,h⟩:=h;exact⟨fv,L,k.cells b _ _ _ h.blk,⟨k.row h.fns.row,fun t ht=>k.row (h.fns.vars t ht),fun t ht=>k.row (h.fns.ch t ht),h.fns.pD,h.fns.qB⟩,h.are,k.row h.uses,k.row h.mC,h.pos⟩
theorem Ti.of {W W':World} {row:Option Nat} {B:Nat} (hg:W.grownBy W' row) (hr :∀r,row=some r→B≤r∧∃o:Obj,W.heap[r]? = some o∧o.isCells=false):Ti W W' :=
 ⟨hg.size,fun k c e fz hk=>(hg.block k (aF.1 hk).1 fun e'=>by
  obtain⟨_,o,ho,hc⟩:=hr k e'.symm;rw[hk] at ho;injection ho with ho;subst ho;cases hc).trans hk⟩
theorem Oq {E:List Nat} {w W W':World} {row:Option Nat} {B:Nat} (hB:w.heap.size≤B) (h:Fr E w W) (hg:W.grownBy W' row) (hr :∀r,row=some r→B≤r∧∃o:Obj,W.heap[r]? = some o∧o.isCells=false):Fr E w W' :=
 h.past (fun k hk=>hg.block k (by have:=h.size;omega) fun e=>by have:=(hr k e.symm).1;omega) hg.size
theorem xC {n:Nat} {w W W':World} {row:Option Nat} {B:Nat} (hB:n≤B) (hn:n≤W.heap.size) (h:Below n w W) (hg:W.grownBy W' row) (hr :∀r,row=some r→B≤r∧∃o:Obj,W.heap[r]? = some o∧o.isCells=false):Below n w W' :=
 ⟨hg.os.trans h.os,hg.tape.trans h.tape,hg.output.trans h.output,aM h.size hg.size,fun k hk=>(hg.block k (by omega) fun e=>by have:=(hr k e.symm).1;omega).trans (h.block k hk)⟩
theorem jN.later {W W':World} {B b:Nat} {nv:Value} {N:Nat} {st:aH} {ub ob:Nat} (h:jN W B b nv N st ub ob) (hb:Below W.heap.size W W'):jN W' B b nv N st ub ob:=by
 obtain⟨fv,L,h⟩:=h;exact⟨fv,L,h.later hb⟩
theorem Fv :∀{L:List cS} {x:Nat×cS},x∈ti L→x.2∈L
 | l::r,x,h=>by
  rw[ti] at h;rcases bc.1 h with rfl|h
  ·exact bT ..
  ·exact cr _ (Fv h)
theorem Fw :∀L:List cS,(ti L).map (·.2)=L
 | []=>rfl
 | l::r=>by rw[ti,eP,Fw r]
theorem Fx (L:List cS):(ti L).attach.map (fun x=>x.1.2)=L:=by
 have:(ti L).attach.map (fun x=>x.1.2)=((ti L).attach.map Subtype.val).map (·.2):=by rw[tU];rfl
 rw[this,List.attach_map_subtype_val,Fw]
theorem Ot {L:List cS} {s:ByteArray} (h :∀y∈(ti L).attach,jT y.1.2.iC s=none):(mo L).find? (fun n=>decide (n.s=s))=none:=by
 rw[rU];have:L.find? (fun l=>(jT l.iC s).isSome)=none:=by
  rw[Ec];intro l hl;have h1:l∈(ti L).attach.map (fun x=>x.1.2):=by rw[Fx];exact hl
  obtain⟨y,hy,e⟩:=eQ.1 h1;rw[←e,h y hy];simp
 rw[this];rfl
theorem Bw {L:List cS} {s:ByteArray} {pre:List (Th L)} {x:Th L} {n:jn} (hp:pre++[x] <+: (ti L).attach) (h :∀y∈pre,jT y.1.2.iC s=none) (hx:(x.1.2.iC.find? fun n=>decide (n.s=s))=some n):(mo L).find? (fun n=>decide (n.s=s))=some n:=by
 obtain⟨t,ht⟩:=hp;have e:L=(pre.map fun x=>x.1.2)++x.1.2::t.map fun x=>x.1.2:=by
  refine(Fx L).symm.trans ?_;rw[←ht];simp
 rw[rU];have:L.find? (fun l=>(jT l.iC s).isSome)=some x.1.2:=by
  refine(aB (List.find? fun l=>(jT l.iC s).isSome) e).trans ?_
  rw[List.find?_append];have h1:(pre.map fun x=>x.1.2).find? (fun l=>(jT l.iC s).isSome)=none:=by
   rw[Ec];intro l hl;obtain⟨y,hy,e⟩:=eQ.1 hl;rw[←e,h y hy];simp
  rw[h1,Option.none_or,kM];have h2:(jT x.1.2.iC s).isSome=true:=by unfold jT;rw[hx];rfl
  rw[h2]
 rw[this];exact hx
structure I2 (W:World) (r q:Nat) (k i:Int) (ev:Value):Prop where
 use:W.heap[r]? = some (.cells #[.int .i64 k,.int .i64 i] 57 (0,0))
 err:W.heap[q]? = some (.cells #[ev] 27 (0,0))
theorem Yl {W:World} {r q:Nat} (hne:r≠q) {x y z:Value} (h4:W.heap[r]? = some (.cells #[x,y] 57 (0,0))) (h5:W.heap[q]? = some (.cells #[z] 27 (0,0))) (k i:Int) (ev:Value):I2 (((W.setCell ⟨r,0,none⟩ (.int .i64 k)).setCell ⟨r,1,none⟩ (.int .i64 i)).setCell ⟨q,0,none⟩ ev) r q k i ev :=
 ⟨(Below.heap_setCell _ _ _ r hne).trans (yY h4 _ _),by
  have:=bt ((qE W r (.int .i64 k) (.int .i64 i) q fun e=>hne e.symm).trans h5) 0 ev
  simpa using this⟩
theorem Tj (W:World) (r q:Nat) (a c v:Value) (k:Nat) (h1:k≠r) (h2:k≠q):(((W.setCell ⟨r,0,none⟩ a).setCell ⟨r,1,none⟩ c).setCell ⟨q,0,none⟩ v).heap[k]? = W.heap[k]?:=(Below.heap_setCell _ _ _ k h2).trans (qE W r a c k h1)
theorem Ou (W:World) (r q:Nat) (a c v:Value):(((W.setCell ⟨r,0,none⟩ a).setCell ⟨r,1,none⟩ c).setCell ⟨q,0,none⟩ v).heap.size=W.heap.size:=by simp[World.setCell]
theorem Ov (B:Nat) {E:List Nat} {W W1:World} (h:Fr E W W1) (r q:Nat) (a c v:Value):KeepsFrom B W (((W1.setCell ⟨r,0,none⟩ a).setCell ⟨r,1,none⟩ c).setCell ⟨q,0,none⟩ v) :=
 KeepsFrom.trans (Y:=W1) ⟨h.size,fun k o _ hk ho=>h.others k o hk fun _ _ _ e=>by subst e;cases ho⟩ ((((KeepsOthers.setCell _ _ _).trans (KeepsOthers.setCell _ _ _)).trans (KeepsOthers.setCell _ _ _)).from B)
theorem jN.fr {W W':World} {B b:Nat} {nv:Value} {N:Nat} {st:aH} {ub ob:Nat} {E:List Nat} (h:jN W B b nv N st ub ob) (k:Fr E W W') (he:(87:Nat)∉E∧(52:Nat)∉E∧(61:Nat)∉E∧(59:Nat)∉E∧(57:Nat)∉E∧(3:Nat)∉E):jN W' B b nv N st ub ob:=by
 obtain⟨fv,L,h⟩:=h;exact⟨fv,L,h.fr k he⟩
theorem rs9 {W:World} {B b:Nat} {nv:Value} {N:Nat} {st:aH} {ub ob:Nat} (h:jN W B b nv N st ub ob) {r q:Nat} (hr:vP W r 57) (hq:vP W q 27) (hne:r≠ub) (a c v:Value):jN (((W.setCell ⟨r,0,none⟩ a).setCell ⟨r,1,none⟩ c).setCell ⟨q,0,none⟩ v) B b nv N st ub ob :=
 ((h.fU hr hne _ _).fU (hr.set _ _ _) hne _ _).fr (E:=[27]) (((hq.set _ _ _).set _ _ _).fr (by decide) _ _) (by decide)
def Fy (w:World) (B b:Nat) (nv:Value) (N ub ob:Nat) (st:aH) (f:Nat) (s:ByteArray) (L:List cS) (r q:Nat) (pre:List (Th L)) (W:World):Prop :=
 (∃(pre':List (Th L)) (x:Th L) (n:jn),pre=pre'++[x]∧(∀y∈pre',jT y.1.2.iC s=none)∧(x.1.2.iC.find? fun n=>decide (n.s=s))=some n∧match fC n st.fns.length f st.fns with
  | some (F,k,i)=>I2 W r q k i .nilIface∧jN W B b nv N { st with fns:=F} ub ob
  | none=>I2 W r q 0 0 (.iface 79 (.int .i64 12)))∧Fr [52,61,59] w W∧Below B w W
theorem I2.Zz {W W':World} {r q:Nat} {k i:Int} {ev:Value} (h:I2 W r q k i ev) (c:Ti W W'):I2 W' r q k i ev:=⟨c.cells _ _ _ _ h.use,c.cells _ _ _ _ h.err⟩
theorem Fy.own {w:World} {B b:Nat} {nv:Value} {N ub ob:Nat} {st:aH} {f:Nat} {s:ByteArray} {L:List cS} {r q:Nat} {pre:List (Th L)} {W W':World} {row:Option Nat} {D:Nat} (hD:w.heap.size≤D) (hB:B≤w.heap.size) (h:Fy w B b nv N ub ob st f s L r q pre W) (hg:W.grownBy W' row) (hr :∀r,row=some r→D≤r∧∃o:Obj,W.heap[r]? = some o∧o.isCells=false):Fy w B b nv N ub ob st f s L r q pre W':=by
 obtain⟨⟨pre',x,n,h1,h2,h3,h4⟩,h5,h6⟩:=h;have c:=Ti.of hg hr;refine⟨⟨pre',x,n,h1,h2,h3,?_⟩,Oq hD h5 hg hr,xC (by omega) (by have:=h6.size;omega) h6 hg hr⟩
 cases hR:fC n st.fns.length f st.fns with
 | none=>rw[hR] at h4;exact h4.Zz c
 | some r=>obtain⟨F,k,i⟩:=r;rw[hR] at h4;exact⟨h4.1.Zz c,h4.2.Zz c⟩
set_option maxRecDepth 100000 in
theorem I3 {B:Nat} {nv:Value} {N ub ob:Nat} (b f:Nat) (s:ByteArray) (loop:Int) (pa la:Option Addr) (lc:Nat) (L:List cS) (st:aH) (w:World) (hw:jN w B b nv N st ub ob) (hl:dk w B (.slice la L.length lc) L) (hn:st.names=mo L) (qV:Cx f st) (oB:dW st.fns) (IU:st.fns.length≤100000) (wZ:L.length≤100000) (hs:s.size≤maxLen) :
  Calls Tryz.prog 109 #[.pointer (some ⟨b,0,none⟩),.string s,.agg #[.int .i64 (f:Int),.int .i64 loop,.pointer pa,.slice la L.length lc]] w (Bv B b nv N ub ob st f s w):=by
 refine(callsIn_wide (n:=3)).1 ?_;have HW:=aa hw;have HL:=aa hl;have HN:=aa hn;have Ym:=aa qV;have Tf:=aa oB;clear hw hl hn qV oB;refine callsIn_of_wp_marks Tryz.func109 rfl trivial ?_ rfl;simp only[Tryz.ntmps109,Ef,List.length_cons,List.length_nil,Nat.reduceAdd,Nat.reduceSub,J2,J3,Ka,J4,sj,iJ];gi_wp2_with (first|(refine⟨trivial,?_⟩;gi_at_call 160;refine(callsIn_wide.2 (Bu _ _ _ _)).mono ?_;rintro e w' ⟨rfl,rfl⟩)|(gi_at_call 160;refine(callsIn_wide.2 (Bu _ _ _ _)).mono ?_;rintro e w' ⟨rfl,rfl⟩))
 obtain⟨W0,hW0⟩ :∃W0,((((((w.alloc (.cells #[.pointer (some ⟨b,0,none⟩)] 142)).alloc (.cells #[.string s] 9)).alloc (.cells #[.int .i64 (f:Int),.int .i64 loop,.pointer pa,.slice la L.length lc] 92)).alloc (.cells #[.int .i64 0,.int .i64 0] 57)).alloc (.cells #[.nilIface] 27)).alloc (.cells #[.slice la L.length lc] 90))=W0:=⟨_,rfl⟩;obtain⟨hsz,hb0,o1,o2,o3,o4,o5,o6⟩:=I0 w _ _ _ _ _ _ hW0;rw[hW0];obtain⟨cC,pE⟩:B≤w.heap.size∧ub<w.heap.size:=by
  obtain⟨_,_,h⟩:=HW.out;exact⟨aM h.pos (fx h.gR.1),h.gR.2.1⟩
 have Od:=aa hb0;have qF:=aa hsz;have H1:=aa o1;have H2:=aa o2;have H3:=aa o3;have H4:=aa o4;have H5:=aa o5;have c6:=ab o6 0;clear o1 o2 o3 o4 o5 o6 hW0 hsz hb0;have HR0:=aa (oc HL.out.row Od.out);have hown :∀g,(Value.slice la L.length lc).ownBlock=some g→g<W0.heap.size:=fun g hg=>by
  have h1:=(HR0.out.lt g hg).2;exact h1
 refine wpIn_rangeFunc_ownH (α:=Th L) rfl (by omega) (gf:=188) (lb:=#[.pointer (some ⟨w.heap.size+1+1+1+1+1,0,none⟩)]) rfl trivial (enters_of Tryz.func188 (by kernel_rfl) rfl)
  (DO Fence.wide 2 trivial rfl (by omega) (w.heap.size+1+1+1+1+1) W0.heap.size B (.slice la L.length lc) L (by omega) W0 (by rw[qF.out];omega) (ah _) c6 HR0.out hown) belowK_t (belowK_b (ah _)) (Below.refl _ _) (fun _=>rfl)
  (fun pre W=>(∀y∈pre,jT y.1.2.iC s=none)∧Below W0.heap.size W0 W)
  (fun c pre W=>c=.ret∧Fy w B b nv N ub ob st f s L (w.heap.size+1+1+1) (w.heap.size+1+1+1+1) pre W)
  (OwnFrom.and (ownFrom_pure _ _) (ownFrom_below (ah _) (ah _)))
  (fun c=>OwnFrom.and (ownFrom_pure _ _) (fun pre W W' row hs hg hr=>hs.own (by rw[qF.out];omega) cC hg hr))
  ⟨fun y hy=>(by cases hy),Below.refl _ _⟩
  (fun x a' W=>∃Bx,W0.heap.size≤Bx∧W.heap[Bx]? = some (.cells #[.int .i64 (x.1.2.fn:Int),.map (some x.1.2.blk)] 238 (0,0))∧a'={ tmps:=#[.pointer (some ⟨b,0,none⟩),.string s,.agg #[.int .i64 (f:Int),.int .i64 loop,.pointer pa,.slice la L.length lc],.pointer (some ⟨w.heap.size,0,none⟩),.pointer (some ⟨w.heap.size+1,0,none⟩),.pointer (some ⟨w.heap.size+1+1,0,none⟩),.pointer (some ⟨w.heap.size+1+1+1,0,none⟩),.pointer (some ⟨w.heap.size+1+1+1+1,0,none⟩),undef,.pointer (some ⟨Bx,0,none⟩),undef,undef,.pointer (some ⟨w.heap.size+1+1,3,none⟩),.slice la L.length lc,.func (.func 188) #[] #[.pointer (some ⟨w.heap.size+1+1+1+1+1,0,none⟩)],.int .i64 (x.1.1:Int),.agg #[.int .i64 (x.1.2.fn:Int),.map (some x.1.2.blk)],undef,undef,undef,undef,undef,undef,undef,undef,undef,undef,undef,undef,undef,undef,undef,undef,undef,undef,undef],defers:=[]})
  (fun x a' pre W W' row hs hg hr=>by
   obtain⟨Bx,h1,h2,h3⟩:=hs;exact⟨Bx,h1,(Ti.of hg hr).cells _ _ _ _ h2,h3⟩) ?assign ?body ?done ?stop
 case assign =>
  rintro l pre ⟨⟨i,y⟩,hm⟩ W K ⟨hp,hb⟩ hK;dsimp only[Tg]
  gi_wp2
  exact hK _ _ ((KeepsOthers.alloc _ _).from _) ((Below.refl _ W).alloc hb.size _) ⟨hp,hb.alloc hb.size _⟩ ⟨W.heap.size,hb.size,heap_alloc_new _ _,rfl⟩
 case body =>
  rintro l pre ⟨⟨i,y⟩,hm⟩ a' W hl' ⟨r,hr⟩ ⟨hp,hb⟩ ⟨Bx,hBx,db,rfl⟩ hlt;have hy:=Fv hm;dsimp only
  have tb:=Od.out.trans (hb.mono (by rw[qF.out];omega))
  obtain⟨ZA,hmB⟩:=HL.out.maps y hy;have hmw:dP Tryz.prog 9 W y.blk y.iC.length (jT y.iC):=ZA.same (tb.block _ ZA.lt);have hrun:=hmw.look (t:=236) (e:=3) Tryz.underlying9 Tryz.underlying236 (z:=.int .i64 0) (by kernel_rfl) rfl s hs
  have y0:=ab db 0;have y1:=ab db 1;replace y0:_=some (Value.int .i64 (y.fn:Int)):=y0;replace y1:_=some (Value.map (some y.blk)):=y1;have q1:=(hb.block _ (by rw[qF.out];omega)).trans H1.out
  have q2:=(hb.block _ (by rw[qF.out];omega)).trans H2.out
  have q3:=(hb.block _ (by rw[qF.out];omega)).trans H3.out
  have q4:=(hb.block _ (by rw[qF.out];omega)).trans H4.out
  have q5:=(hb.block _ (by rw[qF.out];omega)).trans H5.out
  have d1:=ab q1 0;have d2:=ab q2 0;have d3:=ab q3 0;replace d1:_=some (Value.pointer (some ⟨b,0,none⟩)):=d1;replace d2:_=some (Value.string s):=d2;replace d3:_=some (Value.int .i64 (f:Int)):=d3;have HP:=aa hp;have ux:=aa hb;have jR:=aa tb;have HYL:=aa hy;have Q4:=aa q4;have Q5:=aa q5;have HLR:=aa hr;clear hp hb tb ZA hmB hmw q1 q2 q3 q4 q5 db hr;cases rW:jT y.iC s with
  | none =>
   rw[rW] at hrun;replace hrun:_=Result.ok (Value.tuple #[.int .i64 0,.bool false]) W:=hrun;gi_wp2
   refine⟨KeepsFrom.refl _ _,Below.refl _ _,?_,ux.out⟩;intro a2 b2 hm2 hz;rcases cU.1 hz with hz|hz
   ·exact HP.out _ hz
   ·rw[bZ] at hz
    injection hz with hz;injection hz with _ hz;rw[hz];exact rW
  | some v =>
   obtain⟨n,wJ,uH⟩ :∃n,(y.iC.find? fun n=>decide (n.s=s))=some n∧v=.int .i64 (n.i:Int):=by
    unfold jT at rW;cases e:y.iC.find? fun n=>decide (n.s=s) with
    | none=>rw[e] at rW;cases rW
    | some n=>rw[e] at rW;injection rW with rW;exact⟨n,rfl,rW.symm⟩
   subst uH;rw[rW] at hrun;replace hrun:_=Result.ok (Value.tuple #[.int .i64 (n.i:Int),.bool true]) W:=hrun;have JL:n∈y.iC:=JT wJ;have hfn:=HL.out.own y HYL.out n JL;rw[←hfn] at y0;have kI:n∈st.names:=by
    rw[HN.out];exact mH.2 ⟨y,HYL.out,JL⟩
   have HNN:=aa kI;have JI:=aa wJ;have HSEG:=aa rW;clear kI wJ rW JL hfn;have je:=aa (HW.out.later jR.out);obtain⟨DN,yf,vf,hyf,hvf,SI⟩:=Ym.out.names n HNN.out;have HLD:=aa (Ok b n st.fns.length f st W Ym.out.lt je.out Ym.out.ok Tf.out DN ⟨yf,vf,hyf,hvf,SI⟩ Ym.out.lt IU);have q4:=Q4.out;have q5:=Q5.out;gi_wp2_with fail
   refine⟨trivial,(CallsIn.inRound l (callsIn_wide.2 HLD.out)).mono ?_⟩;rintro e w1 ⟨b1,f1,h1⟩;have ZB:=f1.cells _ _ _ _ q4 (by decide)
   have q5':=f1.cells _ _ _ _ q5 (by decide)
   have r0:=ab ZB 0;have r1:=ab ZB 1;have r2:=ab q5' 0;have z0:=av ZB 0;have z1:=av ZB 1;have z2:=av q5' 0;replace r0:_=some (Value.int .i64 0):=r0;replace r1:_=some (Value.int .i64 0):=r1;replace r2:_=some Value.nilIface:=r2;have fA:=aa f1;have dL:=aa b1;have Q4':=aa ZB;have Q5':=aa q5';clear b1 f1 q4 q5 ZB q5' hyf hvf DN SI;cases hR:fC n st.fns.length f st.fns with
   | none =>
    rw[hR] at h1;subst h1;have HR:=aa hR;clear hR;gi_wp2
    refine⟨Ov _ fA.out _ _ _ _ _,rfl,⟨pre,⟨(i,y),hm⟩,n,rfl,HP.out,JI.out,?_⟩,((Fr.ae jR.out).trans fA.out).past (fun k hk=>Tj _ _ _ _ _ _ k (by omega) (by omega)) (by rw[Ou];exact ah _),((((jR.out.mono cC).trans dL.out).setCell (p:=⟨w.heap.size+1+1+1,0,none⟩) (by show B≤w.heap.size+1+1+1;omega) _).setCell (p:=⟨w.heap.size+1+1+1,1,none⟩) (by show B≤w.heap.size+1+1+1;omega) _).setCell (p:=⟨w.heap.size+1+1+1+1,0,none⟩) (by show B≤w.heap.size+1+1+1+1;omega) _⟩
    rw[HR.out];exact Yl (by omega) Q4'.out Q5'.out 0 0 _
   | some r =>
    obtain⟨F1,k1,i1⟩:=r;rw[hR] at h1;obtain⟨rfl,ef⟩:=h1;have HR:=aa hR;have lz:=aa ef;clear hR ef;gi_wp2
    refine⟨Ov _ fA.out _ _ _ _ _,rfl,⟨pre,⟨(i,y),hm⟩,n,rfl,HP.out,JI.out,?_⟩,((Fr.ae jR.out).trans fA.out).past (fun k hk=>Tj _ _ _ _ _ _ k (by omega) (by omega)) (by rw[Ou];exact ah _),((((jR.out.mono cC).trans dL.out).setCell (p:=⟨w.heap.size+1+1+1,0,none⟩) (by show B≤w.heap.size+1+1+1;omega) _).setCell (p:=⟨w.heap.size+1+1+1,1,none⟩) (by show B≤w.heap.size+1+1+1;omega) _).setCell (p:=⟨w.heap.size+1+1+1+1,0,none⟩) (by show B≤w.heap.size+1+1+1+1;omega) _⟩
    rw[HR.out];exact⟨Yl (by omega) Q4'.out Q5'.out k1 i1 _,rs9 lz.out ⟨_,_,Q4'.out⟩ ⟨_,_,Q5'.out⟩ (by omega) _ _ _⟩
 case done =>
  rintro D ys W hD rfl ⟨hp,hb⟩ hK;have q4:=(hb.block _ (by rw[qF.out];omega)).trans H4.out
  have q5:=(hb.block _ (by rw[qF.out];omega)).trans H5.out
  have r0:=ab q4 0;have r1:=ab q4 1;have r2:=ab q5 0;have z0:=av q4 0;have z1:=av q4 1;have z2:=av q5 0;replace r0:_=some (Value.int .i64 0):=r0;replace r1:_=some (Value.int .i64 0):=r1;replace r2:_=some Value.nilIface:=r2;have jR:=aa (Od.out.trans (hb.mono (by rw[qF.out];omega)))
  have HDN:Hid ((mo L).find? (fun n=>decide (n.s=s))=none):=aa (Ot hp)
  have acX:=aa (Yl (W:=W) (r:=w.heap.size+1+1+1) (q:=w.heap.size+1+1+1+1) (by omega) q4 q5 0 0 (.iface 79 (.int .i64 16)))
  have K4:Hid (vP W (w.heap.size+1+1+1) 57):=aa ⟨_,_,q4⟩;have K5:Hid (vP W (w.heap.size+1+1+1+1) 27):=aa ⟨_,_,q5⟩;clear q4 q5 hp hb;gi_wp2
  have hK':=(Tj W (w.heap.size+1+1+1) (w.heap.size+1+1+1+1) (.int .i64 0) (.int .i64 0) (.iface 79 (.int .i64 16)) D (by rw[qF.out] at hD;omega) (by rw[qF.out] at hD;omega)).trans hK
  have hR9:=rs9 (HW.out.later jR.out) K4.out K5.out (by omega) (.int .i64 0) (.int .i64 0) (.iface 79 (.int .i64 16))
  have hF9:Fr [52,61,59] w (((W.setCell ⟨w.heap.size+1+1+1,0,none⟩ (.int .i64 0)).setCell ⟨w.heap.size+1+1+1,1,none⟩ (.int .i64 0)).setCell ⟨w.heap.size+1+1+1+1,0,none⟩ (.iface 79 (.int .i64 16))):=(Fr.ae jR.out).past (fun k hk=>Tj _ _ _ _ _ _ k (by omega) (by omega)) (by rw[Ou];exact ah _)
  have hB9:Below B w (((W.setCell ⟨w.heap.size+1+1+1,0,none⟩ (.int .i64 0)).setCell ⟨w.heap.size+1+1+1,1,none⟩ (.int .i64 0)).setCell ⟨w.heap.size+1+1+1+1,0,none⟩ (.iface 79 (.int .i64 16))):=(((jR.out.mono cC).setCell (p:=⟨w.heap.size+1+1+1,0,none⟩) (by show B≤w.heap.size+1+1+1;omega) _).setCell (p:=⟨w.heap.size+1+1+1,1,none⟩) (by show B≤w.heap.size+1+1+1;omega) _).setCell (p:=⟨w.heap.size+1+1+1+1,0,none⟩) (by show B≤w.heap.size+1+1+1+1;omega) _
  have hO9:=acX.out;generalize ((W.setCell ⟨w.heap.size+1+1+1,0,none⟩ (.int .i64 0)).setCell ⟨w.heap.size+1+1+1,1,none⟩ (.int .i64 0)).setCell ⟨w.heap.size+1+1+1+1,0,none⟩ (.iface 79 (.int .i64 16))=W9 at *;refine⟨by simp,.inl ⟨_,_,rfl,run_takeDeferred hK',?_⟩⟩
  have hgr:=grownBy_putObj' W9 D (.deferred none);have Yn :∀r,some D=some r→W0.heap.size≤r∧∃o:Obj,W9.heap[r]? = some o∧o.isCells=false:=fun r e=>by injection e with e;subst e;exact⟨hD,_,hK',rfl⟩
  have hC:=Ti.of hgr Yn;have hO:=hO9.Zz hC;have k0:=ab hO.use 0;have k1:=ab hO.use 1;have k2:=ab hO.err 0;replace k0:_=some (Value.int .i64 0):=k0;replace k1:_=some (Value.int .i64 0):=k1;replace k2:_=some (Value.iface 79 (.int .i64 16)):=k2;refine⟨.tuple #[.agg #[.int .i64 0,.int .i64 0],.iface 79 (.int .i64 16)],?_,xC (by rw[qF.out];omega) (by have:=hB9.size;omega) hB9 hgr Yn,Oq (by rw[qF.out];omega) hF9 hgr Yn,?_⟩
  ·simp[results,Tryz.results109,go_sem,k0,k1,k2]
  ·rw[HN.out,HDN.out]
   exact⟨rfl,hR9.Zz hC⟩
 case stop =>
  rintro D c pre W hD uk ⟨rfl,hz⟩ hK;have HZ:=aa hz;have acY:=aa uk;clear hz uk;gi_wp2
  refine⟨by simp,.inl ⟨_,_,rfl,run_takeDeferred hK,?_⟩⟩
  have hgr:=grownBy_putObj' W D (.deferred none);have Yn :∀r,some D=some r→W0.heap.size≤r∧∃o:Obj,W.heap[r]? = some o∧o.isCells=false:=fun r e=>by injection e with e;subst e;exact⟨hD,_,hK,rfl⟩
  obtain⟨⟨pre',x,n,rfl,h2,h3,h4⟩,h5,h6⟩:=HZ.out.own (by rw[qF.out];omega) cC hgr Yn
  have IU:st.names.find? (fun n=>decide (n.s=s))=some n:=by rw[HN.out];exact Bw acY.out h2 h3
  cases hR:fC n st.fns.length f st.fns with
  | none =>
   rw[hR] at h4;have k0:=ab h4.use 0;have k1:=ab h4.use 1;have k2:=ab h4.err 0;replace k0:_=some (Value.int .i64 0):=k0;replace k1:_=some (Value.int .i64 0):=k1;replace k2:_=some (Value.iface 79 (.int .i64 12)):=k2;refine⟨.tuple #[.agg #[.int .i64 0,.int .i64 0],.iface 79 (.int .i64 12)],?_,h6,h5,?_⟩
   ·simp[results,Tryz.results109,go_sem,k0,k1,k2]
   ·rw[IU]
    simp only[hR]
  | some r =>
   obtain⟨F1,kd,i1⟩:=r;rw[hR] at h4;obtain⟨h4,h7⟩:=h4;have k0:=ab h4.use 0;have k1:=ab h4.use 1;have k2:=ab h4.err 0;replace k0:_=some (Value.int .i64 kd):=k0;replace k1:_=some (Value.int .i64 (i1:Int)):=k1;replace k2:_=some Value.nilIface:=k2;refine⟨.tuple #[.agg #[.int .i64 kd,.int .i64 (i1:Int)],.nilIface],?_,h6,h5,?_⟩
   ·simp[results,Tryz.results109,go_sem,k0,k1,k2]
   ·rw[IU]
    simp only[hR];exact⟨trivial,h7⟩
end
end Go.Proofs.YteflkdlaoiijbaaGreatDoor
namespace Go.Proofs.YteflkdlaoiijbaaGreatDoor
open Go.RowKit Go.Extern.Stop Go.Stop Go.Extern
theorem Fz (v:Value) (w:World):(Extern.ReflectliteType.typeOf #[.iface 79 v]).run Tryz.prog w=.ok (.iface 165 (.agg #[.pointer (some ⟨4,79,none⟩)])) w:=by kernel_rfl
theorem kh (v:Value) (w:World):(Go.method 423 165 v "Comparable").run Tryz.prog w=.ok (267,v) w:=by kernel_rfl
theorem aa4 (v:Value) (xT:TypeId) (w:World):(Instr.typeAssert (.iface 79 v) xT 207 true).run Tryz.prog w=.ok (.tuple #[.nilIface,.bool false]) w:=run_typeAssert_lacksB Tryz.underlying207 (by kernel_rfl) (by kernel_rfl) v xT w
theorem I4 (v:Value) (xT:TypeId) (w:World):(Instr.typeAssert (.iface 79 v) xT 172 true).run Tryz.prog w=.ok (.tuple #[.nilIface,.bool false]) w:=run_typeAssert_lacksB Tryz.underlying172 (by kernel_rfl) (by kernel_rfl) v xT w
theorem DP (v:Value) (xT:TypeId) (w:World):(Instr.typeAssert (.iface 79 v) xT 173 true).run Tryz.prog w=.ok (.tuple #[.nilIface,.bool false]) w:=run_typeAssert_lacksB Tryz.underlying173 (by kernel_rfl) (by kernel_rfl) v xT w
theorem zEq (w:World):(binOp .eql 27 (.iface 79 (.int .i64 16)) (.iface 79 (.int .i64 16))).run Tryz.prog w=.ok (.bool true) w:=by kernel_rfl
theorem zNe (w:World):(binOp .eql 27 (.iface 79 (.int .i64 12)) (.iface 79 (.int .i64 16))).run Tryz.prog w=.ok (.bool false) w:=by kernel_rfl
theorem sS (w:World):((Extern.ReflectliteType.method fun t=>do Rtype.noPackHeld "Comparable" t;(fun a=>Value.bool a.comparable) <$> typeInfo t) #[.agg #[.pointer (some ⟨4,79,none⟩)]]).run Tryz.prog w=.ok (.bool true) w:=by kernel_rfl
theorem acZ (w:World):(binOp .eql 27 .nilIface (.iface 79 (.int .i64 16))).run Tryz.prog w=.ok (.bool false) w:=by kernel_rfl
theorem aa5 (w:World):(binOp .eql 27 (.iface 79 (.int .i64 16)) .nilIface).run Tryz.prog w=.ok (.bool false) w:=by kernel_rfl
theorem FB (w:World) :
  Calls Tryz.prog 30 #[.nilIface,.iface 79 (.int .i64 16)] w fun e w'=>e=.returned (.bool false)∧w=w':=by
 have e1:=acZ;have e2:=aa5;go_enter Tryz.func30,Tryz.ntmps30
 go_wp2
 go_ret
 exact⟨rfl,rfl⟩
theorem FC (w:World) :
  Calls Tryz.prog 30 #[.iface 79 (.int .i64 16),.iface 79 (.int .i64 16)] w fun e w'=>e=.returned (.bool true)∧w=w':=by
 have h41:=@run_callFunc_extern Tryz.prog 65 _ Extern.ReflectliteType.typeOf Tryz.func65 (by kernel_rfl) (by kernel_rfl) (by kernel_rfl) (by kernel_rfl)
 have XL:=@run_callFunc_extern Tryz.prog 267 _ (Extern.ReflectliteType.method fun t=>do Rtype.noPackHeld "Comparable" t;pure (.bool (←typeInfo t).comparable)) Tryz.func267 (by kernel_rfl) (by kernel_rfl) (by kernel_rfl) (by kernel_rfl)
 have tT:=Fz;have cT:=sS;have mR:=kh;have e5:=zEq;go_enter Tryz.func30,Tryz.ntmps30
 go_wp2
 refine wp_loop_rounds 1 ?_;rw[rounds_succ];go_wp2
 go_ret
 exact⟨rfl,rfl⟩
theorem FD (w:World) :
  Calls Tryz.prog 30 #[.iface 79 (.int .i64 12),.iface 79 (.int .i64 16)] w fun e w'=>e=.returned (.bool false)∧w=w':=by
 have h41:=@run_callFunc_extern Tryz.prog 65 _ Extern.ReflectliteType.typeOf Tryz.func65 (by kernel_rfl) (by kernel_rfl) (by kernel_rfl) (by kernel_rfl)
 have XL:=@run_callFunc_extern Tryz.prog 267 _ (Extern.ReflectliteType.method fun t=>do Rtype.noPackHeld "Comparable" t;pure (.bool (←typeInfo t).comparable)) Tryz.func267 (by kernel_rfl) (by kernel_rfl) (by kernel_rfl) (by kernel_rfl)
 have tT:=Fz;have cT:=sS;have mR:=kh;have nE:=aa4;have uE:=I4;have vE:=DP;have e5:=zNe;go_enter Tryz.func30,Tryz.ntmps30
 go_wp2
 refine wp_loop_rounds 1 ?_;rw[rounds_succ];go_wp2
 go_ret
 exact⟨rfl,rfl⟩
end Go.Proofs.YteflkdlaoiijbaaGreatDoor
namespace Go.Proofs.YteflkdlaoiijbaaGreatDoor
open Go.RowKit
theorem Tl {W:World} {bk o:Nat} {x:Nd} {nv kv:Value} (h:lJ W bk o x nv kv):W.cell? ⟨bk,o+4,none⟩=some (.string x.s):=h.c4
theorem lq {W:World} {b bk j p N ub ob f c o:Nat} {fv:Value} {s:ByteArray} {loop:Int} {pa la:Option Addr} {ln lc:Nat} (hb:W.heap[b]? = some (.cells #[.slice (some ⟨bk,o,none⟩) N c,fv,.slice (some ⟨ub,0,none⟩) N N,.slice (some ⟨ob,0,none⟩) N N] 87 (0,0))) (hd:W.cell? ⟨bk,j,none⟩=some (.string s)) (hx:W.heap[p]? = some (.cells #[.int .i64 (f:Int),.int .i64 loop,.pointer pa,.slice la ln lc] 92 (0,0))) :
  W.cell? ⟨b,0,none⟩=some (.slice (some ⟨bk,o,none⟩) N c)∧W.cell? ⟨bk,j,none⟩=some (.string s)∧W.cell? ⟨p,0,none⟩=some (.int .i64 (f:Int))∧W.cell? ⟨p,1,none⟩=some (.int .i64 loop)∧W.cell? ⟨p,2,none⟩=some (.pointer pa)∧W.cell? ⟨p,3,none⟩=some (.slice la ln lc) :=
 ⟨ab hb 0,hd,ab hx 0,ab hx 1,ab hx 2,ab hx 3⟩
def Tm (B b:Nat) (nv:Value) (N ub ob:Nat) (st2:aH) (known:Bool) (k i:Int) (ev:Value) (w:World) (e:Ending) (w':World):Prop :=
 e=.returned (.tuple #[.agg #[.int .i64 k,.int .i64 i],ev])∧Below B w w'∧Fr [52,61,59] w w'∧(known=true→jN w' B b nv N st2 ub ob)
theorem qG {W:World} {b bk j p N f c o:Nat} {s:ByteArray} {loop:Int} {pa la:Option Addr} {ln lc:Nat} (h:W.cell? ⟨b,0,none⟩=some (.slice (some ⟨bk,o,none⟩) N c)∧W.cell? ⟨bk,j,none⟩=some (.string s)∧W.cell? ⟨p,0,none⟩=some (.int .i64 (f:Int))∧W.cell? ⟨p,1,none⟩=some (.int .i64 loop)∧W.cell? ⟨p,2,none⟩=some (.pointer pa)∧W.cell? ⟨p,3,none⟩=some (.slice la ln lc)) (hb:b<W.heap.size) (hk:bk<W.heap.size) (hp:p<W.heap.size) (ob:Obj) :
  (W.alloc ob).cell? ⟨b,0,none⟩=some (.slice (some ⟨bk,o,none⟩) N c)∧(W.alloc ob).cell? ⟨bk,j,none⟩=some (.string s)∧(W.alloc ob).cell? ⟨p,0,none⟩=some (.int .i64 (f:Int))∧(W.alloc ob).cell? ⟨p,1,none⟩=some (.int .i64 loop)∧(W.alloc ob).cell? ⟨p,2,none⟩=some (.pointer pa)∧(W.alloc ob).cell? ⟨p,3,none⟩=some (.slice la ln lc):=by
 have hB:=(Below.refl W.heap.size W).alloc (ah _) ob;exact⟨(hB.cell (p:=⟨b,0,none⟩) hb).trans h.1,(hB.cell (p:=⟨bk,j,none⟩) hk).trans h.2.1,(hB.cell (p:=⟨p,0,none⟩) hp).trans h.2.2.1,(hB.cell (p:=⟨p,1,none⟩) hp).trans h.2.2.2.1,(hB.cell (p:=⟨p,2,none⟩) hp).trans h.2.2.2.2.1,(hB.cell (p:=⟨p,3,none⟩) hp).trans h.2.2.2.2.2⟩
theorem za {W:World} {b bk j p N f c o r:Nat} {s:ByteArray} {loop:Int} {pa la:Option Addr} {ln lc:Nat} (h:W.cell? ⟨b,0,none⟩=some (.slice (some ⟨bk,o,none⟩) N c)∧W.cell? ⟨bk,j,none⟩=some (.string s)∧W.cell? ⟨p,0,none⟩=some (.int .i64 (f:Int))∧W.cell? ⟨p,1,none⟩=some (.int .i64 loop)∧W.cell? ⟨p,2,none⟩=some (.pointer pa)∧W.cell? ⟨p,3,none⟩=some (.slice la ln lc)) (hb:b≠r) (hk:bk≠r) (hp:p≠r) (u v:Value) :
  ((W.setCell ⟨r,0,none⟩ u).setCell ⟨r,1,none⟩ v).cell? ⟨b,0,none⟩=some (.slice (some ⟨bk,o,none⟩) N c)∧((W.setCell ⟨r,0,none⟩ u).setCell ⟨r,1,none⟩ v).cell? ⟨bk,j,none⟩=some (.string s)∧((W.setCell ⟨r,0,none⟩ u).setCell ⟨r,1,none⟩ v).cell? ⟨p,0,none⟩=some (.int .i64 (f:Int))∧((W.setCell ⟨r,0,none⟩ u).setCell ⟨r,1,none⟩ v).cell? ⟨p,1,none⟩=some (.int .i64 loop)∧((W.setCell ⟨r,0,none⟩ u).setCell ⟨r,1,none⟩ v).cell? ⟨p,2,none⟩=some (.pointer pa)∧((W.setCell ⟨r,0,none⟩ u).setCell ⟨r,1,none⟩ v).cell? ⟨p,3,none⟩=some (.slice la ln lc):=by
 have key :∀a:Addr,a.block≠r→((W.setCell ⟨r,0,none⟩ u).setCell ⟨r,1,none⟩ v).cell? a=W.cell? a:=fun a ha=>World.cell?_of_block (qE W r u v a.block ha)
 exact⟨(key ⟨b,0,none⟩ hb).trans h.1,(key ⟨bk,j,none⟩ hk).trans h.2.1,(key ⟨p,0,none⟩ hp).trans h.2.2.1,(key ⟨p,1,none⟩ hp).trans h.2.2.2.1,(key ⟨p,2,none⟩ hp).trans h.2.2.2.2.1,(key ⟨p,3,none⟩ hp).trans h.2.2.2.2.2⟩
structure NQ (w:World) (B b:Nat) (nv:Value) (N ub ob:Nat) (st2:aH) (known:Bool) (k i:Int) (W:World) (g:Nat):Prop where
 below:Below B w W
 fr:Fr [52,61,59] w W
 rs:known=true→jN W B b nv N st2 ub ob
 use:W.heap[g]? = some (.cells #[.int .i64 k,.int .i64 i] 57 (0,0))
 new:w.heap.size≤g
theorem Yo {B:Nat} {w W1 w2:World} {b:Nat} {nv:Value} {N ub ob:Nat} {st2:aH} {known:Bool} {k i:Int} (cC:B≤w.heap.size) (b2:Below B W1 w2) (b1:Below w.heap.size w W1) (f2:Fr [52,61,59] W1 w2) (hle:w.heap.size≤W1.heap.size) (hB:B≤W1.heap.size) (r:known=true→jN w2 B b nv N st2 ub ob):NQ w B b nv N ub ob st2 known k i (w2.alloc (.cells #[.int .i64 k,.int .i64 i] 57)) w2.heap.size :=
 ⟨((b1.mono cC).trans b2).alloc (aM hB b2.size) _,((Fr.ae b1).trans f2).trans (Fr.alloc _),fun h=>(r h).alloc _,heap_alloc_new _ _,aM hle b2.size⟩
theorem Yp {B:Nat} {w W1 w2:World} {b:Nat} {nv:Value} {N ub ob:Nat} {st2:aH} {known:Bool} {k i:Int} (cC:B≤w.heap.size) (pE:ub<w.heap.size) (b2:Below B W1 w2) (b1:Below w.heap.size w W1) (f2:Fr [52,61,59] W1 w2) (hle:w.heap.size≤W1.heap.size) (hB:B≤W1.heap.size) (r:known=true→jN w2 B b nv N st2 ub ob) {x y:Value} (hz:w2.heap[W1.heap.size]? = some (.cells #[x,y] 57 (0,0))):NQ w B b nv N ub ob st2 known k i ((w2.setCell ⟨W1.heap.size,0,none⟩ (.int .i64 k)).setCell ⟨W1.heap.size,1,none⟩ (.int .i64 i)) W1.heap.size :=
 have hk:vP w2 W1.heap.size 57:=⟨_,_,hz⟩
 ⟨(((b1.mono cC).trans b2).setCell (p:=⟨W1.heap.size,0,none⟩) hB _).setCell (p:=⟨W1.heap.size,1,none⟩) hB _,((Fr.ae b1).trans f2).past (fun k hk=>qE w2 W1.heap.size _ _ k (by omega)) (by rw[nO];exact ah _),fun h=>((r h).fU hk (by omega) _ _).fU (hk.set _ _ _) (by omega) _ _,yY hz _ _,hle⟩
theorem lY {B:Nat} {a w:World} {o:Obj} (hB:B≤a.heap.size) (h:Below B (a.alloc o) w):Below B a w:=((Below.refl B a).alloc hB o).trans h
theorem rX {E:List Nat} {a w:World} {o:Obj} (h:Fr E (a.alloc o) w):Fr E a w:=(Fr.alloc o).trans h
theorem gL {W:World} {g:Nat} {x y:Value} {ty:TypeId} (h:W.heap[g]? = some (.cells #[x,y] ty (0,0))):W.cell? ⟨g,0,none⟩=some x:=ab h 0
theorem gM {W:World} {g:Nat} {x y:Value} {ty:TypeId} (h:W.heap[g]? = some (.cells #[x,y] ty (0,0))):W.cell? ⟨g,1,none⟩=some y:=ab h 1
theorem ft {E:List Nat} {a w:World} (h:Fr E a.drew w):Fr E a w:=⟨h.size,h.cells,h.others⟩
theorem dx {B:Nat} {a w:World} (h:Below B a.drew w):Below B a w:=⟨h.os,h.tape,h.output,h.size,h.block⟩
theorem Ow {T:List Nd} {B:Nat} {nv:Value} {ub ob:Nat} (b node f:Nat) (h:Nd) (loop k i:Int) (pa la:Option Addr) (lc:Nat) (L:List cS) (st st2:aH) (w:World) (hT:wg w B nv T) (hw:jN w B b nv T.length st ub ob) (hx:T[node]? = some h)
  (qH :∀W,Below w.heap.size w W→Calls Tryz.prog 109 #[.pointer (some ⟨b,0,none⟩),.string h.s,.agg #[.int .i64 (f:Int),.int .i64 loop,.pointer pa,.slice la L.length lc]] W (Tm B b nv T.length ub ob st2 true k i (.nilIface) W)) :
  Calls Tryz.prog 54 #[.pointer (some ⟨b,0,none⟩),.int .i64 (node:Int),.agg #[.int .i64 (f:Int),.int .i64 loop,.pointer pa,.slice la L.length lc]] w (gI B b nv T.length ub ob (.ok (st2.dw node (k,i))) w):=by
 obtain⟨bk,o,c,rfl,bN,cC,cL⟩:=hT.nodes;obtain⟨pL,pM,dM,_,_⟩:=cL node h hx;have jl:node<T.length:=(aJ.1 hx).1;have qY:=hT.few;obtain⟨hbl,pE,hb4⟩:b<w.heap.size∧ub<w.heap.size∧∃fv,w.heap[b]? = some (.cells #[.slice (some ⟨bk,o,none⟩) T.length c,fv,.slice (some ⟨ub,0,none⟩) T.length T.length,.slice (some ⟨ob,0,none⟩) T.length T.length] 87 (0,0)):=by
  obtain⟨_,_,h⟩:=hw;exact⟨h.gR.1,h.gR.2.1,_,h.blk⟩
 obtain⟨fv0,hb4⟩:=hb4;have zb:=aa qH;have d0:=ab hb4 0;replace d0:_=some (Value.slice (some ⟨bk,o,none⟩) T.length c):=d0;have d4:=Tl dM;have iR:bk<w.heap.size:=by omega
 have IV:=aa hb4;have HT:=aa hT;have HX:=aa hx;clear hw hT hx qH dM cL hb4;go_enter Tryz.func54,Tryz.ntmps54
 go_wp2_with fail
 have dL:=aa ((Below.refl w.heap.size w).alloc (ah _) (.cells #[.int .i64 (f:Int),.int .i64 loop,.pointer pa,.slice la L.length lc] 92));have db:=heap_alloc_new w (.cells #[.int .i64 (f:Int),.int .i64 loop,.pointer pa,.slice la L.length lc] 92);have x0:=ab db 0;have x1:=ab db 1;have x2:=ab db 2;have x3:=ab db 3;replace x0:_=some (Value.int .i64 (f:Int)):=x0;replace x1:_=some (Value.int .i64 loop):=x1;replace x2:_=some (Value.pointer pa):=x2;replace x3:_=some (Value.slice la L.length lc):=x3;have e0:=(dL.out.cell (p:=⟨b,0,none⟩) hbl).trans d0;have e4:=(dL.out.cell (p:=⟨bk,o+node*7+4,none⟩) iR).trans d4;have qg:=aa db;have qI:=aa ((dL.out.block b hbl).trans IV.out);have hs1:(w.alloc (.cells #[.int .i64 (f:Int),.int .i64 loop,.pointer pa,.slice la L.length lc] 92)).heap.size=w.heap.size+1:=an _ _;generalize w.alloc (.cells #[.int .i64 (f:Int),.int .i64 loop,.pointer pa,.slice la L.length lc] 92)=W1 at *;have eM:=aa hs1;have Tn:=IV;clear d0 d4 db hs1 IV;have kk:Hid (W1.cell? ⟨b,0,none⟩=some (.slice (some ⟨bk,o,none⟩) T.length c)∧W1.cell? ⟨bk,o+node*7+4,none⟩=some (.string h.s)∧W1.cell? ⟨w.heap.size,0,none⟩=some (.int .i64 (f:Int))∧W1.cell? ⟨w.heap.size,1,none⟩=some (.int .i64 loop)∧W1.cell? ⟨w.heap.size,2,none⟩=some (.pointer pa)∧W1.cell? ⟨w.heap.size,3,none⟩=some (.slice la L.length lc)):=aa ⟨e0,e4,x0,x1,x2,x3⟩;have hb1:b<W1.heap.size:=(by have:=eM.out;omega)
 have iX:bk<W1.heap.size:=(by have:=eM.out;omega)
 have ef:w.heap.size<W1.heap.size:=(by have:=eM.out;omega)
 have lZ:w.heap.size≤W1.heap.size:=fx ef;have De:b≠W1.heap.size:=ju hb1;have fX:bk≠W1.heap.size:=ju iX;have Yq:w.heap.size≠W1.heap.size:=ju ef;have tj:B≤W1.heap.size:=aM cC lZ;go_region_held3 (fun w'=>w'.cell? ⟨b,0,none⟩=some (.slice (some ⟨bk,o,none⟩) T.length c)∧w'.cell? ⟨bk,o+node*7+4,none⟩=some (.string h.s)∧w'.cell? ⟨w.heap.size,0,none⟩=some (.int .i64 (f:Int))∧w'.cell? ⟨w.heap.size,1,none⟩=some (.int .i64 loop)∧w'.cell? ⟨w.heap.size,2,none⟩=some (.pointer pa)∧w'.cell? ⟨w.heap.size,3,none⟩=some (.slice la L.length lc))
  (first|exact kk.out|exact qG kk.out hb1 iX ef _|exact za kk.out De fX Yq _ _)
  (first
   | (go_at_call 109;refine(zb.out W1.drew dL.out.drew).mono ?_;rintro e w2 hq;unfold Tm at hq;obtain⟨rfl,tl,mj,By⟩:=hq;have B2:=aa (dx tl);have F2:=aa (ft mj);have R2:=aa By;have hb1:b<w2.heap.size:=cJ hb1 B2.out.size;have iX:bk<w2.heap.size:=cJ iX B2.out.size;have ef:w.heap.size<w2.heap.size:=cJ ef B2.out.size;have kk:=aa (lq (F2.out.cells _ _ _ _ qI.out (by decide)) ((B2.out.cell (p:=⟨bk,o+node*7+4,none⟩) bN).trans e4) (F2.out.cells _ _ _ _ qg.out (by decide)));clear tl mj By)
   | (go_at_call 109;refine(zb.out (W1.alloc (.cells #[.int .i64 0,.int .i64 0] 57)).drew (dL.out.alloc lZ _).drew).mono ?_;rintro e w2 hq;unfold Tm at hq;obtain⟨rfl,tl,mj,By⟩:=hq;have B2:=aa (lY tj (dx tl));have F2:=aa (rX (ft mj));have R2:=aa By;have hz2:=(ft mj).cells _ _ _ _ (heap_alloc_new W1 (.cells #[.int .i64 0,.int .i64 0] 57)) (by decide);have q0:=gL hz2;have q1:=gM hz2;have q2:=av hz2 0;have q3:=av hz2 1;have Z2:=aa hz2;have kk:=aa (lq (F2.out.cells _ _ _ _ qI.out (by decide)) ((B2.out.cell (p:=⟨bk,o+node*7+4,none⟩) bN).trans e4) (F2.out.cells _ _ _ _ qg.out (by decide)));clear tl mj By hz2))
 ·have HQ:=aa (Yo (B:=B) cC (st2:=st2) (nv:=.slice (some ⟨bk,o,none⟩) T.length c) (N:=T.length) (b:=b) (ub:=ub) (ob:=ob) (known:=true) (k:=k) (i:=i) B2.out dL.out F2.out lZ tj (fun _=>R2.out trivial))
  generalize w2.alloc (.cells #[.int .i64 k,.int .i64 i] 57)=W5 at HQ ⊢;generalize w2.heap.size=g at HQ ⊢;clear B2 F2 R2 zb dL qg qI eM kk e0 e4 x0 x1 x2 x3;have y0:=gL HQ.out.use;have y1:=gM HQ.out.use;obtain⟨fv5,FL5,ix⟩:=HQ.out.rs rfl;obtain⟨yz,hl2,Cm⟩:=ix.gR;have d2:W5.cell? ⟨b,2,none⟩=some (.slice (some ⟨ub,0,none⟩) T.length T.length):=ab ix.blk 2;obtain⟨u0,v0⟩:=bA ix.uses (j:=node*2) (by omega)
  obtain⟨u1,v1⟩:=bA ix.uses (j:=node*2+1) (by omega)
  have qJ:=aa ix;clear ix;go_wp2_with fail
  refine(FB W5).mono ?_;rintro e w6 ⟨rfl,rfl⟩;go_wp2_with fail
  go_region
  go_wp2_with fail
  go_ret
  exact⟨((HQ.out.below.setCell (p:=⟨ub,node*2,none⟩) qJ.out.jf.1 _).setCell (p:=⟨ub,node*2+1,none⟩) qJ.out.jf.1 _).drew,rfl,⟨_,_,(qJ.out.use node (k,i)).drew⟩,(((HQ.out.fr.mono (by decide)).trans ((lV qJ.out node _ _).mono (by decide)))).drew⟩
 ·have HQ:=aa (Yp (B:=B) cC pE (st2:=st2) (nv:=.slice (some ⟨bk,o,none⟩) T.length c) (N:=T.length) (b:=b) (ob:=ob) (known:=true) (k:=k) (i:=i) B2.out dL.out F2.out lZ tj (fun _=>R2.out trivial) Z2.out)
  generalize (w2.setCell ⟨W1.heap.size,0,none⟩ (.int .i64 k)).setCell ⟨W1.heap.size,1,none⟩ (.int .i64 i)=W5 at HQ ⊢;generalize W1.heap.size=g at HQ ⊢;clear q0 q1 q2 q3 Z2;clear B2 F2 R2 zb dL qg qI eM kk e0 e4 x0 x1 x2 x3;have y0:=gL HQ.out.use;have y1:=gM HQ.out.use;obtain⟨fv5,FL5,ix⟩:=HQ.out.rs rfl;obtain⟨yz,hl2,Cm⟩:=ix.gR;have d2:W5.cell? ⟨b,2,none⟩=some (.slice (some ⟨ub,0,none⟩) T.length T.length):=ab ix.blk 2;obtain⟨u0,v0⟩:=bA ix.uses (j:=node*2) (by omega)
  obtain⟨u1,v1⟩:=bA ix.uses (j:=node*2+1) (by omega)
  have qJ:=aa ix;clear ix;go_wp2_with fail
  refine(FB W5).mono ?_;rintro e w6 ⟨rfl,rfl⟩;go_wp2_with fail
  go_region
  go_wp2_with fail
  go_ret
  exact⟨((HQ.out.below.setCell (p:=⟨ub,node*2,none⟩) qJ.out.jf.1 _).setCell (p:=⟨ub,node*2+1,none⟩) qJ.out.jf.1 _).drew,rfl,⟨_,_,(qJ.out.use node (k,i)).drew⟩,(((HQ.out.fr.mono (by decide)).trans ((lV qJ.out node _ _).mono (by decide)))).drew⟩
theorem I5 {T:List Nd} {B:Nat} {nv:Value} {ub ob:Nat} (b node f:Nat) (h:Nd) (loop k i:Int) (pa la:Option Addr) (lc:Nat) (L:List cS) (st st2:aH) (w:World) (hT:wg w B nv T) (hw:jN w B b nv T.length st ub ob) (hx:T[node]? = some h)
  (qH :∀W,Below w.heap.size w W→Calls Tryz.prog 109 #[.pointer (some ⟨b,0,none⟩),.string h.s,.agg #[.int .i64 (f:Int),.int .i64 loop,.pointer pa,.slice la L.length lc]] W (Tm B b nv T.length ub ob st2 true k i (.iface 79 (.int .i64 16)) W)) :
  Calls Tryz.prog 54 #[.pointer (some ⟨b,0,none⟩),.int .i64 (node:Int),.agg #[.int .i64 (f:Int),.int .i64 loop,.pointer pa,.slice la L.length lc]] w (gI B b nv T.length ub ob (.ok (st2.dw node (1,0))) w):=by
 obtain⟨bk,o,c,rfl,bN,cC,cL⟩:=hT.nodes;obtain⟨pL,pM,dM,_,_⟩:=cL node h hx;have jl:node<T.length:=(aJ.1 hx).1;have qY:=hT.few;obtain⟨hbl,pE,hb4⟩:b<w.heap.size∧ub<w.heap.size∧∃fv,w.heap[b]? = some (.cells #[.slice (some ⟨bk,o,none⟩) T.length c,fv,.slice (some ⟨ub,0,none⟩) T.length T.length,.slice (some ⟨ob,0,none⟩) T.length T.length] 87 (0,0)):=by
  obtain⟨_,_,h⟩:=hw;exact⟨h.gR.1,h.gR.2.1,_,h.blk⟩
 obtain⟨fv0,hb4⟩:=hb4;have zb:=aa qH;have d0:=ab hb4 0;replace d0:_=some (Value.slice (some ⟨bk,o,none⟩) T.length c):=d0;have d4:=Tl dM;have iR:bk<w.heap.size:=by omega
 have IV:=aa hb4;have HT:=aa hT;have HX:=aa hx;clear hw hT hx qH dM cL hb4;go_enter Tryz.func54,Tryz.ntmps54
 go_wp2_with fail
 have dL:=aa ((Below.refl w.heap.size w).alloc (ah _) (.cells #[.int .i64 (f:Int),.int .i64 loop,.pointer pa,.slice la L.length lc] 92));have db:=heap_alloc_new w (.cells #[.int .i64 (f:Int),.int .i64 loop,.pointer pa,.slice la L.length lc] 92);have x0:=ab db 0;have x1:=ab db 1;have x2:=ab db 2;have x3:=ab db 3;replace x0:_=some (Value.int .i64 (f:Int)):=x0;replace x1:_=some (Value.int .i64 loop):=x1;replace x2:_=some (Value.pointer pa):=x2;replace x3:_=some (Value.slice la L.length lc):=x3;have e0:=(dL.out.cell (p:=⟨b,0,none⟩) hbl).trans d0;have e4:=(dL.out.cell (p:=⟨bk,o+node*7+4,none⟩) iR).trans d4;have qg:=aa db;have qI:=aa ((dL.out.block b hbl).trans IV.out);have hs1:(w.alloc (.cells #[.int .i64 (f:Int),.int .i64 loop,.pointer pa,.slice la L.length lc] 92)).heap.size=w.heap.size+1:=an _ _;generalize w.alloc (.cells #[.int .i64 (f:Int),.int .i64 loop,.pointer pa,.slice la L.length lc] 92)=W1 at *;have eM:=aa hs1;have Tn:=IV;clear d0 d4 db hs1 IV;have kk:Hid (W1.cell? ⟨b,0,none⟩=some (.slice (some ⟨bk,o,none⟩) T.length c)∧W1.cell? ⟨bk,o+node*7+4,none⟩=some (.string h.s)∧W1.cell? ⟨w.heap.size,0,none⟩=some (.int .i64 (f:Int))∧W1.cell? ⟨w.heap.size,1,none⟩=some (.int .i64 loop)∧W1.cell? ⟨w.heap.size,2,none⟩=some (.pointer pa)∧W1.cell? ⟨w.heap.size,3,none⟩=some (.slice la L.length lc)):=aa ⟨e0,e4,x0,x1,x2,x3⟩;have hb1:b<W1.heap.size:=(by have:=eM.out;omega)
 have iX:bk<W1.heap.size:=(by have:=eM.out;omega)
 have ef:w.heap.size<W1.heap.size:=(by have:=eM.out;omega)
 have lZ:w.heap.size≤W1.heap.size:=fx ef;have De:b≠W1.heap.size:=ju hb1;have fX:bk≠W1.heap.size:=ju iX;have Yq:w.heap.size≠W1.heap.size:=ju ef;have tj:B≤W1.heap.size:=aM cC lZ;go_region_held3 (fun w'=>w'.cell? ⟨b,0,none⟩=some (.slice (some ⟨bk,o,none⟩) T.length c)∧w'.cell? ⟨bk,o+node*7+4,none⟩=some (.string h.s)∧w'.cell? ⟨w.heap.size,0,none⟩=some (.int .i64 (f:Int))∧w'.cell? ⟨w.heap.size,1,none⟩=some (.int .i64 loop)∧w'.cell? ⟨w.heap.size,2,none⟩=some (.pointer pa)∧w'.cell? ⟨w.heap.size,3,none⟩=some (.slice la L.length lc))
  (first|exact kk.out|exact qG kk.out hb1 iX ef _|exact za kk.out De fX Yq _ _)
  (first
   | (go_at_call 109;refine(zb.out W1.drew dL.out.drew).mono ?_;rintro e w2 hq;unfold Tm at hq;obtain⟨rfl,tl,mj,By⟩:=hq;have B2:=aa (dx tl);have F2:=aa (ft mj);have R2:=aa By;have hb1:b<w2.heap.size:=cJ hb1 B2.out.size;have iX:bk<w2.heap.size:=cJ iX B2.out.size;have ef:w.heap.size<w2.heap.size:=cJ ef B2.out.size;have kk:=aa (lq (F2.out.cells _ _ _ _ qI.out (by decide)) ((B2.out.cell (p:=⟨bk,o+node*7+4,none⟩) bN).trans e4) (F2.out.cells _ _ _ _ qg.out (by decide)));clear tl mj By)
   | (go_at_call 109;refine(zb.out (W1.alloc (.cells #[.int .i64 0,.int .i64 0] 57)).drew (dL.out.alloc lZ _).drew).mono ?_;rintro e w2 hq;unfold Tm at hq;obtain⟨rfl,tl,mj,By⟩:=hq;have B2:=aa (lY tj (dx tl));have F2:=aa (rX (ft mj));have R2:=aa By;have hz2:=(ft mj).cells _ _ _ _ (heap_alloc_new W1 (.cells #[.int .i64 0,.int .i64 0] 57)) (by decide);have q0:=gL hz2;have q1:=gM hz2;have q2:=av hz2 0;have q3:=av hz2 1;have Z2:=aa hz2;have kk:=aa (lq (F2.out.cells _ _ _ _ qI.out (by decide)) ((B2.out.cell (p:=⟨bk,o+node*7+4,none⟩) bN).trans e4) (F2.out.cells _ _ _ _ qg.out (by decide)));clear tl mj By hz2))
 ·have HQ:=aa (Yo (B:=B) cC (st2:=st2) (nv:=.slice (some ⟨bk,o,none⟩) T.length c) (N:=T.length) (b:=b) (ub:=ub) (ob:=ob) (known:=true) (k:=k) (i:=i) B2.out dL.out F2.out lZ tj (fun _=>R2.out trivial))
  generalize w2.alloc (.cells #[.int .i64 k,.int .i64 i] 57)=W5 at HQ ⊢;generalize w2.heap.size=g at HQ ⊢;clear B2 F2 R2 zb dL qg qI eM kk e0 e4 x0 x1 x2 x3;have y0:=gL HQ.out.use;have y1:=gM HQ.out.use;have y2:=av HQ.out.use 0;have y3:=av HQ.out.use 1;have hgu:g≠ub:=by have:=HQ.out.new;omega
  go_wp2_with fail
  refine(FC W5).mono ?_;rintro e w6 ⟨rfl,rfl⟩;go_wp2_with fail
  have hk:vP W5 g 57:=⟨_,_,HQ.out.use⟩;have Ox:=((HQ.out.rs rfl).fU hk hgu 0 (.int .i64 1)).fU (hk.set _ _ _) hgu 1 (.int .i64 0);have Dv:=yY HQ.out.use (.int .i64 1) (.int .i64 0);have US:=aa ((HQ.out.below.setCell (p:=⟨g,0,none⟩) (aM cC HQ.out.new) (.int .i64 1)).setCell (p:=⟨g,1,none⟩) (aM cC HQ.out.new) (.int .i64 0));have Oy:=aa (HQ.out.fr.past (fun k hk=>qE W5 g (.int .i64 1) (.int .i64 0) k (by have:=HQ.out.new;omega)) (by rw[nO];exact ah _))
  generalize (W5.setCell ⟨g,0,none⟩ (.int .i64 1)).setCell ⟨g,1,none⟩ (.int .i64 0)=W6 at Ox Dv US Oy ⊢;have k0:=gL Dv;have k1:=gM Dv;obtain⟨fv5,FL5,ix⟩:=Ox;obtain⟨yz,hl2,Cm⟩:=ix.gR;have d2:W6.cell? ⟨b,2,none⟩=some (.slice (some ⟨ub,0,none⟩) T.length T.length):=ab ix.blk 2;obtain⟨u0,v0⟩:=bA ix.uses (j:=node*2) (by omega)
  obtain⟨u1,v1⟩:=bA ix.uses (j:=node*2+1) (by omega)
  have qJ:=aa ix;clear ix Dv y0 y1 y2 y3 hk;go_region
  go_wp2_with fail
  go_ret
  exact⟨((US.out.setCell (p:=⟨ub,node*2,none⟩) qJ.out.jf.1 _).setCell (p:=⟨ub,node*2+1,none⟩) qJ.out.jf.1 _).drew,rfl,⟨_,_,(qJ.out.use node (1,0)).drew⟩,(((Oy.out.mono (by decide)).trans ((lV qJ.out node _ _).mono (by decide)))).drew⟩
 ·have HQ:=aa (Yp (B:=B) cC pE (st2:=st2) (nv:=.slice (some ⟨bk,o,none⟩) T.length c) (N:=T.length) (b:=b) (ob:=ob) (known:=true) (k:=k) (i:=i) B2.out dL.out F2.out lZ tj (fun _=>R2.out trivial) Z2.out)
  generalize (w2.setCell ⟨W1.heap.size,0,none⟩ (.int .i64 k)).setCell ⟨W1.heap.size,1,none⟩ (.int .i64 i)=W5 at HQ ⊢;generalize W1.heap.size=g at HQ ⊢;clear q0 q1 q2 q3 Z2;clear B2 F2 R2 zb dL qg qI eM kk e0 e4 x0 x1 x2 x3;have y0:=gL HQ.out.use;have y1:=gM HQ.out.use;have y2:=av HQ.out.use 0;have y3:=av HQ.out.use 1;have hgu:g≠ub:=by have:=HQ.out.new;omega
  go_wp2_with fail
  refine(FC W5).mono ?_;rintro e w6 ⟨rfl,rfl⟩;go_wp2_with fail
  have hk:vP W5 g 57:=⟨_,_,HQ.out.use⟩;have Ox:=((HQ.out.rs rfl).fU hk hgu 0 (.int .i64 1)).fU (hk.set _ _ _) hgu 1 (.int .i64 0);have Dv:=yY HQ.out.use (.int .i64 1) (.int .i64 0);have US:=aa ((HQ.out.below.setCell (p:=⟨g,0,none⟩) (aM cC HQ.out.new) (.int .i64 1)).setCell (p:=⟨g,1,none⟩) (aM cC HQ.out.new) (.int .i64 0));have Oy:=aa (HQ.out.fr.past (fun k hk=>qE W5 g (.int .i64 1) (.int .i64 0) k (by have:=HQ.out.new;omega)) (by rw[nO];exact ah _))
  generalize (W5.setCell ⟨g,0,none⟩ (.int .i64 1)).setCell ⟨g,1,none⟩ (.int .i64 0)=W6 at Ox Dv US Oy ⊢;have k0:=gL Dv;have k1:=gM Dv;obtain⟨fv5,FL5,ix⟩:=Ox;obtain⟨yz,hl2,Cm⟩:=ix.gR;have d2:W6.cell? ⟨b,2,none⟩=some (.slice (some ⟨ub,0,none⟩) T.length T.length):=ab ix.blk 2;obtain⟨u0,v0⟩:=bA ix.uses (j:=node*2) (by omega)
  obtain⟨u1,v1⟩:=bA ix.uses (j:=node*2+1) (by omega)
  have qJ:=aa ix;clear ix Dv y0 y1 y2 y3 hk;go_region
  go_wp2_with fail
  go_ret
  exact⟨((US.out.setCell (p:=⟨ub,node*2,none⟩) qJ.out.jf.1 _).setCell (p:=⟨ub,node*2+1,none⟩) qJ.out.jf.1 _).drew,rfl,⟨_,_,(qJ.out.use node (1,0)).drew⟩,(((Oy.out.mono (by decide)).trans ((lV qJ.out node _ _).mono (by decide)))).drew⟩
theorem Oz {T:List Nd} {B:Nat} {nv:Value} {ub ob:Nat} (b node f:Nat) (h:Nd) (loop k i:Int) (pa la:Option Addr) (lc:Nat) (L:List cS) (st st2:aH) (w:World) (hT:wg w B nv T) (hw:jN w B b nv T.length st ub ob) (hx:T[node]? = some h)
  (qH :∀W,Below w.heap.size w W→Calls Tryz.prog 109 #[.pointer (some ⟨b,0,none⟩),.string h.s,.agg #[.int .i64 (f:Int),.int .i64 loop,.pointer pa,.slice la L.length lc]] W (Tm B b nv T.length ub ob st2 false k i (.iface 79 (.int .i64 12)) W)) :
  Calls Tryz.prog 54 #[.pointer (some ⟨b,0,none⟩),.int .i64 (node:Int),.agg #[.int .i64 (f:Int),.int .i64 loop,.pointer pa,.slice la L.length lc]] w (gI B b nv T.length ub ob (.error (12,h.line)) w):=by
 obtain⟨bk,o,c,rfl,bN,cC,cL⟩:=hT.nodes;obtain⟨pL,pM,dM,_,_⟩:=cL node h hx;have jl:node<T.length:=(aJ.1 hx).1;have qY:=hT.few;obtain⟨hbl,pE,hb4⟩:b<w.heap.size∧ub<w.heap.size∧∃fv,w.heap[b]? = some (.cells #[.slice (some ⟨bk,o,none⟩) T.length c,fv,.slice (some ⟨ub,0,none⟩) T.length T.length,.slice (some ⟨ob,0,none⟩) T.length T.length] 87 (0,0)):=by
  obtain⟨_,_,h⟩:=hw;exact⟨h.gR.1,h.gR.2.1,_,h.blk⟩
 obtain⟨fv0,hb4⟩:=hb4;have zb:=aa qH;have d0:=ab hb4 0;replace d0:_=some (Value.slice (some ⟨bk,o,none⟩) T.length c):=d0;have d4:=Tl dM;have iR:bk<w.heap.size:=by omega
 have IV:=aa hb4;have HT:=aa hT;have HX:=aa hx;clear hw hT hx qH dM cL hb4;go_enter Tryz.func54,Tryz.ntmps54
 go_wp2_with fail
 have dL:=aa ((Below.refl w.heap.size w).alloc (ah _) (.cells #[.int .i64 (f:Int),.int .i64 loop,.pointer pa,.slice la L.length lc] 92));have db:=heap_alloc_new w (.cells #[.int .i64 (f:Int),.int .i64 loop,.pointer pa,.slice la L.length lc] 92);have x0:=ab db 0;have x1:=ab db 1;have x2:=ab db 2;have x3:=ab db 3;replace x0:_=some (Value.int .i64 (f:Int)):=x0;replace x1:_=some (Value.int .i64 loop):=x1;replace x2:_=some (Value.pointer pa):=x2;replace x3:_=some (Value.slice la L.length lc):=x3;have e0:=(dL.out.cell (p:=⟨b,0,none⟩) hbl).trans d0;have e4:=(dL.out.cell (p:=⟨bk,o+node*7+4,none⟩) iR).trans d4;have qg:=aa db;have qI:=aa ((dL.out.block b hbl).trans IV.out);have hs1:(w.alloc (.cells #[.int .i64 (f:Int),.int .i64 loop,.pointer pa,.slice la L.length lc] 92)).heap.size=w.heap.size+1:=an _ _;generalize w.alloc (.cells #[.int .i64 (f:Int),.int .i64 loop,.pointer pa,.slice la L.length lc] 92)=W1 at *;have eM:=aa hs1;have Tn:=IV;clear d0 d4 db hs1 IV;have kk:Hid (W1.cell? ⟨b,0,none⟩=some (.slice (some ⟨bk,o,none⟩) T.length c)∧W1.cell? ⟨bk,o+node*7+4,none⟩=some (.string h.s)∧W1.cell? ⟨w.heap.size,0,none⟩=some (.int .i64 (f:Int))∧W1.cell? ⟨w.heap.size,1,none⟩=some (.int .i64 loop)∧W1.cell? ⟨w.heap.size,2,none⟩=some (.pointer pa)∧W1.cell? ⟨w.heap.size,3,none⟩=some (.slice la L.length lc)):=aa ⟨e0,e4,x0,x1,x2,x3⟩;have hb1:b<W1.heap.size:=(by have:=eM.out;omega)
 have iX:bk<W1.heap.size:=(by have:=eM.out;omega)
 have ef:w.heap.size<W1.heap.size:=(by have:=eM.out;omega)
 have lZ:w.heap.size≤W1.heap.size:=fx ef;have De:b≠W1.heap.size:=ju hb1;have fX:bk≠W1.heap.size:=ju iX;have Yq:w.heap.size≠W1.heap.size:=ju ef;have tj:B≤W1.heap.size:=aM cC lZ;go_region_held3 (fun w'=>w'.cell? ⟨b,0,none⟩=some (.slice (some ⟨bk,o,none⟩) T.length c)∧w'.cell? ⟨bk,o+node*7+4,none⟩=some (.string h.s)∧w'.cell? ⟨w.heap.size,0,none⟩=some (.int .i64 (f:Int))∧w'.cell? ⟨w.heap.size,1,none⟩=some (.int .i64 loop)∧w'.cell? ⟨w.heap.size,2,none⟩=some (.pointer pa)∧w'.cell? ⟨w.heap.size,3,none⟩=some (.slice la L.length lc))
  (first|exact kk.out|exact qG kk.out hb1 iX ef _|exact za kk.out De fX Yq _ _)
  (first
   | (go_at_call 109;refine(zb.out W1.drew dL.out.drew).mono ?_;rintro e w2 hq;unfold Tm at hq;obtain⟨rfl,tl,mj,By⟩:=hq;have B2:=aa (dx tl);have F2:=aa (ft mj);have R2:=aa By;have hb1:b<w2.heap.size:=cJ hb1 B2.out.size;have iX:bk<w2.heap.size:=cJ iX B2.out.size;have ef:w.heap.size<w2.heap.size:=cJ ef B2.out.size;have kk:=aa (lq (F2.out.cells _ _ _ _ qI.out (by decide)) ((B2.out.cell (p:=⟨bk,o+node*7+4,none⟩) bN).trans e4) (F2.out.cells _ _ _ _ qg.out (by decide)));clear tl mj By)
   | (go_at_call 109;refine(zb.out (W1.alloc (.cells #[.int .i64 0,.int .i64 0] 57)).drew (dL.out.alloc lZ _).drew).mono ?_;rintro e w2 hq;unfold Tm at hq;obtain⟨rfl,tl,mj,By⟩:=hq;have B2:=aa (lY tj (dx tl));have F2:=aa (rX (ft mj));have R2:=aa By;have hz2:=(ft mj).cells _ _ _ _ (heap_alloc_new W1 (.cells #[.int .i64 0,.int .i64 0] 57)) (by decide);have q0:=gL hz2;have q1:=gM hz2;have q2:=av hz2 0;have q3:=av hz2 1;have Z2:=aa hz2;have kk:=aa (lq (F2.out.cells _ _ _ _ qI.out (by decide)) ((B2.out.cell (p:=⟨bk,o+node*7+4,none⟩) bN).trans e4) (F2.out.cells _ _ _ _ qg.out (by decide)));clear tl mj By hz2))
 ·have HQ:=aa (Yo (B:=B) cC (st2:=st2) (nv:=.slice (some ⟨bk,o,none⟩) T.length c) (N:=T.length) (b:=b) (ub:=ub) (ob:=ob) (known:=false) (k:=k) (i:=i) B2.out dL.out F2.out lZ tj (fun h=>absurd h (by decide)))
  generalize w2.alloc (.cells #[.int .i64 k,.int .i64 i] 57)=W5 at HQ ⊢;generalize w2.heap.size=g at HQ ⊢;clear B2 F2 R2 zb dL qg qI eM kk e0 e4 x0 x1 x2 x3;have y0:=gL HQ.out.use;have y1:=gM HQ.out.use;have OA:=aa (HT.out.below HQ.out.below);have OC:=aa (ab (HQ.out.fr.cells _ _ _ _ Tn.out (by decide)) 0)
  go_wp2_with fail
  refine(FD W5).mono ?_;rintro e w6 ⟨rfl,rfl⟩;go_wp2_with fail
  refine(eH b node _ _ _ OA.out OC.out HX.out).mono ?_;rintro e w7 ⟨v,rfl,⟨g1,rfl⟩,h1,h2⟩;have H1:=aa h1;have H2:=aa h2;clear h1 h2;go_wp2_with fail
  go_ret
  exact iQ HQ.out.below (aM cC (aM (ah _) HQ.out.below.size)) H2.out H1.out
 ·have HQ:=aa (Yp (B:=B) cC pE (st2:=st2) (nv:=.slice (some ⟨bk,o,none⟩) T.length c) (N:=T.length) (b:=b) (ob:=ob) (known:=false) (k:=k) (i:=i) B2.out dL.out F2.out lZ tj (fun h=>absurd h (by decide)) Z2.out)
  generalize (w2.setCell ⟨W1.heap.size,0,none⟩ (.int .i64 k)).setCell ⟨W1.heap.size,1,none⟩ (.int .i64 i)=W5 at HQ ⊢;generalize W1.heap.size=g at HQ ⊢;clear q0 q1 q2 q3 Z2;clear B2 F2 R2 zb dL qg qI eM kk e0 e4 x0 x1 x2 x3;have y0:=gL HQ.out.use;have y1:=gM HQ.out.use;have OA:=aa (HT.out.below HQ.out.below);have OC:=aa (ab (HQ.out.fr.cells _ _ _ _ Tn.out (by decide)) 0)
  go_wp2_with fail
  refine(FD W5).mono ?_;rintro e w6 ⟨rfl,rfl⟩;go_wp2_with fail
  refine(eH b node _ _ _ OA.out OC.out HX.out).mono ?_;rintro e w7 ⟨v,rfl,⟨g1,rfl⟩,h1,h2⟩;have H1:=aa h1;have H2:=aa h2;clear h1 h2;go_wp2_with fail
  go_ret
  exact iQ HQ.out.below (aM cC (aM (ah _) HQ.out.below.size)) H2.out H1.out
theorem I6 {node f:Nat} {s:ByteArray} {line:Int} {st:aH} (h:(st.names.find? fun n=>decide (n.s=s))=none):lR node f s line st=.ok (st.dw node (1,0)):=by
 unfold lR;rw[h]
theorem I7 {node f:Nat} {s:ByteArray} {line:Int} {st:aH} {n:jn} (h:(st.names.find? fun n=>decide (n.s=s))=some n):lR node f s line st=match fC n st.fns.length f st.fns with
  | none=>.error (12,line)
  | some (F,k,i)=>.ok (({ st with fns:=F}:aH).dw node (k,(i:Int))):=by
 unfold lR;rw[h];dsimp only
 unfold fC;by_cases e:n.fn=f
 ·rw[al e,al e.symm]
 ·rw[af e,af fun e'=>e e'.symm]
  have:st.fns.set n.fn (da (st.fn n.fn) n.i)=fY n st.fns:=rfl;rw[this];cases lQ n st.fns.length (fY n st.fns) f with
  | none=>rfl
  | some r=>rfl
theorem OD {T:List Nd} {B:Nat} {nv:Value} {ub ob:Nat} (b node f:Nat) (h:Nd) (loop:Int) (pa la:Option Addr) (lc:Nat) (L:List cS) (st:aH) (w:World) (hT:wg w B nv T) (hw:jN w B b nv T.length st ub ob) (hx:T[node]? = some h) (hl:dk w B (.slice la L.length lc) L) (hn:st.names=mo L) (qV:Cx f st) (oB:dW st.fns) (IU:st.fns.length≤100000) (wZ:L.length≤100000) (hs:h.s.size≤maxLen) :
  Calls Tryz.prog 54 #[.pointer (some ⟨b,0,none⟩),.int .i64 (node:Int),.agg #[.int .i64 (f:Int),.int .i64 loop,.pointer pa,.slice la L.length lc]] w (gI B b nv T.length ub ob (lR node f h.s h.line st) w):=by
 obtain⟨_,_,_,_,_,cC,_⟩:=hT.nodes;have key :∀W,Below w.heap.size w W→Calls Tryz.prog 109 #[.pointer (some ⟨b,0,none⟩),.string h.s,.agg #[.int .i64 (f:Int),.int .i64 loop,.pointer pa,.slice la L.length lc]] W (Bv B b nv T.length ub ob st f h.s W) :=
  fun W hb=>I3 b f h.s loop pa la lc L st W (hw.later hb) (hl.jk (ob:=0) (cW.bR hb cC) (ah _)) hn qV oB IU wZ hs
 cases hf:st.names.find? fun n=>decide (n.s=h.s) with
 | none =>
  rw[I6 hf];refine I5 b node f h loop 0 0 pa la lc L st st w hT hw hx fun W hb=>(key W hb).mono ?_
  rintro e w' ⟨h1,h2,h3⟩;rw[hf] at h3;exact⟨h3.1,h1,h2,fun _=>h3.2⟩
 | some n =>
  rw[I7 hf];cases hR:fC n st.fns.length f st.fns with
  | none =>
   refine Oz b node f h loop 0 0 pa la lc L st st w hT hw hx fun W hb=>(key W hb).mono ?_
   rintro e w' ⟨h1,h2,h3⟩;rw[hf] at h3;simp only[hR] at h3;exact⟨h3,h1,h2,fun h=>absurd h (by decide)⟩
  | some r =>
   obtain⟨F,kd,j⟩:=r;refine Ow b node f h loop kd (j:Int) pa la lc L st { st with fns:=F} w hT hw hx fun W hb=>(key W hb).mono ?_
   rintro e w' ⟨h1,h2,h3⟩;rw[hf] at h3;simp only[hR] at h3;exact⟨h3.1,h1,h2,fun _=>h3.2⟩
theorem OE (x:fF) (s:ByteArray):((JN x).2.2 s).isSome=(cA x.kids s).isSome:=by
 show(fG x.kids x.rep x.kids.length s).isSome=_
 unfold fG;rw[Bm];cases cA x.kids s<;>rfl
theorem vw (s:ByteArray) (l:List fF):(l.map JN).find? (fun x=>(x.2.2 s).isSome)=(l.find? fun x=>(cA x.kids s).isSome).map JN:=by
 rw[List.find?_map];congr 1
 congr 1
 funext x
 exact OE x s
theorem Bz (l:List fF):Ob (l.map JN):=by
 intro x hx s v hv;obtain⟨y,_,rfl⟩:=eQ.1 hx;replace hv:fG y.kids y.rep y.kids.length s=some v:=hv;unfold fG at hv;cases e:nN y.kids y.rep y.kids.length s with
 | none=>rw[e] at hv;cases hv
 | some p =>
  rw[e] at hv;injection hv with hv;exact⟨_,_,hv.symm⟩
theorem xD {node f:Nat} {s:ByteArray} {line:Int} {st:aH} (h:((dH f st.frames).map JN).find? (fun x=>(x.2.2 s).isSome)=none):dm node f s line st st.frames=.error (8,line):=by
 rw[vw] at h;rw[n9,Option.map_eq_none_iff.1 h]
theorem xE {node f:Nat} {s:ByteArray} {line a d:Int} {st:aH} {x:Nat×Nat×(ByteArray→Option Value)} (h:((dH f st.frames).map JN).find? (fun x=>(x.2.2 s).isSome)=some x) (hx:x.2.2 s=some (.agg #[.int .i64 a,.int .i64 d])):dm node f s line st st.frames=if (x.1:Int)<d then .error (10,line) else .ok (st.dw node (4,a)):=by
 rw[vw,Option.map_eq_some_iff] at h;obtain⟨y,hy,rfl⟩:=h;rw[n9,hy];replace hx:fG y.kids y.rep y.kids.length s=some (.agg #[.int .i64 a,.int .i64 d]):=hx;unfold fG at hx;rw[Bm] at hx;dsimp only
 cases e:cA y.kids s with
 | none=>rw[e] at hx;cases hx
 | some j =>
  rw[e] at hx;dsimp only[Option.map] at hx
  injection hx with hx;injection hx with hx;have hx1:[Value.int .i64 ((y.kids.getD j (.mk 0 ⟨0,0,0,0,⟨#[]⟩,[],[]⟩ [])).loc:Int),.int .i64 (rT y.kids y.rep j:Int)]=[.int .i64 a,.int .i64 d]:=aB Array.toList hx;injection hx1 with e1 e2;injection e2 with e2 _;injection e1 with _ e1;injection e2 with _ e2;subst e1 e2;obtain⟨z,hz,hl,_⟩:=vo e;have hz2:qX z=true:=by
   unfold ml at hl;unfold qX;simp only[dj] at hl;exact hl.1
  dsimp only
  rw[S7 hz hz2];show(if decide (gT y.kids (y.at_+1)<rT y.kids y.rep j)=true then _ else _)=if ((gT y.kids (y.at_+1):Nat):Int)<_ then _ else _
  by_cases h1:gT y.kids (y.at_+1)<rT y.kids y.rep j
  ·rw[al (bX h1),al (by omega)]
  ·rw[af (by rw[bU h1];simp),af (by omega)]
structure JQ (w:World) (s:ByteArray) (fs:List (Nat×Nat×(ByteArray→Option Value))) (pa:Option Addr) (a d:Int) (W:World) (g:Nat):Prop where
 below:Below w.heap.size w W
 fnd:gw W s fs (.pointer pa) (.agg #[.int .i64 a,.int .i64 d])
 c0:W.cell? ⟨g,0,none⟩=some (.int .i64 a)
 c1:W.cell? ⟨g,1,none⟩=some (.int .i64 d)
 new:w.heap.size≤g
 lt:g<W.heap.size
theorem gw.later {W W':World} {s:ByteArray} {fs:List (Nat×Nat×(ByteArray→Option Value))} {pv xA:Value} (h:gw W s fs pv xA) (hb:Below W.heap.size W W'):gw W' s fs pv xA:=by
 unfold gw at h ⊢;split
 ·rename_i e
  rw[e] at h;exact h
 ·rename_i x e
  rw[e] at h;obtain⟨k,h1,h2,h3,h4⟩:=h;exact⟨k,h1,h2,(hb.cell (p:=⟨k,2,none⟩) h4).trans h3,cJ h4 hb.size⟩
theorem gw.far {W W':World} {s:ByteArray} {fs:List (Nat×Nat×(ByteArray→Option Value))} {pv xA:Value} {n:Nat} (h:gw W s fs pv xA) (hn :∀k,pv=.pointer (some ⟨k,0,none⟩)→k<n) (hsz:W.heap.size≤W'.heap.size) (hb :∀k,k<n→W'.heap[k]? = W.heap[k]?):gw W' s fs pv xA:=by
 unfold gw at h ⊢;split
 ·rename_i e
  rw[e] at h;exact h
 ·rename_i x e
  rw[e] at h;obtain⟨k,h1,h2,h3,h4⟩:=h;exact⟨k,h1,h2,(World.cell?_of_block (a:=⟨k,2,none⟩) (hb k (hn k h1))).trans h3,cJ h4 hsz⟩
theorem ac0 {w W1 w2:World} {s:ByteArray} {fs:List (Nat×Nat×(ByteArray→Option Value))} {pa:Option Addr} {a d:Int} (b1:Below w.heap.size w W1) (b2:Below W1.heap.size W1 w2) (hf:gw w2 s fs (.pointer pa) (.agg #[.int .i64 a,.int .i64 d])) (hle:w.heap.size≤W1.heap.size):JQ w s fs pa a d (w2.alloc (.cells #[.int .i64 a,.int .i64 d] 199)) w2.heap.size :=
 ⟨(b1.trans (b2.mono hle)).alloc (aM hle b2.size) _,hf.later ((Below.refl _ _).alloc (ah _) _),ab (heap_alloc_new _ _) 0,ab (heap_alloc_new _ _) 1,aM hle b2.size,by rw[an];omega⟩
theorem ac1 {w W1 w2:World} {s:ByteArray} {fs:List (Nat×Nat×(ByteArray→Option Value))} {pa:Option Addr} {a d x y:Int} (b1:Below w.heap.size w W1) (b2:Below W1.heap.size W1 w2) (hf:gw w2 s fs (.pointer pa) (.agg #[.int .i64 a,.int .i64 d])) (hn :∀k,Value.pointer pa=.pointer (some ⟨k,0,none⟩)→k<W1.heap.size) (hle:w.heap.size≤W1.heap.size) (hz:w2.heap[W1.heap.size]? = some (.cells #[.int .i64 x,.int .i64 y] 199 (0,0))):JQ w s fs pa a d ((w2.setCell ⟨W1.heap.size,0,none⟩ (.int .i64 a)).setCell ⟨W1.heap.size,1,none⟩ (.int .i64 d)) W1.heap.size :=
 ⟨((b1.trans (b2.mono hle)).setCell (p:=⟨W1.heap.size,0,none⟩) hle _).setCell (p:=⟨W1.heap.size,1,none⟩) hle _,hf.far hn (by rw[nO];exact ah _) (fun k hk=>qE w2 W1.heap.size _ _ k (by omega)),ab (yY hz _ _) 0,ab (yY hz _ _) 1,hle,by rw[nO];exact(aF.1 hz).1⟩
theorem gw.lt {W:World} {s:ByteArray} {fs:List (Nat×Nat×(ByteArray→Option Value))} {pa:Option Addr} {xA:Value} (h:gw W s fs (.pointer pa) xA) :∀k,Value.pointer pa=.pointer (some ⟨k,0,none⟩)→k<W.heap.size:=by
 intro k hk;unfold gw at h;split at h
 ·rw[hk] at h;cases h.1
 ·obtain⟨k',h1,_,_,h4⟩:=h
  rw[hk] at h1;injection h1 with h1;injection h1 with h1;injection h1 with h1;omega
theorem gw.old {W:World} {s:ByteArray} {fs:List (Nat×Nat×(ByteArray→Option Value))} {pa:Option Addr} {xA:Value} {x y:Value} (h:gw (W.alloc (.cells #[x,y] 199)).drew s fs (.pointer pa) xA) :∀k,Value.pointer pa=.pointer (some ⟨k,0,none⟩)→k<W.heap.size:=by
 intro k hk;have h1:=h.lt k hk;replace h1:k<(W.alloc (.cells #[x,y] 199)).heap.size:=h1;rw[an] at h1;by_cases e:k=W.heap.size
 ·exfalso
  subst e;unfold gw at h;split at h
  ·rw[hk] at h;cases h.1
  ·obtain⟨k',h2,_,h3,_⟩:=h
   rw[hk] at h2;injection h2 with h2;injection h2 with h2;injection h2 with h2;subst h2;have h4:=ab (heap_alloc_new W (.cells #[x,y] 199)) 2;replace h3:(W.alloc (.cells #[x,y] 199)).cell? ⟨W.heap.size,2,none⟩=_:=h3;rw[h4] at h3;cases h3
 ·omega
theorem iD {a w:World} (h:Below a.drew.heap.size a.drew w):Below a.heap.size a w:=⟨h.os,h.tape,h.output,h.size,h.block⟩
theorem gw.no {W:World} {s:ByteArray} {fs:List (Nat×Nat×(ByteArray→Option Value))} {pa:Option Addr} {xA:Value} (h:gw W s fs (.pointer pa) xA) (e:fs.find? (fun x=>(x.2.2 s).isSome)=none):pa=none:=by
 unfold gw at h;rw[e] at h;have:=h.1;injection this
theorem gw.yes {W:World} {s:ByteArray} {fs:List (Nat×Nat×(ByteArray→Option Value))} {pa:Option Addr} {xA:Value} {x:Nat×Nat×(ByteArray→Option Value)} (h:gw W s fs (.pointer pa) xA) (e:fs.find? (fun x=>(x.2.2 s).isSome)=some x) :∃k,pa=some ⟨k,0,none⟩∧x.2.2 s=some xA∧W.cell? ⟨k,2,none⟩=some (.int .i64 (x.1:Int))∧k<W.heap.size:=by
 unfold gw at h;rw[e] at h;obtain⟨k,h1,h2⟩:=h;injection h1 with h1;exact⟨k,h1,h2⟩
theorem gw.OF {W:World} {s:ByteArray} {fs:List (Nat×Nat×(ByteArray→Option Value))} {pv xA:Value} (h:gw W.drew s fs pv xA):gw W s fs pv xA:=h
theorem BA {W w2:World} {b bk j p N f c o:Nat} {s:ByteArray} {loop:Int} {pa la:Option Addr} {ln lc:Nat} (h:W.cell? ⟨b,0,none⟩=some (.slice (some ⟨bk,o,none⟩) N c)∧W.cell? ⟨bk,j,none⟩=some (.string s)∧W.cell? ⟨p,0,none⟩=some (.int .i64 (f:Int))∧W.cell? ⟨p,1,none⟩=some (.int .i64 loop)∧W.cell? ⟨p,2,none⟩=some (.pointer pa)∧W.cell? ⟨p,3,none⟩=some (.slice la ln lc)) (hb:b<W.heap.size) (hk:bk<W.heap.size) (hp:p<W.heap.size) (hB:Below W.heap.size W w2) :
  w2.cell? ⟨b,0,none⟩=some (.slice (some ⟨bk,o,none⟩) N c)∧w2.cell? ⟨bk,j,none⟩=some (.string s)∧w2.cell? ⟨p,0,none⟩=some (.int .i64 (f:Int))∧w2.cell? ⟨p,1,none⟩=some (.int .i64 loop)∧w2.cell? ⟨p,2,none⟩=some (.pointer pa)∧w2.cell? ⟨p,3,none⟩=some (.slice la ln lc) :=
 ⟨(hB.cell (p:=⟨b,0,none⟩) hb).trans h.1,(hB.cell (p:=⟨bk,j,none⟩) hk).trans h.2.1,(hB.cell (p:=⟨p,0,none⟩) hp).trans h.2.2.1,(hB.cell (p:=⟨p,1,none⟩) hp).trans h.2.2.2.1,(hB.cell (p:=⟨p,2,none⟩) hp).trans h.2.2.2.2.1,(hB.cell (p:=⟨p,3,none⟩) hp).trans h.2.2.2.2.2⟩
theorem OG {T:List Nd} {B:Nat} {nv:Value} {ub ob:Nat} (b node f:Nat) (h:Nd) (loop:Int) (pa la:Option Addr) (lc ln:Nat) (ms:List Nat) (st:aH) (w:World) (hT:wg w B nv T) (hw:jN w B b nv T.length st ub ob) (hx:T[node]? = some h) (hc:oQ w B (dH f st.frames) ms (.pointer pa)) (hs:h.s.size≤maxLen) :
  Calls Tryz.prog 59 #[.pointer (some ⟨b,0,none⟩),.int .i64 (node:Int),.agg #[.int .i64 (f:Int),.int .i64 loop,.pointer pa,.slice la ln lc]] w (gI B b nv T.length ub ob (dm node f h.s h.line st st.frames) w):=by
 obtain⟨bk,o,c,rfl,bN,cC,cL⟩:=hT.nodes;obtain⟨pL,pM,dM,_,_⟩:=cL node h hx;have jl:node<T.length:=(aJ.1 hx).1;have qY:=hT.few;obtain⟨fv,FL,hw⟩:=hw;obtain⟨hbl,pE,uq⟩:=hw.gR;have HW:=aa hw;have hb4:=hw.blk;have d0:=ab hb4 0;replace d0:_=some (Value.slice (some ⟨bk,o,none⟩) T.length c):=d0;have d4:=Tl dM;have iR:bk<w.heap.size:=by omega
 have HT:=aa hT;have HX:=aa hx;obtain⟨fs,Cp⟩ :∃fs,fs=(dH f st.frames).map JN:=⟨_,rfl⟩;have U7:=aa Cp;replace hc:cz w B fs ms (.pointer pa):=Cp▸hc;have To:Ob fs:=Cp▸Bz _;have zb:Hid (∀W,Below w.heap.size w W→Calls Tryz.prog 116 #[.pointer pa,.string h.s] W fun e w'=>∃Tp a d,e=.returned (.tuple #[.pointer Tp,.agg #[.int .i64 a,.int .i64 d]])∧gw W h.s fs (.pointer Tp) (.agg #[.int .i64 a,.int .i64 d])∧Below W.heap.size W w'):=aa fun W hW=>Bn fs ms _ h.s W (hc.later hW) hs To
 clear hw hT hx dM cL hb4 hc To Cp;go_enter Tryz.func59,Tryz.ntmps59
 go_wp2_with fail
 have dL:=aa ((Below.refl w.heap.size w).alloc (ah _) (.cells #[.int .i64 (f:Int),.int .i64 loop,.pointer pa,.slice la ln lc] 92));have db:=heap_alloc_new w (.cells #[.int .i64 (f:Int),.int .i64 loop,.pointer pa,.slice la ln lc] 92);have x0:=ab db 0;have x1:=ab db 1;have x2:=ab db 2;have x3:=ab db 3;replace x0:_=some (Value.int .i64 (f:Int)):=x0;replace x1:_=some (Value.int .i64 loop):=x1;replace x2:_=some (Value.pointer pa):=x2;replace x3:_=some (Value.slice la ln lc):=x3;have e0:=(dL.out.cell (p:=⟨b,0,none⟩) hbl).trans d0;have e4:=(dL.out.cell (p:=⟨bk,o+node*7+4,none⟩) iR).trans d4;have hs1:(w.alloc (.cells #[.int .i64 (f:Int),.int .i64 loop,.pointer pa,.slice la ln lc] 92)).heap.size=w.heap.size+1:=an _ _;generalize w.alloc (.cells #[.int .i64 (f:Int),.int .i64 loop,.pointer pa,.slice la ln lc] 92)=W1 at *;have eM:=aa hs1;clear d0 d4 db hs1;have kk:Hid (W1.cell? ⟨b,0,none⟩=some (.slice (some ⟨bk,o,none⟩) T.length c)∧W1.cell? ⟨bk,o+node*7+4,none⟩=some (.string h.s)∧W1.cell? ⟨w.heap.size,0,none⟩=some (.int .i64 (f:Int))∧W1.cell? ⟨w.heap.size,1,none⟩=some (.int .i64 loop)∧W1.cell? ⟨w.heap.size,2,none⟩=some (.pointer pa)∧W1.cell? ⟨w.heap.size,3,none⟩=some (.slice la ln lc)):=aa ⟨e0,e4,x0,x1,x2,x3⟩;have hb1:b<W1.heap.size:=(by have:=eM.out;omega)
 have iX:bk<W1.heap.size:=(by have:=eM.out;omega)
 have ef:w.heap.size<W1.heap.size:=(by have:=eM.out;omega)
 have lZ:w.heap.size≤W1.heap.size:=fx ef;have De:b≠W1.heap.size:=ju hb1;have fX:bk≠W1.heap.size:=ju iX;have Yq:w.heap.size≠W1.heap.size:=ju ef;have tj:B≤W1.heap.size:=aM cC lZ;go_region_held3 (fun w'=>w'.cell? ⟨b,0,none⟩=some (.slice (some ⟨bk,o,none⟩) T.length c)∧w'.cell? ⟨bk,o+node*7+4,none⟩=some (.string h.s)∧w'.cell? ⟨w.heap.size,0,none⟩=some (.int .i64 (f:Int))∧w'.cell? ⟨w.heap.size,1,none⟩=some (.int .i64 loop)∧w'.cell? ⟨w.heap.size,2,none⟩=some (.pointer pa)∧w'.cell? ⟨w.heap.size,3,none⟩=some (.slice la ln lc))
  (first|exact kk.out|exact qG kk.out hb1 iX ef _|exact za kk.out De fX Yq _ _)
  (first
   | (go_at_call 116;refine(zb.out W1.drew dL.out.drew).mono ?_;rintro e w2 ⟨Tp,a,d,rfl,mj,tl⟩;have B2:=aa (dx tl);have F2:=aa (mj.OF.later (dx tl));have kk:=aa (BA kk.out hb1 iX ef (dx tl));have hb1:b<w2.heap.size:=cJ hb1 B2.out.size;have iX:bk<w2.heap.size:=cJ iX B2.out.size;have ef:w.heap.size<w2.heap.size:=cJ ef B2.out.size;clear tl mj)
   | (go_at_call 116;refine(zb.out (W1.alloc (.cells #[.int .i64 0,.int .i64 0] 199)).drew (dL.out.alloc lZ _).drew).mono ?_;rintro e w2 ⟨Tp,a,d,rfl,mj,tl⟩;have hbb:=iD tl;have B2:=aa (((Below.refl _ W1).alloc (ah _) (.cells #[.int .i64 0,.int .i64 0] 199)).trans (hbb.mono (by rw[an];omega)));have F2:=aa (mj.OF.later hbb);have N2:=aa mj.old;have hz2:=(hbb.block W1.heap.size (by rw[an];omega)).trans (heap_alloc_new W1 (.cells #[.int .i64 0,.int .i64 0] 199));have q0:=gL hz2;have q1:=gM hz2;have q2:=av hz2 0;have q3:=av hz2 1;have Z2:=aa hz2;have kk:=aa (BA kk.out hb1 iX ef B2.out);clear tl mj hz2 hbb))
 ·have HJ:=aa (ac0 dL.out B2.out F2.out lZ)
  generalize w2.alloc (.cells #[.int .i64 a,.int .i64 d] 199)=W5 at HJ ⊢;generalize w2.heap.size=g at HJ ⊢;clear B2 F2 zb dL eM kk e0 e4 x0 x1 x2 x3;have j0:=HJ.out.c0;have j1:=HJ.out.c1;have ix:=HW.out.later HJ.out.below;obtain⟨yz,hl2,Cm⟩:=ix.gR;have qU:=HJ.out.lt;have OA:=aa (HT.out.below (HJ.out.below.mono cC));have OC:=aa (ab ix.blk 0);have uQ:B≤W5.heap.size:=aM cC HJ.out.below.size;have d2:W5.cell? ⟨b,2,none⟩=some (.slice (some ⟨ub,0,none⟩) T.length T.length):=ab ix.blk 2;obtain⟨u0,v0⟩:=bA ix.uses (j:=node*2) (by omega)
  obtain⟨u1,v1⟩:=bA ix.uses (j:=node*2+1) (by omega)
  have qJ:=aa ix;clear ix;cases qH:fs.find? (fun x=>(x.2.2 h.s).isSome) with
  | none =>
   have hp:=HJ.out.fnd.no qH;subst hp;have HE:=aa (xD (node:=node) (line:=h.line) (U7.out▸qH));clear qH d2 u0 v0 u1 v1;go_wp2_with fail
   refine(eH b node _ _ _ OA.out OC.out HX.out).mono ?_;rintro e w6 ⟨v,rfl,⟨g2,rfl⟩,h1,h2⟩;have H1:=aa h1;have H2:=aa h2;clear h1 h2;go_wp2_with fail
   go_ret
   rw[HE.out];exact iQ (HJ.out.below.mono cC) uQ H2.out H1.out
  | some x =>
   obtain⟨kb,hp,Tq,hk2,vW⟩:=HJ.out.fnd.yes qH;subst hp;have HE:=aa (xE (node:=node) (line:=h.line) (U7.out▸qH) Tq);clear qH Tq;by_cases hlt:(x.1:Int)<d
   ·have g1:decide ((x.1:Int)<d)=true:=bX hlt
    have HL:=aa hlt;clear hlt d2 u0 v0 u1 v1;go_wp2_with fail
    go_region
    go_wp2_with fail
    refine(eH b node _ _ _ (OA.out.below (Below.refl _ _).drew) OC.out HX.out).mono ?_;rintro e w6 ⟨v,rfl,⟨g2,rfl⟩,h1,h2⟩;have H1:=aa h1;have H2:=aa h2;clear h1 h2;go_wp2_with fail
    go_ret
    rw[HE.out,al HL.out];exact iQ (HJ.out.below.mono cC).drew uQ H2.out H1.out
   ·have g1:decide ((x.1:Int)<d)=false:=bU hlt
    have HL:=aa hlt;clear hlt;go_wp2_with fail
    go_region
    go_wp2_with fail
    go_region
    go_wp2_with fail
    go_ret
    rw[HE.out,af (Int.not_lt.2 HL.out)];exact⟨(((HJ.out.below.mono cC).drew.setCell (p:=⟨ub,node*2,none⟩) qJ.out.jf.1 _).setCell (p:=⟨ub,node*2+1,none⟩) qJ.out.jf.1 _).drew,rfl,⟨_,_,(qJ.out.drew.use node (4,a)).drew⟩,((Fr.ae HJ.out.below).drew.trans ((lV qJ.out.drew node _ _).mono (by decide))).drew⟩
 ·have HJ:=aa (ac1 dL.out B2.out F2.out N2.out lZ Z2.out)
  generalize (w2.setCell ⟨W1.heap.size,0,none⟩ (.int .i64 a)).setCell ⟨W1.heap.size,1,none⟩ (.int .i64 d)=W5 at HJ ⊢;generalize W1.heap.size=g at HJ ⊢;clear q0 q1 q2 q3 Z2 N2 B2 F2 zb dL eM kk e0 e4 x0 x1 x2 x3;have j0:=HJ.out.c0;have j1:=HJ.out.c1;have ix:=HW.out.later HJ.out.below;obtain⟨yz,hl2,Cm⟩:=ix.gR;have qU:=HJ.out.lt;have OA:=aa (HT.out.below (HJ.out.below.mono cC));have OC:=aa (ab ix.blk 0);have uQ:B≤W5.heap.size:=aM cC HJ.out.below.size;have d2:W5.cell? ⟨b,2,none⟩=some (.slice (some ⟨ub,0,none⟩) T.length T.length):=ab ix.blk 2;obtain⟨u0,v0⟩:=bA ix.uses (j:=node*2) (by omega)
  obtain⟨u1,v1⟩:=bA ix.uses (j:=node*2+1) (by omega)
  have qJ:=aa ix;clear ix;cases qH:fs.find? (fun x=>(x.2.2 h.s).isSome) with
  | none =>
   have hp:=HJ.out.fnd.no qH;subst hp;have HE:=aa (xD (node:=node) (line:=h.line) (U7.out▸qH));clear qH d2 u0 v0 u1 v1;go_wp2_with fail
   refine(eH b node _ _ _ OA.out OC.out HX.out).mono ?_;rintro e w6 ⟨v,rfl,⟨g2,rfl⟩,h1,h2⟩;have H1:=aa h1;have H2:=aa h2;clear h1 h2;go_wp2_with fail
   go_ret
   rw[HE.out];exact iQ (HJ.out.below.mono cC) uQ H2.out H1.out
  | some x =>
   obtain⟨kb,hp,Tq,hk2,vW⟩:=HJ.out.fnd.yes qH;subst hp;have HE:=aa (xE (node:=node) (line:=h.line) (U7.out▸qH) Tq);clear qH Tq;by_cases hlt:(x.1:Int)<d
   ·have g1:decide ((x.1:Int)<d)=true:=bX hlt
    have HL:=aa hlt;clear hlt d2 u0 v0 u1 v1;go_wp2_with fail
    go_region
    go_wp2_with fail
    refine(eH b node _ _ _ (OA.out.below (Below.refl _ _).drew) OC.out HX.out).mono ?_;rintro e w6 ⟨v,rfl,⟨g2,rfl⟩,h1,h2⟩;have H1:=aa h1;have H2:=aa h2;clear h1 h2;go_wp2_with fail
    go_ret
    rw[HE.out,al HL.out];exact iQ (HJ.out.below.mono cC).drew uQ H2.out H1.out
   ·have g1:decide ((x.1:Int)<d)=false:=bU hlt
    have HL:=aa hlt;clear hlt;go_wp2_with fail
    go_region
    go_wp2_with fail
    go_region
    go_wp2_with fail
    go_ret
    rw[HE.out,af (Int.not_lt.2 HL.out)];exact⟨(((HJ.out.below.mono cC).drew.setCell (p:=⟨ub,node*2,none⟩) qJ.out.jf.1 _).setCell (p:=⟨ub,node*2+1,none⟩) qJ.out.jf.1 _).drew,rfl,⟨_,_,(qJ.out.drew.use node (4,a)).drew⟩,((Fr.ae HJ.out.below).drew.trans ((lV qJ.out.drew node _ _).mono (by decide))).drew⟩
theorem I8 (n:jn) (iC:List jn) (s:ByteArray):jT (n::iC) s=if s=n.s then some (.int .i64 (n.i:Int)) else jT iC s:=by
 unfold jT;rw[kM];by_cases e:s=n.s
 ·subst e
  simp
 ·rw[af e,bU fun h=>e h.symm]
theorem fe {W W':World} {m:Nat} (hg:W.grownBy W' (some m)) (hm :∃es c,W.heap[m]? = some (.map es c)) :∀(k:Nat) c (e:TypeId) fz,W.heap[k]? = some (.cells c e fz)→W'.heap[k]? = some (.cells c e fz):=fun k c e fz hk=>by
 obtain⟨es,c',hb⟩:=hm;refine(hg.block k (aF.1 hk).1 fun e'=>?_).trans hk
 injection e' with e';subst e';rw[hb] at hk;cases hk
theorem iq {W W':World} {B e s n:Nat} {v:Value} {xs:List Value} (hk :∀(k:Nat) c (e:TypeId) fz,W.heap[k]? = some (.cells c e fz)→W'.heap[k]? = some (.cells c e fz)) (hu:W.ownsRow B e s v n xs):W'.ownsRow B e s v n xs:=by
 refine⟨hu.1,?_⟩;rcases hu.2 with hn | ⟨g,cap,cur,rfl,hB,hg,rest⟩
 ·exact .inl hn
 ·exact .inr ⟨g,cap,cur,rfl,hB,hk g _ _ _ hg,rest⟩
theorem e9.keep {W W':World} {B b:Nat} {nv:Value} {N:Nat} {st:aH} {fv:Value} {ub ob:Nat} {L:List mB} (h:e9 W B b nv N st fv ub ob L) (hk :∀(k:Nat) c (e:TypeId) fz,W.heap[k]? = some (.cells c e fz)→W'.heap[k]? = some (.cells c e fz)):e9 W' B b nv N st fv ub ob L :=
 ⟨hk b _ _ _ h.blk,⟨iq hk h.fns.row,fun t ht=>iq hk (h.fns.vars t ht),fun t ht=>iq hk (h.fns.ch t ht),h.fns.pD,h.fns.qB⟩,h.are,iq hk h.uses,iq hk h.mC,h.pos⟩
theorem e9.names {W:World} {B b:Nat} {nv:Value} {N:Nat} {st:aH} {fv:Value} {ub ob:Nat} {L:List mB} (h:e9 W B b nv N st fv ub ob L) (ns:List jn):e9 W B b nv N { st with names:=ns} fv ub ob L:=h.on rfl rfl rfl
theorem Ts {ops:Array Oper} {rest:List Oper} {o:Oper} {a:Act} {Q:Exit→Act→World→Prop} (w:World) (n:mw) (hgd:o.guard=none) (sl y:Operand)
  (ho:o.op=.call { callee:=.builtin .append,args:=#[sl,y],argTypes:=#[49,49]}) (B:Nat) (v:Value) (ns:List mw) (hs:a.eval sl=v) (hown:w.ownsRow B 61 3 v ns.length (ns.flatMap th)) (g:Nat) (hg:g=w.heap.size) (hy:a.eval y=.slice (some ⟨g,0,none⟩) 1 1)
  (hlen:ns.length≤1000000) (hB:B≤w.heap.size)
  (h :∀g' c' w',w'.ownsRow B 61 3 (.slice (some ⟨g',0,none⟩) (ns.length+1) c') (ns++[n]).length ((ns++[n]).flatMap th)→qW v.ownBlock w w'→Below B w w'→(v.ownBlock=some g'∨w.heap.size≤g')→wpList Tryz.prog ops Q rest (a.put o.dst (.slice (some ⟨g',0,none⟩) (ns.length+1) c')) w') :
  wpList Tryz.prog ops Q (o::rest) a (w.alloc (.cells (th n).toArray 61)):=by
 obtain⟨i0,mY,hz0,hz1,hz2⟩:=info_parts IN;refine X9 w (th n) hgd sl y 49 61 i0 _ 3 32 ho Tryz.underlying49 mY hz0 hz1 hz2 rfl (by omega) (by omega) B v ns.length _ hs hown g hg hy rfl (by intro u hu;simp[th] at hu;rcases hu with rfl|rfl|rfl<;>rfl) hlen hB ?_
 intro g' c' w' r1 r2 r3 r4;refine h g' c' w' ?_ r2 r3 r4;rw[cI,mF,oE,Ea];exact r1
structure ac2 (w wr:World) (B b:Nat) (nv:Value) (N:Nat) (st s1:aH) (g n c ub ob:Nat) (L1:List mB) (lv:Value) (nl m f:Nat) (iC a:List jn):Prop where
 rs:e9 wr B b nv N s1 (.slice (some ⟨g,0,none⟩) L1.length c) ub ob L1
 len:L1.length=n
 jk:cW B ob lv nl (some m) w wr
 map:dP Tryz.prog 9 wr m (a++iC).length (jT (a++iC))
 own :∀x∈a,x.fn=f
 names:s1.names=a++st.names
 few:dW s1.fns
theorem km {T:List Nd} {B:Nat} {nv:Value} {ub ob:Nat} (b node f:Nat) (h:Nd) (loop:Int) (pa la:Option Addr) (lc:Nat) (l:cS) (r:List cS) (st:aH) (w:World) (hT:wg w B nv T) (hw:jN w B b nv T.length st ub ob) (hx:T[node]? = some h) (hf:f<st.fns.length) (hl:dk w B (.slice la (l::r).length lc) (l::r)) (hlf:l.fn=f) (hrl:(l::r).length≤100000) (oB:dW st.fns) (rW:l.iC.length≤100000) (hsz :∀s∈h.names,s.size≤65536) :
  Calls Tryz.prog 113 #[.pointer (some ⟨b,0,none⟩),.int .i64 (node:Int),.agg #[.int .i64 (f:Int),.int .i64 loop,.pointer pa,.slice la (l::r).length lc]] w (aq B b nv T.length ub ob (.slice la (l::r).length lc) (l::r) st (bF node f h.line h.names st) w):=by
 obtain⟨fv,FL,hw⟩:=hw;obtain⟨⟨t1,tv,tu⟩,ht⟩:=hw.Bk hf;obtain⟨g,c,rfl,Yb,qU,s8⟩:=hw.fns.form ht;have hfn:=(hw.sQ ht).2;obtain⟨bk,o,tc,rfl,bN,cC,hn⟩:=hT.nodes;have jl:node<T.length:=(aJ.1 hx).1;have wZ:=hw.len;have IU:f<FL.length:=by omega
 have qY:=hT.few;have JL:h.names.length≤20000:=(hT.small h (aL hx)).2;obtain⟨hbl,pE,uq⟩:=hw.gR;obtain⟨pL,pM,dM,hst,_⟩:=hn node h hx;have c5:=dM.c5;obtain⟨NA,nc,rfl,hnc,_⟩:=id hst;obtain⟨VA,vc,U9,Te,_⟩:=dv (hw.fns.vars _ (aL ht));simp only at U9 Te;subst U9;have d0:w.cell? ⟨b,0,none⟩=some (.slice (some ⟨bk,o,none⟩) T.length tc):=ab hw.blk 0;have d1:w.cell? ⟨b,1,none⟩=some (.slice (some ⟨g,0,none⟩) FL.length c):=ab hw.blk 1;have d2:w.cell? ⟨b,2,none⟩=some (.slice (some ⟨ub,0,none⟩) T.length T.length):=ab hw.blk 2;have e4:w.cell? ⟨g,f*6+4,none⟩=some (.slice VA t1.vars.length vc):=(s8 4 (by omega)).1
 obtain⟨u0,v0⟩:=bA hw.uses (j:=node*2) (by omega)
 obtain⟨u1,v1⟩:=bA hw.uses (j:=node*2+1) (by omega)
 obtain⟨ga,rfl,hgal,m1⟩ :∃ga,la=some ⟨ga,0,none⟩∧ga<w.heap.size∧w.cell? ⟨ga,r.length*2+1,none⟩=some (.map (some l.blk)):=by
  obtain⟨A,cc,he,_,hr⟩:=dv hl.row;injection he with uC _ _;subst uC;rcases hr with h0 | ⟨ga,rfl,_,h2,h3⟩
  ·simp at h0
  ·refine⟨ga,rfl,h2,?_⟩
   rw[h3 (r.length*2+1) (by rw[List.length_cons];omega)]
   have hq:(l::r).reverse[r.length]? = some l:=by simp
   exact ez yX _ r.length 1 l hq (by omega)
 have hmi:=(hl.maps l (bT ..)).1.isMap;have zq:=(hl.maps l (bT ..)).1;have hmB:=(hl.maps l (bT ..)).2;have adI:((l::r).length:Int)=(r.length:Int)+1:=by simp
 have tm:bk≠ub:=by have:=hw.jf.1;omega
 have hbu:b≠ub:=fun e=>by
  obtain⟨cs,hcs⟩:=lj hw.uses;rw[←e,hw.blk] at hcs;injection hcs with hcs;injection hcs with _ hcs;exact absurd hcs (by decide)
 have HW:=aa hw;have HT:=aa hT;have HX:=aa hx;have HST:=aa hst;have HFN:=aa hfn;have HL:=aa hl;have HMI:=aa hmi;have HML:=aa zq;have HTF:=aa ht;clear hw hT hx hst hfn ht s8 hn dM hl hmi zq wZ;go_enter Tryz.func113,Tryz.ntmps113
 go_wp2_with fail
 go_region
 go_wp2_with fail
 go_region
 obtain⟨W2,hW2⟩ :∃W2,W2=(((w.setCell ⟨ub,node*2,none⟩ (.int .i64 2)).setCell ⟨ub,node*2+1,none⟩ (.int .i64 (t1.vars.length:Int))).alloc (.cells #[.int .i64 (f:Int),.int .i64 loop,.pointer pa,.slice (some ⟨ga,0,none⟩) (r.length+1) lc] 92)).drew.drew:=⟨_,rfl⟩;have hR2:=HW.out.use node (2,(t1.vars.length:Int));have hF2:Fr [57] w W2:=by rw[hW2];exact(((lV HW.out node _ _).trans (Fr.alloc _)).drew).drew
 have hB2:Below B w W2:=by rw[hW2];exact(((vj HW.out node _ _).alloc (by simp;omega) _).drew).drew
 have hR2:e9 W2 B b (.slice (some ⟨bk,o,none⟩) T.length tc) T.length (st.dw node (2,(t1.vars.length:Int))) (.slice (some ⟨g,0,none⟩) FL.length c) ub ob FL:=by rw[hW2];exact((hR2.alloc _).drew).drew
 rw[←hW2];clear hW2 d0 d1 d2 e4 u0 v0 u1 v1 m1;have d0:W2.cell? ⟨b,0,none⟩=some (.slice (some ⟨bk,o,none⟩) T.length tc):=ab hR2.blk 0;have c5:=(hB2.cell (p:=⟨bk,o+node*7+5,none⟩) bN).trans c5;have lO:=aa (cW.vi (ob:=ob) (v:=.slice (some ⟨ga,0,none⟩) (r.length+1) lc) (n:=r.length+1) (top:=some l.blk) hF2 (by decide) hB2)
 have HM2:=aa (hF2.map HML.out);have vX:=aa hR2;clear hF2 hB2 hR2;go_wp2_with fail
 obtain⟨R,hR⟩ :∃R,R=bF node f h.line h.names st:=⟨_,rfl⟩;have HR:=aa hR;clear hR d0 c5;go_loopw [50] (fun tk wr=>∃(k:Nat) (s1:aH) (L1:List mB) (a:List jn),tk=.int .i64 (k:Int)∧k≤h.names.length∧ac2 w wr B b (.slice (some ⟨bk,o,none⟩) T.length tc) T.length st s1 g FL.length c ub ob L1 (.slice (some ⟨ga,0,none⟩) (r.length+1) lc) (r.length+1) l.blk f l.iC a∧a.length=k∧dV node f h.line (h.names.drop k) s1=R) (fun tk _=>h.names.length-(intOf tk).toNat)
 case atStart =>
  refine⟨0,st.dw node (2,(t1.vars.length:Int)),FL,[],rfl,bB _,⟨vX.out,rfl,lO.out,HM2.out,by simp,rfl,oB⟩,rfl,?_⟩
  rw[HR.out,tR];unfold bF;rw[HFN.out]
 case round =>
  obtain⟨k,s1,L1,a,rfl,hk,hd,hak,hgo⟩:=hrel;have hL1:=hd.len;have ac3:f<L1.length:=by omega
  obtain⟨⟨y1,yv,yu⟩,hy⟩ :∃t,L1[f]? = some t:=⟨L1[f],bE ac3⟩;obtain⟨g',c',pF,_,hgl1,Yr⟩:=hd.rs.fns.form hy;injection pF with pF _ hcc;injection pF with pF;injection pF with pF _ _;subst pF hcc;obtain⟨VA1,vc1,U9,ac4,_⟩:=dv (hd.rs.fns.vars _ (aL hy));simp only at U9 ac4;subst U9;have e4:wr.cell? ⟨g,f*6+4,none⟩=some (.slice VA1 y1.vars.length vc1):=(Yr 4 (by omega)).1
  have z4:=(Yr 4 (by omega)).2
  have aa6:=(hd.rs.sQ hy).2;have adJ:y1.vars.length≤200:=(hd.few f y1 (hd.rs.sQ hy).1).1;have aa7:=aa aa6;have HD:=aa hd;have Ut:=aa hgo;have HY:=aa hy;clear hd hgo hy aa6 Yr;by_cases hlt:k<h.names.length
  ·obtain⟨s,hsk⟩ :∃s,h.names[k]? = some s:=⟨h.names[k],bE hlt⟩
   have hdr:=eY hsk;have hssz:=hsz s (aL hsk);obtain⟨A',c',he,_,jc⟩:=(HST.out.below HD.out.jk.below);injection he with uC _ he2;subst uC he2;rcases jc with h0 | ⟨sb,so,rfl,Ys,hsc⟩
   ·rw[h0] at hlt;exact absurd hlt (gV _)
   have cs:=hsc k s hsk;have uw:=aa hdr;have mD:=aa hlt;clear hsc hsk hdr;by_cases EJ:y1.vars.length=200
   ·have g1:((y1.vars.length:Int) == 200)=true:=by rw[EJ];rfl
    have HC:=aa (ab HD.out.rs.blk 0);have AJ:=aa (HT.out.below HD.out.jk.below);go_wp2_with fail
    refine(eH b node _ _ _ AJ.out HC.out HX.out).mono ?_;rintro e w2 ⟨v,rfl,⟨g2,rfl⟩,h1,h2⟩;have H1:=aa h1;have H2:=aa h2;clear h1 h2;go_wp2_with fail
    go_ret
    have hE:bF node f h.line h.names st=.error (11,h.line):=by
     rw[←HR.out,←Ut.out,uw.out,dV,aa7.out,al (by omega)]
    rw[hE];exact⟨HD.out.jk.below.trans (H2.out.mono (aM cC HD.out.jk.below.size)),_,rfl,H1.out⟩
   ·have g1:((y1.vars.length:Int) == 200)=false:=aC.2 (by omega)
    have hBr:B≤wr.heap.size:=aM cC HD.out.jk.below.size;obtain⟨W7,hrun,hm7,hg7⟩:=HD.out.map.put (t:=236) (e:=3) Tryz.underlying9 Tryz.underlying236 (by rw[cI];unfold maxLen;omega) s (by unfold maxLen;omega) (.int .i64 (y1.vars.length:Int)) rfl
    have ld:=fe hg7 HD.out.map.isMap;have hR7:=HD.out.rs.keep ld;have Vc:=HD.out.jk.trans (cW.of_map hg7 HD.out.map.isMap hmB hBr);obtain⟨g',c',pF,_,hgl7,Yt⟩:=hR7.fns.form HY.out;injection pF with pF _ hcc;injection pF with pF;injection pF with pF _ _;subst pF hcc;have e47:W7.cell? ⟨g,f*6+4,none⟩=some (.slice VA1 y1.vars.length vc1):=(Yt 4 (by omega)).1
    have z47:=(Yt 4 (by omega)).2
    have hB7:B≤W7.heap.size:=aM hBr hg7.size;have aa8:y1.vars.length≤1000000:=by omega
    have S9:f*6+4<L1.length*6:=by omega
    have R7:=aa hR7;have F7:=aa Vc;have M7:=aa hm7;clear Yt hR7 Vc hm7 hg7 ld;go_wp2_with (at_builtin;refine Ts W7 ⟨s,node,false⟩ rfl _ _ rfl B (.slice VA1 y1.vars.length vc1) y1.vars rfl (R7.out.fns.vars _ (aL HY.out)) W7.heap.size rfl rfl aa8 hB7 ?_;intro g8 c8 w8 r8 b8 U8 n8;have Q8:=aa (R7.out.NO HY.out b8 r8 (fun k hk=>by injection hk with hk;subst hk;exact n8));have PZ:=aa U8;have vu:=b8.row R7.out.fns.row (fun k hk e=>eo R7.out.fns.row (R7.out.fns.vars _ (aL HY.out)) (by decide) k hk e);have e43:w8.cell? ⟨g,f*6+4,none⟩=some (.slice VA1 y1.vars.length vc1):=(World.ownsRow.cellAt vu (f*6+4) S9).trans (ez qz L1 f 4 _ HY.out (by omega));have z43:=World.ownsRow.frozenAt vu (f*6+4);clear r8 b8 U8 n8 vu)
    have HF8:=aa (F7.out.trans (cW.vi (ob:=ob) (v:=.slice (some ⟨ga,0,none⟩) (r.length+1) lc) (n:=r.length+1) (top:=some l.blk) Q8.out.2 (by decide) (PZ.out.setCell (p:=⟨g,f*6+4,none⟩) Yb _)))
    refine⟨⟨k+1,{ s1.oP f { y1 with vars:=y1.vars++[⟨s,node,false⟩]} with names:=⟨s,f,y1.vars.length⟩::s1.names},L1.set f ({ y1 with vars:=y1.vars++[⟨s,node,false⟩]},.slice (some ⟨g8,0,none⟩) (y1.vars.length+1) c8,yu),⟨s,f,y1.vars.length⟩::a,by go_num,mD.out,⟨?_,by rw[mg];exact hL1,HF8.out,?_,?_,by rw[iJ];exact aB _ HD.out.names,?_⟩,by rw[List.length_cons,hak],?_⟩,by have:=mD.out;simp[intOf];omega⟩
    ·rw[mg]
     exact Q8.out.1.names _
    ·have h9:=(M7.out.ext (g:=jT (⟨s,f,y1.vars.length⟩::(a++l.iC))) fun x=>(I8 ⟨s,f,y1.vars.length⟩ (a++l.iC) x).symm).mono (m:=(⟨s,f,y1.vars.length⟩::(a++l.iC)).length) (by rw[List.length_cons];exact ah _)
     exact Q8.out.2.map h9
    ·intro x hx
     rcases bc.1 hx with rfl|hx
     ·rfl
     ·exact HD.out.own x hx
    ·show dW (s1.fns.set f _)
     exact HD.out.few.set ⟨by rw[cI,mF];omega,(HD.out.few f y1 (HD.out.rs.sQ HY.out).1).2⟩
    ·rw[←Ut.out,uw.out]
     conv=>rhs;rw[dV,aa7.out,af (by show ¬ 200≤y1.vars.length;omega)]
  ·have zr:k=h.names.length:=by omega
   go_wp2_with fail
   go_ret
   have hE:bF node f h.line h.names st=.ok s1:=by
    rw[←HR.out,←Ut.out,zr,wA,dV]
   rw[hE];exact⟨HD.out.jk.below,rfl,⟨_,_,HD.out.rs⟩,HD.out.jk,a,HD.out.names,(fun e=>by cases e),HL.out.more HD.out.jk (ah _) HD.out.map fun x hx=>(HD.out.own x hx).trans hlf.symm⟩
theorem l9 {B:Nat} {a w:World} (h:Below B a w) (n:Nat):Below B a (w.drewN n):=⟨h.os,h.tape,h.output,h.size,h.block⟩
theorem OH {ks:List Lt} {e:Nat} {x:Lt} (hx:ks[e]? = some x) (hl:qX x=true) (h:(ks.drop (e+1)).all qX=true):(ks.drop e).all qX=true:=by
 rw[drop_at hx,su,hl,h];rfl
theorem Tt {T:List Nd} {B:Nat} {nv:Value} (b:Nat) (kv:Value) (ks:List Lt) (tested:Bool) (fv uv ov:Value) (w:World) (hT:wg w B nv T) (hw:w.heap[b]? = some (.cells #[nv,fv,uv,ov] 87 (0,0))) (hu:gH w B kv (ks.map fun k=>(k.loc:Int))) (fD:Lt.nG T ks) (vW:ks.length≤20000) :
  Calls Tryz.prog 162 #[.pointer (some ⟨b,0,none⟩),kv,.bool tested] w fun e w'=>e=.returned (.int .i64 ((if tested then ks.length else lp ks:Nat):Int))∧Below w.heap.size w w':=by
 obtain⟨bk,o,c,rfl,bN,cC,hn⟩:=hT.nodes;obtain⟨UA,uc,rfl,JO,hu⟩:=hu;simp only[cy] at JO hu ⊢;have hbl:b<w.heap.size:=(aF.1 hw).1;have d0:=ab hw 0;replace d0:_=some (Value.slice (some ⟨bk,o,none⟩) T.length c):=d0;have qY:=hT.few;have HN:=aa hn;have HIN:=aa fD;have HU:=aa hu;clear hn hu hT fD hw;cases tested with
 | true =>
  go_enter Tryz.func162,Tryz.ntmps162
  go_wp2_with fail
  go_ret
  exact⟨rfl,Below.refl _ _⟩
 | false =>
  go_enter Tryz.func162,Tryz.ntmps162
  go_wp2_with fail
  go_loopw [7] (fun t wr=>∃e:Nat,t=.int .i64 (e:Int)∧e≤ks.length∧(ks.drop e).all qX=true∧Below w.heap.size w wr) (fun t _=>(intOf t).toNat)
  case atStart=>exact⟨ks.length,rfl,ah _,by simp,Below.refl _ _⟩
  case round =>
   obtain⟨e,rfl,he,hall,hb⟩:=hrel;have zc:=aa hall;have HB:=aa hb;have d0r:=(hb.cell (p:=⟨b,0,none⟩) hbl).trans d0;clear hall hb;cases e with
   | zero =>
    have g1:decide ((0:Int)<((0:Nat):Int))=false:=by decide
    go_wp2_with fail
    go_quiet (fail)
    go_wp2_with fail
    go_ret
    exact⟨by rw[(rS ks).2 zc.out];rfl,l9 HB.out _⟩
   | succ e =>
    obtain⟨x,hx⟩ :∃x,ks[e]? = some x:=⟨ks[e],bE (by omega)⟩
    have g1:decide ((0:Int)<((e+1:Nat):Int))=true:=bX (by omega)
    rcases HU.out with h0 | ⟨sb,so,rfl,Ys,hsc⟩
    ·exfalso
     rw[pO] at h0;rw[h0] at he;exact absurd he (by simp)
    have cs:wr.cell? ⟨sb,so+e,none⟩=some (.int .i64 (x.loc:Int)):=(HB.out.cell (p:=⟨sb,so+e,none⟩) (by show sb<_;omega)).trans (hsc e _ (by rw[fw,hx];rfl))
    obtain⟨Yu,I9⟩:=ve HIN.out hx;have hxl:x.loc<T.length:=(aJ.1 I9).1;obtain⟨pL,pM,dM,_,_⟩:=HN.out x.loc x.hd I9;have ck:=(HB.out.cell (p:=⟨bk,o+x.loc*7,none⟩) (by show bk<_;omega)).trans dM.c0
    have HX:=aa hx;clear hsc hx dM Yu I9;cases hl:qX x with
    | true =>
     have g2:(x.hd.kind == 32)=true:=hl;go_wp2_with fail
     go_quiet (fail)
     go_wp2_with fail
     exact⟨⟨e,rfl,by omega,OH HX.out hl zc.out,l9 HB.out _⟩,by simp[intOf]⟩
    | false =>
     have g2:(x.hd.kind == 32)=false:=hl;go_wp2_with fail
     go_quiet (fail)
     go_wp2_with fail
     go_ret
     exact⟨by rw[S5 he zc.out (.inr ⟨x,HX.out,hl⟩)];rfl,l9 HB.out _⟩
theorem Tu {fr:List fF} {f:Nat} {ks:List Lt} {rep:Bool} {n c:Nat} {s:ByteArray}:((∃j,cA ks s=some j∧j<n)∨∃x∈fr,x.loop=false∧x.fn=f∧(cA x.kids s).isSome)↔(((c,n,fG ks rep n)::(dH f fr).map JN).find? fun x=>(x.2.2 s).isSome).isSome=true:=by
 rw[kM,N9];have h1:(fG ks rep n s).isSome=(nN ks rep n s).isSome:=by unfold fG;cases nN ks rep n s<;>rfl
 have h2:=N0 (ks:=ks) (rep:=rep) (n:=n) (s:=s);dsimp only
 rw[h1];cases e:(nN ks rep n s).isSome with
 | true =>
  rw[e] at h2;simp only[Option.isSome_some,iff_true];exact .inl (h2.1 rfl)
 | false =>
  rw[e] at h2;dsimp only
  rw[vw];have h3:¬∃j,cA ks s=some j∧j<n:=fun h=>by have:=h2.2 h;cases this
  rw[Option.isSome_map];exact⟨fun h=>h.resolve_left h3,.inr⟩
theorem OI {fr:List fF} {f n:Nat} {all r:List Lt} {x:Lt} (hk:x.hd.kind=32) (h:(∃j,cA all x.hd.s=some j∧j<n)∨∃y∈fr,y.loop=false∧y.fn=f∧(cA y.kids x.hd.s).isSome):cM fr f all n (x::r)=some x.hd.line:=by
 rw[cM,al ⟨hk,h⟩]
theorem OJ {fr:List fF} {f n:Nat} {all r:List Lt} {x:Lt} (h:¬ (x.hd.kind=32∧((∃j,cA all x.hd.s=some j∧j<n)∨∃y∈fr,y.loop=false∧y.fn=f∧(cA y.kids x.hd.s).isSome))):cM fr f all n (x::r)=cM fr f all (n+1) r:=by
 rw[cM,af h]
theorem DQ {ks:List Lt} {rep:Bool} {n:Nat} {x:Lt} (hx:ks[n]? = some x) (h:qX x=false):fG ks rep (n+1)=fG ks rep n:=by
 funext s
 unfold fG;rw[vp hx];unfold ml;unfold qX at h;rw[h,zJ]
theorem xF {ks:List Lt} {rep:Bool} {n:Nat} {x:Lt} (hx:ks[n]? = some x) (h:qX x=true) (hn:¬∃j,cA ks x.hd.s=some j∧j<n) (s:ByteArray):(if s=x.hd.s then some (.agg #[.int .i64 (x.loc:Int),.int .i64 (rT ks rep n:Int)]) else fG ks rep n s)=fG ks rep (n+1) s:=by
 by_cases e:s=x.hd.s
 ·subst e
  rw[al rfl];unfold fG;rw[IS hx h hn];rfl
 ·rw[af e]
  unfold fG;rw[vp hx];unfold ml;have h2:decide (x.hd.s=s)=false:=bU fun e'=>e e'.symm
  rw[h2,Bool.and_false]
theorem Ja {ks:List Lt} {rep:Bool} {n c:Nat} {l:List fF}:Ob ((c,n,fG ks rep n)::l.map JN):=by
 intro x hx s v hv;rcases bc.1 hx with rfl|hx
 ·replace hv:fG ks rep n s=some v:=hv
  unfold fG at hv;cases e:nN ks rep n s with
  | none=>rw[e] at hv;cases hv
  | some p =>
   rw[e] at hv;injection hv with hv;exact⟨_,_,hv.symm⟩
 ·exact Bz l x hx s v hv
theorem grown_of {W W':World} {m:Nat} (h:Below W.heap.size W W'):W.grownBy W' (some m):=⟨h.os,h.tape,h.output,h.size,fun k hk _=>h.block k hk⟩
theorem cz.grown {W W':World} {B m:Nat} (hg:W.grownBy W' (some m)) (hm :∃es c,W.heap[m]? = some (.map es c)) :∀{fs:List (Nat×Nat×(ByteArray→Option Value))} {ms:List Nat} {p:Value},cz W B fs ms p→m∉ms→cz W' B fs ms p
 | [],_,_,h,_=>h
 | x::fs,ms,p,h,ht=>by
  obtain⟨k',p',m',Co,rfl,rfl,h1,h2,h3,h4,h5,h6⟩:=h;have hne:m'≠m:=fun e=>ht (e▸bT ..)
  exact⟨k',p',m',Co,rfl,rfl,h1,fe hg hm k' _ _ _ h2,h3.same (hg.block m' h3.lt fun e=>hne (by injection e with e)),h4,h5,cz.grown hg hm h6 fun h=>ht (cr _ h)⟩
theorem kq {W W':World} {B m:Nat} (h:W.grownBy W' (some m)) (hm:B≤m) (hB:B≤W.heap.size):Below B W W':=⟨h.os,h.tape,h.output,h.size,fun k hk=>h.block k (by omega) fun e=>by injection e with e;omega⟩
def BB (m:Nat) (ks:List Lt) (rep:Bool) (r:Option Int) (w:World) (e:Ending) (w':World):Prop :=
 w.grownBy w' (some m)∧match r with
 | none=>e=.returned .nilIface∧dP Tryz.prog 9 w' m ks.length (fG ks rep ks.length)
 | some l=>∃v,e=.returned v∧DH w' v l 9
theorem FE {ks:List Lt} {rep:Bool} {n:Nat} (h:n<ks.length):rT ks rep n=if decide ((n:Int)<((if rep then ks.length else lp ks:Nat):Int))=true then gT ks n else 0:=by
 unfold rT;cases rep with
 | true =>
  rw[al (.inl rfl),al (bX (by show(n:Int)<(ks.length:Int);omega))]
 | false =>
  by_cases h1:n<lp ks
  ·rw[al (.inr h1),al (bX (by show(n:Int)<(lp ks:Int);omega))]
  ·rw[af (by rintro(h2|h2);cases h2;exact h1 h2),af (by simp only[iH];show ¬ (n:Int)<(lp ks:Int);omega)]
theorem OK {T:List Nd} {B:Nat} {nv:Value} (b kb m f:Nat) (p:Option Addr) (kv:Value) (ks:List Lt) (fr:List fF) (ms:List Nat) (rep:Bool) (fv uv ov:Value) (w:World) (hT:wg w B nv T) (hw:w.heap[b]? = some (.cells #[nv,fv,uv,ov] 87 (0,0))) (hu:gH w B kv (ks.map fun k=>(k.loc:Int))) (fD:Lt.nG T ks) (vW:ks.length≤20000)
  (hkb:w.heap[kb]? = some (.cells #[.pointer p,.map (some m),.int .i64 0] 195 (0,0))) (hm:dP Tryz.prog 9 w m 0 (fun _=>none)) (hc:oQ w B (dH f fr) ms (.pointer p)) (Qa :∀a,p=some a→a.block<kb) (hmm:m∉ms) (hBk:B≤kb) (hBm:B≤m) (hs :∀x∈ks,x.hd.s.size≤65536) :
  Calls Tryz.prog 114 #[.pointer (some ⟨b,0,none⟩),.pointer (some ⟨kb,0,none⟩),kv,.bool rep] w (BB m ks rep (cM fr f ks 0 ks) w):=by
 obtain⟨bk,o,c,rfl,bN,cC,hn⟩:=hT.nodes;have Tv:=Tt (T:=T) (B:=B) b kv ks rep fv uv ov w hT hw hu fD vW;obtain⟨UA,uc,rfl,JO,hu⟩:=hu;simp only[cy] at JO hu Tv ⊢;have hbl:b<w.heap.size:=(aF.1 hw).1;have ac5:kb<w.heap.size:=(aF.1 hkb).1;have qY:=hT.few;obtain⟨E,hE⟩ :∃E:Nat,E=(if rep=true then ks.length else lp ks):=⟨_,rfl⟩
 rw[←hE] at Tv;have HE0:=aa hE;clear hE;have HW:=aa hw;have HT:=aa hT;have HIN:=aa fD;have HU:=aa hu;have HKB:=aa hkb;have HM:=aa hm;have HC:=aa hc;have ac6:=aa Tv;have HS:=aa hs;clear hn hu hT fD hw hkb hm hc Tv hs;go_enter Tryz.func114,Tryz.ntmps114
 go_wp2_with fail
 refine ac6.out.mono ?_;rintro e w1 ⟨rfl,hb1⟩;have dL:=aa hb1;clear hb1;go_wp2_with fail
 go_loopw [10,23] (fun td tk wr=>∃n:Nat,tk=.int .i64 (n:Int)∧td=.int .i64 (gT ks n:Int)∧n≤ks.length∧w.grownBy wr (some m)∧dP Tryz.prog 9 wr m n (fG ks rep n)∧cM fr f ks n (ks.drop n)=cM fr f ks 0 ks) (fun _ tk _=>ks.length-(intOf tk).toNat)
 case atStart =>
  refine⟨0,rfl,by rw[Bl];rfl,bB _,grown_of dL.out,?_,by rw[tR]⟩
  exact(HM.out.same (dL.out.block m HM.out.lt)).ext fun s=>by unfold fG;rw[IQ];rfl
 case round =>
  obtain⟨n,rfl,rfl,Cr,hg,hm,hr⟩:=hrel;have tb:=kq hg hBm cC;have Cs:=fe hg HM.out.isMap;have hbr:=Cs b _ _ _ HW.out;have aa9:=Cs kb _ _ _ HKB.out;have d0:=ab hbr 0;replace d0:_=some (Value.slice (some ⟨bk,o,none⟩) T.length c):=d0;have aba:b<wr.heap.size:=cJ hbl hg.size;have OL:kb<wr.heap.size:=cJ ac5 hg.size;have hdc:gT ks n≤20000:=aM (NZ ks n) vW;have HG:=aa hg;have Qb:=aa hm;have HR:=aa hr;have jR:=aa tb;have Dd:=aa hbr;have HKR:=aa aa9;clear hg hm hr tb hbr aa9 Cs;by_cases hlt:n<ks.length
  ·obtain⟨x,hx⟩ :∃x,ks[n]? = some x:=⟨ks[n],bE hlt⟩
   have Tq:=HS.out x (aL hx);rcases HU.out with h0 | ⟨sb,so,rfl,Ys,hsc⟩
   ·exfalso
    rw[pO] at h0;rw[h0] at hlt;exact absurd hlt (by simp)
   have cs:wr.cell? ⟨sb,so+n,none⟩=some (.int .i64 (x.loc:Int)):=(jR.out.cell (p:=⟨sb,so+n,none⟩) Ys).trans (hsc n _ (by rw[fw,hx];rfl))
   obtain⟨Yu,I9⟩:=ve HIN.out hx;have hxl:x.loc<T.length:=(aJ.1 I9).1;have AJ:=aa (HT.out.below jR.out);obtain⟨bk2,o2,tc2,Yv,_,_,uH⟩:=AJ.out.nodes;injection Yv with Yv _ htc;injection Yv with Yv;injection Yv with Yv hto _;subst Yv hto htc;obtain⟨pL,pM,dM,⟨NA,nc,kI,_⟩,⟨KA,kc,jx,_⟩⟩:=uH x.loc x.hd I9;subst kI jx;have c0:=dM.c0;have c1:=dM.c1;have c2:=dM.c2;have c3:=dM.c3;have c4:=dM.c4;have c5:=dM.c5;have c6:=dM.c6;have hdr:=eY hx;have HXT:=aa I9;have uw:=aa hdr;have HX:=aa hx;have mD:=aa hlt;have OM:Hid (Calls Tryz.prog 115 #[.pointer (some ⟨b,0,none⟩),.int .i64 (x.loc:Int)] wr fun e w'=>e=.returned (.bool (isDecl x))∧wr=w'):=aa (sR b x.loc x.hd wr AJ.out d0 I9)
   clear I9 hdr hx dM uH Yu hsc;by_cases ze:x.hd.kind=32
   ·have DR:isDecl x=false:=by unfold isDecl;rw[ze];rfl
    have tK:gT ks (n+1)=gT ks n:=by rw[vm HX.out,DR];rfl
    have hcn:cz wr B ((0,n,fG ks rep n)::(dH f fr).map JN) (m::ms) (.pointer (some ⟨kb,0,none⟩)):=⟨kb,p,m,ms,rfl,rfl,hBk,HKR.out,Qb.out,hBm,Qa,cz.grown HG.out HM.out.isMap HC.out hmm⟩;have HCN:=aa hcn;rw[DR] at OM;have ZC:=aa tK;have Tw:=aa ze;have g2:(x.hd.kind != 32)=false:=by rw[ze];rfl
    clear hcn tK DR ze;go_wp2_with fail
    refine OM.out.mono ?_;rintro e w2 ⟨rfl,rfl⟩;go_wp2_with fail
    obtain⟨W3,hW3⟩ :∃W3,W3=wr.alloc (.cells #[.int .i64 x.hd.kind,.int .i64 x.hd.line,.int .i64 x.hd.op,.int .i64 x.hd.num,.string x.hd.s,.slice NA x.hd.names.length nc,.slice KA x.hd.kids.length kc] 55):=⟨_,rfl⟩;rw[←hW3];have B3:Hid (Below wr.heap.size wr W3):=aa (by rw[hW3];exact(Below.refl _ _).alloc (ah _) _)
    have n4:W3.cell? ⟨wr.heap.size,4,none⟩=some (.string x.hd.s):=by rw[hW3];exact ab (heap_alloc_new _ _) 4
    have hs3:wr.heap.size<W3.heap.size:=by rw[hW3,an];omega
    clear hW3;refine(Bn _ _ _ x.hd.s W3 (HCN.out.later B3.out) (by unfold maxLen;omega) Ja).mono ?_
    rintro e w4 ⟨Tp,a,d,rfl,hF,hb4⟩;have pd:=Tu (fr:=fr) (f:=f) (ks:=ks) (rep:=rep) (n:=n) (c:=0) (s:=x.hd.s);have n4:=(hb4.cell (p:=⟨wr.heap.size,4,none⟩) hs3).trans n4;have Cq:=B3.out.trans (hb4.mono (fx hs3));have hw4:wr.heap.size<w4.heap.size:=cJ hs3 hb4.size;have m4:=(Cq.cell (p:=⟨kb,1,none⟩) OL).trans (ab HKR.out 1);replace m4:_=some (Value.map (some m)):=m4;have B4:=aa Cq;clear Cq hb4;cases qH:((0,n,fG ks rep n)::(dH f fr).map JN).find? (fun y=>(y.2.2 x.hd.s).isSome) with
    | some y =>
     obtain⟨k2,hp,_,_,_⟩:=hF.yes qH;subst hp;rw[qH] at pd;have HE:Hid (cM fr f ks 0 ks=some x.hd.line):=aa (by rw[←HR.out,uw.out,OI Tw.out (pd.2 rfl)])
     have OA:=aa ((AJ.out.below (B4.out.mono (aM cC HG.out.size))).below ((Below.refl B w4).alloc (aM (aM cC HG.out.size) B4.out.size) (.cells #[.int .i64 a,.int .i64 d] 199)));have OC:=aa (((Below.refl w4.heap.size w4).alloc (ah _) (.cells #[.int .i64 a,.int .i64 d] 199)).cell (p:=⟨b,0,none⟩) (cJ aba B4.out.size) |>.trans ((B4.out.cell (p:=⟨b,0,none⟩) aba).trans d0));clear hF qH pd;go_wp2_with fail
     refine(eH b x.loc _ _ _ OA.out OC.out HXT.out).mono ?_;rintro e w6 ⟨v,rfl,⟨g2,rfl⟩,h1,h2⟩;have H1:=aa h1;have H2:=aa h2;clear h1 h2;go_wp2_with fail
     go_ret
     rw[HE.out];exact⟨HG.out.trans ((grown_of B4.out).trans ((World.grownBy_alloc _ _ _).trans (grown_of H2.out))),_,rfl,H1.out⟩
    | none =>
     have hp:=hF.no qH;subst hp;rw[qH] at pd;have EM:¬ ((∃j,cA ks x.hd.s=some j∧j<n)∨∃y∈fr,y.loop=false∧y.fn=f∧(cA y.kids x.hd.s).isSome):=fun h=>by have:=pd.1 h;cases this
     have HE:Hid (cM fr f ks (n+1) (ks.drop (n+1))=cM fr f ks 0 ks):=aa (by rw[←HR.out,uw.out,OJ fun h=>EM h.2])
     have Yd:Hid (¬∃j,cA ks x.hd.s=some j∧j<n):=aa fun h=>EM (.inl h)
     clear hF qH pd EM;by_cases fD:n<E
     ·have g3:decide ((n:Int)<(E:Int))=true:=bX (by omega)
      go_wp2_with fail
      obtain⟨W5,Tx⟩ :∃W5,W5=(w4.alloc (.cells #[.int .i64 a,.int .i64 d] 199)).alloc (.cells #[.int .i64 (x.loc:Int),.int .i64 (gT ks n:Int)] 199):=⟨_,rfl⟩;rw[←Tx];have b5:Below w4.heap.size w4 W5:=by rw[Tx];exact Below.two _ _
      have Yw:W5.heap[w4.heap.size+1]? = some (.cells #[.int .i64 (x.loc:Int),.int .i64 (gT ks n:Int)] 199 (0,0)):=by
       rw[Tx];have:=heap_alloc_new (w4.alloc (.cells #[.int .i64 a,.int .i64 d] 199)) (.cells #[.int .i64 (x.loc:Int),.int .i64 (gT ks n:Int)] 199);rwa[an] at this
      have l0:=gL Yw;have l1:=gM Yw;clear Tx Yw;have n5:=(b5.cell (p:=⟨wr.heap.size,4,none⟩) hw4).trans n4;have m5:=(b5.cell (p:=⟨kb,1,none⟩) (cJ OL B4.out.size)).trans m4;have EE:=B4.out.trans (b5.mono B4.out.size);have hM5:dP Tryz.prog 9 W5.drew m n (fG ks rep n):=Qb.out.same (EE.block m Qb.out.lt);obtain⟨W6,hrun,hm6,UR⟩:=hM5.put (t:=193) (e:=199) Tryz.underlying9 Tryz.underlying193 (by unfold maxLen;omega) x.hd.s (by unfold maxLen;omega) (.agg #[.int .i64 (x.loc:Int),.int .i64 (gT ks n:Int)]) rfl
      have QS:qX x=true:=bX Tw.out;have hD:(rT ks rep n:Int)=(gT ks n:Int):=by
       rw[FE mD.out,←HE0.out];rw[g3];rfl
      have HG6:=aa (HG.out.trans ((grown_of (m:=m) EE.drew).trans UR));have HM6:Hid (dP Tryz.prog 9 W6 m (n+1) (fG ks rep (n+1))):=aa (hm6.ext fun s=>by have:=xF (rep:=rep) HX.out QS Yd.out s;rw[hD] at this;exact this)
      clear hm6 UR EE b5 hM5 QS hD n4 m4 c0 c1 c2 c3 c4 c5 c6 cs d0;go_region
      go_wp2_with fail
      exact⟨⟨n+1,by go_num,by rw[ZC.out],mD.out,HG6.out,HM6.out,HE.out⟩,by have:=mD.out;simp[intOf];omega⟩
     ·have g3:decide ((n:Int)<(E:Int))=false:=bU (by omega)
      go_wp2_with fail
      obtain⟨W5,Tx⟩ :∃W5,W5=(w4.alloc (.cells #[.int .i64 a,.int .i64 d] 199)).alloc (.cells #[.int .i64 (x.loc:Int),.int .i64 0] 199):=⟨_,rfl⟩;rw[←Tx];have b5:Below w4.heap.size w4 W5:=by rw[Tx];exact Below.two _ _
      have Yw:W5.heap[w4.heap.size+1]? = some (.cells #[.int .i64 (x.loc:Int),.int .i64 0] 199 (0,0)):=by
       rw[Tx];have:=heap_alloc_new (w4.alloc (.cells #[.int .i64 a,.int .i64 d] 199)) (.cells #[.int .i64 (x.loc:Int),.int .i64 0] 199);rwa[an] at this
      have l0:=gL Yw;have l1:=gM Yw;clear Tx Yw;have n5:=(b5.cell (p:=⟨wr.heap.size,4,none⟩) hw4).trans n4;have m5:=(b5.cell (p:=⟨kb,1,none⟩) (cJ OL B4.out.size)).trans m4;have EE:=B4.out.trans (b5.mono B4.out.size);have hM5:dP Tryz.prog 9 W5.drew m n (fG ks rep n):=Qb.out.same (EE.block m Qb.out.lt);obtain⟨W6,hrun,hm6,UR⟩:=hM5.put (t:=193) (e:=199) Tryz.underlying9 Tryz.underlying193 (by unfold maxLen;omega) x.hd.s (by unfold maxLen;omega) (.agg #[.int .i64 (x.loc:Int),.int .i64 0]) rfl
      have QS:qX x=true:=bX Tw.out;have hD:(rT ks rep n:Int)=0:=by
       rw[FE mD.out,←HE0.out];rw[g3];rfl
      have HG6:=aa (HG.out.trans ((grown_of (m:=m) EE.drew).trans UR));have HM6:Hid (dP Tryz.prog 9 W6 m (n+1) (fG ks rep (n+1))):=aa (hm6.ext fun s=>by have:=xF (rep:=rep) HX.out QS Yd.out s;rw[hD] at this;exact this)
      clear hm6 UR EE b5 hM5 QS hD n4 m4 c0 c1 c2 c3 c4 c5 c6 cs d0;go_region
      go_wp2_with fail
      exact⟨⟨n+1,by go_num,by rw[ZC.out],mD.out,HG6.out,HM6.out,HE.out⟩,by have:=mD.out;simp[intOf];omega⟩
   ·have hl0:qX x=false:=bU ze
    have HWO:=aa (DQ (rep:=rep) HX.out hl0);have HE:Hid (cM fr f ks (n+1) (ks.drop (n+1))=cM fr f ks 0 ks):=aa (by rw[←HR.out,uw.out,OJ fun h=>ze h.1])
    have g2:(x.hd.kind != 32)=true:=mL.2 ze;have tK:=vm HX.out;have Tw:=aa ze;clear ze hl0;cases DR:isDecl x with
    | true =>
     rw[DR] at OM tK;replace tK:gT ks (n+1)=gT ks n+1:=tK;have ZC:=aa tK;clear tK DR;go_wp2_with fail
     refine OM.out.mono ?_;rintro e w2 ⟨rfl,rfl⟩;go_wp2_with fail
     exact⟨⟨n+1,by go_num,by rw[ZC.out];go_num,mD.out,HG.out.trans (World.grownBy_alloc _ _ _),by rw[HWO.out];exact(Qb.out.same ((World.grownBy_alloc wr _ none).block m Qb.out.lt (by simp))).mono (gd n),HE.out⟩,by have:=mD.out;simp[intOf];omega⟩
    | false =>
     rw[DR] at OM tK;replace tK:gT ks (n+1)=gT ks n:=tK;have ZC:=aa tK;clear tK DR;go_wp2_with fail
     refine OM.out.mono ?_;rintro e w2 ⟨rfl,rfl⟩;go_wp2_with fail
     exact⟨⟨n+1,by go_num,by rw[ZC.out],mD.out,HG.out.trans (World.grownBy_alloc _ _ _),by rw[HWO.out];exact(Qb.out.same ((World.grownBy_alloc wr _ none).block m Qb.out.lt (by simp))).mono (gd n),HE.out⟩,by have:=mD.out;simp[intOf];omega⟩
  ·have zr:n=ks.length:=by omega
   go_wp2_with fail
   go_ret
   have hE:cM fr f ks 0 ks=none:=by
    rw[←HR.out,zr,wA,cM]
   rw[hE];subst zr;exact⟨HG.out,rfl,Qb.out⟩
end Go.Proofs.YteflkdlaoiijbaaGreatDoor
