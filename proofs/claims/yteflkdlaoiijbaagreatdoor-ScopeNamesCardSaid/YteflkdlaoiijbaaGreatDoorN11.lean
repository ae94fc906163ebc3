/- Parts of the proof. -/
import Derived.Test.YteflkdlaoiijbaaGreatDoorN10
set_option maxHeartbeats 16000000
set_option maxRecDepth 20000
namespace Go.Proofs.YteflkdlaoiijbaaGreatDoor
open Go.RowKit Go.Shelf
section
attribute [local go_sem] Oper.semAt_some
def BB (B b:Nat) (nv:Value) (N ub ob:Nat) (st:aG) (f:Nat) (s:ByteArray) (w:World) (e:Ending) (w':World):Prop :=
 Below B w w'∧Fr [52,61,59] w w'∧match st.names.find? fun n=>decide (n.s=s) with
 | none=>e=.returned (.tuple #[.agg #[.int .i64 0,.int .i64 0],.iface 79 (.int .i64 16)])∧jO w' B b nv N st ub ob
 | some n=>match fm n st.fns.length f st.fns with
  | some (F,k,i)=>e=.returned (.tuple #[.agg #[.int .i64 k,.int .i64 (i:Int)],.nilIface])∧jO w' B b nv N { st with fns:=F} ub ob
  | none=>e=.returned (.tuple #[.agg #[.int .i64 0,.int .i64 0],.iface 79 (.int .i64 12)])
theorem fU {W:World} {o x:Obj} {k:Nat} (h:W.heap[k]? = some x):(W.alloc o).heap[k]? = some x:=(Below.heap_alloc W o k (aI.1 h).1).trans h
theorem rR {W:World} {o:Obj} {n:Nat} (h:W.heap.size=n):(W.alloc o).heap[n]? = some o:=by rw[←h];exact heap_alloc_new W o
theorem Je (w:World) (o1 o2 o3 o4 o5 o6:Obj) {W:World} (h:((((((w.alloc o1).alloc o2).alloc o3).alloc o4).alloc o5).alloc o6)=W):W.heap.size=w.heap.size+1+1+1+1+1+1∧Below w.heap.size w W∧W.heap[w.heap.size]? = some o1∧W.heap[w.heap.size+1]? = some o2∧W.heap[w.heap.size+1+1]? = some o3∧W.heap[w.heap.size+1+1+1]? = some o4∧W.heap[w.heap.size+1+1+1+1]? = some o5∧W.heap[w.heap.size+1+1+1+1+1]? = some o6:=by
 subst h;refine⟨by rw[ao,ao,ao,ao,ao,ao],(((((((Below.refl _ w).alloc (ah _) _).alloc (by rw[ao];omega) _).alloc (by rw[ao,ao];omega) _).alloc (by rw[ao,ao,ao];omega) _).alloc (by rw[ao,ao,ao,ao];omega) _).alloc (by rw[ao,ao,ao,ao,ao];omega) _),fU (fU (fU (fU (fU (rR rfl))))),fU (fU (fU (fU (rR (by rw[ao]))))),fU (fU (fU (rR (by rw[ao,ao])))),fU (fU (rR (by rw[ao,ao,ao]))),fU (rR (by rw[ao,ao,ao,ao])),rR (by rw[ao,ao,ao,ao,ao])⟩
structure TH (W W':World):Prop where
 size:W.heap.size≤W'.heap.size
 cells :∀(k:Nat) c (e:TypeId) fz,W.heap[k]? = some (.cells c e fz)→W'.heap[k]? = some (.cells c e fz)
theorem TH.row {W W':World} {B e s n:Nat} {v:Value} {xs:List Value} (h:TH W W') (hr:W.ownsRow B e s v n xs):W'.ownsRow B e s v n xs:=by
 refine⟨hr.1,?_⟩;rcases hr.2 with hn | ⟨g,cap,cur,rfl,hB,hg,rest⟩
 ·exact .inl hn
 ·exact .inr ⟨g,cap,cur,rfl,hB,h.cells g _ _ _ hg,rest⟩
theorem jO.Z3 {W W':World} {B b:Nat} {nv:Value} {N:Nat} {st:aG} {ub ob:Nat} (h:jO W B b nv N st ub ob) (k:TH W W'):jO W' B b nv N st ub ob:=by
 obtain⟨fv,L,h⟩:=h;exact⟨fv,L,k.cells b _ _ _ h.blk,⟨k.row h.fns.row,fun t ht=>k.row (h.fns.vars t ht),fun t ht=>k.row (h.fns.bz t ht),h.fns.pG,h.fns.qA⟩,h.are,k.row h.uses,k.row h.vZ,h.pos⟩
theorem TH.of {W W':World} {row:Option Nat} {B:Nat} (hg:W.grownBy W' row) (hr :∀r,row=some r→B≤r∧∃o:Obj,W.heap[r]? = some o∧o.isCells=false):TH W W' :=
 ⟨hg.size,fun k c e fz hk=>(hg.block k (aI.1 hk).1 fun e'=>by
  obtain⟨_,o,ho,hc⟩:=hr k e'.symm;rw[hk] at ho;injection ho with ho;subst ho;cases hc).trans hk⟩
theorem OG {E:List Nat} {w W W':World} {row:Option Nat} {B:Nat} (hB:w.heap.size≤B) (h:Fr E w W) (hg:W.grownBy W' row) (hr :∀r,row=some r→B≤r∧∃o:Obj,W.heap[r]? = some o∧o.isCells=false):Fr E w W' :=
 h.past (fun k hk=>hg.block k (by have:=h.size;omega) fun e=>by have:=(hr k e.symm).1;omega) hg.size
theorem xE {n:Nat} {w W W':World} {row:Option Nat} {B:Nat} (hB:n≤B) (hn:n≤W.heap.size) (h:Below n w W) (hg:W.grownBy W' row) (hr :∀r,row=some r→B≤r∧∃o:Obj,W.heap[r]? = some o∧o.isCells=false):Below n w W' :=
 ⟨hg.os.trans h.os,hg.tape.trans h.tape,hg.output.trans h.output,aK h.size hg.size,fun k hk=>(hg.block k (by omega) fun e=>by have:=(hr k e.symm).1;omega).trans (h.block k hk)⟩
theorem jO.later {W W':World} {B b:Nat} {nv:Value} {N:Nat} {st:aG} {ub ob:Nat} (h:jO W B b nv N st ub ob) (hb:Below W.heap.size W W'):jO W' B b nv N st ub ob:=by
 obtain⟨fv,L,h⟩:=h;exact⟨fv,L,h.later hb⟩
theorem FC :∀{L:List cE} {x:Nat×cE},x∈s8 L→x.2∈L
 | l::r,x,h=>by
  rw[s8] at h;rcases bn.1 h with rfl|h
  ·exact bU ..
  ·exact bY _ (FC h)
theorem FD :∀L:List cE,(s8 L).map (·.2)=L
 | []=>rfl
 | l::r=>by rw[s8,fX,FD r]
theorem FE (L:List cE):(s8 L).attach.map (fun x=>x.1.2)=L:=by
 have:(s8 L).attach.map (fun x=>x.1.2)=((s8 L).attach.map Subtype.val).map (·.2):=by rw[tM];rfl
 rw[this,List.attach_map_subtype_val,FD]
theorem OH {L:List cE} {s:ByteArray} (h :∀y∈(s8 L).attach,jT y.1.2.iC s=none):(mw L).find? (fun n=>decide (n.s=s))=none:=by
 rw[rQ];have:L.find? (fun l=>(jT l.iC s).isSome)=none:=by
  rw[Ec];intro l hl;have h1:l∈(s8 L).attach.map (fun x=>x.1.2):=by rw[FE];exact hl
  obtain⟨y,hy,e⟩:=jd.1 h1;rw[←e,h y hy];simp
 rw[this];rfl
theorem BC {L:List cE} {s:ByteArray} {pre:List (TG L)} {x:TG L} {n:jr} (hp:pre++[x] <+: (s8 L).attach) (h :∀y∈pre,jT y.1.2.iC s=none) (hx:(x.1.2.iC.find? fun n=>decide (n.s=s))=some n):(mw L).find? (fun n=>decide (n.s=s))=some n:=by
 obtain⟨t,ht⟩:=hp;have e:L=(pre.map fun x=>x.1.2)++x.1.2::t.map fun x=>x.1.2:=by
  refine(FE L).symm.trans ?_;rw[←ht];simp
 rw[rQ];have:L.find? (fun l=>(jT l.iC s).isSome)=some x.1.2:=by
  refine(ax (List.find? fun l=>(jT l.iC s).isSome) e).trans ?_
  rw[List.find?_append];have h1:(pre.map fun x=>x.1.2).find? (fun l=>(jT l.iC s).isSome)=none:=by
   rw[Ec];intro l hl;obtain⟨y,hy,e⟩:=jd.1 hl;rw[←e,h y hy];simp
  rw[h1,Option.none_or,kI];have h2:(jT x.1.2.iC s).isSome=true:=by unfold jT;rw[hx];rfl
  rw[h2]
 rw[this];exact hx
structure Jf (W:World) (r q:Nat) (k i:Int) (ev:Value):Prop where
 use:W.heap[r]? = some (.cells #[.int .i64 k,.int .i64 i] 57 (0,0))
 err:W.heap[q]? = some (.cells #[ev] 27 (0,0))
theorem YJ {W:World} {r q:Nat} (hne:r≠q) {x y z:Value} (h4:W.heap[r]? = some (.cells #[x,y] 57 (0,0))) (h5:W.heap[q]? = some (.cells #[z] 27 (0,0))) (k i:Int) (ev:Value):Jf (((W.setCell ⟨r,0,none⟩ (.int .i64 k)).setCell ⟨r,1,none⟩ (.int .i64 i)).setCell ⟨q,0,none⟩ ev) r q k i ev :=
 ⟨(Below.heap_setCell _ _ _ r hne).trans (yW h4 _ _),by
  have:=bt ((qD W r (.int .i64 k) (.int .i64 i) q fun e=>hne e.symm).trans h5) 0 ev
  simpa using this⟩
theorem TI (W:World) (r q:Nat) (a c v:Value) (k:Nat) (h1:k≠r) (h2:k≠q):(((W.setCell ⟨r,0,none⟩ a).setCell ⟨r,1,none⟩ c).setCell ⟨q,0,none⟩ v).heap[k]? = W.heap[k]?:=(Below.heap_setCell _ _ _ k h2).trans (qD W r a c k h1)
theorem OI (W:World) (r q:Nat) (a c v:Value):(((W.setCell ⟨r,0,none⟩ a).setCell ⟨r,1,none⟩ c).setCell ⟨q,0,none⟩ v).heap.size=W.heap.size:=by simp[World.setCell]
theorem OJ (B:Nat) {E:List Nat} {W W1:World} (h:Fr E W W1) (r q:Nat) (a c v:Value):KeepsFrom B W (((W1.setCell ⟨r,0,none⟩ a).setCell ⟨r,1,none⟩ c).setCell ⟨q,0,none⟩ v) :=
 KeepsFrom.trans (Y:=W1) ⟨h.size,fun k o _ hk ho=>h.others k o hk fun _ _ _ e=>by subst e;cases ho⟩ ((((KeepsOthers.setCell _ _ _).trans (KeepsOthers.setCell _ _ _)).trans (KeepsOthers.setCell _ _ _)).from B)
theorem jO.fr {W W':World} {B b:Nat} {nv:Value} {N:Nat} {st:aG} {ub ob:Nat} {E:List Nat} (h:jO W B b nv N st ub ob) (k:Fr E W W') (he:(87:Nat)∉E∧(52:Nat)∉E∧(61:Nat)∉E∧(59:Nat)∉E∧(57:Nat)∉E∧(3:Nat)∉E):jO W' B b nv N st ub ob:=by
 obtain⟨fv,L,h⟩:=h;exact⟨fv,L,h.fr k he⟩
theorem rs9 {W:World} {B b:Nat} {nv:Value} {N:Nat} {st:aG} {ub ob:Nat} (h:jO W B b nv N st ub ob) {r q:Nat} (hr:vK W r 57) (hq:vK W q 27) (hne:r≠ub) (a c v:Value):jO (((W.setCell ⟨r,0,none⟩ a).setCell ⟨r,1,none⟩ c).setCell ⟨q,0,none⟩ v) B b nv N st ub ob :=
 ((h.fN hr hne _ _).fN (hr.set _ _ _) hne _ _).fr (E:=[27]) (((hq.set _ _ _).set _ _ _).fr (by decide) _ _) (by decide)
def FG (w:World) (B b:Nat) (nv:Value) (N ub ob:Nat) (st:aG) (f:Nat) (s:ByteArray) (L:List cE) (r q:Nat) (pre:List (TG L)) (W:World):Prop :=
 (∃(pre':List (TG L)) (x:TG L) (n:jr),pre=pre'++[x]∧(∀y∈pre',jT y.1.2.iC s=none)∧(x.1.2.iC.find? fun n=>decide (n.s=s))=some n∧match fm n st.fns.length f st.fns with
  | some (F,k,i)=>Jf W r q k i .nilIface∧jO W B b nv N { st with fns:=F} ub ob
  | none=>Jf W r q 0 0 (.iface 79 (.int .i64 12)))∧Fr [52,61,59] w W∧Below B w W
theorem Jf.Z3 {W W':World} {r q:Nat} {k i:Int} {ev:Value} (h:Jf W r q k i ev) (c:TH W W'):Jf W' r q k i ev:=⟨c.cells _ _ _ _ h.use,c.cells _ _ _ _ h.err⟩
theorem FG.own {w:World} {B b:Nat} {nv:Value} {N ub ob:Nat} {st:aG} {f:Nat} {s:ByteArray} {L:List cE} {r q:Nat} {pre:List (TG L)} {W W':World} {row:Option Nat} {D:Nat} (hD:w.heap.size≤D) (hB:B≤w.heap.size) (h:FG w B b nv N ub ob st f s L r q pre W) (hg:W.grownBy W' row) (hr :∀r,row=some r→D≤r∧∃o:Obj,W.heap[r]? = some o∧o.isCells=false):FG w B b nv N ub ob st f s L r q pre W':=by
 obtain⟨⟨pre',x,n,h1,h2,h3,h4⟩,h5,h6⟩:=h;have c:=TH.of hg hr;refine⟨⟨pre',x,n,h1,h2,h3,?_⟩,OG hD h5 hg hr,xE (by omega) (by have:=h6.size;omega) h6 hg hr⟩
 cases hR:fm n st.fns.length f st.fns with
 | none=>rw[hR] at h4;exact h4.Z3 c
 | some r=>obtain⟨F,k,i⟩:=r;rw[hR] at h4;exact⟨h4.1.Z3 c,h4.2.Z3 c⟩
set_option maxRecDepth 100000 in
theorem Jg {B:Nat} {nv:Value} {N ub ob:Nat} (b f:Nat) (s:ByteArray) (loop:Int) (pa la:Option Addr) (lc:Nat) (L:List cE) (st:aG) (w:World) (hw:jO w B b nv N st ub ob) (hl:cU w B (.slice la L.length lc) L) (hn:st.names=mw L) (vJ:Cx f st) (oH:dK st.fns) (Ot:st.fns.length≤100000) (xd:L.length≤100000) (hs:s.size≤maxLen) :
  Calls Tryz.prog 109 #[.pointer (some ⟨b,0,none⟩),.string s,.agg #[.int .i64 (f:Int),.int .i64 loop,.pointer pa,.slice la L.length lc]] w (BB B b nv N ub ob st f s w):=by
 refine(callsIn_wide (n:=3)).1 ?_;have HW:=aa hw;have HL:=aa hl;have HN:=aa hn;have Z4:=aa vJ;have TE:=aa oH;clear hw hl hn vJ oH;refine callsIn_of_wp_marks Tryz.func109 rfl trivial ?_ rfl;simp only[Tryz.ntmps109,Ee,List.length_cons,List.length_nil,Nat.reduceAdd,Nat.reduceSub,Kd,Ke,Kn,Kg,mQ,gU];gi_wp2_with (first|(refine⟨trivial,?_⟩;gi_at_call 160;refine(callsIn_wide.2 (BA _ _ _ _)).mono ?_;rintro e w' ⟨rfl,rfl⟩)|(gi_at_call 160;refine(callsIn_wide.2 (BA _ _ _ _)).mono ?_;rintro e w' ⟨rfl,rfl⟩))
 obtain⟨W0,hW0⟩ :∃W0,((((((w.alloc (.cells #[.pointer (some ⟨b,0,none⟩)] 142)).alloc (.cells #[.string s] 9)).alloc (.cells #[.int .i64 (f:Int),.int .i64 loop,.pointer pa,.slice la L.length lc] 92)).alloc (.cells #[.int .i64 0,.int .i64 0] 57)).alloc (.cells #[.nilIface] 27)).alloc (.cells #[.slice la L.length lc] 90))=W0:=⟨_,rfl⟩;obtain⟨hsz,hb0,o1,o2,o3,o4,o5,o6⟩:=Je w _ _ _ _ _ _ hW0;rw[hW0];obtain⟨bX,mH⟩:B≤w.heap.size∧ub<w.heap.size:=by
  obtain⟨_,_,h⟩:=HW.out;exact⟨aK h.pos (fg h.mL.1),h.mL.2.1⟩
 have Ow:=aa hb0;have qE:=aa hsz;have H1:=aa o1;have H2:=aa o2;have H3:=aa o3;have H4:=aa o4;have H5:=aa o5;have c6:=ab o6 0;clear o1 o2 o3 o4 o5 o6 hW0 hsz hb0;have HR0:=aa (oo HL.out.row Ow.out);have hown :∀g,(Value.slice la L.length lc).ownBlock=some g→g<W0.heap.size:=fun g hg=>by
  have h1:=(HR0.out.lt g hg).2;exact h1
 refine wpIn_rangeFunc_ownH (α:=TG L) rfl (by omega) (gf:=188) (lb:=#[.pointer (some ⟨w.heap.size+1+1+1+1+1,0,none⟩)]) rfl trivial (enters_of Tryz.func188 (by kernel_rfl) rfl)
  (DQ Fence.wide 2 trivial rfl (by omega) (w.heap.size+1+1+1+1+1) W0.heap.size B (.slice la L.length lc) L (by omega) W0 (by rw[qE.out];omega) (ah _) c6 HR0.out hown) belowK_t (belowK_b (ah _)) (Below.refl _ _) (fun _=>rfl)
  (fun pre W=>(∀y∈pre,jT y.1.2.iC s=none)∧Below W0.heap.size W0 W)
  (fun c pre W=>c=.ret∧FG w B b nv N ub ob st f s L (w.heap.size+1+1+1) (w.heap.size+1+1+1+1) pre W)
  (OwnFrom.and (ownFrom_pure _ _) (ownFrom_below (ah _) (ah _)))
  (fun c=>OwnFrom.and (ownFrom_pure _ _) (fun pre W W' row hs hg hr=>hs.own (by rw[qE.out];omega) bX hg hr))
  ⟨fun y hy=>(by cases hy),Below.refl _ _⟩
  (fun x a' W=>∃Bx,W0.heap.size≤Bx∧W.heap[Bx]? = some (.cells #[.int .i64 (x.1.2.fn:Int),.map (some x.1.2.blk)] 238 (0,0))∧a'={ tmps:=#[.pointer (some ⟨b,0,none⟩),.string s,.agg #[.int .i64 (f:Int),.int .i64 loop,.pointer pa,.slice la L.length lc],.pointer (some ⟨w.heap.size,0,none⟩),.pointer (some ⟨w.heap.size+1,0,none⟩),.pointer (some ⟨w.heap.size+1+1,0,none⟩),.pointer (some ⟨w.heap.size+1+1+1,0,none⟩),.pointer (some ⟨w.heap.size+1+1+1+1,0,none⟩),undef,.pointer (some ⟨Bx,0,none⟩),undef,undef,.pointer (some ⟨w.heap.size+1+1,3,none⟩),.slice la L.length lc,.func (.func 188) #[] #[.pointer (some ⟨w.heap.size+1+1+1+1+1,0,none⟩)],.int .i64 (x.1.1:Int),.agg #[.int .i64 (x.1.2.fn:Int),.map (some x.1.2.blk)],undef,undef,undef,undef,undef,undef,undef,undef,undef,undef,undef,undef,undef,undef,undef,undef,undef,undef,undef],defers:=[]})
  (fun x a' pre W W' row hs hg hr=>by
   obtain⟨Bx,h1,h2,h3⟩:=hs;exact⟨Bx,h1,(TH.of hg hr).cells _ _ _ _ h2,h3⟩) ?assign ?body ?done ?stop
 case assign =>
  rintro l pre ⟨⟨i,y⟩,hm⟩ W K ⟨hp,hb⟩ hK;dsimp only[TF]
  gi_wp2
  exact hK _ _ ((KeepsOthers.alloc _ _).from _) ((Below.refl _ W).alloc hb.size _) ⟨hp,hb.alloc hb.size _⟩ ⟨W.heap.size,hb.size,heap_alloc_new _ _,rfl⟩
 case body =>
  rintro l pre ⟨⟨i,y⟩,hm⟩ a' W hl' ⟨r,hr⟩ ⟨hp,hb⟩ ⟨Bx,hBx,gr,rfl⟩ hlt;have hy:=FC hm;dsimp only
  have wY:=Ow.out.trans (hb.mono (by rw[qE.out];omega))
  obtain⟨Z5,hmB⟩:=HL.out.maps y hy;have hmw:dA Tryz.prog 9 W y.blk y.iC.length (jT y.iC):=Z5.same (wY.block _ Z5.lt);have hrun:=hmw.look (t:=236) (e:=3) Tryz.underlying9 Tryz.underlying236 (z:=.int .i64 0) (by kernel_rfl) rfl s hs
  have y0:=ab gr 0;have y1:=ab gr 1;replace y0:_=some (Value.int .i64 (y.fn:Int)):=y0;replace y1:_=some (Value.map (some y.blk)):=y1;have q1:=(hb.block _ (by rw[qE.out];omega)).trans H1.out
  have q2:=(hb.block _ (by rw[qE.out];omega)).trans H2.out
  have q3:=(hb.block _ (by rw[qE.out];omega)).trans H3.out
  have q4:=(hb.block _ (by rw[qE.out];omega)).trans H4.out
  have q5:=(hb.block _ (by rw[qE.out];omega)).trans H5.out
  have d1:=ab q1 0;have d2:=ab q2 0;have d3:=ab q3 0;replace d1:_=some (Value.pointer (some ⟨b,0,none⟩)):=d1;replace d2:_=some (Value.string s):=d2;replace d3:_=some (Value.int .i64 (f:Int)):=d3;have HP:=aa hp;have um:=aa hb;have lG:=aa wY;have HYL:=aa hy;have Q4:=aa q4;have Q5:=aa q5;have HLR:=aa hr;clear hp hb wY Z5 hmB hmw q1 q2 q3 q4 q5 gr hr;cases rS:jT y.iC s with
  | none =>
   rw[rS] at hrun;replace hrun:_=Result.ok (Value.tuple #[.int .i64 0,.bool false]) W:=hrun;gi_wp2
   refine⟨KeepsFrom.refl _ _,Below.refl _ _,?_,um.out⟩;intro a2 b2 hm2 hz;rcases dd.1 hz with hz|hz
   ·exact HP.out _ hz
   ·rw[bP] at hz
    injection hz with hz;injection hz with _ hz;rw[hz];exact rS
  | some v =>
   obtain⟨n,Ah,uz⟩ :∃n,(y.iC.find? fun n=>decide (n.s=s))=some n∧v=.int .i64 (n.i:Int):=by
    unfold jT at rS;cases e:y.iC.find? fun n=>decide (n.s=s) with
    | none=>rw[e] at rS;cases rS
    | some n=>rw[e] at rS;injection rS with rS;exact⟨n,rfl,rS.symm⟩
   subst uz;rw[rS] at hrun;replace hrun:_=Result.ok (Value.tuple #[.int .i64 (n.i:Int),.bool true]) W:=hrun;have Qs:n∈y.iC:=J6 Ah;have hfn:=HL.out.own y HYL.out n Qs;rw[←hfn] at y0;have vL:n∈st.names:=by
    rw[HN.out];exact tI.2 ⟨y,HYL.out,Qs⟩
   have HNN:=aa vL;have JV:=aa Ah;have HSEG:=aa rS;clear vL Ah rS Qs hfn;have je:=aa (HW.out.later lG.out);obtain⟨DP,yf,vf,hyf,hvf,Ti⟩:=Z4.out.names n HNN.out;have HLD:=aa (OD b n st.fns.length f st W Z4.out.lt je.out Z4.out.ok TE.out DP ⟨yf,vf,hyf,hvf,Ti⟩ Z4.out.lt Ot);have q4:=Q4.out;have q5:=Q5.out;gi_wp2_with fail
   refine⟨trivial,(CallsIn.inRound l (callsIn_wide.2 HLD.out)).mono ?_⟩;rintro e w1 ⟨b1,f1,h1⟩;have Z7:=f1.cells _ _ _ _ q4 (by decide)
   have q5':=f1.cells _ _ _ _ q5 (by decide)
   have r0:=ab Z7 0;have r1:=ab Z7 1;have r2:=ab q5' 0;have z0:=aw Z7 0;have z1:=aw Z7 1;have z2:=aw q5' 0;replace r0:_=some (Value.int .i64 0):=r0;replace r1:_=some (Value.int .i64 0):=r1;replace r2:_=some Value.nilIface:=r2;have fj:=aa f1;have dM:=aa b1;have Q4':=aa Z7;have Q5':=aa q5';clear b1 f1 q4 q5 Z7 q5' hyf hvf DP Ti;cases hR:fm n st.fns.length f st.fns with
   | none =>
    rw[hR] at h1;subst h1;have HR:=aa hR;clear hR;gi_wp2
    refine⟨OJ _ fj.out _ _ _ _ _,rfl,⟨pre,⟨(i,y),hm⟩,n,rfl,HP.out,JV.out,?_⟩,((Fr.ae lG.out).trans fj.out).past (fun k hk=>TI _ _ _ _ _ _ k (by omega) (by omega)) (by rw[OI];exact ah _),((((lG.out.mono bX).trans dM.out).setCell (p:=⟨w.heap.size+1+1+1,0,none⟩) (by show B≤w.heap.size+1+1+1;omega) _).setCell (p:=⟨w.heap.size+1+1+1,1,none⟩) (by show B≤w.heap.size+1+1+1;omega) _).setCell (p:=⟨w.heap.size+1+1+1+1,0,none⟩) (by show B≤w.heap.size+1+1+1+1;omega) _⟩
    rw[HR.out];exact YJ (by omega) Q4'.out Q5'.out 0 0 _
   | some r =>
    obtain⟨F1,k1,i1⟩:=r;rw[hR] at h1;obtain⟨rfl,dW⟩:=h1;have HR:=aa hR;have lH:=aa dW;clear hR dW;gi_wp2
    refine⟨OJ _ fj.out _ _ _ _ _,rfl,⟨pre,⟨(i,y),hm⟩,n,rfl,HP.out,JV.out,?_⟩,((Fr.ae lG.out).trans fj.out).past (fun k hk=>TI _ _ _ _ _ _ k (by omega) (by omega)) (by rw[OI];exact ah _),((((lG.out.mono bX).trans dM.out).setCell (p:=⟨w.heap.size+1+1+1,0,none⟩) (by show B≤w.heap.size+1+1+1;omega) _).setCell (p:=⟨w.heap.size+1+1+1,1,none⟩) (by show B≤w.heap.size+1+1+1;omega) _).setCell (p:=⟨w.heap.size+1+1+1+1,0,none⟩) (by show B≤w.heap.size+1+1+1+1;omega) _⟩
    rw[HR.out];exact⟨YJ (by omega) Q4'.out Q5'.out k1 i1 _,rs9 lH.out ⟨_,_,Q4'.out⟩ ⟨_,_,Q5'.out⟩ (by omega) _ _ _⟩
 case done =>
  rintro D ys W hD rfl ⟨hp,hb⟩ hK;have q4:=(hb.block _ (by rw[qE.out];omega)).trans H4.out
  have q5:=(hb.block _ (by rw[qE.out];omega)).trans H5.out
  have r0:=ab q4 0;have r1:=ab q4 1;have r2:=ab q5 0;have z0:=aw q4 0;have z1:=aw q4 1;have z2:=aw q5 0;replace r0:_=some (Value.int .i64 0):=r0;replace r1:_=some (Value.int .i64 0):=r1;replace r2:_=some Value.nilIface:=r2;have lG:=aa (Ow.out.trans (hb.mono (by rw[qE.out];omega)))
  have HDN:Hid ((mw L).find? (fun n=>decide (n.s=s))=none):=aa (OH hp)
  have adg:=aa (YJ (W:=W) (r:=w.heap.size+1+1+1) (q:=w.heap.size+1+1+1+1) (by omega) q4 q5 0 0 (.iface 79 (.int .i64 16)))
  have K4:Hid (vK W (w.heap.size+1+1+1) 57):=aa ⟨_,_,q4⟩;have K5:Hid (vK W (w.heap.size+1+1+1+1) 27):=aa ⟨_,_,q5⟩;clear q4 q5 hp hb;gi_wp2
  have hK':=(TI W (w.heap.size+1+1+1) (w.heap.size+1+1+1+1) (.int .i64 0) (.int .i64 0) (.iface 79 (.int .i64 16)) D (by rw[qE.out] at hD;omega) (by rw[qE.out] at hD;omega)).trans hK
  have hR9:=rs9 (HW.out.later lG.out) K4.out K5.out (by omega) (.int .i64 0) (.int .i64 0) (.iface 79 (.int .i64 16))
  have hF9:Fr [52,61,59] w (((W.setCell ⟨w.heap.size+1+1+1,0,none⟩ (.int .i64 0)).setCell ⟨w.heap.size+1+1+1,1,none⟩ (.int .i64 0)).setCell ⟨w.heap.size+1+1+1+1,0,none⟩ (.iface 79 (.int .i64 16))):=(Fr.ae lG.out).past (fun k hk=>TI _ _ _ _ _ _ k (by omega) (by omega)) (by rw[OI];exact ah _)
  have hB9:Below B w (((W.setCell ⟨w.heap.size+1+1+1,0,none⟩ (.int .i64 0)).setCell ⟨w.heap.size+1+1+1,1,none⟩ (.int .i64 0)).setCell ⟨w.heap.size+1+1+1+1,0,none⟩ (.iface 79 (.int .i64 16))):=(((lG.out.mono bX).setCell (p:=⟨w.heap.size+1+1+1,0,none⟩) (by show B≤w.heap.size+1+1+1;omega) _).setCell (p:=⟨w.heap.size+1+1+1,1,none⟩) (by show B≤w.heap.size+1+1+1;omega) _).setCell (p:=⟨w.heap.size+1+1+1+1,0,none⟩) (by show B≤w.heap.size+1+1+1+1;omega) _
  have hO9:=adg.out;generalize ((W.setCell ⟨w.heap.size+1+1+1,0,none⟩ (.int .i64 0)).setCell ⟨w.heap.size+1+1+1,1,none⟩ (.int .i64 0)).setCell ⟨w.heap.size+1+1+1+1,0,none⟩ (.iface 79 (.int .i64 16))=W9 at *;refine⟨by simp,.inl ⟨_,_,rfl,run_takeDeferred hK',?_⟩⟩
  have hgr:=grownBy_putObj' W9 D (.deferred none);have YK :∀r,some D=some r→W0.heap.size≤r∧∃o:Obj,W9.heap[r]? = some o∧o.isCells=false:=fun r e=>by injection e with e;subst e;exact⟨hD,_,hK',rfl⟩
  have hC:=TH.of hgr YK;have hO:=hO9.Z3 hC;have k0:=ab hO.use 0;have k1:=ab hO.use 1;have k2:=ab hO.err 0;replace k0:_=some (Value.int .i64 0):=k0;replace k1:_=some (Value.int .i64 0):=k1;replace k2:_=some (Value.iface 79 (.int .i64 16)):=k2;refine⟨.tuple #[.agg #[.int .i64 0,.int .i64 0],.iface 79 (.int .i64 16)],?_,xE (by rw[qE.out];omega) (by have:=hB9.size;omega) hB9 hgr YK,OG (by rw[qE.out];omega) hF9 hgr YK,?_⟩
  ·simp[results,Tryz.results109,go_sem,k0,k1,k2]
  ·rw[HN.out,HDN.out]
   exact⟨rfl,hR9.Z3 hC⟩
 case stop =>
  rintro D c pre W hD uf ⟨rfl,hz⟩ hK;have HZ:=aa hz;have adh:=aa uf;clear hz uf;gi_wp2
  refine⟨by simp,.inl ⟨_,_,rfl,run_takeDeferred hK,?_⟩⟩
  have hgr:=grownBy_putObj' W D (.deferred none);have YK :∀r,some D=some r→W0.heap.size≤r∧∃o:Obj,W.heap[r]? = some o∧o.isCells=false:=fun r e=>by injection e with e;subst e;exact⟨hD,_,hK,rfl⟩
  obtain⟨⟨pre',x,n,rfl,h2,h3,h4⟩,h5,h6⟩:=HZ.out.own (by rw[qE.out];omega) bX hgr YK
  have Ot:st.names.find? (fun n=>decide (n.s=s))=some n:=by rw[HN.out];exact BC adh.out h2 h3
  cases hR:fm n st.fns.length f st.fns with
  | none =>
   rw[hR] at h4;have k0:=ab h4.use 0;have k1:=ab h4.use 1;have k2:=ab h4.err 0;replace k0:_=some (Value.int .i64 0):=k0;replace k1:_=some (Value.int .i64 0):=k1;replace k2:_=some (Value.iface 79 (.int .i64 12)):=k2;refine⟨.tuple #[.agg #[.int .i64 0,.int .i64 0],.iface 79 (.int .i64 12)],?_,h6,h5,?_⟩
   ·simp[results,Tryz.results109,go_sem,k0,k1,k2]
   ·rw[Ot]
    simp only[hR]
  | some r =>
   obtain⟨F1,kd,i1⟩:=r;rw[hR] at h4;obtain⟨h4,h7⟩:=h4;have k0:=ab h4.use 0;have k1:=ab h4.use 1;have k2:=ab h4.err 0;replace k0:_=some (Value.int .i64 kd):=k0;replace k1:_=some (Value.int .i64 (i1:Int)):=k1;replace k2:_=some Value.nilIface:=k2;refine⟨.tuple #[.agg #[.int .i64 kd,.int .i64 (i1:Int)],.nilIface],?_,h6,h5,?_⟩
   ·simp[results,Tryz.results109,go_sem,k0,k1,k2]
   ·rw[Ot]
    simp only[hR];exact⟨trivial,h7⟩
end
end Go.Proofs.YteflkdlaoiijbaaGreatDoor
namespace Go.Proofs.YteflkdlaoiijbaaGreatDoor
open Go.RowKit Go.Extern.Stop Go.Stop Go.Extern
theorem FH (v:Value) (w:World):(Extern.ReflectliteType.typeOf #[.iface 79 v]).run Tryz.prog w=.ok (.iface 165 (.agg #[.pointer (some ⟨4,79,none⟩)])) w:=by kernel_rfl
theorem kg (v:Value) (w:World):(Go.method 423 165 v "Comparable").run Tryz.prog w=.ok (267,v) w:=by kernel_rfl
theorem abe (v:Value) (xT:TypeId) (w:World):(Instr.typeAssert (.iface 79 v) xT 207 true).run Tryz.prog w=.ok (.tuple #[.nilIface,.bool false]) w:=run_typeAssert_lacksB Tryz.underlying207 (by kernel_rfl) (by kernel_rfl) v xT w
theorem Jh (v:Value) (xT:TypeId) (w:World):(Instr.typeAssert (.iface 79 v) xT 172 true).run Tryz.prog w=.ok (.tuple #[.nilIface,.bool false]) w:=run_typeAssert_lacksB Tryz.underlying172 (by kernel_rfl) (by kernel_rfl) v xT w
theorem DR (v:Value) (xT:TypeId) (w:World):(Instr.typeAssert (.iface 79 v) xT 173 true).run Tryz.prog w=.ok (.tuple #[.nilIface,.bool false]) w:=run_typeAssert_lacksB Tryz.underlying173 (by kernel_rfl) (by kernel_rfl) v xT w
theorem zEq (w:World):(binOp .eql 27 (.iface 79 (.int .i64 16)) (.iface 79 (.int .i64 16))).run Tryz.prog w=.ok (.bool true) w:=by kernel_rfl
theorem zNe (w:World):(binOp .eql 27 (.iface 79 (.int .i64 12)) (.iface 79 (.int .i64 16))).run Tryz.prog w=.ok (.bool false) w:=by kernel_rfl
theorem sL (w:World):((Extern.ReflectliteType.method fun t=>do Rtype.noPackHeld "Comparable" t;(fun a=>Value.bool a.comparable) <$> typeInfo t) #[.agg #[.pointer (some ⟨4,79,none⟩)]]).run Tryz.prog w=.ok (.bool true) w:=by kernel_rfl
theorem adi (w:World):(binOp .eql 27 .nilIface (.iface 79 (.int .i64 16))).run Tryz.prog w=.ok (.bool false) w:=by kernel_rfl
theorem abf (w:World):(binOp .eql 27 (.iface 79 (.int .i64 16)) .nilIface).run Tryz.prog w=.ok (.bool false) w:=by kernel_rfl
theorem FI (w:World) :
  Calls Tryz.prog 30 #[.nilIface,.iface 79 (.int .i64 16)] w fun e w'=>e=.returned (.bool false)∧w=w':=by
 have e1:=adi;have e2:=abf;go_enter Tryz.func30,Tryz.ntmps30
 go_wp2
 go_ret
 exact⟨rfl,rfl⟩
theorem FJ (w:World) :
  Calls Tryz.prog 30 #[.iface 79 (.int .i64 16),.iface 79 (.int .i64 16)] w fun e w'=>e=.returned (.bool true)∧w=w':=by
 have h41:=@run_callFunc_extern Tryz.prog 65 _ Extern.ReflectliteType.typeOf Tryz.func65 (by kernel_rfl) (by kernel_rfl) (by kernel_rfl) (by kernel_rfl)
 have Yi:=@run_callFunc_extern Tryz.prog 267 _ (Extern.ReflectliteType.method fun t=>do Rtype.noPackHeld "Comparable" t;pure (.bool (←typeInfo t).comparable)) Tryz.func267 (by kernel_rfl) (by kernel_rfl) (by kernel_rfl) (by kernel_rfl)
 have tT:=FH;have cT:=sL;have mR:=kg;have e5:=zEq;go_enter Tryz.func30,Tryz.ntmps30
 go_wp2
 refine wp_loop_rounds 1 ?_;rw[rounds_succ];go_wp2
 go_ret
 exact⟨rfl,rfl⟩
theorem FK (w:World) :
  Calls Tryz.prog 30 #[.iface 79 (.int .i64 12),.iface 79 (.int .i64 16)] w fun e w'=>e=.returned (.bool false)∧w=w':=by
 have h41:=@run_callFunc_extern Tryz.prog 65 _ Extern.ReflectliteType.typeOf Tryz.func65 (by kernel_rfl) (by kernel_rfl) (by kernel_rfl) (by kernel_rfl)
 have Yi:=@run_callFunc_extern Tryz.prog 267 _ (Extern.ReflectliteType.method fun t=>do Rtype.noPackHeld "Comparable" t;pure (.bool (←typeInfo t).comparable)) Tryz.func267 (by kernel_rfl) (by kernel_rfl) (by kernel_rfl) (by kernel_rfl)
 have tT:=FH;have cT:=sL;have mR:=kg;have nE:=abe;have uE:=Jh;have vE:=DR;have e5:=zNe;go_enter Tryz.func30,Tryz.ntmps30
 go_wp2
 refine wp_loop_rounds 1 ?_;rw[rounds_succ];go_wp2
 go_ret
 exact⟨rfl,rfl⟩
end Go.Proofs.YteflkdlaoiijbaaGreatDoor
namespace Go.Proofs.YteflkdlaoiijbaaGreatDoor
open Go.RowKit
theorem TJ {W:World} {bk o:Nat} {x:Nd} {nv kv:Value} (h:lQ W bk o x nv kv):W.cell? ⟨bk,o+4,none⟩=some (.string x.s):=h.c4
theorem ll {W:World} {b bk j p N ub ob f c o:Nat} {fv:Value} {s:ByteArray} {loop:Int} {pa la:Option Addr} {ln lc:Nat} (hb:W.heap[b]? = some (.cells #[.slice (some ⟨bk,o,none⟩) N c,fv,.slice (some ⟨ub,0,none⟩) N N,.slice (some ⟨ob,0,none⟩) N N] 87 (0,0))) (hd:W.cell? ⟨bk,j,none⟩=some (.string s)) (hx:W.heap[p]? = some (.cells #[.int .i64 (f:Int),.int .i64 loop,.pointer pa,.slice la ln lc] 92 (0,0))) :
  W.cell? ⟨b,0,none⟩=some (.slice (some ⟨bk,o,none⟩) N c)∧W.cell? ⟨bk,j,none⟩=some (.string s)∧W.cell? ⟨p,0,none⟩=some (.int .i64 (f:Int))∧W.cell? ⟨p,1,none⟩=some (.int .i64 loop)∧W.cell? ⟨p,2,none⟩=some (.pointer pa)∧W.cell? ⟨p,3,none⟩=some (.slice la ln lc) :=
 ⟨ab hb 0,hd,ab hx 0,ab hx 1,ab hx 2,ab hx 3⟩
def TK (B b:Nat) (nv:Value) (N ub ob:Nat) (st2:aG) (known:Bool) (k i:Int) (ev:Value) (w:World) (e:Ending) (w':World):Prop :=
 e=.returned (.tuple #[.agg #[.int .i64 k,.int .i64 i],ev])∧Below B w w'∧Fr [52,61,59] w w'∧(known=true→jO w' B b nv N st2 ub ob)
theorem qF {W:World} {b bk j p N f c o:Nat} {s:ByteArray} {loop:Int} {pa la:Option Addr} {ln lc:Nat} (h:W.cell? ⟨b,0,none⟩=some (.slice (some ⟨bk,o,none⟩) N c)∧W.cell? ⟨bk,j,none⟩=some (.string s)∧W.cell? ⟨p,0,none⟩=some (.int .i64 (f:Int))∧W.cell? ⟨p,1,none⟩=some (.int .i64 loop)∧W.cell? ⟨p,2,none⟩=some (.pointer pa)∧W.cell? ⟨p,3,none⟩=some (.slice la ln lc)) (hb:b<W.heap.size) (hk:bk<W.heap.size) (hp:p<W.heap.size) (ob:Obj) :
  (W.alloc ob).cell? ⟨b,0,none⟩=some (.slice (some ⟨bk,o,none⟩) N c)∧(W.alloc ob).cell? ⟨bk,j,none⟩=some (.string s)∧(W.alloc ob).cell? ⟨p,0,none⟩=some (.int .i64 (f:Int))∧(W.alloc ob).cell? ⟨p,1,none⟩=some (.int .i64 loop)∧(W.alloc ob).cell? ⟨p,2,none⟩=some (.pointer pa)∧(W.alloc ob).cell? ⟨p,3,none⟩=some (.slice la ln lc):=by
 have hB:=(Below.refl W.heap.size W).alloc (ah _) ob;exact⟨(hB.cell (p:=⟨b,0,none⟩) hb).trans h.1,(hB.cell (p:=⟨bk,j,none⟩) hk).trans h.2.1,(hB.cell (p:=⟨p,0,none⟩) hp).trans h.2.2.1,(hB.cell (p:=⟨p,1,none⟩) hp).trans h.2.2.2.1,(hB.cell (p:=⟨p,2,none⟩) hp).trans h.2.2.2.2.1,(hB.cell (p:=⟨p,3,none⟩) hp).trans h.2.2.2.2.2⟩
theorem yZ {W:World} {b bk j p N f c o r:Nat} {s:ByteArray} {loop:Int} {pa la:Option Addr} {ln lc:Nat} (h:W.cell? ⟨b,0,none⟩=some (.slice (some ⟨bk,o,none⟩) N c)∧W.cell? ⟨bk,j,none⟩=some (.string s)∧W.cell? ⟨p,0,none⟩=some (.int .i64 (f:Int))∧W.cell? ⟨p,1,none⟩=some (.int .i64 loop)∧W.cell? ⟨p,2,none⟩=some (.pointer pa)∧W.cell? ⟨p,3,none⟩=some (.slice la ln lc)) (hb:b≠r) (hk:bk≠r) (hp:p≠r) (u v:Value) :
  ((W.setCell ⟨r,0,none⟩ u).setCell ⟨r,1,none⟩ v).cell? ⟨b,0,none⟩=some (.slice (some ⟨bk,o,none⟩) N c)∧((W.setCell ⟨r,0,none⟩ u).setCell ⟨r,1,none⟩ v).cell? ⟨bk,j,none⟩=some (.string s)∧((W.setCell ⟨r,0,none⟩ u).setCell ⟨r,1,none⟩ v).cell? ⟨p,0,none⟩=some (.int .i64 (f:Int))∧((W.setCell ⟨r,0,none⟩ u).setCell ⟨r,1,none⟩ v).cell? ⟨p,1,none⟩=some (.int .i64 loop)∧((W.setCell ⟨r,0,none⟩ u).setCell ⟨r,1,none⟩ v).cell? ⟨p,2,none⟩=some (.pointer pa)∧((W.setCell ⟨r,0,none⟩ u).setCell ⟨r,1,none⟩ v).cell? ⟨p,3,none⟩=some (.slice la ln lc):=by
 have key :∀a:Addr,a.block≠r→((W.setCell ⟨r,0,none⟩ u).setCell ⟨r,1,none⟩ v).cell? a=W.cell? a:=fun a ha=>World.cell?_of_block (qD W r u v a.block ha)
 exact⟨(key ⟨b,0,none⟩ hb).trans h.1,(key ⟨bk,j,none⟩ hk).trans h.2.1,(key ⟨p,0,none⟩ hp).trans h.2.2.1,(key ⟨p,1,none⟩ hp).trans h.2.2.2.1,(key ⟨p,2,none⟩ hp).trans h.2.2.2.2.1,(key ⟨p,3,none⟩ hp).trans h.2.2.2.2.2⟩
structure NQ (w:World) (B b:Nat) (nv:Value) (N ub ob:Nat) (st2:aG) (known:Bool) (k i:Int) (W:World) (g:Nat):Prop where
 below:Below B w W
 fr:Fr [52,61,59] w W
 rs:known=true→jO W B b nv N st2 ub ob
 use:W.heap[g]? = some (.cells #[.int .i64 k,.int .i64 i] 57 (0,0))
 new:w.heap.size≤g
theorem YL {B:Nat} {w W1 w2:World} {b:Nat} {nv:Value} {N ub ob:Nat} {st2:aG} {known:Bool} {k i:Int} (bX:B≤w.heap.size) (b2:Below B W1 w2) (b1:Below w.heap.size w W1) (f2:Fr [52,61,59] W1 w2) (hle:w.heap.size≤W1.heap.size) (hB:B≤W1.heap.size) (r:known=true→jO w2 B b nv N st2 ub ob):NQ w B b nv N ub ob st2 known k i (w2.alloc (.cells #[.int .i64 k,.int .i64 i] 57)) w2.heap.size :=
 ⟨((b1.mono bX).trans b2).alloc (aK hB b2.size) _,((Fr.ae b1).trans f2).trans (Fr.alloc _),fun h=>(r h).alloc _,heap_alloc_new _ _,aK hle b2.size⟩
theorem YM {B:Nat} {w W1 w2:World} {b:Nat} {nv:Value} {N ub ob:Nat} {st2:aG} {known:Bool} {k i:Int} (bX:B≤w.heap.size) (mH:ub<w.heap.size) (b2:Below B W1 w2) (b1:Below w.heap.size w W1) (f2:Fr [52,61,59] W1 w2) (hle:w.heap.size≤W1.heap.size) (hB:B≤W1.heap.size) (r:known=true→jO w2 B b nv N st2 ub ob) {x y:Value} (hz:w2.heap[W1.heap.size]? = some (.cells #[x,y] 57 (0,0))):NQ w B b nv N ub ob st2 known k i ((w2.setCell ⟨W1.heap.size,0,none⟩ (.int .i64 k)).setCell ⟨W1.heap.size,1,none⟩ (.int .i64 i)) W1.heap.size :=
 have hk:vK w2 W1.heap.size 57:=⟨_,_,hz⟩
 ⟨(((b1.mono bX).trans b2).setCell (p:=⟨W1.heap.size,0,none⟩) hB _).setCell (p:=⟨W1.heap.size,1,none⟩) hB _,((Fr.ae b1).trans f2).past (fun k hk=>qD w2 W1.heap.size _ _ k (by omega)) (by rw[nP];exact ah _),fun h=>((r h).fN hk (by omega) _ _).fN (hk.set _ _ _) (by omega) _ _,yW hz _ _,hle⟩
theorem mh {B:Nat} {a w:World} {o:Obj} (hB:B≤a.heap.size) (h:Below B (a.alloc o) w):Below B a w:=((Below.refl B a).alloc hB o).trans h
theorem rT {E:List Nat} {a w:World} {o:Obj} (h:Fr E (a.alloc o) w):Fr E a w:=(Fr.alloc o).trans h
theorem gJ {W:World} {g:Nat} {x y:Value} {ty:TypeId} (h:W.heap[g]? = some (.cells #[x,y] ty (0,0))):W.cell? ⟨g,0,none⟩=some x:=ab h 0
theorem gK {W:World} {g:Nat} {x y:Value} {ty:TypeId} (h:W.heap[g]? = some (.cells #[x,y] ty (0,0))):W.cell? ⟨g,1,none⟩=some y:=ab h 1
theorem e8 {E:List Nat} {a w:World} (h:Fr E a.drew w):Fr E a w:=⟨h.size,h.cells,h.others⟩
theorem dk {B:Nat} {a w:World} (h:Below B a.drew w):Below B a w:=⟨h.os,h.tape,h.output,h.size,h.block⟩
theorem OK {T:List Nd} {B:Nat} {nv:Value} {ub ob:Nat} (b node f:Nat) (h:Nd) (loop k i:Int) (pa la:Option Addr) (lc:Nat) (L:List cE) (st st2:aG) (w:World) (hT:vY w B nv T) (hw:jO w B b nv T.length st ub ob) (hx:T[node]? = some h)
  (qG :∀W,Below w.heap.size w W→Calls Tryz.prog 109 #[.pointer (some ⟨b,0,none⟩),.string h.s,.agg #[.int .i64 (f:Int),.int .i64 loop,.pointer pa,.slice la L.length lc]] W (TK B b nv T.length ub ob st2 true k i (.nilIface) W)) :
  Calls Tryz.prog 54 #[.pointer (some ⟨b,0,none⟩),.int .i64 (node:Int),.agg #[.int .i64 (f:Int),.int .i64 loop,.pointer pa,.slice la L.length lc]] w (gG B b nv T.length ub ob (.ok (st2.dj node (k,i))) w):=by
 obtain⟨bk,o,c,rfl,eG,bX,dG⟩:=hT.nodes;obtain⟨zx,zy,fE,_,_⟩:=dG node h hx;have jB:node<T.length:=(aL.1 hx).1;have pN:=hT.few;obtain⟨hbl,mH,hb4⟩:b<w.heap.size∧ub<w.heap.size∧∃fv,w.heap[b]? = some (.cells #[.slice (some ⟨bk,o,none⟩) T.length c,fv,.slice (some ⟨ub,0,none⟩) T.length T.length,.slice (some ⟨ob,0,none⟩) T.length T.length] 87 (0,0)):=by
  obtain⟨_,_,h⟩:=hw;exact⟨h.mL.1,h.mL.2.1,_,h.blk⟩
 obtain⟨fv0,hb4⟩:=hb4;have y7:=aa qG;have d0:=ab hb4 0;replace d0:_=some (Value.slice (some ⟨bk,o,none⟩) T.length c):=d0;have d4:=TJ fE;have gT:bk<w.heap.size:=by omega
 have I9:=aa hb4;have HT:=aa hT;have HX:=aa hx;clear hw hT hx qG fE dG hb4;go_enter Tryz.func54,Tryz.ntmps54
 go_wp2_with fail
 have dM:=aa ((Below.refl w.heap.size w).alloc (ah _) (.cells #[.int .i64 (f:Int),.int .i64 loop,.pointer pa,.slice la L.length lc] 92));have gr:=heap_alloc_new w (.cells #[.int .i64 (f:Int),.int .i64 loop,.pointer pa,.slice la L.length lc] 92);have x0:=ab gr 0;have x1:=ab gr 1;have x2:=ab gr 2;have x3:=ab gr 3;replace x0:_=some (Value.int .i64 (f:Int)):=x0;replace x1:_=some (Value.int .i64 loop):=x1;replace x2:_=some (Value.pointer pa):=x2;replace x3:_=some (Value.slice la L.length lc):=x3;have e0:=(dM.out.cell (p:=⟨b,0,none⟩) hbl).trans d0;have e4:=(dM.out.cell (p:=⟨bk,o+node*7+4,none⟩) gT).trans d4;have qe:=aa gr;have qH:=aa ((dM.out.block b hbl).trans I9.out);have hs1:(w.alloc (.cells #[.int .i64 (f:Int),.int .i64 loop,.pointer pa,.slice la L.length lc] 92)).heap.size=w.heap.size+1:=ao _ _;generalize w.alloc (.cells #[.int .i64 (f:Int),.int .i64 loop,.pointer pa,.slice la L.length lc] 92)=W1 at *;have eF:=aa hs1;have TL:=I9;clear d0 d4 gr hs1 I9;have kk:Hid (W1.cell? ⟨b,0,none⟩=some (.slice (some ⟨bk,o,none⟩) T.length c)∧W1.cell? ⟨bk,o+node*7+4,none⟩=some (.string h.s)∧W1.cell? ⟨w.heap.size,0,none⟩=some (.int .i64 (f:Int))∧W1.cell? ⟨w.heap.size,1,none⟩=some (.int .i64 loop)∧W1.cell? ⟨w.heap.size,2,none⟩=some (.pointer pa)∧W1.cell? ⟨w.heap.size,3,none⟩=some (.slice la L.length lc)):=aa ⟨e0,e4,x0,x1,x2,x3⟩;have hb1:b<W1.heap.size:=(by have:=eF.out;omega)
 have iT:bk<W1.heap.size:=(by have:=eF.out;omega)
 have dW:w.heap.size<W1.heap.size:=(by have:=eF.out;omega)
 have mi:w.heap.size≤W1.heap.size:=fg dW;have Dh:b≠W1.heap.size:=jy hb1;have o0:bk≠W1.heap.size:=jy iT;have YN:w.heap.size≠W1.heap.size:=jy dW;have s9:B≤W1.heap.size:=aK bX mi;go_region_held3 (fun w'=>w'.cell? ⟨b,0,none⟩=some (.slice (some ⟨bk,o,none⟩) T.length c)∧w'.cell? ⟨bk,o+node*7+4,none⟩=some (.string h.s)∧w'.cell? ⟨w.heap.size,0,none⟩=some (.int .i64 (f:Int))∧w'.cell? ⟨w.heap.size,1,none⟩=some (.int .i64 loop)∧w'.cell? ⟨w.heap.size,2,none⟩=some (.pointer pa)∧w'.cell? ⟨w.heap.size,3,none⟩=some (.slice la L.length lc))
  (first|exact kk.out|exact qF kk.out hb1 iT dW _|exact yZ kk.out Dh o0 YN _ _)
  (first
   | (go_at_call 109;refine(y7.out W1.drew dM.out.drew).mono ?_;rintro e w2 hq;unfold TK at hq;obtain⟨rfl,tb,mq,BD⟩:=hq;have B2:=aa (dk tb);have F2:=aa (e8 mq);have R2:=aa BD;have hb1:b<w2.heap.size:=cy hb1 B2.out.size;have iT:bk<w2.heap.size:=cy iT B2.out.size;have dW:w.heap.size<w2.heap.size:=cy dW B2.out.size;have kk:=aa (ll (F2.out.cells _ _ _ _ qH.out (by decide)) ((B2.out.cell (p:=⟨bk,o+node*7+4,none⟩) eG).trans e4) (F2.out.cells _ _ _ _ qe.out (by decide)));clear tb mq BD)
   | (go_at_call 109;refine(y7.out (W1.alloc (.cells #[.int .i64 0,.int .i64 0] 57)).drew (dM.out.alloc mi _).drew).mono ?_;rintro e w2 hq;unfold TK at hq;obtain⟨rfl,tb,mq,BD⟩:=hq;have B2:=aa (mh s9 (dk tb));have F2:=aa (rT (e8 mq));have R2:=aa BD;have hz2:=(e8 mq).cells _ _ _ _ (heap_alloc_new W1 (.cells #[.int .i64 0,.int .i64 0] 57)) (by decide);have q0:=gJ hz2;have q1:=gK hz2;have q2:=aw hz2 0;have q3:=aw hz2 1;have Z2:=aa hz2;have kk:=aa (ll (F2.out.cells _ _ _ _ qH.out (by decide)) ((B2.out.cell (p:=⟨bk,o+node*7+4,none⟩) eG).trans e4) (F2.out.cells _ _ _ _ qe.out (by decide)));clear tb mq BD hz2))
 ·have HQ:=aa (YL (B:=B) bX (st2:=st2) (nv:=.slice (some ⟨bk,o,none⟩) T.length c) (N:=T.length) (b:=b) (ub:=ub) (ob:=ob) (known:=true) (k:=k) (i:=i) B2.out dM.out F2.out mi s9 (fun _=>R2.out trivial))
  generalize w2.alloc (.cells #[.int .i64 k,.int .i64 i] 57)=W5 at HQ ⊢;generalize w2.heap.size=g at HQ ⊢;clear B2 F2 R2 y7 dM qe qH eF kk e0 e4 x0 x1 x2 x3;have y0:=gJ HQ.out.use;have y1:=gK HQ.out.use;obtain⟨fv5,FL5,ix⟩:=HQ.out.rs rfl;obtain⟨vR,hl2,JW⟩:=ix.mL;have d2:W5.cell? ⟨b,2,none⟩=some (.slice (some ⟨ub,0,none⟩) T.length T.length):=ab ix.blk 2;obtain⟨u0,v0⟩:=cZ ix.uses (j:=node*2) (by omega)
  obtain⟨u1,v1⟩:=cZ ix.uses (j:=node*2+1) (by omega)
  have qI:=aa ix;clear ix;go_wp2_with fail
  refine(FI W5).mono ?_;rintro e w6 ⟨rfl,rfl⟩;go_wp2_with fail
  go_region
  go_wp2_with fail
  go_ret
  exact⟨((HQ.out.below.setCell (p:=⟨ub,node*2,none⟩) qI.out.jf.1 _).setCell (p:=⟨ub,node*2+1,none⟩) qI.out.jf.1 _).drew,rfl,⟨_,_,(qI.out.use node (k,i)).drew⟩,(((HQ.out.fr.mono (by decide)).trans ((mc qI.out node _ _).mono (by decide)))).drew⟩
 ·have HQ:=aa (YM (B:=B) bX mH (st2:=st2) (nv:=.slice (some ⟨bk,o,none⟩) T.length c) (N:=T.length) (b:=b) (ob:=ob) (known:=true) (k:=k) (i:=i) B2.out dM.out F2.out mi s9 (fun _=>R2.out trivial) Z2.out)
  generalize (w2.setCell ⟨W1.heap.size,0,none⟩ (.int .i64 k)).setCell ⟨W1.heap.size,1,none⟩ (.int .i64 i)=W5 at HQ ⊢;generalize W1.heap.size=g at HQ ⊢;clear q0 q1 q2 q3 Z2;clear B2 F2 R2 y7 dM qe qH eF kk e0 e4 x0 x1 x2 x3;have y0:=gJ HQ.out.use;have y1:=gK HQ.out.use;obtain⟨fv5,FL5,ix⟩:=HQ.out.rs rfl;obtain⟨vR,hl2,JW⟩:=ix.mL;have d2:W5.cell? ⟨b,2,none⟩=some (.slice (some ⟨ub,0,none⟩) T.length T.length):=ab ix.blk 2;obtain⟨u0,v0⟩:=cZ ix.uses (j:=node*2) (by omega)
  obtain⟨u1,v1⟩:=cZ ix.uses (j:=node*2+1) (by omega)
  have qI:=aa ix;clear ix;go_wp2_with fail
  refine(FI W5).mono ?_;rintro e w6 ⟨rfl,rfl⟩;go_wp2_with fail
  go_region
  go_wp2_with fail
  go_ret
  exact⟨((HQ.out.below.setCell (p:=⟨ub,node*2,none⟩) qI.out.jf.1 _).setCell (p:=⟨ub,node*2+1,none⟩) qI.out.jf.1 _).drew,rfl,⟨_,_,(qI.out.use node (k,i)).drew⟩,(((HQ.out.fr.mono (by decide)).trans ((mc qI.out node _ _).mono (by decide)))).drew⟩
theorem Ji {T:List Nd} {B:Nat} {nv:Value} {ub ob:Nat} (b node f:Nat) (h:Nd) (loop k i:Int) (pa la:Option Addr) (lc:Nat) (L:List cE) (st st2:aG) (w:World) (hT:vY w B nv T) (hw:jO w B b nv T.length st ub ob) (hx:T[node]? = some h)
  (qG :∀W,Below w.heap.size w W→Calls Tryz.prog 109 #[.pointer (some ⟨b,0,none⟩),.string h.s,.agg #[.int .i64 (f:Int),.int .i64 loop,.pointer pa,.slice la L.length lc]] W (TK B b nv T.length ub ob st2 true k i (.iface 79 (.int .i64 16)) W)) :
  Calls Tryz.prog 54 #[.pointer (some ⟨b,0,none⟩),.int .i64 (node:Int),.agg #[.int .i64 (f:Int),.int .i64 loop,.pointer pa,.slice la L.length lc]] w (gG B b nv T.length ub ob (.ok (st2.dj node (1,0))) w):=by
 obtain⟨bk,o,c,rfl,eG,bX,dG⟩:=hT.nodes;obtain⟨zx,zy,fE,_,_⟩:=dG node h hx;have jB:node<T.length:=(aL.1 hx).1;have pN:=hT.few;obtain⟨hbl,mH,hb4⟩:b<w.heap.size∧ub<w.heap.size∧∃fv,w.heap[b]? = some (.cells #[.slice (some ⟨bk,o,none⟩) T.length c,fv,.slice (some ⟨ub,0,none⟩) T.length T.length,.slice (some ⟨ob,0,none⟩) T.length T.length] 87 (0,0)):=by
  obtain⟨_,_,h⟩:=hw;exact⟨h.mL.1,h.mL.2.1,_,h.blk⟩
 obtain⟨fv0,hb4⟩:=hb4;have y7:=aa qG;have d0:=ab hb4 0;replace d0:_=some (Value.slice (some ⟨bk,o,none⟩) T.length c):=d0;have d4:=TJ fE;have gT:bk<w.heap.size:=by omega
 have I9:=aa hb4;have HT:=aa hT;have HX:=aa hx;clear hw hT hx qG fE dG hb4;go_enter Tryz.func54,Tryz.ntmps54
 go_wp2_with fail
 have dM:=aa ((Below.refl w.heap.size w).alloc (ah _) (.cells #[.int .i64 (f:Int),.int .i64 loop,.pointer pa,.slice la L.length lc] 92));have gr:=heap_alloc_new w (.cells #[.int .i64 (f:Int),.int .i64 loop,.pointer pa,.slice la L.length lc] 92);have x0:=ab gr 0;have x1:=ab gr 1;have x2:=ab gr 2;have x3:=ab gr 3;replace x0:_=some (Value.int .i64 (f:Int)):=x0;replace x1:_=some (Value.int .i64 loop):=x1;replace x2:_=some (Value.pointer pa):=x2;replace x3:_=some (Value.slice la L.length lc):=x3;have e0:=(dM.out.cell (p:=⟨b,0,none⟩) hbl).trans d0;have e4:=(dM.out.cell (p:=⟨bk,o+node*7+4,none⟩) gT).trans d4;have qe:=aa gr;have qH:=aa ((dM.out.block b hbl).trans I9.out);have hs1:(w.alloc (.cells #[.int .i64 (f:Int),.int .i64 loop,.pointer pa,.slice la L.length lc] 92)).heap.size=w.heap.size+1:=ao _ _;generalize w.alloc (.cells #[.int .i64 (f:Int),.int .i64 loop,.pointer pa,.slice la L.length lc] 92)=W1 at *;have eF:=aa hs1;have TL:=I9;clear d0 d4 gr hs1 I9;have kk:Hid (W1.cell? ⟨b,0,none⟩=some (.slice (some ⟨bk,o,none⟩) T.length c)∧W1.cell? ⟨bk,o+node*7+4,none⟩=some (.string h.s)∧W1.cell? ⟨w.heap.size,0,none⟩=some (.int .i64 (f:Int))∧W1.cell? ⟨w.heap.size,1,none⟩=some (.int .i64 loop)∧W1.cell? ⟨w.heap.size,2,none⟩=some (.pointer pa)∧W1.cell? ⟨w.heap.size,3,none⟩=some (.slice la L.length lc)):=aa ⟨e0,e4,x0,x1,x2,x3⟩;have hb1:b<W1.heap.size:=(by have:=eF.out;omega)
 have iT:bk<W1.heap.size:=(by have:=eF.out;omega)
 have dW:w.heap.size<W1.heap.size:=(by have:=eF.out;omega)
 have mi:w.heap.size≤W1.heap.size:=fg dW;have Dh:b≠W1.heap.size:=jy hb1;have o0:bk≠W1.heap.size:=jy iT;have YN:w.heap.size≠W1.heap.size:=jy dW;have s9:B≤W1.heap.size:=aK bX mi;go_region_held3 (fun w'=>w'.cell? ⟨b,0,none⟩=some (.slice (some ⟨bk,o,none⟩) T.length c)∧w'.cell? ⟨bk,o+node*7+4,none⟩=some (.string h.s)∧w'.cell? ⟨w.heap.size,0,none⟩=some (.int .i64 (f:Int))∧w'.cell? ⟨w.heap.size,1,none⟩=some (.int .i64 loop)∧w'.cell? ⟨w.heap.size,2,none⟩=some (.pointer pa)∧w'.cell? ⟨w.heap.size,3,none⟩=some (.slice la L.length lc))
  (first|exact kk.out|exact qF kk.out hb1 iT dW _|exact yZ kk.out Dh o0 YN _ _)
  (first
   | (go_at_call 109;refine(y7.out W1.drew dM.out.drew).mono ?_;rintro e w2 hq;unfold TK at hq;obtain⟨rfl,tb,mq,BD⟩:=hq;have B2:=aa (dk tb);have F2:=aa (e8 mq);have R2:=aa BD;have hb1:b<w2.heap.size:=cy hb1 B2.out.size;have iT:bk<w2.heap.size:=cy iT B2.out.size;have dW:w.heap.size<w2.heap.size:=cy dW B2.out.size;have kk:=aa (ll (F2.out.cells _ _ _ _ qH.out (by decide)) ((B2.out.cell (p:=⟨bk,o+node*7+4,none⟩) eG).trans e4) (F2.out.cells _ _ _ _ qe.out (by decide)));clear tb mq BD)
   | (go_at_call 109;refine(y7.out (W1.alloc (.cells #[.int .i64 0,.int .i64 0] 57)).drew (dM.out.alloc mi _).drew).mono ?_;rintro e w2 hq;unfold TK at hq;obtain⟨rfl,tb,mq,BD⟩:=hq;have B2:=aa (mh s9 (dk tb));have F2:=aa (rT (e8 mq));have R2:=aa BD;have hz2:=(e8 mq).cells _ _ _ _ (heap_alloc_new W1 (.cells #[.int .i64 0,.int .i64 0] 57)) (by decide);have q0:=gJ hz2;have q1:=gK hz2;have q2:=aw hz2 0;have q3:=aw hz2 1;have Z2:=aa hz2;have kk:=aa (ll (F2.out.cells _ _ _ _ qH.out (by decide)) ((B2.out.cell (p:=⟨bk,o+node*7+4,none⟩) eG).trans e4) (F2.out.cells _ _ _ _ qe.out (by decide)));clear tb mq BD hz2))
 ·have HQ:=aa (YL (B:=B) bX (st2:=st2) (nv:=.slice (some ⟨bk,o,none⟩) T.length c) (N:=T.length) (b:=b) (ub:=ub) (ob:=ob) (known:=true) (k:=k) (i:=i) B2.out dM.out F2.out mi s9 (fun _=>R2.out trivial))
  generalize w2.alloc (.cells #[.int .i64 k,.int .i64 i] 57)=W5 at HQ ⊢;generalize w2.heap.size=g at HQ ⊢;clear B2 F2 R2 y7 dM qe qH eF kk e0 e4 x0 x1 x2 x3;have y0:=gJ HQ.out.use;have y1:=gK HQ.out.use;have y2:=aw HQ.out.use 0;have y3:=aw HQ.out.use 1;have hgu:g≠ub:=by have:=HQ.out.new;omega
  go_wp2_with fail
  refine(FJ W5).mono ?_;rintro e w6 ⟨rfl,rfl⟩;go_wp2_with fail
  have hk:vK W5 g 57:=⟨_,_,HQ.out.use⟩;have OL:=((HQ.out.rs rfl).fN hk hgu 0 (.int .i64 1)).fN (hk.set _ _ _) hgu 1 (.int .i64 0);have Dy:=yW HQ.out.use (.int .i64 1) (.int .i64 0);have Vj:=aa ((HQ.out.below.setCell (p:=⟨g,0,none⟩) (aK bX HQ.out.new) (.int .i64 1)).setCell (p:=⟨g,1,none⟩) (aK bX HQ.out.new) (.int .i64 0));have OM:=aa (HQ.out.fr.past (fun k hk=>qD W5 g (.int .i64 1) (.int .i64 0) k (by have:=HQ.out.new;omega)) (by rw[nP];exact ah _))
  generalize (W5.setCell ⟨g,0,none⟩ (.int .i64 1)).setCell ⟨g,1,none⟩ (.int .i64 0)=W6 at OL Dy Vj OM ⊢;have k0:=gJ Dy;have k1:=gK Dy;obtain⟨fv5,FL5,ix⟩:=OL;obtain⟨vR,hl2,JW⟩:=ix.mL;have d2:W6.cell? ⟨b,2,none⟩=some (.slice (some ⟨ub,0,none⟩) T.length T.length):=ab ix.blk 2;obtain⟨u0,v0⟩:=cZ ix.uses (j:=node*2) (by omega)
  obtain⟨u1,v1⟩:=cZ ix.uses (j:=node*2+1) (by omega)
  have qI:=aa ix;clear ix Dy y0 y1 y2 y3 hk;go_region
  go_wp2_with fail
  go_ret
  exact⟨((Vj.out.setCell (p:=⟨ub,node*2,none⟩) qI.out.jf.1 _).setCell (p:=⟨ub,node*2+1,none⟩) qI.out.jf.1 _).drew,rfl,⟨_,_,(qI.out.use node (1,0)).drew⟩,(((OM.out.mono (by decide)).trans ((mc qI.out node _ _).mono (by decide)))).drew⟩
 ·have HQ:=aa (YM (B:=B) bX mH (st2:=st2) (nv:=.slice (some ⟨bk,o,none⟩) T.length c) (N:=T.length) (b:=b) (ob:=ob) (known:=true) (k:=k) (i:=i) B2.out dM.out F2.out mi s9 (fun _=>R2.out trivial) Z2.out)
  generalize (w2.setCell ⟨W1.heap.size,0,none⟩ (.int .i64 k)).setCell ⟨W1.heap.size,1,none⟩ (.int .i64 i)=W5 at HQ ⊢;generalize W1.heap.size=g at HQ ⊢;clear q0 q1 q2 q3 Z2;clear B2 F2 R2 y7 dM qe qH eF kk e0 e4 x0 x1 x2 x3;have y0:=gJ HQ.out.use;have y1:=gK HQ.out.use;have y2:=aw HQ.out.use 0;have y3:=aw HQ.out.use 1;have hgu:g≠ub:=by have:=HQ.out.new;omega
  go_wp2_with fail
  refine(FJ W5).mono ?_;rintro e w6 ⟨rfl,rfl⟩;go_wp2_with fail
  have hk:vK W5 g 57:=⟨_,_,HQ.out.use⟩;have OL:=((HQ.out.rs rfl).fN hk hgu 0 (.int .i64 1)).fN (hk.set _ _ _) hgu 1 (.int .i64 0);have Dy:=yW HQ.out.use (.int .i64 1) (.int .i64 0);have Vj:=aa ((HQ.out.below.setCell (p:=⟨g,0,none⟩) (aK bX HQ.out.new) (.int .i64 1)).setCell (p:=⟨g,1,none⟩) (aK bX HQ.out.new) (.int .i64 0));have OM:=aa (HQ.out.fr.past (fun k hk=>qD W5 g (.int .i64 1) (.int .i64 0) k (by have:=HQ.out.new;omega)) (by rw[nP];exact ah _))
  generalize (W5.setCell ⟨g,0,none⟩ (.int .i64 1)).setCell ⟨g,1,none⟩ (.int .i64 0)=W6 at OL Dy Vj OM ⊢;have k0:=gJ Dy;have k1:=gK Dy;obtain⟨fv5,FL5,ix⟩:=OL;obtain⟨vR,hl2,JW⟩:=ix.mL;have d2:W6.cell? ⟨b,2,none⟩=some (.slice (some ⟨ub,0,none⟩) T.length T.length):=ab ix.blk 2;obtain⟨u0,v0⟩:=cZ ix.uses (j:=node*2) (by omega)
  obtain⟨u1,v1⟩:=cZ ix.uses (j:=node*2+1) (by omega)
  have qI:=aa ix;clear ix Dy y0 y1 y2 y3 hk;go_region
  go_wp2_with fail
  go_ret
  exact⟨((Vj.out.setCell (p:=⟨ub,node*2,none⟩) qI.out.jf.1 _).setCell (p:=⟨ub,node*2+1,none⟩) qI.out.jf.1 _).drew,rfl,⟨_,_,(qI.out.use node (1,0)).drew⟩,(((OM.out.mono (by decide)).trans ((mc qI.out node _ _).mono (by decide)))).drew⟩
theorem ON {T:List Nd} {B:Nat} {nv:Value} {ub ob:Nat} (b node f:Nat) (h:Nd) (loop k i:Int) (pa la:Option Addr) (lc:Nat) (L:List cE) (st st2:aG) (w:World) (hT:vY w B nv T) (hw:jO w B b nv T.length st ub ob) (hx:T[node]? = some h)
  (qG :∀W,Below w.heap.size w W→Calls Tryz.prog 109 #[.pointer (some ⟨b,0,none⟩),.string h.s,.agg #[.int .i64 (f:Int),.int .i64 loop,.pointer pa,.slice la L.length lc]] W (TK B b nv T.length ub ob st2 false k i (.iface 79 (.int .i64 12)) W)) :
  Calls Tryz.prog 54 #[.pointer (some ⟨b,0,none⟩),.int .i64 (node:Int),.agg #[.int .i64 (f:Int),.int .i64 loop,.pointer pa,.slice la L.length lc]] w (gG B b nv T.length ub ob (.error (12,h.line)) w):=by
 obtain⟨bk,o,c,rfl,eG,bX,dG⟩:=hT.nodes;obtain⟨zx,zy,fE,_,_⟩:=dG node h hx;have jB:node<T.length:=(aL.1 hx).1;have pN:=hT.few;obtain⟨hbl,mH,hb4⟩:b<w.heap.size∧ub<w.heap.size∧∃fv,w.heap[b]? = some (.cells #[.slice (some ⟨bk,o,none⟩) T.length c,fv,.slice (some ⟨ub,0,none⟩) T.length T.length,.slice (some ⟨ob,0,none⟩) T.length T.length] 87 (0,0)):=by
  obtain⟨_,_,h⟩:=hw;exact⟨h.mL.1,h.mL.2.1,_,h.blk⟩
 obtain⟨fv0,hb4⟩:=hb4;have y7:=aa qG;have d0:=ab hb4 0;replace d0:_=some (Value.slice (some ⟨bk,o,none⟩) T.length c):=d0;have d4:=TJ fE;have gT:bk<w.heap.size:=by omega
 have I9:=aa hb4;have HT:=aa hT;have HX:=aa hx;clear hw hT hx qG fE dG hb4;go_enter Tryz.func54,Tryz.ntmps54
 go_wp2_with fail
 have dM:=aa ((Below.refl w.heap.size w).alloc (ah _) (.cells #[.int .i64 (f:Int),.int .i64 loop,.pointer pa,.slice la L.length lc] 92));have gr:=heap_alloc_new w (.cells #[.int .i64 (f:Int),.int .i64 loop,.pointer pa,.slice la L.length lc] 92);have x0:=ab gr 0;have x1:=ab gr 1;have x2:=ab gr 2;have x3:=ab gr 3;replace x0:_=some (Value.int .i64 (f:Int)):=x0;replace x1:_=some (Value.int .i64 loop):=x1;replace x2:_=some (Value.pointer pa):=x2;replace x3:_=some (Value.slice la L.length lc):=x3;have e0:=(dM.out.cell (p:=⟨b,0,none⟩) hbl).trans d0;have e4:=(dM.out.cell (p:=⟨bk,o+node*7+4,none⟩) gT).trans d4;have qe:=aa gr;have qH:=aa ((dM.out.block b hbl).trans I9.out);have hs1:(w.alloc (.cells #[.int .i64 (f:Int),.int .i64 loop,.pointer pa,.slice la L.length lc] 92)).heap.size=w.heap.size+1:=ao _ _;generalize w.alloc (.cells #[.int .i64 (f:Int),.int .i64 loop,.pointer pa,.slice la L.length lc] 92)=W1 at *;have eF:=aa hs1;have TL:=I9;clear d0 d4 gr hs1 I9;have kk:Hid (W1.cell? ⟨b,0,none⟩=some (.slice (some ⟨bk,o,none⟩) T.length c)∧W1.cell? ⟨bk,o+node*7+4,none⟩=some (.string h.s)∧W1.cell? ⟨w.heap.size,0,none⟩=some (.int .i64 (f:Int))∧W1.cell? ⟨w.heap.size,1,none⟩=some (.int .i64 loop)∧W1.cell? ⟨w.heap.size,2,none⟩=some (.pointer pa)∧W1.cell? ⟨w.heap.size,3,none⟩=some (.slice la L.length lc)):=aa ⟨e0,e4,x0,x1,x2,x3⟩;have hb1:b<W1.heap.size:=(by have:=eF.out;omega)
 have iT:bk<W1.heap.size:=(by have:=eF.out;omega)
 have dW:w.heap.size<W1.heap.size:=(by have:=eF.out;omega)
 have mi:w.heap.size≤W1.heap.size:=fg dW;have Dh:b≠W1.heap.size:=jy hb1;have o0:bk≠W1.heap.size:=jy iT;have YN:w.heap.size≠W1.heap.size:=jy dW;have s9:B≤W1.heap.size:=aK bX mi;go_region_held3 (fun w'=>w'.cell? ⟨b,0,none⟩=some (.slice (some ⟨bk,o,none⟩) T.length c)∧w'.cell? ⟨bk,o+node*7+4,none⟩=some (.string h.s)∧w'.cell? ⟨w.heap.size,0,none⟩=some (.int .i64 (f:Int))∧w'.cell? ⟨w.heap.size,1,none⟩=some (.int .i64 loop)∧w'.cell? ⟨w.heap.size,2,none⟩=some (.pointer pa)∧w'.cell? ⟨w.heap.size,3,none⟩=some (.slice la L.length lc))
  (first|exact kk.out|exact qF kk.out hb1 iT dW _|exact yZ kk.out Dh o0 YN _ _)
  (first
   | (go_at_call 109;refine(y7.out W1.drew dM.out.drew).mono ?_;rintro e w2 hq;unfold TK at hq;obtain⟨rfl,tb,mq,BD⟩:=hq;have B2:=aa (dk tb);have F2:=aa (e8 mq);have R2:=aa BD;have hb1:b<w2.heap.size:=cy hb1 B2.out.size;have iT:bk<w2.heap.size:=cy iT B2.out.size;have dW:w.heap.size<w2.heap.size:=cy dW B2.out.size;have kk:=aa (ll (F2.out.cells _ _ _ _ qH.out (by decide)) ((B2.out.cell (p:=⟨bk,o+node*7+4,none⟩) eG).trans e4) (F2.out.cells _ _ _ _ qe.out (by decide)));clear tb mq BD)
   | (go_at_call 109;refine(y7.out (W1.alloc (.cells #[.int .i64 0,.int .i64 0] 57)).drew (dM.out.alloc mi _).drew).mono ?_;rintro e w2 hq;unfold TK at hq;obtain⟨rfl,tb,mq,BD⟩:=hq;have B2:=aa (mh s9 (dk tb));have F2:=aa (rT (e8 mq));have R2:=aa BD;have hz2:=(e8 mq).cells _ _ _ _ (heap_alloc_new W1 (.cells #[.int .i64 0,.int .i64 0] 57)) (by decide);have q0:=gJ hz2;have q1:=gK hz2;have q2:=aw hz2 0;have q3:=aw hz2 1;have Z2:=aa hz2;have kk:=aa (ll (F2.out.cells _ _ _ _ qH.out (by decide)) ((B2.out.cell (p:=⟨bk,o+node*7+4,none⟩) eG).trans e4) (F2.out.cells _ _ _ _ qe.out (by decide)));clear tb mq BD hz2))
 ·have HQ:=aa (YL (B:=B) bX (st2:=st2) (nv:=.slice (some ⟨bk,o,none⟩) T.length c) (N:=T.length) (b:=b) (ub:=ub) (ob:=ob) (known:=false) (k:=k) (i:=i) B2.out dM.out F2.out mi s9 (fun h=>absurd h (by decide)))
  generalize w2.alloc (.cells #[.int .i64 k,.int .i64 i] 57)=W5 at HQ ⊢;generalize w2.heap.size=g at HQ ⊢;clear B2 F2 R2 y7 dM qe qH eF kk e0 e4 x0 x1 x2 x3;have y0:=gJ HQ.out.use;have y1:=gK HQ.out.use;have OO:=aa (HT.out.below HQ.out.below);have OP:=aa (ab (HQ.out.fr.cells _ _ _ _ TL.out (by decide)) 0)
  go_wp2_with fail
  refine(FK W5).mono ?_;rintro e w6 ⟨rfl,rfl⟩;go_wp2_with fail
  refine(ez b node _ _ _ OO.out OP.out HX.out).mono ?_;rintro e w7 ⟨v,rfl,⟨g1,rfl⟩,h1,h2⟩;have H1:=aa h1;have H2:=aa h2;clear h1 h2;go_wp2_with fail
  go_ret
  exact iN HQ.out.below (aK bX (aK (ah _) HQ.out.below.size)) H2.out H1.out
 ·have HQ:=aa (YM (B:=B) bX mH (st2:=st2) (nv:=.slice (some ⟨bk,o,none⟩) T.length c) (N:=T.length) (b:=b) (ob:=ob) (known:=false) (k:=k) (i:=i) B2.out dM.out F2.out mi s9 (fun h=>absurd h (by decide)) Z2.out)
  generalize (w2.setCell ⟨W1.heap.size,0,none⟩ (.int .i64 k)).setCell ⟨W1.heap.size,1,none⟩ (.int .i64 i)=W5 at HQ ⊢;generalize W1.heap.size=g at HQ ⊢;clear q0 q1 q2 q3 Z2;clear B2 F2 R2 y7 dM qe qH eF kk e0 e4 x0 x1 x2 x3;have y0:=gJ HQ.out.use;have y1:=gK HQ.out.use;have OO:=aa (HT.out.below HQ.out.below);have OP:=aa (ab (HQ.out.fr.cells _ _ _ _ TL.out (by decide)) 0)
  go_wp2_with fail
  refine(FK W5).mono ?_;rintro e w6 ⟨rfl,rfl⟩;go_wp2_with fail
  refine(ez b node _ _ _ OO.out OP.out HX.out).mono ?_;rintro e w7 ⟨v,rfl,⟨g1,rfl⟩,h1,h2⟩;have H1:=aa h1;have H2:=aa h2;clear h1 h2;go_wp2_with fail
  go_ret
  exact iN HQ.out.below (aK bX (aK (ah _) HQ.out.below.size)) H2.out H1.out
theorem Jj {node f:Nat} {s:ByteArray} {line:Int} {st:aG} (h:(st.names.find? fun n=>decide (n.s=s))=none):lY node f s line st=.ok (st.dj node (1,0)):=by
 unfold lY;rw[h]
theorem Jk {node f:Nat} {s:ByteArray} {line:Int} {st:aG} {n:jr} (h:(st.names.find? fun n=>decide (n.s=s))=some n):lY node f s line st=match fm n st.fns.length f st.fns with
  | none=>.error (12,line)
  | some (F,k,i)=>.ok (({ st with fns:=F}:aG).dj node (k,(i:Int))):=by
 unfold lY;rw[h];dsimp only
 unfold fm;by_cases e:n.fn=f
 ·rw[ak e,ak e.symm]
 ·rw[af e,af fun e'=>e e'.symm]
  have:st.fns.set n.fn (cP (st.fn n.fn) n.i)=fT n st.fns:=rfl;rw[this];cases lX n st.fns.length (fT n st.fns) f with
  | none=>rfl
  | some r=>rfl
theorem OQ {T:List Nd} {B:Nat} {nv:Value} {ub ob:Nat} (b node f:Nat) (h:Nd) (loop:Int) (pa la:Option Addr) (lc:Nat) (L:List cE) (st:aG) (w:World) (hT:vY w B nv T) (hw:jO w B b nv T.length st ub ob) (hx:T[node]? = some h) (hl:cU w B (.slice la L.length lc) L) (hn:st.names=mw L) (vJ:Cx f st) (oH:dK st.fns) (Ot:st.fns.length≤100000) (xd:L.length≤100000) (hs:h.s.size≤maxLen) :
  Calls Tryz.prog 54 #[.pointer (some ⟨b,0,none⟩),.int .i64 (node:Int),.agg #[.int .i64 (f:Int),.int .i64 loop,.pointer pa,.slice la L.length lc]] w (gG B b nv T.length ub ob (lY node f h.s h.line st) w):=by
 obtain⟨_,_,_,_,_,bX,_⟩:=hT.nodes;have key :∀W,Below w.heap.size w W→Calls Tryz.prog 109 #[.pointer (some ⟨b,0,none⟩),.string h.s,.agg #[.int .i64 (f:Int),.int .i64 loop,.pointer pa,.slice la L.length lc]] W (BB B b nv T.length ub ob st f h.s W) :=
  fun W hb=>Jg b f h.s loop pa la lc L st W (hw.later hb) (hl.jo (ob:=0) (cJ.bH hb bX) (ah _)) hn vJ oH Ot xd hs
 cases hf:st.names.find? fun n=>decide (n.s=h.s) with
 | none =>
  rw[Jj hf];refine Ji b node f h loop 0 0 pa la lc L st st w hT hw hx fun W hb=>(key W hb).mono ?_
  rintro e w' ⟨h1,h2,h3⟩;rw[hf] at h3;exact⟨h3.1,h1,h2,fun _=>h3.2⟩
 | some n =>
  rw[Jk hf];cases hR:fm n st.fns.length f st.fns with
  | none =>
   refine ON b node f h loop 0 0 pa la lc L st st w hT hw hx fun W hb=>(key W hb).mono ?_
   rintro e w' ⟨h1,h2,h3⟩;rw[hf] at h3;simp only[hR] at h3;exact⟨h3,h1,h2,fun h=>absurd h (by decide)⟩
  | some r =>
   obtain⟨F,kd,j⟩:=r;refine OK b node f h loop kd (j:Int) pa la lc L st { st with fns:=F} w hT hw hx fun W hb=>(key W hb).mono ?_
   rintro e w' ⟨h1,h2,h3⟩;rw[hf] at h3;simp only[hR] at h3;exact⟨h3.1,h1,h2,fun _=>h3.2⟩
theorem OR (x:fw) (s:ByteArray):((J0 x).2.2 s).isSome=(bZ x.kids s).isSome:=by
 show(fy x.kids x.rep x.kids.length s).isSome=_
 unfold fy;rw[Br];cases bZ x.kids s<;>rfl
theorem vo (s:ByteArray) (l:List fw):(l.map J0).find? (fun x=>(x.2.2 s).isSome)=(l.find? fun x=>(bZ x.kids s).isSome).map J0:=by
 rw[List.find?_map];congr 1
 congr 1
 funext x
 exact OR x s
theorem BE (l:List fw):Ou (l.map J0):=by
 intro x hx s v hv;obtain⟨y,_,rfl⟩:=jd.1 hx;replace hv:fy y.kids y.rep y.kids.length s=some v:=hv;unfold fy at hv;cases e:nO y.kids y.rep y.kids.length s with
 | none=>rw[e] at hv;cases hv
 | some p =>
  rw[e] at hv;injection hv with hv;exact⟨_,_,hv.symm⟩
theorem xF {node f:Nat} {s:ByteArray} {line:Int} {st:aG} (h:((dw f st.frames).map J0).find? (fun x=>(x.2.2 s).isSome)=none):db node f s line st st.frames=.error (8,line):=by
 rw[vo] at h;rw[oh,Option.map_eq_none_iff.1 h]
theorem xG {node f:Nat} {s:ByteArray} {line a d:Int} {st:aG} {x:Nat×Nat×(ByteArray→Option Value)} (h:((dw f st.frames).map J0).find? (fun x=>(x.2.2 s).isSome)=some x) (hx:x.2.2 s=some (.agg #[.int .i64 a,.int .i64 d])):db node f s line st st.frames=if (x.1:Int)<d then .error (10,line) else .ok (st.dj node (4,a)):=by
 rw[vo,Option.map_eq_some_iff] at h;obtain⟨y,hy,rfl⟩:=h;rw[oh,hy];replace hx:fy y.kids y.rep y.kids.length s=some (.agg #[.int .i64 a,.int .i64 d]):=hx;unfold fy at hx;rw[Br] at hx;dsimp only
 cases e:bZ y.kids s with
 | none=>rw[e] at hx;cases hx
 | some j =>
  rw[e] at hx;dsimp only[Option.map] at hx
  injection hx with hx;injection hx with hx;have hx1:[Value.int .i64 ((y.kids.getD j (.mk 0 ⟨0,0,0,0,⟨#[]⟩,[],[]⟩ [])).loc:Int),.int .i64 (rP y.kids y.rep j:Int)]=[.int .i64 a,.int .i64 d]:=ax Array.toList hx;injection hx1 with e1 e2;injection e2 with e2 _;injection e1 with _ e1;injection e2 with _ e2;subst e1 e2;obtain⟨z,hz,hl,_⟩:=vg e;have hz2:qU z=true:=by
   unfold mr at hl;unfold qU;simp only[cX] at hl;exact hl.1
  dsimp only
  rw[Ty hz hz2];show(if decide (gS y.kids (y.at_+1)<rP y.kids y.rep j)=true then _ else _)=if ((gS y.kids (y.at_+1):Nat):Int)<_ then _ else _
  by_cases h1:gS y.kids (y.at_+1)<rP y.kids y.rep j
  ·rw[ak (bM h1),ak (by omega)]
  ·rw[af (by rw[bL h1];simp),af (by omega)]
structure JQ (w:World) (s:ByteArray) (fs:List (Nat×Nat×(ByteArray→Option Value))) (pa:Option Addr) (a d:Int) (W:World) (g:Nat):Prop where
 below:Below w.heap.size w W
 fnd:gm W s fs (.pointer pa) (.agg #[.int .i64 a,.int .i64 d])
 c0:W.cell? ⟨g,0,none⟩=some (.int .i64 a)
 c1:W.cell? ⟨g,1,none⟩=some (.int .i64 d)
 new:w.heap.size≤g
 lt:g<W.heap.size
theorem gm.later {W W':World} {s:ByteArray} {fs:List (Nat×Nat×(ByteArray→Option Value))} {pv xC:Value} (h:gm W s fs pv xC) (hb:Below W.heap.size W W'):gm W' s fs pv xC:=by
 unfold gm at h ⊢;split
 ·rename_i e
  rw[e] at h;exact h
 ·rename_i x e
  rw[e] at h;obtain⟨k,h1,h2,h3,h4⟩:=h;exact⟨k,h1,h2,(hb.cell (p:=⟨k,2,none⟩) h4).trans h3,cy h4 hb.size⟩
theorem gm.far {W W':World} {s:ByteArray} {fs:List (Nat×Nat×(ByteArray→Option Value))} {pv xC:Value} {n:Nat} (h:gm W s fs pv xC) (hn :∀k,pv=.pointer (some ⟨k,0,none⟩)→k<n) (hsz:W.heap.size≤W'.heap.size) (hb :∀k,k<n→W'.heap[k]? = W.heap[k]?):gm W' s fs pv xC:=by
 unfold gm at h ⊢;split
 ·rename_i e
  rw[e] at h;exact h
 ·rename_i x e
  rw[e] at h;obtain⟨k,h1,h2,h3,h4⟩:=h;exact⟨k,h1,h2,(World.cell?_of_block (a:=⟨k,2,none⟩) (hb k (hn k h1))).trans h3,cy h4 hsz⟩
theorem adj {w W1 w2:World} {s:ByteArray} {fs:List (Nat×Nat×(ByteArray→Option Value))} {pa:Option Addr} {a d:Int} (b1:Below w.heap.size w W1) (b2:Below W1.heap.size W1 w2) (hf:gm w2 s fs (.pointer pa) (.agg #[.int .i64 a,.int .i64 d])) (hle:w.heap.size≤W1.heap.size):JQ w s fs pa a d (w2.alloc (.cells #[.int .i64 a,.int .i64 d] 199)) w2.heap.size :=
 ⟨(b1.trans (b2.mono hle)).alloc (aK hle b2.size) _,hf.later ((Below.refl _ _).alloc (ah _) _),ab (heap_alloc_new _ _) 0,ab (heap_alloc_new _ _) 1,aK hle b2.size,by rw[ao];omega⟩
theorem adk {w W1 w2:World} {s:ByteArray} {fs:List (Nat×Nat×(ByteArray→Option Value))} {pa:Option Addr} {a d x y:Int} (b1:Below w.heap.size w W1) (b2:Below W1.heap.size W1 w2) (hf:gm w2 s fs (.pointer pa) (.agg #[.int .i64 a,.int .i64 d])) (hn :∀k,Value.pointer pa=.pointer (some ⟨k,0,none⟩)→k<W1.heap.size) (hle:w.heap.size≤W1.heap.size) (hz:w2.heap[W1.heap.size]? = some (.cells #[.int .i64 x,.int .i64 y] 199 (0,0))):JQ w s fs pa a d ((w2.setCell ⟨W1.heap.size,0,none⟩ (.int .i64 a)).setCell ⟨W1.heap.size,1,none⟩ (.int .i64 d)) W1.heap.size :=
 ⟨((b1.trans (b2.mono hle)).setCell (p:=⟨W1.heap.size,0,none⟩) hle _).setCell (p:=⟨W1.heap.size,1,none⟩) hle _,hf.far hn (by rw[nP];exact ah _) (fun k hk=>qD w2 W1.heap.size _ _ k (by omega)),ab (yW hz _ _) 0,ab (yW hz _ _) 1,hle,by rw[nP];exact(aI.1 hz).1⟩
theorem gm.lt {W:World} {s:ByteArray} {fs:List (Nat×Nat×(ByteArray→Option Value))} {pa:Option Addr} {xC:Value} (h:gm W s fs (.pointer pa) xC) :∀k,Value.pointer pa=.pointer (some ⟨k,0,none⟩)→k<W.heap.size:=by
 intro k hk;unfold gm at h;split at h
 ·rw[hk] at h;cases h.1
 ·obtain⟨k',h1,_,_,h4⟩:=h
  rw[hk] at h1;injection h1 with h1;injection h1 with h1;injection h1 with h1;omega
theorem gm.old {W:World} {s:ByteArray} {fs:List (Nat×Nat×(ByteArray→Option Value))} {pa:Option Addr} {xC:Value} {x y:Value} (h:gm (W.alloc (.cells #[x,y] 199)).drew s fs (.pointer pa) xC) :∀k,Value.pointer pa=.pointer (some ⟨k,0,none⟩)→k<W.heap.size:=by
 intro k hk;have h1:=h.lt k hk;replace h1:k<(W.alloc (.cells #[x,y] 199)).heap.size:=h1;rw[ao] at h1;by_cases e:k=W.heap.size
 ·exfalso
  subst e;unfold gm at h;split at h
  ·rw[hk] at h;cases h.1
  ·obtain⟨k',h2,_,h3,_⟩:=h
   rw[hk] at h2;injection h2 with h2;injection h2 with h2;injection h2 with h2;subst h2;have h4:=ab (heap_alloc_new W (.cells #[x,y] 199)) 2;replace h3:(W.alloc (.cells #[x,y] 199)).cell? ⟨W.heap.size,2,none⟩=_:=h3;rw[h4] at h3;cases h3
 ·omega
theorem iD {a w:World} (h:Below a.drew.heap.size a.drew w):Below a.heap.size a w:=⟨h.os,h.tape,h.output,h.size,h.block⟩
theorem gm.no {W:World} {s:ByteArray} {fs:List (Nat×Nat×(ByteArray→Option Value))} {pa:Option Addr} {xC:Value} (h:gm W s fs (.pointer pa) xC) (e:fs.find? (fun x=>(x.2.2 s).isSome)=none):pa=none:=by
 unfold gm at h;rw[e] at h;have:=h.1;injection this
theorem gm.yes {W:World} {s:ByteArray} {fs:List (Nat×Nat×(ByteArray→Option Value))} {pa:Option Addr} {xC:Value} {x:Nat×Nat×(ByteArray→Option Value)} (h:gm W s fs (.pointer pa) xC) (e:fs.find? (fun x=>(x.2.2 s).isSome)=some x) :∃k,pa=some ⟨k,0,none⟩∧x.2.2 s=some xC∧W.cell? ⟨k,2,none⟩=some (.int .i64 (x.1:Int))∧k<W.heap.size:=by
 unfold gm at h;rw[e] at h;obtain⟨k,h1,h2⟩:=h;injection h1 with h1;exact⟨k,h1,h2⟩
theorem gm.OS {W:World} {s:ByteArray} {fs:List (Nat×Nat×(ByteArray→Option Value))} {pv xC:Value} (h:gm W.drew s fs pv xC):gm W s fs pv xC:=h
theorem BG {W w2:World} {b bk j p N f c o:Nat} {s:ByteArray} {loop:Int} {pa la:Option Addr} {ln lc:Nat} (h:W.cell? ⟨b,0,none⟩=some (.slice (some ⟨bk,o,none⟩) N c)∧W.cell? ⟨bk,j,none⟩=some (.string s)∧W.cell? ⟨p,0,none⟩=some (.int .i64 (f:Int))∧W.cell? ⟨p,1,none⟩=some (.int .i64 loop)∧W.cell? ⟨p,2,none⟩=some (.pointer pa)∧W.cell? ⟨p,3,none⟩=some (.slice la ln lc)) (hb:b<W.heap.size) (hk:bk<W.heap.size) (hp:p<W.heap.size) (hB:Below W.heap.size W w2) :
  w2.cell? ⟨b,0,none⟩=some (.slice (some ⟨bk,o,none⟩) N c)∧w2.cell? ⟨bk,j,none⟩=some (.string s)∧w2.cell? ⟨p,0,none⟩=some (.int .i64 (f:Int))∧w2.cell? ⟨p,1,none⟩=some (.int .i64 loop)∧w2.cell? ⟨p,2,none⟩=some (.pointer pa)∧w2.cell? ⟨p,3,none⟩=some (.slice la ln lc) :=
 ⟨(hB.cell (p:=⟨b,0,none⟩) hb).trans h.1,(hB.cell (p:=⟨bk,j,none⟩) hk).trans h.2.1,(hB.cell (p:=⟨p,0,none⟩) hp).trans h.2.2.1,(hB.cell (p:=⟨p,1,none⟩) hp).trans h.2.2.2.1,(hB.cell (p:=⟨p,2,none⟩) hp).trans h.2.2.2.2.1,(hB.cell (p:=⟨p,3,none⟩) hp).trans h.2.2.2.2.2⟩
theorem OT {T:List Nd} {B:Nat} {nv:Value} {ub ob:Nat} (b node f:Nat) (h:Nd) (loop:Int) (pa la:Option Addr) (lc ln:Nat) (ms:List Nat) (st:aG) (w:World) (hT:vY w B nv T) (hw:jO w B b nv T.length st ub ob) (hx:T[node]? = some h) (hc:oY w B (dw f st.frames) ms (.pointer pa)) (hs:h.s.size≤maxLen) :
  Calls Tryz.prog 59 #[.pointer (some ⟨b,0,none⟩),.int .i64 (node:Int),.agg #[.int .i64 (f:Int),.int .i64 loop,.pointer pa,.slice la ln lc]] w (gG B b nv T.length ub ob (db node f h.s h.line st st.frames) w):=by
 obtain⟨bk,o,c,rfl,eG,bX,dG⟩:=hT.nodes;obtain⟨zx,zy,fE,_,_⟩:=dG node h hx;have jB:node<T.length:=(aL.1 hx).1;have pN:=hT.few;obtain⟨fv,FL,hw⟩:=hw;obtain⟨hbl,mH,sV⟩:=hw.mL;have HW:=aa hw;have hb4:=hw.blk;have d0:=ab hb4 0;replace d0:_=some (Value.slice (some ⟨bk,o,none⟩) T.length c):=d0;have d4:=TJ fE;have gT:bk<w.heap.size:=by omega
 have HT:=aa hT;have HX:=aa hx;obtain⟨fs,Ct⟩ :∃fs,fs=(dw f st.frames).map J0:=⟨_,rfl⟩;have Vt:=aa Ct;replace hc:bW w B fs ms (.pointer pa):=Ct▸hc;have TM:Ou fs:=Ct▸BE _;have y7:Hid (∀W,Below w.heap.size w W→Calls Tryz.prog 116 #[.pointer pa,.string h.s] W fun e w'=>∃TN a d,e=.returned (.tuple #[.pointer TN,.agg #[.int .i64 a,.int .i64 d]])∧gm W h.s fs (.pointer TN) (.agg #[.int .i64 a,.int .i64 d])∧Below W.heap.size W w'):=aa fun W hW=>Bt fs ms _ h.s W (hc.later hW) hs TM
 clear hw hT hx fE dG hb4 hc TM Ct;go_enter Tryz.func59,Tryz.ntmps59
 go_wp2_with fail
 have dM:=aa ((Below.refl w.heap.size w).alloc (ah _) (.cells #[.int .i64 (f:Int),.int .i64 loop,.pointer pa,.slice la ln lc] 92));have gr:=heap_alloc_new w (.cells #[.int .i64 (f:Int),.int .i64 loop,.pointer pa,.slice la ln lc] 92);have x0:=ab gr 0;have x1:=ab gr 1;have x2:=ab gr 2;have x3:=ab gr 3;replace x0:_=some (Value.int .i64 (f:Int)):=x0;replace x1:_=some (Value.int .i64 loop):=x1;replace x2:_=some (Value.pointer pa):=x2;replace x3:_=some (Value.slice la ln lc):=x3;have e0:=(dM.out.cell (p:=⟨b,0,none⟩) hbl).trans d0;have e4:=(dM.out.cell (p:=⟨bk,o+node*7+4,none⟩) gT).trans d4;have hs1:(w.alloc (.cells #[.int .i64 (f:Int),.int .i64 loop,.pointer pa,.slice la ln lc] 92)).heap.size=w.heap.size+1:=ao _ _;generalize w.alloc (.cells #[.int .i64 (f:Int),.int .i64 loop,.pointer pa,.slice la ln lc] 92)=W1 at *;have eF:=aa hs1;clear d0 d4 gr hs1;have kk:Hid (W1.cell? ⟨b,0,none⟩=some (.slice (some ⟨bk,o,none⟩) T.length c)∧W1.cell? ⟨bk,o+node*7+4,none⟩=some (.string h.s)∧W1.cell? ⟨w.heap.size,0,none⟩=some (.int .i64 (f:Int))∧W1.cell? ⟨w.heap.size,1,none⟩=some (.int .i64 loop)∧W1.cell? ⟨w.heap.size,2,none⟩=some (.pointer pa)∧W1.cell? ⟨w.heap.size,3,none⟩=some (.slice la ln lc)):=aa ⟨e0,e4,x0,x1,x2,x3⟩;have hb1:b<W1.heap.size:=(by have:=eF.out;omega)
 have iT:bk<W1.heap.size:=(by have:=eF.out;omega)
 have dW:w.heap.size<W1.heap.size:=(by have:=eF.out;omega)
 have mi:w.heap.size≤W1.heap.size:=fg dW;have Dh:b≠W1.heap.size:=jy hb1;have o0:bk≠W1.heap.size:=jy iT;have YN:w.heap.size≠W1.heap.size:=jy dW;have s9:B≤W1.heap.size:=aK bX mi;go_region_held3 (fun w'=>w'.cell? ⟨b,0,none⟩=some (.slice (some ⟨bk,o,none⟩) T.length c)∧w'.cell? ⟨bk,o+node*7+4,none⟩=some (.string h.s)∧w'.cell? ⟨w.heap.size,0,none⟩=some (.int .i64 (f:Int))∧w'.cell? ⟨w.heap.size,1,none⟩=some (.int .i64 loop)∧w'.cell? ⟨w.heap.size,2,none⟩=some (.pointer pa)∧w'.cell? ⟨w.heap.size,3,none⟩=some (.slice la ln lc))
  (first|exact kk.out|exact qF kk.out hb1 iT dW _|exact yZ kk.out Dh o0 YN _ _)
  (first
   | (go_at_call 116;refine(y7.out W1.drew dM.out.drew).mono ?_;rintro e w2 ⟨TN,a,d,rfl,mq,tb⟩;have B2:=aa (dk tb);have F2:=aa (mq.OS.later (dk tb));have kk:=aa (BG kk.out hb1 iT dW (dk tb));have hb1:b<w2.heap.size:=cy hb1 B2.out.size;have iT:bk<w2.heap.size:=cy iT B2.out.size;have dW:w.heap.size<w2.heap.size:=cy dW B2.out.size;clear tb mq)
   | (go_at_call 116;refine(y7.out (W1.alloc (.cells #[.int .i64 0,.int .i64 0] 199)).drew (dM.out.alloc mi _).drew).mono ?_;rintro e w2 ⟨TN,a,d,rfl,mq,tb⟩;have FM:=iD tb;have B2:=aa (((Below.refl _ W1).alloc (ah _) (.cells #[.int .i64 0,.int .i64 0] 199)).trans (FM.mono (by rw[ao];omega)));have F2:=aa (mq.OS.later FM);have N2:=aa mq.old;have hz2:=(FM.block W1.heap.size (by rw[ao];omega)).trans (heap_alloc_new W1 (.cells #[.int .i64 0,.int .i64 0] 199));have q0:=gJ hz2;have q1:=gK hz2;have q2:=aw hz2 0;have q3:=aw hz2 1;have Z2:=aa hz2;have kk:=aa (BG kk.out hb1 iT dW B2.out);clear tb mq hz2 FM))
 ·have HJ:=aa (adj dM.out B2.out F2.out mi)
  generalize w2.alloc (.cells #[.int .i64 a,.int .i64 d] 199)=W5 at HJ ⊢;generalize w2.heap.size=g at HJ ⊢;clear B2 F2 y7 dM eF kk e0 e4 x0 x1 x2 x3;have j0:=HJ.out.c0;have j1:=HJ.out.c1;have ix:=HW.out.later HJ.out.below;obtain⟨vR,hl2,JW⟩:=ix.mL;have ri:=HJ.out.lt;have OO:=aa (HT.out.below (HJ.out.below.mono bX));have OP:=aa (ab ix.blk 0);have uJ:B≤W5.heap.size:=aK bX HJ.out.below.size;have d2:W5.cell? ⟨b,2,none⟩=some (.slice (some ⟨ub,0,none⟩) T.length T.length):=ab ix.blk 2;obtain⟨u0,v0⟩:=cZ ix.uses (j:=node*2) (by omega)
  obtain⟨u1,v1⟩:=cZ ix.uses (j:=node*2+1) (by omega)
  have qI:=aa ix;clear ix;cases qG:fs.find? (fun x=>(x.2.2 h.s).isSome) with
  | none =>
   have hp:=HJ.out.fnd.no qG;subst hp;have HE:=aa (xF (node:=node) (line:=h.line) (Vt.out▸qG));clear qG d2 u0 v0 u1 v1;go_wp2_with fail
   refine(ez b node _ _ _ OO.out OP.out HX.out).mono ?_;rintro e w6 ⟨v,rfl,⟨g2,rfl⟩,h1,h2⟩;have H1:=aa h1;have H2:=aa h2;clear h1 h2;go_wp2_with fail
   go_ret
   rw[HE.out];exact iN (HJ.out.below.mono bX) uJ H2.out H1.out
  | some x =>
   obtain⟨kb,hp,Z8,hk2,wQ⟩:=HJ.out.fnd.yes qG;subst hp;have HE:=aa (xG (node:=node) (line:=h.line) (Vt.out▸qG) Z8);clear qG Z8;by_cases hlt:(x.1:Int)<d
   ·have g1:decide ((x.1:Int)<d)=true:=bM hlt
    have HL:=aa hlt;clear hlt d2 u0 v0 u1 v1;go_wp2_with fail
    go_region
    go_wp2_with fail
    refine(ez b node _ _ _ (OO.out.below (Below.refl _ _).drew) OP.out HX.out).mono ?_;rintro e w6 ⟨v,rfl,⟨g2,rfl⟩,h1,h2⟩;have H1:=aa h1;have H2:=aa h2;clear h1 h2;go_wp2_with fail
    go_ret
    rw[HE.out,ak HL.out];exact iN (HJ.out.below.mono bX).drew uJ H2.out H1.out
   ·have g1:decide ((x.1:Int)<d)=false:=bL hlt
    have HL:=aa hlt;clear hlt;go_wp2_with fail
    go_region
    go_wp2_with fail
    go_region
    go_wp2_with fail
    go_ret
    rw[HE.out,af (Int.not_lt.2 HL.out)];exact⟨(((HJ.out.below.mono bX).drew.setCell (p:=⟨ub,node*2,none⟩) qI.out.jf.1 _).setCell (p:=⟨ub,node*2+1,none⟩) qI.out.jf.1 _).drew,rfl,⟨_,_,(qI.out.drew.use node (4,a)).drew⟩,((Fr.ae HJ.out.below).drew.trans ((mc qI.out.drew node _ _).mono (by decide))).drew⟩
 ·have HJ:=aa (adk dM.out B2.out F2.out N2.out mi Z2.out)
  generalize (w2.setCell ⟨W1.heap.size,0,none⟩ (.int .i64 a)).setCell ⟨W1.heap.size,1,none⟩ (.int .i64 d)=W5 at HJ ⊢;generalize W1.heap.size=g at HJ ⊢;clear q0 q1 q2 q3 Z2 N2 B2 F2 y7 dM eF kk e0 e4 x0 x1 x2 x3;have j0:=HJ.out.c0;have j1:=HJ.out.c1;have ix:=HW.out.later HJ.out.below;obtain⟨vR,hl2,JW⟩:=ix.mL;have ri:=HJ.out.lt;have OO:=aa (HT.out.below (HJ.out.below.mono bX));have OP:=aa (ab ix.blk 0);have uJ:B≤W5.heap.size:=aK bX HJ.out.below.size;have d2:W5.cell? ⟨b,2,none⟩=some (.slice (some ⟨ub,0,none⟩) T.length T.length):=ab ix.blk 2;obtain⟨u0,v0⟩:=cZ ix.uses (j:=node*2) (by omega)
  obtain⟨u1,v1⟩:=cZ ix.uses (j:=node*2+1) (by omega)
  have qI:=aa ix;clear ix;cases qG:fs.find? (fun x=>(x.2.2 h.s).isSome) with
  | none =>
   have hp:=HJ.out.fnd.no qG;subst hp;have HE:=aa (xF (node:=node) (line:=h.line) (Vt.out▸qG));clear qG d2 u0 v0 u1 v1;go_wp2_with fail
   refine(ez b node _ _ _ OO.out OP.out HX.out).mono ?_;rintro e w6 ⟨v,rfl,⟨g2,rfl⟩,h1,h2⟩;have H1:=aa h1;have H2:=aa h2;clear h1 h2;go_wp2_with fail
   go_ret
   rw[HE.out];exact iN (HJ.out.below.mono bX) uJ H2.out H1.out
  | some x =>
   obtain⟨kb,hp,Z8,hk2,wQ⟩:=HJ.out.fnd.yes qG;subst hp;have HE:=aa (xG (node:=node) (line:=h.line) (Vt.out▸qG) Z8);clear qG Z8;by_cases hlt:(x.1:Int)<d
   ·have g1:decide ((x.1:Int)<d)=true:=bM hlt
    have HL:=aa hlt;clear hlt d2 u0 v0 u1 v1;go_wp2_with fail
    go_region
    go_wp2_with fail
    refine(ez b node _ _ _ (OO.out.below (Below.refl _ _).drew) OP.out HX.out).mono ?_;rintro e w6 ⟨v,rfl,⟨g2,rfl⟩,h1,h2⟩;have H1:=aa h1;have H2:=aa h2;clear h1 h2;go_wp2_with fail
    go_ret
    rw[HE.out,ak HL.out];exact iN (HJ.out.below.mono bX).drew uJ H2.out H1.out
   ·have g1:decide ((x.1:Int)<d)=false:=bL hlt
    have HL:=aa hlt;clear hlt;go_wp2_with fail
    go_region
    go_wp2_with fail
    go_region
    go_wp2_with fail
    go_ret
    rw[HE.out,af (Int.not_lt.2 HL.out)];exact⟨(((HJ.out.below.mono bX).drew.setCell (p:=⟨ub,node*2,none⟩) qI.out.jf.1 _).setCell (p:=⟨ub,node*2+1,none⟩) qI.out.jf.1 _).drew,rfl,⟨_,_,(qI.out.drew.use node (4,a)).drew⟩,((Fr.ae HJ.out.below).drew.trans ((mc qI.out.drew node _ _).mono (by decide))).drew⟩
theorem Jl (n:jr) (iC:List jr) (s:ByteArray):jT (n::iC) s=if s=n.s then some (.int .i64 (n.i:Int)) else jT iC s:=by
 unfold jT;rw[kI];by_cases e:s=n.s
 ·subst e
  simp
 ·rw[af e,bL fun h=>e h.symm]
theorem eR {W W':World} {m:Nat} (hg:W.grownBy W' (some m)) (hm :∃es c,W.heap[m]? = some (.map es c)) :∀(k:Nat) c (e:TypeId) fz,W.heap[k]? = some (.cells c e fz)→W'.heap[k]? = some (.cells c e fz):=fun k c e fz hk=>by
 obtain⟨es,c',hb⟩:=hm;refine(hg.block k (aI.1 hk).1 fun e'=>?_).trans hk
 injection e' with e';subst e';rw[hb] at hk;cases hk
theorem im {W W':World} {B e s n:Nat} {v:Value} {xs:List Value} (hk :∀(k:Nat) c (e:TypeId) fz,W.heap[k]? = some (.cells c e fz)→W'.heap[k]? = some (.cells c e fz)) (hu:W.ownsRow B e s v n xs):W'.ownsRow B e s v n xs:=by
 refine⟨hu.1,?_⟩;rcases hu.2 with hn | ⟨g,cap,cur,rfl,hB,hg,rest⟩
 ·exact .inl hn
 ·exact .inr ⟨g,cap,cur,rfl,hB,hk g _ _ _ hg,rest⟩
theorem eQ.keep {W W':World} {B b:Nat} {nv:Value} {N:Nat} {st:aG} {fv:Value} {ub ob:Nat} {L:List mF} (h:eQ W B b nv N st fv ub ob L) (hk :∀(k:Nat) c (e:TypeId) fz,W.heap[k]? = some (.cells c e fz)→W'.heap[k]? = some (.cells c e fz)):eQ W' B b nv N st fv ub ob L :=
 ⟨hk b _ _ _ h.blk,⟨im hk h.fns.row,fun t ht=>im hk (h.fns.vars t ht),fun t ht=>im hk (h.fns.bz t ht),h.fns.pG,h.fns.qA⟩,h.are,im hk h.uses,im hk h.vZ,h.pos⟩
theorem eQ.names {W:World} {B b:Nat} {nv:Value} {N:Nat} {st:aG} {fv:Value} {ub ob:Nat} {L:List mF} (h:eQ W B b nv N st fv ub ob L) (ns:List jr):eQ W B b nv N { st with names:=ns} fv ub ob L:=h.on rfl rfl rfl
theorem TO {ops:Array Oper} {rest:List Oper} {o:Oper} {a:Act} {Q:Exit→Act→World→Prop} (w:World) (n:jn) (hgd:o.guard=none) (sl y:Operand)
  (ho:o.op=.call { callee:=.builtin .append,args:=#[sl,y],argTypes:=#[49,49]}) (B:Nat) (v:Value) (ns:List jn) (hs:a.eval sl=v) (hown:w.ownsRow B 61 3 v ns.length (ns.flatMap s6)) (g:Nat) (hg:g=w.heap.size) (hy:a.eval y=.slice (some ⟨g,0,none⟩) 1 1)
  (hlen:ns.length≤1000000) (hB:B≤w.heap.size)
  (h :∀g' c' w',w'.ownsRow B 61 3 (.slice (some ⟨g',0,none⟩) (ns.length+1) c') (ns++[n]).length ((ns++[n]).flatMap s6)→qT v.ownBlock w w'→Below B w w'→(v.ownBlock=some g'∨w.heap.size≤g')→wpList Tryz.prog ops Q rest (a.put o.dst (.slice (some ⟨g',0,none⟩) (ns.length+1) c')) w') :
  wpList Tryz.prog ops Q (o::rest) a (w.alloc (.cells (s6 n).toArray 61)):=by
 obtain⟨i0,ng,hz0,hz1,hz2⟩:=info_parts I3;refine Yw w (s6 n) hgd sl y 49 61 i0 _ 3 32 ho Tryz.underlying49 ng hz0 hz1 hz2 rfl (by omega) (by omega) B v ns.length _ hs hown g hg hy rfl (by intro u hu;simp[s6] at hu;rcases hu with rfl|rfl|rfl<;>rfl) hlen hB ?_
 intro g' c' w' r1 r2 r3 r4;refine h g' c' w' ?_ r2 r3 r4;rw[bV,mM,pQ,D9];exact r1
structure adl (w wr:World) (B b:Nat) (nv:Value) (N:Nat) (st s1:aG) (g n c ub ob:Nat) (L1:List mF) (lv:Value) (nl m f:Nat) (iC a:List jr):Prop where
 rs:eQ wr B b nv N s1 (.slice (some ⟨g,0,none⟩) L1.length c) ub ob L1
 len:L1.length=n
 jo:cJ B ob lv nl (some m) w wr
 map:dA Tryz.prog 9 wr m (a++iC).length (jT (a++iC))
 own :∀x∈a,x.fn=f
 names:s1.names=a++st.names
 few:dK s1.fns
theorem kh {T:List Nd} {B:Nat} {nv:Value} {ub ob:Nat} (b node f:Nat) (h:Nd) (loop:Int) (pa la:Option Addr) (lc:Nat) (l:cE) (r:List cE) (st:aG) (w:World) (hT:vY w B nv T) (hw:jO w B b nv T.length st ub ob) (hx:T[node]? = some h) (hf:f<st.fns.length) (hl:cU w B (.slice la (l::r).length lc) (l::r)) (hlf:l.fn=f) (hrl:(l::r).length≤100000) (oH:dK st.fns) (rS:l.iC.length≤100000) (hsz :∀s∈h.names,s.size≤65536) :
  Calls Tryz.prog 113 #[.pointer (some ⟨b,0,none⟩),.int .i64 (node:Int),.agg #[.int .i64 (f:Int),.int .i64 loop,.pointer pa,.slice la (l::r).length lc]] w (aq B b nv T.length ub ob (.slice la (l::r).length lc) (l::r) st (bw node f h.line h.names st) w):=by
 obtain⟨fv,FL,hw⟩:=hw;obtain⟨⟨t1,tv,tu⟩,ht⟩:=hw.Bo hf;obtain⟨g,c,rfl,Yy,ri,sX⟩:=hw.fns.form ht;have hfn:=(hw.sJ ht).2;obtain⟨bk,o,tc,rfl,eG,bX,hn⟩:=hT.nodes;have jB:node<T.length:=(aL.1 hx).1;have xd:=hw.len;have Ot:f<FL.length:=by omega
 have pN:=hT.few;have Qs:h.names.length≤20000:=(hT.small h (ba hx)).2;obtain⟨hbl,mH,sV⟩:=hw.mL;obtain⟨zx,zy,fE,hst,_⟩:=hn node h hx;have c5:=fE.c5;obtain⟨NA,nc,rfl,hnc,_⟩:=id hst;obtain⟨VA,vc,Vv,YD,_⟩:=dE (hw.fns.vars _ (ba ht));simp only at Vv YD;subst Vv;have d0:w.cell? ⟨b,0,none⟩=some (.slice (some ⟨bk,o,none⟩) T.length tc):=ab hw.blk 0;have d1:w.cell? ⟨b,1,none⟩=some (.slice (some ⟨g,0,none⟩) FL.length c):=ab hw.blk 1;have d2:w.cell? ⟨b,2,none⟩=some (.slice (some ⟨ub,0,none⟩) T.length T.length):=ab hw.blk 2;have e4:w.cell? ⟨g,f*6+4,none⟩=some (.slice VA t1.vars.length vc):=(sX 4 (by omega)).1
 obtain⟨u0,v0⟩:=cZ hw.uses (j:=node*2) (by omega)
 obtain⟨u1,v1⟩:=cZ hw.uses (j:=node*2+1) (by omega)
 obtain⟨ga,rfl,hgal,m1⟩ :∃ga,la=some ⟨ga,0,none⟩∧ga<w.heap.size∧w.cell? ⟨ga,r.length*2+1,none⟩=some (.map (some l.blk)):=by
  obtain⟨A,cc,he,_,hr⟩:=dE hl.row;injection he with uw _ _;subst uw;rcases hr with h0 | ⟨ga,rfl,_,h2,h3⟩
  ·simp at h0
  ·refine⟨ga,rfl,h2,?_⟩
   rw[h3 (r.length*2+1) (by rw[List.length_cons];omega)]
   have hq:(l::r).reverse[r.length]? = some l:=by simp
   exact e7 yV _ r.length 1 l hq (by omega)
 have hmi:=(hl.maps l (bU ..)).1.isMap;have zq:=(hl.maps l (bU ..)).1;have hmB:=(hl.maps l (bU ..)).2;have ad7:((l::r).length:Int)=(r.length:Int)+1:=by simp
 have rU:bk≠ub:=by have:=hw.jf.1;omega
 have hbu:b≠ub:=fun e=>by
  obtain⟨cs,hcs⟩:=lf hw.uses;rw[←e,hw.blk] at hcs;injection hcs with hcs;injection hcs with _ hcs;exact absurd hcs (by decide)
 have HW:=aa hw;have HT:=aa hT;have HX:=aa hx;have HST:=aa hst;have HFN:=aa hfn;have HL:=aa hl;have HMI:=aa hmi;have HML:=aa zq;have HTF:=aa ht;clear hw hT hx hst hfn ht sX hn fE hl hmi zq xd;go_enter Tryz.func113,Tryz.ntmps113
 go_wp2_with fail
 go_region
 go_wp2_with fail
 go_region
 obtain⟨W2,hW2⟩ :∃W2,W2=(((w.setCell ⟨ub,node*2,none⟩ (.int .i64 2)).setCell ⟨ub,node*2+1,none⟩ (.int .i64 (t1.vars.length:Int))).alloc (.cells #[.int .i64 (f:Int),.int .i64 loop,.pointer pa,.slice (some ⟨ga,0,none⟩) (r.length+1) lc] 92)).drew.drew:=⟨_,rfl⟩;have hR2:=HW.out.use node (2,(t1.vars.length:Int));have hF2:Fr [57] w W2:=by rw[hW2];exact(((mc HW.out node _ _).trans (Fr.alloc _)).drew).drew
 have hB2:Below B w W2:=by rw[hW2];exact(((u9 HW.out node _ _).alloc (by simp;omega) _).drew).drew
 have hR2:eQ W2 B b (.slice (some ⟨bk,o,none⟩) T.length tc) T.length (st.dj node (2,(t1.vars.length:Int))) (.slice (some ⟨g,0,none⟩) FL.length c) ub ob FL:=by rw[hW2];exact((hR2.alloc _).drew).drew
 rw[←hW2];clear hW2 d0 d1 d2 e4 u0 v0 u1 v1 m1;have d0:W2.cell? ⟨b,0,none⟩=some (.slice (some ⟨bk,o,none⟩) T.length tc):=ab hR2.blk 0;have c5:=(hB2.cell (p:=⟨bk,o+node*7+5,none⟩) eG).trans c5;have lV:=aa (cJ.u7 (ob:=ob) (v:=.slice (some ⟨ga,0,none⟩) (r.length+1) lc) (n:=r.length+1) (top:=some l.blk) hF2 (by decide) hB2)
 have HM2:=aa (hF2.map HML.out);have vS:=aa hR2;clear hF2 hB2 hR2;go_wp2_with fail
 obtain⟨R,hR⟩ :∃R,R=bw node f h.line h.names st:=⟨_,rfl⟩;have HR:=aa hR;clear hR d0 c5;go_loopw [50] (fun tk wr=>∃(k:Nat) (s1:aG) (L1:List mF) (a:List jr),tk=.int .i64 (k:Int)∧k≤h.names.length∧adl w wr B b (.slice (some ⟨bk,o,none⟩) T.length tc) T.length st s1 g FL.length c ub ob L1 (.slice (some ⟨ga,0,none⟩) (r.length+1) lc) (r.length+1) l.blk f l.iC a∧a.length=k∧dJ node f h.line (h.names.drop k) s1=R) (fun tk _=>h.names.length-(intOf tk).toNat)
 case atStart =>
  refine⟨0,st.dj node (2,(t1.vars.length:Int)),FL,[],rfl,aR _,⟨vS.out,rfl,lV.out,HM2.out,by simp,rfl,oH⟩,rfl,?_⟩
  rw[HR.out,tL];unfold bw;rw[HFN.out]
 case round =>
  obtain⟨k,s1,L1,a,rfl,hk,hd,hak,hgo⟩:=hrel;have hL1:=hd.len;have adm:f<L1.length:=by omega
  obtain⟨⟨y1,yv,yu⟩,hy⟩ :∃t,L1[f]? = some t:=⟨L1[f],bE adm⟩;obtain⟨g',c',pH,_,hgl1,YO⟩:=hd.rs.fns.form hy;injection pH with pH _ hcc;injection pH with pH;injection pH with pH _ _;subst pH hcc;obtain⟨VA1,vc1,Vv,adn,_⟩:=dE (hd.rs.fns.vars _ (ba hy));simp only at Vv adn;subst Vv;have e4:wr.cell? ⟨g,f*6+4,none⟩=some (.slice VA1 y1.vars.length vc1):=(YO 4 (by omega)).1
  have z4:=(YO 4 (by omega)).2
  have abg:=(hd.rs.sJ hy).2;have ad8:y1.vars.length≤200:=(hd.few f y1 (hd.rs.sJ hy).1).1;have abh:=aa abg;have HD:=aa hd;have UQ:=aa hgo;have HY:=aa hy;clear hd hgo hy abg YO;by_cases hlt:k<h.names.length
  ·obtain⟨s,hsk⟩ :∃s,h.names[k]? = some s:=⟨h.names[k],bE hlt⟩
   have hdr:=eN hsk;have hssz:=hsz s (ba hsk);obtain⟨A',c',he,_,iY⟩:=(HST.out.below HD.out.jo.below);injection he with uw _ he2;subst uw he2;rcases iY with h0 | ⟨sb,so,rfl,YP,hsc⟩
   ·rw[h0] at hlt;exact absurd hlt (jx _)
   have cs:=hsc k s hsk;have uk:=aa hdr;have lo:=aa hlt;clear hsc hsk hdr;by_cases EK:y1.vars.length=200
   ·have g1:((y1.vars.length:Int) == 200)=true:=by rw[EK];rfl
    have HC:=aa (ab HD.out.rs.blk 0);have AR:=aa (HT.out.below HD.out.jo.below);go_wp2_with fail
    refine(ez b node _ _ _ AR.out HC.out HX.out).mono ?_;rintro e w2 ⟨v,rfl,⟨g2,rfl⟩,h1,h2⟩;have H1:=aa h1;have H2:=aa h2;clear h1 h2;go_wp2_with fail
    go_ret
    have hE:bw node f h.line h.names st=.error (11,h.line):=by
     rw[←HR.out,←UQ.out,uk.out,dJ,abh.out,ak (by omega)]
    rw[hE];exact⟨HD.out.jo.below.trans (H2.out.mono (aK bX HD.out.jo.below.size)),_,rfl,H1.out⟩
   ·have g1:((y1.vars.length:Int) == 200)=false:=aE.2 (by omega)
    have hBr:B≤wr.heap.size:=aK bX HD.out.jo.below.size;obtain⟨W7,hrun,hm7,hg7⟩:=HD.out.map.put (t:=236) (e:=3) Tryz.underlying9 Tryz.underlying236 (by rw[bV];unfold maxLen;omega) s (by unfold maxLen;omega) (.int .i64 (y1.vars.length:Int)) rfl
    have kV:=eR hg7 HD.out.map.isMap;have hR7:=HD.out.rs.keep kV;have Vy:=HD.out.jo.trans (cJ.of_map hg7 HD.out.map.isMap hmB hBr);obtain⟨g',c',pH,_,hgl7,YQ⟩:=hR7.fns.form HY.out;injection pH with pH _ hcc;injection pH with pH;injection pH with pH _ _;subst pH hcc;have e47:W7.cell? ⟨g,f*6+4,none⟩=some (.slice VA1 y1.vars.length vc1):=(YQ 4 (by omega)).1
    have z47:=(YQ 4 (by omega)).2
    have hB7:B≤W7.heap.size:=aK hBr hg7.size;have abi:y1.vars.length≤1000000:=by omega
    have TB:f*6+4<L1.length*6:=by omega
    have R7:=aa hR7;have F7:=aa Vy;have M7:=aa hm7;clear YQ hR7 Vy hm7 hg7 kV;go_wp2_with (at_builtin;refine TO W7 ⟨s,node,false⟩ rfl _ _ rfl B (.slice VA1 y1.vars.length vc1) y1.vars rfl (R7.out.fns.vars _ (ba HY.out)) W7.heap.size rfl rfl abi hB7 ?_;intro g8 c8 w8 r8 b8 Vu n8;have RH:=aa (R7.out.Od HY.out b8 r8 (fun k hk=>by injection hk with hk;subst hk;exact n8));have Qy:=aa Vu;have vl:=b8.row R7.out.fns.row (fun k hk e=>ed R7.out.fns.row (R7.out.fns.vars _ (ba HY.out)) (by decide) k hk e);have e43:w8.cell? ⟨g,f*6+4,none⟩=some (.slice VA1 y1.vars.length vc1):=(World.ownsRow.cellAt vl (f*6+4) TB).trans (e7 qy L1 f 4 _ HY.out (by omega));have z43:=World.ownsRow.frozenAt vl (f*6+4);clear r8 b8 Vu n8 vl)
    have HF8:=aa (F7.out.trans (cJ.u7 (ob:=ob) (v:=.slice (some ⟨ga,0,none⟩) (r.length+1) lc) (n:=r.length+1) (top:=some l.blk) RH.out.2 (by decide) (Qy.out.setCell (p:=⟨g,f*6+4,none⟩) Yy _)))
    refine⟨⟨k+1,{ s1.oX f { y1 with vars:=y1.vars++[⟨s,node,false⟩]} with names:=⟨s,f,y1.vars.length⟩::s1.names},L1.set f ({ y1 with vars:=y1.vars++[⟨s,node,false⟩]},.slice (some ⟨g8,0,none⟩) (y1.vars.length+1) c8,yu),⟨s,f,y1.vars.length⟩::a,by go_num,lo.out,⟨?_,by rw[mn];exact hL1,HF8.out,?_,?_,by rw[gU];exact ax _ HD.out.names,?_⟩,by rw[List.length_cons,hak],?_⟩,by have:=lo.out;simp[intOf];omega⟩
    ·rw[mn]
     exact RH.out.1.names _
    ·have h9:=(M7.out.ext (g:=jT (⟨s,f,y1.vars.length⟩::(a++l.iC))) fun x=>(Jl ⟨s,f,y1.vars.length⟩ (a++l.iC) x).symm).mono (m:=(⟨s,f,y1.vars.length⟩::(a++l.iC)).length) (by rw[List.length_cons];exact ah _)
     exact RH.out.2.map h9
    ·intro x hx
     rcases bn.1 hx with rfl|hx
     ·rfl
     ·exact HD.out.own x hx
    ·show dK (s1.fns.set f _)
     exact HD.out.few.set ⟨by rw[bV,mM];omega,(HD.out.few f y1 (HD.out.rs.sJ HY.out).1).2⟩
    ·rw[←UQ.out,uk.out]
     conv=>rhs;rw[dJ,abh.out,af (by show ¬ 200≤y1.vars.length;omega)]
  ·have zr:k=h.names.length:=by omega
   go_wp2_with fail
   go_ret
   have hE:bw node f h.line h.names st=.ok s1:=by
    rw[←HR.out,←UQ.out,zr,wy,dJ]
   rw[hE];exact⟨HD.out.jo.below,rfl,⟨_,_,HD.out.rs⟩,HD.out.jo,a,HD.out.names,(fun e=>by cases e),HL.out.more HD.out.jo (ah _) HD.out.map fun x hx=>(HD.out.own x hx).trans hlf.symm⟩
theorem mj {B:Nat} {a w:World} (h:Below B a w) (n:Nat):Below B a (w.drewN n):=⟨h.os,h.tape,h.output,h.size,h.block⟩
theorem OU {ks:List Lt} {e:Nat} {x:Lt} (hx:ks[e]? = some x) (hl:qU x=true) (h:(ks.drop (e+1)).all qU=true):(ks.drop e).all qU=true:=by
 rw[drop_at hx,rZ,hl,h];rfl
theorem TP {T:List Nd} {B:Nat} {nv:Value} (b:Nat) (kv:Value) (ks:List Lt) (tested:Bool) (fv uv ov:Value) (w:World) (hT:vY w B nv T) (hw:w.heap[b]? = some (.cells #[nv,fv,uv,ov] 87 (0,0))) (hu:gF w B kv (ks.map fun k=>(k.loc:Int))) (oa:Lt.uP T ks) (wQ:ks.length≤20000) :
  Calls Tryz.prog 162 #[.pointer (some ⟨b,0,none⟩),kv,.bool tested] w fun e w'=>e=.returned (.int .i64 ((if tested then ks.length else lk ks:Nat):Int))∧Below w.heap.size w w':=by
 obtain⟨bk,o,c,rfl,eG,bX,hn⟩:=hT.nodes;obtain⟨UA,uc,rfl,J1,hu⟩:=hu;simp only[cN] at J1 hu ⊢;have hbl:b<w.heap.size:=(aI.1 hw).1;have d0:=ab hw 0;replace d0:_=some (Value.slice (some ⟨bk,o,none⟩) T.length c):=d0;have pN:=hT.few;have HN:=aa hn;have HIN:=aa oa;have HU:=aa hu;clear hn hu hT oa hw;cases tested with
 | true =>
  go_enter Tryz.func162,Tryz.ntmps162
  go_wp2_with fail
  go_ret
  exact⟨rfl,Below.refl _ _⟩
 | false =>
  go_enter Tryz.func162,Tryz.ntmps162
  go_wp2_with fail
  go_loopw [7] (fun t wr=>∃e:Nat,t=.int .i64 (e:Int)∧e≤ks.length∧(ks.drop e).all qU=true∧Below w.heap.size w wr) (fun t _=>(intOf t).toNat)
  case atStart=>exact⟨ks.length,rfl,ah _,by simp,Below.refl _ _⟩
  case round =>
   obtain⟨e,rfl,he,hall,hb⟩:=hrel;have y8:=aa hall;have HB:=aa hb;have d0r:=(hb.cell (p:=⟨b,0,none⟩) hbl).trans d0;clear hall hb;cases e with
   | zero =>
    have g1:decide ((0:Int)<((0:Nat):Int))=false:=by decide
    go_wp2_with fail
    go_quiet (fail)
    go_wp2_with fail
    go_ret
    exact⟨by rw[(rO ks).2 y8.out];rfl,mj HB.out _⟩
   | succ e =>
    obtain⟨x,hx⟩ :∃x,ks[e]? = some x:=⟨ks[e],bE (by omega)⟩
    have g1:decide ((0:Int)<((e+1:Nat):Int))=true:=bM (by omega)
    rcases HU.out with h0 | ⟨sb,so,rfl,YP,hsc⟩
    ·exfalso
     rw[pR] at h0;rw[h0] at he;exact absurd he (by simp)
    have cs:wr.cell? ⟨sb,so+e,none⟩=some (.int .i64 (x.loc:Int)):=(HB.out.cell (p:=⟨sb,so+e,none⟩) (by show sb<_;omega)).trans (hsc e _ (by rw[gw,hx];rfl))
    obtain⟨YR,Jm⟩:=uZ HIN.out hx;have hxl:x.loc<T.length:=(aL.1 Jm).1;obtain⟨zx,zy,fE,_,_⟩:=HN.out x.loc x.hd Jm;have ck:=(HB.out.cell (p:=⟨bk,o+x.loc*7,none⟩) (by show bk<_;omega)).trans fE.c0
    have HX:=aa hx;clear hsc hx fE YR Jm;cases hl:qU x with
    | true =>
     have g2:(x.hd.kind == 32)=true:=hl;go_wp2_with fail
     go_quiet (fail)
     go_wp2_with fail
     exact⟨⟨e,rfl,by omega,OU HX.out hl y8.out,mj HB.out _⟩,by simp[intOf]⟩
    | false =>
     have g2:(x.hd.kind == 32)=false:=hl;go_wp2_with fail
     go_quiet (fail)
     go_wp2_with fail
     go_ret
     exact⟨by rw[Tx he y8.out (.inr ⟨x,HX.out,hl⟩)];rfl,mj HB.out _⟩
theorem TQ {fr:List fw} {f:Nat} {ks:List Lt} {rep:Bool} {n c:Nat} {s:ByteArray}:((∃j,bZ ks s=some j∧j<n)∨∃x∈fr,x.loop=false∧x.fn=f∧(bZ x.kids s).isSome)↔(((c,n,fy ks rep n)::(dw f fr).map J0).find? fun x=>(x.2.2 s).isSome).isSome=true:=by
 rw[kI,Oo];have h1:(fy ks rep n s).isSome=(nO ks rep n s).isSome:=by unfold fy;cases nO ks rep n s<;>rfl
 have h2:=Ol (ks:=ks) (rep:=rep) (n:=n) (s:=s);dsimp only
 rw[h1];cases e:(nO ks rep n s).isSome with
 | true =>
  rw[e] at h2;simp only[Option.isSome_some,iff_true];exact .inl (h2.1 rfl)
 | false =>
  rw[e] at h2;dsimp only
  rw[vo];have h3:¬∃j,bZ ks s=some j∧j<n:=fun h=>by have:=h2.2 h;cases this
  rw[Option.isSome_map];exact⟨fun h=>h.resolve_left h3,.inr⟩
theorem OV {fr:List fw} {f n:Nat} {all r:List Lt} {x:Lt} (hk:x.hd.kind=32) (h:(∃j,bZ all x.hd.s=some j∧j<n)∨∃y∈fr,y.loop=false∧y.fn=f∧(bZ y.kids x.hd.s).isSome):cA fr f all n (x::r)=some x.hd.line:=by
 rw[cA,ak ⟨hk,h⟩]
theorem OW {fr:List fw} {f n:Nat} {all r:List Lt} {x:Lt} (h:¬ (x.hd.kind=32∧((∃j,bZ all x.hd.s=some j∧j<n)∨∃y∈fr,y.loop=false∧y.fn=f∧(bZ y.kids x.hd.s).isSome))):cA fr f all n (x::r)=cA fr f all (n+1) r:=by
 rw[cA,af h]
theorem DS {ks:List Lt} {rep:Bool} {n:Nat} {x:Lt} (hx:ks[n]? = some x) (h:qU x=false):fy ks rep (n+1)=fy ks rep n:=by
 funext s
 unfold fy;rw[vh hx];unfold mr;unfold qU at h;rw[h,zL]
theorem xH {ks:List Lt} {rep:Bool} {n:Nat} {x:Lt} (hx:ks[n]? = some x) (h:qU x=true) (hn:¬∃j,bZ ks x.hd.s=some j∧j<n) (s:ByteArray):(if s=x.hd.s then some (.agg #[.int .i64 (x.loc:Int),.int .i64 (rP ks rep n:Int)]) else fy ks rep n s)=fy ks rep (n+1) s:=by
 by_cases e:s=x.hd.s
 ·subst e
  rw[ak rfl];unfold fy;rw[I6 hx h hn];rfl
 ·rw[af e]
  unfold fy;rw[vh hx];unfold mr;have h2:decide (x.hd.s=s)=false:=bL fun e'=>e e'.symm
  rw[h2,Bool.and_false]
theorem Jn {ks:List Lt} {rep:Bool} {n c:Nat} {l:List fw}:Ou ((c,n,fy ks rep n)::l.map J0):=by
 intro x hx s v hv;rcases bn.1 hx with rfl|hx
 ·replace hv:fy ks rep n s=some v:=hv
  unfold fy at hv;cases e:nO ks rep n s with
  | none=>rw[e] at hv;cases hv
  | some p =>
   rw[e] at hv;injection hv with hv;exact⟨_,_,hv.symm⟩
 ·exact BE l x hx s v hv
theorem grown_of {W W':World} {m:Nat} (h:Below W.heap.size W W'):W.grownBy W' (some m):=⟨h.os,h.tape,h.output,h.size,fun k hk _=>h.block k hk⟩
theorem bW.grown {W W':World} {B m:Nat} (hg:W.grownBy W' (some m)) (hm :∃es c,W.heap[m]? = some (.map es c)) :∀{fs:List (Nat×Nat×(ByteArray→Option Value))} {ms:List Nat} {p:Value},bW W B fs ms p→m∉ms→bW W' B fs ms p
 | [],_,_,h,_=>h
 | x::fs,ms,p,h,ht=>by
  obtain⟨k',p',m',Cs,rfl,rfl,h1,h2,h3,h4,h5,h6⟩:=h;have hne:m'≠m:=fun e=>ht (e▸bU ..)
  exact⟨k',p',m',Cs,rfl,rfl,h1,eR hg hm k' _ _ _ h2,h3.same (hg.block m' h3.lt fun e=>hne (by injection e with e)),h4,h5,bW.grown hg hm h6 fun h=>ht (bY _ h)⟩
theorem ki {W W':World} {B m:Nat} (h:W.grownBy W' (some m)) (hm:B≤m) (hB:B≤W.heap.size):Below B W W':=⟨h.os,h.tape,h.output,h.size,fun k hk=>h.block k (by omega) fun e=>by injection e with e;omega⟩
def BH (m:Nat) (ks:List Lt) (rep:Bool) (r:Option Int) (w:World) (e:Ending) (w':World):Prop :=
 w.grownBy w' (some m)∧match r with
 | none=>e=.returned .nilIface∧dA Tryz.prog 9 w' m ks.length (fy ks rep ks.length)
 | some l=>∃v,e=.returned v∧I8 w' v l 9
theorem FN {ks:List Lt} {rep:Bool} {n:Nat} (h:n<ks.length):rP ks rep n=if decide ((n:Int)<((if rep then ks.length else lk ks:Nat):Int))=true then gS ks n else 0:=by
 unfold rP;cases rep with
 | true =>
  rw[ak (.inl rfl),ak (bM (by show(n:Int)<(ks.length:Int);omega))]
 | false =>
  by_cases h1:n<lk ks
  ·rw[ak (.inr h1),ak (bM (by show(n:Int)<(lk ks:Int);omega))]
  ·rw[af (by rintro(h2|h2);cases h2;exact h1 h2),af (by simp only[iE];show ¬ (n:Int)<(lk ks:Int);omega)]
theorem OX {T:List Nd} {B:Nat} {nv:Value} (b kb m f:Nat) (p:Option Addr) (kv:Value) (ks:List Lt) (fr:List fw) (ms:List Nat) (rep:Bool) (fv uv ov:Value) (w:World) (hT:vY w B nv T) (hw:w.heap[b]? = some (.cells #[nv,fv,uv,ov] 87 (0,0))) (hu:gF w B kv (ks.map fun k=>(k.loc:Int))) (oa:Lt.uP T ks) (wQ:ks.length≤20000)
  (hkb:w.heap[kb]? = some (.cells #[.pointer p,.map (some m),.int .i64 0] 195 (0,0))) (hm:dA Tryz.prog 9 w m 0 (fun _=>none)) (hc:oY w B (dw f fr) ms (.pointer p)) (TR :∀a,p=some a→a.block<kb) (hmm:m∉ms) (hBk:B≤kb) (hBm:B≤m) (hs :∀x∈ks,x.hd.s.size≤65536) :
  Calls Tryz.prog 114 #[.pointer (some ⟨b,0,none⟩),.pointer (some ⟨kb,0,none⟩),kv,.bool rep] w (BH m ks rep (cA fr f ks 0 ks) w):=by
 obtain⟨bk,o,c,rfl,eG,bX,hn⟩:=hT.nodes;have TT:=TP (T:=T) (B:=B) b kv ks rep fv uv ov w hT hw hu oa wQ;obtain⟨UA,uc,rfl,J1,hu⟩:=hu;simp only[cN] at J1 hu TT ⊢;have hbl:b<w.heap.size:=(aI.1 hw).1;have ado:kb<w.heap.size:=(aI.1 hkb).1;have pN:=hT.few;obtain⟨E,hE⟩ :∃E:Nat,E=(if rep=true then ks.length else lk ks):=⟨_,rfl⟩
 rw[←hE] at TT;have HE0:=aa hE;clear hE;have HW:=aa hw;have HT:=aa hT;have HIN:=aa oa;have HU:=aa hu;have HKB:=aa hkb;have HM:=aa hm;have HC:=aa hc;have adp:=aa TT;have HS:=aa hs;clear hn hu hT oa hw hkb hm hc TT hs;go_enter Tryz.func114,Tryz.ntmps114
 go_wp2_with fail
 refine adp.out.mono ?_;rintro e w1 ⟨rfl,hb1⟩;have dM:=aa hb1;clear hb1;go_wp2_with fail
 go_loopw [10,23] (fun td tk wr=>∃n:Nat,tk=.int .i64 (n:Int)∧td=.int .i64 (gS ks n:Int)∧n≤ks.length∧w.grownBy wr (some m)∧dA Tryz.prog 9 wr m n (fy ks rep n)∧cA fr f ks n (ks.drop n)=cA fr f ks 0 ks) (fun _ tk _=>ks.length-(intOf tk).toNat)
 case atStart =>
  refine⟨0,rfl,by rw[Bq];rfl,aR _,grown_of dM.out,?_,by rw[tL]⟩
  exact(HM.out.same (dM.out.block m HM.out.lt)).ext fun s=>by unfold fy;rw[I5];rfl
 case round =>
  obtain⟨n,rfl,rfl,Cz,hg,hm,hr⟩:=hrel;have wY:=ki hg hBm bX;have CA:=eR hg HM.out.isMap;have hbr:=CA b _ _ _ HW.out;have abj:=CA kb _ _ _ HKB.out;have d0:=ab hbr 0;replace d0:_=some (Value.slice (some ⟨bk,o,none⟩) T.length c):=d0;have abk:b<wr.heap.size:=cy hbl hg.size;have OY:kb<wr.heap.size:=cy ado hg.size;have hdc:gS ks n≤20000:=aK (Ok ks n) wQ;have HG:=aa hg;have Qz:=aa hm;have HR:=aa hr;have lG:=aa wY;have Dg:=aa hbr;have HKR:=aa abj;clear hg hm hr wY hbr abj CA;by_cases hlt:n<ks.length
  ·obtain⟨x,hx⟩ :∃x,ks[n]? = some x:=⟨ks[n],bE hlt⟩
   have Z8:=HS.out x (ba hx);rcases HU.out with h0 | ⟨sb,so,rfl,YP,hsc⟩
   ·exfalso
    rw[pR] at h0;rw[h0] at hlt;exact absurd hlt (by simp)
   have cs:wr.cell? ⟨sb,so+n,none⟩=some (.int .i64 (x.loc:Int)):=(lG.out.cell (p:=⟨sb,so+n,none⟩) YP).trans (hsc n _ (by rw[gw,hx];rfl))
   obtain⟨YR,Jm⟩:=uZ HIN.out hx;have hxl:x.loc<T.length:=(aL.1 Jm).1;have AR:=aa (HT.out.below lG.out);obtain⟨bk2,o2,tc2,YS,_,_,uz⟩:=AR.out.nodes;injection YS with YS _ htc;injection YS with YS;injection YS with YS hto _;subst YS hto htc;obtain⟨zx,zy,fE,⟨NA,nc,vL,_⟩,⟨KA,kc,qX,_⟩⟩:=uz x.loc x.hd Jm;subst vL qX;have c0:=fE.c0;have c1:=fE.c1;have c2:=fE.c2;have c3:=fE.c3;have c4:=fE.c4;have c5:=fE.c5;have c6:=fE.c6;have hdr:=eN hx;have HXT:=aa Jm;have uk:=aa hdr;have HX:=aa hx;have lo:=aa hlt;have OZ:Hid (Calls Tryz.prog 115 #[.pointer (some ⟨b,0,none⟩),.int .i64 (x.loc:Int)] wr fun e w'=>e=.returned (.bool (isDecl x))∧wr=w'):=aa (sK b x.loc x.hd wr AR.out d0 Jm)
   clear Jm hdr hx fE uz YR hsc;by_cases y9:x.hd.kind=32
   ·have DT:isDecl x=false:=by unfold isDecl;rw[y9];rfl
    have vM:gS ks (n+1)=gS ks n:=by rw[ve HX.out,DT];rfl
    have hcn:bW wr B ((0,n,fy ks rep n)::(dw f fr).map J0) (m::ms) (.pointer (some ⟨kb,0,none⟩)):=⟨kb,p,m,ms,rfl,rfl,hBk,HKR.out,Qz.out,hBm,TR,bW.grown HG.out HM.out.isMap HC.out hmm⟩;have HCN:=aa hcn;rw[DT] at OZ;have Z9:=aa vM;have TU:=aa y9;have g2:(x.hd.kind != 32)=false:=by rw[y9];rfl
    clear hcn vM DT y9;go_wp2_with fail
    refine OZ.out.mono ?_;rintro e w2 ⟨rfl,rfl⟩;go_wp2_with fail
    obtain⟨W3,hW3⟩ :∃W3,W3=wr.alloc (.cells #[.int .i64 x.hd.kind,.int .i64 x.hd.line,.int .i64 x.hd.op,.int .i64 x.hd.num,.string x.hd.s,.slice NA x.hd.names.length nc,.slice KA x.hd.kids.length kc] 55):=⟨_,rfl⟩;rw[←hW3];have B3:Hid (Below wr.heap.size wr W3):=aa (by rw[hW3];exact(Below.refl _ _).alloc (ah _) _)
    have n4:W3.cell? ⟨wr.heap.size,4,none⟩=some (.string x.hd.s):=by rw[hW3];exact ab (heap_alloc_new _ _) 4
    have hs3:wr.heap.size<W3.heap.size:=by rw[hW3,ao];omega
    clear hW3;refine(Bt _ _ _ x.hd.s W3 (HCN.out.later B3.out) (by unfold maxLen;omega) Jn).mono ?_
    rintro e w4 ⟨TN,a,d,rfl,hF,hb4⟩;have pn:=TQ (fr:=fr) (f:=f) (ks:=ks) (rep:=rep) (n:=n) (c:=0) (s:=x.hd.s);have n4:=(hb4.cell (p:=⟨wr.heap.size,4,none⟩) hs3).trans n4;have Cv:=B3.out.trans (hb4.mono (fg hs3));have hw4:wr.heap.size<w4.heap.size:=cy hs3 hb4.size;have m4:=(Cv.cell (p:=⟨kb,1,none⟩) OY).trans (ab HKR.out 1);replace m4:_=some (Value.map (some m)):=m4;have B4:=aa Cv;clear Cv hb4;cases qG:((0,n,fy ks rep n)::(dw f fr).map J0).find? (fun y=>(y.2.2 x.hd.s).isSome) with
    | some y =>
     obtain⟨k2,hp,_,_,_⟩:=hF.yes qG;subst hp;rw[qG] at pn;have HE:Hid (cA fr f ks 0 ks=some x.hd.line):=aa (by rw[←HR.out,uk.out,OV TU.out (pn.2 rfl)])
     have OO:=aa ((AR.out.below (B4.out.mono (aK bX HG.out.size))).below ((Below.refl B w4).alloc (aK (aK bX HG.out.size) B4.out.size) (.cells #[.int .i64 a,.int .i64 d] 199)));have OP:=aa (((Below.refl w4.heap.size w4).alloc (ah _) (.cells #[.int .i64 a,.int .i64 d] 199)).cell (p:=⟨b,0,none⟩) (cy abk B4.out.size) |>.trans ((B4.out.cell (p:=⟨b,0,none⟩) abk).trans d0));clear hF qG pn;go_wp2_with fail
     refine(ez b x.loc _ _ _ OO.out OP.out HXT.out).mono ?_;rintro e w6 ⟨v,rfl,⟨g2,rfl⟩,h1,h2⟩;have H1:=aa h1;have H2:=aa h2;clear h1 h2;go_wp2_with fail
     go_ret
     rw[HE.out];exact⟨HG.out.trans ((grown_of B4.out).trans ((World.grownBy_alloc _ _ _).trans (grown_of H2.out))),_,rfl,H1.out⟩
    | none =>
     have hp:=hF.no qG;subst hp;rw[qG] at pn;have EO:¬ ((∃j,bZ ks x.hd.s=some j∧j<n)∨∃y∈fr,y.loop=false∧y.fn=f∧(bZ y.kids x.hd.s).isSome):=fun h=>by have:=pn.1 h;cases this
     have HE:Hid (cA fr f ks (n+1) (ks.drop (n+1))=cA fr f ks 0 ks):=aa (by rw[←HR.out,uk.out,OW fun h=>EO h.2])
     have YA:Hid (¬∃j,bZ ks x.hd.s=some j∧j<n):=aa fun h=>EO (.inl h)
     clear hF qG pn EO;by_cases oa:n<E
     ·have g3:decide ((n:Int)<(E:Int))=true:=bM (by omega)
      go_wp2_with fail
      obtain⟨W5,TV⟩ :∃W5,W5=(w4.alloc (.cells #[.int .i64 a,.int .i64 d] 199)).alloc (.cells #[.int .i64 (x.loc:Int),.int .i64 (gS ks n:Int)] 199):=⟨_,rfl⟩;rw[←TV];have b5:Below w4.heap.size w4 W5:=by rw[TV];exact Below.two _ _
      have YT:W5.heap[w4.heap.size+1]? = some (.cells #[.int .i64 (x.loc:Int),.int .i64 (gS ks n:Int)] 199 (0,0)):=by
       rw[TV];have:=heap_alloc_new (w4.alloc (.cells #[.int .i64 a,.int .i64 d] 199)) (.cells #[.int .i64 (x.loc:Int),.int .i64 (gS ks n:Int)] 199);rwa[ao] at this
      have l0:=gJ YT;have l1:=gK YT;clear TV YT;have n5:=(b5.cell (p:=⟨wr.heap.size,4,none⟩) hw4).trans n4;have m5:=(b5.cell (p:=⟨kb,1,none⟩) (cy OY B4.out.size)).trans m4;have EF:=B4.out.trans (b5.mono B4.out.size);have hM5:dA Tryz.prog 9 W5.drew m n (fy ks rep n):=Qz.out.same (EF.block m Qz.out.lt);obtain⟨W6,hrun,hm6,Vi⟩:=hM5.put (t:=193) (e:=199) Tryz.underlying9 Tryz.underlying193 (by unfold maxLen;omega) x.hd.s (by unfold maxLen;omega) (.agg #[.int .i64 (x.loc:Int),.int .i64 (gS ks n:Int)]) rfl
      have Ru:qU x=true:=bM TU.out;have hD:(rP ks rep n:Int)=(gS ks n:Int):=by
       rw[FN lo.out,←HE0.out];rw[g3];rfl
      have HG6:=aa (HG.out.trans ((grown_of (m:=m) EF.drew).trans Vi));have HM6:Hid (dA Tryz.prog 9 W6 m (n+1) (fy ks rep (n+1))):=aa (hm6.ext fun s=>by have:=xH (rep:=rep) HX.out Ru YA.out s;rw[hD] at this;exact this)
      clear hm6 Vi EF b5 hM5 Ru hD n4 m4 c0 c1 c2 c3 c4 c5 c6 cs d0;go_region
      go_wp2_with fail
      exact⟨⟨n+1,by go_num,by rw[Z9.out],lo.out,HG6.out,HM6.out,HE.out⟩,by have:=lo.out;simp[intOf];omega⟩
     ·have g3:decide ((n:Int)<(E:Int))=false:=bL (by omega)
      go_wp2_with fail
      obtain⟨W5,TV⟩ :∃W5,W5=(w4.alloc (.cells #[.int .i64 a,.int .i64 d] 199)).alloc (.cells #[.int .i64 (x.loc:Int),.int .i64 0] 199):=⟨_,rfl⟩;rw[←TV];have b5:Below w4.heap.size w4 W5:=by rw[TV];exact Below.two _ _
      have YT:W5.heap[w4.heap.size+1]? = some (.cells #[.int .i64 (x.loc:Int),.int .i64 0] 199 (0,0)):=by
       rw[TV];have:=heap_alloc_new (w4.alloc (.cells #[.int .i64 a,.int .i64 d] 199)) (.cells #[.int .i64 (x.loc:Int),.int .i64 0] 199);rwa[ao] at this
      have l0:=gJ YT;have l1:=gK YT;clear TV YT;have n5:=(b5.cell (p:=⟨wr.heap.size,4,none⟩) hw4).trans n4;have m5:=(b5.cell (p:=⟨kb,1,none⟩) (cy OY B4.out.size)).trans m4;have EF:=B4.out.trans (b5.mono B4.out.size);have hM5:dA Tryz.prog 9 W5.drew m n (fy ks rep n):=Qz.out.same (EF.block m Qz.out.lt);obtain⟨W6,hrun,hm6,Vi⟩:=hM5.put (t:=193) (e:=199) Tryz.underlying9 Tryz.underlying193 (by unfold maxLen;omega) x.hd.s (by unfold maxLen;omega) (.agg #[.int .i64 (x.loc:Int),.int .i64 0]) rfl
      have Ru:qU x=true:=bM TU.out;have hD:(rP ks rep n:Int)=0:=by
       rw[FN lo.out,←HE0.out];rw[g3];rfl
      have HG6:=aa (HG.out.trans ((grown_of (m:=m) EF.drew).trans Vi));have HM6:Hid (dA Tryz.prog 9 W6 m (n+1) (fy ks rep (n+1))):=aa (hm6.ext fun s=>by have:=xH (rep:=rep) HX.out Ru YA.out s;rw[hD] at this;exact this)
      clear hm6 Vi EF b5 hM5 Ru hD n4 m4 c0 c1 c2 c3 c4 c5 c6 cs d0;go_region
      go_wp2_with fail
      exact⟨⟨n+1,by go_num,by rw[Z9.out],lo.out,HG6.out,HM6.out,HE.out⟩,by have:=lo.out;simp[intOf];omega⟩
   ·have hl0:qU x=false:=bL y9
    have HWO:=aa (DS (rep:=rep) HX.out hl0);have HE:Hid (cA fr f ks (n+1) (ks.drop (n+1))=cA fr f ks 0 ks):=aa (by rw[←HR.out,uk.out,OW fun h=>y9 h.1])
    have g2:(x.hd.kind != 32)=true:=oO.2 y9;have vM:=ve HX.out;have TU:=aa y9;clear y9 hl0;cases DT:isDecl x with
    | true =>
     rw[DT] at OZ vM;replace vM:gS ks (n+1)=gS ks n+1:=vM;have Z9:=aa vM;clear vM DT;go_wp2_with fail
     refine OZ.out.mono ?_;rintro e w2 ⟨rfl,rfl⟩;go_wp2_with fail
     exact⟨⟨n+1,by go_num,by rw[Z9.out];go_num,lo.out,HG.out.trans (World.grownBy_alloc _ _ _),by rw[HWO.out];exact(Qz.out.same ((World.grownBy_alloc wr _ none).block m Qz.out.lt (by simp))).mono (fY n),HE.out⟩,by have:=lo.out;simp[intOf];omega⟩
    | false =>
     rw[DT] at OZ vM;replace vM:gS ks (n+1)=gS ks n:=vM;have Z9:=aa vM;clear vM DT;go_wp2_with fail
     refine OZ.out.mono ?_;rintro e w2 ⟨rfl,rfl⟩;go_wp2_with fail
     exact⟨⟨n+1,by go_num,by rw[Z9.out],lo.out,HG.out.trans (World.grownBy_alloc _ _ _),by rw[HWO.out];exact(Qz.out.same ((World.grownBy_alloc wr _ none).block m Qz.out.lt (by simp))).mono (fY n),HE.out⟩,by have:=lo.out;simp[intOf];omega⟩
  ·have zr:n=ks.length:=by omega
   go_wp2_with fail
   go_ret
   have hE:cA fr f ks 0 ks=none:=by
    rw[←HR.out,zr,wy,cA]
   rw[hE];subst zr;exact⟨HG.out,rfl,Qz.out⟩
end Go.Proofs.YteflkdlaoiijbaaGreatDoor
