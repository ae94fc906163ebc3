/- Parts of the proof. -/
import Derived.Test.YteflkdlaoiijbaaGreatDoorM10
set_option maxHeartbeats 16000000
set_option maxRecDepth 20000
namespace Go.Proofs.YteflkdlaoiijbaaGreatDoor
open Go.RowKit
theorem SX {W:World} {bk o:Nat} {x:Nd} {nv kv:Value} (h:lG W bk o x nv kv):W.cell? ⟨bk,o+4,none⟩=some (.string x.s):=h.c4
theorem lj {W:World} {b bk j p N ub ob f c o:Nat} {fv:Value} {s:ByteArray} {loop:Int} {pa la:Option Addr} {ln lc:Nat} (hb:W.heap[b]? = some (.cells #[.slice (some ⟨bk,o,none⟩) N c,fv,.slice (some ⟨ub,0,none⟩) N N,.slice (some ⟨ob,0,none⟩) N N] 87 (0,0))) (hd:W.cell? ⟨bk,j,none⟩=some (.string s)) (hx:W.heap[p]? = some (.cells #[.int .i64 (f:Int),.int .i64 loop,.pointer pa,.slice la ln lc] 92 (0,0))) :
  W.cell? ⟨b,0,none⟩=some (.slice (some ⟨bk,o,none⟩) N c)∧W.cell? ⟨bk,j,none⟩=some (.string s)∧W.cell? ⟨p,0,none⟩=some (.int .i64 (f:Int))∧W.cell? ⟨p,1,none⟩=some (.int .i64 loop)∧W.cell? ⟨p,2,none⟩=some (.pointer pa)∧W.cell? ⟨p,3,none⟩=some (.slice la ln lc) :=
 ⟨ab hb 0,hd,ab hx 0,ab hx 1,ab hx 2,ab hx 3⟩
def SY (B b:Nat) (nv:Value) (N ub ob:Nat) (st2:aF) (known:Bool) (k i:Int) (ev:Value) (w:World) (e:Ending) (w':World):Prop :=
 e=.returned (.tuple #[.agg #[.int .i64 k,.int .i64 i],ev])∧Below B w w'∧Fr [52,61,59] w w'∧(known=true→jL w' B b nv N st2 ub ob)
theorem qn {W:World} {b bk j p N f c o:Nat} {s:ByteArray} {loop:Int} {pa la:Option Addr} {ln lc:Nat} (h:W.cell? ⟨b,0,none⟩=some (.slice (some ⟨bk,o,none⟩) N c)∧W.cell? ⟨bk,j,none⟩=some (.string s)∧W.cell? ⟨p,0,none⟩=some (.int .i64 (f:Int))∧W.cell? ⟨p,1,none⟩=some (.int .i64 loop)∧W.cell? ⟨p,2,none⟩=some (.pointer pa)∧W.cell? ⟨p,3,none⟩=some (.slice la ln lc)) (hb:b<W.heap.size) (hk:bk<W.heap.size) (hp:p<W.heap.size) (ob:Obj) :
  (W.alloc ob).cell? ⟨b,0,none⟩=some (.slice (some ⟨bk,o,none⟩) N c)∧(W.alloc ob).cell? ⟨bk,j,none⟩=some (.string s)∧(W.alloc ob).cell? ⟨p,0,none⟩=some (.int .i64 (f:Int))∧(W.alloc ob).cell? ⟨p,1,none⟩=some (.int .i64 loop)∧(W.alloc ob).cell? ⟨p,2,none⟩=some (.pointer pa)∧(W.alloc ob).cell? ⟨p,3,none⟩=some (.slice la ln lc):=by
 have hB:=(Below.refl W.heap.size W).alloc (ah _) ob;exact⟨(hB.cell (p:=⟨b,0,none⟩) hb).trans h.1,(hB.cell (p:=⟨bk,j,none⟩) hk).trans h.2.1,(hB.cell (p:=⟨p,0,none⟩) hp).trans h.2.2.1,(hB.cell (p:=⟨p,1,none⟩) hp).trans h.2.2.2.1,(hB.cell (p:=⟨p,2,none⟩) hp).trans h.2.2.2.2.1,(hB.cell (p:=⟨p,3,none⟩) hp).trans h.2.2.2.2.2⟩
theorem yy {W:World} {b bk j p N f c o r:Nat} {s:ByteArray} {loop:Int} {pa la:Option Addr} {ln lc:Nat} (h:W.cell? ⟨b,0,none⟩=some (.slice (some ⟨bk,o,none⟩) N c)∧W.cell? ⟨bk,j,none⟩=some (.string s)∧W.cell? ⟨p,0,none⟩=some (.int .i64 (f:Int))∧W.cell? ⟨p,1,none⟩=some (.int .i64 loop)∧W.cell? ⟨p,2,none⟩=some (.pointer pa)∧W.cell? ⟨p,3,none⟩=some (.slice la ln lc)) (hb:b≠r) (hk:bk≠r) (hp:p≠r) (u v:Value) :
  ((W.setCell ⟨r,0,none⟩ u).setCell ⟨r,1,none⟩ v).cell? ⟨b,0,none⟩=some (.slice (some ⟨bk,o,none⟩) N c)∧((W.setCell ⟨r,0,none⟩ u).setCell ⟨r,1,none⟩ v).cell? ⟨bk,j,none⟩=some (.string s)∧((W.setCell ⟨r,0,none⟩ u).setCell ⟨r,1,none⟩ v).cell? ⟨p,0,none⟩=some (.int .i64 (f:Int))∧((W.setCell ⟨r,0,none⟩ u).setCell ⟨r,1,none⟩ v).cell? ⟨p,1,none⟩=some (.int .i64 loop)∧((W.setCell ⟨r,0,none⟩ u).setCell ⟨r,1,none⟩ v).cell? ⟨p,2,none⟩=some (.pointer pa)∧((W.setCell ⟨r,0,none⟩ u).setCell ⟨r,1,none⟩ v).cell? ⟨p,3,none⟩=some (.slice la ln lc):=by
 have key :∀a:Addr,a.block≠r→((W.setCell ⟨r,0,none⟩ u).setCell ⟨r,1,none⟩ v).cell? a=W.cell? a:=fun a ha=>World.cell?_of_block (ql W r u v a.block ha)
 exact⟨(key ⟨b,0,none⟩ hb).trans h.1,(key ⟨bk,j,none⟩ hk).trans h.2.1,(key ⟨p,0,none⟩ hp).trans h.2.2.1,(key ⟨p,1,none⟩ hp).trans h.2.2.2.1,(key ⟨p,2,none⟩ hp).trans h.2.2.2.2.1,(key ⟨p,3,none⟩ hp).trans h.2.2.2.2.2⟩
structure NQ (w:World) (B b:Nat) (nv:Value) (N ub ob:Nat) (st2:aF) (known:Bool) (k i:Int) (W:World) (g:Nat):Prop where
 below:Below B w W
 fr:Fr [52,61,59] w W
 rs:known=true→jL W B b nv N st2 ub ob
 use:W.heap[g]? = some (.cells #[.int .i64 k,.int .i64 i] 57 (0,0))
 new:w.heap.size≤g
theorem XU {B:Nat} {w W1 w2:World} {b:Nat} {nv:Value} {N ub ob:Nat} {st2:aF} {known:Bool} {k i:Int} (cB:B≤w.heap.size) (b2:Below B W1 w2) (b1:Below w.heap.size w W1) (f2:Fr [52,61,59] W1 w2) (hle:w.heap.size≤W1.heap.size) (hB:B≤W1.heap.size) (r:known=true→jL w2 B b nv N st2 ub ob):NQ w B b nv N ub ob st2 known k i (w2.alloc (.cells #[.int .i64 k,.int .i64 i] 57)) w2.heap.size :=
 ⟨((b1.mono cB).trans b2).alloc (aL hB b2.size) _,((Fr.ae b1).trans f2).trans (Fr.alloc _),fun h=>(r h).alloc _,heap_alloc_new _ _,aL hle b2.size⟩
theorem XV {B:Nat} {w W1 w2:World} {b:Nat} {nv:Value} {N ub ob:Nat} {st2:aF} {known:Bool} {k i:Int} (cB:B≤w.heap.size) (pg:ub<w.heap.size) (b2:Below B W1 w2) (b1:Below w.heap.size w W1) (f2:Fr [52,61,59] W1 w2) (hle:w.heap.size≤W1.heap.size) (hB:B≤W1.heap.size) (r:known=true→jL w2 B b nv N st2 ub ob) {x y:Value} (hz:w2.heap[W1.heap.size]? = some (.cells #[x,y] 57 (0,0))):NQ w B b nv N ub ob st2 known k i ((w2.setCell ⟨W1.heap.size,0,none⟩ (.int .i64 k)).setCell ⟨W1.heap.size,1,none⟩ (.int .i64 i)) W1.heap.size :=
 have hk:vi w2 W1.heap.size 57:=⟨_,_,hz⟩
 ⟨(((b1.mono cB).trans b2).setCell (p:=⟨W1.heap.size,0,none⟩) hB _).setCell (p:=⟨W1.heap.size,1,none⟩) hB _,((Fr.ae b1).trans f2).past (fun k hk=>ql w2 W1.heap.size _ _ k (by omega)) (by rw[ny];exact ah _),fun h=>((r h).fM hk (by omega) _ _).fM (hk.set _ _ _) (by omega) _ _,yr hz _ _,hle⟩
theorem lW {B:Nat} {a w:World} {o:Obj} (hB:B≤a.heap.size) (h:Below B (a.alloc o) w):Below B a w:=((Below.refl B a).alloc hB o).trans h
theorem rC {E:List Nat} {a w:World} {o:Obj} (h:Fr E (a.alloc o) w):Fr E a w:=(Fr.alloc o).trans h
theorem gF {W:World} {g:Nat} {x y:Value} {ty:TypeId} (h:W.heap[g]? = some (.cells #[x,y] ty (0,0))):W.cell? ⟨g,0,none⟩=some x:=ab h 0
theorem gG {W:World} {g:Nat} {x y:Value} {ty:TypeId} (h:W.heap[g]? = some (.cells #[x,y] ty (0,0))):W.cell? ⟨g,1,none⟩=some y:=ab h 1
theorem e9 {E:List Nat} {a w:World} (h:Fr E a.drew w):Fr E a w:=⟨h.size,h.cells,h.others⟩
theorem dv {B:Nat} {a w:World} (h:Below B a.drew w):Below B a w:=⟨h.os,h.tape,h.output,h.size,h.block⟩
theorem Ob {T:List Nd} {B:Nat} {nv:Value} {ub ob:Nat} (b node f:Nat) (h:Nd) (loop k i:Int) (pa la:Option Addr) (lc:Nat) (L:List cV) (st st2:aF) (w:World) (hT:vx w B nv T) (hw:jL w B b nv T.length st ub ob) (hx:T[node]? = some h)
  (qo :∀W,Below w.heap.size w W→Calls Tryz.prog 109 #[.pointer (some ⟨b,0,none⟩),.string h.s,.agg #[.int .i64 (f:Int),.int .i64 loop,.pointer pa,.slice la L.length lc]] W (SY B b nv T.length ub ob st2 true k i (.nilIface) W)) :
  Calls Tryz.prog 54 #[.pointer (some ⟨b,0,none⟩),.int .i64 (node:Int),.agg #[.int .i64 (f:Int),.int .i64 loop,.pointer pa,.slice la L.length lc]] w (gC B b nv T.length ub ob (.ok (st2.cK node (k,i))) w):=by
 obtain⟨bk,o,c,rfl,bS,cB,cN⟩:=hT.nodes;obtain⟨qD,qE,dS,_,_⟩:=cN node h hx;have jz:node<T.length:=(aK.1 hx).1;have qF:=hT.few;obtain⟨hbl,pg,hb4⟩:b<w.heap.size∧ub<w.heap.size∧∃fv,w.heap[b]? = some (.cells #[.slice (some ⟨bk,o,none⟩) T.length c,fv,.slice (some ⟨ub,0,none⟩) T.length T.length,.slice (some ⟨ob,0,none⟩) T.length T.length] 87 (0,0)):=by
  obtain⟨_,_,h⟩:=hw;exact⟨h.gK.1,h.gK.2.1,_,h.blk⟩
 obtain⟨fv0,hb4⟩:=hb4;have yz:=aa qo;have d0:=ab hb4 0;replace d0:_=some (Value.slice (some ⟨bk,o,none⟩) T.length c):=d0;have d4:=SX dS;have iK:bk<w.heap.size:=by omega
 have IF:=aa hb4;have HT:=aa hT;have HX:=aa hx;clear hw hT hx qo dS cN hb4;go_enter Tryz.func54,Tryz.ntmps54
 go_wp2_with fail
 have dU:=aa ((Below.refl w.heap.size w).alloc (ah _) (.cells #[.int .i64 (f:Int),.int .i64 loop,.pointer pa,.slice la L.length lc] 92));have dh:=heap_alloc_new w (.cells #[.int .i64 (f:Int),.int .i64 loop,.pointer pa,.slice la L.length lc] 92);have x0:=ab dh 0;have x1:=ab dh 1;have x2:=ab dh 2;have x3:=ab dh 3;replace x0:_=some (Value.int .i64 (f:Int)):=x0;replace x1:_=some (Value.int .i64 loop):=x1;replace x2:_=some (Value.pointer pa):=x2;replace x3:_=some (Value.slice la L.length lc):=x3;have e0:=(dU.out.cell (p:=⟨b,0,none⟩) hbl).trans d0;have e4:=(dU.out.cell (p:=⟨bk,o+node*7+4,none⟩) iK).trans d4;have pR:=aa dh;have qp:=aa ((dU.out.block b hbl).trans IF.out);have hs1:(w.alloc (.cells #[.int .i64 (f:Int),.int .i64 loop,.pointer pa,.slice la L.length lc] 92)).heap.size=w.heap.size+1:=ao _ _;generalize w.alloc (.cells #[.int .i64 (f:Int),.int .i64 loop,.pointer pa,.slice la L.length lc] 92)=W1 at *;have eM:=aa hs1;have SZ:=IF;clear d0 d4 dh hs1 IF;have kk:Hid (W1.cell? ⟨b,0,none⟩=some (.slice (some ⟨bk,o,none⟩) T.length c)∧W1.cell? ⟨bk,o+node*7+4,none⟩=some (.string h.s)∧W1.cell? ⟨w.heap.size,0,none⟩=some (.int .i64 (f:Int))∧W1.cell? ⟨w.heap.size,1,none⟩=some (.int .i64 loop)∧W1.cell? ⟨w.heap.size,2,none⟩=some (.pointer pa)∧W1.cell? ⟨w.heap.size,3,none⟩=some (.slice la L.length lc)):=aa ⟨e0,e4,x0,x1,x2,x3⟩;have hb1:b<W1.heap.size:=(by have:=eM.out;omega)
 have iO:bk<W1.heap.size:=(by have:=eM.out;omega)
 have dZ:w.heap.size<W1.heap.size:=(by have:=eM.out;omega)
 have lX:w.heap.size≤W1.heap.size:=fj dZ;have CO:b≠W1.heap.size:=jt hb1;have fR:bk≠W1.heap.size:=jt iO;have XX:w.heap.size≠W1.heap.size:=jt dZ;have sI:B≤W1.heap.size:=aL cB lX;go_region_held3 (fun w'=>w'.cell? ⟨b,0,none⟩=some (.slice (some ⟨bk,o,none⟩) T.length c)∧w'.cell? ⟨bk,o+node*7+4,none⟩=some (.string h.s)∧w'.cell? ⟨w.heap.size,0,none⟩=some (.int .i64 (f:Int))∧w'.cell? ⟨w.heap.size,1,none⟩=some (.int .i64 loop)∧w'.cell? ⟨w.heap.size,2,none⟩=some (.pointer pa)∧w'.cell? ⟨w.heap.size,3,none⟩=some (.slice la L.length lc))
  (first|exact kk.out|exact qn kk.out hb1 iO dZ _|exact yy kk.out CO fR XX _ _)
  (first
   | (go_at_call 109;refine(yz.out W1.drew dU.out.drew).mono ?_;rintro e w2 hq;unfold SY at hq;obtain⟨rfl,sJ,me,A8⟩:=hq;have B2:=aa (dv sJ);have F2:=aa (e9 me);have R2:=aa A8;have hb1:b<w2.heap.size:=cL hb1 B2.out.size;have iO:bk<w2.heap.size:=cL iO B2.out.size;have dZ:w.heap.size<w2.heap.size:=cL dZ B2.out.size;have kk:=aa (lj (F2.out.cells _ _ _ _ qp.out (by decide)) ((B2.out.cell (p:=⟨bk,o+node*7+4,none⟩) bS).trans e4) (F2.out.cells _ _ _ _ pR.out (by decide)));clear sJ me A8)
   | (go_at_call 109;refine(yz.out (W1.alloc (.cells #[.int .i64 0,.int .i64 0] 57)).drew (dU.out.alloc lX _).drew).mono ?_;rintro e w2 hq;unfold SY at hq;obtain⟨rfl,sJ,me,A8⟩:=hq;have B2:=aa (lW sI (dv sJ));have F2:=aa (rC (e9 me));have R2:=aa A8;have hz2:=(e9 me).cells _ _ _ _ (heap_alloc_new W1 (.cells #[.int .i64 0,.int .i64 0] 57)) (by decide);have q0:=gF hz2;have q1:=gG hz2;have q2:=aw hz2 0;have q3:=aw hz2 1;have Z2:=aa hz2;have kk:=aa (lj (F2.out.cells _ _ _ _ qp.out (by decide)) ((B2.out.cell (p:=⟨bk,o+node*7+4,none⟩) bS).trans e4) (F2.out.cells _ _ _ _ pR.out (by decide)));clear sJ me A8 hz2))
 ·have HQ:=aa (XU (B:=B) cB (st2:=st2) (nv:=.slice (some ⟨bk,o,none⟩) T.length c) (N:=T.length) (b:=b) (ub:=ub) (ob:=ob) (known:=true) (k:=k) (i:=i) B2.out dU.out F2.out lX sI (fun _=>R2.out trivial))
  generalize w2.alloc (.cells #[.int .i64 k,.int .i64 i] 57)=W5 at HQ ⊢;generalize w2.heap.size=g at HQ ⊢;clear B2 F2 R2 yz dU pR qp eM kk e0 e4 x0 x1 x2 x3;have y0:=gF HQ.out.use;have y1:=gG HQ.out.use;obtain⟨fv5,FL5,ik⟩:=HQ.out.rs rfl;obtain⟨xU,hl2,Jw⟩:=ik.gK;have d2:W5.cell? ⟨b,2,none⟩=some (.slice (some ⟨ub,0,none⟩) T.length T.length):=ab ik.blk 2;obtain⟨u0,v0⟩:=bJ ik.uses (j:=node*2) (by omega)
  obtain⟨u1,v1⟩:=bJ ik.uses (j:=node*2+1) (by omega)
  have qq:=aa ik;clear ik;go_wp2_with fail
  refine(Fb W5).mono ?_;rintro e w6 ⟨rfl,rfl⟩;go_wp2_with fail
  go_region
  go_wp2_with fail
  go_ret
  exact⟨((HQ.out.below.setCell (p:=⟨ub,node*2,none⟩) qq.out.ja.1 _).setCell (p:=⟨ub,node*2+1,none⟩) qq.out.ja.1 _).drew,rfl,⟨_,_,(qq.out.use node (k,i)).drew⟩,(((HQ.out.fr.mono (by decide)).trans ((lT qq.out node _ _).mono (by decide)))).drew⟩
 ·have HQ:=aa (XV (B:=B) cB pg (st2:=st2) (nv:=.slice (some ⟨bk,o,none⟩) T.length c) (N:=T.length) (b:=b) (ob:=ob) (known:=true) (k:=k) (i:=i) B2.out dU.out F2.out lX sI (fun _=>R2.out trivial) Z2.out)
  generalize (w2.setCell ⟨W1.heap.size,0,none⟩ (.int .i64 k)).setCell ⟨W1.heap.size,1,none⟩ (.int .i64 i)=W5 at HQ ⊢;generalize W1.heap.size=g at HQ ⊢;clear q0 q1 q2 q3 Z2;clear B2 F2 R2 yz dU pR qp eM kk e0 e4 x0 x1 x2 x3;have y0:=gF HQ.out.use;have y1:=gG HQ.out.use;obtain⟨fv5,FL5,ik⟩:=HQ.out.rs rfl;obtain⟨xU,hl2,Jw⟩:=ik.gK;have d2:W5.cell? ⟨b,2,none⟩=some (.slice (some ⟨ub,0,none⟩) T.length T.length):=ab ik.blk 2;obtain⟨u0,v0⟩:=bJ ik.uses (j:=node*2) (by omega)
  obtain⟨u1,v1⟩:=bJ ik.uses (j:=node*2+1) (by omega)
  have qq:=aa ik;clear ik;go_wp2_with fail
  refine(Fb W5).mono ?_;rintro e w6 ⟨rfl,rfl⟩;go_wp2_with fail
  go_region
  go_wp2_with fail
  go_ret
  exact⟨((HQ.out.below.setCell (p:=⟨ub,node*2,none⟩) qq.out.ja.1 _).setCell (p:=⟨ub,node*2+1,none⟩) qq.out.ja.1 _).drew,rfl,⟨_,_,(qq.out.use node (k,i)).drew⟩,(((HQ.out.fr.mono (by decide)).trans ((lT qq.out node _ _).mono (by decide)))).drew⟩
theorem IP {T:List Nd} {B:Nat} {nv:Value} {ub ob:Nat} (b node f:Nat) (h:Nd) (loop k i:Int) (pa la:Option Addr) (lc:Nat) (L:List cV) (st st2:aF) (w:World) (hT:vx w B nv T) (hw:jL w B b nv T.length st ub ob) (hx:T[node]? = some h)
  (qo :∀W,Below w.heap.size w W→Calls Tryz.prog 109 #[.pointer (some ⟨b,0,none⟩),.string h.s,.agg #[.int .i64 (f:Int),.int .i64 loop,.pointer pa,.slice la L.length lc]] W (SY B b nv T.length ub ob st2 true k i (.iface 79 (.int .i64 16)) W)) :
  Calls Tryz.prog 54 #[.pointer (some ⟨b,0,none⟩),.int .i64 (node:Int),.agg #[.int .i64 (f:Int),.int .i64 loop,.pointer pa,.slice la L.length lc]] w (gC B b nv T.length ub ob (.ok (st2.cK node (1,0))) w):=by
 obtain⟨bk,o,c,rfl,bS,cB,cN⟩:=hT.nodes;obtain⟨qD,qE,dS,_,_⟩:=cN node h hx;have jz:node<T.length:=(aK.1 hx).1;have qF:=hT.few;obtain⟨hbl,pg,hb4⟩:b<w.heap.size∧ub<w.heap.size∧∃fv,w.heap[b]? = some (.cells #[.slice (some ⟨bk,o,none⟩) T.length c,fv,.slice (some ⟨ub,0,none⟩) T.length T.length,.slice (some ⟨ob,0,none⟩) T.length T.length] 87 (0,0)):=by
  obtain⟨_,_,h⟩:=hw;exact⟨h.gK.1,h.gK.2.1,_,h.blk⟩
 obtain⟨fv0,hb4⟩:=hb4;have yz:=aa qo;have d0:=ab hb4 0;replace d0:_=some (Value.slice (some ⟨bk,o,none⟩) T.length c):=d0;have d4:=SX dS;have iK:bk<w.heap.size:=by omega
 have IF:=aa hb4;have HT:=aa hT;have HX:=aa hx;clear hw hT hx qo dS cN hb4;go_enter Tryz.func54,Tryz.ntmps54
 go_wp2_with fail
 have dU:=aa ((Below.refl w.heap.size w).alloc (ah _) (.cells #[.int .i64 (f:Int),.int .i64 loop,.pointer pa,.slice la L.length lc] 92));have dh:=heap_alloc_new w (.cells #[.int .i64 (f:Int),.int .i64 loop,.pointer pa,.slice la L.length lc] 92);have x0:=ab dh 0;have x1:=ab dh 1;have x2:=ab dh 2;have x3:=ab dh 3;replace x0:_=some (Value.int .i64 (f:Int)):=x0;replace x1:_=some (Value.int .i64 loop):=x1;replace x2:_=some (Value.pointer pa):=x2;replace x3:_=some (Value.slice la L.length lc):=x3;have e0:=(dU.out.cell (p:=⟨b,0,none⟩) hbl).trans d0;have e4:=(dU.out.cell (p:=⟨bk,o+node*7+4,none⟩) iK).trans d4;have pR:=aa dh;have qp:=aa ((dU.out.block b hbl).trans IF.out);have hs1:(w.alloc (.cells #[.int .i64 (f:Int),.int .i64 loop,.pointer pa,.slice la L.length lc] 92)).heap.size=w.heap.size+1:=ao _ _;generalize w.alloc (.cells #[.int .i64 (f:Int),.int .i64 loop,.pointer pa,.slice la L.length lc] 92)=W1 at *;have eM:=aa hs1;have SZ:=IF;clear d0 d4 dh hs1 IF;have kk:Hid (W1.cell? ⟨b,0,none⟩=some (.slice (some ⟨bk,o,none⟩) T.length c)∧W1.cell? ⟨bk,o+node*7+4,none⟩=some (.string h.s)∧W1.cell? ⟨w.heap.size,0,none⟩=some (.int .i64 (f:Int))∧W1.cell? ⟨w.heap.size,1,none⟩=some (.int .i64 loop)∧W1.cell? ⟨w.heap.size,2,none⟩=some (.pointer pa)∧W1.cell? ⟨w.heap.size,3,none⟩=some (.slice la L.length lc)):=aa ⟨e0,e4,x0,x1,x2,x3⟩;have hb1:b<W1.heap.size:=(by have:=eM.out;omega)
 have iO:bk<W1.heap.size:=(by have:=eM.out;omega)
 have dZ:w.heap.size<W1.heap.size:=(by have:=eM.out;omega)
 have lX:w.heap.size≤W1.heap.size:=fj dZ;have CO:b≠W1.heap.size:=jt hb1;have fR:bk≠W1.heap.size:=jt iO;have XX:w.heap.size≠W1.heap.size:=jt dZ;have sI:B≤W1.heap.size:=aL cB lX;go_region_held3 (fun w'=>w'.cell? ⟨b,0,none⟩=some (.slice (some ⟨bk,o,none⟩) T.length c)∧w'.cell? ⟨bk,o+node*7+4,none⟩=some (.string h.s)∧w'.cell? ⟨w.heap.size,0,none⟩=some (.int .i64 (f:Int))∧w'.cell? ⟨w.heap.size,1,none⟩=some (.int .i64 loop)∧w'.cell? ⟨w.heap.size,2,none⟩=some (.pointer pa)∧w'.cell? ⟨w.heap.size,3,none⟩=some (.slice la L.length lc))
  (first|exact kk.out|exact qn kk.out hb1 iO dZ _|exact yy kk.out CO fR XX _ _)
  (first
   | (go_at_call 109;refine(yz.out W1.drew dU.out.drew).mono ?_;rintro e w2 hq;unfold SY at hq;obtain⟨rfl,sJ,me,A8⟩:=hq;have B2:=aa (dv sJ);have F2:=aa (e9 me);have R2:=aa A8;have hb1:b<w2.heap.size:=cL hb1 B2.out.size;have iO:bk<w2.heap.size:=cL iO B2.out.size;have dZ:w.heap.size<w2.heap.size:=cL dZ B2.out.size;have kk:=aa (lj (F2.out.cells _ _ _ _ qp.out (by decide)) ((B2.out.cell (p:=⟨bk,o+node*7+4,none⟩) bS).trans e4) (F2.out.cells _ _ _ _ pR.out (by decide)));clear sJ me A8)
   | (go_at_call 109;refine(yz.out (W1.alloc (.cells #[.int .i64 0,.int .i64 0] 57)).drew (dU.out.alloc lX _).drew).mono ?_;rintro e w2 hq;unfold SY at hq;obtain⟨rfl,sJ,me,A8⟩:=hq;have B2:=aa (lW sI (dv sJ));have F2:=aa (rC (e9 me));have R2:=aa A8;have hz2:=(e9 me).cells _ _ _ _ (heap_alloc_new W1 (.cells #[.int .i64 0,.int .i64 0] 57)) (by decide);have q0:=gF hz2;have q1:=gG hz2;have q2:=aw hz2 0;have q3:=aw hz2 1;have Z2:=aa hz2;have kk:=aa (lj (F2.out.cells _ _ _ _ qp.out (by decide)) ((B2.out.cell (p:=⟨bk,o+node*7+4,none⟩) bS).trans e4) (F2.out.cells _ _ _ _ pR.out (by decide)));clear sJ me A8 hz2))
 ·have HQ:=aa (XU (B:=B) cB (st2:=st2) (nv:=.slice (some ⟨bk,o,none⟩) T.length c) (N:=T.length) (b:=b) (ub:=ub) (ob:=ob) (known:=true) (k:=k) (i:=i) B2.out dU.out F2.out lX sI (fun _=>R2.out trivial))
  generalize w2.alloc (.cells #[.int .i64 k,.int .i64 i] 57)=W5 at HQ ⊢;generalize w2.heap.size=g at HQ ⊢;clear B2 F2 R2 yz dU pR qp eM kk e0 e4 x0 x1 x2 x3;have y0:=gF HQ.out.use;have y1:=gG HQ.out.use;have y2:=aw HQ.out.use 0;have y3:=aw HQ.out.use 1;have hgu:g≠ub:=by have:=HQ.out.new;omega
  go_wp2_with fail
  refine(Fc W5).mono ?_;rintro e w6 ⟨rfl,rfl⟩;go_wp2_with fail
  have hk:vi W5 g 57:=⟨_,_,HQ.out.use⟩;have Oc:=((HQ.out.rs rfl).fM hk hgu 0 (.int .i64 1)).fM (hk.set _ _ _) hgu 1 (.int .i64 0);have C9:=yr HQ.out.use (.int .i64 1) (.int .i64 0);have UB:=aa ((HQ.out.below.setCell (p:=⟨g,0,none⟩) (aL cB HQ.out.new) (.int .i64 1)).setCell (p:=⟨g,1,none⟩) (aL cB HQ.out.new) (.int .i64 0));have Od:=aa (HQ.out.fr.past (fun k hk=>ql W5 g (.int .i64 1) (.int .i64 0) k (by have:=HQ.out.new;omega)) (by rw[ny];exact ah _))
  generalize (W5.setCell ⟨g,0,none⟩ (.int .i64 1)).setCell ⟨g,1,none⟩ (.int .i64 0)=W6 at Oc C9 UB Od ⊢;have k0:=gF C9;have k1:=gG C9;obtain⟨fv5,FL5,ik⟩:=Oc;obtain⟨xU,hl2,Jw⟩:=ik.gK;have d2:W6.cell? ⟨b,2,none⟩=some (.slice (some ⟨ub,0,none⟩) T.length T.length):=ab ik.blk 2;obtain⟨u0,v0⟩:=bJ ik.uses (j:=node*2) (by omega)
  obtain⟨u1,v1⟩:=bJ ik.uses (j:=node*2+1) (by omega)
  have qq:=aa ik;clear ik C9 y0 y1 y2 y3 hk;go_region
  go_wp2_with fail
  go_ret
  exact⟨((UB.out.setCell (p:=⟨ub,node*2,none⟩) qq.out.ja.1 _).setCell (p:=⟨ub,node*2+1,none⟩) qq.out.ja.1 _).drew,rfl,⟨_,_,(qq.out.use node (1,0)).drew⟩,(((Od.out.mono (by decide)).trans ((lT qq.out node _ _).mono (by decide)))).drew⟩
 ·have HQ:=aa (XV (B:=B) cB pg (st2:=st2) (nv:=.slice (some ⟨bk,o,none⟩) T.length c) (N:=T.length) (b:=b) (ob:=ob) (known:=true) (k:=k) (i:=i) B2.out dU.out F2.out lX sI (fun _=>R2.out trivial) Z2.out)
  generalize (w2.setCell ⟨W1.heap.size,0,none⟩ (.int .i64 k)).setCell ⟨W1.heap.size,1,none⟩ (.int .i64 i)=W5 at HQ ⊢;generalize W1.heap.size=g at HQ ⊢;clear q0 q1 q2 q3 Z2;clear B2 F2 R2 yz dU pR qp eM kk e0 e4 x0 x1 x2 x3;have y0:=gF HQ.out.use;have y1:=gG HQ.out.use;have y2:=aw HQ.out.use 0;have y3:=aw HQ.out.use 1;have hgu:g≠ub:=by have:=HQ.out.new;omega
  go_wp2_with fail
  refine(Fc W5).mono ?_;rintro e w6 ⟨rfl,rfl⟩;go_wp2_with fail
  have hk:vi W5 g 57:=⟨_,_,HQ.out.use⟩;have Oc:=((HQ.out.rs rfl).fM hk hgu 0 (.int .i64 1)).fM (hk.set _ _ _) hgu 1 (.int .i64 0);have C9:=yr HQ.out.use (.int .i64 1) (.int .i64 0);have UB:=aa ((HQ.out.below.setCell (p:=⟨g,0,none⟩) (aL cB HQ.out.new) (.int .i64 1)).setCell (p:=⟨g,1,none⟩) (aL cB HQ.out.new) (.int .i64 0));have Od:=aa (HQ.out.fr.past (fun k hk=>ql W5 g (.int .i64 1) (.int .i64 0) k (by have:=HQ.out.new;omega)) (by rw[ny];exact ah _))
  generalize (W5.setCell ⟨g,0,none⟩ (.int .i64 1)).setCell ⟨g,1,none⟩ (.int .i64 0)=W6 at Oc C9 UB Od ⊢;have k0:=gF C9;have k1:=gG C9;obtain⟨fv5,FL5,ik⟩:=Oc;obtain⟨xU,hl2,Jw⟩:=ik.gK;have d2:W6.cell? ⟨b,2,none⟩=some (.slice (some ⟨ub,0,none⟩) T.length T.length):=ab ik.blk 2;obtain⟨u0,v0⟩:=bJ ik.uses (j:=node*2) (by omega)
  obtain⟨u1,v1⟩:=bJ ik.uses (j:=node*2+1) (by omega)
  have qq:=aa ik;clear ik C9 y0 y1 y2 y3 hk;go_region
  go_wp2_with fail
  go_ret
  exact⟨((UB.out.setCell (p:=⟨ub,node*2,none⟩) qq.out.ja.1 _).setCell (p:=⟨ub,node*2+1,none⟩) qq.out.ja.1 _).drew,rfl,⟨_,_,(qq.out.use node (1,0)).drew⟩,(((Od.out.mono (by decide)).trans ((lT qq.out node _ _).mono (by decide)))).drew⟩
theorem Oe {T:List Nd} {B:Nat} {nv:Value} {ub ob:Nat} (b node f:Nat) (h:Nd) (loop k i:Int) (pa la:Option Addr) (lc:Nat) (L:List cV) (st st2:aF) (w:World) (hT:vx w B nv T) (hw:jL w B b nv T.length st ub ob) (hx:T[node]? = some h)
  (qo :∀W,Below w.heap.size w W→Calls Tryz.prog 109 #[.pointer (some ⟨b,0,none⟩),.string h.s,.agg #[.int .i64 (f:Int),.int .i64 loop,.pointer pa,.slice la L.length lc]] W (SY B b nv T.length ub ob st2 false k i (.iface 79 (.int .i64 12)) W)) :
  Calls Tryz.prog 54 #[.pointer (some ⟨b,0,none⟩),.int .i64 (node:Int),.agg #[.int .i64 (f:Int),.int .i64 loop,.pointer pa,.slice la L.length lc]] w (gC B b nv T.length ub ob (.error (12,h.line)) w):=by
 obtain⟨bk,o,c,rfl,bS,cB,cN⟩:=hT.nodes;obtain⟨qD,qE,dS,_,_⟩:=cN node h hx;have jz:node<T.length:=(aK.1 hx).1;have qF:=hT.few;obtain⟨hbl,pg,hb4⟩:b<w.heap.size∧ub<w.heap.size∧∃fv,w.heap[b]? = some (.cells #[.slice (some ⟨bk,o,none⟩) T.length c,fv,.slice (some ⟨ub,0,none⟩) T.length T.length,.slice (some ⟨ob,0,none⟩) T.length T.length] 87 (0,0)):=by
  obtain⟨_,_,h⟩:=hw;exact⟨h.gK.1,h.gK.2.1,_,h.blk⟩
 obtain⟨fv0,hb4⟩:=hb4;have yz:=aa qo;have d0:=ab hb4 0;replace d0:_=some (Value.slice (some ⟨bk,o,none⟩) T.length c):=d0;have d4:=SX dS;have iK:bk<w.heap.size:=by omega
 have IF:=aa hb4;have HT:=aa hT;have HX:=aa hx;clear hw hT hx qo dS cN hb4;go_enter Tryz.func54,Tryz.ntmps54
 go_wp2_with fail
 have dU:=aa ((Below.refl w.heap.size w).alloc (ah _) (.cells #[.int .i64 (f:Int),.int .i64 loop,.pointer pa,.slice la L.length lc] 92));have dh:=heap_alloc_new w (.cells #[.int .i64 (f:Int),.int .i64 loop,.pointer pa,.slice la L.length lc] 92);have x0:=ab dh 0;have x1:=ab dh 1;have x2:=ab dh 2;have x3:=ab dh 3;replace x0:_=some (Value.int .i64 (f:Int)):=x0;replace x1:_=some (Value.int .i64 loop):=x1;replace x2:_=some (Value.pointer pa):=x2;replace x3:_=some (Value.slice la L.length lc):=x3;have e0:=(dU.out.cell (p:=⟨b,0,none⟩) hbl).trans d0;have e4:=(dU.out.cell (p:=⟨bk,o+node*7+4,none⟩) iK).trans d4;have pR:=aa dh;have qp:=aa ((dU.out.block b hbl).trans IF.out);have hs1:(w.alloc (.cells #[.int .i64 (f:Int),.int .i64 loop,.pointer pa,.slice la L.length lc] 92)).heap.size=w.heap.size+1:=ao _ _;generalize w.alloc (.cells #[.int .i64 (f:Int),.int .i64 loop,.pointer pa,.slice la L.length lc] 92)=W1 at *;have eM:=aa hs1;have SZ:=IF;clear d0 d4 dh hs1 IF;have kk:Hid (W1.cell? ⟨b,0,none⟩=some (.slice (some ⟨bk,o,none⟩) T.length c)∧W1.cell? ⟨bk,o+node*7+4,none⟩=some (.string h.s)∧W1.cell? ⟨w.heap.size,0,none⟩=some (.int .i64 (f:Int))∧W1.cell? ⟨w.heap.size,1,none⟩=some (.int .i64 loop)∧W1.cell? ⟨w.heap.size,2,none⟩=some (.pointer pa)∧W1.cell? ⟨w.heap.size,3,none⟩=some (.slice la L.length lc)):=aa ⟨e0,e4,x0,x1,x2,x3⟩;have hb1:b<W1.heap.size:=(by have:=eM.out;omega)
 have iO:bk<W1.heap.size:=(by have:=eM.out;omega)
 have dZ:w.heap.size<W1.heap.size:=(by have:=eM.out;omega)
 have lX:w.heap.size≤W1.heap.size:=fj dZ;have CO:b≠W1.heap.size:=jt hb1;have fR:bk≠W1.heap.size:=jt iO;have XX:w.heap.size≠W1.heap.size:=jt dZ;have sI:B≤W1.heap.size:=aL cB lX;go_region_held3 (fun w'=>w'.cell? ⟨b,0,none⟩=some (.slice (some ⟨bk,o,none⟩) T.length c)∧w'.cell? ⟨bk,o+node*7+4,none⟩=some (.string h.s)∧w'.cell? ⟨w.heap.size,0,none⟩=some (.int .i64 (f:Int))∧w'.cell? ⟨w.heap.size,1,none⟩=some (.int .i64 loop)∧w'.cell? ⟨w.heap.size,2,none⟩=some (.pointer pa)∧w'.cell? ⟨w.heap.size,3,none⟩=some (.slice la L.length lc))
  (first|exact kk.out|exact qn kk.out hb1 iO dZ _|exact yy kk.out CO fR XX _ _)
  (first
   | (go_at_call 109;refine(yz.out W1.drew dU.out.drew).mono ?_;rintro e w2 hq;unfold SY at hq;obtain⟨rfl,sJ,me,A8⟩:=hq;have B2:=aa (dv sJ);have F2:=aa (e9 me);have R2:=aa A8;have hb1:b<w2.heap.size:=cL hb1 B2.out.size;have iO:bk<w2.heap.size:=cL iO B2.out.size;have dZ:w.heap.size<w2.heap.size:=cL dZ B2.out.size;have kk:=aa (lj (F2.out.cells _ _ _ _ qp.out (by decide)) ((B2.out.cell (p:=⟨bk,o+node*7+4,none⟩) bS).trans e4) (F2.out.cells _ _ _ _ pR.out (by decide)));clear sJ me A8)
   | (go_at_call 109;refine(yz.out (W1.alloc (.cells #[.int .i64 0,.int .i64 0] 57)).drew (dU.out.alloc lX _).drew).mono ?_;rintro e w2 hq;unfold SY at hq;obtain⟨rfl,sJ,me,A8⟩:=hq;have B2:=aa (lW sI (dv sJ));have F2:=aa (rC (e9 me));have R2:=aa A8;have hz2:=(e9 me).cells _ _ _ _ (heap_alloc_new W1 (.cells #[.int .i64 0,.int .i64 0] 57)) (by decide);have q0:=gF hz2;have q1:=gG hz2;have q2:=aw hz2 0;have q3:=aw hz2 1;have Z2:=aa hz2;have kk:=aa (lj (F2.out.cells _ _ _ _ qp.out (by decide)) ((B2.out.cell (p:=⟨bk,o+node*7+4,none⟩) bS).trans e4) (F2.out.cells _ _ _ _ pR.out (by decide)));clear sJ me A8 hz2))
 ·have HQ:=aa (XU (B:=B) cB (st2:=st2) (nv:=.slice (some ⟨bk,o,none⟩) T.length c) (N:=T.length) (b:=b) (ub:=ub) (ob:=ob) (known:=false) (k:=k) (i:=i) B2.out dU.out F2.out lX sI (fun h=>absurd h (by decide)))
  generalize w2.alloc (.cells #[.int .i64 k,.int .i64 i] 57)=W5 at HQ ⊢;generalize w2.heap.size=g at HQ ⊢;clear B2 F2 R2 yz dU pR qp eM kk e0 e4 x0 x1 x2 x3;have y0:=gF HQ.out.use;have y1:=gG HQ.out.use;have Og:=aa (HT.out.below HQ.out.below);have Oh:=aa (ab (HQ.out.fr.cells _ _ _ _ SZ.out (by decide)) 0)
  go_wp2_with fail
  refine(Fe W5).mono ?_;rintro e w6 ⟨rfl,rfl⟩;go_wp2_with fail
  refine(eG b node _ _ _ Og.out Oh.out HX.out).mono ?_;rintro e w7 ⟨v,rfl,⟨g1,rfl⟩,h1,h2⟩;have H1:=aa h1;have H2:=aa h2;clear h1 h2;go_wp2_with fail
  go_ret
  exact iJ HQ.out.below (aL cB (aL (ah _) HQ.out.below.size)) H2.out H1.out
 ·have HQ:=aa (XV (B:=B) cB pg (st2:=st2) (nv:=.slice (some ⟨bk,o,none⟩) T.length c) (N:=T.length) (b:=b) (ob:=ob) (known:=false) (k:=k) (i:=i) B2.out dU.out F2.out lX sI (fun h=>absurd h (by decide)) Z2.out)
  generalize (w2.setCell ⟨W1.heap.size,0,none⟩ (.int .i64 k)).setCell ⟨W1.heap.size,1,none⟩ (.int .i64 i)=W5 at HQ ⊢;generalize W1.heap.size=g at HQ ⊢;clear q0 q1 q2 q3 Z2;clear B2 F2 R2 yz dU pR qp eM kk e0 e4 x0 x1 x2 x3;have y0:=gF HQ.out.use;have y1:=gG HQ.out.use;have Og:=aa (HT.out.below HQ.out.below);have Oh:=aa (ab (HQ.out.fr.cells _ _ _ _ SZ.out (by decide)) 0)
  go_wp2_with fail
  refine(Fe W5).mono ?_;rintro e w6 ⟨rfl,rfl⟩;go_wp2_with fail
  refine(eG b node _ _ _ Og.out Oh.out HX.out).mono ?_;rintro e w7 ⟨v,rfl,⟨g1,rfl⟩,h1,h2⟩;have H1:=aa h1;have H2:=aa h2;clear h1 h2;go_wp2_with fail
  go_ret
  exact iJ HQ.out.below (aL cB (aL (ah _) HQ.out.below.size)) H2.out H1.out
theorem IQ {node f:Nat} {s:ByteArray} {line:Int} {st:aF} (h:(st.names.find? fun n=>decide (n.s=s))=none):lP node f s line st=.ok (st.cK node (1,0)):=by
 unfold lP;rw[h]
theorem IS {node f:Nat} {s:ByteArray} {line:Int} {st:aF} {n:jj} (h:(st.names.find? fun n=>decide (n.s=s))=some n):lP node f s line st=match fw n st.fns.length f st.fns with
  | none=>.error (12,line)
  | some (F,k,i)=>.ok (({ st with fns:=F}:aF).cK node (k,(i:Int))):=by
 unfold lP;rw[h];dsimp only
 unfold fw;by_cases e:n.fn=f
 ·rw[al e,al e.symm]
 ·rw[af e,af fun e'=>e e'.symm]
  have:st.fns.set n.fn (cZ (st.fn n.fn) n.i)=fS n st.fns:=rfl;rw[this];cases lO n st.fns.length (fS n st.fns) f with
  | none=>rfl
  | some r=>rfl
theorem Oi {T:List Nd} {B:Nat} {nv:Value} {ub ob:Nat} (b node f:Nat) (h:Nd) (loop:Int) (pa la:Option Addr) (lc:Nat) (L:List cV) (st:aF) (w:World) (hT:vx w B nv T) (hw:jL w B b nv T.length st ub ob) (hx:T[node]? = some h) (hl:dk w B (.slice la L.length lc) L) (hn:st.names=mh L) (CN:Cx f st) (n9:dQ st.fns) (NK:st.fns.length≤100000) (wk:L.length≤100000) (hs:h.s.size≤maxLen) :
  Calls Tryz.prog 54 #[.pointer (some ⟨b,0,none⟩),.int .i64 (node:Int),.agg #[.int .i64 (f:Int),.int .i64 loop,.pointer pa,.slice la L.length lc]] w (gC B b nv T.length ub ob (lP node f h.s h.line st) w):=by
 obtain⟨_,_,_,_,_,cB,_⟩:=hT.nodes;have key :∀W,Below w.heap.size w W→Calls Tryz.prog 109 #[.pointer (some ⟨b,0,none⟩),.string h.s,.agg #[.int .i64 (f:Int),.int .i64 loop,.pointer pa,.slice la L.length lc]] W (A4 B b nv T.length ub ob st f h.s W) :=
  fun W hb=>IM b f h.s loop pa la lc L st W (hw.later hb) (hl.jh (ob:=0) (cW.bP hb cB) (ah _)) hn CN n9 NK wk hs
 cases hf:st.names.find? fun n=>decide (n.s=h.s) with
 | none =>
  rw[IQ hf];refine IP b node f h loop 0 0 pa la lc L st st w hT hw hx fun W hb=>(key W hb).mono ?_
  rintro e w' ⟨h1,h2,h3⟩;rw[hf] at h3;exact⟨h3.1,h1,h2,fun _=>h3.2⟩
 | some n =>
  rw[IS hf];cases hR:fw n st.fns.length f st.fns with
  | none =>
   refine Oe b node f h loop 0 0 pa la lc L st st w hT hw hx fun W hb=>(key W hb).mono ?_
   rintro e w' ⟨h1,h2,h3⟩;rw[hf] at h3;simp only[hR] at h3;exact⟨h3,h1,h2,fun h=>absurd h (by decide)⟩
  | some r =>
   obtain⟨F,kd,j⟩:=r;refine Ob b node f h loop kd (j:Int) pa la lc L st { st with fns:=F} w hT hw hx fun W hb=>(key W hb).mono ?_
   rintro e w' ⟨h1,h2,h3⟩;rw[hf] at h3;simp only[hR] at h3;exact⟨h3.1,h1,h2,fun _=>h3.2⟩
theorem Oj (x:e8) (s:ByteArray):((JB x).2.2 s).isSome=(ca x.kids s).isSome:=by
 show(fB x.kids x.rep x.kids.length s).isSome=_
 unfold fB;rw[AU];cases ca x.kids s<;>rfl
theorem uT (s:ByteArray) (l:List e8):(l.map JB).find? (fun x=>(x.2.2 s).isSome)=(l.find? fun x=>(ca x.kids s).isSome).map JB:=by
 rw[List.find?_map];congr 1
 congr 1
 funext x
 exact Oj x s
theorem A9 (l:List e8):NL (l.map JB):=by
 intro x hx s v hv;obtain⟨y,_,rfl⟩:=jr.1 hx;replace hv:fB y.kids y.rep y.kids.length s=some v:=hv;unfold fB at hv;cases e:nx y.kids y.rep y.kids.length s with
 | none=>rw[e] at hv;cases hv
 | some p =>
  rw[e] at hv;injection hv with hv;exact⟨_,_,hv.symm⟩
theorem wS {node f:Nat} {s:ByteArray} {line:Int} {st:aF} (h:((dE f st.frames).map JB).find? (fun x=>(x.2.2 s).isSome)=none):dm node f s line st st.frames=.error (8,line):=by
 rw[uT] at h;rw[nR,Option.map_eq_none_iff.1 h]
theorem wT {node f:Nat} {s:ByteArray} {line a d:Int} {st:aF} {x:Nat×Nat×(ByteArray→Option Value)} (h:((dE f st.frames).map JB).find? (fun x=>(x.2.2 s).isSome)=some x) (hx:x.2.2 s=some (.agg #[.int .i64 a,.int .i64 d])):dm node f s line st st.frames=if (x.1:Int)<d then .error (10,line) else .ok (st.cK node (4,a)):=by
 rw[uT,Option.map_eq_some_iff] at h;obtain⟨y,hy,rfl⟩:=h;rw[nR,hy];replace hx:fB y.kids y.rep y.kids.length s=some (.agg #[.int .i64 a,.int .i64 d]):=hx;unfold fB at hx;rw[AU] at hx;dsimp only
 cases e:ca y.kids s with
 | none=>rw[e] at hx;cases hx
 | some j =>
  rw[e] at hx;dsimp only[Option.map] at hx
  injection hx with hx;injection hx with hx;have hx1:[Value.int .i64 ((y.kids.getD j (.mk 0 ⟨0,0,0,0,⟨#[]⟩,[],[]⟩ [])).loc:Int),.int .i64 (ry y.kids y.rep j:Int)]=[.int .i64 a,.int .i64 d]:=az Array.toList hx;injection hx1 with e1 e2;injection e2 with e2 _;injection e1 with _ e1;injection e2 with _ e2;subst e1 e2;obtain⟨z,hz,hl,_⟩:=uM e;have hz2:qC z=true:=by
   unfold kW at hl;unfold qC;simp only[di] at hl;exact hl.1
  dsimp only
  rw[SL hz hz2];show(if decide (gN y.kids (y.at_+1)<ry y.kids y.rep j)=true then _ else _)=if ((gN y.kids (y.at_+1):Nat):Int)<_ then _ else _
  by_cases h1:gN y.kids (y.at_+1)<ry y.kids y.rep j
  ·rw[al (bZ h1),al (by omega)]
  ·rw[af (by rw[cr h1];simp),af (by omega)]
structure JQ (w:World) (s:ByteArray) (fs:List (Nat×Nat×(ByteArray→Option Value))) (pa:Option Addr) (a d:Int) (W:World) (g:Nat):Prop where
 below:Below w.heap.size w W
 fnd:gm W s fs (.pointer pa) (.agg #[.int .i64 a,.int .i64 d])
 c0:W.cell? ⟨g,0,none⟩=some (.int .i64 a)
 c1:W.cell? ⟨g,1,none⟩=some (.int .i64 d)
 new:w.heap.size≤g
 lt:g<W.heap.size
theorem gm.later {W W':World} {s:ByteArray} {fs:List (Nat×Nat×(ByteArray→Option Value))} {pv wP:Value} (h:gm W s fs pv wP) (hb:Below W.heap.size W W'):gm W' s fs pv wP:=by
 unfold gm at h ⊢;split
 ·rename_i e
  rw[e] at h;exact h
 ·rename_i x e
  rw[e] at h;obtain⟨k,h1,h2,h3,h4⟩:=h;exact⟨k,h1,h2,(hb.cell (p:=⟨k,2,none⟩) h4).trans h3,cL h4 hb.size⟩
theorem gm.far {W W':World} {s:ByteArray} {fs:List (Nat×Nat×(ByteArray→Option Value))} {pv wP:Value} {n:Nat} (h:gm W s fs pv wP) (hn :∀k,pv=.pointer (some ⟨k,0,none⟩)→k<n) (hsz:W.heap.size≤W'.heap.size) (hb :∀k,k<n→W'.heap[k]? = W.heap[k]?):gm W' s fs pv wP:=by
 unfold gm at h ⊢;split
 ·rename_i e
  rw[e] at h;exact h
 ·rename_i x e
  rw[e] at h;obtain⟨k,h1,h2,h3,h4⟩:=h;exact⟨k,h1,h2,(World.cell?_of_block (a:=⟨k,2,none⟩) (hb k (hn k h1))).trans h3,cL h4 hsz⟩
theorem acG {w W1 w2:World} {s:ByteArray} {fs:List (Nat×Nat×(ByteArray→Option Value))} {pa:Option Addr} {a d:Int} (b1:Below w.heap.size w W1) (b2:Below W1.heap.size W1 w2) (hf:gm w2 s fs (.pointer pa) (.agg #[.int .i64 a,.int .i64 d])) (hle:w.heap.size≤W1.heap.size):JQ w s fs pa a d (w2.alloc (.cells #[.int .i64 a,.int .i64 d] 199)) w2.heap.size :=
 ⟨(b1.trans (b2.mono hle)).alloc (aL hle b2.size) _,hf.later ((Below.refl _ _).alloc (ah _) _),ab (heap_alloc_new _ _) 0,ab (heap_alloc_new _ _) 1,aL hle b2.size,by rw[ao];omega⟩
theorem acH {w W1 w2:World} {s:ByteArray} {fs:List (Nat×Nat×(ByteArray→Option Value))} {pa:Option Addr} {a d x y:Int} (b1:Below w.heap.size w W1) (b2:Below W1.heap.size W1 w2) (hf:gm w2 s fs (.pointer pa) (.agg #[.int .i64 a,.int .i64 d])) (hn :∀k,Value.pointer pa=.pointer (some ⟨k,0,none⟩)→k<W1.heap.size) (hle:w.heap.size≤W1.heap.size) (hz:w2.heap[W1.heap.size]? = some (.cells #[.int .i64 x,.int .i64 y] 199 (0,0))):JQ w s fs pa a d ((w2.setCell ⟨W1.heap.size,0,none⟩ (.int .i64 a)).setCell ⟨W1.heap.size,1,none⟩ (.int .i64 d)) W1.heap.size :=
 ⟨((b1.trans (b2.mono hle)).setCell (p:=⟨W1.heap.size,0,none⟩) hle _).setCell (p:=⟨W1.heap.size,1,none⟩) hle _,hf.far hn (by rw[ny];exact ah _) (fun k hk=>ql w2 W1.heap.size _ _ k (by omega)),ab (yr hz _ _) 0,ab (yr hz _ _) 1,hle,by rw[ny];exact(aJ.1 hz).1⟩
theorem gm.lt {W:World} {s:ByteArray} {fs:List (Nat×Nat×(ByteArray→Option Value))} {pa:Option Addr} {wP:Value} (h:gm W s fs (.pointer pa) wP) :∀k,Value.pointer pa=.pointer (some ⟨k,0,none⟩)→k<W.heap.size:=by
 intro k hk;unfold gm at h;split at h
 ·rw[hk] at h;cases h.1
 ·obtain⟨k',h1,_,_,h4⟩:=h
  rw[hk] at h1;injection h1 with h1;injection h1 with h1;injection h1 with h1;omega
theorem gm.old {W:World} {s:ByteArray} {fs:List (Nat×Nat×(ByteArray→Option Value))} {pa:Option Addr} {wP:Value} {x y:Value} (h:gm (W.alloc (.cells #[x,y] 199)).drew s fs (.pointer pa) wP) :∀k,Value.pointer pa=.pointer (some ⟨k,0,none⟩)→k<W.heap.size:=by
 intro k hk;have h1:=h.lt k hk;replace h1:k<(W.alloc (.cells #[x,y] 199)).heap.size:=h1;rw[ao] at h1;by_cases e:k=W.heap.size
 ·exfalso
  subst e;unfold gm at h;split at h
  ·rw[hk] at h;cases h.1
  ·obtain⟨k',h2,_,h3,_⟩:=h
   rw[hk] at h2;injection h2 with h2;injection h2 with h2;injection h2 with h2;subst h2;have h4:=ab (heap_alloc_new W (.cells #[x,y] 199)) 2;replace h3:(W.alloc (.cells #[x,y] 199)).cell? ⟨W.heap.size,2,none⟩=_:=h3;rw[h4] at h3;cases h3
 ·omega
theorem iw {a w:World} (h:Below a.drew.heap.size a.drew w):Below a.heap.size a w:=⟨h.os,h.tape,h.output,h.size,h.block⟩
theorem gm.no {W:World} {s:ByteArray} {fs:List (Nat×Nat×(ByteArray→Option Value))} {pa:Option Addr} {wP:Value} (h:gm W s fs (.pointer pa) wP) (e:fs.find? (fun x=>(x.2.2 s).isSome)=none):pa=none:=by
 unfold gm at h;rw[e] at h;have:=h.1;injection this
theorem gm.yes {W:World} {s:ByteArray} {fs:List (Nat×Nat×(ByteArray→Option Value))} {pa:Option Addr} {wP:Value} {x:Nat×Nat×(ByteArray→Option Value)} (h:gm W s fs (.pointer pa) wP) (e:fs.find? (fun x=>(x.2.2 s).isSome)=some x) :∃k,pa=some ⟨k,0,none⟩∧x.2.2 s=some wP∧W.cell? ⟨k,2,none⟩=some (.int .i64 (x.1:Int))∧k<W.heap.size:=by
 unfold gm at h;rw[e] at h;obtain⟨k,h1,h2⟩:=h;injection h1 with h1;exact⟨k,h1,h2⟩
theorem gm.Ok {W:World} {s:ByteArray} {fs:List (Nat×Nat×(ByteArray→Option Value))} {pv wP:Value} (h:gm W.drew s fs pv wP):gm W s fs pv wP:=h
theorem Ba {W w2:World} {b bk j p N f c o:Nat} {s:ByteArray} {loop:Int} {pa la:Option Addr} {ln lc:Nat} (h:W.cell? ⟨b,0,none⟩=some (.slice (some ⟨bk,o,none⟩) N c)∧W.cell? ⟨bk,j,none⟩=some (.string s)∧W.cell? ⟨p,0,none⟩=some (.int .i64 (f:Int))∧W.cell? ⟨p,1,none⟩=some (.int .i64 loop)∧W.cell? ⟨p,2,none⟩=some (.pointer pa)∧W.cell? ⟨p,3,none⟩=some (.slice la ln lc)) (hb:b<W.heap.size) (hk:bk<W.heap.size) (hp:p<W.heap.size) (hB:Below W.heap.size W w2) :
  w2.cell? ⟨b,0,none⟩=some (.slice (some ⟨bk,o,none⟩) N c)∧w2.cell? ⟨bk,j,none⟩=some (.string s)∧w2.cell? ⟨p,0,none⟩=some (.int .i64 (f:Int))∧w2.cell? ⟨p,1,none⟩=some (.int .i64 loop)∧w2.cell? ⟨p,2,none⟩=some (.pointer pa)∧w2.cell? ⟨p,3,none⟩=some (.slice la ln lc) :=
 ⟨(hB.cell (p:=⟨b,0,none⟩) hb).trans h.1,(hB.cell (p:=⟨bk,j,none⟩) hk).trans h.2.1,(hB.cell (p:=⟨p,0,none⟩) hp).trans h.2.2.1,(hB.cell (p:=⟨p,1,none⟩) hp).trans h.2.2.2.1,(hB.cell (p:=⟨p,2,none⟩) hp).trans h.2.2.2.2.1,(hB.cell (p:=⟨p,3,none⟩) hp).trans h.2.2.2.2.2⟩
theorem Ol {T:List Nd} {B:Nat} {nv:Value} {ub ob:Nat} (b node f:Nat) (h:Nd) (loop:Int) (pa la:Option Addr) (lc ln:Nat) (ms:List Nat) (st:aF) (w:World) (hT:vx w B nv T) (hw:jL w B b nv T.length st ub ob) (hx:T[node]? = some h) (hc:oD w B (dE f st.frames) ms (.pointer pa)) (hs:h.s.size≤maxLen) :
  Calls Tryz.prog 59 #[.pointer (some ⟨b,0,none⟩),.int .i64 (node:Int),.agg #[.int .i64 (f:Int),.int .i64 loop,.pointer pa,.slice la ln lc]] w (gC B b nv T.length ub ob (dm node f h.s h.line st st.frames) w):=by
 obtain⟨bk,o,c,rfl,bS,cB,cN⟩:=hT.nodes;obtain⟨qD,qE,dS,_,_⟩:=cN node h hx;have jz:node<T.length:=(aK.1 hx).1;have qF:=hT.few;obtain⟨fv,FL,hw⟩:=hw;obtain⟨hbl,pg,tH⟩:=hw.gK;have HW:=aa hw;have hb4:=hw.blk;have d0:=ab hb4 0;replace d0:_=some (Value.slice (some ⟨bk,o,none⟩) T.length c):=d0;have d4:=SX dS;have iK:bk<w.heap.size:=by omega
 have HT:=aa hT;have HX:=aa hx;obtain⟨fs,BU⟩ :∃fs,fs=(dE f st.frames).map JB:=⟨_,rfl⟩;have UL:=aa BU;replace hc:cw w B fs ms (.pointer pa):=BU▸hc;have S0:NL fs:=BU▸A9 _;have yz:Hid (∀W,Below w.heap.size w W→Calls Tryz.prog 116 #[.pointer pa,.string h.s] W fun e w'=>∃S3 a d,e=.returned (.tuple #[.pointer S3,.agg #[.int .i64 a,.int .i64 d]])∧gm W h.s fs (.pointer S3) (.agg #[.int .i64 a,.int .i64 d])∧Below W.heap.size W w'):=aa fun W hW=>AV fs ms _ h.s W (hc.later hW) hs S0
 clear hw hT hx dS cN hb4 hc S0 BU;go_enter Tryz.func59,Tryz.ntmps59
 go_wp2_with fail
 have dU:=aa ((Below.refl w.heap.size w).alloc (ah _) (.cells #[.int .i64 (f:Int),.int .i64 loop,.pointer pa,.slice la ln lc] 92));have dh:=heap_alloc_new w (.cells #[.int .i64 (f:Int),.int .i64 loop,.pointer pa,.slice la ln lc] 92);have x0:=ab dh 0;have x1:=ab dh 1;have x2:=ab dh 2;have x3:=ab dh 3;replace x0:_=some (Value.int .i64 (f:Int)):=x0;replace x1:_=some (Value.int .i64 loop):=x1;replace x2:_=some (Value.pointer pa):=x2;replace x3:_=some (Value.slice la ln lc):=x3;have e0:=(dU.out.cell (p:=⟨b,0,none⟩) hbl).trans d0;have e4:=(dU.out.cell (p:=⟨bk,o+node*7+4,none⟩) iK).trans d4;have hs1:(w.alloc (.cells #[.int .i64 (f:Int),.int .i64 loop,.pointer pa,.slice la ln lc] 92)).heap.size=w.heap.size+1:=ao _ _;generalize w.alloc (.cells #[.int .i64 (f:Int),.int .i64 loop,.pointer pa,.slice la ln lc] 92)=W1 at *;have eM:=aa hs1;clear d0 d4 dh hs1;have kk:Hid (W1.cell? ⟨b,0,none⟩=some (.slice (some ⟨bk,o,none⟩) T.length c)∧W1.cell? ⟨bk,o+node*7+4,none⟩=some (.string h.s)∧W1.cell? ⟨w.heap.size,0,none⟩=some (.int .i64 (f:Int))∧W1.cell? ⟨w.heap.size,1,none⟩=some (.int .i64 loop)∧W1.cell? ⟨w.heap.size,2,none⟩=some (.pointer pa)∧W1.cell? ⟨w.heap.size,3,none⟩=some (.slice la ln lc)):=aa ⟨e0,e4,x0,x1,x2,x3⟩;have hb1:b<W1.heap.size:=(by have:=eM.out;omega)
 have iO:bk<W1.heap.size:=(by have:=eM.out;omega)
 have dZ:w.heap.size<W1.heap.size:=(by have:=eM.out;omega)
 have lX:w.heap.size≤W1.heap.size:=fj dZ;have CO:b≠W1.heap.size:=jt hb1;have fR:bk≠W1.heap.size:=jt iO;have XX:w.heap.size≠W1.heap.size:=jt dZ;have sI:B≤W1.heap.size:=aL cB lX;go_region_held3 (fun w'=>w'.cell? ⟨b,0,none⟩=some (.slice (some ⟨bk,o,none⟩) T.length c)∧w'.cell? ⟨bk,o+node*7+4,none⟩=some (.string h.s)∧w'.cell? ⟨w.heap.size,0,none⟩=some (.int .i64 (f:Int))∧w'.cell? ⟨w.heap.size,1,none⟩=some (.int .i64 loop)∧w'.cell? ⟨w.heap.size,2,none⟩=some (.pointer pa)∧w'.cell? ⟨w.heap.size,3,none⟩=some (.slice la ln lc))
  (first|exact kk.out|exact qn kk.out hb1 iO dZ _|exact yy kk.out CO fR XX _ _)
  (first
   | (go_at_call 116;refine(yz.out W1.drew dU.out.drew).mono ?_;rintro e w2 ⟨S3,a,d,rfl,me,sJ⟩;have B2:=aa (dv sJ);have F2:=aa (me.Ok.later (dv sJ));have kk:=aa (Ba kk.out hb1 iO dZ (dv sJ));have hb1:b<w2.heap.size:=cL hb1 B2.out.size;have iO:bk<w2.heap.size:=cL iO B2.out.size;have dZ:w.heap.size<w2.heap.size:=cL dZ B2.out.size;clear sJ me)
   | (go_at_call 116;refine(yz.out (W1.alloc (.cells #[.int .i64 0,.int .i64 0] 199)).drew (dU.out.alloc lX _).drew).mono ?_;rintro e w2 ⟨S3,a,d,rfl,me,sJ⟩;have hbb:=iw sJ;have B2:=aa (((Below.refl _ W1).alloc (ah _) (.cells #[.int .i64 0,.int .i64 0] 199)).trans (hbb.mono (by rw[ao];omega)));have F2:=aa (me.Ok.later hbb);have N2:=aa me.old;have hz2:=(hbb.block W1.heap.size (by rw[ao];omega)).trans (heap_alloc_new W1 (.cells #[.int .i64 0,.int .i64 0] 199));have q0:=gF hz2;have q1:=gG hz2;have q2:=aw hz2 0;have q3:=aw hz2 1;have Z2:=aa hz2;have kk:=aa (Ba kk.out hb1 iO dZ B2.out);clear sJ me hz2 hbb))
 ·have HJ:=aa (acG dU.out B2.out F2.out lX)
  generalize w2.alloc (.cells #[.int .i64 a,.int .i64 d] 199)=W5 at HJ ⊢;generalize w2.heap.size=g at HJ ⊢;clear B2 F2 yz dU eM kk e0 e4 x0 x1 x2 x3;have j0:=HJ.out.c0;have j1:=HJ.out.c1;have ik:=HW.out.later HJ.out.below;obtain⟨xU,hl2,Jw⟩:=ik.gK;have qN:=HJ.out.lt;have Og:=aa (HT.out.below (HJ.out.below.mono cB));have Oh:=aa (ab ik.blk 0);have uh:B≤W5.heap.size:=aL cB HJ.out.below.size;have d2:W5.cell? ⟨b,2,none⟩=some (.slice (some ⟨ub,0,none⟩) T.length T.length):=ab ik.blk 2;obtain⟨u0,v0⟩:=bJ ik.uses (j:=node*2) (by omega)
  obtain⟨u1,v1⟩:=bJ ik.uses (j:=node*2+1) (by omega)
  have qq:=aa ik;clear ik;cases qo:fs.find? (fun x=>(x.2.2 h.s).isSome) with
  | none =>
   have hp:=HJ.out.fnd.no qo;subst hp;have HE:=aa (wS (node:=node) (line:=h.line) (UL.out▸qo));clear qo d2 u0 v0 u1 v1;go_wp2_with fail
   refine(eG b node _ _ _ Og.out Oh.out HX.out).mono ?_;rintro e w6 ⟨v,rfl,⟨g2,rfl⟩,h1,h2⟩;have H1:=aa h1;have H2:=aa h2;clear h1 h2;go_wp2_with fail
   go_ret
   rw[HE.out];exact iJ (HJ.out.below.mono cB) uh H2.out H1.out
  | some x =>
   obtain⟨kb,hp,Zc,hk2,vY⟩:=HJ.out.fnd.yes qo;subst hp;have HE:=aa (wT (node:=node) (line:=h.line) (UL.out▸qo) Zc);clear qo Zc;by_cases hlt:(x.1:Int)<d
   ·have g1:decide ((x.1:Int)<d)=true:=bZ hlt
    have HL:=aa hlt;clear hlt d2 u0 v0 u1 v1;go_wp2_with fail
    go_region
    go_wp2_with fail
    refine(eG b node _ _ _ (Og.out.below (Below.refl _ _).drew) Oh.out HX.out).mono ?_;rintro e w6 ⟨v,rfl,⟨g2,rfl⟩,h1,h2⟩;have H1:=aa h1;have H2:=aa h2;clear h1 h2;go_wp2_with fail
    go_ret
    rw[HE.out,al HL.out];exact iJ (HJ.out.below.mono cB).drew uh H2.out H1.out
   ·have g1:decide ((x.1:Int)<d)=false:=cr hlt
    have HL:=aa hlt;clear hlt;go_wp2_with fail
    go_region
    go_wp2_with fail
    go_region
    go_wp2_with fail
    go_ret
    rw[HE.out,af (Int.not_lt.2 HL.out)];exact⟨(((HJ.out.below.mono cB).drew.setCell (p:=⟨ub,node*2,none⟩) qq.out.ja.1 _).setCell (p:=⟨ub,node*2+1,none⟩) qq.out.ja.1 _).drew,rfl,⟨_,_,(qq.out.drew.use node (4,a)).drew⟩,((Fr.ae HJ.out.below).drew.trans ((lT qq.out.drew node _ _).mono (by decide))).drew⟩
 ·have HJ:=aa (acH dU.out B2.out F2.out N2.out lX Z2.out)
  generalize (w2.setCell ⟨W1.heap.size,0,none⟩ (.int .i64 a)).setCell ⟨W1.heap.size,1,none⟩ (.int .i64 d)=W5 at HJ ⊢;generalize W1.heap.size=g at HJ ⊢;clear q0 q1 q2 q3 Z2 N2 B2 F2 yz dU eM kk e0 e4 x0 x1 x2 x3;have j0:=HJ.out.c0;have j1:=HJ.out.c1;have ik:=HW.out.later HJ.out.below;obtain⟨xU,hl2,Jw⟩:=ik.gK;have qN:=HJ.out.lt;have Og:=aa (HT.out.below (HJ.out.below.mono cB));have Oh:=aa (ab ik.blk 0);have uh:B≤W5.heap.size:=aL cB HJ.out.below.size;have d2:W5.cell? ⟨b,2,none⟩=some (.slice (some ⟨ub,0,none⟩) T.length T.length):=ab ik.blk 2;obtain⟨u0,v0⟩:=bJ ik.uses (j:=node*2) (by omega)
  obtain⟨u1,v1⟩:=bJ ik.uses (j:=node*2+1) (by omega)
  have qq:=aa ik;clear ik;cases qo:fs.find? (fun x=>(x.2.2 h.s).isSome) with
  | none =>
   have hp:=HJ.out.fnd.no qo;subst hp;have HE:=aa (wS (node:=node) (line:=h.line) (UL.out▸qo));clear qo d2 u0 v0 u1 v1;go_wp2_with fail
   refine(eG b node _ _ _ Og.out Oh.out HX.out).mono ?_;rintro e w6 ⟨v,rfl,⟨g2,rfl⟩,h1,h2⟩;have H1:=aa h1;have H2:=aa h2;clear h1 h2;go_wp2_with fail
   go_ret
   rw[HE.out];exact iJ (HJ.out.below.mono cB) uh H2.out H1.out
  | some x =>
   obtain⟨kb,hp,Zc,hk2,vY⟩:=HJ.out.fnd.yes qo;subst hp;have HE:=aa (wT (node:=node) (line:=h.line) (UL.out▸qo) Zc);clear qo Zc;by_cases hlt:(x.1:Int)<d
   ·have g1:decide ((x.1:Int)<d)=true:=bZ hlt
    have HL:=aa hlt;clear hlt d2 u0 v0 u1 v1;go_wp2_with fail
    go_region
    go_wp2_with fail
    refine(eG b node _ _ _ (Og.out.below (Below.refl _ _).drew) Oh.out HX.out).mono ?_;rintro e w6 ⟨v,rfl,⟨g2,rfl⟩,h1,h2⟩;have H1:=aa h1;have H2:=aa h2;clear h1 h2;go_wp2_with fail
    go_ret
    rw[HE.out,al HL.out];exact iJ (HJ.out.below.mono cB).drew uh H2.out H1.out
   ·have g1:decide ((x.1:Int)<d)=false:=cr hlt
    have HL:=aa hlt;clear hlt;go_wp2_with fail
    go_region
    go_wp2_with fail
    go_region
    go_wp2_with fail
    go_ret
    rw[HE.out,af (Int.not_lt.2 HL.out)];exact⟨(((HJ.out.below.mono cB).drew.setCell (p:=⟨ub,node*2,none⟩) qq.out.ja.1 _).setCell (p:=⟨ub,node*2+1,none⟩) qq.out.ja.1 _).drew,rfl,⟨_,_,(qq.out.drew.use node (4,a)).drew⟩,((Fr.ae HJ.out.below).drew.trans ((lT qq.out.drew node _ _).mono (by decide))).drew⟩
theorem IT (n:jj) (iv:List jj) (s:ByteArray):jS (n::iv) s=if s=n.s then some (.int .i64 (n.i:Int)) else jS iv s:=by
 unfold jS;rw[kH];by_cases e:s=n.s
 ·subst e
  simp
 ·rw[af e,cr fun h=>e h.symm]
theorem eW {W W':World} {m:Nat} (hg:W.grownBy W' (some m)) (hm :∃es c,W.heap[m]? = some (.map es c)) :∀(k:Nat) c (e:TypeId) fz,W.heap[k]? = some (.cells c e fz)→W'.heap[k]? = some (.cells c e fz):=fun k c e fz hk=>by
 obtain⟨es,c',hb⟩:=hm;refine(hg.block k (aJ.1 hk).1 fun e'=>?_).trans hk
 injection e' with e';subst e';rw[hb] at hk;cases hk
theorem hH {W W':World} {B e s n:Nat} {v:Value} {xs:List Value} (hk :∀(k:Nat) c (e:TypeId) fz,W.heap[k]? = some (.cells c e fz)→W'.heap[k]? = some (.cells c e fz)) (hu:W.ownsRow B e s v n xs):W'.ownsRow B e s v n xs:=by
 refine⟨hu.1,?_⟩;rcases hu.2 with hn | ⟨g,cap,cur,rfl,hB,hg,rest⟩
 ·exact .inl hn
 ·exact .inr ⟨g,cap,cur,rfl,hB,hk g _ _ _ hg,rest⟩
theorem eV.keep {W W':World} {B b:Nat} {nv:Value} {N:Nat} {st:aF} {fv:Value} {ub ob:Nat} {L:List oC} (h:eV W B b nv N st fv ub ob L) (hk :∀(k:Nat) c (e:TypeId) fz,W.heap[k]? = some (.cells c e fz)→W'.heap[k]? = some (.cells c e fz)):eV W' B b nv N st fv ub ob L :=
 ⟨hk b _ _ _ h.blk,⟨hH hk h.fns.row,fun t ht=>hH hk (h.fns.vars t ht),fun t ht=>hH hk (h.fns.cz t ht),h.fns.qi,h.fns.rn⟩,h.are,hH hk h.uses,hH hk h.pe,h.pos⟩
theorem eV.names {W:World} {B b:Nat} {nv:Value} {N:Nat} {st:aF} {fv:Value} {ub ob:Nat} {L:List oC} (h:eV W B b nv N st fv ub ob L) (ns:List jj):eV W B b nv N { st with names:=ns} fv ub ob L:=h.on rfl rfl rfl
theorem S4 {ops:Array Oper} {rest:List Oper} {o:Oper} {a:Act} {Q:Exit→Act→World→Prop} (w:World) (n:mq) (hgd:o.guard=none) (sl y:Operand)
  (ho:o.op=.call { callee:=.builtin .append,args:=#[sl,y],argTypes:=#[49,49]}) (B:Nat) (v:Value) (ns:List mq) (hs:a.eval sl=v) (hown:w.ownsRow B 61 3 v ns.length (ns.flatMap sG)) (g:Nat) (hg:g=w.heap.size) (hy:a.eval y=.slice (some ⟨g,0,none⟩) 1 1)
  (hlen:ns.length≤1000000) (hB:B≤w.heap.size)
  (h :∀g' c' w',w'.ownsRow B 61 3 (.slice (some ⟨g',0,none⟩) (ns.length+1) c') (ns++[n]).length ((ns++[n]).flatMap sG)→qB v.ownBlock w w'→Below B w w'→(v.ownBlock=some g'∨w.heap.size≤g')→wpList Tryz.prog ops Q rest (a.put o.dst (.slice (some ⟨g',0,none⟩) (ns.length+1) c')) w') :
  wpList Tryz.prog ops Q (o::rest) a (w.alloc (.cells (sG n).toArray 61)):=by
 obtain⟨i0,mL,hz0,hz1,hz2⟩:=info_parts Iz;refine XE w (sG n) hgd sl y 49 61 i0 _ 3 32 ho Tryz.underlying49 mL hz0 hz1 hz2 rfl (by omega) (by omega) B v ns.length _ hs hown g hg hy rfl (by intro u hu;simp[sG] at hu;rcases hu with rfl|rfl|rfl<;>rfl) hlen hB ?_
 intro g' c' w' r1 r2 r3 r4;refine h g' c' w' ?_ r2 r3 r4;rw[cC,mw,py,DM];exact r1
structure acI (w wr:World) (B b:Nat) (nv:Value) (N:Nat) (st s1:aF) (g n c ub ob:Nat) (L1:List oC) (lv:Value) (nl m f:Nat) (iv a:List jj):Prop where
 rs:eV wr B b nv N s1 (.slice (some ⟨g,0,none⟩) L1.length c) ub ob L1
 len:L1.length=n
 jh:cW B ob lv nl (some m) w wr
 map:dJ Tryz.prog 9 wr m (a++iv).length (jS (a++iv))
 own :∀x∈a,x.fn=f
 names:s1.names=a++st.names
 few:dQ s1.fns
theorem j7 {T:List Nd} {B:Nat} {nv:Value} {ub ob:Nat} (b node f:Nat) (h:Nd) (loop:Int) (pa la:Option Addr) (lc:Nat) (l:cV) (r:List cV) (st:aF) (w:World) (hT:vx w B nv T) (hw:jL w B b nv T.length st ub ob) (hx:T[node]? = some h) (hf:f<st.fns.length) (hl:dk w B (.slice la (l::r).length lc) (l::r)) (hlf:l.fn=f) (hrl:(l::r).length≤100000) (n9:dQ st.fns) (rB:l.iv.length≤100000) (hsz :∀s∈h.names,s.size≤65536) :
  Calls Tryz.prog 113 #[.pointer (some ⟨b,0,none⟩),.int .i64 (node:Int),.agg #[.int .i64 (f:Int),.int .i64 loop,.pointer pa,.slice la (l::r).length lc]] w (aq B b nv T.length ub ob (.slice la (l::r).length lc) (l::r) st (bo node f h.line h.names st) w):=by
 obtain⟨fv,FL,hw⟩:=hw;obtain⟨⟨t1,tv,tu⟩,ht⟩:=hw.AR hf;obtain⟨g,c,rfl,XG,qN,sC⟩:=hw.fns.form ht;have hfn:=(hw.si ht).2;obtain⟨bk,o,tc,rfl,bS,cB,hn⟩:=hT.nodes;have jz:node<T.length:=(aK.1 hx).1;have wk:=hw.len;have NK:f<FL.length:=by omega
 have qF:=hT.few;have PC:h.names.length≤20000:=(hT.small h (aM hx)).2;obtain⟨hbl,pg,tH⟩:=hw.gK;obtain⟨qD,qE,dS,hst,_⟩:=hn node h hx;have c5:=dS.c5;obtain⟨NA,nc,rfl,hnc,_⟩:=id hst;obtain⟨VA,vc,UN,hvc,_⟩:=eA (hw.fns.vars _ (aM ht));simp only at UN hvc;subst UN;have d0:w.cell? ⟨b,0,none⟩=some (.slice (some ⟨bk,o,none⟩) T.length tc):=ab hw.blk 0;have d1:w.cell? ⟨b,1,none⟩=some (.slice (some ⟨g,0,none⟩) FL.length c):=ab hw.blk 1;have d2:w.cell? ⟨b,2,none⟩=some (.slice (some ⟨ub,0,none⟩) T.length T.length):=ab hw.blk 2;have e4:w.cell? ⟨g,f*6+4,none⟩=some (.slice VA t1.vars.length vc):=(sC 4 (by omega)).1
 obtain⟨u0,v0⟩:=bJ hw.uses (j:=node*2) (by omega)
 obtain⟨u1,v1⟩:=bJ hw.uses (j:=node*2+1) (by omega)
 obtain⟨ga,rfl,hgal,m1⟩ :∃ga,la=some ⟨ga,0,none⟩∧ga<w.heap.size∧w.cell? ⟨ga,r.length*2+1,none⟩=some (.map (some l.blk)):=by
  obtain⟨A,cc,he,_,hr⟩:=eA hl.row;injection he with tR _ _;subst tR;rcases hr with h0 | ⟨ga,rfl,_,h2,h3⟩
  ·simp at h0
  ·refine⟨ga,rfl,h2,?_⟩
   rw[h3 (r.length*2+1) (by rw[List.length_cons];omega)]
   have hq:(l::r).reverse[r.length]? = some l:=by simp
   exact iu yq _ r.length 1 l hq (by omega)
 have hmi:=(hl.maps l (bV ..)).1.isMap;have yN:=(hl.maps l (bV ..)).1;have hmB:=(hl.maps l (bV ..)).2;have adr:((l::r).length:Int)=(r.length:Int)+1:=by simp
 have sK:bk≠ub:=by have:=hw.ja.1;omega
 have hbu:b≠ub:=fun e=>by
  obtain⟨cs,hcs⟩:=ld hw.uses;rw[←e,hw.blk] at hcs;injection hcs with hcs;injection hcs with _ hcs;exact absurd hcs (by decide)
 have HW:=aa hw;have HT:=aa hT;have HX:=aa hx;have HST:=aa hst;have HFN:=aa hfn;have HL:=aa hl;have HMI:=aa hmi;have HML:=aa yN;have HTF:=aa ht;clear hw hT hx hst hfn ht sC hn dS hl hmi yN wk;go_enter Tryz.func113,Tryz.ntmps113
 go_wp2_with fail
 go_region
 go_wp2_with fail
 go_region
 obtain⟨W2,hW2⟩ :∃W2,W2=(((w.setCell ⟨ub,node*2,none⟩ (.int .i64 2)).setCell ⟨ub,node*2+1,none⟩ (.int .i64 (t1.vars.length:Int))).alloc (.cells #[.int .i64 (f:Int),.int .i64 loop,.pointer pa,.slice (some ⟨ga,0,none⟩) (r.length+1) lc] 92)).drew.drew:=⟨_,rfl⟩;have hR2:=HW.out.use node (2,(t1.vars.length:Int));have hF2:Fr [57] w W2:=by rw[hW2];exact(((lT HW.out node _ _).trans (Fr.alloc _)).drew).drew
 have hB2:Below B w W2:=by rw[hW2];exact(((uI HW.out node _ _).alloc (by simp;omega) _).drew).drew
 have hR2:eV W2 B b (.slice (some ⟨bk,o,none⟩) T.length tc) T.length (st.cK node (2,(t1.vars.length:Int))) (.slice (some ⟨g,0,none⟩) FL.length c) ub ob FL:=by rw[hW2];exact((hR2.alloc _).drew).drew
 rw[←hW2];clear hW2 d0 d1 d2 e4 u0 v0 u1 v1 m1;have d0:W2.cell? ⟨b,0,none⟩=some (.slice (some ⟨bk,o,none⟩) T.length tc):=ab hR2.blk 0;have c5:=(hB2.cell (p:=⟨bk,o+node*7+5,none⟩) bS).trans c5;have lM:=aa (cW.uH (ob:=ob) (v:=.slice (some ⟨ga,0,none⟩) (r.length+1) lc) (n:=r.length+1) (top:=some l.blk) hF2 (by decide) hB2)
 have HM2:=aa (hF2.map HML.out);have vq:=aa hR2;clear hF2 hB2 hR2;go_wp2_with fail
 obtain⟨R,hR⟩ :∃R,R=bo node f h.line h.names st:=⟨_,rfl⟩;have HR:=aa hR;clear hR d0 c5;go_loopw [50] (fun tk wr=>∃(k:Nat) (s1:aF) (L1:List oC) (a:List jj),tk=.int .i64 (k:Int)∧k≤h.names.length∧acI w wr B b (.slice (some ⟨bk,o,none⟩) T.length tc) T.length st s1 g FL.length c ub ob L1 (.slice (some ⟨ga,0,none⟩) (r.length+1) lc) (r.length+1) l.blk f l.iv a∧a.length=k∧du node f h.line (h.names.drop k) s1=R) (fun tk _=>h.names.length-(intOf tk).toNat)
 case atStart =>
  refine⟨0,st.cK node (2,(t1.vars.length:Int)),FL,[],rfl,bK _,⟨vq.out,rfl,lM.out,HM2.out,by simp,rfl,n9⟩,rfl,?_⟩
  rw[HR.out,tj];unfold bo;rw[HFN.out]
 case round =>
  obtain⟨k,s1,L1,a,rfl,hk,hd,hak,hgo⟩:=hrel;have hL1:=hd.len;have acJ:f<L1.length:=by omega
  obtain⟨⟨y1,yv,yu⟩,hy⟩ :∃t,L1[f]? = some t:=⟨L1[f],bX acJ⟩;obtain⟨g',c',ph,_,hgl1,XY⟩:=hd.rs.fns.form hy;injection ph with ph _ hcc;injection ph with ph;injection ph with ph _ _;subst ph hcc;obtain⟨VA1,vc1,UN,acK,_⟩:=eA (hd.rs.fns.vars _ (aM hy));simp only at UN acK;subst UN;have e4:wr.cell? ⟨g,f*6+4,none⟩=some (.slice VA1 y1.vars.length vc1):=(XY 4 (by omega)).1
  have z4:=(XY 4 (by omega)).2
  have aaQ:=(hd.rs.si hy).2;have ads:y1.vars.length≤200:=(hd.few f y1 (hd.rs.si hy).1).1;have aaR:=aa aaQ;have HD:=aa hd;have Uc:=aa hgo;have HY:=aa hy;clear hd hgo hy aaQ XY;by_cases hlt:k<h.names.length
  ·obtain⟨s,hsk⟩ :∃s,h.names[k]? = some s:=⟨h.names[k],bX hlt⟩
   have hdr:=eT hsk;have hssz:=hsz s (aM hsk);obtain⟨A',c',he,_,iT⟩:=(HST.out.below HD.out.jh.below);injection he with tR _ he2;subst tR he2;rcases iT with h0 | ⟨sb,so,rfl,XZ,hsc⟩
   ·rw[h0] at hlt;exact absurd hlt (jq _)
   have cs:=hsc k s hsk;have tK:=aa hdr;have mu:=aa hlt;clear hsc hsk hdr;by_cases Ek:y1.vars.length=200
   ·have g1:((y1.vars.length:Int) == 200)=true:=by rw[Ek];rfl
    have HC:=aa (ab HD.out.rs.blk 0);have Ai:=aa (HT.out.below HD.out.jh.below);go_wp2_with fail
    refine(eG b node _ _ _ Ai.out HC.out HX.out).mono ?_;rintro e w2 ⟨v,rfl,⟨g2,rfl⟩,h1,h2⟩;have H1:=aa h1;have H2:=aa h2;clear h1 h2;go_wp2_with fail
    go_ret
    have hE:bo node f h.line h.names st=.error (11,h.line):=by
     rw[←HR.out,←Uc.out,tK.out,du,aaR.out,al (by omega)]
    rw[hE];exact⟨HD.out.jh.below.trans (H2.out.mono (aL cB HD.out.jh.below.size)),_,rfl,H1.out⟩
   ·have g1:((y1.vars.length:Int) == 200)=false:=aG.2 (by omega)
    have hBr:B≤wr.heap.size:=aL cB HD.out.jh.below.size;obtain⟨W7,hrun,hm7,hg7⟩:=HD.out.map.put (t:=236) (e:=3) Tryz.underlying9 Tryz.underlying236 (by rw[cC];unfold maxLen;omega) s (by unfold maxLen;omega) (.int .i64 (y1.vars.length:Int)) rfl
    have kU:=eW hg7 HD.out.map.isMap;have hR7:=HD.out.rs.keep kU;have UQ:=HD.out.jh.trans (cW.of_map hg7 HD.out.map.isMap hmB hBr);obtain⟨g',c',ph,_,hgl7,X0⟩:=hR7.fns.form HY.out;injection ph with ph _ hcc;injection ph with ph;injection ph with ph _ _;subst ph hcc;have e47:W7.cell? ⟨g,f*6+4,none⟩=some (.slice VA1 y1.vars.length vc1):=(X0 4 (by omega)).1
    have z47:=(X0 4 (by omega)).2
    have hB7:B≤W7.heap.size:=aL hBr hg7.size;have aaS:y1.vars.length≤1000000:=by omega
    have SN:f*6+4<L1.length*6:=by omega
    have R7:=aa hR7;have F7:=aa UQ;have M7:=aa hm7;clear X0 hR7 UQ hm7 hg7 kU;go_wp2_with (at_builtin;refine S4 W7 ⟨s,node,false⟩ rfl _ _ rfl B (.slice VA1 y1.vars.length vc1) y1.vars rfl (R7.out.fns.vars _ (aM HY.out)) W7.heap.size rfl rfl aaS hB7 ?_;intro g8 c8 w8 r8 b8 UM n8;have QO:=aa (R7.out.Nw HY.out b8 r8 (fun k hk=>by injection hk with hk;subst hk;exact n8));have PH:=aa UM;have uR:=b8.row R7.out.fns.row (fun k hk e=>eh R7.out.fns.row (R7.out.fns.vars _ (aM HY.out)) (by decide) k hk e);have e43:w8.cell? ⟨g,f*6+4,none⟩=some (.slice VA1 y1.vars.length vc1):=(World.ownsRow.cellAt uR (f*6+4) SN).trans (iu qf L1 f 4 _ HY.out (by omega));have z43:=World.ownsRow.frozenAt uR (f*6+4);clear r8 b8 UM n8 uR)
    have HF8:=aa (F7.out.trans (cW.uH (ob:=ob) (v:=.slice (some ⟨ga,0,none⟩) (r.length+1) lc) (n:=r.length+1) (top:=some l.blk) QO.out.2 (by decide) (PH.out.setCell (p:=⟨g,f*6+4,none⟩) XG _)))
    refine⟨⟨k+1,{ s1.oB f { y1 with vars:=y1.vars++[⟨s,node,false⟩]} with names:=⟨s,f,y1.vars.length⟩::s1.names},L1.set f ({ y1 with vars:=y1.vars++[⟨s,node,false⟩]},.slice (some ⟨g8,0,none⟩) (y1.vars.length+1) c8,yu),⟨s,f,y1.vars.length⟩::a,by go_num,mu.out,⟨?_,by rw[kG];exact hL1,HF8.out,?_,?_,by rw[fh];exact az _ HD.out.names,?_⟩,by rw[List.length_cons,hak],?_⟩,by have:=mu.out;simp[intOf];omega⟩
    ·rw[kG]
     exact QO.out.1.names _
    ·have h9:=(M7.out.ext (g:=jS (⟨s,f,y1.vars.length⟩::(a++l.iv))) fun x=>(IT ⟨s,f,y1.vars.length⟩ (a++l.iv) x).symm).mono (m:=(⟨s,f,y1.vars.length⟩::(a++l.iv)).length) (by rw[List.length_cons];exact ah _)
     exact QO.out.2.map h9
    ·intro x hx
     rcases bq.1 hx with rfl|hx
     ·rfl
     ·exact HD.out.own x hx
    ·show dQ (s1.fns.set f _)
     exact HD.out.few.set ⟨by rw[cC,mw];omega,(HD.out.few f y1 (HD.out.rs.si HY.out).1).2⟩
    ·rw[←Uc.out,tK.out]
     conv=>rhs;rw[du,aaR.out,af (by show ¬ 200≤y1.vars.length;omega)]
  ·have yO:k=h.names.length:=by omega
   go_wp2_with fail
   go_ret
   have hE:bo node f h.line h.names st=.ok s1:=by
    rw[←HR.out,←Uc.out,yO,vI,du]
   rw[hE];exact⟨HD.out.jh.below,rfl,⟨_,_,HD.out.rs⟩,HD.out.jh,a,HD.out.names,(fun e=>by cases e),HL.out.more HD.out.jh (ah _) HD.out.map fun x hx=>(HD.out.own x hx).trans hlf.symm⟩
theorem lY {B:Nat} {a w:World} (h:Below B a w) (n:Nat):Below B a (w.drewN n):=⟨h.os,h.tape,h.output,h.size,h.block⟩
theorem Om {ks:List Lt} {e:Nat} {x:Lt} (hx:ks[e]? = some x) (hl:qC x=true) (h:(ks.drop (e+1)).all qC=true):(ks.drop e).all qC=true:=by
 rw[drop_at hx,rI,hl,h];rfl
theorem S5 {T:List Nd} {B:Nat} {nv:Value} (b:Nat) (kv:Value) (ks:List Lt) (tested:Bool) (fv uv ov:Value) (w:World) (hT:vx w B nv T) (hw:w.heap[b]? = some (.cells #[nv,fv,uv,ov] 87 (0,0))) (hu:gB w B kv (ks.map fun k=>(k.loc:Int))) (fJ:Lt.uq T ks) (vY:ks.length≤20000) :
  Calls Tryz.prog 162 #[.pointer (some ⟨b,0,none⟩),kv,.bool tested] w fun e w'=>e=.returned (.int .i64 ((if tested then ks.length else lh ks:Nat):Int))∧Below w.heap.size w w':=by
 obtain⟨bk,o,c,rfl,bS,cB,hn⟩:=hT.nodes;obtain⟨UA,uc,rfl,XJ,hu⟩:=hu;simp only[cD] at XJ hu ⊢;have hbl:b<w.heap.size:=(aJ.1 hw).1;have d0:=ab hw 0;replace d0:_=some (Value.slice (some ⟨bk,o,none⟩) T.length c):=d0;have qF:=hT.few;have HN:=aa hn;have HIN:=aa fJ;have HU:=aa hu;clear hn hu hT fJ hw;cases tested with
 | true =>
  go_enter Tryz.func162,Tryz.ntmps162
  go_wp2_with fail
  go_ret
  exact⟨rfl,Below.refl _ _⟩
 | false =>
  go_enter Tryz.func162,Tryz.ntmps162
  go_wp2_with fail
  go_loopw [7] (fun t wr=>∃e:Nat,t=.int .i64 (e:Int)∧e≤ks.length∧(ks.drop e).all qC=true∧Below w.heap.size w wr) (fun t _=>(intOf t).toNat)
  case atStart=>exact⟨ks.length,rfl,ah _,by simp,Below.refl _ _⟩
  case round =>
   obtain⟨e,rfl,he,hall,hb⟩:=hrel;have yA:=aa hall;have HB:=aa hb;have d0r:=(hb.cell (p:=⟨b,0,none⟩) hbl).trans d0;clear hall hb;cases e with
   | zero =>
    have g1:decide ((0:Int)<((0:Nat):Int))=false:=by decide
    go_wp2_with fail
    go_quiet (fail)
    go_wp2_with fail
    go_ret
    exact⟨by rw[(ru ks).2 yA.out];rfl,lY HB.out _⟩
   | succ e =>
    obtain⟨x,hx⟩ :∃x,ks[e]? = some x:=⟨ks[e],bX (by omega)⟩
    have g1:decide ((0:Int)<((e+1:Nat):Int))=true:=bZ (by omega)
    rcases HU.out with h0 | ⟨sb,so,rfl,XZ,hsc⟩
    ·exfalso
     rw[pz] at h0;rw[h0] at he;exact absurd he (by simp)
    have cs:wr.cell? ⟨sb,so+e,none⟩=some (.int .i64 (x.loc:Int)):=(HB.out.cell (p:=⟨sb,so+e,none⟩) (by show sb<_;omega)).trans (hsc e _ (by rw[iA,hx];rfl))
    obtain⟨X6,IU⟩:=uC HIN.out hx;have hxl:x.loc<T.length:=(aK.1 IU).1;obtain⟨qD,qE,dS,_,_⟩:=HN.out x.loc x.hd IU;have ck:=(HB.out.cell (p:=⟨bk,o+x.loc*7,none⟩) (by show bk<_;omega)).trans dS.c0
    have HX:=aa hx;clear hsc hx dS X6 IU;cases hl:qC x with
    | true =>
     have g2:(x.hd.kind == 32)=true:=hl;go_wp2_with fail
     go_quiet (fail)
     go_wp2_with fail
     exact⟨⟨e,rfl,by omega,Om HX.out hl yA.out,lY HB.out _⟩,by simp[intOf]⟩
    | false =>
     have g2:(x.hd.kind == 32)=false:=hl;go_wp2_with fail
     go_quiet (fail)
     go_wp2_with fail
     go_ret
     exact⟨by rw[SK he yA.out (.inr ⟨x,HX.out,hl⟩)];rfl,lY HB.out _⟩
theorem S7 {fr:List e8} {f:Nat} {ks:List Lt} {rep:Bool} {n c:Nat} {s:ByteArray}:((∃j,ca ks s=some j∧j<n)∨∃x∈fr,x.loop=false∧x.fn=f∧(ca x.kids s).isSome)↔(((c,n,fB ks rep n)::(dE f fr).map JB).find? fun x=>(x.2.2 s).isSome).isSome=true:=by
 rw[kH,NI];have h1:(fB ks rep n s).isSome=(nx ks rep n s).isSome:=by unfold fB;cases nx ks rep n s<;>rfl
 have h2:=NG (ks:=ks) (rep:=rep) (n:=n) (s:=s);dsimp only
 rw[h1];cases e:(nx ks rep n s).isSome with
 | true =>
  rw[e] at h2;simp only[Option.isSome_some,iff_true];exact .inl (h2.1 rfl)
 | false =>
  rw[e] at h2;dsimp only
  rw[uT];have h3:¬∃j,ca ks s=some j∧j<n:=fun h=>by have:=h2.2 h;cases this
  rw[Option.isSome_map];exact⟨fun h=>h.resolve_left h3,.inr⟩
theorem Oo {fr:List e8} {f n:Nat} {all r:List Lt} {x:Lt} (hk:x.hd.kind=32) (h:(∃j,ca all x.hd.s=some j∧j<n)∨∃y∈fr,y.loop=false∧y.fn=f∧(ca y.kids x.hd.s).isSome):cA fr f all n (x::r)=some x.hd.line:=by
 rw[cA,al ⟨hk,h⟩]
theorem Oq {fr:List e8} {f n:Nat} {all r:List Lt} {x:Lt} (h:¬ (x.hd.kind=32∧((∃j,ca all x.hd.s=some j∧j<n)∨∃y∈fr,y.loop=false∧y.fn=f∧(ca y.kids x.hd.s).isSome))):cA fr f all n (x::r)=cA fr f all (n+1) r:=by
 rw[cA,af h]
theorem Dv {ks:List Lt} {rep:Bool} {n:Nat} {x:Lt} (hx:ks[n]? = some x) (h:qC x=false):fB ks rep (n+1)=fB ks rep n:=by
 funext s
 unfold fB;rw[uN hx];unfold kW;unfold qC at h;rw[h,zf]
theorem wU {ks:List Lt} {rep:Bool} {n:Nat} {x:Lt} (hx:ks[n]? = some x) (h:qC x=true) (hn:¬∃j,ca ks x.hd.s=some j∧j<n) (s:ByteArray):(if s=x.hd.s then some (.agg #[.int .i64 (x.loc:Int),.int .i64 (ry ks rep n:Int)]) else fB ks rep n s)=fB ks rep (n+1) s:=by
 by_cases e:s=x.hd.s
 ·subst e
  rw[al rfl];unfold fB;rw[IC hx h hn];rfl
 ·rw[af e]
  unfold fB;rw[uN hx];unfold kW;have h2:decide (x.hd.s=s)=false:=cr fun e'=>e e'.symm
  rw[h2,Bool.and_false]
theorem IV {ks:List Lt} {rep:Bool} {n c:Nat} {l:List e8}:NL ((c,n,fB ks rep n)::l.map JB):=by
 intro x hx s v hv;rcases bq.1 hx with rfl|hx
 ·replace hv:fB ks rep n s=some v:=hv
  unfold fB at hv;cases e:nx ks rep n s with
  | none=>rw[e] at hv;cases hv
  | some p =>
   rw[e] at hv;injection hv with hv;exact⟨_,_,hv.symm⟩
 ·exact A9 l x hx s v hv
theorem grown_of {W W':World} {m:Nat} (h:Below W.heap.size W W'):W.grownBy W' (some m):=⟨h.os,h.tape,h.output,h.size,fun k hk _=>h.block k hk⟩
theorem cw.grown {W W':World} {B m:Nat} (hg:W.grownBy W' (some m)) (hm :∃es c,W.heap[m]? = some (.map es c)) :∀{fs:List (Nat×Nat×(ByteArray→Option Value))} {ms:List Nat} {p:Value},cw W B fs ms p→m∉ms→cw W' B fs ms p
 | [],_,_,h,_=>h
 | x::fs,ms,p,h,ht=>by
  obtain⟨k',p',m',BQ,rfl,rfl,h1,h2,h3,h4,h5,h6⟩:=h;have hne:m'≠m:=fun e=>ht (e▸bV ..)
  exact⟨k',p',m',BQ,rfl,rfl,h1,eW hg hm k' _ _ _ h2,h3.same (hg.block m' h3.lt fun e=>hne (by injection e with e)),h4,h5,cw.grown hg hm h6 fun h=>ht (bY _ h)⟩
theorem j8 {W W':World} {B m:Nat} (h:W.grownBy W' (some m)) (hm:B≤m) (hB:B≤W.heap.size):Below B W W':=⟨h.os,h.tape,h.output,h.size,fun k hk=>h.block k (by omega) fun e=>by injection e with e;omega⟩
def Bb (m:Nat) (ks:List Lt) (rep:Bool) (r:Option Int) (w:World) (e:Ending) (w':World):Prop :=
 w.grownBy w' (some m)∧match r with
 | none=>e=.returned .nilIface∧dJ Tryz.prog 9 w' m ks.length (fB ks rep ks.length)
 | some l=>∃v,e=.returned v∧IE w' v l 9
theorem Fg {ks:List Lt} {rep:Bool} {n:Nat} (h:n<ks.length):ry ks rep n=if decide ((n:Int)<((if rep then ks.length else lh ks:Nat):Int))=true then gN ks n else 0:=by
 unfold ry;cases rep with
 | true =>
  rw[al (.inl rfl),al (bZ (by show(n:Int)<(ks.length:Int);omega))]
 | false =>
  by_cases h1:n<lh ks
  ·rw[al (.inr h1),al (bZ (by show(n:Int)<(lh ks:Int);omega))]
  ·rw[af (by rintro(h2|h2);cases h2;exact h1 h2),af (by simp only[iy];show ¬ (n:Int)<(lh ks:Int);omega)]
theorem Ot {T:List Nd} {B:Nat} {nv:Value} (b kb m f:Nat) (p:Option Addr) (kv:Value) (ks:List Lt) (fr:List e8) (ms:List Nat) (rep:Bool) (fv uv ov:Value) (w:World) (hT:vx w B nv T) (hw:w.heap[b]? = some (.cells #[nv,fv,uv,ov] 87 (0,0))) (hu:gB w B kv (ks.map fun k=>(k.loc:Int))) (fJ:Lt.uq T ks) (vY:ks.length≤20000)
  (hkb:w.heap[kb]? = some (.cells #[.pointer p,.map (some m),.int .i64 0] 195 (0,0))) (hm:dJ Tryz.prog 9 w m 0 (fun _=>none)) (hc:oD w B (dE f fr) ms (.pointer p)) (S8 :∀a,p=some a→a.block<kb) (hmm:m∉ms) (hBk:B≤kb) (hBm:B≤m) (hs :∀x∈ks,x.hd.s.size≤65536) :
  Calls Tryz.prog 114 #[.pointer (some ⟨b,0,none⟩),.pointer (some ⟨kb,0,none⟩),kv,.bool rep] w (Bb m ks rep (cA fr f ks 0 ks) w):=by
 obtain⟨bk,o,c,rfl,bS,cB,hn⟩:=hT.nodes;have S9:=S5 (T:=T) (B:=B) b kv ks rep fv uv ov w hT hw hu fJ vY;obtain⟨UA,uc,rfl,XJ,hu⟩:=hu;simp only[cD] at XJ hu S9 ⊢;have hbl:b<w.heap.size:=(aJ.1 hw).1;have acL:kb<w.heap.size:=(aJ.1 hkb).1;have qF:=hT.few;obtain⟨E,hE⟩ :∃E:Nat,E=(if rep=true then ks.length else lh ks):=⟨_,rfl⟩
 rw[←hE] at S9;have HE0:=aa hE;clear hE;have HW:=aa hw;have HT:=aa hT;have HIN:=aa fJ;have HU:=aa hu;have HKB:=aa hkb;have HM:=aa hm;have HC:=aa hc;have acM:=aa S9;have HS:=aa hs;clear hn hu hT fJ hw hkb hm hc S9 hs;go_enter Tryz.func114,Tryz.ntmps114
 go_wp2_with fail
 refine acM.out.mono ?_;rintro e w1 ⟨rfl,hb1⟩;have dU:=aa hb1;clear hb1;go_wp2_with fail
 go_loopw [10,23] (fun td tk wr=>∃n:Nat,tk=.int .i64 (n:Int)∧td=.int .i64 (gN ks n:Int)∧n≤ks.length∧w.grownBy wr (some m)∧dJ Tryz.prog 9 wr m n (fB ks rep n)∧cA fr f ks n (ks.drop n)=cA fr f ks 0 ks) (fun _ tk _=>ks.length-(intOf tk).toNat)
 case atStart =>
  refine⟨0,rfl,by rw[AT];rfl,bK _,grown_of dU.out,?_,by rw[tj]⟩
  exact(HM.out.same (dU.out.block m HM.out.lt)).ext fun s=>by unfold fB;rw[IB];rfl
 case round =>
  obtain⟨n,rfl,rfl,BZ,hg,hm,hr⟩:=hrel;have wh:=j8 hg hBm cB;have B9:=eW hg HM.out.isMap;have hbr:=B9 b _ _ _ HW.out;have aaT:=B9 kb _ _ _ HKB.out;have d0:=ab hbr 0;replace d0:_=some (Value.slice (some ⟨bk,o,none⟩) T.length c):=d0;have aaU:b<wr.heap.size:=cL hbl hg.size;have Ou:kb<wr.heap.size:=cL acL hg.size;have hdc:gN ks n≤20000:=aL (ND ks n) vY;have HG:=aa hg;have PI:=aa hm;have HR:=aa hr;have lo:=aa wh;have QY:=aa hbr;have HKR:=aa aaT;clear hg hm hr wh hbr aaT B9;by_cases hlt:n<ks.length
  ·obtain⟨x,hx⟩ :∃x,ks[n]? = some x:=⟨ks[n],bX hlt⟩
   have Zc:=HS.out x (aM hx);rcases HU.out with h0 | ⟨sb,so,rfl,XZ,hsc⟩
   ·exfalso
    rw[pz] at h0;rw[h0] at hlt;exact absurd hlt (by simp)
   have cs:wr.cell? ⟨sb,so+n,none⟩=some (.int .i64 (x.loc:Int)):=(lo.out.cell (p:=⟨sb,so+n,none⟩) XZ).trans (hsc n _ (by rw[iA,hx];rfl))
   obtain⟨X6,IU⟩:=uC HIN.out hx;have hxl:x.loc<T.length:=(aK.1 IU).1;have Ai:=aa (HT.out.below lo.out);obtain⟨bk2,o2,tc2,X9,_,_,qS⟩:=Ai.out.nodes;injection X9 with X9 _ htc;injection X9 with X9;injection X9 with X9 hto _;subst X9 hto htc;obtain⟨qD,qE,dS,⟨NA,nc,kA,_⟩,⟨KA,kc,jw,_⟩⟩:=qS x.loc x.hd IU;subst kA jw;have c0:=dS.c0;have c1:=dS.c1;have c2:=dS.c2;have c3:=dS.c3;have c4:=dS.c4;have c5:=dS.c5;have c6:=dS.c6;have hdr:=eT hx;have HXT:=aa IU;have tK:=aa hdr;have HX:=aa hx;have mu:=aa hlt;have Ov:Hid (Calls Tryz.prog 115 #[.pointer (some ⟨b,0,none⟩),.int .i64 (x.loc:Int)] wr fun e w'=>e=.returned (.bool (isDecl x))∧wr=w'):=aa (sj b x.loc x.hd wr Ai.out d0 IU)
   clear IU hdr hx dS qS X6 hsc;by_cases yB:x.hd.kind=32
   ·have Dw:isDecl x=false:=by unfold isDecl;rw[yB];rfl
    have vj:gN ks (n+1)=gN ks n:=by rw[uL HX.out,Dw];rfl
    have hcn:cw wr B ((0,n,fB ks rep n)::(dE f fr).map JB) (m::ms) (.pointer (some ⟨kb,0,none⟩)):=⟨kb,p,m,ms,rfl,rfl,hBk,HKR.out,PI.out,hBm,S8,cw.grown HG.out HM.out.isMap HC.out hmm⟩;have HCN:=aa hcn;rw[Dw] at Ov;have Zd:=aa vj;have Ta:=aa yB;have g2:(x.hd.kind != 32)=false:=by rw[yB];rfl
    clear hcn vj Dw yB;go_wp2_with fail
    refine Ov.out.mono ?_;rintro e w2 ⟨rfl,rfl⟩;go_wp2_with fail
    obtain⟨W3,hW3⟩ :∃W3,W3=wr.alloc (.cells #[.int .i64 x.hd.kind,.int .i64 x.hd.line,.int .i64 x.hd.op,.int .i64 x.hd.num,.string x.hd.s,.slice NA x.hd.names.length nc,.slice KA x.hd.kids.length kc] 55):=⟨_,rfl⟩;rw[←hW3];have B3:Hid (Below wr.heap.size wr W3):=aa (by rw[hW3];exact(Below.refl _ _).alloc (ah _) _)
    have n4:W3.cell? ⟨wr.heap.size,4,none⟩=some (.string x.hd.s):=by rw[hW3];exact ab (heap_alloc_new _ _) 4
    have hs3:wr.heap.size<W3.heap.size:=by rw[hW3,ao];omega
    clear hW3;refine(AV _ _ _ x.hd.s W3 (HCN.out.later B3.out) (by unfold maxLen;omega) IV).mono ?_
    rintro e w4 ⟨S3,a,d,rfl,hF,hb4⟩;have oQ:=S7 (fr:=fr) (f:=f) (ks:=ks) (rep:=rep) (n:=n) (c:=0) (s:=x.hd.s);have n4:=(hb4.cell (p:=⟨wr.heap.size,4,none⟩) hs3).trans n4;have BX:=B3.out.trans (hb4.mono (fj hs3));have hw4:wr.heap.size<w4.heap.size:=cL hs3 hb4.size;have m4:=(BX.cell (p:=⟨kb,1,none⟩) Ou).trans (ab HKR.out 1);replace m4:_=some (Value.map (some m)):=m4;have B4:=aa BX;clear BX hb4;cases qo:((0,n,fB ks rep n)::(dE f fr).map JB).find? (fun y=>(y.2.2 x.hd.s).isSome) with
    | some y =>
     obtain⟨k2,hp,_,_,_⟩:=hF.yes qo;subst hp;rw[qo] at oQ;have HE:Hid (cA fr f ks 0 ks=some x.hd.line):=aa (by rw[←HR.out,tK.out,Oo Ta.out (oQ.2 rfl)])
     have Og:=aa ((Ai.out.below (B4.out.mono (aL cB HG.out.size))).below ((Below.refl B w4).alloc (aL (aL cB HG.out.size) B4.out.size) (.cells #[.int .i64 a,.int .i64 d] 199)));have Oh:=aa (((Below.refl w4.heap.size w4).alloc (ah _) (.cells #[.int .i64 a,.int .i64 d] 199)).cell (p:=⟨b,0,none⟩) (cL aaU B4.out.size) |>.trans ((B4.out.cell (p:=⟨b,0,none⟩) aaU).trans d0));clear hF qo oQ;go_wp2_with fail
     refine(eG b x.loc _ _ _ Og.out Oh.out HXT.out).mono ?_;rintro e w6 ⟨v,rfl,⟨g2,rfl⟩,h1,h2⟩;have H1:=aa h1;have H2:=aa h2;clear h1 h2;go_wp2_with fail
     go_ret
     rw[HE.out];exact⟨HG.out.trans ((grown_of B4.out).trans ((World.grownBy_alloc _ _ _).trans (grown_of H2.out))),_,rfl,H1.out⟩
    | none =>
     have hp:=hF.no qo;subst hp;rw[qo] at oQ;have En:¬ ((∃j,ca ks x.hd.s=some j∧j<n)∨∃y∈fr,y.loop=false∧y.fn=f∧(ca y.kids x.hd.s).isSome):=fun h=>by have:=oQ.1 h;cases this
     have HE:Hid (cA fr f ks (n+1) (ks.drop (n+1))=cA fr f ks 0 ks):=aa (by rw[←HR.out,tK.out,Oq fun h=>En h.2])
     have XI:Hid (¬∃j,ca ks x.hd.s=some j∧j<n):=aa fun h=>En (.inl h)
     clear hF qo oQ En;by_cases fJ:n<E
     ·have g3:decide ((n:Int)<(E:Int))=true:=bZ (by omega)
      go_wp2_with fail
      obtain⟨W5,Tc⟩ :∃W5,W5=(w4.alloc (.cells #[.int .i64 a,.int .i64 d] 199)).alloc (.cells #[.int .i64 (x.loc:Int),.int .i64 (gN ks n:Int)] 199):=⟨_,rfl⟩;rw[←Tc];have b5:Below w4.heap.size w4 W5:=by rw[Tc];exact Below.two _ _
      have Ya:W5.heap[w4.heap.size+1]? = some (.cells #[.int .i64 (x.loc:Int),.int .i64 (gN ks n:Int)] 199 (0,0)):=by
       rw[Tc];have:=heap_alloc_new (w4.alloc (.cells #[.int .i64 a,.int .i64 d] 199)) (.cells #[.int .i64 (x.loc:Int),.int .i64 (gN ks n:Int)] 199);rwa[ao] at this
      have l0:=gF Ya;have l1:=gG Ya;clear Tc Ya;have n5:=(b5.cell (p:=⟨wr.heap.size,4,none⟩) hw4).trans n4;have m5:=(b5.cell (p:=⟨kb,1,none⟩) (cL Ou B4.out.size)).trans m4;have Ef:=B4.out.trans (b5.mono B4.out.size);have hM5:dJ Tryz.prog 9 W5.drew m n (fB ks rep n):=PI.out.same (Ef.block m PI.out.lt);obtain⟨W6,hrun,hm6,Uz⟩:=hM5.put (t:=193) (e:=199) Tryz.underlying9 Tryz.underlying193 (by unfold maxLen;omega) x.hd.s (by unfold maxLen;omega) (.agg #[.int .i64 (x.loc:Int),.int .i64 (gN ks n:Int)]) rfl
      have QD:qC x=true:=bZ Ta.out;have hD:(ry ks rep n:Int)=(gN ks n:Int):=by
       rw[Fg mu.out,←HE0.out];rw[g3];rfl
      have HG6:=aa (HG.out.trans ((grown_of (m:=m) Ef.drew).trans Uz));have HM6:Hid (dJ Tryz.prog 9 W6 m (n+1) (fB ks rep (n+1))):=aa (hm6.ext fun s=>by have:=wU (rep:=rep) HX.out QD XI.out s;rw[hD] at this;exact this)
      clear hm6 Uz Ef b5 hM5 QD hD n4 m4 c0 c1 c2 c3 c4 c5 c6 cs d0;go_region
      go_wp2_with fail
      exact⟨⟨n+1,by go_num,by rw[Zd.out],mu.out,HG6.out,HM6.out,HE.out⟩,by have:=mu.out;simp[intOf];omega⟩
     ·have g3:decide ((n:Int)<(E:Int))=false:=cr (by omega)
      go_wp2_with fail
      obtain⟨W5,Tc⟩ :∃W5,W5=(w4.alloc (.cells #[.int .i64 a,.int .i64 d] 199)).alloc (.cells #[.int .i64 (x.loc:Int),.int .i64 0] 199):=⟨_,rfl⟩;rw[←Tc];have b5:Below w4.heap.size w4 W5:=by rw[Tc];exact Below.two _ _
      have Ya:W5.heap[w4.heap.size+1]? = some (.cells #[.int .i64 (x.loc:Int),.int .i64 0] 199 (0,0)):=by
       rw[Tc];have:=heap_alloc_new (w4.alloc (.cells #[.int .i64 a,.int .i64 d] 199)) (.cells #[.int .i64 (x.loc:Int),.int .i64 0] 199);rwa[ao] at this
      have l0:=gF Ya;have l1:=gG Ya;clear Tc Ya;have n5:=(b5.cell (p:=⟨wr.heap.size,4,none⟩) hw4).trans n4;have m5:=(b5.cell (p:=⟨kb,1,none⟩) (cL Ou B4.out.size)).trans m4;have Ef:=B4.out.trans (b5.mono B4.out.size);have hM5:dJ Tryz.prog 9 W5.drew m n (fB ks rep n):=PI.out.same (Ef.block m PI.out.lt);obtain⟨W6,hrun,hm6,Uz⟩:=hM5.put (t:=193) (e:=199) Tryz.underlying9 Tryz.underlying193 (by unfold maxLen;omega) x.hd.s (by unfold maxLen;omega) (.agg #[.int .i64 (x.loc:Int),.int .i64 0]) rfl
      have QD:qC x=true:=bZ Ta.out;have hD:(ry ks rep n:Int)=0:=by
       rw[Fg mu.out,←HE0.out];rw[g3];rfl
      have HG6:=aa (HG.out.trans ((grown_of (m:=m) Ef.drew).trans Uz));have HM6:Hid (dJ Tryz.prog 9 W6 m (n+1) (fB ks rep (n+1))):=aa (hm6.ext fun s=>by have:=wU (rep:=rep) HX.out QD XI.out s;rw[hD] at this;exact this)
      clear hm6 Uz Ef b5 hM5 QD hD n4 m4 c0 c1 c2 c3 c4 c5 c6 cs d0;go_region
      go_wp2_with fail
      exact⟨⟨n+1,by go_num,by rw[Zd.out],mu.out,HG6.out,HM6.out,HE.out⟩,by have:=mu.out;simp[intOf];omega⟩
   ·have hl0:qC x=false:=cr yB
    have HWO:=aa (Dv (rep:=rep) HX.out hl0);have HE:Hid (cA fr f ks (n+1) (ks.drop (n+1))=cA fr f ks 0 ks):=aa (by rw[←HR.out,tK.out,Oq fun h=>yB h.1])
    have g2:(x.hd.kind != 32)=true:=om.2 yB;have vj:=uL HX.out;have Ta:=aa yB;clear yB hl0;cases Dw:isDecl x with
    | true =>
     rw[Dw] at Ov vj;replace vj:gN ks (n+1)=gN ks n+1:=vj;have Zd:=aa vj;clear vj Dw;go_wp2_with fail
     refine Ov.out.mono ?_;rintro e w2 ⟨rfl,rfl⟩;go_wp2_with fail
     exact⟨⟨n+1,by go_num,by rw[Zd.out];go_num,mu.out,HG.out.trans (World.grownBy_alloc _ _ _),by rw[HWO.out];exact(PI.out.same ((World.grownBy_alloc wr _ none).block m PI.out.lt (by simp))).mono (fX n),HE.out⟩,by have:=mu.out;simp[intOf];omega⟩
    | false =>
     rw[Dw] at Ov vj;replace vj:gN ks (n+1)=gN ks n:=vj;have Zd:=aa vj;clear vj Dw;go_wp2_with fail
     refine Ov.out.mono ?_;rintro e w2 ⟨rfl,rfl⟩;go_wp2_with fail
     exact⟨⟨n+1,by go_num,by rw[Zd.out],mu.out,HG.out.trans (World.grownBy_alloc _ _ _),by rw[HWO.out];exact(PI.out.same ((World.grownBy_alloc wr _ none).block m PI.out.lt (by simp))).mono (fX n),HE.out⟩,by have:=mu.out;simp[intOf];omega⟩
  ·have yO:n=ks.length:=by omega
   go_wp2_with fail
   go_ret
   have hE:cA fr f ks 0 ks=none:=by
    rw[←HR.out,yO,vI,cA]
   rw[hE];subst yO;exact⟨HG.out,rfl,PI.out⟩
theorem Fh {α:Type} {L:List α} {x t:α} {i:Nat} (h:(L++[x])[i]? = some t):L[i]? = some t∨(i=L.length∧t=x):=by
 by_cases hi:i<L.length
 ·rw[kC hi] at h
  exact .inl h
 ·rw[yX (by omega)] at h
  have:=(aK.1 h).1;rw[mw] at this;obtain h0:i-L.length=0:=by omega
  rw[h0] at h;injection h with h;exact .inr ⟨by omega,h.symm⟩
theorem Bc {L:List oC} {x:oC} {p:oC→Value} (h :∀(i j:Nat) t u,i≠j→L[i]? = some t→L[j]? = some u→∀g,(p t).ownBlock=some g→(p u).ownBlock≠some g) (hx:(p x).ownBlock=none) :∀(i j:Nat) t u,i≠j→(L++[x])[i]? = some t→(L++[x])[j]? = some u→∀g,(p t).ownBlock=some g→(p u).ownBlock≠some g:=by
 intro i j t u vl hi hj g hg;rcases Fh hj with hj | ⟨hj,rfl⟩
 ·rcases Fh hi with hi | ⟨hi,rfl⟩
  ·exact h i j t u vl hi hj g hg
  ·rw[hx] at hg;cases hg
 ·rw[hx];intro e;cases e
theorem eV.Td {W W1:World} {B b:Nat} {nv:Value} {N:Nat} {st:aF} {fv:Value} {ub ob:Nat} {L:List oC} (h:eV W B b nv N st fv ub ob L) (hb:qB fv.ownBlock W W1) {x:dr} (hv:x.vars=[]) (hu:x.cz=[]) {Ze:Value} (hr:W1.ownsRow B 52 6 Ze (L++[(x,Value.slice none 0 0,Value.slice none 0 0)]).length ((L++[(x,Value.slice none 0 0,Value.slice none 0 0)]).flatMap No)) :
  eV (W1.setCell ⟨b,1,none⟩ Ze) B b nv N { st with fns:=st.fns++[x]} Ze ub ob (L++[(x,Value.slice none 0 0,Value.slice none 0 0)])∧Fr [52,87] W (W1.setCell ⟨b,1,none⟩ Ze):=by
 have ho:=qB.da h.fns.row hb;have hblk:=ho.2 b _ _ _ h.blk (by decide)
 have Iy:=JA.set hblk 1 Ze;refine⟨⟨bA hblk 1 Ze,⟨da hr Iy (by decide),fun t ht=>?_,fun t ht=>?_,Bc (p:=fun t=>t.2.1) h.fns.qi rfl,Bc (p:=fun t=>t.2.2) h.fns.rn rfl⟩,by rw[l9,h.are];rfl,lf (lf h.uses ho (by decide)) Iy (by decide),lf (lf h.pe ho (by decide)) Iy (by decide),h.pos⟩,((Fr.but h.fns.row (E:=[52]) (by decide) hb).mono (by decide)).trans ((Fr.set (E:=[87]) hblk (by decide) _ _).mono (by decide))⟩
 ·rcases dj.1 ht with ht|ht
  ·exact da (da (h.fns.vars t ht) ho (by decide)) Iy (by decide)
  ·obtain rfl:=bR.1 ht
   show World.ownsRow _ B _ 3 (.slice none 0 0) x.vars.length (x.vars.flatMap sG)
   rw[hv];exact World.ownsRow_nil _ _ _ _
 ·rcases dj.1 ht with ht|ht
  ·exact da (da (h.fns.cz t ht) ho (by decide)) Iy (by decide)
  ·obtain rfl:=bR.1 ht
   show World.ownsRow _ B _ 2 (.slice none 0 0) x.cz.length (x.cz.flatMap EX)
   rw[hu];exact World.ownsRow_nil _ _ _ _
theorem Ow {ops:Array Oper} {o:Oper} {a:Act} {K:Act→World→Prop} {Q:Exit→Act→World→Prop} {E:Prop} (w0 w1:World) (n:oC) (hgd:o.guard=none) (sl y:Operand)
  (ho:o.op=.call { callee:=.builtin .append,args:=#[sl,y],argTypes:=#[31,31]}) (B:Nat) (v:Value) (ns:List oC) (hs:a.eval sl=v) (hown:w0.ownsRow B 52 6 v ns.length (ns.flatMap No)) (dZ :∀(i:Nat),i<w0.heap.size→w1.heap[i]? = w0.heap[i]?) (g:Nat) (hg:g=w0.heap.size) (hy:a.eval y=.slice (some ⟨g,0,none⟩) 1 1)
  (hcell:w1.heap[g]? = some (.cells (No n).toArray 52 (0,0))) (h1c:n.2.1=.slice none 0 0∧n.2.2=.slice none 0 0) (hlen:ns.length≤1000000) (hB:B≤w0.heap.size) (hle:w0.heap.size≤w1.heap.size) (XD:w1.os=w0.os∧w1.tape=w0.tape∧w1.output=w0.output)
  (h :∀g' c' w',w'.ownsRow B 52 6 (.slice (some ⟨g',0,none⟩) (ns.length+1) c') (ns++[n]).length ((ns++[n]).flatMap No)→qB v.ownBlock w0 w'→Below B w0 w'→K (a.put o.dst (.slice (some ⟨g',0,none⟩) (ns.length+1) c')) w') :
  if Region.wanted o (yielded ops a.tmps)=true then Oper.wp Tryz.prog o a w1 K Q else E:=by
 obtain⟨i0,mL,hz0,hz1,hz2⟩:=info_parts Ny;refine AO w0 w1 (No n) hgd sl y 31 52 i0 _ 6 80 ho Tryz.underlying31 mL hz0 hz1 hz2 rfl (by omega) (by omega) B v ns.length _ hs hown dZ g hg hy hcell rfl (by intro u hu;simp[No,h1c] at hu;rcases hu with rfl|rfl|rfl|rfl|rfl<;>rfl) hlen hB hle XD ?_
 intro g' c' w' r1 r2 r3 _;refine h g' c' w' ?_ r2 r3;rw[cC,mw,py,DM];exact r1
def wV (B b:Nat) (nv:Value) (N ub ob:Nat) (st:aF) (x:dr) (lv:Value) (w:World) (e:Ending) (w':World):Prop :=
 e=.returned (.agg #[.int .i64 (st.fns.length:Int),.int .i64 (-1),.pointer none,lv])∧jL w' B b nv N { st with fns:=st.fns++[x]} ub ob∧Below B w w'∧Fr [52,87] w w'
theorem nB (W:World) (r:Nat) (a c d e:Value) (k:Nat) (hk:k≠r):((((W.setCell ⟨r,0,none⟩ a).setCell ⟨r,1,none⟩ c).setCell ⟨r,2,none⟩ d).setCell ⟨r,3,none⟩ e).heap[k]? = W.heap[k]?:=by
 rw[Below.heap_setCell _ _ _ k hk,Below.heap_setCell _ _ _ k hk,Below.heap_setCell _ _ _ k hk,Below.heap_setCell _ _ _ k hk]
theorem wW {B:Nat} {nv:Value} {N ub ob:Nat} (b:Nat) (x:dr) (la:Option Addr) (ln lc:Nat) (st:aF) (w:World) (hw:jL w B b nv N st ub ob) (hv:x.vars=[]) (hu:x.cz=[]) (NK:st.fns.length≤100000) :
  Calls Tryz.prog 27 #[.pointer (some ⟨b,0,none⟩),.agg #[.int .i64 (x.node:Int),.int .i64 x.parent,.int .i64 (x.params:Int),.bool x.many,.slice none 0 0,.slice none 0 0],.slice la ln lc] w (wV B b nv N ub ob st x (.slice la ln lc) w):=by
 obtain⟨fv,L,hw⟩:=hw;obtain⟨hbl,pg,tH⟩:=hw.gK;have hBb:B≤b:=hw.pos;obtain⟨FA,fc,ER,hfc,_⟩:=eA hw.fns.row;subst ER;have wk:L.length=st.fns.length:=hw.len;have HW:=aa hw;have HV:=aa hv;have HU:=aa hu;unfold wV;rw[←wk] at NK ⊢;have HLl:=aa wk;clear hw hv hu wk;obtain⟨W1,hW1⟩ :∃W1,W1=(w.alloc (.cells #[.int .i64 (x.node:Int),.int .i64 x.parent,.int .i64 (x.params:Int),.bool x.many,.slice none 0 0,.slice none 0 0] 52)).alloc (.cells #[.int .i64 0,.int .i64 0,.pointer none,.slice none 0 0] 92):=⟨_,rfl⟩;have dU:Hid (Below w.heap.size w W1):=aa (by rw[hW1];exact Below.two _ _)
 have eM:Hid (W1.heap.size=w.heap.size+1+1):=aa (by rw[hW1,ao,ao])
 have dh:W1.heap[w.heap.size]? = some (.cells #[.int .i64 (x.node:Int),.int .i64 x.parent,.int .i64 (x.params:Int),.bool x.many,.slice none 0 0,.slice none 0 0] 52 (0,0)):=by
  rw[hW1];exact(Below.heap_alloc _ _ _ (by rw[ao];omega)).trans (heap_alloc_new w _)
 have Wm:W1.heap[w.heap.size+1]? = some (.cells #[.int .i64 0,.int .i64 0,.pointer none,.slice none 0 0] 92 (0,0)):=by
  rw[hW1];have:=heap_alloc_new (w.alloc (.cells #[.int .i64 (x.node:Int),.int .i64 x.parent,.int .i64 (x.params:Int),.bool x.many,.slice none 0 0,.slice none 0 0] 52)) (.cells #[.int .i64 0,.int .i64 0,.pointer none,.slice none 0 0] 92);rwa[ao] at this
 have x0:W1.cell? ⟨w.heap.size,0,none⟩=some (.int .i64 (x.node:Int)):=ab dh 0;have x1:W1.cell? ⟨w.heap.size,1,none⟩=some (.int .i64 x.parent):=ab dh 1;have x2:W1.cell? ⟨w.heap.size,2,none⟩=some (.int .i64 (x.params:Int)):=ab dh 2;have x3:W1.cell? ⟨w.heap.size,3,none⟩=some (.bool x.many):=ab dh 3;have x4:W1.cell? ⟨w.heap.size,4,none⟩=some (.slice none 0 0):=ab dh 4;have x5:W1.cell? ⟨w.heap.size,5,none⟩=some (.slice none 0 0):=ab dh 5;have HPS:=aa Wm;have iZ:=aa hW1;have mY:=aa (HW.out.later dU.out);have d1:W1.cell? ⟨b,1,none⟩=some (.slice FA L.length fc):=ab mY.out.blk 1;clear dh Wm hW1;go_enter Tryz.func27,Tryz.ntmps27
 go_wp2_with fail
 rw[←iZ.out];clear iZ;have hb1:b<W1.heap.size:=by have:=eM.out;omega
 have hw1l:w.heap.size<W1.heap.size:=by have:=eM.out;omega
 have hp1l:w.heap.size+1<W1.heap.size:=by have:=eM.out;omega
 have hB1:B≤W1.heap.size:=by have:=mY.out.gK.1;omega
 have cB:B≤w.heap.size:=by omega
 have HZ:Hid ((W1.alloc (.cells #[.int .i64 (x.node:Int),.int .i64 x.parent,.int .i64 (x.params:Int),.bool x.many,.slice none 0 0,.slice none 0 0] 52)).drew.heap[W1.heap.size]? = some (.cells #[.int .i64 (x.node:Int),.int .i64 x.parent,.int .i64 (x.params:Int),.bool x.many,.slice none 0 0,.slice none 0 0] 52 (0,0))):=aa (heap_alloc_new W1 _);have d1b:(W1.alloc (.cells #[.int .i64 (x.node:Int),.int .i64 x.parent,.int .i64 (x.params:Int),.bool x.many,.slice none 0 0,.slice none 0 0] 52)).cell? ⟨b,1,none⟩=some (.slice FA L.length fc):=(Below.cell (B:=W1.heap.size) ((Below.refl _ _).alloc (ah _) _) (p:=⟨b,1,none⟩) hb1).trans d1;go_region_law ((refine Ow W1 _ (x,.slice none 0 0,.slice none 0 0) (by rfl) _ _ (by rfl) B (.slice FA L.length fc) L (by rfl) mY.out.fns.row (fun i hi=>Below.heap_alloc W1 _ i hi) W1.heap.size rfl (by rfl) HZ.out ⟨rfl,rfl⟩ (by omega) hB1 (by simp[World.drew]) ⟨rfl,rfl,rfl⟩ ?_;intro g6 c6 w6 r6 b6 bl6;have Yb:=qB.da mY.out.fns.row b6;have Ox:=Yb.2 b _ _ _ mY.out.blk (by decide);have aaV:=Yb.2 (w.heap.size+1) _ _ _ HPS.out (by decide);have d16:=ab Ox 1;have Pw:=aw Ox 1;have R6:=aa r6;have B6:=aa b6;have BL6:=aa bl6;have P6:=aa aaV;have S6:=aa b6.1;clear r6 b6 bl6 Ox Yb aaV))
 all_goals
  have HQ:=mY.out.Td B6.out (x:=x) HV.out HU.out R6.out;have hBl:=BL6.out.setCell (p:=⟨b,1,none⟩) hBb (.slice (some ⟨g6,0,none⟩) (L.length+1) c6);have Oy:=(Below.heap_setCell w6 ⟨b,1,none⟩ (.slice (some ⟨g6,0,none⟩) (L.length+1) c6) (w.heap.size+1) (by show w.heap.size+1≠b;omega)).trans P6.out
  generalize w6.setCell ⟨b,1,none⟩ (.slice (some ⟨g6,0,none⟩) (L.length+1) c6)=W7 at HQ hBl Oy ⊢;obtain⟨HQ1,HQ2⟩:=HQ;have e1:W7.cell? ⟨b,1,none⟩=some (.slice (some ⟨g6,0,none⟩) (L.length+1) c6):=ab HQ1.blk 1;have y0:=aw Oy 0;have y1:=aw Oy 1;have y2:=aw Oy 2;have y3:=aw Oy 3;have z0:W7.cell? ⟨w.heap.size+1,0,none⟩=some (.int .i64 0):=ab Oy 0;have z1:W7.cell? ⟨w.heap.size+1,1,none⟩=some (.int .i64 0):=ab Oy 1;have z2:W7.cell? ⟨w.heap.size+1,2,none⟩=some (.pointer none):=ab Oy 2;have z3:W7.cell? ⟨w.heap.size+1,3,none⟩=some (.slice none 0 0):=ab Oy 3;have Q1:=aa HQ1;have Q2:=aa HQ2;have Q3:=aa hBl;have P7:=aa Oy;clear HQ1 HQ2 hBl Oy d16 Pw R6 B6 BL6 P6 S6 x0 x1 x2 x3 x4 x5 d1 d1b HZ HPS;go_wp2_with fail
  have k7:vi W7 (w.heap.size+1) 92:=⟨_,_,P7.out⟩;refine bodyPost_ret (v:=.agg #[.int .i64 (L.length:Int),.int .i64 (-1),.pointer none,.slice la ln lc]) (by simp[results,Tryz.results27,go_sem,z0,z1,z2,z3]) rfl ⟨rfl,⟨_,_,Q1.out.fr (E:=[92]) ((k7.fr (by decide) _ _).trans (((k7.set _ _ _).fr (by decide) _ _).trans ((((k7.set _ _ _).set _ _ _).fr (by decide) _ _).trans ((((k7.set _ _ _).set _ _ _).set _ _ _).fr (by decide) _ _)))) (by decide)⟩,?_,?_⟩
  ·exact((((((dU.out.mono cB).trans Q3.out).setCell (p:=⟨w.heap.size+1,0,none⟩) (by show B≤w.heap.size+1;omega) _).setCell (p:=⟨w.heap.size+1,1,none⟩) (by show B≤w.heap.size+1;omega) _).setCell (p:=⟨w.heap.size+1,2,none⟩) (by show B≤w.heap.size+1;omega) _).setCell (p:=⟨w.heap.size+1,3,none⟩) (by show B≤w.heap.size+1;omega) _)
  ·exact((Fr.ae dU.out).trans Q2.out).past (fun k hk=>nB W7 _ _ _ _ _ k (by omega)) (by simp[World.setCell])
end Go.Proofs.YteflkdlaoiijbaaGreatDoor
namespace Go.Proofs.YteflkdlaoiijbaaGreatDoor
open Go.RowKit
theorem IW {k n:Int} {kk:List Int} (h:gR k n kk) (h1:1≤k) (h2:k≤32) :∀a∈kk,(1≤a∧a≤32)∧(k≠18→a≠19∧a≠28):=by
 intro a ha;have ex :∀{a},sZ a→(1≤a∧a≤32)∧(k≠18→a≠19∧a≠28):=fun{a} h=>by unfold sZ at h;omega
 have key:k=1∨k=2∨k=3∨k=4∨k=5∨k=6∨k=7∨k=8∨k=9∨k=10∨k=11∨k=12∨k=13∨k=14∨k=15∨k=16∨k=17∨k=18∨k=19∨k=20∨k=21∨k=22∨k=23∨k=24∨k=25∨k=26∨k=27∨k=28∨k=29∨k=30∨k=31∨k=32:=by omega
 by_cases c1:k=1∨k=2∨k=3∨k=4∨k=5∨k=6∨k=7∨k=30∨k=31∨k=32
 ·rw[h.none c1] at ha;cases ha
 by_cases c2:k=8∨k=12∨k=17
 ·obtain⟨x,y,e,hx,hy⟩:=h.two c2
  rw[e] at ha;simp only[bq,oh,oo] at ha;rcases ha with rfl|rfl
  ·exact ex hx
  ·exact ex hy
 by_cases c3:k=9∨k=10
 ·exact ex ((h.call c3).2 a ha)
 by_cases c4:k=11∨k=22
 ·rw[h.body c4,bR] at ha
  omega
 by_cases c5:k=13∨k=14∨k=16
 ·obtain⟨x,e,hx⟩:=h.one c5
  rw[e,bR] at ha;exact ex (ha▸hx)
 by_cases c6:k=15
 ·have:=h.items c6 a ha
  omega
 by_cases c7:k=18
 ·obtain⟨l,r,e,hl,hr⟩:=h.block c7
  rw[e,dj] at ha;refine⟨?_,fun h=>absurd c7 h⟩
  rcases ha with ha|ha
  ·have:=hl a ha
   unfold StK at this;omega
  ·rcases hr with rfl|rfl
   ·cases ha
   ·rw[bR] at ha;omega
 by_cases c8:k=19∨k=29
 ·exact ex (h.list c8 a ha)
 by_cases c9:k=20
 ·obtain⟨l,r,e,hl,_,_,hr⟩:=h.assign c9
  rw[e,dj] at ha;rcases ha with ha|ha
  ·have:=hl a ha;omega
  ·exact ex (hr a ha)
 by_cases c10:k=21
 ·obtain⟨x,e,hx⟩:=h.Xy c10
  rw[e,bR] at ha;omega
 by_cases c11:k=23
 ·obtain⟨x,e,hx⟩:=h.Xz c11
  rw[e] at ha;simp only[bq,oh,oo] at ha;rcases ha with rfl|rfl
  ·exact ex hx
  ·omega
 by_cases c12:k=24
 ·obtain⟨x,e,hx⟩:=h.EW c12
  rw[e] at ha;simp only[bq,oh,oo] at ha;rcases ha with rfl|rfl
  ·omega
  ·exact ex hx
 by_cases c13:k=25
 ·obtain⟨ps,r,e,_,hp,hr⟩:=h.if_ c13
  rw[e,dj] at ha;rcases ha with ha|ha
  ·obtain⟨p,b9,rW⟩:=tf.1 ha
   have:=hp p b9;simp only[bq,oh,oo] at rW;rcases rW with rfl|rfl
   ·exact ex this.1
   ·omega
  ·rcases hr with rfl|rfl
   ·cases ha
   ·rw[bR] at ha;omega
 by_cases c14:k=26
 ·obtain⟨l,e,_,hl⟩:=h.for_ c14
  rw[e,dj,bR] at ha;rcases ha with ha|ha
  ·exact ex (hl a ha)
  ·omega
 by_cases c15:k=27
 ·obtain⟨l,e,_,hl⟩:=h.each c15
  rw[e,dj,bR] at ha;rcases ha with ha|ha
  ·exact ex (hl a ha)
  ·omega
 by_cases c16:k=28
 ·rw[h.func c16,bR] at ha
  omega
 omega
structure lq (T:List Nd) (t:Lt):Prop where
 vk:Lt.In T t
 form:t.uB
 wf:t.Wf
 nodup:t.gM.Nodup
 kind:1≤t.hd.kind∧t.hd.kind≤32
structure dT (T:List Nd) (ks:List Lt):Prop where
 vk:Lt.uq T ks
 form:Lt.ir ks
 wf:Lt.yj ks
 nodup:(Lt.bx ks).Nodup
 kind :∀k∈ks,1≤k.hd.kind∧k.hd.kind≤32
theorem lq.sub {T:List Nd} {t:Lt} (h:lq T t):dT T t.sub∧(t.hd.kind≠18→∀k∈t.sub,Still k)∧gR t.hd.kind t.hd.num (iU t.sub):=by
 obtain⟨i,g,ks⟩:=t;obtain⟨h1,h2,h3,h4,h5⟩:=h;unfold Lt.In at h1;unfold Lt.uB at h2;unfold Lt.Wf at h3;rw[Lt.gM,lZ] at h4;have hk:=IW h2.1 h5.1 h5.2;have key :∀k∈ks,(1≤k.hd.kind∧k.hd.kind≤32)∧(g.kind≠18→k.hd.kind≠19∧k.hd.kind≠28):=fun k sP=>hk _ (jT sP)
 exact⟨⟨h1.2.2,h2.2,h3.2,h4.2,fun k hk=>(key k hk).1⟩,fun hne k hk=>(key k hk).2 hne,h2.1⟩
theorem dT.cons {T:List Nd} {k:Lt} {ks:List Lt} (h:dT T (k::ks)):lq T k∧dT T ks:=by
 obtain⟨h1,h2,h3,h4,h5⟩:=h;unfold Lt.uq at h1;unfold Lt.ir at h2;unfold Lt.yj at h3;rw[Lt.bx,oe] at h4;exact⟨⟨h1.1,h2.1,h3.1,h4.1,h5 k (bV ..)⟩,⟨h1.2,h2.2,h3.2,h4.2.1,fun x hx=>h5 x (bY _ hx)⟩⟩
theorem dT.at_ {T:List Nd} :∀{ks:List Lt},dT T ks→∀k∈ks,lq T k
 | x::ks,h,k,hk=>by
  rcases bq.1 hk with rfl|hk
  ·exact h.cons.1
  ·exact h.cons.2.at_ k hk
theorem dT.quiet {T:List Nd} :∀{ks:List Lt},dT T ks→Lt.lU ks
 | [],_=>by unfold Lt.lU;trivial
 | .mk i g l::ks,h=>by
  have h1:=h.cons.1.sub;have h2:dT T l:=h1.1;unfold Lt.lU Lt.Quiet;exact⟨⟨fun hne=>h1.2.1 hne.2,dT.quiet (ks:=l) h2⟩,dT.quiet (ks:=ks) h.cons.2⟩
def HdF (f:Nat) (L:List cV):Prop:=∀l r,L=l::r→l.fn=f
theorem HdF.grow {f:Nat} {L:List cV} (h:HdF f L) (a:List jj):HdF f (grow a L):=by
 intro l r e;cases L with
 | nil=>cases e
 | cons x y =>
  injection e with e _;rw[←e];exact h x y rfl
structure eC (T:List Nd) (B b:Nat) (nv:Value) (ub ob f:Nat) (pa:Option Addr) (lv:Value) (ms:List Nat) (L:List cV) (st:aF) (w:World) (a s:Nat):Prop where
 dy:vx w B nv T
 rs:jL w B b nv T.length st ub ob
 pos:oE w B f (.pointer pa) lv ms L st
 hd:HdF f L
 cx:Cx f st
 few:dQ st.fns
 fr :∀x∈st.frames,x.fn<st.fns.length
 names:st.names.length+a≤100000
 fns:st.fns.length+s≤100000
 fu:L.length+s≤100000
section
variable {T:List Nd} {B b:Nat} {nv:Value} {ub ob f:Nat} {pa:Option Addr} {lv:Value} {ms:List Nat} {L:List cV} {st st':aF} {w w':World} {a s a' s':Nat}
theorem eC.mono (h:eC T B b nv ub ob f pa lv ms L st w a s) (h1:a'≤a) (h2:s'≤s):eC T B b nv ub ob f pa lv ms L st w a' s' :=
 ⟨h.dy,h.rs,h.pos,h.hd,h.cx,h.few,h.fr,by have:=h.names;omega,by have:=h.fns;omega,by have:=h.fu;omega⟩
theorem eC.next {k:Lt} {e:Ending} (h:eC T B b nv ub ob f pa lv ms L st w (k.wt+a) (k.size+s)) (hk:lq T k) (hr:aV k f st=.ok st') (hp:aq B b nv T.length ub ob lv L st (.ok st') w e w') :
  e=.returned .nilIface∧∃x,st'.names=x++st.names∧(L=[]→x=[])∧eC T B b nv ub ob f pa lv ms (grow x L) st' w' a s∧cW B ob lv L.length (eB L) w w'∧st'.frames=st.frames:=by
 obtain⟨hb,rfl,PJ,nZ,x,hx1,hx2,hx3⟩:=hp;have vX:=nQ k hr h.few;have hall:=kX k hr hk.nodup h.cx hk.wf;have hf:=yo k hr;refine⟨rfl,x,hx1,hx2,⟨h.dy.below hb,PJ,h.pos.on nZ hx3 hx1 hx2 hf,h.hd.grow x,hall.1.cx h.cx,vX.few,fun y hy=>?_,?_,?_,?_⟩,nZ,hf⟩
 ·rw[hf] at hy
  exact cL (h.fr y hy) vX.least
 ·have:=vX.names;have:=h.names;omega
 ·have:=vX.fns;have:=h.fns;omega
 ·rw[cG];have:=h.fu;omega
theorem aq.trans {N:Nat} {st1:aF} {r2:Rs aF} {w1 w2:World} {e2:Ending} {x:List jj} (hb:Below B w w1) (h2:cW B ob lv L.length (eB L) w w1) (h3:st1.names=x++st.names) (h4:L=[]→x=[]) (k:aq B b nv N ub ob lv (grow x L) st1 r2 w1 e2 w2):aq B b nv N ub ob lv L st r2 w e2 w2:=by
 refine⟨hb.trans k.1,?_⟩;have k2:=k.2;cases r2 with
 | error y=>exact k2
 | ok st2 =>
  obtain⟨k3,k4,k5,y,k6,k7,k8⟩:=k2;rw[cG,nS] at k5;refine⟨k3,k4,h2.trans k5,y++x,?_,fun e=>?_,?_⟩
  ·rw[k6,h3,fg]
  ·rw[h4 e,k7 (by rw[e];rfl)];rfl
  ·rw[grow_grow] at k8;exact k8
end
def bI (T:List Nd) (B b:Nat) (nv:Value) (ub ob:Nat) (t:Lt):Prop :=
 ∀(f:Nat) (loop:Int) (pa la:Option Addr) (lc:Nat) (ms:List Nat) (L:List cV) (st:aF) (w:World),eC T B b nv ub ob f pa (.slice la L.length lc) ms L st w t.wt t.size→(18≤t.hd.kind→loop=bM f st.frames)→(L≠[]∨t.hd.kind=18) →
  Calls Tryz.prog 26 #[.pointer (some ⟨b,0,none⟩),.int .i64 (t.loc:Int),.agg #[.int .i64 (f:Int),.int .i64 loop,.pointer pa,.slice la L.length lc]] w (aq B b nv T.length ub ob (.slice la L.length lc) L st (aV t f st) w)
def qt (B ob:Nat) (lv:Value) (n:Nat) (top:Option Nat) (w:World) (kv:Value) (xs:List Int):Prop :=
 ∃A c,kv=.slice A xs.length c∧xs.length≤c∧(xs=[]∨∃bk o,A=some ⟨bk,o,none⟩∧∀w',cW B ob lv n top w w'→∀(j:Nat) x,xs[j]? = some x→w'.cell? ⟨bk,o+j,none⟩=some (.int .i64 x))
theorem gB.keeps {B ob n:Nat} {lv kv:Value} {top:Option Nat} {w:World} {xs:List Int} (h:gB w B kv xs):qt B ob lv n top w kv xs:=by
 obtain⟨A,c,e,hc,h1⟩:=h;refine⟨A,c,e,hc,h1.imp id ?_⟩;rintro⟨bk,o,e2,hb,hx⟩;exact⟨bk,o,e2,fun w' hf j x hj=>(hf.below.cell (p:=⟨bk,o+j,none⟩) hb).trans (hx j x hj)⟩
theorem qt.later {B ob n:Nat} {lv kv:Value} {top:Option Nat} {w w':World} {xs:List Int} (h:qt B ob lv n top w kv xs) (hf:cW B ob lv n top w w'):qt B ob lv n top w' kv xs:=by
 obtain⟨A,c,e,hc,h1⟩:=h;refine⟨A,c,e,hc,h1.imp id ?_⟩;rintro⟨bk,o,e2,hx⟩;exact⟨bk,o,e2,fun w2 hf2=>hx w2 (hf.trans hf2)⟩
theorem qv {ks:List Lt} {n:Nat} {x:Lt} (h:ks[n]? = some x):Lt.ec (ks.drop n)=x.wt+Lt.ec (ks.drop (n+1))∧Lt.ak (ks.drop n)=x.size+Lt.ak (ks.drop (n+1)):=by
 rw[drop_at h,Lt.ec,Lt.ak];exact⟨rfl,rfl⟩
end Go.Proofs.YteflkdlaoiijbaaGreatDoor
namespace Go.Proofs.YteflkdlaoiijbaaGreatDoor
theorem Oz (i:Nat):Cx 0 (gZ i) :=
 ⟨⟨Nat.zero_lt_one,fun g x hx=>by
  cases g with
  | zero=>injection hx with hx;subst hx;exact⟨.inl ⟨rfl,rfl⟩,ah _⟩
  | succ g=>simp[gZ] at hx⟩,Nat.zero_lt_one,fun n hn=>by simp[gZ] at hn⟩
theorem Yc {k:Int} (h:gr (gg k) 32=true):k=18:=by
 unfold gg at h;split at h
 ·exact absurd h (by decide +kernel)
 ·split at h
  ·exact absurd h (by decide +kernel)
  ·split at h
   ·exact absurd h (by decide +kernel)
   ·split at h
    ·exact absurd h (by decide +kernel)
    ·split at h
     ·exact absurd h (by decide +kernel)
     ·split at h
      ·assumption
      ·split at h
       ·exact absurd h (by decide +kernel)
       ·split at h
        ·exact absurd h (by decide +kernel)
        ·exact absurd h (by decide +kernel)
theorem IX {k n:Int} {ss:List Int} (hk:k=6∨k=7∨k=30∨k=31) (h:pt k n ss=true):ss=[]:=by
 have e:aY k n=[]:=by
  unfold aY;repeat rw[af (by omega)]
 unfold pt at h;rw[e,fk] at h;exact DS.1 h
theorem aaW {n:Int} {ss:List Int} (h:pt 24 n ss=true) :∃a b,ss=[a,b]∧gr a 32=true:=by
 have e:aY 24 n=[(1,1,[32,1])]:=by
  unfold aY;repeat rw[af (by decide)]
  rw[al rfl]
 unfold pt at h;rw[e,fk,fk,di] at h;obtain⟨h1,h2⟩:=h;rw[kh] at h1 h2;by_cases hc:(0:Int)<1∧iQ ss [32,1]=true
 ·rw[al hc] at h2
  have e2 :∀l,kh [32,1] 1 ss.length 1 l=(1,l):=fun l=>by
   cases ss.length with
   | zero=>rfl
   | succ m=>rw[kh,af (by omega)]
  have h2:(kh [32,1] 1 ss.length 1 (ss.drop 2)).2.isEmpty=true:=h2;rw[e2] at h2;have h3:=mQ hc.2;have hb:=hc.2;match ss,h2,h3,hb with
  | [a,b],_,_,hb =>
   rw[iQ,di] at hb;exact⟨a,b,rfl,hb.1⟩
  | a::b::c::l,h2,_,_=>cases h2
  | [a],_,h3,_=>simp at h3
  | [],_,h3,_=>simp at h3
 ·rw[af hc] at h1
  exact absurd h1 (show ¬ (decide ((1:Int)≤0))=true by decide)
mutual
theorem UR {T:List Nd} (hT :∀x∈T,pt x.kind x.num (x.kids.map fun k=>gg (dH T k.toNat))=true) :∀(t:Lt),Lt.In T t→t.Wf
 | .mk i h ks,hi=>by
  unfold Lt.In at hi;obtain⟨hx,hk,hs⟩:=hi;unfold Lt.Wf;have h1:=hT h (aM hx);refine⟨⟨fun e=>?_,fun e=>?_⟩,OA hT ks hs⟩
  ·have:=IX e h1
   rw[pz,hk,pz] at this;exact this
  ·rw[e] at h1
   obtain⟨a,b,h2,h3⟩:=aaW h1;rw[hk,zh] at h2;match ks,h2,hs with
   | [x,y],h2,hs =>
    injection h2 with h2 _;rw[←h2] at h3;have h4:=Yc h3;refine⟨x,y,rfl,?_⟩;unfold Lt.uq at hs;obtain⟨j,g,ls⟩:=x;have hg:=hs.1;unfold Lt.In at hg;have h4:dH T (((j:Nat):Int)).toNat=18:=h4;rw[iz,nH hg.1] at h4;exact h4
   | [],h2,_=>cases h2
   | [x],h2,_=>cases h2
   | _::_::_::_,h2,_=>cases h2
theorem OA {T:List Nd} (hT :∀x∈T,pt x.kind x.num (x.kids.map fun k=>gg (dH T k.toNat))=true) :∀(ks:List Lt),Lt.uq T ks→Lt.yj ks
 | [],_=>by unfold Lt.yj;trivial
 | k::ks,hi=>by
  unfold Lt.uq at hi;unfold Lt.yj;exact⟨UR hT k hi.1,OA hT ks hi.2⟩
end
end Go.Proofs.YteflkdlaoiijbaaGreatDoor
