/- Parts of the proof. -/
import Derived.StillTailTactics
import Derived.Test.YteflkdlaoiijbaaGreatDoorK11
set_option maxHeartbeats 16000000
set_option maxRecDepth 20000
namespace Go.Proofs.YteflkdlaoiijbaaGreatDoor
open Go.RowKit
theorem FG {α:Type} {L:List α} {x t:α} {i:Nat} (h:(L++[x])[i]? = some t):L[i]? = some t∨(i=L.length∧t=x):=by
 by_cases hi:i<L.length
 ·rw[kK hi] at h
  exact .inl h
 ·rw[zy (by omega)] at h
  have:=(aJ.1 h).1;rw[mF] at this;obtain h0:i-L.length=0:=by omega
  rw[h0] at h;injection h with h;exact .inr ⟨by omega,h.symm⟩
theorem BC {L:List mB} {x:mB} {p:mB→Value} (h :∀(i j:Nat) t u,i≠j→L[i]? = some t→L[j]? = some u→∀g,(p t).ownBlock=some g→(p u).ownBlock≠some g) (hx:(p x).ownBlock=none) :∀(i j:Nat) t u,i≠j→(L++[x])[i]? = some t→(L++[x])[j]? = some u→∀g,(p t).ownBlock=some g→(p u).ownBlock≠some g:=by
 intro i j t u vR hi hj g hg;rcases FG hj with hj | ⟨hj,rfl⟩
 ·rcases FG hi with hi | ⟨hi,rfl⟩
  ·exact h i j t u vR hi hj g hg
  ·rw[hx] at hg;cases hg
 ·rw[hx];intro e;cases e
theorem e9.Ty {W W1:World} {B b:Nat} {nv:Value} {N:Nat} {st:aH} {fv:Value} {ub ob:Nat} {L:List mB} (h:e9 W B b nv N st fv ub ob L) (hb:qW fv.ownBlock W W1) {x:dr} (hv:x.vars=[]) (hu:x.ch=[]) {ZD:Value} (hr:W1.ownsRow B 52 6 ZD (L++[(x,Value.slice none 0 0,Value.slice none 0 0)]).length ((L++[(x,Value.slice none 0 0,Value.slice none 0 0)]).flatMap NH)) :
  e9 (W1.setCell ⟨b,1,none⟩ ZD) B b nv N { st with fns:=st.fns++[x]} ZD ub ob (L++[(x,Value.slice none 0 0,Value.slice none 0 0)])∧Fr [52,87] W (W1.setCell ⟨b,1,none⟩ ZD):=by
 have ho:=qW.dd h.fns.row hb;have hblk:=ho.2 b _ _ _ h.blk (by decide)
 have IM:=JM.set hblk 1 ZD;refine⟨⟨bt hblk 1 ZD,⟨dd hr IM (by decide),fun t ht=>?_,fun t ht=>?_,BC (p:=fun t=>t.2.1) h.fns.pD rfl,BC (p:=fun t=>t.2.2) h.fns.qB rfl⟩,by rw[me,h.are];rfl,lk (lk h.uses ho (by decide)) IM (by decide),lk (lk h.mC ho (by decide)) IM (by decide),h.pos⟩,((Fr.but h.fns.row (E:=[52]) (by decide) hb).mono (by decide)).trans ((Fr.set (E:=[87]) hblk (by decide) _ _).mono (by decide))⟩
 ·rcases cU.1 ht with ht|ht
  ·exact dd (dd (h.fns.vars t ht) ho (by decide)) IM (by decide)
  ·obtain rfl:=bZ.1 ht
   show World.ownsRow _ B _ 3 (.slice none 0 0) x.vars.length (x.vars.flatMap th)
   rw[hv];exact World.ownsRow_nil _ _ _ _
 ·rcases cU.1 ht with ht|ht
  ·exact dd (dd (h.fns.ch t ht) ho (by decide)) IM (by decide)
  ·obtain rfl:=bZ.1 ht
   show World.ownsRow _ B _ 2 (.slice none 0 0) x.ch.length (x.ch.flatMap Fp)
   rw[hu];exact World.ownsRow_nil _ _ _ _
theorem ON {ops:Array Oper} {o:Oper} {a:Act} {K:Act→World→Prop} {Q:Exit→Act→World→Prop} {E:Prop} (w0 w1:World) (n:mB) (hgd:o.guard=none) (sl y:Operand)
  (ho:o.op=.call { callee:=.builtin .append,args:=#[sl,y],argTypes:=#[31,31]}) (B:Nat) (v:Value) (ns:List mB) (hs:a.eval sl=v) (hown:w0.ownsRow B 52 6 v ns.length (ns.flatMap NH)) (ef :∀(i:Nat),i<w0.heap.size→w1.heap[i]? = w0.heap[i]?) (g:Nat) (hg:g=w0.heap.size) (hy:a.eval y=.slice (some ⟨g,0,none⟩) 1 1)
  (hcell:w1.heap[g]? = some (.cells (NH n).toArray 52 (0,0))) (h1c:n.2.1=.slice none 0 0∧n.2.2=.slice none 0 0) (hlen:ns.length≤1000000) (hB:B≤w0.heap.size) (hle:w0.heap.size≤w1.heap.size) (X6:w1.os=w0.os∧w1.tape=w0.tape∧w1.output=w0.output)
  (h :∀g' c' w',w'.ownsRow B 52 6 (.slice (some ⟨g',0,none⟩) (ns.length+1) c') (ns++[n]).length ((ns++[n]).flatMap NH)→qW v.ownBlock w0 w'→Below B w0 w'→K (a.put o.dst (.slice (some ⟨g',0,none⟩) (ns.length+1) c')) w') :
  if Region.wanted o (yielded ops a.tmps)=true then Oper.wp Tryz.prog o a w1 K Q else E:=by
 obtain⟨i0,mY,hz0,hz1,hz2⟩:=info_parts NR;refine Bh w0 w1 (NH n) hgd sl y 31 52 i0 _ 6 80 ho Tryz.underlying31 mY hz0 hz1 hz2 rfl (by omega) (by omega) B v ns.length _ hs hown ef g hg hy hcell rfl (by intro u hu;simp[NH,h1c] at hu;rcases hu with rfl|rfl|rfl|rfl|rfl<;>rfl) hlen hB hle X6 ?_
 intro g' c' w' r1 r2 r3 _;refine h g' c' w' ?_ r2 r3;rw[cI,mF,oE,Ea];exact r1
def xG (B b:Nat) (nv:Value) (N ub ob:Nat) (st:aH) (x:dr) (lv:Value) (w:World) (e:Ending) (w':World):Prop :=
 e=.returned (.agg #[.int .i64 (st.fns.length:Int),.int .i64 (-1),.pointer none,lv])∧jN w' B b nv N { st with fns:=st.fns++[x]} ub ob∧Below B w w'∧Fr [52,87] w w'
theorem nQ (W:World) (r:Nat) (a c d e:Value) (k:Nat) (hk:k≠r):((((W.setCell ⟨r,0,none⟩ a).setCell ⟨r,1,none⟩ c).setCell ⟨r,2,none⟩ d).setCell ⟨r,3,none⟩ e).heap[k]? = W.heap[k]?:=by
 rw[Below.heap_setCell _ _ _ k hk,Below.heap_setCell _ _ _ k hk,Below.heap_setCell _ _ _ k hk,Below.heap_setCell _ _ _ k hk]
theorem xH {B:Nat} {nv:Value} {N ub ob:Nat} (b:Nat) (x:dr) (la:Option Addr) (ln lc:Nat) (st:aH) (w:World) (hw:jN w B b nv N st ub ob) (hv:x.vars=[]) (hu:x.ch=[]) (IU:st.fns.length≤100000) :
  Calls Tryz.prog 27 #[.pointer (some ⟨b,0,none⟩),.agg #[.int .i64 (x.node:Int),.int .i64 x.parent,.int .i64 (x.params:Int),.bool x.many,.slice none 0 0,.slice none 0 0],.slice la ln lc] w (xG B b nv N ub ob st x (.slice la ln lc) w):=by
 obtain⟨fv,L,hw⟩:=hw;obtain⟨hbl,pE,uq⟩:=hw.gR;have hBb:B≤b:=hw.pos;obtain⟨FA,fc,we,hfc,_⟩:=dv hw.fns.row;subst we;have wZ:L.length=st.fns.length:=hw.len;have HW:=aa hw;have HV:=aa hv;have HU:=aa hu;unfold xG;rw[←wZ] at IU ⊢;have HLl:=aa wZ;clear hw hv hu wZ;obtain⟨W1,hW1⟩ :∃W1,W1=(w.alloc (.cells #[.int .i64 (x.node:Int),.int .i64 x.parent,.int .i64 (x.params:Int),.bool x.many,.slice none 0 0,.slice none 0 0] 52)).alloc (.cells #[.int .i64 0,.int .i64 0,.pointer none,.slice none 0 0] 92):=⟨_,rfl⟩;have dL:Hid (Below w.heap.size w W1):=aa (by rw[hW1];exact Below.two _ _)
 have eM:Hid (W1.heap.size=w.heap.size+1+1):=aa (by rw[hW1,an,an])
 have db:W1.heap[w.heap.size]? = some (.cells #[.int .i64 (x.node:Int),.int .i64 x.parent,.int .i64 (x.params:Int),.bool x.many,.slice none 0 0,.slice none 0 0] 52 (0,0)):=by
  rw[hW1];exact(Below.heap_alloc _ _ _ (by rw[an];omega)).trans (heap_alloc_new w _)
 have WH:W1.heap[w.heap.size+1]? = some (.cells #[.int .i64 0,.int .i64 0,.pointer none,.slice none 0 0] 92 (0,0)):=by
  rw[hW1];have:=heap_alloc_new (w.alloc (.cells #[.int .i64 (x.node:Int),.int .i64 x.parent,.int .i64 (x.params:Int),.bool x.many,.slice none 0 0,.slice none 0 0] 52)) (.cells #[.int .i64 0,.int .i64 0,.pointer none,.slice none 0 0] 92);rwa[an] at this
 have x0:W1.cell? ⟨w.heap.size,0,none⟩=some (.int .i64 (x.node:Int)):=ab db 0;have x1:W1.cell? ⟨w.heap.size,1,none⟩=some (.int .i64 x.parent):=ab db 1;have x2:W1.cell? ⟨w.heap.size,2,none⟩=some (.int .i64 (x.params:Int)):=ab db 2;have x3:W1.cell? ⟨w.heap.size,3,none⟩=some (.bool x.many):=ab db 3;have x4:W1.cell? ⟨w.heap.size,4,none⟩=some (.slice none 0 0):=ab db 4;have x5:W1.cell? ⟨w.heap.size,5,none⟩=some (.slice none 0 0):=ab db 5;have HPS:=aa WH;have je:=aa hW1;have ny:=aa (HW.out.later dL.out);have d1:W1.cell? ⟨b,1,none⟩=some (.slice FA L.length fc):=ab ny.out.blk 1;clear db WH hW1;go_enter Tryz.func27,Tryz.ntmps27
 go_wp2_with fail
 rw[←je.out];clear je;have hb1:b<W1.heap.size:=by have:=eM.out;omega
 have hw1l:w.heap.size<W1.heap.size:=by have:=eM.out;omega
 have hp1l:w.heap.size+1<W1.heap.size:=by have:=eM.out;omega
 have hB1:B≤W1.heap.size:=by have:=ny.out.gR.1;omega
 have cC:B≤w.heap.size:=by omega
 have HZ:Hid ((W1.alloc (.cells #[.int .i64 (x.node:Int),.int .i64 x.parent,.int .i64 (x.params:Int),.bool x.many,.slice none 0 0,.slice none 0 0] 52)).drew.heap[W1.heap.size]? = some (.cells #[.int .i64 (x.node:Int),.int .i64 x.parent,.int .i64 (x.params:Int),.bool x.many,.slice none 0 0,.slice none 0 0] 52 (0,0))):=aa (heap_alloc_new W1 _);have d1b:(W1.alloc (.cells #[.int .i64 (x.node:Int),.int .i64 x.parent,.int .i64 (x.params:Int),.bool x.many,.slice none 0 0,.slice none 0 0] 52)).cell? ⟨b,1,none⟩=some (.slice FA L.length fc):=(Below.cell (B:=W1.heap.size) ((Below.refl _ _).alloc (ah _) _) (p:=⟨b,1,none⟩) hb1).trans d1;go_region_law ((refine ON W1 _ (x,.slice none 0 0,.slice none 0 0) (by rfl) _ _ (by rfl) B (.slice FA L.length fc) L (by rfl) ny.out.fns.row (fun i hi=>Below.heap_alloc W1 _ i hi) W1.heap.size rfl (by rfl) HZ.out ⟨rfl,rfl⟩ (by omega) hB1 (by simp[World.drew]) ⟨rfl,rfl,rfl⟩ ?_;intro g6 c6 w6 r6 b6 bl6;have Yx:=qW.dd ny.out.fns.row b6;have OO:=Yx.2 b _ _ _ ny.out.blk (by decide);have abb:=Yx.2 (w.heap.size+1) _ _ _ HPS.out (by decide);have d16:=ab OO 1;have PM:=av OO 1;have R6:=aa r6;have B6:=aa b6;have BL6:=aa bl6;have P6:=aa abb;have S6:=aa b6.1;clear r6 b6 bl6 OO Yx abb))
 all_goals
  have HQ:=ny.out.Ty B6.out (x:=x) HV.out HU.out R6.out;have hBl:=BL6.out.setCell (p:=⟨b,1,none⟩) hBb (.slice (some ⟨g6,0,none⟩) (L.length+1) c6);have OP:=(Below.heap_setCell w6 ⟨b,1,none⟩ (.slice (some ⟨g6,0,none⟩) (L.length+1) c6) (w.heap.size+1) (by show w.heap.size+1≠b;omega)).trans P6.out
  generalize w6.setCell ⟨b,1,none⟩ (.slice (some ⟨g6,0,none⟩) (L.length+1) c6)=W7 at HQ hBl OP ⊢;obtain⟨HQ1,HQ2⟩:=HQ;have e1:W7.cell? ⟨b,1,none⟩=some (.slice (some ⟨g6,0,none⟩) (L.length+1) c6):=ab HQ1.blk 1;have y0:=av OP 0;have y1:=av OP 1;have y2:=av OP 2;have y3:=av OP 3;have z0:W7.cell? ⟨w.heap.size+1,0,none⟩=some (.int .i64 0):=ab OP 0;have z1:W7.cell? ⟨w.heap.size+1,1,none⟩=some (.int .i64 0):=ab OP 1;have z2:W7.cell? ⟨w.heap.size+1,2,none⟩=some (.pointer none):=ab OP 2;have z3:W7.cell? ⟨w.heap.size+1,3,none⟩=some (.slice none 0 0):=ab OP 3;have Q1:=aa HQ1;have Q2:=aa HQ2;have Q3:=aa hBl;have P7:=aa OP;clear HQ1 HQ2 hBl OP d16 PM R6 B6 BL6 P6 S6 x0 x1 x2 x3 x4 x5 d1 d1b HZ HPS;go_wp2_with fail
  have k7:vP W7 (w.heap.size+1) 92:=⟨_,_,P7.out⟩;refine bodyPost_ret (v:=.agg #[.int .i64 (L.length:Int),.int .i64 (-1),.pointer none,.slice la ln lc]) (by simp[results,Tryz.results27,go_sem,z0,z1,z2,z3]) rfl ⟨rfl,⟨_,_,Q1.out.fr (E:=[92]) ((k7.fr (by decide) _ _).trans (((k7.set _ _ _).fr (by decide) _ _).trans ((((k7.set _ _ _).set _ _ _).fr (by decide) _ _).trans ((((k7.set _ _ _).set _ _ _).set _ _ _).fr (by decide) _ _)))) (by decide)⟩,?_,?_⟩
  ·exact((((((dL.out.mono cC).trans Q3.out).setCell (p:=⟨w.heap.size+1,0,none⟩) (by show B≤w.heap.size+1;omega) _).setCell (p:=⟨w.heap.size+1,1,none⟩) (by show B≤w.heap.size+1;omega) _).setCell (p:=⟨w.heap.size+1,2,none⟩) (by show B≤w.heap.size+1;omega) _).setCell (p:=⟨w.heap.size+1,3,none⟩) (by show B≤w.heap.size+1;omega) _)
  ·exact((Fr.ae dL.out).trans Q2.out).past (fun k hk=>nQ W7 _ _ _ _ _ k (by omega)) (by simp[World.setCell])
end Go.Proofs.YteflkdlaoiijbaaGreatDoor
namespace Go.Proofs.YteflkdlaoiijbaaGreatDoor
open Go.RowKit
theorem Jb {k n:Int} {kk:List Int} (h:hH k n kk) (h1:1≤k) (h2:k≤32) :∀a∈kk,(1≤a∧a≤32)∧(k≠18→a≠19∧a≠28):=by
 intro a ha;have ex :∀{a},tG a→(1≤a∧a≤32)∧(k≠18→a≠19∧a≠28):=fun{a} h=>by unfold tG at h;omega
 have key:k=1∨k=2∨k=3∨k=4∨k=5∨k=6∨k=7∨k=8∨k=9∨k=10∨k=11∨k=12∨k=13∨k=14∨k=15∨k=16∨k=17∨k=18∨k=19∨k=20∨k=21∨k=22∨k=23∨k=24∨k=25∨k=26∨k=27∨k=28∨k=29∨k=30∨k=31∨k=32:=by omega
 by_cases c1:k=1∨k=2∨k=3∨k=4∨k=5∨k=6∨k=7∨k=30∨k=31∨k=32
 ·rw[h.none c1] at ha;cases ha
 by_cases c2:k=8∨k=12∨k=17
 ·obtain⟨x,y,e,hx,hy⟩:=h.two c2
  rw[e] at ha;simp only[bc,oG,oH] at ha;rcases ha with rfl|rfl
  ·exact ex hx
  ·exact ex hy
 by_cases c3:k=9∨k=10
 ·exact ex ((h.call c3).2 a ha)
 by_cases c4:k=11∨k=22
 ·rw[h.body c4,bZ] at ha
  omega
 by_cases c5:k=13∨k=14∨k=16
 ·obtain⟨x,e,hx⟩:=h.one c5
  rw[e,bZ] at ha;exact ex (ha▸hx)
 by_cases c6:k=15
 ·have:=h.items c6 a ha
  omega
 by_cases c7:k=18
 ·obtain⟨l,r,e,hl,hr⟩:=h.block c7
  rw[e,cU] at ha;refine⟨?_,fun h=>absurd c7 h⟩
  rcases ha with ha|ha
  ·have:=hl a ha
   unfold StK at this;omega
  ·rcases hr with rfl|rfl
   ·cases ha
   ·rw[bZ] at ha;omega
 by_cases c8:k=19∨k=29
 ·exact ex (h.list c8 a ha)
 by_cases c9:k=20
 ·obtain⟨l,r,e,hl,_,_,hr⟩:=h.assign c9
  rw[e,cU] at ha;rcases ha with ha|ha
  ·have:=hl a ha;omega
  ·exact ex (hr a ha)
 by_cases c10:k=21
 ·obtain⟨x,e,hx⟩:=h.XV c10
  rw[e,bZ] at ha;omega
 by_cases c11:k=23
 ·obtain⟨x,e,hx⟩:=h.XX c11
  rw[e] at ha;simp only[bc,oG,oH] at ha;rcases ha with rfl|rfl
  ·exact ex hx
  ·omega
 by_cases c12:k=24
 ·obtain⟨x,e,hx⟩:=h.Fo c12
  rw[e] at ha;simp only[bc,oG,oH] at ha;rcases ha with rfl|rfl
  ·omega
  ·exact ex hx
 by_cases c13:k=25
 ·obtain⟨ps,r,e,_,hp,hr⟩:=h.if_ c13
  rw[e,cU] at ha;rcases ha with ha|ha
  ·obtain⟨p,bY,oM⟩:=mH.1 ha
   have:=hp p bY;simp only[bc,oG,oH] at oM;rcases oM with rfl|rfl
   ·exact ex this.1
   ·omega
  ·rcases hr with rfl|rfl
   ·cases ha
   ·rw[bZ] at ha;omega
 by_cases c14:k=26
 ·obtain⟨l,e,_,hl⟩:=h.for_ c14
  rw[e,cU,bZ] at ha;rcases ha with ha|ha
  ·exact ex (hl a ha)
  ·omega
 by_cases c15:k=27
 ·obtain⟨l,e,_,hl⟩:=h.each c15
  rw[e,cU,bZ] at ha;rcases ha with ha|ha
  ·exact ex (hl a ha)
  ·omega
 by_cases c16:k=28
 ·rw[h.func c16,bZ] at ha
  omega
 omega
structure lx (T:List Nd) (t:Lt):Prop where
 vQ:Lt.In T t
 form:t.vd
 wf:t.Wf
 nodup:t.dI.Nodup
 kind:1≤t.hd.kind∧t.hd.kind≤32
structure dX (T:List Nd) (ks:List Lt):Prop where
 vQ:Lt.nG T ks
 form:Lt.iB ks
 wf:Lt.yP ks
 nodup:(Lt.aS ks).Nodup
 kind :∀k∈ks,1≤k.hd.kind∧k.hd.kind≤32
theorem lx.sub {T:List Nd} {t:Lt} (h:lx T t):dX T t.sub∧(t.hd.kind≠18→∀k∈t.sub,Still k)∧hH t.hd.kind t.hd.num (jd t.sub):=by
 obtain⟨i,g,ks⟩:=t;obtain⟨h1,h2,h3,h4,h5⟩:=h;unfold Lt.In at h1;unfold Lt.vd at h2;unfold Lt.Wf at h3;rw[Lt.dI,jt] at h4;have hk:=Jb h2.1 h5.1 h5.2;have key :∀k∈ks,(1≤k.hd.kind∧k.hd.kind≤32)∧(g.kind≠18→k.hd.kind≠19∧k.hd.kind≠28):=fun k Eu=>hk _ (jW Eu)
 exact⟨⟨h1.2.2,h2.2,h3.2,h4.2,fun k hk=>(key k hk).1⟩,fun hne k hk=>(key k hk).2 hne,h2.1⟩
theorem dX.cons {T:List Nd} {k:Lt} {ks:List Lt} (h:dX T (k::ks)):lx T k∧dX T ks:=by
 obtain⟨h1,h2,h3,h4,h5⟩:=h;unfold Lt.nG at h1;unfold Lt.iB at h2;unfold Lt.yP at h3;rw[Lt.aS,oF] at h4;exact⟨⟨h1.1,h2.1,h3.1,h4.1,h5 k (bT ..)⟩,⟨h1.2,h2.2,h3.2,h4.2.1,fun x hx=>h5 x (cr _ hx)⟩⟩
theorem dX.at_ {T:List Nd} :∀{ks:List Lt},dX T ks→∀k∈ks,lx T k
 | x::ks,h,k,hk=>by
  rcases bc.1 hk with rfl|hk
  ·exact h.cons.1
  ·exact h.cons.2.at_ k hk
theorem dX.quiet {T:List Nd} :∀{ks:List Lt},dX T ks→Lt.lW ks
 | [],_=>by unfold Lt.lW;trivial
 | .mk i g l::ks,h=>by
  have h1:=h.cons.1.sub;have h2:dX T l:=h1.1;unfold Lt.lW Lt.Quiet;exact⟨⟨fun hne=>h1.2.1 hne.2,dX.quiet (ks:=l) h2⟩,dX.quiet (ks:=ks) h.cons.2⟩
def HdF (f:Nat) (L:List cS):Prop:=∀l r,L=l::r→l.fn=f
theorem HdF.grow {f:Nat} {L:List cS} (h:HdF f L) (a:List jn):HdF f (grow a L):=by
 intro l r e;cases L with
 | nil=>cases e
 | cons x y =>
  injection e with e _;rw[←e];exact h x y rfl
structure eF (T:List Nd) (B b:Nat) (nv:Value) (ub ob f:Nat) (pa:Option Addr) (lv:Value) (ms:List Nat) (L:List cS) (st:aH) (w:World) (a s:Nat):Prop where
 dB:wg w B nv T
 rs:jN w B b nv T.length st ub ob
 pos:oR w B f (.pointer pa) lv ms L st
 hd:HdF f L
 cx:Cx f st
 few:dW st.fns
 fr :∀x∈st.frames,x.fn<st.fns.length
 names:st.names.length+a≤100000
 fns:st.fns.length+s≤100000
 fB:L.length+s≤100000
section
variable {T:List Nd} {B b:Nat} {nv:Value} {ub ob f:Nat} {pa:Option Addr} {lv:Value} {ms:List Nat} {L:List cS} {st st':aH} {w w':World} {a s a' s':Nat}
theorem eF.mono (h:eF T B b nv ub ob f pa lv ms L st w a s) (h1:a'≤a) (h2:s'≤s):eF T B b nv ub ob f pa lv ms L st w a' s' :=
 ⟨h.dB,h.rs,h.pos,h.hd,h.cx,h.few,h.fr,by have:=h.names;omega,by have:=h.fns;omega,by have:=h.fB;omega⟩
theorem eF.next {k:Lt} {e:Ending} (h:eF T B b nv ub ob f pa lv ms L st w (k.wt+a) (k.size+s)) (hk:lx T k) (hr:bo k f st=.ok st') (hp:aq B b nv T.length ub ob lv L st (.ok st') w e w') :
  e=.returned .nilIface∧∃x,st'.names=x++st.names∧(L=[]→x=[])∧eF T B b nv ub ob f pa lv ms (grow x L) st' w' a s∧cW B ob lv L.length (eE L) w w'∧st'.frames=st.frames:=by
 obtain⟨hb,rfl,Qc,ou,x,hx1,hx2,hx3⟩:=hp;have wP:=lT k hr h.few;have hall:=jJ k hr hk.nodup h.cx hk.wf;have hf:=yW k hr;refine⟨rfl,x,hx1,hx2,⟨h.dB.below hb,Qc,h.pos.on ou hx3 hx1 hx2 hf,h.hd.grow x,hall.1.cx h.cx,wP.few,fun y hy=>?_,?_,?_,?_⟩,ou,hf⟩
 ·rw[hf] at hy
  exact cJ (h.fr y hy) wP.least
 ·have:=wP.names;have:=h.names;omega
 ·have:=wP.fns;have:=h.fns;omega
 ·rw[cF];have:=h.fB;omega
theorem aq.trans {N:Nat} {st1:aH} {r2:Rs aH} {w1 w2:World} {e2:Ending} {x:List jn} (hb:Below B w w1) (h2:cW B ob lv L.length (eE L) w w1) (h3:st1.names=x++st.names) (h4:L=[]→x=[]) (k:aq B b nv N ub ob lv (grow x L) st1 r2 w1 e2 w2):aq B b nv N ub ob lv L st r2 w e2 w2:=by
 refine⟨hb.trans k.1,?_⟩;have k2:=k.2;cases r2 with
 | error y=>exact k2
 | ok st2 =>
  obtain⟨k3,k4,k5,y,k6,k7,k8⟩:=k2;rw[cF,oa] at k5;refine⟨k3,k4,h2.trans k5,y++x,?_,fun e=>?_,?_⟩
  ·rw[k6,h3,fK]
  ·rw[h4 e,k7 (by rw[e];rfl)];rfl
  ·rw[grow_grow] at k8;exact k8
end
def bM (T:List Nd) (B b:Nat) (nv:Value) (ub ob:Nat) (t:Lt):Prop :=
 ∀(f:Nat) (loop:Int) (pa la:Option Addr) (lc:Nat) (ms:List Nat) (L:List cS) (st:aH) (w:World),eF T B b nv ub ob f pa (.slice la L.length lc) ms L st w t.wt t.size→(18≤t.hd.kind→loop=bP f st.frames)→(L≠[]∨t.hd.kind=18) →
  Calls Tryz.prog 26 #[.pointer (some ⟨b,0,none⟩),.int .i64 (t.loc:Int),.agg #[.int .i64 (f:Int),.int .i64 loop,.pointer pa,.slice la L.length lc]] w (aq B b nv T.length ub ob (.slice la L.length lc) L st (bo t f st) w)
def qK (B ob:Nat) (lv:Value) (n:Nat) (top:Option Nat) (w:World) (kv:Value) (xs:List Int):Prop :=
 ∃A c,kv=.slice A xs.length c∧xs.length≤c∧(xs=[]∨∃bk o,A=some ⟨bk,o,none⟩∧∀w',cW B ob lv n top w w'→∀(j:Nat) x,xs[j]? = some x→w'.cell? ⟨bk,o+j,none⟩=some (.int .i64 x))
theorem gH.keeps {B ob n:Nat} {lv kv:Value} {top:Option Nat} {w:World} {xs:List Int} (h:gH w B kv xs):qK B ob lv n top w kv xs:=by
 obtain⟨A,c,e,hc,h1⟩:=h;refine⟨A,c,e,hc,h1.imp id ?_⟩;rintro⟨bk,o,e2,hb,hx⟩;exact⟨bk,o,e2,fun w' hf j x hj=>(hf.below.cell (p:=⟨bk,o+j,none⟩) hb).trans (hx j x hj)⟩
theorem qK.later {B ob n:Nat} {lv kv:Value} {top:Option Nat} {w w':World} {xs:List Int} (h:qK B ob lv n top w kv xs) (hf:cW B ob lv n top w w'):qK B ob lv n top w' kv xs:=by
 obtain⟨A,c,e,hc,h1⟩:=h;refine⟨A,c,e,hc,h1.imp id ?_⟩;rintro⟨bk,o,e2,hx⟩;exact⟨bk,o,e2,fun w2 hf2=>hx w2 (hf.trans hf2)⟩
theorem qL {ks:List Lt} {n:Nat} {x:Lt} (h:ks[n]? = some x):Lt.eD (ks.drop n)=x.wt+Lt.eD (ks.drop (n+1))∧Lt.ak (ks.drop n)=x.size+Lt.ak (ks.drop (n+1)):=by
 rw[drop_at h,Lt.eD,Lt.ak];exact⟨rfl,rfl⟩
end Go.Proofs.YteflkdlaoiijbaaGreatDoor
namespace Go.Proofs.YteflkdlaoiijbaaGreatDoor
mutual
theorem Lt.All.at_ {T:List Nd} {Q:Nat→Nd→Prop} :∀(t:Lt),Lt.In T t→Lt.All Q t→∀i∈t.dI,∀x,T[i]? = some x→Q i x
 | .mk i h ks,hi,ha=>by
  unfold Lt.In at hi;unfold Lt.All at ha;rw[Lt.dI];intro j hj x hx;rcases bc.1 hj with rfl|hj
  ·rw[hi.1] at hx
   injection hx with hx;rw[←hx];exact ha.1
  ·exact Lt.dN.at_ ks hi.2.2 ha.2 j hj x hx
theorem Lt.dN.at_ {T:List Nd} {Q:Nat→Nd→Prop} :∀(ks:List Lt),Lt.nG T ks→Lt.dN Q ks→∀i∈Lt.aS ks,∀x,T[i]? = some x→Q i x
 | [],_,_=>by rw[Lt.aS];intro i hi;simp at hi
 | k::ks,hi,ha=>by
  unfold Lt.nG at hi;unfold Lt.dN at ha;rw[Lt.aS];intro i h x hx;rcases cU.1 h with h|h
  ·exact Lt.All.at_ k hi.1 ha.1 i h x hx
  ·exact Lt.dN.at_ ks hi.2 ha.2 i h x hx
end
theorem BD (i:Nat):Cx 0 (gF i) :=
 ⟨⟨Nat.zero_lt_one,fun g x hx=>by
  cases g with
  | zero=>injection hx with hx;subst hx;exact⟨.inl ⟨rfl,rfl⟩,ah _⟩
  | succ g=>simp[gF] at hx⟩,Nat.zero_lt_one,fun n hn=>by simp[gF] at hn⟩
structure OQ (T:List Nd) (st:aH):Prop where
 ok:AZ st.fns
 fn :∀(g:Nat) x,g≠0→st.fns[g]? = some x→x.node<T.length∧st.of x.node=x.parent
 name :∀(i:Nat) x,T[i]? = some x→x.kind=7→XN st x.s i
 jump :∀(i:Nat) x,T[i]? = some x→x.kind=30∨x.kind=31→∃t:Nat,st.uses i=(4,(t:Int))∧t<T.length∧st.of t=st.of i
theorem DS {T:List Nd} {t:Lt} {st:aH} (h:my t=.ok st) (hi:Lt.In T t) (hn:t.dI.Nodup) (ha :∀j,j<T.length↔j∈t.dI) (hw:t.Wf):OQ T st:=by
 obtain⟨a1,a2,a3,a4⟩:=jJ t h hn (BD _) hw;refine⟨a1.ok,fun g x hg hx=>?_,fun i x hx hk=>?_,fun i x hx hk=>?_⟩
 ·obtain⟨m1,m2⟩:=a1.new g x (by show 1≤g;omega) hx
  exact⟨(ha _).2 m1,m2⟩
 ·exact(Lt.All.at_ t hi a4 i ((ha i).1 (aJ.1 hx).1) x hx).1 hk
 ·obtain⟨f,t',h1,h2,h3⟩:=(Lt.All.at_ t hi a4 i ((ha i).1 (aJ.1 hx).1) x hx).2 hk
  rcases h3 with ⟨h3,h4⟩ | ⟨y,hy,_⟩
  ·exact⟨t',h2,(ha _).2 h3,h4.trans h1.symm⟩
  ·simp[aH.fr,gF] at hy
theorem Yy {k:Int} (h:gB (gW k) 32=true):k=18:=by
 unfold gW at h;split at h
 ·exact absurd h (by decide +kernel)
 ·split at h
  ·exact absurd h (by decide +kernel)
  ·split at h
   ·exact absurd h (by decide +kernel)
   ·split at h
    ·exact absurd h (by decide +kernel)
    ·split at h
     ·exact absurd h (by decide +kernel)
     ·split at h
      ·assumption
      ·split at h
       ·exact absurd h (by decide +kernel)
       ·split at h
        ·exact absurd h (by decide +kernel)
        ·exact absurd h (by decide +kernel)
theorem Jc {k n:Int} {ss:List Int} (hk:k=6∨k=7∨k=30∨k=31) (h:qf k n ss=true):ss=[]:=by
 have e:aY k n=[]:=by
  unfold aY;repeat rw[af (by omega)]
 unfold qf at h;rw[e,fy] at h;exact Eg.1 h
theorem abc {n:Int} {ss:List Int} (h:qf 24 n ss=true) :∃a b,ss=[a,b]∧gB a 32=true:=by
 have e:aY 24 n=[(1,1,[32,1])]:=by
  unfold aY;repeat rw[af (by decide)]
  rw[al rfl]
 unfold qf at h;rw[e,fy,fy,dj] at h;obtain⟨h1,h2⟩:=h;rw[kz] at h1 h2;by_cases hc:(0:Int)<1∧iZ ss [32,1]=true
 ·rw[al hc] at h2
  have e2 :∀l,kz [32,1] 1 ss.length 1 l=(1,l):=fun l=>by
   cases ss.length with
   | zero=>rfl
   | succ m=>rw[kz,af (by omega)]
  have h2:(kz [32,1] 1 ss.length 1 (ss.drop 2)).2.isEmpty=true:=h2;rw[e2] at h2;have h3:=ni hc.2;have hb:=hc.2;match ss,h2,h3,hb with
  | [a,b],_,_,hb =>
   rw[iZ,dj] at hb;exact⟨a,b,rfl,hb.1⟩
  | a::b::c::l,h2,_,_=>cases h2
  | [a],_,h3,_=>simp at h3
  | [],_,h3,_=>simp at h3
 ·rw[af hc] at h1
  exact absurd h1 (show ¬ (decide ((1:Int)≤0))=true by decide)
mutual
theorem Vd {T:List Nd} (hT :∀x∈T,qf x.kind x.num (x.kids.map fun k=>gW (dD T k.toNat))=true) :∀(t:Lt),Lt.In T t→t.Wf
 | .mk i h ks,hi=>by
  unfold Lt.In at hi;obtain⟨hx,hk,hs⟩:=hi;unfold Lt.Wf;have h1:=hT h (aL hx);refine⟨⟨fun e=>?_,fun e=>?_⟩,OR hT ks hs⟩
  ·have:=Jc e h1
   rw[pO,hk,pO] at this;exact this
  ·rw[e] at h1
   obtain⟨a,b,h2,h3⟩:=abc h1;rw[hk,tU] at h2;match ks,h2,hs with
   | [x,y],h2,hs =>
    injection h2 with h2 _;rw[←h2] at h3;have h4:=Yy h3;refine⟨x,y,rfl,?_⟩;unfold Lt.nG at hs;obtain⟨j,g,ls⟩:=x;have hg:=hs.1;unfold Lt.In at hg;have h4:dD T (((j:Nat):Int)).toNat=18:=h4;rw[iI,lA hg.1] at h4;exact h4
   | [],h2,_=>cases h2
   | [x],h2,_=>cases h2
   | _::_::_::_,h2,_=>cases h2
theorem OR {T:List Nd} (hT :∀x∈T,qf x.kind x.num (x.kids.map fun k=>gW (dD T k.toNat))=true) :∀(ks:List Lt),Lt.nG T ks→Lt.yP ks
 | [],_=>by unfold Lt.yP;trivial
 | k::ks,hi=>by
  unfold Lt.nG at hi;unfold Lt.yP;exact⟨Vd hT k hi.1,OR hT ks hi.2⟩
end
open Go.RowKit
theorem nR {k:Int} (h:gB (gW k) 1=true):tG k:=by
 unfold tG;unfold gW at h;repeat' split at h
 all_goals first|omega|exact absurd h (by decide +kernel)
theorem abd {k:Int} (h:gB (gW k) 2=true):k=7∨k=8:=by
 unfold gW at h;repeat' split at h
 all_goals first|omega|exact absurd h (by decide +kernel)
theorem abe {k:Int} (h:gB (gW k) 4=true):k=9∨k=10:=by
 unfold gW at h;repeat' split at h
 all_goals first|omega|exact absurd h (by decide +kernel)
theorem abf {k:Int} (h:gB (gW k) 8=true):k=11:=by
 unfold gW at h;repeat' split at h
 all_goals first|omega|exact absurd h (by decide +kernel)
theorem Yz {k:Int} (h:gB (gW k) 16=true):k=16∨k=17:=by
 unfold gW at h;repeat' split at h
 all_goals first|omega|exact absurd h (by decide +kernel)
theorem vx {k:Int} (h:gB (gW k) 32=true):k=18:=by
 unfold gW at h;repeat' split at h
 all_goals first|omega|exact absurd h (by decide +kernel)
theorem YA {k:Int} (h:gB (gW k) 64=true):StK k:=by
 unfold StK;unfold gW at h;repeat' split at h
 all_goals first|omega|exact absurd h (by decide +kernel)
theorem Tz {k:Int} (h:gB (gW k) 128=true):k=29:=by
 unfold gW at h;repeat' split at h
 all_goals first|omega|exact absurd h (by decide +kernel)
theorem BE {r most:Int} :∀(f:Nat) (t:Int) (ks:List Int),∃a,ks=a++(kz [r] most f t ks).2∧(kz [r] most f t ks).1=t+(a.length:Int)∧(∀x∈a,gB x r=true)∧(a=[]∨t+(a.length:Int)≤most):=by
 intro f;induction f with
 | zero=>intro t ks;exact⟨[],rfl,by rw[kz];simp,fun x hx=>by simp at hx,.inl rfl⟩
 | succ f ih =>
  intro t ks;rw[kz];split
  ·rename_i hc
   obtain⟨h1,h2⟩:=hc;cases ks with
   | nil=>cases h2
   | cons k ks =>
    rw[iZ,dj] at h2;obtain⟨a,e1,e2,e3,e4⟩:=ih (t+1) ks;refine⟨k::a,?_,?_,fun x hx=>?_,.inr ?_⟩
    ·show k::ks=k::(a++(kz [r] most f (t+1) ks).2)
     rw[←e1]
    ·show(kz [r] most f (t+1) ks).1=_
     rw[e2,List.length_cons];omega
    ·rcases bc.1 hx with rfl|hx
     ·exact h2.1
     ·exact e3 x hx
    ·rw[List.length_cons]
     rcases e4 with e4|e4
     ·subst e4
      simp;omega
     ·omega
  ·exact⟨[],rfl,by simp,fun x hx=>by simp at hx,.inl rfl⟩
theorem BG {r s most:Int} :∀(f:Nat) (t:Int) (ks:List Int),∃ps:List (Int×Int),ks=(ps.flatMap fun p=>[p.1,p.2])++(kz [r,s] most f t ks).2∧(kz [r,s] most f t ks).1=t+(ps.length:Int)∧(∀p∈ps,gB p.1 r=true∧gB p.2 s=true)∧(ps=[]∨t+(ps.length:Int)≤most):=by
 intro f;induction f with
 | zero=>intro t ks;exact⟨[],rfl,by rw[kz];simp,fun x hx=>by simp at hx,.inl rfl⟩
 | succ f ih =>
  intro t ks;rw[kz];split
  ·rename_i hc
   obtain⟨h1,h2⟩:=hc;match ks,h2 with
   | [],h2=>cases h2
   | [k],h2=>rw[iZ,iZ,dj] at h2;exact absurd h2.2 (by simp)
   | k::l::ks,h2 =>
    rw[iZ,iZ,dj,dj] at h2;obtain⟨a,e1,e2,e3,e4⟩:=ih (t+1) ks;refine⟨(k,l)::a,?_,?_,fun x hx=>?_,.inr ?_⟩
    ·show k::l::ks=k::l::((a.flatMap fun p=>[p.1,p.2])++(kz [r,s] most f (t+1) ks).2)
     rw[←e1]
    ·show(kz [r,s] most f (t+1) ks).1=_
     rw[e2,List.length_cons];omega
    ·rcases bc.1 hx with rfl|hx
     ·exact⟨h2.1,h2.2.1⟩
     ·exact e3 x hx
    ·rw[List.length_cons]
     rcases e4 with e4|e4
     ·subst e4
      simp;omega
     ·omega
  ·exact⟨[],rfl,by simp,fun x hx=>by simp at hx,.inl rfl⟩
theorem gN {a most r:Int} {l:List Int} (h:fy [(a,most,[r])] l=true):(∀x∈l,gB x r=true)∧a≤(l.length:Int)∧(l=[]∨(l.length:Int)≤most):=by
 rw[fy,fy,dj] at h;obtain⟨h1,h2⟩:=h;obtain⟨b,e1,e2,e3,e4⟩:=BE (r:=r) (most:=most) (l.length+1) 0 l;have h3:=Eg.1 h2;have h1:=gU h1;have e5:(kz [r] most (l.length+1) 0 l).2=[]:=h3;rw[e5,jX] at e1;have h1:a≤(kz [r] most (l.length+1) 0 l).1:=h1;rw[e2] at h1;subst e1;exact⟨e3,by omega,e4.imp id (by omega)⟩
theorem qM {a most r b BH s:Int} {l:List Int} (h:fy [(a,most,[r]),(b,BH,[s])] l=true) :∃l1 l2,l=l1++l2∧(∀x∈l1,gB x r=true)∧a≤(l1.length:Int)∧(l1=[]∨(l1.length:Int)≤most)∧(∀x∈l2,gB x s=true)∧b≤(l2.length:Int)∧(l2=[]∨(l2.length:Int)≤BH):=by
 rw[fy,dj] at h;obtain⟨h1,h2⟩:=h;obtain⟨c,e1,e2,e3,e4⟩:=BE (r:=r) (most:=most) (l.length+1) 0 l;have h1:a≤(kz [r] most (l.length+1) 0 l).1:=gU h1;obtain⟨k1,k2,k3⟩:=gN h2;rw[e2] at h1;exact⟨c,_,e1,e3,by omega,e4.imp id (by omega),k1,k2,k3⟩
theorem OS {a most r s b BH q:Int} {l:List Int} (h:fy [(a,most,[r,s]),(b,BH,[q])] l=true) :∃(ps:List (Int×Int)) (l2:List Int),l=(ps.flatMap fun p:Int×Int=>[p.1,p.2])++l2∧(∀p∈ps,gB p.1 r=true∧gB p.2 s=true)∧a≤(ps.length:Int)∧(∀x∈l2,gB x q=true)∧b≤(l2.length:Int)∧(l2=[]∨(l2.length:Int)≤BH):=by
 rw[fy,dj] at h;obtain⟨h1,h2⟩:=h;obtain⟨c,e1,e2,e3,e4⟩:=BG (r:=r) (s:=s) (most:=most) (l.length+1) 0 l;have h1:a≤(kz [r,s] most (l.length+1) 0 l).1:=gU h1;obtain⟨k1,k2,k3⟩:=gN h2;rw[e2] at h1;exact⟨c,_,e1,e3,by omega,k1,k2,k3⟩
theorem vy {r s:Int} {l:List Int} (h:fy [(1,1,[r,s])] l=true) :∃a b,l=[a,b]∧gB a r=true∧gB b s=true:=by
 rw[fy,fy,dj] at h;obtain⟨h1,h2⟩:=h;obtain⟨c,e1,e2,e3,e4⟩:=BG (r:=r) (s:=s) (most:=1) (l.length+1) 0 l;have h1:1≤(kz [r,s] 1 (l.length+1) 0 l).1:=gU h1;have h3:(kz [r,s] 1 (l.length+1) 0 l).2=[]:=Eg.1 h2;rw[e2] at h1;rw[h3,jX] at e1;match c,e1,e3,e4,h1 with
 | [p],e1,e3,_,_=>exact⟨p.1,p.2,e1,e3 p (bZ.2 rfl)⟩
 | [],_,_,_,h1=>simp at h1
 | _::_::_,_,_,e4,_ =>
  rcases e4 with e4|e4
  ·cases e4
  ·simp at e4;omega
theorem oe {l:List Int} (h:1≤(l.length:Int)) (h':l=[]∨(l.length:Int)≤1):l.length=1:=by
 rcases h' with h'|h'
 ·rw[h'] at h;simp at h
 ·omega
theorem og {kk:List Int} {p:Int→Prop} (h:(kk.map gW).length=1) (hp :∀x∈kk,p x) :∃a,kk=[a]∧p a:=by
 match kk,h,hp with
 | [a],_,hp=>exact⟨a,rfl,hp a (bZ.2 rfl)⟩
 | [],h,_=>cases h
 | _::_::_,h,_=>simp at h
theorem OT {l:List Int} {n:Int} (h:n≤(l.length:Int)) (h':l.map gW=[]∨(l.length:Int)≤n) (hn:1≤n):(l.length:Int)=n:=by
 rcases h' with h'|h'
 ·rw[pO] at h'
  subst h';simp at h;omega
 ·omega
theorem TB {k n:Int} {kk:List Int} (h:qf k n (kk.map gW)=true):hH k n kk:=by
 have all :∀{r:Int} {p:Int→Prop},(∀{k},gB (gW k) r=true→p k)→∀{l:List Int},(∀x∈l.map gW,gB x r=true)→∀a∈l,p a:=fun hp l hl a ha=>hp (hl _ (jW ha))
 unfold qf at h;refine⟨fun e=>?_,fun e=>?_,fun e=>?_,fun e=>?_,fun e=>?_,fun e=>?_,fun e=>?_,fun e=>?_,fun e=>?_,fun e=>?_,fun e=>?_,fun e=>?_,fun e=>?_,fun e=>?_,fun e=>?_,fun e=>?_⟩
 ·rw[show aY k n=[] by unfold aY;repeat rw[af (by omega)]] at h
  rw[fy] at h;exact pO.1 (Eg.1 h)
 ·rw[show aY k n=[(1,1,[1,1])] by rcases e with rfl|rfl|rfl<;>simp[aY]] at h
  obtain⟨a,b,e1,e2,e3⟩:=vy h;match kk,e1 with
  | [x,y],e1 =>
   injection e1 with e4 e5;injection e5 with e5 _;exact⟨x,y,rfl,nR (by rw[e4];exact e2),nR (by rw[e5];exact e3)⟩
  | [],e1=>cases e1
  | [_],e1=>cases e1
  | _::_::_::_,e1=>cases e1
 ·rw[show aY k n=[(1,big,[1])] by rcases e with rfl|rfl<;>simp[aY]] at h
  obtain⟨h1,h2,_⟩:=gN h;rw[cy] at h2;exact⟨by omega,all nR h1⟩
 ·rw[show aY k n=[(1,1,[32])] by rcases e with rfl|rfl<;>simp[aY]] at h
  obtain⟨h1,h2,h3⟩:=gN h;obtain⟨a,e1,e2⟩:=og (kk:=kk) (oe h2 h3) (all vx h1);rw[e1,e2]
 ·rw[show aY k n=[(1,1,[1])] by rcases e with rfl|rfl|rfl<;>simp[aY]] at h
  obtain⟨h1,h2,h3⟩:=gN h;exact og (kk:=kk) (oe h2 h3) (all nR h1)
 ·rw[show aY k n=[(0,big,[16])] by rw[e];simp[aY]] at h
  exact all Yz (gN h).1
 ·rw[show aY k n=[(0,big,[64]),(0,1,[128])] by rw[e];simp[aY]] at h
  obtain⟨l1,l2,e1,h1,_,_,h2,h3,h4⟩:=qM h;obtain⟨k1,k2,rfl,rfl,rfl⟩:=wo.1 e1;refine⟨k1,k2,rfl,all YA h1,?_⟩;have h5:=all Tz h2;match k2,h4,h5 with
  | [],_,_=>exact .inl rfl
  | [a],_,h5=>exact .inr (by rw[h5 a (bZ.2 rfl)])
  | _::_::_,h4,_ =>
   rcases h4 with h4|h4
   ·cases h4
   ·simp at h4;omega
 ·rw[show aY k n=[(0,big,[1])] by rcases e with rfl|rfl<;>simp[aY]] at h
  exact all nR (gN h).1
 ·rw[show aY k n=[(n,n,[2]),(1,big,[1])] by rw[e];simp[aY]] at h
  obtain⟨l1,l2,e1,h1,h1a,TC,h2,h3,h4⟩:=qM h;obtain⟨k1,k2,rfl,rfl,rfl⟩:=wo.1 e1;rw[cy] at *;exact⟨k1,k2,rfl,all abd h1,OT h1a TC,by omega,all nR h2⟩
 ·rw[show aY k n=[(1,1,[4])] by rw[e];simp[aY]] at h
  obtain⟨h1,h2,h3⟩:=gN h;exact og (kk:=kk) (oe h2 h3) (all abe h1)
 ·rw[show aY k n=[(1,1,[1,32])] by rw[e];simp[aY]] at h
  obtain⟨a,b,e1,e2,e3⟩:=vy h;match kk,e1 with
  | [x,y],e1 =>
   injection e1 with e4 e5;injection e5 with e5 _;exact⟨x,by rw[vx (k:=y) (by rw[e5];exact e3)],nR (by rw[e4];exact e2)⟩
  | [],e1=>cases e1
  | [_],e1=>cases e1
  | _::_::_::_,e1=>cases e1
 ·rw[show aY k n=[(1,1,[32,1])] by rw[e];simp[aY]] at h
  obtain⟨a,b,e1,e2,e3⟩:=vy h;match kk,e1 with
  | [x,y],e1 =>
   injection e1 with e4 e5;injection e5 with e5 _;exact⟨y,by rw[vx (k:=x) (by rw[e4];exact e2)],nR (by rw[e5];exact e3)⟩
  | [],e1=>cases e1
  | [_],e1=>cases e1
  | _::_::_::_,e1=>cases e1
 ·rw[show aY k n=[(1,big,[1,32]),(0,1,[32])] by rw[e];simp[aY]] at h
  obtain⟨ps,l2,e1,h1,h2,h3,_,h4⟩:=OS h;obtain⟨k1,k2,rfl,e2,rfl⟩:=wo.1 e1;have key :∀(ps:List (Int×Int)) (k1:List Int),k1.map gW=(ps.flatMap fun p=>[p.1,p.2])→(∀p∈ps,gB p.1 1=true∧gB p.2 32=true)→∃qs:List (Int×Int),k1=(qs.flatMap fun p=>[p.1,p.2])∧qs.length=ps.length∧∀p∈qs,tG p.1∧p.2=18:=by
   intro ps;induction ps with
   | nil=>intro k1 e _;exact⟨[],pO.1 e,rfl,fun p hp=>by simp at hp⟩
   | cons p ps ih =>
    intro k1 e hp;match k1,e with
    | [],e=>exact absurd (aB List.length e) (by simp)
    | [_],e=>exact absurd (aB List.length e) (by simp)
    | x::y::k1,e =>
     have e:gW x::gW y::k1.map gW=p.1::p.2::(ps.flatMap fun p=>[p.1,p.2]):=e
     have a1:=(zK e).1;have a2:=(zK (zK e).2).1;have e:=(zK (zK e).2).2;obtain⟨qs,b1,b2,b3⟩:=ih k1 e fun q hq=>hp q (cr _ hq)
     have h0:=hp p (bT ..);refine⟨(x,y)::qs,by rw[b1];rfl,by simp[b2],fun q hq=>?_⟩
     rcases bc.1 hq with rfl|hq
     ·exact⟨nR (by rw[a1];exact h0.1),vx (by rw[a2];exact h0.2)⟩
     ·exact b3 q hq
  obtain⟨qs,b1,b2,b3⟩:=key ps k1 e2 h1;refine⟨qs,k2,by rw[b1],by omega,b3,?_⟩
  have h5:=all vx h3;match k2,h4,h5 with
  | [],_,_=>exact .inl rfl
  | [a],_,h5=>exact .inr (by rw[h5 a (bZ.2 rfl)])
  | _::_::_,h4,_ =>
   rcases h4 with h4|h4
   ·cases h4
   ·simp at h4;omega
 ·rw[show aY k n=[(2,3,[1]),(1,1,[32])] by rw[e];simp[aY]] at h
  obtain⟨l1,l2,e1,h1,h1a,TC,h2,h3,h4⟩:=qM h;obtain⟨k1,k2,rfl,rfl,rfl⟩:=wo.1 e1;obtain⟨a,e2,e3⟩:=og (kk:=k2) (oe h3 h4) (all vx h2);rw[cy] at *;refine⟨k1,by rw[e2,e3],?_,all nR h1⟩
  rcases TC with TC|TC
  ·rw[pO] at TC
   subst TC;simp at h1a
  ·omega
 ·rw[show aY k n=[(n,n,[1]),(1,1,[32])] by rw[e];simp[aY]] at h
  obtain⟨l1,l2,e1,h1,h1a,TC,h2,h3,h4⟩:=qM h;obtain⟨k1,k2,rfl,rfl,rfl⟩:=wo.1 e1;obtain⟨a,e2,e3⟩:=og (kk:=k2) (oe h3 h4) (all vx h2);rw[cy] at *;exact⟨k1,by rw[e2,e3],OT h1a TC,all nR h1⟩
 ·rw[show aY k n=[(1,1,[8])] by rw[e];simp[aY]] at h
  obtain⟨h1,h2,h3⟩:=gN h;obtain⟨a,e1,e2⟩:=og (kk:=kk) (oe h2 h3) (all abf h1);rw[e1,e2]
def YB (F:Int):Prop:=F=0∨F=1∨F=2∨F=4∨F=8∨F=10∨F=20
theorem TD (k:Int):YB (kA k):=by
 unfold YB kA;repeat' split
 all_goals decide
theorem TE {F:Int} (hF:YB F) {a b c d nb na o:Bool} (h:flB F a b c d nb na o=true):(a=true→F=1)∧(b=true→F=2∨F=10)∧(c=true→F=4∨F=20)∧(d=true→F=8∨F=10)∧(F=20→nb=true)∧na=true∧o=true:=by
 rcases hF with rfl|rfl|rfl|rfl|rfl|rfl|rfl<;>cases a<;>cases b<;>cases c<;>cases d<;>cases nb<;>cases na<;>cases o<;>first|exact absurd h (by decide +kernel)|(clear h;decide)
structure abg (x:Nd):Prop where
 op:x.op≠0→x.kind=12∨x.kind=13
 num:x.num≠0→x.kind=4∨x.kind=11∨x.kind=20∨x.kind=27
 s:x.s≠⟨#[]⟩→x.kind=5∨x.kind=7∨x.kind=10∨x.kind=31∨x.kind=32
 names:x.names≠[]→x.kind=11∨x.kind=19∨x.kind=26∨x.kind=27∨x.kind=28
 name:(x.kind=7∨x.kind=10∨x.kind=31∨x.kind=32)→gC x.s=true
 all :∀y∈x.names,gC y=true
 bin:x.kind=12→1≤x.op∧x.op≤19
 una:x.kind=13→20≤x.op∧x.op≤23
 many:x.kind=11→x.num=0∨x.num=1
 count:(x.kind=20∨x.kind=27)→1≤x.num
 least:(x.kind=19∨x.kind=27)→1≤x.names.length
 just:(x.kind=26∨x.kind=28)→x.names.length=1
theorem OU {x:Nd} (h:dc x=true):abg x:=by
 have h:flB (kA x.kind) (x.op != 0) (x.num != 0) (!x.s.toList.isEmpty) (decide (0<x.names.length)) (gC x.s) (x.names.all gC) (WL x.kind x.op && pe x.kind x.num && pg x.kind x.names.length)=true:=h;obtain⟨h1,h2,h3,h4,h5,h6,h7⟩:=TE (TD _) h;rw[dj,dj] at h7;obtain⟨⟨h7,h8⟩,h9⟩:=h7;have F1:kA x.kind=1→x.kind=12∨x.kind=13:=fun e=>by
  unfold kA at e;repeat' split at e
  all_goals first|assumption|(exfalso;revert e;decide)
 have F2:kA x.kind=2→x.kind=4∨x.kind=20:=fun e=>by
  unfold kA at e;repeat' split at e
  all_goals first|assumption|(exfalso;revert e;decide)
 have F10:kA x.kind=10→x.kind=11∨x.kind=27:=fun e=>by
  unfold kA at e;repeat' split at e
  all_goals first|assumption|(exfalso;revert e;decide)
 have F8:kA x.kind=8→x.kind=19∨x.kind=26∨x.kind=28:=fun e=>by
  unfold kA at e;repeat' split at e
  all_goals first|assumption|(exfalso;revert e;decide)
 have F20:kA x.kind=20→x.kind=7∨x.kind=10∨x.kind=31∨x.kind=32:=fun e=>by
  unfold kA at e;repeat' split at e
  all_goals first|assumption|(exfalso;revert e;decide)
 have F4:kA x.kind=4→x.kind=5:=fun e=>by
  unfold kA at e;repeat' split at e
  all_goals first|assumption|(exfalso;revert e;decide)
 refine⟨fun e=>F1 (h1 (by simpa using e)),fun e=>?_,fun e=>?_,fun e=>?_,fun e=>h5 ?_,fun y hy=>List.all_eq_true.1 h6 y hy,fun e=>?_,fun e=>?_,fun e=>?_,fun e=>?_,fun e=>?_,fun e=>?_⟩
 ·rcases h2 (by simpa using e) with e|e
  ·have:=F2 e;omega
  ·have:=F10 e;omega
 ·have e':(!x.s.toList.isEmpty)=true:=by
   cases hs:x.s.toList with
   | nil =>
    exfalso;apply e;rw[Lib.toList_data] at hs;cases hx:x.s with
    | mk a =>
     rw[hx] at hs;have:a=#[]:=Array.toList_eq_nil_iff.1 hs;rw[this]
   | cons a l=>rfl
  rcases h3 e' with e|e
  ·have:=F4 e;omega
  ·have:=F20 e;omega
 ·rcases h4 (bX (wu.2 e)) with e|e
  ·have:=F8 e;omega
  ·have:=F10 e;omega
 ·unfold kA
  rw[af (by omega),af (by omega),af (by omega),af (by omega),al e]
 ·unfold WL at h7
  rw[al e,dj] at h7;exact⟨gU h7.1,gU h7.2⟩
 ·unfold WL at h7
  rw[af (by omega),al e,dj] at h7
  exact⟨gU h7.1,gU h7.2⟩
 ·unfold pe at h8
  rw[al e,Bool.or_eq_true] at h8;rcases h8 with h8|h8
  ·exact .inl (by simpa using h8)
  ·exact .inr (by simpa using h8)
 ·unfold pe at h8
  rw[af (by omega),al e] at h8
  exact gU h8
 ·unfold pg at h9
  rw[al e] at h9;exact gU h9
 ·unfold pg at h9
  rw[af (by omega),al e] at h9
  exact gU h9
theorem BJ {T:List Nd} :∀{ks:List Lt},Lt.nG T ks→(ks.map fun k=>(k.loc:Int)).map (fun k=>gW (dD T k.toNat))=(jd ks).map gW
 | [],_=>rfl
 | .mk i h l::ks,hi=>by
  unfold Lt.nG at hi;have h1:=hi.1;unfold Lt.In at h1;unfold jd;rw[eP,eP,eP,eP];have h2:=BJ hi.2;unfold jd at h2;rw[h2];congr 1
  show gW (dD T (((i:Nat):Int)).toNat)=gW h.kind
  rw[iI,lA h1.1]
mutual
theorem xI {T:List Nd} (hT :∀x∈T,qf x.kind x.num (x.kids.map fun k=>gW (dD T k.toNat))=true) :∀(t:Lt),Lt.In T t→t.vd
 | .mk i h ks,hi=>by
  unfold Lt.In at hi;obtain⟨hx,hk,hs⟩:=hi;unfold Lt.vd;have h1:=hT h (aL hx);rw[hk,BJ hs] at h1;exact⟨TB h1,vz hT ks hs⟩
theorem vz {T:List Nd} (hT :∀x∈T,qf x.kind x.num (x.kids.map fun k=>gW (dD T k.toNat))=true) :∀(ks:List Lt),Lt.nG T ks→Lt.iB ks
 | [],_=>by unfold Lt.iB;trivial
 | k::ks,hi=>by
  unfold Lt.nG at hi;unfold Lt.iB;exact⟨xI hT k hi.1,vz hT ks hi.2⟩
end
theorem OV {T:List Nd} (hT :∀x∈T,qf x.kind x.num (x.kids.map fun k=>gW (dD T k.toNat))=true) {t:Lt} (hi:Lt.In T t) (hn:t.dI.Nodup) (hk:1≤t.hd.kind∧t.hd.kind≤32):lx T t:=⟨hi,xI hT t hi,Vd hT t hi,hn,hk⟩
theorem tL {f:Nat} {st st':aH} (h:st'.frames=st.frames):bP f st'.frames=bP f st.frames:=by rw[h]
theorem qN {x:List jn} {L:List cS} (h:L≠[]):grow x L≠[]:=by
 cases L with
 | nil=>exact absurd rfl h
 | cons l r=>intro e;cases e
theorem qO {T:List Nd} {B b:Nat} {nv:Value} {ub ob:Nat} (f:Nat) (loop:Int) (pa la:Option Addr) (lc:Nat) (ms:List Nat) (L:List cS) (st:aH) (w:World) (kv:Value) (ks:List Lt) (hr:eF T B b nv ub ob f pa (.slice la L.length lc) ms L st w (Lt.eD ks) (Lt.ak ks)) (hn:dX T ks) (hV :∀k∈ks,bM T B b nv ub ob k) (hu:qK B ob (.slice la L.length lc) L.length (eE L) w kv (ks.map fun k=>(k.loc:Int)))
  (hl :∀k∈ks,18≤k.hd.kind→loop=bP f st.frames) (ht :∀k∈ks,L≠[]∨k.hd.kind=18) (vW:ks.length≤20000) :
  Calls Tryz.prog 111 #[.pointer (some ⟨b,0,none⟩),kv,.agg #[.int .i64 (f:Int),.int .i64 loop,.pointer pa,.slice la L.length lc]] w (aq B b nv T.length ub ob (.slice la L.length lc) L st (aI ks f st) w):=by
 have HNK:=aa hu;obtain⟨UA,uc,rfl,JO,_⟩:=hu;have HR:=aa hr;have HN:=aa hn;have HV:=aa hV;have HL:=aa hl;have kG:=aa ht;simp only[cy] at JO ⊢;obtain⟨R,hR⟩ :∃R,R=aI ks f st:=⟨_,rfl⟩;have HRS:=aa hR;rw[←hR];have cC:B≤w.heap.size:=by obtain⟨_,_,_,_,_,h,_⟩:=hr.dB.nodes;exact h
 clear hr hn hV hl ht hR;go_enter Tryz.func111,Tryz.ntmps111
 go_wp2_with fail
 have db:=heap_alloc_new w (.cells #[.int .i64 (f:Int),.int .i64 loop,.pointer pa,.slice la L.length lc] 92);have Sw:cW B ob (.slice la L.length lc) L.length (eE L) w (w.alloc (.cells #[.int .i64 (f:Int),.int .i64 loop,.pointer pa,.slice la L.length lc] 92)):=cW.bR ((Below.refl _ _).alloc (ah _) _) cC;have hs1:(w.alloc (.cells #[.int .i64 (f:Int),.int .i64 loop,.pointer pa,.slice la L.length lc] 92)).heap.size=w.heap.size+1:=an _ _;generalize hW1:w.alloc (.cells #[.int .i64 (f:Int),.int .i64 loop,.pointer pa,.slice la L.length lc] 92)=W1 at db Sw hs1 ⊢;have HF0:=aa Sw;have qg:=aa db;have je:=aa hW1;clear db Sw hs1 hW1;go_loopw [12] (fun tk wr=>∃(n:Nat) (s1:aH) (x:List jn),tk=.int .i64 (n:Int)∧n≤ks.length∧cW B ob (.slice la L.length lc) L.length (eE L) W1 wr∧eF T B b nv ub ob f pa (.slice la L.length lc) ms (grow x L) s1 wr (Lt.eD (ks.drop n)) (Lt.ak (ks.drop n))∧s1.names=x++st.names∧(L=[]→x=[])∧s1.frames=st.frames∧aI (ks.drop n) f s1=R) (fun tk _=>ks.length-(intOf tk).toNat)
 case atStart =>
  refine⟨0,st,[],rfl,bB _,cW.refl _ _ _ _ _ _,?_,rfl,fun _=>rfl,rfl,by rw[tR];exact HRS.out.symm⟩
  rw[tR,jM];have h:=HR.out;refine⟨h.dB.below HF0.out.below,?_,?_,h.hd,h.cx,h.few,h.fr,h.names,h.fns,h.fB⟩
  ·obtain⟨fv,FL,hw⟩:=h.rs
   exact⟨fv,FL,by rw[←je.out];exact hw.alloc _⟩
  ·have h2:cW B ob (.slice la L.length lc) L.length none w W1:=by rw[←je.out];exact cW.bR ((Below.refl _ _).alloc (ah _) _) cC
   exact⟨h.pos.fB.jk h2 (ah _),h.pos.blk.jk h2 (by simp),h.pos.names,h.pos.apart⟩
 case round =>
  obtain⟨n,s1,x,rfl,Cr,hf,hr1,hx1,hx2,ou,Qc⟩:=hrel;have OW:=hf.cells _ _ _ _ qg.out (by decide)
  have p0:=ab OW 0;have p1:=ab OW 1;have p2:=ab OW 2;have p3:=ab OW 3;replace p0:_=some (Value.int .i64 (f:Int)):=p0;replace p1:_=some (Value.int .i64 loop):=p1;replace p2:_=some (Value.pointer pa):=p2;replace p3:_=some (Value.slice la L.length lc):=p3;have HF:=aa hf;have ny:=aa hr1;have OX:=aa hx1;have HX2:=aa hx2;have HFR:=aa ou;have TF:=aa Qc;clear hf hr1 hx1 hx2 ou Qc OW;by_cases hlt:n<ks.length
  ·obtain⟨k,hk⟩ :∃k,ks[n]? = some k:=⟨ks[n],bE hlt⟩
   have xY:=aL hk;have hdr:=drop_at hk;have ac7:=aa (HNK.out.later (HF0.out.trans HF.out));obtain⟨A',c',he,_,jc⟩:=ac7.out;injection he with uC _ he2;subst uC he2;rcases jc with h0 | ⟨sb,so,rfl,hsc⟩
   ·rw[pO] at h0
    rw[h0] at hlt;exact absurd hlt (by simp)
   have cs:wr.cell? ⟨sb,so+n,none⟩=some (.int .i64 (k.loc:Int)):=hsc wr (cW.refl _ _ _ _ _ _) n _ (by rw[fw,hk];rfl)
   have hrk:=ny.out;rw[(qL hk).1,(qL hk).2] at hrk;have abh:=HN.out.at_ k xY;have bz:=HV.out k xY f loop pa la lc ms (grow x L) s1 wr (by rw[cF];exact hrk.mono (gy _ _) (gy _ _)) (fun h=>(HL.out k xY h).trans (tL HFR.out).symm) ((kG.out k xY).imp qN id)
   rw[cF] at bz;have sJ:=aa bz;have HRK:=aa hrk;have HK:=aa abh;have uw:=aa hdr;have mD:=aa hlt;clear bz hrk abh hdr hk xY hsc;go_wp2_with fail
   refine sJ.out.mono ?_;intro e w2 hp;cases cL:bo k f s1 with
   | error y =>
    rw[cL] at hp;obtain⟨hb,v,rfl,g2,rfl,h2⟩:=hp;have H2:=aa h2;have HB:=aa hb;have HND:=aa cL;clear h2 hb cL;go_wp2_with fail
    go_ret
    have hE:R=.error y:=by rw[←TF.out,uw.out,e7,HND.out];rfl
    rw[hE];exact⟨(HF0.out.below.trans HF.out.below).trans HB.out,_,rfl,_,rfl,H2.out⟩
   | ok s2 =>
    rw[cL] at hp;obtain⟨rfl,y,hy1,hy2,hr2,hf2,rA⟩:=eF.next HRK.out HK.out cL hp;rw[grow_grow] at hr2;rw[cF,oa] at hf2;have vX:=aa hr2;have lO:=aa hf2;have HY1:=aa hy1;have HY2:=aa hy2;have ac8:=aa rA;have HND:=aa cL;clear hp hr2 hf2 hy1 hy2 rA cL;go_wp2_with fail
    refine⟨⟨n+1,s2,y++x,by go_num,mD.out,HF.out.trans lO.out,vX.out,by rw[HY1.out,OX.out,fK],fun e=>?_,ac8.out.trans HFR.out,?_⟩,by have:=mD.out;simp[intOf];omega⟩
    ·rw[HX2.out e,HY2.out (by rw[e];rfl)];rfl
    ·rw[←TF.out,uw.out,e7,HND.out];rfl
  ·have zr:n=ks.length:=by omega
   go_wp2_with fail
   go_ret
   have hE:R=.ok s1:=by rw[←TF.out,zr,wA,fm]
   rw[hE];exact⟨(HF0.out.below.trans HF.out.below),rfl,ny.out.rs,HF0.out.trans HF.out,x,OX.out,HX2.out,ny.out.pos.fB⟩
theorem all_nil (b f:Nat) (loop:Int) (pa la A:Option Addr) (ln lc c:Nat) (w:World) :
  Calls Tryz.prog 111 #[.pointer (some ⟨b,0,none⟩),.slice A 0 c,.agg #[.int .i64 (f:Int),.int .i64 loop,.pointer pa,.slice la ln lc]] w fun e w'=>e=.returned .nilIface∧Below w.heap.size w w':=by
 go_enter Tryz.func111,Tryz.ntmps111
 go_wp2_with fail
 go_loopw [12] (fun tk wr=>tk=.int .i64 0∧Below w.heap.size w wr) (fun _ _=>0)
 case atStart=>exact⟨rfl,(Below.refl _ _).alloc (ah _) _⟩
 case round =>
  obtain⟨rfl,hb⟩:=hrel;go_wp2_with fail
  go_ret
  exact⟨rfl,hb⟩
theorem eF.dp {T:List Nd} {B b:Nat} {nv:Value} {ub ob f:Nat} {pa:Option Addr} {lv:Value} {ms:List Nat} {L:List cS} {st:aH} {w w':World} {a s:Nat} (h:eF T B b nv ub ob f pa lv ms L st w a s) (hb:Below w.heap.size w w'):eF T B b nv ub ob f pa lv ms L st w' a s:=by
 have cC:B≤w.heap.size:=by obtain⟨_,_,_,_,_,h,_⟩:=h.dB.nodes;exact h
 have h2:cW B ob lv L.length none w w':=cW.bR hb cC;refine⟨h.dB.below h2.below,?_,⟨h.pos.fB.jk h2 (ah _),h.pos.blk.jk h2 (by simp),h.pos.names,h.pos.apart⟩,h.hd,h.cx,h.few,h.fr,h.names,h.fns,h.fB⟩
 obtain⟨fv,FL,hw⟩:=h.rs;exact⟨fv,FL,hw.later hb⟩
theorem aq.from {B b:Nat} {nv:Value} {N ub ob:Nat} {lv:Value} {L:List cS} {st:aH} {r:Rs aH} {w w1 w2:World} {e:Ending} (hb:Below w.heap.size w w1) (hB:B≤w.heap.size) (h:aq B b nv N ub ob lv L st r w1 e w2):aq B b nv N ub ob lv L st r w e w2:=by
 refine⟨(hb.mono hB).trans h.1,?_⟩;have h2:=h.2;cases r with
 | error y=>exact h2
 | ok s =>
  obtain⟨k1,k2,k3,k4⟩:=h2;exact⟨k1,k2,(cW.bR hb hB).trans k3,k4⟩
theorem aq.ret {B b:Nat} {nv:Value} {N ub ob:Nat} {lv:Value} {L:List cS} {st:aH} {r:Rs aH} {w w2:World} {e:Ending} (h:aq B b nv N ub ob lv L st r w e w2) :∃v,e=.returned v:=by
 have h2:=h.2;cases r with
 | error y=>obtain⟨v,h3,_⟩:=h2;exact⟨v,h3⟩
 | ok s=>exact⟨_,h2.1⟩
structure fg (w W:World) (p q:Nat) (f:Nat) (loop:Int) (pa:Option Addr) (lv kv nv:Value) (d0 d1 d2:Value):Prop where
 pos:W.heap[w.heap.size]? = some (.cells #[.int .i64 (f:Int),.int .i64 loop,.pointer pa,lv] 92 (0,0))
 kids :∃a b c d e,W.heap[p]? = some (.cells #[a,b,c,d,e,nv,kv] 55 (0,0))
 dec:W.heap[q]? = some (.cells #[d0,d1,d2] 189 (0,0))
 pne:p=w.heap.size+1
 qne:w.heap.size+1<q
theorem ly {w W0 w1:World} {f:Nat} {loop:Int} {pa:Option Addr} {lv a b c d e nv kv:Value} (hW:W0=(w.alloc (.cells #[.int .i64 (f:Int),.int .i64 loop,.pointer pa,lv] 92)).alloc (.cells #[a,b,c,d,e,nv,kv] 55)) (h1:Below W0.heap.size W0 w1) (d0 d1 d2:Value):Below w.heap.size w (w1.alloc (.cells #[d0,d1,d2] 189))∧fg w (w1.alloc (.cells #[d0,d1,d2] 189)) (w.heap.size+1) w1.heap.size f loop pa lv kv nv d0 d1 d2:=by
 have hs:W0.heap.size=w.heap.size+1+1:=by rw[hW,an,an]
 have hb0:Below w.heap.size w W0:=by rw[hW];exact Below.two _ _
 have h0:W0.heap[w.heap.size]? = some (.cells #[.int .i64 (f:Int),.int .i64 loop,.pointer pa,lv] 92 (0,0)):=by
  rw[hW];exact(Below.heap_alloc _ _ _ (by rw[an];omega)).trans (heap_alloc_new w _)
 have h2:W0.heap[w.heap.size+1]? = some (.cells #[a,b,c,d,e,nv,kv] 55 (0,0)):=by
  rw[hW];have:=heap_alloc_new (w.alloc (.cells #[.int .i64 (f:Int),.int .i64 loop,.pointer pa,lv] 92)) (.cells #[a,b,c,d,e,nv,kv] 55);rwa[an] at this
 have hl:=h1.size;have hb:=hb0.trans (h1.mono (by omega))
 have k :∀j,j<W0.heap.size→(w1.alloc (.cells #[d0,d1,d2] 189)).heap[j]? = W0.heap[j]?:=fun j hj=>(Below.heap_alloc _ _ _ (by omega)).trans (h1.block j hj)
 exact⟨hb.alloc (by omega) _,(k _ (by omega)).trans h0,⟨_,_,_,_,_,(k _ (by omega)).trans h2⟩,heap_alloc_new _ _,rfl,by omega⟩
theorem fg.cells {w W:World} {p q f:Nat} {loop:Int} {pa:Option Addr} {lv kv nv d0 d1 d2:Value} (h:fg w W p q f loop pa lv kv nv d0 d1 d2):W.cell? ⟨w.heap.size,0,none⟩=some (.int .i64 (f:Int))∧W.cell? ⟨w.heap.size,1,none⟩=some (.int .i64 loop)∧W.cell? ⟨w.heap.size,2,none⟩=some (.pointer pa)∧W.cell? ⟨w.heap.size,3,none⟩=some lv∧W.cell? ⟨p,5,none⟩=some nv∧W.cell? ⟨p,6,none⟩=some kv∧W.cell? ⟨q,0,none⟩=some d0∧W.cell? ⟨q,1,none⟩=some d1∧W.cell? ⟨q,2,none⟩=some d2:=by
 obtain⟨a,b,c,d,e,hk⟩:=h.kids;exact⟨ab h.pos 0,ab h.pos 1,ab h.pos 2,ab h.pos 3,ab hk 5,ab hk 6,ab h.dec 0,ab h.dec 1,ab h.dec 2⟩
theorem fg.on {w W W':World} {p q f:Nat} {loop:Int} {pa:Option Addr} {lv kv nv d0 d1 d2:Value} (h:fg w W p q f loop pa lv kv nv d0 d1 d2) (hk :∀(k:Nat) c (e:TypeId) fz,W.heap[k]? = some (.cells c e fz)→e∉[52,61,59,57,87,3,238]→W'.heap[k]? = some (.cells c e fz)):fg w W' p q f loop pa lv kv nv d0 d1 d2:=by
 obtain⟨a,b,c,d,e,hk5⟩:=h.kids;exact⟨hk _ _ _ _ h.pos (by decide),⟨a,b,c,d,e,hk _ _ _ _ hk5 (by decide)⟩,hk _ _ _ _ h.dec (by decide),h.pne,h.qne⟩
theorem fg.later {w W W':World} {p q f:Nat} {loop:Int} {pa:Option Addr} {lv kv nv d0 d1 d2:Value} (h:fg w W p q f loop pa lv kv nv d0 d1 d2) (hb:Below W.heap.size W W'):fg w W' p q f loop pa lv kv nv d0 d1 d2 :=
 h.on fun k _ _ _ hk _=>(hb.block k (aF.1 hk).1).trans hk
theorem fg.jk {w W W':World} {p q f:Nat} {loop:Int} {pa:Option Addr} {lv kv nv d0 d1 d2:Value} {B ob n:Nat} {v:Value} {top:Option Nat} (h:fg w W p q f loop pa lv kv nv d0 d1 d2) (hf:cW B ob v n top W W'):fg w W' p q f loop pa lv kv nv d0 d1 d2:=h.on hf.cells
theorem eF.step {T:List Nd} {B b:Nat} {nv:Value} {ub ob f:Nat} {pa:Option Addr} {lv:Value} {ms:List Nat} {L:List cS} {st st':aH} {w w':World} {a s a1 s1:Nat} {e:Ending} (h:eF T B b nv ub ob f pa lv ms L st w (a1+a) (s1+s)) (wP:Mk a1 s1 st st') (qV:Cx f st') (hf:st'.frames=st.frames) (hp:aq B b nv T.length ub ob lv L st (.ok st') w e w') :
  e=.returned .nilIface∧∃x,st'.names=x++st.names∧(L=[]→x=[])∧eF T B b nv ub ob f pa lv ms (grow x L) st' w' a s∧cW B ob lv L.length (eE L) w w':=by
 obtain⟨hb,rfl,Qc,ou,x,hx1,hx2,hx3⟩:=hp;refine⟨rfl,x,hx1,hx2,⟨h.dB.below hb,Qc,h.pos.on ou hx3 hx1 hx2 hf,h.hd.grow x,qV,wP.few,fun y hy=>?_,?_,?_,?_⟩,ou⟩
 ·rw[hf] at hy
  exact cJ (h.fr y hy) wP.least
 ·have:=wP.names;have:=h.names;omega
 ·have:=wP.fns;have:=h.fns;omega
 ·rw[cF];have:=h.fB;omega
theorem DT {T:List Nd} {B b:Nat} {nv:Value} {ub ob:Nat} (f:Nat) (loop:Int) (pa la:Option Addr) (lc:Nat) (ms:List Nat) (L:List cS) (x:List jn) (st:aH) (w:World) (kv:Value) (ks:List Lt) (hr:eF T B b nv ub ob f pa (.slice la L.length lc) ms (grow x L) st w (Lt.eD ks) (Lt.ak ks)) (hn:dX T ks) (hV :∀k∈ks,bM T B b nv ub ob k) (hu:gH w B kv (ks.map fun k=>(k.loc:Int)))
  (hl :∀k∈ks,18≤k.hd.kind→loop=bP f st.frames) (ht :∀k∈ks,L≠[]∨k.hd.kind=18) (vW:ks.length≤20000) :
  Calls Tryz.prog 111 #[.pointer (some ⟨b,0,none⟩),kv,.agg #[.int .i64 (f:Int),.int .i64 loop,.pointer pa,.slice la L.length lc]] w (aq B b nv T.length ub ob (.slice la L.length lc) (grow x L) st (aI ks f st) w):=by
 have:=qO f loop pa la lc ms (grow x L) st w kv ks (by rw[cF];exact hr) hn hV hu.keeps hl (fun k hk=>(ht k hk).imp qN id) vW
 rw[cF] at this;exact this
theorem eF.world {T:List Nd} {B b:Nat} {nv:Value} {ub ob f:Nat} {pa:Option Addr} {lv:Value} {ms:List Nat} {L:List cS} {st:aH} {w:World} {a s:Nat} (h:eF T B b nv ub ob f pa lv ms L st w a s):B≤w.heap.size:=by obtain⟨_,_,_,_,_,h,_⟩:=h.dB.nodes;exact h
theorem oR.iC {W:World} {B f:Nat} {p lv:Value} {ms:List Nat} {l:cS} {r:List cS} {st:aH} (h:oR W B f p lv ms (l::r) st):l.iC.length≤st.names.length:=by
 rw[h.names];show _≤(l.iC++mo r).length
 rw[cI];omega
theorem FH {T:List Nd} {B b:Nat} {nv:Value} {ub ob:Nat} (i f:Nat) (h:Nd) (ks:List Lt) (loop:Int) (pa la:Option Addr) (lc:Nat) (ms:List Nat) (L:List cS) (st:aH) (w:World) (hr:eF T B b nv ub ob f pa (.slice la L.length lc) ms L st w (Lt.eD ks) (Lt.ak ks)) (hx:T[i]? = some h) (hk:h.kids=ks.map fun k=>(k.loc:Int)) (hn:dX T ks) (hV :∀k∈ks,bM T B b nv ub ob k)
  (hl :∀k∈ks,18≤k.hd.kind→loop=bP f st.frames) (ht :∀k∈ks,L≠[]∨k.hd.kind=18) (hd:gJ h.kind h.kids.length=(false,0,false)) :
  Calls Tryz.prog 55 #[.pointer (some ⟨b,0,none⟩),.int .i64 (i:Int),.agg #[.int .i64 (f:Int),.int .i64 loop,.pointer pa,.slice la L.length lc]] w (aq B b nv T.length ub ob (.slice la L.length lc) L st (aI ks f st) w):=by
 obtain⟨bk,o,c,rfl,bN,cC,cL⟩:=hr.dB.nodes;obtain⟨pL,pM,dM,⟨NA,nc,kI,_⟩,fE⟩:=cL i h hx;have tm:h.kids.length≤20000:=(hr.dB.small h (aL hx)).1;have vW:ks.length≤20000:=by rw[hk,cy] at tm;exact tm
 obtain⟨KA,kc,jx,qe,_⟩:=id fE;subst kI jx;obtain⟨x0,x1,x2,x3,x4,x5,x6⟩:=dM;have y9:i<T.length:=(aJ.1 hx).1;have qY:=hr.dB.few;have hbl:b<w.heap.size:=by obtain⟨_,_,hw⟩:=hr.rs;exact hw.gR.1
 have d0:w.cell? ⟨b,0,none⟩=some (.slice (some ⟨bk,o,none⟩) T.length c):=by obtain⟨_,_,hw⟩:=hr.rs;exact ab hw.blk 0
 have iR:bk<w.heap.size:=by omega
 have HD:=aa (gK h.kind h.line h.op h.num h.s NA KA h.names.length nc h.kids.length kc);have HR:=aa hr;have HN:=aa hn;have HV:=aa hV;have HL:=aa hl;have kG:=aa ht;have Jd:=aa fE;have TG:=aa hd;have HK:=aa hk;have zc:Hid (∀W,Below w.heap.size w W→Calls Tryz.prog 111 #[.pointer (some ⟨b,0,none⟩),.slice KA h.kids.length kc,.agg #[.int .i64 (f:Int),.int .i64 loop,.pointer pa,.slice la L.length lc]] W (aq B b (.slice (some ⟨bk,o,none⟩) T.length c) T.length ub ob (.slice la L.length lc) L st (aI ks f st) w)):=aa fun W hW =>
  (qO f loop pa la lc ms L st W (.slice KA h.kids.length kc) ks (hr.dp hW) hn hV (by rw[←hk];exact(fE.below (hW.mono cC)).keeps) hl ht vW).mono fun e w' h=>h.from hW cC
 clear hr hn hV hl ht fE hd cL hk;go_enter Tryz.func55,Tryz.ntmps55
 go_wp2_with fail
 refine(HD.out _ (by omega)).mono ?_
 rw[TG.out];rintro e w1 ⟨rfl,hb1⟩;have dL:=aa hb1;clear hb1;go_wp2_with fail
 have zf:=ly rfl dL.out (.bool false) (.int .i64 0) (.bool false);have qP:=aa zf.2;have oS:=aa zf.1;clear zf;clear d0 x0 x1 x2 x3 x4 x5 x6;generalize w1.alloc (.cells #[.bool false,.int .i64 0,.bool false] 189)=W2 at qP oS ⊢;generalize w1.heap.size=q at qP ⊢;generalize w.heap.size+1=p at qP ⊢;obtain⟨k0,k1,k2,k3,k4,k5,k6,k7,k8⟩:=qP.out.cells;have hKc:h.kids.length≤kc:=qe;go_still_tail 7,(by kernel_rfl)
 change wpList _ _ _ _ _ W2.drew;have D2:=aa (show Below W2.heap.size W2 W2.drew from(Below.refl _ _).drew)
 generalize W2.drew=W3 at D2 ⊢;go_wp2_with fail
 refine(all_nil b f loop pa la KA L.length lc kc W3).mono ?_;rintro e w4 ⟨rfl,hb4⟩;have B4:=aa (D2.out.trans (hb4.mono D2.out.size));have P4:=aa (qP.out.later B4.out);clear hb4 k0 k1 k2 k3 k4 k5 k6 k7 k8;obtain⟨k0,k1,k2,k3,k4,k5,k6,k7,k8⟩:=P4.out.cells;go_wp2_with fail
 go_still_tail 7,(by kernel_rfl)
 change wpList _ _ _ _ _ w4.drew;have HC:=aa (zc.out w4.drew (oS.out.trans (B4.out.mono oS.out.size)).drew);generalize w4.drew=W5 at HC ⊢;go_wp2_with fail
 refine HC.out.mono ?_;intro e w6 hp;obtain⟨v,rfl⟩:=hp.ret;have HP:=aa hp;clear hp;go_wp2_with fail
 go_ret
 exact HP.out
theorem aq.abi {B b:Nat} {nv:Value} {N ub ob:Nat} {lv:Value} {L:List cS} {st:aH} {r:Rs aH} {w w1 w2:World} (h:aq B b nv N ub ob lv L st r w (.returned .nilIface) w1) (hb:Below w1.heap.size w1 w2):aq B b nv N ub ob lv L st r w (.returned .nilIface) w2:=by
 have h2:=h.2;cases r with
 | error y =>
  obtain⟨v,hv,g,rfl,_⟩:=h2;injection hv with hv;cases hv
 | ok s =>
  obtain⟨k1,⟨fv,FL,k2⟩,k3,x,k4,k5,k6⟩:=h2;have hB:B≤w1.heap.size:=by have:=k2.gR.1;have:=k2.pos;omega
  have hf:cW B ob lv L.length none w1 w2:=cW.bR hb hB;exact⟨h.1.trans hf.below,k1,⟨fv,FL,k2.later hb⟩,k3.trans (hf.Fu _),x,k4,k5,k6.jk hf (by rw[cF];exact ah _)⟩
theorem OY {T:List Nd} {B b:Nat} {nv:Value} {ub ob:Nat} (i f:Nat) (h:Nd) (ks:List Lt) (loop:Int) (pa la:Option Addr) (lc:Nat) (ms:List Nat) (l:cS) (r:List cS) (st:aH) (w:World) (hr:eF T B b nv ub ob f pa (.slice la (l::r).length lc) ms (l::r) st w (h.names.length+Lt.eD ks) (Lt.ak ks)) (hx:T[i]? = some h) (hk:h.kids=ks.map fun k=>(k.loc:Int)) (hn:dX T ks) (hV :∀k∈ks,bM T B b nv ub ob k)
  (hl :∀k∈ks,18≤k.hd.kind→loop=bP f st.frames) (hsz :∀s∈h.names,s.size≤65536) (hd:gJ h.kind h.kids.length=(true,(h.kids.length:Int),false)) :
  Calls Tryz.prog 55 #[.pointer (some ⟨b,0,none⟩),.int .i64 (i:Int),.agg #[.int .i64 (f:Int),.int .i64 loop,.pointer pa,.slice la (l::r).length lc]] w (aq B b nv T.length ub ob (.slice la (l::r).length lc) (l::r) st ((aI ks f st).bind fun s1=>bF i f h.line h.names s1) w):=by
 obtain⟨bk,o,c,rfl,bN,cC,cL⟩:=hr.dB.nodes;obtain⟨pL,pM,dM,⟨NA,nc,kI,_⟩,fE⟩:=cL i h hx;have tm:h.kids.length≤20000:=(hr.dB.small h (aL hx)).1;have vW:ks.length≤20000:=by rw[hk,cy] at tm;exact tm
 obtain⟨KA,kc,jx,qe,_⟩:=id fE;subst kI jx;obtain⟨x0,x1,x2,x3,x4,x5,x6⟩:=dM;have y9:i<T.length:=(aJ.1 hx).1;have qY:=hr.dB.few;have hbl:b<w.heap.size:=by obtain⟨_,_,hw⟩:=hr.rs;exact hw.gR.1
 have d0:w.cell? ⟨b,0,none⟩=some (.slice (some ⟨bk,o,none⟩) T.length c):=by obtain⟨_,_,hw⟩:=hr.rs;exact ab hw.blk 0
 have iR:bk<w.heap.size:=by omega
 have HD:=aa (gK h.kind h.line h.op h.num h.s NA KA h.names.length nc h.kids.length kc);have zc:Hid (∀W,Below w.heap.size w W→Calls Tryz.prog 111 #[.pointer (some ⟨b,0,none⟩),.slice KA h.kids.length kc,.agg #[.int .i64 (f:Int),.int .i64 loop,.pointer pa,.slice la (l::r).length lc]] W (aq B b (.slice (some ⟨bk,o,none⟩) T.length c) T.length ub ob (.slice la (l::r).length lc) (l::r) st (aI ks f st) W)):=aa fun W hW =>
  qO f loop pa la lc ms (l::r) st W (.slice KA h.kids.length kc) ks ((hr.dp hW).mono (wC _ _) (ah _)) hn hV (by rw[←hk];exact(fE.below (hW.mono cC)).keeps) hl (fun k _=>.inl (by simp)) vW
 have HR:=aa hr;have HN:=aa hn;have HV:=aa hV;have HL:=aa hl;have Jd:=aa fE;have TG:=aa hd;have HK:=aa hk;clear hr hn hV hl fE hd cL hk;generalize Ld:(l::r).length=ln at *;have GO:=aa Ld;clear Ld;go_enter Tryz.func55,Tryz.ntmps55
 go_wp2_with fail
 refine(HD.out _ (by omega)).mono ?_
 rw[TG.out];rintro e w1 ⟨rfl,hb1⟩;have dL:=aa hb1;clear hb1;go_wp2_with fail
 have zf:=ly rfl dL.out (.bool true) (.int .i64 (h.kids.length:Int)) (.bool false);have qP:=aa zf.2;have oS:=aa zf.1;clear zf;clear d0 x0 x1 x2 x3 x4 x5 x6;generalize w1.alloc (.cells #[.bool true,.int .i64 (h.kids.length:Int),.bool false] 189)=W2 at qP oS ⊢;generalize w1.heap.size=q at qP ⊢;generalize w.heap.size+1=p at qP ⊢;obtain⟨k0,k1,k2,k3,k4,k5,k6,k7,k8⟩:=qP.out.cells;have hKc:h.kids.length≤kc:=qe;go_still_tail 7,(by kernel_rfl)
 change wpList _ _ _ _ _ W2.drew;have D2:=aa (show Below W2.heap.size W2 W2.drew from(Below.refl _ _).drew)
 generalize W2.drew=W3 at D2 ⊢;go_wp2_with fail
 have jR:=aa (oS.out.trans (D2.out.mono oS.out.size));refine(zc.out W3 jR.out).mono ?_;intro e w4 hp;cases oO:aI ks f st with
 | error y =>
  rw[oO] at hp;obtain⟨hb,v,rfl,g2,rfl,h2⟩:=hp;have H2:=aa h2;have HB:=aa hb;have HE:Hid (((aI ks f st).bind fun s1=>bF i f h.line h.names s1)=.error y):=aa (by rw[oO];rfl)
  clear h2 hb oO;go_wp2_with fail
  go_ret
  rw[HE.out];exact⟨(jR.out.mono cC).trans HB.out,_,rfl,_,rfl,H2.out⟩
 | ok s1 =>
  rw[oO] at hp;have hr4:=HR.out.dp jR.out;have hst:=(gm ks oO HN.out.nodup hr4.cx HN.out.wf).1;obtain⟨rfl,x,hx1,hx2,wh,DU⟩:=eF.step (a1:=Lt.eD ks) (s1:=Lt.ak ks) (a:=h.names.length) (s:=0) (by rw[Nat.add_comm];exact hr4) (iP ks oO hr4.few) (hst.cx hr4.cx) (ll ks oO) hp
  have P5:=aa ((qP.out.later D2.out).jk DU);have Ve:=aa ((jR.out.mono cC).trans DU.below);have hdec:Calls Tryz.prog 113 #[.pointer (some ⟨b,0,none⟩),.int .i64 (i:Int),.agg #[.int .i64 (f:Int),.int .i64 loop,.pointer pa,.slice la (l::r).length lc]] w4 (aq B b (.slice (some ⟨bk,o,none⟩) T.length c) T.length ub ob (.slice la (l::r).length lc) (grow x (l::r)) s1 (bF i f h.line h.names s1) w4):=by
   have hsg:oR w4 B f (.pointer pa) (.slice la ln lc) ms ({ l with iC:=x++l.iC}::r) s1:=wh.pos;have hlv:dk w4 B (.slice la ln lc) ({ l with iC:=x++l.iC}::r):=wh.pos.fB;rw[←GO.out] at hlv hsg;exact km b i f h loop pa la lc { l with iC:=x++l.iC} r s1 w4 wh.dB wh.rs hx wh.cx.lt hlv (wh.hd _ r rfl) (by have:=wh.fB;rw[cF] at this;exact this) wh.few (by have:=hsg.iC;have:=wh.names;omega) hsz
  rw[GO.out] at hdec;have YC:=aa hdec;have LI:=aa wh;have OZ:=aa DU;have OX:=aa hx1;have HE:Hid (((aI ks f st).bind fun s1=>bF i f h.line h.names s1)=bF i f h.line h.names s1):=aa (by rw[oO];rfl)
  clear hp hr4 wh DU hst hx1 hx2 oO hdec k0 k1 k2 k3 k4 k5 k6 k7 k8;obtain⟨k0,k1,k2,k3,k4,k5,k6,k7,k8⟩:=P5.out.cells;go_wp2_with fail
  refine YC.out.mono ?_;intro e w6 hp;obtain⟨v,rfl⟩:=hp.ret;cases jO:bF i f h.line h.names s1 with
  | error y =>
   have HP:=aa hp;rw[jO] at hp;obtain⟨_,v',hv',g2,rfl,_⟩:=hp;injection hv' with hv';subst hv';clear jO;go_wp2_with fail
   go_ret
   rw[HE.out];exact aq.from jR.out cC (aq.trans (st1:=s1) (x:=x) OZ.out.below OZ.out OX.out (fun e=>by cases e) HP.out)
  | ok s2 =>
   have HP:=aa hp;rw[jO] at hp;have Qd:=hp.2.2.2.1;have hv':=hp.2.1;injection hv' with hv';subst hv';have P6:=aa (P5.out.jk Qd);clear hp Qd jO k0 k1 k2 k3 k4 k5 k6 k7 k8;obtain⟨k0,k1,k2,k3,k4,k5,k6,k7,k8⟩:=P6.out.cells;go_wp2_with fail
   go_still_tail 7,(by kernel_rfl)
   change wpList _ _ _ _ _ w6.drew;have D6:=aa (show Below w6.heap.size w6 w6.drew from(Below.refl _ _).drew)
   generalize w6.drew=W6 at D6 ⊢;go_wp2_with fail
   all_goals
    refine(all_nil b f loop pa la _ ln lc _ W6).mono ?_;rintro e w7 ⟨rfl,FI⟩;have B7:=aa (D6.out.trans (FI.mono D6.out.size));clear FI;go_wp2_with fail
    go_ret
    rw[HE.out];exact aq.from jR.out cC (aq.trans (st1:=s1) (x:=x) OZ.out.below OZ.out OX.out (fun e=>by cases e) (HP.out.abi B7.out))
theorem O0 {T:List Nd} {B b:Nat} {nv:Value} {ub ob:Nat} (i f:Nat) (h:Nd) (ks:List Lt) (loop:Int) (pa la:Option Addr) (lc:Nat) (ms:List Nat) (l:cS) (r:List cS) (st:aH) (w:World) (hr:eF T B b nv ub ob f pa (.slice la (l::r).length lc) ms (l::r) st w (h.names.length+Lt.eD ks) (Lt.ak ks)) (hx:T[i]? = some h) (hk:h.kids=ks.map fun k=>(k.loc:Int)) (hn:dX T ks) (hV :∀k∈ks,bM T B b nv ub ob k)
  (hl :∀k∈ks,18≤k.hd.kind→loop=bP f st.frames) (hsz :∀s∈h.names,s.size≤65536) (hd:gJ h.kind h.kids.length=(true,0,false)) :
  Calls Tryz.prog 55 #[.pointer (some ⟨b,0,none⟩),.int .i64 (i:Int),.agg #[.int .i64 (f:Int),.int .i64 loop,.pointer pa,.slice la (l::r).length lc]] w (aq B b nv T.length ub ob (.slice la (l::r).length lc) (l::r) st ((bF i f h.line h.names st).bind fun s1=>aI ks f s1) w):=by
 obtain⟨bk,o,c,rfl,bN,cC,cL⟩:=hr.dB.nodes;obtain⟨pL,pM,dM,⟨NA,nc,kI,_⟩,fE⟩:=cL i h hx;have tm:h.kids.length≤20000:=(hr.dB.small h (aL hx)).1;have vW:ks.length≤20000:=by rw[hk,cy] at tm;exact tm
 obtain⟨KA,kc,jx,qe,_⟩:=id fE;subst kI jx;obtain⟨x0,x1,x2,x3,x4,x5,x6⟩:=dM;have y9:i<T.length:=(aJ.1 hx).1;have qY:=hr.dB.few;have hbl:b<w.heap.size:=by obtain⟨_,_,hw⟩:=hr.rs;exact hw.gR.1
 have d0:w.cell? ⟨b,0,none⟩=some (.slice (some ⟨bk,o,none⟩) T.length c):=by obtain⟨_,_,hw⟩:=hr.rs;exact ab hw.blk 0
 have iR:bk<w.heap.size:=by omega
 have HD:=aa (gK h.kind h.line h.op h.num h.s NA KA h.names.length nc h.kids.length kc);have YC:Hid (∀W,Below w.heap.size w W→Calls Tryz.prog 113 #[.pointer (some ⟨b,0,none⟩),.int .i64 (i:Int),.agg #[.int .i64 (f:Int),.int .i64 loop,.pointer pa,.slice la (l::r).length lc]] W (aq B b (.slice (some ⟨bk,o,none⟩) T.length c) T.length ub ob (.slice la (l::r).length lc) (l::r) st (bF i f h.line h.names st) W)):=aa fun W hW=>by
  have h2:=hr.dp hW;exact km b i f h loop pa la lc l r st W h2.dB h2.rs hx h2.cx.lt h2.pos.fB (h2.hd l r rfl) (by have:=h2.fB;omega) h2.few (by have:=h2.pos.iC;have:=h2.names;omega) hsz
 have HR:=aa hr;have HN:=aa hn;have HV:=aa hV;have HL:=aa hl;have Jd:=aa fE;have TG:=aa hd;have HK:=aa hk;clear hr hn hV hl fE hd cL hk;generalize Ld:(l::r).length=ln at *;have GO:=aa Ld;clear Ld;go_enter Tryz.func55,Tryz.ntmps55
 go_wp2_with fail
 refine(HD.out _ (by omega)).mono ?_
 rw[TG.out];rintro e w1 ⟨rfl,hb1⟩;have dL:=aa hb1;clear hb1;go_wp2_with fail
 have zf:=ly rfl dL.out (.bool true) (.int .i64 0) (.bool false);have qP:=aa zf.2;have oS:=aa zf.1;clear zf;clear d0 x0 x1 x2 x3 x4 x5 x6;generalize w1.alloc (.cells #[.bool true,.int .i64 0,.bool false] 189)=W2 at qP oS ⊢;generalize w1.heap.size=q at qP ⊢;generalize w.heap.size+1=p at qP ⊢;obtain⟨k0,k1,k2,k3,k4,k5,k6,k7,k8⟩:=qP.out.cells;have hKc:h.kids.length≤kc:=qe;go_still_tail 7,(by kernel_rfl)
 change wpList _ _ _ _ _ W2.drew;have D2:=aa (show Below W2.heap.size W2 W2.drew from(Below.refl _ _).drew)
 generalize W2.drew=W3 at D2 ⊢;go_wp2_with fail
 refine(all_nil b f loop pa la KA ln lc kc W3).mono ?_;rintro e w4 ⟨rfl,hb4⟩;have B4:=aa (D2.out.trans (hb4.mono D2.out.size));have P4:=aa (qP.out.later B4.out);clear hb4 k0 k1 k2 k3 k4 k5 k6 k7 k8;obtain⟨k0,k1,k2,k3,k4,k5,k6,k7,k8⟩:=P4.out.cells;have jR:=aa (oS.out.trans (B4.out.mono oS.out.size));go_wp2_with fail
 refine(YC.out w4 jR.out).mono ?_;intro e w5 hp;cases oO:bF i f h.line h.names st with
 | error y =>
  rw[oO] at hp;obtain⟨hb,v,rfl,g2,rfl,h2⟩:=hp;have H2:=aa h2;have HB:=aa hb;have HE:Hid (((bF i f h.line h.names st).bind fun s1=>aI ks f s1)=.error y):=aa (by rw[oO];rfl)
  clear h2 hb oO;go_wp2_with fail
  go_ret
  rw[HE.out];exact⟨(jR.out.mono cC).trans HB.out,_,rfl,_,rfl,H2.out⟩
 | ok s1 =>
  rw[oO] at hp;have hr4:=HR.out.dp jR.out;obtain⟨O9,vA,_⟩:=nI oO hr4.cx;obtain⟨rfl,x,hx1,hx2,wh,DU⟩:=eF.step (a1:=h.names.length) (s1:=0) (by rw[jY];exact hr4) (jK oO hr4.few) (O9.cx hr4.cx) vA hp
  have P5:=aa (P4.out.jk DU);have Ve:=aa ((jR.out.mono cC).trans DU.below);have HC:Hid (∀W,Below w5.heap.size w5 W→Calls Tryz.prog 111 #[.pointer (some ⟨b,0,none⟩),.slice KA h.kids.length kc,.agg #[.int .i64 (f:Int),.int .i64 loop,.pointer pa,.slice la ln lc]] W (aq B b (.slice (some ⟨bk,o,none⟩) T.length c) T.length ub ob (.slice la ln lc) (grow x (l::r)) s1 (aI ks f s1) w5)):=aa fun W hW=>by
   have h6:=DT f loop pa la lc ms (l::r) x s1 W (.slice KA h.kids.length kc) ks (by rw[GO.out];exact wh.dp hW) HN.out HV.out (by rw[←HK.out];exact Jd.out.below (Ve.out.trans (hW.mono wh.world))) (fun k hk mi=>(HL.out k hk mi).trans (tL vA).symm) (fun k _=>.inl (by simp)) vW
   rw[GO.out] at h6;exact h6.mono fun e w' h=>h.from hW wh.world
  have OZ:=aa DU;have OX:=aa hx1;have HE:Hid (((bF i f h.line h.names st).bind fun s1=>aI ks f s1)=aI ks f s1):=aa (by rw[oO];rfl)
  clear hp hr4 wh DU O9 vA hx1 hx2 oO k0 k1 k2 k3 k4 k5 k6 k7 k8;obtain⟨k0,k1,k2,k3,k4,k5,k6,k7,k8⟩:=P5.out.cells;go_wp2_with fail
  go_still_tail 7,(by kernel_rfl)
  change wpList _ _ _ _ _ w5.drew;have Vf:=aa (HC.out w5.drew (Below.refl _ _).drew);generalize w5.drew=W6 at Vf ⊢;go_wp2_with fail
  refine Vf.out.mono ?_;intro e w7 hp;obtain⟨v,rfl⟩:=hp.ret;have HP:=aa hp;clear hp;go_wp2_with fail
  go_ret
  rw[HE.out];exact aq.from jR.out cC (aq.trans (st1:=s1) (x:=x) OZ.out.below OZ.out OX.out (fun e=>by cases e) HP.out)
theorem xJ {B:Nat} (f:Nat) (loop:Int) (pa la:Option Addr) (lc:Nat) (L:List cS) (w:World) (hl:dk w B (.slice la L.length lc) L) (hlen:L.length≤100000) (hB:B≤w.heap.size) :
  Calls Tryz.prog 112 #[.agg #[.int .i64 (f:Int),.int .i64 loop,.pointer pa,.slice la L.length lc]] w fun e w'=>∃g c m,e=.returned (.agg #[.int .i64 (f:Int),.int .i64 loop,.pointer pa,.slice (some ⟨g,0,none⟩) (L.length+1) c])∧dk w' B (.slice (some ⟨g,0,none⟩) (L.length+1) c) (⟨f,m,[]⟩::L)∧w.heap.size≤m∧((Value.slice la L.length lc).ownBlock=some g∨w.heap.size≤g)∧(∀ob,cW B ob (.slice la L.length lc) L.length none w w')∧Fr [238] w w':=by
 have HL:=aa hl;clear hl;have hmm:=@run_makeMap Tryz.prog;obtain⟨o1,Zn⟩ :∃o1,o1=Obj.cells #[.int .i64 (f:Int),.int .i64 loop,.pointer pa,.slice la L.length lc] 92:=⟨_,rfl⟩;obtain⟨o2,IM⟩ :∃o2,o2=Obj.cells #[.int .i64 0,.int .i64 0,.pointer none,.slice none 0 0] 92:=⟨_,rfl⟩;obtain⟨W3,hW3⟩ :∃W3,W3=((w.alloc o1).alloc o2).alloc (.map #[] 0):=⟨_,rfl⟩;have hs3:W3.heap.size=w.heap.size+1+1+1:=by rw[hW3,an,an,an]
 have hb3:Below w.heap.size w W3:=by rw[hW3];exact Below.three _ _ _
 have hb1:W3.heap[w.heap.size]? = some o1:=by
  rw[hW3];exact(Below.heap_alloc _ _ _ (by rw[an,an];omega)).trans ((Below.heap_alloc _ _ _ (by rw[an];omega)).trans (heap_alloc_new w o1))
 have hb2:W3.heap[w.heap.size+1]? = some o2:=by
  rw[hW3];refine(Below.heap_alloc _ _ _ (by rw[an,an];omega)).trans ?_
  have:=heap_alloc_new (w.alloc o1) o2;rwa[an] at this
 have ZA:dP Tryz.prog 9 W3 (w.heap.size+1+1) 0 (fun _=>none):=by
  have:=dP.made ((w.alloc o1).alloc o2) Tryz.prog 9;rw[an,an] at this;rw[hW3];exact this
 have HR3:=aa (qW.row (o:=none) ⟨hb3.size,fun k hk _=>hb3.block k hk⟩ HL.out.row (fun _ _ e=>by cases e))
 have hlt :∀k,(Value.slice la L.length lc).ownBlock=some k→k<w.heap.size:=fun k hk=>(HL.out.row.lt k hk).2
 rw[Zn] at hb1;rw[IM] at hb2;have dL:=aa hb1;have oS:=aa hb2;have HMP:=aa ZA;have mD:=aa hlt;have yx:=aa hb3;have oh:=aa hs3;rw[Zn,IM] at hW3;have Q8:=aa hW3;clear hb1 hb2 ZA hlt hb3 hs3 hW3 Zn IM;go_enter Tryz.func112,Tryz.ntmps112
 go_wp2_with (at_builtin;rw[←Q8.out];refine Oe W3 ⟨f,w.heap.size+1+1,[]⟩ rfl _ _ rfl B (.slice la L.length lc) L rfl HR3.out (w.heap.size+1+1+1) oh.out.symm rfl (by omega) (by rw[oh.out];omega) ?_;intro g8 c8 w8 r8 b8 U8 n8 o8;have Je:=(b8.2 w.heap.size (by rw[oh.out];omega) (fun e=>by have:=mD.out _ e;omega)).trans dL.out;have hres:=(b8.2 (w.heap.size+1) (by rw[oh.out];omega) (fun e=>by have:=mD.out _ e;omega)).trans oS.out;have e0:=ab Je 0;have e1:=ab Je 1;have e2:=ab Je 2;have e3:=ab Je 3;have f3:=av Je 3;have y0:=ab hres 0;have y1:=ab hres 1;have y2:=ab hres 2;have y3:=ab hres 3;have z0:=av hres 0;have z1:=av hres 1;have z2:=av hres 2;have z3:=av hres 3;have R8:=aa r8;have B8:=aa b8;have PZ:=aa U8;have N8:=aa n8;have O8:=aa o8;clear r8 b8 U8 n8 o8 Je hres)
 refine bodyPost_ret (v:=.agg #[.int .i64 (f:Int),.int .i64 loop,.pointer pa,.slice (some ⟨g8,0,none⟩) (L.length+1) c8]) (by simp[results,Tryz.results112,go_sem,y0,y1,y2,y3]) rfl ?_
 have k1:vP w8 w.heap.size 92:=⟨_,_,(B8.out.2 w.heap.size (by rw[oh.out];omega) (fun e=>by have:=mD.out _ e;omega)).trans dL.out⟩
 have k2:vP w8 (w.heap.size+1) 92:=⟨_,_,(B8.out.2 (w.heap.size+1) (by rw[oh.out];omega) (fun e=>by have:=mD.out _ e;omega)).trans oS.out⟩
 have hF:Fr [92] w8 (((((w8.setCell ⟨w.heap.size,3,none⟩ (.slice (some ⟨g8,0,none⟩) (L.length+1) c8)).setCell ⟨w.heap.size+1,0,none⟩ (.int .i64 (f:Int))).setCell ⟨w.heap.size+1,1,none⟩ (.int .i64 loop)).setCell ⟨w.heap.size+1,2,none⟩ (.pointer pa)).setCell ⟨w.heap.size+1,3,none⟩ (.slice (some ⟨g8,0,none⟩) (L.length+1) c8)) :=
  (k1.fr (by decide) _ _).trans (((k2.set _ _ _).fr (by decide) _ _).trans ((((k2.set _ _ _).set _ _ _).fr (by decide) _ _).trans (((((k2.set _ _ _).set _ _ _).set _ _ _).fr (by decide) _ _).trans ((((((k2.set _ _ _).set _ _ _).set _ _ _).set _ _ _)).fr (by decide) _ _))))
 have hK :∀k,k<w.heap.size→(((((w8.setCell ⟨w.heap.size,3,none⟩ (.slice (some ⟨g8,0,none⟩) (L.length+1) c8)).setCell ⟨w.heap.size+1,0,none⟩ (.int .i64 (f:Int))).setCell ⟨w.heap.size+1,1,none⟩ (.int .i64 loop)).setCell ⟨w.heap.size+1,2,none⟩ (.pointer pa)).setCell ⟨w.heap.size+1,3,none⟩ (.slice (some ⟨g8,0,none⟩) (L.length+1) c8)).heap[k]? = w8.heap[k]?:=fun k hk=>by
  rw[Below.heap_setCell _ _ _ k (by show k≠w.heap.size+1;omega),Below.heap_setCell _ _ _ k (by show k≠w.heap.size+1;omega),Below.heap_setCell _ _ _ k (by show k≠w.heap.size+1;omega),Below.heap_setCell _ _ _ k (by show k≠w.heap.size+1;omega),Below.heap_setCell _ _ _ k (by show k≠w.heap.size;omega)]
 have hO :∀W:World,W.os=w8.os→W.tape=w8.tape→W.output=w8.output→W.os=w.os∧W.tape=w.tape∧W.output=w.output:=fun W h1 h2 h3=>⟨h1.trans (PZ.out.os.trans yx.out.os),h2.trans (PZ.out.tape.trans yx.out.tape),h3.trans (PZ.out.output.trans yx.out.output)⟩
 have hO9:=hO _ (show(((((w8.setCell ⟨w.heap.size,3,none⟩ (.slice (some ⟨g8,0,none⟩) (L.length+1) c8)).setCell ⟨w.heap.size+1,0,none⟩ (.int .i64 (f:Int))).setCell ⟨w.heap.size+1,1,none⟩ (.int .i64 loop)).setCell ⟨w.heap.size+1,2,none⟩ (.pointer pa)).setCell ⟨w.heap.size+1,3,none⟩ (.slice (some ⟨g8,0,none⟩) (L.length+1) c8)).os=w8.os from rfl) rfl rfl
 generalize (((((w8.setCell ⟨w.heap.size,3,none⟩ (.slice (some ⟨g8,0,none⟩) (L.length+1) c8)).setCell ⟨w.heap.size+1,0,none⟩ (.int .i64 (f:Int))).setCell ⟨w.heap.size+1,1,none⟩ (.int .i64 loop)).setCell ⟨w.heap.size+1,2,none⟩ (.pointer pa)).setCell ⟨w.heap.size+1,3,none⟩ (.slice (some ⟨g8,0,none⟩) (L.length+1) c8))=W9 at *;have key :∀k,k<w.heap.size→(Value.slice la L.length lc).ownBlock≠some k→W9.heap[k]? = w.heap[k]?:=fun k hk hn=>(hK k hk).trans ((B8.out.2 k (by rw[oh.out];omega) hn).trans (yx.out.block k hk))
 have far :∀(k:Nat) (o:Obj),w.heap[k]? = some o→(∀c fz,o ≠ .cells c 238 fz)→W9.heap[k]? = some o:=fun k o hk ho=>(key k (aF.1 hk).1 fun e=>by
  obtain⟨c,fz,h1⟩:=Lib.ownsRow_kind HL.out.row k e;rw[hk] at h1;injection h1 with h1;exact ho _ _ h1).trans hk
 refine⟨g8,c8,w.heap.size+1+1,rfl,⟨hF.row R8.out (by decide),fun l hl=>?_,fun l hl n hn=>?_,?_⟩,by omega,N8.out.imp id (fun h=>by rw[oh.out] at h;omega),fun ob=>⟨?_,fun k c e fz hk he=>far k _ hk (fun c' XZ e'=>he (by injection e' with _ e';rw[e'];decide)),fun k c fz hk _=>far k _ hk (fun c' XZ e'=>by injection e' with _ e';exact absurd e' (by decide)),fun u m xs hu hm=>hF.row (O8.out u m xs (qW.row (o:=none) ⟨yx.out.size,fun k hk _=>yx.out.block k hk⟩ hu (fun _ _ e=>by cases e)) hm) (by decide),fun k es c hk _=>far k _ hk (fun _ _ e=>by cases e)⟩,⟨?_,fun k c e fz hk he=>far k _ hk (fun c' XZ e'=>he (by injection e' with _ e';rw[e'];exact bZ.2 rfl)),fun k o hk ho=>far k _ hk (fun c' XZ=>ho c' _ XZ)⟩⟩
 ·rcases bc.1 hl with rfl|hl
  ·refine⟨hF.map (HMP.out.same (B8.out.2 _ (by rw[oh.out];omega) fun e=>by have:=mD.out _ e;omega)),by show B≤w.heap.size+1+1;omega⟩
  ·obtain⟨h1,h2⟩:=HL.out.maps l hl
   obtain⟨es,c,hm⟩:=h1.isMap;exact⟨h1.same ((far _ _ hm (fun _ _ e=>by cases e)).trans hm.symm),h2⟩
 ·rcases bc.1 hl with rfl|hl
  ·cases hn
  ·exact HL.out.own l hl n hn
 ·rw[eP,jt]
  refine⟨fun hm=>?_,HL.out.apart⟩
  obtain⟨l,hl,e⟩:=eQ.1 hm;have:=(HL.out.maps l hl).1.lt;simp only at e;omega
 ·refine⟨hO9.1,hO9.2.1,hO9.2.2,aM (by rw[oh.out];omega) (aM PZ.out.size hF.size),fun k hk=>key k (by omega) fun e=>?_⟩
  have:=(HL.out.row.lt k e).1;omega
 ·exact aM (by rw[oh.out];omega) (aM PZ.out.size hF.size)
structure zg (T:List Nd) (B b:Nat) (nv:Value) (ub ob f:Nat) (pa:Option Addr) (lv:Value) (ms:List Nat) (L:List cS) (st:aH) (w:World) (a s:Nat):Prop where
 dB:wg w B nv T
 rs:jN w B b nv T.length st ub ob
 pos:oR w B f (.pointer pa) lv ms L st
 cx:Cx f st
 few:dW st.fns
 fr :∀x∈st.frames,x.fn<st.fns.length
 names:st.names.length+a≤100000
 fns:st.fns.length+s≤100000
 fB:L.length+1+s≤100000
theorem cz.lt {W:World} {B:Nat} :∀{fs:List (Nat×Nat×(ByteArray→Option Value))} {ms:List Nat} {p:Value},cz W B fs ms p→∀m∈ms,m<W.heap.size
 | [],_,_,h,m,hm=>by rw[h.1] at hm;cases hm
 | x::fs,ms,p,h,m,hm=>by
  obtain⟨k',p',m',Co,rfl,rfl,_,_,h3,_,_,h6⟩:=h;rcases bc.1 hm with rfl|hm
  ·exact h3.lt
  ·exact cz.lt h6 m hm
theorem xK {T:List Nd} {B b:Nat} {nv:Value} {ub ob f:Nat} {pa la:Option Addr} {lc:Nat} {ms:List Nat} {L:List cS} {st:aH} {w:World} {a s:Nat} (loop:Int) (h:zg T B b nv ub ob f pa (.slice la L.length lc) ms L st w a s) :
  Calls Tryz.prog 112 #[.agg #[.int .i64 (f:Int),.int .i64 loop,.pointer pa,.slice la L.length lc]] w fun e w'=>∃g c m,e=.returned (.agg #[.int .i64 (f:Int),.int .i64 loop,.pointer pa,.slice (some ⟨g,0,none⟩) (L.length+1) c])∧eF T B b nv ub ob f pa (.slice (some ⟨g,0,none⟩) (L.length+1) c) ms (⟨f,m,[]⟩::L) st w' a s∧w.heap.size≤m∧((Value.slice la L.length lc).ownBlock=some g∨w.heap.size≤g)∧cW B ob (.slice la L.length lc) L.length none w w':=by
 have cC:B≤w.heap.size:=by obtain⟨_,_,_,_,_,h,_⟩:=h.dB.nodes;exact h
 refine(xJ f loop pa la lc L w h.pos.fB (by have:=h.fB;omega) cC).mono ?_
 rintro e w' ⟨g,c,m,he,h1,h2,h3,h4,h5⟩;have hf:=h4 ob;refine⟨g,c,m,he,⟨h.dB.below hf.below,?_,⟨h1,h.pos.blk.jk hf (by simp),h.pos.names,?_⟩,?_,h.cx,h.few,h.fr,h.names,h.fns,?_⟩,h2,h3,hf⟩
 ·obtain⟨fv,FL,hw⟩:=h.rs
  exact⟨fv,FL,hw.fr h5 (by decide)⟩
 ·intro m' hm' l hl
  rcases bc.1 hl with rfl|hl
  ·have:=cz.lt h.pos.blk m' hm'
   show m'≠m
   omega
  ·exact h.pos.apart m' hm' l hl
 ·intro l r e
  injection e with e _;rw[←e]
 ·have:=h.fB
  rw[List.length_cons];omega
theorem eF.zero {T:List Nd} {B b:Nat} {nv:Value} {ub ob f:Nat} {pa:Option Addr} {lv:Value} {ms:List Nat} {L:List cS} {st:aH} {w:World} {a s:Nat} (h:eF T B b nv ub ob f pa lv ms L st w a (s+1)):zg T B b nv ub ob f pa lv ms L st w a s :=
 ⟨h.dB,h.rs,h.pos,h.cx,h.few,h.fr,h.names,by have:=h.fns;omega,by have:=h.fB;omega⟩
theorem cW.inner {B ob n g c m:Nat} {lv:Value} {w w1 w2:World} {top:Option Nat} (h1:cW B ob lv n top w w1) (hg:lv.ownBlock=some g∨w.heap.size≤g) (hm:w.heap.size≤m) (h2:cW B ob (.slice (some ⟨g,0,none⟩) (n+1) c) (n+1) (some m) w1 w2):cW B ob lv n top w w2:=by
 refine⟨h1.below.trans h2.below,fun k c e fz hk he=>h2.cells k c e fz (h1.cells k c e fz hk he) he,fun k c fz hk ho=>h2.ints k c fz (h1.ints k c fz hk ho) ho,fun u k xs hu hk=>h2.lvl u k xs (h1.lvl u k xs hu hk) fun e=>?_,fun k es c hk ht=>h2.maps k es c (h1.maps k es c hk ht) fun e=>?_⟩
 ·replace e:u.ownBlock=some g:=e
  rcases hg with hg|hg
  ·exact Nat.le_succ_of_le (hk (e.trans hg.symm))
  ·have:=(hu.lt g e).2
   omega
 ·injection e with e
  have:=(aF.1 hk).1;omega
theorem dk.inner {B ob g c m:Nat} {lv:Value} {L:List cS} {w1 w2:World} (h:dk w1 B lv L) (hne :∀l∈L,l.blk≠m) (h2:cW B ob (.slice (some ⟨g,0,none⟩) (L.length+1) c) (L.length+1) (some m) w1 w2):dk w2 B lv L :=
 ⟨h2.lvl _ _ _ h.row fun _=>gd _,fun l hl=>⟨h2.map (h.maps l hl).1 fun e=>hne l hl (by injection e),(h.maps l hl).2⟩,h.own,h.apart⟩
theorem aq.inner {B b:Nat} {nv:Value} {N ub ob g c m f:Nat} {lv:Value} {L:List cS} {st st1:aH} {r:Rs aH} {w w1 w2:World} {e:Ending} (h1:cW B ob lv L.length (eE L) w w1) (hl:dk w1 B lv L) (hne :∀l∈L,l.blk≠m) (hg:lv.ownBlock=some g∨w.heap.size≤g) (hm:w.heap.size≤m) (h:aq B b nv N ub ob (.slice (some ⟨g,0,none⟩) (L.length+1) c) (⟨f,m,[]⟩::L) st1 r w1 e w2):aq B b nv N ub ob lv L st (r.map fun s=>s.back st) w e w2:=by
 refine⟨h1.below.trans h.1,?_⟩;have h2:=h.2;cases r with
 | error y=>exact h2
 | ok s =>
  obtain⟨k1,⟨fv,FL,k2⟩,k3,_⟩:=h2;refine⟨k1,⟨fv,FL,k2.on rfl rfl rfl⟩,h1.inner hg hm k3,[],rfl,fun _=>rfl,?_⟩
  rw[jM];exact hl.inner hne k3
theorem cW.past {B ob n:Nat} {v:Value} {top:Option Nat} {w W X:World} (h:cW B ob v n top w W) (hb:Below B W X) (hk :∀k,k<w.heap.size→X.heap[k]? = W.heap[k]?):cW B ob v n top w X:=by
 refine⟨h.below.trans hb,fun k c e fz hc he=>(hk k (aF.1 hc).1).trans (h.cells k c e fz hc he),fun k c fz hc ho=>(hk k (aF.1 hc).1).trans (h.ints k c fz hc ho),fun u m xs hu hm=>?_,fun k es c hc ht=>(hk k (aF.1 hc).1).trans (h.maps k es c hc ht)⟩
 have h1:=h.lvl u m xs hu hm;refine⟨h1.1,?_⟩;rcases h1.2 with hn | ⟨g,cap,cur,rfl,hB,hg,rest⟩
 ·exact .inl hn
 ·exact .inr ⟨g,cap,cur,rfl,hB,(hk g (hu.lt g rfl).2).trans hg,rest⟩
theorem cz.fr {W W':World} {B:Nat} {E:List Nat} (k:Fr E W W') (he:(195:Nat)∉E) :∀{fs:List (Nat×Nat×(ByteArray→Option Value))} {ms:List Nat} {p:Value},cz W B fs ms p→cz W' B fs ms p
 | [],_,_,h=>h
 | x::fs,ms,p,h=>by
  obtain⟨k',p',m,Co,rfl,rfl,h1,h2,h3,h4,h5,h6⟩:=h;exact⟨k',p',m,Co,rfl,rfl,h1,k.cells k' _ _ _ h2 he,k.map h3,h4,h5,cz.fr k he h6⟩
theorem dk.fr {W W':World} {B:Nat} {v:Value} {L:List cS} {E:List Nat} (h:dk W B v L) (k:Fr E W W') (he:(238:Nat)∉E):dk W' B v L :=
 ⟨k.row h.row he,fun l hl=>⟨k.map (h.maps l hl).1,(h.maps l hl).2⟩,h.own,h.apart⟩
theorem eF.TH {T:List Nd} {B b:Nat} {nv:Value} {ub ob f:Nat} {pa:Option Addr} {lv:Value} {ms:List Nat} {L:List cS} {st:aH} {w w':World} {a s:Nat} (h:eF T B b nv ub ob f pa lv ms L st w a s) (k:Fr [92] w w') (hb:Below B w w'):eF T B b nv ub ob f pa lv ms L st w' a s:=by
 refine⟨h.dB.below hb,?_,⟨h.pos.fB.fr k (by decide),cz.fr k (by decide) h.pos.blk,h.pos.names,h.pos.apart⟩,h.hd,h.cx,h.few,h.fr,h.names,h.fns,h.fB⟩
 obtain⟨fv,FL,hw⟩:=h.rs;exact⟨fv,FL,hw.fr k (by decide)⟩
theorem eF.om {T:List Nd} {B b:Nat} {nv:Value} {ub ob f:Nat} {pa:Option Addr} {lv:Value} {ms:List Nat} {L:List cS} {st:aH} {w:World} {a s:Nat} (i:Nat) (h:eF T B b nv ub ob f pa lv ms L st w a s):eF T B b nv ub ob f pa lv ms L (du i f st) w a s:=by
 refine⟨h.dB,?_,⟨h.pos.fB,?_,h.pos.names,h.pos.apart⟩,h.hd,⟨h.cx.ok,h.cx.lt,h.cx.names⟩,h.few,fun x hx=>?_,h.names,h.fns,h.fB⟩
 ·obtain⟨fv,FL,hw⟩:=h.rs
  exact⟨fv,FL,hw.on rfl rfl rfl⟩
 ·show oQ w B (dH f (⟨f,i,0,true,false,[]⟩::st.frames)) ms _
  rw[rR (.inl rfl)];exact h.pos.blk
 ·rcases bc.1 hx with rfl|hx
  ·exact h.cx.lt
  ·exact h.fr x hx
def four (W:World) (r:Nat) (a c d e:Value):World:=(((W.setCell ⟨r,0,none⟩ a).setCell ⟨r,1,none⟩ c).setCell ⟨r,2,none⟩ d).setCell ⟨r,3,none⟩ e
theorem vB {W:World} {r:Nat} (k:vP W r 92) (a c d e:Value):Fr [92] W (four W r a c d e):=(k.fr (by decide) _ _).trans (((k.set _ _ _).fr (by decide) _ _).trans ((((k.set _ _ _).set _ _ _).fr (by decide) _ _).trans ((((k.set _ _ _).set _ _ _).set _ _ _).fr (by decide) _ _)))
theorem pG {B r:Nat} (W:World) (hB:B≤r) (a c d e:Value):Below B W (four W r a c d e):=((((Below.refl B W).setCell (p:=⟨r,0,none⟩) hB a).setCell (p:=⟨r,1,none⟩) hB c).setCell (p:=⟨r,2,none⟩) hB d).setCell (p:=⟨r,3,none⟩) hB e
theorem fg.four {w W:World} {p q f:Nat} {loop:Int} {pa:Option Addr} {lv kv nv d0 d1 d2:Value} (h:fg w W p q f loop pa lv kv nv d0 d1 d2) (Pa:Int) (Tp:Option Addr) (lv':Value):fg w (four W w.heap.size (.int .i64 (f:Int)) (.int .i64 Pa) (.pointer Tp) lv') p q f Pa Tp lv' kv nv d0 d1 d2:=by
 obtain⟨a,b,c,d,e,hk⟩:=h.kids;have hp:=h.pne;have hq:=h.qne;have k :∀j,j≠w.heap.size→(Go.Proofs.YteflkdlaoiijbaaGreatDoor.four W w.heap.size (.int .i64 (f:Int)) (.int .i64 Pa) (.pointer Tp) lv').heap[j]? = W.heap[j]?:=fun j hj=>nQ W _ _ _ _ _ j hj
 exact⟨bt (bt (bt (bt h.pos 0 _) 1 _) 2 _) 3 _,⟨a,b,c,d,e,(k _ (by omega)).trans hk⟩,(k _ (by omega)).trans h.dec,hp,hq⟩
theorem gH.first {W:World} {B sb so n kc:Nat} {xs ys:List Int} (h:gH W B (.slice (some ⟨sb,so,none⟩) n kc) (xs++ys)):gH W B (.slice (some ⟨sb,so,none⟩) xs.length kc) xs:=by
 obtain⟨A,c,e,hc,h1⟩:=h;injection e with e1 e2 e3;subst e1 e3;rw[cI] at hc;refine⟨_,_,rfl,by omega,?_⟩
 rcases h1 with h1 | ⟨bk,o,e4,hb,hx⟩
 ·exact .inl (JY.1 h1).1
 ·exact .inr ⟨bk,o,e4,hb,fun j x hj=>hx j x (by rw[kK (aJ.1 hj).1];exact hj)⟩
theorem gH.last {W:World} {B sb so n kc:Nat} {xs ys:List Int} (h:gH W B (.slice (some ⟨sb,so,none⟩) n kc) (xs++ys)):gH W B (.slice (some ⟨sb,so+xs.length,none⟩) ys.length (kc-xs.length)) ys:=by
 obtain⟨A,c,e,hc,h1⟩:=h;injection e with e1 e2 e3;subst e1 e3;rw[cI] at hc;refine⟨_,_,rfl,by omega,?_⟩
 rcases h1 with h1 | ⟨bk,o,e4,hb,hx⟩
 ·exact .inl (JY.1 h1).2
 ·injection e4 with e4
  injection e4 with e4 e5 _;subst e4 e5;exact .inr ⟨_,_,rfl,hb,fun j x hj=>by have:=hx (xs.length+j) x (by rw[zy (by omega),Nat.add_sub_cancel_left];exact hj);rwa[←sw] at this⟩
theorem YD {α:Type} {x l:List α} (h:l=x++l):x=[]:=by
 have:=aB List.length h;rw[cI] at this;exact List.length_eq_zero_iff.1 (by omega)
theorem aq.same {B b:Nat} {nv:Value} {N ub ob:Nat} {lv:Value} {L:List cS} {st st':aH} {r r':Rs aH} {w w2:World} {e:Ending} (h:aq B b nv N ub ob lv L st r w e w2) (hn:st'.names=st.names) (hr:match r,r' with | .ok a,.ok c=>c.fns=a.fns∧c.uses=a.uses∧c.of=a.of∧c.names=a.names | .error a,.error c=>a=c|_,_=>False):aq B b nv N ub ob lv L st' r' w e w2:=by
 refine⟨h.1,?_⟩;have h2:=h.2;cases r with
 | error y =>
  cases r' with
  | error z=>cases hr;exact h2
  | ok z=>exact hr.elim
 | ok s =>
  cases r' with
  | error z=>exact hr.elim
  | ok z =>
   obtain⟨k1,⟨fv,FL,k2⟩,k3,x,k4,k5,k6⟩:=h2;obtain⟨e1,e2,e3,e4⟩:=hr;exact⟨k1,⟨fv,FL,k2.on e1 e2 e3⟩,k3,x,by rw[e4,k4,hn],k5,k6⟩
theorem rY {f:Nat} (t:Lt) (st:aH):aI [t] f st=bo t f st:=by
 rw[e7];cases bo t f st with
 | error y=>rfl
 | ok s=>show aI [] f s=_;rw[fm]
theorem qQ {i f:Nat} {line:Int} {names:List ByteArray} (blk:Lt) :∀(vals:List Lt) (st:aH),iO i line names (vals++[blk]) f st=(aI vals f st).bind fun s1=>((bF i f line names (du i f s1)).bind fun s2=>aI [blk] f s2).map fun s=>s.back s1
 | [],st=>by
  rw[sj,nJ,fm];show _=Except.map _ (Except.bind _ _)
  cases bF i f line names (du i f st) with
  | error y=>rfl
  | ok s2=>show(bo blk f s2).map _=(aI [blk] f s2).map _;rw[rY]
 | [a],st=>by
  rw[List.singleton_append,jq,rY];cases bo a f st with
  | error y=>rfl
  | ok s =>
   have:=qQ (i:=i) (f:=f) (line:=line) (names:=names) blk [] s;rw[sj,fm] at this;exact this
 | a::c::l,st=>by
  rw[iJ,iJ,jq,e7];cases bo a f st with
  | error y=>rfl
  | ok s=>exact qQ blk (c::l) s
theorem zg.levels {T:List Nd} {B b:Nat} {nv:Value} {ub ob f:Nat} {pa:Option Addr} {lv:Value} {ms:List Nat} {L:List cS} {st:aH} {w:World} {a s:Nat} (h:zg T B b nv ub ob f pa lv ms L st w a s) :∀l∈L,l.blk<w.heap.size:=fun l hl=>(h.pos.fB.maps l hl).1.lt
theorem aq.TI {B b:Nat} {nv:Value} {N ub ob:Nat} {lv:Value} {L:List cS} {st s1:aH} {r:Rs aH} {w w2:World} {e:Ending} (h:aq B b nv N ub ob lv L st (r.map fun s=>s.back st) w e w2) (hn:s1.names=st.names):aq B b nv N ub ob lv L st (r.map fun s=>s.back s1) w e w2:=by
 refine h.same rfl ?_;cases r with
 | error y=>rfl
 | ok s=>exact⟨rfl,rfl,rfl,hn⟩
theorem BK {T:List Nd} {B b:Nat} {nv:Value} {ub ob:Nat} (i f:Nat) (h:Nd) (vals rest:List Lt) (loop:Int) (pa la:Option Addr) (lc:Nat) (ms:List Nat) (L:List cS) (st:aH) (w:World) (hr:eF T B b nv ub ob f pa (.slice la L.length lc) ms L st w (Lt.eD vals+(h.names.length+Lt.eD rest)) (Lt.ak vals+(Lt.ak rest+1))) (hx:T[i]? = some h) (hk:h.kids=(vals.map fun k=>(k.loc:Int))++rest.map fun k=>(k.loc:Int)) (BM:rest≠[]) (hn:dX T vals) (uH:dX T rest) (hV :∀k∈vals,bM T B b nv ub ob k) (hV2 :∀k∈rest,bM T B b nv ub ob k)
  (hl :∀k∈vals,k.hd.kind<18) (hst :∀k∈vals,Still k) (hL:L≠[]) (hsz :∀s∈h.names,s.size≤65536) (UG:loop=(i:Int)) (hd:gJ h.kind h.kids.length=(true,(vals.length:Int),true)) :
  Calls Tryz.prog 55 #[.pointer (some ⟨b,0,none⟩),.int .i64 (i:Int),.agg #[.int .i64 (f:Int),.int .i64 loop,.pointer pa,.slice la L.length lc]] w (aq B b nv T.length ub ob (.slice la L.length lc) L st ((aI vals f st).bind fun s1=>((bF i f h.line h.names (du i f s1)).bind fun s2=>aI rest f s2).map fun s=>s.back s1) w):=by
 obtain⟨bk,o,c,rfl,bN,cC,cL⟩:=hr.dB.nodes;obtain⟨pL,pM,dM,⟨NA,nc,kI,_⟩,fE⟩:=cL i h hx;have tm:h.kids.length≤20000:=(hr.dB.small h (aL hx)).1;have fX:h.kids.length=vals.length+rest.length:=by rw[hk,cI,cy,cy]
 have hr1:1≤rest.length:=wu.2 BM;obtain⟨KA,kc,jx,qe,kt⟩:=id fE;subst kI jx;obtain⟨sb,so,rfl⟩ :∃sb so,KA=some ⟨sb,so,none⟩:=by
  rcases kt with h0 | ⟨sb,so,h1,_⟩
  ·rw[h0] at fX;simp at fX;omega
  ·exact⟨sb,so,h1⟩
 obtain⟨x0,x1,x2,x3,x4,x5,x6⟩:=dM;have y9:i<T.length:=(aJ.1 hx).1;have qY:=hr.dB.few;have hbl:b<w.heap.size:=by obtain⟨_,_,hw⟩:=hr.rs;exact hw.gR.1
 have d0:w.cell? ⟨b,0,none⟩=some (.slice (some ⟨bk,o,none⟩) T.length c):=by obtain⟨_,_,hw⟩:=hr.rs;exact ab hw.blk 0
 have iR:bk<w.heap.size:=by omega
 have HD:=aa (gK h.kind h.line h.op h.num h.s NA (some ⟨sb,so,none⟩) h.names.length nc h.kids.length kc);have Vg:gH w B (.slice (some ⟨sb,so,none⟩) vals.length kc) (vals.map fun k=>(k.loc:Int)):=by
  rw[hk] at fE;have:=fE.first
  rwa[cy] at this
 have BN:gH w B (.slice (some ⟨sb,so+vals.length,none⟩) rest.length (kc-vals.length)) (rest.map fun k=>(k.loc:Int)):=by
  rw[hk] at fE;have:=fE.last;rwa[cy,cy] at this
 have zc:Hid (∀W,Below w.heap.size w W→Calls Tryz.prog 111 #[.pointer (some ⟨b,0,none⟩),.slice (some ⟨sb,so,none⟩) vals.length kc,.agg #[.int .i64 (f:Int),.int .i64 loop,.pointer pa,.slice la L.length lc]] W (aq B b (.slice (some ⟨bk,o,none⟩) T.length c) T.length ub ob (.slice la L.length lc) L st (aI vals f st) W)):=aa fun W hW =>
  qO f loop pa la lc ms L st W (.slice (some ⟨sb,so,none⟩) vals.length kc) vals ((hr.dp hW).mono (gy _ _) (gy _ _)) hn hV (Vg.below (hW.mono cC)).keeps (fun k hk mi=>by have:=hl k hk;omega) (fun k _=>.inl hL) (by omega)
 have HR:=aa hr;have HN:=aa hn;have Ri:=aa uH;have HV2:=aa hV2;have HST:=aa hst;have Pb:=aa BN;have TG:=aa hd;have HLI:=aa UG;have HK:=aa hk;have hvl:vals.length≤kc:=by omega
 have SI:vals.length≤h.kids.length:=by omega
 have ny:=aa hr1;have HL:=aa hL;have qF:=aa hsz;have HX:=aa hx;have qR:=aa fX;have HRL:Hid (h.kids.length-vals.length=rest.length):=aa (by omega)
 have hv2:vals.length≤20000:=by omega
 clear hr1 fX hr hn hV hl fE Vg BN hd cL hk uH hV2 hst kt UG hL hsz hx BM;go_enter Tryz.func55,Tryz.ntmps55
 go_wp2_with fail
 refine(HD.out _ (by omega)).mono ?_
 rw[TG.out];rintro e w1 ⟨rfl,hb1⟩;have dL:=aa hb1;clear hb1;go_wp2_with fail
 have zf:=ly rfl dL.out (.bool true) (.int .i64 (vals.length:Int)) (.bool true);have qP:=aa zf.2;have oS:=aa zf.1;clear zf;clear d0 x0 x1 x2 x3 x4 x5 x6;generalize w1.alloc (.cells #[.bool true,.int .i64 (vals.length:Int),.bool true] 189)=W2 at qP oS ⊢;generalize w1.heap.size=q at qP ⊢;generalize w.heap.size+1=p at qP ⊢;obtain⟨k0,k1,k2,k3,k4,k5,k6,k7,k8⟩:=qP.out.cells;go_still_tail 7,(by kernel_rfl)
 change wpList _ _ _ _ _ W2.drew;have D2:=aa (show Below W2.heap.size W2 W2.drew from(Below.refl _ _).drew)
 generalize W2.drew=W3 at D2 ⊢;go_wp2_with fail
 have jR:=aa (oS.out.trans (D2.out.mono oS.out.size));refine(zc.out W3 jR.out).mono ?_;intro e w4 hp;cases oO:aI vals f st with
 | error y =>
  rw[oO] at hp;obtain⟨hb,v,rfl,g2,rfl,h2⟩:=hp;have H2:=aa h2;have HB:=aa hb;have HE:Hid (((aI vals f st).bind fun s1=>((bF i f h.line h.names (du i f s1)).bind fun s2=>aI rest f s2).map fun s=>s.back s1)=.error y):=aa (by rw[oO];rfl)
  clear h2 hb oO;go_wp2_with fail
  go_ret
  rw[HE.out];exact⟨(jR.out.mono cC).trans HB.out,_,rfl,_,rfl,H2.out⟩
 | ok s1 =>
  rw[oO] at hp;have hr4:=HR.out.dp jR.out;have hst:=(gm vals oO HN.out.nodup hr4.cx HN.out.wf).1;have JL:=qD vals HN.out.quiet HST.out oO;obtain⟨rfl,x,hx1,hx2,wh,DU⟩:=eF.step (a1:=Lt.eD vals) (s1:=Lt.ak vals) hr4 (iP vals oO hr4.few) (hst.cx hr4.cx) (ll vals oO) hp;rw[JL] at hx1;have hx0:=YD hx1;subst hx0;rw[jM] at wh;have P5:=aa ((qP.out.later D2.out).jk DU);have Ve:=aa ((jR.out.mono cC).trans DU.below);have OZ:Hid (cW B ob (.slice la L.length lc) L.length (eE L) w w4):=aa ((cW.bR jR.out cC).trans DU);have LI:=aa (wh.om i);have hz:=(wh.om i).zero;have HZ:=aa hz;have ZE:=aa (xK loop hz);have HNM:=aa JL;have PT:=aa oO;have hsz5:=DU.below.size;have ac9:=jR.out.size;clear hp hr4 wh DU hst hx1 hx2 oO hz JL k0 k1 k2 k3 k4 k5 k6 k7 k8;obtain⟨k0,k1,k2,k3,k4,k5,k6,k7,k8⟩:=P5.out.cells;go_wp2_with fail
  refine ZE.out.mono ?_;rintro e w6 ⟨g,c6,m,rfl,Ox,hm,hg,Qd⟩;have P6:=aa (P5.out.jk Qd);have y0:=av P6.out.pos 0;have y1:=av P6.out.pos 1;have y2:=av P6.out.pos 2;have y3:=av P6.out.pos 3;have HR6:=aa Ox;have HM:=aa hm;have HG:=aa hg;have Oy:=aa Qd;clear Ox hm hg Qd k0 k1 k2 k3 k4 k5 k6 k7 k8;obtain⟨k0,k1,k2,k3,k4,k5,k6,k7,k8⟩:=P6.out.cells;obtain⟨W7,wi⟩ :∃W7,W7=four w6 w.heap.size (.int .i64 (f:Int)) (.int .i64 loop) (.pointer pa) (.slice (some ⟨g,0,none⟩) (L.length+1) c6):=⟨_,rfl⟩;have P7:Hid (fg w W7 p q f loop pa (.slice (some ⟨g,0,none⟩) (L.length+1) c6) (.slice (some ⟨sb,so,none⟩) h.kids.length kc) (.slice NA h.names.length nc) (.bool true) (.int .i64 (vals.length:Int)) (.bool true)):=aa (by rw[wi];exact P6.out.four _ _ _)
  have kn:vP w6 w.heap.size 92:=⟨_,_,P6.out.pos⟩;have F7:Hid (Fr [92] w6 W7):=aa (by rw[wi];exact vB kn _ _ _ _)
  have B7:Hid (Below B w6 W7):=aa (by rw[wi];exact pG w6 cC _ _ _ _)
  have K7:Hid (∀k,k≠w.heap.size→W7.heap[k]? = w6.heap[k]?):=aa (by rw[wi];exact fun k hk=>nQ w6 _ _ _ _ _ k hk)
  unfold four at wi;have HW7:=aa wi;clear wi kn;have Zi:p≠w.heap.size:=by have:=P5.out.pne;omega
  have ZF:q≠w.heap.size:=by have:=P5.out.qne;omega
  go_wp2_with fail
  rw[←HW7.out];have HZ0:=HZ.out;have hlt :∀l∈L,l.blk≠m:=fun l hl=>by have:=HZ.out.levels l hl;have:=HM.out;omega
  have BO:=HR6.out.TH F7.out B7.out;have Vc:cW B ob (.slice la L.length lc) L.length (eE L) w W7:=(OZ.out.trans (Oy.out.Fu _)).past B7.out fun k hk=>K7.out k (by omega)
  have hLV:dk W7 B (.slice la L.length lc) L:=((HZ.out.pos.fB).jk Oy.out (ah _)).fr F7.out (by decide)
  have Vh:(Value.slice la L.length lc).ownBlock=some g∨w.heap.size≤g:=HG.out.imp id fun h=>by omega
  have Vi:w.heap.size≤m:=by have:=HM.out;omega
  have Jf:=aa BO;have YE:=aa Vc;have Vj:=aa hLV;have HOW:=aa Vh;have Vk:=aa Vi;have mD:=aa hlt;have hdec:Calls Tryz.prog 113 #[.pointer (some ⟨b,0,none⟩),.int .i64 (i:Int),.agg #[.int .i64 (f:Int),.int .i64 loop,.pointer pa,.slice (some ⟨g,0,none⟩) (L.length+1) c6]] W7 (aq B b (.slice (some ⟨bk,o,none⟩) T.length c) T.length ub ob (.slice (some ⟨g,0,none⟩) (L.length+1) c6) (⟨f,m,[]⟩::L) (du i f s1) (bF i f h.line h.names (du i f s1)) W7) :=
   km b i f h loop pa (some ⟨g,0,none⟩) c6 ⟨f,m,[]⟩ L (du i f s1) W7 BO.dB BO.rs HX.out BO.cx.lt BO.pos.fB rfl (by have:=BO.fB;omega) BO.few (by simp) qF.out
  clear BO Vc hLV Vh Vi hlt HZ0 k0 k1 k2 k3 k4 k5 k6 k7 k8 y0 y1 y2 y3;refine hdec.mono ?_;intro e w8 hp;clear hdec;cases jO:bF i f h.line h.names (du i f s1) with
  | error y =>
   rw[jO] at hp;have HP:=aa hp;obtain⟨_,v,rfl,g2,rfl,_⟩:=hp;have HE:Hid (((aI vals f st).bind fun s1=>((bF i f h.line h.names (du i f s1)).bind fun s2=>aI rest f s2).map fun s=>s.back s1)=.error y):=aa (by rw[PT.out];show Except.map _ (Except.bind _ _)=_;rw[jO];rfl)
   clear jO;go_wp2_with fail
   go_ret
   rw[HE.out];exact(aq.inner (st:=st) YE.out Vj.out mD.out HOW.out Vk.out HP.out).same rfl rfl
  | ok s2 =>
   rw[jO] at hp;obtain⟨O9,vA,_⟩:=nI jO Jf.out.cx;obtain⟨rfl,x,hx1,hx2,TJ,TK⟩:=eF.step (a1:=h.names.length) (s1:=0) (by rw[jY];exact Jf.out) (jK jO Jf.out.few) (O9.cx Jf.out.cx) vA hp
   have P9:=aa (P7.out.jk TK);have HC:Hid (∀W,Below w8.heap.size w8 W→Calls Tryz.prog 111 #[.pointer (some ⟨b,0,none⟩),.slice (some ⟨sb,so+vals.length,none⟩) rest.length (kc-vals.length),.agg #[.int .i64 (f:Int),.int .i64 loop,.pointer pa,.slice (some ⟨g,0,none⟩) (L.length+1) c6]] W (aq B b (.slice (some ⟨bk,o,none⟩) T.length c) T.length ub ob (.slice (some ⟨g,0,none⟩) (L.length+1) c6) (grow x (⟨f,m,[]⟩::L)) s2 (aI rest f s2) w8)):=aa fun W hW =>
    (DT f loop pa (some ⟨g,0,none⟩) c6 ms (⟨f,m,[]⟩::L) x s2 W (.slice (some ⟨sb,so+vals.length,none⟩) rest.length (kc-vals.length)) rest (TJ.dp hW) Ri.out HV2.out (Pb.out.below ((YE.out.below.trans TK.below).trans (hW.mono TJ.world))) (fun k hk mi=>by rw[tL vA,HLI.out];exact(vq f i _).symm) (fun k _=>.inl (by simp)) (by have:=qR.out;omega)).mono fun e w' h=>h.from hW TJ.world
   have Yf:=aa TK;have OX:=aa hx1;have HE:Hid (((aI vals f st).bind fun s1=>((bF i f h.line h.names (du i f s1)).bind fun s2=>aI rest f s2).map fun s=>s.back s1)=(aI rest f s2).map fun s=>s.back s1):=aa (by rw[PT.out];show Except.map _ (Except.bind _ _)=_;rw[jO];rfl)
   clear hp TJ TK O9 vA hx1 hx2 jO;obtain⟨k0,k1,k2,k3,k4,k5,k6,k7,k8⟩:=P9.out.cells;go_wp2_with fail
   have PN:vals.length<kc:=by have:=ny.out;have:=qR.out;omega
   go_still_tail 7,(by kernel_rfl)
   change wpList _ _ _ _ _ w8.drew;have Vf:=aa (HC.out w8.drew (Below.refl _ _).drew);generalize w8.drew=W9 at Vf ⊢;go_wp2_with fail
   rw[HRL.out];refine Vf.out.mono ?_;intro e w10 hp;obtain⟨v,rfl⟩:=hp.ret;have HP:=aa hp;clear hp;go_wp2_with fail
   go_ret
   rw[HE.out];exact(aq.inner (st:=st) YE.out Vj.out mD.out HOW.out Vk.out (aq.trans (L:=⟨f,m,[]⟩::L) (st1:=s2) (x:=x) Yf.out.below Yf.out OX.out (fun e=>by cases e) HP.out)).TI HNM.out
end Go.Proofs.YteflkdlaoiijbaaGreatDoor
namespace Go.Proofs.YteflkdlaoiijbaaGreatDoor
open Go.RowKit
def wj (i f:Nat) (rep:Bool) (ks tests:List Lt) (st:aH):Rs aH:=(gZ i f rep ks (st.setOf i f)).bind fun s1=>(cY ks 0 f s1).bind fun s2=>aI tests f s2
theorem cz.but {W W':World} {B kb:Nat} (h2 :∀k,k≠kb→k<W.heap.size→W'.heap[k]? = W.heap[k]?) :∀{fs:List (Nat×Nat×(ByteArray→Option Value))} {ms:List Nat} {p:Option Addr},cz W B fs ms (.pointer p)→(∀a,p=some a→a.block<kb)→(∀m∈ms,m≠kb)→cz W' B fs ms (.pointer p)
 | [],_,_,h,_,_=>h
 | x::fs,ms,p,h,hp,hm=>by
  obtain⟨k',p',m,Co,e,rfl,h1,h3,h4,h5,h6,h7⟩:=h;injection e with e;have hk:=hp _ e;replace hk:k' < kb:=hk;exact⟨k',p',m,Co,by rw[e],rfl,h1,(h2 k' (by omega) (aF.1 h3).1).trans h3,h4.same (h2 m (hm m (bT ..)) h4.lt),h5,h6,cz.but h2 h7 (fun a ha=>Nat.lt_trans (h6 a ha) hk) fun x hx=>hm x (cr _ hx)⟩
theorem cz.first {W:World} {B:Nat} {fs:List (Nat×Nat×(ByteArray→Option Value))} {ms:List Nat} {p:Option Addr} (h:cz W B fs ms (.pointer p)) :∀a,p=some a→a.block<W.heap.size:=by
 intro a ha;cases fs with
 | nil=>rw[ha] at h;cases h.2
 | cons x fs =>
  obtain⟨k',_,_,_,e,_,_,h3,_⟩:=h;injection e with e;rw[ha] at e;injection e with e;rw[e];exact(aF.1 h3).1
section
variable {T:List Nd} {B b:Nat} {nv:Value} {ub ob f kb mb i n:Nat} {rep:Bool} {ks:List Lt} {pa:Option Addr} {lv:Value} {ms:List Nat} {L:List cS} {st:aH} {w w':World} {a s:Nat}
theorem eF.BP (h:eF T B b nv ub ob f pa lv ms L st w a s) (hk:w.heap[kb]? = some (.cells #[.pointer pa,.map (some mb),.int .i64 (gT ks (n+1):Int)] 195 (0,0))) (hm:dP Tryz.prog 9 w mb ks.length (fG ks rep ks.length)) (hBk:B≤kb) (hBm:B≤mb) (Qa :∀a,pa=some a→a.block<kb) (hap :∀l∈L,mb≠l.blk) :
  eF T B b nv ub ob f (some ⟨kb,0,none⟩) lv (mb::ms) L { st with frames:=⟨f,i,n,false,rep,ks⟩::st.frames} w a s:=by
 refine⟨h.dB,?_,⟨h.pos.fB,?_,h.pos.names,fun m hm l hl=>?_⟩,h.hd,⟨h.cx.ok,h.cx.lt,h.cx.names⟩,h.few,fun x hx=>?_,h.names,h.fns,h.fB⟩
 ·obtain⟨fv,FL,hw⟩:=h.rs
  exact⟨fv,FL,hw.on rfl rfl rfl⟩
 ·show oQ w B (dH f (⟨f,i,n,false,rep,ks⟩::st.frames)) (mb::ms) _
  rw[vl (f:=f) (x:=⟨f,i,n,false,rep,ks⟩) rfl rfl];exact⟨kb,pa,mb,ms,rfl,rfl,hBk,hk,hm,hBm,Qa,h.pos.blk⟩
 ·rcases bc.1 hm with rfl|hm
  ·exact hap l hl
  ·exact h.pos.apart m hm l hl
 ·rcases bc.1 hx with rfl|hx
  ·exact h.cx.lt
  ·exact h.fr x hx
theorem eF.TL {Pc:List fF} {v:Value} (h:eF T B b nv ub ob f (some ⟨kb,0,none⟩) lv (mb::ms) L st w a s) (hf:st.frames=⟨f,i,n,false,rep,ks⟩::Pc) (hk:w.heap[kb]? = some (.cells #[.pointer pa,.map (some mb),v] 195 (0,0))) :
  eF T B b nv ub ob f pa lv ms L { st with frames:=Pc} w a s∧dP Tryz.prog 9 w mb ks.length (fG ks rep ks.length):=by
 have hb:oQ w B (dH f st.frames) (mb::ms) (.pointer (some ⟨kb,0,none⟩)):=h.pos.blk;rw[hf,vl (f:=f) (x:=⟨f,i,n,false,rep,ks⟩) rfl rfl] at hb;obtain⟨k',p',m,Co,e,e2,h1,h3,h4,h5,h6,h7⟩:=hb;injection e with e;injection e with e;injection e with e;subst e;injection e2 with e2 e3;subst e2 e3;rw[hk] at h3;injection h3 with h3;injection h3 with h3;have h8:[Value.pointer pa,.map (some mb),v]=[.pointer p',.map (some mb),.int .i64 (gT ks (n+1):Int)]:=aB Array.toList h3;injection h8 with h8 _;injection h8 with h8;subst h8;refine⟨⟨h.dB,?_,⟨h.pos.fB,h7,h.pos.names,fun m hm l hl=>h.pos.apart m (cr _ hm) l hl⟩,h.hd,⟨h.cx.ok,h.cx.lt,h.cx.names⟩,h.few,fun x hx=>h.fr x (by rw[hf];exact cr _ hx),h.names,h.fns,h.fB⟩,h4⟩
 obtain⟨fv,FL,hw⟩:=h.rs;exact⟨fv,FL,hw.on rfl rfl rfl⟩
theorem eF.but (h:eF T B b nv ub ob f pa lv ms L st w a s) (k:Fr [195] w w') (hb:Below B w w') (h2 :∀j,j≠kb→j<w.heap.size→w'.heap[j]? = w.heap[j]?) (Qa :∀a,pa=some a→a.block<kb) (hm :∀m∈ms,m≠kb):eF T B b nv ub ob f pa lv ms L st w' a s:=by
 refine⟨h.dB.below hb,?_,⟨h.pos.fB.fr k (by decide),cz.but h2 h.pos.blk Qa hm,h.pos.names,h.pos.apart⟩,h.hd,h.cx,h.few,h.fr,h.names,h.fns,h.fB⟩
 obtain⟨fv,FL,hw⟩:=h.rs;exact⟨fv,FL,hw.fr k (by decide)⟩
theorem eF.grown (h:eF T B b nv ub ob f pa lv ms L st w a s) (hg:w.grownBy w' (some mb)) (hm :∃es c,w.heap[mb]? = some (.map es c)) (hB:B≤mb) (h1:mb∉ms) (h2 :∀l∈L,mb≠l.blk):eF T B b nv ub ob f pa lv ms L st w' a s:=by
 have cC:=h.world;refine⟨h.dB.below (kq hg hB cC),?_,⟨⟨iq (fe hg hm) h.pos.fB.row,fun l hl=>⟨(h.pos.fB.maps l hl).1.same (hg.block _ (h.pos.fB.maps l hl).1.lt fun e=>h2 l hl (by injection e with e;exact e.symm)),(h.pos.fB.maps l hl).2⟩,h.pos.fB.own,h.pos.fB.apart⟩,cz.grown hg hm h.pos.blk h1,h.pos.names,h.pos.apart⟩,h.hd,h.cx,h.few,h.fr,h.names,h.fns,h.fB⟩
 obtain⟨fv,FL,hw⟩:=h.rs;exact⟨fv,FL,hw.keep (fe hg hm)⟩
theorem dk.grown (h:dk w B lv L) (hg:w.grownBy w' (some mb)) (hm :∃es c,w.heap[mb]? = some (.map es c)) (h2 :∀l∈L,mb≠l.blk):dk w' B lv L :=
 ⟨iq (fe hg hm) h.row,fun l hl=>⟨(h.maps l hl).1.same (hg.block _ (h.maps l hl).1.lt fun e=>h2 l hl (by injection e with e;exact e.symm)),(h.maps l hl).2⟩,h.own,h.apart⟩
end
theorem qK.inner {B ob g c m n:Nat} {lv kv:Value} {top:Option Nat} {w w1:World} {xs:List Int} (h:qK B ob lv n top w kv xs) (h1:cW B ob lv n top w w1) (hg:lv.ownBlock=some g∨w.heap.size≤g) (hm:w.heap.size≤m):qK B ob (.slice (some ⟨g,0,none⟩) (n+1) c) (n+1) (some m) w1 kv xs:=by
 obtain⟨A,c',e,hc,h2⟩:=h;refine⟨A,c',e,hc,h2.imp id ?_⟩;rintro⟨bk,o,e2,hx⟩;exact⟨bk,o,e2,fun w' hf=>hx w' (h1.inner hg hm hf)⟩
theorem BQ {i f:Nat} {rep:Bool} {ks:List Lt} {st:aH}:gZ i f rep ks st=match cM st.frames f ks 0 ks with|some l=>.error (9,l)|none=>.ok { st with frames:=⟨f,i,0,false,rep,ks⟩::st.frames}:=rfl
end Go.Proofs.YteflkdlaoiijbaaGreatDoor
