/- Parts of the proof. -/
import Derived.StillTailTactics
import Derived.Test.YteflkdlaoiijbaaGreatDoorN11
set_option maxHeartbeats 16000000
set_option maxRecDepth 20000
namespace Go.Proofs.YteflkdlaoiijbaaGreatDoor
open Go.RowKit
theorem FT {α:Type} {L:List α} {x t:α} {i:Nat} (h:(L++[x])[i]? = some t):L[i]? = some t∨(i=L.length∧t=x):=by
 by_cases hi:i<L.length
 ·rw[kF hi] at h
  exact .inl h
 ·rw[zA (by omega)] at h
  have:=(aL.1 h).1;rw[mM] at this;obtain h0:i-L.length=0:=by omega
  rw[h0] at h;injection h with h;exact .inr ⟨by omega,h.symm⟩
theorem BJ {L:List mF} {x:mF} {p:mF→Value} (h :∀(i j:Nat) t u,i≠j→L[i]? = some t→L[j]? = some u→∀g,(p t).ownBlock=some g→(p u).ownBlock≠some g) (hx:(p x).ownBlock=none) :∀(i j:Nat) t u,i≠j→(L++[x])[i]? = some t→(L++[x])[j]? = some u→∀g,(p t).ownBlock=some g→(p u).ownBlock≠some g:=by
 intro i j t u vN hi hj g hg;rcases FT hj with hj | ⟨hj,rfl⟩
 ·rcases FT hi with hi | ⟨hi,rfl⟩
  ·exact h i j t u vN hi hj g hg
  ·rw[hx] at hg;cases hg
 ·rw[hx];intro e;cases e
theorem eQ.TW {W W1:World} {B b:Nat} {nv:Value} {N:Nat} {st:aG} {fv:Value} {ub ob:Nat} {L:List mF} (h:eQ W B b nv N st fv ub ob L) (hb:qT fv.ownBlock W W1) {x:cI} (hv:x.vars=[]) (hu:x.bz=[]) {fv':Value} (hr:W1.ownsRow B 52 6 fv' (L++[(x,Value.slice none 0 0,Value.slice none 0 0)]).length ((L++[(x,Value.slice none 0 0,Value.slice none 0 0)]).flatMap NZ)) :
  eQ (W1.setCell ⟨b,1,none⟩ fv') B b nv N { st with fns:=st.fns++[x]} fv' ub ob (L++[(x,Value.slice none 0 0,Value.slice none 0 0)])∧Fr [52,87] W (W1.setCell ⟨b,1,none⟩ fv'):=by
 have ho:=qT.cQ h.fns.row hb;have hblk:=ho.2 b _ _ _ h.blk (by decide)
 have I2:=JZ.set hblk 1 fv';refine⟨⟨bt hblk 1 fv',⟨cQ hr I2 (by decide),fun t ht=>?_,fun t ht=>?_,BJ (p:=fun t=>t.2.1) h.fns.pG rfl,BJ (p:=fun t=>t.2.2) h.fns.qA rfl⟩,by rw[mP,h.are];rfl,lh (lh h.uses ho (by decide)) I2 (by decide),lh (lh h.vZ ho (by decide)) I2 (by decide),h.pos⟩,((Fr.but h.fns.row (E:=[52]) (by decide) hb).mono (by decide)).trans ((Fr.set (E:=[87]) hblk (by decide) _ _).mono (by decide))⟩
 ·rcases dd.1 ht with ht|ht
  ·exact cQ (cQ (h.fns.vars t ht) ho (by decide)) I2 (by decide)
  ·obtain rfl:=bP.1 ht
   show World.ownsRow _ B _ 3 (.slice none 0 0) x.vars.length (x.vars.flatMap s6)
   rw[hv];exact World.ownsRow_nil _ _ _ _
 ·rcases dd.1 ht with ht|ht
  ·exact cQ (cQ (h.fns.bz t ht) ho (by decide)) I2 (by decide)
  ·obtain rfl:=bP.1 ht
   show World.ownsRow _ B _ 2 (.slice none 0 0) x.bz.length (x.bz.flatMap Fw)
   rw[hu];exact World.ownsRow_nil _ _ _ _
theorem O0 {ops:Array Oper} {o:Oper} {a:Act} {K:Act→World→Prop} {Q:Exit→Act→World→Prop} {E:Prop} (w0 w1:World) (n:mF) (hgd:o.guard=none) (sl y:Operand)
  (ho:o.op=.call { callee:=.builtin .append,args:=#[sl,y],argTypes:=#[31,31]}) (B:Nat) (v:Value) (ns:List mF) (hs:a.eval sl=v) (hown:w0.ownsRow B 52 6 v ns.length (ns.flatMap NZ)) (dW :∀(i:Nat),i<w0.heap.size→w1.heap[i]? = w0.heap[i]?) (g:Nat) (hg:g=w0.heap.size) (hy:a.eval y=.slice (some ⟨g,0,none⟩) 1 1)
  (hcell:w1.heap[g]? = some (.cells (NZ n).toArray 52 (0,0))) (h1c:n.2.1=.slice none 0 0∧n.2.2=.slice none 0 0) (hlen:ns.length≤1000000) (hB:B≤w0.heap.size) (hle:w0.heap.size≤w1.heap.size) (Yv:w1.os=w0.os∧w1.tape=w0.tape∧w1.output=w0.output)
  (h :∀g' c' w',w'.ownsRow B 52 6 (.slice (some ⟨g',0,none⟩) (ns.length+1) c') (ns++[n]).length ((ns++[n]).flatMap NZ)→qT v.ownBlock w0 w'→Below B w0 w'→K (a.put o.dst (.slice (some ⟨g',0,none⟩) (ns.length+1) c')) w') :
  if Region.wanted o (yielded ops a.tmps)=true then Oper.wp Tryz.prog o a w1 K Q else E:=by
 obtain⟨i0,ng,hz0,hz1,hz2⟩:=info_parts Og;refine Bk w0 w1 (NZ n) hgd sl y 31 52 i0 _ 6 80 ho Tryz.underlying31 ng hz0 hz1 hz2 rfl (by omega) (by omega) B v ns.length _ hs hown dW g hg hy hcell rfl (by intro u hu;simp[NZ,h1c] at hu;rcases hu with rfl|rfl|rfl|rfl|rfl<;>rfl) hlen hB hle Yv ?_
 intro g' c' w' r1 r2 r3 _;refine h g' c' w' ?_ r2 r3;rw[bV,mM,pQ,D9];exact r1
def xI (B b:Nat) (nv:Value) (N ub ob:Nat) (st:aG) (x:cI) (lv:Value) (w:World) (e:Ending) (w':World):Prop :=
 e=.returned (.agg #[.int .i64 (st.fns.length:Int),.int .i64 (-1),.pointer none,lv])∧jO w' B b nv N { st with fns:=st.fns++[x]} ub ob∧Below B w w'∧Fr [52,87] w w'
theorem nR (W:World) (r:Nat) (a c d e:Value) (k:Nat) (hk:k≠r):((((W.setCell ⟨r,0,none⟩ a).setCell ⟨r,1,none⟩ c).setCell ⟨r,2,none⟩ d).setCell ⟨r,3,none⟩ e).heap[k]? = W.heap[k]?:=by
 rw[Below.heap_setCell _ _ _ k hk,Below.heap_setCell _ _ _ k hk,Below.heap_setCell _ _ _ k hk,Below.heap_setCell _ _ _ k hk]
theorem xJ {B:Nat} {nv:Value} {N ub ob:Nat} (b:Nat) (x:cI) (la:Option Addr) (ln lc:Nat) (st:aG) (w:World) (hw:jO w B b nv N st ub ob) (hv:x.vars=[]) (hu:x.bz=[]) (Ot:st.fns.length≤100000) :
  Calls Tryz.prog 27 #[.pointer (some ⟨b,0,none⟩),.agg #[.int .i64 (x.node:Int),.int .i64 x.parent,.int .i64 (x.params:Int),.bool x.many,.slice none 0 0,.slice none 0 0],.slice la ln lc] w (xI B b nv N ub ob st x (.slice la ln lc) w):=by
 obtain⟨fv,L,hw⟩:=hw;obtain⟨hbl,mH,sV⟩:=hw.mL;have hBb:B≤b:=hw.pos;obtain⟨FA,fc,Fp,hfc,_⟩:=dE hw.fns.row;subst Fp;have xd:L.length=st.fns.length:=hw.len;have HW:=aa hw;have HV:=aa hv;have HU:=aa hu;unfold xI;rw[←xd] at Ot ⊢;have HLl:=aa xd;clear hw hv hu xd;obtain⟨W1,hW1⟩ :∃W1,W1=(w.alloc (.cells #[.int .i64 (x.node:Int),.int .i64 x.parent,.int .i64 (x.params:Int),.bool x.many,.slice none 0 0,.slice none 0 0] 52)).alloc (.cells #[.int .i64 0,.int .i64 0,.pointer none,.slice none 0 0] 92):=⟨_,rfl⟩;have dM:Hid (Below w.heap.size w W1):=aa (by rw[hW1];exact Below.two _ _)
 have eF:Hid (W1.heap.size=w.heap.size+1+1):=aa (by rw[hW1,ao,ao])
 have gr:W1.heap[w.heap.size]? = some (.cells #[.int .i64 (x.node:Int),.int .i64 x.parent,.int .i64 (x.params:Int),.bool x.many,.slice none 0 0,.slice none 0 0] 52 (0,0)):=by
  rw[hW1];exact(Below.heap_alloc _ _ _ (by rw[ao];omega)).trans (heap_alloc_new w _)
 have Xh:W1.heap[w.heap.size+1]? = some (.cells #[.int .i64 0,.int .i64 0,.pointer none,.slice none 0 0] 92 (0,0)):=by
  rw[hW1];have:=heap_alloc_new (w.alloc (.cells #[.int .i64 (x.node:Int),.int .i64 x.parent,.int .i64 (x.params:Int),.bool x.many,.slice none 0 0,.slice none 0 0] 52)) (.cells #[.int .i64 0,.int .i64 0,.pointer none,.slice none 0 0] 92);rwa[ao] at this
 have x0:W1.cell? ⟨w.heap.size,0,none⟩=some (.int .i64 (x.node:Int)):=ab gr 0;have x1:W1.cell? ⟨w.heap.size,1,none⟩=some (.int .i64 x.parent):=ab gr 1;have x2:W1.cell? ⟨w.heap.size,2,none⟩=some (.int .i64 (x.params:Int)):=ab gr 2;have x3:W1.cell? ⟨w.heap.size,3,none⟩=some (.bool x.many):=ab gr 3;have x4:W1.cell? ⟨w.heap.size,4,none⟩=some (.slice none 0 0):=ab gr 4;have x5:W1.cell? ⟨w.heap.size,5,none⟩=some (.slice none 0 0):=ab gr 5;have HPS:=aa Xh;have je:=aa hW1;have nC:=aa (HW.out.later dM.out);have d1:W1.cell? ⟨b,1,none⟩=some (.slice FA L.length fc):=ab nC.out.blk 1;clear gr Xh hW1;go_enter Tryz.func27,Tryz.ntmps27
 go_wp2_with fail
 rw[←je.out];clear je;have hb1:b<W1.heap.size:=by have:=eF.out;omega
 have hw1l:w.heap.size<W1.heap.size:=by have:=eF.out;omega
 have hp1l:w.heap.size+1<W1.heap.size:=by have:=eF.out;omega
 have hB1:B≤W1.heap.size:=by have:=nC.out.mL.1;omega
 have bX:B≤w.heap.size:=by omega
 have HZ:Hid ((W1.alloc (.cells #[.int .i64 (x.node:Int),.int .i64 x.parent,.int .i64 (x.params:Int),.bool x.many,.slice none 0 0,.slice none 0 0] 52)).drew.heap[W1.heap.size]? = some (.cells #[.int .i64 (x.node:Int),.int .i64 x.parent,.int .i64 (x.params:Int),.bool x.many,.slice none 0 0,.slice none 0 0] 52 (0,0))):=aa (heap_alloc_new W1 _);have d1b:(W1.alloc (.cells #[.int .i64 (x.node:Int),.int .i64 x.parent,.int .i64 (x.params:Int),.bool x.many,.slice none 0 0,.slice none 0 0] 52)).cell? ⟨b,1,none⟩=some (.slice FA L.length fc):=(Below.cell (B:=W1.heap.size) ((Below.refl _ _).alloc (ah _) _) (p:=⟨b,1,none⟩) hb1).trans d1;go_region_law ((refine O0 W1 _ (x,.slice none 0 0,.slice none 0 0) (by rfl) _ _ (by rfl) B (.slice FA L.length fc) L (by rfl) nC.out.fns.row (fun i hi=>Below.heap_alloc W1 _ i hi) W1.heap.size rfl (by rfl) HZ.out ⟨rfl,rfl⟩ (by omega) hB1 (by simp[World.drew]) ⟨rfl,rfl,rfl⟩ ?_;intro g6 c6 w6 r6 b6 bl6;have YU:=qT.cQ nC.out.fns.row b6;have O9:=YU.2 b _ _ _ nC.out.blk (by decide);have abl:=YU.2 (w.heap.size+1) _ _ _ HPS.out (by decide);have d16:=ab O9 1;have Qm:=aw O9 1;have R6:=aa r6;have B6:=aa b6;have BL6:=aa bl6;have P6:=aa abl;have S6:=aa b6.1;clear r6 b6 bl6 O9 YU abl))
 all_goals
  have HQ:=nC.out.TW B6.out (x:=x) HV.out HU.out R6.out;have hBl:=BL6.out.setCell (p:=⟨b,1,none⟩) hBb (.slice (some ⟨g6,0,none⟩) (L.length+1) c6);have Pa:=(Below.heap_setCell w6 ⟨b,1,none⟩ (.slice (some ⟨g6,0,none⟩) (L.length+1) c6) (w.heap.size+1) (by show w.heap.size+1≠b;omega)).trans P6.out
  generalize w6.setCell ⟨b,1,none⟩ (.slice (some ⟨g6,0,none⟩) (L.length+1) c6)=W7 at HQ hBl Pa ⊢;obtain⟨HQ1,HQ2⟩:=HQ;have e1:W7.cell? ⟨b,1,none⟩=some (.slice (some ⟨g6,0,none⟩) (L.length+1) c6):=ab HQ1.blk 1;have y0:=aw Pa 0;have y1:=aw Pa 1;have y2:=aw Pa 2;have y3:=aw Pa 3;have z0:W7.cell? ⟨w.heap.size+1,0,none⟩=some (.int .i64 0):=ab Pa 0;have z1:W7.cell? ⟨w.heap.size+1,1,none⟩=some (.int .i64 0):=ab Pa 1;have z2:W7.cell? ⟨w.heap.size+1,2,none⟩=some (.pointer none):=ab Pa 2;have z3:W7.cell? ⟨w.heap.size+1,3,none⟩=some (.slice none 0 0):=ab Pa 3;have Q1:=aa HQ1;have Q2:=aa HQ2;have Q3:=aa hBl;have P7:=aa Pa;clear HQ1 HQ2 hBl Pa d16 Qm R6 B6 BL6 P6 S6 x0 x1 x2 x3 x4 x5 d1 d1b HZ HPS;go_wp2_with fail
  have k7:vK W7 (w.heap.size+1) 92:=⟨_,_,P7.out⟩;refine bodyPost_ret (v:=.agg #[.int .i64 (L.length:Int),.int .i64 (-1),.pointer none,.slice la ln lc]) (by simp[results,Tryz.results27,go_sem,z0,z1,z2,z3]) rfl ⟨rfl,⟨_,_,Q1.out.fr (E:=[92]) ((k7.fr (by decide) _ _).trans (((k7.set _ _ _).fr (by decide) _ _).trans ((((k7.set _ _ _).set _ _ _).fr (by decide) _ _).trans ((((k7.set _ _ _).set _ _ _).set _ _ _).fr (by decide) _ _)))) (by decide)⟩,?_,?_⟩
  ·exact((((((dM.out.mono bX).trans Q3.out).setCell (p:=⟨w.heap.size+1,0,none⟩) (by show B≤w.heap.size+1;omega) _).setCell (p:=⟨w.heap.size+1,1,none⟩) (by show B≤w.heap.size+1;omega) _).setCell (p:=⟨w.heap.size+1,2,none⟩) (by show B≤w.heap.size+1;omega) _).setCell (p:=⟨w.heap.size+1,3,none⟩) (by show B≤w.heap.size+1;omega) _)
  ·exact((Fr.ae dM.out).trans Q2.out).past (fun k hk=>nR W7 _ _ _ _ _ k (by omega)) (by simp[World.setCell])
end Go.Proofs.YteflkdlaoiijbaaGreatDoor
namespace Go.Proofs.YteflkdlaoiijbaaGreatDoor
open Go.RowKit
theorem Jo {k n:Int} {kk:List Int} (h:qw k n kk) (h1:1≤k) (h2:k≤32) :∀a∈kk,(1≤a∧a≤32)∧(k≠18→a≠19∧a≠28):=by
 intro a ha;have ex :∀{a},tA a→(1≤a∧a≤32)∧(k≠18→a≠19∧a≠28):=fun{a} h=>by unfold tA at h;omega
 have key:k=1∨k=2∨k=3∨k=4∨k=5∨k=6∨k=7∨k=8∨k=9∨k=10∨k=11∨k=12∨k=13∨k=14∨k=15∨k=16∨k=17∨k=18∨k=19∨k=20∨k=21∨k=22∨k=23∨k=24∨k=25∨k=26∨k=27∨k=28∨k=29∨k=30∨k=31∨k=32:=by omega
 by_cases c1:k=1∨k=2∨k=3∨k=4∨k=5∨k=6∨k=7∨k=30∨k=31∨k=32
 ·rw[h.none c1] at ha;cases ha
 by_cases c2:k=8∨k=12∨k=17
 ·obtain⟨x,y,e,hx,hy⟩:=h.two c2
  rw[e] at ha;simp only[bn,oM,oP] at ha;rcases ha with rfl|rfl
  ·exact ex hx
  ·exact ex hy
 by_cases c3:k=9∨k=10
 ·exact ex ((h.call c3).2 a ha)
 by_cases c4:k=11∨k=22
 ·rw[h.body c4,bP] at ha
  omega
 by_cases c5:k=13∨k=14∨k=16
 ·obtain⟨x,e,hx⟩:=h.one c5
  rw[e,bP] at ha;exact ex (ha▸hx)
 by_cases c6:k=15
 ·have:=h.items c6 a ha
  omega
 by_cases c7:k=18
 ·obtain⟨l,r,e,hl,hr⟩:=h.block c7
  rw[e,dd] at ha;refine⟨?_,fun h=>absurd c7 h⟩
  rcases ha with ha|ha
  ·have:=hl a ha
   unfold StK at this;omega
  ·rcases hr with rfl|rfl
   ·cases ha
   ·rw[bP] at ha;omega
 by_cases c8:k=19∨k=29
 ·exact ex (h.list c8 a ha)
 by_cases c9:k=20
 ·obtain⟨l,r,e,hl,_,_,hr⟩:=h.assign c9
  rw[e,dd] at ha;rcases ha with ha|ha
  ·have:=hl a ha;omega
  ·exact ex (hr a ha)
 by_cases c10:k=21
 ·obtain⟨x,e,hx⟩:=h.Yq c10
  rw[e,bP] at ha;omega
 by_cases c11:k=23
 ·obtain⟨x,e,hx⟩:=h.Yr c11
  rw[e] at ha;simp only[bn,oM,oP] at ha;rcases ha with rfl|rfl
  ·exact ex hx
  ·omega
 by_cases c12:k=24
 ·obtain⟨x,e,hx⟩:=h.Fv c12
  rw[e] at ha;simp only[bn,oM,oP] at ha;rcases ha with rfl|rfl
  ·omega
  ·exact ex hx
 by_cases c13:k=25
 ·obtain⟨ps,r,e,_,hp,hr⟩:=h.if_ c13
  rw[e,dd] at ha;rcases ha with ha|ha
  ·obtain⟨p,lF,sA⟩:=tI.1 ha
   have:=hp p lF;simp only[bn,oM,oP] at sA;rcases sA with rfl|rfl
   ·exact ex this.1
   ·omega
  ·rcases hr with rfl|rfl
   ·cases ha
   ·rw[bP] at ha;omega
 by_cases c14:k=26
 ·obtain⟨l,e,_,hl⟩:=h.for_ c14
  rw[e,dd,bP] at ha;rcases ha with ha|ha
  ·exact ex (hl a ha)
  ·omega
 by_cases c15:k=27
 ·obtain⟨l,e,_,hl⟩:=h.each c15
  rw[e,dd,bP] at ha;rcases ha with ha|ha
  ·exact ex (hl a ha)
  ·omega
 by_cases c16:k=28
 ·rw[h.func c16,bP] at ha
  omega
 omega
structure kj (T:List Nd) (t:Lt):Prop where
 J2:Lt.In T t
 form:t.uX
 wf:t.Wf
 nodup:t.gR.Nodup
 kind:1≤t.hd.kind∧t.hd.kind≤32
structure fA (T:List Nd) (ks:List Lt):Prop where
 J2:Lt.uP T ks
 form:Lt.iB ks
 wf:Lt.yQ ks
 nodup:(Lt.bs ks).Nodup
 kind :∀k∈ks,1≤k.hd.kind∧k.hd.kind≤32
theorem kj.sub {T:List Nd} {t:Lt} (h:kj T t):fA T t.sub∧(t.hd.kind≠18→∀k∈t.sub,Still k)∧qw t.hd.kind t.hd.num (oG t.sub):=by
 obtain⟨i,g,ks⟩:=t;obtain⟨h1,h2,h3,h4,h5⟩:=h;unfold Lt.In at h1;unfold Lt.uX at h2;unfold Lt.Wf at h3;rw[Lt.gR,ml] at h4;have hk:=Jo h2.1 h5.1 h5.2;have key :∀k∈ks,(1≤k.hd.kind∧k.hd.kind≤32)∧(g.kind≠18→k.hd.kind≠19∧k.hd.kind≠28):=fun k Es=>hk _ (jV Es)
 exact⟨⟨h1.2.2,h2.2,h3.2,h4.2,fun k hk=>(key k hk).1⟩,fun hne k hk=>(key k hk).2 hne,h2.1⟩
theorem fA.cons {T:List Nd} {k:Lt} {ks:List Lt} (h:fA T (k::ks)):kj T k∧fA T ks:=by
 obtain⟨h1,h2,h3,h4,h5⟩:=h;unfold Lt.uP at h1;unfold Lt.iB at h2;unfold Lt.yQ at h3;rw[Lt.bs,oK] at h4;exact⟨⟨h1.1,h2.1,h3.1,h4.1,h5 k (bU ..)⟩,⟨h1.2,h2.2,h3.2,h4.2.1,fun x hx=>h5 x (bY _ hx)⟩⟩
theorem fA.at_ {T:List Nd} :∀{ks:List Lt},fA T ks→∀k∈ks,kj T k
 | x::ks,h,k,hk=>by
  rcases bn.1 hk with rfl|hk
  ·exact h.cons.1
  ·exact h.cons.2.at_ k hk
theorem fA.quiet {T:List Nd} :∀{ks:List Lt},fA T ks→Lt.me ks
 | [],_=>by unfold Lt.me;trivial
 | .mk i g l::ks,h=>by
  have h1:=h.cons.1.sub;have h2:fA T l:=h1.1;unfold Lt.me Lt.Quiet;exact⟨⟨fun hne=>h1.2.1 hne.2,fA.quiet (ks:=l) h2⟩,fA.quiet (ks:=ks) h.cons.2⟩
def HdF (f:Nat) (L:List cE):Prop:=∀l r,L=l::r→l.fn=f
theorem HdF.grow {f:Nat} {L:List cE} (h:HdF f L) (a:List jr):HdF f (grow a L):=by
 intro l r e;cases L with
 | nil=>cases e
 | cons x y =>
  injection e with e _;rw[←e];exact h x y rfl
structure eS (T:List Nd) (B b:Nat) (nv:Value) (ub ob f:Nat) (pa:Option Addr) (lv:Value) (ms:List Nat) (L:List cE) (st:aG) (w:World) (a s:Nat):Prop where
 ft:vY w B nv T
 rs:jO w B b nv T.length st ub ob
 pos:oZ w B f (.pointer pa) lv ms L st
 hd:HdF f L
 cx:Cx f st
 few:dK st.fns
 fr :∀x∈st.frames,x.fn<st.fns.length
 names:st.names.length+a≤100000
 fns:st.fns.length+s≤100000
 fk:L.length+s≤100000
section
variable {T:List Nd} {B b:Nat} {nv:Value} {ub ob f:Nat} {pa:Option Addr} {lv:Value} {ms:List Nat} {L:List cE} {st st':aG} {w w':World} {a s a' s':Nat}
theorem eS.mono (h:eS T B b nv ub ob f pa lv ms L st w a s) (h1:a'≤a) (h2:s'≤s):eS T B b nv ub ob f pa lv ms L st w a' s' :=
 ⟨h.ft,h.rs,h.pos,h.hd,h.cx,h.few,h.fr,by have:=h.names;omega,by have:=h.fns;omega,by have:=h.fk;omega⟩
theorem eS.next {k:Lt} {e:Ending} (h:eS T B b nv ub ob f pa lv ms L st w (k.wt+a) (k.size+s)) (hk:kj T k) (hr:bg k f st=.ok st') (hp:aq B b nv T.length ub ob lv L st (.ok st') w e w') :
  e=.returned .nilIface∧∃x,st'.names=x++st.names∧(L=[]→x=[])∧eS T B b nv ub ob f pa lv ms (grow x L) st' w' a s∧cJ B ob lv L.length (ei L) w w'∧st'.frames=st.frames:=by
 obtain⟨hb,rfl,QA,oD,x,hx1,hx2,hx3⟩:=hp;have wP:=og k hr h.few;have hall:=kY k hr hk.nodup h.cx hk.wf;have hf:=yU k hr;refine⟨rfl,x,hx1,hx2,⟨h.ft.below hb,QA,h.pos.on oD hx3 hx1 hx2 hf,h.hd.grow x,hall.1.cx h.cx,wP.few,fun y hy=>?_,?_,?_,?_⟩,oD,hf⟩
 ·rw[hf] at hy
  exact cy (h.fr y hy) wP.least
 ·have:=wP.names;have:=h.names;omega
 ·have:=wP.fns;have:=h.fns;omega
 ·rw[ch];have:=h.fk;omega
theorem aq.trans {N:Nat} {st1:aG} {r2:Rs aG} {w1 w2:World} {e2:Ending} {x:List jr} (hb:Below B w w1) (h2:cJ B ob lv L.length (ei L) w w1) (h3:st1.names=x++st.names) (h4:L=[]→x=[]) (k:aq B b nv N ub ob lv (grow x L) st1 r2 w1 e2 w2):aq B b nv N ub ob lv L st r2 w e2 w2:=by
 refine⟨hb.trans k.1,?_⟩;have k2:=k.2;cases r2 with
 | error y=>exact k2
 | ok st2 =>
  obtain⟨k3,k4,k5,y,k6,k7,k8⟩:=k2;rw[ch,om] at k5;refine⟨k3,k4,h2.trans k5,y++x,?_,fun e=>?_,?_⟩
  ·rw[k6,h3,fe]
  ·rw[h4 e,k7 (by rw[e];rfl)];rfl
  ·rw[grow_grow] at k8;exact k8
end
def bA (T:List Nd) (B b:Nat) (nv:Value) (ub ob:Nat) (t:Lt):Prop :=
 ∀(f:Nat) (loop:Int) (pa la:Option Addr) (lc:Nat) (ms:List Nat) (L:List cE) (st:aG) (w:World),eS T B b nv ub ob f pa (.slice la L.length lc) ms L st w t.wt t.size→(18≤t.hd.kind→loop=cB f st.frames)→(L≠[]∨t.hd.kind=18) →
  Calls Tryz.prog 26 #[.pointer (some ⟨b,0,none⟩),.int .i64 (t.loc:Int),.agg #[.int .i64 (f:Int),.int .i64 loop,.pointer pa,.slice la L.length lc]] w (aq B b nv T.length ub ob (.slice la L.length lc) L st (bg t f st) w)
def qJ (B ob:Nat) (lv:Value) (n:Nat) (top:Option Nat) (w:World) (kv:Value) (xs:List Int):Prop :=
 ∃A c,kv=.slice A xs.length c∧xs.length≤c∧(xs=[]∨∃bk o,A=some ⟨bk,o,none⟩∧∀w',cJ B ob lv n top w w'→∀(j:Nat) x,xs[j]? = some x→w'.cell? ⟨bk,o+j,none⟩=some (.int .i64 x))
theorem gF.keeps {B ob n:Nat} {lv kv:Value} {top:Option Nat} {w:World} {xs:List Int} (h:gF w B kv xs):qJ B ob lv n top w kv xs:=by
 obtain⟨A,c,e,hc,h1⟩:=h;refine⟨A,c,e,hc,h1.imp id ?_⟩;rintro⟨bk,o,e2,hb,hx⟩;exact⟨bk,o,e2,fun w' hf j x hj=>(hf.below.cell (p:=⟨bk,o+j,none⟩) hb).trans (hx j x hj)⟩
theorem qJ.later {B ob n:Nat} {lv kv:Value} {top:Option Nat} {w w':World} {xs:List Int} (h:qJ B ob lv n top w kv xs) (hf:cJ B ob lv n top w w'):qJ B ob lv n top w' kv xs:=by
 obtain⟨A,c,e,hc,h1⟩:=h;refine⟨A,c,e,hc,h1.imp id ?_⟩;rintro⟨bk,o,e2,hx⟩;exact⟨bk,o,e2,fun w2 hf2=>hx w2 (hf.trans hf2)⟩
theorem qK {ks:List Lt} {n:Nat} {x:Lt} (h:ks[n]? = some x):Lt.eY (ks.drop n)=x.wt+Lt.eY (ks.drop (n+1))∧Lt.al (ks.drop n)=x.size+Lt.al (ks.drop (n+1)):=by
 rw[drop_at h,Lt.eY,Lt.al];exact⟨rfl,rfl⟩
end Go.Proofs.YteflkdlaoiijbaaGreatDoor
namespace Go.Proofs.YteflkdlaoiijbaaGreatDoor
theorem Pb (i:Nat):Cx 0 (iZ i) :=
 ⟨⟨Nat.zero_lt_one,fun g x hx=>by
  cases g with
  | zero=>injection hx with hx;subst hx;exact⟨.inl ⟨rfl,rfl⟩,ah _⟩
  | succ g=>simp[iZ] at hx⟩,Nat.zero_lt_one,fun n hn=>by simp[iZ] at hn⟩
theorem YV {k:Int} (h:gB (dN k) 32=true):k=18:=by
 unfold dN at h;split at h
 ·exact absurd h (by decide +kernel)
 ·split at h
  ·exact absurd h (by decide +kernel)
  ·split at h
   ·exact absurd h (by decide +kernel)
   ·split at h
    ·exact absurd h (by decide +kernel)
    ·split at h
     ·exact absurd h (by decide +kernel)
     ·split at h
      ·assumption
      ·split at h
       ·exact absurd h (by decide +kernel)
       ·split at h
        ·exact absurd h (by decide +kernel)
        ·exact absurd h (by decide +kernel)
theorem Jp {k n:Int} {ss:List Int} (hk:k=6∨k=7∨k=30∨k=31) (h:iP k n ss=true):ss=[]:=by
 have e:aX k n=[]:=by
  unfold aX;repeat rw[af (by omega)]
 unfold iP at h;rw[e,fh] at h;exact Ef.1 h
theorem abm {n:Int} {ss:List Int} (h:iP 24 n ss=true) :∃a b,ss=[a,b]∧gB a 32=true:=by
 have e:aX 24 n=[(1,1,[32,1])]:=by
  unfold aX;repeat rw[af (by decide)]
  rw[ak rfl]
 unfold iP at h;rw[e,fh,fh,cX] at h;obtain⟨h1,h2⟩:=h;rw[ku] at h1 h2;by_cases hc:(0:Int)<1∧iV ss [32,1]=true
 ·rw[ak hc] at h2
  have e2 :∀l,ku [32,1] 1 ss.length 1 l=(1,l):=fun l=>by
   cases ss.length with
   | zero=>rfl
   | succ m=>rw[ku,af (by omega)]
  have h2:(ku [32,1] 1 ss.length 1 (ss.drop 2)).2.isEmpty=true:=h2;rw[e2] at h2;have h3:=nr hc.2;have hb:=hc.2;match ss,h2,h3,hb with
  | [a,b],_,_,hb =>
   rw[iV,cX] at hb;exact⟨a,b,rfl,hb.1⟩
  | a::b::c::l,h2,_,_=>cases h2
  | [a],_,h3,_=>simp at h3
  | [],_,h3,_=>simp at h3
 ·rw[af hc] at h1
  exact absurd h1 (show ¬ (decide ((1:Int)≤0))=true by decide)
mutual
theorem Vz {T:List Nd} (hT :∀x∈T,iP x.kind x.num (x.kids.map fun k=>dN (dz T k.toNat))=true) :∀(t:Lt),Lt.In T t→t.Wf
 | .mk i h ks,hi=>by
  unfold Lt.In at hi;obtain⟨hx,hk,hs⟩:=hi;unfold Lt.Wf;have h1:=hT h (ba hx);refine⟨⟨fun e=>?_,fun e=>?_⟩,Pc hT ks hs⟩
  ·have:=Jp e h1
   rw[pR,hk,pR] at this;exact this
  ·rw[e] at h1
   obtain⟨a,b,h2,h3⟩:=abm h1;rw[hk,tM] at h2;match ks,h2,hs with
   | [x,y],h2,hs =>
    injection h2 with h2 _;rw[←h2] at h3;have h4:=YV h3;refine⟨x,y,rfl,?_⟩;unfold Lt.uP at hs;obtain⟨j,g,ls⟩:=x;have hg:=hs.1;unfold Lt.In at hg;have h4:dz T (((j:Nat):Int)).toNat=18:=h4;rw[iF,nU hg.1] at h4;exact h4
   | [],h2,_=>cases h2
   | [x],h2,_=>cases h2
   | _::_::_::_,h2,_=>cases h2
theorem Pc {T:List Nd} (hT :∀x∈T,iP x.kind x.num (x.kids.map fun k=>dN (dz T k.toNat))=true) :∀(ks:List Lt),Lt.uP T ks→Lt.yQ ks
 | [],_=>by unfold Lt.yQ;trivial
 | k::ks,hi=>by
  unfold Lt.uP at hi;unfold Lt.yQ;exact⟨Vz hT k hi.1,Pc hT ks hi.2⟩
end
open Go.RowKit
theorem nS {k:Int} (h:gB (dN k) 1=true):tA k:=by
 unfold tA;unfold dN at h;repeat' split at h
 all_goals first|omega|exact absurd h (by decide +kernel)
theorem abn {k:Int} (h:gB (dN k) 2=true):k=7∨k=8:=by
 unfold dN at h;repeat' split at h
 all_goals first|omega|exact absurd h (by decide +kernel)
theorem abo {k:Int} (h:gB (dN k) 4=true):k=9∨k=10:=by
 unfold dN at h;repeat' split at h
 all_goals first|omega|exact absurd h (by decide +kernel)
theorem abp {k:Int} (h:gB (dN k) 8=true):k=11:=by
 unfold dN at h;repeat' split at h
 all_goals first|omega|exact absurd h (by decide +kernel)
theorem YW {k:Int} (h:gB (dN k) 16=true):k=16∨k=17:=by
 unfold dN at h;repeat' split at h
 all_goals first|omega|exact absurd h (by decide +kernel)
theorem vp {k:Int} (h:gB (dN k) 32=true):k=18:=by
 unfold dN at h;repeat' split at h
 all_goals first|omega|exact absurd h (by decide +kernel)
theorem YX {k:Int} (h:gB (dN k) 64=true):StK k:=by
 unfold StK;unfold dN at h;repeat' split at h
 all_goals first|omega|exact absurd h (by decide +kernel)
theorem TX {k:Int} (h:gB (dN k) 128=true):k=29:=by
 unfold dN at h;repeat' split at h
 all_goals first|omega|exact absurd h (by decide +kernel)
theorem BK {r most:Int} :∀(f:Nat) (t:Int) (ks:List Int),∃a,ks=a++(ku [r] most f t ks).2∧(ku [r] most f t ks).1=t+(a.length:Int)∧(∀x∈a,gB x r=true)∧(a=[]∨t+(a.length:Int)≤most):=by
 intro f;induction f with
 | zero=>intro t ks;exact⟨[],rfl,by rw[ku];simp,fun x hx=>by simp at hx,.inl rfl⟩
 | succ f ih =>
  intro t ks;rw[ku];split
  ·rename_i hc
   obtain⟨h1,h2⟩:=hc;cases ks with
   | nil=>cases h2
   | cons k ks =>
    rw[iV,cX] at h2;obtain⟨a,e1,e2,e3,e4⟩:=ih (t+1) ks;refine⟨k::a,?_,?_,fun x hx=>?_,.inr ?_⟩
    ·show k::ks=k::(a++(ku [r] most f (t+1) ks).2)
     rw[←e1]
    ·show(ku [r] most f (t+1) ks).1=_
     rw[e2,List.length_cons];omega
    ·rcases bn.1 hx with rfl|hx
     ·exact h2.1
     ·exact e3 x hx
    ·rw[List.length_cons]
     rcases e4 with e4|e4
     ·subst e4
      simp;omega
     ·omega
  ·exact⟨[],rfl,by simp,fun x hx=>by simp at hx,.inl rfl⟩
theorem BM {r s most:Int} :∀(f:Nat) (t:Int) (ks:List Int),∃ps:List (Int×Int),ks=(ps.flatMap fun p=>[p.1,p.2])++(ku [r,s] most f t ks).2∧(ku [r,s] most f t ks).1=t+(ps.length:Int)∧(∀p∈ps,gB p.1 r=true∧gB p.2 s=true)∧(ps=[]∨t+(ps.length:Int)≤most):=by
 intro f;induction f with
 | zero=>intro t ks;exact⟨[],rfl,by rw[ku];simp,fun x hx=>by simp at hx,.inl rfl⟩
 | succ f ih =>
  intro t ks;rw[ku];split
  ·rename_i hc
   obtain⟨h1,h2⟩:=hc;match ks,h2 with
   | [],h2=>cases h2
   | [k],h2=>rw[iV,iV,cX] at h2;exact absurd h2.2 (by simp)
   | k::l::ks,h2 =>
    rw[iV,iV,cX,cX] at h2;obtain⟨a,e1,e2,e3,e4⟩:=ih (t+1) ks;refine⟨(k,l)::a,?_,?_,fun x hx=>?_,.inr ?_⟩
    ·show k::l::ks=k::l::((a.flatMap fun p=>[p.1,p.2])++(ku [r,s] most f (t+1) ks).2)
     rw[←e1]
    ·show(ku [r,s] most f (t+1) ks).1=_
     rw[e2,List.length_cons];omega
    ·rcases bn.1 hx with rfl|hx
     ·exact⟨h2.1,h2.2.1⟩
     ·exact e3 x hx
    ·rw[List.length_cons]
     rcases e4 with e4|e4
     ·subst e4
      simp;omega
     ·omega
  ·exact⟨[],rfl,by simp,fun x hx=>by simp at hx,.inl rfl⟩
theorem gL {a most r:Int} {l:List Int} (h:fh [(a,most,[r])] l=true):(∀x∈l,gB x r=true)∧a≤(l.length:Int)∧(l=[]∨(l.length:Int)≤most):=by
 rw[fh,fh,cX] at h;obtain⟨h1,h2⟩:=h;obtain⟨b,e1,e2,e3,e4⟩:=BK (r:=r) (most:=most) (l.length+1) 0 l;have h3:=Ef.1 h2;have h1:=iG h1;have e5:(ku [r] most (l.length+1) 0 l).2=[]:=h3;rw[e5,jW] at e1;have h1:a≤(ku [r] most (l.length+1) 0 l).1:=h1;rw[e2] at h1;subst e1;exact⟨e3,by omega,e4.imp id (by omega)⟩
theorem qL {a most r b BN s:Int} {l:List Int} (h:fh [(a,most,[r]),(b,BN,[s])] l=true) :∃l1 l2,l=l1++l2∧(∀x∈l1,gB x r=true)∧a≤(l1.length:Int)∧(l1=[]∨(l1.length:Int)≤most)∧(∀x∈l2,gB x s=true)∧b≤(l2.length:Int)∧(l2=[]∨(l2.length:Int)≤BN):=by
 rw[fh,cX] at h;obtain⟨h1,h2⟩:=h;obtain⟨c,e1,e2,e3,e4⟩:=BK (r:=r) (most:=most) (l.length+1) 0 l;have h1:a≤(ku [r] most (l.length+1) 0 l).1:=iG h1;obtain⟨k1,k2,k3⟩:=gL h2;rw[e2] at h1;exact⟨c,_,e1,e3,by omega,e4.imp id (by omega),k1,k2,k3⟩
theorem Pd {a most r s b BN q:Int} {l:List Int} (h:fh [(a,most,[r,s]),(b,BN,[q])] l=true) :∃(ps:List (Int×Int)) (l2:List Int),l=(ps.flatMap fun p:Int×Int=>[p.1,p.2])++l2∧(∀p∈ps,gB p.1 r=true∧gB p.2 s=true)∧a≤(ps.length:Int)∧(∀x∈l2,gB x q=true)∧b≤(l2.length:Int)∧(l2=[]∨(l2.length:Int)≤BN):=by
 rw[fh,cX] at h;obtain⟨h1,h2⟩:=h;obtain⟨c,e1,e2,e3,e4⟩:=BM (r:=r) (s:=s) (most:=most) (l.length+1) 0 l;have h1:a≤(ku [r,s] most (l.length+1) 0 l).1:=iG h1;obtain⟨k1,k2,k3⟩:=gL h2;rw[e2] at h1;exact⟨c,_,e1,e3,by omega,k1,k2,k3⟩
theorem vq {r s:Int} {l:List Int} (h:fh [(1,1,[r,s])] l=true) :∃a b,l=[a,b]∧gB a r=true∧gB b s=true:=by
 rw[fh,fh,cX] at h;obtain⟨h1,h2⟩:=h;obtain⟨c,e1,e2,e3,e4⟩:=BM (r:=r) (s:=s) (most:=1) (l.length+1) 0 l;have h1:1≤(ku [r,s] 1 (l.length+1) 0 l).1:=iG h1;have h3:(ku [r,s] 1 (l.length+1) 0 l).2=[]:=Ef.1 h2;rw[e2] at h1;rw[h3,jW] at e1;match c,e1,e3,e4,h1 with
 | [p],e1,e3,_,_=>exact⟨p.1,p.2,e1,e3 p (bP.2 rfl)⟩
 | [],_,_,_,h1=>simp at h1
 | _::_::_,_,_,e4,_ =>
  rcases e4 with e4|e4
  ·cases e4
  ·simp at e4;omega
theorem oq {l:List Int} (h:1≤(l.length:Int)) (h':l=[]∨(l.length:Int)≤1):l.length=1:=by
 rcases h' with h'|h'
 ·rw[h'] at h;simp at h
 ·omega
theorem ot {kk:List Int} {p:Int→Prop} (h:(kk.map dN).length=1) (hp :∀x∈kk,p x) :∃a,kk=[a]∧p a:=by
 match kk,h,hp with
 | [a],_,hp=>exact⟨a,rfl,hp a (bP.2 rfl)⟩
 | [],h,_=>cases h
 | _::_::_,h,_=>simp at h
theorem Pe {l:List Int} {n:Int} (h:n≤(l.length:Int)) (h':l.map dN=[]∨(l.length:Int)≤n) (hn:1≤n):(l.length:Int)=n:=by
 rcases h' with h'|h'
 ·rw[pR] at h'
  subst h';simp at h;omega
 ·omega
theorem TY {k n:Int} {kk:List Int} (h:iP k n (kk.map dN)=true):qw k n kk:=by
 have all :∀{r:Int} {p:Int→Prop},(∀{k},gB (dN k) r=true→p k)→∀{l:List Int},(∀x∈l.map dN,gB x r=true)→∀a∈l,p a:=fun hp l hl a ha=>hp (hl _ (jV ha))
 unfold iP at h;refine⟨fun e=>?_,fun e=>?_,fun e=>?_,fun e=>?_,fun e=>?_,fun e=>?_,fun e=>?_,fun e=>?_,fun e=>?_,fun e=>?_,fun e=>?_,fun e=>?_,fun e=>?_,fun e=>?_,fun e=>?_,fun e=>?_⟩
 ·rw[show aX k n=[] by unfold aX;repeat rw[af (by omega)]] at h
  rw[fh] at h;exact pR.1 (Ef.1 h)
 ·rw[show aX k n=[(1,1,[1,1])] by rcases e with rfl|rfl|rfl<;>simp[aX]] at h
  obtain⟨a,b,e1,e2,e3⟩:=vq h;match kk,e1 with
  | [x,y],e1 =>
   injection e1 with e4 e5;injection e5 with e5 _;exact⟨x,y,rfl,nS (by rw[e4];exact e2),nS (by rw[e5];exact e3)⟩
  | [],e1=>cases e1
  | [_],e1=>cases e1
  | _::_::_::_,e1=>cases e1
 ·rw[show aX k n=[(1,big,[1])] by rcases e with rfl|rfl<;>simp[aX]] at h
  obtain⟨h1,h2,_⟩:=gL h;rw[cN] at h2;exact⟨by omega,all nS h1⟩
 ·rw[show aX k n=[(1,1,[32])] by rcases e with rfl|rfl<;>simp[aX]] at h
  obtain⟨h1,h2,h3⟩:=gL h;obtain⟨a,e1,e2⟩:=ot (kk:=kk) (oq h2 h3) (all vp h1);rw[e1,e2]
 ·rw[show aX k n=[(1,1,[1])] by rcases e with rfl|rfl|rfl<;>simp[aX]] at h
  obtain⟨h1,h2,h3⟩:=gL h;exact ot (kk:=kk) (oq h2 h3) (all nS h1)
 ·rw[show aX k n=[(0,big,[16])] by rw[e];simp[aX]] at h
  exact all YW (gL h).1
 ·rw[show aX k n=[(0,big,[64]),(0,1,[128])] by rw[e];simp[aX]] at h
  obtain⟨l1,l2,e1,h1,_,_,h2,h3,h4⟩:=qL h;obtain⟨k1,k2,rfl,rfl,rfl⟩:=wk.1 e1;refine⟨k1,k2,rfl,all YX h1,?_⟩;have h5:=all TX h2;match k2,h4,h5 with
  | [],_,_=>exact .inl rfl
  | [a],_,h5=>exact .inr (by rw[h5 a (bP.2 rfl)])
  | _::_::_,h4,_ =>
   rcases h4 with h4|h4
   ·cases h4
   ·simp at h4;omega
 ·rw[show aX k n=[(0,big,[1])] by rcases e with rfl|rfl<;>simp[aX]] at h
  exact all nS (gL h).1
 ·rw[show aX k n=[(n,n,[2]),(1,big,[1])] by rw[e];simp[aX]] at h
  obtain⟨l1,l2,e1,h1,h1a,TZ,h2,h3,h4⟩:=qL h;obtain⟨k1,k2,rfl,rfl,rfl⟩:=wk.1 e1;rw[cN] at *;exact⟨k1,k2,rfl,all abn h1,Pe h1a TZ,by omega,all nS h2⟩
 ·rw[show aX k n=[(1,1,[4])] by rw[e];simp[aX]] at h
  obtain⟨h1,h2,h3⟩:=gL h;exact ot (kk:=kk) (oq h2 h3) (all abo h1)
 ·rw[show aX k n=[(1,1,[1,32])] by rw[e];simp[aX]] at h
  obtain⟨a,b,e1,e2,e3⟩:=vq h;match kk,e1 with
  | [x,y],e1 =>
   injection e1 with e4 e5;injection e5 with e5 _;exact⟨x,by rw[vp (k:=y) (by rw[e5];exact e3)],nS (by rw[e4];exact e2)⟩
  | [],e1=>cases e1
  | [_],e1=>cases e1
  | _::_::_::_,e1=>cases e1
 ·rw[show aX k n=[(1,1,[32,1])] by rw[e];simp[aX]] at h
  obtain⟨a,b,e1,e2,e3⟩:=vq h;match kk,e1 with
  | [x,y],e1 =>
   injection e1 with e4 e5;injection e5 with e5 _;exact⟨y,by rw[vp (k:=x) (by rw[e4];exact e2)],nS (by rw[e5];exact e3)⟩
  | [],e1=>cases e1
  | [_],e1=>cases e1
  | _::_::_::_,e1=>cases e1
 ·rw[show aX k n=[(1,big,[1,32]),(0,1,[32])] by rw[e];simp[aX]] at h
  obtain⟨ps,l2,e1,h1,h2,h3,_,h4⟩:=Pd h;obtain⟨k1,k2,rfl,e2,rfl⟩:=wk.1 e1;have key :∀(ps:List (Int×Int)) (k1:List Int),k1.map dN=(ps.flatMap fun p=>[p.1,p.2])→(∀p∈ps,gB p.1 1=true∧gB p.2 32=true)→∃qs:List (Int×Int),k1=(qs.flatMap fun p=>[p.1,p.2])∧qs.length=ps.length∧∀p∈qs,tA p.1∧p.2=18:=by
   intro ps;induction ps with
   | nil=>intro k1 e _;exact⟨[],pR.1 e,rfl,fun p hp=>by simp at hp⟩
   | cons p ps ih =>
    intro k1 e hp;match k1,e with
    | [],e=>exact absurd (ax List.length e) (by simp)
    | [_],e=>exact absurd (ax List.length e) (by simp)
    | x::y::k1,e =>
     have e:dN x::dN y::k1.map dN=p.1::p.2::(ps.flatMap fun p=>[p.1,p.2]):=e
     have a1:=(zM e).1;have a2:=(zM (zM e).2).1;have e:=(zM (zM e).2).2;obtain⟨qs,b1,b2,b3⟩:=ih k1 e fun q hq=>hp q (bY _ hq)
     have h0:=hp p (bU ..);refine⟨(x,y)::qs,by rw[b1];rfl,by simp[b2],fun q hq=>?_⟩
     rcases bn.1 hq with rfl|hq
     ·exact⟨nS (by rw[a1];exact h0.1),vp (by rw[a2];exact h0.2)⟩
     ·exact b3 q hq
  obtain⟨qs,b1,b2,b3⟩:=key ps k1 e2 h1;refine⟨qs,k2,by rw[b1],by omega,b3,?_⟩
  have h5:=all vp h3;match k2,h4,h5 with
  | [],_,_=>exact .inl rfl
  | [a],_,h5=>exact .inr (by rw[h5 a (bP.2 rfl)])
  | _::_::_,h4,_ =>
   rcases h4 with h4|h4
   ·cases h4
   ·simp at h4;omega
 ·rw[show aX k n=[(2,3,[1]),(1,1,[32])] by rw[e];simp[aX]] at h
  obtain⟨l1,l2,e1,h1,h1a,TZ,h2,h3,h4⟩:=qL h;obtain⟨k1,k2,rfl,rfl,rfl⟩:=wk.1 e1;obtain⟨a,e2,e3⟩:=ot (kk:=k2) (oq h3 h4) (all vp h2);rw[cN] at *;refine⟨k1,by rw[e2,e3],?_,all nS h1⟩
  rcases TZ with TZ|TZ
  ·rw[pR] at TZ
   subst TZ;simp at h1a
  ·omega
 ·rw[show aX k n=[(n,n,[1]),(1,1,[32])] by rw[e];simp[aX]] at h
  obtain⟨l1,l2,e1,h1,h1a,TZ,h2,h3,h4⟩:=qL h;obtain⟨k1,k2,rfl,rfl,rfl⟩:=wk.1 e1;obtain⟨a,e2,e3⟩:=ot (kk:=k2) (oq h3 h4) (all vp h2);rw[cN] at *;exact⟨k1,by rw[e2,e3],Pe h1a TZ,all nS h1⟩
 ·rw[show aX k n=[(1,1,[8])] by rw[e];simp[aX]] at h
  obtain⟨h1,h2,h3⟩:=gL h;obtain⟨a,e1,e2⟩:=ot (kk:=kk) (oq h2 h3) (all abp h1);rw[e1,e2]
def YY (F:Int):Prop:=F=0∨F=1∨F=2∨F=4∨F=8∨F=10∨F=20
theorem T3 (k:Int):YY (kx k):=by
 unfold YY kx;repeat' split
 all_goals decide
theorem T6 {F:Int} (hF:YY F) {a b c d nb na o:Bool} (h:flB F a b c d nb na o=true):(a=true→F=1)∧(b=true→F=2∨F=10)∧(c=true→F=4∨F=20)∧(d=true→F=8∨F=10)∧(F=20→nb=true)∧na=true∧o=true:=by
 rcases hF with rfl|rfl|rfl|rfl|rfl|rfl|rfl<;>cases a<;>cases b<;>cases c<;>cases d<;>cases nb<;>cases na<;>cases o<;>first|exact absurd h (by decide +kernel)|(clear h;decide)
structure abq (x:Nd):Prop where
 op:x.op≠0→x.kind=12∨x.kind=13
 num:x.num≠0→x.kind=4∨x.kind=11∨x.kind=20∨x.kind=27
 s:x.s≠⟨#[]⟩→x.kind=5∨x.kind=7∨x.kind=10∨x.kind=31∨x.kind=32
 names:x.names≠[]→x.kind=11∨x.kind=19∨x.kind=26∨x.kind=27∨x.kind=28
 name:(x.kind=7∨x.kind=10∨x.kind=31∨x.kind=32)→fG x.s=true
 all :∀y∈x.names,fG y=true
 bin:x.kind=12→1≤x.op∧x.op≤19
 una:x.kind=13→20≤x.op∧x.op≤23
 many:x.kind=11→x.num=0∨x.num=1
 count:(x.kind=20∨x.kind=27)→1≤x.num
 least:(x.kind=19∨x.kind=27)→1≤x.names.length
 just:(x.kind=26∨x.kind=28)→x.names.length=1
theorem Pf {x:Nd} (h:aM x=true):abq x:=by
 have h:flB (kx x.kind) (x.op != 0) (x.num != 0) (!x.s.toList.isEmpty) (decide (0<x.names.length)) (fG x.s) (x.names.all fG) (Xl x.kind x.op && po x.kind x.num && pq x.kind x.names.length)=true:=h;obtain⟨h1,h2,h3,h4,h5,h6,h7⟩:=T6 (T3 _) h;rw[cX,cX] at h7;obtain⟨⟨h7,h8⟩,h9⟩:=h7;have F1:kx x.kind=1→x.kind=12∨x.kind=13:=fun e=>by
  unfold kx at e;repeat' split at e
  all_goals first|assumption|(exfalso;revert e;decide)
 have F2:kx x.kind=2→x.kind=4∨x.kind=20:=fun e=>by
  unfold kx at e;repeat' split at e
  all_goals first|assumption|(exfalso;revert e;decide)
 have F10:kx x.kind=10→x.kind=11∨x.kind=27:=fun e=>by
  unfold kx at e;repeat' split at e
  all_goals first|assumption|(exfalso;revert e;decide)
 have F8:kx x.kind=8→x.kind=19∨x.kind=26∨x.kind=28:=fun e=>by
  unfold kx at e;repeat' split at e
  all_goals first|assumption|(exfalso;revert e;decide)
 have F20:kx x.kind=20→x.kind=7∨x.kind=10∨x.kind=31∨x.kind=32:=fun e=>by
  unfold kx at e;repeat' split at e
  all_goals first|assumption|(exfalso;revert e;decide)
 have F4:kx x.kind=4→x.kind=5:=fun e=>by
  unfold kx at e;repeat' split at e
  all_goals first|assumption|(exfalso;revert e;decide)
 refine⟨fun e=>F1 (h1 (by simpa using e)),fun e=>?_,fun e=>?_,fun e=>?_,fun e=>h5 ?_,fun y hy=>List.all_eq_true.1 h6 y hy,fun e=>?_,fun e=>?_,fun e=>?_,fun e=>?_,fun e=>?_,fun e=>?_⟩
 ·rcases h2 (by simpa using e) with e|e
  ·have:=F2 e;omega
  ·have:=F10 e;omega
 ·have e':(!x.s.toList.isEmpty)=true:=by
   cases hs:x.s.toList with
   | nil =>
    exfalso;apply e;rw[Lib.toList_data] at hs;cases hx:x.s with
    | mk a =>
     rw[hx] at hs;have:a=#[]:=Array.toList_eq_nil_iff.1 hs;rw[this]
   | cons a l=>rfl
  rcases h3 e' with e|e
  ·have:=F4 e;omega
  ·have:=F20 e;omega
 ·rcases h4 (bM (wu.2 e)) with e|e
  ·have:=F8 e;omega
  ·have:=F10 e;omega
 ·unfold kx
  rw[af (by omega),af (by omega),af (by omega),af (by omega),ak e]
 ·unfold Xl at h7
  rw[ak e,cX] at h7;exact⟨iG h7.1,iG h7.2⟩
 ·unfold Xl at h7
  rw[af (by omega),ak e,cX] at h7
  exact⟨iG h7.1,iG h7.2⟩
 ·unfold po at h8
  rw[ak e,Bool.or_eq_true] at h8;rcases h8 with h8|h8
  ·exact .inl (by simpa using h8)
  ·exact .inr (by simpa using h8)
 ·unfold po at h8
  rw[af (by omega),ak e] at h8
  exact iG h8
 ·unfold pq at h9
  rw[ak e] at h9;exact iG h9
 ·unfold pq at h9
  rw[af (by omega),ak e] at h9
  exact iG h9
theorem BO {T:List Nd} :∀{ks:List Lt},Lt.uP T ks→(ks.map fun k=>(k.loc:Int)).map (fun k=>dN (dz T k.toNat))=(oG ks).map dN
 | [],_=>rfl
 | .mk i h l::ks,hi=>by
  unfold Lt.uP at hi;have h1:=hi.1;unfold Lt.In at h1;unfold oG;rw[fX,fX,fX,fX];have h2:=BO hi.2;unfold oG at h2;rw[h2];congr 1
  show dN (dz T (((i:Nat):Int)).toNat)=dN h.kind
  rw[iF,nU h1.1]
mutual
theorem xK {T:List Nd} (hT :∀x∈T,iP x.kind x.num (x.kids.map fun k=>dN (dz T k.toNat))=true) :∀(t:Lt),Lt.In T t→t.uX
 | .mk i h ks,hi=>by
  unfold Lt.In at hi;obtain⟨hx,hk,hs⟩:=hi;unfold Lt.uX;have h1:=hT h (ba hx);rw[hk,BO hs] at h1;exact⟨TY h1,vr hT ks hs⟩
theorem vr {T:List Nd} (hT :∀x∈T,iP x.kind x.num (x.kids.map fun k=>dN (dz T k.toNat))=true) :∀(ks:List Lt),Lt.uP T ks→Lt.iB ks
 | [],_=>by unfold Lt.iB;trivial
 | k::ks,hi=>by
  unfold Lt.uP at hi;unfold Lt.iB;exact⟨xK hT k hi.1,vr hT ks hi.2⟩
end
theorem YZ {T:List Nd} (hT :∀x∈T,iP x.kind x.num (x.kids.map fun k=>dN (dz T k.toNat))=true) {t:Lt} (hi:Lt.In T t) (hn:t.gR.Nodup) (hk:1≤t.hd.kind∧t.hd.kind≤32):kj T t:=⟨hi,xK hT t hi,Vz hT t hi,hn,hk⟩
theorem tE {f:Nat} {st st':aG} (h:st'.frames=st.frames):cB f st'.frames=cB f st.frames:=by rw[h]
theorem qM {x:List jr} {L:List cE} (h:L≠[]):grow x L≠[]:=by
 cases L with
 | nil=>exact absurd rfl h
 | cons l r=>intro e;cases e
theorem qN {T:List Nd} {B b:Nat} {nv:Value} {ub ob:Nat} (f:Nat) (loop:Int) (pa la:Option Addr) (lc:Nat) (ms:List Nat) (L:List cE) (st:aG) (w:World) (kv:Value) (ks:List Lt) (hr:eS T B b nv ub ob f pa (.slice la L.length lc) ms L st w (Lt.eY ks) (Lt.al ks)) (hn:fA T ks) (hV :∀k∈ks,bA T B b nv ub ob k) (hu:qJ B ob (.slice la L.length lc) L.length (ei L) w kv (ks.map fun k=>(k.loc:Int)))
  (hl :∀k∈ks,18≤k.hd.kind→loop=cB f st.frames) (ht :∀k∈ks,L≠[]∨k.hd.kind=18) (wQ:ks.length≤20000) :
  Calls Tryz.prog 111 #[.pointer (some ⟨b,0,none⟩),kv,.agg #[.int .i64 (f:Int),.int .i64 loop,.pointer pa,.slice la L.length lc]] w (aq B b nv T.length ub ob (.slice la L.length lc) L st (aH ks f st) w):=by
 have HNK:=aa hu;obtain⟨UA,uc,rfl,J1,_⟩:=hu;have HR:=aa hr;have HN:=aa hn;have HV:=aa hV;have HL:=aa hl;have kD:=aa ht;simp only[cN] at J1 ⊢;obtain⟨R,hR⟩ :∃R,R=aH ks f st:=⟨_,rfl⟩;have HRS:=aa hR;rw[←hR];have bX:B≤w.heap.size:=by obtain⟨_,_,_,_,_,h,_⟩:=hr.ft.nodes;exact h
 clear hr hn hV hl ht hR;go_enter Tryz.func111,Tryz.ntmps111
 go_wp2_with fail
 have gr:=heap_alloc_new w (.cells #[.int .i64 (f:Int),.int .i64 loop,.pointer pa,.slice la L.length lc] 92);have S5:cJ B ob (.slice la L.length lc) L.length (ei L) w (w.alloc (.cells #[.int .i64 (f:Int),.int .i64 loop,.pointer pa,.slice la L.length lc] 92)):=cJ.bH ((Below.refl _ _).alloc (ah _) _) bX;have hs1:(w.alloc (.cells #[.int .i64 (f:Int),.int .i64 loop,.pointer pa,.slice la L.length lc] 92)).heap.size=w.heap.size+1:=ao _ _;generalize hW1:w.alloc (.cells #[.int .i64 (f:Int),.int .i64 loop,.pointer pa,.slice la L.length lc] 92)=W1 at gr S5 hs1 ⊢;have HF0:=aa S5;have qe:=aa gr;have je:=aa hW1;clear gr S5 hs1 hW1;go_loopw [12] (fun tk wr=>∃(n:Nat) (s1:aG) (x:List jr),tk=.int .i64 (n:Int)∧n≤ks.length∧cJ B ob (.slice la L.length lc) L.length (ei L) W1 wr∧eS T B b nv ub ob f pa (.slice la L.length lc) ms (grow x L) s1 wr (Lt.eY (ks.drop n)) (Lt.al (ks.drop n))∧s1.names=x++st.names∧(L=[]→x=[])∧s1.frames=st.frames∧aH (ks.drop n) f s1=R) (fun tk _=>ks.length-(intOf tk).toNat)
 case atStart =>
  refine⟨0,st,[],rfl,aR _,cJ.refl _ _ _ _ _ _,?_,rfl,fun _=>rfl,rfl,by rw[tL];exact HRS.out.symm⟩
  rw[tL,jN];have h:=HR.out;refine⟨h.ft.below HF0.out.below,?_,?_,h.hd,h.cx,h.few,h.fr,h.names,h.fns,h.fk⟩
  ·obtain⟨fv,FL,hw⟩:=h.rs
   exact⟨fv,FL,by rw[←je.out];exact hw.alloc _⟩
  ·have h2:cJ B ob (.slice la L.length lc) L.length none w W1:=by rw[←je.out];exact cJ.bH ((Below.refl _ _).alloc (ah _) _) bX
   exact⟨h.pos.fk.jo h2 (ah _),h.pos.blk.jo h2 (by simp),h.pos.names,h.pos.apart⟩
 case round =>
  obtain⟨n,s1,x,rfl,Cz,hf,hr1,hx1,hx2,oD,QA⟩:=hrel;have Pg:=hf.cells _ _ _ _ qe.out (by decide)
  have p0:=ab Pg 0;have p1:=ab Pg 1;have p2:=ab Pg 2;have p3:=ab Pg 3;replace p0:_=some (Value.int .i64 (f:Int)):=p0;replace p1:_=some (Value.int .i64 loop):=p1;replace p2:_=some (Value.pointer pa):=p2;replace p3:_=some (Value.slice la L.length lc):=p3;have HF:=aa hf;have nC:=aa hr1;have Ph:=aa hx1;have HX2:=aa hx2;have HFR:=aa oD;have T7:=aa QA;clear hf hr1 hx1 hx2 oD QA Pg;by_cases hlt:n<ks.length
  ·obtain⟨k,hk⟩ :∃k,ks[n]? = some k:=⟨ks[n],bE hlt⟩
   have xZ:=ba hk;have hdr:=drop_at hk;have adq:=aa (HNK.out.later (HF0.out.trans HF.out));obtain⟨A',c',he,_,iY⟩:=adq.out;injection he with uw _ he2;subst uw he2;rcases iY with h0 | ⟨sb,so,rfl,hsc⟩
   ·rw[pR] at h0
    rw[h0] at hlt;exact absurd hlt (by simp)
   have cs:wr.cell? ⟨sb,so+n,none⟩=some (.int .i64 (k.loc:Int)):=hsc wr (cJ.refl _ _ _ _ _ _) n _ (by rw[gw,hk];rfl)
   have hrk:=nC.out;rw[(qK hk).1,(qK hk).2] at hrk;have abr:=HN.out.at_ k xZ;have bq:=HV.out k xZ f loop pa la lc ms (grow x L) s1 wr (by rw[ch];exact hrk.mono (gy _ _) (gy _ _)) (fun h=>(HL.out k xZ h).trans (tE HFR.out).symm) ((kD.out k xZ).imp qM id)
   rw[ch] at bq;have sB:=aa bq;have HRK:=aa hrk;have HK:=aa abr;have uk:=aa hdr;have lo:=aa hlt;clear bq hrk abr hdr hk xZ hsc;go_wp2_with fail
   refine sB.out.mono ?_;intro e w2 hp;cases dG:bg k f s1 with
   | error y =>
    rw[dG] at hp;obtain⟨hb,v,rfl,g2,rfl,h2⟩:=hp;have H2:=aa h2;have HB:=aa hb;have HND:=aa dG;clear h2 hb dG;go_wp2_with fail
    go_ret
    have hE:R=.error y:=by rw[←T7.out,uk.out,eP,HND.out];rfl
    rw[hE];exact⟨(HF0.out.below.trans HF.out.below).trans HB.out,_,rfl,_,rfl,H2.out⟩
   | ok s2 =>
    rw[dG] at hp;obtain⟨rfl,y,hy1,hy2,hr2,hf2,ru⟩:=eS.next HRK.out HK.out dG hp;rw[grow_grow] at hr2;rw[ch,om] at hf2;have vS:=aa hr2;have lV:=aa hf2;have HY1:=aa hy1;have HY2:=aa hy2;have adr:=aa ru;have HND:=aa dG;clear hp hr2 hf2 hy1 hy2 ru dG;go_wp2_with fail
    refine⟨⟨n+1,s2,y++x,by go_num,lo.out,HF.out.trans lV.out,vS.out,by rw[HY1.out,Ph.out,fe],fun e=>?_,adr.out.trans HFR.out,?_⟩,by have:=lo.out;simp[intOf];omega⟩
    ·rw[HX2.out e,HY2.out (by rw[e];rfl)];rfl
    ·rw[←T7.out,uk.out,eP,HND.out];rfl
  ·have zr:n=ks.length:=by omega
   go_wp2_with fail
   go_ret
   have hE:R=.ok s1:=by rw[←T7.out,zr,wy,eZ]
   rw[hE];exact⟨(HF0.out.below.trans HF.out.below),rfl,nC.out.rs,HF0.out.trans HF.out,x,Ph.out,HX2.out,nC.out.pos.fk⟩
theorem all_nil (b f:Nat) (loop:Int) (pa la A:Option Addr) (ln lc c:Nat) (w:World) :
  Calls Tryz.prog 111 #[.pointer (some ⟨b,0,none⟩),.slice A 0 c,.agg #[.int .i64 (f:Int),.int .i64 loop,.pointer pa,.slice la ln lc]] w fun e w'=>e=.returned .nilIface∧Below w.heap.size w w':=by
 go_enter Tryz.func111,Tryz.ntmps111
 go_wp2_with fail
 go_loopw [12] (fun tk wr=>tk=.int .i64 0∧Below w.heap.size w wr) (fun _ _=>0)
 case atStart=>exact⟨rfl,(Below.refl _ _).alloc (ah _) _⟩
 case round =>
  obtain⟨rfl,hb⟩:=hrel;go_wp2_with fail
  go_ret
  exact⟨rfl,hb⟩
theorem eS.dc {T:List Nd} {B b:Nat} {nv:Value} {ub ob f:Nat} {pa:Option Addr} {lv:Value} {ms:List Nat} {L:List cE} {st:aG} {w w':World} {a s:Nat} (h:eS T B b nv ub ob f pa lv ms L st w a s) (hb:Below w.heap.size w w'):eS T B b nv ub ob f pa lv ms L st w' a s:=by
 have bX:B≤w.heap.size:=by obtain⟨_,_,_,_,_,h,_⟩:=h.ft.nodes;exact h
 have h2:cJ B ob lv L.length none w w':=cJ.bH hb bX;refine⟨h.ft.below h2.below,?_,⟨h.pos.fk.jo h2 (ah _),h.pos.blk.jo h2 (by simp),h.pos.names,h.pos.apart⟩,h.hd,h.cx,h.few,h.fr,h.names,h.fns,h.fk⟩
 obtain⟨fv,FL,hw⟩:=h.rs;exact⟨fv,FL,hw.later hb⟩
theorem aq.from {B b:Nat} {nv:Value} {N ub ob:Nat} {lv:Value} {L:List cE} {st:aG} {r:Rs aG} {w w1 w2:World} {e:Ending} (hb:Below w.heap.size w w1) (hB:B≤w.heap.size) (h:aq B b nv N ub ob lv L st r w1 e w2):aq B b nv N ub ob lv L st r w e w2:=by
 refine⟨(hb.mono hB).trans h.1,?_⟩;have h2:=h.2;cases r with
 | error y=>exact h2
 | ok s =>
  obtain⟨k1,k2,k3,k4⟩:=h2;exact⟨k1,k2,(cJ.bH hb hB).trans k3,k4⟩
theorem aq.ret {B b:Nat} {nv:Value} {N ub ob:Nat} {lv:Value} {L:List cE} {st:aG} {r:Rs aG} {w w2:World} {e:Ending} (h:aq B b nv N ub ob lv L st r w e w2) :∃v,e=.returned v:=by
 have h2:=h.2;cases r with
 | error y=>obtain⟨v,h3,_⟩:=h2;exact⟨v,h3⟩
 | ok s=>exact⟨_,h2.1⟩
structure eT (w W:World) (p q:Nat) (f:Nat) (loop:Int) (pa:Option Addr) (lv kv nv:Value) (d0 d1 d2:Value):Prop where
 pos:W.heap[w.heap.size]? = some (.cells #[.int .i64 (f:Int),.int .i64 loop,.pointer pa,lv] 92 (0,0))
 kids :∃a b c d e,W.heap[p]? = some (.cells #[a,b,c,d,e,nv,kv] 55 (0,0))
 dec:W.heap[q]? = some (.cells #[d0,d1,d2] 189 (0,0))
 pne:p=w.heap.size+1
 qne:w.heap.size+1<q
theorem lp {w W0 w1:World} {f:Nat} {loop:Int} {pa:Option Addr} {lv a b c d e nv kv:Value} (hW:W0=(w.alloc (.cells #[.int .i64 (f:Int),.int .i64 loop,.pointer pa,lv] 92)).alloc (.cells #[a,b,c,d,e,nv,kv] 55)) (h1:Below W0.heap.size W0 w1) (d0 d1 d2:Value):Below w.heap.size w (w1.alloc (.cells #[d0,d1,d2] 189))∧eT w (w1.alloc (.cells #[d0,d1,d2] 189)) (w.heap.size+1) w1.heap.size f loop pa lv kv nv d0 d1 d2:=by
 have hs:W0.heap.size=w.heap.size+1+1:=by rw[hW,ao,ao]
 have hb0:Below w.heap.size w W0:=by rw[hW];exact Below.two _ _
 have h0:W0.heap[w.heap.size]? = some (.cells #[.int .i64 (f:Int),.int .i64 loop,.pointer pa,lv] 92 (0,0)):=by
  rw[hW];exact(Below.heap_alloc _ _ _ (by rw[ao];omega)).trans (heap_alloc_new w _)
 have h2:W0.heap[w.heap.size+1]? = some (.cells #[a,b,c,d,e,nv,kv] 55 (0,0)):=by
  rw[hW];have:=heap_alloc_new (w.alloc (.cells #[.int .i64 (f:Int),.int .i64 loop,.pointer pa,lv] 92)) (.cells #[a,b,c,d,e,nv,kv] 55);rwa[ao] at this
 have hl:=h1.size;have hb:=hb0.trans (h1.mono (by omega))
 have k :∀j,j<W0.heap.size→(w1.alloc (.cells #[d0,d1,d2] 189)).heap[j]? = W0.heap[j]?:=fun j hj=>(Below.heap_alloc _ _ _ (by omega)).trans (h1.block j hj)
 exact⟨hb.alloc (by omega) _,(k _ (by omega)).trans h0,⟨_,_,_,_,_,(k _ (by omega)).trans h2⟩,heap_alloc_new _ _,rfl,by omega⟩
theorem eT.cells {w W:World} {p q f:Nat} {loop:Int} {pa:Option Addr} {lv kv nv d0 d1 d2:Value} (h:eT w W p q f loop pa lv kv nv d0 d1 d2):W.cell? ⟨w.heap.size,0,none⟩=some (.int .i64 (f:Int))∧W.cell? ⟨w.heap.size,1,none⟩=some (.int .i64 loop)∧W.cell? ⟨w.heap.size,2,none⟩=some (.pointer pa)∧W.cell? ⟨w.heap.size,3,none⟩=some lv∧W.cell? ⟨p,5,none⟩=some nv∧W.cell? ⟨p,6,none⟩=some kv∧W.cell? ⟨q,0,none⟩=some d0∧W.cell? ⟨q,1,none⟩=some d1∧W.cell? ⟨q,2,none⟩=some d2:=by
 obtain⟨a,b,c,d,e,hk⟩:=h.kids;exact⟨ab h.pos 0,ab h.pos 1,ab h.pos 2,ab h.pos 3,ab hk 5,ab hk 6,ab h.dec 0,ab h.dec 1,ab h.dec 2⟩
theorem eT.on {w W W':World} {p q f:Nat} {loop:Int} {pa:Option Addr} {lv kv nv d0 d1 d2:Value} (h:eT w W p q f loop pa lv kv nv d0 d1 d2) (hk :∀(k:Nat) c (e:TypeId) fz,W.heap[k]? = some (.cells c e fz)→e∉[52,61,59,57,87,3,238]→W'.heap[k]? = some (.cells c e fz)):eT w W' p q f loop pa lv kv nv d0 d1 d2:=by
 obtain⟨a,b,c,d,e,hk5⟩:=h.kids;exact⟨hk _ _ _ _ h.pos (by decide),⟨a,b,c,d,e,hk _ _ _ _ hk5 (by decide)⟩,hk _ _ _ _ h.dec (by decide),h.pne,h.qne⟩
theorem eT.later {w W W':World} {p q f:Nat} {loop:Int} {pa:Option Addr} {lv kv nv d0 d1 d2:Value} (h:eT w W p q f loop pa lv kv nv d0 d1 d2) (hb:Below W.heap.size W W'):eT w W' p q f loop pa lv kv nv d0 d1 d2 :=
 h.on fun k _ _ _ hk _=>(hb.block k (aI.1 hk).1).trans hk
theorem eT.jo {w W W':World} {p q f:Nat} {loop:Int} {pa:Option Addr} {lv kv nv d0 d1 d2:Value} {B ob n:Nat} {v:Value} {top:Option Nat} (h:eT w W p q f loop pa lv kv nv d0 d1 d2) (hf:cJ B ob v n top W W'):eT w W' p q f loop pa lv kv nv d0 d1 d2:=h.on hf.cells
theorem eS.step {T:List Nd} {B b:Nat} {nv:Value} {ub ob f:Nat} {pa:Option Addr} {lv:Value} {ms:List Nat} {L:List cE} {st st':aG} {w w':World} {a s a1 s1:Nat} {e:Ending} (h:eS T B b nv ub ob f pa lv ms L st w (a1+a) (s1+s)) (wP:Mk a1 s1 st st') (vJ:Cx f st') (hf:st'.frames=st.frames) (hp:aq B b nv T.length ub ob lv L st (.ok st') w e w') :
  e=.returned .nilIface∧∃x,st'.names=x++st.names∧(L=[]→x=[])∧eS T B b nv ub ob f pa lv ms (grow x L) st' w' a s∧cJ B ob lv L.length (ei L) w w':=by
 obtain⟨hb,rfl,QA,oD,x,hx1,hx2,hx3⟩:=hp;refine⟨rfl,x,hx1,hx2,⟨h.ft.below hb,QA,h.pos.on oD hx3 hx1 hx2 hf,h.hd.grow x,vJ,wP.few,fun y hy=>?_,?_,?_,?_⟩,oD⟩
 ·rw[hf] at hy
  exact cy (h.fr y hy) wP.least
 ·have:=wP.names;have:=h.names;omega
 ·have:=wP.fns;have:=h.fns;omega
 ·rw[ch];have:=h.fk;omega
theorem DU {T:List Nd} {B b:Nat} {nv:Value} {ub ob:Nat} (f:Nat) (loop:Int) (pa la:Option Addr) (lc:Nat) (ms:List Nat) (L:List cE) (x:List jr) (st:aG) (w:World) (kv:Value) (ks:List Lt) (hr:eS T B b nv ub ob f pa (.slice la L.length lc) ms (grow x L) st w (Lt.eY ks) (Lt.al ks)) (hn:fA T ks) (hV :∀k∈ks,bA T B b nv ub ob k) (hu:gF w B kv (ks.map fun k=>(k.loc:Int)))
  (hl :∀k∈ks,18≤k.hd.kind→loop=cB f st.frames) (ht :∀k∈ks,L≠[]∨k.hd.kind=18) (wQ:ks.length≤20000) :
  Calls Tryz.prog 111 #[.pointer (some ⟨b,0,none⟩),kv,.agg #[.int .i64 (f:Int),.int .i64 loop,.pointer pa,.slice la L.length lc]] w (aq B b nv T.length ub ob (.slice la L.length lc) (grow x L) st (aH ks f st) w):=by
 have:=qN f loop pa la lc ms (grow x L) st w kv ks (by rw[ch];exact hr) hn hV hu.keeps hl (fun k hk=>(ht k hk).imp qM id) wQ
 rw[ch] at this;exact this
theorem eS.world {T:List Nd} {B b:Nat} {nv:Value} {ub ob f:Nat} {pa:Option Addr} {lv:Value} {ms:List Nat} {L:List cE} {st:aG} {w:World} {a s:Nat} (h:eS T B b nv ub ob f pa lv ms L st w a s):B≤w.heap.size:=by obtain⟨_,_,_,_,_,h,_⟩:=h.ft.nodes;exact h
theorem oZ.iC {W:World} {B f:Nat} {p lv:Value} {ms:List Nat} {l:cE} {r:List cE} {st:aG} (h:oZ W B f p lv ms (l::r) st):l.iC.length≤st.names.length:=by
 rw[h.names];show _≤(l.iC++mw r).length
 rw[bV];omega
theorem FU {T:List Nd} {B b:Nat} {nv:Value} {ub ob:Nat} (i f:Nat) (h:Nd) (ks:List Lt) (loop:Int) (pa la:Option Addr) (lc:Nat) (ms:List Nat) (L:List cE) (st:aG) (w:World) (hr:eS T B b nv ub ob f pa (.slice la L.length lc) ms L st w (Lt.eY ks) (Lt.al ks)) (hx:T[i]? = some h) (hk:h.kids=ks.map fun k=>(k.loc:Int)) (hn:fA T ks) (hV :∀k∈ks,bA T B b nv ub ob k)
  (hl :∀k∈ks,18≤k.hd.kind→loop=cB f st.frames) (ht :∀k∈ks,L≠[]∨k.hd.kind=18) (hd:gH h.kind h.kids.length=(false,0,false)) :
  Calls Tryz.prog 55 #[.pointer (some ⟨b,0,none⟩),.int .i64 (i:Int),.agg #[.int .i64 (f:Int),.int .i64 loop,.pointer pa,.slice la L.length lc]] w (aq B b nv T.length ub ob (.slice la L.length lc) L st (aH ks f st) w):=by
 obtain⟨bk,o,c,rfl,eG,bX,dG⟩:=hr.ft.nodes;obtain⟨zx,zy,fE,⟨NA,nc,vL,_⟩,fu⟩:=dG i h hx;have rU:h.kids.length≤20000:=(hr.ft.small h (ba hx)).1;have wQ:ks.length≤20000:=by rw[hk,cN] at rU;exact rU
 obtain⟨KA,kc,qX,Cm,_⟩:=id fu;subst vL qX;obtain⟨x0,x1,x2,x3,x4,x5,x6⟩:=fE;have v7:i<T.length:=(aL.1 hx).1;have pN:=hr.ft.few;have hbl:b<w.heap.size:=by obtain⟨_,_,hw⟩:=hr.rs;exact hw.mL.1
 have d0:w.cell? ⟨b,0,none⟩=some (.slice (some ⟨bk,o,none⟩) T.length c):=by obtain⟨_,_,hw⟩:=hr.rs;exact ab hw.blk 0
 have gT:bk<w.heap.size:=by omega
 have HD:=aa (gI h.kind h.line h.op h.num h.s NA KA h.names.length nc h.kids.length kc);have HR:=aa hr;have HN:=aa hn;have HV:=aa hV;have HL:=aa hl;have kD:=aa ht;have Jq:=aa fu;have T9:=aa hd;have HK:=aa hk;have y8:Hid (∀W,Below w.heap.size w W→Calls Tryz.prog 111 #[.pointer (some ⟨b,0,none⟩),.slice KA h.kids.length kc,.agg #[.int .i64 (f:Int),.int .i64 loop,.pointer pa,.slice la L.length lc]] W (aq B b (.slice (some ⟨bk,o,none⟩) T.length c) T.length ub ob (.slice la L.length lc) L st (aH ks f st) w)):=aa fun W hW =>
  (qN f loop pa la lc ms L st W (.slice KA h.kids.length kc) ks (hr.dc hW) hn hV (by rw[←hk];exact(fu.below (hW.mono bX)).keeps) hl ht wQ).mono fun e w' h=>h.from hW bX
 clear hr hn hV hl ht fu hd dG hk;go_enter Tryz.func55,Tryz.ntmps55
 go_wp2_with fail
 refine(HD.out _ (by omega)).mono ?_
 rw[T9.out];rintro e w1 ⟨rfl,hb1⟩;have dM:=aa hb1;clear hb1;go_wp2_with fail
 have za:=lp rfl dM.out (.bool false) (.int .i64 0) (.bool false);have qO:=aa za.2;have o7:=aa za.1;clear za;clear d0 x0 x1 x2 x3 x4 x5 x6;generalize w1.alloc (.cells #[.bool false,.int .i64 0,.bool false] 189)=W2 at qO o7 ⊢;generalize w1.heap.size=q at qO ⊢;generalize w.heap.size+1=p at qO ⊢;obtain⟨k0,k1,k2,k3,k4,k5,k6,k7,k8⟩:=qO.out.cells;have hKc:h.kids.length≤kc:=Cm;go_still_tail 7,(by kernel_rfl)
 change wpList _ _ _ _ _ W2.drew;have D2:=aa (show Below W2.heap.size W2 W2.drew from(Below.refl _ _).drew)
 generalize W2.drew=W3 at D2 ⊢;go_wp2_with fail
 refine(all_nil b f loop pa la KA L.length lc kc W3).mono ?_;rintro e w4 ⟨rfl,hb4⟩;have B4:=aa (D2.out.trans (hb4.mono D2.out.size));have P4:=aa (qO.out.later B4.out);clear hb4 k0 k1 k2 k3 k4 k5 k6 k7 k8;obtain⟨k0,k1,k2,k3,k4,k5,k6,k7,k8⟩:=P4.out.cells;go_wp2_with fail
 go_still_tail 7,(by kernel_rfl)
 change wpList _ _ _ _ _ w4.drew;have HC:=aa (y8.out w4.drew (o7.out.trans (B4.out.mono o7.out.size)).drew);generalize w4.drew=W5 at HC ⊢;go_wp2_with fail
 refine HC.out.mono ?_;intro e w6 hp;obtain⟨v,rfl⟩:=hp.ret;have HP:=aa hp;clear hp;go_wp2_with fail
 go_ret
 exact HP.out
theorem aq.abt {B b:Nat} {nv:Value} {N ub ob:Nat} {lv:Value} {L:List cE} {st:aG} {r:Rs aG} {w w1 w2:World} (h:aq B b nv N ub ob lv L st r w (.returned .nilIface) w1) (hb:Below w1.heap.size w1 w2):aq B b nv N ub ob lv L st r w (.returned .nilIface) w2:=by
 have h2:=h.2;cases r with
 | error y =>
  obtain⟨v,hv,g,rfl,_⟩:=h2;injection hv with hv;cases hv
 | ok s =>
  obtain⟨k1,⟨fv,FL,k2⟩,k3,x,k4,k5,k6⟩:=h2;have hB:B≤w1.heap.size:=by have:=k2.mL.1;have:=k2.pos;omega
  have hf:cJ B ob lv L.length none w1 w2:=cJ.bH hb hB;exact⟨h.1.trans hf.below,k1,⟨fv,FL,k2.later hb⟩,k3.trans (hf.FB _),x,k4,k5,k6.jo hf (by rw[ch];exact ah _)⟩
theorem Pj {T:List Nd} {B b:Nat} {nv:Value} {ub ob:Nat} (i f:Nat) (h:Nd) (ks:List Lt) (loop:Int) (pa la:Option Addr) (lc:Nat) (ms:List Nat) (l:cE) (r:List cE) (st:aG) (w:World) (hr:eS T B b nv ub ob f pa (.slice la (l::r).length lc) ms (l::r) st w (h.names.length+Lt.eY ks) (Lt.al ks)) (hx:T[i]? = some h) (hk:h.kids=ks.map fun k=>(k.loc:Int)) (hn:fA T ks) (hV :∀k∈ks,bA T B b nv ub ob k)
  (hl :∀k∈ks,18≤k.hd.kind→loop=cB f st.frames) (hsz :∀s∈h.names,s.size≤65536) (hd:gH h.kind h.kids.length=(true,(h.kids.length:Int),false)) :
  Calls Tryz.prog 55 #[.pointer (some ⟨b,0,none⟩),.int .i64 (i:Int),.agg #[.int .i64 (f:Int),.int .i64 loop,.pointer pa,.slice la (l::r).length lc]] w (aq B b nv T.length ub ob (.slice la (l::r).length lc) (l::r) st ((aH ks f st).bind fun s1=>bw i f h.line h.names s1) w):=by
 obtain⟨bk,o,c,rfl,eG,bX,dG⟩:=hr.ft.nodes;obtain⟨zx,zy,fE,⟨NA,nc,vL,_⟩,fu⟩:=dG i h hx;have rU:h.kids.length≤20000:=(hr.ft.small h (ba hx)).1;have wQ:ks.length≤20000:=by rw[hk,cN] at rU;exact rU
 obtain⟨KA,kc,qX,Cm,_⟩:=id fu;subst vL qX;obtain⟨x0,x1,x2,x3,x4,x5,x6⟩:=fE;have v7:i<T.length:=(aL.1 hx).1;have pN:=hr.ft.few;have hbl:b<w.heap.size:=by obtain⟨_,_,hw⟩:=hr.rs;exact hw.mL.1
 have d0:w.cell? ⟨b,0,none⟩=some (.slice (some ⟨bk,o,none⟩) T.length c):=by obtain⟨_,_,hw⟩:=hr.rs;exact ab hw.blk 0
 have gT:bk<w.heap.size:=by omega
 have HD:=aa (gI h.kind h.line h.op h.num h.s NA KA h.names.length nc h.kids.length kc);have y8:Hid (∀W,Below w.heap.size w W→Calls Tryz.prog 111 #[.pointer (some ⟨b,0,none⟩),.slice KA h.kids.length kc,.agg #[.int .i64 (f:Int),.int .i64 loop,.pointer pa,.slice la (l::r).length lc]] W (aq B b (.slice (some ⟨bk,o,none⟩) T.length c) T.length ub ob (.slice la (l::r).length lc) (l::r) st (aH ks f st) W)):=aa fun W hW =>
  qN f loop pa la lc ms (l::r) st W (.slice KA h.kids.length kc) ks ((hr.dc hW).mono (wB _ _) (ah _)) hn hV (by rw[←hk];exact(fu.below (hW.mono bX)).keeps) hl (fun k _=>.inl (by simp)) wQ
 have HR:=aa hr;have HN:=aa hn;have HV:=aa hV;have HL:=aa hl;have Jq:=aa fu;have T9:=aa hd;have HK:=aa hk;clear hr hn hV hl fu hd dG hk;generalize Lq:(l::r).length=ln at *;have G9:=aa Lq;clear Lq;go_enter Tryz.func55,Tryz.ntmps55
 go_wp2_with fail
 refine(HD.out _ (by omega)).mono ?_
 rw[T9.out];rintro e w1 ⟨rfl,hb1⟩;have dM:=aa hb1;clear hb1;go_wp2_with fail
 have za:=lp rfl dM.out (.bool true) (.int .i64 (h.kids.length:Int)) (.bool false);have qO:=aa za.2;have o7:=aa za.1;clear za;clear d0 x0 x1 x2 x3 x4 x5 x6;generalize w1.alloc (.cells #[.bool true,.int .i64 (h.kids.length:Int),.bool false] 189)=W2 at qO o7 ⊢;generalize w1.heap.size=q at qO ⊢;generalize w.heap.size+1=p at qO ⊢;obtain⟨k0,k1,k2,k3,k4,k5,k6,k7,k8⟩:=qO.out.cells;have hKc:h.kids.length≤kc:=Cm;go_still_tail 7,(by kernel_rfl)
 change wpList _ _ _ _ _ W2.drew;have D2:=aa (show Below W2.heap.size W2 W2.drew from(Below.refl _ _).drew)
 generalize W2.drew=W3 at D2 ⊢;go_wp2_with fail
 have lG:=aa (o7.out.trans (D2.out.mono o7.out.size));refine(y8.out W3 lG.out).mono ?_;intro e w4 hp;cases oW:aH ks f st with
 | error y =>
  rw[oW] at hp;obtain⟨hb,v,rfl,g2,rfl,h2⟩:=hp;have H2:=aa h2;have HB:=aa hb;have HE:Hid (((aH ks f st).bind fun s1=>bw i f h.line h.names s1)=.error y):=aa (by rw[oW];rfl)
  clear h2 hb oW;go_wp2_with fail
  go_ret
  rw[HE.out];exact⟨(lG.out.mono bX).trans HB.out,_,rfl,_,rfl,H2.out⟩
 | ok s1 =>
  rw[oW] at hp;have hr4:=HR.out.dc lG.out;have hst:=(gj ks oW HN.out.nodup hr4.cx HN.out.wf).1;obtain⟨rfl,x,hx1,hx2,v8,DV⟩:=eS.step (a1:=Lt.eY ks) (s1:=Lt.al ks) (a:=h.names.length) (s:=0) (by rw[Nat.add_comm];exact hr4) (iM ks oW hr4.few) (hst.cx hr4.cx) (lj ks oW) hp
  have P5:=aa ((qO.out.later D2.out).jo DV);have VC:=aa ((lG.out.mono bX).trans DV.below);have hdec:Calls Tryz.prog 113 #[.pointer (some ⟨b,0,none⟩),.int .i64 (i:Int),.agg #[.int .i64 (f:Int),.int .i64 loop,.pointer pa,.slice la (l::r).length lc]] w4 (aq B b (.slice (some ⟨bk,o,none⟩) T.length c) T.length ub ob (.slice la (l::r).length lc) (grow x (l::r)) s1 (bw i f h.line h.names s1) w4):=by
   have hsg:oZ w4 B f (.pointer pa) (.slice la ln lc) ms ({ l with iC:=x++l.iC}::r) s1:=v8.pos;have hlv:cU w4 B (.slice la ln lc) ({ l with iC:=x++l.iC}::r):=v8.pos.fk;rw[←G9.out] at hlv hsg;exact kh b i f h loop pa la lc { l with iC:=x++l.iC} r s1 w4 v8.ft v8.rs hx v8.cx.lt hlv (v8.hd _ r rfl) (by have:=v8.fk;rw[ch] at this;exact this) v8.few (by have:=hsg.iC;have:=v8.names;omega) hsz
  rw[G9.out] at hdec;have Y0:=aa hdec;have L0:=aa v8;have Pk:=aa DV;have Ph:=aa hx1;have HE:Hid (((aH ks f st).bind fun s1=>bw i f h.line h.names s1)=bw i f h.line h.names s1):=aa (by rw[oW];rfl)
  clear hp hr4 v8 DV hst hx1 hx2 oW hdec k0 k1 k2 k3 k4 k5 k6 k7 k8;obtain⟨k0,k1,k2,k3,k4,k5,k6,k7,k8⟩:=P5.out.cells;go_wp2_with fail
  refine Y0.out.mono ?_;intro e w6 hp;obtain⟨v,rfl⟩:=hp.ret;cases jP:bw i f h.line h.names s1 with
  | error y =>
   have HP:=aa hp;rw[jP] at hp;obtain⟨_,v',hv',g2,rfl,_⟩:=hp;injection hv' with hv';subst hv';clear jP;go_wp2_with fail
   go_ret
   rw[HE.out];exact aq.from lG.out bX (aq.trans (st1:=s1) (x:=x) Pk.out.below Pk.out Ph.out (fun e=>by cases e) HP.out)
  | ok s2 =>
   have HP:=aa hp;rw[jP] at hp;have QB:=hp.2.2.2.1;have hv':=hp.2.1;injection hv' with hv';subst hv';have P6:=aa (P5.out.jo QB);clear hp QB jP k0 k1 k2 k3 k4 k5 k6 k7 k8;obtain⟨k0,k1,k2,k3,k4,k5,k6,k7,k8⟩:=P6.out.cells;go_wp2_with fail
   go_still_tail 7,(by kernel_rfl)
   change wpList _ _ _ _ _ w6.drew;have D6:=aa (show Below w6.heap.size w6 w6.drew from(Below.refl _ _).drew)
   generalize w6.drew=W6 at D6 ⊢;go_wp2_with fail
   all_goals
    refine(all_nil b f loop pa la _ ln lc _ W6).mono ?_;rintro e w7 ⟨rfl,FV⟩;have B7:=aa (D6.out.trans (FV.mono D6.out.size));clear FV;go_wp2_with fail
    go_ret
    rw[HE.out];exact aq.from lG.out bX (aq.trans (st1:=s1) (x:=x) Pk.out.below Pk.out Ph.out (fun e=>by cases e) (HP.out.abt B7.out))
theorem Pl {T:List Nd} {B b:Nat} {nv:Value} {ub ob:Nat} (i f:Nat) (h:Nd) (ks:List Lt) (loop:Int) (pa la:Option Addr) (lc:Nat) (ms:List Nat) (l:cE) (r:List cE) (st:aG) (w:World) (hr:eS T B b nv ub ob f pa (.slice la (l::r).length lc) ms (l::r) st w (h.names.length+Lt.eY ks) (Lt.al ks)) (hx:T[i]? = some h) (hk:h.kids=ks.map fun k=>(k.loc:Int)) (hn:fA T ks) (hV :∀k∈ks,bA T B b nv ub ob k)
  (hl :∀k∈ks,18≤k.hd.kind→loop=cB f st.frames) (hsz :∀s∈h.names,s.size≤65536) (hd:gH h.kind h.kids.length=(true,0,false)) :
  Calls Tryz.prog 55 #[.pointer (some ⟨b,0,none⟩),.int .i64 (i:Int),.agg #[.int .i64 (f:Int),.int .i64 loop,.pointer pa,.slice la (l::r).length lc]] w (aq B b nv T.length ub ob (.slice la (l::r).length lc) (l::r) st ((bw i f h.line h.names st).bind fun s1=>aH ks f s1) w):=by
 obtain⟨bk,o,c,rfl,eG,bX,dG⟩:=hr.ft.nodes;obtain⟨zx,zy,fE,⟨NA,nc,vL,_⟩,fu⟩:=dG i h hx;have rU:h.kids.length≤20000:=(hr.ft.small h (ba hx)).1;have wQ:ks.length≤20000:=by rw[hk,cN] at rU;exact rU
 obtain⟨KA,kc,qX,Cm,_⟩:=id fu;subst vL qX;obtain⟨x0,x1,x2,x3,x4,x5,x6⟩:=fE;have v7:i<T.length:=(aL.1 hx).1;have pN:=hr.ft.few;have hbl:b<w.heap.size:=by obtain⟨_,_,hw⟩:=hr.rs;exact hw.mL.1
 have d0:w.cell? ⟨b,0,none⟩=some (.slice (some ⟨bk,o,none⟩) T.length c):=by obtain⟨_,_,hw⟩:=hr.rs;exact ab hw.blk 0
 have gT:bk<w.heap.size:=by omega
 have HD:=aa (gI h.kind h.line h.op h.num h.s NA KA h.names.length nc h.kids.length kc);have Y0:Hid (∀W,Below w.heap.size w W→Calls Tryz.prog 113 #[.pointer (some ⟨b,0,none⟩),.int .i64 (i:Int),.agg #[.int .i64 (f:Int),.int .i64 loop,.pointer pa,.slice la (l::r).length lc]] W (aq B b (.slice (some ⟨bk,o,none⟩) T.length c) T.length ub ob (.slice la (l::r).length lc) (l::r) st (bw i f h.line h.names st) W)):=aa fun W hW=>by
  have h2:=hr.dc hW;exact kh b i f h loop pa la lc l r st W h2.ft h2.rs hx h2.cx.lt h2.pos.fk (h2.hd l r rfl) (by have:=h2.fk;omega) h2.few (by have:=h2.pos.iC;have:=h2.names;omega) hsz
 have HR:=aa hr;have HN:=aa hn;have HV:=aa hV;have HL:=aa hl;have Jq:=aa fu;have T9:=aa hd;have HK:=aa hk;clear hr hn hV hl fu hd dG hk;generalize Lq:(l::r).length=ln at *;have G9:=aa Lq;clear Lq;go_enter Tryz.func55,Tryz.ntmps55
 go_wp2_with fail
 refine(HD.out _ (by omega)).mono ?_
 rw[T9.out];rintro e w1 ⟨rfl,hb1⟩;have dM:=aa hb1;clear hb1;go_wp2_with fail
 have za:=lp rfl dM.out (.bool true) (.int .i64 0) (.bool false);have qO:=aa za.2;have o7:=aa za.1;clear za;clear d0 x0 x1 x2 x3 x4 x5 x6;generalize w1.alloc (.cells #[.bool true,.int .i64 0,.bool false] 189)=W2 at qO o7 ⊢;generalize w1.heap.size=q at qO ⊢;generalize w.heap.size+1=p at qO ⊢;obtain⟨k0,k1,k2,k3,k4,k5,k6,k7,k8⟩:=qO.out.cells;have hKc:h.kids.length≤kc:=Cm;go_still_tail 7,(by kernel_rfl)
 change wpList _ _ _ _ _ W2.drew;have D2:=aa (show Below W2.heap.size W2 W2.drew from(Below.refl _ _).drew)
 generalize W2.drew=W3 at D2 ⊢;go_wp2_with fail
 refine(all_nil b f loop pa la KA ln lc kc W3).mono ?_;rintro e w4 ⟨rfl,hb4⟩;have B4:=aa (D2.out.trans (hb4.mono D2.out.size));have P4:=aa (qO.out.later B4.out);clear hb4 k0 k1 k2 k3 k4 k5 k6 k7 k8;obtain⟨k0,k1,k2,k3,k4,k5,k6,k7,k8⟩:=P4.out.cells;have lG:=aa (o7.out.trans (B4.out.mono o7.out.size));go_wp2_with fail
 refine(Y0.out w4 lG.out).mono ?_;intro e w5 hp;cases oW:bw i f h.line h.names st with
 | error y =>
  rw[oW] at hp;obtain⟨hb,v,rfl,g2,rfl,h2⟩:=hp;have H2:=aa h2;have HB:=aa hb;have HE:Hid (((bw i f h.line h.names st).bind fun s1=>aH ks f s1)=.error y):=aa (by rw[oW];rfl)
  clear h2 hb oW;go_wp2_with fail
  go_ret
  rw[HE.out];exact⟨(lG.out.mono bX).trans HB.out,_,rfl,_,rfl,H2.out⟩
 | ok s1 =>
  rw[oW] at hp;have hr4:=HR.out.dc lG.out;obtain⟨Pm,vt,_⟩:=nK oW hr4.cx;obtain⟨rfl,x,hx1,hx2,v8,DV⟩:=eS.step (a1:=h.names.length) (s1:=0) (by rw[jX];exact hr4) (jL oW hr4.few) (Pm.cx hr4.cx) vt hp
  have P5:=aa (P4.out.jo DV);have VC:=aa ((lG.out.mono bX).trans DV.below);have HC:Hid (∀W,Below w5.heap.size w5 W→Calls Tryz.prog 111 #[.pointer (some ⟨b,0,none⟩),.slice KA h.kids.length kc,.agg #[.int .i64 (f:Int),.int .i64 loop,.pointer pa,.slice la ln lc]] W (aq B b (.slice (some ⟨bk,o,none⟩) T.length c) T.length ub ob (.slice la ln lc) (grow x (l::r)) s1 (aH ks f s1) w5)):=aa fun W hW=>by
   have h6:=DU f loop pa la lc ms (l::r) x s1 W (.slice KA h.kids.length kc) ks (by rw[G9.out];exact v8.dc hW) HN.out HV.out (by rw[←HK.out];exact Jq.out.below (VC.out.trans (hW.mono v8.world))) (fun k hk mo=>(HL.out k hk mo).trans (tE vt).symm) (fun k _=>.inl (by simp)) wQ
   rw[G9.out] at h6;exact h6.mono fun e w' h=>h.from hW v8.world
  have Pk:=aa DV;have Ph:=aa hx1;have HE:Hid (((bw i f h.line h.names st).bind fun s1=>aH ks f s1)=aH ks f s1):=aa (by rw[oW];rfl)
  clear hp hr4 v8 DV Pm vt hx1 hx2 oW k0 k1 k2 k3 k4 k5 k6 k7 k8;obtain⟨k0,k1,k2,k3,k4,k5,k6,k7,k8⟩:=P5.out.cells;go_wp2_with fail
  go_still_tail 7,(by kernel_rfl)
  change wpList _ _ _ _ _ w5.drew;have VD:=aa (HC.out w5.drew (Below.refl _ _).drew);generalize w5.drew=W6 at VD ⊢;go_wp2_with fail
  refine VD.out.mono ?_;intro e w7 hp;obtain⟨v,rfl⟩:=hp.ret;have HP:=aa hp;clear hp;go_wp2_with fail
  go_ret
  rw[HE.out];exact aq.from lG.out bX (aq.trans (st1:=s1) (x:=x) Pk.out.below Pk.out Ph.out (fun e=>by cases e) HP.out)
theorem xL {B:Nat} (f:Nat) (loop:Int) (pa la:Option Addr) (lc:Nat) (L:List cE) (w:World) (hl:cU w B (.slice la L.length lc) L) (hlen:L.length≤100000) (hB:B≤w.heap.size) :
  Calls Tryz.prog 112 #[.agg #[.int .i64 (f:Int),.int .i64 loop,.pointer pa,.slice la L.length lc]] w fun e w'=>∃g c m,e=.returned (.agg #[.int .i64 (f:Int),.int .i64 loop,.pointer pa,.slice (some ⟨g,0,none⟩) (L.length+1) c])∧cU w' B (.slice (some ⟨g,0,none⟩) (L.length+1) c) (⟨f,m,[]⟩::L)∧w.heap.size≤m∧((Value.slice la L.length lc).ownBlock=some g∨w.heap.size≤g)∧(∀ob,cJ B ob (.slice la L.length lc) L.length none w w')∧Fr [238] w w':=by
 have HL:=aa hl;clear hl;have hmm:=@run_makeMap Tryz.prog;obtain⟨o1,ZO⟩ :∃o1,o1=Obj.cells #[.int .i64 (f:Int),.int .i64 loop,.pointer pa,.slice la L.length lc] 92:=⟨_,rfl⟩;obtain⟨o2,I2⟩ :∃o2,o2=Obj.cells #[.int .i64 0,.int .i64 0,.pointer none,.slice none 0 0] 92:=⟨_,rfl⟩;obtain⟨W3,hW3⟩ :∃W3,W3=((w.alloc o1).alloc o2).alloc (.map #[] 0):=⟨_,rfl⟩;have hs3:W3.heap.size=w.heap.size+1+1+1:=by rw[hW3,ao,ao,ao]
 have hb3:Below w.heap.size w W3:=by rw[hW3];exact Below.three _ _ _
 have hb1:W3.heap[w.heap.size]? = some o1:=by
  rw[hW3];exact(Below.heap_alloc _ _ _ (by rw[ao,ao];omega)).trans ((Below.heap_alloc _ _ _ (by rw[ao];omega)).trans (heap_alloc_new w o1))
 have hb2:W3.heap[w.heap.size+1]? = some o2:=by
  rw[hW3];refine(Below.heap_alloc _ _ _ (by rw[ao,ao];omega)).trans ?_
  have:=heap_alloc_new (w.alloc o1) o2;rwa[ao] at this
 have Z5:dA Tryz.prog 9 W3 (w.heap.size+1+1) 0 (fun _=>none):=by
  have:=dA.made ((w.alloc o1).alloc o2) Tryz.prog 9;rw[ao,ao] at this;rw[hW3];exact this
 have HR3:=aa (qT.row (o:=none) ⟨hb3.size,fun k hk _=>hb3.block k hk⟩ HL.out.row (fun _ _ e=>by cases e))
 have hlt :∀k,(Value.slice la L.length lc).ownBlock=some k→k<w.heap.size:=fun k hk=>(HL.out.row.lt k hk).2
 rw[ZO] at hb1;rw[I2] at hb2;have dM:=aa hb1;have o7:=aa hb2;have HMP:=aa Z5;have lo:=aa hlt;have yA:=aa hb3;have ou:=aa hs3;rw[ZO,I2] at hW3;have RH:=aa hW3;clear hb1 hb2 Z5 hlt hb3 hs3 hW3 ZO I2;go_enter Tryz.func112,Tryz.ntmps112
 go_wp2_with (at_builtin;rw[←RH.out];refine Ox W3 ⟨f,w.heap.size+1+1,[]⟩ rfl _ _ rfl B (.slice la L.length lc) L rfl HR3.out (w.heap.size+1+1+1) ou.out.symm rfl (by omega) (by rw[ou.out];omega) ?_;intro g8 c8 w8 r8 b8 Vu n8 o8;have Jr:=(b8.2 w.heap.size (by rw[ou.out];omega) (fun e=>by have:=lo.out _ e;omega)).trans dM.out;have hres:=(b8.2 (w.heap.size+1) (by rw[ou.out];omega) (fun e=>by have:=lo.out _ e;omega)).trans o7.out;have e0:=ab Jr 0;have e1:=ab Jr 1;have e2:=ab Jr 2;have e3:=ab Jr 3;have f3:=aw Jr 3;have y0:=ab hres 0;have y1:=ab hres 1;have y2:=ab hres 2;have y3:=ab hres 3;have z0:=aw hres 0;have z1:=aw hres 1;have z2:=aw hres 2;have z3:=aw hres 3;have R8:=aa r8;have B8:=aa b8;have Qy:=aa Vu;have N8:=aa n8;have O8:=aa o8;clear r8 b8 Vu n8 o8 Jr hres)
 refine bodyPost_ret (v:=.agg #[.int .i64 (f:Int),.int .i64 loop,.pointer pa,.slice (some ⟨g8,0,none⟩) (L.length+1) c8]) (by simp[results,Tryz.results112,go_sem,y0,y1,y2,y3]) rfl ?_
 have k1:vK w8 w.heap.size 92:=⟨_,_,(B8.out.2 w.heap.size (by rw[ou.out];omega) (fun e=>by have:=lo.out _ e;omega)).trans dM.out⟩
 have k2:vK w8 (w.heap.size+1) 92:=⟨_,_,(B8.out.2 (w.heap.size+1) (by rw[ou.out];omega) (fun e=>by have:=lo.out _ e;omega)).trans o7.out⟩
 have hF:Fr [92] w8 (((((w8.setCell ⟨w.heap.size,3,none⟩ (.slice (some ⟨g8,0,none⟩) (L.length+1) c8)).setCell ⟨w.heap.size+1,0,none⟩ (.int .i64 (f:Int))).setCell ⟨w.heap.size+1,1,none⟩ (.int .i64 loop)).setCell ⟨w.heap.size+1,2,none⟩ (.pointer pa)).setCell ⟨w.heap.size+1,3,none⟩ (.slice (some ⟨g8,0,none⟩) (L.length+1) c8)) :=
  (k1.fr (by decide) _ _).trans (((k2.set _ _ _).fr (by decide) _ _).trans ((((k2.set _ _ _).set _ _ _).fr (by decide) _ _).trans (((((k2.set _ _ _).set _ _ _).set _ _ _).fr (by decide) _ _).trans ((((((k2.set _ _ _).set _ _ _).set _ _ _).set _ _ _)).fr (by decide) _ _))))
 have hK :∀k,k<w.heap.size→(((((w8.setCell ⟨w.heap.size,3,none⟩ (.slice (some ⟨g8,0,none⟩) (L.length+1) c8)).setCell ⟨w.heap.size+1,0,none⟩ (.int .i64 (f:Int))).setCell ⟨w.heap.size+1,1,none⟩ (.int .i64 loop)).setCell ⟨w.heap.size+1,2,none⟩ (.pointer pa)).setCell ⟨w.heap.size+1,3,none⟩ (.slice (some ⟨g8,0,none⟩) (L.length+1) c8)).heap[k]? = w8.heap[k]?:=fun k hk=>by
  rw[Below.heap_setCell _ _ _ k (by show k≠w.heap.size+1;omega),Below.heap_setCell _ _ _ k (by show k≠w.heap.size+1;omega),Below.heap_setCell _ _ _ k (by show k≠w.heap.size+1;omega),Below.heap_setCell _ _ _ k (by show k≠w.heap.size+1;omega),Below.heap_setCell _ _ _ k (by show k≠w.heap.size;omega)]
 have hO :∀W:World,W.os=w8.os→W.tape=w8.tape→W.output=w8.output→W.os=w.os∧W.tape=w.tape∧W.output=w.output:=fun W h1 h2 h3=>⟨h1.trans (Qy.out.os.trans yA.out.os),h2.trans (Qy.out.tape.trans yA.out.tape),h3.trans (Qy.out.output.trans yA.out.output)⟩
 have hO9:=hO _ (show(((((w8.setCell ⟨w.heap.size,3,none⟩ (.slice (some ⟨g8,0,none⟩) (L.length+1) c8)).setCell ⟨w.heap.size+1,0,none⟩ (.int .i64 (f:Int))).setCell ⟨w.heap.size+1,1,none⟩ (.int .i64 loop)).setCell ⟨w.heap.size+1,2,none⟩ (.pointer pa)).setCell ⟨w.heap.size+1,3,none⟩ (.slice (some ⟨g8,0,none⟩) (L.length+1) c8)).os=w8.os from rfl) rfl rfl
 generalize (((((w8.setCell ⟨w.heap.size,3,none⟩ (.slice (some ⟨g8,0,none⟩) (L.length+1) c8)).setCell ⟨w.heap.size+1,0,none⟩ (.int .i64 (f:Int))).setCell ⟨w.heap.size+1,1,none⟩ (.int .i64 loop)).setCell ⟨w.heap.size+1,2,none⟩ (.pointer pa)).setCell ⟨w.heap.size+1,3,none⟩ (.slice (some ⟨g8,0,none⟩) (L.length+1) c8))=W9 at *;have key :∀k,k<w.heap.size→(Value.slice la L.length lc).ownBlock≠some k→W9.heap[k]? = w.heap[k]?:=fun k hk hn=>(hK k hk).trans ((B8.out.2 k (by rw[ou.out];omega) hn).trans (yA.out.block k hk))
 have far :∀(k:Nat) (o:Obj),w.heap[k]? = some o→(∀c fz,o ≠ .cells c 238 fz)→W9.heap[k]? = some o:=fun k o hk ho=>(key k (aI.1 hk).1 fun e=>by
  obtain⟨c,fz,h1⟩:=Lib.ownsRow_kind HL.out.row k e;rw[hk] at h1;injection h1 with h1;exact ho _ _ h1).trans hk
 refine⟨g8,c8,w.heap.size+1+1,rfl,⟨hF.row R8.out (by decide),fun l hl=>?_,fun l hl n hn=>?_,?_⟩,by omega,N8.out.imp id (fun h=>by rw[ou.out] at h;omega),fun ob=>⟨?_,fun k c e fz hk he=>far k _ hk (fun c' Yt e'=>he (by injection e' with _ e';rw[e'];decide)),fun k c fz hk _=>far k _ hk (fun c' Yt e'=>by injection e' with _ e';exact absurd e' (by decide)),fun u m xs hu hm=>hF.row (O8.out u m xs (qT.row (o:=none) ⟨yA.out.size,fun k hk _=>yA.out.block k hk⟩ hu (fun _ _ e=>by cases e)) hm) (by decide),fun k es c hk _=>far k _ hk (fun _ _ e=>by cases e)⟩,⟨?_,fun k c e fz hk he=>far k _ hk (fun c' Yt e'=>he (by injection e' with _ e';rw[e'];exact bP.2 rfl)),fun k o hk ho=>far k _ hk (fun c' Yt=>ho c' _ Yt)⟩⟩
 ·rcases bn.1 hl with rfl|hl
  ·refine⟨hF.map (HMP.out.same (B8.out.2 _ (by rw[ou.out];omega) fun e=>by have:=lo.out _ e;omega)),by show B≤w.heap.size+1+1;omega⟩
  ·obtain⟨h1,h2⟩:=HL.out.maps l hl
   obtain⟨es,c,hm⟩:=h1.isMap;exact⟨h1.same ((far _ _ hm (fun _ _ e=>by cases e)).trans hm.symm),h2⟩
 ·rcases bn.1 hl with rfl|hl
  ·cases hn
  ·exact HL.out.own l hl n hn
 ·rw[fX,ml]
  refine⟨fun hm=>?_,HL.out.apart⟩
  obtain⟨l,hl,e⟩:=jd.1 hm;have:=(HL.out.maps l hl).1.lt;simp only at e;omega
 ·refine⟨hO9.1,hO9.2.1,hO9.2.2,aK (by rw[ou.out];omega) (aK Qy.out.size hF.size),fun k hk=>key k (by omega) fun e=>?_⟩
  have:=(HL.out.row.lt k e).1;omega
 ·exact aK (by rw[ou.out];omega) (aK Qy.out.size hF.size)
structure zb (T:List Nd) (B b:Nat) (nv:Value) (ub ob f:Nat) (pa:Option Addr) (lv:Value) (ms:List Nat) (L:List cE) (st:aG) (w:World) (a s:Nat):Prop where
 ft:vY w B nv T
 rs:jO w B b nv T.length st ub ob
 pos:oZ w B f (.pointer pa) lv ms L st
 cx:Cx f st
 few:dK st.fns
 fr :∀x∈st.frames,x.fn<st.fns.length
 names:st.names.length+a≤100000
 fns:st.fns.length+s≤100000
 fk:L.length+1+s≤100000
theorem bW.lt {W:World} {B:Nat} :∀{fs:List (Nat×Nat×(ByteArray→Option Value))} {ms:List Nat} {p:Value},bW W B fs ms p→∀m∈ms,m<W.heap.size
 | [],_,_,h,m,hm=>by rw[h.1] at hm;cases hm
 | x::fs,ms,p,h,m,hm=>by
  obtain⟨k',p',m',Cs,rfl,rfl,_,_,h3,_,_,h6⟩:=h;rcases bn.1 hm with rfl|hm
  ·exact h3.lt
  ·exact bW.lt h6 m hm
theorem xM {T:List Nd} {B b:Nat} {nv:Value} {ub ob f:Nat} {pa la:Option Addr} {lc:Nat} {ms:List Nat} {L:List cE} {st:aG} {w:World} {a s:Nat} (loop:Int) (h:zb T B b nv ub ob f pa (.slice la L.length lc) ms L st w a s) :
  Calls Tryz.prog 112 #[.agg #[.int .i64 (f:Int),.int .i64 loop,.pointer pa,.slice la L.length lc]] w fun e w'=>∃g c m,e=.returned (.agg #[.int .i64 (f:Int),.int .i64 loop,.pointer pa,.slice (some ⟨g,0,none⟩) (L.length+1) c])∧eS T B b nv ub ob f pa (.slice (some ⟨g,0,none⟩) (L.length+1) c) ms (⟨f,m,[]⟩::L) st w' a s∧w.heap.size≤m∧((Value.slice la L.length lc).ownBlock=some g∨w.heap.size≤g)∧cJ B ob (.slice la L.length lc) L.length none w w':=by
 have bX:B≤w.heap.size:=by obtain⟨_,_,_,_,_,h,_⟩:=h.ft.nodes;exact h
 refine(xL f loop pa la lc L w h.pos.fk (by have:=h.fk;omega) bX).mono ?_
 rintro e w' ⟨g,c,m,he,h1,h2,h3,h4,h5⟩;have hf:=h4 ob;refine⟨g,c,m,he,⟨h.ft.below hf.below,?_,⟨h1,h.pos.blk.jo hf (by simp),h.pos.names,?_⟩,?_,h.cx,h.few,h.fr,h.names,h.fns,?_⟩,h2,h3,hf⟩
 ·obtain⟨fv,FL,hw⟩:=h.rs
  exact⟨fv,FL,hw.fr h5 (by decide)⟩
 ·intro m' hm' l hl
  rcases bn.1 hl with rfl|hl
  ·have:=bW.lt h.pos.blk m' hm'
   show m'≠m
   omega
  ·exact h.pos.apart m' hm' l hl
 ·intro l r e
  injection e with e _;rw[←e]
 ·have:=h.fk
  rw[List.length_cons];omega
theorem eS.zero {T:List Nd} {B b:Nat} {nv:Value} {ub ob f:Nat} {pa:Option Addr} {lv:Value} {ms:List Nat} {L:List cE} {st:aG} {w:World} {a s:Nat} (h:eS T B b nv ub ob f pa lv ms L st w a (s+1)):zb T B b nv ub ob f pa lv ms L st w a s :=
 ⟨h.ft,h.rs,h.pos,h.cx,h.few,h.fr,h.names,by have:=h.fns;omega,by have:=h.fk;omega⟩
theorem cJ.inner {B ob n g c m:Nat} {lv:Value} {w w1 w2:World} {top:Option Nat} (h1:cJ B ob lv n top w w1) (hg:lv.ownBlock=some g∨w.heap.size≤g) (hm:w.heap.size≤m) (h2:cJ B ob (.slice (some ⟨g,0,none⟩) (n+1) c) (n+1) (some m) w1 w2):cJ B ob lv n top w w2:=by
 refine⟨h1.below.trans h2.below,fun k c e fz hk he=>h2.cells k c e fz (h1.cells k c e fz hk he) he,fun k c fz hk ho=>h2.ints k c fz (h1.ints k c fz hk ho) ho,fun u k xs hu hk=>h2.lvl u k xs (h1.lvl u k xs hu hk) fun e=>?_,fun k es c hk ht=>h2.maps k es c (h1.maps k es c hk ht) fun e=>?_⟩
 ·replace e:u.ownBlock=some g:=e
  rcases hg with hg|hg
  ·exact Nat.le_succ_of_le (hk (e.trans hg.symm))
  ·have:=(hu.lt g e).2
   omega
 ·injection e with e
  have:=(aI.1 hk).1;omega
theorem cU.inner {B ob g c m:Nat} {lv:Value} {L:List cE} {w1 w2:World} (h:cU w1 B lv L) (hne :∀l∈L,l.blk≠m) (h2:cJ B ob (.slice (some ⟨g,0,none⟩) (L.length+1) c) (L.length+1) (some m) w1 w2):cU w2 B lv L :=
 ⟨h2.lvl _ _ _ h.row fun _=>fY _,fun l hl=>⟨h2.map (h.maps l hl).1 fun e=>hne l hl (by injection e),(h.maps l hl).2⟩,h.own,h.apart⟩
theorem aq.inner {B b:Nat} {nv:Value} {N ub ob g c m f:Nat} {lv:Value} {L:List cE} {st st1:aG} {r:Rs aG} {w w1 w2:World} {e:Ending} (h1:cJ B ob lv L.length (ei L) w w1) (hl:cU w1 B lv L) (hne :∀l∈L,l.blk≠m) (hg:lv.ownBlock=some g∨w.heap.size≤g) (hm:w.heap.size≤m) (h:aq B b nv N ub ob (.slice (some ⟨g,0,none⟩) (L.length+1) c) (⟨f,m,[]⟩::L) st1 r w1 e w2):aq B b nv N ub ob lv L st (r.map fun s=>s.back st) w e w2:=by
 refine⟨h1.below.trans h.1,?_⟩;have h2:=h.2;cases r with
 | error y=>exact h2
 | ok s =>
  obtain⟨k1,⟨fv,FL,k2⟩,k3,_⟩:=h2;refine⟨k1,⟨fv,FL,k2.on rfl rfl rfl⟩,h1.inner hg hm k3,[],rfl,fun _=>rfl,?_⟩
  rw[jN];exact hl.inner hne k3
theorem cJ.past {B ob n:Nat} {v:Value} {top:Option Nat} {w W X:World} (h:cJ B ob v n top w W) (hb:Below B W X) (hk :∀k,k<w.heap.size→X.heap[k]? = W.heap[k]?):cJ B ob v n top w X:=by
 refine⟨h.below.trans hb,fun k c e fz hc he=>(hk k (aI.1 hc).1).trans (h.cells k c e fz hc he),fun k c fz hc ho=>(hk k (aI.1 hc).1).trans (h.ints k c fz hc ho),fun u m xs hu hm=>?_,fun k es c hc ht=>(hk k (aI.1 hc).1).trans (h.maps k es c hc ht)⟩
 have h1:=h.lvl u m xs hu hm;refine⟨h1.1,?_⟩;rcases h1.2 with hn | ⟨g,cap,cur,rfl,hB,hg,rest⟩
 ·exact .inl hn
 ·exact .inr ⟨g,cap,cur,rfl,hB,(hk g (hu.lt g rfl).2).trans hg,rest⟩
theorem bW.fr {W W':World} {B:Nat} {E:List Nat} (k:Fr E W W') (he:(195:Nat)∉E) :∀{fs:List (Nat×Nat×(ByteArray→Option Value))} {ms:List Nat} {p:Value},bW W B fs ms p→bW W' B fs ms p
 | [],_,_,h=>h
 | x::fs,ms,p,h=>by
  obtain⟨k',p',m,Cs,rfl,rfl,h1,h2,h3,h4,h5,h6⟩:=h;exact⟨k',p',m,Cs,rfl,rfl,h1,k.cells k' _ _ _ h2 he,k.map h3,h4,h5,bW.fr k he h6⟩
theorem cU.fr {W W':World} {B:Nat} {v:Value} {L:List cE} {E:List Nat} (h:cU W B v L) (k:Fr E W W') (he:(238:Nat)∉E):cU W' B v L :=
 ⟨k.row h.row he,fun l hl=>⟨k.map (h.maps l hl).1,(h.maps l hl).2⟩,h.own,h.apart⟩
theorem eS.Ua {T:List Nd} {B b:Nat} {nv:Value} {ub ob f:Nat} {pa:Option Addr} {lv:Value} {ms:List Nat} {L:List cE} {st:aG} {w w':World} {a s:Nat} (h:eS T B b nv ub ob f pa lv ms L st w a s) (k:Fr [92] w w') (hb:Below B w w'):eS T B b nv ub ob f pa lv ms L st w' a s:=by
 refine⟨h.ft.below hb,?_,⟨h.pos.fk.fr k (by decide),bW.fr k (by decide) h.pos.blk,h.pos.names,h.pos.apart⟩,h.hd,h.cx,h.few,h.fr,h.names,h.fns,h.fk⟩
 obtain⟨fv,FL,hw⟩:=h.rs;exact⟨fv,FL,hw.fr k (by decide)⟩
theorem eS.ow {T:List Nd} {B b:Nat} {nv:Value} {ub ob f:Nat} {pa:Option Addr} {lv:Value} {ms:List Nat} {L:List cE} {st:aG} {w:World} {a s:Nat} (i:Nat) (h:eS T B b nv ub ob f pa lv ms L st w a s):eS T B b nv ub ob f pa lv ms L (di i f st) w a s:=by
 refine⟨h.ft,?_,⟨h.pos.fk,?_,h.pos.names,h.pos.apart⟩,h.hd,⟨h.cx.ok,h.cx.lt,h.cx.names⟩,h.few,fun x hx=>?_,h.names,h.fns,h.fk⟩
 ·obtain⟨fv,FL,hw⟩:=h.rs
  exact⟨fv,FL,hw.on rfl rfl rfl⟩
 ·show oY w B (dw f (⟨f,i,0,true,false,[]⟩::st.frames)) ms _
  rw[rN (.inl rfl)];exact h.pos.blk
 ·rcases bn.1 hx with rfl|hx
  ·exact h.cx.lt
  ·exact h.fr x hx
def four (W:World) (r:Nat) (a c d e:Value):World:=(((W.setCell ⟨r,0,none⟩ a).setCell ⟨r,1,none⟩ c).setCell ⟨r,2,none⟩ d).setCell ⟨r,3,none⟩ e
theorem vu {W:World} {r:Nat} (k:vK W r 92) (a c d e:Value):Fr [92] W (four W r a c d e):=(k.fr (by decide) _ _).trans (((k.set _ _ _).fr (by decide) _ _).trans ((((k.set _ _ _).set _ _ _).fr (by decide) _ _).trans ((((k.set _ _ _).set _ _ _).set _ _ _).fr (by decide) _ _)))
theorem pI {B r:Nat} (W:World) (hB:B≤r) (a c d e:Value):Below B W (four W r a c d e):=((((Below.refl B W).setCell (p:=⟨r,0,none⟩) hB a).setCell (p:=⟨r,1,none⟩) hB c).setCell (p:=⟨r,2,none⟩) hB d).setCell (p:=⟨r,3,none⟩) hB e
theorem eT.four {w W:World} {p q f:Nat} {loop:Int} {pa:Option Addr} {lv kv nv d0 d1 d2:Value} (h:eT w W p q f loop pa lv kv nv d0 d1 d2) (Pn:Int) (TN:Option Addr) (lv':Value):eT w (four W w.heap.size (.int .i64 (f:Int)) (.int .i64 Pn) (.pointer TN) lv') p q f Pn TN lv' kv nv d0 d1 d2:=by
 obtain⟨a,b,c,d,e,hk⟩:=h.kids;have hp:=h.pne;have hq:=h.qne;have k :∀j,j≠w.heap.size→(Go.Proofs.YteflkdlaoiijbaaGreatDoor.four W w.heap.size (.int .i64 (f:Int)) (.int .i64 Pn) (.pointer TN) lv').heap[j]? = W.heap[j]?:=fun j hj=>nR W _ _ _ _ _ j hj
 exact⟨bt (bt (bt (bt h.pos 0 _) 1 _) 2 _) 3 _,⟨a,b,c,d,e,(k _ (by omega)).trans hk⟩,(k _ (by omega)).trans h.dec,hp,hq⟩
theorem gF.first {W:World} {B sb so n kc:Nat} {xs ys:List Int} (h:gF W B (.slice (some ⟨sb,so,none⟩) n kc) (xs++ys)):gF W B (.slice (some ⟨sb,so,none⟩) xs.length kc) xs:=by
 obtain⟨A,c,e,hc,h1⟩:=h;injection e with e1 e2 e3;subst e1 e3;rw[bV] at hc;refine⟨_,_,rfl,by omega,?_⟩
 rcases h1 with h1 | ⟨bk,o,e4,hb,hx⟩
 ·exact .inl (Ka.1 h1).1
 ·exact .inr ⟨bk,o,e4,hb,fun j x hj=>hx j x (by rw[kF (aL.1 hj).1];exact hj)⟩
theorem gF.last {W:World} {B sb so n kc:Nat} {xs ys:List Int} (h:gF W B (.slice (some ⟨sb,so,none⟩) n kc) (xs++ys)):gF W B (.slice (some ⟨sb,so+xs.length,none⟩) ys.length (kc-xs.length)) ys:=by
 obtain⟨A,c,e,hc,h1⟩:=h;injection e with e1 e2 e3;subst e1 e3;rw[bV] at hc;refine⟨_,_,rfl,by omega,?_⟩
 rcases h1 with h1 | ⟨bk,o,e4,hb,hx⟩
 ·exact .inl (Ka.1 h1).2
 ·injection e4 with e4
  injection e4 with e4 e5 _;subst e4 e5;exact .inr ⟨_,_,rfl,hb,fun j x hj=>by have:=hx (xs.length+j) x (by rw[zA (by omega),Nat.add_sub_cancel_left];exact hj);rwa[←r9] at this⟩
theorem Y1 {α:Type} {x l:List α} (h:l=x++l):x=[]:=by
 have:=ax List.length h;rw[bV] at this;exact List.length_eq_zero_iff.1 (by omega)
theorem aq.same {B b:Nat} {nv:Value} {N ub ob:Nat} {lv:Value} {L:List cE} {st st':aG} {r r':Rs aG} {w w2:World} {e:Ending} (h:aq B b nv N ub ob lv L st r w e w2) (hn:st'.names=st.names) (hr:match r,r' with | .ok a,.ok c=>c.fns=a.fns∧c.uses=a.uses∧c.of=a.of∧c.names=a.names | .error a,.error c=>a=c|_,_=>False):aq B b nv N ub ob lv L st' r' w e w2:=by
 refine⟨h.1,?_⟩;have h2:=h.2;cases r with
 | error y =>
  cases r' with
  | error z=>cases hr;exact h2
  | ok z=>exact hr.elim
 | ok s =>
  cases r' with
  | error z=>exact hr.elim
  | ok z =>
   obtain⟨k1,⟨fv,FL,k2⟩,k3,x,k4,k5,k6⟩:=h2;obtain⟨e1,e2,e3,e4⟩:=hr;exact⟨k1,⟨fv,FL,k2.on e1 e2 e3⟩,k3,x,by rw[e4,k4,hn],k5,k6⟩
theorem rV {f:Nat} (t:Lt) (st:aG):aH [t] f st=bg t f st:=by
 rw[eP];cases bg t f st with
 | error y=>rfl
 | ok s=>show aH [] f s=_;rw[eZ]
theorem qP {i f:Nat} {line:Int} {names:List ByteArray} (blk:Lt) :∀(vals:List Lt) (st:aG),iL i line names (vals++[blk]) f st=(aH vals f st).bind fun s1=>((bw i f line names (di i f s1)).bind fun s2=>aH [blk] f s2).map fun s=>s.back s1
 | [],st=>by
  rw[mQ,nL,eZ];show _=Except.map _ (Except.bind _ _)
  cases bw i f line names (di i f st) with
  | error y=>rfl
  | ok s2=>show(bg blk f s2).map _=(aH [blk] f s2).map _;rw[rV]
 | [a],st=>by
  rw[List.singleton_append,ju,rV];cases bg a f st with
  | error y=>rfl
  | ok s =>
   have:=qP (i:=i) (f:=f) (line:=line) (names:=names) blk [] s;rw[mQ,eZ] at this;exact this
 | a::c::l,st=>by
  rw[gU,gU,ju,eP];cases bg a f st with
  | error y=>rfl
  | ok s=>exact qP blk (c::l) s
theorem zb.levels {T:List Nd} {B b:Nat} {nv:Value} {ub ob f:Nat} {pa:Option Addr} {lv:Value} {ms:List Nat} {L:List cE} {st:aG} {w:World} {a s:Nat} (h:zb T B b nv ub ob f pa lv ms L st w a s) :∀l∈L,l.blk<w.heap.size:=fun l hl=>(h.pos.fk.maps l hl).1.lt
theorem aq.Ub {B b:Nat} {nv:Value} {N ub ob:Nat} {lv:Value} {L:List cE} {st s1:aG} {r:Rs aG} {w w2:World} {e:Ending} (h:aq B b nv N ub ob lv L st (r.map fun s=>s.back st) w e w2) (hn:s1.names=st.names):aq B b nv N ub ob lv L st (r.map fun s=>s.back s1) w e w2:=by
 refine h.same rfl ?_;cases r with
 | error y=>rfl
 | ok s=>exact⟨rfl,rfl,rfl,hn⟩
theorem BP {T:List Nd} {B b:Nat} {nv:Value} {ub ob:Nat} (i f:Nat) (h:Nd) (vals rest:List Lt) (loop:Int) (pa la:Option Addr) (lc:Nat) (ms:List Nat) (L:List cE) (st:aG) (w:World) (hr:eS T B b nv ub ob f pa (.slice la L.length lc) ms L st w (Lt.eY vals+(h.names.length+Lt.eY rest)) (Lt.al vals+(Lt.al rest+1))) (hx:T[i]? = some h) (hk:h.kids=(vals.map fun k=>(k.loc:Int))++rest.map fun k=>(k.loc:Int)) (BU:rest≠[]) (hn:fA T vals) (uz:fA T rest) (hV :∀k∈vals,bA T B b nv ub ob k) (hV2 :∀k∈rest,bA T B b nv ub ob k)
  (hl :∀k∈vals,k.hd.kind<18) (hst :∀k∈vals,Still k) (hL:L≠[]) (hsz :∀s∈h.names,s.size≤65536) (U7:loop=(i:Int)) (hd:gH h.kind h.kids.length=(true,(vals.length:Int),true)) :
  Calls Tryz.prog 55 #[.pointer (some ⟨b,0,none⟩),.int .i64 (i:Int),.agg #[.int .i64 (f:Int),.int .i64 loop,.pointer pa,.slice la L.length lc]] w (aq B b nv T.length ub ob (.slice la L.length lc) L st ((aH vals f st).bind fun s1=>((bw i f h.line h.names (di i f s1)).bind fun s2=>aH rest f s2).map fun s=>s.back s1) w):=by
 obtain⟨bk,o,c,rfl,eG,bX,dG⟩:=hr.ft.nodes;obtain⟨zx,zy,fE,⟨NA,nc,vL,_⟩,fu⟩:=dG i h hx;have rU:h.kids.length≤20000:=(hr.ft.small h (ba hx)).1;have o0:h.kids.length=vals.length+rest.length:=by rw[hk,bV,cN,cN]
 have hr1:1≤rest.length:=wu.2 BU;obtain⟨KA,kc,qX,Cm,Js⟩:=id fu;subst vL qX;obtain⟨sb,so,rfl⟩ :∃sb so,KA=some ⟨sb,so,none⟩:=by
  rcases Js with h0 | ⟨sb,so,h1,_⟩
  ·rw[h0] at o0;simp at o0;omega
  ·exact⟨sb,so,h1⟩
 obtain⟨x0,x1,x2,x3,x4,x5,x6⟩:=fE;have v7:i<T.length:=(aL.1 hx).1;have pN:=hr.ft.few;have hbl:b<w.heap.size:=by obtain⟨_,_,hw⟩:=hr.rs;exact hw.mL.1
 have d0:w.cell? ⟨b,0,none⟩=some (.slice (some ⟨bk,o,none⟩) T.length c):=by obtain⟨_,_,hw⟩:=hr.rs;exact ab hw.blk 0
 have gT:bk<w.heap.size:=by omega
 have HD:=aa (gI h.kind h.line h.op h.num h.s NA (some ⟨sb,so,none⟩) h.names.length nc h.kids.length kc);have VE:gF w B (.slice (some ⟨sb,so,none⟩) vals.length kc) (vals.map fun k=>(k.loc:Int)):=by
  rw[hk] at fu;have:=fu.first
  rwa[cN] at this
 have BV:gF w B (.slice (some ⟨sb,so+vals.length,none⟩) rest.length (kc-vals.length)) (rest.map fun k=>(k.loc:Int)):=by
  rw[hk] at fu;have:=fu.last;rwa[cN,cN] at this
 have y8:Hid (∀W,Below w.heap.size w W→Calls Tryz.prog 111 #[.pointer (some ⟨b,0,none⟩),.slice (some ⟨sb,so,none⟩) vals.length kc,.agg #[.int .i64 (f:Int),.int .i64 loop,.pointer pa,.slice la L.length lc]] W (aq B b (.slice (some ⟨bk,o,none⟩) T.length c) T.length ub ob (.slice la L.length lc) L st (aH vals f st) W)):=aa fun W hW =>
  qN f loop pa la lc ms L st W (.slice (some ⟨sb,so,none⟩) vals.length kc) vals ((hr.dc hW).mono (gy _ _) (gy _ _)) hn hV (VE.below (hW.mono bX)).keeps (fun k hk mo=>by have:=hl k hk;omega) (fun k _=>.inl hL) (by omega)
 have HR:=aa hr;have HN:=aa hn;have RT:=aa uz;have HV2:=aa hV2;have HST:=aa hst;have Po:=aa BV;have T9:=aa hd;have HLI:=aa U7;have HK:=aa hk;have hvl:vals.length≤kc:=by omega
 have Ti:vals.length≤h.kids.length:=by omega
 have nC:=aa hr1;have HL:=aa hL;have qE:=aa hsz;have HX:=aa hx;have sM:=aa o0;have HRL:Hid (h.kids.length-vals.length=rest.length):=aa (by omega)
 have hv2:vals.length≤20000:=by omega
 clear hr1 o0 hr hn hV hl fu VE BV hd dG hk uz hV2 hst Js U7 hL hsz hx BU;go_enter Tryz.func55,Tryz.ntmps55
 go_wp2_with fail
 refine(HD.out _ (by omega)).mono ?_
 rw[T9.out];rintro e w1 ⟨rfl,hb1⟩;have dM:=aa hb1;clear hb1;go_wp2_with fail
 have za:=lp rfl dM.out (.bool true) (.int .i64 (vals.length:Int)) (.bool true);have qO:=aa za.2;have o7:=aa za.1;clear za;clear d0 x0 x1 x2 x3 x4 x5 x6;generalize w1.alloc (.cells #[.bool true,.int .i64 (vals.length:Int),.bool true] 189)=W2 at qO o7 ⊢;generalize w1.heap.size=q at qO ⊢;generalize w.heap.size+1=p at qO ⊢;obtain⟨k0,k1,k2,k3,k4,k5,k6,k7,k8⟩:=qO.out.cells;go_still_tail 7,(by kernel_rfl)
 change wpList _ _ _ _ _ W2.drew;have D2:=aa (show Below W2.heap.size W2 W2.drew from(Below.refl _ _).drew)
 generalize W2.drew=W3 at D2 ⊢;go_wp2_with fail
 have lG:=aa (o7.out.trans (D2.out.mono o7.out.size));refine(y8.out W3 lG.out).mono ?_;intro e w4 hp;cases oW:aH vals f st with
 | error y =>
  rw[oW] at hp;obtain⟨hb,v,rfl,g2,rfl,h2⟩:=hp;have H2:=aa h2;have HB:=aa hb;have HE:Hid (((aH vals f st).bind fun s1=>((bw i f h.line h.names (di i f s1)).bind fun s2=>aH rest f s2).map fun s=>s.back s1)=.error y):=aa (by rw[oW];rfl)
  clear h2 hb oW;go_wp2_with fail
  go_ret
  rw[HE.out];exact⟨(lG.out.mono bX).trans HB.out,_,rfl,_,rfl,H2.out⟩
 | ok s1 =>
  rw[oW] at hp;have hr4:=HR.out.dc lG.out;have hst:=(gj vals oW HN.out.nodup hr4.cx HN.out.wf).1;have Qs:=qC vals HN.out.quiet HST.out oW;obtain⟨rfl,x,hx1,hx2,v8,DV⟩:=eS.step (a1:=Lt.eY vals) (s1:=Lt.al vals) hr4 (iM vals oW hr4.few) (hst.cx hr4.cx) (lj vals oW) hp;rw[Qs] at hx1;have hx0:=Y1 hx1;subst hx0;rw[jN] at v8;have P5:=aa ((qO.out.later D2.out).jo DV);have VC:=aa ((lG.out.mono bX).trans DV.below);have Pk:Hid (cJ B ob (.slice la L.length lc) L.length (ei L) w w4):=aa ((cJ.bH lG.out bX).trans DV);have L0:=aa (v8.ow i);have hz:=(v8.ow i).zero;have HZ:=aa hz;have HOP:=aa (xM loop hz);have HNM:=aa Qs;have Qr:=aa oW;have hsz5:=DV.below.size;have ads:=lG.out.size;clear hp hr4 v8 DV hst hx1 hx2 oW hz Qs k0 k1 k2 k3 k4 k5 k6 k7 k8;obtain⟨k0,k1,k2,k3,k4,k5,k6,k7,k8⟩:=P5.out.cells;go_wp2_with fail
  refine HOP.out.mono ?_;rintro e w6 ⟨g,c6,m,rfl,OL,hm,hg,QB⟩;have P6:=aa (P5.out.jo QB);have y0:=aw P6.out.pos 0;have y1:=aw P6.out.pos 1;have y2:=aw P6.out.pos 2;have y3:=aw P6.out.pos 3;have HR6:=aa OL;have HM:=aa hm;have HG:=aa hg;have OM:=aa QB;clear OL hm hg QB k0 k1 k2 k3 k4 k5 k6 k7 k8;obtain⟨k0,k1,k2,k3,k4,k5,k6,k7,k8⟩:=P6.out.cells;obtain⟨W7,we⟩ :∃W7,W7=four w6 w.heap.size (.int .i64 (f:Int)) (.int .i64 loop) (.pointer pa) (.slice (some ⟨g,0,none⟩) (L.length+1) c6):=⟨_,rfl⟩;have P7:Hid (eT w W7 p q f loop pa (.slice (some ⟨g,0,none⟩) (L.length+1) c6) (.slice (some ⟨sb,so,none⟩) h.kids.length kc) (.slice NA h.names.length nc) (.bool true) (.int .i64 (vals.length:Int)) (.bool true)):=aa (by rw[we];exact P6.out.four _ _ _)
  have kn:vK w6 w.heap.size 92:=⟨_,_,P6.out.pos⟩;have F7:Hid (Fr [92] w6 W7):=aa (by rw[we];exact vu kn _ _ _ _)
  have B7:Hid (Below B w6 W7):=aa (by rw[we];exact pI w6 bX _ _ _ _)
  have K7:Hid (∀k,k≠w.heap.size→W7.heap[k]? = w6.heap[k]?):=aa (by rw[we];exact fun k hk=>nR w6 _ _ _ _ _ k hk)
  unfold four at we;have HW7:=aa we;clear we kn;have ZI:p≠w.heap.size:=by have:=P5.out.pne;omega
  have hqn:q≠w.heap.size:=by have:=P5.out.qne;omega
  go_wp2_with fail
  rw[←HW7.out];have HZ0:=HZ.out;have hlt :∀l∈L,l.blk≠m:=fun l hl=>by have:=HZ.out.levels l hl;have:=HM.out;omega
  have BX:=HR6.out.Ua F7.out B7.out;have Vy:cJ B ob (.slice la L.length lc) L.length (ei L) w W7:=(Pk.out.trans (OM.out.FB _)).past B7.out fun k hk=>K7.out k (by omega)
  have hLV:cU W7 B (.slice la L.length lc) L:=((HZ.out.pos.fk).jo OM.out (ah _)).fr F7.out (by decide)
  have VF:(Value.slice la L.length lc).ownBlock=some g∨w.heap.size≤g:=HG.out.imp id fun h=>by omega
  have VG:w.heap.size≤m:=by have:=HM.out;omega
  have Uc:=aa BX;have Y2:=aa Vy;have Pp:=aa hLV;have HOW:=aa VF;have VH:=aa VG;have lo:=aa hlt;have hdec:Calls Tryz.prog 113 #[.pointer (some ⟨b,0,none⟩),.int .i64 (i:Int),.agg #[.int .i64 (f:Int),.int .i64 loop,.pointer pa,.slice (some ⟨g,0,none⟩) (L.length+1) c6]] W7 (aq B b (.slice (some ⟨bk,o,none⟩) T.length c) T.length ub ob (.slice (some ⟨g,0,none⟩) (L.length+1) c6) (⟨f,m,[]⟩::L) (di i f s1) (bw i f h.line h.names (di i f s1)) W7) :=
   kh b i f h loop pa (some ⟨g,0,none⟩) c6 ⟨f,m,[]⟩ L (di i f s1) W7 BX.ft BX.rs HX.out BX.cx.lt BX.pos.fk rfl (by have:=BX.fk;omega) BX.few (by simp) qE.out
  clear BX Vy hLV VF VG hlt HZ0 k0 k1 k2 k3 k4 k5 k6 k7 k8 y0 y1 y2 y3;refine hdec.mono ?_;intro e w8 hp;clear hdec;cases jP:bw i f h.line h.names (di i f s1) with
  | error y =>
   rw[jP] at hp;have HP:=aa hp;obtain⟨_,v,rfl,g2,rfl,_⟩:=hp;have HE:Hid (((aH vals f st).bind fun s1=>((bw i f h.line h.names (di i f s1)).bind fun s2=>aH rest f s2).map fun s=>s.back s1)=.error y):=aa (by rw[Qr.out];show Except.map _ (Except.bind _ _)=_;rw[jP];rfl)
   clear jP;go_wp2_with fail
   go_ret
   rw[HE.out];exact(aq.inner (st:=st) Y2.out Pp.out lo.out HOW.out VH.out HP.out).same rfl rfl
  | ok s2 =>
   rw[jP] at hp;obtain⟨Pm,vt,_⟩:=nK jP Uc.out.cx;obtain⟨rfl,x,hx1,hx2,Ud,Ue⟩:=eS.step (a1:=h.names.length) (s1:=0) (by rw[jX];exact Uc.out) (jL jP Uc.out.few) (Pm.cx Uc.out.cx) vt hp
   have P9:=aa (P7.out.jo Ue);have HC:Hid (∀W,Below w8.heap.size w8 W→Calls Tryz.prog 111 #[.pointer (some ⟨b,0,none⟩),.slice (some ⟨sb,so+vals.length,none⟩) rest.length (kc-vals.length),.agg #[.int .i64 (f:Int),.int .i64 loop,.pointer pa,.slice (some ⟨g,0,none⟩) (L.length+1) c6]] W (aq B b (.slice (some ⟨bk,o,none⟩) T.length c) T.length ub ob (.slice (some ⟨g,0,none⟩) (L.length+1) c6) (grow x (⟨f,m,[]⟩::L)) s2 (aH rest f s2) w8)):=aa fun W hW =>
    (DU f loop pa (some ⟨g,0,none⟩) c6 ms (⟨f,m,[]⟩::L) x s2 W (.slice (some ⟨sb,so+vals.length,none⟩) rest.length (kc-vals.length)) rest (Ud.dc hW) RT.out HV2.out (Po.out.below ((Y2.out.below.trans Ue.below).trans (hW.mono Ud.world))) (fun k hk mo=>by rw[tE vt,HLI.out];exact(vi f i _).symm) (fun k _=>.inl (by simp)) (by have:=sM.out;omega)).mono fun e w' h=>h.from hW Ud.world
   have YC:=aa Ue;have Ph:=aa hx1;have HE:Hid (((aH vals f st).bind fun s1=>((bw i f h.line h.names (di i f s1)).bind fun s2=>aH rest f s2).map fun s=>s.back s1)=(aH rest f s2).map fun s=>s.back s1):=aa (by rw[Qr.out];show Except.map _ (Except.bind _ _)=_;rw[jP];rfl)
   clear hp Ud Ue Pm vt hx1 hx2 jP;obtain⟨k0,k1,k2,k3,k4,k5,k6,k7,k8⟩:=P9.out.cells;go_wp2_with fail
   have Qn:vals.length<kc:=by have:=nC.out;have:=sM.out;omega
   go_still_tail 7,(by kernel_rfl)
   change wpList _ _ _ _ _ w8.drew;have VD:=aa (HC.out w8.drew (Below.refl _ _).drew);generalize w8.drew=W9 at VD ⊢;go_wp2_with fail
   rw[HRL.out];refine VD.out.mono ?_;intro e w10 hp;obtain⟨v,rfl⟩:=hp.ret;have HP:=aa hp;clear hp;go_wp2_with fail
   go_ret
   rw[HE.out];exact(aq.inner (st:=st) Y2.out Pp.out lo.out HOW.out VH.out (aq.trans (L:=⟨f,m,[]⟩::L) (st1:=s2) (x:=x) YC.out.below YC.out Ph.out (fun e=>by cases e) HP.out)).Ub HNM.out
end Go.Proofs.YteflkdlaoiijbaaGreatDoor
namespace Go.Proofs.YteflkdlaoiijbaaGreatDoor
open Go.RowKit
def wg (i f:Nat) (rep:Bool) (ks tests:List Lt) (st:aG):Rs aG:=(gX i f rep ks (st.setOf i f)).bind fun s1=>(cM ks 0 f s1).bind fun s2=>aH tests f s2
theorem bW.but {W W':World} {B kb:Nat} (h2 :∀k,k≠kb→k<W.heap.size→W'.heap[k]? = W.heap[k]?) :∀{fs:List (Nat×Nat×(ByteArray→Option Value))} {ms:List Nat} {p:Option Addr},bW W B fs ms (.pointer p)→(∀a,p=some a→a.block<kb)→(∀m∈ms,m≠kb)→bW W' B fs ms (.pointer p)
 | [],_,_,h,_,_=>h
 | x::fs,ms,p,h,hp,hm=>by
  obtain⟨k',p',m,Cs,e,rfl,h1,h3,h4,h5,h6,h7⟩:=h;injection e with e;have hk:=hp _ e;replace hk:k' < kb:=hk;exact⟨k',p',m,Cs,by rw[e],rfl,h1,(h2 k' (by omega) (aI.1 h3).1).trans h3,h4.same (h2 m (hm m (bU ..)) h4.lt),h5,h6,bW.but h2 h7 (fun a ha=>Nat.lt_trans (h6 a ha) hk) fun x hx=>hm x (bY _ hx)⟩
theorem bW.first {W:World} {B:Nat} {fs:List (Nat×Nat×(ByteArray→Option Value))} {ms:List Nat} {p:Option Addr} (h:bW W B fs ms (.pointer p)) :∀a,p=some a→a.block<W.heap.size:=by
 intro a ha;cases fs with
 | nil=>rw[ha] at h;cases h.2
 | cons x fs =>
  obtain⟨k',_,_,_,e,_,_,h3,_⟩:=h;injection e with e;rw[ha] at e;injection e with e;rw[e];exact(aI.1 h3).1
section
variable {T:List Nd} {B b:Nat} {nv:Value} {ub ob f kb mb i n:Nat} {rep:Bool} {ks:List Lt} {pa:Option Addr} {lv:Value} {ms:List Nat} {L:List cE} {st:aG} {w w':World} {a s:Nat}
theorem eS.BY (h:eS T B b nv ub ob f pa lv ms L st w a s) (hk:w.heap[kb]? = some (.cells #[.pointer pa,.map (some mb),.int .i64 (gS ks (n+1):Int)] 195 (0,0))) (hm:dA Tryz.prog 9 w mb ks.length (fy ks rep ks.length)) (hBk:B≤kb) (hBm:B≤mb) (TR :∀a,pa=some a→a.block<kb) (hap :∀l∈L,mb≠l.blk) :
  eS T B b nv ub ob f (some ⟨kb,0,none⟩) lv (mb::ms) L { st with frames:=⟨f,i,n,false,rep,ks⟩::st.frames} w a s:=by
 refine⟨h.ft,?_,⟨h.pos.fk,?_,h.pos.names,fun m hm l hl=>?_⟩,h.hd,⟨h.cx.ok,h.cx.lt,h.cx.names⟩,h.few,fun x hx=>?_,h.names,h.fns,h.fk⟩
 ·obtain⟨fv,FL,hw⟩:=h.rs
  exact⟨fv,FL,hw.on rfl rfl rfl⟩
 ·show oY w B (dw f (⟨f,i,n,false,rep,ks⟩::st.frames)) (mb::ms) _
  rw[vb (f:=f) (x:=⟨f,i,n,false,rep,ks⟩) rfl rfl];exact⟨kb,pa,mb,ms,rfl,rfl,hBk,hk,hm,hBm,TR,h.pos.blk⟩
 ·rcases bn.1 hm with rfl|hm
  ·exact hap l hl
  ·exact h.pos.apart m hm l hl
 ·rcases bn.1 hx with rfl|hx
  ·exact h.cx.lt
  ·exact h.fr x hx
theorem eS.Uf {Pq:List fw} {v:Value} (h:eS T B b nv ub ob f (some ⟨kb,0,none⟩) lv (mb::ms) L st w a s) (hf:st.frames=⟨f,i,n,false,rep,ks⟩::Pq) (hk:w.heap[kb]? = some (.cells #[.pointer pa,.map (some mb),v] 195 (0,0))) :
  eS T B b nv ub ob f pa lv ms L { st with frames:=Pq} w a s∧dA Tryz.prog 9 w mb ks.length (fy ks rep ks.length):=by
 have hb:oY w B (dw f st.frames) (mb::ms) (.pointer (some ⟨kb,0,none⟩)):=h.pos.blk;rw[hf,vb (f:=f) (x:=⟨f,i,n,false,rep,ks⟩) rfl rfl] at hb;obtain⟨k',p',m,Cs,e,e2,h1,h3,h4,h5,h6,h7⟩:=hb;injection e with e;injection e with e;injection e with e;subst e;injection e2 with e2 e3;subst e2 e3;rw[hk] at h3;injection h3 with h3;injection h3 with h3;have h8:[Value.pointer pa,.map (some mb),v]=[.pointer p',.map (some mb),.int .i64 (gS ks (n+1):Int)]:=ax Array.toList h3;injection h8 with h8 _;injection h8 with h8;subst h8;refine⟨⟨h.ft,?_,⟨h.pos.fk,h7,h.pos.names,fun m hm l hl=>h.pos.apart m (bY _ hm) l hl⟩,h.hd,⟨h.cx.ok,h.cx.lt,h.cx.names⟩,h.few,fun x hx=>h.fr x (by rw[hf];exact bY _ hx),h.names,h.fns,h.fk⟩,h4⟩
 obtain⟨fv,FL,hw⟩:=h.rs;exact⟨fv,FL,hw.on rfl rfl rfl⟩
theorem eS.but (h:eS T B b nv ub ob f pa lv ms L st w a s) (k:Fr [195] w w') (hb:Below B w w') (h2 :∀j,j≠kb→j<w.heap.size→w'.heap[j]? = w.heap[j]?) (TR :∀a,pa=some a→a.block<kb) (hm :∀m∈ms,m≠kb):eS T B b nv ub ob f pa lv ms L st w' a s:=by
 refine⟨h.ft.below hb,?_,⟨h.pos.fk.fr k (by decide),bW.but h2 h.pos.blk TR hm,h.pos.names,h.pos.apart⟩,h.hd,h.cx,h.few,h.fr,h.names,h.fns,h.fk⟩
 obtain⟨fv,FL,hw⟩:=h.rs;exact⟨fv,FL,hw.fr k (by decide)⟩
theorem eS.grown (h:eS T B b nv ub ob f pa lv ms L st w a s) (hg:w.grownBy w' (some mb)) (hm :∃es c,w.heap[mb]? = some (.map es c)) (hB:B≤mb) (h1:mb∉ms) (h2 :∀l∈L,mb≠l.blk):eS T B b nv ub ob f pa lv ms L st w' a s:=by
 have bX:=h.world;refine⟨h.ft.below (ki hg hB bX),?_,⟨⟨im (eR hg hm) h.pos.fk.row,fun l hl=>⟨(h.pos.fk.maps l hl).1.same (hg.block _ (h.pos.fk.maps l hl).1.lt fun e=>h2 l hl (by injection e with e;exact e.symm)),(h.pos.fk.maps l hl).2⟩,h.pos.fk.own,h.pos.fk.apart⟩,bW.grown hg hm h.pos.blk h1,h.pos.names,h.pos.apart⟩,h.hd,h.cx,h.few,h.fr,h.names,h.fns,h.fk⟩
 obtain⟨fv,FL,hw⟩:=h.rs;exact⟨fv,FL,hw.keep (eR hg hm)⟩
theorem cU.grown (h:cU w B lv L) (hg:w.grownBy w' (some mb)) (hm :∃es c,w.heap[mb]? = some (.map es c)) (h2 :∀l∈L,mb≠l.blk):cU w' B lv L :=
 ⟨im (eR hg hm) h.row,fun l hl=>⟨(h.maps l hl).1.same (hg.block _ (h.maps l hl).1.lt fun e=>h2 l hl (by injection e with e;exact e.symm)),(h.maps l hl).2⟩,h.own,h.apart⟩
end
theorem qJ.inner {B ob g c m n:Nat} {lv kv:Value} {top:Option Nat} {w w1:World} {xs:List Int} (h:qJ B ob lv n top w kv xs) (h1:cJ B ob lv n top w w1) (hg:lv.ownBlock=some g∨w.heap.size≤g) (hm:w.heap.size≤m):qJ B ob (.slice (some ⟨g,0,none⟩) (n+1) c) (n+1) (some m) w1 kv xs:=by
 obtain⟨A,c',e,hc,h2⟩:=h;refine⟨A,c',e,hc,h2.imp id ?_⟩;rintro⟨bk,o,e2,hx⟩;exact⟨bk,o,e2,fun w' hf=>hx w' (h1.inner hg hm hf)⟩
theorem BZ {i f:Nat} {rep:Bool} {ks:List Lt} {st:aG}:gX i f rep ks st=match cA st.frames f ks 0 ks with|some l=>.error (9,l)|none=>.ok { st with frames:=⟨f,i,0,false,rep,ks⟩::st.frames}:=rfl
end Go.Proofs.YteflkdlaoiijbaaGreatDoor
