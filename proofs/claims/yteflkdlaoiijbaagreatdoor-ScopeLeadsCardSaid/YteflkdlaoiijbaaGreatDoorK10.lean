/- Parts of the proof. -/
import Derived.RangeFuncNested
import Derived.RangeFuncBound
import Derived.RangeFuncCalls
import Derived.RangeFuncLeaves
import Derived.Shelf.Abstract
import Derived.OwnWalkIn
import Derived.TacticsInMore
import Derived.LoopNIn
import Derived.LoopIn
import Derived.Test.YteflkdlaoiijbaaGreatDoorK09
set_option maxHeartbeats 16000000
set_option maxRecDepth 20000
namespace Go.Proofs.YteflkdlaoiijbaaGreatDoor
open Go.RowKit
def acP (o:Obj):Prop:=∀c e fz,o ≠ .cells c e fz
structure Fr (E:List Nat) (W W':World):Prop where
 size:W.heap.size≤W'.heap.size
 cells :∀(k:Nat) c (e:TypeId) fz,W.heap[k]? = some (.cells c e fz)→e∉E→W'.heap[k]? = some (.cells c e fz)
 others :∀(k:Nat) o,W.heap[k]? = some o→acP o→W'.heap[k]? = some o
theorem Fr.maps {E:List Nat} {W W':World} (h:Fr E W W') :∀(k:Nat) es c,W.heap[k]? = some (.map es c)→W'.heap[k]? = some (.map es c):=fun k _ _ hk=>h.others k _ hk fun _ _ _ e=>by cases e
section
variable {E E':List Nat} {W W' W2:World}
theorem Fr.refl (E:List Nat) (W:World):Fr E W W:=⟨ah _,fun _ _ _ _ h _=>h,fun _ _ h _=>h⟩
theorem Fr.trans (h:Fr E W W') (k:Fr E W' W2):Fr E W W2:=⟨aM h.size k.size,fun i c e fz hi he=>k.cells i c e fz (h.cells i c e fz hi he) he,fun i o hi ho=>k.others i o (h.others i o hi ho) ho⟩
theorem Fr.mono (h:Fr E W W') (he :∀e∈E,e∈E'):Fr E' W W':=⟨h.size,fun i c e fz hi hn=>h.cells i c e fz hi fun hm=>hn (he e hm),h.others⟩
theorem Fr.ae (h:Below W.heap.size W W'):Fr E W W':=⟨h.size,fun k _ _ _ hk _=>(h.block k (aF.1 hk).1).trans hk,fun k _ hk _=>(h.block k (aF.1 hk).1).trans hk⟩
theorem Fr.alloc (o:Obj):Fr E W (W.alloc o):=Fr.ae ((Below.refl _ W).alloc (ah _) o)
theorem Fr.drew (h:Fr E W W'):Fr E W W'.drew:=⟨h.size,h.cells,h.others⟩
theorem Fr.set {g:Nat} {cs:Array Value} {ty:TypeId} {fz:Nat×Nat} (h:W.heap[g]? = some (.cells cs ty fz)) (he:ty∈E) (j:Nat) (v:Value):Fr E W (W.setCell ⟨g,j,none⟩ v) :=
 ⟨by simp[World.setCell],fun k c e f hk hn=>(Below.heap_setCell W ⟨g,j,none⟩ v k (fun(e':k=g)=>by
  subst e';rw[h] at hk;injection hk with hk;injection hk with _ hk;exact hn (hk▸he))).trans hk,fun k o hk ho=>(Below.heap_setCell W ⟨g,j,none⟩ v k (fun(e':k=g)=>by
  subst e';rw[h] at hk;injection hk with hk;exact ho _ _ _ hk.symm)).trans hk⟩
theorem Fr.but {B ty s n:Nat} {v:Value} {xs:List Value} (hr:W.ownsRow B ty s v n xs) (he:ty∈E) (h:qW v.ownBlock W W'):Fr E W W':=by
 have key :∀(k:Nat) (o:Obj),W.heap[k]? = some o→(∀c fz,o ≠ .cells c ty fz)→W'.heap[k]? = some o:=fun k o hk ho=>(h.2 k (aF.1 hk).1 fun ek=>by
  obtain⟨c,fz,h1⟩:=Lib.ownsRow_kind hr k ek;rw[hk] at h1;injection h1 with h1;exact ho _ _ h1).trans hk
 exact⟨h.1,fun k c e fz hk hn=>key k _ hk fun c' XZ e1=>by injection e1 with _ e1;exact hn (e1▸he),fun k o hk ho=>key k _ hk fun _ _ e1=>ho _ _ _ e1⟩
theorem Fr.row {B e s n:Nat} {v:Value} {xs:List Value} (h:Fr E W W') (hr:W.ownsRow B e s v n xs) (he:e∉E):W'.ownsRow B e s v n xs:=by
 refine⟨hr.1,?_⟩;rcases hr.2 with hn | ⟨g,cap,cur,rfl,hB,hg,rest⟩
 ·exact .inl hn
 ·exact .inr ⟨g,cap,cur,rfl,hB,h.cells g _ _ _ hg he,rest⟩
theorem Fr.map {P:Program} {k:TypeId} {b n:Nat} {f:ByteArray→Option Value} (h:Fr E W W') (hm:dP P k W b n f):dP P k W' b n f:=by
 obtain⟨es,c,h1⟩:=hm.isMap;exact hm.same ((h.maps b es c h1).trans h1.symm)
theorem Fr.DE {ty:TypeId} (h:Fr [ty] W W'):JM ty W W':=⟨h.size,fun k c e fz hk he=>h.cells k c e fz hk (by simpa using he)⟩
end
structure mz (W:World) (B:Nat) (v:Value) (L:List mB):Prop where
 row:W.ownsRow B 52 6 v L.length (L.flatMap NH)
 vars :∀t∈L,W.ownsRow B 61 3 t.2.1 t.1.vars.length (t.1.vars.flatMap th)
 ch :∀t∈L,W.ownsRow B 59 2 t.2.2 t.1.ch.length (t.1.ch.flatMap Fp)
 pD :∀(i j:Nat) t u,i≠j→L[i]? = some t→L[j]? = some u→∀g,t.2.1.ownBlock=some g→u.2.1.ownBlock≠some g
 qB :∀(i j:Nat) t u,i≠j→L[i]? = some t→L[j]? = some u→∀g,t.2.2.ownBlock=some g→u.2.2.ownBlock≠some g
theorem mz.DE {W W':World} {B:Nat} {ty:TypeId} {v:Value} {L:List mB} (h:mz W B v L) (ho:JM ty W W') (h1:(52:Nat)≠ty) (h2:(61:Nat)≠ty) (h3:(59:Nat)≠ty):mz W' B v L :=
 ⟨dd h.row ho h1,fun t ht=>dd (h.vars t ht) ho h2,fun t ht=>dd (h.ch t ht) ho h3,h.pD,h.qB⟩
theorem mz.form {W:World} {B:Nat} {fv:Value} {L:List mB} (h:mz W B fv L) {f:Nat} {t:mB} (hf:L[f]? = some t) :∃g c,fv=.slice (some ⟨g,0,none⟩) L.length c∧B≤g∧g<W.heap.size∧∀j,j<6→W.cell? ⟨g,f*6+j,none⟩=(NH t)[j]?∧W.frozen? ⟨g,f*6+j,none⟩=false:=by
 have hl:=(aJ.1 hf).1;rcases h.row.2 with ⟨_,h0⟩ | ⟨g,cap,cur,rfl,hB,hg,_⟩
 ·omega
 ·refine⟨g,cap,rfl,hB,(aF.1 hg).1,fun j hj=>⟨?_,World.ownsRow.frozenAt h.row _⟩⟩
  rw[World.ownsRow.cellAt h.row (f*6+j) (by omega)]
  exact ez qz L f j t hf hj
theorem mz.NM {W W1:World} {B:Nat} {g c f:Nat} {L:List mB} {t:mB} (h:mz W B (.slice (some ⟨g,0,none⟩) L.length c) L) (hf:L[f]? = some t) (hb:qW t.2.1.ownBlock W W1) {v':Value} {vs:List mw} (hv:W1.ownsRow B 61 3 v' vs.length (vs.flatMap th)) (hn :∀k,v'.ownBlock=some k→t.2.1.ownBlock=some k∨W.heap.size≤k) :
  mz (W1.setCell ⟨g,f*6+4,none⟩ v') B (.slice (some ⟨g,0,none⟩) L.length c) (L.set f ({ t.1 with vars:=vs},v',t.2.2)):=by
 have hl:=(aJ.1 hf).1;have IL:=aL hf;have qC:=hb.row h.row (fun k hk e=>eo h.row (h.vars t IL) (by decide) k hk e)
 have hst:=(World.ownsRow.stored qC (f*6+4) v').1;have ML :∃cs fz,W1.heap[g]? = some (.cells cs 52 fz):=Lib.ownsRow_kind qC g rfl;obtain⟨cs,fz,SX⟩:=ML;have DF:=JM.set SX (f*6+4) v';refine⟨?_,fun u hu=>?_,fun u hu=>?_,fun i j u w' vR hi hj k hk=>?_,fun i j u w' vR hi hj k hk=>?_⟩
 ·rw[mg,qA qz L f 4 t _ v' hf (by omega) rfl]
  exact hst
 ·obtain⟨i,hi⟩:=jV.1 hu
  by_cases e:f=i
  ·subst e
   rw[ec hl] at hi;injection hi with hi;subst hi;exact dd hv DF (by decide)
  ·rw[fJ e] at hi
   exact dd (hb.row (h.vars u (aL hi)) (fun k hk=>fun ek=>h.pD i f u t (fun e'=>e e'.symm) hi hf k hk ek)) DF (by decide)
 ·obtain⟨i,hi⟩:=jV.1 hu
  have key :∀u∈L,(W1.setCell ⟨g,f*6+4,none⟩ v').ownsRow B 59 2 u.2.2 u.1.ch.length (u.1.ch.flatMap Fp):=fun u hu=>dd (hb.row (h.ch u hu) (fun k hk e=>eo (h.ch u hu) (h.vars t IL) (by decide) k hk e)) DF (by decide)
  by_cases e:f=i
  ·subst e
   rw[ec hl] at hi;injection hi with hi;subst hi;exact key t IL
  ·rw[fJ e] at hi
   exact key u (aL hi)
 ·by_cases e1:f=i
  ·subst e1
   rw[ec hl] at hi;injection hi with hi;subst hi;rw[fJ vR] at hj;intro hk2;rcases hn k hk with h1|h1
   ·exact h.pD f j t w' vR hf hj k h1 hk2
   ·have:=((h.vars w' (aL hj)).lt k hk2).2
    omega
  ·rw[fJ e1] at hi
   by_cases e2:f=j
   ·subst e2
    rw[ec hl] at hj;injection hj with hj;subst hj;intro hk2;rcases hn k hk2 with h1|h1
    ·exact h.pD i f u t vR hi hf k hk h1
    ·have:=((h.vars u (aL hi)).lt k hk).2
     omega
   ·rw[fJ e2] at hj
    exact h.pD i j u w' vR hi hj k hk
 ·have key :∀(i:Nat) u,(L.set f ({ t.1 with vars:=vs},v',t.2.2))[i]? = some u→∃u',L[i]? = some u'∧u.2.2=u'.2.2:=fun i u hi=>by
   by_cases e1:f=i
   ·subst e1
    rw[ec hl] at hi;injection hi with hi;subst hi;exact⟨t,hf,rfl⟩
   ·rw[fJ e1] at hi
    exact⟨u,hi,rfl⟩
  obtain⟨u1,a1,a2⟩:=key i u hi;obtain⟨u2,b1,b2⟩:=key j w' hj;rw[a2] at hk;rw[b2];exact h.qB i j u1 u2 vR a1 b1 k hk
theorem mz.SY {W W1:World} {B:Nat} {g c f:Nat} {L:List mB} {t:mB} (h:mz W B (.slice (some ⟨g,0,none⟩) L.length c) L) (hf:L[f]? = some t) (hb:qW t.2.2.ownBlock W W1) {v':Value} {vs:List sO} (hv:W1.ownsRow B 59 2 v' vs.length (vs.flatMap Fp)) (hn :∀k,v'.ownBlock=some k→t.2.2.ownBlock=some k∨W.heap.size≤k) :
  mz (W1.setCell ⟨g,f*6+5,none⟩ v') B (.slice (some ⟨g,0,none⟩) L.length c) (L.set f ({ t.1 with ch:=vs},t.2.1,v')):=by
 have hl:=(aJ.1 hf).1;have IL:=aL hf;have qC:=hb.row h.row (fun k hk e=>eo h.row (h.ch t IL) (by decide) k hk e)
 have hst:=(World.ownsRow.stored qC (f*6+5) v').1;obtain⟨cs,fz,SX⟩ :∃cs fz,W1.heap[g]? = some (.cells cs 52 fz):=Lib.ownsRow_kind qC g rfl;have DF:=JM.set SX (f*6+5) v';refine⟨?_,fun u hu=>?_,fun u hu=>?_,fun i j u w' vR hi hj k hk=>?_,fun i j u w' vR hi hj k hk=>?_⟩
 ·rw[mg,qA qz L f 5 t _ v' hf (by omega) rfl]
  exact hst
 ·obtain⟨i,hi⟩:=jV.1 hu
  have key :∀u∈L,(W1.setCell ⟨g,f*6+5,none⟩ v').ownsRow B 61 3 u.2.1 u.1.vars.length (u.1.vars.flatMap th):=fun u hu=>dd (hb.row (h.vars u hu) (fun k hk e=>eo (h.vars u hu) (h.ch t IL) (by decide) k hk e)) DF (by decide)
  by_cases e:f=i
  ·subst e
   rw[ec hl] at hi;injection hi with hi;subst hi;exact key t IL
  ·rw[fJ e] at hi
   exact key u (aL hi)
 ·obtain⟨i,hi⟩:=jV.1 hu
  by_cases e:f=i
  ·subst e
   rw[ec hl] at hi;injection hi with hi;subst hi;exact dd hv DF (by decide)
  ·rw[fJ e] at hi
   exact dd (hb.row (h.ch u (aL hi)) (fun k hk=>fun ek=>h.qB i f u t (fun e'=>e e'.symm) hi hf k hk ek)) DF (by decide)
 ·have key :∀(i:Nat) u,(L.set f ({ t.1 with ch:=vs},t.2.1,v'))[i]? = some u→∃u',L[i]? = some u'∧u.2.1=u'.2.1:=fun i u hi=>by
   by_cases e1:f=i
   ·subst e1
    rw[ec hl] at hi;injection hi with hi;subst hi;exact⟨t,hf,rfl⟩
   ·rw[fJ e1] at hi
    exact⟨u,hi,rfl⟩
  obtain⟨u1,a1,a2⟩:=key i u hi;obtain⟨u2,b1,b2⟩:=key j w' hj;rw[a2] at hk;rw[b2];exact h.pD i j u1 u2 vR a1 b1 k hk
 ·by_cases e1:f=i
  ·subst e1
   rw[ec hl] at hi;injection hi with hi;subst hi;rw[fJ vR] at hj;intro hk2;rcases hn k hk with h1|h1
   ·exact h.qB f j t w' vR hf hj k h1 hk2
   ·have:=((h.ch w' (aL hj)).lt k hk2).2
    omega
  ·rw[fJ e1] at hi
   by_cases e2:f=j
   ·subst e2
    rw[ec hl] at hj;injection hj with hj;subst hj;intro hk2;rcases hn k hk2 with h1|h1
    ·exact h.qB i f u t vR hi hf k hk h1
    ·have:=((h.ch u (aL hi)).lt k hk).2
     omega
   ·rw[fJ e2] at hj
    exact h.qB i j u w' vR hi hj k hk
structure e9 (W:World) (B b:Nat) (nv:Value) (N:Nat) (st:aH) (fv:Value) (ub ob:Nat) (L:List mB):Prop where
 blk:W.heap[b]? = some (.cells #[nv,fv,.slice (some ⟨ub,0,none⟩) N N,.slice (some ⟨ob,0,none⟩) N N] 87 (0,0))
 fns:mz W B fv L
 are:L.map (·.1)=st.fns
 uses:e8 W B 57 2 ub N (pC st.uses)
 mC:e8 W B 3 1 ob N (PX st.of)
 pos:B≤b
section
variable {W W1 W':World} {B b:Nat} {nv:Value} {N:Nat} {st:aH} {fv:Value} {ub ob:Nat} {L:List mB}
theorem e9.on {s2:aH} (h:e9 W B b nv N st fv ub ob L) (e1:s2.fns=st.fns) (e2:s2.uses=st.uses) (e3:s2.of=st.of):e9 W B b nv N s2 fv ub ob L :=
 ⟨h.blk,h.fns,by rw[e1];exact h.are,by rw[e2];exact h.uses,by rw[e3];exact h.mC,h.pos⟩
theorem e9.fr {E:List Nat} (h:e9 W B b nv N st fv ub ob L) (k:Fr E W W') (he:(87:Nat)∉E∧(52:Nat)∉E∧(61:Nat)∉E∧(59:Nat)∉E∧(57:Nat)∉E∧(3:Nat)∉E):e9 W' B b nv N st fv ub ob L :=
 ⟨k.cells b _ _ _ h.blk he.1,⟨k.row h.fns.row he.2.1,fun t ht=>k.row (h.fns.vars t ht) he.2.2.1,fun t ht=>k.row (h.fns.ch t ht) he.2.2.2.1,h.fns.pD,h.fns.qB⟩,h.are,k.row h.uses he.2.2.2.2.1,k.row h.mC he.2.2.2.2.2,h.pos⟩
theorem e9.drew (h:e9 W B b nv N st fv ub ob L):e9 W.drew B b nv N st fv ub ob L:=h.fr (E:=[]) (Fr.refl _ W).drew (by decide)
theorem e9.alloc (h:e9 W B b nv N st fv ub ob L) (o:Obj):e9 (W.alloc o) B b nv N st fv ub ob L:=h.fr (E:=[]) (Fr.alloc o) (by decide)
theorem e9.later (h:e9 W B b nv N st fv ub ob L) (hb:Below W.heap.size W W'):e9 W' B b nv N st fv ub ob L:=h.fr (E:=[]) (Fr.ae hb) (by decide)
theorem e9.NN (h:e9 W B b nv N st fv ub ob L) (ho:Fr [57] W W') {u:Nat→Int×Int} (hu:e8 W' B 57 2 ub N (pC u)):e9 W' B b nv N { st with uses:=u} fv ub ob L :=
 ⟨ho.cells b _ _ _ h.blk (by decide),h.fns.DE ho.DE (by decide) (by decide) (by decide),h.are,hu,ho.row h.mC (by decide),h.pos⟩
theorem e9.SZ (h:e9 W B b nv N st fv ub ob L) (ho:Fr [3] W W') {o:Nat→Int} (hu:e8 W' B 3 1 ob N (PX o)):e9 W' B b nv N { st with of:=o} fv ub ob L :=
 ⟨ho.cells b _ _ _ h.blk (by decide),h.fns.DE ho.DE (by decide) (by decide) (by decide),h.are,ho.row h.uses (by decide),hu,h.pos⟩
theorem lV (h:e9 W B b nv N st fv ub ob L) (i:Nat) (x y:Value):Fr [57] W ((W.setCell ⟨ub,i*2,none⟩ x).setCell ⟨ub,i*2+1,none⟩ y):=by
 obtain⟨cs,hc⟩:=lj h.uses;obtain⟨cs',hc'⟩:=lj (qy h.uses (i*2) x);exact(Fr.set hc (by decide) _ _).trans (Fr.set hc' (by decide) _ _)
theorem e9.use (h:e9 W B b nv N st fv ub ob L) (i:Nat) (x:Int×Int):e9 ((W.setCell ⟨ub,i*2,none⟩ (.int .i64 x.1)).setCell ⟨ub,i*2+1,none⟩ (.int .i64 x.2)) B b nv N (st.dw i x) fv ub ob L :=
 h.NN (lV h i _ _) (NI h.uses i x)
theorem vi (h:e9 W B b nv N st fv ub ob L) (i:Nat) (x:Value):Fr [3] W (W.setCell ⟨ob,i,none⟩ x):=by
 obtain⟨cs,hc⟩:=lj h.mC;exact Fr.set hc (by decide) _ _
theorem e9.of_ (h:e9 W B b nv N st fv ub ob L) (i f:Nat):e9 (W.setCell ⟨ob,i,none⟩ (.int .i64 (f:Int))) B b nv N (st.setOf i f) fv ub ob L :=
 h.SZ (vi h i _) (XY h.mC i (f:Int))
theorem e9.jf (h:e9 W B b nv N st fv ub ob L):B≤ub∧B≤ob:=⟨(h.uses.lt ub rfl).1,(h.mC.lt ob rfl).1⟩
theorem vj (h:e9 W B b nv N st fv ub ob L) (i:Nat) (x y:Value):Below B W ((W.setCell ⟨ub,i*2,none⟩ x).setCell ⟨ub,i*2+1,none⟩ y):=((Below.refl B W).setCell (p:=⟨ub,i*2,none⟩) h.jf.1 x).setCell (p:=⟨ub,i*2+1,none⟩) h.jf.1 y
theorem e9.Bj {W2:World} (h:e9 W B b nv N st fv ub ob L) {ty:TypeId} (ho:Fr [ty] W W1) (h1:(87:Nat)≠ty∧(57:Nat)≠ty∧(3:Nat)≠ty) (IM:Fr [52] W1 W2) {L':List mB} {F':List dr} (hF:mz W2 B fv L') (ha:L'.map (·.1)=F'):e9 W2 B b nv N { st with fns:=F'} fv ub ob L' :=
 ⟨IM.cells b _ _ _ (ho.cells b _ _ _ h.blk (by simpa using h1.1)) (by decide),hF,ha,IM.row (ho.row h.uses (by simpa using h1.2.1)) (by decide),IM.row (ho.row h.mC (by simpa using h1.2.2)) (by decide),h.pos⟩
theorem e9.sQ (h:e9 W B b nv N st fv ub ob L) {f:Nat} {t:mB} (hf:L[f]? = some t):st.fns[f]? = some t.1∧st.fn f=t.1:=by
 have:st.fns[f]? = some t.1:=by rw[←h.are,fw,hf];rfl
 exact⟨this,by unfold aH.fn;rw[jU,this];rfl⟩
theorem e9.Bk (h:e9 W B b nv N st fv ub ob L) {f:Nat} (hf:f<st.fns.length) :∃t,L[f]? = some t:=⟨L[f]'(by have:=aB List.length h.are;rw[cy] at this;omega),bE _⟩
theorem e9.len (h:e9 W B b nv N st fv ub ob L):L.length=st.fns.length:=by have:=aB List.length h.are;rwa[cy] at this
theorem e9.NO {g c f:Nat} {t:mB} (h:e9 W B b nv N st (.slice (some ⟨g,0,none⟩) L.length c) ub ob L) (hf:L[f]? = some t) (hb:qW t.2.1.ownBlock W W1) {v':Value} {vs:List mw} (hv:W1.ownsRow B 61 3 v' vs.length (vs.flatMap th)) (hn :∀k,v'.ownBlock=some k→t.2.1.ownBlock=some k∨W.heap.size≤k) :
  e9 (W1.setCell ⟨g,f*6+4,none⟩ v') B b nv N (st.oP f { t.1 with vars:=vs}) (.slice (some ⟨g,0,none⟩) L.length c) ub ob (L.set f ({ t.1 with vars:=vs},v',t.2.2))∧Fr [52,61,59] W (W1.setCell ⟨g,f*6+4,none⟩ v'):=by
 have IL:=aL hf;have ho:Fr [61] W W1:=Fr.but (h.fns.vars t IL) (by decide) hb
 have qC:=hb.row h.fns.row (fun k hk e=>eo h.fns.row (h.fns.vars t IL) (by decide) k hk e)
 obtain⟨cs,fz,SX⟩ :∃cs fz,W1.heap[g]? = some (.cells cs 52 fz):=Lib.ownsRow_kind qC g rfl;refine⟨h.Bj ho (by decide) (Fr.set SX (by decide) (f*6+4) v') (h.fns.NM hf hb hv hn) ?_,(ho.mono (by decide)).trans ((Fr.set (E:=[52]) SX (by decide) _ _).mono (by decide))⟩
 rw[nM,h.are]
theorem e9.S3 {g c f:Nat} {t:mB} (h:e9 W B b nv N st (.slice (some ⟨g,0,none⟩) L.length c) ub ob L) (hf:L[f]? = some t) (hb:qW t.2.2.ownBlock W W1) {v':Value} {vs:List sO} (hv:W1.ownsRow B 59 2 v' vs.length (vs.flatMap Fp)) (hn :∀k,v'.ownBlock=some k→t.2.2.ownBlock=some k∨W.heap.size≤k) :
  e9 (W1.setCell ⟨g,f*6+5,none⟩ v') B b nv N (st.oP f { t.1 with ch:=vs}) (.slice (some ⟨g,0,none⟩) L.length c) ub ob (L.set f ({ t.1 with ch:=vs},t.2.1,v'))∧Fr [52,61,59] W (W1.setCell ⟨g,f*6+5,none⟩ v'):=by
 have IL:=aL hf;have ho:Fr [59] W W1:=Fr.but (h.fns.ch t IL) (by decide) hb
 have qC:=hb.row h.fns.row (fun k hk e=>eo h.fns.row (h.fns.ch t IL) (by decide) k hk e)
 obtain⟨cs,fz,SX⟩ :∃cs fz,W1.heap[g]? = some (.cells cs 52 fz):=Lib.ownsRow_kind qC g rfl;refine⟨h.Bj ho (by decide) (Fr.set SX (by decide) (f*6+5) v') (h.fns.SY hf hb hv hn) ?_,(ho.mono (by decide)).trans ((Fr.set (E:=[52]) SX (by decide) _ _).mono (by decide))⟩
 rw[nM,h.are]
end
theorem e9.cap {W:World} {B b:Nat} {nv:Value} {N:Nat} {st:aH} {fv:Value} {ub ob:Nat} {L:List mB} {f i gv c:Nat} {y:dr} {yu:Value} {v:mw} (h:e9 W B b nv N st fv ub ob L) (hf:L[f]? = some (y,.slice (some ⟨gv,0,none⟩) y.vars.length c,yu)) (hi:y.vars[i]? = some v) :
  e9 (W.setCell ⟨gv,i*3+2,none⟩ (.bool true)) B b nv N (st.oP f (da y i)) fv ub ob (L.set f (da y i,.slice (some ⟨gv,0,none⟩) y.vars.length c,yu)):=by
 have hl:=(aJ.1 hf).1;have hm:=aL hf;have hr:=h.fns.vars _ hm;obtain⟨cs,fz,hk⟩:=Lib.ownsRow_kind hr gv rfl;have ho:=JM.set hk (i*3+2) (.bool true);have hb:=qW.set W gv (i*3+2) (.bool true);have yU:da y i={ y with vars:=y.vars.set i { v with cap:=true}}:=by unfold da;rw[hi]
 have hst:=(World.ownsRow.stored hr (i*3+2) (.bool true)).1;have hlen:(da y i).vars.length=y.vars.length:=by rw[yU];simp
 have get :∀(j:Nat) t,(L.set f (da y i,.slice (some ⟨gv,0,none⟩) y.vars.length c,yu))[j]? = some t→(j=f∧t=(da y i,.slice (some ⟨gv,0,none⟩) y.vars.length c,yu))∨(j≠f∧L[j]? = some t):=fun j t hj=>by
  by_cases e:f=j
  ·subst e
   rw[ec hl] at hj;injection hj with hj;exact .inl ⟨rfl,hj.symm⟩
  ·rw[fJ e] at hj
   exact .inr ⟨fun e'=>e e'.symm,hj⟩
 have vals :∀(j:Nat) t,(L.set f (da y i,.slice (some ⟨gv,0,none⟩) y.vars.length c,yu))[j]? = some t→∃t',L[j]? = some t'∧t.2=t'.2:=fun j t hj=>by
  rcases get j t hj with ⟨rfl,rfl⟩ | ⟨_,hj⟩
  ·exact⟨_,hf,rfl⟩
  ·exact⟨t,hj,rfl⟩
 refine⟨ho.2 b _ _ _ h.blk (by decide),⟨?_,fun t ht=>?_,fun t ht=>?_,fun p q t u hpq hp hq k iX=>?_,fun p q t u hpq hp hq k iX=>?_⟩,?_,lk h.uses ho (by decide),lk h.mC ho (by decide),h.pos⟩
 ·rw[mg,xy L f _ _ hf (by rw[yU];rfl)]
  exact dd h.fns.row ho (by decide)
 ·obtain⟨j,hj⟩:=jV.1 ht
  rcases get j t hj with ⟨rfl,rfl⟩ | ⟨hne,hj⟩
  ·simp only
   rw[hlen,yU];simp only;rw[qA nL y.vars i 2 v _ (.bool true) hi (by omega) rfl]
   exact hst
  ·exact hb.row (h.fns.vars t (aL hj)) fun k hk e=>by
    injection e with e;subst e;exact h.fns.pD j f t _ hne hj hf gv hk rfl
 ·obtain⟨j,hj⟩:=jV.1 ht
  rcases get j t hj with ⟨rfl,rfl⟩ | ⟨hne,hj⟩
  ·have:=dd (h.fns.ch _ hm) ho (by decide)
   simp only at this ⊢;rw[yU];exact this
  ·exact dd (h.fns.ch t (aL hj)) ho (by decide)
 ·obtain⟨t',h1,e1⟩:=vals p t hp
  obtain⟨u',h2,e2⟩:=vals q u hq;rw[e1] at iX;rw[e2];exact h.fns.pD p q t' u' hpq h1 h2 k iX
 ·obtain⟨t',h1,e1⟩:=vals p t hp
  obtain⟨u',h2,e2⟩:=vals q u hq;rw[e1] at iX;rw[e2];exact h.fns.qB p q t' u' hpq h1 h2 k iX
 ·rw[nM,h.are]
  rfl
theorem IN:(Tryz.prog.info? 61).map (fun i=>(i.zero,i.size,i.bytes))=some (some (.agg #[.string ⟨#[]⟩,.int .i64 0,.bool false]),3,32):=by kernel_rfl
theorem NP:(Tryz.prog.info? 59).map (fun i=>(i.zero,i.size,i.bytes))=some (some (.agg #[.bool false,.int .i64 0]),2,16):=by kernel_rfl
theorem NR:(Tryz.prog.info? 52).map (fun i=>(i.zero,i.size,i.bytes))=some (some (.agg #[.int .i64 0,.int .i64 0,.int .i64 0,.bool false,.slice none 0 0,.slice none 0 0]),6,80):=by kernel_rfl
theorem DG:(Tryz.prog.info? 238).map (fun i=>(i.zero,i.size,i.bytes))=some (some (.agg #[.int .i64 0,.map none]),2,16):=by kernel_rfl
end Go.Proofs.YteflkdlaoiijbaaGreatDoor
namespace Go.Proofs.YteflkdlaoiijbaaGreatDoor
theorem IP {n f:Nat} {l:Int} :∀(ns:List ByteArray) {st st':aH},dV n f l ns st=.ok st'→st'.frames=st.frames:=by
 intro ns;induction ns with
 | nil=>intro st st' h;rw[dV] at h;injection h with h;rw[h]
 | cons s ns ih =>
  intro st st' h;rw[dV] at h;split at h
  ·cases h
  ·have:=ih h
   exact this
theorem vk {n f:Nat} {l:Int} {ns:List ByteArray} {st st':aH} (h:bF n f l ns st=.ok st'):st'.frames=st.frames:=by
 have:=IP ns h;exact this
theorem yV {n f:Nat} {s:ByteArray} {l:Int} {st st':aH} (h:lR n f s l st=.ok st'):st'.frames=st.frames∧st'.names=st.names:=by
 unfold lR at h;split at h
 ·injection h with h;rw[←h];exact⟨rfl,rfl⟩
 ·split at h
  ·injection h with h;rw[←h];exact⟨rfl,rfl⟩
  ·split at h
   ·cases h
   ·injection h with h;rw[←h];exact⟨rfl,rfl⟩
theorem rP {n f:Nat} {l:Int} {st st':aH} (h:ee n f l st=.ok st'):st'.frames=st.frames∧st'.names=st.names:=by
 unfold ee at h;split at h
 ·cases h
 ·injection h with h;rw[←h];exact⟨rfl,rfl⟩
theorem rQ {n f:Nat} {s:ByteArray} {l:Int} {st st':aH} :∀(fr:List fF),dm n f s l st fr=.ok st'→st'.frames=st.frames∧st'.names=st.names:=by
 intro fr;induction fr with
 | nil=>intro h;cases h
 | cons x fr ih =>
  intro h;rw[dm] at h;split at h
  ·exact ih h
  ·split at h
   ·exact ih h
   ·split at h
    ·cases h
    ·injection h with h;rw[←h];exact⟨rfl,rfl⟩
mutual
theorem yW :∀(t:Lt) {f:Nat} {st st':aH},bo t f st=.ok st'→st'.frames=st.frames
 | .mk i h ks,f,mn,st',hr=>by
  rw[cV] at hr;have e0:(mn.setOf i f).frames=mn.frames:=rfl;rw[←e0];generalize mn.setOf i f=st at *;split at hr
  ·split at hr
   ·injection hr with hr;rw[←hr]
   ·cases hr
  split at hr
  ·exact(yV hr).1
  split at hr
  ·obtain⟨s1,e1,hr⟩:=cb hr
   obtain⟨s2,e2,rfl⟩:=ey hr;rfl
  split at hr
  ·obtain⟨s1,e1,hr⟩:=cb hr
   obtain⟨s2,e2,rfl⟩:=ey hr;rfl
  split at hr
  ·obtain⟨s1,e1,e2⟩:=cb hr
   exact(vk e2).trans (ll ks e1)
  split at hr
  ·obtain⟨s2,e2,rfl⟩:=ey hr
   rfl
  split at hr
  ·obtain⟨s2,e2,rfl⟩:=ey hr
   rfl
  split at hr
  ·exact NS ks hr
  split at hr
  ·obtain⟨s1,e1,e2⟩:=cb hr
   exact(ll ks e2).trans (vk e1)
  split at hr
  ·exact(rP hr).1
  split at hr
  ·exact(rQ _ hr).1
  exact ll ks hr
theorem ll :∀(ks:List Lt) {f:Nat} {st st':aH},aI ks f st=.ok st'→st'.frames=st.frames
 | [],f,st,st',hr=>by
  rw[fm] at hr;injection hr with hr;rw[hr]
 | k::ks,f,st,st',hr=>by
  rw[e7] at hr;obtain⟨s1,e1,e2⟩:=cb hr;exact(ll ks e2).trans (yW k e1)
theorem NS {i:Nat} {line:Int} {names:List ByteArray} :∀(ks:List Lt) {f:Nat} {st st':aH},iO i line names ks f st=.ok st'→st'.frames=st.frames
 | [],f,st,st',hr=>by
  unfold iO at hr;injection hr with hr;rw[hr]
 | [b],f,st,st',hr=>by
  rw[nJ] at hr;obtain⟨s1,e1,hr⟩:=cb hr;obtain⟨s2,e2,rfl⟩:=ey hr;rfl
 | a::b::l,f,st,st',hr=>by
  rw[jq] at hr;obtain⟨s1,e1,e2⟩:=cb hr;exact(NS (b::l) e2).trans (yW a e1)
end
def Still (k:Lt):Prop:=k.hd.kind≠19∧k.hd.kind≠28
mutual
/-- Kids of what abP declare for its own adG declare. -/
def Lt.Quiet:Lt→Prop
 | .mk _ h ks=>((h.kind≠11∧h.kind≠18)→∀k∈ks,Still k)∧Lt.lW ks
def Lt.lW:List Lt→Prop
 | []=>True
 | k::ks=>Lt.Quiet k∧Lt.lW ks
end
mutual
theorem Fs :∀(t:Lt) {f:Nat} {st st':aH},t.Quiet→Still t→bo t f st=.ok st'→st'.names=st.names
 | .mk i h ks,f,mn,st',hq,hs,hr=>by
  rw[cV] at hr;have e0:(mn.setOf i f).names=mn.names:=rfl;rw[←e0];generalize mn.setOf i f=st at *;unfold Lt.Quiet at hq;obtain⟨hq1,po⟩:=hq;split at hr
  ·split at hr
   ·injection hr with hr;rw[←hr]
   ·cases hr
  split at hr
  ·exact(yV hr).2
  split at hr
  ·obtain⟨s1,e1,hr⟩:=cb hr
   obtain⟨s2,e2,rfl⟩:=ey hr;rfl
  split at hr
  ·obtain⟨s1,e1,hr⟩:=cb hr
   obtain⟨s2,e2,rfl⟩:=ey hr;rfl
  split at hr
  ·exact absurd ‹h.kind=19› hs.1
  split at hr
  ·obtain⟨s2,e2,rfl⟩:=ey hr
   rfl
  split at hr
  ·obtain⟨s2,e2,rfl⟩:=ey hr
   rfl
  split at hr
  ·exact NW ks po (hq1 ⟨by omega,by omega⟩) hr
  split at hr
  ·exact absurd ‹h.kind=28› hs.2
  split at hr
  ·exact(rP hr).2
  split at hr
  ·exact(rQ _ hr).2
  exact qD ks po (hq1 ⟨by assumption,by assumption⟩) hr
theorem qD :∀(ks:List Lt) {f:Nat} {st st':aH},Lt.lW ks→(∀k∈ks,Still k)→aI ks f st=.ok st'→st'.names=st.names
 | [],f,st,st',_,_,hr=>by
  rw[fm] at hr;injection hr with hr;rw[hr]
 | k::ks,f,st,st',hq,hs,hr=>by
  rw[e7] at hr;obtain⟨s1,e1,e2⟩:=cb hr;unfold Lt.lW at hq;exact(qD ks hq.2 (fun x hx=>hs x (cr _ hx)) e2).trans (Fs k hq.1 (hs k (bT ..)) e1)
theorem NW {i:Nat} {line:Int} {names:List ByteArray} :∀(ks:List Lt) {f:Nat} {st st':aH},Lt.lW ks→(∀k∈ks,Still k)→iO i line names ks f st=.ok st'→st'.names=st.names
 | [],f,st,st',_,_,hr=>by
  unfold iO at hr;injection hr with hr;rw[hr]
 | [b],f,st,st',_,_,hr=>by
  rw[nJ] at hr;obtain⟨s1,e1,hr⟩:=cb hr;obtain⟨s2,e2,rfl⟩:=ey hr;rfl
 | a::b::l,f,st,st',hq,hs,hr=>by
  rw[jq] at hr;obtain⟨s1,e1,e2⟩:=cb hr;unfold Lt.lW at hq;exact(NW (b::l) hq.2 (fun x hx=>hs x (cr _ hx)) e2).trans (Fs a hq.1 (hs a (bT ..)) e1)
end
def dH (f:Nat) (fr:List fF):List fF:=fr.filter fun x=>!x.loop && decide (x.fn=f)
theorem rR {f:Nat} {x:fF} {fr:List fF} (h:x.loop=true∨x.fn≠f):dH f (x::fr)=dH f fr:=by
 unfold dH;rw[List.filter_cons_of_neg];rcases h with h|h
 ·rw[h];simp
 ·simp[h]
theorem vl {f:Nat} {x:fF} {fr:List fF} (h:x.loop=false) (h2:x.fn=f):dH f (x::fr)=x::dH f fr:=by
 unfold dH;rw[List.filter_cons_of_pos];simp[h,h2]
def gT (ks:List Lt) (n:Nat):Nat:=((ks.take n).filter isDecl).length
theorem Bl (ks:List Lt):gT ks 0=0:=rfl
theorem vm {ks:List Lt} {n:Nat} {x:Lt} (h:ks[n]? = some x):gT ks (n+1)=gT ks n+if isDecl x then 1 else 0:=by
 unfold gT;rw[jw _ _ _ h,List.filter_append,cI];congr 1
 cases e:isDecl x<;>simp[e]
theorem NY (ks:List Lt) {m n:Nat} (h:m≤n):gT ks m≤gT ks n:=by
 unfold gT;have:ks.take m=(ks.take n).take m:=by rw[List.take_take,Eh h]
 rw[this];exact((List.take_sublist m (ks.take n)).filter _).length_le
theorem NZ (ks:List Lt) (n:Nat):gT ks n≤ks.length:=by
 unfold gT;exact aM (List.length_filter_le _ _) (by rw[mc];omega)
theorem Ya {ks:List Lt} {m n:Nat} (h:m≤n):gT ks m<gT ks n↔((ks.take n).drop m).any isDecl=true:=by
 have e:ks.take n=ks.take m++(ks.take n).drop m:=by
  conv=>lhs;rw[←J0 m (ks.take n)]
  rw[List.take_take,Eh h]
 have e2:gT ks n=gT ks m+(((ks.take n).drop m).filter isDecl).length:=by
  conv=>lhs;unfold gT;rw[e]
  rw[List.filter_append,cI];rfl
 rw[e2,List.any_eq_true];constructor
 ·intro h1
  have h2:0<(((ks.take n).drop m).filter isDecl).length:=by omega
  obtain⟨x,hx⟩:=List.exists_mem_of_length_pos h2;exact⟨x,(wB.1 hx).1,(wB.1 hx).2⟩
 ·rintro⟨x,hx,hd⟩
  have:=List.length_pos_of_mem (wB.2 ⟨hx,hd⟩);omega
def qX (k:Lt):Bool:=decide (k.hd.kind=32)
def lp:List Lt→Nat
 | []=>0
 | k::ks=>if qX k && decide (lp ks=0) then 0 else lp ks+1
theorem rS :∀ks:List Lt,lp ks=0↔ks.all qX=true
 | []=>by simp[lp]
 | k::ks=>by
  rw[lp,su];have ih:=rS ks;by_cases h:qX k=true
  ·by_cases h2:lp ks=0
   ·rw[al (by rw[h,h2];rfl),h,ih.1 h2];simp
   ·rw[af (by rw[h];simpa using h2),h]
    have:¬ ks.all qX=true:=fun e=>h2 (ih.2 e)
    simp only[kN];constructor
    ·intro e;omega
    ·intro e;exact absurd e this
  ·have h:qX k=false:=by simpa using h
   rw[af (by rw[h];simp),h]
   simp
theorem tI :∀(ks:List Lt) (j:Nat),j<lp ks↔¬ (ks.drop j).all qX=true
 | [],j=>by simp[lp]
 | k::ks,0=>by
  rw[tR,←rS];omega
 | k::ks,j+1=>by
  rw[List.drop_succ_cons,←tI ks j,lp];split
  ·rename_i h
   simp only[dj,iH] at h;omega
  ·omega
theorem S5 {ks:List Lt} {e:Nat} (he:e≤ks.length) (h1:(ks.drop e).all qX=true) (h2:e=0∨∃x,ks[e-1]? = some x∧qX x=false):lp ks=e:=by
 have h3:¬ e<lp ks:=fun h=>(tI ks e).1 h h1
 rcases h2 with rfl | ⟨x,hx,hl⟩
 ·omega
 ·have h4:e-1<lp ks:=(tI ks (e-1)).2 fun h=>by
   have hlt:=(aJ.1 hx).1;have:x∈ks.drop (e-1):=by
    rw[jV];exact⟨0,by rw[zF];exact hx⟩
   rw[List.all_eq_true] at h;rw[h x this] at hl;cases hl
  have h5:e-1<ks.length:=(aJ.1 hx).1;rcases mG e with h0|h0
  ·subst h0;omega
  ·omega
def rT (ks:List Lt) (rep:Bool) (j:Nat):Nat:=if rep=true∨j<lp ks then gT ks j else 0
theorem drop_at {α:Type} {l:List α} {j:Nat} {x:α} (h:l[j]? = some x):l.drop j=x::l.drop (j+1):=by
 obtain⟨hl,he⟩:=aJ.1 h;rw[zA hl,he]
theorem S7 {ks:List Lt} {a j:Nat} {rep:Bool} {x:Lt} (hj:ks[j]? = some x) (hx:qX x=true):lS ks a j rep=decide (gT ks (a+1)<rT ks rep j):=by
 have hall:(ks.drop (j+1)).all qX=(ks.drop j).all qX:=by
  rw[drop_at hj,su,hx,kN]
 have aaX:((ks.drop (j+1)).all fun k=>decide (k.hd.kind=32))=(ks.drop j).all qX:=hall
 unfold lS;rw[aaX];have h1:((ks.take j).drop (a+1)).any isDecl=decide (gT ks (a+1)<gT ks j):=by
  by_cases h:a+1≤j
  ·have:=Ya (ks:=ks) h
   cases e:((ks.take j).drop (a+1)).any isDecl with
   | true=>rw[e] at this;exact(bX (this.2 rfl)).symm
   | false=>rw[e] at this;exact(bU fun h=>by have:=this.1 h;cases this).symm
  ·have h2:(ks.take j).drop (a+1)=[]:=List.drop_eq_nil_iff.2 (by rw[mc];omega)
   rw[h2];have:=NY ks (show j≤a+1 by omega)
   exact(bU (by omega)).symm
 rw[h1];unfold rT;cases rep with
 | true=>simp
 | false =>
  have h3:=tI ks j;cases e:(ks.drop j).all qX with
  | true =>
   rw[e] at h3;have h4:¬ j<lp ks:=fun h=>(h3.1 h) rfl
   rw[af (by simpa using h4)]
   simp
  | false =>
   rw[e] at h3;rw[al (.inr (h3.2 (by simp)))]
   simp
def nN (ks:List Lt) (rep:Bool) (n:Nat) (s:ByteArray):Option (Nat×Nat) :=
 match cA ks s with
 | some j=>if j<n then some ((ks.getD j (.mk 0 ⟨0,0,0,0,⟨#[]⟩,[],[]⟩ [])).loc,rT ks rep j) else none
 | none=>none
theorem IQ (ks:List Lt) (rep:Bool) (s:ByteArray):nN ks rep 0 s=none:=by
 unfold nN;split
 ·rw[af (by omega)]
 ·rfl
theorem vo {ks:List Lt} {s:ByteArray} {j:Nat} (h:cA ks s=some j) :∃x,ks[j]? = some x∧ml s x=true∧j<ks.length:=by
 obtain⟨hlt,he,_⟩:=zx.1 h;exact⟨ks[j],bE hlt,he,hlt⟩
theorem Bm (ks:List Lt) (rep:Bool) (s:ByteArray):nN ks rep ks.length s=(cA ks s).map fun j=>((ks.getD j (.mk 0 ⟨0,0,0,0,⟨#[]⟩,[],[]⟩ [])).loc,rT ks rep j):=by
 unfold nN;cases h:cA ks s with
 | none=>rfl
 | some j =>
  obtain⟨_,_,_,hlt⟩:=vo h;exact al hlt
theorem vp {ks:List Lt} {rep:Bool} {n:Nat} {x:Lt} (hx:ks[n]? = some x) {s:ByteArray} (h:ml s x=false):nN ks rep (n+1) s=nN ks rep n s:=by
 unfold nN;cases h1:cA ks s with
 | none=>rfl
 | some j =>
  obtain⟨y,hy,hl,_⟩:=vo h1;have:j≠n:=fun e=>by
   subst e;rw[hx] at hy;injection hy with hy;rw[hy,hl] at h;cases h
  dsimp only
  by_cases h2:j<n
  ·rw[al h2,al (by omega)]
  ·rw[af h2,af (by omega)]
theorem IS {ks:List Lt} {rep:Bool} {n:Nat} {x:Lt} (hx:ks[n]? = some x) (h:qX x=true) (hn:¬∃j,cA ks x.hd.s=some j∧j<n):nN ks rep (n+1) x.hd.s=some (x.loc,rT ks rep n):=by
 have hi:ml x.hd.s x=true:=by unfold ml;unfold qX at h;rw[h];simp
 have h1:cA ks x.hd.s=some n:=by
  cases e:cA ks x.hd.s with
  | none =>
   unfold cA at e;rw[List.findIdx?_eq_none_iff] at e;rw[e x (aL hx)] at hi;cases hi
  | some j =>
   have hj:¬ j<n:=fun hj=>hn ⟨j,e,hj⟩
   obtain⟨hlt,he,acQ⟩:=zx.1 e;by_cases h2:n<j
   ·have:=acQ n h2
    rw[(aJ.1 hx).2] at this;rw[hi] at this;exact absurd rfl this
   ·congr 1;omega
 unfold nN;rw[h1];dsimp only
 rw[al (by omega),jU,hx]
 rfl
theorem N0 {ks:List Lt} {rep:Bool} {n:Nat} {s:ByteArray}:(nN ks rep n s).isSome=true↔∃j,cA ks s=some j∧j<n:=by
 unfold nN;cases h:cA ks s with
 | none=>simp
 | some j =>
  dsimp only
  by_cases h2:j<n
  ·rw[al h2];simp[h2]
  ·rw[af h2]
   simp[h2]
theorem n9 {node f:Nat} {s:ByteArray} {line:Int} {st:aH} :∀fr:List fF,dm node f s line st fr=match (dH f fr).find? fun x=>(cA x.kids s).isSome with
  | none=>.error (8,line)
  | some x=>match cA x.kids s with
   | none=>.error (8,line)
   | some j=>if lS x.kids x.at_ j x.rep then .error (10,line) else .ok (st.dw node (4,((x.kids.getD j (.mk 0 ⟨0,0,0,0,⟨#[]⟩,[],[]⟩ [])).loc:Int)))
 | []=>rfl
 | x::fr=>by
  rw[dm];by_cases h:x.loop=true∨x.fn≠f
  ·rw[al h,rR h]
   exact n9 fr
  ·rw[af h]
   rw[sz,Decidable.not_not] at h;have h1:x.loop=false:=by simpa using h.1
   rw[vl h1 h.2,kM];cases e:cA x.kids s with
   | none=>exact n9 fr
   | some j =>
    dsimp only[Option.isSome]
    rw[e]
def bP (f:Nat) (fr:List fF):Int:=match fr.find? (fun x=>x.loop && decide (x.fn=f)) with|none=>-1|some x=>(x.node:Int)
theorem vq (f i:Nat) (fr:List fF):bP f (⟨f,i,0,true,false,[]⟩::fr)=(i:Int):=by
 unfold bP;rw[kM];simp
theorem vr {f:Nat} {x:fF} (h:x.loop=false) (fr:List fF):bP f (x::fr)=bP f fr:=by
 unfold bP;rw[kM,h];rfl
theorem N3 (node f:Nat) (line:Int) (st:aH):ee node f line st=if bP f st.frames = -1 then .error (8,line) else .ok (st.dw node (4,bP f st.frames)):=by
 unfold ee bP;cases st.frames.find? (fun x=>x.loop && decide (x.fn=f)) with
 | none=>rfl
 | some x=>exact(af (by show ¬ (x.node:Int) = -1;omega)).symm
theorem N9 {fr:List fF} {f:Nat} {s:ByteArray}:(∃x∈fr,x.loop=false∧x.fn=f∧(cA x.kids s).isSome)↔((dH f fr).find? fun x=>(cA x.kids s).isSome).isSome=true:=by
 rw[List.find?_isSome];unfold dH;constructor
 ·rintro⟨x,hx,h1,h2,h3⟩
  exact⟨x,wB.2 ⟨hx,by simp[h1,h2]⟩,h3⟩
 ·rintro⟨x,hx,h3⟩
  obtain⟨h1,h2⟩:=wB.1 hx;simp only[dj,Bool.not_eq_true',iH] at h2;exact⟨x,h1,h2.1,h2.2,h3⟩
end Go.Proofs.YteflkdlaoiijbaaGreatDoor
namespace Go.Proofs.YteflkdlaoiijbaaGreatDoor
open Go.RowKit
structure cS where
 fn:Nat
 blk:Nat
 iC:List jn
def Ft (l:cS):List Value:=[.int .i64 (l.fn:Int),.map (some l.blk)]
theorem yX (l:cS):(Ft l).length=2:=rfl
def jT (iC:List jn) (s:ByteArray):Option Value:=(iC.find? fun n=>decide (n.s=s)).map fun n=>.int .i64 (n.i:Int)
def mo (L:List cS):List jn:=L.flatMap cS.iC
def grow (a:List jn):List cS→List cS
 | []=>[]
 | l::r=>{ l with iC:=a++l.iC}::r
theorem jM (L:List cS):grow [] L=L:=by cases L<;>rfl
theorem cF (a:List jn) (L:List cS):(grow a L).length=L.length:=by cases L<;>rfl
theorem grow_grow (a b:List jn) (L:List cS):grow b (grow a L)=grow (b++a) L:=by
 cases L with
 | nil=>rfl
 | cons l r=>simp[grow,fK]
theorem IT {a:List jn} {L:List cS} (h:L≠[]):mo (grow a L)=a++mo L:=by
 cases L with
 | nil=>exact absurd rfl h
 | cons l r=>simp[grow,mo,fK]
def eE:List cS→Option Nat
 | []=>none
 | l::_=>some l.blk
theorem oa (a:List jn) (L:List cS):eE (grow a L)=eE L:=by cases L<;>rfl
theorem vt (a:List jn) (L:List cS):(grow a L).map cS.blk=L.map cS.blk:=by cases L<;>rfl
theorem rU (s:ByteArray) :∀L:List cS,(mo L).find? (fun n=>decide (n.s=s))=(L.find? fun l=>(jT l.iC s).isSome).bind fun l=>l.iC.find? fun n=>decide (n.s=s)
 | []=>rfl
 | l::L=>by
  show(l.iC++mo L).find? _=_
  rw[List.find?_append,kM];unfold jT;cases e:l.iC.find? fun n=>decide (n.s=s) with
  | none =>
   dsimp only[Option.map,Option.isSome]
   rw[Option.none_or];exact rU s L
  | some n =>
   dsimp only[Option.map,Option.isSome]
   rw[Option.some_or];exact e.symm
structure dk (W:World) (B:Nat) (v:Value) (L:List cS):Prop where
 row:W.ownsRow B 238 2 v L.length (L.reverse.flatMap Ft)
 maps :∀l∈L,dP Tryz.prog 9 W l.blk l.iC.length (jT l.iC)∧B≤l.blk
 own :∀l∈L,∀n∈l.iC,n.fn=l.fn
 apart:(L.map cS.blk).Nodup
def fG (ks:List Lt) (rep:Bool) (n:Nat) (s:ByteArray):Option Value:=(nN ks rep n s).map fun p=>.agg #[.int .i64 (p.1:Int),.int .i64 (p.2:Int)]
def cz (W:World) (B:Nat):List (Nat×Nat×(ByteArray→Option Value))→List Nat→Value→Prop
 | [],ms,v=>ms=[]∧v=.pointer none
 | x::fs,ms,v=>∃k p m Co,v=.pointer (some ⟨k,0,none⟩)∧ms=m::Co∧B≤k∧W.heap[k]? = some (.cells #[.pointer p,.map (some m),.int .i64 (x.1:Int)] 195 (0,0))∧dP Tryz.prog 9 W m x.2.1 x.2.2∧B≤m∧(∀a,p=some a→a.block<k)∧cz W B fs Co (.pointer p)
def JN (x:fF):Nat×Nat×(ByteArray→Option Value):=(gT x.kids (x.at_+1),x.kids.length,fG x.kids x.rep x.kids.length)
def oQ (W:World) (B:Nat) (fs:List fF) (ms:List Nat) (v:Value):Prop:=cz W B (fs.map JN) ms v
structure cW (B ob:Nat) (v:Value) (n:Nat) (top:Option Nat) (W W':World):Prop where
 below:Below B W W'
 cells :∀(k:Nat) c (e:TypeId) fz,W.heap[k]? = some (.cells c e fz)→e∉[52,61,59,57,87,3,238]→W'.heap[k]? = some (.cells c e fz)
 ints :∀(k:Nat) c fz,W.heap[k]? = some (.cells c 3 fz)→k≠ob→W'.heap[k]? = some (.cells c 3 fz)
 lvl :∀u m xs,W.ownsRow B 238 2 u m xs→(u.ownBlock=v.ownBlock→m≤n)→W'.ownsRow B 238 2 u m xs
 maps :∀(k:Nat) es c,W.heap[k]? = some (.map es c)→some k≠top→W'.heap[k]? = some (.map es c)
section
variable {B ob n:Nat} {v:Value} {top:Option Nat} {W W' W2:World}
theorem cW.refl (B ob:Nat) (v:Value) (n:Nat) (top:Option Nat) (W:World):cW B ob v n top W W:=⟨Below.refl _ _,fun _ _ _ _ h _=>h,fun _ _ _ h _=>h,fun _ _ _ h _=>h,fun _ _ _ h _=>h⟩
theorem cW.trans (h:cW B ob v n top W W') (k:cW B ob v n top W' W2):cW B ob v n top W W2 :=
 ⟨h.below.trans k.below,fun i c e fz hi he=>k.cells i c e fz (h.cells i c e fz hi he) he,fun i c fz hi ho=>k.ints i c fz (h.ints i c fz hi ho) ho,fun u m xs hu hm=>k.lvl u m xs (h.lvl u m xs hu hm) hm,fun i es c hi ht=>k.maps i es c (h.maps i es c hi ht) ht⟩
theorem cW.Fu (h:cW B ob v n none W W') (top:Option Nat):cW B ob v n top W W':=⟨h.below,h.cells,h.ints,h.lvl,fun k es c hk _=>h.maps k es c hk (by simp)⟩
theorem cW.vi {E:List Nat} (h:Fr E W W') (hE :∀e∈E,e∈[52,61,59,57,87]) (hb:Below B W W'):cW B ob v n top W W' :=
 ⟨hb,fun k c e fz hk he=>h.cells k c e fz hk fun hm=>he (eO [3,238] (hE e hm)),
  fun k c fz hk _=>h.cells k c _ fz hk fun hm=>absurd (hE _ hm) (by decide),fun u m xs hu _=>h.row hu fun hm=>absurd (hE _ hm) (by decide),fun k es c hk _=>h.maps k es c hk⟩
theorem cW.bR (hb:Below W.heap.size W W') (hB:B≤W.heap.size):cW B ob v n top W W':=cW.vi (E:=[]) (Fr.ae hb) (fun _ h=>by cases h) (hb.mono hB)
theorem cW.aaY {cs:Array Value} {fz:Nat×Nat} (h:W.heap[ob]? = some (.cells cs 3 fz)) (hB:B≤ob) (j:Nat) (x:Value):cW B ob v n top W (W.setCell ⟨ob,j,none⟩ x):=by
 have hf:Fr [3] W (W.setCell ⟨ob,j,none⟩ x):=Fr.set h (by decide) j x
 exact⟨(Below.refl B W).setCell (p:=⟨ob,j,none⟩) hB x,fun k c e fz hk he=>hf.cells k c e fz hk fun hm=>he (by rw[bZ] at hm;subst hm;decide),
  fun k c fz hk ho=>(Below.heap_setCell W ⟨ob,j,none⟩ x k ho).trans hk,fun u m xs hu _=>hf.row hu (by decide),fun k es c hk _=>hf.maps k es c hk⟩
theorem cW.of_map {b:Nat} (hg:W.grownBy W' (some b)) (hm :∃es c,W.heap[b]? = some (.map es c)) (hB:B≤b) (hW:B≤W.heap.size):cW B ob v n (some b) W W':=by
 obtain⟨es,c,hb⟩:=hm;have key :∀(k:Nat) (o:Obj),W.heap[k]? = some o→(∀es c,o ≠ .map es c)→W'.heap[k]? = some o:=fun k o hk ho=>(hg.block k (aF.1 hk).1 fun e=>by
  injection e with e;subst e;rw[hb] at hk;injection hk with hk;exact ho _ _ hk.symm).trans hk
 refine⟨⟨hg.os,hg.tape,hg.output,hg.size,fun k hk=>hg.block k (by omega) fun e=>by injection e with e;omega⟩,fun k c e fz hk _=>key k _ hk (fun _ _ e=>by cases e),fun k c fz hk _=>key k _ hk (fun _ _ e=>by cases e),fun u m xs hu _=>?_,fun k es c hk ht=>(hg.block k (aF.1 hk).1 ht).trans hk⟩
 refine⟨hu.1,?_⟩;rcases hu.2 with hn | ⟨g,cap,cur,rfl,hB,hg,rest⟩
 ·exact .inl hn
 ·exact .inr ⟨g,cap,cur,rfl,hB,key g _ hg (fun _ _ e=>by cases e),rest⟩
theorem cW.map {P:Program} {k:TypeId} {b m:Nat} {f:ByteArray→Option Value} (h:cW B ob v n top W W') (hm:dP P k W b m f) (ht:some b≠top):dP P k W' b m f:=by
 obtain⟨es,c,h1⟩:=hm.isMap;exact hm.same ((h.maps b es c h1 ht).trans h1.symm)
theorem dk.jk {L:List cS} (h:dk W B v L) (k:cW B ob v n none W W') (hn:L.length≤n):dk W' B v L :=
 ⟨k.lvl _ _ _ h.row fun _=>hn,fun l hl=>⟨k.map (h.maps l hl).1 (by simp),(h.maps l hl).2⟩,h.own,h.apart⟩
theorem dk.more {a:List jn} {l:cS} {r:List cS} (h:dk W B v (l::r)) (k:cW B ob v n (some l.blk) W W') (hn:(l::r).length≤n) (hm:dP Tryz.prog 9 W' l.blk (a++l.iC).length (jT (a++l.iC))) (ha :∀x∈a,x.fn=l.fn):dk W' B v (grow a (l::r)):=by
 refine⟨?_,fun u hu=>?_,fun u hu x hx=>?_,?_⟩
 ·have:=k.lvl _ _ _ h.row fun _=>hn
  rw[cF];rw[Ed,oE] at this;unfold grow;rw[Ed,oE];exact this
 ·rcases bc.1 hu with rfl|hu
  ·exact⟨hm,(h.maps l (bT ..)).2⟩
  ·have h1:=h.maps u (cr _ hu)
   refine⟨k.map h1.1 fun e=>?_,h1.2⟩
   injection e with e;have h2:=h.apart;rw[eP,jt] at h2;exact h2.1 (e▸jW hu)
 ·rcases bc.1 hu with rfl|hu
  ·rcases cU.1 hx with hx|hx
   ·exact ha x hx
   ·exact h.own l (bT ..) x hx
  ·exact h.own u (cr _ hu) x hx
 ·rw[vt]
  exact h.apart
theorem cz.jk (k:cW B ob v n top W W') :∀{fs:List (Nat×Nat×(ByteArray→Option Value))} {ms:List Nat} {p:Value},cz W B fs ms p→(∀m∈ms,some m≠top)→cz W' B fs ms p
 | [],_,_,h,_=>h
 | x::fs,ms,p,h,ht=>by
  obtain⟨k',p',m,Co,rfl,rfl,h1,h2,h3,h4,h5,h6⟩:=h;exact⟨k',p',m,Co,rfl,rfl,h1,k.cells k' _ _ _ h2 (by decide),k.map h3 (ht m (bT ..)),h4,h5,cz.jk k h6 fun m hm=>ht m (cr _ hm)⟩
theorem cz.later {fs:List (Nat×Nat×(ByteArray→Option Value))} {ms:List Nat} {p:Value} (h:cz W B fs ms p) (hb:Below W.heap.size W W'):cz W' B fs ms p:=by
 by_cases hB:B≤W.heap.size
 ·exact cz.jk (ob:=0) (v:=.nilIface) (n:=0) (top:=none) (cW.bR hb hB) h (by simp)
 ·cases fs with
  | nil=>exact h
  | cons x fs =>
   obtain⟨k,p',m,Co,rfl,rfl,h1,h2,_⟩:=h;have:=(aF.1 h2).1;omega
theorem oQ.jk (k:cW B ob v n top W W') {fs:List fF} {ms:List Nat} {p:Value} (h:oQ W B fs ms p) (ht :∀m∈ms,some m≠top):oQ W' B fs ms p:=cz.jk k h ht
theorem cz.form {fs:List (Nat×Nat×(ByteArray→Option Value))} {ms:List Nat} {p:Value} (h:cz W B fs ms p) :∃a,p=.pointer a:=by
 cases fs with
 | nil=>exact⟨none,h.2⟩
 | cons x fs=>obtain⟨k,_,_,_,rfl,_⟩:=h;exact⟨_,rfl⟩
end
structure oR (W:World) (B f:Nat) (p lv:Value) (ms:List Nat) (L:List cS) (st:aH):Prop where
 fB:dk W B lv L
 blk:oQ W B (dH f st.frames) ms p
 names:st.names=mo L
 apart :∀m∈ms,∀l∈L,m≠l.blk
def DH (W:World) (v:Value) (n k:Int):Prop:=∃g,v=.iface 83 (.pointer (some ⟨g,0,none⟩))∧W.heap[g]? = some (.cells #[.int .i64 n,.iface 79 (.int .i64 k)] 85 (0,0))
def jN (W:World) (B b:Nat) (nv:Value) (N:Nat) (st:aH) (ub ob:Nat):Prop:=∃fv L,e9 W B b nv N st fv ub ob L
def aq (B b:Nat) (nv:Value) (N ub ob:Nat) (lv:Value) (L:List cS) (st:aH) (r:Rs aH) (w:World) (e:Ending) (w':World):Prop :=
 Below B w w'∧match r with
 | .ok st'=>e=.returned .nilIface∧jN w' B b nv N st' ub ob∧cW B ob lv L.length (eE L) w w'∧∃a,st'.names=a++st.names∧(L=[]→a=[])∧dk w' B lv (grow a L)
 | .error x=>∃v,e=.returned v∧DH w' v x.2 x.1
theorem oR.on {W W':World} {B ob f:Nat} {p lv:Value} {ms:List Nat} {L:List cS} {st st':aH} {a:List jn} (h:oR W B f p lv ms L st) (k:cW B ob lv L.length (eE L) W W') (hl:dk W' B lv (grow a L)) (hn:st'.names=a++st.names) (he:L=[]→a=[]) (hf:st'.frames=st.frames):oR W' B f p lv ms (grow a L) st':=by
 refine⟨hl,?_,?_,fun m hm l hl=>?_⟩
 ·rw[hf]
  refine h.blk.jk k fun m hm e=>?_
  cases L with
  | nil=>cases e
  | cons l r =>
   injection e with e;exact h.apart m hm l (bT ..) e
 ·rw[hn,h.names]
  by_cases e:L=[]
  ·rw[he e,jM];rfl
  ·exact(IT e).symm
 ·have h1:l.blk∈(grow a L).map cS.blk:=jW hl
  rw[vt] at h1;obtain⟨u,hu,e⟩:=eQ.1 h1;rw[←e];exact h.apart m hm u hu
end Go.Proofs.YteflkdlaoiijbaaGreatDoor
namespace Go.Proofs.YteflkdlaoiijbaaGreatDoor
open Go.RowKit
def gI (B b:Nat) (nv:Value) (N ub ob:Nat) (r:Rs aH) (w:World) (e:Ending) (w':World):Prop :=
 Below B w w'∧match r with
 | .ok st'=>e=.returned .nilIface∧jN w' B b nv N st' ub ob∧Fr [52,61,59,57,87] w w'
 | .error x=>∃v,e=.returned v∧DH w' v x.2 x.1
theorem e9.gR {W:World} {B b:Nat} {nv:Value} {N:Nat} {st:aH} {fv:Value} {ub ob:Nat} {L:List mB} (h:e9 W B b nv N st fv ub ob L):b<W.heap.size∧ub<W.heap.size∧ob<W.heap.size:=⟨(aF.1 h.blk).1,(h.uses.lt ub rfl).2,(h.mC.lt ob rfl).2⟩
theorem eH {T:List Nd} {B:Nat} {nv:Value} (b node:Nat) (h:Nd) (k:Int) (w:World) (hT:wg w B nv T) (c0:w.cell? ⟨b,0,none⟩=some nv) (hx:T[node]? = some h) :
  Calls Tryz.prog 108 #[.pointer (some ⟨b,0,none⟩),.int .i64 (node:Int),.iface 79 (.int .i64 k)] w fun e w'=>∃v,e=.returned v∧(∃g,v=.iface 83 (.pointer (some ⟨g,0,none⟩)))∧DH w' v h.line k∧Below w.heap.size w w':=by
 obtain⟨bk,o,c,rfl,bN,cC,hn⟩:=hT.nodes;obtain⟨pL,pM,dM,_,_⟩:=hn node h hx;have jl:node<T.length:=(aJ.1 hx).1;have d1:=dM.c1;have qY:=hT.few;clear dM hn hT;go_enter Tryz.func108,Tryz.ntmps108
 go_wp2_with fail
 go_ret
 exact⟨_,rfl,⟨_,rfl⟩,⟨_,rfl,heap_alloc_new _ _⟩,(Below.refl _ _).alloc (ah _) _⟩
theorem sR {T:List Nd} {B:Nat} {nv:Value} (b node:Nat) (h:Nd) (w:World) (hT:wg w B nv T) (c0:w.cell? ⟨b,0,none⟩=some nv) (hx:T[node]? = some h) :
  Calls Tryz.prog 115 #[.pointer (some ⟨b,0,none⟩),.int .i64 (node:Int)] w fun e w'=>e=.returned (.bool (decide (h.kind=19) || decide (h.kind=28)))∧w=w':=by
 obtain⟨bk,o,c,rfl,bN,cC,hn⟩:=hT.nodes;obtain⟨pL,pM,dM,_,_⟩:=hn node h hx;have jl:node<T.length:=(aJ.1 hx).1;have d0:=dM.c0;have qY:=hT.few;clear dM hn hT;have e1:(h.kind == 19)=decide (h.kind=19):=rfl;have e2:(h.kind == 28)=decide (h.kind=28):=rfl;cases h1:decide (h.kind=19) with
 | true =>
  rw[h1] at e1;go_enter Tryz.func115,Tryz.ntmps115
  go_wp2_with fail
  go_ret
  exact⟨rfl,rfl⟩
 | false =>
  rw[h1] at e1;cases h2:decide (h.kind=28) with
  | true =>
   rw[h2] at e2;go_enter Tryz.func115,Tryz.ntmps115
   go_wp2_with fail
   go_ret
   exact⟨rfl,rfl⟩
  | false =>
   rw[h2] at e2;go_enter Tryz.func115,Tryz.ntmps115
   go_wp2_with fail
   go_ret
   exact⟨rfl,rfl⟩
theorem Below.two {W:World} (o o':Obj):Below W.heap.size W ((W.alloc o).alloc o'):=((Below.refl _ _).alloc (ah _) o).alloc (by rw[an];omega) o'
theorem lX (f:Nat) (loop l:Int) (pa la:Option Addr) (ln lc:Nat) (w:World) :
  Calls Tryz.prog 57 #[.agg #[.int .i64 (f:Int),.int .i64 loop,.pointer pa,.slice la ln lc],.int .i64 l] w fun e w'=>e=.returned (.agg #[.int .i64 (f:Int),.int .i64 l,.pointer pa,.slice la ln lc])∧Below w.heap.size w w':=by
 go_enter Tryz.func57,Tryz.ntmps57
 go_wp2_with fail
 exact bodyPost_ret (v:=.agg #[.int .i64 (f:Int),.int .i64 l,.pointer pa,.slice la ln lc]) (by simp[results,Tryz.results57,go_sem]) rfl ⟨rfl,Below.two _ _⟩
theorem iQ {B b:Nat} {nv:Value} {N ub ob:Nat} {w w1 w2:World} {line k:Int} {v:Value} (hb:Below B w w1) (hB:B≤w1.heap.size) (h2:Below w1.heap.size w1 w2) (hf:DH w2 v line k):gI B b nv N ub ob (.error (k,line)) w (.returned v) w2 :=
 ⟨hb.trans (h2.mono hB),_,rfl,hf⟩
theorem Oa {T:List Nd} {B:Nat} {nv:Value} {ub ob:Nat} (b node f:Nat) (h:Nd) (loop:Int) (pa la:Option Addr) (ln lc:Nat) (st:aH) (w:World) (hT:wg w B nv T) (hw:jN w B b nv T.length st ub ob) (hx:T[node]? = some h) (hf:f<st.fns.length) :
  Calls Tryz.prog 53 #[.pointer (some ⟨b,0,none⟩),.int .i64 (node:Int),.agg #[.int .i64 (f:Int),.int .i64 loop,.pointer pa,.slice la ln lc]] w (gI B b nv T.length ub ob (if (st.fn f).many then .ok st else .error (14,h.line)) w):=by
 obtain⟨fv,FL,hw⟩:=hw;obtain⟨t,ht⟩:=hw.Bk hf;obtain⟨g,c,rfl,Yb,qU,s8⟩:=hw.fns.form ht;have hfn:=(hw.sQ ht).2;have wZ:=hw.len;have IU:f<FL.length:=by omega
 obtain⟨hbl,pE,uq⟩:=hw.gR;have cC:B≤w.heap.size:=aM hw.pos (fx hbl);have d0:w.cell? ⟨b,0,none⟩=some nv:=ab hw.blk 0;have d1:w.cell? ⟨b,1,none⟩=some (.slice (some ⟨g,0,none⟩) FL.length c):=ab hw.blk 1;have e3:w.cell? ⟨g,f*6+3,none⟩=some (.bool t.1.many):=(s8 3 (by omega)).1
 rw[hfn];have HW:=aa hw;have HT:=aa hT;have HX:=aa hx;clear hw hT hx hfn ht s8 wZ;cases hm:t.1.many with
 | true =>
  rw[hm] at e3;go_enter Tryz.func53,Tryz.ntmps53
  go_wp2_with fail
  go_region
  go_wp2_with fail
  go_ret
  exact⟨((Below.refl B w).alloc cC _).drew,rfl,⟨_,_,(HW.out.alloc _).drew⟩,(Fr.alloc _).drew⟩
 | false =>
  rw[hm] at e3;have HC:=aa (ab (HW.out.alloc (.cells #[.int .i64 (f:Int),.int .i64 loop,.pointer pa,.slice la ln lc] 92)).drew.blk 0);have AJ:=aa (HT.out.below (((Below.refl B w).alloc cC (.cells #[.int .i64 (f:Int),.int .i64 loop,.pointer pa,.slice la ln lc] 92)).drew));go_enter Tryz.func53,Tryz.ntmps53
  go_wp2_with fail
  go_region
  go_wp2_with fail
  refine(eH b node _ _ _ AJ.out HC.out HX.out).mono ?_;rintro e w1 ⟨v,rfl,⟨g1,rfl⟩,h1,h2⟩;have H1:=aa h1;have H2:=aa h2;clear h1 h2;go_wp2_with fail
  go_ret
  exact iQ (((Below.refl B w).alloc cC _).drew) (by simp;omega) H2.out H1.out
def gw (w:World) (s:ByteArray) (fs:List (Nat×Nat×(ByteArray→Option Value))) (pv xA:Value):Prop :=
 match fs.find? fun x=>(x.2.2 s).isSome with
 | none=>pv=.pointer none∧xA=.agg #[.int .i64 0,.int .i64 0]
 | some x=>∃k,pv=.pointer (some ⟨k,0,none⟩)∧x.2.2 s=some xA∧w.cell? ⟨k,2,none⟩=some (.int .i64 (x.1:Int))∧k<w.heap.size
def aaZ:Value→Nat
 | .pointer (some a)=>a.block+1
 | _=>0
def Ob (fs:List (Nat×Nat×(ByteArray→Option Value))):Prop:=∀x∈fs,∀s v,x.2.2 s=some v→∃a b,v=.agg #[.int .i64 a,.int .i64 b]
theorem Oc (w:World):(zeroValue 199).run Tryz.prog w=.ok (.agg #[.int .i64 0,.int .i64 0]) w:=by kernel_rfl
theorem Bn {B:Nat} (fs:List (Nat×Nat×(ByteArray→Option Value))) (ms:List Nat) (p:Value) (s:ByteArray) (w:World) (hc:cz w B fs ms p) (hs:s.size≤maxLen) (hl:Ob fs) :
  Calls Tryz.prog 116 #[p,.string s] w fun e w'=>∃pa a b,e=.returned (.tuple #[.pointer pa,.agg #[.int .i64 a,.int .i64 b]])∧gw w s fs (.pointer pa) (.agg #[.int .i64 a,.int .i64 b])∧Below w.heap.size w w':=by
 obtain⟨a0,rfl⟩:=hc.form;have HC:=aa hc;have HL:=aa hl;clear hc hl;go_enter Tryz.func116,Tryz.ntmps116
 go_wp2_with fail
 have hz:=heap_alloc_new w (.cells #[.int .i64 0,.int .i64 0] 199);have z0:=dJ w #[.int .i64 0,.int .i64 0] 199 0;have z1:=dJ w #[.int .i64 0,.int .i64 0] 199 1;have y0:=frozen_of_row (w.alloc (.cells #[.int .i64 0,.int .i64 0] 199)) w.heap.size 0 _ _ (heap_alloc_new w (.cells #[.int .i64 0,.int .i64 0] 199));have y1:=frozen_of_row (w.alloc (.cells #[.int .i64 0,.int .i64 0] 199)) w.heap.size 1 _ _ (heap_alloc_new w (.cells #[.int .i64 0,.int .i64 0] 199));replace z0:_=some (Value.int .i64 0):=z0;replace z1:_=some (Value.int .i64 0):=z1;have ef:w.heap.size<(w.alloc (.cells #[.int .i64 0,.int .i64 0] 199)).heap.size:=by rw[an];omega
 have Od:=aa ((Below.refl w.heap.size w).alloc (ah _) (.cells #[.int .i64 0,.int .i64 0] 199));generalize hW0:w.alloc (.cells #[.int .i64 0,.int .i64 0] 199)=W0 at *;have HW0:=aa hW0;clear hW0;go_loopw [0] (fun t wr=>∃cs Co,cz w B cs Co t∧fs.find? (fun x=>(x.2.2 s).isSome)=cs.find? (fun x=>(x.2.2 s).isSome)∧Ob cs∧Below W0.heap.size W0 wr) (fun t _=>aaZ t)
 case atStart=>exact⟨fs,ms,HC.out,rfl,HL.out,Below.refl _ _⟩
 case round =>
  obtain⟨cs,Co,hc,hf,hl,hb⟩:=hrel;have k0:wr.cell? ⟨w.heap.size,0,none⟩=some (.int .i64 0):=(hb.cell (p:=⟨w.heap.size,0,none⟩) ef).trans z0;have k1:wr.cell? ⟨w.heap.size,1,none⟩=some (.int .i64 0):=(hb.cell (p:=⟨w.heap.size,1,none⟩) ef).trans z1;have j0:wr.frozen? ⟨w.heap.size,0,none⟩=false:=(hb.frozen (p:=⟨w.heap.size,0,none⟩) ef).trans y0;have j1:wr.frozen? ⟨w.heap.size,1,none⟩=false:=(hb.frozen (p:=⟨w.heap.size,1,none⟩) ef).trans y1;have hblk:=(hb.block w.heap.size ef).trans hz;have IV:=aa hblk;clear hblk hz;have hwr:w.heap.size<wr.heap.size:=cJ ef hb.size;have HF:=aa hf;have HB:=aa hb;have HLc:=aa hl;clear hf hb hl z0 z1 y0 y1;cases cs with
  | nil =>
   obtain⟨rfl,rfl⟩:=hc;go_wp2_with fail
   have jR:=aa (((Od.out.trans (HB.out.mono (fx ef))).setCell (p:=⟨w.heap.size,0,none⟩) (ah _) (.int .i64 0)).setCell (p:=⟨w.heap.size,1,none⟩) (ah _) (.int .i64 0));refine bodyPost_ret (v:=.tuple #[.pointer none,.agg #[.int .i64 0,.int .i64 0]]) (by simp[results,Tryz.results116,go_sem,k0,k1]) rfl ⟨none,0,0,rfl,?_,jR.out⟩
   unfold gw;rw[HF.out];exact⟨rfl,rfl⟩
  | cons x cs =>
   obtain⟨k,p,m,ms2,rfl,rfl,h1,h2,h3,h4,h5,h6⟩:=hc;have hk:k<w.heap.size:=(aF.1 h2).1;have hbr:=Od.out.trans (HB.out.mono (fx ef));have h2':=(hbr.block k hk).trans h2;have hkr:k<wr.heap.size:=cJ hk hbr.size;have e0:wr.cell? ⟨k,0,none⟩=some (.pointer p):=ab h2' 0;have e1:wr.cell? ⟨k,1,none⟩=some (.map (some m)):=ab h2' 1;have hm:dP Tryz.prog 9 wr m x.2.1 x.2.2:=h3.same (hbr.block m h3.lt);have hrun:=hm.look (t:=193) (e:=199) Tryz.underlying9 Tryz.underlying193 (Oc wr) rfl s hs;have HX:=aa h6;have H5:=aa h5;have H2:=aa h2;clear h2 h2' h3 h6 h5 hm hbr;cases hg:x.2.2 s with
   | none =>
    rw[hg] at hrun;replace hrun:_=Result.ok (Value.tuple #[.agg #[.int .i64 0,.int .i64 0],.bool false]) wr:=hrun;go_wp2_with fail
    refine⟨⟨cs,ms2,HX.out,?_,fun y hy=>HLc.out y (cr _ hy),HB.out.alloc HB.out.size _⟩,?_⟩
    ·rw[HF.out,kM,hg]
     rfl
    ·cases p with
     | none=>exact Nat.succ_pos _
     | some a=>exact Nat.succ_lt_succ (H5.out a rfl)
   | some v =>
    obtain⟨a,b,rfl⟩:=HLc.out x (bT ..) s v hg;rw[hg] at hrun;replace hrun:_=Result.ok (Value.tuple #[.agg #[.int .i64 a,.int .i64 b],.bool true]) wr:=hrun;go_wp2_with fail
    go_region
    go_wp2_with fail
    have jR:=aa (((((Od.out.trans (HB.out.mono (fx ef))).setCell (p:=⟨w.heap.size,0,none⟩) (ah _) (.int .i64 a)).setCell (p:=⟨w.heap.size,1,none⟩) (ah _) (.int .i64 b)).alloc (by simp;omega) (.cells #[.int .i64 a,.int .i64 b] 199)).drew)
    have hq:=(Below.heap_alloc ((wr.setCell ⟨w.heap.size,0,none⟩ (.int .i64 a)).setCell ⟨w.heap.size,1,none⟩ (.int .i64 b)) (.cells #[.int .i64 a,.int .i64 b] 199) w.heap.size (by simp;omega)).trans (bt (bt IV.out 0 (.int .i64 a)) 1 (.int .i64 b))
    have q0:=ab hq 0;have q1:=ab hq 1;replace q0:_=some (Value.int .i64 a):=q0;replace q1:_=some (Value.int .i64 b):=q1;refine bodyPost_ret (v:=.tuple #[.pointer (some ⟨k,0,none⟩),.agg #[.int .i64 a,.int .i64 b]]) (by simp[results,Tryz.results116,go_sem,q0,q1]) rfl ⟨_,a,b,rfl,?_,jR.out⟩
    unfold gw;rw[HF.out,kM,hg];exact⟨k,rfl,hg,ab H2.out 2,hk⟩
theorem Bo {T:List Nd} {B:Nat} {nv:Value} {ub ob:Nat} (b node f:Nat) (h:Nd) (loop:Int) (pa la:Option Addr) (ln lc:Nat) (st:aH) (w:World) (hT:wg w B nv T) (hw:jN w B b nv T.length st ub ob) (hx:T[node]? = some h) (hl:loop=bP f st.frames) :
  Calls Tryz.prog 58 #[.pointer (some ⟨b,0,none⟩),.int .i64 (node:Int),.agg #[.int .i64 (f:Int),.int .i64 loop,.pointer pa,.slice la ln lc]] w (gI B b nv T.length ub ob (ee node f h.line st) w):=by
 obtain⟨fv,FL,hw⟩:=hw;obtain⟨hbl,pE,uq⟩:=hw.gR;have cC:B≤w.heap.size:=aM hw.pos (fx hbl);have jl:node<T.length:=(aJ.1 hx).1;have d0:w.cell? ⟨b,0,none⟩=some nv:=ab hw.blk 0;have d2:w.cell? ⟨b,2,none⟩=some (.slice (some ⟨ub,0,none⟩) T.length T.length):=ab hw.blk 2;obtain⟨u0,v0⟩:=bA hw.uses (j:=node*2) (by omega)
 obtain⟨u1,v1⟩:=bA hw.uses (j:=node*2+1) (by omega)
 have qY:=hT.few;have HR:Hid (ee node f h.line st=if loop = -1 then .error (8,h.line) else .ok (st.dw node (4,loop))):=aa (by rw[N3,hl])
 have HW:=aa hw;have HT:=aa hT;have HX:=aa hx;clear hw hT hx hl;by_cases hm:loop = -1
 ·subst hm
  have HC:=aa (ab (HW.out.alloc (.cells #[.int .i64 (f:Int),.int .i64 (-1),.pointer pa,.slice la ln lc] 92)).blk 0);have AJ:=aa (HT.out.below ((Below.refl B w).alloc cC (.cells #[.int .i64 (f:Int),.int .i64 (-1),.pointer pa,.slice la ln lc] 92)));clear d2 u0 v0 u1 v1;go_enter Tryz.func58,Tryz.ntmps58
  go_wp2_with fail
  refine(eH b node _ _ _ AJ.out HC.out HX.out).mono ?_;rintro e w1 ⟨v,rfl,⟨g1,rfl⟩,h1,h2⟩;have H1:=aa h1;have H2:=aa h2;clear h1 h2;go_wp2_with fail
  go_ret
  rw[show ee node f h.line st=.error (8,h.line) from HR.out.trans (by simp)]
  exact iQ ((Below.refl B w).alloc cC _) (by simp;omega) H2.out H1.out
 ·have g1:(loop == -1)=false:=aC.2 hm
  have HM:=aa hm;clear hm;go_enter Tryz.func58,Tryz.ntmps58
  go_wp2_with fail
  go_region
  go_wp2_with fail
  go_ret
  rw[show ee node f h.line st=.ok (st.dw node (4,loop)) from HR.out.trans (af HM.out)]
  refine⟨((vj HW.out node _ _).alloc (by simp;omega) _).drew,rfl,⟨_,_,((HW.out.use node (4,loop)).alloc _).drew⟩,?_⟩
  exact(((lV HW.out node _ _).mono (by decide)).trans (Fr.alloc _)).drew
def gJ (k:Int) (n:Nat):Bool×Int×Bool :=
 if k=26∨k=27 then (true,(n:Int)-1,true) else if k=11 then (true,0,true) else if k=28 then (true,0,false) else if k=19 then (true,(n:Int),false) else (false,0,false)
theorem Below.three {W:World} (o o' o2:Obj):Below W.heap.size W (((W.alloc o).alloc o').alloc o2):=(Below.two o o').alloc (by rw[an,an];omega) o2
theorem xB {n:Nat} (h:n≤1000000):wrap64 ((n:Int)-1)=(n:Int)-1:=by unfold wrap64;omega
theorem gK (k line op num:Int) (s:ByteArray) (na ka:Option Addr) (nn nc kn kc:Nat) (w:World) (fX:kn≤1000000) :
  Calls Tryz.prog 110 #[.agg #[.int .i64 k,.int .i64 line,.int .i64 op,.int .i64 num,.string s,.slice na nn nc,.slice ka kn kc]] w fun e w'=>e=.returned (.agg #[.bool (gJ k kn).1,.int .i64 (gJ k kn).2.1,.bool (gJ k kn).2.2])∧Below w.heap.size w w':=by
 have hwr:=xB fX;have key:k=26∨k=27∨k=11∨k=28∨k=19∨((k == 26)=false∧(k == 27)=false∧(k == 11)=false∧(k == 28)=false∧(k == 19)=false):=by
  simp only[aC];omega
 rcases key with rfl|rfl|rfl|rfl|rfl | ⟨g1,g2,g3,g4,g5⟩
 ·go_enter Tryz.func110,Tryz.ntmps110
  go_wp2_with fail
  exact bodyPost_ret (v:=.agg #[.bool true,.int .i64 ((kn:Int)-1),.bool true]) (by simp[results,Tryz.results110,go_sem]) rfl ⟨rfl,Below.three _ _ _⟩
 ·go_enter Tryz.func110,Tryz.ntmps110
  go_wp2_with fail
  exact bodyPost_ret (v:=.agg #[.bool true,.int .i64 ((kn:Int)-1),.bool true]) (by simp[results,Tryz.results110,go_sem]) rfl ⟨rfl,Below.three _ _ _⟩
 ·go_enter Tryz.func110,Tryz.ntmps110
  go_wp2_with fail
  exact bodyPost_ret (v:=.agg #[.bool true,.int .i64 0,.bool true]) (by simp[results,Tryz.results110,go_sem]) rfl ⟨rfl,Below.three _ _ _⟩
 ·go_enter Tryz.func110,Tryz.ntmps110
  go_wp2_with fail
  exact bodyPost_ret (v:=.agg #[.bool true,.int .i64 0,.bool false]) (by simp[results,Tryz.results110,go_sem]) rfl ⟨rfl,Below.three _ _ _⟩
 ·go_enter Tryz.func110,Tryz.ntmps110
  go_wp2_with fail
  exact bodyPost_ret (v:=.agg #[.bool true,.int .i64 (kn:Int),.bool false]) (by simp[results,Tryz.results110,go_sem]) rfl ⟨rfl,Below.three _ _ _⟩
 ·have hd:gJ k kn=(false,0,false):=by
   simp only[aC] at g1 g2 g3 g4 g5;unfold gJ;rw[af (by omega),af g3,af g4,af g5]
  rw[hd];clear hd;go_enter Tryz.func110,Tryz.ntmps110
  go_wp2_with fail
  exact bodyPost_ret (v:=.agg #[.bool false,.int .i64 0,.bool false]) (by simp[results,Tryz.results110,go_sem]) rfl ⟨rfl,Below.three _ _ _⟩
theorem DI {P:Program} (w:World) (t ty:TypeId) (base:Nat) (e:TypeId) (i:TypeInfo) (z:Value) (size bytes:Nat) (ht:P.underlying t=some (.slice e)) (hi:P.info? e=some i) (hz:i.zero=some z)
  (hsize:i.size=size) (hby:i.bytes=bytes) (hsz:0<size) (v:Value) (n:Nat) (xs:List Value) (hown:w.ownsRow base e size v n xs)
  (ad:Addr) (m c:Nat) (news:List Value) (hl:news.length=m*size) (hnews :∀j u,news[j]? = some u→w.cell? (ad.add j)=some u) (h1 :∀u∈news,u.oneCell'=true)
  (hm:0<m) (h63:n+m≤maxLen) (hbytes:(n+m)*bytes≤140737488355328) {v':Value} {w':World} (hr:(Builtin.append_ #[t,t] ty #[v,.slice (some ad) m c]).run P w=.ok v' w')
  (u:Value) (k:Nat) (ys:List Value) (hu:w.ownsRow base e size u k ys) (hk:u.ownBlock=v.ownBlock→k≤n):w'.ownsRow base e size u k ys:=by
 subst hsize hby;have acR:n+m≤9223372036854775807:=by simp only[maxLen] at h63;omega
 have new :∀o:Obj,(w.drew.alloc o).ownsRow base e i.size u k ys:=fun o=>hu.drew.alloc o
 rcases hown.2 with ⟨rfl,rfl⟩ | ⟨g,cap,cur,rfl,hbg,hg,hnc,hcm,hcs,EA⟩
 ·have h2:=run_append_nil (P:=P) w t ty e i z ht hi hz ad m c news hl hnews (by omega) (by omega) (by have hb:=hbytes;simp only[jY] at hb;omega)
  rw[hr] at h2;injection h2 with _ h2;rw[h2];exact new _
 ·by_cases hroom:n+m≤cap
  ·have acS:n*i.size+news.length≤cur.size:=by rw[hl,hcs,←Er];exact Eb _ hroom
   have h2:=run_append_room (P:=P) w t ty e i ht hi g n cap cur hg ad m c news hl hnews h1 hroom acS;rw[hr] at h2;injection h2 with _ h2;rw[h2];refine⟨hu.1,?_⟩;rcases hu.2 with hn | ⟨g',cap',cur',rfl,hB',vO,Eu,hc',hs',U6⟩
   ·exact .inl hn
   ·by_cases eg:g'=g
    ·subst eg
     rw[hg] at vO;injection vO with vO;injection vO with vO _ _;subst vO;have fX:k≤n:=hk rfl;refine .inr ⟨g',cap',_,rfl,hB',setRow_heap w g' cur _ e _ hg,Eu,hc',?_,?_⟩
     ·rw[←hs']
      simp only[Ef,cI,mc,kL,Array.length_toList];omega
     ·rw[←U6]
      have h3:k*i.size≤n*i.size:=Eb _ fX;have h4:(cur.toList.take (n*i.size)).length=n*i.size:=by rw[mc,Array.length_toList];omega
      show((cur.toList.take (n*i.size)++news++_).take (k*i.size))=_
      rw[fK,Uf (by omega),List.take_take,Eh h3]
    ·exact .inr ⟨g',cap',cur',rfl,hB',(setRow_other w g g' _ eg).trans vO,Eu,hc',hs',U6⟩
  ·have holds :∀j u,xs[j]? = some u→w.cell? ((⟨g,0,none⟩:Addr).add j)=some u:=hown.cells (g:=g) rfl
   have h2:=run_append_grow (P:=P) w t ty e i z ht hi hz ⟨g,0,none⟩ n cap xs hown.1 holds ad m c news hl hnews (by omega) (by omega) (growslice_fits (by omega) hbytes)
   rw[hr] at h2;injection h2 with _ h2;rw[h2];exact new _
def vP (W:World) (g:Nat) (ty:TypeId):Prop:=∃cs fz,W.heap[g]? = some (.cells cs ty fz)
theorem vP.set {W:World} {g:Nat} {ty:TypeId} (h:vP W g ty) (g' j:Nat) (v:Value):vP (W.setCell ⟨g',j,none⟩ v) g ty:=by
 obtain⟨cs,fz,h⟩:=h;by_cases e:g=g'
 ·subst e
  refine⟨cs.setIfInBounds j v,fz,?_⟩;simp[World.setCell,Array.getElem?_modify,h]
 ·exact⟨cs,fz,(Below.heap_setCell W ⟨g',j,none⟩ v g e).trans h⟩
theorem vP.fr {W:World} {g:Nat} {ty:TypeId} {E:List Nat} (h:vP W g ty) (he:ty∈E) (j:Nat) (v:Value):Fr E W (W.setCell ⟨g,j,none⟩ v):=by
 obtain⟨cs,fz,h⟩:=h;exact Fr.set h he j v
theorem Oe {ops:Array Oper} {rest:List Oper} {o:Oper} {a:Act} {Q:Exit→Act→World→Prop} (w:World) (l:cS) (hgd:o.guard=none) (sl y:Operand)
  (ho:o.op=.call { callee:=.builtin .append,args:=#[sl,y],argTypes:=#[90,90]}) (B:Nat) (v:Value) (L:List cS) (hs:a.eval sl=v) (hown:w.ownsRow B 238 2 v L.length (L.reverse.flatMap Ft)) (g:Nat) (hg:g=w.heap.size) (hy:a.eval y=.slice (some ⟨g,0,none⟩) 1 1)
  (hlen:L.length≤1000000) (hB:B≤w.heap.size)
  (h :∀g' c' w',w'.ownsRow B 238 2 (.slice (some ⟨g',0,none⟩) (L.length+1) c') (l::L).length ((l::L).reverse.flatMap Ft)→qW v.ownBlock w w'→Below B w w'→(v.ownBlock=some g'∨w.heap.size≤g')→(∀u m xs,w.ownsRow B 238 2 u m xs→(u.ownBlock=v.ownBlock→m≤L.length)→w'.ownsRow B 238 2 u m xs)→wpList Tryz.prog ops Q rest (a.put o.dst (.slice (some ⟨g',0,none⟩) (L.length+1) c')) w') :
  wpList Tryz.prog ops Q (o::rest) a (w.alloc (.cells (Ft l).toArray 238)):=by
 subst hg;obtain⟨i0,mY,hz0,hz1,hz2⟩:=info_parts DG;have hcell:=heap_alloc_new w (.cells (Ft l).toArray 238);have hpl :∀j:Nat,(⟨w.heap.size,0,none⟩:Addr).add j=⟨w.heap.size,j,none⟩:=fun j=>by unfold Addr.add;split<;>simp_all
 have CZ:(w.alloc (.cells (Ft l).toArray 238)).heap.size=w.heap.size+1:=an _ _;have hnews :∀j u,(Ft l)[j]? = some u→(w.alloc (.cells (Ft l).toArray 238)).cell? ((⟨w.heap.size,0,none⟩:Addr).add j)=some u:=fun j u hj=>by
  rw[hpl,cell_of_row _ _ j _ 238 (0,0) hcell];simpa using hj
 have h1c :∀u∈Ft l,u.oneCell'=true:=by
  intro u hu;simp[Ft] at hu;rcases hu with rfl|rfl<;>rfl
 have hmx:L.length+1≤maxLen:=by unfold maxLen;omega
 have hby:(L.length+1)*16≤140737488355328:=by omega
 refine wpList_plain hgd fun K hK=>?_
 obtain⟨g',c',w',hr,r1,r2,r3,_⟩:=run_append_lies (P:=Tryz.prog) _ 90 o.type B 238 i0 _ 2 16 Tryz.underlying90 mY hz0 hz1 hz2 rfl (by omega) v L.length _ (hown.alloc _) ⟨w.heap.size,0,none⟩ 1 1 (Ft l) rfl hnews h1c (by omega) hmx hby (by omega) (w.heap.size+1) CZ
 have hold:=DI (P:=Tryz.prog) _ 90 o.type B 238 i0 _ 2 16 Tryz.underlying90 mY hz0 hz1 hz2 (by omega) v L.length _ (hown.alloc _) ⟨w.heap.size,0,none⟩ 1 1 (Ft l) rfl hnews h1c (by omega) hmx hby hr
 unfold Oper.wp execOp;simp only[ho,resolve,invoke,builtin,Sem.run_bind,Sem.run_pure,Result.andThen_ok,Kc,eP,List.map_nil,hs,hy,hr];have yn:=r2.size;refine hK _ _ (h g' c' w' ?_ ⟨by omega,fun k hk hn=>(r2.block k (by omega) fun e=>hn e.symm).trans (Below.heap_alloc w _ k hk)⟩ ⟨r2.os,r2.tape,r2.output,by omega,fun k hk=>?_⟩ (r3.imp id fun e=>by omega) fun u m xs hu hm=>hold u m xs (hu.alloc _) hm)
 ·rw[List.length_cons,Ed,oE,Ea]
  exact r1
 ·refine(r2.block k (by omega) fun e=>?_).trans (Below.heap_alloc w _ k (by omega))
  have:=(hown.lt k e.symm).1;omega
def DJ (ch:List sO) (u:sO):Int:=match ch.findIdx? (fun y=>decide (y=u)) with|some i=>(i:Int)|none=>-1
theorem S8 {ch:List sO} {u:sO} {k:Nat} (h :∀y∈ch.take k,y≠u) (hk:ch[k]? = some u):ch.findIdx? (fun y=>decide (y=u))=some k:=by
 obtain⟨hlt,he⟩:=aJ.1 hk;refine zx.2 ⟨hlt,by rw[he];simp,fun j hj=>?_⟩
 have:ch[j]∈ch.take k:=by
  have h1:(ch.take k)[j]? = some ch[j]:=by rw[JV hj];exact bE (by omega)
  exact aL h1
 simpa using h _ this
theorem Yc {ch:List sO} {u:sO} (h :∀y∈ch,y≠u):ch.findIdx? (fun y=>decide (y=u))=none:=by
 rw[List.findIdx?_eq_none_iff];intro y hy;simpa using h y hy
theorem Bp {ch:List sO} {u y:sO} {k:Nat} (h :∀z∈ch.take k,z≠u) (hk:ch[k]? = some y) (hy:y≠u) :∀z∈ch.take (k+1),z≠u:=by
 rw[jw _ _ _ hk];intro z hz;rcases cU.1 hz with hz|hz
 ·exact h z hz
 ·rw[bZ.1 hz];exact hy
theorem IW {B:Nat} (v:Value) (ch:List sO) (u:sO) (w:World) (hr:w.ownsRow B 59 2 v ch.length (ch.flatMap Fp)) (hl:ch.length≤1000) :
  Calls Tryz.prog 212 #[v,.agg #[.bool u.loc,.int .i64 (u.idx:Int)]] w fun e w'=>e=.returned (.int .i64 (DJ ch u))∧Below w.heap.size w w':=by
 obtain⟨A,c,rfl,hc,jc⟩:=dv hr;have HC:=aa jc;clear jc hr;have Od:=aa ((Below.refl w.heap.size w).alloc (ah _) (.cells #[.bool u.loc,.int .i64 (u.idx:Int)] 59));have z0:=dJ w #[.bool u.loc,.int .i64 (u.idx:Int)] 59 0;have z1:=dJ w #[.bool u.loc,.int .i64 (u.idx:Int)] 59 1;replace z0:_=some (Value.bool u.loc):=z0;replace z1:_=some (Value.int .i64 (u.idx:Int)):=z1;have ef:w.heap.size<(w.alloc (.cells #[.bool u.loc,.int .i64 (u.idx:Int)] 59)).heap.size:=by rw[an];omega
 go_enter Tryz.func212,Tryz.ntmps212
 go_wp2_with fail
 generalize w.alloc (.cells #[.bool u.loc,.int .i64 (u.idx:Int)] 59)=W0 at *;go_loopw [8] (fun t wr=>∃k:Nat,t=.int .i64 (k:Int)∧k≤ch.length∧(∀y∈ch.take k,y≠u)∧Below W0.heap.size W0 wr) (fun t _=>ch.length-(intOf t).toNat)
 case atStart=>exact⟨0,rfl,bB _,fun y hy=>by simp at hy,Below.refl _ _⟩
 case round =>
  obtain⟨k,rfl,hk,hno,hb⟩:=hrel;have k0:=(hb.cell (p:=⟨w.heap.size,0,none⟩) ef).trans z0;have k1:=(hb.cell (p:=⟨w.heap.size,1,none⟩) ef).trans z1;have Yd:=aa hno;have HB:=aa hb;clear hno hb;by_cases hlt:k<ch.length
  ·obtain⟨y,hy⟩ :∃y,ch[k]? = some y:=⟨ch[k],bE hlt⟩
   rcases HC.out with h0 | ⟨g,rfl,Yb,qU,s8⟩
   ·omega
   have tb:=Od.out.trans (HB.out.mono (fx ef));have e0:wr.cell? ⟨g,k*2,none⟩=some (.bool y.loc):=(tb.cell (p:=⟨g,k*2,none⟩) qU).trans ((s8 (k*2) (by omega)).trans (ez tH ch k 0 y hy (by omega)))
   have e1:wr.cell? ⟨g,k*2+1,none⟩=some (.int .i64 (y.idx:Int)):=(tb.cell (p:=⟨g,k*2+1,none⟩) qU).trans ((s8 (k*2+1) (by omega)).trans (ez tH ch k 1 y hy (by omega)))
   have HY:=aa hy;clear s8 hy tb;by_cases hloc:u.loc=y.loc
   ·by_cases S9:u.idx=y.idx
    ·obtain rfl:y=u:=by cases u;cases y;simp_all
     go_wp2_with fail
     go_region
     go_wp2_with fail
     go_ret
     refine⟨?_,(Od.out.trans (HB.out.mono (fx ef))).drew⟩;unfold DJ;rw[S8 Yd.out HY.out];rfl
    ·have g2:((u.idx:Int) == (y.idx:Int))=false:=aC.2 (by omega)
     have hne:Hid (y≠u):=aa fun e=>S9 (by rw[e])
     rw[hloc] at *;clear S9;go_wp2_with fail
     go_region
     go_wp2_with fail
     exact⟨⟨k+1,by go_num,hlt,Bp Yd.out HY.out hne.out,HB.out.drew⟩,by simp[intOf];omega⟩
   ·have g1:(u.loc == y.loc)=false:=aC.2 hloc
    have hne:Hid (y≠u):=aa fun e=>hloc (by rw[e])
    clear hloc;go_wp2_with fail
    go_region
    go_wp2_with fail
    exact⟨⟨k+1,by go_num,hlt,Bp Yd.out HY.out hne.out,HB.out.drew⟩,by simp[intOf];omega⟩
  ·have zr:k=ch.length:=by omega
   go_wp2_with fail
   go_ret
   refine⟨?_,Od.out.trans (HB.out.mono (fx ef))⟩;unfold DJ;rw[Yc (fun y hy=>Yd.out y (by rw[zr,zH];exact hy))]
   rfl
def Tc (B b:Nat) (nv:Value) (N ub ob:Nat) (st:aH) (r:Option (List dr×Nat)) (w:World) (e:Ending) (w':World):Prop :=
 Below B w w'∧Fr [52,61,59] w w'∧match r with
 | some (F,k)=>e=.returned (.tuple #[.int .i64 (k:Int),.nilIface])∧jN w' B b nv N { st with fns:=F} ub ob
 | none=>e=.returned (.tuple #[.int .i64 0,.iface 79 (.int .i64 12)])
theorem DK {F:List dr} {f k:Nat} {x:dr} {u:sO} (hx:F[f]? = some x) (h:x.ch.findIdx? (fun y=>decide (y=u))=some k):gE F f u=some (F,k):=by
 unfold gE;simp only[gG hx,h]
theorem DL {F:List dr} {f:Nat} {x:dr} {u:sO} (hx:F[f]? = some x) (h:x.ch.findIdx? (fun y=>decide (y=u))=none):gE F f u=if 60≤x.ch.length then none else some (F.set f { x with ch:=x.ch++[u]},x.ch.length):=by
 unfold gE;simp only[gG hx,h]
theorem oc {W W':World} {B e s n:Nat} {v:Value} {xs:List Value} (h:W.ownsRow B e s v n xs) (hb:Below W.heap.size W W'):W'.ownsRow B e s v n xs:=qW.row (o:=none) ⟨hb.size,fun k hk _=>hb.block k hk⟩ h fun _ _ e=>by cases e
theorem Og {ops:Array Oper} {o:Oper} {a:Act} {K:Act→World→Prop} {Q:Exit→Act→World→Prop} {E:Prop} (w0 w1:World) (n:sO) (hgd:o.guard=none) (sl y:Operand)
  (ho:o.op=.call { callee:=.builtin .append,args:=#[sl,y],argTypes:=#[50,50]}) (B:Nat) (v:Value) (ns:List sO) (hs:a.eval sl=v) (hown:w0.ownsRow B 59 2 v ns.length (ns.flatMap Fp)) (ef :∀(i:Nat),i<w0.heap.size→w1.heap[i]? = w0.heap[i]?) (g:Nat) (hg:g=w0.heap.size) (hy:a.eval y=.slice (some ⟨g,0,none⟩) 1 1)
  (hcell:w1.heap[g]? = some (.cells (Fp n).toArray 59 (0,0))) (hlen:ns.length≤1000000) (hB:B≤w0.heap.size) (hle:w0.heap.size≤w1.heap.size) (X6:w1.os=w0.os∧w1.tape=w0.tape∧w1.output=w0.output)
  (h :∀g' c' w',w'.ownsRow B 59 2 (.slice (some ⟨g',0,none⟩) (ns.length+1) c') (ns++[n]).length ((ns++[n]).flatMap Fp)→qW v.ownBlock w0 w'→Below B w0 w'→(v.ownBlock=some g'∨w0.heap.size≤g')→K (a.put o.dst (.slice (some ⟨g',0,none⟩) (ns.length+1) c')) w') :
  if Region.wanted o (yielded ops a.tmps)=true then Oper.wp Tryz.prog o a w1 K Q else E:=by
 obtain⟨i0,mY,hz0,hz1,hz2⟩:=info_parts NP;refine Bh w0 w1 (Fp n) hgd sl y 50 59 i0 _ 2 16 ho Tryz.underlying50 mY hz0 hz1 hz2 rfl (by omega) (by omega) B v ns.length _ hs hown ef g hg hy hcell rfl (by intro u hu;simp[Fp] at hu;rcases hu with rfl|rfl<;>rfl) hlen hB hle X6 ?_
 intro g' c' w' r1 r2 r3 r4;refine h g' c' w' ?_ r2 r3 r4;rw[cI,mF,oE,Ea];exact r1
theorem Bq {B:Nat} {nv:Value} {N ub ob:Nat} (b f:Nat) (u:sO) (st:aH) (w:World) (hw:jN w B b nv N st ub ob) (hf:f<st.fns.length) (oB:dW st.fns) :
  Calls Tryz.prog 189 #[.pointer (some ⟨b,0,none⟩),.int .i64 (f:Int),.agg #[.bool u.loc,.int .i64 (u.idx:Int)]] w (Tc B b nv N ub ob st (gE st.fns f u) w):=by
 obtain⟨fv,FL,hw⟩:=hw;obtain⟨⟨t1,tv,tu⟩,ht⟩:=hw.Bk hf;obtain⟨g,c,rfl,Yb,qU,s8⟩:=hw.fns.form ht;obtain⟨Cp,hfn⟩:=hw.sQ ht;simp only at Cp hfn;obtain⟨UA,uc,huu,JO,_⟩:=dv (hw.fns.ch _ (aL ht));simp only at huu JO;subst huu;obtain⟨hbl,pE,uq⟩:=hw.gR;have cC:B≤w.heap.size:=aM hw.pos (fx hbl);have wZ:=hw.len;have hfL:f<FL.length:=by omega
 have d1:w.cell? ⟨b,1,none⟩=some (.slice (some ⟨g,0,none⟩) FL.length c):=ab hw.blk 1;have e5:w.cell? ⟨g,f*6+5,none⟩=some (.slice UA t1.ch.length uc):=(s8 5 (by omega)).1
 have hup:t1.ch.length≤60:=(oB f t1 Cp).2;have Ye:=aa (hw.fns.ch _ (aL ht));simp only at Ye;have HW:=aa hw;have HT:=aa ht;have U7:=aa Cp;clear hw ht Cp hfn s8 wZ oB;go_enter Tryz.func189,Tryz.ntmps189
 go_wp2_with fail
 have dL:=aa ((Below.refl w.heap.size w).alloc (ah _) (.cells #[.bool u.loc,.int .i64 (u.idx:Int)] 59));have x0:=dJ w #[.bool u.loc,.int .i64 (u.idx:Int)] 59 0;have x1:=dJ w #[.bool u.loc,.int .i64 (u.idx:Int)] 59 1;replace x0:_=some (Value.bool u.loc):=x0;replace x1:_=some (Value.int .i64 (u.idx:Int)):=x1;have e5':=(dL.out.cell (p:=⟨g,f*6+5,none⟩) qU).trans e5;have je:=aa (HW.out.alloc (.cells #[.bool u.loc,.int .i64 (u.idx:Int)] 59));have Oh:=aa (oc Ye.out dL.out);have hs1:w.heap.size<(w.alloc (.cells #[.bool u.loc,.int .i64 (u.idx:Int)] 59)).heap.size:=by rw[an];omega
 generalize w.alloc (.cells #[.bool u.loc,.int .i64 (u.idx:Int)] 59)=W1 at *;clear HW Ye d1 e5;have y0:=cell_regrown x0;have y1:=cell_regrown x1;have y5:=cell_regrown e5';refine wp_region_quiet_below (by kernel_rfl) (by kernel_rfl) ?_
 repeat (first|go_big_quiet_step (first
   | (go_at_call 212;exact Calls.regrown_of (IW _ t1.ch u _ (oc Oh.out (below_regrown _ _ _)) (by omega)))))
 refine wpQuiet_nil ?_;intro _ hw';obtain⟨⟨dq,osq⟩,hw''⟩:=hw';subst hw'';have oS:=aa (dL.out.trans ((below_regrown W1 dq osq).mono (fx hs1)));have lz:=aa (je.out.later (below_regrown W1 dq osq));have aa0:=aa (oc Oh.out (below_regrown W1 dq osq));have hs2:w.heap.size<(«Sort».grow (redrawn W1 dq) osq).heap.size:=cJ hs1 (below_regrown W1 dq osq).size;have x02:=((below_regrown W1 dq osq).cell (p:=⟨w.heap.size,0,none⟩) hs1).trans x0;have x12:=((below_regrown W1 dq osq).cell (p:=⟨w.heap.size,1,none⟩) hs1).trans x1;have e52:=((below_regrown W1 dq osq).cell (p:=⟨g,f*6+5,none⟩) (Nat.lt_trans qU hs1)).trans e5';dsimp only
 generalize «Sort».grow (redrawn W1 dq) osq=W2 at *;clear y0 y1 y5 x0 x1 e5' je Oh dL;cases hi:t1.ch.findIdx? (fun y=>decide (y=u)) with
 | some k =>
  have hv:DJ t1.ch u=(k:Int):=by unfold DJ;rw[hi]
  have HE:=aa (DK U7.out hi);rw[hv];have g1:decide ((0:Int)≤(k:Int))=true:=bX (by omega)
  clear hv hi;go_wp2_with fail
  go_ret2
  refine⟨oS.out.mono cC,Fr.ae oS.out,?_⟩;rw[HE.out];exact⟨rfl,_,_,lz.out⟩
 | none =>
  have hv:DJ t1.ch u = -1:=by unfold DJ;rw[hi]
  have HE:=aa (DL U7.out hi);rw[hv];clear hv hi;by_cases h60:60≤t1.ch.length
  ·have PY:=aa (HE.out.trans (al h60))
   have g1:((t1.ch.length:Int) == 60)=true:=wD.2 (by omega)
   go_wp2_with fail
   go_ret2
   refine⟨oS.out.mono cC,Fr.ae oS.out,?_⟩;rw[PY.out];rfl
  ·have PY:=aa (HE.out.trans (af h60))
   have g1:((t1.ch.length:Int) == 60)=false:=aC.2 (by omega)
   have hB2:B≤W2.heap.size:=aM cC oS.out.size;have aas:t1.ch.length≤1000000:=by omega
   have hg2:g<W2.heap.size:=Nat.lt_trans qU hs2;obtain⟨g',c',pF,_,_,Ar⟩:=lz.out.fns.form HT.out;injection pF with pF _ hcc;injection pF with pF;injection pF with pF _ _;subst pF hcc;have z52:=(Ar 5 (by omega)).2
   have HZ:Hid ((W2.alloc (.cells #[.bool u.loc,.int .i64 (u.idx:Int)] 59)).drew.heap[W2.heap.size]? = some (.cells #[.bool u.loc,.int .i64 (u.idx:Int)] 59 (0,0))):=aa (heap_alloc_new W2 _);clear Ar;go_wp2_with fail
   go_region_law ((refine Og W2 _ u (by rfl) _ _ (by rfl) B (.slice UA t1.ch.length uc) t1.ch (by rfl) aa0.out (fun i hi=>Below.heap_alloc W2 _ i hi) W2.heap.size rfl (by rfl) HZ.out aas hB2 (by simp[World.drew]) ⟨rfl,rfl,rfl⟩ ?_;intro g8 c8 w8 r8 b8 U8 n8;have vu:=b8.row lz.out.fns.row (fun k hk e=>eo lz.out.fns.row (lz.out.fns.ch _ (aL HT.out)) (by decide) k hk e);have e58:w8.cell? ⟨g,f*6+5,none⟩=some (.slice UA t1.ch.length uc):=(World.ownsRow.cellAt vu (f*6+5) (by omega)).trans (ez qz FL f 5 _ HT.out (by omega));have z58:=World.ownsRow.frozenAt vu (f*6+5);have R8:=aa r8;have B8:=aa b8;have PZ:=aa U8;have N8:=aa n8;clear r8 b8 U8 n8 vu))
   all_goals
    have h9:=lz.out.S3 HT.out B8.out R8.out (fun k hk=>by injection hk with hk;subst hk;exact N8.out)
    have Yf:=aa h9.2;have HW9:=aa h9.1;have HB9:=aa (((oS.out.mono cC).trans PZ.out).setCell (p:=⟨g,f*6+5,none⟩) Yb (.slice (some ⟨g8,0,none⟩) (t1.ch.length+1) c8));have k9:=World.cell?_setCell_same' w8 ⟨g,f*6+5,none⟩ (.slice (some ⟨g8,0,none⟩) (t1.ch.length+1) c8) (by rw[e58];rfl)
    clear h9;generalize w8.setCell ⟨g,f*6+5,none⟩ (.slice (some ⟨g8,0,none⟩) (t1.ch.length+1) c8)=W9 at *;clear e58 z58 R8 B8 PZ N8;go_wp2_with fail
    go_ret2
    refine⟨HB9.out,(Fr.ae oS.out).trans Yf.out,?_⟩;rw[PY.out];exact⟨rfl,_,_,HW9.out⟩
theorem Fr.past {E:List Nat} {W W2 X:World} (h:Fr E W W2) (hk :∀k,k<W.heap.size→X.heap[k]? = W2.heap[k]?) (hs:W2.heap.size≤X.heap.size):Fr E W X :=
 ⟨aM h.size hs,fun k c e fz hc he=>(hk k (aF.1 hc).1).trans (h.cells k c e fz hc he),fun k o hc ho=>(hk k (aF.1 hc).1).trans (h.others k o hc ho)⟩
theorem e9.fU {W:World} {B b:Nat} {nv:Value} {N:Nat} {st:aH} {fv:Value} {ub ob:Nat} {L:List mB} (h:e9 W B b nv N st fv ub ob L) {r:Nat} (hr:vP W r 57) (hne:r≠ub) (j:Nat) (v:Value):e9 (W.setCell ⟨r,j,none⟩ v) B b nv N st fv ub ob L:=by
 have k:Fr [57] W (W.setCell ⟨r,j,none⟩ v):=hr.fr (by decide) j v
 exact⟨k.cells b _ _ _ h.blk (by decide),⟨k.row h.fns.row (by decide),fun t ht=>k.row (h.fns.vars t ht) (by decide),fun t ht=>k.row (h.fns.ch t ht) (by decide),h.fns.pD,h.fns.qB⟩,h.are,(qW.set W r j v).row h.uses (fun g hg e=>hne (by injection hg with hg;injection e with e;exact e.trans hg.symm)),k.row h.mC (by decide),h.pos⟩
theorem jN.fU {W:World} {B b:Nat} {nv:Value} {N:Nat} {st:aH} {ub ob:Nat} (h:jN W B b nv N st ub ob) {r:Nat} (hr:vP W r 57) (hne:r≠ub) (j:Nat) (v:Value):jN (W.setCell ⟨r,j,none⟩ v) B b nv N st ub ob:=by
 obtain⟨fv,L,h⟩:=h;exact⟨fv,L,h.fU hr hne j v⟩
theorem jN.alloc {W:World} {B b:Nat} {nv:Value} {N:Nat} {st:aH} {ub ob:Nat} (h:jN W B b nv N st ub ob) (o:Obj):jN (W.alloc o) B b nv N st ub ob:=by
 obtain⟨fv,L,h⟩:=h;exact⟨fv,L,h.alloc o⟩
theorem yY {W:World} {r:Nat} {x y:Value} {ty:TypeId} (h:W.heap[r]? = some (.cells #[x,y] ty (0,0))) (a c:Value):((W.setCell ⟨r,0,none⟩ a).setCell ⟨r,1,none⟩ c).heap[r]? = some (.cells #[a,c] ty (0,0)):=by
 simpa using bt (bt h 0 a) 1 c
theorem qE (W:World) (r:Nat) (a c:Value) (k:Nat) (hk:k≠r):((W.setCell ⟨r,0,none⟩ a).setCell ⟨r,1,none⟩ c).heap[k]? = W.heap[k]?:=by
 rw[Below.heap_setCell _ _ _ k hk,Below.heap_setCell _ _ _ k hk]
theorem nO (W:World) (r:Nat) (a c:Value):((W.setCell ⟨r,0,none⟩ a).setCell ⟨r,1,none⟩ c).heap.size=W.heap.size:=by simp[World.setCell]
def fY (n:jn) (F:List dr):List dr:=F.set n.fn (da (F.getD n.fn ⟨0,0,0,false,[],[]⟩) n.i)
theorem Br (x:dr) (i:Nat):da (da x i) i=da x i:=by
 cases h:x.vars[i]? with
 | none =>
  have e:da x i=x:=by unfold da;rw[h]
  rw[e,e]
 | some v =>
  have hl:=(aJ.1 h).1;have e:da x i={ x with vars:=x.vars.set i { v with cap:=true}}:=by unfold da;rw[h]
  rw[e];unfold da;dsimp only
  rw[ec hl];dsimp only
  rw[List.set_set]
theorem DM (n:jn) (F:List dr):fY n (fY n F)=fY n F:=by
 by_cases h:n.fn<F.length
 ·unfold fY
  have e:(F.set n.fn (da (F.getD n.fn ⟨0,0,0,false,[],[]⟩) n.i)).getD n.fn ⟨0,0,0,false,[],[]⟩=da (F.getD n.fn ⟨0,0,0,false,[],[]⟩) n.i:=by
   rw[jU,ec h];rfl
  rw[e,Br,List.set_set]
 ·have e:fY n F=F:=by unfold fY;rw[D8 (by omega)]
  rw[e,e]
theorem Bt {n:jn} {F:List dr} {y:dr} (h:F[n.fn]? = some y):uW F (fY n F):=by
 unfold fY;rw[gG h];exact .set h (qv y n.i)
theorem yZ {n:jn} {F:List dr} {y:dr} (hF:AZ F) (h:F[n.fn]? = some y):AZ (fY n F):=by
 unfold fY;rw[gG h];exact hF.set h (qv y n.i)
theorem vv {n:jn} {F:List dr} (hF:dW F):dW (fY n F):=by
 unfold fY;exact hF.set ⟨by rw[(rN _ _).1];exact(hF.getD n.fn).1,by rw[(rN _ _).2];exact(hF.getD n.fn).2⟩
theorem nP (n:jn) (F:List dr):(fY n F).length=F.length:=by unfold fY;simp
theorem Td {F:List dr} {f:Nat} {x:dr} (h:F[f]? = some x) {n:jn} (he:f≠n.fn):(fY n F)[f]? = some x:=by
 unfold fY;rw[fJ (fun e=>he e.symm)]
 exact h
def fC (n:jn) (g f:Nat) (F:List dr):Option (List dr×Int×Nat) :=
 if f=n.fn then some (F,2,n.i) else (lQ n g (fY n F) f).map fun r=>(r.1,3,r.2)
theorem IX {n:jn} {g f p:Nat} {F:List dr} {x:dr} (hx:F[f]? = some x) (hp:x.parent=(p:Int)) (he:f≠n.fn):lQ n (g+1) (fY n F) f=(fC n g p (fY n F)).bind fun r=>gE r.1 f ⟨decide (r.2.1=2),r.2.2⟩:=by
 rw[lQ];simp only[gG (Td hx he),hp];unfold fC;by_cases h:p=n.fn
 ·subst h
  rw[al rfl,al rfl];rfl
 ·rw[af (by omega),af h,DM,iI]
  cases lQ n g (fY n F) p with
  | none=>rfl
  | some r=>rfl
theorem Oi {n:jn} {g f:Nat} {F F':List dr} {kd:Int} {i:Nat} (h:fC n g f F=some (F',kd,i)) (hF:AZ F) (oB:dW F) (ha:Nl F n.fn f) (hf:f<F.length) (hv :∃y v,F[n.fn]? = some y∧y.vars[n.i]? = some v∧v.name=n.s):uW F F'∧AZ F'∧dW F'∧F'.length=F.length:=by
 unfold fC at h;by_cases he:f=n.fn
 ·rw[al he] at h
  injection h with h;injection h with h _;subst h;exact⟨.refl _,hF,oB,rfl⟩
 ·rw[af he] at h
  cases hu:lQ n g (fY n F) f with
  | none=>rw[hu] at h;cases h
  | some r =>
   obtain⟨F1,k⟩:=r;rw[hu] at h;injection h with h;injection h with h _;have h:F1=F':=h;subst h;obtain⟨y,v,h1,h2,h3⟩:=hv;have hyl:=(aJ.1 h1).1;have hG:=Bt h1;have hc:(fY n F)[n.fn]? = some (da y n.i):=by
    unfold fY;rw[gG h1,ec hyl]
   obtain⟨a1,a2,a3,_⟩:=Fg g hu (yZ hF h1) (ha.ext hG) (fun e=>he e.symm) (by rw[nP];exact hf) ⟨da y n.i,{ v with cap:=true},hc,by
    unfold da;rw[h2];exact ec (aJ.1 h2).1,h3,rfl⟩
   obtain⟨b1,b2⟩:=Be g hu (vv oB);exact⟨hG.trans a1,a2,b1,by rw[a3,nP]⟩
def Oj (B b:Nat) (nv:Value) (N ub ob:Nat) (st:aH) (r:Option (List dr×Int×Nat)) (w:World) (e:Ending) (w':World):Prop :=
 Below B w w'∧Fr [52,61,59] w w'∧match r with
 | some (F,k,i)=>e=.returned (.tuple #[.agg #[.int .i64 k,.int .i64 (i:Int)],.nilIface])∧jN w' B b nv N { st with fns:=F} ub ob
 | none=>e=.returned (.tuple #[.agg #[.int .i64 0,.int .i64 0],.iface 79 (.int .i64 12)])
theorem Ok {B:Nat} {nv:Value} {N ub ob:Nat} (b:Nat) (n:jn) :∀(g f:Nat) (st:aH) (w:World),f<g→jN w B b nv N st ub ob→AZ st.fns→dW st.fns→Nl st.fns n.fn f→(∃y v,st.fns[n.fn]? = some y∧y.vars[n.i]? = some v∧v.name=n.s)→f<st.fns.length→st.fns.length≤100000 →
  Calls Tryz.prog 161 #[.pointer (some ⟨b,0,none⟩),.int .i64 (f:Int),.int .i64 (n.fn:Int),.int .i64 (n.i:Int)] w (Oj B b nv N ub ob st (fC n g f st.fns) w):=by
 intro g;induction g with
 | zero=>intro f st w hfg;exact absurd hfg (gV _)
 | succ g ih =>
  intro f st w hfg hw CD oB DN hv hf IU;by_cases he:f=n.fn
  ·have HE:Hid (fC n (g+1) f st.fns=some (st.fns,2,n.i)):=aa (by unfold fC;rw[al he])
   have g1:((f:Int) == (n.fn:Int))=true:=wD.2 (by omega)
   obtain⟨fv,FL,hw⟩:=hw;obtain⟨hbl,pE,uq⟩:=hw.gR;have cC:B≤w.heap.size:=aM hw.pos (fx hbl);have HW:=aa hw;clear hw DN hv ih he hfg;go_enter Tryz.func161,Tryz.ntmps161
   go_wp2_with fail
   have k0:=dJ w #[.int .i64 2,.int .i64 (n.i:Int)] 57 0;have k1:=dJ w #[.int .i64 2,.int .i64 (n.i:Int)] 57 1;replace k0:_=some (Value.int .i64 2):=k0;replace k1:_=some (Value.int .i64 (n.i:Int)):=k1;refine bodyPost_ret (v:=.tuple #[.agg #[.int .i64 2,.int .i64 (n.i:Int)],.nilIface]) (by simp[results,Tryz.results161,go_sem,k0,k1]) rfl ?_
   refine⟨(Below.refl B w).alloc cC _,Fr.alloc _,?_⟩;rw[HE.out];exact⟨rfl,_,_,HW.out.alloc _⟩
  ·have g1:((f:Int) == (n.fn:Int))=false:=aC.2 (by omega)
   obtain⟨fv,FL,hw⟩:=hw;obtain⟨hbl,pE,uq⟩:=hw.gR;have cC:B≤w.heap.size:=aM hw.pos (fx hbl);have wZ:=hw.len;obtain⟨y,v,hy,hyv,SI⟩:=hv;have acT:=(aJ.1 hy).1;obtain⟨⟨t1,tv,tu⟩,ht⟩:=hw.Bk hf;obtain⟨⟨y1,yv,yu⟩,GQ⟩:=hw.Bk acT;obtain⟨Cp,_⟩:=hw.sQ ht;obtain⟨Zx,_⟩:=hw.sQ GQ;simp only at Cp Zx;obtain rfl:y1=y:=by rw[hy] at Zx;injection Zx with Zx;exact Zx.symm
   obtain⟨gf,c,rfl,Yb,qU,s8⟩:=hw.fns.form ht;obtain⟨g',c',pF,_,_,Ar⟩:=hw.fns.form GQ;injection pF with pF _ hcc;injection pF with pF;injection pF with pF _ _;subst pF hcc;have hvl:=(aJ.1 hyv).1;obtain⟨VA,vc,U9,Te,hvr⟩:=dv (hw.fns.vars _ (aL GQ));simp only at U9 Te hvr;subst U9;rcases hvr with h0 | ⟨gv,rfl,acU,hgvl,aa1⟩
   ·omega
   have d1:w.cell? ⟨b,1,none⟩=some (.slice (some ⟨gf,0,none⟩) FL.length c):=ab hw.blk 1;have e4:w.cell? ⟨gf,n.fn*6+4,none⟩=some (.slice (some ⟨gv,0,none⟩) y1.vars.length vc):=(Ar 4 (by omega)).1
   have v2:w.cell? ⟨gv,n.i*3+2,none⟩=some (.bool v.cap):=(aa1 (n.i*3+2) (by omega)).trans (ez nL y1.vars n.i 2 v hyv (by omega))
   have f2:=World.ownsRow.frozenAt (hw.fns.vars _ (aL GQ)) (n.i*3+2);have Sw:f≠0:=fun e=>by
    cases DN with
    | same=>exact he rfl
    | up h1 h2 _ =>
     rcases(CD.each _ _ h1).par with ⟨_,h3⟩ | ⟨q,_,h3⟩
     ·omega
     ·omega
   obtain⟨p,hp,hpf,yp,hyp⟩:=CD.par Cp Sw;have e1:w.cell? ⟨gf,f*6+1,none⟩=some (.int .i64 (p:Int)):=by rw[←hp];exact(s8 1 (by omega)).1
   have Va:Nl st.fns n.fn p:=by
    cases DN with
    | same=>exact absurd rfl he
    | up h1 h2 h3 =>
     rw[Cp] at h1;injection h1 with h1;subst h1;rw[hp] at h2;have:=Int.ofNat.inj h2;rw[this];exact h3
   have hHE:fC n (g+1) f st.fns=(lQ n (g+1) (fY n st.fns) f).map fun r=>(r.1,3,r.2):=by unfold fC;rw[af he]
   have HE:=aa (hHE.trans (by rw[IX Cp hp he]))
   have yU:=hw.cap GQ hyv;have hst:st.oP n.fn (da y1 n.i)={ st with fns:=fY n st.fns}:=by unfold aH.oP fY;rw[gG hy]
   rw[hst] at yU;have acV:=aa yU;have jl:n.fn<FL.length:=by omega
   have hfL:f<FL.length:=by omega
   have hfl2:FL.length≤100000:=by omega
   have hvl2:y1.vars.length≤200:=(oB n.fn y1 hy).1;have tJ:=aa ih;have Hj:=aa CD;have Tf:=aa oB;have HY:=aa hy;have HYV:=aa hyv;have aa2:=aa Va;have HP:=aa hp;have U7:=aa Cp;have HW:=aa hw;have HK:=aa (Lib.ownsRow_kind (hw.fns.vars _ (aL GQ)) gv rfl);clear hw ih CD oB hy hyv DN Va hp Cp ht GQ s8 Ar aa1 hHE yU hst hyp Zx wZ;go_enter Tryz.func161,Tryz.ntmps161
   go_wp2_with fail
   obtain⟨st1,Yg⟩ :∃s1:aH,s1={ st with fns:=fY n st.fns}:=⟨_,rfl⟩;have Yh:st1.fns=fY n st.fns:=by rw[Yg]
   have je:Hid (jN ((w.setCell ⟨gv,n.i*3+2,none⟩ (.bool true)).alloc (.cells #[.int .i64 0,.int .i64 0] 57)) B b nv N st1 ub ob):=aa (by rw[Yg];exact⟨_,_,acV.out.alloc _⟩)
   have fA:Hid (Fr [52,61,59] w ((w.setCell ⟨gv,n.i*3+2,none⟩ (.bool true)).alloc (.cells #[.int .i64 0,.int .i64 0] 57))):=aa (by obtain⟨cs,fz,h⟩:=HK.out;exact(Fr.set h (by decide) _ _).trans (Fr.alloc _))
   have dL:Hid (Below B w ((w.setCell ⟨gv,n.i*3+2,none⟩ (.bool true)).alloc (.cells #[.int .i64 0,.int .i64 0] 57))):=aa (((Below.refl B w).setCell (p:=⟨gv,n.i*3+2,none⟩) acU _).alloc (by simp;omega) _)
   have HZ1:Hid (((w.setCell ⟨gv,n.i*3+2,none⟩ (.bool true)).alloc (.cells #[.int .i64 0,.int .i64 0] 57)).heap[w.heap.size]? = some (.cells #[.int .i64 0,.int .i64 0] 57 (0,0))):=aa (by have:=heap_alloc_new (w.setCell ⟨gv,n.i*3+2,none⟩ (.bool true)) (.cells #[.int .i64 0,.int .i64 0] 57);simpa using this)
   generalize (w.setCell ⟨gv,n.i*3+2,none⟩ (.bool true)).alloc (.cells #[.int .i64 0,.int .i64 0] 57)=W1 at *;have Zy:uW st.fns st1.fns:=by rw[Yh];exact Bt HY.out
   refine(tJ.out p st1 W1 (by omega) je.out (by rw[Yh];exact yZ Hj.out HY.out) (by rw[Yh];exact vv Tf.out) (aa2.out.ext Zy) ?_ (by rw[Yh,nP];omega) (by rw[Yh,nP];omega)).mono ?_
   ·obtain⟨y',h1,h2⟩:=Zy.2 _ _ HY.out
    obtain⟨v',h3,h4,_⟩:=h2.vars _ _ HYV.out;exact⟨y',v',h1,h3,h4.trans SI⟩
   rw[Yh];cases hM:fC n g p (fY n st.fns) with
   | none =>
    rintro e w2 ⟨b2,f2,rfl⟩;have PY:Hid (fC n (g+1) f st.fns=none):=aa (by rw[HE.out,hM];rfl)
    have hz2:=f2.cells _ _ _ _ HZ1.out (by decide)
    have hl2:w.heap.size<w2.heap.size:=(aF.1 hz2).1;have y0:=ab hz2 0;have y1:=ab hz2 1;have z0:=av hz2 0;have z1:=av hz2 1;replace y0:_=some (Value.int .i64 0):=y0;replace y1:_=some (Value.int .i64 0):=y1;have oS:=aa (dL.out.trans b2);have lO:=aa (fA.out.trans f2);have HZ2:=aa hz2;clear b2 f2 hz2 hM HE;go_wp2_with fail
    have hq:=(Below.heap_alloc ((w2.setCell ⟨w.heap.size,0,none⟩ (.int .i64 0)).setCell ⟨w.heap.size,1,none⟩ (.int .i64 0)) (.cells #[.int .i64 0,.int .i64 0] 57) w.heap.size (by rw[nO];exact hl2)).trans (yY HZ2.out (.int .i64 0) (.int .i64 0))
    have q0:=ab hq 0;have q1:=ab hq 1;replace q0:_=some (Value.int .i64 0):=q0;replace q1:_=some (Value.int .i64 0):=q1;refine bodyPost_ret (v:=.tuple #[.agg #[.int .i64 0,.int .i64 0],.iface 79 (.int .i64 12)]) (by simp[results,Tryz.results161,go_sem,q0,q1]) rfl ?_
    refine⟨((oS.out.setCell (p:=⟨w.heap.size,0,none⟩) cC _).setCell (p:=⟨w.heap.size,1,none⟩) cC _).alloc (by rw[nO];omega) _,lO.out.past (fun k hk=>?_) ?_,?_⟩
    ·exact(Below.heap_alloc _ _ k (by rw[nO];omega)).trans (qE w2 w.heap.size _ _ k (by omega))
    ·rw[an,nO];omega
    ·rw[PY.out]
   | some r =>
    obtain⟨F2,kd,i2⟩:=r;rintro e w2 ⟨b2,f2,rfl,hw2⟩;have PY:Hid (fC n (g+1) f st.fns=(gE F2 f ⟨decide (kd=2),i2⟩).map fun r=>(r.1,3,r.2)):=aa (by rw[HE.out,hM];rfl)
    have hFL:uW st.fns F2∧dW F2:=by
     obtain⟨y',q1,q2⟩:=Zy.2 _ _ HY.out;obtain⟨v',q3,q4,_⟩:=q2.vars _ _ HYV.out;rw[Yh] at Zy q1;obtain⟨a1,_,a3,_⟩:=Oi hM (yZ Hj.out HY.out) (vv Tf.out) (aa2.out.ext Zy) (by rw[nP];omega) ⟨y',v',q1,q3,q4.trans SI⟩
     exact⟨Zy.trans a1,a3⟩
    have hz2:=f2.cells _ _ _ _ HZ1.out (by decide)
    have hl2:w.heap.size<w2.heap.size:=(aF.1 hz2).1;have HZ3:=aa ((Below.heap_alloc w2 (.cells #[.int .i64 kd,.int .i64 (i2:Int)] 57) w.heap.size hl2).trans hz2);have yx:=aa ((dL.out.trans b2).alloc (by omega) (.cells #[.int .i64 kd,.int .i64 (i2:Int)] 57))
    have E6:=aa ((fA.out.trans f2).trans (Fr.alloc (.cells #[.int .i64 kd,.int .i64 (i2:Int)] 57)));have g2:(kd == 2)=decide (kd=2):=rfl;obtain⟨st2,Yi⟩ :∃s2:aH,s2={ st1 with fns:=F2}:=⟨_,rfl⟩;rw[←Yi] at hw2;have e2f:st2.fns=F2:=by rw[Yi]
    have Q8:=aa (hw2.alloc (.cells #[.int .i64 kd,.int .i64 (i2:Int)] 57));clear b2 f2 hz2 hM HE hw2;go_wp2_with fail
    have Cm:w.heap.size<(w2.alloc (.cells #[.int .i64 kd,.int .i64 (i2:Int)] 57)).heap.size:=by rw[an];omega
    have x0:=dJ w2 #[.int .i64 kd,.int .i64 (i2:Int)] 57 0;have x1:=dJ w2 #[.int .i64 kd,.int .i64 (i2:Int)] 57 1;generalize w2.alloc (.cells #[.int .i64 kd,.int .i64 (i2:Int)] 57)=W3 at *;refine(Bq b f ⟨decide (kd=2),i2⟩ st2 W3 Q8.out (by rw[e2f];have:=hFL.1.1;omega) (by rw[e2f];exact hFL.2)).mono ?_
    rw[e2f];cases hU:gE F2 f ⟨decide (kd=2),i2⟩ with
    | none =>
     rintro e w4 ⟨b4,f4,rfl⟩;have HE4:Hid (fC n (g+1) f st.fns=none):=aa (by rw[PY.out,hU];rfl)
     have y7:=f4.cells _ _ _ _ HZ3.out (by decide)
     have hl4:w.heap.size<w4.heap.size:=(aF.1 y7).1;have y0:=ab y7 0;have y1:=ab y7 1;have z0:=av y7 0;have z1:=av y7 1;replace y0:_=some (Value.int .i64 0):=y0;replace y1:_=some (Value.int .i64 0):=y1;have Yj:=aa (yx.out.trans b4);have HF4:=aa (E6.out.trans f4);have hq:=yY y7 (.int .i64 0) (.int .i64 0);have q0:=ab hq 0;have q1:=ab hq 1;replace q0:_=some (Value.int .i64 0):=q0;replace q1:_=some (Value.int .i64 0):=q1;clear b4 f4 y7 hU PY x0 x1 hq;go_wp2_with fail
     refine bodyPost_ret (v:=.tuple #[.agg #[.int .i64 0,.int .i64 0],.iface 79 (.int .i64 12)]) (by simp[results,Tryz.results161,go_sem,q0,q1]) rfl ?_
     refine⟨(Yj.out.setCell (p:=⟨w.heap.size,0,none⟩) cC _).setCell (p:=⟨w.heap.size,1,none⟩) cC _,HF4.out.past (fun k hk=>qE w4 w.heap.size _ _ k (by omega)) (by rw[nO];omega),?_⟩
     rw[HE4.out]
    | some r =>
     obtain⟨F4,k4⟩:=r;rintro e w4 ⟨b4,f4,rfl,hw4⟩;have HE4:Hid (fC n (g+1) f st.fns=some (F4,3,k4)):=aa (by rw[PY.out,hU];rfl)
     have y7:=f4.cells _ _ _ _ HZ3.out (by decide)
     have hl4:w.heap.size<w4.heap.size:=(aF.1 y7).1;have y0:=ab y7 0;have y1:=ab y7 1;have z0:=av y7 0;have z1:=av y7 1;replace y0:_=some (Value.int .i64 0):=y0;replace y1:_=some (Value.int .i64 0):=y1;have Yj:=aa (yx.out.trans b4);have HF4:=aa (E6.out.trans f4);have HK4:Hid (vP w4 w.heap.size 57):=aa ⟨_,_,y7⟩;have hq:=yY y7 (.int .i64 3) (.int .i64 (k4:Int));have q0:=ab hq 0;have q1:=ab hq 1;replace q0:_=some (Value.int .i64 3):=q0;replace q1:_=some (Value.int .i64 (k4:Int)):=q1;rw[Yi,Yg] at hw4;have HW4:=aa hw4;clear b4 f4 y7 hU PY x0 x1 hq hw4;go_wp2_with fail
     refine bodyPost_ret (v:=.tuple #[.agg #[.int .i64 3,.int .i64 (k4:Int)],.nilIface]) (by simp[results,Tryz.results161,go_sem,q0,q1]) rfl ?_
     refine⟨(Yj.out.setCell (p:=⟨w.heap.size,0,none⟩) cC _).setCell (p:=⟨w.heap.size,1,none⟩) cC _,HF4.out.past (fun k hk=>qE w4 w.heap.size _ _ k (by omega)) (by rw[nO];omega),?_⟩
     rw[HE4.out];exact⟨rfl,(HW4.out.fU HK4.out (by omega) _ _).fU (HK4.out.set _ _ _) (by omega) _ _⟩
end Go.Proofs.YteflkdlaoiijbaaGreatDoor
namespace Go.Proofs.YteflkdlaoiijbaaGreatDoor
open Go.RowKit Go.Shelf
section
attribute [local go_sem] Oper.semAt_some
def ti:List cS→List (Nat×cS)
 | []=>[]
 | l::r=>(r.length,l)::ti r
theorem y8 :∀L:List cS,(ti L).length=L.length
 | []=>rfl
 | l::r=>by rw[ti,List.length_cons,List.length_cons,y8 r]
theorem Ol :∀(L:List cS) (k:Nat) (l:cS),L[k]? = some l→(ti L)[k]? = some (L.length-1-k,l)
 | [],_,_,h=>by simp at h
 | x::r,0,l,h=>by
  injection h with h;subst h;rfl
 | x::r,k+1,l,h=>by
  rw[ti,dZ,Ol r k l h,List.length_cons];congr 2
  have:=(aJ.1 h).1;simp only[List.length_cons] at this;omega
def Tg (x:Nat×cS):Array Value:=#[.int .i64 (x.1:Int),.agg #[.int .i64 (x.2.fn:Int),.map (some x.2.blk)]]
abbrev Th (L:List cS):={ x:Nat×cS // x∈ti L}
theorem Yk {L:List cS} {k:Nat} {l:cS} (h:L[k]? = some l) :∃hm,(ti L).attach[k]? = some ⟨(L.length-1-k,l),hm⟩:=by
 have h1:=Ol L k l h;refine⟨aL h1,?_⟩;obtain⟨h2,h3⟩:=aJ.1 h1;rw[bE (by rw[J8];exact h2),List.getElem_attach]
 congr 1
 exact Subtype.ext h3
set_option maxRecDepth 100000 in
theorem Om (F:Fence) (n:Nat) (IY:F.fn 188) (hro:F.round=none) (hn:1≤n) (l Bs n₀ g lc:Nat) (L:List cS) (hlen:L.length≤1000000) (hg:g<n₀) (hB:Bs<n₀) (J Jx:List (Th L)→World→Prop)
  (hY :∀pre x W,J pre W→pre.length<L.length→YieldAt F (n-1) Tryz.prog l (Tg x.1) W fun e W' =>
   (e=.returned (.bool true)∧J (pre++[x]) W'∧Below n₀ W W')∨(e=.returned (.bool false)∧Jx (pre++[x]) W'))
  (W:World) (Vb:W.cell? ⟨Bs,0,none⟩=some (.slice (some ⟨g,0,none⟩) L.length lc)) (hc :∀k x,L[k]? = some x→W.cell? ⟨g,(L.length-1-k)*2,none⟩=some (.int .i64 (x.fn:Int))∧W.cell? ⟨g,(L.length-1-k)*2+1,none⟩=some (.map (some x.blk))) (h0:J [] W) :
  CallsIn F n Tryz.prog 188 #[.func (.yield l) #[] #[],.pointer (some ⟨Bs,0,none⟩)] W fun e W'=>(∃v,e=.returned v) ∧
   ((∃ys,ys=(ti L).attach∧J ys W')∨(∃pre,pre <+: (ti L).attach∧Jx pre W')):=by
 have hwr:=xB hlen;refine callsIn_of_wp Tryz.func188 rfl IY ?_ hro;simp only[Tryz.ntmps188,Ef,List.length_cons,List.length_nil,Nat.reduceAdd,Nat.reduceSub,J2,J3,Ka,J4,sj,iJ];gi_wp2
 gi_loopw [3] (fun i wr=>∃(k:Nat) (z:Int),k≤L.length∧i=.int .i64 z∧z=(L.length:Int)-1-k∧J ((ti L).attach.take k) wr∧Below n₀ W wr)
  (fun i _=>(intOf i+1).toNat)
 case atStart=>exact⟨0,_,bB _,rfl,by omega,h0,Below.refl _ _⟩
 case round =>
  obtain⟨k,z,hk,rfl,hz,hJs,Oo⟩:=hrel;by_cases hlt:k<L.length
  ·obtain⟨x,hx⟩ :∃x,L[k]? = some x:=⟨L[k],bE hlt⟩
   obtain⟨c0,c1⟩:=hc k x hx;obtain⟨i,rfl⟩ :∃i:Nat,z=(i:Int):=⟨L.length-1-k,by omega⟩
   have hi:L.length-1-k=i:=by omega
   rw[hi] at c0 c1;have e0:=(Oo.cell (p:=⟨g,i*2,none⟩) hg).trans c0;have e1:=(Oo.cell (p:=⟨g,i*2+1,none⟩) hg).trans c1;have eb:=(Oo.cell (p:=⟨Bs,0,none⟩) hB).trans Vb;have y9:i<L.length:=by omega
   obtain⟨hm,bN⟩ :∃hm,(ti L).attach[k]? = some ⟨(i,x),hm⟩:=hi▸Yk hx;obtain⟨fn,tmps,assign,body,hy,hR⟩:=hY _ ⟨(i,x),hm⟩ wr hJs (by rw[mc,J8,y8];omega)
   dsimp only[Tg] at hy
   have HZ:=aa hz;have hge:decide ((0:Int)≤(i:Int))=true:=bX (by omega)
   clear hz hi;gi_wp2
   have hz:=HZ.out;refine hR.mono ?_;have VE:(ti L).attach.take (k+1)=(ti L).attach.take k++[⟨(i,x),hm⟩]:=jw _ _ _ bN;rintro e W3 (⟨rfl,hJ3,hk3⟩ | ⟨rfl,acW⟩)
   ·clear hz
    gi_wp2
    have hz:=HZ.out;go_roundw
    case rel=>exact⟨k+1,(i:Int)-1,by omega,by go_num,by omega,by rw[VE];exact hJ3,Oo.trans hk3⟩
    case measure=>simp[intOf]
   ·clear hz
    gi_wp2
    refine bodyPost_ret (results_none rfl _ _ _) rfl ?_;exact⟨⟨_,rfl⟩,.inr ⟨_,by rw[←VE];exact List.take_prefix _ _,acW⟩⟩
  ·obtain rfl:z = -1:=by omega
   have zr:k=L.length:=by omega
   gi_wp2
   go_end0
   exact⟨⟨_,rfl⟩,.inl ⟨_,by rw[sg (by rw[J8,y8];omega)],hJs⟩⟩
set_option maxRecDepth 100000 in
theorem IZ (F:Fence) (n:Nat) (IY:F.fn 188) (hro:F.round=none) (l Bs:Nat) (a:Option Addr) (lc:Nat) (J:World→Prop) (W:World) (Vb:W.cell? ⟨Bs,0,none⟩=some (.slice a 0 lc)) (h0:J W) :
  CallsIn F n Tryz.prog 188 #[.func (.yield l) #[] #[],.pointer (some ⟨Bs,0,none⟩)] W fun e W'=>(∃v,e=.returned v)∧J W':=by
 refine callsIn_of_wp Tryz.func188 rfl IY ?_ hro;simp only[Tryz.ntmps188,Ef,List.length_cons,List.length_nil,Nat.reduceAdd,Nat.reduceSub,J2,J3,Ka,J4,sj,iJ];gi_wp2
 gi_loopw [3] (fun i wr=>i=.int .i64 (-1)∧J wr) (fun _ _=>0)
 case atStart=>exact⟨rfl,h0⟩
 case round =>
  obtain⟨rfl,hJs⟩:=hrel;gi_wp2
  go_end0
  exact⟨⟨_,rfl⟩,hJs⟩
theorem Bu (a:Option Addr) (ln lc:Nat) (w:World) :
  Calls Tryz.prog 160 #[.slice a ln lc] w fun e w'=>e=.returned (.func (.func 188) #[] #[.pointer (some ⟨w.heap.size,0,none⟩)])∧w'=w.alloc (.cells #[.slice a ln lc] 90):=by
 go_enter Tryz.func160,Tryz.ntmps160
 go_wp2
 go_ret
 exact⟨rfl,rfl⟩
theorem DO (F:Fence) (n:Nat) (IY:F.fn 188) (hro:F.round=none) (hn:1≤n) (Bs n₀ B:Nat) (v:Value) (L:List cS) (hlen:L.length≤1000000) (w:World) (Vb:Bs<n₀) (adH:n₀≤w.heap.size)
  (hc:w.cell? ⟨Bs,0,none⟩=some v) (hr:w.ownsRow B 238 2 v L.length (L.reverse.flatMap Ft)) (hv :∀g,v.ownBlock=some g→g<n₀) :
  SeqStopsK F n Tryz.prog 188 #[.pointer (some ⟨Bs,0,none⟩)] (fun x:Th L=>Tg x.1) (Below n₀) (fun ys=>ys=(ti L).attach) (fun pre=>pre <+: (ti L).attach) L.length w:=fun l J Jx W hW _ _ hY h0=>by
 have hc':=(hW.cell (p:=⟨Bs,0,none⟩) (by show Bs<_;omega)).trans hc
 obtain⟨A,c,rfl,_,jc⟩:=dv hr;rcases jc with h0' | ⟨g,rfl,Yb,qU,s8⟩
 ·have hL:L=[]:=ma h0'
  subst hL;exact(IZ F n IY hro l Bs A c (J []) W hc' h0).mono fun e W' ⟨he,hj⟩=>⟨he,.inl ⟨_,rfl,hj⟩⟩
 ·refine Om F n IY hro hn l Bs n₀ g c L hlen (hv g rfl) Vb J Jx hY W hc' (fun k x hx=>?_) h0
  have hk:=(aJ.1 hx).1;have aa3:L.reverse[L.length-1-k]? = some x:=by
   rw[List.getElem?_reverse (by omega),show L.length-1-(L.length-1-k)=k by omega]
   exact hx
  have h2:=ez yX L.reverse (L.length-1-k) 0 x aa3 (by omega)
  have h3:=ez yX L.reverse (L.length-1-k) 1 x aa3 (by omega)
  exact⟨(hW.cell (p:=⟨g,(L.length-1-k)*2,none⟩) qU).trans ((s8 _ (by omega)).trans h2),(hW.cell (p:=⟨g,(L.length-1-k)*2+1,none⟩) qU).trans ((s8 _ (by omega)).trans h3)⟩
end
end Go.Proofs.YteflkdlaoiijbaaGreatDoor
