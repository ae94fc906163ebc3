/- Parts of the proof. -/
import Derived.RangeFuncNested
import Derived.RangeFuncBound
import Derived.RangeFuncCalls
import Derived.RangeFuncLeaves
import Derived.Shelf.Abstract
import Derived.OwnWalkIn
import Derived.TacticsInMore
import Derived.LoopNIn
import Derived.LoopIn
import Derived.Test.YteflkdlaoiijbaaGreatDoorN09
set_option maxHeartbeats 16000000
set_option maxRecDepth 20000
namespace Go.Proofs.YteflkdlaoiijbaaGreatDoor
open Go.RowKit
def ac6 (o:Obj):Prop:=∀c e fz,o ≠ .cells c e fz
structure Fr (E:List Nat) (W W':World):Prop where
 size:W.heap.size≤W'.heap.size
 cells :∀(k:Nat) c (e:TypeId) fz,W.heap[k]? = some (.cells c e fz)→e∉E→W'.heap[k]? = some (.cells c e fz)
 others :∀(k:Nat) o,W.heap[k]? = some o→ac6 o→W'.heap[k]? = some o
theorem Fr.maps {E:List Nat} {W W':World} (h:Fr E W W') :∀(k:Nat) es c,W.heap[k]? = some (.map es c)→W'.heap[k]? = some (.map es c):=fun k _ _ hk=>h.others k _ hk fun _ _ _ e=>by cases e
section
variable {E E':List Nat} {W W' W2:World}
theorem Fr.refl (E:List Nat) (W:World):Fr E W W:=⟨ah _,fun _ _ _ _ h _=>h,fun _ _ h _=>h⟩
theorem Fr.trans (h:Fr E W W') (k:Fr E W' W2):Fr E W W2:=⟨aK h.size k.size,fun i c e fz hi he=>k.cells i c e fz (h.cells i c e fz hi he) he,fun i o hi ho=>k.others i o (h.others i o hi ho) ho⟩
theorem Fr.mono (h:Fr E W W') (he :∀e∈E,e∈E'):Fr E' W W':=⟨h.size,fun i c e fz hi hn=>h.cells i c e fz hi fun hm=>hn (he e hm),h.others⟩
theorem Fr.ae (h:Below W.heap.size W W'):Fr E W W':=⟨h.size,fun k _ _ _ hk _=>(h.block k (aI.1 hk).1).trans hk,fun k _ hk _=>(h.block k (aI.1 hk).1).trans hk⟩
theorem Fr.alloc (o:Obj):Fr E W (W.alloc o):=Fr.ae ((Below.refl _ W).alloc (ah _) o)
theorem Fr.drew (h:Fr E W W'):Fr E W W'.drew:=⟨h.size,h.cells,h.others⟩
theorem Fr.set {g:Nat} {cs:Array Value} {ty:TypeId} {fz:Nat×Nat} (h:W.heap[g]? = some (.cells cs ty fz)) (he:ty∈E) (j:Nat) (v:Value):Fr E W (W.setCell ⟨g,j,none⟩ v) :=
 ⟨by simp[World.setCell],fun k c e f hk hn=>(Below.heap_setCell W ⟨g,j,none⟩ v k (fun(e':k=g)=>by
  subst e';rw[h] at hk;injection hk with hk;injection hk with _ hk;exact hn (hk▸he))).trans hk,fun k o hk ho=>(Below.heap_setCell W ⟨g,j,none⟩ v k (fun(e':k=g)=>by
  subst e';rw[h] at hk;injection hk with hk;exact ho _ _ _ hk.symm)).trans hk⟩
theorem Fr.but {B ty s n:Nat} {v:Value} {xs:List Value} (hr:W.ownsRow B ty s v n xs) (he:ty∈E) (h:qT v.ownBlock W W'):Fr E W W':=by
 have key :∀(k:Nat) (o:Obj),W.heap[k]? = some o→(∀c fz,o ≠ .cells c ty fz)→W'.heap[k]? = some o:=fun k o hk ho=>(h.2 k (aI.1 hk).1 fun ek=>by
  obtain⟨c,fz,h1⟩:=Lib.ownsRow_kind hr k ek;rw[hk] at h1;injection h1 with h1;exact ho _ _ h1).trans hk
 exact⟨h.1,fun k c e fz hk hn=>key k _ hk fun c' Yt e1=>by injection e1 with _ e1;exact hn (e1▸he),fun k o hk ho=>key k _ hk fun _ _ e1=>ho _ _ _ e1⟩
theorem Fr.row {B e s n:Nat} {v:Value} {xs:List Value} (h:Fr E W W') (hr:W.ownsRow B e s v n xs) (he:e∉E):W'.ownsRow B e s v n xs:=by
 refine⟨hr.1,?_⟩;rcases hr.2 with hn | ⟨g,cap,cur,rfl,hB,hg,rest⟩
 ·exact .inl hn
 ·exact .inr ⟨g,cap,cur,rfl,hB,h.cells g _ _ _ hg he,rest⟩
theorem Fr.map {P:Program} {k:TypeId} {b n:Nat} {f:ByteArray→Option Value} (h:Fr E W W') (hm:dA P k W b n f):dA P k W' b n f:=by
 obtain⟨es,c,h1⟩:=hm.isMap;exact hm.same ((h.maps b es c h1).trans h1.symm)
theorem Fr.Yu {ty:TypeId} (h:Fr [ty] W W'):JZ ty W W':=⟨h.size,fun k c e fz hk he=>h.cells k c e fz hk (by simpa using he)⟩
end
structure mG (W:World) (B:Nat) (v:Value) (L:List mF):Prop where
 row:W.ownsRow B 52 6 v L.length (L.flatMap NZ)
 vars :∀t∈L,W.ownsRow B 61 3 t.2.1 t.1.vars.length (t.1.vars.flatMap s6)
 bz :∀t∈L,W.ownsRow B 59 2 t.2.2 t.1.bz.length (t.1.bz.flatMap Fw)
 pG :∀(i j:Nat) t u,i≠j→L[i]? = some t→L[j]? = some u→∀g,t.2.1.ownBlock=some g→u.2.1.ownBlock≠some g
 qA :∀(i j:Nat) t u,i≠j→L[i]? = some t→L[j]? = some u→∀g,t.2.2.ownBlock=some g→u.2.2.ownBlock≠some g
theorem mG.Yu {W W':World} {B:Nat} {ty:TypeId} {v:Value} {L:List mF} (h:mG W B v L) (ho:JZ ty W W') (h1:(52:Nat)≠ty) (h2:(61:Nat)≠ty) (h3:(59:Nat)≠ty):mG W' B v L :=
 ⟨cQ h.row ho h1,fun t ht=>cQ (h.vars t ht) ho h2,fun t ht=>cQ (h.bz t ht) ho h3,h.pG,h.qA⟩
theorem mG.form {W:World} {B:Nat} {fv:Value} {L:List mF} (h:mG W B fv L) {f:Nat} {t:mF} (hf:L[f]? = some t) :∃g c,fv=.slice (some ⟨g,0,none⟩) L.length c∧B≤g∧g<W.heap.size∧∀j,j<6→W.cell? ⟨g,f*6+j,none⟩=(NZ t)[j]?∧W.frozen? ⟨g,f*6+j,none⟩=false:=by
 have hl:=(aL.1 hf).1;rcases h.row.2 with ⟨_,h0⟩ | ⟨g,cap,cur,rfl,hB,hg,_⟩
 ·omega
 ·refine⟨g,cap,rfl,hB,(aI.1 hg).1,fun j hj=>⟨?_,World.ownsRow.frozenAt h.row _⟩⟩
  rw[World.ownsRow.cellAt h.row (f*6+j) (by omega)]
  exact e7 qy L f j t hf hj
theorem mG.Ob {W W1:World} {B:Nat} {g c f:Nat} {L:List mF} {t:mF} (h:mG W B (.slice (some ⟨g,0,none⟩) L.length c) L) (hf:L[f]? = some t) (hb:qT t.2.1.ownBlock W W1) {v':Value} {vs:List jn} (hv:W1.ownsRow B 61 3 v' vs.length (vs.flatMap s6)) (hn :∀k,v'.ownBlock=some k→t.2.1.ownBlock=some k∨W.heap.size≤k) :
  mG (W1.setCell ⟨g,f*6+4,none⟩ v') B (.slice (some ⟨g,0,none⟩) L.length c) (L.set f ({ t.1 with vars:=vs},v',t.2.2)):=by
 have hl:=(aL.1 hf).1;have I0:=ba hf;have qB:=hb.row h.row (fun k hk e=>ed h.row (h.vars t I0) (by decide) k hk e)
 have hst:=(World.ownsRow.stored qB (f*6+4) v').1;have M8 :∃cs fz,W1.heap[g]? = some (.cells cs 52 fz):=Lib.ownsRow_kind qB g rfl;obtain⟨cs,fz,Tt⟩:=M8;have DI:=JZ.set Tt (f*6+4) v';refine⟨?_,fun u hu=>?_,fun u hu=>?_,fun i j u w' vN hi hj k hk=>?_,fun i j u w' vN hi hj k hk=>?_⟩
 ·rw[mn,qz qy L f 4 t _ v' hf (by omega) rfl]
  exact hst
 ·obtain⟨i,hi⟩:=kG.1 hu
  by_cases e:f=i
  ·subst e
   rw[dQ hl] at hi;injection hi with hi;subst hi;exact cQ hv DI (by decide)
  ·rw[fC e] at hi
   exact cQ (hb.row (h.vars u (ba hi)) (fun k hk=>fun ek=>h.pG i f u t (fun e'=>e e'.symm) hi hf k hk ek)) DI (by decide)
 ·obtain⟨i,hi⟩:=kG.1 hu
  have key :∀u∈L,(W1.setCell ⟨g,f*6+4,none⟩ v').ownsRow B 59 2 u.2.2 u.1.bz.length (u.1.bz.flatMap Fw):=fun u hu=>cQ (hb.row (h.bz u hu) (fun k hk e=>ed (h.bz u hu) (h.vars t I0) (by decide) k hk e)) DI (by decide)
  by_cases e:f=i
  ·subst e
   rw[dQ hl] at hi;injection hi with hi;subst hi;exact key t I0
  ·rw[fC e] at hi
   exact key u (ba hi)
 ·by_cases e1:f=i
  ·subst e1
   rw[dQ hl] at hi;injection hi with hi;subst hi;rw[fC vN] at hj;intro hk2;rcases hn k hk with h1|h1
   ·exact h.pG f j t w' vN hf hj k h1 hk2
   ·have:=((h.vars w' (ba hj)).lt k hk2).2
    omega
  ·rw[fC e1] at hi
   by_cases e2:f=j
   ·subst e2
    rw[dQ hl] at hj;injection hj with hj;subst hj;intro hk2;rcases hn k hk2 with h1|h1
    ·exact h.pG i f u t vN hi hf k hk h1
    ·have:=((h.vars u (ba hi)).lt k hk).2
     omega
   ·rw[fC e2] at hj
    exact h.pG i j u w' vN hi hj k hk
 ·have key :∀(i:Nat) u,(L.set f ({ t.1 with vars:=vs},v',t.2.2))[i]? = some u→∃u',L[i]? = some u'∧u.2.2=u'.2.2:=fun i u hi=>by
   by_cases e1:f=i
   ·subst e1
    rw[dQ hl] at hi;injection hi with hi;subst hi;exact⟨t,hf,rfl⟩
   ·rw[fC e1] at hi
    exact⟨u,hi,rfl⟩
  obtain⟨u1,a1,a2⟩:=key i u hi;obtain⟨u2,b1,b2⟩:=key j w' hj;rw[a2] at hk;rw[b2];exact h.qA i j u1 u2 vN a1 b1 k hk
theorem mG.Tu {W W1:World} {B:Nat} {g c f:Nat} {L:List mF} {t:mF} (h:mG W B (.slice (some ⟨g,0,none⟩) L.length c) L) (hf:L[f]? = some t) (hb:qT t.2.2.ownBlock W W1) {v':Value} {vs:List sG} (hv:W1.ownsRow B 59 2 v' vs.length (vs.flatMap Fw)) (hn :∀k,v'.ownBlock=some k→t.2.2.ownBlock=some k∨W.heap.size≤k) :
  mG (W1.setCell ⟨g,f*6+5,none⟩ v') B (.slice (some ⟨g,0,none⟩) L.length c) (L.set f ({ t.1 with bz:=vs},t.2.1,v')):=by
 have hl:=(aL.1 hf).1;have I0:=ba hf;have qB:=hb.row h.row (fun k hk e=>ed h.row (h.bz t I0) (by decide) k hk e)
 have hst:=(World.ownsRow.stored qB (f*6+5) v').1;obtain⟨cs,fz,Tt⟩ :∃cs fz,W1.heap[g]? = some (.cells cs 52 fz):=Lib.ownsRow_kind qB g rfl;have DI:=JZ.set Tt (f*6+5) v';refine⟨?_,fun u hu=>?_,fun u hu=>?_,fun i j u w' vN hi hj k hk=>?_,fun i j u w' vN hi hj k hk=>?_⟩
 ·rw[mn,qz qy L f 5 t _ v' hf (by omega) rfl]
  exact hst
 ·obtain⟨i,hi⟩:=kG.1 hu
  have key :∀u∈L,(W1.setCell ⟨g,f*6+5,none⟩ v').ownsRow B 61 3 u.2.1 u.1.vars.length (u.1.vars.flatMap s6):=fun u hu=>cQ (hb.row (h.vars u hu) (fun k hk e=>ed (h.vars u hu) (h.bz t I0) (by decide) k hk e)) DI (by decide)
  by_cases e:f=i
  ·subst e
   rw[dQ hl] at hi;injection hi with hi;subst hi;exact key t I0
  ·rw[fC e] at hi
   exact key u (ba hi)
 ·obtain⟨i,hi⟩:=kG.1 hu
  by_cases e:f=i
  ·subst e
   rw[dQ hl] at hi;injection hi with hi;subst hi;exact cQ hv DI (by decide)
  ·rw[fC e] at hi
   exact cQ (hb.row (h.bz u (ba hi)) (fun k hk=>fun ek=>h.qA i f u t (fun e'=>e e'.symm) hi hf k hk ek)) DI (by decide)
 ·have key :∀(i:Nat) u,(L.set f ({ t.1 with bz:=vs},t.2.1,v'))[i]? = some u→∃u',L[i]? = some u'∧u.2.1=u'.2.1:=fun i u hi=>by
   by_cases e1:f=i
   ·subst e1
    rw[dQ hl] at hi;injection hi with hi;subst hi;exact⟨t,hf,rfl⟩
   ·rw[fC e1] at hi
    exact⟨u,hi,rfl⟩
  obtain⟨u1,a1,a2⟩:=key i u hi;obtain⟨u2,b1,b2⟩:=key j w' hj;rw[a2] at hk;rw[b2];exact h.pG i j u1 u2 vN a1 b1 k hk
 ·by_cases e1:f=i
  ·subst e1
   rw[dQ hl] at hi;injection hi with hi;subst hi;rw[fC vN] at hj;intro hk2;rcases hn k hk with h1|h1
   ·exact h.qA f j t w' vN hf hj k h1 hk2
   ·have:=((h.bz w' (ba hj)).lt k hk2).2
    omega
  ·rw[fC e1] at hi
   by_cases e2:f=j
   ·subst e2
    rw[dQ hl] at hj;injection hj with hj;subst hj;intro hk2;rcases hn k hk2 with h1|h1
    ·exact h.qA i f u t vN hi hf k hk h1
    ·have:=((h.bz u (ba hi)).lt k hk).2
     omega
   ·rw[fC e2] at hj
    exact h.qA i j u w' vN hi hj k hk
structure eQ (W:World) (B b:Nat) (nv:Value) (N:Nat) (st:aG) (fv:Value) (ub ob:Nat) (L:List mF):Prop where
 blk:W.heap[b]? = some (.cells #[nv,fv,.slice (some ⟨ub,0,none⟩) N N,.slice (some ⟨ob,0,none⟩) N N] 87 (0,0))
 fns:mG W B fv L
 are:L.map (·.1)=st.fns
 uses:fx W B 57 2 ub N (vX st.uses)
 vZ:fx W B 3 1 ob N (Qw st.of)
 pos:B≤b
section
variable {W W1 W':World} {B b:Nat} {nv:Value} {N:Nat} {st:aG} {fv:Value} {ub ob:Nat} {L:List mF}
theorem eQ.on {s2:aG} (h:eQ W B b nv N st fv ub ob L) (e1:s2.fns=st.fns) (e2:s2.uses=st.uses) (e3:s2.of=st.of):eQ W B b nv N s2 fv ub ob L :=
 ⟨h.blk,h.fns,by rw[e1];exact h.are,by rw[e2];exact h.uses,by rw[e3];exact h.vZ,h.pos⟩
theorem eQ.fr {E:List Nat} (h:eQ W B b nv N st fv ub ob L) (k:Fr E W W') (he:(87:Nat)∉E∧(52:Nat)∉E∧(61:Nat)∉E∧(59:Nat)∉E∧(57:Nat)∉E∧(3:Nat)∉E):eQ W' B b nv N st fv ub ob L :=
 ⟨k.cells b _ _ _ h.blk he.1,⟨k.row h.fns.row he.2.1,fun t ht=>k.row (h.fns.vars t ht) he.2.2.1,fun t ht=>k.row (h.fns.bz t ht) he.2.2.2.1,h.fns.pG,h.fns.qA⟩,h.are,k.row h.uses he.2.2.2.2.1,k.row h.vZ he.2.2.2.2.2,h.pos⟩
theorem eQ.drew (h:eQ W B b nv N st fv ub ob L):eQ W.drew B b nv N st fv ub ob L:=h.fr (E:=[]) (Fr.refl _ W).drew (by decide)
theorem eQ.alloc (h:eQ W B b nv N st fv ub ob L) (o:Obj):eQ (W.alloc o) B b nv N st fv ub ob L:=h.fr (E:=[]) (Fr.alloc o) (by decide)
theorem eQ.later (h:eQ W B b nv N st fv ub ob L) (hb:Below W.heap.size W W'):eQ W' B b nv N st fv ub ob L:=h.fr (E:=[]) (Fr.ae hb) (by decide)
theorem eQ.Oc (h:eQ W B b nv N st fv ub ob L) (ho:Fr [57] W W') {u:Nat→Int×Int} (hu:fx W' B 57 2 ub N (vX u)):eQ W' B b nv N { st with uses:=u} fv ub ob L :=
 ⟨ho.cells b _ _ _ h.blk (by decide),h.fns.Yu ho.Yu (by decide) (by decide) (by decide),h.are,hu,ho.row h.vZ (by decide),h.pos⟩
theorem eQ.Tv (h:eQ W B b nv N st fv ub ob L) (ho:Fr [3] W W') {o:Nat→Int} (hu:fx W' B 3 1 ob N (Qw o)):eQ W' B b nv N { st with of:=o} fv ub ob L :=
 ⟨ho.cells b _ _ _ h.blk (by decide),h.fns.Yu ho.Yu (by decide) (by decide) (by decide),h.are,ho.row h.uses (by decide),hu,h.pos⟩
theorem mc (h:eQ W B b nv N st fv ub ob L) (i:Nat) (x y:Value):Fr [57] W ((W.setCell ⟨ub,i*2,none⟩ x).setCell ⟨ub,i*2+1,none⟩ y):=by
 obtain⟨cs,hc⟩:=lf h.uses;obtain⟨cs',hc'⟩:=lf (qx h.uses (i*2) x);exact(Fr.set hc (by decide) _ _).trans (Fr.set hc' (by decide) _ _)
theorem eQ.use (h:eQ W B b nv N st fv ub ob L) (i:Nat) (x:Int×Int):eQ ((W.setCell ⟨ub,i*2,none⟩ (.int .i64 x.1)).setCell ⟨ub,i*2+1,none⟩ (.int .i64 x.2)) B b nv N (st.dj i x) fv ub ob L :=
 h.Oc (mc h i _ _) (N0 h.uses i x)
theorem u7 (h:eQ W B b nv N st fv ub ob L) (i:Nat) (x:Value):Fr [3] W (W.setCell ⟨ob,i,none⟩ x):=by
 obtain⟨cs,hc⟩:=lf h.vZ;exact Fr.set hc (by decide) _ _
theorem eQ.of_ (h:eQ W B b nv N st fv ub ob L) (i f:Nat):eQ (W.setCell ⟨ob,i,none⟩ (.int .i64 (f:Int))) B b nv N (st.setOf i f) fv ub ob L :=
 h.Tv (u7 h i _) (Ys h.vZ i (f:Int))
theorem eQ.jf (h:eQ W B b nv N st fv ub ob L):B≤ub∧B≤ob:=⟨(h.uses.lt ub rfl).1,(h.vZ.lt ob rfl).1⟩
theorem u9 (h:eQ W B b nv N st fv ub ob L) (i:Nat) (x y:Value):Below B W ((W.setCell ⟨ub,i*2,none⟩ x).setCell ⟨ub,i*2+1,none⟩ y):=((Below.refl B W).setCell (p:=⟨ub,i*2,none⟩) h.jf.1 x).setCell (p:=⟨ub,i*2+1,none⟩) h.jf.1 y
theorem eQ.Bn {W2:World} (h:eQ W B b nv N st fv ub ob L) {ty:TypeId} (ho:Fr [ty] W W1) (h1:(87:Nat)≠ty∧(57:Nat)≠ty∧(3:Nat)≠ty) (I2:Fr [52] W1 W2) {L':List mF} {F':List cI} (hF:mG W2 B fv L') (ha:L'.map (·.1)=F'):eQ W2 B b nv N { st with fns:=F'} fv ub ob L' :=
 ⟨I2.cells b _ _ _ (ho.cells b _ _ _ h.blk (by simpa using h1.1)) (by decide),hF,ha,I2.row (ho.row h.uses (by simpa using h1.2.1)) (by decide),I2.row (ho.row h.vZ (by simpa using h1.2.2)) (by decide),h.pos⟩
theorem eQ.sJ (h:eQ W B b nv N st fv ub ob L) {f:Nat} {t:mF} (hf:L[f]? = some t):st.fns[f]? = some t.1∧st.fn f=t.1:=by
 have:st.fns[f]? = some t.1:=by rw[←h.are,gw,hf];rfl
 exact⟨this,by unfold aG.fn;rw[jU,this];rfl⟩
theorem eQ.Bo (h:eQ W B b nv N st fv ub ob L) {f:Nat} (hf:f<st.fns.length) :∃t,L[f]? = some t:=⟨L[f]'(by have:=ax List.length h.are;rw[cN] at this;omega),bE _⟩
theorem eQ.len (h:eQ W B b nv N st fv ub ob L):L.length=st.fns.length:=by have:=ax List.length h.are;rwa[cN] at this
theorem eQ.Od {g c f:Nat} {t:mF} (h:eQ W B b nv N st (.slice (some ⟨g,0,none⟩) L.length c) ub ob L) (hf:L[f]? = some t) (hb:qT t.2.1.ownBlock W W1) {v':Value} {vs:List jn} (hv:W1.ownsRow B 61 3 v' vs.length (vs.flatMap s6)) (hn :∀k,v'.ownBlock=some k→t.2.1.ownBlock=some k∨W.heap.size≤k) :
  eQ (W1.setCell ⟨g,f*6+4,none⟩ v') B b nv N (st.oX f { t.1 with vars:=vs}) (.slice (some ⟨g,0,none⟩) L.length c) ub ob (L.set f ({ t.1 with vars:=vs},v',t.2.2))∧Fr [52,61,59] W (W1.setCell ⟨g,f*6+4,none⟩ v'):=by
 have I0:=ba hf;have ho:Fr [61] W W1:=Fr.but (h.fns.vars t I0) (by decide) hb
 have qB:=hb.row h.fns.row (fun k hk e=>ed h.fns.row (h.fns.vars t I0) (by decide) k hk e)
 obtain⟨cs,fz,Tt⟩ :∃cs fz,W1.heap[g]? = some (.cells cs 52 fz):=Lib.ownsRow_kind qB g rfl;refine⟨h.Bn ho (by decide) (Fr.set Tt (by decide) (f*6+4) v') (h.fns.Ob hf hb hv hn) ?_,(ho.mono (by decide)).trans ((Fr.set (E:=[52]) Tt (by decide) _ _).mono (by decide))⟩
 rw[nN,h.are]
theorem eQ.Tw {g c f:Nat} {t:mF} (h:eQ W B b nv N st (.slice (some ⟨g,0,none⟩) L.length c) ub ob L) (hf:L[f]? = some t) (hb:qT t.2.2.ownBlock W W1) {v':Value} {vs:List sG} (hv:W1.ownsRow B 59 2 v' vs.length (vs.flatMap Fw)) (hn :∀k,v'.ownBlock=some k→t.2.2.ownBlock=some k∨W.heap.size≤k) :
  eQ (W1.setCell ⟨g,f*6+5,none⟩ v') B b nv N (st.oX f { t.1 with bz:=vs}) (.slice (some ⟨g,0,none⟩) L.length c) ub ob (L.set f ({ t.1 with bz:=vs},t.2.1,v'))∧Fr [52,61,59] W (W1.setCell ⟨g,f*6+5,none⟩ v'):=by
 have I0:=ba hf;have ho:Fr [59] W W1:=Fr.but (h.fns.bz t I0) (by decide) hb
 have qB:=hb.row h.fns.row (fun k hk e=>ed h.fns.row (h.fns.bz t I0) (by decide) k hk e)
 obtain⟨cs,fz,Tt⟩ :∃cs fz,W1.heap[g]? = some (.cells cs 52 fz):=Lib.ownsRow_kind qB g rfl;refine⟨h.Bn ho (by decide) (Fr.set Tt (by decide) (f*6+5) v') (h.fns.Tu hf hb hv hn) ?_,(ho.mono (by decide)).trans ((Fr.set (E:=[52]) Tt (by decide) _ _).mono (by decide))⟩
 rw[nN,h.are]
end
theorem eQ.cap {W:World} {B b:Nat} {nv:Value} {N:Nat} {st:aG} {fv:Value} {ub ob:Nat} {L:List mF} {f i gv c:Nat} {y:cI} {yu:Value} {v:jn} (h:eQ W B b nv N st fv ub ob L) (hf:L[f]? = some (y,.slice (some ⟨gv,0,none⟩) y.vars.length c,yu)) (hi:y.vars[i]? = some v) :
  eQ (W.setCell ⟨gv,i*3+2,none⟩ (.bool true)) B b nv N (st.oX f (cP y i)) fv ub ob (L.set f (cP y i,.slice (some ⟨gv,0,none⟩) y.vars.length c,yu)):=by
 have hl:=(aL.1 hf).1;have hm:=ba hf;have hr:=h.fns.vars _ hm;obtain⟨cs,fz,hk⟩:=Lib.ownsRow_kind hr gv rfl;have ho:=JZ.set hk (i*3+2) (.bool true);have hb:=qT.set W gv (i*3+2) (.bool true);have Bp:cP y i={ y with vars:=y.vars.set i { v with cap:=true}}:=by unfold cP;rw[hi]
 have hst:=(World.ownsRow.stored hr (i*3+2) (.bool true)).1;have hlen:(cP y i).vars.length=y.vars.length:=by rw[Bp];simp
 have get :∀(j:Nat) t,(L.set f (cP y i,.slice (some ⟨gv,0,none⟩) y.vars.length c,yu))[j]? = some t→(j=f∧t=(cP y i,.slice (some ⟨gv,0,none⟩) y.vars.length c,yu))∨(j≠f∧L[j]? = some t):=fun j t hj=>by
  by_cases e:f=j
  ·subst e
   rw[dQ hl] at hj;injection hj with hj;exact .inl ⟨rfl,hj.symm⟩
  ·rw[fC e] at hj
   exact .inr ⟨fun e'=>e e'.symm,hj⟩
 have vals :∀(j:Nat) t,(L.set f (cP y i,.slice (some ⟨gv,0,none⟩) y.vars.length c,yu))[j]? = some t→∃t',L[j]? = some t'∧t.2=t'.2:=fun j t hj=>by
  rcases get j t hj with ⟨rfl,rfl⟩ | ⟨_,hj⟩
  ·exact⟨_,hf,rfl⟩
  ·exact⟨t,hj,rfl⟩
 refine⟨ho.2 b _ _ _ h.blk (by decide),⟨?_,fun t ht=>?_,fun t ht=>?_,fun p q t u hpq hp hq k iT=>?_,fun p q t u hpq hp hq k iT=>?_⟩,?_,lh h.uses ho (by decide),lh h.vZ ho (by decide),h.pos⟩
 ·rw[mn,xB L f _ _ hf (by rw[Bp];rfl)]
  exact cQ h.fns.row ho (by decide)
 ·obtain⟨j,hj⟩:=kG.1 ht
  rcases get j t hj with ⟨rfl,rfl⟩ | ⟨hne,hj⟩
  ·simp only
   rw[hlen,Bp];simp only;rw[qz uY y.vars i 2 v _ (.bool true) hi (by omega) rfl]
   exact hst
  ·exact hb.row (h.fns.vars t (ba hj)) fun k hk e=>by
    injection e with e;subst e;exact h.fns.pG j f t _ hne hj hf gv hk rfl
 ·obtain⟨j,hj⟩:=kG.1 ht
  rcases get j t hj with ⟨rfl,rfl⟩ | ⟨hne,hj⟩
  ·have:=cQ (h.fns.bz _ hm) ho (by decide)
   simp only at this ⊢;rw[Bp];exact this
  ·exact cQ (h.fns.bz t (ba hj)) ho (by decide)
 ·obtain⟨t',h1,e1⟩:=vals p t hp
  obtain⟨u',h2,e2⟩:=vals q u hq;rw[e1] at iT;rw[e2];exact h.fns.pG p q t' u' hpq h1 h2 k iT
 ·obtain⟨t',h1,e1⟩:=vals p t hp
  obtain⟨u',h2,e2⟩:=vals q u hq;rw[e1] at iT;rw[e2];exact h.fns.qA p q t' u' hpq h1 h2 k iT
 ·rw[nN,h.are]
  rfl
theorem I3:(Tryz.prog.info? 61).map (fun i=>(i.zero,i.size,i.bytes))=some (some (.agg #[.string ⟨#[]⟩,.int .i64 0,.bool false]),3,32):=by kernel_rfl
theorem Oe:(Tryz.prog.info? 59).map (fun i=>(i.zero,i.size,i.bytes))=some (some (.agg #[.bool false,.int .i64 0]),2,16):=by kernel_rfl
theorem Og:(Tryz.prog.info? 52).map (fun i=>(i.zero,i.size,i.bytes))=some (some (.agg #[.int .i64 0,.int .i64 0,.int .i64 0,.bool false,.slice none 0 0,.slice none 0 0]),6,80):=by kernel_rfl
theorem DJ:(Tryz.prog.info? 238).map (fun i=>(i.zero,i.size,i.bytes))=some (some (.agg #[.int .i64 0,.map none]),2,16):=by kernel_rfl
end Go.Proofs.YteflkdlaoiijbaaGreatDoor
namespace Go.Proofs.YteflkdlaoiijbaaGreatDoor
theorem I4 {n f:Nat} {l:Int} :∀(ns:List ByteArray) {st st':aG},dJ n f l ns st=.ok st'→st'.frames=st.frames:=by
 intro ns;induction ns with
 | nil=>intro st st' h;rw[dJ] at h;injection h with h;rw[h]
 | cons s ns ih =>
  intro st st' h;rw[dJ] at h;split at h
  ·cases h
  ·have:=ih h
   exact this
theorem va {n f:Nat} {l:Int} {ns:List ByteArray} {st st':aG} (h:bw n f l ns st=.ok st'):st'.frames=st.frames:=by
 have:=I4 ns h;exact this
theorem yT {n f:Nat} {s:ByteArray} {l:Int} {st st':aG} (h:lY n f s l st=.ok st'):st'.frames=st.frames∧st'.names=st.names:=by
 unfold lY at h;split at h
 ·injection h with h;rw[←h];exact⟨rfl,rfl⟩
 ·split at h
  ·injection h with h;rw[←h];exact⟨rfl,rfl⟩
  ·split at h
   ·cases h
   ·injection h with h;rw[←h];exact⟨rfl,rfl⟩
theorem rL {n f:Nat} {l:Int} {st st':aG} (h:dT n f l st=.ok st'):st'.frames=st.frames∧st'.names=st.names:=by
 unfold dT at h;split at h
 ·cases h
 ·injection h with h;rw[←h];exact⟨rfl,rfl⟩
theorem rM {n f:Nat} {s:ByteArray} {l:Int} {st st':aG} :∀(fr:List fw),db n f s l st fr=.ok st'→st'.frames=st.frames∧st'.names=st.names:=by
 intro fr;induction fr with
 | nil=>intro h;cases h
 | cons x fr ih =>
  intro h;rw[db] at h;split at h
  ·exact ih h
  ·split at h
   ·exact ih h
   ·split at h
    ·cases h
    ·injection h with h;rw[←h];exact⟨rfl,rfl⟩
mutual
theorem yU :∀(t:Lt) {f:Nat} {st st':aG},bg t f st=.ok st'→st'.frames=st.frames
 | .mk i h ks,f,mu,st',hr=>by
  rw[cK] at hr;have e0:(mu.setOf i f).frames=mu.frames:=rfl;rw[←e0];generalize mu.setOf i f=st at *;split at hr
  ·split at hr
   ·injection hr with hr;rw[←hr]
   ·cases hr
  split at hr
  ·exact(yT hr).1
  split at hr
  ·obtain⟨s1,e1,hr⟩:=bQ hr
   obtain⟨s2,e2,rfl⟩:=eh hr;rfl
  split at hr
  ·obtain⟨s1,e1,hr⟩:=bQ hr
   obtain⟨s2,e2,rfl⟩:=eh hr;rfl
  split at hr
  ·obtain⟨s1,e1,e2⟩:=bQ hr
   exact(va e2).trans (lj ks e1)
  split at hr
  ·obtain⟨s2,e2,rfl⟩:=eh hr
   rfl
  split at hr
  ·obtain⟨s2,e2,rfl⟩:=eh hr
   rfl
  split at hr
  ·exact Oh ks hr
  split at hr
  ·obtain⟨s1,e1,e2⟩:=bQ hr
   exact(lj ks e2).trans (va e1)
  split at hr
  ·exact(rL hr).1
  split at hr
  ·exact(rM _ hr).1
  exact lj ks hr
theorem lj :∀(ks:List Lt) {f:Nat} {st st':aG},aH ks f st=.ok st'→st'.frames=st.frames
 | [],f,st,st',hr=>by
  rw[eZ] at hr;injection hr with hr;rw[hr]
 | k::ks,f,st,st',hr=>by
  rw[eP] at hr;obtain⟨s1,e1,e2⟩:=bQ hr;exact(lj ks e2).trans (yU k e1)
theorem Oh {i:Nat} {line:Int} {names:List ByteArray} :∀(ks:List Lt) {f:Nat} {st st':aG},iL i line names ks f st=.ok st'→st'.frames=st.frames
 | [],f,st,st',hr=>by
  unfold iL at hr;injection hr with hr;rw[hr]
 | [b],f,st,st',hr=>by
  rw[nL] at hr;obtain⟨s1,e1,hr⟩:=bQ hr;obtain⟨s2,e2,rfl⟩:=eh hr;rfl
 | a::b::l,f,st,st',hr=>by
  rw[ju] at hr;obtain⟨s1,e1,e2⟩:=bQ hr;exact(Oh (b::l) e2).trans (yU a e1)
end
def Still (k:Lt):Prop:=k.hd.kind≠19∧k.hd.kind≠28
mutual
/-- Kids of what abZ declare for its own ad5 declare. -/
def Lt.Quiet:Lt→Prop
 | .mk _ h ks=>((h.kind≠11∧h.kind≠18)→∀k∈ks,Still k)∧Lt.me ks
def Lt.me:List Lt→Prop
 | []=>True
 | k::ks=>Lt.Quiet k∧Lt.me ks
end
mutual
theorem Fy :∀(t:Lt) {f:Nat} {st st':aG},t.Quiet→Still t→bg t f st=.ok st'→st'.names=st.names
 | .mk i h ks,f,mu,st',hq,hs,hr=>by
  rw[cK] at hr;have e0:(mu.setOf i f).names=mu.names:=rfl;rw[←e0];generalize mu.setOf i f=st at *;unfold Lt.Quiet at hq;obtain⟨hq1,oc⟩:=hq;split at hr
  ·split at hr
   ·injection hr with hr;rw[←hr]
   ·cases hr
  split at hr
  ·exact(yT hr).2
  split at hr
  ·obtain⟨s1,e1,hr⟩:=bQ hr
   obtain⟨s2,e2,rfl⟩:=eh hr;rfl
  split at hr
  ·obtain⟨s1,e1,hr⟩:=bQ hr
   obtain⟨s2,e2,rfl⟩:=eh hr;rfl
  split at hr
  ·exact absurd ‹h.kind=19› hs.1
  split at hr
  ·obtain⟨s2,e2,rfl⟩:=eh hr
   rfl
  split at hr
  ·obtain⟨s2,e2,rfl⟩:=eh hr
   rfl
  split at hr
  ·exact Oi ks oc (hq1 ⟨by omega,by omega⟩) hr
  split at hr
  ·exact absurd ‹h.kind=28› hs.2
  split at hr
  ·exact(rL hr).2
  split at hr
  ·exact(rM _ hr).2
  exact qC ks oc (hq1 ⟨by assumption,by assumption⟩) hr
theorem qC :∀(ks:List Lt) {f:Nat} {st st':aG},Lt.me ks→(∀k∈ks,Still k)→aH ks f st=.ok st'→st'.names=st.names
 | [],f,st,st',_,_,hr=>by
  rw[eZ] at hr;injection hr with hr;rw[hr]
 | k::ks,f,st,st',hq,hs,hr=>by
  rw[eP] at hr;obtain⟨s1,e1,e2⟩:=bQ hr;unfold Lt.me at hq;exact(qC ks hq.2 (fun x hx=>hs x (bY _ hx)) e2).trans (Fy k hq.1 (hs k (bU ..)) e1)
theorem Oi {i:Nat} {line:Int} {names:List ByteArray} :∀(ks:List Lt) {f:Nat} {st st':aG},Lt.me ks→(∀k∈ks,Still k)→iL i line names ks f st=.ok st'→st'.names=st.names
 | [],f,st,st',_,_,hr=>by
  unfold iL at hr;injection hr with hr;rw[hr]
 | [b],f,st,st',_,_,hr=>by
  rw[nL] at hr;obtain⟨s1,e1,hr⟩:=bQ hr;obtain⟨s2,e2,rfl⟩:=eh hr;rfl
 | a::b::l,f,st,st',hq,hs,hr=>by
  rw[ju] at hr;obtain⟨s1,e1,e2⟩:=bQ hr;unfold Lt.me at hq;exact(Oi (b::l) hq.2 (fun x hx=>hs x (bY _ hx)) e2).trans (Fy a hq.1 (hs a (bU ..)) e1)
end
def dw (f:Nat) (fr:List fw):List fw:=fr.filter fun x=>!x.loop && decide (x.fn=f)
theorem rN {f:Nat} {x:fw} {fr:List fw} (h:x.loop=true∨x.fn≠f):dw f (x::fr)=dw f fr:=by
 unfold dw;rw[List.filter_cons_of_neg];rcases h with h|h
 ·rw[h];simp
 ·simp[h]
theorem vb {f:Nat} {x:fw} {fr:List fw} (h:x.loop=false) (h2:x.fn=f):dw f (x::fr)=x::dw f fr:=by
 unfold dw;rw[List.filter_cons_of_pos];simp[h,h2]
def gS (ks:List Lt) (n:Nat):Nat:=((ks.take n).filter isDecl).length
theorem Bq (ks:List Lt):gS ks 0=0:=rfl
theorem ve {ks:List Lt} {n:Nat} {x:Lt} (h:ks[n]? = some x):gS ks (n+1)=gS ks n+if isDecl x then 1 else 0:=by
 unfold gS;rw[lI _ _ _ h,List.filter_append,bV];congr 1
 cases e:isDecl x<;>simp[e]
theorem Oj (ks:List Lt) {m n:Nat} (h:m≤n):gS ks m≤gS ks n:=by
 unfold gS;have:ks.take m=(ks.take n).take m:=by rw[List.take_take,Eg h]
 rw[this];exact((List.take_sublist m (ks.take n)).filter _).length_le
theorem Ok (ks:List Lt) (n:Nat):gS ks n≤ks.length:=by
 unfold gS;exact aK (List.length_filter_le _ _) (by rw[oL];omega)
theorem Yx {ks:List Lt} {m n:Nat} (h:m≤n):gS ks m<gS ks n↔((ks.take n).drop m).any isDecl=true:=by
 have e:ks.take n=ks.take m++(ks.take n).drop m:=by
  conv=>lhs;rw[←Kb m (ks.take n)]
  rw[List.take_take,Eg h]
 have e2:gS ks n=gS ks m+(((ks.take n).drop m).filter isDecl).length:=by
  conv=>lhs;unfold gS;rw[e]
  rw[List.filter_append,bV];rfl
 rw[e2,List.any_eq_true];constructor
 ·intro h1
  have h2:0<(((ks.take n).drop m).filter isDecl).length:=by omega
  obtain⟨x,hx⟩:=List.exists_mem_of_length_pos h2;exact⟨x,(wA.1 hx).1,(wA.1 hx).2⟩
 ·rintro⟨x,hx,hd⟩
  have:=List.length_pos_of_mem (wA.2 ⟨hx,hd⟩);omega
def qU (k:Lt):Bool:=decide (k.hd.kind=32)
def lk:List Lt→Nat
 | []=>0
 | k::ks=>if qU k && decide (lk ks=0) then 0 else lk ks+1
theorem rO :∀ks:List Lt,lk ks=0↔ks.all qU=true
 | []=>by simp[lk]
 | k::ks=>by
  rw[lk,rZ];have ih:=rO ks;by_cases h:qU k=true
  ·by_cases h2:lk ks=0
   ·rw[ak (by rw[h,h2];rfl),h,ih.1 h2];simp
   ·rw[af (by rw[h];simpa using h2),h]
    have:¬ ks.all qU=true:=fun e=>h2 (ih.2 e)
    simp only[kJ];constructor
    ·intro e;omega
    ·intro e;exact absurd e this
  ·have h:qU k=false:=by simpa using h
   rw[af (by rw[h];simp),h]
   simp
theorem tC :∀(ks:List Lt) (j:Nat),j<lk ks↔¬ (ks.drop j).all qU=true
 | [],j=>by simp[lk]
 | k::ks,0=>by
  rw[tL,←rO];omega
 | k::ks,j+1=>by
  rw[List.drop_succ_cons,←tC ks j,lk];split
  ·rename_i h
   simp only[cX,iE] at h;omega
  ·omega
theorem Tx {ks:List Lt} {e:Nat} (he:e≤ks.length) (h1:(ks.drop e).all qU=true) (h2:e=0∨∃x,ks[e-1]? = some x∧qU x=false):lk ks=e:=by
 have h3:¬ e<lk ks:=fun h=>(tC ks e).1 h h1
 rcases h2 with rfl | ⟨x,hx,hl⟩
 ·omega
 ·have h4:e-1<lk ks:=(tC ks (e-1)).2 fun h=>by
   have hlt:=(aL.1 hx).1;have:x∈ks.drop (e-1):=by
    rw[kG];exact⟨0,by rw[zH];exact hx⟩
   rw[List.all_eq_true] at h;rw[h x this] at hl;cases hl
  have h5:e-1<ks.length:=(aL.1 hx).1;rcases rY e with h0|h0
  ·subst h0;omega
  ·omega
def rP (ks:List Lt) (rep:Bool) (j:Nat):Nat:=if rep=true∨j<lk ks then gS ks j else 0
theorem drop_at {α:Type} {l:List α} {j:Nat} {x:α} (h:l[j]? = some x):l.drop j=x::l.drop (j+1):=by
 obtain⟨hl,he⟩:=aL.1 h;rw[zC hl,he]
theorem Ty {ks:List Lt} {a j:Nat} {rep:Bool} {x:Lt} (hj:ks[j]? = some x) (hx:qU x=true):lZ ks a j rep=decide (gS ks (a+1)<rP ks rep j):=by
 have hall:(ks.drop (j+1)).all qU=(ks.drop j).all qU:=by
  rw[drop_at hj,rZ,hx,kJ]
 have aa7:((ks.drop (j+1)).all fun k=>decide (k.hd.kind=32))=(ks.drop j).all qU:=hall
 unfold lZ;rw[aa7];have h1:((ks.take j).drop (a+1)).any isDecl=decide (gS ks (a+1)<gS ks j):=by
  by_cases h:a+1≤j
  ·have:=Yx (ks:=ks) h
   cases e:((ks.take j).drop (a+1)).any isDecl with
   | true=>rw[e] at this;exact(bM (this.2 rfl)).symm
   | false=>rw[e] at this;exact(bL fun h=>by have:=this.1 h;cases this).symm
  ·have h2:(ks.take j).drop (a+1)=[]:=List.drop_eq_nil_iff.2 (by rw[oL];omega)
   rw[h2];have:=Oj ks (show j≤a+1 by omega)
   exact(bL (by omega)).symm
 rw[h1];unfold rP;cases rep with
 | true=>simp
 | false =>
  have h3:=tC ks j;cases e:(ks.drop j).all qU with
  | true =>
   rw[e] at h3;have h4:¬ j<lk ks:=fun h=>(h3.1 h) rfl
   rw[af (by simpa using h4)]
   simp
  | false =>
   rw[e] at h3;rw[ak (.inr (h3.2 (by simp)))]
   simp
def nO (ks:List Lt) (rep:Bool) (n:Nat) (s:ByteArray):Option (Nat×Nat) :=
 match bZ ks s with
 | some j=>if j<n then some ((ks.getD j (.mk 0 ⟨0,0,0,0,⟨#[]⟩,[],[]⟩ [])).loc,rP ks rep j) else none
 | none=>none
theorem I5 (ks:List Lt) (rep:Bool) (s:ByteArray):nO ks rep 0 s=none:=by
 unfold nO;split
 ·rw[af (by omega)]
 ·rfl
theorem vg {ks:List Lt} {s:ByteArray} {j:Nat} (h:bZ ks s=some j) :∃x,ks[j]? = some x∧mr s x=true∧j<ks.length:=by
 obtain⟨hlt,he,_⟩:=zz.1 h;exact⟨ks[j],bE hlt,he,hlt⟩
theorem Br (ks:List Lt) (rep:Bool) (s:ByteArray):nO ks rep ks.length s=(bZ ks s).map fun j=>((ks.getD j (.mk 0 ⟨0,0,0,0,⟨#[]⟩,[],[]⟩ [])).loc,rP ks rep j):=by
 unfold nO;cases h:bZ ks s with
 | none=>rfl
 | some j =>
  obtain⟨_,_,_,hlt⟩:=vg h;exact ak hlt
theorem vh {ks:List Lt} {rep:Bool} {n:Nat} {x:Lt} (hx:ks[n]? = some x) {s:ByteArray} (h:mr s x=false):nO ks rep (n+1) s=nO ks rep n s:=by
 unfold nO;cases h1:bZ ks s with
 | none=>rfl
 | some j =>
  obtain⟨y,hy,hl,_⟩:=vg h1;have:j≠n:=fun e=>by
   subst e;rw[hx] at hy;injection hy with hy;rw[hy,hl] at h;cases h
  dsimp only
  by_cases h2:j<n
  ·rw[ak h2,ak (by omega)]
  ·rw[af h2,af (by omega)]
theorem I6 {ks:List Lt} {rep:Bool} {n:Nat} {x:Lt} (hx:ks[n]? = some x) (h:qU x=true) (hn:¬∃j,bZ ks x.hd.s=some j∧j<n):nO ks rep (n+1) x.hd.s=some (x.loc,rP ks rep n):=by
 have hi:mr x.hd.s x=true:=by unfold mr;unfold qU at h;rw[h];simp
 have h1:bZ ks x.hd.s=some n:=by
  cases e:bZ ks x.hd.s with
  | none =>
   unfold bZ at e;rw[List.findIdx?_eq_none_iff] at e;rw[e x (ba hx)] at hi;cases hi
  | some j =>
   have hj:¬ j<n:=fun hj=>hn ⟨j,e,hj⟩
   obtain⟨hlt,he,ac7⟩:=zz.1 e;by_cases h2:n<j
   ·have:=ac7 n h2
    rw[(aL.1 hx).2] at this;rw[hi] at this;exact absurd rfl this
   ·congr 1;omega
 unfold nO;rw[h1];dsimp only
 rw[ak (by omega),jU,hx]
 rfl
theorem Ol {ks:List Lt} {rep:Bool} {n:Nat} {s:ByteArray}:(nO ks rep n s).isSome=true↔∃j,bZ ks s=some j∧j<n:=by
 unfold nO;cases h:bZ ks s with
 | none=>simp
 | some j =>
  dsimp only
  by_cases h2:j<n
  ·rw[ak h2];simp[h2]
  ·rw[af h2]
   simp[h2]
theorem oh {node f:Nat} {s:ByteArray} {line:Int} {st:aG} :∀fr:List fw,db node f s line st fr=match (dw f fr).find? fun x=>(bZ x.kids s).isSome with
  | none=>.error (8,line)
  | some x=>match bZ x.kids s with
   | none=>.error (8,line)
   | some j=>if lZ x.kids x.at_ j x.rep then .error (10,line) else .ok (st.dj node (4,((x.kids.getD j (.mk 0 ⟨0,0,0,0,⟨#[]⟩,[],[]⟩ [])).loc:Int)))
 | []=>rfl
 | x::fr=>by
  rw[db];by_cases h:x.loop=true∨x.fn≠f
  ·rw[ak h,rN h]
   exact oh fr
  ·rw[af h]
   rw[not_or,Decidable.not_not] at h;have h1:x.loop=false:=by simpa using h.1
   rw[vb h1 h.2,kI];cases e:bZ x.kids s with
   | none=>exact oh fr
   | some j =>
    dsimp only[Option.isSome]
    rw[e]
def cB (f:Nat) (fr:List fw):Int:=match fr.find? (fun x=>x.loop && decide (x.fn=f)) with|none=>-1|some x=>(x.node:Int)
theorem vi (f i:Nat) (fr:List fw):cB f (⟨f,i,0,true,false,[]⟩::fr)=(i:Int):=by
 unfold cB;rw[kI];simp
theorem vj {f:Nat} {x:fw} (h:x.loop=false) (fr:List fw):cB f (x::fr)=cB f fr:=by
 unfold cB;rw[kI,h];rfl
theorem Om (node f:Nat) (line:Int) (st:aG):dT node f line st=if cB f st.frames = -1 then .error (8,line) else .ok (st.dj node (4,cB f st.frames)):=by
 unfold dT cB;cases st.frames.find? (fun x=>x.loop && decide (x.fn=f)) with
 | none=>rfl
 | some x=>exact(af (by show ¬ (x.node:Int) = -1;omega)).symm
theorem Oo {fr:List fw} {f:Nat} {s:ByteArray}:(∃x∈fr,x.loop=false∧x.fn=f∧(bZ x.kids s).isSome)↔((dw f fr).find? fun x=>(bZ x.kids s).isSome).isSome=true:=by
 rw[List.find?_isSome];unfold dw;constructor
 ·rintro⟨x,hx,h1,h2,h3⟩
  exact⟨x,wA.2 ⟨hx,by simp[h1,h2]⟩,h3⟩
 ·rintro⟨x,hx,h3⟩
  obtain⟨h1,h2⟩:=wA.1 hx;simp only[cX,Bool.not_eq_true',iE] at h2;exact⟨x,h1,h2.1,h2.2,h3⟩
end Go.Proofs.YteflkdlaoiijbaaGreatDoor
namespace Go.Proofs.YteflkdlaoiijbaaGreatDoor
open Go.RowKit
structure cE where
 fn:Nat
 blk:Nat
 iC:List jr
def Fz (l:cE):List Value:=[.int .i64 (l.fn:Int),.map (some l.blk)]
theorem yV (l:cE):(Fz l).length=2:=rfl
def jT (iC:List jr) (s:ByteArray):Option Value:=(iC.find? fun n=>decide (n.s=s)).map fun n=>.int .i64 (n.i:Int)
def mw (L:List cE):List jr:=L.flatMap cE.iC
def grow (a:List jr):List cE→List cE
 | []=>[]
 | l::r=>{ l with iC:=a++l.iC}::r
theorem jN (L:List cE):grow [] L=L:=by cases L<;>rfl
theorem ch (a:List jr) (L:List cE):(grow a L).length=L.length:=by cases L<;>rfl
theorem grow_grow (a b:List jr) (L:List cE):grow b (grow a L)=grow (b++a) L:=by
 cases L with
 | nil=>rfl
 | cons l r=>simp[grow,fe]
theorem I7 {a:List jr} {L:List cE} (h:L≠[]):mw (grow a L)=a++mw L:=by
 cases L with
 | nil=>exact absurd rfl h
 | cons l r=>simp[grow,mw,fe]
def ei:List cE→Option Nat
 | []=>none
 | l::_=>some l.blk
theorem om (a:List jr) (L:List cE):ei (grow a L)=ei L:=by cases L<;>rfl
theorem vk (a:List jr) (L:List cE):(grow a L).map cE.blk=L.map cE.blk:=by cases L<;>rfl
theorem rQ (s:ByteArray) :∀L:List cE,(mw L).find? (fun n=>decide (n.s=s))=(L.find? fun l=>(jT l.iC s).isSome).bind fun l=>l.iC.find? fun n=>decide (n.s=s)
 | []=>rfl
 | l::L=>by
  show(l.iC++mw L).find? _=_
  rw[List.find?_append,kI];unfold jT;cases e:l.iC.find? fun n=>decide (n.s=s) with
  | none =>
   dsimp only[Option.map,Option.isSome]
   rw[Option.none_or];exact rQ s L
  | some n =>
   dsimp only[Option.map,Option.isSome]
   rw[Option.some_or];exact e.symm
structure cU (W:World) (B:Nat) (v:Value) (L:List cE):Prop where
 row:W.ownsRow B 238 2 v L.length (L.reverse.flatMap Fz)
 maps :∀l∈L,dA Tryz.prog 9 W l.blk l.iC.length (jT l.iC)∧B≤l.blk
 own :∀l∈L,∀n∈l.iC,n.fn=l.fn
 apart:(L.map cE.blk).Nodup
def fy (ks:List Lt) (rep:Bool) (n:Nat) (s:ByteArray):Option Value:=(nO ks rep n s).map fun p=>.agg #[.int .i64 (p.1:Int),.int .i64 (p.2:Int)]
def bW (W:World) (B:Nat):List (Nat×Nat×(ByteArray→Option Value))→List Nat→Value→Prop
 | [],ms,v=>ms=[]∧v=.pointer none
 | x::fs,ms,v=>∃k p m Cs,v=.pointer (some ⟨k,0,none⟩)∧ms=m::Cs∧B≤k∧W.heap[k]? = some (.cells #[.pointer p,.map (some m),.int .i64 (x.1:Int)] 195 (0,0))∧dA Tryz.prog 9 W m x.2.1 x.2.2∧B≤m∧(∀a,p=some a→a.block<k)∧bW W B fs Cs (.pointer p)
def J0 (x:fw):Nat×Nat×(ByteArray→Option Value):=(gS x.kids (x.at_+1),x.kids.length,fy x.kids x.rep x.kids.length)
def oY (W:World) (B:Nat) (fs:List fw) (ms:List Nat) (v:Value):Prop:=bW W B (fs.map J0) ms v
structure cJ (B ob:Nat) (v:Value) (n:Nat) (top:Option Nat) (W W':World):Prop where
 below:Below B W W'
 cells :∀(k:Nat) c (e:TypeId) fz,W.heap[k]? = some (.cells c e fz)→e∉[52,61,59,57,87,3,238]→W'.heap[k]? = some (.cells c e fz)
 ints :∀(k:Nat) c fz,W.heap[k]? = some (.cells c 3 fz)→k≠ob→W'.heap[k]? = some (.cells c 3 fz)
 lvl :∀u m xs,W.ownsRow B 238 2 u m xs→(u.ownBlock=v.ownBlock→m≤n)→W'.ownsRow B 238 2 u m xs
 maps :∀(k:Nat) es c,W.heap[k]? = some (.map es c)→some k≠top→W'.heap[k]? = some (.map es c)
section
variable {B ob n:Nat} {v:Value} {top:Option Nat} {W W' W2:World}
theorem cJ.refl (B ob:Nat) (v:Value) (n:Nat) (top:Option Nat) (W:World):cJ B ob v n top W W:=⟨Below.refl _ _,fun _ _ _ _ h _=>h,fun _ _ _ h _=>h,fun _ _ _ h _=>h,fun _ _ _ h _=>h⟩
theorem cJ.trans (h:cJ B ob v n top W W') (k:cJ B ob v n top W' W2):cJ B ob v n top W W2 :=
 ⟨h.below.trans k.below,fun i c e fz hi he=>k.cells i c e fz (h.cells i c e fz hi he) he,fun i c fz hi ho=>k.ints i c fz (h.ints i c fz hi ho) ho,fun u m xs hu hm=>k.lvl u m xs (h.lvl u m xs hu hm) hm,fun i es c hi ht=>k.maps i es c (h.maps i es c hi ht) ht⟩
theorem cJ.FB (h:cJ B ob v n none W W') (top:Option Nat):cJ B ob v n top W W':=⟨h.below,h.cells,h.ints,h.lvl,fun k es c hk _=>h.maps k es c hk (by simp)⟩
theorem cJ.u7 {E:List Nat} (h:Fr E W W') (hE :∀e∈E,e∈[52,61,59,57,87]) (hb:Below B W W'):cJ B ob v n top W W' :=
 ⟨hb,fun k c e fz hk he=>h.cells k c e fz hk fun hm=>he (fV [3,238] (hE e hm)),
  fun k c fz hk _=>h.cells k c _ fz hk fun hm=>absurd (hE _ hm) (by decide),fun u m xs hu _=>h.row hu fun hm=>absurd (hE _ hm) (by decide),fun k es c hk _=>h.maps k es c hk⟩
theorem cJ.bH (hb:Below W.heap.size W W') (hB:B≤W.heap.size):cJ B ob v n top W W':=cJ.u7 (E:=[]) (Fr.ae hb) (fun _ h=>by cases h) (hb.mono hB)
theorem cJ.aa8 {cs:Array Value} {fz:Nat×Nat} (h:W.heap[ob]? = some (.cells cs 3 fz)) (hB:B≤ob) (j:Nat) (x:Value):cJ B ob v n top W (W.setCell ⟨ob,j,none⟩ x):=by
 have hf:Fr [3] W (W.setCell ⟨ob,j,none⟩ x):=Fr.set h (by decide) j x
 exact⟨(Below.refl B W).setCell (p:=⟨ob,j,none⟩) hB x,fun k c e fz hk he=>hf.cells k c e fz hk fun hm=>he (by rw[bP] at hm;subst hm;decide),
  fun k c fz hk ho=>(Below.heap_setCell W ⟨ob,j,none⟩ x k ho).trans hk,fun u m xs hu _=>hf.row hu (by decide),fun k es c hk _=>hf.maps k es c hk⟩
theorem cJ.of_map {b:Nat} (hg:W.grownBy W' (some b)) (hm :∃es c,W.heap[b]? = some (.map es c)) (hB:B≤b) (hW:B≤W.heap.size):cJ B ob v n (some b) W W':=by
 obtain⟨es,c,hb⟩:=hm;have key :∀(k:Nat) (o:Obj),W.heap[k]? = some o→(∀es c,o ≠ .map es c)→W'.heap[k]? = some o:=fun k o hk ho=>(hg.block k (aI.1 hk).1 fun e=>by
  injection e with e;subst e;rw[hb] at hk;injection hk with hk;exact ho _ _ hk.symm).trans hk
 refine⟨⟨hg.os,hg.tape,hg.output,hg.size,fun k hk=>hg.block k (by omega) fun e=>by injection e with e;omega⟩,fun k c e fz hk _=>key k _ hk (fun _ _ e=>by cases e),fun k c fz hk _=>key k _ hk (fun _ _ e=>by cases e),fun u m xs hu _=>?_,fun k es c hk ht=>(hg.block k (aI.1 hk).1 ht).trans hk⟩
 refine⟨hu.1,?_⟩;rcases hu.2 with hn | ⟨g,cap,cur,rfl,hB,hg,rest⟩
 ·exact .inl hn
 ·exact .inr ⟨g,cap,cur,rfl,hB,key g _ hg (fun _ _ e=>by cases e),rest⟩
theorem cJ.map {P:Program} {k:TypeId} {b m:Nat} {f:ByteArray→Option Value} (h:cJ B ob v n top W W') (hm:dA P k W b m f) (ht:some b≠top):dA P k W' b m f:=by
 obtain⟨es,c,h1⟩:=hm.isMap;exact hm.same ((h.maps b es c h1 ht).trans h1.symm)
theorem cU.jo {L:List cE} (h:cU W B v L) (k:cJ B ob v n none W W') (hn:L.length≤n):cU W' B v L :=
 ⟨k.lvl _ _ _ h.row fun _=>hn,fun l hl=>⟨k.map (h.maps l hl).1 (by simp),(h.maps l hl).2⟩,h.own,h.apart⟩
theorem cU.more {a:List jr} {l:cE} {r:List cE} (h:cU W B v (l::r)) (k:cJ B ob v n (some l.blk) W W') (hn:(l::r).length≤n) (hm:dA Tryz.prog 9 W' l.blk (a++l.iC).length (jT (a++l.iC))) (ha :∀x∈a,x.fn=l.fn):cU W' B v (grow a (l::r)):=by
 refine⟨?_,fun u hu=>?_,fun u hu x hx=>?_,?_⟩
 ·have:=k.lvl _ _ _ h.row fun _=>hn
  rw[ch];rw[Ed,pQ] at this;unfold grow;rw[Ed,pQ];exact this
 ·rcases bn.1 hu with rfl|hu
  ·exact⟨hm,(h.maps l (bU ..)).2⟩
  ·have h1:=h.maps u (bY _ hu)
   refine⟨k.map h1.1 fun e=>?_,h1.2⟩
   injection e with e;have h2:=h.apart;rw[fX,ml] at h2;exact h2.1 (e▸jV hu)
 ·rcases bn.1 hu with rfl|hu
  ·rcases dd.1 hx with hx|hx
   ·exact ha x hx
   ·exact h.own l (bU ..) x hx
  ·exact h.own u (bY _ hu) x hx
 ·rw[vk]
  exact h.apart
theorem bW.jo (k:cJ B ob v n top W W') :∀{fs:List (Nat×Nat×(ByteArray→Option Value))} {ms:List Nat} {p:Value},bW W B fs ms p→(∀m∈ms,some m≠top)→bW W' B fs ms p
 | [],_,_,h,_=>h
 | x::fs,ms,p,h,ht=>by
  obtain⟨k',p',m,Cs,rfl,rfl,h1,h2,h3,h4,h5,h6⟩:=h;exact⟨k',p',m,Cs,rfl,rfl,h1,k.cells k' _ _ _ h2 (by decide),k.map h3 (ht m (bU ..)),h4,h5,bW.jo k h6 fun m hm=>ht m (bY _ hm)⟩
theorem bW.later {fs:List (Nat×Nat×(ByteArray→Option Value))} {ms:List Nat} {p:Value} (h:bW W B fs ms p) (hb:Below W.heap.size W W'):bW W' B fs ms p:=by
 by_cases hB:B≤W.heap.size
 ·exact bW.jo (ob:=0) (v:=.nilIface) (n:=0) (top:=none) (cJ.bH hb hB) h (by simp)
 ·cases fs with
  | nil=>exact h
  | cons x fs =>
   obtain⟨k,p',m,Cs,rfl,rfl,h1,h2,_⟩:=h;have:=(aI.1 h2).1;omega
theorem oY.jo (k:cJ B ob v n top W W') {fs:List fw} {ms:List Nat} {p:Value} (h:oY W B fs ms p) (ht :∀m∈ms,some m≠top):oY W' B fs ms p:=bW.jo k h ht
theorem bW.form {fs:List (Nat×Nat×(ByteArray→Option Value))} {ms:List Nat} {p:Value} (h:bW W B fs ms p) :∃a,p=.pointer a:=by
 cases fs with
 | nil=>exact⟨none,h.2⟩
 | cons x fs=>obtain⟨k,_,_,_,rfl,_⟩:=h;exact⟨_,rfl⟩
end
structure oZ (W:World) (B f:Nat) (p lv:Value) (ms:List Nat) (L:List cE) (st:aG):Prop where
 fk:cU W B lv L
 blk:oY W B (dw f st.frames) ms p
 names:st.names=mw L
 apart :∀m∈ms,∀l∈L,m≠l.blk
def I8 (W:World) (v:Value) (n k:Int):Prop:=∃g,v=.iface 83 (.pointer (some ⟨g,0,none⟩))∧W.heap[g]? = some (.cells #[.int .i64 n,.iface 79 (.int .i64 k)] 85 (0,0))
def jO (W:World) (B b:Nat) (nv:Value) (N:Nat) (st:aG) (ub ob:Nat):Prop:=∃fv L,eQ W B b nv N st fv ub ob L
def aq (B b:Nat) (nv:Value) (N ub ob:Nat) (lv:Value) (L:List cE) (st:aG) (r:Rs aG) (w:World) (e:Ending) (w':World):Prop :=
 Below B w w'∧match r with
 | .ok st'=>e=.returned .nilIface∧jO w' B b nv N st' ub ob∧cJ B ob lv L.length (ei L) w w'∧∃a,st'.names=a++st.names∧(L=[]→a=[])∧cU w' B lv (grow a L)
 | .error x=>∃v,e=.returned v∧I8 w' v x.2 x.1
theorem oZ.on {W W':World} {B ob f:Nat} {p lv:Value} {ms:List Nat} {L:List cE} {st st':aG} {a:List jr} (h:oZ W B f p lv ms L st) (k:cJ B ob lv L.length (ei L) W W') (hl:cU W' B lv (grow a L)) (hn:st'.names=a++st.names) (he:L=[]→a=[]) (hf:st'.frames=st.frames):oZ W' B f p lv ms (grow a L) st':=by
 refine⟨hl,?_,?_,fun m hm l hl=>?_⟩
 ·rw[hf]
  refine h.blk.jo k fun m hm e=>?_
  cases L with
  | nil=>cases e
  | cons l r =>
   injection e with e;exact h.apart m hm l (bU ..) e
 ·rw[hn,h.names]
  by_cases e:L=[]
  ·rw[he e,jN];rfl
  ·exact(I7 e).symm
 ·have h1:l.blk∈(grow a L).map cE.blk:=jV hl
  rw[vk] at h1;obtain⟨u,hu,e⟩:=jd.1 h1;rw[←e];exact h.apart m hm u hu
end Go.Proofs.YteflkdlaoiijbaaGreatDoor
namespace Go.Proofs.YteflkdlaoiijbaaGreatDoor
open Go.RowKit
def gG (B b:Nat) (nv:Value) (N ub ob:Nat) (r:Rs aG) (w:World) (e:Ending) (w':World):Prop :=
 Below B w w'∧match r with
 | .ok st'=>e=.returned .nilIface∧jO w' B b nv N st' ub ob∧Fr [52,61,59,57,87] w w'
 | .error x=>∃v,e=.returned v∧I8 w' v x.2 x.1
theorem eQ.mL {W:World} {B b:Nat} {nv:Value} {N:Nat} {st:aG} {fv:Value} {ub ob:Nat} {L:List mF} (h:eQ W B b nv N st fv ub ob L):b<W.heap.size∧ub<W.heap.size∧ob<W.heap.size:=⟨(aI.1 h.blk).1,(h.uses.lt ub rfl).2,(h.vZ.lt ob rfl).2⟩
theorem ez {T:List Nd} {B:Nat} {nv:Value} (b node:Nat) (h:Nd) (k:Int) (w:World) (hT:vY w B nv T) (c0:w.cell? ⟨b,0,none⟩=some nv) (hx:T[node]? = some h) :
  Calls Tryz.prog 108 #[.pointer (some ⟨b,0,none⟩),.int .i64 (node:Int),.iface 79 (.int .i64 k)] w fun e w'=>∃v,e=.returned v∧(∃g,v=.iface 83 (.pointer (some ⟨g,0,none⟩)))∧I8 w' v h.line k∧Below w.heap.size w w':=by
 obtain⟨bk,o,c,rfl,eG,bX,hn⟩:=hT.nodes;obtain⟨zx,zy,fE,_,_⟩:=hn node h hx;have jB:node<T.length:=(aL.1 hx).1;have d1:=fE.c1;have pN:=hT.few;clear fE hn hT;go_enter Tryz.func108,Tryz.ntmps108
 go_wp2_with fail
 go_ret
 exact⟨_,rfl,⟨_,rfl⟩,⟨_,rfl,heap_alloc_new _ _⟩,(Below.refl _ _).alloc (ah _) _⟩
theorem sK {T:List Nd} {B:Nat} {nv:Value} (b node:Nat) (h:Nd) (w:World) (hT:vY w B nv T) (c0:w.cell? ⟨b,0,none⟩=some nv) (hx:T[node]? = some h) :
  Calls Tryz.prog 115 #[.pointer (some ⟨b,0,none⟩),.int .i64 (node:Int)] w fun e w'=>e=.returned (.bool (decide (h.kind=19) || decide (h.kind=28)))∧w=w':=by
 obtain⟨bk,o,c,rfl,eG,bX,hn⟩:=hT.nodes;obtain⟨zx,zy,fE,_,_⟩:=hn node h hx;have jB:node<T.length:=(aL.1 hx).1;have d0:=fE.c0;have pN:=hT.few;clear fE hn hT;have e1:(h.kind == 19)=decide (h.kind=19):=rfl;have e2:(h.kind == 28)=decide (h.kind=28):=rfl;cases h1:decide (h.kind=19) with
 | true =>
  rw[h1] at e1;go_enter Tryz.func115,Tryz.ntmps115
  go_wp2_with fail
  go_ret
  exact⟨rfl,rfl⟩
 | false =>
  rw[h1] at e1;cases h2:decide (h.kind=28) with
  | true =>
   rw[h2] at e2;go_enter Tryz.func115,Tryz.ntmps115
   go_wp2_with fail
   go_ret
   exact⟨rfl,rfl⟩
  | false =>
   rw[h2] at e2;go_enter Tryz.func115,Tryz.ntmps115
   go_wp2_with fail
   go_ret
   exact⟨rfl,rfl⟩
theorem Below.two {W:World} (o o':Obj):Below W.heap.size W ((W.alloc o).alloc o'):=((Below.refl _ _).alloc (ah _) o).alloc (by rw[ao];omega) o'
theorem mg (f:Nat) (loop l:Int) (pa la:Option Addr) (ln lc:Nat) (w:World) :
  Calls Tryz.prog 57 #[.agg #[.int .i64 (f:Int),.int .i64 loop,.pointer pa,.slice la ln lc],.int .i64 l] w fun e w'=>e=.returned (.agg #[.int .i64 (f:Int),.int .i64 l,.pointer pa,.slice la ln lc])∧Below w.heap.size w w':=by
 go_enter Tryz.func57,Tryz.ntmps57
 go_wp2_with fail
 exact bodyPost_ret (v:=.agg #[.int .i64 (f:Int),.int .i64 l,.pointer pa,.slice la ln lc]) (by simp[results,Tryz.results57,go_sem]) rfl ⟨rfl,Below.two _ _⟩
theorem iN {B b:Nat} {nv:Value} {N ub ob:Nat} {w w1 w2:World} {line k:Int} {v:Value} (hb:Below B w w1) (hB:B≤w1.heap.size) (h2:Below w1.heap.size w1 w2) (hf:I8 w2 v line k):gG B b nv N ub ob (.error (k,line)) w (.returned v) w2 :=
 ⟨hb.trans (h2.mono hB),_,rfl,hf⟩
theorem Oq {T:List Nd} {B:Nat} {nv:Value} {ub ob:Nat} (b node f:Nat) (h:Nd) (loop:Int) (pa la:Option Addr) (ln lc:Nat) (st:aG) (w:World) (hT:vY w B nv T) (hw:jO w B b nv T.length st ub ob) (hx:T[node]? = some h) (hf:f<st.fns.length) :
  Calls Tryz.prog 53 #[.pointer (some ⟨b,0,none⟩),.int .i64 (node:Int),.agg #[.int .i64 (f:Int),.int .i64 loop,.pointer pa,.slice la ln lc]] w (gG B b nv T.length ub ob (if (st.fn f).many then .ok st else .error (14,h.line)) w):=by
 obtain⟨fv,FL,hw⟩:=hw;obtain⟨t,ht⟩:=hw.Bo hf;obtain⟨g,c,rfl,Yy,ri,sX⟩:=hw.fns.form ht;have hfn:=(hw.sJ ht).2;have xd:=hw.len;have Ot:f<FL.length:=by omega
 obtain⟨hbl,mH,sV⟩:=hw.mL;have bX:B≤w.heap.size:=aK hw.pos (fg hbl);have d0:w.cell? ⟨b,0,none⟩=some nv:=ab hw.blk 0;have d1:w.cell? ⟨b,1,none⟩=some (.slice (some ⟨g,0,none⟩) FL.length c):=ab hw.blk 1;have e3:w.cell? ⟨g,f*6+3,none⟩=some (.bool t.1.many):=(sX 3 (by omega)).1
 rw[hfn];have HW:=aa hw;have HT:=aa hT;have HX:=aa hx;clear hw hT hx hfn ht sX xd;cases hm:t.1.many with
 | true =>
  rw[hm] at e3;go_enter Tryz.func53,Tryz.ntmps53
  go_wp2_with fail
  go_region
  go_wp2_with fail
  go_ret
  exact⟨((Below.refl B w).alloc bX _).drew,rfl,⟨_,_,(HW.out.alloc _).drew⟩,(Fr.alloc _).drew⟩
 | false =>
  rw[hm] at e3;have HC:=aa (ab (HW.out.alloc (.cells #[.int .i64 (f:Int),.int .i64 loop,.pointer pa,.slice la ln lc] 92)).drew.blk 0);have AR:=aa (HT.out.below (((Below.refl B w).alloc bX (.cells #[.int .i64 (f:Int),.int .i64 loop,.pointer pa,.slice la ln lc] 92)).drew));go_enter Tryz.func53,Tryz.ntmps53
  go_wp2_with fail
  go_region
  go_wp2_with fail
  refine(ez b node _ _ _ AR.out HC.out HX.out).mono ?_;rintro e w1 ⟨v,rfl,⟨g1,rfl⟩,h1,h2⟩;have H1:=aa h1;have H2:=aa h2;clear h1 h2;go_wp2_with fail
  go_ret
  exact iN (((Below.refl B w).alloc bX _).drew) (by simp;omega) H2.out H1.out
def gm (w:World) (s:ByteArray) (fs:List (Nat×Nat×(ByteArray→Option Value))) (pv xC:Value):Prop :=
 match fs.find? fun x=>(x.2.2 s).isSome with
 | none=>pv=.pointer none∧xC=.agg #[.int .i64 0,.int .i64 0]
 | some x=>∃k,pv=.pointer (some ⟨k,0,none⟩)∧x.2.2 s=some xC∧w.cell? ⟨k,2,none⟩=some (.int .i64 (x.1:Int))∧k<w.heap.size
def aa9:Value→Nat
 | .pointer (some a)=>a.block+1
 | _=>0
def Ou (fs:List (Nat×Nat×(ByteArray→Option Value))):Prop:=∀x∈fs,∀s v,x.2.2 s=some v→∃a b,v=.agg #[.int .i64 a,.int .i64 b]
theorem Ov (w:World):(zeroValue 199).run Tryz.prog w=.ok (.agg #[.int .i64 0,.int .i64 0]) w:=by kernel_rfl
theorem Bt {B:Nat} (fs:List (Nat×Nat×(ByteArray→Option Value))) (ms:List Nat) (p:Value) (s:ByteArray) (w:World) (hc:bW w B fs ms p) (hs:s.size≤maxLen) (hl:Ou fs) :
  Calls Tryz.prog 116 #[p,.string s] w fun e w'=>∃pa a b,e=.returned (.tuple #[.pointer pa,.agg #[.int .i64 a,.int .i64 b]])∧gm w s fs (.pointer pa) (.agg #[.int .i64 a,.int .i64 b])∧Below w.heap.size w w':=by
 obtain⟨a0,rfl⟩:=hc.form;have HC:=aa hc;have HL:=aa hl;clear hc hl;go_enter Tryz.func116,Tryz.ntmps116
 go_wp2_with fail
 have hz:=heap_alloc_new w (.cells #[.int .i64 0,.int .i64 0] 199);have z0:=dx w #[.int .i64 0,.int .i64 0] 199 0;have z1:=dx w #[.int .i64 0,.int .i64 0] 199 1;have y0:=frozen_of_row (w.alloc (.cells #[.int .i64 0,.int .i64 0] 199)) w.heap.size 0 _ _ (heap_alloc_new w (.cells #[.int .i64 0,.int .i64 0] 199));have y1:=frozen_of_row (w.alloc (.cells #[.int .i64 0,.int .i64 0] 199)) w.heap.size 1 _ _ (heap_alloc_new w (.cells #[.int .i64 0,.int .i64 0] 199));replace z0:_=some (Value.int .i64 0):=z0;replace z1:_=some (Value.int .i64 0):=z1;have dW:w.heap.size<(w.alloc (.cells #[.int .i64 0,.int .i64 0] 199)).heap.size:=by rw[ao];omega
 have Ow:=aa ((Below.refl w.heap.size w).alloc (ah _) (.cells #[.int .i64 0,.int .i64 0] 199));generalize hW0:w.alloc (.cells #[.int .i64 0,.int .i64 0] 199)=W0 at *;have HW0:=aa hW0;clear hW0;go_loopw [0] (fun t wr=>∃cs Cs,bW w B cs Cs t∧fs.find? (fun x=>(x.2.2 s).isSome)=cs.find? (fun x=>(x.2.2 s).isSome)∧Ou cs∧Below W0.heap.size W0 wr) (fun t _=>aa9 t)
 case atStart=>exact⟨fs,ms,HC.out,rfl,HL.out,Below.refl _ _⟩
 case round =>
  obtain⟨cs,Cs,hc,hf,hl,hb⟩:=hrel;have k0:wr.cell? ⟨w.heap.size,0,none⟩=some (.int .i64 0):=(hb.cell (p:=⟨w.heap.size,0,none⟩) dW).trans z0;have k1:wr.cell? ⟨w.heap.size,1,none⟩=some (.int .i64 0):=(hb.cell (p:=⟨w.heap.size,1,none⟩) dW).trans z1;have j0:wr.frozen? ⟨w.heap.size,0,none⟩=false:=(hb.frozen (p:=⟨w.heap.size,0,none⟩) dW).trans y0;have j1:wr.frozen? ⟨w.heap.size,1,none⟩=false:=(hb.frozen (p:=⟨w.heap.size,1,none⟩) dW).trans y1;have hblk:=(hb.block w.heap.size dW).trans hz;have I9:=aa hblk;clear hblk hz;have hwr:w.heap.size<wr.heap.size:=cy dW hb.size;have HF:=aa hf;have HB:=aa hb;have HLc:=aa hl;clear hf hb hl z0 z1 y0 y1;cases cs with
  | nil =>
   obtain⟨rfl,rfl⟩:=hc;go_wp2_with fail
   have lG:=aa (((Ow.out.trans (HB.out.mono (fg dW))).setCell (p:=⟨w.heap.size,0,none⟩) (ah _) (.int .i64 0)).setCell (p:=⟨w.heap.size,1,none⟩) (ah _) (.int .i64 0));refine bodyPost_ret (v:=.tuple #[.pointer none,.agg #[.int .i64 0,.int .i64 0]]) (by simp[results,Tryz.results116,go_sem,k0,k1]) rfl ⟨none,0,0,rfl,?_,lG.out⟩
   unfold gm;rw[HF.out];exact⟨rfl,rfl⟩
  | cons x cs =>
   obtain⟨k,p,m,ms2,rfl,rfl,h1,h2,h3,h4,h5,h6⟩:=hc;have hk:k<w.heap.size:=(aI.1 h2).1;have hbr:=Ow.out.trans (HB.out.mono (fg dW));have h2':=(hbr.block k hk).trans h2;have hkr:k<wr.heap.size:=cy hk hbr.size;have e0:wr.cell? ⟨k,0,none⟩=some (.pointer p):=ab h2' 0;have e1:wr.cell? ⟨k,1,none⟩=some (.map (some m)):=ab h2' 1;have hm:dA Tryz.prog 9 wr m x.2.1 x.2.2:=h3.same (hbr.block m h3.lt);have hrun:=hm.look (t:=193) (e:=199) Tryz.underlying9 Tryz.underlying193 (Ov wr) rfl s hs;have HX:=aa h6;have H5:=aa h5;have H2:=aa h2;clear h2 h2' h3 h6 h5 hm hbr;cases hg:x.2.2 s with
   | none =>
    rw[hg] at hrun;replace hrun:_=Result.ok (Value.tuple #[.agg #[.int .i64 0,.int .i64 0],.bool false]) wr:=hrun;go_wp2_with fail
    refine⟨⟨cs,ms2,HX.out,?_,fun y hy=>HLc.out y (bY _ hy),HB.out.alloc HB.out.size _⟩,?_⟩
    ·rw[HF.out,kI,hg]
     rfl
    ·cases p with
     | none=>exact Nat.succ_pos _
     | some a=>exact Nat.succ_lt_succ (H5.out a rfl)
   | some v =>
    obtain⟨a,b,rfl⟩:=HLc.out x (bU ..) s v hg;rw[hg] at hrun;replace hrun:_=Result.ok (Value.tuple #[.agg #[.int .i64 a,.int .i64 b],.bool true]) wr:=hrun;go_wp2_with fail
    go_region
    go_wp2_with fail
    have lG:=aa (((((Ow.out.trans (HB.out.mono (fg dW))).setCell (p:=⟨w.heap.size,0,none⟩) (ah _) (.int .i64 a)).setCell (p:=⟨w.heap.size,1,none⟩) (ah _) (.int .i64 b)).alloc (by simp;omega) (.cells #[.int .i64 a,.int .i64 b] 199)).drew)
    have hq:=(Below.heap_alloc ((wr.setCell ⟨w.heap.size,0,none⟩ (.int .i64 a)).setCell ⟨w.heap.size,1,none⟩ (.int .i64 b)) (.cells #[.int .i64 a,.int .i64 b] 199) w.heap.size (by simp;omega)).trans (bt (bt I9.out 0 (.int .i64 a)) 1 (.int .i64 b))
    have q0:=ab hq 0;have q1:=ab hq 1;replace q0:_=some (Value.int .i64 a):=q0;replace q1:_=some (Value.int .i64 b):=q1;refine bodyPost_ret (v:=.tuple #[.pointer (some ⟨k,0,none⟩),.agg #[.int .i64 a,.int .i64 b]]) (by simp[results,Tryz.results116,go_sem,q0,q1]) rfl ⟨_,a,b,rfl,?_,lG.out⟩
    unfold gm;rw[HF.out,kI,hg];exact⟨k,rfl,hg,ab H2.out 2,hk⟩
theorem Bu {T:List Nd} {B:Nat} {nv:Value} {ub ob:Nat} (b node f:Nat) (h:Nd) (loop:Int) (pa la:Option Addr) (ln lc:Nat) (st:aG) (w:World) (hT:vY w B nv T) (hw:jO w B b nv T.length st ub ob) (hx:T[node]? = some h) (hl:loop=cB f st.frames) :
  Calls Tryz.prog 58 #[.pointer (some ⟨b,0,none⟩),.int .i64 (node:Int),.agg #[.int .i64 (f:Int),.int .i64 loop,.pointer pa,.slice la ln lc]] w (gG B b nv T.length ub ob (dT node f h.line st) w):=by
 obtain⟨fv,FL,hw⟩:=hw;obtain⟨hbl,mH,sV⟩:=hw.mL;have bX:B≤w.heap.size:=aK hw.pos (fg hbl);have jB:node<T.length:=(aL.1 hx).1;have d0:w.cell? ⟨b,0,none⟩=some nv:=ab hw.blk 0;have d2:w.cell? ⟨b,2,none⟩=some (.slice (some ⟨ub,0,none⟩) T.length T.length):=ab hw.blk 2;obtain⟨u0,v0⟩:=cZ hw.uses (j:=node*2) (by omega)
 obtain⟨u1,v1⟩:=cZ hw.uses (j:=node*2+1) (by omega)
 have pN:=hT.few;have HR:Hid (dT node f h.line st=if loop = -1 then .error (8,h.line) else .ok (st.dj node (4,loop))):=aa (by rw[Om,hl])
 have HW:=aa hw;have HT:=aa hT;have HX:=aa hx;clear hw hT hx hl;by_cases hm:loop = -1
 ·subst hm
  have HC:=aa (ab (HW.out.alloc (.cells #[.int .i64 (f:Int),.int .i64 (-1),.pointer pa,.slice la ln lc] 92)).blk 0);have AR:=aa (HT.out.below ((Below.refl B w).alloc bX (.cells #[.int .i64 (f:Int),.int .i64 (-1),.pointer pa,.slice la ln lc] 92)));clear d2 u0 v0 u1 v1;go_enter Tryz.func58,Tryz.ntmps58
  go_wp2_with fail
  refine(ez b node _ _ _ AR.out HC.out HX.out).mono ?_;rintro e w1 ⟨v,rfl,⟨g1,rfl⟩,h1,h2⟩;have H1:=aa h1;have H2:=aa h2;clear h1 h2;go_wp2_with fail
  go_ret
  rw[show dT node f h.line st=.error (8,h.line) from HR.out.trans (by simp)]
  exact iN ((Below.refl B w).alloc bX _) (by simp;omega) H2.out H1.out
 ·have g1:(loop == -1)=false:=aE.2 hm
  have HM:=aa hm;clear hm;go_enter Tryz.func58,Tryz.ntmps58
  go_wp2_with fail
  go_region
  go_wp2_with fail
  go_ret
  rw[show dT node f h.line st=.ok (st.dj node (4,loop)) from HR.out.trans (af HM.out)]
  refine⟨((u9 HW.out node _ _).alloc (by simp;omega) _).drew,rfl,⟨_,_,((HW.out.use node (4,loop)).alloc _).drew⟩,?_⟩
  exact(((mc HW.out node _ _).mono (by decide)).trans (Fr.alloc _)).drew
def gH (k:Int) (n:Nat):Bool×Int×Bool :=
 if k=26∨k=27 then (true,(n:Int)-1,true) else if k=11 then (true,0,true) else if k=28 then (true,0,false) else if k=19 then (true,(n:Int),false) else (false,0,false)
theorem Below.three {W:World} (o o' o2:Obj):Below W.heap.size W (((W.alloc o).alloc o').alloc o2):=(Below.two o o').alloc (by rw[ao,ao];omega) o2
theorem xD {n:Nat} (h:n≤1000000):wrap64 ((n:Int)-1)=(n:Int)-1:=by unfold wrap64;omega
theorem gI (k line op num:Int) (s:ByteArray) (na ka:Option Addr) (nn nc kn kc:Nat) (w:World) (o0:kn≤1000000) :
  Calls Tryz.prog 110 #[.agg #[.int .i64 k,.int .i64 line,.int .i64 op,.int .i64 num,.string s,.slice na nn nc,.slice ka kn kc]] w fun e w'=>e=.returned (.agg #[.bool (gH k kn).1,.int .i64 (gH k kn).2.1,.bool (gH k kn).2.2])∧Below w.heap.size w w':=by
 have hwr:=xD o0;have key:k=26∨k=27∨k=11∨k=28∨k=19∨((k == 26)=false∧(k == 27)=false∧(k == 11)=false∧(k == 28)=false∧(k == 19)=false):=by
  simp only[aE];omega
 rcases key with rfl|rfl|rfl|rfl|rfl | ⟨g1,g2,g3,g4,g5⟩
 ·go_enter Tryz.func110,Tryz.ntmps110
  go_wp2_with fail
  exact bodyPost_ret (v:=.agg #[.bool true,.int .i64 ((kn:Int)-1),.bool true]) (by simp[results,Tryz.results110,go_sem]) rfl ⟨rfl,Below.three _ _ _⟩
 ·go_enter Tryz.func110,Tryz.ntmps110
  go_wp2_with fail
  exact bodyPost_ret (v:=.agg #[.bool true,.int .i64 ((kn:Int)-1),.bool true]) (by simp[results,Tryz.results110,go_sem]) rfl ⟨rfl,Below.three _ _ _⟩
 ·go_enter Tryz.func110,Tryz.ntmps110
  go_wp2_with fail
  exact bodyPost_ret (v:=.agg #[.bool true,.int .i64 0,.bool true]) (by simp[results,Tryz.results110,go_sem]) rfl ⟨rfl,Below.three _ _ _⟩
 ·go_enter Tryz.func110,Tryz.ntmps110
  go_wp2_with fail
  exact bodyPost_ret (v:=.agg #[.bool true,.int .i64 0,.bool false]) (by simp[results,Tryz.results110,go_sem]) rfl ⟨rfl,Below.three _ _ _⟩
 ·go_enter Tryz.func110,Tryz.ntmps110
  go_wp2_with fail
  exact bodyPost_ret (v:=.agg #[.bool true,.int .i64 (kn:Int),.bool false]) (by simp[results,Tryz.results110,go_sem]) rfl ⟨rfl,Below.three _ _ _⟩
 ·have hd:gH k kn=(false,0,false):=by
   simp only[aE] at g1 g2 g3 g4 g5;unfold gH;rw[af (by omega),af g3,af g4,af g5]
  rw[hd];clear hd;go_enter Tryz.func110,Tryz.ntmps110
  go_wp2_with fail
  exact bodyPost_ret (v:=.agg #[.bool false,.int .i64 0,.bool false]) (by simp[results,Tryz.results110,go_sem]) rfl ⟨rfl,Below.three _ _ _⟩
theorem DK {P:Program} (w:World) (t ty:TypeId) (base:Nat) (e:TypeId) (i:TypeInfo) (z:Value) (size bytes:Nat) (ht:P.underlying t=some (.slice e)) (hi:P.info? e=some i) (hz:i.zero=some z)
  (hsize:i.size=size) (hby:i.bytes=bytes) (hsz:0<size) (v:Value) (n:Nat) (xs:List Value) (hown:w.ownsRow base e size v n xs)
  (ad:Addr) (m c:Nat) (news:List Value) (hl:news.length=m*size) (hnews :∀j u,news[j]? = some u→w.cell? (ad.add j)=some u) (h1 :∀u∈news,u.oneCell'=true)
  (hm:0<m) (h63:n+m≤maxLen) (hbytes:(n+m)*bytes≤140737488355328) {v':Value} {w':World} (hr:(Builtin.append_ #[t,t] ty #[v,.slice (some ad) m c]).run P w=.ok v' w')
  (u:Value) (k:Nat) (ys:List Value) (hu:w.ownsRow base e size u k ys) (hk:u.ownBlock=v.ownBlock→k≤n):w'.ownsRow base e size u k ys:=by
 subst hsize hby;have ac8:n+m≤9223372036854775807:=by simp only[maxLen] at h63;omega
 have new :∀o:Obj,(w.drew.alloc o).ownsRow base e i.size u k ys:=fun o=>hu.drew.alloc o
 rcases hown.2 with ⟨rfl,rfl⟩ | ⟨g,cap,cur,rfl,hbg,hg,hnc,hcm,hcs,EA⟩
 ·have h2:=run_append_nil (P:=P) w t ty e i z ht hi hz ad m c news hl hnews (by omega) (by omega) (by have hb:=hbytes;simp only[jX] at hb;omega)
  rw[hr] at h2;injection h2 with _ h2;rw[h2];exact new _
 ·by_cases hroom:n+m≤cap
  ·have ac9:n*i.size+news.length≤cur.size:=by rw[hl,hcs,←Eo];exact Ea _ hroom
   have h2:=run_append_room (P:=P) w t ty e i ht hi g n cap cur hg ad m c news hl hnews h1 hroom ac9;rw[hr] at h2;injection h2 with _ h2;rw[h2];refine⟨hu.1,?_⟩;rcases hu.2 with hn | ⟨g',cap',cur',rfl,hB',vI,Es,hc',hs',Vs⟩
   ·exact .inl hn
   ·by_cases eg:g'=g
    ·subst eg
     rw[hg] at vI;injection vI with vI;injection vI with vI _ _;subst vI;have o0:k≤n:=hk rfl;refine .inr ⟨g',cap',_,rfl,hB',setRow_heap w g' cur _ e _ hg,Es,hc',?_,?_⟩
     ·rw[←hs']
      simp only[Ee,bV,oL,kH,Array.length_toList];omega
     ·rw[←Vs]
      have h3:k*i.size≤n*i.size:=Ea _ o0;have h4:(cur.toList.take (n*i.size)).length=n*i.size:=by rw[oL,Array.length_toList];omega
      show((cur.toList.take (n*i.size)++news++_).take (k*i.size))=_
      rw[fe,UD (by omega),List.take_take,Eg h3]
    ·exact .inr ⟨g',cap',cur',rfl,hB',(setRow_other w g g' _ eg).trans vI,Es,hc',hs',Vs⟩
  ·have holds :∀j u,xs[j]? = some u→w.cell? ((⟨g,0,none⟩:Addr).add j)=some u:=hown.cells (g:=g) rfl
   have h2:=run_append_grow (P:=P) w t ty e i z ht hi hz ⟨g,0,none⟩ n cap xs hown.1 holds ad m c news hl hnews (by omega) (by omega) (growslice_fits (by omega) hbytes)
   rw[hr] at h2;injection h2 with _ h2;rw[h2];exact new _
def vK (W:World) (g:Nat) (ty:TypeId):Prop:=∃cs fz,W.heap[g]? = some (.cells cs ty fz)
theorem vK.set {W:World} {g:Nat} {ty:TypeId} (h:vK W g ty) (g' j:Nat) (v:Value):vK (W.setCell ⟨g',j,none⟩ v) g ty:=by
 obtain⟨cs,fz,h⟩:=h;by_cases e:g=g'
 ·subst e
  refine⟨cs.setIfInBounds j v,fz,?_⟩;simp[World.setCell,Array.getElem?_modify,h]
 ·exact⟨cs,fz,(Below.heap_setCell W ⟨g',j,none⟩ v g e).trans h⟩
theorem vK.fr {W:World} {g:Nat} {ty:TypeId} {E:List Nat} (h:vK W g ty) (he:ty∈E) (j:Nat) (v:Value):Fr E W (W.setCell ⟨g,j,none⟩ v):=by
 obtain⟨cs,fz,h⟩:=h;exact Fr.set h he j v
theorem Ox {ops:Array Oper} {rest:List Oper} {o:Oper} {a:Act} {Q:Exit→Act→World→Prop} (w:World) (l:cE) (hgd:o.guard=none) (sl y:Operand)
  (ho:o.op=.call { callee:=.builtin .append,args:=#[sl,y],argTypes:=#[90,90]}) (B:Nat) (v:Value) (L:List cE) (hs:a.eval sl=v) (hown:w.ownsRow B 238 2 v L.length (L.reverse.flatMap Fz)) (g:Nat) (hg:g=w.heap.size) (hy:a.eval y=.slice (some ⟨g,0,none⟩) 1 1)
  (hlen:L.length≤1000000) (hB:B≤w.heap.size)
  (h :∀g' c' w',w'.ownsRow B 238 2 (.slice (some ⟨g',0,none⟩) (L.length+1) c') (l::L).length ((l::L).reverse.flatMap Fz)→qT v.ownBlock w w'→Below B w w'→(v.ownBlock=some g'∨w.heap.size≤g')→(∀u m xs,w.ownsRow B 238 2 u m xs→(u.ownBlock=v.ownBlock→m≤L.length)→w'.ownsRow B 238 2 u m xs)→wpList Tryz.prog ops Q rest (a.put o.dst (.slice (some ⟨g',0,none⟩) (L.length+1) c')) w') :
  wpList Tryz.prog ops Q (o::rest) a (w.alloc (.cells (Fz l).toArray 238)):=by
 subst hg;obtain⟨i0,ng,hz0,hz1,hz2⟩:=info_parts DJ;have hcell:=heap_alloc_new w (.cells (Fz l).toArray 238);have hpl :∀j:Nat,(⟨w.heap.size,0,none⟩:Addr).add j=⟨w.heap.size,j,none⟩:=fun j=>by unfold Addr.add;split<;>simp_all
 have C8:(w.alloc (.cells (Fz l).toArray 238)).heap.size=w.heap.size+1:=ao _ _;have hnews :∀j u,(Fz l)[j]? = some u→(w.alloc (.cells (Fz l).toArray 238)).cell? ((⟨w.heap.size,0,none⟩:Addr).add j)=some u:=fun j u hj=>by
  rw[hpl,cell_of_row _ _ j _ 238 (0,0) hcell];simpa using hj
 have h1c :∀u∈Fz l,u.oneCell'=true:=by
  intro u hu;simp[Fz] at hu;rcases hu with rfl|rfl<;>rfl
 have hmx:L.length+1≤maxLen:=by unfold maxLen;omega
 have hby:(L.length+1)*16≤140737488355328:=by omega
 refine wpList_plain hgd fun K hK=>?_
 obtain⟨g',c',w',hr,r1,r2,r3,_⟩:=run_append_lies (P:=Tryz.prog) _ 90 o.type B 238 i0 _ 2 16 Tryz.underlying90 ng hz0 hz1 hz2 rfl (by omega) v L.length _ (hown.alloc _) ⟨w.heap.size,0,none⟩ 1 1 (Fz l) rfl hnews h1c (by omega) hmx hby (by omega) (w.heap.size+1) C8
 have hold:=DK (P:=Tryz.prog) _ 90 o.type B 238 i0 _ 2 16 Tryz.underlying90 ng hz0 hz1 hz2 (by omega) v L.length _ (hown.alloc _) ⟨w.heap.size,0,none⟩ 1 1 (Fz l) rfl hnews h1c (by omega) hmx hby hr
 unfold Oper.wp execOp;simp only[ho,resolve,invoke,builtin,Sem.run_bind,Sem.run_pure,Result.andThen_ok,Kq,fX,List.map_nil,hs,hy,hr];have yq:=r2.size;refine hK _ _ (h g' c' w' ?_ ⟨by omega,fun k hk hn=>(r2.block k (by omega) fun e=>hn e.symm).trans (Below.heap_alloc w _ k hk)⟩ ⟨r2.os,r2.tape,r2.output,by omega,fun k hk=>?_⟩ (r3.imp id fun e=>by omega) fun u m xs hu hm=>hold u m xs (hu.alloc _) hm)
 ·rw[List.length_cons,Ed,pQ,D9]
  exact r1
 ·refine(r2.block k (by omega) fun e=>?_).trans (Below.heap_alloc w _ k (by omega))
  have:=(hown.lt k e.symm).1;omega
def DL (bz:List sG) (u:sG):Int:=match bz.findIdx? (fun y=>decide (y=u)) with|some i=>(i:Int)|none=>-1
theorem Tz {bz:List sG} {u:sG} {k:Nat} (h :∀y∈bz.take k,y≠u) (hk:bz[k]? = some u):bz.findIdx? (fun y=>decide (y=u))=some k:=by
 obtain⟨hlt,he⟩:=aL.1 hk;refine zz.2 ⟨hlt,by rw[he];simp,fun j hj=>?_⟩
 have:bz[j]∈bz.take k:=by
  have h1:(bz.take k)[j]? = some bz[j]:=by rw[List.getElem?_take_of_lt hj];exact bE (by omega)
  exact ba h1
 simpa using h _ this
theorem Yz {bz:List sG} {u:sG} (h :∀y∈bz,y≠u):bz.findIdx? (fun y=>decide (y=u))=none:=by
 rw[List.findIdx?_eq_none_iff];intro y hy;simpa using h y hy
theorem Bv {bz:List sG} {u y:sG} {k:Nat} (h :∀z∈bz.take k,z≠u) (hk:bz[k]? = some y) (hy:y≠u) :∀z∈bz.take (k+1),z≠u:=by
 rw[lI _ _ _ hk];intro z hz;rcases dd.1 hz with hz|hz
 ·exact h z hz
 ·rw[bP.1 hz];exact hy
theorem Ja {B:Nat} (v:Value) (bz:List sG) (u:sG) (w:World) (hr:w.ownsRow B 59 2 v bz.length (bz.flatMap Fw)) (hl:bz.length≤1000) :
  Calls Tryz.prog 212 #[v,.agg #[.bool u.loc,.int .i64 (u.idx:Int)]] w fun e w'=>e=.returned (.int .i64 (DL bz u))∧Below w.heap.size w w':=by
 obtain⟨A,c,rfl,hc,iY⟩:=dE hr;have HC:=aa iY;clear iY hr;have Ow:=aa ((Below.refl w.heap.size w).alloc (ah _) (.cells #[.bool u.loc,.int .i64 (u.idx:Int)] 59));have z0:=dx w #[.bool u.loc,.int .i64 (u.idx:Int)] 59 0;have z1:=dx w #[.bool u.loc,.int .i64 (u.idx:Int)] 59 1;replace z0:_=some (Value.bool u.loc):=z0;replace z1:_=some (Value.int .i64 (u.idx:Int)):=z1;have dW:w.heap.size<(w.alloc (.cells #[.bool u.loc,.int .i64 (u.idx:Int)] 59)).heap.size:=by rw[ao];omega
 go_enter Tryz.func212,Tryz.ntmps212
 go_wp2_with fail
 generalize w.alloc (.cells #[.bool u.loc,.int .i64 (u.idx:Int)] 59)=W0 at *;go_loopw [8] (fun t wr=>∃k:Nat,t=.int .i64 (k:Int)∧k≤bz.length∧(∀y∈bz.take k,y≠u)∧Below W0.heap.size W0 wr) (fun t _=>bz.length-(intOf t).toNat)
 case atStart=>exact⟨0,rfl,aR _,fun y hy=>by simp at hy,Below.refl _ _⟩
 case round =>
  obtain⟨k,rfl,hk,hno,hb⟩:=hrel;have k0:=(hb.cell (p:=⟨w.heap.size,0,none⟩) dW).trans z0;have k1:=(hb.cell (p:=⟨w.heap.size,1,none⟩) dW).trans z1;have YA:=aa hno;have HB:=aa hb;clear hno hb;by_cases hlt:k<bz.length
  ·obtain⟨y,hy⟩ :∃y,bz[k]? = some y:=⟨bz[k],bE hlt⟩
   rcases HC.out with h0 | ⟨g,rfl,Yy,ri,sX⟩
   ·omega
   have wY:=Ow.out.trans (HB.out.mono (fg dW));have e0:wr.cell? ⟨g,k*2,none⟩=some (.bool y.loc):=(wY.cell (p:=⟨g,k*2,none⟩) ri).trans ((sX (k*2) (by omega)).trans (e7 tB bz k 0 y hy (by omega)))
   have e1:wr.cell? ⟨g,k*2+1,none⟩=some (.int .i64 (y.idx:Int)):=(wY.cell (p:=⟨g,k*2+1,none⟩) ri).trans ((sX (k*2+1) (by omega)).trans (e7 tB bz k 1 y hy (by omega)))
   have HY:=aa hy;clear sX hy wY;by_cases hloc:u.loc=y.loc
   ·by_cases TB:u.idx=y.idx
    ·obtain rfl:y=u:=by cases u;cases y;simp_all
     go_wp2_with fail
     go_region
     go_wp2_with fail
     go_ret
     refine⟨?_,(Ow.out.trans (HB.out.mono (fg dW))).drew⟩;unfold DL;rw[Tz YA.out HY.out];rfl
    ·have g2:((u.idx:Int) == (y.idx:Int))=false:=aE.2 (by omega)
     have hne:Hid (y≠u):=aa fun e=>TB (by rw[e])
     rw[hloc] at *;clear TB;go_wp2_with fail
     go_region
     go_wp2_with fail
     exact⟨⟨k+1,by go_num,hlt,Bv YA.out HY.out hne.out,HB.out.drew⟩,by simp[intOf];omega⟩
   ·have g1:(u.loc == y.loc)=false:=aE.2 hloc
    have hne:Hid (y≠u):=aa fun e=>hloc (by rw[e])
    clear hloc;go_wp2_with fail
    go_region
    go_wp2_with fail
    exact⟨⟨k+1,by go_num,hlt,Bv YA.out HY.out hne.out,HB.out.drew⟩,by simp[intOf];omega⟩
  ·have zr:k=bz.length:=by omega
   go_wp2_with fail
   go_ret
   refine⟨?_,Ow.out.trans (HB.out.mono (fg dW))⟩;unfold DL;rw[Yz (fun y hy=>YA.out y (by rw[zr,zJ];exact hy))]
   rfl
def TC (B b:Nat) (nv:Value) (N ub ob:Nat) (st:aG) (r:Option (List cI×Nat)) (w:World) (e:Ending) (w':World):Prop :=
 Below B w w'∧Fr [52,61,59] w w'∧match r with
 | some (F,k)=>e=.returned (.tuple #[.int .i64 (k:Int),.nilIface])∧jO w' B b nv N { st with fns:=F} ub ob
 | none=>e=.returned (.tuple #[.int .i64 0,.iface 79 (.int .i64 12)])
theorem DM {F:List cI} {f k:Nat} {x:cI} {u:sG} (hx:F[f]? = some x) (h:x.bz.findIdx? (fun y=>decide (y=u))=some k):gD F f u=some (F,k):=by
 unfold gD;simp only[gE hx,h]
theorem DN {F:List cI} {f:Nat} {x:cI} {u:sG} (hx:F[f]? = some x) (h:x.bz.findIdx? (fun y=>decide (y=u))=none):gD F f u=if 60≤x.bz.length then none else some (F.set f { x with bz:=x.bz++[u]},x.bz.length):=by
 unfold gD;simp only[gE hx,h]
theorem oo {W W':World} {B e s n:Nat} {v:Value} {xs:List Value} (h:W.ownsRow B e s v n xs) (hb:Below W.heap.size W W'):W'.ownsRow B e s v n xs:=qT.row (o:=none) ⟨hb.size,fun k hk _=>hb.block k hk⟩ h fun _ _ e=>by cases e
theorem Oy {ops:Array Oper} {o:Oper} {a:Act} {K:Act→World→Prop} {Q:Exit→Act→World→Prop} {E:Prop} (w0 w1:World) (n:sG) (hgd:o.guard=none) (sl y:Operand)
  (ho:o.op=.call { callee:=.builtin .append,args:=#[sl,y],argTypes:=#[50,50]}) (B:Nat) (v:Value) (ns:List sG) (hs:a.eval sl=v) (hown:w0.ownsRow B 59 2 v ns.length (ns.flatMap Fw)) (dW :∀(i:Nat),i<w0.heap.size→w1.heap[i]? = w0.heap[i]?) (g:Nat) (hg:g=w0.heap.size) (hy:a.eval y=.slice (some ⟨g,0,none⟩) 1 1)
  (hcell:w1.heap[g]? = some (.cells (Fw n).toArray 59 (0,0))) (hlen:ns.length≤1000000) (hB:B≤w0.heap.size) (hle:w0.heap.size≤w1.heap.size) (Yv:w1.os=w0.os∧w1.tape=w0.tape∧w1.output=w0.output)
  (h :∀g' c' w',w'.ownsRow B 59 2 (.slice (some ⟨g',0,none⟩) (ns.length+1) c') (ns++[n]).length ((ns++[n]).flatMap Fw)→qT v.ownBlock w0 w'→Below B w0 w'→(v.ownBlock=some g'∨w0.heap.size≤g')→K (a.put o.dst (.slice (some ⟨g',0,none⟩) (ns.length+1) c')) w') :
  if Region.wanted o (yielded ops a.tmps)=true then Oper.wp Tryz.prog o a w1 K Q else E:=by
 obtain⟨i0,ng,hz0,hz1,hz2⟩:=info_parts Oe;refine Bk w0 w1 (Fw n) hgd sl y 50 59 i0 _ 2 16 ho Tryz.underlying50 ng hz0 hz1 hz2 rfl (by omega) (by omega) B v ns.length _ hs hown dW g hg hy hcell rfl (by intro u hu;simp[Fw] at hu;rcases hu with rfl|rfl<;>rfl) hlen hB hle Yv ?_
 intro g' c' w' r1 r2 r3 r4;refine h g' c' w' ?_ r2 r3 r4;rw[bV,mM,pQ,D9];exact r1
theorem Bw {B:Nat} {nv:Value} {N ub ob:Nat} (b f:Nat) (u:sG) (st:aG) (w:World) (hw:jO w B b nv N st ub ob) (hf:f<st.fns.length) (oH:dK st.fns) :
  Calls Tryz.prog 189 #[.pointer (some ⟨b,0,none⟩),.int .i64 (f:Int),.agg #[.bool u.loc,.int .i64 (u.idx:Int)]] w (TC B b nv N ub ob st (gD st.fns f u) w):=by
 obtain⟨fv,FL,hw⟩:=hw;obtain⟨⟨t1,tv,tu⟩,ht⟩:=hw.Bo hf;obtain⟨g,c,rfl,Yy,ri,sX⟩:=hw.fns.form ht;obtain⟨Ct,hfn⟩:=hw.sJ ht;simp only at Ct hfn;obtain⟨UA,uc,huu,J1,_⟩:=dE (hw.fns.bz _ (ba ht));simp only at huu J1;subst huu;obtain⟨hbl,mH,sV⟩:=hw.mL;have bX:B≤w.heap.size:=aK hw.pos (fg hbl);have xd:=hw.len;have hfL:f<FL.length:=by omega
 have d1:w.cell? ⟨b,1,none⟩=some (.slice (some ⟨g,0,none⟩) FL.length c):=ab hw.blk 1;have e5:w.cell? ⟨g,f*6+5,none⟩=some (.slice UA t1.bz.length uc):=(sX 5 (by omega)).1
 have hup:t1.bz.length≤60:=(oH f t1 Ct).2;have YB:=aa (hw.fns.bz _ (ba ht));simp only at YB;have HW:=aa hw;have HT:=aa ht;have Vt:=aa Ct;clear hw ht Ct hfn sX xd oH;go_enter Tryz.func189,Tryz.ntmps189
 go_wp2_with fail
 have dM:=aa ((Below.refl w.heap.size w).alloc (ah _) (.cells #[.bool u.loc,.int .i64 (u.idx:Int)] 59));have x0:=dx w #[.bool u.loc,.int .i64 (u.idx:Int)] 59 0;have x1:=dx w #[.bool u.loc,.int .i64 (u.idx:Int)] 59 1;replace x0:_=some (Value.bool u.loc):=x0;replace x1:_=some (Value.int .i64 (u.idx:Int)):=x1;have e5':=(dM.out.cell (p:=⟨g,f*6+5,none⟩) ri).trans e5;have je:=aa (HW.out.alloc (.cells #[.bool u.loc,.int .i64 (u.idx:Int)] 59));have Oz:=aa (oo YB.out dM.out);have hs1:w.heap.size<(w.alloc (.cells #[.bool u.loc,.int .i64 (u.idx:Int)] 59)).heap.size:=by rw[ao];omega
 generalize w.alloc (.cells #[.bool u.loc,.int .i64 (u.idx:Int)] 59)=W1 at *;clear HW YB d1 e5;have y0:=cell_regrown x0;have y1:=cell_regrown x1;have y5:=cell_regrown e5';refine wp_region_quiet_below (by kernel_rfl) (by kernel_rfl) ?_
 repeat (first|go_big_quiet_step (first
   | (go_at_call 212;exact Calls.regrown_of (Ja _ t1.bz u _ (oo Oz.out (below_regrown _ _ _)) (by omega)))))
 refine wpQuiet_nil ?_;intro _ hw';obtain⟨⟨dq,osq⟩,hw''⟩:=hw';subst hw'';have o7:=aa (dM.out.trans ((below_regrown W1 dq osq).mono (fg hs1)));have lH:=aa (je.out.later (below_regrown W1 dq osq));have aba:=aa (oo Oz.out (below_regrown W1 dq osq));have hs2:w.heap.size<(«Sort».grow (redrawn W1 dq) osq).heap.size:=cy hs1 (below_regrown W1 dq osq).size;have x02:=((below_regrown W1 dq osq).cell (p:=⟨w.heap.size,0,none⟩) hs1).trans x0;have x12:=((below_regrown W1 dq osq).cell (p:=⟨w.heap.size,1,none⟩) hs1).trans x1;have e52:=((below_regrown W1 dq osq).cell (p:=⟨g,f*6+5,none⟩) (Nat.lt_trans ri hs1)).trans e5';dsimp only
 generalize «Sort».grow (redrawn W1 dq) osq=W2 at *;clear y0 y1 y5 x0 x1 e5' je Oz dM;cases hi:t1.bz.findIdx? (fun y=>decide (y=u)) with
 | some k =>
  have hv:DL t1.bz u=(k:Int):=by unfold DL;rw[hi]
  have HE:=aa (DM Vt.out hi);rw[hv];have g1:decide ((0:Int)≤(k:Int))=true:=bM (by omega)
  clear hv hi;go_wp2_with fail
  go_ret2
  refine⟨o7.out.mono bX,Fr.ae o7.out,?_⟩;rw[HE.out];exact⟨rfl,_,_,lH.out⟩
 | none =>
  have hv:DL t1.bz u = -1:=by unfold DL;rw[hi]
  have HE:=aa (DN Vt.out hi);rw[hv];clear hv hi;by_cases h60:60≤t1.bz.length
  ·have Qx:=aa (HE.out.trans (ak h60))
   have g1:((t1.bz.length:Int) == 60)=true:=tN.2 (by omega)
   go_wp2_with fail
   go_ret2
   refine⟨o7.out.mono bX,Fr.ae o7.out,?_⟩;rw[Qx.out];rfl
  ·have Qx:=aa (HE.out.trans (af h60))
   have g1:((t1.bz.length:Int) == 60)=false:=aE.2 (by omega)
   have hB2:B≤W2.heap.size:=aK bX o7.out.size;have aaC:t1.bz.length≤1000000:=by omega
   have hg2:g<W2.heap.size:=Nat.lt_trans ri hs2;obtain⟨g',c',pH,_,_,Ax⟩:=lH.out.fns.form HT.out;injection pH with pH _ hcc;injection pH with pH;injection pH with pH _ _;subst pH hcc;have z52:=(Ax 5 (by omega)).2
   have HZ:Hid ((W2.alloc (.cells #[.bool u.loc,.int .i64 (u.idx:Int)] 59)).drew.heap[W2.heap.size]? = some (.cells #[.bool u.loc,.int .i64 (u.idx:Int)] 59 (0,0))):=aa (heap_alloc_new W2 _);clear Ax;go_wp2_with fail
   go_region_law ((refine Oy W2 _ u (by rfl) _ _ (by rfl) B (.slice UA t1.bz.length uc) t1.bz (by rfl) aba.out (fun i hi=>Below.heap_alloc W2 _ i hi) W2.heap.size rfl (by rfl) HZ.out aaC hB2 (by simp[World.drew]) ⟨rfl,rfl,rfl⟩ ?_;intro g8 c8 w8 r8 b8 Vu n8;have vl:=b8.row lH.out.fns.row (fun k hk e=>ed lH.out.fns.row (lH.out.fns.bz _ (ba HT.out)) (by decide) k hk e);have e58:w8.cell? ⟨g,f*6+5,none⟩=some (.slice UA t1.bz.length uc):=(World.ownsRow.cellAt vl (f*6+5) (by omega)).trans (e7 qy FL f 5 _ HT.out (by omega));have z58:=World.ownsRow.frozenAt vl (f*6+5);have R8:=aa r8;have B8:=aa b8;have Qy:=aa Vu;have N8:=aa n8;clear r8 b8 Vu n8 vl))
   all_goals
    have h9:=lH.out.Tw HT.out B8.out R8.out (fun k hk=>by injection hk with hk;subst hk;exact N8.out)
    have YC:=aa h9.2;have HW9:=aa h9.1;have HB9:=aa (((o7.out.mono bX).trans Qy.out).setCell (p:=⟨g,f*6+5,none⟩) Yy (.slice (some ⟨g8,0,none⟩) (t1.bz.length+1) c8));have k9:=World.cell?_setCell_same' w8 ⟨g,f*6+5,none⟩ (.slice (some ⟨g8,0,none⟩) (t1.bz.length+1) c8) (by rw[e58];rfl)
    clear h9;generalize w8.setCell ⟨g,f*6+5,none⟩ (.slice (some ⟨g8,0,none⟩) (t1.bz.length+1) c8)=W9 at *;clear e58 z58 R8 B8 Qy N8;go_wp2_with fail
    go_ret2
    refine⟨HB9.out,(Fr.ae o7.out).trans YC.out,?_⟩;rw[Qx.out];exact⟨rfl,_,_,HW9.out⟩
theorem Fr.past {E:List Nat} {W W2 X:World} (h:Fr E W W2) (hk :∀k,k<W.heap.size→X.heap[k]? = W2.heap[k]?) (hs:W2.heap.size≤X.heap.size):Fr E W X :=
 ⟨aK h.size hs,fun k c e fz hc he=>(hk k (aI.1 hc).1).trans (h.cells k c e fz hc he),fun k o hc ho=>(hk k (aI.1 hc).1).trans (h.others k o hc ho)⟩
theorem eQ.fN {W:World} {B b:Nat} {nv:Value} {N:Nat} {st:aG} {fv:Value} {ub ob:Nat} {L:List mF} (h:eQ W B b nv N st fv ub ob L) {r:Nat} (hr:vK W r 57) (hne:r≠ub) (j:Nat) (v:Value):eQ (W.setCell ⟨r,j,none⟩ v) B b nv N st fv ub ob L:=by
 have k:Fr [57] W (W.setCell ⟨r,j,none⟩ v):=hr.fr (by decide) j v
 exact⟨k.cells b _ _ _ h.blk (by decide),⟨k.row h.fns.row (by decide),fun t ht=>k.row (h.fns.vars t ht) (by decide),fun t ht=>k.row (h.fns.bz t ht) (by decide),h.fns.pG,h.fns.qA⟩,h.are,(qT.set W r j v).row h.uses (fun g hg e=>hne (by injection hg with hg;injection e with e;exact e.trans hg.symm)),k.row h.vZ (by decide),h.pos⟩
theorem jO.fN {W:World} {B b:Nat} {nv:Value} {N:Nat} {st:aG} {ub ob:Nat} (h:jO W B b nv N st ub ob) {r:Nat} (hr:vK W r 57) (hne:r≠ub) (j:Nat) (v:Value):jO (W.setCell ⟨r,j,none⟩ v) B b nv N st ub ob:=by
 obtain⟨fv,L,h⟩:=h;exact⟨fv,L,h.fN hr hne j v⟩
theorem jO.alloc {W:World} {B b:Nat} {nv:Value} {N:Nat} {st:aG} {ub ob:Nat} (h:jO W B b nv N st ub ob) (o:Obj):jO (W.alloc o) B b nv N st ub ob:=by
 obtain⟨fv,L,h⟩:=h;exact⟨fv,L,h.alloc o⟩
theorem yW {W:World} {r:Nat} {x y:Value} {ty:TypeId} (h:W.heap[r]? = some (.cells #[x,y] ty (0,0))) (a c:Value):((W.setCell ⟨r,0,none⟩ a).setCell ⟨r,1,none⟩ c).heap[r]? = some (.cells #[a,c] ty (0,0)):=by
 simpa using bt (bt h 0 a) 1 c
theorem qD (W:World) (r:Nat) (a c:Value) (k:Nat) (hk:k≠r):((W.setCell ⟨r,0,none⟩ a).setCell ⟨r,1,none⟩ c).heap[k]? = W.heap[k]?:=by
 rw[Below.heap_setCell _ _ _ k hk,Below.heap_setCell _ _ _ k hk]
theorem nP (W:World) (r:Nat) (a c:Value):((W.setCell ⟨r,0,none⟩ a).setCell ⟨r,1,none⟩ c).heap.size=W.heap.size:=by simp[World.setCell]
def fT (n:jr) (F:List cI):List cI:=F.set n.fn (cP (F.getD n.fn ⟨0,0,0,false,[],[]⟩) n.i)
theorem By (x:cI) (i:Nat):cP (cP x i) i=cP x i:=by
 cases h:x.vars[i]? with
 | none =>
  have e:cP x i=x:=by unfold cP;rw[h]
  rw[e,e]
 | some v =>
  have hl:=(aL.1 h).1;have e:cP x i={ x with vars:=x.vars.set i { v with cap:=true}}:=by unfold cP;rw[h]
  rw[e];unfold cP;dsimp only
  rw[dQ hl];dsimp only
  rw[List.set_set]
theorem DO (n:jr) (F:List cI):fT n (fT n F)=fT n F:=by
 by_cases h:n.fn<F.length
 ·unfold fT
  have e:(F.set n.fn (cP (F.getD n.fn ⟨0,0,0,false,[],[]⟩) n.i)).getD n.fn ⟨0,0,0,false,[],[]⟩=cP (F.getD n.fn ⟨0,0,0,false,[],[]⟩) n.i:=by
   rw[jU,dQ h];rfl
  rw[e,By,List.set_set]
 ·have e:fT n F=F:=by unfold fT;rw[D7 (by omega)]
  rw[e,e]
theorem Bz {n:jr} {F:List cI} {y:cI} (h:F[n.fn]? = some y):uQ F (fT n F):=by
 unfold fT;rw[gE h];exact .set h (qt y n.i)
theorem yX {n:jr} {F:List cI} {y:cI} (hF:Cr F) (h:F[n.fn]? = some y):Cr (fT n F):=by
 unfold fT;rw[gE h];exact hF.set h (qt y n.i)
theorem vm {n:jr} {F:List cI} (hF:dK F):dK (fT n F):=by
 unfold fT;exact hF.set ⟨by rw[(rJ _ _).1];exact(hF.getD n.fn).1,by rw[(rJ _ _).2];exact(hF.getD n.fn).2⟩
theorem nQ (n:jr) (F:List cI):(fT n F).length=F.length:=by unfold fT;simp
theorem TD {F:List cI} {f:Nat} {x:cI} (h:F[f]? = some x) {n:jr} (he:f≠n.fn):(fT n F)[f]? = some x:=by
 unfold fT;rw[fC (fun e=>he e.symm)]
 exact h
def fm (n:jr) (g f:Nat) (F:List cI):Option (List cI×Int×Nat) :=
 if f=n.fn then some (F,2,n.i) else (lX n g (fT n F) f).map fun r=>(r.1,3,r.2)
theorem Jb {n:jr} {g f p:Nat} {F:List cI} {x:cI} (hx:F[f]? = some x) (hp:x.parent=(p:Int)) (he:f≠n.fn):lX n (g+1) (fT n F) f=(fm n g p (fT n F)).bind fun r=>gD r.1 f ⟨decide (r.2.1=2),r.2.2⟩:=by
 rw[lX];simp only[gE (TD hx he),hp];unfold fm;by_cases h:p=n.fn
 ·subst h
  rw[ak rfl,ak rfl];rfl
 ·rw[af (by omega),af h,DO,iF]
  cases lX n g (fT n F) p with
  | none=>rfl
  | some r=>rfl
theorem OA {n:jr} {g f:Nat} {F F':List cI} {kd:Int} {i:Nat} (h:fm n g f F=some (F',kd,i)) (hF:Cr F) (oH:dK F) (ha:NG F n.fn f) (hf:f<F.length) (hv :∃y v,F[n.fn]? = some y∧y.vars[n.i]? = some v∧v.name=n.s):uQ F F'∧Cr F'∧dK F'∧F'.length=F.length:=by
 unfold fm at h;by_cases he:f=n.fn
 ·rw[ak he] at h
  injection h with h;injection h with h _;subst h;exact⟨.refl _,hF,oH,rfl⟩
 ·rw[af he] at h
  cases hu:lX n g (fT n F) f with
  | none=>rw[hu] at h;cases h
  | some r =>
   obtain⟨F1,k⟩:=r;rw[hu] at h;injection h with h;injection h with h _;have h:F1=F':=h;subst h;obtain⟨y,v,h1,h2,h3⟩:=hv;have hyl:=(aL.1 h1).1;have hG:=Bz h1;have hc:(fT n F)[n.fn]? = some (cP y n.i):=by
    unfold fT;rw[gE h1,dQ hyl]
   obtain⟨a1,a2,a3,_⟩:=Fk g hu (yX hF h1) (ha.ext hG) (fun e=>he e.symm) (by rw[nQ];exact hf) ⟨cP y n.i,{ v with cap:=true},hc,by
    unfold cP;rw[h2];exact dQ (aL.1 h2).1,h3,rfl⟩
   obtain⟨b1,b2⟩:=Bh g hu (vm oH);exact⟨hG.trans a1,a2,b1,by rw[a3,nQ]⟩
def OC (B b:Nat) (nv:Value) (N ub ob:Nat) (st:aG) (r:Option (List cI×Int×Nat)) (w:World) (e:Ending) (w':World):Prop :=
 Below B w w'∧Fr [52,61,59] w w'∧match r with
 | some (F,k,i)=>e=.returned (.tuple #[.agg #[.int .i64 k,.int .i64 (i:Int)],.nilIface])∧jO w' B b nv N { st with fns:=F} ub ob
 | none=>e=.returned (.tuple #[.agg #[.int .i64 0,.int .i64 0],.iface 79 (.int .i64 12)])
theorem OD {B:Nat} {nv:Value} {N ub ob:Nat} (b:Nat) (n:jr) :∀(g f:Nat) (st:aG) (w:World),f<g→jO w B b nv N st ub ob→Cr st.fns→dK st.fns→NG st.fns n.fn f→(∃y v,st.fns[n.fn]? = some y∧y.vars[n.i]? = some v∧v.name=n.s)→f<st.fns.length→st.fns.length≤100000 →
  Calls Tryz.prog 161 #[.pointer (some ⟨b,0,none⟩),.int .i64 (f:Int),.int .i64 (n.fn:Int),.int .i64 (n.i:Int)] w (OC B b nv N ub ob st (fm n g f st.fns) w):=by
 intro g;induction g with
 | zero=>intro f st w hfg;exact absurd hfg (jx _)
 | succ g ih =>
  intro f st w hfg hw CI oH DP hv hf Ot;by_cases he:f=n.fn
  ·have HE:Hid (fm n (g+1) f st.fns=some (st.fns,2,n.i)):=aa (by unfold fm;rw[ak he])
   have g1:((f:Int) == (n.fn:Int))=true:=tN.2 (by omega)
   obtain⟨fv,FL,hw⟩:=hw;obtain⟨hbl,mH,sV⟩:=hw.mL;have bX:B≤w.heap.size:=aK hw.pos (fg hbl);have HW:=aa hw;clear hw DP hv ih he hfg;go_enter Tryz.func161,Tryz.ntmps161
   go_wp2_with fail
   have k0:=dx w #[.int .i64 2,.int .i64 (n.i:Int)] 57 0;have k1:=dx w #[.int .i64 2,.int .i64 (n.i:Int)] 57 1;replace k0:_=some (Value.int .i64 2):=k0;replace k1:_=some (Value.int .i64 (n.i:Int)):=k1;refine bodyPost_ret (v:=.tuple #[.agg #[.int .i64 2,.int .i64 (n.i:Int)],.nilIface]) (by simp[results,Tryz.results161,go_sem,k0,k1]) rfl ?_
   refine⟨(Below.refl B w).alloc bX _,Fr.alloc _,?_⟩;rw[HE.out];exact⟨rfl,_,_,HW.out.alloc _⟩
  ·have g1:((f:Int) == (n.fn:Int))=false:=aE.2 (by omega)
   obtain⟨fv,FL,hw⟩:=hw;obtain⟨hbl,mH,sV⟩:=hw.mL;have bX:B≤w.heap.size:=aK hw.pos (fg hbl);have xd:=hw.len;obtain⟨y,v,hy,hyv,Ti⟩:=hv;have ada:=(aL.1 hy).1;obtain⟨⟨t1,tv,tu⟩,ht⟩:=hw.Bo hf;obtain⟨⟨y1,yv,yu⟩,Hb⟩:=hw.Bo ada;obtain⟨Ct,_⟩:=hw.sJ ht;obtain⟨Z0,_⟩:=hw.sJ Hb;simp only at Ct Z0;obtain rfl:y1=y:=by rw[hy] at Z0;injection Z0 with Z0;exact Z0.symm
   obtain⟨gf,c,rfl,Yy,ri,sX⟩:=hw.fns.form ht;obtain⟨g',c',pH,_,_,Ax⟩:=hw.fns.form Hb;injection pH with pH _ hcc;injection pH with pH;injection pH with pH _ _;subst pH hcc;have hvl:=(aL.1 hyv).1;obtain⟨VA,vc,Vv,YD,hvr⟩:=dE (hw.fns.vars _ (ba Hb));simp only at Vv YD hvr;subst Vv;rcases hvr with h0 | ⟨gv,rfl,adb,hgvl,abb⟩
   ·omega
   have d1:w.cell? ⟨b,1,none⟩=some (.slice (some ⟨gf,0,none⟩) FL.length c):=ab hw.blk 1;have e4:w.cell? ⟨gf,n.fn*6+4,none⟩=some (.slice (some ⟨gv,0,none⟩) y1.vars.length vc):=(Ax 4 (by omega)).1
   have v2:w.cell? ⟨gv,n.i*3+2,none⟩=some (.bool v.cap):=(abb (n.i*3+2) (by omega)).trans (e7 uY y1.vars n.i 2 v hyv (by omega))
   have f2:=World.ownsRow.frozenAt (hw.fns.vars _ (ba Hb)) (n.i*3+2);have S5:f≠0:=fun e=>by
    cases DP with
    | same=>exact he rfl
    | up h1 h2 _ =>
     rcases(CI.each _ _ h1).par with ⟨_,h3⟩ | ⟨q,_,h3⟩
     ·omega
     ·omega
   obtain⟨p,hp,hpf,yp,hyp⟩:=CI.par Ct S5;have e1:w.cell? ⟨gf,f*6+1,none⟩=some (.int .i64 (p:Int)):=by rw[←hp];exact(sX 1 (by omega)).1
   have Vw:NG st.fns n.fn p:=by
    cases DP with
    | same=>exact absurd rfl he
    | up h1 h2 h3 =>
     rw[Ct] at h1;injection h1 with h1;subst h1;rw[hp] at h2;have:=Int.ofNat.inj h2;rw[this];exact h3
   have hHE:fm n (g+1) f st.fns=(lX n (g+1) (fT n st.fns) f).map fun r=>(r.1,3,r.2):=by unfold fm;rw[af he]
   have HE:=aa (hHE.trans (by rw[Jb Ct hp he]))
   have Bp:=hw.cap Hb hyv;have hst:st.oX n.fn (cP y1 n.i)={ st with fns:=fT n st.fns}:=by unfold aG.oX fT;rw[gE hy]
   rw[hst] at Bp;have ade:=aa Bp;have jB:n.fn<FL.length:=by omega
   have hfL:f<FL.length:=by omega
   have hfl2:FL.length≤100000:=by omega
   have hvl2:y1.vars.length≤200:=(oH n.fn y1 hy).1;have tD:=aa ih;have Hx:=aa CI;have TE:=aa oH;have HY:=aa hy;have HYV:=aa hyv;have abc:=aa Vw;have HP:=aa hp;have Vt:=aa Ct;have HW:=aa hw;have HK:=aa (Lib.ownsRow_kind (hw.fns.vars _ (ba Hb)) gv rfl);clear hw ih CI oH hy hyv DP Vw hp Ct ht Hb sX Ax abb hHE Bp hst hyp Z0 xd;go_enter Tryz.func161,Tryz.ntmps161
   go_wp2_with fail
   obtain⟨st1,YE⟩ :∃s1:aG,s1={ st with fns:=fT n st.fns}:=⟨_,rfl⟩;have YF:st1.fns=fT n st.fns:=by rw[YE]
   have je:Hid (jO ((w.setCell ⟨gv,n.i*3+2,none⟩ (.bool true)).alloc (.cells #[.int .i64 0,.int .i64 0] 57)) B b nv N st1 ub ob):=aa (by rw[YE];exact⟨_,_,ade.out.alloc _⟩)
   have fj:Hid (Fr [52,61,59] w ((w.setCell ⟨gv,n.i*3+2,none⟩ (.bool true)).alloc (.cells #[.int .i64 0,.int .i64 0] 57))):=aa (by obtain⟨cs,fz,h⟩:=HK.out;exact(Fr.set h (by decide) _ _).trans (Fr.alloc _))
   have dM:Hid (Below B w ((w.setCell ⟨gv,n.i*3+2,none⟩ (.bool true)).alloc (.cells #[.int .i64 0,.int .i64 0] 57))):=aa (((Below.refl B w).setCell (p:=⟨gv,n.i*3+2,none⟩) adb _).alloc (by simp;omega) _)
   have HZ1:Hid (((w.setCell ⟨gv,n.i*3+2,none⟩ (.bool true)).alloc (.cells #[.int .i64 0,.int .i64 0] 57)).heap[w.heap.size]? = some (.cells #[.int .i64 0,.int .i64 0] 57 (0,0))):=aa (by have:=heap_alloc_new (w.setCell ⟨gv,n.i*3+2,none⟩ (.bool true)) (.cells #[.int .i64 0,.int .i64 0] 57);simpa using this)
   generalize (w.setCell ⟨gv,n.i*3+2,none⟩ (.bool true)).alloc (.cells #[.int .i64 0,.int .i64 0] 57)=W1 at *;have Z1:uQ st.fns st1.fns:=by rw[YF];exact Bz HY.out
   refine(tD.out p st1 W1 (by omega) je.out (by rw[YF];exact yX Hx.out HY.out) (by rw[YF];exact vm TE.out) (abc.out.ext Z1) ?_ (by rw[YF,nQ];omega) (by rw[YF,nQ];omega)).mono ?_
   ·obtain⟨y',h1,h2⟩:=Z1.2 _ _ HY.out
    obtain⟨v',h3,h4,_⟩:=h2.vars _ _ HYV.out;exact⟨y',v',h1,h3,h4.trans Ti⟩
   rw[YF];cases hM:fm n g p (fT n st.fns) with
   | none =>
    rintro e w2 ⟨b2,f2,rfl⟩;have Qx:Hid (fm n (g+1) f st.fns=none):=aa (by rw[HE.out,hM];rfl)
    have hz2:=f2.cells _ _ _ _ HZ1.out (by decide)
    have hl2:w.heap.size<w2.heap.size:=(aI.1 hz2).1;have y0:=ab hz2 0;have y1:=ab hz2 1;have z0:=aw hz2 0;have z1:=aw hz2 1;replace y0:_=some (Value.int .i64 0):=y0;replace y1:_=some (Value.int .i64 0):=y1;have o7:=aa (dM.out.trans b2);have lV:=aa (fj.out.trans f2);have HZ2:=aa hz2;clear b2 f2 hz2 hM HE;go_wp2_with fail
    have hq:=(Below.heap_alloc ((w2.setCell ⟨w.heap.size,0,none⟩ (.int .i64 0)).setCell ⟨w.heap.size,1,none⟩ (.int .i64 0)) (.cells #[.int .i64 0,.int .i64 0] 57) w.heap.size (by rw[nP];exact hl2)).trans (yW HZ2.out (.int .i64 0) (.int .i64 0))
    have q0:=ab hq 0;have q1:=ab hq 1;replace q0:_=some (Value.int .i64 0):=q0;replace q1:_=some (Value.int .i64 0):=q1;refine bodyPost_ret (v:=.tuple #[.agg #[.int .i64 0,.int .i64 0],.iface 79 (.int .i64 12)]) (by simp[results,Tryz.results161,go_sem,q0,q1]) rfl ?_
    refine⟨((o7.out.setCell (p:=⟨w.heap.size,0,none⟩) bX _).setCell (p:=⟨w.heap.size,1,none⟩) bX _).alloc (by rw[nP];omega) _,lV.out.past (fun k hk=>?_) ?_,?_⟩
    ·exact(Below.heap_alloc _ _ k (by rw[nP];omega)).trans (qD w2 w.heap.size _ _ k (by omega))
    ·rw[ao,nP];omega
    ·rw[Qx.out]
   | some r =>
    obtain⟨F2,kd,i2⟩:=r;rintro e w2 ⟨b2,f2,rfl,hw2⟩;have Qx:Hid (fm n (g+1) f st.fns=(gD F2 f ⟨decide (kd=2),i2⟩).map fun r=>(r.1,3,r.2)):=aa (by rw[HE.out,hM];rfl)
    have hFL:uQ st.fns F2∧dK F2:=by
     obtain⟨y',q1,q2⟩:=Z1.2 _ _ HY.out;obtain⟨v',q3,q4,_⟩:=q2.vars _ _ HYV.out;rw[YF] at Z1 q1;obtain⟨a1,_,a3,_⟩:=OA hM (yX Hx.out HY.out) (vm TE.out) (abc.out.ext Z1) (by rw[nQ];omega) ⟨y',v',q1,q3,q4.trans Ti⟩
     exact⟨Z1.trans a1,a3⟩
    have hz2:=f2.cells _ _ _ _ HZ1.out (by decide)
    have hl2:w.heap.size<w2.heap.size:=(aI.1 hz2).1;have HZ3:=aa ((Below.heap_alloc w2 (.cells #[.int .i64 kd,.int .i64 (i2:Int)] 57) w.heap.size hl2).trans hz2);have yA:=aa ((dM.out.trans b2).alloc (by omega) (.cells #[.int .i64 kd,.int .i64 (i2:Int)] 57))
    have Fa:=aa ((fj.out.trans f2).trans (Fr.alloc (.cells #[.int .i64 kd,.int .i64 (i2:Int)] 57)));have g2:(kd == 2)=decide (kd=2):=rfl;obtain⟨st2,YG⟩ :∃s2:aG,s2={ st1 with fns:=F2}:=⟨_,rfl⟩;rw[←YG] at hw2;have e2f:st2.fns=F2:=by rw[YG]
    have RH:=aa (hw2.alloc (.cells #[.int .i64 kd,.int .i64 (i2:Int)] 57));clear b2 f2 hz2 hM HE hw2;go_wp2_with fail
    have JW:w.heap.size<(w2.alloc (.cells #[.int .i64 kd,.int .i64 (i2:Int)] 57)).heap.size:=by rw[ao];omega
    have x0:=dx w2 #[.int .i64 kd,.int .i64 (i2:Int)] 57 0;have x1:=dx w2 #[.int .i64 kd,.int .i64 (i2:Int)] 57 1;generalize w2.alloc (.cells #[.int .i64 kd,.int .i64 (i2:Int)] 57)=W3 at *;refine(Bw b f ⟨decide (kd=2),i2⟩ st2 W3 RH.out (by rw[e2f];have:=hFL.1.1;omega) (by rw[e2f];exact hFL.2)).mono ?_
    rw[e2f];cases hU:gD F2 f ⟨decide (kd=2),i2⟩ with
    | none =>
     rintro e w4 ⟨b4,f4,rfl⟩;have HE4:Hid (fm n (g+1) f st.fns=none):=aa (by rw[Qx.out,hU];rfl)
     have Cu:=f4.cells _ _ _ _ HZ3.out (by decide)
     have hl4:w.heap.size<w4.heap.size:=(aI.1 Cu).1;have y0:=ab Cu 0;have y1:=ab Cu 1;have z0:=aw Cu 0;have z1:=aw Cu 1;replace y0:_=some (Value.int .i64 0):=y0;replace y1:_=some (Value.int .i64 0):=y1;have YH:=aa (yA.out.trans b4);have HF4:=aa (Fa.out.trans f4);have hq:=yW Cu (.int .i64 0) (.int .i64 0);have q0:=ab hq 0;have q1:=ab hq 1;replace q0:_=some (Value.int .i64 0):=q0;replace q1:_=some (Value.int .i64 0):=q1;clear b4 f4 Cu hU Qx x0 x1 hq;go_wp2_with fail
     refine bodyPost_ret (v:=.tuple #[.agg #[.int .i64 0,.int .i64 0],.iface 79 (.int .i64 12)]) (by simp[results,Tryz.results161,go_sem,q0,q1]) rfl ?_
     refine⟨(YH.out.setCell (p:=⟨w.heap.size,0,none⟩) bX _).setCell (p:=⟨w.heap.size,1,none⟩) bX _,HF4.out.past (fun k hk=>qD w4 w.heap.size _ _ k (by omega)) (by rw[nP];omega),?_⟩
     rw[HE4.out]
    | some r =>
     obtain⟨F4,k4⟩:=r;rintro e w4 ⟨b4,f4,rfl,hw4⟩;have HE4:Hid (fm n (g+1) f st.fns=some (F4,3,k4)):=aa (by rw[Qx.out,hU];rfl)
     have Cu:=f4.cells _ _ _ _ HZ3.out (by decide)
     have hl4:w.heap.size<w4.heap.size:=(aI.1 Cu).1;have y0:=ab Cu 0;have y1:=ab Cu 1;have z0:=aw Cu 0;have z1:=aw Cu 1;replace y0:_=some (Value.int .i64 0):=y0;replace y1:_=some (Value.int .i64 0):=y1;have YH:=aa (yA.out.trans b4);have HF4:=aa (Fa.out.trans f4);have HK4:Hid (vK w4 w.heap.size 57):=aa ⟨_,_,Cu⟩;have hq:=yW Cu (.int .i64 3) (.int .i64 (k4:Int));have q0:=ab hq 0;have q1:=ab hq 1;replace q0:_=some (Value.int .i64 3):=q0;replace q1:_=some (Value.int .i64 (k4:Int)):=q1;rw[YG,YE] at hw4;have HW4:=aa hw4;clear b4 f4 Cu hU Qx x0 x1 hq hw4;go_wp2_with fail
     refine bodyPost_ret (v:=.tuple #[.agg #[.int .i64 3,.int .i64 (k4:Int)],.nilIface]) (by simp[results,Tryz.results161,go_sem,q0,q1]) rfl ?_
     refine⟨(YH.out.setCell (p:=⟨w.heap.size,0,none⟩) bX _).setCell (p:=⟨w.heap.size,1,none⟩) bX _,HF4.out.past (fun k hk=>qD w4 w.heap.size _ _ k (by omega)) (by rw[nP];omega),?_⟩
     rw[HE4.out];exact⟨rfl,(HW4.out.fN HK4.out (by omega) _ _).fN (HK4.out.set _ _ _) (by omega) _ _⟩
end Go.Proofs.YteflkdlaoiijbaaGreatDoor
namespace Go.Proofs.YteflkdlaoiijbaaGreatDoor
open Go.RowKit Go.Shelf
section
attribute [local go_sem] Oper.semAt_some
def s8:List cE→List (Nat×cE)
 | []=>[]
 | l::r=>(r.length,l)::s8 r
theorem yY :∀L:List cE,(s8 L).length=L.length
 | []=>rfl
 | l::r=>by rw[s8,List.length_cons,List.length_cons,yY r]
theorem OE :∀(L:List cE) (k:Nat) (l:cE),L[k]? = some l→(s8 L)[k]? = some (L.length-1-k,l)
 | [],_,_,h=>by simp at h
 | x::r,0,l,h=>by
  injection h with h;subst h;rfl
 | x::r,k+1,l,h=>by
  rw[s8,dP,OE r k l h,List.length_cons];congr 2
  have:=(aL.1 h).1;simp only[List.length_cons] at this;omega
def TF (x:Nat×cE):Array Value:=#[.int .i64 (x.1:Int),.agg #[.int .i64 (x.2.fn:Int),.map (some x.2.blk)]]
abbrev TG (L:List cE):={ x:Nat×cE // x∈s8 L}
theorem YI {L:List cE} {k:Nat} {l:cE} (h:L[k]? = some l) :∃hm,(s8 L).attach[k]? = some ⟨(L.length-1-k,l),hm⟩:=by
 have h1:=OE L k l h;refine⟨ba h1,?_⟩;obtain⟨h2,h3⟩:=aL.1 h1;rw[bE (by rw[Kk];exact h2),List.getElem_attach]
 congr 1
 exact Subtype.ext h3
set_option maxRecDepth 100000 in
theorem OF (F:Fence) (n:Nat) (Jc:F.fn 188) (hro:F.round=none) (hn:1≤n) (l Bs n₀ g lc:Nat) (L:List cE) (hlen:L.length≤1000000) (hg:g<n₀) (hB:Bs<n₀) (J Jx:List (TG L)→World→Prop)
  (hY :∀pre x W,J pre W→pre.length<L.length→YieldAt F (n-1) Tryz.prog l (TF x.1) W fun e W' =>
   (e=.returned (.bool true)∧J (pre++[x]) W'∧Below n₀ W W')∨(e=.returned (.bool false)∧Jx (pre++[x]) W'))
  (W:World) (Vx:W.cell? ⟨Bs,0,none⟩=some (.slice (some ⟨g,0,none⟩) L.length lc)) (hc :∀k x,L[k]? = some x→W.cell? ⟨g,(L.length-1-k)*2,none⟩=some (.int .i64 (x.fn:Int))∧W.cell? ⟨g,(L.length-1-k)*2+1,none⟩=some (.map (some x.blk))) (h0:J [] W) :
  CallsIn F n Tryz.prog 188 #[.func (.yield l) #[] #[],.pointer (some ⟨Bs,0,none⟩)] W fun e W'=>(∃v,e=.returned v) ∧
   ((∃ys,ys=(s8 L).attach∧J ys W')∨(∃pre,pre <+: (s8 L).attach∧Jx pre W')):=by
 have hwr:=xD hlen;refine callsIn_of_wp Tryz.func188 rfl Jc ?_ hro;simp only[Tryz.ntmps188,Ee,List.length_cons,List.length_nil,Nat.reduceAdd,Nat.reduceSub,Kd,Ke,Kn,Kg,mQ,gU];gi_wp2
 gi_loopw [3] (fun i wr=>∃(k:Nat) (z:Int),k≤L.length∧i=.int .i64 z∧z=(L.length:Int)-1-k∧J ((s8 L).attach.take k) wr∧Below n₀ W wr)
  (fun i _=>(intOf i+1).toNat)
 case atStart=>exact⟨0,_,aR _,rfl,by omega,h0,Below.refl _ _⟩
 case round =>
  obtain⟨k,z,hk,rfl,hz,hJs,hnx⟩:=hrel;by_cases hlt:k<L.length
  ·obtain⟨x,hx⟩ :∃x,L[k]? = some x:=⟨L[k],bE hlt⟩
   obtain⟨c0,c1⟩:=hc k x hx;obtain⟨i,rfl⟩ :∃i:Nat,z=(i:Int):=⟨L.length-1-k,by omega⟩
   have hi:L.length-1-k=i:=by omega
   rw[hi] at c0 c1;have e0:=(hnx.cell (p:=⟨g,i*2,none⟩) hg).trans c0;have e1:=(hnx.cell (p:=⟨g,i*2+1,none⟩) hg).trans c1;have eb:=(hnx.cell (p:=⟨Bs,0,none⟩) hB).trans Vx;have v7:i<L.length:=by omega
   obtain⟨hm,eG⟩ :∃hm,(s8 L).attach[k]? = some ⟨(i,x),hm⟩:=hi▸YI hx;obtain⟨fn,tmps,assign,body,hy,hR⟩:=hY _ ⟨(i,x),hm⟩ wr hJs (by rw[oL,Kk,yY];omega)
   dsimp only[TF] at hy
   have HZ:=aa hz;have hge:decide ((0:Int)≤(i:Int))=true:=bM (by omega)
   clear hz hi;gi_wp2
   have hz:=HZ.out;refine hR.mono ?_;have Wb:(s8 L).attach.take (k+1)=(s8 L).attach.take k++[⟨(i,x),hm⟩]:=lI _ _ _ eG;rintro e W3 (⟨rfl,hJ3,hk3⟩ | ⟨rfl,adf⟩)
   ·clear hz
    gi_wp2
    have hz:=HZ.out;go_roundw
    case rel=>exact⟨k+1,(i:Int)-1,by omega,by go_num,by omega,by rw[Wb];exact hJ3,hnx.trans hk3⟩
    case measure=>simp[intOf]
   ·clear hz
    gi_wp2
    refine bodyPost_ret (results_none rfl _ _ _) rfl ?_;exact⟨⟨_,rfl⟩,.inr ⟨_,by rw[←Wb];exact List.take_prefix _ _,adf⟩⟩
  ·obtain rfl:z = -1:=by omega
   have zr:k=L.length:=by omega
   gi_wp2
   go_end0
   exact⟨⟨_,rfl⟩,.inl ⟨_,by rw[tG (by rw[Kk,yY];omega)],hJs⟩⟩
set_option maxRecDepth 100000 in
theorem Jd (F:Fence) (n:Nat) (Jc:F.fn 188) (hro:F.round=none) (l Bs:Nat) (a:Option Addr) (lc:Nat) (J:World→Prop) (W:World) (Vx:W.cell? ⟨Bs,0,none⟩=some (.slice a 0 lc)) (h0:J W) :
  CallsIn F n Tryz.prog 188 #[.func (.yield l) #[] #[],.pointer (some ⟨Bs,0,none⟩)] W fun e W'=>(∃v,e=.returned v)∧J W':=by
 refine callsIn_of_wp Tryz.func188 rfl Jc ?_ hro;simp only[Tryz.ntmps188,Ee,List.length_cons,List.length_nil,Nat.reduceAdd,Nat.reduceSub,Kd,Ke,Kn,Kg,mQ,gU];gi_wp2
 gi_loopw [3] (fun i wr=>i=.int .i64 (-1)∧J wr) (fun _ _=>0)
 case atStart=>exact⟨rfl,h0⟩
 case round =>
  obtain⟨rfl,hJs⟩:=hrel;gi_wp2
  go_end0
  exact⟨⟨_,rfl⟩,hJs⟩
theorem BA (a:Option Addr) (ln lc:Nat) (w:World) :
  Calls Tryz.prog 160 #[.slice a ln lc] w fun e w'=>e=.returned (.func (.func 188) #[] #[.pointer (some ⟨w.heap.size,0,none⟩)])∧w'=w.alloc (.cells #[.slice a ln lc] 90):=by
 go_enter Tryz.func160,Tryz.ntmps160
 go_wp2
 go_ret
 exact⟨rfl,rfl⟩
theorem DQ (F:Fence) (n:Nat) (Jc:F.fn 188) (hro:F.round=none) (hn:1≤n) (Bs n₀ B:Nat) (v:Value) (L:List cE) (hlen:L.length≤1000000) (w:World) (Vx:Bs<n₀) (ad6:n₀≤w.heap.size)
  (hc:w.cell? ⟨Bs,0,none⟩=some v) (hr:w.ownsRow B 238 2 v L.length (L.reverse.flatMap Fz)) (hv :∀g,v.ownBlock=some g→g<n₀) :
  SeqStopsK F n Tryz.prog 188 #[.pointer (some ⟨Bs,0,none⟩)] (fun x:TG L=>TF x.1) (Below n₀) (fun ys=>ys=(s8 L).attach) (fun pre=>pre <+: (s8 L).attach) L.length w:=fun l J Jx W hW _ _ hY h0=>by
 have hc':=(hW.cell (p:=⟨Bs,0,none⟩) (by show Bs<_;omega)).trans hc
 obtain⟨A,c,rfl,_,iY⟩:=dE hr;rcases iY with h0' | ⟨g,rfl,Yy,ri,sX⟩
 ·have hL:L=[]:=pO h0'
  subst hL;exact(Jd F n Jc hro l Bs A c (J []) W hc' h0).mono fun e W' ⟨he,hj⟩=>⟨he,.inl ⟨_,rfl,hj⟩⟩
 ·refine OF F n Jc hro hn l Bs n₀ g c L hlen (hv g rfl) Vx J Jx hY W hc' (fun k x hx=>?_) h0
  have hk:=(aL.1 hx).1;have abd:L.reverse[L.length-1-k]? = some x:=by
   rw[List.getElem?_reverse (by omega),show L.length-1-(L.length-1-k)=k by omega]
   exact hx
  have h2:=e7 yV L.reverse (L.length-1-k) 0 x abd (by omega)
  have h3:=e7 yV L.reverse (L.length-1-k) 1 x abd (by omega)
  exact⟨(hW.cell (p:=⟨g,(L.length-1-k)*2,none⟩) ri).trans ((sX _ (by omega)).trans h2),(hW.cell (p:=⟨g,(L.length-1-k)*2+1,none⟩) ri).trans ((sX _ (by omega)).trans h3)⟩
end
end Go.Proofs.YteflkdlaoiijbaaGreatDoor
