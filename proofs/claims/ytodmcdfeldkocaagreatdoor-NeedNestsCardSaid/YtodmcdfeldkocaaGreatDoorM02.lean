/- Parts of the proof. -/
import Derived.Lib.OthersKept
import Derived.Lib.OwnKind
import Derived.Lib.Strings
import Derived.Deep.AppendLies
import Derived.Deep.RegionLaw
import Derived.Maps.Own
import Derived.Maps.OwnSet
import Derived.StringKeys
import Derived.Test.YtodmcdfeldkocaaGreatDoorM01
set_option maxHeartbeats 16000000
set_option maxRecDepth 20000
namespace Go.Proofs.YtodmcdfeldkocaaGreatDoor
theorem ry (n f:Nat) (st:aI):cL [] n f st=.ok st:=by unfold cL;rfl
theorem fW (k:Lt) (ks:List Lt) (n f:Nat) (st:aI):cL (k::ks) n f st=(aY k f (st.at n)).bind fun s=>cL ks (n+1) f s:=by conv=>lhs;unfold cL
theorem eB (f:Nat) (st:aI):aE [] f st=.ok st:=by unfold aE;rfl
theorem eU (k:Lt) (ks:List Lt) (f:Nat) (st:aI):aE (k::ks) f st=(aY k f st).bind fun s=>aE ks f s:=by conv=>lhs;unfold aE
theorem qb (i:Nat) (line:Int) (names:List ByteArray) (b:Lt) (f:Nat) (st:aI):ji i line names [b] f st=(bu i f line names (dv i f st)).bind fun st1=>(aY b f st1).map fun st2=>st2.back st:=by conv=>lhs;unfold ji
theorem kS (i:Nat) (line:Int) (names:List ByteArray) (a b:Lt) (l:List Lt) (f:Nat) (st:aI):ji i line names (a::b::l) f st=(aY a f st).bind fun st1=>ji i line names (b::l) f st1:=by conv=>lhs;unfold ji
theorem Fo (i:Nat) (h:Nd) (ks:List Lt) (t:Lt) (f:Nat) (st:aI):mW [.mk i h ks,t] f st=(gY i f true ks (st.setOf i f)).bind fun st1=>(cL ks 0 f st1).bind fun st2=>aY t f st2:=by conv=>lhs;unfold mW
section
variable (i:Nat) (h:Nd) (ks:List Lt) (f:Nat) (st:aI)
theorem ca:aY (.mk i h ks) f st =
  if h.kind=6 then (if ((st.setOf i f).fn f).many then .ok (st.setOf i f) else .error (14,h.line))
  else if h.kind=7 then lL i f h.s h.line (st.setOf i f)
  else if h.kind=11 then
   (bu i (st.setOf i f).fns.length h.line h.names (jD i f h (st.setOf i f))).bind fun st1=>(aE ks (st.setOf i f).fns.length st1).map fun st2=>st2.back (st.setOf i f)
  else if h.kind=18 then (gY i f false ks (st.setOf i f)).bind fun st1=>(cL ks 0 f st1).map fun st2=>st2.back (st.setOf i f)
  else if h.kind=19 then (aE ks f (st.setOf i f)).bind fun st1=>bu i f h.line h.names st1
  else if h.kind=23 then (aE ks f (dv i f (st.setOf i f))).map fun st1=>st1.back (st.setOf i f)
  else if h.kind=24 then (mW ks f (dv i f (st.setOf i f))).map fun st1=>st1.back (st.setOf i f)
  else if h.kind=26∨h.kind=27 then ji i h.line h.names ks f (st.setOf i f)
  else if h.kind=28 then (bu i f h.line h.names (st.setOf i f)).bind fun st1=>aE ks f st1
  else if h.kind=30 then eD i f h.line (st.setOf i f)
  else if h.kind=31 then dK i f h.s h.line (st.setOf i f) (st.setOf i f).frames
  else aE ks f (st.setOf i f):=by conv=>lhs;unfold aY
theorem XS (hk:h.kind=7):aY (.mk i h ks) f st=lL i f h.s h.line (st.setOf i f):=by rw[ca,ab (by omega),ai hk]
theorem RV (hk:h.kind=18):aY (.mk i h ks) f st=(gY i f false ks (st.setOf i f)).bind fun st1=>(cL ks 0 f st1).map fun st2=>st2.back (st.setOf i f):=by
 rw[ca,ab (by omega),ab (by omega),ab (by omega),ai hk]
theorem RW (hk:h.kind=19):aY (.mk i h ks) f st=(aE ks f (st.setOf i f)).bind fun st1=>bu i f h.line h.names st1:=by
 rw[ca,ab (by omega),ab (by omega),ab (by omega),ab (by omega),ai hk]
theorem De (hk:h.kind≠6∧h.kind≠7∧h.kind≠11∧h.kind≠18∧h.kind≠19∧h.kind≠23∧h.kind≠24∧h.kind≠26∧h.kind≠27∧h.kind≠28∧h.kind≠30∧h.kind≠31):aY (.mk i h ks) f st=aE ks f (st.setOf i f):=by
 rw[ca,ab (by omega),ab (by omega),ab (by omega),ab (by omega),ab (by omega),ab (by omega),ab (by omega),ab (by omega),ab (by omega),ab (by omega),ab (by omega)]
end
end Go.Proofs.YtodmcdfeldkocaaGreatDoor
namespace Go.Proofs.YtodmcdfeldkocaaGreatDoor
mutual
def Lt.wt:Lt→Nat
 | .mk _ h ks=>h.names.length+Lt.ey ks
def Lt.ey:List Lt→Nat
 | []=>0
 | k::ks=>Lt.wt k+Lt.ey ks
end
def dP (F:List dr):Prop:=∀(g:Nat) x,F[g]? = some x→x.vars.length≤200∧x.cr.length≤60
theorem dP.set {F:List dr} (h:dP F) {f:Nat} {x:dr} (hx:x.vars.length≤200∧x.cr.length≤60):dP (F.set f x):=fun g y hy=>by
 by_cases e:f=g
 ·subst e
  by_cases hl:f<F.length
  ·rw[dS hl] at hy
   injection hy with hy;subst hy;exact hx
  ·rw[EM (by omega)] at hy
   exact h _ _ hy
 ·rw[fL e] at hy
  exact h _ _ hy
theorem dP.app {F:List dr} (h:dP F) {x:dr} (hx:x.vars.length≤200∧x.cr.length≤60):dP (F++[x]):=fun g y hy=>by
 rw[List.getElem?_append] at hy;split at hy
 ·exact h _ _ hy
 ·have:=(aK.1 hy).1
  simp at this;rw[show g-F.length=0 by omega] at hy
  injection hy with hy;subst hy;exact hx
theorem dP.getD {F:List dr} (h:dP F) (f:Nat):(F.getD f ⟨0,0,0,false,[],[]⟩).vars.length≤200∧(F.getD f ⟨0,0,0,false,[],[]⟩).cr.length≤60:=by
 rw[jZ];cases e:F[f]? with
 | none=>exact⟨bo _,bo _⟩
 | some x=>exact h f x e
structure Mk (a b:Nat) (st st':aI):Prop where
 few:dP st'.fns
 names:st'.names.length≤st.names.length+a
 fns:st'.fns.length≤st.fns.length+b
 least:st.fns.length≤st'.fns.length
 frames:st'.frames.length=st.frames.length
theorem Mk.trans {a b c d:Nat} {x y z:aI} (h:Mk a b x y) (k:Mk c d y z):Mk (a+c) (b+d) x z:=⟨k.few,by have:=h.names;have:=k.names;omega,by have:=h.fns;have:=k.fns;omega,aL h.least k.least,k.frames.trans h.frames⟩
theorem Hu {n f:Nat} {l:Int} :∀(ns:List ByteArray) {st st':aI},dO n f l ns st=.ok st'→dP st.fns→Mk ns.length 0 st st':=by
 intro ns;induction ns with
 | nil =>
  intro st st' h hF;rw[dO] at h;injection h with h;subst h;exact⟨hF,by simp,by simp,ah _,rfl⟩
 | cons s ns ih =>
  intro st st' h hF;rw[dO] at h;split at h
  ·cases h
  ·rename_i hlt
   have h1:=ih h (hF.set ⟨by simp;omega,(hF.getD f).2⟩)
   refine⟨h1.few,?_,?_,?_,h1.frames⟩
   ·have:=h1.names
    simp only[List.length_cons] at this ⊢;omega
   ·have:=h1.fns
    simp only[aI.oN,kL] at this;omega
   ·have:=h1.least
    simp only[aI.oN,kL] at this;omega
theorem jF {n f:Nat} {l:Int} {ns:List ByteArray} {st st':aI} (h:bu n f l ns st=.ok st') (hF:dP st.fns):Mk ns.length 0 st st':=by
 have:=Hu ns h hF;exact⟨this.few,this.names,this.fns,this.least,this.frames⟩
theorem wV {F F':List dr} {f k:Nat} {u:tx} (h:gE F f u=some (F',k)) (hF:dP F):dP F'∧F'.length=F.length:=by
 unfold gE at h;dsimp only at h
 split at h
 ·injection h with h
  injection h with h1 _;subst h1;exact⟨hF,rfl⟩
 ·split at h
  ·cases h
  ·injection h with h
   injection h with h1 _;subst h1;rename_i hlt;exact⟨hF.set ⟨(hF.getD f).1,by rw[bY,mT];omega⟩,by simp⟩
theorem Ap {n:jw} :∀(g:Nat) {F F':List dr} {f k:Nat},lK n g F f=some (F',k)→dP F→dP F'∧F'.length=F.length:=by
 intro g;induction g with
 | zero=>intro F F' f k h;cases h
 | succ g ih =>
  intro F F' f k h hF;rw[lK] at h;split at h
  ·exact wV h hF
  ·split at h
   ·cases h
   ·rename_i F1 k1 h1
    obtain⟨a1,a2⟩:=ih h1 hF;obtain⟨b1,b2⟩:=wV h a1;exact⟨b1,b2.trans a2⟩
theorem rz (x:dr) (i:Nat):(cZ x i).vars.length=x.vars.length∧(cZ x i).cr=x.cr:=by
 unfold cZ;refine⟨?_,rfl⟩;dsimp only
 split<;>simp
theorem XT {n f:Nat} {s:ByteArray} {l:Int} {st st':aI} (h:lL n f s l st=.ok st') (hF:dP st.fns):Mk 0 0 st st':=by
 unfold lL at h;split at h
 ·injection h with h
  subst h;exact⟨hF,ah _,ah _,ah _,rfl⟩
 ·rename_i x _
  split at h
  ·injection h with h
   subst h;exact⟨hF,ah _,ah _,ah _,rfl⟩
  ·split at h
   ·cases h
   ·rename_i F k hk
    injection h with h;subst h;have e:=rz (st.fn x.fn) x.i;obtain⟨a1,a2⟩:=Ap _ hk (hF.set ⟨by rw[e.1];exact(hF.getD x.fn).1,by rw[e.2];exact(hF.getD x.fn).2⟩)
    rw[kL] at a2;exact⟨a1,ah _,Nat.le_of_eq a2,Nat.le_of_eq a2.symm,rfl⟩
theorem LG {n f:Nat} {l:Int} {st st':aI} (h:eD n f l st=.ok st') (hF:dP st.fns):Mk 0 0 st st':=by
 unfold eD at h;split at h
 ·cases h
 ·injection h with h
  subst h;exact⟨hF,ah _,ah _,ah _,rfl⟩
theorem RX {n f:Nat} {s:ByteArray} {l:Int} {st st':aI} (hF:dP st.fns) :∀(fr:List fE),dK n f s l st fr=.ok st'→Mk 0 0 st st':=by
 intro fr;induction fr with
 | nil=>intro h;cases h
 | cons x fr ih =>
  intro h;rw[dK] at h;split at h
  ·exact ih h
  ·split at h
   ·exact ih h
   ·split at h
    ·cases h
    ·injection h with h
     subst h;exact⟨hF,ah _,ah _,ah _,rfl⟩
theorem Aq {i f:Nat} {rep:Bool} {ks:List Lt} {st st':aI} (h:gY i f rep ks st=.ok st'):st'={ st with frames:=⟨f,i,0,false,rep,ks⟩::st.frames}:=by
 unfold gY at h;split at h
 ·cases h
 ·injection h with h
  exact h.symm
theorem ef {α β:Type} {x:Rs α} {g:α→β} {y:β} (h:x.map g=.ok y) :∃a,x=.ok a∧y=g a:=by
 cases x with
 | error e=>cases h
 | ok a=>injection h with h;exact⟨a,rfl,h.symm⟩
theorem bV {α β:Type} {x:Rs α} {g:α→Rs β} {y:β} (h:x.bind g=.ok y) :∃a,x=.ok a∧g a=.ok y:=by
 cases x with
 | error e=>cases h
 | ok a=>exact⟨a,rfl,h⟩
theorem aaP {a b:Nat} {st st':aI} {n:Nat} (h:Mk a b (st.at n) st'):Mk a b st st':=⟨h.few,h.names,h.fns,h.least,h.frames.trans (by unfold aI.at;cases st.frames<;>rfl)⟩
theorem back_mk {a b:Nat} {st st':aI} {fr:List fE} (h:Mk a b { st with frames:=fr} st'):Mk 0 b st (st'.back st):=⟨h.few,ah _,h.fns,h.least,rfl⟩
mutual
theorem lQ :∀(t:Lt) {f:Nat} {st st':aI},aY t f st=.ok st'→dP st.fns→Mk t.wt t.size st st'
 | .mk i h ks,f,j5,st',hr,hF=>by
  rw[ca] at hr;rw[Lt.wt,Lt.size];have hF:dP (j5.setOf i f).fns:=hF;have key :∀{a b:Nat},Mk a b (j5.setOf i f) st'→a≤h.names.length+Lt.ey ks→b≤Lt.al ks+1→Mk (h.names.length+Lt.ey ks) (Lt.al ks+1) j5 st':=fun h h1 h2=>⟨h.few,by have:_≤j5.names.length+_:=h.names;omega,by have:_≤j5.fns.length+_:=h.fns;omega,h.least,h.frames⟩
  generalize j5.setOf i f=st at *;split at hr
  ·split at hr
   ·injection hr with hr
    subst hr;exact key (a:=0) (b:=0) ⟨hF,ah _,ah _,ah _,rfl⟩ (bo _) (bo _)
   ·cases hr
  split at hr
  ·exact key (XT hr hF) (bo _) (bo _)
  split at hr
  ·obtain⟨s1,e1,hr⟩:=bV hr
   obtain⟨s2,e2,rfl⟩:=ef hr;have h1:=jF e1 (show dP (st.fns++[_]) from hF.app ⟨bo _,bo _⟩)
   have h2:=iI ks e2 h1.few;refine key (a:=0) (b:=Lt.al ks+1) ⟨h2.few,ah _,?_,?_,rfl⟩ (bo _) (ah _)
   ·have h3:s1.fns.length≤(st.fns++[_]).length+0:=h1.fns
    have h4:=h2.fns;rw[bY,mT] at h3;show s2.fns.length≤_
    omega
   ·have h3:(st.fns++[_]).length≤s1.fns.length:=h1.least
    have h4:=h2.least;rw[bY,mT] at h3;show _≤s2.fns.length
    omega
  split at hr
  ·obtain⟨s1,e1,hr⟩:=bV hr
   obtain⟨s2,e2,rfl⟩:=ef hr;have e1:=Aq e1;subst e1;exact key (back_mk (uu ks e2 hF)) (bo _) (by omega)
  split at hr
  ·obtain⟨s1,e1,e2⟩:=bV hr
   have h1:=iI ks e1 hF;exact key (h1.trans (jF e2 h1.few)) (by omega) (by omega)
  split at hr
  ·obtain⟨s2,e2,rfl⟩:=ef hr
   exact key (back_mk (iI ks e2 hF)) (bo _) (by omega)
  split at hr
  ·obtain⟨s2,e2,rfl⟩:=ef hr
   obtain⟨a1,a2,a3⟩:=XU ks e2 hF;exact key (a:=0) (b:=Lt.al ks) ⟨a1,ah _,a2,a3,rfl⟩ (bo _) (by omega)
  split at hr
  ·exact key (LH ks hr hF) (by omega) (by omega)
  split at hr
  ·obtain⟨s1,e1,e2⟩:=bV hr
   have h1:=jF e1 hF;exact key (h1.trans (iI ks e2 h1.few)) (by omega) (by omega)
  split at hr
  ·exact key (LG hr hF) (bo _) (bo _)
  split at hr
  ·exact key (RX hF _ hr) (bo _) (bo _)
  exact key (iI ks hr hF) (by omega) (by omega)
theorem iI :∀(ks:List Lt) {f:Nat} {st st':aI},aE ks f st=.ok st'→dP st.fns→Mk (Lt.ey ks) (Lt.al ks) st st'
 | [],f,st,st',hr,hF=>by
  rw[eB] at hr;injection hr with hr;subst hr;exact⟨hF,gD _ _,gD _ _,ah _,rfl⟩
 | k::ks,f,st,st',hr,hF=>by
  rw[eU] at hr;obtain⟨s1,e1,e2⟩:=bV hr;rw[Lt.ey,Lt.al];have h1:=lQ k e1 hF;exact h1.trans (iI ks e2 h1.few)
theorem uu :∀(ks:List Lt) {n f:Nat} {st st':aI},cL ks n f st=.ok st'→dP st.fns→Mk (Lt.ey ks) (Lt.al ks) st st'
 | [],n,f,st,st',hr,hF=>by
  rw[ry] at hr;injection hr with hr;subst hr;exact⟨hF,gD _ _,gD _ _,ah _,rfl⟩
 | k::ks,n,f,st,st',hr,hF=>by
  rw[fW] at hr;obtain⟨s1,e1,e2⟩:=bV hr;rw[Lt.ey,Lt.al];have h1:=aaP (lQ k e1 hF);exact h1.trans (uu ks e2 h1.few)
theorem XU :∀(ks:List Lt) {f:Nat} {st st':aI},mW ks f st=.ok st'→dP st.fns→dP st'.fns∧st'.fns.length≤st.fns.length+Lt.al ks∧st.fns.length≤st'.fns.length
 | [],f,st,st',hr,hF=>by
  unfold mW at hr;injection hr with hr;subst hr;exact⟨hF,gD _ _,ah _⟩
 | [.mk _ _ _],f,st,st',hr,hF=>by
  unfold mW at hr;injection hr with hr;subst hr;exact⟨hF,gD _ _,ah _⟩
 | .mk _ _ _::_::_::_,f,st,st',hr,hF=>by
  unfold mW at hr;injection hr with hr;subst hr;exact⟨hF,gD _ _,ah _⟩
 | [.mk i h ks,t],f,st,st',hr,hF=>by
  rw[Fo] at hr;obtain⟨s1,e1,hr⟩:=bV hr;obtain⟨s2,e2,e3⟩:=bV hr;have e1:=Aq e1;subst e1;have h1:=uu ks e2 hF;have h2:=lQ t e3 h1.few;refine⟨h2.few,?_,?_⟩
  ·have h3:s2.fns.length≤st.fns.length+_:=h1.fns
   have:=h2.fns;simp only[Lt.al,Lt.size];omega
  ·exact aL (show st.fns.length≤s2.fns.length from h1.least) h2.least
theorem LH {i:Nat} {line:Int} {names:List ByteArray} :∀(ks:List Lt) {f:Nat} {st st':aI},ji i line names ks f st=.ok st'→dP st.fns→Mk (Lt.ey ks) (Lt.al ks) st st'
 | [],f,st,st',hr,hF=>by
  unfold ji at hr;injection hr with hr;subst hr;exact⟨hF,gD _ _,gD _ _,ah _,rfl⟩
 | [b],f,st,st',hr,hF=>by
  rw[qb] at hr;obtain⟨s1,e1,hr⟩:=bV hr;obtain⟨s2,e2,rfl⟩:=ef hr;have h1:=jF e1 (show dP (dv i f st).fns from hF)
  have h2:=lQ b e2 h1.few;simp only[Lt.ey,Lt.al];refine⟨h2.few,gD _ _,?_,?_,rfl⟩
  ·have h3:s1.fns.length≤st.fns.length+0:=h1.fns
   have:=h2.fns;show s2.fns.length≤_
   omega
  ·exact aL (show st.fns.length≤s1.fns.length from h1.least) h2.least
 | a::b::l,f,st,st',hr,hF=>by
  rw[kS] at hr;obtain⟨s1,e1,e2⟩:=bV hr;have h1:=lQ a e1 hF;rw[Lt.ey,Lt.al];exact h1.trans (LH (b::l) e2 h1.few)
end
def tD (k:Int):Prop:=1≤k∧k≤15
def StK (k:Int):Prop:=19≤k∧k≤32∧k≠29
structure qc (k n:Int) (kk:List Int):Prop where
 none:(k=1∨k=2∨k=3∨k=4∨k=5∨k=6∨k=7∨k=30∨k=31∨k=32)→kk=[]
 two:(k=8∨k=12∨k=17)→∃a b,kk=[a,b]∧tD a∧tD b
 call:(k=9∨k=10)→1≤kk.length∧∀a∈kk,tD a
 body:(k=11∨k=22)→kk=[18]
 one:(k=13∨k=14∨k=16)→∃a,kk=[a]∧tD a
 items:k=15→∀a∈kk,a=16∨a=17
 block:k=18→∃l r,kk=l++r∧(∀a∈l,StK a)∧(r=[]∨r=[29])
 list:(k=19∨k=29)→∀a∈kk,tD a
 assign:k=20→∃l r,kk=l++r∧(∀a∈l,a=7∨a=8)∧(1≤n→(l.length:Int)=n)∧1≤r.length∧∀a∈r,tD a
 XV:k=21→∃a,kk=[a]∧(a=9∨a=10)
 XX:k=23→∃a,kk=[a,18]∧tD a
 Fp:k=24→∃a,kk=[18,a]∧tD a
 if_:k=25→∃(ps:List (Int×Int)) (r:List Int),kk=(ps.flatMap fun p:Int×Int=>[p.1,p.2])++r∧1≤ps.length∧(∀p∈ps,tD p.1∧p.2=18)∧(r=[]∨r=[18])
 for_:k=26→∃l,kk=l++[18]∧(l.length=2∨l.length=3)∧∀a∈l,tD a
 each:k=27→∃l,kk=l++[18]∧(1≤n→(l.length:Int)=n)∧∀a∈l,tD a
 func:k=28→kk=[11]
def jG (ks:List Lt):List Int:=ks.map fun k=>k.hd.kind
mutual
/-- A tree all of whose nodes have such Kids. -/
def Lt.uw:Lt→Prop
 | .mk _ h ks=>qc h.kind h.num (jG ks)∧Lt.ix ks
def Lt.ix:List Lt→Prop
 | []=>True
 | k::ks=>Lt.uw k∧Lt.ix ks
end
open Go.RowKit
def KG (ty:TypeId) (W W':World):Prop:=W.heap.size≤W'.heap.size∧∀(k:Nat) c e fz,W.heap[k]? = some (.cells c e fz)→e≠ty→W'.heap[k]? = some (.cells c e fz)
theorem KG.set {ty:TypeId} {W:World} {g:Nat} {cs:Array Value} {fz:Nat×Nat} (h:W.heap[g]? = some (.cells cs ty fz)) (j:Nat) (v:Value):KG ty W (W.setCell ⟨g,j,none⟩ v) :=
 ⟨by simp[World.setCell],fun k c e f hk he=>(Below.heap_setCell W ⟨g,j,none⟩ v k (fun(e':k=g)=>by
  subst e';rw[h] at hk;injection hk with hk;injection hk with _ hk;exact he hk.symm)).trans hk⟩
theorem db {W W':World} {B e s n:Nat} {ty:TypeId} {v:Value} {xs:List Value} (h:W.ownsRow B e s v n xs) (ho:KG ty W W') (he:e≠ty):W'.ownsRow B e s v n xs:=by
 refine⟨h.1,?_⟩;rcases h.2 with hn | ⟨g,cap,cur,rfl,hB,hg,rest⟩
 ·exact .inl hn
 ·exact .inr ⟨g,cap,cur,rfl,hB,ho.2 g _ _ _ hg he,rest⟩
def ux (v:vU):List Value:=[.string v.name,.int .i64 (v.node:Int),.bool v.cap]
def KH (u:tx):List Value:=[.bool u.loc,.int .i64 (u.idx:Int)]
abbrev nU:=dr×Value×Value
def RY (t:nU):List Value:=[.int .i64 (t.1.node:Int),.int .i64 t.1.parent,.int .i64 (t.1.params:Int),.bool t.1.many,t.2.1,t.2.2]
def eV (W:World) (B:Nat) (ty:TypeId) (s b n:Nat) (f:Nat→Value):Prop:=W.ownsRow B ty s (.slice (some ⟨b,0,none⟩) n n) n ((List.range (n*s)).map f)
def vV (u:Nat→Int×Int):Nat→Value:=fun j=>if j % 2=0 then .int .i64 (u (j / 2)).1 else .int .i64 (u (j / 2)).2
def Hv (o:Nat→Int):Nat→Value:=fun j=>.int .i64 (o j)
def Ar (W:World) (B:Nat) (v:Value) (xs:List ByteArray):Prop :=
 ∃A c,v=.slice A xs.length c∧xs.length≤c∧(xs=[]∨∃bk o,A=some ⟨bk,o,none⟩∧bk<B∧∀(j:Nat) x,xs[j]? = some x→W.cell? ⟨bk,o+j,none⟩=some (.string x))
def gG (W:World) (B:Nat) (v:Value) (xs:List Int):Prop :=
 ∃A c,v=.slice A xs.length c∧xs.length≤c∧(xs=[]∨∃bk o,A=some ⟨bk,o,none⟩∧bk<B∧∀(j:Nat) x,xs[j]? = some x→W.cell? ⟨bk,o+j,none⟩=some (.int .i64 x))
theorem Ar.below {W W':World} {B:Nat} {v:Value} {xs:List ByteArray} (h:Ar W B v xs) (hb:Below B W W'):Ar W' B v xs:=by
 obtain⟨A,c,e,hc,h | ⟨bk,o,e2,hk,hx⟩⟩:=h
 ·exact⟨A,c,e,hc,.inl h⟩
 ·exact⟨A,c,e,hc,.inr ⟨bk,o,e2,hk,fun j x hj=>(hb.cell (p:=⟨bk,o+j,none⟩) hk).trans (hx j x hj)⟩⟩
theorem gG.below {W W':World} {B:Nat} {v:Value} {xs:List Int} (h:gG W B v xs) (hb:Below B W W'):gG W' B v xs:=by
 obtain⟨A,c,e,hc,h | ⟨bk,o,e2,hk,hx⟩⟩:=h
 ·exact⟨A,c,e,hc,.inl h⟩
 ·exact⟨A,c,e,hc,.inr ⟨bk,o,e2,hk,fun j x hj=>(hb.cell (p:=⟨bk,o+j,none⟩) hk).trans (hx j x hj)⟩⟩
structure vW (W:World) (B:Nat) (nv:Value) (T:List Nd):Prop where
 ex :∃W0 bk o c,nv=.slice (some ⟨bk,o,none⟩) T.length c∧bk<B∧W0.heap.size=B∧tB W0 bk o T∧Below B W0 W
 few:T.length≤20000
 small :∀x∈T,x.kids.length≤20000∧x.names.length≤20000
theorem vW.nodes {W:World} {B:Nat} {nv:Value} {T:List Nd} (h:vW W B nv T) :∃bk o c,nv=.slice (some ⟨bk,o,none⟩) T.length c∧bk<B∧B≤W.heap.size∧∀(i:Nat) x,T[i]? = some x→∃nv kv,lP W bk (o+i*7) x nv kv∧Ar W B nv x.names∧gG W B kv x.kids:=by
 obtain⟨W0,bk,o,c,e,hb,hs,hn,hbl⟩:=h.ex;refine⟨bk,o,c,e,hb,by have:=hbl.size;omega,fun i x hx=>?_⟩
 obtain⟨nv,kv,h1,⟨A,c1,e1,hc1,h2⟩,⟨A',c2,e2,hc2,h3⟩⟩:=hn i x hx;refine⟨nv,kv,h1.below hbl hb,Ar.below (B:=B) ⟨A,c1,e1,hc1,?_⟩ hbl,gG.below (B:=B) ⟨A',c2,e2,hc2,?_⟩ hbl⟩
 ·rcases h2 with h2 | ⟨x1,x2,x3,x4,x5⟩
  ·exact .inl h2
  ·exact .inr ⟨x1,x2,x3,by omega,x5⟩
 ·rcases h3 with h3 | ⟨x1,x2,x3,x4,x5⟩
  ·exact .inl h3
  ·exact .inr ⟨x1,x2,x3,by omega,x5⟩
theorem vW.below {W W':World} {B:Nat} {nv:Value} {T:List Nd} (h:vW W B nv T) (hb:Below B W W'):vW W' B nv T:=by
 obtain⟨W0,bk,o,c,e,h1,hs,hn,hbl⟩:=h.ex;exact⟨⟨W0,bk,o,c,e,h1,hs,hn,hbl.trans hb⟩,h.few,h.small⟩
theorem cf {W:World} {B:Nat} {ty:TypeId} {s b n:Nat} {f:Nat→Value} (h:eV W B ty s b n f) {j:Nat} (hj:j<n*s):W.cell? ⟨b,j,none⟩=some (f j)∧W.frozen? ⟨b,j,none⟩=false:=by
 refine⟨?_,World.ownsRow.frozenAt h j⟩;rw[World.ownsRow.cellAt h j hj,eO,Le hj];rfl
theorem yq {W:World} {B:Nat} {ty:TypeId} {s b n:Nat} {f g:Nat→Value} (h:eV W B ty s b n f) (he :∀j,j<n*s→f j=g j):eV W B ty s b n g:=by
 unfold eV at h ⊢;rw[show(List.range (n*s)).map g=(List.range (n*s)).map f from List.map_congr_left fun j hj=>(he j (EX.1 hj)).symm]
 exact h
theorem qd {W:World} {B:Nat} {ty:TypeId} {s b n:Nat} {f:Nat→Value} (h:eV W B ty s b n f) (j:Nat) (v:Value):eV (W.setCell ⟨b,j,none⟩ v) B ty s b n (fun i=>if i=j then v else f i):=by
 have h1:=(World.ownsRow.stored h j v).1;unfold eV;rw[show(List.range (n*s)).map (fun i=>if i=j then v else f i)=((List.range (n*s)).map f).set j v from ?_]
 ·exact h1
 ·refine List.ext_getElem? fun i=>?_
  rw[eO,List.getElem?_set];by_cases hi:j=i
  ·subst hi
   rw[ai rfl,bU,List.length_range];by_cases hl:j<n*s
   ·rw[ai hl,Le hl];simp
   ·rw[ab hl,zM (by simpa using hl)];rfl
  ·rw[ab hi,eO]
   by_cases hl:i<n*s
   ·rw[Le hl]
    simp only[pV];rw[ab fun e=>hi e.symm]
   ·rw[zM (by simpa using hl)];rfl
theorem kU {W:World} {B:Nat} {ty:TypeId} {s b n:Nat} {f:Nat→Value} (h:eV W B ty s b n f) :∃cs,W.heap[b]? = some (.cells cs ty (0,0)):=by
 rcases h.2 with ⟨e,_⟩ | ⟨g,cap,cur,e,_,hg,_⟩
 ·cases e
 ·injection e with e
  injection e with e;injection e with e _;subst e;exact⟨cur,hg⟩
theorem LI {W:World} {B b n:Nat} {ty:TypeId} {u:Nat→Int×Int} (h:eV W B ty 2 b n (vV u)) (i:Nat) (x:Int×Int) :
  eV ((W.setCell ⟨b,i*2,none⟩ (.int .i64 x.1)).setCell ⟨b,i*2+1,none⟩ (.int .i64 x.2)) B ty 2 b n (vV fun j=>if j=i then x else u j):=by
 refine yq (qd (qd h (i*2) (.int .i64 x.1)) (i*2+1) (.int .i64 x.2)) fun j _=>?_
 unfold vV;by_cases h1:j=i*2+1
 ·subst h1
  rw[ai rfl,ab (by omega)]
  dsimp only
  rw[ai (by omega)]
 ·rw[ab h1]
  by_cases h2:j=i*2
  ·subst h2
   rw[ai rfl,ai (by omega)]
   dsimp only
   rw[ai (by omega)]
  ·rw[ab h2]
   by_cases h3:j % 2=0
   ·rw[ai h3,ai h3]
    dsimp only
    rw[ab (by omega)]
   ·rw[ab h3,ab h3]
    dsimp only
    rw[ab (by omega)]
theorem LJ {W:World} {B b n:Nat} {ty:TypeId} {o:Nat→Int} (h:eV W B ty 1 b n (Hv o)) (i:Nat) (x:Int):eV (W.setCell ⟨b,i,none⟩ (.int .i64 x)) B ty 1 b n (Hv fun j=>if j=i then x else o j):=by
 refine yq (qd h i (.int .i64 x)) fun j _=>?_
 unfold Hv;by_cases h1:j=i
 ·rw[ai h1]
  dsimp only
  rw[ai h1]
 ·rw[ab h1]
  dsimp only
  rw[ab h1]
theorem kV {W W':World} {B:Nat} {ty ty':TypeId} {s g n:Nat} {f:Nat→Value} (h:eV W B ty s g n f) (ho:KG ty' W W') (he:ty≠ty'):eV W' B ty s g n f:=db h ho he
theorem iy {α:Type} {f:α→List Value} {s:Nat} (hs :∀a,(f a).length=s) :∀(l:List α) (i j:Nat) (a:α),l[i]? = some a→j<s→(l.flatMap f)[i*s+j]? = (f a)[j]?
 | [],i,j,a,h,_=>by simp at h
 | x::l,0,j,a,h,hj=>by
  injection h with h;subst h;rw[ja,zX,gi,kI (by rw[hs];exact hj)]
 | x::l,i+1,j,a,h,hj=>by
  rw[ja,zI (by rw[hs,E0];omega),hs,show(i+1)*s+j-s=i*s+j by rw[E0];omega]
  exact iy hs l i j a h hj
theorem qe (x:nU):(RY x).length=6:=rfl
theorem As (x:vU):(ux x).length=3:=rfl
theorem Fq (x:tx):(KH x).length=2:=rfl
theorem uy {T:List Nd} {ks:List Lt} (nV:Lt.sW T ks) {k:Nat} {x:Lt} (hx:ks[k]? = some x):Lt.In T x∧T[x.loc]? = some x.hd:=by
 have h:=Fi nV x (aX hx);exact⟨h,(lN h).2.1⟩
theorem ae {W:World} {g:Nat} {cs:Array Value} {ty:TypeId} (h:W.heap[g]? = some (.cells cs ty (0,0))) (j:Nat):W.cell? ⟨g,j,none⟩=cs[j]?:=cell_of_row W g j cs ty (0,0) h
theorem aH {W:World} {g:Nat} {cs:Array Value} {ty:TypeId} (h:W.heap[g]? = some (.cells cs ty (0,0))) (j:Nat):W.frozen? ⟨g,j,none⟩=false:=frozen_of_row W g j cs ty h
theorem bM {W:World} {g:Nat} {cs:Array Value} {ty:TypeId} (h:W.heap[g]? = some (.cells cs ty (0,0))) (j:Nat) (v:Value):(W.setCell ⟨g,j,none⟩ v).heap[g]? = some (.cells (cs.setIfInBounds j v) ty (0,0)):=by
 simp[World.setCell,Array.getElem?_modify,h]
theorem ez {W:World} {B e s n:Nat} {v:Value} {xs:List Value} (h:W.ownsRow B e s v n xs) :∃A c,v=.slice A n c∧n≤c∧(n=0∨∃g,A=some ⟨g,0,none⟩∧B≤g∧g<W.heap.size∧∀j,j<n*s→W.cell? ⟨g,j,none⟩=xs[j]?):=by
 rcases h.2 with ⟨rfl,h0⟩ | ⟨g,cap,cur,rfl,hB,hg,hn,hc,hs,ht⟩
 ·exact⟨none,0,by rw[h0],by omega,.inl h0⟩
 ·exact⟨_,cap,rfl,hn,.inr ⟨g,rfl,hB,(aO.1 hg).1,fun j hj=>World.ownsRow.cellAt h j hj⟩⟩
def rf (o:Option Nat) (W W':World):Prop:=W.heap.size≤W'.heap.size∧∀k,k<W.heap.size→o≠some k→W'.heap[k]? = W.heap[k]?
theorem rf.set (W:World) (g j:Nat) (v:Value):rf (some g) W (W.setCell ⟨g,j,none⟩ v):=⟨by simp[World.setCell],fun k _ hn=>Below.heap_setCell W ⟨g,j,none⟩ v k fun e=>hn (by rw[e])⟩
theorem rf.row {W W':World} {o:Option Nat} {B e s n:Nat} {v:Value} {xs:List Value} (hb:rf o W W') (h:W.ownsRow B e s v n xs) (hd :∀g,v.ownBlock=some g→o≠some g):W'.ownsRow B e s v n xs:=by
 refine⟨h.1,?_⟩;rcases h.2 with hn | ⟨g,cap,cur,rfl,hB,hg,rest⟩
 ·exact .inl hn
 ·exact .inr ⟨g,cap,cur,rfl,hB,(hb.2 g (aO.1 hg).1 (hd g rfl)).trans hg,rest⟩
theorem ed {W:World} {B B' e e' s s' n n':Nat} {v v':Value} {xs xs':List Value} (h:W.ownsRow B e s v n xs) (h':W.ownsRow B' e' s' v' n' xs') (he:e≠e') :∀g,v.ownBlock=some g→v'.ownBlock≠some g:=fun g hg vL=>by
 obtain⟨c,fz,h1⟩:=Lib.ownsRow_kind h g hg;obtain⟨c',XY,h2⟩:=Lib.ownsRow_kind h' g vL;rw[h1] at h2;injection h2 with h2;injection h2 with _ h2;exact he h2
theorem qf {α:Type} {f:α→List Value} {s:Nat} (hs :∀a,(f a).length=s) :∀(l:List α) (i j:Nat) (a b:α) (v:Value),l[i]? = some a→j<s→f b=(f a).set j v→(l.set i b).flatMap f=(l.flatMap f).set (i*s+j) v
 | [],i,j,a,b,v,h,_,_=>by simp at h
 | x::l,0,j,a,b,v,h,hj,hb=>by
  injection h with h;subst h;rw[ch,ja,ja,zX,gi,hb,List.set_append_left _ _ (by rw[hs];exact hj)]
 | x::l,i+1,j,a,b,v,h,hj,hb=>by
  rw[cj,ja,ja,List.set_append_right _ _ (by rw[hs,E0];omega),qf hs l i j a b v h hj hb,hs,show(i+1)*s+j-s=i*s+j by rw[E0];omega]
theorem rf.XZ {W W1:World} {o:Option Nat} {ty:TypeId} (h:rf o W W1) (hk :∀k,o=some k→∃c fz,W.heap[k]? = some (.cells c ty fz)):KG ty W W1 :=
 ⟨h.1,fun k c e fz hc he=>(h.2 k (aO.1 hc).1 fun ek=>by
  obtain⟨c',XY,h1⟩:=hk k ek;rw[hc] at h1;injection h1 with h1;injection h1 with _ h1;exact he h1).trans hc⟩
theorem rf.db {W W1:World} {B ty s n:Nat} {v:Value} {xs:List Value} (hr:W.ownsRow B ty s v n xs) (h:rf v.ownBlock W W1):KG ty W W1:=h.XZ fun k hk=>Lib.ownsRow_kind hr k hk
theorem mZ {L:List nU} {f:Nat} {x:nU}:(L.set f x).map (·.1)=(L.map (·.1)).set f x.1:=by rw[List.map_set]
theorem At {ops:Array Oper} {o:Oper} {a:Act} {K:Act→World→Prop} {Q:Exit→Act→World→Prop} {E:Prop} (w0 w1:World) (cs:List Value) (hgd:o.guard=none) (sl y:Operand) (tS ty:TypeId) (i0:TypeInfo) (z:Value) (s bytes:Nat)
  (ho:o.op=.call { callee:=.builtin .append,args:=#[sl,y],argTypes:=#[tS,tS]}) (ht:Tryz.prog.underlying tS=some (.slice ty)) (hi:Tryz.prog.info? ty=some i0) (hz:i0.zero=some z) (hsz:i0.size=s) (hby:i0.bytes=bytes) (hzs:z.cells.size=s) (hs0:0<s) (LK:bytes≤100)
  (B:Nat) (v:Value) (n:Nat) (xs:List Value) (hs:a.eval sl=v) (hown:w0.ownsRow B ty s v n xs) (ec :∀(i:Nat),i<w0.heap.size→w1.heap[i]? = w0.heap[i]?) (g:Nat) (hg:g=w0.heap.size) (hy:a.eval y=.slice (some ⟨g,0,none⟩) 1 1)
  (hcell:w1.heap[g]? = some (.cells cs.toArray ty (0,0))) (C9:cs.length=s) (h1c :∀u∈cs,u.oneCell'=true) (hlen:n≤1000000) (hB:B≤w0.heap.size) (hle:w0.heap.size≤w1.heap.size) (X6:w1.os=w0.os∧w1.tape=w0.tape∧w1.output=w0.output)
  (h :∀g' c' w',w'.ownsRow B ty s (.slice (some ⟨g',0,none⟩) (n+1) c') (n+1) (xs++cs)→rf v.ownBlock w0 w'→Below B w0 w'→(v.ownBlock=some g'∨w0.heap.size≤g')→K (a.put o.dst (.slice (some ⟨g',0,none⟩) (n+1) c')) w') :
  if Region.wanted o (yielded ops a.tmps)=true then Oper.wp Tryz.prog o a w1 K Q else E:=by
 subst hg;have hown1:w1.ownsRow B ty s v n xs:=rf.row (o:=none) ⟨hle,fun k hk _=>ec k hk⟩ hown (fun _ _ e=>by cases e)
 have hpl :∀j:Nat,(⟨w0.heap.size,0,none⟩:Addr).add j=⟨w0.heap.size,j,none⟩:=fun j=>by unfold Addr.add;split<;>simp_all
 refine step_append_lies (P:=Tryz.prog) w1 hgd sl y tS ho B ty i0 z s bytes ht hi hz hsz hby hzs hs0 v n xs hs hown1 ⟨w0.heap.size,0,none⟩ 1 1 cs hy (by rw[C9,E8])
  (fun j u hj=>by rw[hpl];simpa[World.cell?,hcell] using hj) h1c (by omega) (by unfold maxLen;omega) (aL (Nat.mul_le_mul_left _ LK) (by omega)) (by omega) w1.heap.size rfl ?_
 intro g' c' w' r1 r2 r3 _;refine h g' c' w' r1 ⟨aL hle r2.size,fun k hk hn=>(r2.block k (by omega) fun e=>hn e.symm).trans (ec k hk)⟩ ⟨?_,?_,?_,aL hle r2.size,fun k hk=>?_⟩ (r3.imp id fun e=>by omega)
 ·exact r2.os.trans X6.1
 ·exact r2.tape.trans X6.2.1
 ·exact r2.output.trans X6.2.2
 ·refine(r2.block k (by omega) fun e=>?_).trans (ec k (by omega))
  have:=(hown.lt k e.symm).1;omega
theorem X9 {ops:Array Oper} {rest:List Oper} {o:Oper} {a:Act} {Q:Exit→Act→World→Prop} (w:World) (cs:List Value) (hgd:o.guard=none) (sl y:Operand) (tS ty:TypeId) (i0:TypeInfo) (z:Value) (s bytes:Nat)
  (ho:o.op=.call { callee:=.builtin .append,args:=#[sl,y],argTypes:=#[tS,tS]}) (ht:Tryz.prog.underlying tS=some (.slice ty)) (hi:Tryz.prog.info? ty=some i0) (hz:i0.zero=some z) (hsz:i0.size=s) (hby:i0.bytes=bytes) (hzs:z.cells.size=s) (hs0:0<s) (LK:bytes≤100)
  (B:Nat) (v:Value) (n:Nat) (xs:List Value) (hs:a.eval sl=v) (hown:w.ownsRow B ty s v n xs) (g:Nat) (hg:g=w.heap.size) (hy:a.eval y=.slice (some ⟨g,0,none⟩) 1 1)
  (C9:cs.length=s) (h1c :∀u∈cs,u.oneCell'=true) (hlen:n≤1000000) (hB:B≤w.heap.size)
  (h :∀g' c' w',w'.ownsRow B ty s (.slice (some ⟨g',0,none⟩) (n+1) c') (n+1) (xs++cs)→rf v.ownBlock w w'→Below B w w'→(v.ownBlock=some g'∨w.heap.size≤g')→wpList Tryz.prog ops Q rest (a.put o.dst (.slice (some ⟨g',0,none⟩) (n+1) c')) w') :
  wpList Tryz.prog ops Q (o::rest) a (w.alloc (.cells cs.toArray ty)):=by
 subst hg;have hcell:=heap_alloc_new w (.cells cs.toArray ty);have hpl :∀j:Nat,(⟨w.heap.size,0,none⟩:Addr).add j=⟨w.heap.size,j,none⟩:=fun j=>by unfold Addr.add;split<;>simp_all
 have Df:(w.alloc (.cells cs.toArray ty)).heap.size=w.heap.size+1:=aq _ _;refine wpList_append_lies (P:=Tryz.prog) _ hgd sl y tS ho B ty i0 z s bytes ht hi hz hsz hby hzs hs0 v n xs hs (hown.alloc _) ⟨w.heap.size,0,none⟩ 1 1 cs hy (by rw[C9,E8])
  (fun j u hj=>by rw[hpl,cell_of_row _ _ j _ ty (0,0) hcell];simpa using hj) h1c (by omega) (by unfold maxLen;omega) (aL (Nat.mul_le_mul_left _ LK) (by omega)) (by omega) (w.heap.size+1) Df ?_
 intro g' c' w' r1 r2 r3 _;have yo:=r2.size;refine h g' c' w' r1 ⟨by omega,fun k hk hn=>(r2.block k (by omega) fun e=>hn e.symm).trans (Below.heap_alloc w _ k hk)⟩ ⟨r2.os,r2.tape,r2.output,by omega,fun k hk=>?_⟩ (r3.imp id fun e=>by omega)
 refine(r2.block k (by omega) fun e=>?_).trans (Below.heap_alloc w _ k (by omega))
 have:=(hown.lt k e.symm).1;omega
theorem wW {α:Type} {f:α→List Value} :∀(l:List α) (i:Nat) (a b:α),l[i]? = some a→f b=f a→(l.set i b).flatMap f=l.flatMap f
 | [],i,a,b,h,_=>by simp at h
 | x::l,0,a,b,h,hb=>by
  injection h with h;subst h;rw[ch,ja,ja,hb]
 | x::l,i+1,a,b,h,hb=>by rw[cj,ja,ja,wW l i a b h hb]
end Go.Proofs.YtodmcdfeldkocaaGreatDoor
namespace Go.Proofs.YtodmcdfeldkocaaGreatDoor
open Go.RowKit Go.Maps
def uz:Value→Option (DataW Unit)
 | .int .i64 a=>some (.lit (.int .i64 a))
 | .agg c=>match c.toList with
  | [.int .i64 a,.int .i64 b]=>some (.agg [.lit (.int .i64 a),.lit (.int .i64 b)])
  | _=>none
 | _=>none
theorem uA {v:Value} {d:DataW Unit} (h:uz v=some d):(∃a,v=.int .i64 a∧d=.lit (.int .i64 a))∨∃a b,v=.agg #[.int .i64 a,.int .i64 b]∧d=.agg [.lit (.int .i64 a),.lit (.int .i64 b)]:=by
 unfold uz at h;split at h
 ·injection h with h
  exact .inl ⟨_,rfl,h.symm⟩
 ·rename_i c
  split at h
  ·rename_i a b hc
   injection h with h;refine .inr ⟨a,b,?_,h.symm⟩;obtain⟨l⟩:=c;have:l=[.int .i64 a,.int .i64 b]:=hc;rw[this]
  ·cases h
 ·cases h
theorem Au {u v:Value} {d:DataW Unit} (hu:uz u=some d) (hv:uz v=some d):u=v:=by
 rcases uA hu with ⟨a,rfl,h1⟩ | ⟨a,b,rfl,h1⟩<;>rcases uA hv with ⟨c,rfl,h2⟩ | ⟨c,e,rfl,h2⟩
 ·rw[h1] at h2;injection h2 with h2;injection h2 with _ h2;rw[h2]
 ·rw[h1] at h2;cases h2
 ·rw[h1] at h2;cases h2
 ·rw[h1] at h2
  injection h2 with h2;injection h2 with h2 h3;injection h3 with h3 _;injection h2 with h2;injection h2 with _ h2;injection h3 with h3;injection h3 with _ h3;rw[h2,h3]
def LL (v:Value):Option (DataW Unit×List MemPlace):=(uz v).map fun d=>(d,[])
theorem Hw {v:Value} {d:DataW Unit} {ps:List MemPlace} (h:LL v=some (d,ps)):uz v=some d:=by
 unfold LL at h;cases e:uz v with
 | none=>rw[e] at h;cases h
 | some x=>rw[e] at h;injection h with h;injection h with h _;rw[h]
def dL (P:Program) (k:TypeId) (W:World) (b n:Nat) (f:ByteArray→Option Value):Prop :=
 ∃D:DataW Unit,W.ownsMap P k LL b n D∧∀s:ByteArray,s.size≤maxLen→match f s with
  | some v=>(uz v).isSome=true∧∀z,D.atKey (.string s.data.toList) z=(uz v).getD z
  | none=>∀z,D.atKey (.string s.data.toList) z=z
section
variable {P:Program} {k:TypeId} {W:World} {b n:Nat} {f:ByteArray→Option Value}
theorem dL.lt (h:dL P k W b n f):b<W.heap.size:=by obtain⟨D,h1,_⟩:=h;exact h1.lt
theorem dL.made (W:World) (P:Program) (k:TypeId):dL P k (W.alloc (.map #[] 0)) W.heap.size 0 (fun _=>none) :=
 ⟨_,World.ownsMap_made _ _ _ _,fun s _ z=>by simp[DataW.atKey]⟩
theorem dL.same {W':World} (h:dL P k W b n f) (hb:W'.heap[b]? = W.heap[b]?):dL P k W' b n f:=by
 obtain⟨D,⟨es,clock,h1,h2,h3,h4⟩,h5⟩:=h;exact⟨D,⟨es,clock,hb.trans h1,h2,h3,h4⟩,h5⟩
theorem dL.ext {g:ByteArray→Option Value} (h:dL P k W b n f) (he :∀s,f s=g s):dL P k W b n g:=by
 have:f=g:=funext he;rwa[←this]
theorem dL.mono {m:Nat} (h:dL P k W b n f) (he:n≤m):dL P k W b m f:=by
 obtain⟨D,h1,h2⟩:=h;exact⟨D,h1.mono he,h2⟩
theorem dL.isMap (h:dL P k W b n f) :∃es c,W.heap[b]? = some (.map es c):=by
 obtain⟨D,⟨es,clock,h1,_⟩,_⟩:=h;exact⟨es,clock,h1⟩
theorem dL.look {t e:TypeId} (h:dL P k W b n f) (hk:P.underlying k=some .string) (ht:P.underlying t=some (.map k e)) {z:Value} (hz:(zeroValue e).run P W=.ok z W) (hze:(uz z).isSome=true) (s:ByteArray) (hs:s.size≤maxLen) :
  (Instr.lookup t (.map (some b)) (.string s) true).run P W=.ok (.tuple #[(f s).getD z,.bool (f s).isSome]) W:=by
 obtain⟨D,h1,h2⟩:=h;obtain⟨zd,hzd⟩:=zK.1 hze;obtain⟨v,ps,hr,hv⟩:=h1.look_ok (string_keyed hk) ht hz (zd:=zd) (zp:=[]) (by unfold LL;rw[hzd];rfl) (Go.WideMaps.keyOf_string_mk hk hs)
 have hv:=Hw hv;have h3:=h2 s hs;cases e1:f s with
 | none =>
  rw[e1] at h3;rw[h3 zd] at hv;rw[hr,has_false_of_atKey h3,Au hv hzd];rfl
 | some u =>
  rw[e1] at h3;obtain⟨ud,hud⟩:=zK.1 h3.1;have h4 :∀z,D.atKey (.string s.data.toList) z=ud:=fun z=>by rw[h3.2 z,hud];rfl
  rw[h4 zd] at hv;rw[hr,has_true_of_atKey h4,Au hv hud];rfl
theorem LM {a b:ByteArray} (h:a.data.toList=b.data.toList):a=b:=by
 cases a;cases b;exact aw ByteArray.mk (Array.toList_inj.1 h)
theorem dL.put {t e:TypeId} (h:dL P k W b n f) (hk:P.underlying k=some .string) (ht:P.underlying t=some (.map k e)) (hn:n<maxLen) (s:ByteArray) (hs:s.size≤maxLen) (v:Value) (hv:(uz v).isSome=true) :
  ∃W',(Instr.mapUpdate t (.map (some b)) (.string s) v).run P W=.ok () W'∧dL P k W' b (n+1) (fun x=>if x=s then some v else f x)∧W.grownBy W' (some b):=by
 obtain⟨D,h1,h2⟩:=h;obtain⟨d,hd⟩:=zK.1 hv;obtain⟨W',hr,h3,h4⟩:=h1.update (string_keyed hk) ht hn (d:=d) (ps:=[]) (Go.WideMaps.keyOf_string_mk hk hs) (by unfold LL;rw[hd];rfl)
 refine⟨W',hr,⟨_,h3,fun x hx=>?_⟩,h4⟩
 have hD:IsMap D:=h1.isMap;by_cases e:x=s
 ·subst e
  dsimp only
  rw[ai rfl];refine⟨hv,fun z=>?_⟩
  rw[atKey_put_same hD (by unfold WideAt.IsKeyLit;trivial),hd]
  rfl
 ·dsimp only
  rw[ab e];have hne:(Lit.string x.data.toList) ≠ .string s.data.toList:=fun e1=>e (LM (by injection e1))
  have h5:=h2 x hx;cases e2:f x with
  | none =>
   rw[e2] at h5;exact fun z=>by rw[atKey_put_other hne];exact h5 z
  | some u =>
   rw[e2] at h5;exact⟨h5.1,fun z=>by rw[atKey_put_other hne];exact h5.2 z⟩
end
end Go.Proofs.YtodmcdfeldkocaaGreatDoor
namespace Go.Proofs.YtodmcdfeldkocaaGreatDoor
open Go.RowKit
def acI (o:Obj):Prop:=∀c e fz,o ≠ .cells c e fz
structure Fr (E:List Nat) (W W':World):Prop where
 size:W.heap.size≤W'.heap.size
 cells :∀(k:Nat) c (e:TypeId) fz,W.heap[k]? = some (.cells c e fz)→e∉E→W'.heap[k]? = some (.cells c e fz)
 others :∀(k:Nat) o,W.heap[k]? = some o→acI o→W'.heap[k]? = some o
theorem Fr.maps {E:List Nat} {W W':World} (h:Fr E W W') :∀(k:Nat) es c,W.heap[k]? = some (.map es c)→W'.heap[k]? = some (.map es c):=fun k _ _ hk=>h.others k _ hk fun _ _ _ e=>by cases e
section
variable {E E':List Nat} {W W' W2:World}
theorem Fr.refl (E:List Nat) (W:World):Fr E W W:=⟨ah _,fun _ _ _ _ h _=>h,fun _ _ h _=>h⟩
theorem Fr.trans (h:Fr E W W') (k:Fr E W' W2):Fr E W W2:=⟨aL h.size k.size,fun i c e fz hi he=>k.cells i c e fz (h.cells i c e fz hi he) he,fun i o hi ho=>k.others i o (h.others i o hi ho) ho⟩
theorem Fr.mono (h:Fr E W W') (he :∀e∈E,e∈E'):Fr E' W W':=⟨h.size,fun i c e fz hi hn=>h.cells i c e fz hi fun hm=>hn (he e hm),h.others⟩
theorem Fr.af (h:Below W.heap.size W W'):Fr E W W':=⟨h.size,fun k _ _ _ hk _=>(h.block k (aO.1 hk).1).trans hk,fun k _ hk _=>(h.block k (aO.1 hk).1).trans hk⟩
theorem Fr.alloc (o:Obj):Fr E W (W.alloc o):=Fr.af ((Below.refl _ W).alloc (ah _) o)
theorem Fr.drew (h:Fr E W W'):Fr E W W'.drew:=⟨h.size,h.cells,h.others⟩
theorem Fr.set {g:Nat} {cs:Array Value} {ty:TypeId} {fz:Nat×Nat} (h:W.heap[g]? = some (.cells cs ty fz)) (he:ty∈E) (j:Nat) (v:Value):Fr E W (W.setCell ⟨g,j,none⟩ v) :=
 ⟨by simp[World.setCell],fun k c e f hk hn=>(Below.heap_setCell W ⟨g,j,none⟩ v k (fun(e':k=g)=>by
  subst e';rw[h] at hk;injection hk with hk;injection hk with _ hk;exact hn (hk▸he))).trans hk,fun k o hk ho=>(Below.heap_setCell W ⟨g,j,none⟩ v k (fun(e':k=g)=>by
  subst e';rw[h] at hk;injection hk with hk;exact ho _ _ _ hk.symm)).trans hk⟩
theorem Fr.but {B ty s n:Nat} {v:Value} {xs:List Value} (hr:W.ownsRow B ty s v n xs) (he:ty∈E) (h:rf v.ownBlock W W'):Fr E W W':=by
 have key :∀(k:Nat) (o:Obj),W.heap[k]? = some o→(∀c fz,o ≠ .cells c ty fz)→W'.heap[k]? = some o:=fun k o hk ho=>(h.2 k (aO.1 hk).1 fun ek=>by
  obtain⟨c,fz,h1⟩:=Lib.ownsRow_kind hr k ek;rw[hk] at h1;injection h1 with h1;exact ho _ _ h1).trans hk
 exact⟨h.1,fun k c e fz hk hn=>key k _ hk fun c' XY e1=>by injection e1 with _ e1;exact hn (e1▸he),fun k o hk ho=>key k _ hk fun _ _ e1=>ho _ _ _ e1⟩
theorem Fr.row {B e s n:Nat} {v:Value} {xs:List Value} (h:Fr E W W') (hr:W.ownsRow B e s v n xs) (he:e∉E):W'.ownsRow B e s v n xs:=by
 refine⟨hr.1,?_⟩;rcases hr.2 with hn | ⟨g,cap,cur,rfl,hB,hg,rest⟩
 ·exact .inl hn
 ·exact .inr ⟨g,cap,cur,rfl,hB,h.cells g _ _ _ hg he,rest⟩
theorem Fr.map {P:Program} {k:TypeId} {b n:Nat} {f:ByteArray→Option Value} (h:Fr E W W') (hm:dL P k W b n f):dL P k W' b n f:=by
 obtain⟨es,c,h1⟩:=hm.isMap;exact hm.same ((h.maps b es c h1).trans h1.symm)
theorem Fr.XZ {ty:TypeId} (h:Fr [ty] W W'):KG ty W W':=⟨h.size,fun k c e fz hk he=>h.cells k c e fz hk (by simpa using he)⟩
end
structure lR (W:World) (B:Nat) (v:Value) (L:List nU):Prop where
 row:W.ownsRow B 43 6 v L.length (L.flatMap RY)
 vars :∀t∈L,W.ownsRow B 199 3 t.2.1 t.1.vars.length (t.1.vars.flatMap ux)
 cr :∀t∈L,W.ownsRow B 225 2 t.2.2 t.1.cr.length (t.1.cr.flatMap KH)
 qg :∀(i j:Nat) t u,i≠j→L[i]? = some t→L[j]? = some u→∀g,t.2.1.ownBlock=some g→u.2.1.ownBlock≠some g
 rA :∀(i j:Nat) t u,i≠j→L[i]? = some t→L[j]? = some u→∀g,t.2.2.ownBlock=some g→u.2.2.ownBlock≠some g
theorem lR.XZ {W W':World} {B:Nat} {ty:TypeId} {v:Value} {L:List nU} (h:lR W B v L) (ho:KG ty W W') (h1:(43:Nat)≠ty) (h2:(199:Nat)≠ty) (h3:(225:Nat)≠ty):lR W' B v L :=
 ⟨db h.row ho h1,fun t ht=>db (h.vars t ht) ho h2,fun t ht=>db (h.cr t ht) ho h3,h.qg,h.rA⟩
theorem lR.form {W:World} {B:Nat} {fv:Value} {L:List nU} (h:lR W B fv L) {f:Nat} {t:nU} (hf:L[f]? = some t) :∃g c,fv=.slice (some ⟨g,0,none⟩) L.length c∧B≤g∧g<W.heap.size∧∀j,j<6→W.cell? ⟨g,f*6+j,none⟩=(RY t)[j]?∧W.frozen? ⟨g,f*6+j,none⟩=false:=by
 have hl:=(aK.1 hf).1;rcases h.row.2 with ⟨_,h0⟩ | ⟨g,cap,cur,rfl,hB,hg,_⟩
 ·omega
 ·refine⟨g,cap,rfl,hB,(aO.1 hg).1,fun j hj=>⟨?_,World.ownsRow.frozenAt h.row _⟩⟩
  rw[World.ownsRow.cellAt h.row (f*6+j) (by omega)]
  exact iy qe L f j t hf hj
theorem lR.LN {W W1:World} {B:Nat} {g c f:Nat} {L:List nU} {t:nU} (h:lR W B (.slice (some ⟨g,0,none⟩) L.length c) L) (hf:L[f]? = some t) (hb:rf t.2.1.ownBlock W W1) {v':Value} {vs:List vU} (hv:W1.ownsRow B 199 3 v' vs.length (vs.flatMap ux)) (hn :∀k,v'.ownBlock=some k→t.2.1.ownBlock=some k∨W.heap.size≤k) :
  lR (W1.setCell ⟨g,f*6+4,none⟩ v') B (.slice (some ⟨g,0,none⟩) L.length c) (L.set f ({ t.1 with vars:=vs},v',t.2.2)):=by
 have hl:=(aK.1 hf).1;have Hx:=aX hf;have qh:=hb.row h.row (fun k hk e=>ed h.row (h.vars t Hx) (by decide) k hk e)
 have hst:=(World.ownsRow.stored qh (f*6+4) v').1;have LO :∃cs fz,W1.heap[g]? = some (.cells cs 43 fz):=Lib.ownsRow_kind qh g rfl;obtain⟨cs,fz,RZ⟩:=LO;have Dg:=KG.set RZ (f*6+4) v';refine⟨?_,fun u hu=>?_,fun u hu=>?_,fun i j u w' vT hi hj k hk=>?_,fun i j u w' vT hi hj k hk=>?_⟩
 ·rw[kL,qf qe L f 4 t _ v' hf (by omega) rfl]
  exact hst
 ·obtain⟨i,hi⟩:=jz.1 hu
  by_cases e:f=i
  ·subst e
   rw[dS hl] at hi;injection hi with hi;subst hi;exact db hv Dg (by decide)
  ·rw[fL e] at hi
   exact db (hb.row (h.vars u (aX hi)) (fun k hk=>fun ek=>h.qg i f u t (fun e'=>e e'.symm) hi hf k hk ek)) Dg (by decide)
 ·obtain⟨i,hi⟩:=jz.1 hu
  have key :∀u∈L,(W1.setCell ⟨g,f*6+4,none⟩ v').ownsRow B 225 2 u.2.2 u.1.cr.length (u.1.cr.flatMap KH):=fun u hu=>db (hb.row (h.cr u hu) (fun k hk e=>ed (h.cr u hu) (h.vars t Hx) (by decide) k hk e)) Dg (by decide)
  by_cases e:f=i
  ·subst e
   rw[dS hl] at hi;injection hi with hi;subst hi;exact key t Hx
  ·rw[fL e] at hi
   exact key u (aX hi)
 ·by_cases e1:f=i
  ·subst e1
   rw[dS hl] at hi;injection hi with hi;subst hi;rw[fL vT] at hj;intro hk2;rcases hn k hk with h1|h1
   ·exact h.qg f j t w' vT hf hj k h1 hk2
   ·have:=((h.vars w' (aX hj)).lt k hk2).2
    omega
  ·rw[fL e1] at hi
   by_cases e2:f=j
   ·subst e2
    rw[dS hl] at hj;injection hj with hj;subst hj;intro hk2;rcases hn k hk2 with h1|h1
    ·exact h.qg i f u t vT hi hf k hk h1
    ·have:=((h.vars u (aX hi)).lt k hk).2
     omega
   ·rw[fL e2] at hj
    exact h.qg i j u w' vT hi hj k hk
 ·have key :∀(i:Nat) u,(L.set f ({ t.1 with vars:=vs},v',t.2.2))[i]? = some u→∃u',L[i]? = some u'∧u.2.2=u'.2.2:=fun i u hi=>by
   by_cases e1:f=i
   ·subst e1
    rw[dS hl] at hi;injection hi with hi;subst hi;exact⟨t,hf,rfl⟩
   ·rw[fL e1] at hi
    exact⟨u,hi,rfl⟩
  obtain⟨u1,a1,a2⟩:=key i u hi;obtain⟨u2,b1,b2⟩:=key j w' hj;rw[a2] at hk;rw[b2];exact h.rA i j u1 u2 vT a1 b1 k hk
theorem lR.R9 {W W1:World} {B:Nat} {g c f:Nat} {L:List nU} {t:nU} (h:lR W B (.slice (some ⟨g,0,none⟩) L.length c) L) (hf:L[f]? = some t) (hb:rf t.2.2.ownBlock W W1) {v':Value} {vs:List tx} (hv:W1.ownsRow B 225 2 v' vs.length (vs.flatMap KH)) (hn :∀k,v'.ownBlock=some k→t.2.2.ownBlock=some k∨W.heap.size≤k) :
  lR (W1.setCell ⟨g,f*6+5,none⟩ v') B (.slice (some ⟨g,0,none⟩) L.length c) (L.set f ({ t.1 with cr:=vs},t.2.1,v')):=by
 have hl:=(aK.1 hf).1;have Hx:=aX hf;have qh:=hb.row h.row (fun k hk e=>ed h.row (h.cr t Hx) (by decide) k hk e)
 have hst:=(World.ownsRow.stored qh (f*6+5) v').1;obtain⟨cs,fz,RZ⟩ :∃cs fz,W1.heap[g]? = some (.cells cs 43 fz):=Lib.ownsRow_kind qh g rfl;have Dg:=KG.set RZ (f*6+5) v';refine⟨?_,fun u hu=>?_,fun u hu=>?_,fun i j u w' vT hi hj k hk=>?_,fun i j u w' vT hi hj k hk=>?_⟩
 ·rw[kL,qf qe L f 5 t _ v' hf (by omega) rfl]
  exact hst
 ·obtain⟨i,hi⟩:=jz.1 hu
  have key :∀u∈L,(W1.setCell ⟨g,f*6+5,none⟩ v').ownsRow B 199 3 u.2.1 u.1.vars.length (u.1.vars.flatMap ux):=fun u hu=>db (hb.row (h.vars u hu) (fun k hk e=>ed (h.vars u hu) (h.cr t Hx) (by decide) k hk e)) Dg (by decide)
  by_cases e:f=i
  ·subst e
   rw[dS hl] at hi;injection hi with hi;subst hi;exact key t Hx
  ·rw[fL e] at hi
   exact key u (aX hi)
 ·obtain⟨i,hi⟩:=jz.1 hu
  by_cases e:f=i
  ·subst e
   rw[dS hl] at hi;injection hi with hi;subst hi;exact db hv Dg (by decide)
  ·rw[fL e] at hi
   exact db (hb.row (h.cr u (aX hi)) (fun k hk=>fun ek=>h.rA i f u t (fun e'=>e e'.symm) hi hf k hk ek)) Dg (by decide)
 ·have key :∀(i:Nat) u,(L.set f ({ t.1 with cr:=vs},t.2.1,v'))[i]? = some u→∃u',L[i]? = some u'∧u.2.1=u'.2.1:=fun i u hi=>by
   by_cases e1:f=i
   ·subst e1
    rw[dS hl] at hi;injection hi with hi;subst hi;exact⟨t,hf,rfl⟩
   ·rw[fL e1] at hi
    exact⟨u,hi,rfl⟩
  obtain⟨u1,a1,a2⟩:=key i u hi;obtain⟨u2,b1,b2⟩:=key j w' hj;rw[a2] at hk;rw[b2];exact h.qg i j u1 u2 vT a1 b1 k hk
 ·by_cases e1:f=i
  ·subst e1
   rw[dS hl] at hi;injection hi with hi;subst hi;rw[fL vT] at hj;intro hk2;rcases hn k hk with h1|h1
   ·exact h.rA f j t w' vT hf hj k h1 hk2
   ·have:=((h.cr w' (aX hj)).lt k hk2).2
    omega
  ·rw[fL e1] at hi
   by_cases e2:f=j
   ·subst e2
    rw[dS hl] at hj;injection hj with hj;subst hj;intro hk2;rcases hn k hk2 with h1|h1
    ·exact h.rA i f u t vT hi hf k hk h1
    ·have:=((h.cr u (aX hi)).lt k hk).2
     omega
   ·rw[fL e2] at hj
    exact h.rA i j u w' vT hi hj k hk
structure eW (W:World) (B b:Nat) (nv:Value) (N:Nat) (st:aI) (fv:Value) (ub ob:Nat) (L:List nU):Prop where
 blk:W.heap[b]? = some (.cells #[nv,fv,.slice (some ⟨ub,0,none⟩) N N,.slice (some ⟨ob,0,none⟩) N N] 64 (0,0))
 fns:lR W B fv L
 are:L.map (·.1)=st.fns
 uses:eV W B 140 2 ub N (vV st.uses)
 vX:eV W B 3 1 ob N (Hv st.of)
 pos:B≤b
section
variable {W W1 W':World} {B b:Nat} {nv:Value} {N:Nat} {st:aI} {fv:Value} {ub ob:Nat} {L:List nU}
theorem eW.on {s2:aI} (h:eW W B b nv N st fv ub ob L) (e1:s2.fns=st.fns) (e2:s2.uses=st.uses) (e3:s2.of=st.of):eW W B b nv N s2 fv ub ob L :=
 ⟨h.blk,h.fns,by rw[e1];exact h.are,by rw[e2];exact h.uses,by rw[e3];exact h.vX,h.pos⟩
theorem eW.fr {E:List Nat} (h:eW W B b nv N st fv ub ob L) (k:Fr E W W') (he:(64:Nat)∉E∧(43:Nat)∉E∧(199:Nat)∉E∧(225:Nat)∉E∧(140:Nat)∉E∧(3:Nat)∉E):eW W' B b nv N st fv ub ob L :=
 ⟨k.cells b _ _ _ h.blk he.1,⟨k.row h.fns.row he.2.1,fun t ht=>k.row (h.fns.vars t ht) he.2.2.1,fun t ht=>k.row (h.fns.cr t ht) he.2.2.2.1,h.fns.qg,h.fns.rA⟩,h.are,k.row h.uses he.2.2.2.2.1,k.row h.vX he.2.2.2.2.2,h.pos⟩
theorem eW.drew (h:eW W B b nv N st fv ub ob L):eW W.drew B b nv N st fv ub ob L:=h.fr (E:=[]) (Fr.refl _ W).drew (by decide)
theorem eW.alloc (h:eW W B b nv N st fv ub ob L) (o:Obj):eW (W.alloc o) B b nv N st fv ub ob L:=h.fr (E:=[]) (Fr.alloc o) (by decide)
theorem eW.later (h:eW W B b nv N st fv ub ob L) (hb:Below W.heap.size W W'):eW W' B b nv N st fv ub ob L:=h.fr (E:=[]) (Fr.af hb) (by decide)
theorem eW.LP (h:eW W B b nv N st fv ub ob L) (ho:Fr [140] W W') {u:Nat→Int×Int} (hu:eV W' B 140 2 ub N (vV u)):eW W' B b nv N { st with uses:=u} fv ub ob L :=
 ⟨ho.cells b _ _ _ h.blk (by decide),h.fns.XZ ho.XZ (by decide) (by decide) (by decide),h.are,hu,ho.row h.vX (by decide),h.pos⟩
theorem eW.Sa (h:eW W B b nv N st fv ub ob L) (ho:Fr [3] W W') {o:Nat→Int} (hu:eV W' B 3 1 ob N (Hv o)):eW W' B b nv N { st with of:=o} fv ub ob L :=
 ⟨ho.cells b _ _ _ h.blk (by decide),h.fns.XZ ho.XZ (by decide) (by decide) (by decide),h.are,ho.row h.uses (by decide),hu,h.pos⟩
theorem lS (h:eW W B b nv N st fv ub ob L) (i:Nat) (x y:Value):Fr [140] W ((W.setCell ⟨ub,i*2,none⟩ x).setCell ⟨ub,i*2+1,none⟩ y):=by
 obtain⟨cs,hc⟩:=kU h.uses;obtain⟨cs',hc'⟩:=kU (qd h.uses (i*2) x);exact(Fr.set hc (by decide) _ _).trans (Fr.set hc' (by decide) _ _)
theorem eW.use (h:eW W B b nv N st fv ub ob L) (i:Nat) (x:Int×Int):eW ((W.setCell ⟨ub,i*2,none⟩ (.int .i64 x.1)).setCell ⟨ub,i*2+1,none⟩ (.int .i64 x.2)) B b nv N (st.dt i x) fv ub ob L :=
 h.LP (lS h i _ _) (LI h.uses i x)
theorem uB (h:eW W B b nv N st fv ub ob L) (i:Nat) (x:Value):Fr [3] W (W.setCell ⟨ob,i,none⟩ x):=by
 obtain⟨cs,hc⟩:=kU h.vX;exact Fr.set hc (by decide) _ _
theorem eW.of_ (h:eW W B b nv N st fv ub ob L) (i f:Nat):eW (W.setCell ⟨ob,i,none⟩ (.int .i64 (f:Int))) B b nv N (st.setOf i f) fv ub ob L :=
 h.Sa (uB h i _) (LJ h.vX i (f:Int))
theorem eW.jc (h:eW W B b nv N st fv ub ob L):B≤ub∧B≤ob:=⟨(h.uses.lt ub rfl).1,(h.vX.lt ob rfl).1⟩
theorem uC (h:eW W B b nv N st fv ub ob L) (i:Nat) (x y:Value):Below B W ((W.setCell ⟨ub,i*2,none⟩ x).setCell ⟨ub,i*2+1,none⟩ y):=((Below.refl B W).setCell (p:=⟨ub,i*2,none⟩) h.jc.1 x).setCell (p:=⟨ub,i*2+1,none⟩) h.jc.1 y
theorem eW.Aw {W2:World} (h:eW W B b nv N st fv ub ob L) {ty:TypeId} (ho:Fr [ty] W W1) (h1:(64:Nat)≠ty∧(140:Nat)≠ty∧(3:Nat)≠ty) (Hy:Fr [43] W1 W2) {L':List nU} {F':List dr} (hF:lR W2 B fv L') (ha:L'.map (·.1)=F'):eW W2 B b nv N { st with fns:=F'} fv ub ob L' :=
 ⟨Hy.cells b _ _ _ (ho.cells b _ _ _ h.blk (by simpa using h1.1)) (by decide),hF,ha,Hy.row (ho.row h.uses (by simpa using h1.2.1)) (by decide),Hy.row (ho.row h.vX (by simpa using h1.2.2)) (by decide),h.pos⟩
theorem eW.sC (h:eW W B b nv N st fv ub ob L) {f:Nat} {t:nU} (hf:L[f]? = some t):st.fns[f]? = some t.1∧st.fn f=t.1:=by
 have:st.fns[f]? = some t.1:=by rw[←h.are,eO,hf];rfl
 exact⟨this,by unfold aI.fn;rw[jZ,this];rfl⟩
theorem eW.Ax (h:eW W B b nv N st fv ub ob L) {f:Nat} (hf:f<st.fns.length) :∃t,L[f]? = some t:=⟨L[f]'(by have:=aw List.length h.are;rw[bU] at this;omega),bG _⟩
theorem eW.len (h:eW W B b nv N st fv ub ob L):L.length=st.fns.length:=by have:=aw List.length h.are;rwa[bU] at this
theorem eW.LQ {g c f:Nat} {t:nU} (h:eW W B b nv N st (.slice (some ⟨g,0,none⟩) L.length c) ub ob L) (hf:L[f]? = some t) (hb:rf t.2.1.ownBlock W W1) {v':Value} {vs:List vU} (hv:W1.ownsRow B 199 3 v' vs.length (vs.flatMap ux)) (hn :∀k,v'.ownBlock=some k→t.2.1.ownBlock=some k∨W.heap.size≤k) :
  eW (W1.setCell ⟨g,f*6+4,none⟩ v') B b nv N (st.oN f { t.1 with vars:=vs}) (.slice (some ⟨g,0,none⟩) L.length c) ub ob (L.set f ({ t.1 with vars:=vs},v',t.2.2))∧Fr [43,199,225] W (W1.setCell ⟨g,f*6+4,none⟩ v'):=by
 have Hx:=aX hf;have ho:Fr [199] W W1:=Fr.but (h.fns.vars t Hx) (by decide) hb
 have qh:=hb.row h.fns.row (fun k hk e=>ed h.fns.row (h.fns.vars t Hx) (by decide) k hk e)
 obtain⟨cs,fz,RZ⟩ :∃cs fz,W1.heap[g]? = some (.cells cs 43 fz):=Lib.ownsRow_kind qh g rfl;refine⟨h.Aw ho (by decide) (Fr.set RZ (by decide) (f*6+4) v') (h.fns.LN hf hb hv hn) ?_,(ho.mono (by decide)).trans ((Fr.set (E:=[43]) RZ (by decide) _ _).mono (by decide))⟩
 rw[mZ,h.are]
theorem eW.Sb {g c f:Nat} {t:nU} (h:eW W B b nv N st (.slice (some ⟨g,0,none⟩) L.length c) ub ob L) (hf:L[f]? = some t) (hb:rf t.2.2.ownBlock W W1) {v':Value} {vs:List tx} (hv:W1.ownsRow B 225 2 v' vs.length (vs.flatMap KH)) (hn :∀k,v'.ownBlock=some k→t.2.2.ownBlock=some k∨W.heap.size≤k) :
  eW (W1.setCell ⟨g,f*6+5,none⟩ v') B b nv N (st.oN f { t.1 with cr:=vs}) (.slice (some ⟨g,0,none⟩) L.length c) ub ob (L.set f ({ t.1 with cr:=vs},t.2.1,v'))∧Fr [43,199,225] W (W1.setCell ⟨g,f*6+5,none⟩ v'):=by
 have Hx:=aX hf;have ho:Fr [225] W W1:=Fr.but (h.fns.cr t Hx) (by decide) hb
 have qh:=hb.row h.fns.row (fun k hk e=>ed h.fns.row (h.fns.cr t Hx) (by decide) k hk e)
 obtain⟨cs,fz,RZ⟩ :∃cs fz,W1.heap[g]? = some (.cells cs 43 fz):=Lib.ownsRow_kind qh g rfl;refine⟨h.Aw ho (by decide) (Fr.set RZ (by decide) (f*6+5) v') (h.fns.R9 hf hb hv hn) ?_,(ho.mono (by decide)).trans ((Fr.set (E:=[43]) RZ (by decide) _ _).mono (by decide))⟩
 rw[mZ,h.are]
end
theorem eW.cap {W:World} {B b:Nat} {nv:Value} {N:Nat} {st:aI} {fv:Value} {ub ob:Nat} {L:List nU} {f i gv c:Nat} {y:dr} {yu:Value} {v:vU} (h:eW W B b nv N st fv ub ob L) (hf:L[f]? = some (y,.slice (some ⟨gv,0,none⟩) y.vars.length c,yu)) (hi:y.vars[i]? = some v) :
  eW (W.setCell ⟨gv,i*3+2,none⟩ (.bool true)) B b nv N (st.oN f (cZ y i)) fv ub ob (L.set f (cZ y i,.slice (some ⟨gv,0,none⟩) y.vars.length c,yu)):=by
 have hl:=(aK.1 hf).1;have hm:=aX hf;have hr:=h.fns.vars _ hm;obtain⟨cs,fz,hk⟩:=Lib.ownsRow_kind hr gv rfl;have ho:=KG.set hk (i*3+2) (.bool true);have hb:=rf.set W gv (i*3+2) (.bool true);have Ay:cZ y i={ y with vars:=y.vars.set i { v with cap:=true}}:=by unfold cZ;rw[hi]
 have hst:=(World.ownsRow.stored hr (i*3+2) (.bool true)).1;have hlen:(cZ y i).vars.length=y.vars.length:=by rw[Ay];simp
 have get :∀(j:Nat) t,(L.set f (cZ y i,.slice (some ⟨gv,0,none⟩) y.vars.length c,yu))[j]? = some t→(j=f∧t=(cZ y i,.slice (some ⟨gv,0,none⟩) y.vars.length c,yu))∨(j≠f∧L[j]? = some t):=fun j t hj=>by
  by_cases e:f=j
  ·subst e
   rw[dS hl] at hj;injection hj with hj;exact .inl ⟨rfl,hj.symm⟩
  ·rw[fL e] at hj
   exact .inr ⟨fun e'=>e e'.symm,hj⟩
 have vals :∀(j:Nat) t,(L.set f (cZ y i,.slice (some ⟨gv,0,none⟩) y.vars.length c,yu))[j]? = some t→∃t',L[j]? = some t'∧t.2=t'.2:=fun j t hj=>by
  rcases get j t hj with ⟨rfl,rfl⟩ | ⟨_,hj⟩
  ·exact⟨_,hf,rfl⟩
  ·exact⟨t,hj,rfl⟩
 refine⟨ho.2 b _ _ _ h.blk (by decide),⟨?_,fun t ht=>?_,fun t ht=>?_,fun p q t u hpq hp hq k iR=>?_,fun p q t u hpq hp hq k iR=>?_⟩,?_,kV h.uses ho (by decide),kV h.vX ho (by decide),h.pos⟩
 ·rw[kL,wW L f _ _ hf (by rw[Ay];rfl)]
  exact db h.fns.row ho (by decide)
 ·obtain⟨j,hj⟩:=jz.1 ht
  rcases get j t hj with ⟨rfl,rfl⟩ | ⟨hne,hj⟩
  ·simp only
   rw[hlen,Ay];simp only;rw[qf As y.vars i 2 v _ (.bool true) hi (by omega) rfl]
   exact hst
  ·exact hb.row (h.fns.vars t (aX hj)) fun k hk e=>by
    injection e with e;subst e;exact h.fns.qg j f t _ hne hj hf gv hk rfl
 ·obtain⟨j,hj⟩:=jz.1 ht
  rcases get j t hj with ⟨rfl,rfl⟩ | ⟨hne,hj⟩
  ·have:=db (h.fns.cr _ hm) ho (by decide)
   simp only at this ⊢;rw[Ay];exact this
  ·exact db (h.fns.cr t (aX hj)) ho (by decide)
 ·obtain⟨t',h1,e1⟩:=vals p t hp
  obtain⟨u',h2,e2⟩:=vals q u hq;rw[e1] at iR;rw[e2];exact h.fns.qg p q t' u' hpq h1 h2 k iR
 ·obtain⟨t',h1,e1⟩:=vals p t hp
  obtain⟨u',h2,e2⟩:=vals q u hq;rw[e1] at iR;rw[e2];exact h.fns.rA p q t' u' hpq h1 h2 k iR
 ·rw[mZ,h.are]
  rfl
theorem Hz:(Tryz.prog.info? 199).map (fun i=>(i.zero,i.size,i.bytes))=some (some (.agg #[.string ⟨#[]⟩,.int .i64 0,.bool false]),3,32):=by kernel_rfl
theorem LS:(Tryz.prog.info? 225).map (fun i=>(i.zero,i.size,i.bytes))=some (some (.agg #[.bool false,.int .i64 0]),2,16):=by kernel_rfl
theorem LU:(Tryz.prog.info? 43).map (fun i=>(i.zero,i.size,i.bytes))=some (some (.agg #[.int .i64 0,.int .i64 0,.int .i64 0,.bool false,.slice none 0 0,.slice none 0 0]),6,80):=by kernel_rfl
theorem Dh:(Tryz.prog.info? 194).map (fun i=>(i.zero,i.size,i.bytes))=some (some (.agg #[.int .i64 0,.map none]),2,16):=by kernel_rfl
end Go.Proofs.YtodmcdfeldkocaaGreatDoor
namespace Go.Proofs.YtodmcdfeldkocaaGreatDoor
theorem H7 {n f:Nat} {l:Int} :∀(ns:List ByteArray) {st st':aI},dO n f l ns st=.ok st'→st'.frames=st.frames:=by
 intro ns;induction ns with
 | nil=>intro st st' h;rw[dO] at h;injection h with h;rw[h]
 | cons s ns ih =>
  intro st st' h;rw[dO] at h;split at h
  ·cases h
  ·have:=ih h
   exact this
theorem uD {n f:Nat} {l:Int} {ns:List ByteArray} {st st':aI} (h:bu n f l ns st=.ok st'):st'.frames=st.frames:=by
 have:=H7 ns h;exact this
theorem yr {n f:Nat} {s:ByteArray} {l:Int} {st st':aI} (h:lL n f s l st=.ok st'):st'.frames=st.frames∧st'.names=st.names:=by
 unfold lL at h;split at h
 ·injection h with h;rw[←h];exact⟨rfl,rfl⟩
 ·split at h
  ·injection h with h;rw[←h];exact⟨rfl,rfl⟩
  ·split at h
   ·cases h
   ·injection h with h;rw[←h];exact⟨rfl,rfl⟩
theorem rB {n f:Nat} {l:Int} {st st':aI} (h:eD n f l st=.ok st'):st'.frames=st.frames∧st'.names=st.names:=by
 unfold eD at h;split at h
 ·cases h
 ·injection h with h;rw[←h];exact⟨rfl,rfl⟩
theorem rC {n f:Nat} {s:ByteArray} {l:Int} {st st':aI} :∀(fr:List fE),dK n f s l st fr=.ok st'→st'.frames=st.frames∧st'.names=st.names:=by
 intro fr;induction fr with
 | nil=>intro h;cases h
 | cons x fr ih =>
  intro h;rw[dK] at h;split at h
  ·exact ih h
  ·split at h
   ·exact ih h
   ·split at h
    ·cases h
    ·injection h with h;rw[←h];exact⟨rfl,rfl⟩
mutual
theorem yt :∀(t:Lt) {f:Nat} {st st':aI},aY t f st=.ok st'→st'.frames=st.frames
 | .mk i h ks,f,j5,st',hr=>by
  rw[ca] at hr;have e0:(j5.setOf i f).frames=j5.frames:=rfl;rw[←e0];generalize j5.setOf i f=st at *;split at hr
  ·split at hr
   ·injection hr with hr;rw[←hr]
   ·cases hr
  split at hr
  ·exact(yr hr).1
  split at hr
  ·obtain⟨s1,e1,hr⟩:=bV hr
   obtain⟨s2,e2,rfl⟩:=ef hr;rfl
  split at hr
  ·obtain⟨s1,e1,hr⟩:=bV hr
   obtain⟨s2,e2,rfl⟩:=ef hr;rfl
  split at hr
  ·obtain⟨s1,e1,e2⟩:=bV hr
   exact(uD e2).trans (kW ks e1)
  split at hr
  ·obtain⟨s2,e2,rfl⟩:=ef hr
   rfl
  split at hr
  ·obtain⟨s2,e2,rfl⟩:=ef hr
   rfl
  split at hr
  ·exact LV ks hr
  split at hr
  ·obtain⟨s1,e1,e2⟩:=bV hr
   exact(kW ks e2).trans (uD e1)
  split at hr
  ·exact(rB hr).1
  split at hr
  ·exact(rC _ hr).1
  exact kW ks hr
theorem kW :∀(ks:List Lt) {f:Nat} {st st':aI},aE ks f st=.ok st'→st'.frames=st.frames
 | [],f,st,st',hr=>by
  rw[eB] at hr;injection hr with hr;rw[hr]
 | k::ks,f,st,st',hr=>by
  rw[eU] at hr;obtain⟨s1,e1,e2⟩:=bV hr;exact(kW ks e2).trans (yt k e1)
theorem LV {i:Nat} {line:Int} {names:List ByteArray} :∀(ks:List Lt) {f:Nat} {st st':aI},ji i line names ks f st=.ok st'→st'.frames=st.frames
 | [],f,st,st',hr=>by
  unfold ji at hr;injection hr with hr;rw[hr]
 | [b],f,st,st',hr=>by
  rw[qb] at hr;obtain⟨s1,e1,hr⟩:=bV hr;obtain⟨s2,e2,rfl⟩:=ef hr;rfl
 | a::b::l,f,st,st',hr=>by
  rw[kS] at hr;obtain⟨s1,e1,e2⟩:=bV hr;exact(LV (b::l) e2).trans (yt a e1)
end
def Still (k:Lt):Prop:=k.hd.kind≠19∧k.hd.kind≠28
mutual
/-- Kids of what acC declare for its own aeo declare. -/
def Lt.Quiet:Lt→Prop
 | .mk _ h ks=>((h.kind≠11∧h.kind≠18)→∀k∈ks,Still k)∧Lt.lT ks
def Lt.lT:List Lt→Prop
 | []=>True
 | k::ks=>Lt.Quiet k∧Lt.lT ks
end
mutual
theorem Fs :∀(t:Lt) {f:Nat} {st st':aI},t.Quiet→Still t→aY t f st=.ok st'→st'.names=st.names
 | .mk i h ks,f,j5,st',hq,hs,hr=>by
  rw[ca] at hr;have e0:(j5.setOf i f).names=j5.names:=rfl;rw[←e0];generalize j5.setOf i f=st at *;unfold Lt.Quiet at hq;obtain⟨hq1,pg⟩:=hq;split at hr
  ·split at hr
   ·injection hr with hr;rw[←hr]
   ·cases hr
  split at hr
  ·exact(yr hr).2
  split at hr
  ·obtain⟨s1,e1,hr⟩:=bV hr
   obtain⟨s2,e2,rfl⟩:=ef hr;rfl
  split at hr
  ·obtain⟨s1,e1,hr⟩:=bV hr
   obtain⟨s2,e2,rfl⟩:=ef hr;rfl
  split at hr
  ·exact absurd ‹h.kind=19› hs.1
  split at hr
  ·obtain⟨s2,e2,rfl⟩:=ef hr
   rfl
  split at hr
  ·obtain⟨s2,e2,rfl⟩:=ef hr
   rfl
  split at hr
  ·exact LW ks pg (hq1 ⟨by omega,by omega⟩) hr
  split at hr
  ·exact absurd ‹h.kind=28› hs.2
  split at hr
  ·exact(rB hr).2
  split at hr
  ·exact(rC _ hr).2
  exact qi ks pg (hq1 ⟨by assumption,by assumption⟩) hr
theorem qi :∀(ks:List Lt) {f:Nat} {st st':aI},Lt.lT ks→(∀k∈ks,Still k)→aE ks f st=.ok st'→st'.names=st.names
 | [],f,st,st',_,_,hr=>by
  rw[eB] at hr;injection hr with hr;rw[hr]
 | k::ks,f,st,st',hq,hs,hr=>by
  rw[eU] at hr;obtain⟨s1,e1,e2⟩:=bV hr;unfold Lt.lT at hq;exact(qi ks hq.2 (fun x hx=>hs x (bO _ hx)) e2).trans (Fs k hq.1 (hs k (bP ..)) e1)
theorem LW {i:Nat} {line:Int} {names:List ByteArray} :∀(ks:List Lt) {f:Nat} {st st':aI},Lt.lT ks→(∀k∈ks,Still k)→ji i line names ks f st=.ok st'→st'.names=st.names
 | [],f,st,st',_,_,hr=>by
  unfold ji at hr;injection hr with hr;rw[hr]
 | [b],f,st,st',_,_,hr=>by
  rw[qb] at hr;obtain⟨s1,e1,hr⟩:=bV hr;obtain⟨s2,e2,rfl⟩:=ef hr;rfl
 | a::b::l,f,st,st',hq,hs,hr=>by
  rw[kS] at hr;obtain⟨s1,e1,e2⟩:=bV hr;unfold Lt.lT at hq;exact(LW (b::l) hq.2 (fun x hx=>hs x (bO _ hx)) e2).trans (Fs a hq.1 (hs a (bP ..)) e1)
end
def dB (f:Nat) (fr:List fE):List fE:=fr.filter fun x=>!x.loop && decide (x.fn=f)
theorem rD {f:Nat} {x:fE} {fr:List fE} (h:x.loop=true∨x.fn≠f):dB f (x::fr)=dB f fr:=by
 unfold dB;rw[List.filter_cons_of_neg];rcases h with h|h
 ·rw[h];simp
 ·simp[h]
theorem uG {f:Nat} {x:fE} {fr:List fE} (h:x.loop=false) (h2:x.fn=f):dB f (x::fr)=x::dB f fr:=by
 unfold dB;rw[List.filter_cons_of_pos];simp[h,h2]
def gS (ks:List Lt) (n:Nat):Nat:=((ks.take n).filter isDecl).length
theorem Az (ks:List Lt):gS ks 0=0:=rfl
theorem uH {ks:List Lt} {n:Nat} {x:Lt} (h:ks[n]? = some x):gS ks (n+1)=gS ks n+if isDecl x then 1 else 0:=by
 unfold gS;rw[lJ _ _ _ h,List.filter_append,bY];congr 1
 cases e:isDecl x<;>simp[e]
theorem LX (ks:List Lt) {m n:Nat} (h:m≤n):gS ks m≤gS ks n:=by
 unfold gS;have:ks.take m=(ks.take n).take m:=by rw[List.take_take,zS h]
 rw[this];exact((List.take_sublist m (ks.take n)).filter _).length_le
theorem LY (ks:List Lt) (n:Nat):gS ks n≤ks.length:=by
 unfold gS;exact aL (List.length_filter_le _ _) (by rw[j4];omega)
theorem Ya {ks:List Lt} {m n:Nat} (h:m≤n):gS ks m<gS ks n↔((ks.take n).drop m).any isDecl=true:=by
 have e:ks.take n=ks.take m++(ks.take n).drop m:=by
  conv=>lhs;rw[←ER m (ks.take n)]
  rw[List.take_take,zS h]
 have e2:gS ks n=gS ks m+(((ks.take n).drop m).filter isDecl).length:=by
  conv=>lhs;unfold gS;rw[e]
  rw[List.filter_append,bY];rfl
 rw[e2,List.any_eq_true];constructor
 ·intro h1
  have h2:0<(((ks.take n).drop m).filter isDecl).length:=by omega
  obtain⟨x,hx⟩:=List.exists_mem_of_length_pos h2;exact⟨x,(wH.1 hx).1,(wH.1 hx).2⟩
 ·rintro⟨x,hx,hd⟩
  have:=List.length_pos_of_mem (wH.2 ⟨hx,hd⟩);omega
def rh (k:Lt):Bool:=decide (k.hd.kind=32)
def kX:List Lt→Nat
 | []=>0
 | k::ks=>if rh k && decide (kX ks=0) then 0 else kX ks+1
theorem rE :∀ks:List Lt,kX ks=0↔ks.all rh=true
 | []=>by simp[kX]
 | k::ks=>by
  rw[kX,sw];have ih:=rE ks;by_cases h:rh k=true
  ·by_cases h2:kX ks=0
   ·rw[ai (by rw[h,h2];rfl),h,ih.1 h2];simp
   ·rw[ab (by rw[h];simpa using h2),h]
    have:¬ ks.all rh=true:=fun e=>h2 (ih.2 e)
    simp only[kP];constructor
    ·intro e;omega
    ·intro e;exact absurd e this
  ·have h:rh k=false:=by simpa using h
   rw[ab (by rw[h];simp),h]
   simp
theorem tE :∀(ks:List Lt) (j:Nat),j<kX ks↔¬ (ks.drop j).all rh=true
 | [],j=>by simp[kX]
 | k::ks,0=>by
  rw[oJ,←rE];omega
 | k::ks,j+1=>by
  rw[List.drop_succ_cons,←tE ks j,kX];split
  ·rename_i h
   simp only[dp,iF] at h;omega
  ·omega
theorem Sc {ks:List Lt} {e:Nat} (he:e≤ks.length) (h1:(ks.drop e).all rh=true) (h2:e=0∨∃x,ks[e-1]? = some x∧rh x=false):kX ks=e:=by
 have h3:¬ e<kX ks:=fun h=>(tE ks e).1 h h1
 rcases h2 with rfl | ⟨x,hx,hl⟩
 ·omega
 ·have h4:e-1<kX ks:=(tE ks (e-1)).2 fun h=>by
   have hlt:=(aK.1 hx).1;have:x∈ks.drop (e-1):=by
    rw[jz];exact⟨0,by rw[wF];exact hx⟩
   rw[List.all_eq_true] at h;rw[h x this] at hl;cases hl
  have h5:e-1<ks.length:=(aK.1 hx).1;rcases su e with h0|h0
  ·subst h0;omega
  ·omega
def rF (ks:List Lt) (rep:Bool) (j:Nat):Nat:=if rep=true∨j<kX ks then gS ks j else 0
theorem drop_at {α:Type} {l:List α} {j:Nat} {x:α} (h:l[j]? = some x):l.drop j=x::l.drop (j+1):=by
 obtain⟨hl,he⟩:=aK.1 h;rw[pR hl,he]
theorem Sd {ks:List Lt} {a j:Nat} {rep:Bool} {x:Lt} (hj:ks[j]? = some x) (hx:rh x=true):lM ks a j rep=decide (gS ks (a+1)<rF ks rep j):=by
 have hall:(ks.drop (j+1)).all rh=(ks.drop j).all rh:=by
  rw[drop_at hj,sw,hx,kP]
 have aaQ:((ks.drop (j+1)).all fun k=>decide (k.hd.kind=32))=(ks.drop j).all rh:=hall
 unfold lM;rw[aaQ];have h1:((ks.take j).drop (a+1)).any isDecl=decide (gS ks (a+1)<gS ks j):=by
  by_cases h:a+1≤j
  ·have:=Ya (ks:=ks) h
   cases e:((ks.take j).drop (a+1)).any isDecl with
   | true=>rw[e] at this;exact(bQ (this.2 rfl)).symm
   | false=>rw[e] at this;exact(bZ fun h=>by have:=this.1 h;cases this).symm
  ·have h2:(ks.take j).drop (a+1)=[]:=List.drop_eq_nil_iff.2 (by rw[j4];omega)
   rw[h2];have:=LX ks (show j≤a+1 by omega)
   exact(bZ (by omega)).symm
 rw[h1];unfold rF;cases rep with
 | true=>simp
 | false =>
  have h3:=tE ks j;cases e:(ks.drop j).all rh with
  | true =>
   rw[e] at h3;have h4:¬ j<kX ks:=fun h=>(h3.1 h) rfl
   rw[ab (by simpa using h4)]
   simp
  | false =>
   rw[e] at h3;rw[ai (.inr (h3.2 (by simp)))]
   simp
def ng (ks:List Lt) (rep:Bool) (n:Nat) (s:ByteArray):Option (Nat×Nat) :=
 match cu ks s with
 | some j=>if j<n then some ((ks.getD j (.mk 0 ⟨0,0,0,0,⟨#[]⟩,[],[]⟩ [])).loc,rF ks rep j) else none
 | none=>none
theorem H9 (ks:List Lt) (rep:Bool) (s:ByteArray):ng ks rep 0 s=none:=by
 unfold ng;split
 ·rw[ab (by omega)]
 ·rfl
theorem uI {ks:List Lt} {s:ByteArray} {j:Nat} (h:cu ks s=some j) :∃x,ks[j]? = some x∧mu s x=true∧j<ks.length:=by
 obtain⟨hlt,he,_⟩:=zH.1 h;exact⟨ks[j],bG hlt,he,hlt⟩
theorem AA (ks:List Lt) (rep:Bool) (s:ByteArray):ng ks rep ks.length s=(cu ks s).map fun j=>((ks.getD j (.mk 0 ⟨0,0,0,0,⟨#[]⟩,[],[]⟩ [])).loc,rF ks rep j):=by
 unfold ng;cases h:cu ks s with
 | none=>rfl
 | some j =>
  obtain⟨_,_,_,hlt⟩:=uI h;exact ai hlt
theorem uJ {ks:List Lt} {rep:Bool} {n:Nat} {x:Lt} (hx:ks[n]? = some x) {s:ByteArray} (h:mu s x=false):ng ks rep (n+1) s=ng ks rep n s:=by
 unfold ng;cases h1:cu ks s with
 | none=>rfl
 | some j =>
  obtain⟨y,hy,hl,_⟩:=uI h1;have:j≠n:=fun e=>by
   subst e;rw[hx] at hy;injection hy with hy;rw[hy,hl] at h;cases h
  dsimp only
  by_cases h2:j<n
  ·rw[ai h2,ai (by omega)]
  ·rw[ab h2,ab (by omega)]
theorem Ia {ks:List Lt} {rep:Bool} {n:Nat} {x:Lt} (hx:ks[n]? = some x) (h:rh x=true) (hn:¬∃j,cu ks x.hd.s=some j∧j<n):ng ks rep (n+1) x.hd.s=some (x.loc,rF ks rep n):=by
 have hi:mu x.hd.s x=true:=by unfold mu;unfold rh at h;rw[h];simp
 have h1:cu ks x.hd.s=some n:=by
  cases e:cu ks x.hd.s with
  | none =>
   unfold cu at e;rw[List.findIdx?_eq_none_iff] at e;rw[e x (aX hx)] at hi;cases hi
  | some j =>
   have hj:¬ j<n:=fun hj=>hn ⟨j,e,hj⟩
   obtain⟨hlt,he,acJ⟩:=zH.1 e;by_cases h2:n<j
   ·have:=acJ n h2
    rw[(aK.1 hx).2] at this;rw[hi] at this;exact absurd rfl this
   ·congr 1;omega
 unfold ng;rw[h1];dsimp only
 rw[ai (by omega),jZ,hx]
 rfl
theorem LZ {ks:List Lt} {rep:Bool} {n:Nat} {s:ByteArray}:(ng ks rep n s).isSome=true↔∃j,cu ks s=some j∧j<n:=by
 unfold ng;cases h:cu ks s with
 | none=>simp
 | some j =>
  dsimp only
  by_cases h2:j<n
  ·rw[ai h2];simp[h2]
  ·rw[ab h2]
   simp[h2]
theorem nW {node f:Nat} {s:ByteArray} {line:Int} {st:aI} :∀fr:List fE,dK node f s line st fr=match (dB f fr).find? fun x=>(cu x.kids s).isSome with
  | none=>.error (8,line)
  | some x=>match cu x.kids s with
   | none=>.error (8,line)
   | some j=>if lM x.kids x.at_ j x.rep then .error (10,line) else .ok (st.dt node (4,((x.kids.getD j (.mk 0 ⟨0,0,0,0,⟨#[]⟩,[],[]⟩ [])).loc:Int)))
 | []=>rfl
 | x::fr=>by
  rw[dK];by_cases h:x.loop=true∨x.fn≠f
  ·rw[ai h,rD h]
   exact nW fr
  ·rw[ab h]
   rw[not_or,Decidable.not_not] at h;have h1:x.loop=false:=by simpa using h.1
   rw[uG h1 h.2,kO];cases e:cu x.kids s with
   | none=>exact nW fr
   | some j =>
    dsimp only[Option.isSome]
    rw[e]
def cM (f:Nat) (fr:List fE):Int:=match fr.find? (fun x=>x.loop && decide (x.fn=f)) with|none=>-1|some x=>(x.node:Int)
theorem uK (f i:Nat) (fr:List fE):cM f (⟨f,i,0,true,false,[]⟩::fr)=(i:Int):=by
 unfold cM;rw[kO];simp
theorem uL {f:Nat} {x:fE} (h:x.loop=false) (fr:List fE):cM f (x::fr)=cM f fr:=by
 unfold cM;rw[kO,h];rfl
theorem L0 (node f:Nat) (line:Int) (st:aI):eD node f line st=if cM f st.frames = -1 then .error (8,line) else .ok (st.dt node (4,cM f st.frames)):=by
 unfold eD cM;cases st.frames.find? (fun x=>x.loop && decide (x.fn=f)) with
 | none=>rfl
 | some x=>exact(ab (by show ¬ (x.node:Int) = -1;omega)).symm
theorem L7 {fr:List fE} {f:Nat} {s:ByteArray}:(∃x∈fr,x.loop=false∧x.fn=f∧(cu x.kids s).isSome)↔((dB f fr).find? fun x=>(cu x.kids s).isSome).isSome=true:=by
 rw[List.find?_isSome];unfold dB;constructor
 ·rintro⟨x,hx,h1,h2,h3⟩
  exact⟨x,wH.2 ⟨hx,by simp[h1,h2]⟩,h3⟩
 ·rintro⟨x,hx,h3⟩
  obtain⟨h1,h2⟩:=wH.1 hx;simp only[dp,Bool.not_eq_true',iF] at h2;exact⟨x,h1,h2.1,h2.2,h3⟩
end Go.Proofs.YtodmcdfeldkocaaGreatDoor
namespace Go.Proofs.YtodmcdfeldkocaaGreatDoor
open Go.RowKit
structure cR where
 fn:Nat
 blk:Nat
 iz:List jw
def Ft (l:cR):List Value:=[.int .i64 (l.fn:Int),.map (some l.blk)]
theorem yw (l:cR):(Ft l).length=2:=rfl
def jX (iz:List jw) (s:ByteArray):Option Value:=(iz.find? fun n=>decide (n.s=s)).map fun n=>.int .i64 (n.i:Int)
def mz (L:List cR):List jw:=L.flatMap cR.iz
def grow (a:List jw):List cR→List cR
 | []=>[]
 | l::r=>{ l with iz:=a++l.iz}::r
theorem jH (L:List cR):grow [] L=L:=by cases L<;>rfl
theorem cz (a:List jw) (L:List cR):(grow a L).length=L.length:=by cases L<;>rfl
theorem grow_grow (a b:List jw) (L:List cR):grow b (grow a L)=grow (b++a) L:=by
 cases L with
 | nil=>rfl
 | cons l r=>simp[grow,cP]
theorem Ib {a:List jw} {L:List cR} (h:L≠[]):mz (grow a L)=a++mz L:=by
 cases L with
 | nil=>exact absurd rfl h
 | cons l r=>simp[grow,mz,cP]
def eh:List cR→Option Nat
 | []=>none
 | l::_=>some l.blk
theorem nX (a:List jw) (L:List cR):eh (grow a L)=eh L:=by cases L<;>rfl
theorem uM (a:List jw) (L:List cR):(grow a L).map cR.blk=L.map cR.blk:=by cases L<;>rfl
theorem rG (s:ByteArray) :∀L:List cR,(mz L).find? (fun n=>decide (n.s=s))=(L.find? fun l=>(jX l.iz s).isSome).bind fun l=>l.iz.find? fun n=>decide (n.s=s)
 | []=>rfl
 | l::L=>by
  show(l.iz++mz L).find? _=_
  rw[List.find?_append,kO];unfold jX;cases e:l.iz.find? fun n=>decide (n.s=s) with
  | none =>
   dsimp only[Option.map,Option.isSome]
   rw[Option.none_or];exact rG s L
  | some n =>
   dsimp only[Option.map,Option.isSome]
   rw[Option.some_or];exact e.symm
structure df (W:World) (B:Nat) (v:Value) (L:List cR):Prop where
 row:W.ownsRow B 194 2 v L.length (L.reverse.flatMap Ft)
 maps :∀l∈L,dL Tryz.prog 9 W l.blk l.iz.length (jX l.iz)∧B≤l.blk
 own :∀l∈L,∀n∈l.iz,n.fn=l.fn
 apart:(L.map cR.blk).Nodup
def fG (ks:List Lt) (rep:Bool) (n:Nat) (s:ByteArray):Option Value:=(ng ks rep n s).map fun p=>.agg #[.int .i64 (p.1:Int),.int .i64 (p.2:Int)]
def cb (W:World) (B:Nat):List (Nat×Nat×(ByteArray→Option Value))→List Nat→Value→Prop
 | [],ms,v=>ms=[]∧v=.pointer none
 | x::fs,ms,v=>∃k p m CW,v=.pointer (some ⟨k,0,none⟩)∧ms=m::CW∧B≤k∧W.heap[k]? = some (.cells #[.pointer p,.map (some m),.int .i64 (x.1:Int)] 150 (0,0))∧dL Tryz.prog 9 W m x.2.1 x.2.2∧B≤m∧(∀a,p=some a→a.block<k)∧cb W B fs CW (.pointer p)
def KI (x:fE):Nat×Nat×(ByteArray→Option Value):=(gS x.kids (x.at_+1),x.kids.length,fG x.kids x.rep x.kids.length)
def oO (W:World) (B:Nat) (fs:List fE) (ms:List Nat) (v:Value):Prop:=cb W B (fs.map KI) ms v
structure cU (B ob:Nat) (v:Value) (n:Nat) (top:Option Nat) (W W':World):Prop where
 below:Below B W W'
 cells :∀(k:Nat) c (e:TypeId) fz,W.heap[k]? = some (.cells c e fz)→e∉[43,199,225,140,64,3,194]→W'.heap[k]? = some (.cells c e fz)
 ints :∀(k:Nat) c fz,W.heap[k]? = some (.cells c 3 fz)→k≠ob→W'.heap[k]? = some (.cells c 3 fz)
 lvl :∀u m xs,W.ownsRow B 194 2 u m xs→(u.ownBlock=v.ownBlock→m≤n)→W'.ownsRow B 194 2 u m xs
 maps :∀(k:Nat) es c,W.heap[k]? = some (.map es c)→some k≠top→W'.heap[k]? = some (.map es c)
section
variable {B ob n:Nat} {v:Value} {top:Option Nat} {W W' W2:World}
theorem cU.refl (B ob:Nat) (v:Value) (n:Nat) (top:Option Nat) (W:World):cU B ob v n top W W:=⟨Below.refl _ _,fun _ _ _ _ h _=>h,fun _ _ _ h _=>h,fun _ _ _ h _=>h,fun _ _ _ h _=>h⟩
theorem cU.trans (h:cU B ob v n top W W') (k:cU B ob v n top W' W2):cU B ob v n top W W2 :=
 ⟨h.below.trans k.below,fun i c e fz hi he=>k.cells i c e fz (h.cells i c e fz hi he) he,fun i c fz hi ho=>k.ints i c fz (h.ints i c fz hi ho) ho,fun u m xs hu hm=>k.lvl u m xs (h.lvl u m xs hu hm) hm,fun i es c hi ht=>k.maps i es c (h.maps i es c hi ht) ht⟩
theorem cU.Fu (h:cU B ob v n none W W') (top:Option Nat):cU B ob v n top W W':=⟨h.below,h.cells,h.ints,h.lvl,fun k es c hk _=>h.maps k es c hk (by simp)⟩
theorem cU.uB {E:List Nat} (h:Fr E W W') (hE :∀e∈E,e∈[43,199,225,140,64]) (hb:Below B W W'):cU B ob v n top W W' :=
 ⟨hb,fun k c e fz hk he=>h.cells k c e fz hk fun hm=>he (eN [3,194] (hE e hm)),
  fun k c fz hk _=>h.cells k c _ fz hk fun hm=>absurd (hE _ hm) (by decide),fun u m xs hu _=>h.row hu fun hm=>absurd (hE _ hm) (by decide),fun k es c hk _=>h.maps k es c hk⟩
theorem cU.bH (hb:Below W.heap.size W W') (hB:B≤W.heap.size):cU B ob v n top W W':=cU.uB (E:=[]) (Fr.af hb) (fun _ h=>by cases h) (hb.mono hB)
theorem cU.aaR {cs:Array Value} {fz:Nat×Nat} (h:W.heap[ob]? = some (.cells cs 3 fz)) (hB:B≤ob) (j:Nat) (x:Value):cU B ob v n top W (W.setCell ⟨ob,j,none⟩ x):=by
 have hf:Fr [3] W (W.setCell ⟨ob,j,none⟩ x):=Fr.set h (by decide) j x
 exact⟨(Below.refl B W).setCell (p:=⟨ob,j,none⟩) hB x,fun k c e fz hk he=>hf.cells k c e fz hk fun hm=>he (by rw[bK] at hm;subst hm;decide),
  fun k c fz hk ho=>(Below.heap_setCell W ⟨ob,j,none⟩ x k ho).trans hk,fun u m xs hu _=>hf.row hu (by decide),fun k es c hk _=>hf.maps k es c hk⟩
theorem cU.of_map {b:Nat} (hg:W.grownBy W' (some b)) (hm :∃es c,W.heap[b]? = some (.map es c)) (hB:B≤b) (hW:B≤W.heap.size):cU B ob v n (some b) W W':=by
 obtain⟨es,c,hb⟩:=hm;have key :∀(k:Nat) (o:Obj),W.heap[k]? = some o→(∀es c,o ≠ .map es c)→W'.heap[k]? = some o:=fun k o hk ho=>(hg.block k (aO.1 hk).1 fun e=>by
  injection e with e;subst e;rw[hb] at hk;injection hk with hk;exact ho _ _ hk.symm).trans hk
 refine⟨⟨hg.os,hg.tape,hg.output,hg.size,fun k hk=>hg.block k (by omega) fun e=>by injection e with e;omega⟩,fun k c e fz hk _=>key k _ hk (fun _ _ e=>by cases e),fun k c fz hk _=>key k _ hk (fun _ _ e=>by cases e),fun u m xs hu _=>?_,fun k es c hk ht=>(hg.block k (aO.1 hk).1 ht).trans hk⟩
 refine⟨hu.1,?_⟩;rcases hu.2 with hn | ⟨g,cap,cur,rfl,hB,hg,rest⟩
 ·exact .inl hn
 ·exact .inr ⟨g,cap,cur,rfl,hB,key g _ hg (fun _ _ e=>by cases e),rest⟩
theorem cU.map {P:Program} {k:TypeId} {b m:Nat} {f:ByteArray→Option Value} (h:cU B ob v n top W W') (hm:dL P k W b m f) (ht:some b≠top):dL P k W' b m f:=by
 obtain⟨es,c,h1⟩:=hm.isMap;exact hm.same ((h.maps b es c h1 ht).trans h1.symm)
theorem df.jk {L:List cR} (h:df W B v L) (k:cU B ob v n none W W') (hn:L.length≤n):df W' B v L :=
 ⟨k.lvl _ _ _ h.row fun _=>hn,fun l hl=>⟨k.map (h.maps l hl).1 (by simp),(h.maps l hl).2⟩,h.own,h.apart⟩
theorem df.more {a:List jw} {l:cR} {r:List cR} (h:df W B v (l::r)) (k:cU B ob v n (some l.blk) W W') (hn:(l::r).length≤n) (hm:dL Tryz.prog 9 W' l.blk (a++l.iz).length (jX (a++l.iz))) (ha :∀x∈a,x.fn=l.fn):df W' B v (grow a (l::r)):=by
 refine⟨?_,fun u hu=>?_,fun u hu x hx=>?_,?_⟩
 ·have:=k.lvl _ _ _ h.row fun _=>hn
  rw[cz];rw[ET,pT] at this;unfold grow;rw[ET,pT];exact this
 ·rcases bc.1 hu with rfl|hu
  ·exact⟨hm,(h.maps l (bP ..)).2⟩
  ·have h1:=h.maps u (bO _ hu)
   refine⟨k.map h1.1 fun e=>?_,h1.2⟩
   injection e with e;have h2:=h.apart;rw[dV,kK] at h2;exact h2.1 (e▸j3 hu)
 ·rcases bc.1 hu with rfl|hu
  ·rcases dd.1 hx with hx|hx
   ·exact ha x hx
   ·exact h.own l (bP ..) x hx
  ·exact h.own u (bO _ hu) x hx
 ·rw[uM]
  exact h.apart
theorem cb.jk (k:cU B ob v n top W W') :∀{fs:List (Nat×Nat×(ByteArray→Option Value))} {ms:List Nat} {p:Value},cb W B fs ms p→(∀m∈ms,some m≠top)→cb W' B fs ms p
 | [],_,_,h,_=>h
 | x::fs,ms,p,h,ht=>by
  obtain⟨k',p',m,CW,rfl,rfl,h1,h2,h3,h4,h5,h6⟩:=h;exact⟨k',p',m,CW,rfl,rfl,h1,k.cells k' _ _ _ h2 (by decide),k.map h3 (ht m (bP ..)),h4,h5,cb.jk k h6 fun m hm=>ht m (bO _ hm)⟩
theorem cb.later {fs:List (Nat×Nat×(ByteArray→Option Value))} {ms:List Nat} {p:Value} (h:cb W B fs ms p) (hb:Below W.heap.size W W'):cb W' B fs ms p:=by
 by_cases hB:B≤W.heap.size
 ·exact cb.jk (ob:=0) (v:=.nilIface) (n:=0) (top:=none) (cU.bH hb hB) h (by simp)
 ·cases fs with
  | nil=>exact h
  | cons x fs =>
   obtain⟨k,p',m,CW,rfl,rfl,h1,h2,_⟩:=h;have:=(aO.1 h2).1;omega
theorem oO.jk (k:cU B ob v n top W W') {fs:List fE} {ms:List Nat} {p:Value} (h:oO W B fs ms p) (ht :∀m∈ms,some m≠top):oO W' B fs ms p:=cb.jk k h ht
theorem cb.form {fs:List (Nat×Nat×(ByteArray→Option Value))} {ms:List Nat} {p:Value} (h:cb W B fs ms p) :∃a,p=.pointer a:=by
 cases fs with
 | nil=>exact⟨none,h.2⟩
 | cons x fs=>obtain⟨k,_,_,_,rfl,_⟩:=h;exact⟨_,rfl⟩
end
structure oP (W:World) (B f:Nat) (p lv:Value) (ms:List Nat) (L:List cR) (st:aI):Prop where
 fx:df W B lv L
 blk:oO W B (dB f st.frames) ms p
 names:st.names=mz L
 apart :∀m∈ms,∀l∈L,m≠l.blk
def AB (W:World) (v:Value) (n k:Int):Prop:=∃g,v=.iface 59 (.pointer (some ⟨g,0,none⟩))∧W.heap[g]? = some (.cells #[.int .i64 n,.iface 60 (.int .i64 k)] 62 (0,0))
def jI (W:World) (B b:Nat) (nv:Value) (N:Nat) (st:aI) (ub ob:Nat):Prop:=∃fv L,eW W B b nv N st fv ub ob L
def ao (B b:Nat) (nv:Value) (N ub ob:Nat) (lv:Value) (L:List cR) (st:aI) (r:Rs aI) (w:World) (e:Ending) (w':World):Prop :=
 Below B w w'∧match r with
 | .ok st'=>e=.returned .nilIface∧jI w' B b nv N st' ub ob∧cU B ob lv L.length (eh L) w w'∧∃a,st'.names=a++st.names∧(L=[]→a=[])∧df w' B lv (grow a L)
 | .error x=>∃v,e=.returned v∧AB w' v x.2 x.1
theorem oP.on {W W':World} {B ob f:Nat} {p lv:Value} {ms:List Nat} {L:List cR} {st st':aI} {a:List jw} (h:oP W B f p lv ms L st) (k:cU B ob lv L.length (eh L) W W') (hl:df W' B lv (grow a L)) (hn:st'.names=a++st.names) (he:L=[]→a=[]) (hf:st'.frames=st.frames):oP W' B f p lv ms (grow a L) st':=by
 refine⟨hl,?_,?_,fun m hm l hl=>?_⟩
 ·rw[hf]
  refine h.blk.jk k fun m hm e=>?_
  cases L with
  | nil=>cases e
  | cons l r =>
   injection e with e;exact h.apart m hm l (bP ..) e
 ·rw[hn,h.names]
  by_cases e:L=[]
  ·rw[he e,jH];rfl
  ·exact(Ib e).symm
 ·have h1:l.blk∈(grow a L).map cR.blk:=j3 hl
  rw[uM] at h1;obtain⟨u,hu,e⟩:=jB.1 h1;rw[←e];exact h.apart m hm u hu
end Go.Proofs.YtodmcdfeldkocaaGreatDoor
namespace Go.Proofs.YtodmcdfeldkocaaGreatDoor
open Go.RowKit
def gH (B b:Nat) (nv:Value) (N ub ob:Nat) (r:Rs aI) (w:World) (e:Ending) (w':World):Prop :=
 Below B w w'∧match r with
 | .ok st'=>e=.returned .nilIface∧jI w' B b nv N st' ub ob∧Fr [43,199,225,140,64] w w'
 | .error x=>∃v,e=.returned v∧AB w' v x.2 x.1
theorem eW.mQ {W:World} {B b:Nat} {nv:Value} {N:Nat} {st:aI} {fv:Value} {ub ob:Nat} {L:List nU} (h:eW W B b nv N st fv ub ob L):b<W.heap.size∧ub<W.heap.size∧ob<W.heap.size:=⟨(aO.1 h.blk).1,(h.uses.lt ub rfl).2,(h.vX.lt ob rfl).2⟩
theorem eC {T:List Nd} {B:Nat} {nv:Value} (b node:Nat) (h:Nd) (k:Int) (w:World) (hT:vW w B nv T) (c0:w.cell? ⟨b,0,none⟩=some nv) (hx:T[node]? = some h) :
  Calls Tryz.prog 70 #[.pointer (some ⟨b,0,none⟩),.int .i64 (node:Int),.iface 60 (.int .i64 k)] w fun e w'=>∃v,e=.returned v∧(∃g,v=.iface 59 (.pointer (some ⟨g,0,none⟩)))∧AB w' v h.line k∧Below w.heap.size w w':=by
 obtain⟨bk,o,c,rfl,dU,cg,hn⟩:=hT.nodes;obtain⟨vM,vN,eT,_,_⟩:=hn node h hx;have jd:node<T.length:=(aK.1 hx).1;have d1:=eT.c1;have pO:=hT.few;clear eT hn hT;go_enter Tryz.func70,Tryz.ntmps70
 go_wp2_with fail
 go_ret
 exact⟨_,rfl,⟨_,rfl⟩,⟨_,rfl,heap_alloc_new _ _⟩,(Below.refl _ _).alloc (ah _) _⟩
theorem sD {T:List Nd} {B:Nat} {nv:Value} (b node:Nat) (h:Nd) (w:World) (hT:vW w B nv T) (c0:w.cell? ⟨b,0,none⟩=some nv) (hx:T[node]? = some h) :
  Calls Tryz.prog 77 #[.pointer (some ⟨b,0,none⟩),.int .i64 (node:Int)] w fun e w'=>e=.returned (.bool (decide (h.kind=19) || decide (h.kind=28)))∧w=w':=by
 obtain⟨bk,o,c,rfl,dU,cg,hn⟩:=hT.nodes;obtain⟨vM,vN,eT,_,_⟩:=hn node h hx;have jd:node<T.length:=(aK.1 hx).1;have d0:=eT.c0;have pO:=hT.few;clear eT hn hT;have e1:(h.kind == 19)=decide (h.kind=19):=rfl;have e2:(h.kind == 28)=decide (h.kind=28):=rfl;cases h1:decide (h.kind=19) with
 | true =>
  rw[h1] at e1;go_enter Tryz.func77,Tryz.ntmps77
  go_wp2_with fail
  go_ret
  exact⟨rfl,rfl⟩
 | false =>
  rw[h1] at e1;cases h2:decide (h.kind=28) with
  | true =>
   rw[h2] at e2;go_enter Tryz.func77,Tryz.ntmps77
   go_wp2_with fail
   go_ret
   exact⟨rfl,rfl⟩
  | false =>
   rw[h2] at e2;go_enter Tryz.func77,Tryz.ntmps77
   go_wp2_with fail
   go_ret
   exact⟨rfl,rfl⟩
theorem Below.two {W:World} (o o':Obj):Below W.heap.size W ((W.alloc o).alloc o'):=((Below.refl _ _).alloc (ah _) o).alloc (by rw[aq];omega) o'
theorem lU (f:Nat) (loop l:Int) (pa la:Option Addr) (ln lc:Nat) (w:World) :
  Calls Tryz.prog 37 #[.agg #[.int .i64 (f:Int),.int .i64 loop,.pointer pa,.slice la ln lc],.int .i64 l] w fun e w'=>e=.returned (.agg #[.int .i64 (f:Int),.int .i64 l,.pointer pa,.slice la ln lc])∧Below w.heap.size w w':=by
 go_enter Tryz.func37,Tryz.ntmps37
 go_wp2_with fail
 exact bodyPost_ret (v:=.agg #[.int .i64 (f:Int),.int .i64 l,.pointer pa,.slice la ln lc]) (by simp[results,Tryz.results37,go_sem]) rfl ⟨rfl,Below.two _ _⟩
theorem iJ {B b:Nat} {nv:Value} {N ub ob:Nat} {w w1 w2:World} {line k:Int} {v:Value} (hb:Below B w w1) (hB:B≤w1.heap.size) (h2:Below w1.heap.size w1 w2) (hf:AB w2 v line k):gH B b nv N ub ob (.error (k,line)) w (.returned v) w2 :=
 ⟨hb.trans (h2.mono hB),_,rfl,hf⟩
theorem L9 {T:List Nd} {B:Nat} {nv:Value} {ub ob:Nat} (b node f:Nat) (h:Nd) (loop:Int) (pa la:Option Addr) (ln lc:Nat) (st:aI) (w:World) (hT:vW w B nv T) (hw:jI w B b nv T.length st ub ob) (hx:T[node]? = some h) (hf:f<st.fns.length) :
  Calls Tryz.prog 33 #[.pointer (some ⟨b,0,none⟩),.int .i64 (node:Int),.agg #[.int .i64 (f:Int),.int .i64 loop,.pointer pa,.slice la ln lc]] w (gH B b nv T.length ub ob (if (st.fn f).many then .ok st else .error (14,h.line)) w):=by
 obtain⟨fv,FL,hw⟩:=hw;obtain⟨t,ht⟩:=hw.Ax hf;obtain⟨g,c,rfl,Yb,re,sY⟩:=hw.fns.form ht;have hfn:=(hw.sC ht).2;have sE:=hw.len;have Di:f<FL.length:=by omega
 obtain⟨hbl,ph,sZ⟩:=hw.mQ;have cg:B≤w.heap.size:=aL hw.pos (fu hbl);have d0:w.cell? ⟨b,0,none⟩=some nv:=ae hw.blk 0;have d1:w.cell? ⟨b,1,none⟩=some (.slice (some ⟨g,0,none⟩) FL.length c):=ae hw.blk 1;have e3:w.cell? ⟨g,f*6+3,none⟩=some (.bool t.1.many):=(sY 3 (by omega)).1
 rw[hfn];have HW:=aa hw;have HT:=aa hT;have HX:=aa hx;clear hw hT hx hfn ht sY sE;cases hm:t.1.many with
 | true =>
  rw[hm] at e3;go_enter Tryz.func33,Tryz.ntmps33
  go_wp2_with fail
  go_region
  go_wp2_with fail
  go_ret
  exact⟨((Below.refl B w).alloc cg _).drew,rfl,⟨_,_,(HW.out.alloc _).drew⟩,(Fr.alloc _).drew⟩
 | false =>
  rw[hm] at e3;have HC:=aa (ae (HW.out.alloc (.cells #[.int .i64 (f:Int),.int .i64 loop,.pointer pa,.slice la ln lc] 69)).drew.blk 0);have AD:=aa (HT.out.below (((Below.refl B w).alloc cg (.cells #[.int .i64 (f:Int),.int .i64 loop,.pointer pa,.slice la ln lc] 69)).drew));go_enter Tryz.func33,Tryz.ntmps33
  go_wp2_with fail
  go_region
  go_wp2_with fail
  refine(eC b node _ _ _ AD.out HC.out HX.out).mono ?_;rintro e w1 ⟨v,rfl,⟨g1,rfl⟩,h1,h2⟩;have H1:=aa h1;have H2:=aa h2;clear h1 h2;go_wp2_with fail
  go_ret
  exact iJ (((Below.refl B w).alloc cg _).drew) (by simp;omega) H2.out H1.out
def gz (w:World) (s:ByteArray) (fs:List (Nat×Nat×(ByteArray→Option Value))) (pv wX:Value):Prop :=
 match fs.find? fun x=>(x.2.2 s).isSome with
 | none=>pv=.pointer none∧wX=.agg #[.int .i64 0,.int .i64 0]
 | some x=>∃k,pv=.pointer (some ⟨k,0,none⟩)∧x.2.2 s=some wX∧w.cell? ⟨k,2,none⟩=some (.int .i64 (x.1:Int))∧k<w.heap.size
def aaS:Value→Nat
 | .pointer (some a)=>a.block+1
 | _=>0
def Ma (fs:List (Nat×Nat×(ByteArray→Option Value))):Prop:=∀x∈fs,∀s v,x.2.2 s=some v→∃a b,v=.agg #[.int .i64 a,.int .i64 b]
theorem Mb (w:World):(zeroValue 154).run Tryz.prog w=.ok (.agg #[.int .i64 0,.int .i64 0]) w:=by kernel_rfl
theorem AE {B:Nat} (fs:List (Nat×Nat×(ByteArray→Option Value))) (ms:List Nat) (p:Value) (s:ByteArray) (w:World) (hc:cb w B fs ms p) (hs:s.size≤maxLen) (hl:Ma fs) :
  Calls Tryz.prog 78 #[p,.string s] w fun e w'=>∃pa a b,e=.returned (.tuple #[.pointer pa,.agg #[.int .i64 a,.int .i64 b]])∧gz w s fs (.pointer pa) (.agg #[.int .i64 a,.int .i64 b])∧Below w.heap.size w w':=by
 obtain⟨a0,rfl⟩:=hc.form;have HC:=aa hc;have HL:=aa hl;clear hc hl;go_enter Tryz.func78,Tryz.ntmps78
 go_wp2_with fail
 have hz:=heap_alloc_new w (.cells #[.int .i64 0,.int .i64 0] 154);have z0:=dG w #[.int .i64 0,.int .i64 0] 154 0;have z1:=dG w #[.int .i64 0,.int .i64 0] 154 1;have y0:=frozen_of_row (w.alloc (.cells #[.int .i64 0,.int .i64 0] 154)) w.heap.size 0 _ _ (heap_alloc_new w (.cells #[.int .i64 0,.int .i64 0] 154));have y1:=frozen_of_row (w.alloc (.cells #[.int .i64 0,.int .i64 0] 154)) w.heap.size 1 _ _ (heap_alloc_new w (.cells #[.int .i64 0,.int .i64 0] 154));replace z0:_=some (Value.int .i64 0):=z0;replace z1:_=some (Value.int .i64 0):=z1;have ec:w.heap.size<(w.alloc (.cells #[.int .i64 0,.int .i64 0] 154)).heap.size:=by rw[aq];omega
 have tF:=aa ((Below.refl w.heap.size w).alloc (ah _) (.cells #[.int .i64 0,.int .i64 0] 154));generalize hW0:w.alloc (.cells #[.int .i64 0,.int .i64 0] 154)=W0 at *;have HW0:=aa hW0;clear hW0;go_loopw [0] (fun t wr=>∃cs CW,cb w B cs CW t∧fs.find? (fun x=>(x.2.2 s).isSome)=cs.find? (fun x=>(x.2.2 s).isSome)∧Ma cs∧Below W0.heap.size W0 wr) (fun t _=>aaS t)
 case atStart=>exact⟨fs,ms,HC.out,rfl,HL.out,Below.refl _ _⟩
 case round =>
  obtain⟨cs,CW,hc,hf,hl,hb⟩:=hrel;have k0:wr.cell? ⟨w.heap.size,0,none⟩=some (.int .i64 0):=(hb.cell (p:=⟨w.heap.size,0,none⟩) ec).trans z0;have k1:wr.cell? ⟨w.heap.size,1,none⟩=some (.int .i64 0):=(hb.cell (p:=⟨w.heap.size,1,none⟩) ec).trans z1;have j0:wr.frozen? ⟨w.heap.size,0,none⟩=false:=(hb.frozen (p:=⟨w.heap.size,0,none⟩) ec).trans y0;have j1:wr.frozen? ⟨w.heap.size,1,none⟩=false:=(hb.frozen (p:=⟨w.heap.size,1,none⟩) ec).trans y1;have hblk:=(hb.block w.heap.size ec).trans hz;have AF:=aa hblk;clear hblk hz;have hwr:w.heap.size<wr.heap.size:=cG ec hb.size;have HF:=aa hf;have HB:=aa hb;have HLc:=aa hl;clear hf hb hl z0 z1 y0 y1;cases cs with
  | nil =>
   obtain⟨rfl,rfl⟩:=hc;go_wp2_with fail
   have iK:=aa (((tF.out.trans (HB.out.mono (fu ec))).setCell (p:=⟨w.heap.size,0,none⟩) (ah _) (.int .i64 0)).setCell (p:=⟨w.heap.size,1,none⟩) (ah _) (.int .i64 0));refine bodyPost_ret (v:=.tuple #[.pointer none,.agg #[.int .i64 0,.int .i64 0]]) (by simp[results,Tryz.results78,go_sem,k0,k1]) rfl ⟨none,0,0,rfl,?_,iK.out⟩
   unfold gz;rw[HF.out];exact⟨rfl,rfl⟩
  | cons x cs =>
   obtain⟨k,p,m,ms2,rfl,rfl,h1,h2,h3,h4,h5,h6⟩:=hc;have hk:k<w.heap.size:=(aO.1 h2).1;have hbr:=tF.out.trans (HB.out.mono (fu ec));have h2':=(hbr.block k hk).trans h2;have hkr:k<wr.heap.size:=cG hk hbr.size;have e0:wr.cell? ⟨k,0,none⟩=some (.pointer p):=ae h2' 0;have e1:wr.cell? ⟨k,1,none⟩=some (.map (some m)):=ae h2' 1;have hm:dL Tryz.prog 9 wr m x.2.1 x.2.2:=h3.same (hbr.block m h3.lt);have hrun:=hm.look (t:=148) (e:=154) Tryz.underlying9 Tryz.underlying148 (Mb wr) rfl s hs;have HX:=aa h6;have H5:=aa h5;have H2:=aa h2;clear h2 h2' h3 h6 h5 hm hbr;cases hg:x.2.2 s with
   | none =>
    rw[hg] at hrun;replace hrun:_=Result.ok (Value.tuple #[.agg #[.int .i64 0,.int .i64 0],.bool false]) wr:=hrun;go_wp2_with fail
    refine⟨⟨cs,ms2,HX.out,?_,fun y hy=>HLc.out y (bO _ hy),HB.out.alloc HB.out.size _⟩,?_⟩
    ·rw[HF.out,kO,hg]
     rfl
    ·cases p with
     | none=>exact Nat.succ_pos _
     | some a=>exact Nat.succ_lt_succ (H5.out a rfl)
   | some v =>
    obtain⟨a,b,rfl⟩:=HLc.out x (bP ..) s v hg;rw[hg] at hrun;replace hrun:_=Result.ok (Value.tuple #[.agg #[.int .i64 a,.int .i64 b],.bool true]) wr:=hrun;go_wp2_with fail
    go_region
    go_wp2_with fail
    have iK:=aa (((((tF.out.trans (HB.out.mono (fu ec))).setCell (p:=⟨w.heap.size,0,none⟩) (ah _) (.int .i64 a)).setCell (p:=⟨w.heap.size,1,none⟩) (ah _) (.int .i64 b)).alloc (by simp;omega) (.cells #[.int .i64 a,.int .i64 b] 154)).drew)
    have hq:=(Below.heap_alloc ((wr.setCell ⟨w.heap.size,0,none⟩ (.int .i64 a)).setCell ⟨w.heap.size,1,none⟩ (.int .i64 b)) (.cells #[.int .i64 a,.int .i64 b] 154) w.heap.size (by simp;omega)).trans (bM (bM AF.out 0 (.int .i64 a)) 1 (.int .i64 b))
    have q0:=ae hq 0;have q1:=ae hq 1;replace q0:_=some (Value.int .i64 a):=q0;replace q1:_=some (Value.int .i64 b):=q1;refine bodyPost_ret (v:=.tuple #[.pointer (some ⟨k,0,none⟩),.agg #[.int .i64 a,.int .i64 b]]) (by simp[results,Tryz.results78,go_sem,q0,q1]) rfl ⟨_,a,b,rfl,?_,iK.out⟩
    unfold gz;rw[HF.out,kO,hg];exact⟨k,rfl,hg,ae H2.out 2,hk⟩
theorem AG {T:List Nd} {B:Nat} {nv:Value} {ub ob:Nat} (b node f:Nat) (h:Nd) (loop:Int) (pa la:Option Addr) (ln lc:Nat) (st:aI) (w:World) (hT:vW w B nv T) (hw:jI w B b nv T.length st ub ob) (hx:T[node]? = some h) (hl:loop=cM f st.frames) :
  Calls Tryz.prog 38 #[.pointer (some ⟨b,0,none⟩),.int .i64 (node:Int),.agg #[.int .i64 (f:Int),.int .i64 loop,.pointer pa,.slice la ln lc]] w (gH B b nv T.length ub ob (eD node f h.line st) w):=by
 obtain⟨fv,FL,hw⟩:=hw;obtain⟨hbl,ph,sZ⟩:=hw.mQ;have cg:B≤w.heap.size:=aL hw.pos (fu hbl);have jd:node<T.length:=(aK.1 hx).1;have d0:w.cell? ⟨b,0,none⟩=some nv:=ae hw.blk 0;have d2:w.cell? ⟨b,2,none⟩=some (.slice (some ⟨ub,0,none⟩) T.length T.length):=ae hw.blk 2;obtain⟨u0,v0⟩:=cf hw.uses (j:=node*2) (by omega)
 obtain⟨u1,v1⟩:=cf hw.uses (j:=node*2+1) (by omega)
 have pO:=hT.few;have HR:Hid (eD node f h.line st=if loop = -1 then .error (8,h.line) else .ok (st.dt node (4,loop))):=aa (by rw[L0,hl])
 have HW:=aa hw;have HT:=aa hT;have HX:=aa hx;clear hw hT hx hl;by_cases hm:loop = -1
 ·subst hm
  have HC:=aa (ae (HW.out.alloc (.cells #[.int .i64 (f:Int),.int .i64 (-1),.pointer pa,.slice la ln lc] 69)).blk 0);have AD:=aa (HT.out.below ((Below.refl B w).alloc cg (.cells #[.int .i64 (f:Int),.int .i64 (-1),.pointer pa,.slice la ln lc] 69)));clear d2 u0 v0 u1 v1;go_enter Tryz.func38,Tryz.ntmps38
  go_wp2_with fail
  refine(eC b node _ _ _ AD.out HC.out HX.out).mono ?_;rintro e w1 ⟨v,rfl,⟨g1,rfl⟩,h1,h2⟩;have H1:=aa h1;have H2:=aa h2;clear h1 h2;go_wp2_with fail
  go_ret
  rw[show eD node f h.line st=.error (8,h.line) from HR.out.trans (by simp)]
  exact iJ ((Below.refl B w).alloc cg _) (by simp;omega) H2.out H1.out
 ·have g1:(loop == -1)=false:=aC.2 hm
  have HM:=aa hm;clear hm;go_enter Tryz.func38,Tryz.ntmps38
  go_wp2_with fail
  go_region
  go_wp2_with fail
  go_ret
  rw[show eD node f h.line st=.ok (st.dt node (4,loop)) from HR.out.trans (ab HM.out)]
  refine⟨((uC HW.out node _ _).alloc (by simp;omega) _).drew,rfl,⟨_,_,((HW.out.use node (4,loop)).alloc _).drew⟩,?_⟩
  exact(((lS HW.out node _ _).mono (by decide)).trans (Fr.alloc _)).drew
def gI (k:Int) (n:Nat):Bool×Int×Bool :=
 if k=26∨k=27 then (true,(n:Int)-1,true) else if k=11 then (true,0,true) else if k=28 then (true,0,false) else if k=19 then (true,(n:Int),false) else (false,0,false)
theorem Below.three {W:World} (o o' o2:Obj):Below W.heap.size W (((W.alloc o).alloc o').alloc o2):=(Below.two o o').alloc (by rw[aq,aq];omega) o2
theorem wY {n:Nat} (h:n≤1000000):wrap64 ((n:Int)-1)=(n:Int)-1:=by unfold wrap64;omega
theorem gJ (k line op num:Int) (s:ByteArray) (na ka:Option Addr) (nn nc kn kc:Nat) (w:World) (oQ:kn≤1000000) :
  Calls Tryz.prog 72 #[.agg #[.int .i64 k,.int .i64 line,.int .i64 op,.int .i64 num,.string s,.slice na nn nc,.slice ka kn kc]] w fun e w'=>e=.returned (.agg #[.bool (gI k kn).1,.int .i64 (gI k kn).2.1,.bool (gI k kn).2.2])∧Below w.heap.size w w':=by
 have hwr:=wY oQ;have key:k=26∨k=27∨k=11∨k=28∨k=19∨((k == 26)=false∧(k == 27)=false∧(k == 11)=false∧(k == 28)=false∧(k == 19)=false):=by
  simp only[aC];omega
 rcases key with rfl|rfl|rfl|rfl|rfl | ⟨g1,g2,g3,g4,g5⟩
 ·go_enter Tryz.func72,Tryz.ntmps72
  go_wp2_with fail
  exact bodyPost_ret (v:=.agg #[.bool true,.int .i64 ((kn:Int)-1),.bool true]) (by simp[results,Tryz.results72,go_sem]) rfl ⟨rfl,Below.three _ _ _⟩
 ·go_enter Tryz.func72,Tryz.ntmps72
  go_wp2_with fail
  exact bodyPost_ret (v:=.agg #[.bool true,.int .i64 ((kn:Int)-1),.bool true]) (by simp[results,Tryz.results72,go_sem]) rfl ⟨rfl,Below.three _ _ _⟩
 ·go_enter Tryz.func72,Tryz.ntmps72
  go_wp2_with fail
  exact bodyPost_ret (v:=.agg #[.bool true,.int .i64 0,.bool true]) (by simp[results,Tryz.results72,go_sem]) rfl ⟨rfl,Below.three _ _ _⟩
 ·go_enter Tryz.func72,Tryz.ntmps72
  go_wp2_with fail
  exact bodyPost_ret (v:=.agg #[.bool true,.int .i64 0,.bool false]) (by simp[results,Tryz.results72,go_sem]) rfl ⟨rfl,Below.three _ _ _⟩
 ·go_enter Tryz.func72,Tryz.ntmps72
  go_wp2_with fail
  exact bodyPost_ret (v:=.agg #[.bool true,.int .i64 (kn:Int),.bool false]) (by simp[results,Tryz.results72,go_sem]) rfl ⟨rfl,Below.three _ _ _⟩
 ·have hd:gI k kn=(false,0,false):=by
   simp only[aC] at g1 g2 g3 g4 g5;unfold gI;rw[ab (by omega),ab g3,ab g4,ab g5]
  rw[hd];clear hd;go_enter Tryz.func72,Tryz.ntmps72
  go_wp2_with fail
  exact bodyPost_ret (v:=.agg #[.bool false,.int .i64 0,.bool false]) (by simp[results,Tryz.results72,go_sem]) rfl ⟨rfl,Below.three _ _ _⟩
theorem Dj {P:Program} (w:World) (t ty:TypeId) (base:Nat) (e:TypeId) (i:TypeInfo) (z:Value) (size bytes:Nat) (ht:P.underlying t=some (.slice e)) (hi:P.info? e=some i) (hz:i.zero=some z)
  (hsize:i.size=size) (hby:i.bytes=bytes) (hsz:0<size) (v:Value) (n:Nat) (xs:List Value) (hown:w.ownsRow base e size v n xs)
  (ad:Addr) (m c:Nat) (news:List Value) (hl:news.length=m*size) (hnews :∀j u,news[j]? = some u→w.cell? (ad.add j)=some u) (h1 :∀u∈news,u.oneCell'=true)
  (hm:0<m) (h63:n+m≤maxLen) (hbytes:(n+m)*bytes≤140737488355328) {v':Value} {w':World} (hr:(Builtin.append_ #[t,t] ty #[v,.slice (some ad) m c]).run P w=.ok v' w')
  (u:Value) (k:Nat) (ys:List Value) (hu:w.ownsRow base e size u k ys) (hk:u.ownBlock=v.ownBlock→k≤n):w'.ownsRow base e size u k ys:=by
 subst hsize hby;have acK:n+m≤9223372036854775807:=by simp only[maxLen] at h63;omega
 have new :∀o:Obj,(w.drew.alloc o).ownsRow base e i.size u k ys:=fun o=>hu.drew.alloc o
 rcases hown.2 with ⟨rfl,rfl⟩ | ⟨g,cap,cur,rfl,hbg,hg,hnc,hcm,hcs,Fv⟩
 ·have h2:=run_append_nil (P:=P) w t ty e i z ht hi hz ad m c news hl hnews (by omega) (by omega) (by have hb:=hbytes;simp only[gi] at hb;omega)
  rw[hr] at h2;injection h2 with _ h2;rw[h2];exact new _
 ·by_cases hroom:n+m≤cap
  ·have acL:n*i.size+news.length≤cur.size:=by rw[hl,hcs,←wK];exact ES _ hroom
   have h2:=run_append_room (P:=P) w t ty e i ht hi g n cap cur hg ad m c news hl hnews h1 hroom acL;rw[hr] at h2;injection h2 with _ h2;rw[h2];refine⟨hu.1,?_⟩;rcases hu.2 with hn | ⟨g',cap',cur',rfl,hB',vL,Fa,hc',hs',Wh⟩
   ·exact .inl hn
   ·by_cases eg:g'=g
    ·subst eg
     rw[hg] at vL;injection vL with vL;injection vL with vL _ _;subst vL;have oQ:k≤n:=hk rfl;refine .inr ⟨g',cap',_,rfl,hB',setRow_heap w g' cur _ e _ hg,Fa,hc',?_,?_⟩
     ·rw[←hs']
      simp only[EU,bY,j4,jb,Array.length_toList];omega
     ·rw[←Wh]
      have h3:k*i.size≤n*i.size:=ES _ oQ;have h4:(cur.toList.take (n*i.size)).length=n*i.size:=by rw[j4,Array.length_toList];omega
      show((cur.toList.take (n*i.size)++news++_).take (k*i.size))=_
      rw[cP,VZ (by omega),List.take_take,zS h3]
    ·exact .inr ⟨g',cap',cur',rfl,hB',(setRow_other w g g' _ eg).trans vL,Fa,hc',hs',Wh⟩
  ·have holds :∀j u,xs[j]? = some u→w.cell? ((⟨g,0,none⟩:Addr).add j)=some u:=hown.cells (g:=g) rfl
   have h2:=run_append_grow (P:=P) w t ty e i z ht hi hz ⟨g,0,none⟩ n cap xs hown.1 holds ad m c news hl hnews (by omega) (by omega) (growslice_fits (by omega) hbytes)
   rw[hr] at h2;injection h2 with _ h2;rw[h2];exact new _
def vO (W:World) (g:Nat) (ty:TypeId):Prop:=∃cs fz,W.heap[g]? = some (.cells cs ty fz)
theorem vO.set {W:World} {g:Nat} {ty:TypeId} (h:vO W g ty) (g' j:Nat) (v:Value):vO (W.setCell ⟨g',j,none⟩ v) g ty:=by
 obtain⟨cs,fz,h⟩:=h;by_cases e:g=g'
 ·subst e
  refine⟨cs.setIfInBounds j v,fz,?_⟩;simp[World.setCell,Array.getElem?_modify,h]
 ·exact⟨cs,fz,(Below.heap_setCell W ⟨g',j,none⟩ v g e).trans h⟩
theorem vO.fr {W:World} {g:Nat} {ty:TypeId} {E:List Nat} (h:vO W g ty) (he:ty∈E) (j:Nat) (v:Value):Fr E W (W.setCell ⟨g,j,none⟩ v):=by
 obtain⟨cs,fz,h⟩:=h;exact Fr.set h he j v
theorem Mc {ops:Array Oper} {rest:List Oper} {o:Oper} {a:Act} {Q:Exit→Act→World→Prop} (w:World) (l:cR) (hgd:o.guard=none) (sl y:Operand)
  (ho:o.op=.call { callee:=.builtin .append,args:=#[sl,y],argTypes:=#[67,67]}) (B:Nat) (v:Value) (L:List cR) (hs:a.eval sl=v) (hown:w.ownsRow B 194 2 v L.length (L.reverse.flatMap Ft)) (g:Nat) (hg:g=w.heap.size) (hy:a.eval y=.slice (some ⟨g,0,none⟩) 1 1)
  (hlen:L.length≤1000000) (hB:B≤w.heap.size)
  (h :∀g' c' w',w'.ownsRow B 194 2 (.slice (some ⟨g',0,none⟩) (L.length+1) c') (l::L).length ((l::L).reverse.flatMap Ft)→rf v.ownBlock w w'→Below B w w'→(v.ownBlock=some g'∨w.heap.size≤g')→(∀u m xs,w.ownsRow B 194 2 u m xs→(u.ownBlock=v.ownBlock→m≤L.length)→w'.ownsRow B 194 2 u m xs)→wpList Tryz.prog ops Q rest (a.put o.dst (.slice (some ⟨g',0,none⟩) (L.length+1) c')) w') :
  wpList Tryz.prog ops Q (o::rest) a (w.alloc (.cells (Ft l).toArray 194)):=by
 subst hg;obtain⟨i0,mJ,hz0,hz1,hz2⟩:=info_parts Dh;have hcell:=heap_alloc_new w (.cells (Ft l).toArray 194);have hpl :∀j:Nat,(⟨w.heap.size,0,none⟩:Addr).add j=⟨w.heap.size,j,none⟩:=fun j=>by unfold Addr.add;split<;>simp_all
 have Df:(w.alloc (.cells (Ft l).toArray 194)).heap.size=w.heap.size+1:=aq _ _;have hnews :∀j u,(Ft l)[j]? = some u→(w.alloc (.cells (Ft l).toArray 194)).cell? ((⟨w.heap.size,0,none⟩:Addr).add j)=some u:=fun j u hj=>by
  rw[hpl,cell_of_row _ _ j _ 194 (0,0) hcell];simpa using hj
 have h1c :∀u∈Ft l,u.oneCell'=true:=by
  intro u hu;simp[Ft] at hu;rcases hu with rfl|rfl<;>rfl
 have hmx:L.length+1≤maxLen:=by unfold maxLen;omega
 have hby:(L.length+1)*16≤140737488355328:=by omega
 refine wpList_plain hgd fun K hK=>?_
 obtain⟨g',c',w',hr,r1,r2,r3,_⟩:=run_append_lies (P:=Tryz.prog) _ 67 o.type B 194 i0 _ 2 16 Tryz.underlying67 mJ hz0 hz1 hz2 rfl (by omega) v L.length _ (hown.alloc _) ⟨w.heap.size,0,none⟩ 1 1 (Ft l) rfl hnews h1c (by omega) hmx hby (by omega) (w.heap.size+1) Df
 have hold:=Dj (P:=Tryz.prog) _ 67 o.type B 194 i0 _ 2 16 Tryz.underlying67 mJ hz0 hz1 hz2 (by omega) v L.length _ (hown.alloc _) ⟨w.heap.size,0,none⟩ 1 1 (Ft l) rfl hnews h1c (by omega) hmx hby hr
 unfold Oper.wp execOp;simp only[ho,resolve,invoke,builtin,Sem.run_bind,Sem.run_pure,Result.andThen_ok,Ln,dV,EZ,hs,hy,hr];have yo:=r2.size;refine hK _ _ (h g' c' w' ?_ ⟨by omega,fun k hk hn=>(r2.block k (by omega) fun e=>hn e.symm).trans (Below.heap_alloc w _ k hk)⟩ ⟨r2.os,r2.tape,r2.output,by omega,fun k hk=>?_⟩ (r3.imp id fun e=>by omega) fun u m xs hu hm=>hold u m xs (hu.alloc _) hm)
 ·rw[List.length_cons,ET,pT,EN]
  exact r1
 ·refine(r2.block k (by omega) fun e=>?_).trans (Below.heap_alloc w _ k (by omega))
  have:=(hown.lt k e.symm).1;omega
def Dk (cr:List tx) (u:tx):Int:=match cr.findIdx? (fun y=>decide (y=u)) with|some i=>(i:Int)|none=>-1
theorem Se {cr:List tx} {u:tx} {k:Nat} (h :∀y∈cr.take k,y≠u) (hk:cr[k]? = some u):cr.findIdx? (fun y=>decide (y=u))=some k:=by
 obtain⟨hlt,he⟩:=aK.1 hk;refine zH.2 ⟨hlt,by rw[he];simp,fun j hj=>?_⟩
 have:cr[j]∈cr.take k:=by
  have h1:(cr.take k)[j]? = some cr[j]:=by rw[List.getElem?_take_of_lt hj];exact bG (by omega)
  exact aX h1
 simpa using h _ this
theorem Yc {cr:List tx} {u:tx} (h :∀y∈cr,y≠u):cr.findIdx? (fun y=>decide (y=u))=none:=by
 rw[List.findIdx?_eq_none_iff];intro y hy;simpa using h y hy
theorem AH {cr:List tx} {u y:tx} {k:Nat} (h :∀z∈cr.take k,z≠u) (hk:cr[k]? = some y) (hy:y≠u) :∀z∈cr.take (k+1),z≠u:=by
 rw[lJ _ _ _ hk];intro z hz;rcases dd.1 hz with hz|hz
 ·exact h z hz
 ·rw[bK.1 hz];exact hy
theorem Ic {B:Nat} (v:Value) (cr:List tx) (u:tx) (w:World) (hr:w.ownsRow B 225 2 v cr.length (cr.flatMap KH)) (hl:cr.length≤1000) :
  Calls Tryz.prog 169 #[v,.agg #[.bool u.loc,.int .i64 (u.idx:Int)]] w fun e w'=>e=.returned (.int .i64 (Dk cr u))∧Below w.heap.size w w':=by
 obtain⟨A,c,rfl,hc,eF⟩:=ez hr;have HC:=aa eF;clear eF hr;have tF:=aa ((Below.refl w.heap.size w).alloc (ah _) (.cells #[.bool u.loc,.int .i64 (u.idx:Int)] 225));have z0:=dG w #[.bool u.loc,.int .i64 (u.idx:Int)] 225 0;have z1:=dG w #[.bool u.loc,.int .i64 (u.idx:Int)] 225 1;replace z0:_=some (Value.bool u.loc):=z0;replace z1:_=some (Value.int .i64 (u.idx:Int)):=z1;have ec:w.heap.size<(w.alloc (.cells #[.bool u.loc,.int .i64 (u.idx:Int)] 225)).heap.size:=by rw[aq];omega
 go_enter Tryz.func169,Tryz.ntmps169
 go_wp2_with fail
 generalize w.alloc (.cells #[.bool u.loc,.int .i64 (u.idx:Int)] 225)=W0 at *;go_loopw [8] (fun t wr=>∃k:Nat,t=.int .i64 (k:Int)∧k≤cr.length∧(∀y∈cr.take k,y≠u)∧Below W0.heap.size W0 wr) (fun t _=>cr.length-(intOf t).toNat)
 case atStart=>exact⟨0,rfl,bo _,fun y hy=>by simp at hy,Below.refl _ _⟩
 case round =>
  obtain⟨k,rfl,hk,hno,hb⟩:=hrel;have k0:=(hb.cell (p:=⟨w.heap.size,0,none⟩) ec).trans z0;have k1:=(hb.cell (p:=⟨w.heap.size,1,none⟩) ec).trans z1;have Md:=aa hno;have HB:=aa hb;clear hno hb;by_cases hlt:k<cr.length
  ·obtain⟨y,hy⟩ :∃y,cr[k]? = some y:=⟨cr[k],bG hlt⟩
   rcases HC.out with h0 | ⟨g,rfl,Yb,re,sY⟩
   ·omega
   have pj:=tF.out.trans (HB.out.mono (fu ec));have e0:wr.cell? ⟨g,k*2,none⟩=some (.bool y.loc):=(pj.cell (p:=⟨g,k*2,none⟩) re).trans ((sY (k*2) (by omega)).trans (iy Fq cr k 0 y hy (by omega)))
   have e1:wr.cell? ⟨g,k*2+1,none⟩=some (.int .i64 (y.idx:Int)):=(pj.cell (p:=⟨g,k*2+1,none⟩) re).trans ((sY (k*2+1) (by omega)).trans (iy Fq cr k 1 y hy (by omega)))
   have HY:=aa hy;clear sY hy pj;by_cases hloc:u.loc=y.loc
   ·by_cases Sf:u.idx=y.idx
    ·obtain rfl:y=u:=by cases u;cases y;simp_all
     go_wp2_with fail
     go_region
     go_wp2_with fail
     go_ret
     refine⟨?_,(tF.out.trans (HB.out.mono (fu ec))).drew⟩;unfold Dk;rw[Se Md.out HY.out];rfl
    ·have g2:((u.idx:Int) == (y.idx:Int))=false:=aC.2 (by omega)
     have hne:Hid (y≠u):=aa fun e=>Sf (by rw[e])
     rw[hloc] at *;clear Sf;go_wp2_with fail
     go_region
     go_wp2_with fail
     exact⟨⟨k+1,by go_num,hlt,AH Md.out HY.out hne.out,HB.out.drew⟩,by simp[intOf];omega⟩
   ·have g1:(u.loc == y.loc)=false:=aC.2 hloc
    have hne:Hid (y≠u):=aa fun e=>hloc (by rw[e])
    clear hloc;go_wp2_with fail
    go_region
    go_wp2_with fail
    exact⟨⟨k+1,by go_num,hlt,AH Md.out HY.out hne.out,HB.out.drew⟩,by simp[intOf];omega⟩
  ·have ru:k=cr.length:=by omega
   go_wp2_with fail
   go_ret
   refine⟨?_,tF.out.trans (HB.out.mono (fu ec))⟩;unfold Dk;rw[Yc (fun y hy=>Md.out y (by rw[ru,zR];exact hy))]
   rfl
end Go.Proofs.YtodmcdfeldkocaaGreatDoor
