/- Parts of the proof. -/
import Derived.RangeFuncNested
import Derived.RangeFuncBound
import Derived.RangeFuncCalls
import Derived.RangeFuncLeaves
import Derived.Shelf.Abstract
import Derived.OwnWalkIn
import Derived.TacticsInMore
import Derived.LoopNIn
import Derived.LoopIn
import Derived.Test.YteflkdlaoiijbaaGreatDoorM09
set_option maxHeartbeats 16000000
set_option maxRecDepth 20000
namespace Go.Proofs.YteflkdlaoiijbaaGreatDoor
theorem IA {n f:Nat} {l:Int} :∀(ns:List ByteArray) {st st':aF},du n f l ns st=.ok st'→st'.frames=st.frames:=by
 intro ns;induction ns with
 | nil=>intro st st' h;rw[du] at h;injection h with h;rw[h]
 | cons s ns ih =>
  intro st st' h;rw[du] at h;split at h
  ·cases h
  ·have:=ih h
   exact this
theorem uJ {n f:Nat} {l:Int} {ns:List ByteArray} {st st':aF} (h:bo n f l ns st=.ok st'):st'.frames=st.frames:=by
 have:=IA ns h;exact this
theorem yn {n f:Nat} {s:ByteArray} {l:Int} {st st':aF} (h:lP n f s l st=.ok st'):st'.frames=st.frames∧st'.names=st.names:=by
 unfold lP at h;split at h
 ·injection h with h;rw[←h];exact⟨rfl,rfl⟩
 ·split at h
  ·injection h with h;rw[←h];exact⟨rfl,rfl⟩
  ·split at h
   ·cases h
   ·injection h with h;rw[←h];exact⟨rfl,rfl⟩
theorem rp {n f:Nat} {l:Int} {st st':aF} (h:dY n f l st=.ok st'):st'.frames=st.frames∧st'.names=st.names:=by
 unfold dY at h;split at h
 ·cases h
 ·injection h with h;rw[←h];exact⟨rfl,rfl⟩
theorem rq {n f:Nat} {s:ByteArray} {l:Int} {st st':aF} :∀(fr:List e8),dm n f s l st fr=.ok st'→st'.frames=st.frames∧st'.names=st.names:=by
 intro fr;induction fr with
 | nil=>intro h;cases h
 | cons x fr ih =>
  intro h;rw[dm] at h;split at h
  ·exact ih h
  ·split at h
   ·exact ih h
   ·split at h
    ·cases h
    ·injection h with h;rw[←h];exact⟨rfl,rfl⟩
mutual
theorem yo :∀(t:Lt) {f:Nat} {st st':aF},aV t f st=.ok st'→st'.frames=st.frames
 | .mk i h ks,f,mg,st',hr=>by
  rw[cb] at hr;have e0:(mg.setOf i f).frames=mg.frames:=rfl;rw[←e0];generalize mg.setOf i f=st at *;split at hr
  ·split at hr
   ·injection hr with hr;rw[←hr]
   ·cases hr
  split at hr
  ·exact(yn hr).1
  split at hr
  ·obtain⟨s1,e1,hr⟩:=cf hr
   obtain⟨s2,e2,rfl⟩:=eu hr;rfl
  split at hr
  ·obtain⟨s1,e1,hr⟩:=cf hr
   obtain⟨s2,e2,rfl⟩:=eu hr;rfl
  split at hr
  ·obtain⟨s1,e1,e2⟩:=cf hr
   exact(uJ e2).trans (lg ks e1)
  split at hr
  ·obtain⟨s2,e2,rfl⟩:=eu hr
   rfl
  split at hr
  ·obtain⟨s2,e2,rfl⟩:=eu hr
   rfl
  split at hr
  ·exact Nz ks hr
  split at hr
  ·obtain⟨s1,e1,e2⟩:=cf hr
   exact(lg ks e2).trans (uJ e1)
  split at hr
  ·exact(rp hr).1
  split at hr
  ·exact(rq _ hr).1
  exact lg ks hr
theorem lg :∀(ks:List Lt) {f:Nat} {st st':aF},aE ks f st=.ok st'→st'.frames=st.frames
 | [],f,st,st',hr=>by
  rw[eE] at hr;injection hr with hr;rw[hr]
 | k::ks,f,st,st',hr=>by
  rw[dP] at hr;obtain⟨s1,e1,e2⟩:=cf hr;exact(lg ks e2).trans (yo k e1)
theorem Nz {i:Nat} {line:Int} {names:List ByteArray} :∀(ks:List Lt) {f:Nat} {st st':aF},iH i line names ks f st=.ok st'→st'.frames=st.frames
 | [],f,st,st',hr=>by
  unfold iH at hr;injection hr with hr;rw[hr]
 | [b],f,st,st',hr=>by
  rw[np] at hr;obtain⟨s1,e1,hr⟩:=cf hr;obtain⟨s2,e2,rfl⟩:=eu hr;rfl
 | a::b::l,f,st,st',hr=>by
  rw[jm] at hr;obtain⟨s1,e1,e2⟩:=cf hr;exact(Nz (b::l) e2).trans (yo a e1)
end
def Still (k:Lt):Prop:=k.hd.kind≠19∧k.hd.kind≠28
mutual
/-- Kids of what abx declare for its own adp declare. -/
def Lt.Quiet:Lt→Prop
 | .mk _ h ks=>((h.kind≠11∧h.kind≠18)→∀k∈ks,Still k)∧Lt.lU ks
def Lt.lU:List Lt→Prop
 | []=>True
 | k::ks=>Lt.Quiet k∧Lt.lU ks
end
mutual
theorem E0 :∀(t:Lt) {f:Nat} {st st':aF},t.Quiet→Still t→aV t f st=.ok st'→st'.names=st.names
 | .mk i h ks,f,mg,st',hq,hs,hr=>by
  rw[cb] at hr;have e0:(mg.setOf i f).names=mg.names:=rfl;rw[←e0];generalize mg.setOf i f=st at *;unfold Lt.Quiet at hq;obtain⟨hq1,oW⟩:=hq;split at hr
  ·split at hr
   ·injection hr with hr;rw[←hr]
   ·cases hr
  split at hr
  ·exact(yn hr).2
  split at hr
  ·obtain⟨s1,e1,hr⟩:=cf hr
   obtain⟨s2,e2,rfl⟩:=eu hr;rfl
  split at hr
  ·obtain⟨s1,e1,hr⟩:=cf hr
   obtain⟨s2,e2,rfl⟩:=eu hr;rfl
  split at hr
  ·exact absurd ‹h.kind=19› hs.1
  split at hr
  ·obtain⟨s2,e2,rfl⟩:=eu hr
   rfl
  split at hr
  ·obtain⟨s2,e2,rfl⟩:=eu hr
   rfl
  split at hr
  ·exact NB ks oW (hq1 ⟨by omega,by omega⟩) hr
  split at hr
  ·exact absurd ‹h.kind=28› hs.2
  split at hr
  ·exact(rp hr).2
  split at hr
  ·exact(rq _ hr).2
  exact qk ks oW (hq1 ⟨by assumption,by assumption⟩) hr
theorem qk :∀(ks:List Lt) {f:Nat} {st st':aF},Lt.lU ks→(∀k∈ks,Still k)→aE ks f st=.ok st'→st'.names=st.names
 | [],f,st,st',_,_,hr=>by
  rw[eE] at hr;injection hr with hr;rw[hr]
 | k::ks,f,st,st',hq,hs,hr=>by
  rw[dP] at hr;obtain⟨s1,e1,e2⟩:=cf hr;unfold Lt.lU at hq;exact(qk ks hq.2 (fun x hx=>hs x (bY _ hx)) e2).trans (E0 k hq.1 (hs k (bV ..)) e1)
theorem NB {i:Nat} {line:Int} {names:List ByteArray} :∀(ks:List Lt) {f:Nat} {st st':aF},Lt.lU ks→(∀k∈ks,Still k)→iH i line names ks f st=.ok st'→st'.names=st.names
 | [],f,st,st',_,_,hr=>by
  unfold iH at hr;injection hr with hr;rw[hr]
 | [b],f,st,st',_,_,hr=>by
  rw[np] at hr;obtain⟨s1,e1,hr⟩:=cf hr;obtain⟨s2,e2,rfl⟩:=eu hr;rfl
 | a::b::l,f,st,st',hq,hs,hr=>by
  rw[jm] at hr;obtain⟨s1,e1,e2⟩:=cf hr;unfold Lt.lU at hq;exact(NB (b::l) hq.2 (fun x hx=>hs x (bY _ hx)) e2).trans (E0 a hq.1 (hs a (bV ..)) e1)
end
def dE (f:Nat) (fr:List e8):List e8:=fr.filter fun x=>!x.loop && decide (x.fn=f)
theorem rr {f:Nat} {x:e8} {fr:List e8} (h:x.loop=true∨x.fn≠f):dE f (x::fr)=dE f fr:=by
 unfold dE;rw[List.filter_cons_of_neg];rcases h with h|h
 ·rw[h];simp
 ·simp[h]
theorem uK {f:Nat} {x:e8} {fr:List e8} (h:x.loop=false) (h2:x.fn=f):dE f (x::fr)=x::dE f fr:=by
 unfold dE;rw[List.filter_cons_of_pos];simp[h,h2]
def gN (ks:List Lt) (n:Nat):Nat:=((ks.take n).filter isDecl).length
theorem AT (ks:List Lt):gN ks 0=0:=rfl
theorem uL {ks:List Lt} {n:Nat} {x:Lt} (h:ks[n]? = some x):gN ks (n+1)=gN ks n+if isDecl x then 1 else 0:=by
 unfold gN;rw[lx _ _ _ h,List.filter_append,cC];congr 1
 cases e:isDecl x<;>simp[e]
theorem NC (ks:List Lt) {m n:Nat} (h:m≤n):gN ks m≤gN ks n:=by
 unfold gN;have:ks.take m=(ks.take n).take m:=by rw[List.take_take,DT h]
 rw[this];exact((List.take_sublist m (ks.take n)).filter _).length_le
theorem ND (ks:List Lt) (n:Nat):gN ks n≤ks.length:=by
 unfold gN;exact aL (List.length_filter_le _ _) (by rw[og];omega)
theorem XF {ks:List Lt} {m n:Nat} (h:m≤n):gN ks m<gN ks n↔((ks.take n).drop m).any isDecl=true:=by
 have e:ks.take n=ks.take m++(ks.take n).drop m:=by
  conv=>lhs;rw[←JL m (ks.take n)]
  rw[List.take_take,DT h]
 have e2:gN ks n=gN ks m+(((ks.take n).drop m).filter isDecl).length:=by
  conv=>lhs;unfold gN;rw[e]
  rw[List.filter_append,cC];rfl
 rw[e2,List.any_eq_true];constructor
 ·intro h1
  have h2:0<(((ks.take n).drop m).filter isDecl).length:=by omega
  obtain⟨x,hx⟩:=List.exists_mem_of_length_pos h2;exact⟨x,(vJ.1 hx).1,(vJ.1 hx).2⟩
 ·rintro⟨x,hx,hd⟩
  have:=List.length_pos_of_mem (vJ.2 ⟨hx,hd⟩);omega
def qC (k:Lt):Bool:=decide (k.hd.kind=32)
def lh:List Lt→Nat
 | []=>0
 | k::ks=>if qC k && decide (lh ks=0) then 0 else lh ks+1
theorem ru :∀ks:List Lt,lh ks=0↔ks.all qC=true
 | []=>by simp[lh]
 | k::ks=>by
  rw[lh,rI];have ih:=ru ks;by_cases h:qC k=true
  ·by_cases h2:lh ks=0
   ·rw[al (by rw[h,h2];rfl),h,ih.1 h2];simp
   ·rw[af (by rw[h];simpa using h2),h]
    have:¬ ks.all qC=true:=fun e=>h2 (ih.2 e)
    simp only[kI];constructor
    ·intro e;omega
    ·intro e;exact absurd e this
  ·have h:qC k=false:=by simpa using h
   rw[af (by rw[h];simp),h]
   simp
theorem s5 :∀(ks:List Lt) (j:Nat),j<lh ks↔¬ (ks.drop j).all qC=true
 | [],j=>by simp[lh]
 | k::ks,0=>by
  rw[tj,←ru];omega
 | k::ks,j+1=>by
  rw[List.drop_succ_cons,←s5 ks j,lh];split
  ·rename_i h
   simp only[di,iy] at h;omega
  ·omega
theorem SK {ks:List Lt} {e:Nat} (he:e≤ks.length) (h1:(ks.drop e).all qC=true) (h2:e=0∨∃x,ks[e-1]? = some x∧qC x=false):lh ks=e:=by
 have h3:¬ e<lh ks:=fun h=>(s5 ks e).1 h h1
 rcases h2 with rfl | ⟨x,hx,hl⟩
 ·omega
 ·have h4:e-1<lh ks:=(s5 ks (e-1)).2 fun h=>by
   have hlt:=(aK.1 hx).1;have:x∈ks.drop (e-1):=by
    rw[kD];exact⟨0,by rw[za];exact hx⟩
   rw[List.all_eq_true] at h;rw[h x this] at hl;cases hl
  have h5:e-1<ks.length:=(aK.1 hx).1;rcases rH e with h0|h0
  ·subst h0;omega
  ·omega
def ry (ks:List Lt) (rep:Bool) (j:Nat):Nat:=if rep=true∨j<lh ks then gN ks j else 0
theorem drop_at {α:Type} {l:List α} {j:Nat} {x:α} (h:l[j]? = some x):l.drop j=x::l.drop (j+1):=by
 obtain⟨hl,he⟩:=aK.1 h;rw[yZ hl,he]
theorem SL {ks:List Lt} {a j:Nat} {rep:Bool} {x:Lt} (hj:ks[j]? = some x) (hx:qC x=true):lQ ks a j rep=decide (gN ks (a+1)<ry ks rep j):=by
 have hall:(ks.drop (j+1)).all qC=(ks.drop j).all qC:=by
  rw[drop_at hj,rI,hx,kI]
 have aaH:((ks.drop (j+1)).all fun k=>decide (k.hd.kind=32))=(ks.drop j).all qC:=hall
 unfold lQ;rw[aaH];have h1:((ks.take j).drop (a+1)).any isDecl=decide (gN ks (a+1)<gN ks j):=by
  by_cases h:a+1≤j
  ·have:=XF (ks:=ks) h
   cases e:((ks.take j).drop (a+1)).any isDecl with
   | true=>rw[e] at this;exact(bZ (this.2 rfl)).symm
   | false=>rw[e] at this;exact(cr fun h=>by have:=this.1 h;cases this).symm
  ·have h2:(ks.take j).drop (a+1)=[]:=List.drop_eq_nil_iff.2 (by rw[og];omega)
   rw[h2];have:=NC ks (show j≤a+1 by omega)
   exact(cr (by omega)).symm
 rw[h1];unfold ry;cases rep with
 | true=>simp
 | false =>
  have h3:=s5 ks j;cases e:(ks.drop j).all qC with
  | true =>
   rw[e] at h3;have h4:¬ j<lh ks:=fun h=>(h3.1 h) rfl
   rw[af (by simpa using h4)]
   simp
  | false =>
   rw[e] at h3;rw[al (.inr (h3.2 (by simp)))]
   simp
def nx (ks:List Lt) (rep:Bool) (n:Nat) (s:ByteArray):Option (Nat×Nat) :=
 match ca ks s with
 | some j=>if j<n then some ((ks.getD j (.mk 0 ⟨0,0,0,0,⟨#[]⟩,[],[]⟩ [])).loc,ry ks rep j) else none
 | none=>none
theorem IB (ks:List Lt) (rep:Bool) (s:ByteArray):nx ks rep 0 s=none:=by
 unfold nx;split
 ·rw[af (by omega)]
 ·rfl
theorem uM {ks:List Lt} {s:ByteArray} {j:Nat} (h:ca ks s=some j) :∃x,ks[j]? = some x∧kW s x=true∧j<ks.length:=by
 obtain⟨hlt,he,_⟩:=yW.1 h;exact⟨ks[j],bX hlt,he,hlt⟩
theorem AU (ks:List Lt) (rep:Bool) (s:ByteArray):nx ks rep ks.length s=(ca ks s).map fun j=>((ks.getD j (.mk 0 ⟨0,0,0,0,⟨#[]⟩,[],[]⟩ [])).loc,ry ks rep j):=by
 unfold nx;cases h:ca ks s with
 | none=>rfl
 | some j =>
  obtain⟨_,_,_,hlt⟩:=uM h;exact al hlt
theorem uN {ks:List Lt} {rep:Bool} {n:Nat} {x:Lt} (hx:ks[n]? = some x) {s:ByteArray} (h:kW s x=false):nx ks rep (n+1) s=nx ks rep n s:=by
 unfold nx;cases h1:ca ks s with
 | none=>rfl
 | some j =>
  obtain⟨y,hy,hl,_⟩:=uM h1;have:j≠n:=fun e=>by
   subst e;rw[hx] at hy;injection hy with hy;rw[hy,hl] at h;cases h
  dsimp only
  by_cases h2:j<n
  ·rw[al h2,al (by omega)]
  ·rw[af h2,af (by omega)]
theorem IC {ks:List Lt} {rep:Bool} {n:Nat} {x:Lt} (hx:ks[n]? = some x) (h:qC x=true) (hn:¬∃j,ca ks x.hd.s=some j∧j<n):nx ks rep (n+1) x.hd.s=some (x.loc,ry ks rep n):=by
 have hi:kW x.hd.s x=true:=by unfold kW;unfold qC at h;rw[h];simp
 have h1:ca ks x.hd.s=some n:=by
  cases e:ca ks x.hd.s with
  | none =>
   unfold ca at e;rw[JG] at e;rw[e x (aM hx)] at hi;cases hi
  | some j =>
   have hj:¬ j<n:=fun hj=>hn ⟨j,e,hj⟩
   obtain⟨hlt,he,acw⟩:=yW.1 e;by_cases h2:n<j
   ·have:=acw n h2
    rw[(aK.1 hx).2] at this;rw[hi] at this;exact absurd rfl this
   ·congr 1;omega
 unfold nx;rw[h1];dsimp only
 rw[al (by omega),kB,hx]
 rfl
theorem NG {ks:List Lt} {rep:Bool} {n:Nat} {s:ByteArray}:(nx ks rep n s).isSome=true↔∃j,ca ks s=some j∧j<n:=by
 unfold nx;cases h:ca ks s with
 | none=>simp
 | some j =>
  dsimp only
  by_cases h2:j<n
  ·rw[al h2];simp[h2]
  ·rw[af h2]
   simp[h2]
theorem nR {node f:Nat} {s:ByteArray} {line:Int} {st:aF} :∀fr:List e8,dm node f s line st fr=match (dE f fr).find? fun x=>(ca x.kids s).isSome with
  | none=>.error (8,line)
  | some x=>match ca x.kids s with
   | none=>.error (8,line)
   | some j=>if lQ x.kids x.at_ j x.rep then .error (10,line) else .ok (st.cK node (4,((x.kids.getD j (.mk 0 ⟨0,0,0,0,⟨#[]⟩,[],[]⟩ [])).loc:Int)))
 | []=>rfl
 | x::fr=>by
  rw[dm];by_cases h:x.loop=true∨x.fn≠f
  ·rw[al h,rr h]
   exact nR fr
  ·rw[af h]
   rw[not_or,Decidable.not_not] at h;have h1:x.loop=false:=by simpa using h.1
   rw[uK h1 h.2,kH];cases e:ca x.kids s with
   | none=>exact nR fr
   | some j =>
    dsimp only[Option.isSome]
    rw[e]
def bM (f:Nat) (fr:List e8):Int:=match fr.find? (fun x=>x.loop && decide (x.fn=f)) with|none=>-1|some x=>(x.node:Int)
theorem uO (f i:Nat) (fr:List e8):bM f (⟨f,i,0,true,false,[]⟩::fr)=(i:Int):=by
 unfold bM;rw[kH];simp
theorem uP {f:Nat} {x:e8} (h:x.loop=false) (fr:List e8):bM f (x::fr)=bM f fr:=by
 unfold bM;rw[kH,h];rfl
theorem NH (node f:Nat) (line:Int) (st:aF):dY node f line st=if bM f st.frames = -1 then .error (8,line) else .ok (st.cK node (4,bM f st.frames)):=by
 unfold dY bM;cases st.frames.find? (fun x=>x.loop && decide (x.fn=f)) with
 | none=>rfl
 | some x=>exact(af (by show ¬ (x.node:Int) = -1;omega)).symm
theorem NI {fr:List e8} {f:Nat} {s:ByteArray}:(∃x∈fr,x.loop=false∧x.fn=f∧(ca x.kids s).isSome)↔((dE f fr).find? fun x=>(ca x.kids s).isSome).isSome=true:=by
 rw[List.find?_isSome];unfold dE;constructor
 ·rintro⟨x,hx,h1,h2,h3⟩
  exact⟨x,vJ.2 ⟨hx,by simp[h1,h2]⟩,h3⟩
 ·rintro⟨x,hx,h3⟩
  obtain⟨h1,h2⟩:=vJ.1 hx;simp only[di,Bool.not_eq_true',iy] at h2;exact⟨x,h1,h2.1,h2.2,h3⟩
end Go.Proofs.YteflkdlaoiijbaaGreatDoor
namespace Go.Proofs.YteflkdlaoiijbaaGreatDoor
open Go.RowKit
structure cV where
 fn:Nat
 blk:Nat
 iv:List jj
def E3 (l:cV):List Value:=[.int .i64 (l.fn:Int),.map (some l.blk)]
theorem yq (l:cV):(E3 l).length=2:=rfl
def jS (iv:List jj) (s:ByteArray):Option Value:=(iv.find? fun n=>decide (n.s=s)).map fun n=>.int .i64 (n.i:Int)
def mh (L:List cV):List jj:=L.flatMap cV.iv
def grow (a:List jj):List cV→List cV
 | []=>[]
 | l::r=>{ l with iv:=a++l.iv}::r
theorem jK (L:List cV):grow [] L=L:=by cases L<;>rfl
theorem cG (a:List jj) (L:List cV):(grow a L).length=L.length:=by cases L<;>rfl
theorem grow_grow (a b:List jj) (L:List cV):grow b (grow a L)=grow (b++a) L:=by
 cases L with
 | nil=>rfl
 | cons l r=>simp[grow,fg]
theorem ID {a:List jj} {L:List cV} (h:L≠[]):mh (grow a L)=a++mh L:=by
 cases L with
 | nil=>exact absurd rfl h
 | cons l r=>simp[grow,mh,fg]
def eB:List cV→Option Nat
 | []=>none
 | l::_=>some l.blk
theorem nS (a:List jj) (L:List cV):eB (grow a L)=eB L:=by cases L<;>rfl
theorem uQ (a:List jj) (L:List cV):(grow a L).map cV.blk=L.map cV.blk:=by cases L<;>rfl
theorem rz (s:ByteArray) :∀L:List cV,(mh L).find? (fun n=>decide (n.s=s))=(L.find? fun l=>(jS l.iv s).isSome).bind fun l=>l.iv.find? fun n=>decide (n.s=s)
 | []=>rfl
 | l::L=>by
  show(l.iv++mh L).find? _=_
  rw[List.find?_append,kH];unfold jS;cases e:l.iv.find? fun n=>decide (n.s=s) with
  | none =>
   dsimp only[Option.map,Option.isSome]
   rw[Option.none_or];exact rz s L
  | some n =>
   dsimp only[Option.map,Option.isSome]
   rw[Option.some_or];exact e.symm
structure dk (W:World) (B:Nat) (v:Value) (L:List cV):Prop where
 row:W.ownsRow B 238 2 v L.length (L.reverse.flatMap E3)
 maps :∀l∈L,dJ Tryz.prog 9 W l.blk l.iv.length (jS l.iv)∧B≤l.blk
 own :∀l∈L,∀n∈l.iv,n.fn=l.fn
 apart:(L.map cV.blk).Nodup
def fB (ks:List Lt) (rep:Bool) (n:Nat) (s:ByteArray):Option Value:=(nx ks rep n s).map fun p=>.agg #[.int .i64 (p.1:Int),.int .i64 (p.2:Int)]
def cw (W:World) (B:Nat):List (Nat×Nat×(ByteArray→Option Value))→List Nat→Value→Prop
 | [],ms,v=>ms=[]∧v=.pointer none
 | x::fs,ms,v=>∃k p m BQ,v=.pointer (some ⟨k,0,none⟩)∧ms=m::BQ∧B≤k∧W.heap[k]? = some (.cells #[.pointer p,.map (some m),.int .i64 (x.1:Int)] 195 (0,0))∧dJ Tryz.prog 9 W m x.2.1 x.2.2∧B≤m∧(∀a,p=some a→a.block<k)∧cw W B fs BQ (.pointer p)
def JB (x:e8):Nat×Nat×(ByteArray→Option Value):=(gN x.kids (x.at_+1),x.kids.length,fB x.kids x.rep x.kids.length)
def oD (W:World) (B:Nat) (fs:List e8) (ms:List Nat) (v:Value):Prop:=cw W B (fs.map JB) ms v
structure cW (B ob:Nat) (v:Value) (n:Nat) (top:Option Nat) (W W':World):Prop where
 below:Below B W W'
 cells :∀(k:Nat) c (e:TypeId) fz,W.heap[k]? = some (.cells c e fz)→e∉[52,61,59,57,87,3,238]→W'.heap[k]? = some (.cells c e fz)
 ints :∀(k:Nat) c fz,W.heap[k]? = some (.cells c 3 fz)→k≠ob→W'.heap[k]? = some (.cells c 3 fz)
 lvl :∀u m xs,W.ownsRow B 238 2 u m xs→(u.ownBlock=v.ownBlock→m≤n)→W'.ownsRow B 238 2 u m xs
 maps :∀(k:Nat) es c,W.heap[k]? = some (.map es c)→some k≠top→W'.heap[k]? = some (.map es c)
section
variable {B ob n:Nat} {v:Value} {top:Option Nat} {W W' W2:World}
theorem cW.refl (B ob:Nat) (v:Value) (n:Nat) (top:Option Nat) (W:World):cW B ob v n top W W:=⟨Below.refl _ _,fun _ _ _ _ h _=>h,fun _ _ _ h _=>h,fun _ _ _ h _=>h,fun _ _ _ h _=>h⟩
theorem cW.trans (h:cW B ob v n top W W') (k:cW B ob v n top W' W2):cW B ob v n top W W2 :=
 ⟨h.below.trans k.below,fun i c e fz hi he=>k.cells i c e fz (h.cells i c e fz hi he) he,fun i c fz hi ho=>k.ints i c fz (h.ints i c fz hi ho) ho,fun u m xs hu hm=>k.lvl u m xs (h.lvl u m xs hu hm) hm,fun i es c hi ht=>k.maps i es c (h.maps i es c hi ht) ht⟩
theorem cW.E5 (h:cW B ob v n none W W') (top:Option Nat):cW B ob v n top W W':=⟨h.below,h.cells,h.ints,h.lvl,fun k es c hk _=>h.maps k es c hk (by simp)⟩
theorem cW.uH {E:List Nat} (h:Fr E W W') (hE :∀e∈E,e∈[52,61,59,57,87]) (hb:Below B W W'):cW B ob v n top W W' :=
 ⟨hb,fun k c e fz hk he=>h.cells k c e fz hk fun hm=>he (fU [3,238] (hE e hm)),
  fun k c fz hk _=>h.cells k c _ fz hk fun hm=>absurd (hE _ hm) (by decide),fun u m xs hu _=>h.row hu fun hm=>absurd (hE _ hm) (by decide),fun k es c hk _=>h.maps k es c hk⟩
theorem cW.bP (hb:Below W.heap.size W W') (hB:B≤W.heap.size):cW B ob v n top W W':=cW.uH (E:=[]) (Fr.ae hb) (fun _ h=>by cases h) (hb.mono hB)
theorem cW.aaI {cs:Array Value} {fz:Nat×Nat} (h:W.heap[ob]? = some (.cells cs 3 fz)) (hB:B≤ob) (j:Nat) (x:Value):cW B ob v n top W (W.setCell ⟨ob,j,none⟩ x):=by
 have hf:Fr [3] W (W.setCell ⟨ob,j,none⟩ x):=Fr.set h (by decide) j x
 exact⟨(Below.refl B W).setCell (p:=⟨ob,j,none⟩) hB x,fun k c e fz hk he=>hf.cells k c e fz hk fun hm=>he (by rw[bR] at hm;subst hm;decide),
  fun k c fz hk ho=>(Below.heap_setCell W ⟨ob,j,none⟩ x k ho).trans hk,fun u m xs hu _=>hf.row hu (by decide),fun k es c hk _=>hf.maps k es c hk⟩
theorem cW.of_map {b:Nat} (hg:W.grownBy W' (some b)) (hm :∃es c,W.heap[b]? = some (.map es c)) (hB:B≤b) (hW:B≤W.heap.size):cW B ob v n (some b) W W':=by
 obtain⟨es,c,hb⟩:=hm;have key :∀(k:Nat) (o:Obj),W.heap[k]? = some o→(∀es c,o ≠ .map es c)→W'.heap[k]? = some o:=fun k o hk ho=>(hg.block k (aJ.1 hk).1 fun e=>by
  injection e with e;subst e;rw[hb] at hk;injection hk with hk;exact ho _ _ hk.symm).trans hk
 refine⟨⟨hg.os,hg.tape,hg.output,hg.size,fun k hk=>hg.block k (by omega) fun e=>by injection e with e;omega⟩,fun k c e fz hk _=>key k _ hk (fun _ _ e=>by cases e),fun k c fz hk _=>key k _ hk (fun _ _ e=>by cases e),fun u m xs hu _=>?_,fun k es c hk ht=>(hg.block k (aJ.1 hk).1 ht).trans hk⟩
 refine⟨hu.1,?_⟩;rcases hu.2 with hn | ⟨g,cap,cur,rfl,hB,hg,rest⟩
 ·exact .inl hn
 ·exact .inr ⟨g,cap,cur,rfl,hB,key g _ hg (fun _ _ e=>by cases e),rest⟩
theorem cW.map {P:Program} {k:TypeId} {b m:Nat} {f:ByteArray→Option Value} (h:cW B ob v n top W W') (hm:dJ P k W b m f) (ht:some b≠top):dJ P k W' b m f:=by
 obtain⟨es,c,h1⟩:=hm.isMap;exact hm.same ((h.maps b es c h1 ht).trans h1.symm)
theorem dk.jh {L:List cV} (h:dk W B v L) (k:cW B ob v n none W W') (hn:L.length≤n):dk W' B v L :=
 ⟨k.lvl _ _ _ h.row fun _=>hn,fun l hl=>⟨k.map (h.maps l hl).1 (by simp),(h.maps l hl).2⟩,h.own,h.apart⟩
theorem dk.more {a:List jj} {l:cV} {r:List cV} (h:dk W B v (l::r)) (k:cW B ob v n (some l.blk) W W') (hn:(l::r).length≤n) (hm:dJ Tryz.prog 9 W' l.blk (a++l.iv).length (jS (a++l.iv))) (ha :∀x∈a,x.fn=l.fn):dk W' B v (grow a (l::r)):=by
 refine⟨?_,fun u hu=>?_,fun u hu x hx=>?_,?_⟩
 ·have:=k.lvl _ _ _ h.row fun _=>hn
  rw[cG];rw[DQ,py] at this;unfold grow;rw[DQ,py];exact this
 ·rcases bq.1 hu with rfl|hu
  ·exact⟨hm,(h.maps l (bV ..)).2⟩
  ·have h1:=h.maps u (bY _ hu)
   refine⟨k.map h1.1 fun e=>?_,h1.2⟩
   injection e with e;have h2:=h.apart;rw[fW,lZ] at h2;exact h2.1 (e▸jT hu)
 ·rcases bq.1 hu with rfl|hu
  ·rcases dj.1 hx with hx|hx
   ·exact ha x hx
   ·exact h.own l (bV ..) x hx
  ·exact h.own u (bY _ hu) x hx
 ·rw[uQ]
  exact h.apart
theorem cw.jh (k:cW B ob v n top W W') :∀{fs:List (Nat×Nat×(ByteArray→Option Value))} {ms:List Nat} {p:Value},cw W B fs ms p→(∀m∈ms,some m≠top)→cw W' B fs ms p
 | [],_,_,h,_=>h
 | x::fs,ms,p,h,ht=>by
  obtain⟨k',p',m,BQ,rfl,rfl,h1,h2,h3,h4,h5,h6⟩:=h;exact⟨k',p',m,BQ,rfl,rfl,h1,k.cells k' _ _ _ h2 (by decide),k.map h3 (ht m (bV ..)),h4,h5,cw.jh k h6 fun m hm=>ht m (bY _ hm)⟩
theorem cw.later {fs:List (Nat×Nat×(ByteArray→Option Value))} {ms:List Nat} {p:Value} (h:cw W B fs ms p) (hb:Below W.heap.size W W'):cw W' B fs ms p:=by
 by_cases hB:B≤W.heap.size
 ·exact cw.jh (ob:=0) (v:=.nilIface) (n:=0) (top:=none) (cW.bP hb hB) h (by simp)
 ·cases fs with
  | nil=>exact h
  | cons x fs =>
   obtain⟨k,p',m,BQ,rfl,rfl,h1,h2,_⟩:=h;have:=(aJ.1 h2).1;omega
theorem oD.jh (k:cW B ob v n top W W') {fs:List e8} {ms:List Nat} {p:Value} (h:oD W B fs ms p) (ht :∀m∈ms,some m≠top):oD W' B fs ms p:=cw.jh k h ht
theorem cw.form {fs:List (Nat×Nat×(ByteArray→Option Value))} {ms:List Nat} {p:Value} (h:cw W B fs ms p) :∃a,p=.pointer a:=by
 cases fs with
 | nil=>exact⟨none,h.2⟩
 | cons x fs=>obtain⟨k,_,_,_,rfl,_⟩:=h;exact⟨_,rfl⟩
end
structure oE (W:World) (B f:Nat) (p lv:Value) (ms:List Nat) (L:List cV) (st:aF):Prop where
 fu:dk W B lv L
 blk:oD W B (dE f st.frames) ms p
 names:st.names=mh L
 apart :∀m∈ms,∀l∈L,m≠l.blk
def IE (W:World) (v:Value) (n k:Int):Prop:=∃g,v=.iface 83 (.pointer (some ⟨g,0,none⟩))∧W.heap[g]? = some (.cells #[.int .i64 n,.iface 79 (.int .i64 k)] 85 (0,0))
def jL (W:World) (B b:Nat) (nv:Value) (N:Nat) (st:aF) (ub ob:Nat):Prop:=∃fv L,eV W B b nv N st fv ub ob L
def aq (B b:Nat) (nv:Value) (N ub ob:Nat) (lv:Value) (L:List cV) (st:aF) (r:Rs aF) (w:World) (e:Ending) (w':World):Prop :=
 Below B w w'∧match r with
 | .ok st'=>e=.returned .nilIface∧jL w' B b nv N st' ub ob∧cW B ob lv L.length (eB L) w w'∧∃a,st'.names=a++st.names∧(L=[]→a=[])∧dk w' B lv (grow a L)
 | .error x=>∃v,e=.returned v∧IE w' v x.2 x.1
theorem oE.on {W W':World} {B ob f:Nat} {p lv:Value} {ms:List Nat} {L:List cV} {st st':aF} {a:List jj} (h:oE W B f p lv ms L st) (k:cW B ob lv L.length (eB L) W W') (hl:dk W' B lv (grow a L)) (hn:st'.names=a++st.names) (he:L=[]→a=[]) (hf:st'.frames=st.frames):oE W' B f p lv ms (grow a L) st':=by
 refine⟨hl,?_,?_,fun m hm l hl=>?_⟩
 ·rw[hf]
  refine h.blk.jh k fun m hm e=>?_
  cases L with
  | nil=>cases e
  | cons l r =>
   injection e with e;exact h.apart m hm l (bV ..) e
 ·rw[hn,h.names]
  by_cases e:L=[]
  ·rw[he e,jK];rfl
  ·exact(ID e).symm
 ·have h1:l.blk∈(grow a L).map cV.blk:=jT hl
  rw[uQ] at h1;obtain⟨u,hu,e⟩:=jr.1 h1;rw[←e];exact h.apart m hm u hu
end Go.Proofs.YteflkdlaoiijbaaGreatDoor
namespace Go.Proofs.YteflkdlaoiijbaaGreatDoor
open Go.RowKit
def gC (B b:Nat) (nv:Value) (N ub ob:Nat) (r:Rs aF) (w:World) (e:Ending) (w':World):Prop :=
 Below B w w'∧match r with
 | .ok st'=>e=.returned .nilIface∧jL w' B b nv N st' ub ob∧Fr [52,61,59,57,87] w w'
 | .error x=>∃v,e=.returned v∧IE w' v x.2 x.1
theorem eV.gK {W:World} {B b:Nat} {nv:Value} {N:Nat} {st:aF} {fv:Value} {ub ob:Nat} {L:List oC} (h:eV W B b nv N st fv ub ob L):b<W.heap.size∧ub<W.heap.size∧ob<W.heap.size:=⟨(aJ.1 h.blk).1,(h.uses.lt ub rfl).2,(h.pe.lt ob rfl).2⟩
theorem eG {T:List Nd} {B:Nat} {nv:Value} (b node:Nat) (h:Nd) (k:Int) (w:World) (hT:vx w B nv T) (c0:w.cell? ⟨b,0,none⟩=some nv) (hx:T[node]? = some h) :
  Calls Tryz.prog 108 #[.pointer (some ⟨b,0,none⟩),.int .i64 (node:Int),.iface 79 (.int .i64 k)] w fun e w'=>∃v,e=.returned v∧(∃g,v=.iface 83 (.pointer (some ⟨g,0,none⟩)))∧IE w' v h.line k∧Below w.heap.size w w':=by
 obtain⟨bk,o,c,rfl,bS,cB,hn⟩:=hT.nodes;obtain⟨qD,qE,dS,_,_⟩:=hn node h hx;have jz:node<T.length:=(aK.1 hx).1;have d1:=dS.c1;have qF:=hT.few;clear dS hn hT;go_enter Tryz.func108,Tryz.ntmps108
 go_wp2_with fail
 go_ret
 exact⟨_,rfl,⟨_,rfl⟩,⟨_,rfl,heap_alloc_new _ _⟩,(Below.refl _ _).alloc (ah _) _⟩
theorem sj {T:List Nd} {B:Nat} {nv:Value} (b node:Nat) (h:Nd) (w:World) (hT:vx w B nv T) (c0:w.cell? ⟨b,0,none⟩=some nv) (hx:T[node]? = some h) :
  Calls Tryz.prog 115 #[.pointer (some ⟨b,0,none⟩),.int .i64 (node:Int)] w fun e w'=>e=.returned (.bool (decide (h.kind=19) || decide (h.kind=28)))∧w=w':=by
 obtain⟨bk,o,c,rfl,bS,cB,hn⟩:=hT.nodes;obtain⟨qD,qE,dS,_,_⟩:=hn node h hx;have jz:node<T.length:=(aK.1 hx).1;have d0:=dS.c0;have qF:=hT.few;clear dS hn hT;have e1:(h.kind == 19)=decide (h.kind=19):=rfl;have e2:(h.kind == 28)=decide (h.kind=28):=rfl;cases h1:decide (h.kind=19) with
 | true =>
  rw[h1] at e1;go_enter Tryz.func115,Tryz.ntmps115
  go_wp2_with fail
  go_ret
  exact⟨rfl,rfl⟩
 | false =>
  rw[h1] at e1;cases h2:decide (h.kind=28) with
  | true =>
   rw[h2] at e2;go_enter Tryz.func115,Tryz.ntmps115
   go_wp2_with fail
   go_ret
   exact⟨rfl,rfl⟩
  | false =>
   rw[h2] at e2;go_enter Tryz.func115,Tryz.ntmps115
   go_wp2_with fail
   go_ret
   exact⟨rfl,rfl⟩
theorem Below.two {W:World} (o o':Obj):Below W.heap.size W ((W.alloc o).alloc o'):=((Below.refl _ _).alloc (ah _) o).alloc (by rw[ao];omega) o'
theorem lV (f:Nat) (loop l:Int) (pa la:Option Addr) (ln lc:Nat) (w:World) :
  Calls Tryz.prog 57 #[.agg #[.int .i64 (f:Int),.int .i64 loop,.pointer pa,.slice la ln lc],.int .i64 l] w fun e w'=>e=.returned (.agg #[.int .i64 (f:Int),.int .i64 l,.pointer pa,.slice la ln lc])∧Below w.heap.size w w':=by
 go_enter Tryz.func57,Tryz.ntmps57
 go_wp2_with fail
 exact bodyPost_ret (v:=.agg #[.int .i64 (f:Int),.int .i64 l,.pointer pa,.slice la ln lc]) (by simp[results,Tryz.results57,go_sem]) rfl ⟨rfl,Below.two _ _⟩
theorem iJ {B b:Nat} {nv:Value} {N ub ob:Nat} {w w1 w2:World} {line k:Int} {v:Value} (hb:Below B w w1) (hB:B≤w1.heap.size) (h2:Below w1.heap.size w1 w2) (hf:IE w2 v line k):gC B b nv N ub ob (.error (k,line)) w (.returned v) w2 :=
 ⟨hb.trans (h2.mono hB),_,rfl,hf⟩
theorem NJ {T:List Nd} {B:Nat} {nv:Value} {ub ob:Nat} (b node f:Nat) (h:Nd) (loop:Int) (pa la:Option Addr) (ln lc:Nat) (st:aF) (w:World) (hT:vx w B nv T) (hw:jL w B b nv T.length st ub ob) (hx:T[node]? = some h) (hf:f<st.fns.length) :
  Calls Tryz.prog 53 #[.pointer (some ⟨b,0,none⟩),.int .i64 (node:Int),.agg #[.int .i64 (f:Int),.int .i64 loop,.pointer pa,.slice la ln lc]] w (gC B b nv T.length ub ob (if (st.fn f).many then .ok st else .error (14,h.line)) w):=by
 obtain⟨fv,FL,hw⟩:=hw;obtain⟨t,ht⟩:=hw.AR hf;obtain⟨g,c,rfl,XG,qN,sC⟩:=hw.fns.form ht;have hfn:=(hw.si ht).2;have wk:=hw.len;have NK:f<FL.length:=by omega
 obtain⟨hbl,pg,tH⟩:=hw.gK;have cB:B≤w.heap.size:=aL hw.pos (fj hbl);have d0:w.cell? ⟨b,0,none⟩=some nv:=ab hw.blk 0;have d1:w.cell? ⟨b,1,none⟩=some (.slice (some ⟨g,0,none⟩) FL.length c):=ab hw.blk 1;have e3:w.cell? ⟨g,f*6+3,none⟩=some (.bool t.1.many):=(sC 3 (by omega)).1
 rw[hfn];have HW:=aa hw;have HT:=aa hT;have HX:=aa hx;clear hw hT hx hfn ht sC wk;cases hm:t.1.many with
 | true =>
  rw[hm] at e3;go_enter Tryz.func53,Tryz.ntmps53
  go_wp2_with fail
  go_region
  go_wp2_with fail
  go_ret
  exact⟨((Below.refl B w).alloc cB _).drew,rfl,⟨_,_,(HW.out.alloc _).drew⟩,(Fr.alloc _).drew⟩
 | false =>
  rw[hm] at e3;have HC:=aa (ab (HW.out.alloc (.cells #[.int .i64 (f:Int),.int .i64 loop,.pointer pa,.slice la ln lc] 92)).drew.blk 0);have Ai:=aa (HT.out.below (((Below.refl B w).alloc cB (.cells #[.int .i64 (f:Int),.int .i64 loop,.pointer pa,.slice la ln lc] 92)).drew));go_enter Tryz.func53,Tryz.ntmps53
  go_wp2_with fail
  go_region
  go_wp2_with fail
  refine(eG b node _ _ _ Ai.out HC.out HX.out).mono ?_;rintro e w1 ⟨v,rfl,⟨g1,rfl⟩,h1,h2⟩;have H1:=aa h1;have H2:=aa h2;clear h1 h2;go_wp2_with fail
  go_ret
  exact iJ (((Below.refl B w).alloc cB _).drew) (by simp;omega) H2.out H1.out
def gm (w:World) (s:ByteArray) (fs:List (Nat×Nat×(ByteArray→Option Value))) (pv wP:Value):Prop :=
 match fs.find? fun x=>(x.2.2 s).isSome with
 | none=>pv=.pointer none∧wP=.agg #[.int .i64 0,.int .i64 0]
 | some x=>∃k,pv=.pointer (some ⟨k,0,none⟩)∧x.2.2 s=some wP∧w.cell? ⟨k,2,none⟩=some (.int .i64 (x.1:Int))∧k<w.heap.size
def aaJ:Value→Nat
 | .pointer (some a)=>a.block+1
 | _=>0
def NL (fs:List (Nat×Nat×(ByteArray→Option Value))):Prop:=∀x∈fs,∀s v,x.2.2 s=some v→∃a b,v=.agg #[.int .i64 a,.int .i64 b]
theorem NM (w:World):(zeroValue 199).run Tryz.prog w=.ok (.agg #[.int .i64 0,.int .i64 0]) w:=by kernel_rfl
theorem AV {B:Nat} (fs:List (Nat×Nat×(ByteArray→Option Value))) (ms:List Nat) (p:Value) (s:ByteArray) (w:World) (hc:cw w B fs ms p) (hs:s.size≤maxLen) (hl:NL fs) :
  Calls Tryz.prog 116 #[p,.string s] w fun e w'=>∃pa a b,e=.returned (.tuple #[.pointer pa,.agg #[.int .i64 a,.int .i64 b]])∧gm w s fs (.pointer pa) (.agg #[.int .i64 a,.int .i64 b])∧Below w.heap.size w w':=by
 obtain⟨a0,rfl⟩:=hc.form;have HC:=aa hc;have HL:=aa hl;clear hc hl;go_enter Tryz.func116,Tryz.ntmps116
 go_wp2_with fail
 have hz:=heap_alloc_new w (.cells #[.int .i64 0,.int .i64 0] 199);have z0:=dF w #[.int .i64 0,.int .i64 0] 199 0;have z1:=dF w #[.int .i64 0,.int .i64 0] 199 1;have y0:=frozen_of_row (w.alloc (.cells #[.int .i64 0,.int .i64 0] 199)) w.heap.size 0 _ _ (heap_alloc_new w (.cells #[.int .i64 0,.int .i64 0] 199));have y1:=frozen_of_row (w.alloc (.cells #[.int .i64 0,.int .i64 0] 199)) w.heap.size 1 _ _ (heap_alloc_new w (.cells #[.int .i64 0,.int .i64 0] 199));replace z0:_=some (Value.int .i64 0):=z0;replace z1:_=some (Value.int .i64 0):=z1;have dZ:w.heap.size<(w.alloc (.cells #[.int .i64 0,.int .i64 0] 199)).heap.size:=by rw[ao];omega
 have NN:=aa ((Below.refl w.heap.size w).alloc (ah _) (.cells #[.int .i64 0,.int .i64 0] 199));generalize hW0:w.alloc (.cells #[.int .i64 0,.int .i64 0] 199)=W0 at *;have HW0:=aa hW0;clear hW0;go_loopw [0] (fun t wr=>∃cs BQ,cw w B cs BQ t∧fs.find? (fun x=>(x.2.2 s).isSome)=cs.find? (fun x=>(x.2.2 s).isSome)∧NL cs∧Below W0.heap.size W0 wr) (fun t _=>aaJ t)
 case atStart=>exact⟨fs,ms,HC.out,rfl,HL.out,Below.refl _ _⟩
 case round =>
  obtain⟨cs,BQ,hc,hf,hl,hb⟩:=hrel;have k0:wr.cell? ⟨w.heap.size,0,none⟩=some (.int .i64 0):=(hb.cell (p:=⟨w.heap.size,0,none⟩) dZ).trans z0;have k1:wr.cell? ⟨w.heap.size,1,none⟩=some (.int .i64 0):=(hb.cell (p:=⟨w.heap.size,1,none⟩) dZ).trans z1;have j0:wr.frozen? ⟨w.heap.size,0,none⟩=false:=(hb.frozen (p:=⟨w.heap.size,0,none⟩) dZ).trans y0;have j1:wr.frozen? ⟨w.heap.size,1,none⟩=false:=(hb.frozen (p:=⟨w.heap.size,1,none⟩) dZ).trans y1;have hblk:=(hb.block w.heap.size dZ).trans hz;have IF:=aa hblk;clear hblk hz;have hwr:w.heap.size<wr.heap.size:=cL dZ hb.size;have HF:=aa hf;have HB:=aa hb;have HLc:=aa hl;clear hf hb hl z0 z1 y0 y1;cases cs with
  | nil =>
   obtain⟨rfl,rfl⟩:=hc;go_wp2_with fail
   have lo:=aa (((NN.out.trans (HB.out.mono (fj dZ))).setCell (p:=⟨w.heap.size,0,none⟩) (ah _) (.int .i64 0)).setCell (p:=⟨w.heap.size,1,none⟩) (ah _) (.int .i64 0));refine bodyPost_ret (v:=.tuple #[.pointer none,.agg #[.int .i64 0,.int .i64 0]]) (by simp[results,Tryz.results116,go_sem,k0,k1]) rfl ⟨none,0,0,rfl,?_,lo.out⟩
   unfold gm;rw[HF.out];exact⟨rfl,rfl⟩
  | cons x cs =>
   obtain⟨k,p,m,ms2,rfl,rfl,h1,h2,h3,h4,h5,h6⟩:=hc;have hk:k<w.heap.size:=(aJ.1 h2).1;have hbr:=NN.out.trans (HB.out.mono (fj dZ));have h2':=(hbr.block k hk).trans h2;have hkr:k<wr.heap.size:=cL hk hbr.size;have e0:wr.cell? ⟨k,0,none⟩=some (.pointer p):=ab h2' 0;have e1:wr.cell? ⟨k,1,none⟩=some (.map (some m)):=ab h2' 1;have hm:dJ Tryz.prog 9 wr m x.2.1 x.2.2:=h3.same (hbr.block m h3.lt);have hrun:=hm.look (t:=193) (e:=199) Tryz.underlying9 Tryz.underlying193 (NM wr) rfl s hs;have HX:=aa h6;have H5:=aa h5;have H2:=aa h2;clear h2 h2' h3 h6 h5 hm hbr;cases hg:x.2.2 s with
   | none =>
    rw[hg] at hrun;replace hrun:_=Result.ok (Value.tuple #[.agg #[.int .i64 0,.int .i64 0],.bool false]) wr:=hrun;go_wp2_with fail
    refine⟨⟨cs,ms2,HX.out,?_,fun y hy=>HLc.out y (bY _ hy),HB.out.alloc HB.out.size _⟩,?_⟩
    ·rw[HF.out,kH,hg]
     rfl
    ·cases p with
     | none=>exact Nat.succ_pos _
     | some a=>exact Nat.succ_lt_succ (H5.out a rfl)
   | some v =>
    obtain⟨a,b,rfl⟩:=HLc.out x (bV ..) s v hg;rw[hg] at hrun;replace hrun:_=Result.ok (Value.tuple #[.agg #[.int .i64 a,.int .i64 b],.bool true]) wr:=hrun;go_wp2_with fail
    go_region
    go_wp2_with fail
    have lo:=aa (((((NN.out.trans (HB.out.mono (fj dZ))).setCell (p:=⟨w.heap.size,0,none⟩) (ah _) (.int .i64 a)).setCell (p:=⟨w.heap.size,1,none⟩) (ah _) (.int .i64 b)).alloc (by simp;omega) (.cells #[.int .i64 a,.int .i64 b] 199)).drew)
    have hq:=(Below.heap_alloc ((wr.setCell ⟨w.heap.size,0,none⟩ (.int .i64 a)).setCell ⟨w.heap.size,1,none⟩ (.int .i64 b)) (.cells #[.int .i64 a,.int .i64 b] 199) w.heap.size (by simp;omega)).trans (bA (bA IF.out 0 (.int .i64 a)) 1 (.int .i64 b))
    have q0:=ab hq 0;have q1:=ab hq 1;replace q0:_=some (Value.int .i64 a):=q0;replace q1:_=some (Value.int .i64 b):=q1;refine bodyPost_ret (v:=.tuple #[.pointer (some ⟨k,0,none⟩),.agg #[.int .i64 a,.int .i64 b]]) (by simp[results,Tryz.results116,go_sem,q0,q1]) rfl ⟨_,a,b,rfl,?_,lo.out⟩
    unfold gm;rw[HF.out,kH,hg];exact⟨k,rfl,hg,ab H2.out 2,hk⟩
theorem AW {T:List Nd} {B:Nat} {nv:Value} {ub ob:Nat} (b node f:Nat) (h:Nd) (loop:Int) (pa la:Option Addr) (ln lc:Nat) (st:aF) (w:World) (hT:vx w B nv T) (hw:jL w B b nv T.length st ub ob) (hx:T[node]? = some h) (hl:loop=bM f st.frames) :
  Calls Tryz.prog 58 #[.pointer (some ⟨b,0,none⟩),.int .i64 (node:Int),.agg #[.int .i64 (f:Int),.int .i64 loop,.pointer pa,.slice la ln lc]] w (gC B b nv T.length ub ob (dY node f h.line st) w):=by
 obtain⟨fv,FL,hw⟩:=hw;obtain⟨hbl,pg,tH⟩:=hw.gK;have cB:B≤w.heap.size:=aL hw.pos (fj hbl);have jz:node<T.length:=(aK.1 hx).1;have d0:w.cell? ⟨b,0,none⟩=some nv:=ab hw.blk 0;have d2:w.cell? ⟨b,2,none⟩=some (.slice (some ⟨ub,0,none⟩) T.length T.length):=ab hw.blk 2;obtain⟨u0,v0⟩:=bJ hw.uses (j:=node*2) (by omega)
 obtain⟨u1,v1⟩:=bJ hw.uses (j:=node*2+1) (by omega)
 have qF:=hT.few;have HR:Hid (dY node f h.line st=if loop = -1 then .error (8,h.line) else .ok (st.cK node (4,loop))):=aa (by rw[NH,hl])
 have HW:=aa hw;have HT:=aa hT;have HX:=aa hx;clear hw hT hx hl;by_cases hm:loop = -1
 ·subst hm
  have HC:=aa (ab (HW.out.alloc (.cells #[.int .i64 (f:Int),.int .i64 (-1),.pointer pa,.slice la ln lc] 92)).blk 0);have Ai:=aa (HT.out.below ((Below.refl B w).alloc cB (.cells #[.int .i64 (f:Int),.int .i64 (-1),.pointer pa,.slice la ln lc] 92)));clear d2 u0 v0 u1 v1;go_enter Tryz.func58,Tryz.ntmps58
  go_wp2_with fail
  refine(eG b node _ _ _ Ai.out HC.out HX.out).mono ?_;rintro e w1 ⟨v,rfl,⟨g1,rfl⟩,h1,h2⟩;have H1:=aa h1;have H2:=aa h2;clear h1 h2;go_wp2_with fail
  go_ret
  rw[show dY node f h.line st=.error (8,h.line) from HR.out.trans (by simp)]
  exact iJ ((Below.refl B w).alloc cB _) (by simp;omega) H2.out H1.out
 ·have g1:(loop == -1)=false:=aG.2 hm
  have HM:=aa hm;clear hm;go_enter Tryz.func58,Tryz.ntmps58
  go_wp2_with fail
  go_region
  go_wp2_with fail
  go_ret
  rw[show dY node f h.line st=.ok (st.cK node (4,loop)) from HR.out.trans (af HM.out)]
  refine⟨((uI HW.out node _ _).alloc (by simp;omega) _).drew,rfl,⟨_,_,((HW.out.use node (4,loop)).alloc _).drew⟩,?_⟩
  exact(((lT HW.out node _ _).mono (by decide)).trans (Fr.alloc _)).drew
def gD (k:Int) (n:Nat):Bool×Int×Bool :=
 if k=26∨k=27 then (true,(n:Int)-1,true) else if k=11 then (true,0,true) else if k=28 then (true,0,false) else if k=19 then (true,(n:Int),false) else (false,0,false)
theorem Below.three {W:World} (o o' o2:Obj):Below W.heap.size W (((W.alloc o).alloc o').alloc o2):=(Below.two o o').alloc (by rw[ao,ao];omega) o2
theorem wQ {n:Nat} (h:n≤1000000):wrap64 ((n:Int)-1)=(n:Int)-1:=by unfold wrap64;omega
theorem gE (k line op num:Int) (s:ByteArray) (na ka:Option Addr) (nn nc kn kc:Nat) (w:World) (fR:kn≤1000000) :
  Calls Tryz.prog 110 #[.agg #[.int .i64 k,.int .i64 line,.int .i64 op,.int .i64 num,.string s,.slice na nn nc,.slice ka kn kc]] w fun e w'=>e=.returned (.agg #[.bool (gD k kn).1,.int .i64 (gD k kn).2.1,.bool (gD k kn).2.2])∧Below w.heap.size w w':=by
 have hwr:=wQ fR;have key:k=26∨k=27∨k=11∨k=28∨k=19∨((k == 26)=false∧(k == 27)=false∧(k == 11)=false∧(k == 28)=false∧(k == 19)=false):=by
  simp only[aG];omega
 rcases key with rfl|rfl|rfl|rfl|rfl | ⟨g1,g2,g3,g4,g5⟩
 ·go_enter Tryz.func110,Tryz.ntmps110
  go_wp2_with fail
  exact bodyPost_ret (v:=.agg #[.bool true,.int .i64 ((kn:Int)-1),.bool true]) (by simp[results,Tryz.results110,go_sem]) rfl ⟨rfl,Below.three _ _ _⟩
 ·go_enter Tryz.func110,Tryz.ntmps110
  go_wp2_with fail
  exact bodyPost_ret (v:=.agg #[.bool true,.int .i64 ((kn:Int)-1),.bool true]) (by simp[results,Tryz.results110,go_sem]) rfl ⟨rfl,Below.three _ _ _⟩
 ·go_enter Tryz.func110,Tryz.ntmps110
  go_wp2_with fail
  exact bodyPost_ret (v:=.agg #[.bool true,.int .i64 0,.bool true]) (by simp[results,Tryz.results110,go_sem]) rfl ⟨rfl,Below.three _ _ _⟩
 ·go_enter Tryz.func110,Tryz.ntmps110
  go_wp2_with fail
  exact bodyPost_ret (v:=.agg #[.bool true,.int .i64 0,.bool false]) (by simp[results,Tryz.results110,go_sem]) rfl ⟨rfl,Below.three _ _ _⟩
 ·go_enter Tryz.func110,Tryz.ntmps110
  go_wp2_with fail
  exact bodyPost_ret (v:=.agg #[.bool true,.int .i64 (kn:Int),.bool false]) (by simp[results,Tryz.results110,go_sem]) rfl ⟨rfl,Below.three _ _ _⟩
 ·have hd:gD k kn=(false,0,false):=by
   simp only[aG] at g1 g2 g3 g4 g5;unfold gD;rw[af (by omega),af g3,af g4,af g5]
  rw[hd];clear hd;go_enter Tryz.func110,Tryz.ntmps110
  go_wp2_with fail
  exact bodyPost_ret (v:=.agg #[.bool false,.int .i64 0,.bool false]) (by simp[results,Tryz.results110,go_sem]) rfl ⟨rfl,Below.three _ _ _⟩
theorem Dm {P:Program} (w:World) (t ty:TypeId) (base:Nat) (e:TypeId) (i:TypeInfo) (z:Value) (size bytes:Nat) (ht:P.underlying t=some (.slice e)) (hi:P.info? e=some i) (hz:i.zero=some z)
  (hsize:i.size=size) (hby:i.bytes=bytes) (hsz:0<size) (v:Value) (n:Nat) (xs:List Value) (hown:w.ownsRow base e size v n xs)
  (ad:Addr) (m c:Nat) (news:List Value) (hl:news.length=m*size) (hnews :∀j u,news[j]? = some u→w.cell? (ad.add j)=some u) (h1 :∀u∈news,u.oneCell'=true)
  (hm:0<m) (h63:n+m≤maxLen) (hbytes:(n+m)*bytes≤140737488355328) {v':Value} {w':World} (hr:(Builtin.append_ #[t,t] ty #[v,.slice (some ad) m c]).run P w=.ok v' w')
  (u:Value) (k:Nat) (ys:List Value) (hu:w.ownsRow base e size u k ys) (hk:u.ownBlock=v.ownBlock→k≤n):w'.ownsRow base e size u k ys:=by
 subst hsize hby;have acx:n+m≤9223372036854775807:=by simp only[maxLen] at h63;omega
 have new :∀o:Obj,(w.drew.alloc o).ownsRow base e i.size u k ys:=fun o=>hu.drew.alloc o
 rcases hown.2 with ⟨rfl,rfl⟩ | ⟨g,cap,cur,rfl,hbg,hg,hnc,hcm,hcs,Eb⟩
 ·have h2:=run_append_nil (P:=P) w t ty e i z ht hi hz ad m c news hl hnews (by omega) (by omega) (by have hb:=hbytes;simp only[iY] at hb;omega)
  rw[hr] at h2;injection h2 with _ h2;rw[h2];exact new _
 ·by_cases hroom:n+m≤cap
  ·have acy:n*i.size+news.length≤cur.size:=by rw[hl,hcs,←D1];exact DN _ hroom
   have h2:=run_append_room (P:=P) w t ty e i ht hi g n cap cur hg ad m c news hl hnews h1 hroom acy;rw[hr] at h2;injection h2 with _ h2;rw[h2];refine⟨hu.1,?_⟩;rcases hu.2 with hn | ⟨g',cap',cur',rfl,hB',vh,sP,hc',hs',UK⟩
   ·exact .inl hn
   ·by_cases eg:g'=g
    ·subst eg
     rw[hg] at vh;injection vh with vh;injection vh with vh _ _;subst vh;have fR:k≤n:=hk rfl;refine .inr ⟨g',cap',_,rfl,hB',setRow_heap w g' cur _ e _ hg,sP,hc',?_,?_⟩
     ·rw[←hs']
      simp only[DR,cC,og,kE,Array.length_toList];omega
     ·rw[←UK]
      have h3:k*i.size≤n*i.size:=DN _ fR;have h4:(cur.toList.take (n*i.size)).length=n*i.size:=by rw[og,Array.length_toList];omega
      show((cur.toList.take (n*i.size)++news++_).take (k*i.size))=_
      rw[fg,TQ (by omega),List.take_take,DT h3]
    ·exact .inr ⟨g',cap',cur',rfl,hB',(setRow_other w g g' _ eg).trans vh,sP,hc',hs',UK⟩
  ·have holds :∀j u,xs[j]? = some u→w.cell? ((⟨g,0,none⟩:Addr).add j)=some u:=hown.cells (g:=g) rfl
   have h2:=run_append_grow (P:=P) w t ty e i z ht hi hz ⟨g,0,none⟩ n cap xs hown.1 holds ad m c news hl hnews (by omega) (by omega) (growslice_fits (by omega) hbytes)
   rw[hr] at h2;injection h2 with _ h2;rw[h2];exact new _
def vi (W:World) (g:Nat) (ty:TypeId):Prop:=∃cs fz,W.heap[g]? = some (.cells cs ty fz)
theorem vi.set {W:World} {g:Nat} {ty:TypeId} (h:vi W g ty) (g' j:Nat) (v:Value):vi (W.setCell ⟨g',j,none⟩ v) g ty:=by
 obtain⟨cs,fz,h⟩:=h;by_cases e:g=g'
 ·subst e
  refine⟨cs.setIfInBounds j v,fz,?_⟩;simp[World.setCell,Array.getElem?_modify,h]
 ·exact⟨cs,fz,(Below.heap_setCell W ⟨g',j,none⟩ v g e).trans h⟩
theorem vi.fr {W:World} {g:Nat} {ty:TypeId} {E:List Nat} (h:vi W g ty) (he:ty∈E) (j:Nat) (v:Value):Fr E W (W.setCell ⟨g,j,none⟩ v):=by
 obtain⟨cs,fz,h⟩:=h;exact Fr.set h he j v
theorem NO {ops:Array Oper} {rest:List Oper} {o:Oper} {a:Act} {Q:Exit→Act→World→Prop} (w:World) (l:cV) (hgd:o.guard=none) (sl y:Operand)
  (ho:o.op=.call { callee:=.builtin .append,args:=#[sl,y],argTypes:=#[90,90]}) (B:Nat) (v:Value) (L:List cV) (hs:a.eval sl=v) (hown:w.ownsRow B 238 2 v L.length (L.reverse.flatMap E3)) (g:Nat) (hg:g=w.heap.size) (hy:a.eval y=.slice (some ⟨g,0,none⟩) 1 1)
  (hlen:L.length≤1000000) (hB:B≤w.heap.size)
  (h :∀g' c' w',w'.ownsRow B 238 2 (.slice (some ⟨g',0,none⟩) (L.length+1) c') (l::L).length ((l::L).reverse.flatMap E3)→qB v.ownBlock w w'→Below B w w'→(v.ownBlock=some g'∨w.heap.size≤g')→(∀u m xs,w.ownsRow B 238 2 u m xs→(u.ownBlock=v.ownBlock→m≤L.length)→w'.ownsRow B 238 2 u m xs)→wpList Tryz.prog ops Q rest (a.put o.dst (.slice (some ⟨g',0,none⟩) (L.length+1) c')) w') :
  wpList Tryz.prog ops Q (o::rest) a (w.alloc (.cells (E3 l).toArray 238)):=by
 subst hg;obtain⟨i0,mL,hz0,hz1,hz2⟩:=info_parts Dl;have hcell:=heap_alloc_new w (.cells (E3 l).toArray 238);have hpl :∀j:Nat,(⟨w.heap.size,0,none⟩:Addr).add j=⟨w.heap.size,j,none⟩:=fun j=>by unfold Addr.add;split<;>simp_all
 have CE:(w.alloc (.cells (E3 l).toArray 238)).heap.size=w.heap.size+1:=ao _ _;have hnews :∀j u,(E3 l)[j]? = some u→(w.alloc (.cells (E3 l).toArray 238)).cell? ((⟨w.heap.size,0,none⟩:Addr).add j)=some u:=fun j u hj=>by
  rw[hpl,cell_of_row _ _ j _ 238 (0,0) hcell];simpa using hj
 have h1c :∀u∈E3 l,u.oneCell'=true:=by
  intro u hu;simp[E3] at hu;rcases hu with rfl|rfl<;>rfl
 have hmx:L.length+1≤maxLen:=by unfold maxLen;omega
 have hby:(L.length+1)*16≤140737488355328:=by omega
 refine wpList_plain hgd fun K hK=>?_
 obtain⟨g',c',w',hr,r1,r2,r3,_⟩:=run_append_lies (P:=Tryz.prog) _ 90 o.type B 238 i0 _ 2 16 Tryz.underlying90 mL hz0 hz1 hz2 rfl (by omega) v L.length _ (hown.alloc _) ⟨w.heap.size,0,none⟩ 1 1 (E3 l) rfl hnews h1c (by omega) hmx hby (by omega) (w.heap.size+1) CE
 have hold:=Dm (P:=Tryz.prog) _ 90 o.type B 238 i0 _ 2 16 Tryz.underlying90 mL hz0 hz1 hz2 (by omega) v L.length _ (hown.alloc _) ⟨w.heap.size,0,none⟩ 1 1 (E3 l) rfl hnews h1c (by omega) hmx hby hr
 unfold Oper.wp execOp;simp only[ho,resolve,invoke,builtin,Sem.run_bind,Sem.run_pure,Result.andThen_ok,J0,fW,List.map_nil,hs,hy,hr];have xL:=r2.size;refine hK _ _ (h g' c' w' ?_ ⟨by omega,fun k hk hn=>(r2.block k (by omega) fun e=>hn e.symm).trans (Below.heap_alloc w _ k hk)⟩ ⟨r2.os,r2.tape,r2.output,by omega,fun k hk=>?_⟩ (r3.imp id fun e=>by omega) fun u m xs hu hm=>hold u m xs (hu.alloc _) hm)
 ·rw[List.length_cons,DQ,py,DM]
  exact r1
 ·refine(r2.block k (by omega) fun e=>?_).trans (Below.heap_alloc w _ k (by omega))
  have:=(hown.lt k e.symm).1;omega
def Dn (cz:List sd) (u:sd):Int:=match cz.findIdx? (fun y=>decide (y=u)) with|some i=>(i:Int)|none=>-1
theorem SM {cz:List sd} {u:sd} {k:Nat} (h :∀y∈cz.take k,y≠u) (hk:cz[k]? = some u):cz.findIdx? (fun y=>decide (y=u))=some k:=by
 obtain⟨hlt,he⟩:=aK.1 hk;refine yW.2 ⟨hlt,by rw[he];simp,fun j hj=>?_⟩
 have:cz[j]∈cz.take k:=by
  have h1:(cz.take k)[j]? = some cz[j]:=by rw[List.getElem?_take_of_lt hj];exact bX (by omega)
  exact aM h1
 simpa using h _ this
theorem XH {cz:List sd} {u:sd} (h :∀y∈cz,y≠u):cz.findIdx? (fun y=>decide (y=u))=none:=by
 rw[JG];intro y hy;simpa using h y hy
theorem AX {cz:List sd} {u y:sd} {k:Nat} (h :∀z∈cz.take k,z≠u) (hk:cz[k]? = some y) (hy:y≠u) :∀z∈cz.take (k+1),z≠u:=by
 rw[lx _ _ _ hk];intro z hz;rcases dj.1 hz with hz|hz
 ·exact h z hz
 ·rw[bR.1 hz];exact hy
theorem IG {B:Nat} (v:Value) (cz:List sd) (u:sd) (w:World) (hr:w.ownsRow B 59 2 v cz.length (cz.flatMap EX)) (hl:cz.length≤1000) :
  Calls Tryz.prog 212 #[v,.agg #[.bool u.loc,.int .i64 (u.idx:Int)]] w fun e w'=>e=.returned (.int .i64 (Dn cz u))∧Below w.heap.size w w':=by
 obtain⟨A,c,rfl,hc,iT⟩:=eA hr;have HC:=aa iT;clear iT hr;have NN:=aa ((Below.refl w.heap.size w).alloc (ah _) (.cells #[.bool u.loc,.int .i64 (u.idx:Int)] 59));have z0:=dF w #[.bool u.loc,.int .i64 (u.idx:Int)] 59 0;have z1:=dF w #[.bool u.loc,.int .i64 (u.idx:Int)] 59 1;replace z0:_=some (Value.bool u.loc):=z0;replace z1:_=some (Value.int .i64 (u.idx:Int)):=z1;have dZ:w.heap.size<(w.alloc (.cells #[.bool u.loc,.int .i64 (u.idx:Int)] 59)).heap.size:=by rw[ao];omega
 go_enter Tryz.func212,Tryz.ntmps212
 go_wp2_with fail
 generalize w.alloc (.cells #[.bool u.loc,.int .i64 (u.idx:Int)] 59)=W0 at *;go_loopw [8] (fun t wr=>∃k:Nat,t=.int .i64 (k:Int)∧k≤cz.length∧(∀y∈cz.take k,y≠u)∧Below W0.heap.size W0 wr) (fun t _=>cz.length-(intOf t).toNat)
 case atStart=>exact⟨0,rfl,bK _,fun y hy=>by simp at hy,Below.refl _ _⟩
 case round =>
  obtain⟨k,rfl,hk,hno,hb⟩:=hrel;have k0:=(hb.cell (p:=⟨w.heap.size,0,none⟩) dZ).trans z0;have k1:=(hb.cell (p:=⟨w.heap.size,1,none⟩) dZ).trans z1;have XI:=aa hno;have HB:=aa hb;clear hno hb;by_cases hlt:k<cz.length
  ·obtain⟨y,hy⟩ :∃y,cz[k]? = some y:=⟨cz[k],bX hlt⟩
   rcases HC.out with h0 | ⟨g,rfl,XG,qN,sC⟩
   ·omega
   have wh:=NN.out.trans (HB.out.mono (fj dZ));have e0:wr.cell? ⟨g,k*2,none⟩=some (.bool y.loc):=(wh.cell (p:=⟨g,k*2,none⟩) qN).trans ((sC (k*2) (by omega)).trans (iu EZ cz k 0 y hy (by omega)))
   have e1:wr.cell? ⟨g,k*2+1,none⟩=some (.int .i64 (y.idx:Int)):=(wh.cell (p:=⟨g,k*2+1,none⟩) qN).trans ((sC (k*2+1) (by omega)).trans (iu EZ cz k 1 y hy (by omega)))
   have HY:=aa hy;clear sC hy wh;by_cases hloc:u.loc=y.loc
   ·by_cases SN:u.idx=y.idx
    ·obtain rfl:y=u:=by cases u;cases y;simp_all
     go_wp2_with fail
     go_region
     go_wp2_with fail
     go_ret
     refine⟨?_,(NN.out.trans (HB.out.mono (fj dZ))).drew⟩;unfold Dn;rw[SM XI.out HY.out];rfl
    ·have g2:((u.idx:Int) == (y.idx:Int))=false:=aG.2 (by omega)
     have hne:Hid (y≠u):=aa fun e=>SN (by rw[e])
     rw[hloc] at *;clear SN;go_wp2_with fail
     go_region
     go_wp2_with fail
     exact⟨⟨k+1,by go_num,hlt,AX XI.out HY.out hne.out,HB.out.drew⟩,by simp[intOf];omega⟩
   ·have g1:(u.loc == y.loc)=false:=aG.2 hloc
    have hne:Hid (y≠u):=aa fun e=>hloc (by rw[e])
    clear hloc;go_wp2_with fail
    go_region
    go_wp2_with fail
    exact⟨⟨k+1,by go_num,hlt,AX XI.out HY.out hne.out,HB.out.drew⟩,by simp[intOf];omega⟩
  ·have yO:k=cz.length:=by omega
   go_wp2_with fail
   go_ret
   refine⟨?_,NN.out.trans (HB.out.mono (fj dZ))⟩;unfold Dn;rw[XH (fun y hy=>XI.out y (by rw[yO,zc];exact hy))]
   rfl
def SO (B b:Nat) (nv:Value) (N ub ob:Nat) (st:aF) (r:Option (List dr×Nat)) (w:World) (e:Ending) (w':World):Prop :=
 Below B w w'∧Fr [52,61,59] w w'∧match r with
 | some (F,k)=>e=.returned (.tuple #[.int .i64 (k:Int),.nilIface])∧jL w' B b nv N { st with fns:=F} ub ob
 | none=>e=.returned (.tuple #[.int .i64 0,.iface 79 (.int .i64 12)])
theorem Dp {F:List dr} {f k:Nat} {x:dr} {u:sd} (hx:F[f]? = some x) (h:x.cz.findIdx? (fun y=>decide (y=u))=some k):gz F f u=some (F,k):=by
 unfold gz;simp only[gA hx,h]
theorem Dq {F:List dr} {f:Nat} {x:dr} {u:sd} (hx:F[f]? = some x) (h:x.cz.findIdx? (fun y=>decide (y=u))=none):gz F f u=if 60≤x.cz.length then none else some (F.set f { x with cz:=x.cz++[u]},x.cz.length):=by
 unfold gz;simp only[gA hx,h]
theorem nT {W W':World} {B e s n:Nat} {v:Value} {xs:List Value} (h:W.ownsRow B e s v n xs) (hb:Below W.heap.size W W'):W'.ownsRow B e s v n xs:=qB.row (o:=none) ⟨hb.size,fun k hk _=>hb.block k hk⟩ h fun _ _ e=>by cases e
theorem NP {ops:Array Oper} {o:Oper} {a:Act} {K:Act→World→Prop} {Q:Exit→Act→World→Prop} {E:Prop} (w0 w1:World) (n:sd) (hgd:o.guard=none) (sl y:Operand)
  (ho:o.op=.call { callee:=.builtin .append,args:=#[sl,y],argTypes:=#[50,50]}) (B:Nat) (v:Value) (ns:List sd) (hs:a.eval sl=v) (hown:w0.ownsRow B 59 2 v ns.length (ns.flatMap EX)) (dZ :∀(i:Nat),i<w0.heap.size→w1.heap[i]? = w0.heap[i]?) (g:Nat) (hg:g=w0.heap.size) (hy:a.eval y=.slice (some ⟨g,0,none⟩) 1 1)
  (hcell:w1.heap[g]? = some (.cells (EX n).toArray 59 (0,0))) (hlen:ns.length≤1000000) (hB:B≤w0.heap.size) (hle:w0.heap.size≤w1.heap.size) (XD:w1.os=w0.os∧w1.tape=w0.tape∧w1.output=w0.output)
  (h :∀g' c' w',w'.ownsRow B 59 2 (.slice (some ⟨g',0,none⟩) (ns.length+1) c') (ns++[n]).length ((ns++[n]).flatMap EX)→qB v.ownBlock w0 w'→Below B w0 w'→(v.ownBlock=some g'∨w0.heap.size≤g')→K (a.put o.dst (.slice (some ⟨g',0,none⟩) (ns.length+1) c')) w') :
  if Region.wanted o (yielded ops a.tmps)=true then Oper.wp Tryz.prog o a w1 K Q else E:=by
 obtain⟨i0,mL,hz0,hz1,hz2⟩:=info_parts Nx;refine AO w0 w1 (EX n) hgd sl y 50 59 i0 _ 2 16 ho Tryz.underlying50 mL hz0 hz1 hz2 rfl (by omega) (by omega) B v ns.length _ hs hown dZ g hg hy hcell rfl (by intro u hu;simp[EX] at hu;rcases hu with rfl|rfl<;>rfl) hlen hB hle XD ?_
 intro g' c' w' r1 r2 r3 r4;refine h g' c' w' ?_ r2 r3 r4;rw[cC,mw,py,DM];exact r1
theorem AY {B:Nat} {nv:Value} {N ub ob:Nat} (b f:Nat) (u:sd) (st:aF) (w:World) (hw:jL w B b nv N st ub ob) (hf:f<st.fns.length) (n9:dQ st.fns) :
  Calls Tryz.prog 189 #[.pointer (some ⟨b,0,none⟩),.int .i64 (f:Int),.agg #[.bool u.loc,.int .i64 (u.idx:Int)]] w (SO B b nv N ub ob st (gz st.fns f u) w):=by
 obtain⟨fv,FL,hw⟩:=hw;obtain⟨⟨t1,tv,tu⟩,ht⟩:=hw.AR hf;obtain⟨g,c,rfl,XG,qN,sC⟩:=hw.fns.form ht;obtain⟨BU,hfn⟩:=hw.si ht;simp only at BU hfn;obtain⟨UA,uc,huu,XJ,_⟩:=eA (hw.fns.cz _ (aM ht));simp only at huu XJ;subst huu;obtain⟨hbl,pg,tH⟩:=hw.gK;have cB:B≤w.heap.size:=aL hw.pos (fj hbl);have wk:=hw.len;have hfL:f<FL.length:=by omega
 have d1:w.cell? ⟨b,1,none⟩=some (.slice (some ⟨g,0,none⟩) FL.length c):=ab hw.blk 1;have e5:w.cell? ⟨g,f*6+5,none⟩=some (.slice UA t1.cz.length uc):=(sC 5 (by omega)).1
 have hup:t1.cz.length≤60:=(n9 f t1 BU).2;have XK:=aa (hw.fns.cz _ (aM ht));simp only at XK;have HW:=aa hw;have HT:=aa ht;have UL:=aa BU;clear hw ht BU hfn sC wk n9;go_enter Tryz.func189,Tryz.ntmps189
 go_wp2_with fail
 have dU:=aa ((Below.refl w.heap.size w).alloc (ah _) (.cells #[.bool u.loc,.int .i64 (u.idx:Int)] 59));have x0:=dF w #[.bool u.loc,.int .i64 (u.idx:Int)] 59 0;have x1:=dF w #[.bool u.loc,.int .i64 (u.idx:Int)] 59 1;replace x0:_=some (Value.bool u.loc):=x0;replace x1:_=some (Value.int .i64 (u.idx:Int)):=x1;have e5':=(dU.out.cell (p:=⟨g,f*6+5,none⟩) qN).trans e5;have iZ:=aa (HW.out.alloc (.cells #[.bool u.loc,.int .i64 (u.idx:Int)] 59));have NR:=aa (nT XK.out dU.out);have hs1:w.heap.size<(w.alloc (.cells #[.bool u.loc,.int .i64 (u.idx:Int)] 59)).heap.size:=by rw[ao];omega
 generalize w.alloc (.cells #[.bool u.loc,.int .i64 (u.idx:Int)] 59)=W1 at *;clear HW XK d1 e5;have y0:=cell_regrown x0;have y1:=cell_regrown x1;have y5:=cell_regrown e5';refine wp_region_quiet_below (by kernel_rfl) (by kernel_rfl) ?_
 repeat (first|go_big_quiet_step (first
   | (go_at_call 212;exact Calls.regrown_of (IG _ t1.cz u _ (nT NR.out (below_regrown _ _ _)) (by omega)))))
 refine wpQuiet_nil ?_;intro _ hw';obtain⟨⟨dq,osq⟩,hw''⟩:=hw';subst hw'';have oF:=aa (dU.out.trans ((below_regrown W1 dq osq).mono (fj hs1)));have lp:=aa (iZ.out.later (below_regrown W1 dq osq));have aaK:=aa (nT NR.out (below_regrown W1 dq osq));have hs2:w.heap.size<(«Sort».grow (redrawn W1 dq) osq).heap.size:=cL hs1 (below_regrown W1 dq osq).size;have x02:=((below_regrown W1 dq osq).cell (p:=⟨w.heap.size,0,none⟩) hs1).trans x0;have x12:=((below_regrown W1 dq osq).cell (p:=⟨w.heap.size,1,none⟩) hs1).trans x1;have e52:=((below_regrown W1 dq osq).cell (p:=⟨g,f*6+5,none⟩) (Nat.lt_trans qN hs1)).trans e5';dsimp only
 generalize «Sort».grow (redrawn W1 dq) osq=W2 at *;clear y0 y1 y5 x0 x1 e5' iZ NR dU;cases hi:t1.cz.findIdx? (fun y=>decide (y=u)) with
 | some k =>
  have hv:Dn t1.cz u=(k:Int):=by unfold Dn;rw[hi]
  have HE:=aa (Dp UL.out hi);rw[hv];have g1:decide ((0:Int)≤(k:Int))=true:=bZ (by omega)
  clear hv hi;go_wp2_with fail
  go_ret2
  refine⟨oF.out.mono cB,Fr.ae oF.out,?_⟩;rw[HE.out];exact⟨rfl,_,_,lp.out⟩
 | none =>
  have hv:Dn t1.cz u = -1:=by unfold Dn;rw[hi]
  have HE:=aa (Dq UL.out hi);rw[hv];clear hv hi;by_cases h60:60≤t1.cz.length
  ·have PG:=aa (HE.out.trans (al h60))
   have g1:((t1.cz.length:Int) == 60)=true:=vL.2 (by omega)
   go_wp2_with fail
   go_ret2
   refine⟨oF.out.mono cB,Fr.ae oF.out,?_⟩;rw[PG.out];rfl
  ·have PG:=aa (HE.out.trans (af h60))
   have g1:((t1.cz.length:Int) == 60)=false:=aG.2 (by omega)
   have hB2:B≤W2.heap.size:=aL cB oF.out.size;have aac:t1.cz.length≤1000000:=by omega
   have hg2:g<W2.heap.size:=Nat.lt_trans qN hs2;obtain⟨g',c',ph,_,_,zS⟩:=lp.out.fns.form HT.out;injection ph with ph _ hcc;injection ph with ph;injection ph with ph _ _;subst ph hcc;have z52:=(zS 5 (by omega)).2
   have HZ:Hid ((W2.alloc (.cells #[.bool u.loc,.int .i64 (u.idx:Int)] 59)).drew.heap[W2.heap.size]? = some (.cells #[.bool u.loc,.int .i64 (u.idx:Int)] 59 (0,0))):=aa (heap_alloc_new W2 _);clear zS;go_wp2_with fail
   go_region_law ((refine NP W2 _ u (by rfl) _ _ (by rfl) B (.slice UA t1.cz.length uc) t1.cz (by rfl) aaK.out (fun i hi=>Below.heap_alloc W2 _ i hi) W2.heap.size rfl (by rfl) HZ.out aac hB2 (by simp[World.drew]) ⟨rfl,rfl,rfl⟩ ?_;intro g8 c8 w8 r8 b8 UM n8;have uR:=b8.row lp.out.fns.row (fun k hk e=>eh lp.out.fns.row (lp.out.fns.cz _ (aM HT.out)) (by decide) k hk e);have e58:w8.cell? ⟨g,f*6+5,none⟩=some (.slice UA t1.cz.length uc):=(World.ownsRow.cellAt uR (f*6+5) (by omega)).trans (iu qf FL f 5 _ HT.out (by omega));have z58:=World.ownsRow.frozenAt uR (f*6+5);have R8:=aa r8;have B8:=aa b8;have PH:=aa UM;have N8:=aa n8;clear r8 b8 UM n8 uR))
   all_goals
    have h9:=lp.out.SJ HT.out B8.out R8.out (fun k hk=>by injection hk with hk;subst hk;exact N8.out)
    have XL:=aa h9.2;have HW9:=aa h9.1;have HB9:=aa (((oF.out.mono cB).trans PH.out).setCell (p:=⟨g,f*6+5,none⟩) XG (.slice (some ⟨g8,0,none⟩) (t1.cz.length+1) c8));have k9:=World.cell?_setCell_same' w8 ⟨g,f*6+5,none⟩ (.slice (some ⟨g8,0,none⟩) (t1.cz.length+1) c8) (by rw[e58];rfl)
    clear h9;generalize w8.setCell ⟨g,f*6+5,none⟩ (.slice (some ⟨g8,0,none⟩) (t1.cz.length+1) c8)=W9 at *;clear e58 z58 R8 B8 PH N8;go_wp2_with fail
    go_ret2
    refine⟨HB9.out,(Fr.ae oF.out).trans XL.out,?_⟩;rw[PG.out];exact⟨rfl,_,_,HW9.out⟩
theorem Fr.past {E:List Nat} {W W2 X:World} (h:Fr E W W2) (hk :∀k,k<W.heap.size→X.heap[k]? = W2.heap[k]?) (hs:W2.heap.size≤X.heap.size):Fr E W X :=
 ⟨aL h.size hs,fun k c e fz hc he=>(hk k (aJ.1 hc).1).trans (h.cells k c e fz hc he),fun k o hc ho=>(hk k (aJ.1 hc).1).trans (h.others k o hc ho)⟩
theorem eV.fM {W:World} {B b:Nat} {nv:Value} {N:Nat} {st:aF} {fv:Value} {ub ob:Nat} {L:List oC} (h:eV W B b nv N st fv ub ob L) {r:Nat} (hr:vi W r 57) (hne:r≠ub) (j:Nat) (v:Value):eV (W.setCell ⟨r,j,none⟩ v) B b nv N st fv ub ob L:=by
 have k:Fr [57] W (W.setCell ⟨r,j,none⟩ v):=hr.fr (by decide) j v
 exact⟨k.cells b _ _ _ h.blk (by decide),⟨k.row h.fns.row (by decide),fun t ht=>k.row (h.fns.vars t ht) (by decide),fun t ht=>k.row (h.fns.cz t ht) (by decide),h.fns.qi,h.fns.rn⟩,h.are,(qB.set W r j v).row h.uses (fun g hg e=>hne (by injection hg with hg;injection e with e;exact e.trans hg.symm)),k.row h.pe (by decide),h.pos⟩
theorem jL.fM {W:World} {B b:Nat} {nv:Value} {N:Nat} {st:aF} {ub ob:Nat} (h:jL W B b nv N st ub ob) {r:Nat} (hr:vi W r 57) (hne:r≠ub) (j:Nat) (v:Value):jL (W.setCell ⟨r,j,none⟩ v) B b nv N st ub ob:=by
 obtain⟨fv,L,h⟩:=h;exact⟨fv,L,h.fM hr hne j v⟩
theorem jL.alloc {W:World} {B b:Nat} {nv:Value} {N:Nat} {st:aF} {ub ob:Nat} (h:jL W B b nv N st ub ob) (o:Obj):jL (W.alloc o) B b nv N st ub ob:=by
 obtain⟨fv,L,h⟩:=h;exact⟨fv,L,h.alloc o⟩
theorem yr {W:World} {r:Nat} {x y:Value} {ty:TypeId} (h:W.heap[r]? = some (.cells #[x,y] ty (0,0))) (a c:Value):((W.setCell ⟨r,0,none⟩ a).setCell ⟨r,1,none⟩ c).heap[r]? = some (.cells #[a,c] ty (0,0)):=by
 simpa using bA (bA h 0 a) 1 c
theorem ql (W:World) (r:Nat) (a c:Value) (k:Nat) (hk:k≠r):((W.setCell ⟨r,0,none⟩ a).setCell ⟨r,1,none⟩ c).heap[k]? = W.heap[k]?:=by
 rw[Below.heap_setCell _ _ _ k hk,Below.heap_setCell _ _ _ k hk]
theorem ny (W:World) (r:Nat) (a c:Value):((W.setCell ⟨r,0,none⟩ a).setCell ⟨r,1,none⟩ c).heap.size=W.heap.size:=by simp[World.setCell]
def fS (n:jj) (F:List dr):List dr:=F.set n.fn (cZ (F.getD n.fn ⟨0,0,0,false,[],[]⟩) n.i)
theorem AZ (x:dr) (i:Nat):cZ (cZ x i) i=cZ x i:=by
 cases h:x.vars[i]? with
 | none =>
  have e:cZ x i=x:=by unfold cZ;rw[h]
  rw[e,e]
 | some v =>
  have hl:=(aK.1 h).1;have e:cZ x i={ x with vars:=x.vars.set i { v with cap:=true}}:=by unfold cZ;rw[h]
  rw[e];unfold cZ;dsimp only
  rw[dR hl];dsimp only
  rw[List.set_set]
theorem Dr (n:jj) (F:List dr):fS n (fS n F)=fS n F:=by
 by_cases h:n.fn<F.length
 ·unfold fS
  have e:(F.set n.fn (cZ (F.getD n.fn ⟨0,0,0,false,[],[]⟩) n.i)).getD n.fn ⟨0,0,0,false,[],[]⟩=cZ (F.getD n.fn ⟨0,0,0,false,[],[]⟩) n.i:=by
   rw[kB,dR h];rfl
  rw[e,AZ,List.set_set]
 ·have e:fS n F=F:=by unfold fS;rw[DK (by omega)]
  rw[e,e]
theorem A0 {n:jj} {F:List dr} {y:dr} (h:F[n.fn]? = some y):ur F (fS n F):=by
 unfold fS;rw[gA h];exact .set h (qc y n.i)
theorem yt {n:jj} {F:List dr} {y:dr} (hF:BP F) (h:F[n.fn]? = some y):BP (fS n F):=by
 unfold fS;rw[gA h];exact hF.set h (qc y n.i)
theorem uS {n:jj} {F:List dr} (hF:dQ F):dQ (fS n F):=by
 unfold fS;exact hF.set ⟨by rw[(rl _ _).1];exact(hF.getD n.fn).1,by rw[(rl _ _).2];exact(hF.getD n.fn).2⟩
theorem nA (n:jj) (F:List dr):(fS n F).length=F.length:=by unfold fS;simp
theorem SP {F:List dr} {f:Nat} {x:dr} (h:F[f]? = some x) {n:jj} (he:f≠n.fn):(fS n F)[f]? = some x:=by
 unfold fS;rw[fD (fun e=>he e.symm)]
 exact h
def fw (n:jj) (g f:Nat) (F:List dr):Option (List dr×Int×Nat) :=
 if f=n.fn then some (F,2,n.i) else (lO n g (fS n F) f).map fun r=>(r.1,3,r.2)
theorem IH {n:jj} {g f p:Nat} {F:List dr} {x:dr} (hx:F[f]? = some x) (hp:x.parent=(p:Int)) (he:f≠n.fn):lO n (g+1) (fS n F) f=(fw n g p (fS n F)).bind fun r=>gz r.1 f ⟨decide (r.2.1=2),r.2.2⟩:=by
 rw[lO];simp only[gA (SP hx he),hp];unfold fw;by_cases h:p=n.fn
 ·subst h
  rw[al rfl,al rfl];rfl
 ·rw[af (by omega),af h,Dr,iz]
  cases lO n g (fS n F) p with
  | none=>rfl
  | some r=>rfl
theorem NS {n:jj} {g f:Nat} {F F':List dr} {kd:Int} {i:Nat} (h:fw n g f F=some (F',kd,i)) (hF:BP F) (n9:dQ F) (ha:M6 F n.fn f) (hf:f<F.length) (hv :∃y v,F[n.fn]? = some y∧y.vars[n.i]? = some v∧v.name=n.s):ur F F'∧BP F'∧dQ F'∧F'.length=F.length:=by
 unfold fw at h;by_cases he:f=n.fn
 ·rw[al he] at h
  injection h with h;injection h with h _;subst h;exact⟨.refl _,hF,n9,rfl⟩
 ·rw[af he] at h
  cases hu:lO n g (fS n F) f with
  | none=>rw[hu] at h;cases h
  | some r =>
   obtain⟨F1,k⟩:=r;rw[hu] at h;injection h with h;injection h with h _;have h:F1=F':=h;subst h;obtain⟨y,v,h1,h2,h3⟩:=hv;have hyl:=(aK.1 h1).1;have hG:=A0 h1;have hc:(fS n F)[n.fn]? = some (cZ y n.i):=by
    unfold fS;rw[gA h1,dR hyl]
   obtain⟨a1,a2,a3,_⟩:=EM g hu (yt hF h1) (ha.ext hG) (fun e=>he e.symm) (by rw[nA];exact hf) ⟨cZ y n.i,{ v with cap:=true},hc,by
    unfold cZ;rw[h2];exact dR (aK.1 h2).1,h3,rfl⟩
   obtain⟨b1,b2⟩:=AJ g hu (uS n9);exact⟨hG.trans a1,a2,b1,by rw[a3,nA]⟩
def NW (B b:Nat) (nv:Value) (N ub ob:Nat) (st:aF) (r:Option (List dr×Int×Nat)) (w:World) (e:Ending) (w':World):Prop :=
 Below B w w'∧Fr [52,61,59] w w'∧match r with
 | some (F,k,i)=>e=.returned (.tuple #[.agg #[.int .i64 k,.int .i64 (i:Int)],.nilIface])∧jL w' B b nv N { st with fns:=F} ub ob
 | none=>e=.returned (.tuple #[.agg #[.int .i64 0,.int .i64 0],.iface 79 (.int .i64 12)])
theorem NX {B:Nat} {nv:Value} {N ub ob:Nat} (b:Nat) (n:jj) :∀(g f:Nat) (st:aF) (w:World),f<g→jL w B b nv N st ub ob→BP st.fns→dQ st.fns→M6 st.fns n.fn f→(∃y v,st.fns[n.fn]? = some y∧y.vars[n.i]? = some v∧v.name=n.s)→f<st.fns.length→st.fns.length≤100000 →
  Calls Tryz.prog 161 #[.pointer (some ⟨b,0,none⟩),.int .i64 (f:Int),.int .i64 (n.fn:Int),.int .i64 (n.i:Int)] w (NW B b nv N ub ob st (fw n g f st.fns) w):=by
 intro g;induction g with
 | zero=>intro f st w hfg;exact absurd hfg (jq _)
 | succ g ih =>
  intro f st w hfg hw Cj n9 Ds hv hf NK;by_cases he:f=n.fn
  ·have HE:Hid (fw n (g+1) f st.fns=some (st.fns,2,n.i)):=aa (by unfold fw;rw[al he])
   have g1:((f:Int) == (n.fn:Int))=true:=vL.2 (by omega)
   obtain⟨fv,FL,hw⟩:=hw;obtain⟨hbl,pg,tH⟩:=hw.gK;have cB:B≤w.heap.size:=aL hw.pos (fj hbl);have HW:=aa hw;clear hw Ds hv ih he hfg;go_enter Tryz.func161,Tryz.ntmps161
   go_wp2_with fail
   have k0:=dF w #[.int .i64 2,.int .i64 (n.i:Int)] 57 0;have k1:=dF w #[.int .i64 2,.int .i64 (n.i:Int)] 57 1;replace k0:_=some (Value.int .i64 2):=k0;replace k1:_=some (Value.int .i64 (n.i:Int)):=k1;refine bodyPost_ret (v:=.tuple #[.agg #[.int .i64 2,.int .i64 (n.i:Int)],.nilIface]) (by simp[results,Tryz.results161,go_sem,k0,k1]) rfl ?_
   refine⟨(Below.refl B w).alloc cB _,Fr.alloc _,?_⟩;rw[HE.out];exact⟨rfl,_,_,HW.out.alloc _⟩
  ·have g1:((f:Int) == (n.fn:Int))=false:=aG.2 (by omega)
   obtain⟨fv,FL,hw⟩:=hw;obtain⟨hbl,pg,tH⟩:=hw.gK;have cB:B≤w.heap.size:=aL hw.pos (fj hbl);have wk:=hw.len;obtain⟨y,v,hy,hyv,Ss⟩:=hv;have acz:=(aK.1 hy).1;obtain⟨⟨t1,tv,tu⟩,ht⟩:=hw.AR hf;obtain⟨⟨y1,yv,yu⟩,Gz⟩:=hw.AR acz;obtain⟨BU,_⟩:=hw.si ht;obtain⟨Y6,_⟩:=hw.si Gz;simp only at BU Y6;obtain rfl:y1=y:=by rw[hy] at Y6;injection Y6 with Y6;exact Y6.symm
   obtain⟨gf,c,rfl,XG,qN,sC⟩:=hw.fns.form ht;obtain⟨g',c',ph,_,_,zS⟩:=hw.fns.form Gz;injection ph with ph _ hcc;injection ph with ph;injection ph with ph _ _;subst ph hcc;have hvl:=(aK.1 hyv).1;obtain⟨VA,vc,UN,hvc,hvr⟩:=eA (hw.fns.vars _ (aM Gz));simp only at UN hvc hvr;subst UN;rcases hvr with h0 | ⟨gv,rfl,acA,hgvl,aaL⟩
   ·omega
   have d1:w.cell? ⟨b,1,none⟩=some (.slice (some ⟨gf,0,none⟩) FL.length c):=ab hw.blk 1;have e4:w.cell? ⟨gf,n.fn*6+4,none⟩=some (.slice (some ⟨gv,0,none⟩) y1.vars.length vc):=(zS 4 (by omega)).1
   have v2:w.cell? ⟨gv,n.i*3+2,none⟩=some (.bool v.cap):=(aaL (n.i*3+2) (by omega)).trans (iu AN y1.vars n.i 2 v hyv (by omega))
   have f2:=World.ownsRow.frozenAt (hw.fns.vars _ (aM Gz)) (n.i*3+2);have Sh:f≠0:=fun e=>by
    cases Ds with
    | same=>exact he rfl
    | up h1 h2 _ =>
     rcases(Cj.each _ _ h1).par with ⟨_,h3⟩ | ⟨q,_,h3⟩
     ·omega
     ·omega
   obtain⟨p,hp,hpf,yp,hyp⟩:=Cj.par BU Sh;have e1:w.cell? ⟨gf,f*6+1,none⟩=some (.int .i64 (p:Int)):=by rw[←hp];exact(sC 1 (by omega)).1
   have UO:M6 st.fns n.fn p:=by
    cases Ds with
    | same=>exact absurd rfl he
    | up h1 h2 h3 =>
     rw[BU] at h1;injection h1 with h1;subst h1;rw[hp] at h2;have:=Int.ofNat.inj h2;rw[this];exact h3
   have hHE:fw n (g+1) f st.fns=(lO n (g+1) (fS n st.fns) f).map fun r=>(r.1,3,r.2):=by unfold fw;rw[af he]
   have HE:=aa (hHE.trans (by rw[IH BU hp he]))
   have AS:=hw.cap Gz hyv;have hst:st.oB n.fn (cZ y1 n.i)={ st with fns:=fS n st.fns}:=by unfold aF.oB fS;rw[gA hy]
   rw[hst] at AS;have acB:=aa AS;have jz:n.fn<FL.length:=by omega
   have hfL:f<FL.length:=by omega
   have hfl2:FL.length≤100000:=by omega
   have hvl2:y1.vars.length≤200:=(n9 n.fn y1 hy).1;have s6:=aa ih;have GX:=aa Cj;have SQ:=aa n9;have HY:=aa hy;have HYV:=aa hyv;have aaM:=aa UO;have HP:=aa hp;have UL:=aa BU;have HW:=aa hw;have HK:=aa (Lib.ownsRow_kind (hw.fns.vars _ (aM Gz)) gv rfl);clear hw ih Cj n9 hy hyv Ds UO hp BU ht Gz sC zS aaL hHE AS hst hyp Y6 wk;go_enter Tryz.func161,Tryz.ntmps161
   go_wp2_with fail
   obtain⟨st1,XM⟩ :∃s1:aF,s1={ st with fns:=fS n st.fns}:=⟨_,rfl⟩;have XN:st1.fns=fS n st.fns:=by rw[XM]
   have iZ:Hid (jL ((w.setCell ⟨gv,n.i*3+2,none⟩ (.bool true)).alloc (.cells #[.int .i64 0,.int .i64 0] 57)) B b nv N st1 ub ob):=aa (by rw[XM];exact⟨_,_,acB.out.alloc _⟩)
   have fm:Hid (Fr [52,61,59] w ((w.setCell ⟨gv,n.i*3+2,none⟩ (.bool true)).alloc (.cells #[.int .i64 0,.int .i64 0] 57))):=aa (by obtain⟨cs,fz,h⟩:=HK.out;exact(Fr.set h (by decide) _ _).trans (Fr.alloc _))
   have dU:Hid (Below B w ((w.setCell ⟨gv,n.i*3+2,none⟩ (.bool true)).alloc (.cells #[.int .i64 0,.int .i64 0] 57))):=aa (((Below.refl B w).setCell (p:=⟨gv,n.i*3+2,none⟩) acA _).alloc (by simp;omega) _)
   have HZ1:Hid (((w.setCell ⟨gv,n.i*3+2,none⟩ (.bool true)).alloc (.cells #[.int .i64 0,.int .i64 0] 57)).heap[w.heap.size]? = some (.cells #[.int .i64 0,.int .i64 0] 57 (0,0))):=aa (by have:=heap_alloc_new (w.setCell ⟨gv,n.i*3+2,none⟩ (.bool true)) (.cells #[.int .i64 0,.int .i64 0] 57);simpa using this)
   generalize (w.setCell ⟨gv,n.i*3+2,none⟩ (.bool true)).alloc (.cells #[.int .i64 0,.int .i64 0] 57)=W1 at *;have Y7:ur st.fns st1.fns:=by rw[XN];exact A0 HY.out
   refine(s6.out p st1 W1 (by omega) iZ.out (by rw[XN];exact yt GX.out HY.out) (by rw[XN];exact uS SQ.out) (aaM.out.ext Y7) ?_ (by rw[XN,nA];omega) (by rw[XN,nA];omega)).mono ?_
   ·obtain⟨y',h1,h2⟩:=Y7.2 _ _ HY.out
    obtain⟨v',h3,h4,_⟩:=h2.vars _ _ HYV.out;exact⟨y',v',h1,h3,h4.trans Ss⟩
   rw[XN];cases hM:fw n g p (fS n st.fns) with
   | none =>
    rintro e w2 ⟨b2,f2,rfl⟩;have PG:Hid (fw n (g+1) f st.fns=none):=aa (by rw[HE.out,hM];rfl)
    have hz2:=f2.cells _ _ _ _ HZ1.out (by decide)
    have hl2:w.heap.size<w2.heap.size:=(aJ.1 hz2).1;have y0:=ab hz2 0;have y1:=ab hz2 1;have z0:=aw hz2 0;have z1:=aw hz2 1;replace y0:_=some (Value.int .i64 0):=y0;replace y1:_=some (Value.int .i64 0):=y1;have oF:=aa (dU.out.trans b2);have lM:=aa (fm.out.trans f2);have HZ2:=aa hz2;clear b2 f2 hz2 hM HE;go_wp2_with fail
    have hq:=(Below.heap_alloc ((w2.setCell ⟨w.heap.size,0,none⟩ (.int .i64 0)).setCell ⟨w.heap.size,1,none⟩ (.int .i64 0)) (.cells #[.int .i64 0,.int .i64 0] 57) w.heap.size (by rw[ny];exact hl2)).trans (yr HZ2.out (.int .i64 0) (.int .i64 0))
    have q0:=ab hq 0;have q1:=ab hq 1;replace q0:_=some (Value.int .i64 0):=q0;replace q1:_=some (Value.int .i64 0):=q1;refine bodyPost_ret (v:=.tuple #[.agg #[.int .i64 0,.int .i64 0],.iface 79 (.int .i64 12)]) (by simp[results,Tryz.results161,go_sem,q0,q1]) rfl ?_
    refine⟨((oF.out.setCell (p:=⟨w.heap.size,0,none⟩) cB _).setCell (p:=⟨w.heap.size,1,none⟩) cB _).alloc (by rw[ny];omega) _,lM.out.past (fun k hk=>?_) ?_,?_⟩
    ·exact(Below.heap_alloc _ _ k (by rw[ny];omega)).trans (ql w2 w.heap.size _ _ k (by omega))
    ·rw[ao,ny];omega
    ·rw[PG.out]
   | some r =>
    obtain⟨F2,kd,i2⟩:=r;rintro e w2 ⟨b2,f2,rfl,hw2⟩;have PG:Hid (fw n (g+1) f st.fns=(gz F2 f ⟨decide (kd=2),i2⟩).map fun r=>(r.1,3,r.2)):=aa (by rw[HE.out,hM];rfl)
    have hFL:ur st.fns F2∧dQ F2:=by
     obtain⟨y',q1,q2⟩:=Y7.2 _ _ HY.out;obtain⟨v',q3,q4,_⟩:=q2.vars _ _ HYV.out;rw[XN] at Y7 q1;obtain⟨a1,_,a3,_⟩:=NS hM (yt GX.out HY.out) (uS SQ.out) (aaM.out.ext Y7) (by rw[nA];omega) ⟨y',v',q1,q3,q4.trans Ss⟩
     exact⟨Y7.trans a1,a3⟩
    have hz2:=f2.cells _ _ _ _ HZ1.out (by decide)
    have hl2:w.heap.size<w2.heap.size:=(aJ.1 hz2).1;have HZ3:=aa ((Below.heap_alloc w2 (.cells #[.int .i64 kd,.int .i64 (i2:Int)] 57) w.heap.size hl2).trans hz2);have xR:=aa ((dU.out.trans b2).alloc (by omega) (.cells #[.int .i64 kd,.int .i64 (i2:Int)] 57))
    have EE:=aa ((fm.out.trans f2).trans (Fr.alloc (.cells #[.int .i64 kd,.int .i64 (i2:Int)] 57)));have g2:(kd == 2)=decide (kd=2):=rfl;obtain⟨st2,XO⟩ :∃s2:aF,s2={ st1 with fns:=F2}:=⟨_,rfl⟩;rw[←XO] at hw2;have e2f:st2.fns=F2:=by rw[XO]
    have QO:=aa (hw2.alloc (.cells #[.int .i64 kd,.int .i64 (i2:Int)] 57));clear b2 f2 hz2 hM HE hw2;go_wp2_with fail
    have Jw:w.heap.size<(w2.alloc (.cells #[.int .i64 kd,.int .i64 (i2:Int)] 57)).heap.size:=by rw[ao];omega
    have x0:=dF w2 #[.int .i64 kd,.int .i64 (i2:Int)] 57 0;have x1:=dF w2 #[.int .i64 kd,.int .i64 (i2:Int)] 57 1;generalize w2.alloc (.cells #[.int .i64 kd,.int .i64 (i2:Int)] 57)=W3 at *;refine(AY b f ⟨decide (kd=2),i2⟩ st2 W3 QO.out (by rw[e2f];have:=hFL.1.1;omega) (by rw[e2f];exact hFL.2)).mono ?_
    rw[e2f];cases hU:gz F2 f ⟨decide (kd=2),i2⟩ with
    | none =>
     rintro e w4 ⟨b4,f4,rfl⟩;have HE4:Hid (fw n (g+1) f st.fns=none):=aa (by rw[PG.out,hU];rfl)
     have BV:=f4.cells _ _ _ _ HZ3.out (by decide)
     have hl4:w.heap.size<w4.heap.size:=(aJ.1 BV).1;have y0:=ab BV 0;have y1:=ab BV 1;have z0:=aw BV 0;have z1:=aw BV 1;replace y0:_=some (Value.int .i64 0):=y0;replace y1:_=some (Value.int .i64 0):=y1;have XP:=aa (xR.out.trans b4);have HF4:=aa (EE.out.trans f4);have hq:=yr BV (.int .i64 0) (.int .i64 0);have q0:=ab hq 0;have q1:=ab hq 1;replace q0:_=some (Value.int .i64 0):=q0;replace q1:_=some (Value.int .i64 0):=q1;clear b4 f4 BV hU PG x0 x1 hq;go_wp2_with fail
     refine bodyPost_ret (v:=.tuple #[.agg #[.int .i64 0,.int .i64 0],.iface 79 (.int .i64 12)]) (by simp[results,Tryz.results161,go_sem,q0,q1]) rfl ?_
     refine⟨(XP.out.setCell (p:=⟨w.heap.size,0,none⟩) cB _).setCell (p:=⟨w.heap.size,1,none⟩) cB _,HF4.out.past (fun k hk=>ql w4 w.heap.size _ _ k (by omega)) (by rw[ny];omega),?_⟩
     rw[HE4.out]
    | some r =>
     obtain⟨F4,k4⟩:=r;rintro e w4 ⟨b4,f4,rfl,hw4⟩;have HE4:Hid (fw n (g+1) f st.fns=some (F4,3,k4)):=aa (by rw[PG.out,hU];rfl)
     have BV:=f4.cells _ _ _ _ HZ3.out (by decide)
     have hl4:w.heap.size<w4.heap.size:=(aJ.1 BV).1;have y0:=ab BV 0;have y1:=ab BV 1;have z0:=aw BV 0;have z1:=aw BV 1;replace y0:_=some (Value.int .i64 0):=y0;replace y1:_=some (Value.int .i64 0):=y1;have XP:=aa (xR.out.trans b4);have HF4:=aa (EE.out.trans f4);have HK4:Hid (vi w4 w.heap.size 57):=aa ⟨_,_,BV⟩;have hq:=yr BV (.int .i64 3) (.int .i64 (k4:Int));have q0:=ab hq 0;have q1:=ab hq 1;replace q0:_=some (Value.int .i64 3):=q0;replace q1:_=some (Value.int .i64 (k4:Int)):=q1;rw[XO,XM] at hw4;have HW4:=aa hw4;clear b4 f4 BV hU PG x0 x1 hq hw4;go_wp2_with fail
     refine bodyPost_ret (v:=.tuple #[.agg #[.int .i64 3,.int .i64 (k4:Int)],.nilIface]) (by simp[results,Tryz.results161,go_sem,q0,q1]) rfl ?_
     refine⟨(XP.out.setCell (p:=⟨w.heap.size,0,none⟩) cB _).setCell (p:=⟨w.heap.size,1,none⟩) cB _,HF4.out.past (fun k hk=>ql w4 w.heap.size _ _ k (by omega)) (by rw[ny];omega),?_⟩
     rw[HE4.out];exact⟨rfl,(HW4.out.fM HK4.out (by omega) _ _).fM (HK4.out.set _ _ _) (by omega) _ _⟩
end Go.Proofs.YteflkdlaoiijbaaGreatDoor
namespace Go.Proofs.YteflkdlaoiijbaaGreatDoor
open Go.RowKit Go.Shelf
section
attribute [local go_sem] Oper.semAt_some
def sH:List cV→List (Nat×cV)
 | []=>[]
 | l::r=>(r.length,l)::sH r
theorem yw :∀L:List cV,(sH L).length=L.length
 | []=>rfl
 | l::r=>by rw[sH,List.length_cons,List.length_cons,yw r]
theorem NY :∀(L:List cV) (k:Nat) (l:cV),L[k]? = some l→(sH L)[k]? = some (L.length-1-k,l)
 | [],_,_,h=>by simp at h
 | x::r,0,l,h=>by
  injection h with h;subst h;rfl
 | x::r,k+1,l,h=>by
  rw[sH,dW,NY r k l h,List.length_cons];congr 2
  have:=(aK.1 h).1;simp only[List.length_cons] at this;omega
def SS (x:Nat×cV):Array Value:=#[.int .i64 (x.1:Int),.agg #[.int .i64 (x.2.fn:Int),.map (some x.2.blk)]]
abbrev SU (L:List cV):={ x:Nat×cV // x∈sH L}
theorem XQ {L:List cV} {k:Nat} {l:cV} (h:L[k]? = some l) :∃hm,(sH L).attach[k]? = some ⟨(L.length-1-k,l),hm⟩:=by
 have h1:=NY L k l h;refine⟨aM h1,?_⟩;obtain⟨h2,h3⟩:=aK.1 h1;rw[bX (by rw[JV];exact h2),List.getElem_attach]
 congr 1
 exact Subtype.ext h3
set_option maxRecDepth 100000 in
theorem NZ (F:Fence) (n:Nat) (II:F.fn 188) (hro:F.round=none) (hn:1≤n) (l Bs n₀ g lc:Nat) (L:List cV) (hlen:L.length≤1000000) (hg:g<n₀) (hB:Bs<n₀) (J Jx:List (SU L)→World→Prop)
  (hY :∀pre x W,J pre W→pre.length<L.length→YieldAt F (n-1) Tryz.prog l (SS x.1) W fun e W' =>
   (e=.returned (.bool true)∧J (pre++[x]) W'∧Below n₀ W W')∨(e=.returned (.bool false)∧Jx (pre++[x]) W'))
  (W:World) (UP:W.cell? ⟨Bs,0,none⟩=some (.slice (some ⟨g,0,none⟩) L.length lc)) (hc :∀k x,L[k]? = some x→W.cell? ⟨g,(L.length-1-k)*2,none⟩=some (.int .i64 (x.fn:Int))∧W.cell? ⟨g,(L.length-1-k)*2+1,none⟩=some (.map (some x.blk))) (h0:J [] W) :
  CallsIn F n Tryz.prog 188 #[.func (.yield l) #[] #[],.pointer (some ⟨Bs,0,none⟩)] W fun e W'=>(∃v,e=.returned v) ∧
   ((∃ys,ys=(sH L).attach∧J ys W')∨(∃pre,pre <+: (sH L).attach∧Jx pre W')):=by
 have hwr:=wQ hlen;refine callsIn_of_wp Tryz.func188 rfl II ?_ hro;simp only[Tryz.ntmps188,DR,List.length_cons,List.length_nil,Nat.reduceAdd,Nat.reduceSub,JN,JO,JY,JR,kF,fh];gi_wp2
 gi_loopw [3] (fun i wr=>∃(k:Nat) (z:Int),k≤L.length∧i=.int .i64 z∧z=(L.length:Int)-1-k∧J ((sH L).attach.take k) wr∧Below n₀ W wr)
  (fun i _=>(intOf i+1).toNat)
 case atStart=>exact⟨0,_,bK _,rfl,by omega,h0,Below.refl _ _⟩
 case round =>
  obtain⟨k,z,hk,rfl,hz,hJs,hnx⟩:=hrel;by_cases hlt:k<L.length
  ·obtain⟨x,hx⟩ :∃x,L[k]? = some x:=⟨L[k],bX hlt⟩
   obtain⟨c0,c1⟩:=hc k x hx;obtain⟨i,rfl⟩ :∃i:Nat,z=(i:Int):=⟨L.length-1-k,by omega⟩
   have hi:L.length-1-k=i:=by omega
   rw[hi] at c0 c1;have e0:=(hnx.cell (p:=⟨g,i*2,none⟩) hg).trans c0;have e1:=(hnx.cell (p:=⟨g,i*2+1,none⟩) hg).trans c1;have eb:=(hnx.cell (p:=⟨Bs,0,none⟩) hB).trans UP;have yx:i<L.length:=by omega
   obtain⟨hm,bS⟩ :∃hm,(sH L).attach[k]? = some ⟨(i,x),hm⟩:=hi▸XQ hx;obtain⟨fn,tmps,assign,body,hy,hR⟩:=hY _ ⟨(i,x),hm⟩ wr hJs (by rw[og,JV,yw];omega)
   dsimp only[SS] at hy
   have HZ:=aa hz;have hge:decide ((0:Int)≤(i:Int))=true:=bZ (by omega)
   clear hz hi;gi_wp2
   have hz:=HZ.out;refine hR.mono ?_;have Vl:(sH L).attach.take (k+1)=(sH L).attach.take k++[⟨(i,x),hm⟩]:=lx _ _ _ bS;rintro e W3 (⟨rfl,hJ3,hk3⟩ | ⟨rfl,acC⟩)
   ·clear hz
    gi_wp2
    have hz:=HZ.out;go_roundw
    case rel=>exact⟨k+1,(i:Int)-1,by omega,by go_num,by omega,by rw[Vl];exact hJ3,hnx.trans hk3⟩
    case measure=>simp[intOf]
   ·clear hz
    gi_wp2
    refine bodyPost_ret (results_none rfl _ _ _) rfl ?_;exact⟨⟨_,rfl⟩,.inr ⟨_,by rw[←Vl];exact List.take_prefix _ _,acC⟩⟩
  ·obtain rfl:z = -1:=by omega
   have yO:k=L.length:=by omega
   gi_wp2
   go_end0
   exact⟨⟨_,rfl⟩,.inl ⟨_,by rw[tb (by rw[JV,yw];omega)],hJs⟩⟩
set_option maxRecDepth 100000 in
theorem IJ (F:Fence) (n:Nat) (II:F.fn 188) (hro:F.round=none) (l Bs:Nat) (a:Option Addr) (lc:Nat) (J:World→Prop) (W:World) (UP:W.cell? ⟨Bs,0,none⟩=some (.slice a 0 lc)) (h0:J W) :
  CallsIn F n Tryz.prog 188 #[.func (.yield l) #[] #[],.pointer (some ⟨Bs,0,none⟩)] W fun e W'=>(∃v,e=.returned v)∧J W':=by
 refine callsIn_of_wp Tryz.func188 rfl II ?_ hro;simp only[Tryz.ntmps188,DR,List.length_cons,List.length_nil,Nat.reduceAdd,Nat.reduceSub,JN,JO,JY,JR,kF,fh];gi_wp2
 gi_loopw [3] (fun i wr=>i=.int .i64 (-1)∧J wr) (fun _ _=>0)
 case atStart=>exact⟨rfl,h0⟩
 case round =>
  obtain⟨rfl,hJs⟩:=hrel;gi_wp2
  go_end0
  exact⟨⟨_,rfl⟩,hJs⟩
theorem A3 (a:Option Addr) (ln lc:Nat) (w:World) :
  Calls Tryz.prog 160 #[.slice a ln lc] w fun e w'=>e=.returned (.func (.func 188) #[] #[.pointer (some ⟨w.heap.size,0,none⟩)])∧w'=w.alloc (.cells #[.slice a ln lc] 90):=by
 go_enter Tryz.func160,Tryz.ntmps160
 go_wp2
 go_ret
 exact⟨rfl,rfl⟩
theorem Dt (F:Fence) (n:Nat) (II:F.fn 188) (hro:F.round=none) (hn:1≤n) (Bs n₀ B:Nat) (v:Value) (L:List cV) (hlen:L.length≤1000000) (w:World) (UP:Bs<n₀) (adq:n₀≤w.heap.size)
  (hc:w.cell? ⟨Bs,0,none⟩=some v) (hr:w.ownsRow B 238 2 v L.length (L.reverse.flatMap E3)) (hv :∀g,v.ownBlock=some g→g<n₀) :
  SeqStopsK F n Tryz.prog 188 #[.pointer (some ⟨Bs,0,none⟩)] (fun x:SU L=>SS x.1) (Below n₀) (fun ys=>ys=(sH L).attach) (fun pre=>pre <+: (sH L).attach) L.length w:=fun l J Jx W hW _ _ hY h0=>by
 have hc':=(hW.cell (p:=⟨Bs,0,none⟩) (by show Bs<_;omega)).trans hc
 obtain⟨A,c,rfl,_,iT⟩:=eA hr;rcases iT with h0' | ⟨g,rfl,XG,qN,sC⟩
 ·have hL:L=[]:=pw h0'
  subst hL;exact(IJ F n II hro l Bs A c (J []) W hc' h0).mono fun e W' ⟨he,hj⟩=>⟨he,.inl ⟨_,rfl,hj⟩⟩
 ·refine NZ F n II hro hn l Bs n₀ g c L hlen (hv g rfl) UP J Jx hY W hc' (fun k x hx=>?_) h0
  have hk:=(aK.1 hx).1;have aaN:L.reverse[L.length-1-k]? = some x:=by
   rw[List.getElem?_reverse (by omega),show L.length-1-(L.length-1-k)=k by omega]
   exact hx
  have h2:=iu yq L.reverse (L.length-1-k) 0 x aaN (by omega)
  have h3:=iu yq L.reverse (L.length-1-k) 1 x aaN (by omega)
  exact⟨(hW.cell (p:=⟨g,(L.length-1-k)*2,none⟩) qN).trans ((sC _ (by omega)).trans h2),(hW.cell (p:=⟨g,(L.length-1-k)*2+1,none⟩) qN).trans ((sC _ (by omega)).trans h3)⟩
end
end Go.Proofs.YteflkdlaoiijbaaGreatDoor
namespace Go.Proofs.YteflkdlaoiijbaaGreatDoor
open Go.RowKit Go.Shelf
section
attribute [local go_sem] Oper.semAt_some
def A4 (B b:Nat) (nv:Value) (N ub ob:Nat) (st:aF) (f:Nat) (s:ByteArray) (w:World) (e:Ending) (w':World):Prop :=
 Below B w w'∧Fr [52,61,59] w w'∧match st.names.find? fun n=>decide (n.s=s) with
 | none=>e=.returned (.tuple #[.agg #[.int .i64 0,.int .i64 0],.iface 79 (.int .i64 16)])∧jL w' B b nv N st ub ob
 | some n=>match fw n st.fns.length f st.fns with
  | some (F,k,i)=>e=.returned (.tuple #[.agg #[.int .i64 k,.int .i64 (i:Int)],.nilIface])∧jL w' B b nv N { st with fns:=F} ub ob
  | none=>e=.returned (.tuple #[.agg #[.int .i64 0,.int .i64 0],.iface 79 (.int .i64 12)])
theorem fT {W:World} {o x:Obj} {k:Nat} (h:W.heap[k]? = some x):(W.alloc o).heap[k]? = some x:=(Below.heap_alloc W o k (aJ.1 h).1).trans h
theorem rA {W:World} {o:Obj} {n:Nat} (h:W.heap.size=n):(W.alloc o).heap[n]? = some o:=by rw[←h];exact heap_alloc_new W o
theorem IK (w:World) (o1 o2 o3 o4 o5 o6:Obj) {W:World} (h:((((((w.alloc o1).alloc o2).alloc o3).alloc o4).alloc o5).alloc o6)=W):W.heap.size=w.heap.size+1+1+1+1+1+1∧Below w.heap.size w W∧W.heap[w.heap.size]? = some o1∧W.heap[w.heap.size+1]? = some o2∧W.heap[w.heap.size+1+1]? = some o3∧W.heap[w.heap.size+1+1+1]? = some o4∧W.heap[w.heap.size+1+1+1+1]? = some o5∧W.heap[w.heap.size+1+1+1+1+1]? = some o6:=by
 subst h;refine⟨by rw[ao,ao,ao,ao,ao,ao],(((((((Below.refl _ w).alloc (ah _) _).alloc (by rw[ao];omega) _).alloc (by rw[ao,ao];omega) _).alloc (by rw[ao,ao,ao];omega) _).alloc (by rw[ao,ao,ao,ao];omega) _).alloc (by rw[ao,ao,ao,ao,ao];omega) _),fT (fT (fT (fT (fT (rA rfl))))),fT (fT (fT (fT (rA (by rw[ao]))))),fT (fT (fT (rA (by rw[ao,ao])))),fT (fT (rA (by rw[ao,ao,ao]))),fT (rA (by rw[ao,ao,ao,ao])),rA (by rw[ao,ao,ao,ao,ao])⟩
structure SV (W W':World):Prop where
 size:W.heap.size≤W'.heap.size
 cells :∀(k:Nat) c (e:TypeId) fz,W.heap[k]? = some (.cells c e fz)→W'.heap[k]? = some (.cells c e fz)
theorem SV.row {W W':World} {B e s n:Nat} {v:Value} {xs:List Value} (h:SV W W') (hr:W.ownsRow B e s v n xs):W'.ownsRow B e s v n xs:=by
 refine⟨hr.1,?_⟩;rcases hr.2 with hn | ⟨g,cap,cur,rfl,hB,hg,rest⟩
 ·exact .inl hn
 ·exact .inr ⟨g,cap,cur,rfl,hB,h.cells g _ _ _ hg,rest⟩
theorem jL.Y8 {W W':World} {B b:Nat} {nv:Value} {N:Nat} {st:aF} {ub ob:Nat} (h:jL W B b nv N st ub ob) (k:SV W W'):jL W' B b nv N st ub ob:=by
 obtain⟨fv,L,h⟩:=h;exact⟨fv,L,k.cells b _ _ _ h.blk,⟨k.row h.fns.row,fun t ht=>k.row (h.fns.vars t ht),fun t ht=>k.row (h.fns.cz t ht),h.fns.qi,h.fns.rn⟩,h.are,k.row h.uses,k.row h.pe,h.pos⟩
theorem SV.of {W W':World} {row:Option Nat} {B:Nat} (hg:W.grownBy W' row) (hr :∀r,row=some r→B≤r∧∃o:Obj,W.heap[r]? = some o∧o.isCells=false):SV W W' :=
 ⟨hg.size,fun k c e fz hk=>(hg.block k (aJ.1 hk).1 fun e'=>by
  obtain⟨_,o,ho,hc⟩:=hr k e'.symm;rw[hk] at ho;injection ho with ho;subst ho;cases hc).trans hk⟩
theorem N0 {E:List Nat} {w W W':World} {row:Option Nat} {B:Nat} (hB:w.heap.size≤B) (h:Fr E w W) (hg:W.grownBy W' row) (hr :∀r,row=some r→B≤r∧∃o:Obj,W.heap[r]? = some o∧o.isCells=false):Fr E w W' :=
 h.past (fun k hk=>hg.block k (by have:=h.size;omega) fun e=>by have:=(hr k e.symm).1;omega) hg.size
theorem wR {n:Nat} {w W W':World} {row:Option Nat} {B:Nat} (hB:n≤B) (hn:n≤W.heap.size) (h:Below n w W) (hg:W.grownBy W' row) (hr :∀r,row=some r→B≤r∧∃o:Obj,W.heap[r]? = some o∧o.isCells=false):Below n w W' :=
 ⟨hg.os.trans h.os,hg.tape.trans h.tape,hg.output.trans h.output,aL h.size hg.size,fun k hk=>(hg.block k (by omega) fun e=>by have:=(hr k e.symm).1;omega).trans (h.block k hk)⟩
theorem jL.later {W W':World} {B b:Nat} {nv:Value} {N:Nat} {st:aF} {ub ob:Nat} (h:jL W B b nv N st ub ob) (hb:Below W.heap.size W W'):jL W' B b nv N st ub ob:=by
 obtain⟨fv,L,h⟩:=h;exact⟨fv,L,h.later hb⟩
theorem E6 :∀{L:List cV} {x:Nat×cV},x∈sH L→x.2∈L
 | l::r,x,h=>by
  rw[sH] at h;rcases bq.1 h with rfl|h
  ·exact bV ..
  ·exact bY _ (E6 h)
theorem E7 :∀L:List cV,(sH L).map (·.2)=L
 | []=>rfl
 | l::r=>by rw[sH,fW,E7 r]
theorem E8 (L:List cV):(sH L).attach.map (fun x=>x.1.2)=L:=by
 have:(sH L).attach.map (fun x=>x.1.2)=((sH L).attach.map Subtype.val).map (·.2):=by rw[zh];rfl
 rw[this,List.attach_map_subtype_val,E7]
theorem N3 {L:List cV} {s:ByteArray} (h :∀y∈(sH L).attach,jS y.1.2.iv s=none):(mh L).find? (fun n=>decide (n.s=s))=none:=by
 rw[rz];have:L.find? (fun l=>(jS l.iv s).isSome)=none:=by
  rw[DP];intro l hl;have h1:l∈(sH L).attach.map (fun x=>x.1.2):=by rw[E8];exact hl
  obtain⟨y,hy,e⟩:=jr.1 h1;rw[←e,h y hy];simp
 rw[this];rfl
theorem A7 {L:List cV} {s:ByteArray} {pre:List (SU L)} {x:SU L} {n:jj} (hp:pre++[x] <+: (sH L).attach) (h :∀y∈pre,jS y.1.2.iv s=none) (hx:(x.1.2.iv.find? fun n=>decide (n.s=s))=some n):(mh L).find? (fun n=>decide (n.s=s))=some n:=by
 obtain⟨t,ht⟩:=hp;have e:L=(pre.map fun x=>x.1.2)++x.1.2::t.map fun x=>x.1.2:=by
  refine(E8 L).symm.trans ?_;rw[←ht];simp
 rw[rz];have:L.find? (fun l=>(jS l.iv s).isSome)=some x.1.2:=by
  refine(az (List.find? fun l=>(jS l.iv s).isSome) e).trans ?_
  rw[List.find?_append];have h1:(pre.map fun x=>x.1.2).find? (fun l=>(jS l.iv s).isSome)=none:=by
   rw[DP];intro l hl;obtain⟨y,hy,e⟩:=jr.1 hl;rw[←e,h y hy];simp
  rw[h1,Option.none_or,kH];have h2:(jS x.1.2.iv s).isSome=true:=by unfold jS;rw[hx];rfl
  rw[h2]
 rw[this];exact hx
structure IL (W:World) (r q:Nat) (k i:Int) (ev:Value):Prop where
 use:W.heap[r]? = some (.cells #[.int .i64 k,.int .i64 i] 57 (0,0))
 err:W.heap[q]? = some (.cells #[ev] 27 (0,0))
theorem XS {W:World} {r q:Nat} (hne:r≠q) {x y z:Value} (h4:W.heap[r]? = some (.cells #[x,y] 57 (0,0))) (h5:W.heap[q]? = some (.cells #[z] 27 (0,0))) (k i:Int) (ev:Value):IL (((W.setCell ⟨r,0,none⟩ (.int .i64 k)).setCell ⟨r,1,none⟩ (.int .i64 i)).setCell ⟨q,0,none⟩ ev) r q k i ev :=
 ⟨(Below.heap_setCell _ _ _ r hne).trans (yr h4 _ _),by
  have:=bA ((ql W r (.int .i64 k) (.int .i64 i) q fun e=>hne e.symm).trans h5) 0 ev
  simpa using this⟩
theorem SW (W:World) (r q:Nat) (a c v:Value) (k:Nat) (h1:k≠r) (h2:k≠q):(((W.setCell ⟨r,0,none⟩ a).setCell ⟨r,1,none⟩ c).setCell ⟨q,0,none⟩ v).heap[k]? = W.heap[k]?:=(Below.heap_setCell _ _ _ k h2).trans (ql W r a c k h1)
theorem N9 (W:World) (r q:Nat) (a c v:Value):(((W.setCell ⟨r,0,none⟩ a).setCell ⟨r,1,none⟩ c).setCell ⟨q,0,none⟩ v).heap.size=W.heap.size:=by simp[World.setCell]
theorem Oa (B:Nat) {E:List Nat} {W W1:World} (h:Fr E W W1) (r q:Nat) (a c v:Value):KeepsFrom B W (((W1.setCell ⟨r,0,none⟩ a).setCell ⟨r,1,none⟩ c).setCell ⟨q,0,none⟩ v) :=
 KeepsFrom.trans (Y:=W1) ⟨h.size,fun k o _ hk ho=>h.others k o hk fun _ _ _ e=>by subst e;cases ho⟩ ((((KeepsOthers.setCell _ _ _).trans (KeepsOthers.setCell _ _ _)).trans (KeepsOthers.setCell _ _ _)).from B)
theorem jL.fr {W W':World} {B b:Nat} {nv:Value} {N:Nat} {st:aF} {ub ob:Nat} {E:List Nat} (h:jL W B b nv N st ub ob) (k:Fr E W W') (he:(87:Nat)∉E∧(52:Nat)∉E∧(61:Nat)∉E∧(59:Nat)∉E∧(57:Nat)∉E∧(3:Nat)∉E):jL W' B b nv N st ub ob:=by
 obtain⟨fv,L,h⟩:=h;exact⟨fv,L,h.fr k he⟩
theorem rs9 {W:World} {B b:Nat} {nv:Value} {N:Nat} {st:aF} {ub ob:Nat} (h:jL W B b nv N st ub ob) {r q:Nat} (hr:vi W r 57) (hq:vi W q 27) (hne:r≠ub) (a c v:Value):jL (((W.setCell ⟨r,0,none⟩ a).setCell ⟨r,1,none⟩ c).setCell ⟨q,0,none⟩ v) B b nv N st ub ob :=
 ((h.fM hr hne _ _).fM (hr.set _ _ _) hne _ _).fr (E:=[27]) (((hq.set _ _ _).set _ _ _).fr (by decide) _ _) (by decide)
def E9 (w:World) (B b:Nat) (nv:Value) (N ub ob:Nat) (st:aF) (f:Nat) (s:ByteArray) (L:List cV) (r q:Nat) (pre:List (SU L)) (W:World):Prop :=
 (∃(pre':List (SU L)) (x:SU L) (n:jj),pre=pre'++[x]∧(∀y∈pre',jS y.1.2.iv s=none)∧(x.1.2.iv.find? fun n=>decide (n.s=s))=some n∧match fw n st.fns.length f st.fns with
  | some (F,k,i)=>IL W r q k i .nilIface∧jL W B b nv N { st with fns:=F} ub ob
  | none=>IL W r q 0 0 (.iface 79 (.int .i64 12)))∧Fr [52,61,59] w W∧Below B w W
theorem IL.Y8 {W W':World} {r q:Nat} {k i:Int} {ev:Value} (h:IL W r q k i ev) (c:SV W W'):IL W' r q k i ev:=⟨c.cells _ _ _ _ h.use,c.cells _ _ _ _ h.err⟩
theorem E9.own {w:World} {B b:Nat} {nv:Value} {N ub ob:Nat} {st:aF} {f:Nat} {s:ByteArray} {L:List cV} {r q:Nat} {pre:List (SU L)} {W W':World} {row:Option Nat} {D:Nat} (hD:w.heap.size≤D) (hB:B≤w.heap.size) (h:E9 w B b nv N ub ob st f s L r q pre W) (hg:W.grownBy W' row) (hr :∀r,row=some r→D≤r∧∃o:Obj,W.heap[r]? = some o∧o.isCells=false):E9 w B b nv N ub ob st f s L r q pre W':=by
 obtain⟨⟨pre',x,n,h1,h2,h3,h4⟩,h5,h6⟩:=h;have c:=SV.of hg hr;refine⟨⟨pre',x,n,h1,h2,h3,?_⟩,N0 hD h5 hg hr,wR (by omega) (by have:=h6.size;omega) h6 hg hr⟩
 cases hR:fw n st.fns.length f st.fns with
 | none=>rw[hR] at h4;exact h4.Y8 c
 | some r=>obtain⟨F,k,i⟩:=r;rw[hR] at h4;exact⟨h4.1.Y8 c,h4.2.Y8 c⟩
set_option maxRecDepth 100000 in
theorem IM {B:Nat} {nv:Value} {N ub ob:Nat} (b f:Nat) (s:ByteArray) (loop:Int) (pa la:Option Addr) (lc:Nat) (L:List cV) (st:aF) (w:World) (hw:jL w B b nv N st ub ob) (hl:dk w B (.slice la L.length lc) L) (hn:st.names=mh L) (CN:Cx f st) (n9:dQ st.fns) (NK:st.fns.length≤100000) (wk:L.length≤100000) (hs:s.size≤maxLen) :
  Calls Tryz.prog 109 #[.pointer (some ⟨b,0,none⟩),.string s,.agg #[.int .i64 (f:Int),.int .i64 loop,.pointer pa,.slice la L.length lc]] w (A4 B b nv N ub ob st f s w):=by
 refine(callsIn_wide (n:=3)).1 ?_;have HW:=aa hw;have HL:=aa hl;have HN:=aa hn;have Y9:=aa CN;have SQ:=aa n9;clear hw hl hn CN n9;refine callsIn_of_wp_marks Tryz.func109 rfl trivial ?_ rfl;simp only[Tryz.ntmps109,DR,List.length_cons,List.length_nil,Nat.reduceAdd,Nat.reduceSub,JN,JO,JY,JR,kF,fh];gi_wp2_with (first|(refine⟨trivial,?_⟩;gi_at_call 160;refine(callsIn_wide.2 (A3 _ _ _ _)).mono ?_;rintro e w' ⟨rfl,rfl⟩)|(gi_at_call 160;refine(callsIn_wide.2 (A3 _ _ _ _)).mono ?_;rintro e w' ⟨rfl,rfl⟩))
 obtain⟨W0,hW0⟩ :∃W0,((((((w.alloc (.cells #[.pointer (some ⟨b,0,none⟩)] 142)).alloc (.cells #[.string s] 9)).alloc (.cells #[.int .i64 (f:Int),.int .i64 loop,.pointer pa,.slice la L.length lc] 92)).alloc (.cells #[.int .i64 0,.int .i64 0] 57)).alloc (.cells #[.nilIface] 27)).alloc (.cells #[.slice la L.length lc] 90))=W0:=⟨_,rfl⟩;obtain⟨hsz,hb0,o1,o2,o3,o4,o5,o6⟩:=IK w _ _ _ _ _ _ hW0;rw[hW0];obtain⟨cB,pg⟩:B≤w.heap.size∧ub<w.heap.size:=by
  obtain⟨_,_,h⟩:=HW.out;exact⟨aL h.pos (fj h.gK.1),h.gK.2.1⟩
 have NN:=aa hb0;have qm:=aa hsz;have H1:=aa o1;have H2:=aa o2;have H3:=aa o3;have H4:=aa o4;have H5:=aa o5;have c6:=ab o6 0;clear o1 o2 o3 o4 o5 o6 hW0 hsz hb0;have HR0:=aa (nT HL.out.row NN.out);have hown :∀g,(Value.slice la L.length lc).ownBlock=some g→g<W0.heap.size:=fun g hg=>by
  have h1:=(HR0.out.lt g hg).2;exact h1
 refine wpIn_rangeFunc_ownH (α:=SU L) rfl (by omega) (gf:=188) (lb:=#[.pointer (some ⟨w.heap.size+1+1+1+1+1,0,none⟩)]) rfl trivial (enters_of Tryz.func188 (by kernel_rfl) rfl)
  (Dt Fence.wide 2 trivial rfl (by omega) (w.heap.size+1+1+1+1+1) W0.heap.size B (.slice la L.length lc) L (by omega) W0 (by rw[qm.out];omega) (ah _) c6 HR0.out hown) belowK_t (belowK_b (ah _)) (Below.refl _ _) (fun _=>rfl)
  (fun pre W=>(∀y∈pre,jS y.1.2.iv s=none)∧Below W0.heap.size W0 W)
  (fun c pre W=>c=.ret∧E9 w B b nv N ub ob st f s L (w.heap.size+1+1+1) (w.heap.size+1+1+1+1) pre W)
  (OwnFrom.and (ownFrom_pure _ _) (ownFrom_below (ah _) (ah _)))
  (fun c=>OwnFrom.and (ownFrom_pure _ _) (fun pre W W' row hs hg hr=>hs.own (by rw[qm.out];omega) cB hg hr))
  ⟨fun y hy=>(by cases hy),Below.refl _ _⟩
  (fun x a' W=>∃Bx,W0.heap.size≤Bx∧W.heap[Bx]? = some (.cells #[.int .i64 (x.1.2.fn:Int),.map (some x.1.2.blk)] 238 (0,0))∧a'={ tmps:=#[.pointer (some ⟨b,0,none⟩),.string s,.agg #[.int .i64 (f:Int),.int .i64 loop,.pointer pa,.slice la L.length lc],.pointer (some ⟨w.heap.size,0,none⟩),.pointer (some ⟨w.heap.size+1,0,none⟩),.pointer (some ⟨w.heap.size+1+1,0,none⟩),.pointer (some ⟨w.heap.size+1+1+1,0,none⟩),.pointer (some ⟨w.heap.size+1+1+1+1,0,none⟩),undef,.pointer (some ⟨Bx,0,none⟩),undef,undef,.pointer (some ⟨w.heap.size+1+1,3,none⟩),.slice la L.length lc,.func (.func 188) #[] #[.pointer (some ⟨w.heap.size+1+1+1+1+1,0,none⟩)],.int .i64 (x.1.1:Int),.agg #[.int .i64 (x.1.2.fn:Int),.map (some x.1.2.blk)],undef,undef,undef,undef,undef,undef,undef,undef,undef,undef,undef,undef,undef,undef,undef,undef,undef,undef,undef],defers:=[]})
  (fun x a' pre W W' row hs hg hr=>by
   obtain⟨Bx,h1,h2,h3⟩:=hs;exact⟨Bx,h1,(SV.of hg hr).cells _ _ _ _ h2,h3⟩) ?assign ?body ?done ?stop
 case assign =>
  rintro l pre ⟨⟨i,y⟩,hm⟩ W K ⟨hp,hb⟩ hK;dsimp only[SS]
  gi_wp2
  exact hK _ _ ((KeepsOthers.alloc _ _).from _) ((Below.refl _ W).alloc hb.size _) ⟨hp,hb.alloc hb.size _⟩ ⟨W.heap.size,hb.size,heap_alloc_new _ _,rfl⟩
 case body =>
  rintro l pre ⟨⟨i,y⟩,hm⟩ a' W hl' ⟨r,hr⟩ ⟨hp,hb⟩ ⟨Bx,hBx,dh,rfl⟩ hlt;have hy:=E6 hm;dsimp only
  have wh:=NN.out.trans (hb.mono (by rw[qm.out];omega))
  obtain⟨Za,hmB⟩:=HL.out.maps y hy;have hmw:dJ Tryz.prog 9 W y.blk y.iv.length (jS y.iv):=Za.same (wh.block _ Za.lt);have hrun:=hmw.look (t:=236) (e:=3) Tryz.underlying9 Tryz.underlying236 (z:=.int .i64 0) (by kernel_rfl) rfl s hs
  have y0:=ab dh 0;have y1:=ab dh 1;replace y0:_=some (Value.int .i64 (y.fn:Int)):=y0;replace y1:_=some (Value.map (some y.blk)):=y1;have q1:=(hb.block _ (by rw[qm.out];omega)).trans H1.out
  have q2:=(hb.block _ (by rw[qm.out];omega)).trans H2.out
  have q3:=(hb.block _ (by rw[qm.out];omega)).trans H3.out
  have q4:=(hb.block _ (by rw[qm.out];omega)).trans H4.out
  have q5:=(hb.block _ (by rw[qm.out];omega)).trans H5.out
  have d1:=ab q1 0;have d2:=ab q2 0;have d3:=ab q3 0;replace d1:_=some (Value.pointer (some ⟨b,0,none⟩)):=d1;replace d2:_=some (Value.string s):=d2;replace d3:_=some (Value.int .i64 (f:Int)):=d3;have HP:=aa hp;have tL:=aa hb;have lo:=aa wh;have HYL:=aa hy;have Q4:=aa q4;have Q5:=aa q5;have HLR:=aa hr;clear hp hb wh Za hmB hmw q1 q2 q3 q4 q5 dh hr;cases rB:jS y.iv s with
  | none =>
   rw[rB] at hrun;replace hrun:_=Result.ok (Value.tuple #[.int .i64 0,.bool false]) W:=hrun;gi_wp2
   refine⟨KeepsFrom.refl _ _,Below.refl _ _,?_,tL.out⟩;intro a2 b2 hm2 hz;rcases dj.1 hz with hz|hz
   ·exact HP.out _ hz
   ·rw[bR] at hz
    injection hz with hz;injection hz with _ hz;rw[hz];exact rB
  | some v =>
   obtain⟨n,zF,qS⟩ :∃n,(y.iv.find? fun n=>decide (n.s=s))=some n∧v=.int .i64 (n.i:Int):=by
    unfold jS at rB;cases e:y.iv.find? fun n=>decide (n.s=s) with
    | none=>rw[e] at rB;cases rB
    | some n=>rw[e] at rB;injection rB with rB;exact⟨n,rfl,rB.symm⟩
   subst qS;rw[rB] at hrun;replace hrun:_=Result.ok (Value.tuple #[.int .i64 (n.i:Int),.bool true]) W:=hrun;have PC:n∈y.iv:=JF zF;have hfn:=HL.out.own y HYL.out n PC;rw[←hfn] at y0;have kA:n∈st.names:=by
    rw[HN.out];exact tf.2 ⟨y,HYL.out,PC⟩
   have HNN:=aa kA;have Jv:=aa zF;have HSEG:=aa rB;clear kA zF rB PC hfn;have iZ:=aa (HW.out.later lo.out);obtain⟨Ds,yf,vf,hyf,hvf,Ss⟩:=Y9.out.names n HNN.out;have HLD:=aa (NX b n st.fns.length f st W Y9.out.lt iZ.out Y9.out.ok SQ.out Ds ⟨yf,vf,hyf,hvf,Ss⟩ Y9.out.lt NK);have q4:=Q4.out;have q5:=Q5.out;gi_wp2_with fail
   refine⟨trivial,(CallsIn.inRound l (callsIn_wide.2 HLD.out)).mono ?_⟩;rintro e w1 ⟨b1,f1,h1⟩;have Zb:=f1.cells _ _ _ _ q4 (by decide)
   have q5':=f1.cells _ _ _ _ q5 (by decide)
   have r0:=ab Zb 0;have r1:=ab Zb 1;have r2:=ab q5' 0;have z0:=aw Zb 0;have z1:=aw Zb 1;have z2:=aw q5' 0;replace r0:_=some (Value.int .i64 0):=r0;replace r1:_=some (Value.int .i64 0):=r1;replace r2:_=some Value.nilIface:=r2;have fm:=aa f1;have dU:=aa b1;have Q4':=aa Zb;have Q5':=aa q5';clear b1 f1 q4 q5 Zb q5' hyf hvf Ds Ss;cases hR:fw n st.fns.length f st.fns with
   | none =>
    rw[hR] at h1;subst h1;have HR:=aa hR;clear hR;gi_wp2
    refine⟨Oa _ fm.out _ _ _ _ _,rfl,⟨pre,⟨(i,y),hm⟩,n,rfl,HP.out,Jv.out,?_⟩,((Fr.ae lo.out).trans fm.out).past (fun k hk=>SW _ _ _ _ _ _ k (by omega) (by omega)) (by rw[N9];exact ah _),((((lo.out.mono cB).trans dU.out).setCell (p:=⟨w.heap.size+1+1+1,0,none⟩) (by show B≤w.heap.size+1+1+1;omega) _).setCell (p:=⟨w.heap.size+1+1+1,1,none⟩) (by show B≤w.heap.size+1+1+1;omega) _).setCell (p:=⟨w.heap.size+1+1+1+1,0,none⟩) (by show B≤w.heap.size+1+1+1+1;omega) _⟩
    rw[HR.out];exact XS (by omega) Q4'.out Q5'.out 0 0 _
   | some r =>
    obtain⟨F1,k1,i1⟩:=r;rw[hR] at h1;obtain⟨rfl,dZ⟩:=h1;have HR:=aa hR;have lp:=aa dZ;clear hR dZ;gi_wp2
    refine⟨Oa _ fm.out _ _ _ _ _,rfl,⟨pre,⟨(i,y),hm⟩,n,rfl,HP.out,Jv.out,?_⟩,((Fr.ae lo.out).trans fm.out).past (fun k hk=>SW _ _ _ _ _ _ k (by omega) (by omega)) (by rw[N9];exact ah _),((((lo.out.mono cB).trans dU.out).setCell (p:=⟨w.heap.size+1+1+1,0,none⟩) (by show B≤w.heap.size+1+1+1;omega) _).setCell (p:=⟨w.heap.size+1+1+1,1,none⟩) (by show B≤w.heap.size+1+1+1;omega) _).setCell (p:=⟨w.heap.size+1+1+1+1,0,none⟩) (by show B≤w.heap.size+1+1+1+1;omega) _⟩
    rw[HR.out];exact⟨XS (by omega) Q4'.out Q5'.out k1 i1 _,rs9 lp.out ⟨_,_,Q4'.out⟩ ⟨_,_,Q5'.out⟩ (by omega) _ _ _⟩
 case done =>
  rintro D ys W hD rfl ⟨hp,hb⟩ hK;have q4:=(hb.block _ (by rw[qm.out];omega)).trans H4.out
  have q5:=(hb.block _ (by rw[qm.out];omega)).trans H5.out
  have r0:=ab q4 0;have r1:=ab q4 1;have r2:=ab q5 0;have z0:=aw q4 0;have z1:=aw q4 1;have z2:=aw q5 0;replace r0:_=some (Value.int .i64 0):=r0;replace r1:_=some (Value.int .i64 0):=r1;replace r2:_=some Value.nilIface:=r2;have lo:=aa (NN.out.trans (hb.mono (by rw[qm.out];omega)))
  have HDN:Hid ((mh L).find? (fun n=>decide (n.s=s))=none):=aa (N3 hp)
  have acD:=aa (XS (W:=W) (r:=w.heap.size+1+1+1) (q:=w.heap.size+1+1+1+1) (by omega) q4 q5 0 0 (.iface 79 (.int .i64 16)))
  have K4:Hid (vi W (w.heap.size+1+1+1) 57):=aa ⟨_,_,q4⟩;have K5:Hid (vi W (w.heap.size+1+1+1+1) 27):=aa ⟨_,_,q5⟩;clear q4 q5 hp hb;gi_wp2
  have hK':=(SW W (w.heap.size+1+1+1) (w.heap.size+1+1+1+1) (.int .i64 0) (.int .i64 0) (.iface 79 (.int .i64 16)) D (by rw[qm.out] at hD;omega) (by rw[qm.out] at hD;omega)).trans hK
  have hR9:=rs9 (HW.out.later lo.out) K4.out K5.out (by omega) (.int .i64 0) (.int .i64 0) (.iface 79 (.int .i64 16))
  have hF9:Fr [52,61,59] w (((W.setCell ⟨w.heap.size+1+1+1,0,none⟩ (.int .i64 0)).setCell ⟨w.heap.size+1+1+1,1,none⟩ (.int .i64 0)).setCell ⟨w.heap.size+1+1+1+1,0,none⟩ (.iface 79 (.int .i64 16))):=(Fr.ae lo.out).past (fun k hk=>SW _ _ _ _ _ _ k (by omega) (by omega)) (by rw[N9];exact ah _)
  have hB9:Below B w (((W.setCell ⟨w.heap.size+1+1+1,0,none⟩ (.int .i64 0)).setCell ⟨w.heap.size+1+1+1,1,none⟩ (.int .i64 0)).setCell ⟨w.heap.size+1+1+1+1,0,none⟩ (.iface 79 (.int .i64 16))):=(((lo.out.mono cB).setCell (p:=⟨w.heap.size+1+1+1,0,none⟩) (by show B≤w.heap.size+1+1+1;omega) _).setCell (p:=⟨w.heap.size+1+1+1,1,none⟩) (by show B≤w.heap.size+1+1+1;omega) _).setCell (p:=⟨w.heap.size+1+1+1+1,0,none⟩) (by show B≤w.heap.size+1+1+1+1;omega) _
  have hO9:=acD.out;generalize ((W.setCell ⟨w.heap.size+1+1+1,0,none⟩ (.int .i64 0)).setCell ⟨w.heap.size+1+1+1,1,none⟩ (.int .i64 0)).setCell ⟨w.heap.size+1+1+1+1,0,none⟩ (.iface 79 (.int .i64 16))=W9 at *;refine⟨by simp,.inl ⟨_,_,rfl,run_takeDeferred hK',?_⟩⟩
  have hgr:=grownBy_putObj' W9 D (.deferred none);have XT :∀r,some D=some r→W0.heap.size≤r∧∃o:Obj,W9.heap[r]? = some o∧o.isCells=false:=fun r e=>by injection e with e;subst e;exact⟨hD,_,hK',rfl⟩
  have hC:=SV.of hgr XT;have hO:=hO9.Y8 hC;have k0:=ab hO.use 0;have k1:=ab hO.use 1;have k2:=ab hO.err 0;replace k0:_=some (Value.int .i64 0):=k0;replace k1:_=some (Value.int .i64 0):=k1;replace k2:_=some (Value.iface 79 (.int .i64 16)):=k2;refine⟨.tuple #[.agg #[.int .i64 0,.int .i64 0],.iface 79 (.int .i64 16)],?_,wR (by rw[qm.out];omega) (by have:=hB9.size;omega) hB9 hgr XT,N0 (by rw[qm.out];omega) hF9 hgr XT,?_⟩
  ·simp[results,Tryz.results109,go_sem,k0,k1,k2]
  ·rw[HN.out,HDN.out]
   exact⟨rfl,hR9.Y8 hC⟩
 case stop =>
  rintro D c pre W hD tE ⟨rfl,hz⟩ hK;have HZ:=aa hz;have acE:=aa tE;clear hz tE;gi_wp2
  refine⟨by simp,.inl ⟨_,_,rfl,run_takeDeferred hK,?_⟩⟩
  have hgr:=grownBy_putObj' W D (.deferred none);have XT :∀r,some D=some r→W0.heap.size≤r∧∃o:Obj,W.heap[r]? = some o∧o.isCells=false:=fun r e=>by injection e with e;subst e;exact⟨hD,_,hK,rfl⟩
  obtain⟨⟨pre',x,n,rfl,h2,h3,h4⟩,h5,h6⟩:=HZ.out.own (by rw[qm.out];omega) cB hgr XT
  have NK:st.names.find? (fun n=>decide (n.s=s))=some n:=by rw[HN.out];exact A7 acE.out h2 h3
  cases hR:fw n st.fns.length f st.fns with
  | none =>
   rw[hR] at h4;have k0:=ab h4.use 0;have k1:=ab h4.use 1;have k2:=ab h4.err 0;replace k0:_=some (Value.int .i64 0):=k0;replace k1:_=some (Value.int .i64 0):=k1;replace k2:_=some (Value.iface 79 (.int .i64 12)):=k2;refine⟨.tuple #[.agg #[.int .i64 0,.int .i64 0],.iface 79 (.int .i64 12)],?_,h6,h5,?_⟩
   ·simp[results,Tryz.results109,go_sem,k0,k1,k2]
   ·rw[NK]
    simp only[hR]
  | some r =>
   obtain⟨F1,kd,i1⟩:=r;rw[hR] at h4;obtain⟨h4,h7⟩:=h4;have k0:=ab h4.use 0;have k1:=ab h4.use 1;have k2:=ab h4.err 0;replace k0:_=some (Value.int .i64 kd):=k0;replace k1:_=some (Value.int .i64 (i1:Int)):=k1;replace k2:_=some Value.nilIface:=k2;refine⟨.tuple #[.agg #[.int .i64 kd,.int .i64 (i1:Int)],.nilIface],?_,h6,h5,?_⟩
   ·simp[results,Tryz.results109,go_sem,k0,k1,k2]
   ·rw[NK]
    simp only[hR];exact⟨trivial,h7⟩
end
end Go.Proofs.YteflkdlaoiijbaaGreatDoor
namespace Go.Proofs.YteflkdlaoiijbaaGreatDoor
open Go.RowKit Go.Extern.Stop Go.Stop Go.Extern
theorem Fa (v:Value) (w:World):(Extern.ReflectliteType.typeOf #[.iface 79 v]).run Tryz.prog w=.ok (.iface 165 (.agg #[.pointer (some ⟨4,79,none⟩)])) w:=by kernel_rfl
theorem j6 (v:Value) (w:World):(Go.method 423 165 v "Comparable").run Tryz.prog w=.ok (267,v) w:=by kernel_rfl
theorem aaO (v:Value) (xT:TypeId) (w:World):(Instr.typeAssert (.iface 79 v) xT 207 true).run Tryz.prog w=.ok (.tuple #[.nilIface,.bool false]) w:=run_typeAssert_lacksB Tryz.underlying207 (by kernel_rfl) (by kernel_rfl) v xT w
theorem IN (v:Value) (xT:TypeId) (w:World):(Instr.typeAssert (.iface 79 v) xT 172 true).run Tryz.prog w=.ok (.tuple #[.nilIface,.bool false]) w:=run_typeAssert_lacksB Tryz.underlying172 (by kernel_rfl) (by kernel_rfl) v xT w
theorem Du (v:Value) (xT:TypeId) (w:World):(Instr.typeAssert (.iface 79 v) xT 173 true).run Tryz.prog w=.ok (.tuple #[.nilIface,.bool false]) w:=run_typeAssert_lacksB Tryz.underlying173 (by kernel_rfl) (by kernel_rfl) v xT w
theorem zEq (w:World):(binOp .eql 27 (.iface 79 (.int .i64 16)) (.iface 79 (.int .i64 16))).run Tryz.prog w=.ok (.bool true) w:=by kernel_rfl
theorem zNe (w:World):(binOp .eql 27 (.iface 79 (.int .i64 12)) (.iface 79 (.int .i64 16))).run Tryz.prog w=.ok (.bool false) w:=by kernel_rfl
theorem sq (w:World):((Extern.ReflectliteType.method fun t=>do Rtype.noPackHeld "Comparable" t;(fun a=>Value.bool a.comparable) <$> typeInfo t) #[.agg #[.pointer (some ⟨4,79,none⟩)]]).run Tryz.prog w=.ok (.bool true) w:=by kernel_rfl
theorem acF (w:World):(binOp .eql 27 .nilIface (.iface 79 (.int .i64 16))).run Tryz.prog w=.ok (.bool false) w:=by kernel_rfl
theorem aaP (w:World):(binOp .eql 27 (.iface 79 (.int .i64 16)) .nilIface).run Tryz.prog w=.ok (.bool false) w:=by kernel_rfl
theorem Fb (w:World) :
  Calls Tryz.prog 30 #[.nilIface,.iface 79 (.int .i64 16)] w fun e w'=>e=.returned (.bool false)∧w=w':=by
 have e1:=acF;have e2:=aaP;go_enter Tryz.func30,Tryz.ntmps30
 go_wp2
 go_ret
 exact⟨rfl,rfl⟩
theorem Fc (w:World) :
  Calls Tryz.prog 30 #[.iface 79 (.int .i64 16),.iface 79 (.int .i64 16)] w fun e w'=>e=.returned (.bool true)∧w=w':=by
 have h41:=@run_callFunc_extern Tryz.prog 65 _ Extern.ReflectliteType.typeOf Tryz.func65 (by kernel_rfl) (by kernel_rfl) (by kernel_rfl) (by kernel_rfl)
 have Xp:=@run_callFunc_extern Tryz.prog 267 _ (Extern.ReflectliteType.method fun t=>do Rtype.noPackHeld "Comparable" t;pure (.bool (←typeInfo t).comparable)) Tryz.func267 (by kernel_rfl) (by kernel_rfl) (by kernel_rfl) (by kernel_rfl)
 have tT:=Fa;have cT:=sq;have mR:=j6;have e5:=zEq;go_enter Tryz.func30,Tryz.ntmps30
 go_wp2
 refine wp_loop_rounds 1 ?_;rw[rounds_succ];go_wp2
 go_ret
 exact⟨rfl,rfl⟩
theorem Fe (w:World) :
  Calls Tryz.prog 30 #[.iface 79 (.int .i64 12),.iface 79 (.int .i64 16)] w fun e w'=>e=.returned (.bool false)∧w=w':=by
 have h41:=@run_callFunc_extern Tryz.prog 65 _ Extern.ReflectliteType.typeOf Tryz.func65 (by kernel_rfl) (by kernel_rfl) (by kernel_rfl) (by kernel_rfl)
 have Xp:=@run_callFunc_extern Tryz.prog 267 _ (Extern.ReflectliteType.method fun t=>do Rtype.noPackHeld "Comparable" t;pure (.bool (←typeInfo t).comparable)) Tryz.func267 (by kernel_rfl) (by kernel_rfl) (by kernel_rfl) (by kernel_rfl)
 have tT:=Fa;have cT:=sq;have mR:=j6;have nE:=aaO;have uE:=IN;have vE:=Du;have e5:=zNe;go_enter Tryz.func30,Tryz.ntmps30
 go_wp2
 refine wp_loop_rounds 1 ?_;rw[rounds_succ];go_wp2
 go_ret
 exact⟨rfl,rfl⟩
end Go.Proofs.YteflkdlaoiijbaaGreatDoor
