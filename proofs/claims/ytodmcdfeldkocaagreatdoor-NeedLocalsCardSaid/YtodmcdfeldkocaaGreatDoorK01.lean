/- Parts of the proof. -/
import Derived.RowKit
import Derived.Test.YtodmcdfeldkocaaGreatDoorProg
import Derived.WalkKit
import Derived.WalkSpells
import Derived.Lib.QuietBelow
import Derived.BigQuiet
import Derived.IntWalk
import Derived.WalkLawsBesides
import Derived.Deep.RegionWith
import Derived.Deep.LoopGhost
import Derived.Deep.QuietTactic
import Derived.Lib.Hide
import Derived.Lib.AppendStr
import Derived.Laws.IdiomStrings
import Derived.Laws.OwnMore
import Derived.Laws.Append
import Derived.Laws.MakeOwn
import Derived.OwnWalk
import Derived.OneCell
import Derived.Below
set_option maxHeartbeats 16000000
set_option maxRecDepth 20000
namespace Go.Proofs
theorem aa {p:Prop}(h:p):RowKit.Hid p:=h
abbrev ag:=@Nat.le_refl
abbrev aJ:=@List.getElem?_eq_some_iff
abbrev aM:=@Array.getElem?_eq_some_iff
abbrev aC:=@beq_eq_false_iff_ne
abbrev ae:=@if_neg
abbrev aV:=@List.mem_of_getElem?
abbrev bt:=@List.getElem?_eq_getElem
abbrev cD:=@List.setIfInBounds_toArray
abbrev aj:=@if_pos
abbrev aL:=@Nat.le_trans
abbrev bQ:=@List.mem_cons_of_mem
abbrev cG:=@List.getElem?_cons_succ
abbrev cH:=@List.getElem?_cons_zero
abbrev bH:=@List.mem_cons_self
abbrev cI:=@List.getElem?_toArray
abbrev bR:=@List.mem_singleton
abbrev ba:=@List.mem_cons
abbrev az:=@congrArg
abbrev cb:=@List.length_append
abbrev cf:=@List.set_cons_zero
abbrev cg:=@List.set_cons_succ
abbrev cw:=@Nat.lt_of_lt_of_le
abbrev bM:=@decide_eq_false
abbrev bS:=@List.length_map
abbrev bN:=@decide_eq_true
abbrev bg:=@Nat.zero_le
abbrev dV:=@List.getElem?_set_self
abbrev eI:=@Bool.eq_false_or_eq_true
abbrev dW:=@List.mem_append_left
abbrev cU:=@List.mem_append
abbrev dk:=@Bool.and_eq_true
abbrev dA:=@Nat.lt_succ_self
abbrev ef:=@List.getElem?_map
abbrev fH:=@List.getElem?_set_ne
abbrev kK:=@List.eq_nil_of_length_eq_zero
abbrev gR:=@List.mem_append_right
abbrev jZ:=@List.getD_eq_getElem?_getD
abbrev fX:=@Bool.false_ne_true
abbrev fI:=@List.append_assoc
abbrev dS:=@List.map_cons
abbrev jc:=@List.mem_iff_getElem?
abbrev kL:=@List.getElem?_append_left
abbrev gS:=@Int.toNat_natCast
abbrev gT:=@of_decide_eq_true
abbrev gr:=@Nat.le_add_right
abbrev iC:=@List.flatMap_cons
abbrev iD:=@decide_eq_true_eq
abbrev gu:=@Option.some.inj
abbrev eJ:=@List.mem_map
abbrev mn:=@List.drop_of_length_le
abbrev iE:=@List.cons_append
abbrev j3:=@List.mem_map_of_mem
abbrev jd:=@List.length_take
abbrev je:=@List.length_drop
abbrev iF:=@Nat.not_lt_zero
abbrev kM:=@List.map_eq_nil_iff
abbrev ft:=@Nat.le_of_lt
abbrev mP:=@List.length_singleton
abbrev jf:=@List.nodup_cons
abbrev pX:=@List.drop_eq_getElem_cons
abbrev j4:=@List.append_nil
abbrev mQ:=@Nat.eq_zero_or_pos
abbrev oJ:=@List.flatMap_append
abbrev kN:=@List.map_append
abbrev kO:=@List.find?_cons
abbrev jg:=@Nat.zero_add
abbrev sF:=@List.take_of_length_le
abbrev mo:=@List.length_set
abbrev zU:=@List.findIdx?_eq_some_iff_getElem
abbrev mS:=@List.mem_flatMap
abbrev iG:=@Nat.le_succ
abbrev oK:=@List.nodup_append
abbrev jz:=@Nat.ne_of_lt
abbrev eK:=@eq_false
abbrev mT:=@Bool.eq_iff_iff
abbrev kP:=@Bool.true_and
abbrev oL:=@List.not_mem_nil
abbrev uh:=@ByteArray.size_extract
abbrev wS:=@Array.getElem?_eq_getElem
abbrev pY:=@Option.some.injEq
abbrev ui:=@List.getElem?_eq_none
abbrev zV:=@List.getElem?_append_right
abbrev oM:=@List.drop_zero
abbrev wT:=@List.map_eq_append_iff
abbrev pZ:=@Option.map_some
abbrev zW:=@Array.getElem_modify_self
abbrev oN:=@Nat.add_assoc
abbrev zX:=@Option.isSome_iff_exists
abbrev zY:=@decide_eq_false_iff_not
abbrev sG:=@List.nil_append
abbrev sH:=@List.cons.injEq
abbrev wU:=@List.map_congr_left
abbrev wV:=@List.length_pos_iff
abbrev uj:=@List.drop_suffix
abbrev uk:=@List.suffix_cons
abbrev wW:=@List.getElem?_drop
abbrev sI:=@List.mem_range
abbrev zZ:=@List.dropWhile_suffix
abbrev EG:=@List.set_eq_of_length_le
abbrev sJ:=@List.all_cons
abbrev EH:=@List.getElem?_take_of_lt
abbrev sK:=@Prod.mk.injEq
abbrev z7:=@List.getElem?_range
abbrev wX:=@List.drop_length
abbrev EI:=@List.flatMap_singleton
abbrev oO:=@bne_iff_ne
abbrev EJ:=@List.dropWhile_sublist
abbrev wY:=@List.mem_filter
abbrev wZ:=@Nat.le_add_left
abbrev um:=@List.sum_cons
abbrev EK:=@List.take_append_drop
abbrev z8:=@Array.size_modify
abbrev EL:=@Nat.mul_le_mul_right
abbrev KF:=@List.takeWhile_cons_of_pos
abbrev Aa:=@List.take_length
abbrev uo:=@List.map_map
abbrev KG:=@List.mem_of_find?_eq_some
abbrev KH:=@List.Pairwise.imp_of_mem
abbrev xc:=@List.map_drop
abbrev Ab:=@Nat.min_eq_left
abbrev Ac:=@UInt8.toNat_inj
abbrev EM:=@List.find?_eq_none
abbrev oP:=@or_false
abbrev Ad:=@Bool.false_and
abbrev EN:=@List.reverse_cons
abbrev EO:=@List.size_toArray
abbrev KI:=@List.append_eq_nil_iff
abbrev KJ:=@ByteArray.data_extract
abbrev KK:=@List.drop_eq_nil_of_le
abbrev KL:=@List.perm_append_comm
abbrev EP:=@List.isEmpty_iff
abbrev Ae:=@List.cons.inj
abbrev Af:=@List.map_take
abbrev Vw:=@List.take_append_of_le_length
abbrev KM:=@List.mem_of_mem_take
abbrev KN:=@Array.replicate_succ
abbrev KO:=@Array.replicate_zero
abbrev p7:=@and_true
abbrev KP:=@Nat.pow_le_pow_right
abbrev KQ:=@List.append_toArray
abbrev ER:=@List.nodup_nil
abbrev xd:=@beq_iff_eq
abbrev KS:=@List.length_attach
abbrev KT:=@List.contains_cons
abbrev KU:=@Bool.false_eq_true
abbrev KV:=@List.length_range'
abbrev KW:=@List.ext_getElem?
abbrev KX:=@List.push_toArray
abbrev KY:=@List.contains_nil
abbrev KZ:=@List.getElem_mem
abbrev K9:=@List.map_toArray
abbrev ES:=@Nat.le_of_eq
abbrev ET:=@List.map_nil
abbrev EU:=@Nat.zero_mul
abbrev EV:=@Nat.succ_mul
abbrev sL:=@if_true
abbrev EW:=@Nat.lt_or_ge
abbrev EX:=@Nat.add_zero
abbrev EY:=@Nat.pow_succ
abbrev EZ:=@Nat.mul_comm
abbrev E0:=@Nat.one_mul
abbrev E3:=@Nat.add_mul
end Go.Proofs
namespace Go.Proofs.YtodmcdfeldkocaaGreatDoor
structure Nd where
 kind:Int
 line:Int
 op:Int
 num:Int
 s:ByteArray
 names:List ByteArray
 kids:List Int
def upd (d:Nat→Nat) (i v:Nat):Nat→Nat:=fun j=>if j=i then v else d j
theorem upd_same (d:Nat→Nat) (i v:Nat):upd d i v i=v:=aj rfl
theorem fY (d:Nat→Nat) {i j:Nat} (v:Nat) (h:j≠i):upd d i v j=d j:=ae h
def dI (N v:Nat):List Int→(Nat→Nat)→List Nat→Option ((Nat→Nat)×List Nat)
 | [],d,m=>some (d,m)
 | k::ks,d,m=>if 0≤k∧k<(N:Int)∧d k.toNat=0 then dI N v ks (upd d k.toNat v) (m++[k.toNat]) else none
def bD (T:List Nd) (i:Nat):List Int:=match T[i]? with|some x=>x.kids|none=>[]
def yA (T:List Nd):Nat→Nat→(Nat→Nat)→List Nat→Option ((Nat→Nat)×List Nat)
 | 0,_,d,m=>some (d,m)
 | f+1,a,d,m=>match m[a]? with
  | none=>some (d,m)
  | some i=>match dI T.length (d i+1) (bD T i) d m with
   | none=>none
   | some p=>yA T f (a+1) p.1 p.2
def E5 (N:Nat):Option ((Nat→Nat)×List Nat)→Nat
 | none=>0
 | some p=>if p.2.length<N then 0 else p.1 (p.2.getLastD 0)
def eN (T:List Nd) (r:Int):Nat :=
 if T.length≤16384∧0≤r∧r<(T.length:Int) then E5 T.length (yA T (T.length+1) 0 (upd (fun _=>0) r.toNat 1) [r.toNat]) else 0
theorem uq :∀(N:Nat) (m:List Nat),m.Nodup→(∀j∈m,j<N)→m.length≤N:=by
 intro N;induction N with
 | zero =>
  intro m _ h;cases m with
  | nil=>exact ag _
  | cons a t=>exact absurd (h a (bH ..)) (iF _)
 | succ N ih =>
  intro m hn h;by_cases hN:N∈m
  ·have h1:=ih (m.erase N) (hn.erase N) (fun j hj=>by
    have hj':=(hn.mem_erase_iff).1 hj;have:=h j hj'.2;have:=hj'.1;omega)
   rw[List.length_erase_of_mem hN] at h1;omega
  ·have h1:=ih m hn (fun j hj=>by
    have:=h j hj;have:j≠N:=fun e=>hN (e▸hj)
    omega)
   omega
theorem rr {N:Nat} {m:List Nat} (hn:m.Nodup) (h :∀j∈m,j<N) (hl:m.length=N) {j:Nat} (hj:j<N):j∈m:=by
 by_cases hm:j∈m
 ·exact hm
 ·have:=uq N (j::m) (jf.2 ⟨hm,hn⟩) (fun x hx=>by
   rcases ba.1 hx with rfl|hx
   ·exact hj
   ·exact h x hx)
  rw[List.length_cons] at this;omega
structure Inv (N:Nat) (d:Nat→Nat) (m:List Nat):Prop where
 nodup:m.Nodup
 iff :∀j,d j≠0↔j∈m
 lt :∀j∈m,j<N
theorem Inv.len {N:Nat} {d:Nat→Nat} {m:List Nat} (h:Inv N d m):m.length≤N:=uq N m h.nodup h.lt
theorem Inv.add {N:Nat} {d:Nat→Nat} {m:List Nat} (h:Inv N d m) {k v:Nat} (hk:k<N) (h0:d k=0) (hv:v≠0):Inv N (upd d k v) (m++[k]):=by
 have oA:k∉m:=fun hm=>(h.iff k).2 hm h0
 refine⟨?_,fun j=>?_,fun j hj=>?_⟩
 ·rw[oK]
  refine⟨h.nodup,by simp,fun a ha b hb=>?_⟩
  obtain rfl:=bR.1 hb;exact fun e=>oA (e▸ha)
 ·by_cases hj:j=k
  ·subst hj
   rw[upd_same];exact⟨fun _=>by simp,fun _=>hv⟩
  ·rw[fY _ _ hj,h.iff,cU,bR]
   exact⟨fun h=>.inl h,fun h=>h.resolve_right hj⟩
 ·rcases cU.1 hj with hj|hj
  ·exact h.lt j hj
  ·obtain rfl:=bR.1 hj
   exact hk
theorem Inv.start {N r:Nat} (h:r<N):Inv N (upd (fun _=>0) r 1) [r]:=by
 have h0:Inv N (fun _=>0) []:=⟨ER,fun j=>by simp,fun j hj=>by simp at hj⟩
 exact h0.add h rfl (by decide)
theorem pg {N v:Nat} (hv:v≠0) :∀(ks:List Int) (d:Nat→Nat) (m:List Nat) (d':Nat→Nat) (m':List Nat),Inv N d m→dI N v ks d m=some (d',m') →
  Inv N d' m'∧m'=m++ks.map Int.toNat∧(∀j,d j≠0→d' j=d j)∧(∀k∈ks,0≤k∧k<(N:Int)∧d' k.toNat=v)∧(∀j,d' j=d j∨d' j=v):=by
 intro ks;induction ks with
 | nil =>
  intro d m d' m' h e;obtain⟨rfl,rfl⟩:d=d'∧m=m':=by simpa[dI] using e
  exact⟨h,by simp,fun _ _=>rfl,fun k hk=>by simp at hk,fun _=>.inl rfl⟩
 | cons k ks ih =>
  intro d m d' m' h e;rw[dI] at e;split at e
  ·rename_i hk
   obtain⟨h0,h1,h2⟩:=hk;obtain⟨i1,i2,i3,i4,i5⟩:=ih _ _ _ _ (h.add (by omega) h2 hv) e
   refine⟨i1,by rw[i2];simp,fun j hj=>?_,fun k' E6=>?_,fun j=>?_⟩
   ·have hjk:j≠k.toNat:=fun e=>hj (e▸h2)
    have:=i3 j (by rw[fY _ _ hjk];exact hj)
    rw[this,fY _ _ hjk]
   ·rcases ba.1 E6 with rfl|E6
    ·refine⟨h0,h1,?_⟩
     rw[i3 _ (by rw[upd_same];exact hv),upd_same]
    ·exact i4 k' E6
   ·rcases i5 j with h|h
    ·rw[h]
     by_cases hj:j=k.toNat
     ·subst hj;right;exact upd_same _ _ _
     ·left;exact fY _ _ hj
    ·exact .inr h
  ·cases e
structure CR (T:List Nd) (r:Nat) (d:Nat→Nat) (m:List Nat):Prop where
 nodup:m.Nodup
 lt :∀j∈m,j<T.length
 full:m.length=T.length
 eq:m=r::m.flatMap fun i=>(bD T i).map Int.toNat
 kid :∀i∈m,∀k∈bD T i,0≤k∧k<(T.length:Int)∧d k.toNat=d i+1
 root:d r=1
 bound :∀i,d i≤T.length+1
theorem CR.mem {T:List Nd} {r:Nat} {d:Nat→Nat} {m:List Nat} (h:CR T r d m) {i:Nat} (hi:i<T.length):i∈m:=rr h.nodup h.lt h.full hi
theorem jA {α:Type} (m:List α) (a:Nat) (i:α) (h:m[a]? = some i):m.take (a+1)=m.take a++[i]:=by
 rw[List.take_add_one,h];rfl
structure Half (T:List Nd) (r:Nat) (a:Nat) (d:Nat→Nat) (m:List Nat):Prop where
 inv:Inv T.length d m
 le:a≤m.length
 eq:m=r::(m.take a).flatMap fun i=>(bD T i).map Int.toNat
 kid :∀i∈m.take a,∀k∈bD T i,0≤k∧k<(T.length:Int)∧d k.toNat=d i+1
 root:d r=1
 bound :∀i,d i≤a+1
theorem Half.start {T:List Nd} {r:Nat} (h:r<T.length):Half T r 0 (upd (fun _=>0) r 1) [r] :=
 ⟨Inv.start h,bg _,by simp,fun i hi=>by simp at hi,upd_same _ _ _,fun i=>by
  by_cases hi:i=r
  ·subst hi;rw[upd_same];omega
  ·rw[fY _ _ hi];omega⟩
theorem Half.step {T:List Nd} {r a i:Nat} {d d':Nat→Nat} {m m':List Nat} (h:Half T r a d m) (hi:m[a]? = some i) (e:dI T.length (d i+1) (bD T i) d m=some (d',m')):Half T r (a+1) d' m':=by
 obtain⟨i1,i2,i3,i4,i5⟩:=pg (by omega) _ _ _ _ _ h.inv e
 have hlt:a<m.length:=(aJ.1 hi).1;have ru :∀j∈m,d' j=d j:=fun j hj=>i3 j ((h.inv.iff j).2 hj)
 have him:i∈m:=aV hi;have Xd:m'.take (a+1)=m.take a++[i]:=by
  rw[i2,Vw (by omega),jA m a i hi]
 refine⟨i1,by rw[i2,cb];omega,?_,fun j hj k hk=>?_,?_,fun j=>?_⟩
 ·rw[Xd,oJ]
  conv=>lhs;rw[i2,h.eq]
  simp
 ·rw[Xd] at hj
  rcases cU.1 hj with hj|hj
  ·obtain⟨k0,k1,k2⟩:=h.kid j hj k hk
   have oA:d k.toNat≠0:=by omega
   rw[i3 _ oA,ru j (KM hj)];exact⟨k0,k1,k2⟩
  ·obtain rfl:=bR.1 hj
   obtain⟨k0,k1,k2⟩:=i4 k hk;rw[k2,ru _ him];exact⟨k0,k1,rfl⟩
 ·rw[i3 r (by rw[h.root];decide),h.root]
 ·have:=h.bound j
  have:=h.bound i;rcases i5 j with e|e<;>omega
theorem La {T:List Nd} {r:Nat} :∀(f a:Nat) (d:Nat→Nat) (m:List Nat) (d':Nat→Nat) (m':List Nat),Half T r a d m→T.length+1≤f+a→yA T f a d m=some (d',m')→Half T r m'.length d' m':=by
 intro f;induction f with
 | zero =>
  intro a d m d' m' h hf e;have:=h.inv.len;have:=h.le;omega
 | succ f ih =>
  intro a d m d' m' h hf e;rw[yA] at e;cases hi:m[a]? with
  | none =>
   rw[hi] at e;obtain⟨rfl,rfl⟩:d=d'∧m=m':=by simpa using e
   have h1:m.length≤a:=List.getElem?_eq_none_iff.1 hi;have h2:=h.le;obtain rfl:a=m.length:=by omega
   exact h
  | some i =>
   rw[hi] at e;have e':(match dI T.length (d i+1) (bD T i) d m with
    | none=>none
    | some p=>yA T f (a+1) p.1 p.2)=some (d',m'):=e
   cases hk:dI T.length (d i+1) (bD T i) d m with
   | none=>rw[hk] at e';cases e'
   | some p =>
    rw[hk] at e';exact ih _ _ _ _ _ (h.step hi hk) (by omega) e'
theorem ur {T:List Nd} {r:Int} (h:eN T r≠0):T.length≤16384∧0≤r∧r<(T.length:Int)∧∃d m,CR T r.toNat d m:=by
 unfold eN at h;split at h
 ·rename_i hh
  obtain⟨h0,h1,h2⟩:=hh;refine⟨h0,h1,h2,?_⟩;cases e:yA T (T.length+1) 0 (upd (fun _=>0) r.toNat 1) [r.toNat] with
  | none=>rw[e] at h;exact absurd rfl h
  | some p =>
   obtain⟨d,m⟩:=p;rw[e] at h;have hf:=La _ _ _ _ _ _ (Half.start (T:=T) (r:=r.toNat) (by omega)) (by omega) e
   have hlen:¬ m.length<T.length:=fun hl=>h (aj hl)
   have:=hf.inv.len;have hm:m.length=T.length:=by omega
   have ht:m.take m.length=m:=Aa;refine⟨d,m,hf.inv.nodup,hf.inv.lt,hm,?_,fun i hi=>hf.kid i (by rw[ht];exact hi),hf.root,fun i=>by have:=hf.bound i;omega⟩
   have he:=hf.eq;rw[ht] at he;exact he
 ·exact absurd rfl h
theorem CR.Xe {T:List Nd} {r:Nat} {d:Nat→Nat} {m:List Nat} (h:CR T r d m) {i:Nat} (hi:i<T.length):(r:Int)∉bD T i:=by
 intro hk;have h1:=h.nodup;rw[h.eq,jf] at h1;exact h1.1 (mS.2 ⟨i,h.mem hi,eJ.2 ⟨_,hk,by simp⟩⟩)
theorem CR.parent {T:List Nd} {r:Nat} {d:Nat→Nat} {m:List Nat} (h:CR T r d m) {k:Nat} (hk:k<T.length) (hr:k≠r) :∃i,i<T.length∧(k:Int)∈bD T i:=by
 have h1:=h.mem hk;rw[h.eq] at h1;rcases ba.1 h1 with h2|h2
 ·exact absurd h2 hr
 ·obtain⟨i,hi,hx⟩:=mS.1 h2
  obtain⟨z,hz,e⟩:=eJ.1 hx;obtain⟨z0,_,_⟩:=h.kid i hi z hz;refine⟨i,h.lt i hi,?_⟩;rw[show(k:Int)=z by omega]
  exact hz
theorem uu {α β:Type} {f:α→List β} :∀{l:List α},(l.flatMap f).Nodup→∀{a b:α} {x:β},a∈l→b∈l→x∈f a→x∈f b→l.Nodup→a=b:=by
 intro l;induction l with
 | nil=>intro _ a b x ha;simp at ha
 | cons c t ih =>
  intro hn a b x ha hb xa xb hl;rw[iC,oK] at hn;have hl':=(jf.1 hl);rcases ba.1 ha with ea|ha'<;>rcases ba.1 hb with eb|hb'
  ·rw[ea,eb]
  ·subst ea
   exact absurd rfl (hn.2.2 x xa x (mS.2 ⟨b,hb',xb⟩))
  ·subst eb
   exact absurd rfl (hn.2.2 x xb x (mS.2 ⟨a,ha',xa⟩))
  ·exact ih hn.2.1 ha' hb' xa xb hl'.2
theorem CR.once {T:List Nd} {r:Nat} {d:Nat→Nat} {m:List Nat} (h:CR T r d m) {i j:Nat} {k:Int} (hi:i<T.length) (hj:j<T.length) (ki:k∈bD T i) (kj:k∈bD T j):i=j:=by
 have h1:=h.nodup;rw[h.eq,jf] at h1;exact uu h1.2 (h.mem hi) (h.mem hj) (eJ.2 ⟨k,ki,rfl⟩) (eJ.2 ⟨k,kj,rfl⟩) h.nodup
theorem ph {α β:Type} {f:α→List β} :∀{l:List α},(l.flatMap f).Nodup→∀{a:α},a∈l→(f a).Nodup:=by
 intro l;induction l with
 | nil=>intro _ a ha;simp at ha
 | cons c t ih =>
  intro hn a ha;rw[iC,oK] at hn;rcases ba.1 ha with rfl|ha
  ·exact hn.1
  ·exact ih hn.2.1 ha
theorem CR.GU {T:List Nd} {r:Nat} {d:Nat→Nat} {m:List Nat} (h:CR T r d m) {i:Nat} (hi:i<T.length):(bD T i).Nodup:=by
 have h1:=h.nodup;rw[h.eq,jf] at h1;have:=ph h1.2 (h.mem hi);rw[List.Nodup,List.pairwise_map] at this;exact List.Pairwise.imp (fun h e=>h (by rw[e])) this
theorem yB {α:Type} (l:List α) (x:α) (h:l≠[]):l.getLastD x∈l:=by
 induction l with
 | nil=>exact absurd rfl h
 | cons a t ih =>
  cases t with
  | nil=>exact bR.2 rfl
  | cons b t=>exact bQ _ (ih (by simp))
end Go.Proofs.YtodmcdfeldkocaaGreatDoor
namespace Go.Proofs.YtodmcdfeldkocaaGreatDoor
def dB (T:List Nd) (i:Nat):Int:=match T[i]? with|some x=>x.kind|none=>0
section
variable (fo:Nd→Bool) (ko:Int→Int→List Int→Bool) (so:Int→Int) (hd:Nd→List UInt8)
def kz (T:List Nd) (x:Nd):Bool:=decide (1≤x.line) && fo x && ko x.kind x.num (x.kids.map fun k=>so (dB T k.toNat))
def pj (T:List Nd) (r:Int):Bool:=decide (eN T r≠0) && decide (eN T r≤100) && decide (dB T r.toNat=18) && T.all (kz fo ko so T)
theorem eh {T:List Nd} {r:Int}:pj fo ko so T r=true↔eN T r≠0∧eN T r≤100∧dB T r.toNat=18∧∀(i:Nat) (x:Nd),T[i]? = some x→kz fo ko so T x=true:=by
 unfold pj;simp only[dk,iD,List.all_eq_true,and_assoc];constructor
 ·rintro⟨h1,h2,h3,h4⟩
  exact⟨h1,h2,h3,fun i x hx=>h4 x (aV hx)⟩
 ·rintro⟨h1,h2,h3,h4⟩
  refine⟨h1,h2,h3,fun x hx=>?_⟩
  obtain⟨i,hi⟩:=jc.1 hx;exact h4 i x hi
theorem lF {T:List Nd} {x:Nd}:kz fo ko so T x=true↔1≤x.line∧fo x=true∧ko x.kind x.num (x.kids.map fun k=>so (dB T k.toNat))=true:=by
 unfold kz;simp only[dk,iD,and_assoc]
theorem fM {T:List Nd} {i:Nat} {x:Nd} (h:T[i]? = some x):bD T i=x.kids:=by unfold bD;rw[h]
theorem lG {T:List Nd} {i:Nat} {x:Nd} (h:T[i]? = some x):dB T i=x.kind:=by unfold dB;rw[h]
theorem GV {T:List Nd} {r:Int} (h:pj fo ko so T r=true) :∃d m,CR T r.toNat d m∧0≤r∧r<(T.length:Int):=by
 obtain⟨h0,_⟩:=(eh fo ko so).1 h;obtain⟨_,Vx,hr1,d,m,hs⟩:=ur h0;exact⟨d,m,hs,Vx,hr1⟩
end
end Go.Proofs.YtodmcdfeldkocaaGreatDoor
namespace Go.Proofs.YtodmcdfeldkocaaGreatDoor
inductive Ast where
 | mk (h:Nd) (kids:List Ast)
def Ast.hd:Ast→Nd
 | .mk h _=>h
mutual
def Ast.depth:Ast→Nat
 | .mk _ ks=>Ast.mV ks+1
def Ast.mV:List Ast→Nat
 | []=>0
 | a::xz=>max (Ast.depth a) (Ast.mV xz)
end
mutual
def Ast.size:Ast→Nat
 | .mk _ ks=>Ast.al ks+1
def Ast.al:List Ast→Nat
 | []=>0
 | a::xz=>Ast.size a+Ast.al xz
end
mutual
def gp (T:List Nd):Ast→Nat→List Nat→Prop
 | .mk h xz,i,js=>∃x rk,T[i]? = some x∧x={ h with kids:=x.kids}∧bj T xz x.kids rk∧js=i::rk
def bj (T:List Nd):List Ast→List Int→List Nat→Prop
 | [],ks,js=>ks=[]∧js=[]
 | a::xz,ks,js=>∃(k:Nat) (gU:List Int) (j1 j2:List Nat),ks=(k:Int)::gU∧gp T a k j1∧bj T xz gU j2∧js=j1++j2
end
def gw (T:List Nd) (i:Nat):List Nat:=(bD T i).map Int.toNat
theorem gp.root {T:List Nd} {a:Ast} {i:Nat} {js:List Nat} (h:gp T a i js):i∈js∧dB T i=a.hd.kind∧i<T.length:=by
 cases a with
 | mk hd xz =>
  unfold gp at h;obtain⟨x,rk,hx,he,_,rfl⟩:=h;refine⟨bH ..,?_,(aJ.1 hx).1⟩;rw[lG hx,he];rfl
mutual
theorem gp.lt {T:List Nd} :∀(a:Ast) (i:Nat) (js:List Nat),gp T a i js→∀j∈js,j<T.length
 | .mk h xz,i,js,hr=>by
  unfold gp at hr;obtain⟨x,rk,hx,_,hs,rfl⟩:=hr;intro j hj;rcases ba.1 hj with rfl|hj
  ·exact(aJ.1 hx).1
  ·exact bj.lt xz x.kids rk hs j hj
theorem bj.lt {T:List Nd} :∀(xz:List Ast) (ks:List Int) (js:List Nat),bj T xz ks js→∀j∈js,j<T.length
 | [],ks,js,hr=>by
  unfold bj at hr;obtain⟨_,rfl⟩:=hr;intro j hj;simp at hj
 | a::xz,ks,js,hr=>by
  unfold bj at hr;obtain⟨k,gU,j1,j2,_,h1,h2,rfl⟩:=hr;intro j hj;rcases cU.1 hj with hj|hj
  ·exact gp.lt a k j1 h1 j hj
  ·exact bj.lt xz gU j2 h2 j hj
end
mutual
/-- A tree lies in a longer list xz it did. -/
theorem gp.more {T T':List Nd} (hT :∀(i:Nat) x,T[i]? = some x→T'[i]? = some x) :∀(a:Ast) (i:Nat) (js:List Nat),gp T a i js→gp T' a i js
 | .mk h xz,i,js,hr=>by
  unfold gp at hr ⊢;obtain⟨x,rk,hx,he,hs,rfl⟩:=hr;exact⟨x,rk,hT i x hx,he,bj.more hT xz x.kids rk hs,rfl⟩
theorem bj.more {T T':List Nd} (hT :∀(i:Nat) x,T[i]? = some x→T'[i]? = some x) :∀(xz:List Ast) (ks:List Int) (js:List Nat),bj T xz ks js→bj T' xz ks js
 | [],ks,js,hr=>by
  unfold bj at hr ⊢;exact hr
 | a::xz,ks,js,hr=>by
  unfold bj at hr ⊢;obtain⟨k,gU,j1,j2,hk,h1,h2,rfl⟩:=hr;exact⟨k,gU,j1,j2,hk,gp.more hT a k j1 h1,bj.more hT xz gU j2 h2,rfl⟩
end
mutual
theorem gp.len {T:List Nd} :∀(a:Ast) (i:Nat) (js:List Nat),gp T a i js→js.length=a.size
 | .mk h xz,i,js,hr=>by
  unfold gp at hr;obtain⟨x,rk,_,_,hs,rfl⟩:=hr;rw[List.length_cons,bj.len xz x.kids rk hs,Ast.size]
theorem bj.len {T:List Nd} :∀(xz:List Ast) (ks:List Int) (js:List Nat),bj T xz ks js→js.length=Ast.al xz
 | [],ks,js,hr=>by
  unfold bj at hr;obtain⟨_,rfl⟩:=hr;rfl
 | a::xz,ks,js,hr=>by
  unfold bj at hr;obtain⟨k,gU,j1,j2,_,h1,h2,rfl⟩:=hr;rw[cb,gp.len a k j1 h1,bj.len xz gU j2 h2,Ast.al]
end
mutual
/-- The root, and what is named: all of them. -/
theorem gp.perm {T:List Nd} :∀(a:Ast) (i:Nat) (js:List Nat),gp T a i js→js.Perm (i::js.flatMap (gw T))
 | .mk h xz,i,js,hr=>by
  unfold gp at hr;obtain⟨x,rk,hx,_,hs,rfl⟩:=hr;refine List.Perm.cons i ?_;have h1:gw T i=x.kids.map Int.toNat:=by unfold gw;rw[fM hx]
  rw[iC,h1];exact bj.perm xz x.kids rk hs
theorem bj.perm {T:List Nd} :∀(xz:List Ast) (ks:List Int) (js:List Nat),bj T xz ks js→js.Perm (ks.map Int.toNat++js.flatMap (gw T))
 | [],ks,js,hr=>by
  unfold bj at hr;obtain⟨rfl,rfl⟩:=hr;exact List.Perm.nil
 | a::xz,ks,js,hr=>by
  unfold bj at hr;obtain⟨k,gU,j1,j2,rfl,h1,h2,rfl⟩:=hr;have p1:=gp.perm a k j1 h1;have p2:=bj.perm xz gU j2 h2;rw[oJ,dS,gS,iE];refine(p1.append p2).trans ?_;rw[iE];refine List.Perm.cons k ?_;rw[←fI,←fI];exact List.Perm.append_right _ KL
end
mutual
/-- aai holds the root and what its members name holds all. -/
theorem gp.closed {T:List Nd} {m:List Nat} (hm :∀i∈m,∀k∈bD T i,k.toNat∈m) :∀(a:Ast) (i:Nat) (js:List Nat),gp T a i js→i∈m→∀j∈js,j∈m
 | .mk h xz,i,js,hr,hi=>by
  unfold gp at hr;obtain⟨x,rk,hx,_,hs,rfl⟩:=hr;intro j hj;rcases ba.1 hj with rfl|hj
  ·exact hi
  ·exact bj.closed hm xz x.kids rk hs (fun k hk=>hm i hi k (by rw[fM hx];exact hk)) j hj
theorem bj.closed {T:List Nd} {m:List Nat} (hm :∀i∈m,∀k∈bD T i,k.toNat∈m) :∀(xz:List Ast) (ks:List Int) (js:List Nat),bj T xz ks js→(∀k∈ks,k.toNat∈m)→∀j∈js,j∈m
 | [],ks,js,hr,_=>by
  unfold bj at hr;obtain⟨_,rfl⟩:=hr;intro j hj;simp at hj
 | a::xz,ks,js,hr,hk=>by
  unfold bj at hr;obtain⟨k,gU,j1,j2,rfl,h1,h2,rfl⟩:=hr;intro j hj;rcases cU.1 hj with hj|hj
  ·exact gp.closed hm a k j1 h1 (by simpa using hk k (bH ..)) j hj
  ·exact bj.closed hm xz gU j2 h2 (fun z hz=>hk z (bQ _ hz)) j hj
end
mutual
/-- How deep the nodes are, by whoever counts from parents to kids. -/
theorem gp.uw {T:List Nd} {d:Nat→Nat} :∀(a:Ast) (i:Nat) (js:List Nat),gp T a i js→(∀j∈js,∀k∈bD T j,d k.toNat=d j+1)→(∀j∈js,d j+1≤d i+a.depth)∧∃j∈js,d j+1=d i+a.depth
 | .mk h xz,i,js,hr,hd=>by
  unfold gp at hr;obtain⟨x,rk,hx,_,hs,rfl⟩:=hr;have h1:=bj.uw (v:=d i) xz x.kids rk hs (fun j hj=>hd j (bQ _ hj)) (fun k hk=>hd i (bH ..) k (by rw[fM hx];exact hk))
  rw[Ast.depth];refine⟨fun j hj=>?_,?_⟩
  ·rcases ba.1 hj with rfl|hj
   ·omega
   ·have:=h1.1 j hj
    omega
  ·by_cases h0:xz=[]
   ·subst h0
    exact⟨i,bH ..,by rw[Ast.mV]⟩
   ·obtain⟨j,hj,he⟩:=h1.2 h0
    exact⟨j,bQ _ hj,by omega⟩
theorem bj.uw {T:List Nd} {d:Nat→Nat} {v:Nat} :∀(xz:List Ast) (ks:List Int) (js:List Nat),bj T xz ks js→(∀j∈js,∀k∈bD T j,d k.toNat=d j+1)→(∀k∈ks,d k.toNat=v+1)→(∀j∈js,d j≤v+Ast.mV xz)∧(xz≠[]→∃j∈js,d j=v+Ast.mV xz)
 | [],ks,js,hr,_,_=>by
  unfold bj at hr;obtain⟨_,rfl⟩:=hr;exact⟨fun j hj=>by simp at hj,fun h=>absurd rfl h⟩
 | a::xz,ks,js,hr,hd,hk=>by
  unfold bj at hr;obtain⟨k,gU,j1,j2,rfl,h1,h2,rfl⟩:=hr;have e1:=gp.uw a k j1 h1 (fun j hj=>hd j (dW _ hj))
  have e2:=bj.uw (v:=v) xz gU j2 h2 (fun j hj=>hd j (gR _ hj)) (fun z hz=>hk z (bQ _ hz))
  have hv:d k=v+1:=by simpa using hk k (bH ..)
  rw[Ast.mV];refine⟨fun j hj=>?_,fun _=>?_⟩
  ·rcases cU.1 hj with hj|hj
   ·have:=e1.1 j hj
    omega
   ·have:=e2.1 j hj
    omega
  ·by_cases hle:Ast.mV xz≤a.depth
   ·obtain⟨j,hj,he⟩:=e1.2
    exact⟨j,dW _ hj,by omega⟩
   ·have h0:xz≠[]:=fun h=>by subst h;exact hle (by rw[Ast.mV];omega)
    obtain⟨j,hj,he⟩:=e2.2 h0;exact⟨j,gR _ hj,by omega⟩
end
theorem Ag {N v:Nat} :∀(ks:List Int) (d:Nat→Nat) (m:List Nat),(∀k∈ks,0≤k∧k<(N:Int)∧d k.toNat=0)→(ks.map Int.toNat).Nodup→∃p,dI N v ks d m=some p:=by
 intro ks;induction ks with
 | nil=>intro d m _ _;exact⟨_,rfl⟩
 | cons k ks ih =>
  intro d m h hn;obtain⟨h0,h1,h2⟩:=h k (bH ..);rw[dS,jf] at hn;rw[dI,aj ⟨h0,h1,h2⟩];refine ih _ _ (fun z hz=>?_) hn.2
  obtain⟨z0,z1,z2⟩:=h z (bQ _ hz);refine⟨z0,z1,?_⟩;have hne:z.toNat≠k.toNat:=fun e=>hn.1 (by rw[←e];exact j3 hz)
  rw[fY _ _ hne];exact z2
theorem GW :∀(N:Nat) (m:List Nat),(∀j,j<N→j∈m)→N≤m.length:=by
 intro N;induction N with
 | zero=>intro m _;exact bg _
 | succ N ih =>
  intro m h;have hN:=h N (dA _);have h1:=ih (m.erase N) (fun j hj=>(List.mem_erase_of_ne (by omega)).2 (h j (by omega)))
  rw[List.length_erase_of_mem hN] at h1;have:=List.length_pos_of_mem hN;omega
structure GX (a:Nat) (d:Nat→Nat) (m:List Nat):Prop where
 le:m.Pairwise fun x y=>d x≤d y
 top :∀i,m[a]? = some i→∀x∈m,d x≤d i+1
theorem GX.step {T:List Nd} {r a i:Nat} {d d':Nat→Nat} {m m':List Nat} (hh:Half T r a d m) (h:GX a d m) (hi:m[a]? = some i) (e:dI T.length (d i+1) (bD T i) d m=some (d',m')):GX (a+1) d' m':=by
 obtain⟨_,i2,i3,i4,_⟩:=pg (by omega) _ _ _ _ _ hh.inv e
 have ru :∀j∈m,d' j=d j:=fun j hj=>i3 j ((hh.inv.iff j).2 hj)
 have him:i∈m:=aV hi;have GY :∀y∈(bD T i).map Int.toNat,d' y=d i+1:=fun y hy=>by
  obtain⟨k,hk,rfl⟩:=eJ.1 hy;exact(i4 k hk).2.2
 have hp:m'.Pairwise fun x y=>d' x≤d' y:=by
  rw[i2,List.pairwise_append];refine⟨?_,?_,fun x hx y hy=>?_⟩
  ·refine KH (fun hx hy hxy=>?_) h.le
   rw[ru _ hx,ru _ hy];exact hxy
  ·exact KH (R:=fun _ _=>True) (fun hx hy _=>by rw[GY _ hx,GY _ hy];exact ag _) (List.pairwise_of_forall (fun _ _=>trivial))
  ·rw[ru x hx,GY y hy]
   exact h.top i hi x hx
 refine⟨hp,fun i' hi' x hx=>?_⟩
 have hia:m'[a]? = some i:=by rw[i2,kL (aJ.1 hi).1];exact hi
 have h1:d' i≤d' i':=by
  obtain⟨la,ea⟩:=aJ.1 hia;obtain⟨lb,eb⟩:=aJ.1 hi';have:=List.pairwise_iff_getElem.1 hp a (a+1) la lb (dA _);rw[ea,eb] at this;exact this
 rw[ru i him] at h1;rw[i2] at hx;rcases cU.1 hx with hx|hx
 ·have:=h.top i hi x hx
  rw[ru x hx];omega
 ·rw[GY x hx]
  omega
theorem Ro {T:List Nd} {r:Nat} {js:List Nat} (dJ:(r::js.flatMap (gw T)).Nodup) (hjs:js.Nodup) (Ah :∀i∈js,∀k∈bD T i,0≤k∧k<(T.length:Int)∧k.toNat∈js) :
  ∀(f a:Nat) (d:Nat→Nat) (m:List Nat),Half T r a d m→GX a d m→(∀j∈m,j∈js)→T.length+1≤f+a→∃d' m',yA T f a d m=some (d',m')∧Half T r m'.length d' m'∧GX m'.length d' m'∧∀j∈m',j∈js:=by
 intro f;induction f with
 | zero =>
  intro a d m h _ _ hf;have:=h.inv.len;have:=h.le;omega
 | succ f ih =>
  intro a d m h hm p9 hf;cases hi:m[a]? with
  | none =>
   have h1:m.length≤a:=List.getElem?_eq_none_iff.1 hi;have h2:=h.le;obtain rfl:a=m.length:=by omega
   exact⟨d,m,by rw[yA,hi],h,hm,p9⟩
  | some i =>
   have him:=aV hi;have wj:=p9 i him;have hal:=(aJ.1 hi).1;have Vy :∀k∈bD T i,k.toNat∈gw T i:=fun k hk=>j3 hk
   have hz :∀k∈bD T i,0≤k∧k<(T.length:Int)∧d k.toNat=0:=fun k hk=>by
    obtain⟨k0,k1,_⟩:=Ah i wj k hk;refine⟨k0,k1,Classical.byContradiction fun hne=>?_⟩
    have oA:=(h.inv.iff _).1 hne;rw[h.eq] at oA;rcases ba.1 oA with e|oA
    ·rw[jf] at dJ
     exact dJ.1 (mS.2 ⟨i,wj,e▸Vy k hk⟩)
    ·obtain⟨i',hi',ry⟩:=mS.1 oA
     rw[jf] at dJ;have he:i=i':=uu dJ.2 wj (p9 i' (KM hi')) (Vy k hk) ry hjs;subst he;have hn:=h.inv.nodup;rw[←EK a m,oK] at hn;refine hn.2.2 i hi' i ?_ rfl;rw[jc];exact⟨0,by rw[wW];exact hi⟩
   have zM:((bD T i).map Int.toNat).Nodup:=ph (jf.1 dJ).2 wj;obtain⟨⟨d',m'⟩,hp⟩:=Ag (v:=d i+1) (bD T i) d m hz zM;obtain⟨d2,m2,h1,h2⟩:=ih (a+1) d' m' (h.step hi hp) (hm.step h hi hp) (fun j hj=>by
    have:=(pg (by omega) _ _ _ _ _ h.inv hp).2.1
    rw[this] at hj;rcases cU.1 hj with hj|hj
    ·exact p9 j hj
    ·obtain⟨k,hk,rfl⟩:=eJ.1 hj
     exact(Ah i wj k hk).2.2) (by omega)
   refine⟨d2,m2,?_,h2⟩;simp only[yA,hi,hp];exact h1
end Go.Proofs.YtodmcdfeldkocaaGreatDoor
namespace Go.Proofs.YtodmcdfeldkocaaGreatDoor
mutual
theorem gp.kids {T:List Nd} :∀(a:Ast) (i:Nat) (js:List Nat),gp T a i js→∀j∈js,∀k∈bD T j,0≤k∧k.toNat∈js
 | .mk h xz,i,js,hr=>by
  unfold gp at hr;obtain⟨x,rk,hx,_,hs,rfl⟩:=hr;have h1:=bj.kids xz x.kids rk hs;intro j hj k hk;rcases ba.1 hj with rfl|hj
  ·rw[fM hx] at hk
   have:=h1.1 k hk;exact⟨this.1,bQ _ this.2⟩
  ·have:=h1.2 j hj k hk
   exact⟨this.1,bQ _ this.2⟩
theorem bj.kids {T:List Nd} :∀(xz:List Ast) (ks:List Int) (js:List Nat),bj T xz ks js→(∀k∈ks,0≤k∧k.toNat∈js)∧∀j∈js,∀k∈bD T j,0≤k∧k.toNat∈js
 | [],ks,js,hr=>by
  unfold bj at hr;obtain⟨rfl,rfl⟩:=hr;exact⟨fun k hk=>by simp at hk,fun j hj=>by simp at hj⟩
 | a::xz,ks,js,hr=>by
  unfold bj at hr;obtain⟨k,gU,j1,j2,rfl,h1,h2,rfl⟩:=hr;have e1:=gp.kids a k j1 h1;have e2:=bj.kids xz gU j2 h2;refine⟨fun z hz=>?_,fun j hj z hz=>?_⟩
  ·rcases ba.1 hz with rfl|hz
   ·exact⟨by omega,dW _ (by rw[gS];exact h1.root.1)⟩
   ·have:=e2.1 z hz
    exact⟨this.1,gR _ this.2⟩
  ·rcases cU.1 hj with hj|hj
   ·have:=e1 j hj z hz
    exact⟨this.1,dW _ this.2⟩
   ·have:=e2.2 j hj z hz
    exact⟨this.1,gR _ this.2⟩
end
theorem GZ {d:Nat→Nat} {m:List Nat} (h:m.Pairwise fun x y=>d x≤d y) {x:Nat} (hx:x∈m):d x≤d (m.getLastD 0):=by
 obtain⟨i,hi,rfl⟩:=List.getElem_of_mem hx;have hne:m≠[]:=fun e=>by subst e;exact absurd hi (iF _)
 have hl:m.getLastD 0=m[m.length-1]'(by omega):=by
  rw[List.getLastD_eq_getLast?,List.getLast?_eq_getElem?,bt (by omega)]
  rfl
 rw[hl];by_cases e:i=m.length-1
 ·subst e;exact ag _
 ·exact List.pairwise_iff_getElem.1 h i (m.length-1) hi (by omega) (by omega)
theorem Ai {T:List Nd} {r:Nat} {a:Ast} {js:List Nat} (h:gp T a r js) (hn:js.Nodup) (hl:js.length=T.length) (hN:T.length≤16384):eN T (r:Int)=a.depth:=by
 obtain⟨hrj,_,hrl⟩:=h.root;have hlt:=gp.lt a r js h;have Ah :∀i∈js,∀k∈bD T i,0≤k∧k<(T.length:Int)∧k.toNat∈js:=fun i hi k hk=>by
  obtain⟨k0,k1⟩:=gp.kids a r js h i hi k hk;have:=hlt _ k1;exact⟨k0,by omega,k1⟩
 have dJ:=(gp.perm a r js h).nodup_iff.1 hn;have hm0:GX 0 (upd (fun _=>0) r 1) [r]:=⟨by simp,fun i hi x hx=>by
  obtain rfl:r=i:=by simpa using hi
  obtain rfl:=bR.1 hx;omega⟩
 obtain⟨d,m,hb,hh,hm,p9⟩:=Ro dJ hn Ah (T.length+1) 0 _ [r] (Half.start hrl) hm0 (fun j hj=>by
  obtain rfl:=bR.1 hj;exact hrj) (by omega)
 have Xd:m.take m.length=m:=Aa;have heq:=hh.eq;have hk:=hh.kid;rw[Xd] at heq hk;have hrm:r∈m:=by rw[heq];exact bH ..
 have C7 :∀i∈m,∀k∈bD T i,k.toNat∈m:=fun i hi k hk=>by
  rw[heq];exact bQ _ (mS.2 ⟨i,hi,j3 hk⟩)
 have hall:=gp.closed C7 a r js h hrm;have hlen:m.length=T.length:=by
  have h1:=hh.inv.len;have h2:=GW T.length m (fun j hj=>hall j (rr hn hlt hl hj))
  omega
 have e:eN T (r:Int)=d (m.getLastD 0):=by
  unfold eN;rw[aj ⟨hN,by omega,by omega⟩,gS,hb]
  exact ae (by show ¬ m.length<T.length;omega)
 obtain⟨h1,j,hj,he⟩:=gp.uw (d:=d) a r js h (fun j hj k rz=>(hk j (hall j hj) k rz).2.2)
 have adU:=hh.root;have hne:m≠[]:=fun e=>by rw[e] at hrm;simp at hrm
 have h2:=h1 _ (p9 _ (yB m 0 hne));have h3:=GZ hm.le (hall j hj);rw[e];omega
section
variable (fo:Nd→Bool) (ko:Int→Int→List Int→Bool) (so:Int→Int) (hd:Nd→List UInt8)
mutual
def Ast.ok:Ast→Bool
 | .mk h ks=>decide (1≤h.line) && fo h && ko h.kind h.num (ks.map fun k=>so k.hd.kind) && Ast.okL ks
def Ast.okL:List Ast→Bool
 | []=>true
 | a::xz=>Ast.ok a && Ast.okL xz
end
variable {fo ko so hd}
theorem bj.aaj {T:List Nd} :∀(xz:List Ast) (ks:List Int) (js:List Nat),bj T xz ks js→(ks.map fun k=>so (dB T k.toNat))=xz.map fun k=>so k.hd.kind:=by
 intro xz;induction xz with
 | nil =>
  intro ks js hr;unfold bj at hr;obtain⟨rfl,_⟩:=hr;rfl
 | cons a xz ih =>
  intro ks js hr;unfold bj at hr;obtain⟨k,gU,j1,j2,rfl,h1,h2,rfl⟩:=hr;rw[dS,dS,ih gU j2 h2,gS,h1.root.2.1]
mutual
theorem gp.all {T:List Nd} (wk :∀x ks,fo { x with kids:=ks}=fo x) :∀(a:Ast) (i:Nat) (js:List Nat),gp T a i js→(Ast.ok fo ko so a=true↔∀j∈js,∀x,T[j]? = some x→kz fo ko so T x=true)
 | .mk h xz,i,js,hr=>by
  unfold gp at hr;obtain⟨x,rk,hx,he,hs,rfl⟩:=hr;have h1:=bj.all wk xz x.kids rk hs;have h2:kz fo ko so T x=(decide (1≤h.line) && fo h && ko h.kind h.num (xz.map fun k=>so k.hd.kind)):=by
   unfold kz;rw[bj.aaj (so:=so) xz x.kids rk hs];have e1:x.line=h.line:=by rw[he]
   have e2:fo x=fo h:=by rw[he,wk]
   have e3:x.kind=h.kind:=by rw[he]
   have e4:x.num=h.num:=by rw[he]
   rw[e1,e2,e3,e4]
  rw[Ast.ok,dk,←h2,h1];constructor
  ·rintro⟨a1,a2⟩ j hj y hy
   rcases ba.1 hj with rfl|hj
   ·obtain rfl:=gu (hx.symm.trans hy)
    exact a1
   ·exact a2 j hj y hy
  ·intro hall
   exact⟨hall i (bH ..) x hx,fun j hj y hy=>hall j (bQ _ hj) y hy⟩
theorem bj.all {T:List Nd} (wk :∀x ks,fo { x with kids:=ks}=fo x) :∀(xz:List Ast) (ks:List Int) (js:List Nat),bj T xz ks js→(Ast.okL fo ko so xz=true↔∀j∈js,∀x,T[j]? = some x→kz fo ko so T x=true)
 | [],ks,js,hr=>by
  unfold bj at hr;obtain⟨_,rfl⟩:=hr;rw[Ast.okL];exact⟨fun _ j hj=>by simp at hj,fun _=>rfl⟩
 | a::xz,ks,js,hr=>by
  unfold bj at hr;obtain⟨k,gU,j1,j2,_,h1,h2,rfl⟩:=hr;rw[Ast.okL,dk,gp.all wk a k j1 h1,bj.all wk xz gU j2 h2];constructor
  ·rintro⟨a1,a2⟩ j hj y hy
   rcases cU.1 hj with hj|hj
   ·exact a1 j hj y hy
   ·exact a2 j hj y hy
  ·intro hall
   exact⟨fun j hj=>hall j (dW _ hj),fun j hj=>hall j (gR _ hj)⟩
end
theorem G8 {T:List Nd} {r:Nat} {a:Ast} {js:List Nat} (wk :∀x ks,fo { x with kids:=ks}=fo x) (h:gp T a r js) (hn:js.Nodup) (hl:js.length=T.length) (hN:T.length≤16384) :
  pj fo ko so T (r:Int)=(decide (a.depth≤100) && decide (a.hd.kind=18) && Ast.ok fo ko so a):=by
 have hd:=Ai h hn hl hN;obtain⟨_,hk,_⟩:=h.root;have hlt:=gp.lt a r js h;have h0:a.depth≠0:=by cases a with|mk h ks=>rw[Ast.depth];omega
 have hall:T.all (kz fo ko so T)=Ast.ok fo ko so a:=by
  rw[mT,List.all_eq_true,gp.all wk a r js h];constructor
  ·intro h1 j _ x hx
   exact h1 x (aV hx)
  ·intro h1 x hx
   obtain⟨j,hj,rfl⟩:=List.getElem_of_mem hx;exact h1 j (rr hn hlt hl hj) _ (bt hj)
 unfold pj;rw[hd,gS,hk,hall,bN h0,kP]
end
end Go.Proofs.YtodmcdfeldkocaaGreatDoor
namespace Go.Proofs.YtodmcdfeldkocaaGreatDoor
inductive Lt where
 | mk (i:Nat) (h:Nd) (kids:List Lt)
def Lt.loc:Lt→Nat
 | .mk i _ _=>i
def Lt.hd:Lt→Nd
 | .mk _ h _=>h
def Lt.sub:Lt→List Lt
 | .mk _ _ ks=>ks
mutual
/-- It lies so in a list of nodes. -/
def Lt.In (T:List Nd):Lt→Prop
 | .mk i h ks=>T[i]? = some h∧h.kids=ks.map (fun k=>(k.loc:Int))∧Lt.mW T ks
def Lt.mW (T:List Nd):List Lt→Prop
 | []=>True
 | k::ks=>Lt.In T k∧Lt.mW T ks
end
structure wm where
 name:ByteArray
 node:Nat
 cap:Bool
structure tH where
 loc:Bool
 idx:Nat
deriving DecidableEq
structure dm where
 node:Nat
 parent:Int
 params:Nat
 many:Bool
 vars:List wm
 ch:List tH
structure jr where
 s:ByteArray
 fn:Nat
 i:Nat
structure fC where
 fn:Nat
 node:Nat
 at_:Nat
 loop:Bool
 rep:Bool
 kids:List Lt
structure aI where
 fns:List dm
 uses:Nat→Int×Int
 of:Nat→Int
 names:List jr
 frames:List fC
abbrev Rs (α:Type):=Except (Int×Int) α
def aI.setOf (st:aI) (i fn:Nat):aI:={ st with of:=fun j=>if j=i then (fn:Int) else st.of j}
def aI.dw (st:aI) (i:Nat) (u:Int×Int):aI:={ st with uses:=fun j=>if j=i then u else st.uses j}
def aI.fn (st:aI) (f:Nat):dm:=st.fns.getD f ⟨0,0,0,false,[],[]⟩
def aI.oQ (st:aI) (f:Nat) (x:dm):aI:={ st with fns:=st.fns.set f x}
def dO (node f:Nat) (line:Int):List ByteArray→aI→Rs aI
 | [],st=>.ok st
 | s::l,st =>
  if 200≤(st.fn f).vars.length then .error (11,line)
  else dO node f line l { st.oQ f { st.fn f with vars:=(st.fn f).vars++[⟨s,node,false⟩]} with names:=⟨s,f,(st.fn f).vars.length⟩::st.names}
def bz (node f:Nat) (line:Int) (l:List ByteArray) (st:aI):Rs aI:=dO node f line l (st.dw node (2,((st.fn f).vars.length:Int)))
def gy (F:List dm) (f:Nat) (u:tH):Option (List dm×Nat) :=
 let x:=F.getD f ⟨0,0,0,false,[],[]⟩
 match x.ch.findIdx? (fun y=>decide (y=u)) with
 | some i=>some (F,i)
 | none=>if 60≤x.ch.length then none else some (F.set f { x with ch:=x.ch++[u]},x.ch.length)
def lH (x:jr):Nat→List dm→Nat→Option (List dm×Nat)
 | 0,_,_=>none
 | g+1,F,f =>
  let p:=(F.getD f ⟨0,0,0,false,[],[]⟩).parent
  if p=(x.fn:Int) then gy F f ⟨true,x.i⟩
  else match lH x g F p.toNat with
   | none=>none
   | some (F',k)=>gy F' f ⟨false,k⟩
def cY (x:dm) (i:Nat):dm:={ x with vars:=match x.vars[i]? with|some v=>x.vars.set i { v with cap:=true}|none=>x.vars}
def lI (node f:Nat) (s:ByteArray) (line:Int) (st:aI):Rs aI :=
 match st.names.find? (fun n=>decide (n.s=s)) with
 | none=>.ok (st.dw node (1,0))
 | some n =>
  if n.fn=f then .ok (st.dw node (2,(n.i:Int)))
  else match lH n st.fns.length (st.fns.set n.fn (cY (st.fn n.fn) n.i)) f with
   | none=>.error (12,line)
   | some (F,k)=>.ok ({ st with fns:=F}.dw node (3,(k:Int)))
def mq (s:ByteArray) (k:Lt):Bool:=decide (k.hd.kind=32) && decide (k.hd.s=s)
def cj (ks:List Lt) (s:ByteArray):Option Nat:=ks.findIdx? (mq s)
def cJ (frames:List fC) (f:Nat) (all:List Lt):Nat→List Lt→Option Int
 | _,[]=>none
 | n,k::ks =>
  if k.hd.kind=32∧((∃j,cj all k.hd.s=some j∧j<n)∨∃x∈frames,x.loop=false∧x.fn=f∧(cj x.kids k.hd.s).isSome) then some k.hd.line
  else cJ frames f all (n+1) ks
def gV (i f:Nat) (rep:Bool) (ks:List Lt) (st:aI):Rs aI :=
 match cJ st.frames f ks 0 ks with
 | some l=>.error (9,l)
 | none=>.ok { st with frames:=⟨f,i,0,false,rep,ks⟩::st.frames}
def aI.at (st:aI) (n:Nat):aI:={ st with frames:=match st.frames with | []=>[]|x::l=>{ x with at_:=n}::l}
def dX (node f:Nat) (line:Int) (st:aI):Rs aI :=
 match st.frames.find? (fun x=>x.loop && decide (x.fn=f)) with
 | none=>.error (8,line)
 | some x=>.ok (st.dw node (4,(x.node:Int)))
def isDecl (k:Lt):Bool:=decide (k.hd.kind=19) || decide (k.hd.kind=28)
def lJ (ks:List Lt) (a j:Nat) (rep:Bool):Bool :=
 ((ks.take j).drop (a+1)).any isDecl && !(!rep && (ks.drop (j+1)).all fun k=>decide (k.hd.kind=32))
def dp (node f:Nat) (s:ByteArray) (line:Int) (st:aI):List fC→Rs aI
 | []=>.error (8,line)
 | x::l =>
  if x.loop=true∨x.fn≠f then dp node f s line st l
  else match cj x.kids s with
   | none=>dp node f s line st l
   | some j=>if lJ x.kids x.at_ j x.rep then .error (10,line) else .ok (st.dw node (4,((x.kids.getD j (.mk 0 ⟨0,0,0,0,⟨#[]⟩,[],[]⟩ [])).loc:Int)))
def du (i f:Nat) (st:aI):aI:={ st with frames:=⟨f,i,0,true,false,[]⟩::st.frames}
def aI.back (st jU:aI):aI:={ st with names:=jU.names,frames:=jU.frames}
def jB (i f:Nat) (h:Nd) (st:aI):aI:={ st with fns:=st.fns++[⟨i,(f:Int),h.names.length,decide (h.num=1),[],[]⟩]}
mutual
def bh:Lt→Nat→aI→Rs aI
 | .mk i h ks,f,jU =>
  let st:=jU.setOf i f
  if h.kind=6 then (if (st.fn f).many then .ok st else .error (14,h.line))
  else if h.kind=7 then lI i f h.s h.line st
  else if h.kind=11 then
   (bz i st.fns.length h.line h.names (jB i f h st)).bind fun st1=>(aG ks st.fns.length st1).map fun st2=>st2.back st
  else if h.kind=18 then (gV i f false ks st).bind fun st1=>(cW ks 0 f st1).map fun st2=>st2.back st
  else if h.kind=19 then (aG ks f st).bind fun st1=>bz i f h.line h.names st1
  else if h.kind=23 then (aG ks f (du i f st)).map fun st1=>st1.back st
  else if h.kind=24 then (kA ks f (du i f st)).map fun st1=>st1.back st
  else if h.kind=26∨h.kind=27 then iH i h.line h.names ks f st
  else if h.kind=28 then (bz i f h.line h.names st).bind fun st1=>aG ks f st1
  else if h.kind=30 then dX i f h.line st
  else if h.kind=31 then dp i f h.s h.line st st.frames
  else aG ks f st
def aG:List Lt→Nat→aI→Rs aI
 | [],_,st=>.ok st
 | k::ks,f,st=>(bh k f st).bind fun st1=>aG ks f st1
/-- Statements of a block, from the one at n on. -/
def cW:List Lt→Nat→Nat→aI→Rs aI
 | [],_,_,st=>.ok st
 | k::ks,n,f,st=>(bh k f (st.at n)).bind fun st1=>cW ks (n+1) f st1
/-- A block with a test that stands in it. -/
def kA:List Lt→Nat→aI→Rs aI
 | [.mk i _ ks,t],f,st=>(gV i f true ks (st.setOf i f)).bind fun st1=>(cW ks 0 f st1).bind fun st2=>bh t f st2
 | _,_,st=>.ok st
/-- acb, then names are declared, then a block. -/
def iH (i:Nat) (line:Int) (names:List ByteArray):List Lt→Nat→aI→Rs aI
 | [],_,st=>.ok st
 | [b],f,st=>(bz i f line names (du i f st)).bind fun st1=>(bh b f st1).map fun st2=>st2.back st
 | a::b::l,f,st=>(bh a f st).bind fun st1=>iH i line names (b::l) f st1
end
def iT (root:Nat):aI:=⟨[⟨root,-1,0,true,[],[]⟩],fun _=>(0,0),fun _=>0,[],[]⟩
def oB (t:Lt):Rs aI:=bh t 0 (iT t.loc)
structure qa (x x':dm):Prop where
 node:x'.node=x.node
 parent:x'.parent=x.parent
 params:x'.params=x.params
 many:x'.many=x.many
 vars :∀(j:Nat) v,x.vars[j]? = some v→∃v':wm,x'.vars[j]? = some v'∧v'.name=v.name∧v'.node=v.node∧(v.cap=true→v'.cap=true)
 ch :∀(j:Nat) u,x.ch[j]? = some u→x'.ch[j]? = some u
theorem qa.refl (x:dm):qa x x:=⟨rfl,rfl,rfl,rfl,fun _ v h=>⟨v,h,rfl,rfl,id⟩,fun _ _ h=>h⟩
theorem qa.trans {x y z:dm} (h:qa x y) (k:qa y z):qa x z :=
 ⟨k.node.trans h.node,k.parent.trans h.parent,k.params.trans h.params,k.many.trans h.many,fun j v hv=>by
  obtain⟨v1,h1,h2,h3,h4⟩:=h.vars j v hv;obtain⟨v2,k1,k2,k3,k4⟩:=k.vars j v1 h1;exact⟨v2,k1,k2.trans h2,k3.trans h3,fun c=>k4 (h4 c)⟩,fun j u hu=>k.ch j u (h.ch j u hu)⟩
theorem qa.len {x y:dm} (h:qa x y):x.vars.length≤y.vars.length:=by
 rcases mQ x.vars.length with h0|h0
 ·omega
 ·obtain⟨v',h1,_⟩:=h.vars (x.vars.length-1) _ (bt (by omega))
  have:=(aJ.1 h1).1;omega
def ux (F F':List dm):Prop:=F.length≤F'.length∧∀(f:Nat) x,F[f]? = some x→∃x',F'[f]? = some x'∧qa x x'
theorem ux.refl (F:List dm):ux F F:=⟨ag _,fun _ x h=>⟨x,h,.refl x⟩⟩
theorem ux.trans {A B C:List dm} (h:ux A B) (k:ux B C):ux A C :=
 ⟨aL h.1 k.1,fun f x hx=>by
  obtain⟨y,hy,e⟩:=h.2 f x hx;obtain⟨z,hz,e'⟩:=k.2 f y hy;exact⟨z,hz,e.trans e'⟩⟩
theorem ux.set {F:List dm} {f:Nat} {x x':dm} (h:F[f]? = some x) (e:qa x x'):ux F (F.set f x') :=
 ⟨by simp,fun g y hy=>by
  by_cases hg:g=f
  ·subst hg
   rw[h] at hy;injection hy with hy;subst hy;exact⟨x',by rw[dV (aJ.1 h).1],e⟩
  ·exact⟨y,by rw[fH (fun e=>hg e.symm)];exact hy,.refl y⟩⟩
theorem ux.app (F:List dm) (x:dm):ux F (F++[x]) :=
 ⟨by simp,fun f y hy=>⟨y,by rw[kL (aJ.1 hy).1];exact hy,.refl y⟩⟩
structure Ffn (F:List dm) (i:Nat) (x:dm):Prop where
 par:(i=0∧x.parent = -1)∨∃p:Nat,x.parent=(p:Int)∧p<i
 par0:x.params≤x.vars.length
structure CS (F:List dm):Prop where
 pos:0<F.length
 each :∀(i:Nat) x,F[i]? = some x→Ffn F i x
inductive Lb (F:List dm):Nat→Nat→Prop
 | same {f:Nat}:Lb F f f
 | up {a f p:Nat} {x:dm}:F[f]? = some x→x.parent=(p:Int)→Lb F a p→Lb F a f
theorem Lb.ext {F F':List dm} (h:ux F F') {a f:Nat} (k:Lb F a f):Lb F' a f:=by
 induction k with
 | same=>exact .same
 | up h1 h2 _ ih =>
  obtain⟨x',h3,e⟩:=h.2 _ _ h1;exact .up h3 (e.parent.trans h2) ih
inductive sM (F:List dm) (s:ByteArray):Nat→Nat→Prop
 | here {f k j p:Nat} {x y:dm} {v:wm}:F[f]? = some x→x.ch[k]? = some ⟨true,j⟩→x.parent=(p:Int)→F[p]? = some y→y.vars[j]? = some v→v.name=s→v.cap=true→sM F s f k
 | up {f k j p:Nat} {x:dm}:F[f]? = some x→x.ch[k]? = some ⟨false,j⟩→x.parent=(p:Int)→sM F s p j→sM F s f k
theorem sM.ext {F F':List dm} (h:ux F F') {s:ByteArray} {f k:Nat} (l:sM F s f k):sM F' s f k:=by
 induction l with
 | here h1 h2 h3 h4 h5 h6 h7 =>
  obtain⟨x',e1,l1⟩:=h.2 _ _ h1;obtain⟨y',e2,l2⟩:=h.2 _ _ h4;obtain⟨v',e3,e4,_,e5⟩:=l2.vars _ _ h5;exact .here e1 (l1.ch _ _ h2) (l1.parent.trans h3) e2 e3 (e4.trans h6) (e5 h7)
 | up h1 h2 h3 _ ih =>
  obtain⟨x',e1,l1⟩:=h.2 _ _ h1;exact .up e1 (l1.ch _ _ h2) (l1.parent.trans h3) ih
theorem gz {F:List dm} {f:Nat} {x d:dm} (h:F[f]? = some x):F.getD f d=x:=by rw[jZ,h];rfl
theorem CS.set {F:List dm} (h:CS F) {f:Nat} {x x':dm} (hx:F[f]? = some x) (e:qa x x'):CS (F.set f x') :=
 ⟨by rw[mo];exact h.pos,fun i y hy=>by
  by_cases hi:i=f
  ·subst hi
   rw[dV (aJ.1 hx).1] at hy;injection hy with hy;subst hy;obtain⟨p,q⟩:=h.each _ _ hx;exact⟨by rw[e.parent];exact p,by rw[e.params];exact aL q e.len⟩
  ·rw[fH (fun e=>hi e.symm)] at hy
   obtain⟨p,q⟩:=h.each _ _ hy;exact⟨p,q⟩⟩
theorem Aj {F F':List dm} {f k:Nat} {u:tH} (h:gy F f u=some (F',k)) {x:dm} (hx:F[f]? = some x) (hF:CS F) :
  ux F F'∧CS F'∧F'.length=F.length∧∃x',F'[f]? = some x'∧x'.ch[k]? = some u∧x'.parent=x.parent:=by
 unfold gy at h;simp only[gz hx] at h;split at h
 ·rename_i i hi
  injection h with h;injection h with h1 h2;subst h1 h2;obtain⟨hlt,he,_⟩:=zU.1 hi;refine⟨.refl F,hF,rfl,x,hx,?_,rfl⟩;rw[bt hlt];exact az some (gT he)
 ·split at h
  ·cases h
  ·injection h with h
   injection h with h1 h2;subst h1 h2;have e:qa x { x with ch:=x.ch++[u]}:=⟨rfl,rfl,rfl,rfl,fun _ v hv=>⟨v,hv,rfl,rfl,id⟩,fun _ w hw=>by
    rw[kL (aJ.1 hw).1];exact hw⟩
   exact⟨.set hx e,hF.set hx e,by simp,{ x with ch:=x.ch++[u]},by rw[dV (aJ.1 hx).1],by simp,rfl⟩
theorem CS.par {F:List dm} (hF:CS F) {f:Nat} {x:dm} (hx:F[f]? = some x) (h0:f≠0) :∃p:Nat,x.parent=(p:Int)∧p<f∧∃y,F[p]? = some y:=by
 rcases(hF.each _ _ hx).par with ⟨h,_⟩ | ⟨p,h1,h2⟩
 ·exact absurd h h0
 ·have:=(aJ.1 hx).1
  exact⟨p,h1,h2,F[p],bt (by omega)⟩
theorem E7 {n:jr} :∀(g:Nat) {F F':List dm} {f k:Nat},lH n g F f=some (F',k)→CS F→Lb F n.fn f→n.fn≠f→f<F.length→(∃y v,F[n.fn]? = some y∧y.vars[n.i]? = some v∧v.name=n.s∧v.cap=true) →
  ux F F'∧CS F'∧F'.length=F.length∧sM F' n.s f k:=by
 intro g;induction g with
 | zero=>intro F F' f k h;cases h
 | succ g ih =>
  intro F F' f k h hF ha hne hf hv;obtain⟨x,hx⟩ :∃x,F[f]? = some x:=⟨_,bt hf⟩;rw[lH] at h;simp only[gz hx] at h;cases ha with
  | same=>exact absurd rfl hne
  | @up _ p x' ry hp ha =>
   rw[hx] at ry;injection ry with ry;subst ry;have h0:f≠0:=fun e=>by
    rcases(hF.each _ _ hx).par with ⟨_,h1⟩ | ⟨q,_,h2⟩
    ·omega
    ·omega
   obtain⟨q,hq,hlt,y,hy⟩:=hF.par hx h0;have hqp:q=p:=by omega
   subst hqp;rw[hq] at h;by_cases he:q=n.fn
   ·subst he
    rw[aj rfl] at h;obtain⟨e1,e2,e3,x',ry,hu,Xf⟩:=Aj h hx hF;obtain⟨y',v,hy',hv1,hv2,hv3⟩:=hv;obtain⟨y2,hy2,l2⟩:=e1.2 _ _ hy';obtain⟨v2,hv4,hv5,_,hv6⟩:=l2.vars _ _ hv1;exact⟨e1,e2,e3,.here ry hu (Xf.trans hq) hy2 hv4 (hv5.trans hv2) (hv6 hv3)⟩
   ·rw[ae (by omega)] at h
    simp only[gS] at h;split at h
    ·cases h
    ·rename_i F1 k1 h1
     obtain⟨e1,e2,e3,l⟩:=ih h1 hF ha (fun e=>he e.symm) (by omega) hv
     obtain⟨x1,hx1,l1⟩:=e1.2 _ _ hx;obtain⟨g1,g2,g3,x2,hx2,hu,Xf⟩:=Aj h hx1 e2;exact⟨e1.trans g1,g2,g3.trans e3,.up hx2 hu (Xf.trans (l1.parent.trans hq)) (l.ext g1)⟩
mutual
def Lt.dr:Lt→List Nat
 | .mk i _ ks=>i::Lt.aR ks
def Lt.aR:List Lt→List Nat
 | []=>[]
 | k::ks=>Lt.dr k++Lt.aR ks
end
mutual
def Lt.All (Q:Nat→Nd→Prop):Lt→Prop
 | .mk i h ks=>Q i h∧Lt.ed Q ks
def Lt.ed (Q:Nat→Nd→Prop):List Lt→Prop
 | []=>True
 | k::ks=>Lt.All Q k∧Lt.ed Q ks
end
mutual
theorem Lt.All.imp {Q Q':Nat→Nd→Prop} :∀(t:Lt),(∀i∈t.dr,∀h,Q i h→Q' i h)→Lt.All Q t→Lt.All Q' t
 | .mk i h ks,hi,ha=>by
  unfold Lt.All at ha ⊢;exact⟨hi i (by rw[Lt.dr];exact bH ..) h ha.1,Lt.ed.imp ks (fun j hj=>hi j (by rw[Lt.dr];exact bQ _ hj)) ha.2⟩
theorem Lt.ed.imp {Q Q':Nat→Nd→Prop} :∀(ks:List Lt),(∀i∈Lt.aR ks,∀h,Q i h→Q' i h)→Lt.ed Q ks→Lt.ed Q' ks
 | [],_,_=>by unfold Lt.ed;trivial
 | k::ks,hi,ha=>by
  unfold Lt.ed at ha ⊢;exact⟨Lt.All.imp k (fun j hj=>hi j (by rw[Lt.aR];exact dW _ hj)) ha.1,Lt.ed.imp ks (fun j hj=>hi j (by rw[Lt.aR];exact gR _ hj)) ha.2⟩
end
def Kok (h:Nd) (ks:List Lt):Prop:=((h.kind=6∨h.kind=7∨h.kind=30∨h.kind=31)→ks=[])∧(h.kind=24→∃b t,ks=[b,t]∧b.hd.kind=18)
mutual
def Lt.Wf:Lt→Prop
 | .mk _ h ks=>Kok h ks∧Lt.yC ks
def Lt.yC:List Lt→Prop
 | []=>True
 | k::ks=>Lt.Wf k∧Lt.yC ks
end
theorem qb (t:Lt):t.loc∈t.dr:=by cases t with|mk i h ks=>rw[Lt.dr];exact bH ..
theorem qc :∀{ks:List Lt} {t:Lt},t∈ks→t.loc∈Lt.aR ks
 | k::ks,t,h=>by
  rw[Lt.aR];rcases ba.1 h with rfl|h
  ·exact dW _ (qb _)
  ·exact gR _ (qc h)
def fC.core (x:fC):fC:={ x with at_:=0}
def aI.fr (st:aI):List fC:=st.frames.map fC.core
theorem Vz (st:aI) (n:Nat):(st.at n).fr=st.fr:=by
 unfold aI.at aI.fr;cases st.frames with
 | nil=>rfl
 | cons x l=>rfl
def G9 (F:List dm) (f:Nat) (n:jr):Prop:=Lb F n.fn f∧∃y v,F[n.fn]? = some y∧y.vars[n.i]? = some v∧v.name=n.s
theorem G9.ext {F F':List dm} (h:ux F F') {f:Nat} {n:jr} (k:G9 F f n):G9 F' f n:=by
 obtain⟨a,y,v,h1,h2,h3⟩:=k;obtain⟨y',e1,l⟩:=h.2 _ _ h1;obtain⟨v',e2,e3,_⟩:=l.vars _ _ h2;exact⟨a.ext h,y',v',e1,e2,e3.trans h3⟩
structure Cx (f:Nat) (st:aI):Prop where
 ok:CS st.fns
 lt:f<st.fns.length
 names :∀n∈st.names,G9 st.fns f n
def Uok (st:aI) (s:ByteArray) (j:Nat):Prop:=∃f:Nat,st.of j=(f:Int)∧(st.uses j=(1,0)∨(∃k:Nat,st.uses j=(2,(k:Int))∧∃y v,st.fns[f]? = some y∧y.vars[k]? = some v∧v.name=s)∨∃k:Nat,st.uses j=(3,(k:Int))∧sM st.fns s f k)
def Xg (V:List Nat) (fr:List fC) (st:aI) (j:Nat):Prop :=
 ∃f t:Nat,st.of j=(f:Int)∧st.uses j=(4,(t:Int))∧((t∈V∧st.of t=(f:Int))∨∃x∈fr,x.fn=f∧((x.loop=true∧t=x.node)∨(x.loop=false∧t∈x.kids.map Lt.loc)))
def sN (V:List Nat) (fr:List fC) (st:aI) (i:Nat) (h:Nd):Prop:=(h.kind=7→Uok st h.s i)∧(h.kind=30∨h.kind=31→Xg V fr st i)
structure kB (L:List Nat) (f:Nat) (st st':aI):Prop where
 ext:ux st.fns st'.fns
 ok:CS st'.fns
 off :∀j,j∉L→st'.uses j=st.uses j∧st'.of j=st.of j
 names :∃a,st'.names=a++st.names∧∀n∈a,G9 st'.fns f n
 new :∀(g:Nat) x,st.fns.length≤g→st'.fns[g]? = some x→x.node∈L∧st'.of x.node=x.parent
theorem kB.cx {L:List Nat} {f:Nat} {st st':aI} (h:kB L f st st') (c:Cx f st):Cx f st' :=
 ⟨h.ok,cw c.lt h.ext.1,fun n hn=>by
  obtain⟨a,e,ha⟩:=h.names;rw[e] at hn;rcases cU.1 hn with hn|hn
  ·exact ha n hn
  ·exact(c.names n hn).ext h.ext⟩
theorem kB.refl {f:Nat} {st:aI} (c:Cx f st):kB [] f st st:=⟨.refl _,c.ok,fun _ _=>⟨rfl,rfl⟩,⟨[],rfl,fun n hn=>by simp at hn⟩,fun g x h1 h2=>by have:=(aJ.1 h2).1;omega⟩
theorem kB.more {L L':List Nat} {f:Nat} {st st':aI} (h:kB L f st st') (hL :∀j∈L,j∈L'):kB L' f st st' :=
 ⟨h.ext,h.ok,fun j hj=>h.off j fun e=>hj (hL j e),h.names,fun g x h1 h2=>⟨hL _ (h.new g x h1 h2).1,(h.new g x h1 h2).2⟩⟩
theorem kB.trans {A B:List Nat} {f:Nat} {a b c:aI} (h:kB A f a b) (k:kB B f b c) (hd :∀j∈A,j∉B):kB (A++B) f a c :=
 ⟨h.ext.trans k.ext,k.ok,fun j hj=>by
  rw[cU,not_or] at hj;exact⟨(k.off j hj.2).1.trans (h.off j hj.1).1,(k.off j hj.2).2.trans (h.off j hj.1).2⟩,by
  obtain⟨x,e1,h1⟩:=h.names;obtain⟨y,e2,h2⟩:=k.names;refine⟨y++x,by rw[e2,e1,fI],fun n hn=>?_⟩
  rcases cU.1 hn with hn|hn
  ·exact h2 n hn
  ·exact(h1 n hn).ext k.ext,fun g x h1 h2=>by
  by_cases hg:b.fns.length≤g
  ·exact⟨gR _ (k.new g x hg h2).1,(k.new g x hg h2).2⟩
  ·obtain⟨y,hy⟩ :∃y,b.fns[g]? = some y:=⟨_,bt (by omega)⟩
   obtain⟨x',ry,l⟩:=k.ext.2 g y hy;rw[h2] at ry;injection ry with ry;subst ry;obtain⟨m1,m2⟩:=h.new g y h1 hy;rw[←l.node] at m1 m2;exact⟨dW _ m1,by rw[(k.off _ (hd _ m1)).2,m2,l.parent]⟩⟩
theorem Uok.later {B:List Nat} {f:Nat} {b c:aI} {s:ByteArray} {j:Nat} (h:Uok b s j) (k:kB B f b c) (hj:j∉B):Uok c s j:=by
 obtain⟨g,h1,h2⟩:=h;obtain⟨e1,e2⟩:=k.off j hj;refine⟨g,by rw[e2];exact h1,?_⟩
 rw[e1];rcases h2 with h2 | ⟨n,h2,y,v,h3,h4,h5⟩ | ⟨n,h2,h3⟩
 ·exact .inl h2
 ·obtain⟨y',e3,l⟩:=k.ext.2 _ _ h3
  obtain⟨v',e4,e5,_⟩:=l.vars _ _ h4;exact .inr (.inl ⟨n,h2,y',v',e3,e4,e5.trans h5⟩)
 ·exact .inr (.inr ⟨n,h2,h3.ext k.ext⟩)
theorem Xg.later {B V:List Nat} {fr:List fC} {f:Nat} {b c:aI} {j:Nat} (h:Xg V fr b j) (k:kB B f b c) (hj:j∉B) (hV :∀t∈V,t∉B):Xg V fr c j:=by
 obtain⟨g,t,h1,h2,h3⟩:=h;obtain⟨e1,e2⟩:=k.off j hj;refine⟨g,t,by rw[e2];exact h1,by rw[e1];exact h2,?_⟩
 rcases h3 with ⟨h3,h4⟩|h3
 ·exact .inl ⟨h3,by rw[(k.off t (hV t h3)).2];exact h4⟩
 ·exact .inr h3
theorem sN.later {B V:List Nat} {fr:List fC} {f:Nat} {b c:aI} {j:Nat} {h:Nd} (q:sN V fr b j h) (k:kB B f b c) (hj:j∉B) (hV :∀t∈V,t∉B):sN V fr c j h :=
 ⟨fun e=>(q.1 e).later k hj,fun e=>(q.2 e).later k hj hV⟩
theorem sN.more {V V':List Nat} {fr:List fC} {b:aI} {j:Nat} {h:Nd} (q:sN V fr b j h) (hV :∀t∈V,t∈V'):sN V' fr b j h :=
 ⟨q.1,fun e=>by
  obtain⟨g,t,h1,h2,h3⟩:=q.2 e;exact⟨g,t,h1,h2,h3.imp (fun h=>⟨hV t h.1,h.2⟩) id⟩⟩
theorem sN.left {V:List Nat} {x:fC} {fr:List fC} {b:aI} {j:Nat} {h:Nd} (q:sN V (x::fr) b j h) (hx :∀t,((x.loop=true∧t=x.node)∨(x.loop=false∧t∈x.kids.map Lt.loc))→t∈V∧b.of t=(x.fn:Int)):sN V fr b j h :=
 ⟨q.1,fun e=>by
  obtain⟨g,t,h1,h2,h3⟩:=q.2 e;refine⟨g,t,h1,h2,?_⟩;rcases h3 with h3 | ⟨y,hy,h4,h5⟩
  ·exact .inl h3
  ·rcases ba.1 hy with rfl|hy
   ·obtain⟨k1,k2⟩:=hx t h5
    exact .inl ⟨k1,by rw[k2,h4]⟩
   ·exact .inr ⟨y,hy,h4,h5⟩⟩
theorem sN.same {V:List Nat} {fr:List fC} {b c:aI} {j:Nat} {h:Nd} (q:sN V fr b j h) (e1:c.fns=b.fns) (e2:c.uses=b.uses) (e3:c.of=b.of):sN V fr c j h:=by
 unfold sN Uok Xg at *;rw[e1,e2,e3];exact q
theorem kB.back {L:List Nat} {f:Nat} {st st':aI} (h:kB L f st st'):kB L f st (st'.back st) :=
 ⟨h.ext,h.ok,h.off,⟨[],rfl,fun n hn=>by simp at hn⟩,h.new⟩
theorem E8 {f:Nat} {st:aI} (c:Cx f st) (i g:Nat):kB [i] f st (st.setOf i g) :=
 ⟨.refl _,c.ok,fun j hj=>⟨rfl,ae (by simpa using hj)⟩,⟨[],rfl,fun n hn=>by simp at hn⟩,fun g x h1 h2=>by have h3:g<st.fns.length:=(aJ.1 h2).1;omega⟩
theorem tI {f:Nat} {st:aI} (c:Cx f st) (i:Nat) (u:Int×Int):kB [i] f st (st.dw i u) :=
 ⟨.refl _,c.ok,fun j hj=>⟨ae (by simpa using hj),rfl⟩,⟨[],rfl,fun n hn=>by simp at hn⟩,fun g x h1 h2=>by have h3:g<st.fns.length:=(aJ.1 h2).1;omega⟩
theorem uy (st:aI) (i:Nat) (u:Int×Int):(st.dw i u).uses i=u:=aj rfl
theorem Lc (st:aI) (i f:Nat):(st.setOf i f).of i=(f:Int):=aj rfl
def j5 (x:dm) (node:Nat) (l:List ByteArray):dm:={ x with vars:=x.vars++l.map fun s=>⟨s,node,false⟩}
theorem Ha (x:dm) (node:Nat):j5 x node []=x:=by unfold j5;simp
theorem Al (x:dm) (node:Nat) (l:List ByteArray):qa x (j5 x node l) :=
 ⟨rfl,rfl,rfl,rfl,fun j v h=>⟨v,by unfold j5;rw[kL (aJ.1 h).1];exact h,rfl,rfl,id⟩,fun _ _ h=>h⟩
theorem Ld {F:List dm} {f:Nat} {x:dm} (h:F[f]? = some x):F.set f x=F:=by
 refine KW fun g=>?_
 by_cases hg:f=g
 ·subst hg
  rw[dV (aJ.1 h).1,h]
 ·rw[fH hg]
theorem xe {node f:Nat} {line:Int} :∀(l:List ByteArray) {st st':aI} {x:dm},dO node f line l st=.ok st'→st.fns[f]? = some x →
  st'.fns=st.fns.set f (j5 x node l)∧st'.uses=st.uses∧st'.of=st.of∧st'.frames=st.frames∧x.vars.length+l.length≤max 200 x.vars.length ∧
  ∃a,st'.names=a++st.names∧∀n∈a,n.fn=f∧∃v,(j5 x node l).vars[n.i]? = some v∧v.name=n.s:=by
 intro l;induction l with
 | nil =>
  intro st st' x h hx;rw[dO] at h;injection h with h;subst h;exact⟨by rw[Ha,Ld hx],rfl,rfl,rfl,by simp;omega,[],rfl,fun n hn=>by simp at hn⟩
 | cons s l ih =>
  intro st st' x h hx;rw[dO] at h;have e:st.fn f=x:=gz hx;rw[e] at h;split at h
  ·cases h
  ·rename_i hlt
   have hf:=(aJ.1 hx).1;have ry:(st.oQ f { x with vars:=x.vars++[⟨s,node,false⟩]}).fns[f]? = some { x with vars:=x.vars++[⟨s,node,false⟩]}:=dV hf;obtain⟨h1,h2,h3,h4,h5,a,h6,h7⟩:=ih h ry;have e2:j5 { x with vars:=x.vars++[⟨s,node,false⟩]} node l=j5 x node (s::l):=by unfold j5;simp
   refine⟨?_,h2,h3,h4,?_,a++[⟨s,f,x.vars.length⟩],by rw[h6];simp,fun n hn=>?_⟩
   ·rw[h1,e2]
    show(st.fns.set f _).set f _=_
    rw[List.set_set]
   ·simp only[cb,List.length_cons,List.length_nil] at h5 ⊢
    omega
   ·rw[e2] at h7
    rcases cU.1 hn with hn|hn
    ·exact h7 n hn
    ·rw[bR] at hn
     subst hn;refine⟨rfl,⟨s,node,false⟩,?_,rfl⟩;unfold j5;simp
theorem mX {node f:Nat} {line:Int} {l:List ByteArray} {st st':aI} (h:bz node f line l st=.ok st') (c:Cx f st):kB [node] f st st'∧st'.frames=st.frames∧st'.of=st.of:=by
 obtain⟨x,hx⟩ :∃x,st.fns[f]? = some x:=⟨_,bt c.lt⟩;unfold bz at h;obtain⟨h1,h2,h3,h4,_,a,h6,h7⟩:=xe l h (x:=x) hx;have h1:st'.fns=st.fns.set f (j5 x node l):=h1;refine⟨⟨?_,?_,fun j hj=>⟨?_,congrFun h3 j⟩,⟨a,h6,fun n hn=>?_⟩,fun g y k1 k2=>?_⟩,h4,h3⟩
 ·rw[h1];exact .set hx (Al x node l)
 ·rw[h1];exact c.ok.set hx (Al x node l)
 ·rw[h2];exact ae (by simpa using hj)
 ·obtain⟨e,v,k1,k2⟩:=h7 n hn
  rw[h1];unfold G9;exact⟨by rw[e];exact .same,_,v,by rw[e,dV c.lt],k1,k2⟩
 ·have:=(aJ.1 k2).1
  rw[h1,mo] at this;omega
theorem xf {i f:Nat} {h:Nd} {st st':aI} (e:bz i st.fns.length h.line h.names (jB i f h st)=.ok st') (c:Cx f st) :
  Cx st.fns.length st'∧ux st.fns st'.fns∧st'.fns.length=st.fns.length+1∧st'.of=st.of∧(∀j,j≠i→st'.uses j=st.uses j)∧st'.frames=st.frames∧(∃x,st'.fns[st.fns.length]? = some x∧x.node=i∧x.parent=(f:Int)):=by
 unfold bz at e;have hx:((jB i f h st).dw i (2,(((jB i f h st).fn st.fns.length).vars.length:Int))).fns[st.fns.length]? = some ⟨i,(f:Int),h.names.length,decide (h.num=1),[],[]⟩:=by
  show(st.fns++[_])[st.fns.length]? = _
  simp
 obtain⟨h1,h2,h3,h4,_,a,h6,h7⟩:=xe _ e hx;have hF:st'.fns=st.fns++[j5 ⟨i,(f:Int),h.names.length,decide (h.num=1),[],[]⟩ i h.names]:=by
  rw[h1];show(st.fns++[_]).set st.fns.length _=_
  rw[List.set_append_right _ _ (ag _)];simp
 have hE:ux st.fns st'.fns:=by rw[hF];exact .app _ _
 have hl:st'.fns[st.fns.length]? = some (j5 ⟨i,(f:Int),h.names.length,decide (h.num=1),[],[]⟩ i h.names):=by rw[hF];simp
 refine⟨⟨⟨by rw[hF];simp,fun g y hy=>?_⟩,by rw[hF];simp,fun n hn=>?_⟩,hE,by rw[hF];simp,h3,fun j hj=>by rw[h2];exact ae hj,h4,_,hl,rfl,rfl⟩
 ·by_cases hg:g<st.fns.length
  ·have hy':st.fns[g]? = some y:=by rw[hF,kL hg] at hy;exact hy
   obtain⟨p,q⟩:=c.ok.each _ _ hy';exact⟨p,q⟩
  ·have hlt:=(aJ.1 hy).1
   rw[hF] at hlt;simp only[cb,List.length_cons,List.length_nil] at hlt;have wb:g=st.fns.length:=by omega
   subst wb;rw[hl] at hy;injection hy with hy;subst hy;exact⟨.inr ⟨f,rfl,c.lt⟩,by unfold j5;simp⟩
 ·rw[h6] at hn
  rcases cU.1 hn with hn|hn
  ·obtain⟨k1,v,k2,k3⟩:=h7 n hn
   exact⟨by rw[k1];exact .same,_,v,by rw[k1];exact hl,k2,k3⟩
  ·obtain⟨k1,k2⟩:=(c.names n hn).ext hE
   exact⟨.up hl rfl k1,k2⟩
theorem qd (x:dm) (i:Nat):qa x (cY x i):=by
 unfold cY;split
 ·rename_i v hv
  refine⟨rfl,rfl,rfl,rfl,fun j w hw=>?_,fun _ _ h=>h⟩
  by_cases hj:j=i
  ·subst hj
   rw[hv] at hw;injection hw with hw;subst hw;exact⟨_,dV (aJ.1 hv).1,rfl,rfl,fun _=>rfl⟩
  ·exact⟨w,by rw[fH (fun e=>hj e.symm)];exact hw,rfl,rfl,id⟩
 ·exact .refl x
theorem Xh {i f:Nat} {s:ByteArray} {line:Int} {st st':aI} (h:lI i f s line st=.ok st') (c:Cx f st) (hi:st.of i=(f:Int)):kB [i] f st st'∧st'.frames=st.frames∧st'.of=st.of∧Uok st' s i:=by
 unfold lI at h;split at h
 ·injection h with h
  subst h;exact⟨tI c _ _,rfl,rfl,f,hi,.inl (uy _ _ _)⟩
 ·rename_i n hn
  have hs:n.s=s:=gT (by simpa using List.find?_some hn)
  obtain⟨ha,y,v,hy,hv,Rp⟩:=c.names n (KG hn);split at h
  ·rename_i hf
   injection h with h;subst h;refine⟨tI c _ _,rfl,rfl,f,hi,.inr (.inl ⟨n.i,uy _ _ _,y,v,?_,hv,Rp.trans hs⟩)⟩;rw[←hf];exact hy
  ·rename_i hf
   split at h
   ·cases h
   ·rename_i F k hk
    injection h with h;subst h;have e0:st.fn n.fn=y:=gz hy;rw[e0] at hk;have hyl:=(aJ.1 hy).1;have hE0:ux st.fns (st.fns.set n.fn (cY y n.i)):=.set hy (qd y n.i);obtain⟨e1,e2,e3,hl⟩:=E7 _ hk (c.ok.set hy (qd y n.i)) (ha.ext hE0) hf (by rw[mo];exact c.lt) ⟨cY y n.i,{ v with cap:=true},dV hyl,by
     unfold cY;rw[hv];exact dV (aJ.1 hv).1,Rp,rfl⟩
    refine⟨⟨hE0.trans e1,e2,fun j hj=>⟨ae (by simpa using hj),rfl⟩,⟨[],rfl,fun n hn=>by simp at hn⟩,fun g x k1 k2=>?_⟩,rfl,rfl,f,hi,.inr (.inr ⟨k,uy _ _ _,by rw[←hs];exact hl⟩)⟩
    have:=(aJ.1 k2).1;have e4:F.length=st.fns.length:=by rw[e3,mo]
    have e5:(({ st with fns:=F}:aI).dw i (3,(k:Int))).fns=F:=rfl;rw[e5] at this;omega
theorem Le {i f:Nat} {line:Int} {st st':aI} (h:dX i f line st=.ok st') (c:Cx f st) (hi:st.of i=(f:Int)):kB [i] f st st'∧st'.frames=st.frames∧st'.of=st.of∧∀V,Xg V st.fr st' i:=by
 unfold dX at h;split at h
 ·cases h
 ·rename_i x hx
  injection h with h;subst h;have h1:=List.find?_some hx;simp only[dk,iD] at h1;exact⟨tI c _ _,rfl,rfl,fun V=>⟨f,x.node,hi,uy _ _ _,.inr ⟨x.core,j3 (KG hx),h1.2,.inl ⟨h1.1,rfl⟩⟩⟩⟩
theorem Rq {i f:Nat} {s:ByteArray} {line:Int} {st st':aI} (c:Cx f st) (hi:st.of i=(f:Int)) :∀(l:List fC),dp i f s line st l=.ok st'→(∀x∈l,x∈st.frames)→kB [i] f st st'∧st'.frames=st.frames∧st'.of=st.of∧∀V,Xg V st.fr st' i:=by
 intro l;induction l with
 | nil=>intro h;cases h
 | cons x l ih =>
  intro h hl;rw[dp] at h;split at h
  ·exact ih h fun y hy=>hl y (bQ _ hy)
  ·rename_i hc
   rw[not_or,Decidable.not_not] at hc;split at h
   ·exact ih h fun y hy=>hl y (bQ _ hy)
   ·rename_i j hj
    split at h
    ·cases h
    ·injection h with h
     subst h;obtain⟨hlt,he,_⟩:=zU.1 hj;refine⟨tI c _ _,rfl,rfl,fun V=>⟨f,_,hi,uy _ _ _,.inr ⟨x.core,j3 (hl x (bH ..)),hc.2,(.inr ⟨show x.loop=false by simpa using hc.1,?_⟩)⟩⟩⟩
     have e:x.kids.getD j (.mk 0 ⟨0,0,0,0,⟨#[]⟩,[],[]⟩ [])=x.kids[j]:=by rw[jZ,bt hlt];rfl
     rw[e];exact j3 (KZ hlt)
theorem kB.uz {A B:List Nat} {f:Nat} {a b c:aI} (h:kB A f a b) (k:kB B f b c) (e:c.of=b.of):kB (A++B) f a c :=
 ⟨h.ext.trans k.ext,k.ok,fun j hj=>by
  rw[cU,not_or] at hj;exact⟨(k.off j hj.2).1.trans (h.off j hj.1).1,(k.off j hj.2).2.trans (h.off j hj.1).2⟩,by
  obtain⟨x,e1,h1⟩:=h.names;obtain⟨y,e2,h2⟩:=k.names;refine⟨y++x,by rw[e2,e1,fI],fun n hn=>?_⟩
  rcases cU.1 hn with hn|hn
  ·exact h2 n hn
  ·exact(h1 n hn).ext k.ext,fun g x h1 h2=>by
  by_cases hg:b.fns.length≤g
  ·exact⟨gR _ (k.new g x hg h2).1,(k.new g x hg h2).2⟩
  ·obtain⟨y,hy⟩ :∃y,b.fns[g]? = some y:=⟨_,bt (by omega)⟩
   obtain⟨x',ry,l⟩:=k.ext.2 g y hy;rw[h2] at ry;injection ry with ry;subst ry;obtain⟨m1,m2⟩:=h.new g y h1 hy;rw[←l.node] at m1 m2;exact⟨dW _ m1,by rw[e,m2,l.parent]⟩⟩
theorem kB.Xi {i:Nat} {L:List Nat} {f:Nat} {a b c:aI} (h:kB [i] f a b) (k:kB (i::L) f b c) (e:b.of i=(f:Int)) (e':c.of i=(f:Int)):kB (i::L) f a c :=
 ⟨h.ext.trans k.ext,k.ok,fun j hj=>by
  have hj':=hj;rw[ba,not_or] at hj';have h1:=h.off j (by simpa using hj'.1)
  exact⟨(k.off j hj).1.trans h1.1,(k.off j hj).2.trans h1.2⟩,by
  obtain⟨x,e1,h1⟩:=h.names;obtain⟨y,e2,h2⟩:=k.names;refine⟨y++x,by rw[e2,e1,fI],fun n hn=>?_⟩
  rcases cU.1 hn with hn|hn
  ·exact h2 n hn
  ·exact(h1 n hn).ext k.ext,fun g x h1 h2=>by
  by_cases hg:b.fns.length≤g
  ·exact k.new g x hg h2
  ·obtain⟨y,hy⟩ :∃y,b.fns[g]? = some y:=⟨_,bt (by omega)⟩
   obtain⟨x',ry,l⟩:=k.ext.2 g y hy;rw[h2] at ry;injection ry with ry;subst ry;obtain⟨m1,m2⟩:=h.new g y h1 hy;rw[bR] at m1;rw[l.node,m1];rw[m1,e] at m2;exact⟨bH ..,by rw[e',m2,l.parent]⟩⟩
theorem kB.rA {L:List Nat} {f:Nat} {a b:aI} {fr:List fC} (h:kB L f { a with frames:=fr} b):kB L f a b:=⟨h.ext,h.ok,h.off,h.names,h.new⟩
theorem Cx.Am {f:Nat} {a:aI} (fr:List fC) (h:Cx f a):Cx f { a with frames:=fr}:=⟨h.ok,h.lt,h.names⟩
theorem kB.at_ {L:List Nat} {f n:Nat} {a b:aI} (h:kB L f (a.at n) b):kB L f a b:=⟨h.ext,h.ok,h.off,h.names,h.new⟩
theorem Cx.at_ {f:Nat} {a:aI} (n:Nat) (h:Cx f a):Cx f (a.at n):=⟨h.ok,h.lt,h.names⟩
theorem quiet {V:List Nat} {fr:List fC} {st:aI} {i:Nat} {h:Nd} (h7:h.kind≠7) (E9:h.kind≠30) (Fa:h.kind≠31):sN V fr st i h:=⟨fun e=>absurd e h7,fun e=>e.elim (fun e=>absurd e E9) fun e=>absurd e Fa⟩
theorem uA {α β:Type} {x:Rs α} {g:α→β} {y:β} (h:x.map g=.ok y) :∃a,x=.ok a∧y=g a:=by
 cases x with
 | error e=>cases h
 | ok a=>injection h with h;exact⟨a,rfl,h.symm⟩
theorem ir {α β:Type} {x:Rs α} {g:α→Rs β} {y:β} (h:x.bind g=.ok y) :∃a,x=.ok a∧g a=.ok y:=by
 cases x with
 | error e=>cases h
 | ok a=>exact⟨a,rfl,h⟩
theorem Ao {i f:Nat} {rep:Bool} {ks:List Lt} {st st':aI} (h:gV i f rep ks st=.ok st'):st'={ st with frames:=⟨f,i,0,false,rep,ks⟩::st.frames}:=by
 unfold gV at h;split at h
 ·cases h
 ·injection h with h
  exact h.symm
mutual
theorem jC :∀(t:Lt) {f:Nat} {jU st':aI},bh t f jU=.ok st'→t.dr.Nodup→Cx f jU→t.Wf →
  kB t.dr f jU st'∧st'.frames=jU.frames∧st'.of t.loc=(f:Int)∧Lt.All (sN t.dr jU.fr st') t
 | .mk i h ks,f,jU,st',hr,hn,c0,hw=>by
  rw[Lt.dr,jf] at hn;obtain⟨tJ,zM⟩:=hn;unfold Lt.Wf at hw;obtain⟨⟨hk0,acd⟩,VB⟩:=hw;have S1:=E8 c0 i f;have c:=S1.cx c0;have hi:(jU.setOf i f).of i=(f:Int):=Lc _ _ _;have mM:(jU.setOf i f).fr=jU.fr:=rfl;have Fb:(jU.setOf i f).frames=jU.frames:=rfl;have Lf:(jU.setOf i f).names=jU.names:=rfl;have hfn:(jU.setOf i f).fns=jU.fns:=rfl;rw[Lt.dr];unfold Lt.All;show _∧_∧st'.of i=(f:Int)∧_
  unfold bh at hr;generalize jU.setOf i f=st at *;rw[←mM];have hd :∀j∈[i],j∉Lt.aR ks:=fun j hj=>by rw[bR] at hj;rw[hj];exact tJ
  have up :∀{fr:List fC} {s:aI},Lt.ed (sN (Lt.aR ks) fr s) ks→Lt.ed (sN (i::Lt.aR ks) fr s) ks:=fun ha=>Lt.ed.imp ks (fun j _ h q=>q.more fun t ht=>bQ _ ht) ha
  by_cases h6:h.kind=6
  ·rw[aj h6] at hr
   split at hr
   ·injection hr with hr
    subst hr;have:=hk0 (.inl h6);subst this;exact⟨by simpa[Lt.aR] using S1,Fb,hi,quiet (by omega) (by omega) (by omega),by unfold Lt.ed;trivial⟩
   ·cases hr
  rw[ae h6] at hr;by_cases h7:h.kind=7
  ·rw[aj h7] at hr
   have:=hk0 (.inr (.inl h7));subst this;obtain⟨a1,a2,a3,a4⟩:=Xh hr c hi;exact⟨(S1.uz a1 a3).more (by simp),a2.trans Fb,by rw[a3];exact hi,⟨fun _=>a4,fun e=>by omega⟩,by unfold Lt.ed;trivial⟩
  rw[ae h7] at hr;by_cases h11:h.kind=11
  ·rw[aj h11] at hr
   obtain⟨s1,e1,hr⟩:=ir hr;obtain⟨s2,e2,rfl⟩:=uA hr;obtain⟨cx,b1,b2,b3,b4,b5,x,b6,b7,b8⟩:=xf e1 c;obtain⟨a1,_,a3,a4⟩:=fZ ks e2 zM cx VB;have rl:s2.of i=(f:Int):=by rw[(a1.off i tJ).2,b3];exact hi
   refine⟨⟨S1.ext.trans (b1.trans a1.ext),a1.ok,fun j hj=>?_,⟨[],Lf,fun n hn=>by simp at hn⟩,fun g y k1 k2=>?_⟩,Fb,rl,quiet (by omega) (by omega) (by omega),?_⟩
   ·rw[ba,not_or] at hj
    obtain⟨q1,q2⟩:=a1.off j hj.2;obtain⟨q3,q4⟩:=S1.off j (by simpa using hj.1)
    exact⟨by rw[←q3,←b4 j hj.1];exact q1,by rw[←q4,←b3];exact q2⟩
   ·have k2:s2.fns[g]? = some y:=k2
    by_cases hg:s1.fns.length≤g
    ·exact⟨bQ _ (a1.new g y hg k2).1,(a1.new g y hg k2).2⟩
    ·have wb:g=st.fns.length:=by rw[←hfn] at k1;omega
     subst wb;obtain⟨x',m1,m2⟩:=a1.ext.2 _ _ b6;rw[k2] at m1;injection m1 with m1;subst m1;have e3:y.node=i:=m2.node.trans b7;exact⟨by rw[e3];exact bH ..,by rw[e3,m2.parent,b8];exact rl⟩
   ·have e4:s1.fr=st.fr:=by unfold aI.fr;rw[b5]
    rw[e4] at a4;exact up (Lt.ed.imp ks (fun j _ _ q=>q.same rfl rfl rfl) a4)
  rw[ae h11] at hr;by_cases kJ:h.kind=18
  ·rw[aj kJ] at hr
   obtain⟨s1,e1,hr⟩:=ir hr;obtain⟨s2,e2,rfl⟩:=uA hr;have e1:=Ao e1;subst e1;obtain⟨a1,_,a3,a4⟩:=rB ks e2 zM (c.Am _) VB;have rl:s2.of i=(f:Int):=by rw[(a1.off i tJ).2];exact hi
   refine⟨S1.trans a1.rA.back hd |>.more (by simp),Fb,rl,quiet (by omega) (by omega) (by omega),up (Lt.ed.imp ks (fun j _ _ q=>?_) a4)⟩
   have q:sN (Lt.aR ks) (_::st.fr) s2 _ _:=q;refine(q.left fun t ht=>?_).same rfl rfl rfl
   rcases ht with ⟨ht,_⟩ | ⟨_,ht⟩
   ·cases ht
   ·obtain⟨k,hk,rfl⟩:=eJ.1 ht
    exact⟨qc hk,a3 k hk⟩
  rw[ae kJ] at hr;by_cases Lg:h.kind=19
  ·rw[aj Lg] at hr
   obtain⟨s1,e1,e2⟩:=ir hr;obtain⟨a1,a2,a3,a4⟩:=fZ ks e1 zM c VB;have S2:=S1.trans a1 hd;obtain⟨b1,b2,b3⟩:=mX e2 (a1.cx c);refine⟨(S2.uz b1 b3).more (fun z hz=>by simp only[cU,ba,oL,oP] at hz ⊢;rcases hz with (hz|hz)|hz<;>simp[hz]),(b2.trans a2).trans Fb,by rw[b3,(a1.off i tJ).2];exact hi,quiet (by omega) (by omega) (by omega),up (Lt.ed.imp ks (fun j hj _ q=>q.later b1 ?_ ?_) a4)⟩
   ·intro e;rw[bR] at e;rw[e] at hj;exact tJ hj
   ·intro t ht e;rw[bR] at e;rw[e] at ht;exact tJ ht
  rw[ae Lg] at hr;by_cases QY:h.kind=23
  ·rw[aj QY] at hr
   obtain⟨s2,e2,rfl⟩:=uA hr;obtain⟨a1,_,a3,a4⟩:=fZ ks e2 zM (c.Am _) VB;have rl:s2.of i=(f:Int):=by rw[(a1.off i tJ).2];exact hi
   refine⟨S1.trans a1.rA.back hd |>.more (by simp),Fb,rl,quiet (by omega) (by omega) (by omega),Lt.ed.imp ks (fun j _ _ q=>?_) (up a4)⟩
   have q:sN (i::Lt.aR ks) (_::st.fr) s2 _ _:=q;refine(q.left fun t ht=>?_).same rfl rfl rfl
   rcases ht with ⟨_,ht⟩ | ⟨ht,_⟩
   ·rw[ht];exact⟨bH ..,rl⟩
   ·cases ht
  rw[ae QY] at hr;by_cases Lh:h.kind=24
  ·rw[aj Lh] at hr
   obtain⟨s2,e2,rfl⟩:=uA hr;obtain⟨a1,a3,a4⟩:=Rr ks e2 zM (c.Am _) VB (acd Lh);have rl:s2.of i=(f:Int):=by rw[(a1.off i tJ).2];exact hi
   refine⟨S1.trans a1.rA.back hd |>.more (by simp),Fb,rl,quiet (by omega) (by omega) (by omega),Lt.ed.imp ks (fun j _ _ q=>?_) (up a4)⟩
   have q:sN (i::Lt.aR ks) (_::st.fr) s2 _ _:=q;refine(q.left fun t ht=>?_).same rfl rfl rfl
   rcases ht with ⟨_,ht⟩ | ⟨ht,_⟩
   ·rw[ht];exact⟨bH ..,rl⟩
   ·cases ht
  rw[ae Lh] at hr;by_cases QZ:h.kind=26∨h.kind=27
  ·rw[aj QZ] at hr
   obtain⟨a1,a2,a3,a4⟩:=Ap ks hr tJ zM c VB hi;exact⟨(S1.Xi a1 hi a3).more (by simp),a2.trans Fb,a3,quiet (by omega) (by omega) (by omega),a4⟩
  rw[ae QZ] at hr;by_cases Q0:h.kind=28
  ·rw[aj Q0] at hr
   obtain⟨s1,e1,e2⟩:=ir hr;obtain⟨b1,b2,b3⟩:=mX e1 c;obtain⟨a1,a2,a3,a4⟩:=fZ ks e2 zM (b1.cx c) VB;have S2:=S1.uz b1 b3;have e4:s1.fr=st.fr:=by unfold aI.fr;rw[b2]
   rw[e4] at a4;exact⟨(S2.trans a1 (by simpa using tJ)).more (by simp),(a2.trans b2).trans Fb,by rw[(a1.off i tJ).2,b3];exact hi,quiet (by omega) (by omega) (by omega),up a4⟩
  rw[ae Q0] at hr;by_cases E9:h.kind=30
  ·rw[aj E9] at hr
   have:=hk0 (.inr (.inr (.inl E9)));subst this;obtain⟨a1,a2,a3,a4⟩:=Le hr c hi;exact⟨(S1.uz a1 a3).more (by simp),a2.trans Fb,by rw[a3];exact hi,⟨fun e=>by omega,fun _=>a4 _⟩,by unfold Lt.ed;trivial⟩
  rw[ae E9] at hr;by_cases Fa:h.kind=31
  ·rw[aj Fa] at hr
   have:=hk0 (.inr (.inr (.inr Fa)));subst this;obtain⟨a1,a2,a3,a4⟩:=Rq c hi _ hr (fun _ h=>h)
   exact⟨(S1.uz a1 a3).more (by simp),a2.trans Fb,by rw[a3];exact hi,⟨fun e=>by omega,fun _=>a4 _⟩,by unfold Lt.ed;trivial⟩
  rw[ae Fa] at hr;obtain⟨a1,a2,a3,a4⟩:=fZ ks hr zM c VB;exact⟨S1.trans a1 hd,a2.trans Fb,by rw[(a1.off i tJ).2];exact hi,quiet h7 E9 Fa,up a4⟩
theorem fZ :∀(ks:List Lt) {f:Nat} {st st':aI},aG ks f st=.ok st'→(Lt.aR ks).Nodup→Cx f st→Lt.yC ks →
  kB (Lt.aR ks) f st st'∧st'.frames=st.frames∧(∀k∈ks,st'.of k.loc=(f:Int))∧Lt.ed (sN (Lt.aR ks) st.fr st') ks
 | [],f,st,st',hr,_,c,_=>by
  unfold aG at hr;injection hr with hr;subst hr;exact⟨.refl c,rfl,fun k hk=>by simp at hk,by unfold Lt.ed;trivial⟩
 | k::ks,f,st,st',hr,hn,c,hw=>by
  unfold aG at hr;obtain⟨s1,e1,e2⟩:=ir hr;rw[Lt.aR,oK] at hn;obtain⟨n1,n2,n3⟩:=hn;unfold Lt.yC at hw;obtain⟨a1,a2,a3,a4⟩:=jC k e1 n1 c hw.1;obtain⟨b1,b2,b3,b4⟩:=fZ ks e2 n2 (a1.cx c) hw.2;have hd :∀j∈k.dr,j∉Lt.aR ks:=fun j h1 h2=>n3 j h1 j h2 rfl
  have mM:s1.fr=st.fr:=by unfold aI.fr;rw[a2]
  rw[Lt.aR];refine⟨a1.trans b1 hd,b2.trans a2,fun x hx=>?_,?_⟩
  ·rcases ba.1 hx with rfl|hx
   ·rw[(b1.off _ (hd _ (qb _))).2];exact a3
   ·exact b3 x hx
  ·unfold Lt.ed
   rw[mM] at b4;exact⟨Lt.All.imp k (fun j hj _ q=>(q.later b1 (hd j hj) hd).more fun t ht=>dW _ ht) a4,Lt.ed.imp ks (fun j _ _ q=>q.more fun t ht=>gR _ ht) b4⟩
theorem rB :∀(ks:List Lt) {n f:Nat} {st st':aI},cW ks n f st=.ok st'→(Lt.aR ks).Nodup→Cx f st→Lt.yC ks →
  kB (Lt.aR ks) f st st'∧st'.fr=st.fr∧(∀k∈ks,st'.of k.loc=(f:Int))∧Lt.ed (sN (Lt.aR ks) st.fr st') ks
 | [],_,f,st,st',hr,_,c,_=>by
  unfold cW at hr;injection hr with hr;subst hr;exact⟨.refl c,rfl,fun k hk=>by simp at hk,by unfold Lt.ed;trivial⟩
 | k::ks,n,f,st,st',hr,hn,c,hw=>by
  unfold cW at hr;obtain⟨s1,e1,e2⟩:=ir hr;rw[Lt.aR,oK] at hn;obtain⟨n1,n2,n3⟩:=hn;unfold Lt.yC at hw;obtain⟨a1,a2,a3,a4⟩:=jC k e1 n1 (c.at_ n) hw.1;have a1:=a1.at_;obtain⟨b1,b2,b3,b4⟩:=rB ks e2 n2 (a1.cx c) hw.2;have hd :∀j∈k.dr,j∉Lt.aR ks:=fun j h1 h2=>n3 j h1 j h2 rfl
  have mM:s1.fr=st.fr:=by unfold aI.fr;rw[a2];exact Vz st n
  rw[Lt.aR];refine⟨a1.trans b1 hd,b2.trans mM,fun x hx=>?_,?_⟩
  ·rcases ba.1 hx with rfl|hx
   ·rw[(b1.off _ (hd _ (qb _))).2];exact a3
   ·exact b3 x hx
  ·unfold Lt.ed
   rw[mM] at b4;rw[Vz] at a4;exact⟨Lt.All.imp k (fun j hj _ q=>(q.later b1 (hd j hj) hd).more fun t ht=>dW _ ht) a4,Lt.ed.imp ks (fun j _ _ q=>q.more fun t ht=>gR _ ht) b4⟩
theorem Rr :∀(ks:List Lt) {f:Nat} {st st':aI},kA ks f st=.ok st'→(Lt.aR ks).Nodup→Cx f st→Lt.yC ks→(∃b t,ks=[b,t]∧b.hd.kind=18) →
  kB (Lt.aR ks) f st st'∧(∀k∈ks,st'.of k.loc=(f:Int))∧Lt.ed (sN (Lt.aR ks) st.fr st') ks
 | [],f,st,st',hr,hn,c,hw,hk=>by obtain⟨b,t,hk,_⟩:=hk;cases hk
 | [_],f,st,st',hr,hn,c,hw,hk=>by obtain⟨b,t,hk,_⟩:=hk;cases hk
 | _::_::_::_,f,st,st',hr,hn,c,hw,hk=>by obtain⟨b,t,hk,_⟩:=hk;cases hk
 | [.mk i h ks,t],f,st,st',hr,hn,c,hw,hk=>by
  obtain⟨_,_,hk,kJ⟩:=hk;injection hk with hk _;subst hk;have kJ:h.kind=18:=kJ;unfold kA at hr;obtain⟨s1,e1,hr⟩:=ir hr;obtain⟨s2,e2,e3⟩:=ir hr;have e1:=Ao e1;subst e1;simp only[Lt.aR,Lt.dr,j4] at hn ⊢;rw[oK,jf] at hn;obtain⟨⟨tJ,zM⟩,nt,n3⟩:=hn;simp only[Lt.yC,Lt.Wf] at hw;have S1:=E8 c i f;have c1:=S1.cx c;obtain⟨a1,a2,a3,a4⟩:=rB ks e2 zM (c1.Am _) hw.1.2;have A1:=S1.trans a1.rA (fun j hj=>by rw[bR] at hj;rw[hj];exact tJ)
  obtain⟨b1,b2,b3,b4⟩:=jC t e3 nt (a1.rA.cx c1) hw.2.1;have hd :∀j∈i::Lt.aR ks,j∉t.dr:=fun j h1 h2=>n3 j h1 j h2 rfl
  have hi:st'.of i=(f:Int):=by rw[(b1.off i (hd i (bH ..))).2,(a1.off i tJ).2];exact Lc _ _ _
  have Kl :∀k∈ks,st'.of k.loc=(f:Int):=fun k hk=>by rw[(b1.off _ (hd _ (bQ _ (qc hk)))).2];exact a3 k hk
  have VC :∀{j:Nat} {x:Nd},sN (i::Lt.aR ks++t.dr) (⟨f,i,0,false,true,ks⟩::st.fr) st' j x→sN (i::Lt.aR ks++t.dr) st.fr st' j x:=fun q=>q.left fun z hz=>by
   rcases hz with ⟨hz,_⟩ | ⟨_,hz⟩
   ·cases hz
   ·obtain⟨k,hk,rfl⟩:=eJ.1 hz
    exact⟨dW _ (bQ _ (qc hk)),Kl k hk⟩
  refine⟨(A1.trans b1 hd),fun k hk=>?_,?_⟩
  ·rcases ba.1 hk with rfl|hk
   ·exact hi
   ·rw[bR] at hk
    rw[hk];exact b3
  ·unfold Lt.ed Lt.All
   have e5:s2.fr=⟨f,i,0,false,true,ks⟩::st.fr:=a2;rw[e5] at b4;refine⟨⟨quiet (by omega) (by omega) (by omega),Lt.ed.imp ks (fun j hj _ q=>VC ((q.later b1 (hd j (bQ _ hj)) fun z hz=>hd z (bQ _ hz)).more fun z hz=>dW _ (bQ _ hz))) a4⟩,?_⟩
   unfold Lt.ed;exact⟨Lt.All.imp t (fun j _ _ q=>VC (q.more fun z hz=>gR _ hz)) b4,by unfold Lt.ed;trivial⟩
theorem Ap {i:Nat} {line:Int} {names:List ByteArray} :∀(ks:List Lt) {f:Nat} {st st':aI},iH i line names ks f st=.ok st'→i∉Lt.aR ks→(Lt.aR ks).Nodup→Cx f st→Lt.yC ks→st.of i=(f:Int) →
  kB (i::Lt.aR ks) f st st'∧st'.frames=st.frames∧st'.of i=(f:Int)∧Lt.ed (sN (i::Lt.aR ks) st.fr st') ks
 | [],f,st,st',hr,_,_,c,_,hi=>by
  unfold iH at hr;injection hr with hr;subst hr;exact⟨(kB.refl c).more (by simp),rfl,hi,by unfold Lt.ed;trivial⟩
 | [b],f,st,st',hr,tJ,hn,c,hw,hi=>by
  unfold iH at hr;obtain⟨s1,e1,hr⟩:=ir hr;obtain⟨s2,e2,rfl⟩:=uA hr;simp only[Lt.aR,j4] at tJ hn ⊢;simp only[Lt.yC] at hw;obtain⟨b1,b2,b3⟩:=mX e1 (c.Am _);have b1:=b1.rA;obtain⟨a1,a2,a3,a4⟩:=jC b e2 hn (b1.cx c) hw.1;have rl:s2.of i=(f:Int):=by rw[(a1.off i tJ).2,b3];exact hi
  refine⟨((b1.trans a1 (by simpa using tJ)).more (by simp)).back,rfl,rl,?_⟩
  unfold Lt.ed;have e4:s1.fr=⟨f,i,0,true,false,[]⟩::st.fr:=by unfold aI.fr;rw[b2];rfl
  rw[e4] at a4;refine⟨Lt.All.imp b (fun j _ _ q=>?_) a4,by unfold Lt.ed;trivial⟩
  refine((q.more fun z hz=>bQ i hz).left fun t ht=>?_).same rfl rfl rfl
  rcases ht with ⟨_,ht⟩ | ⟨ht,_⟩
  ·rw[ht];exact⟨bH ..,rl⟩
  ·cases ht
 | a::b::l,f,st,st',hr,tJ,hn,c,hw,hi=>by
  unfold iH at hr;obtain⟨s1,e1,e2⟩:=ir hr;rw[Lt.aR,oK] at hn;rw[Lt.aR,cU,not_or] at tJ;obtain⟨n1,n2,n3⟩:=hn;unfold Lt.yC at hw;obtain⟨a1,a2,a3,a4⟩:=jC a e1 n1 c hw.1;have hi1:s1.of i=(f:Int):=by rw[(a1.off i tJ.1).2];exact hi
  obtain⟨b1,b2,b3,b4⟩:=Ap (b::l) e2 tJ.2 n2 (a1.cx c) hw.2 hi1;have hd :∀j∈a.dr,j∉i::Lt.aR (b::l):=fun j h1 h2=>by
   rcases ba.1 h2 with rfl|h2
   ·exact tJ.1 h1
   ·exact n3 j h1 j h2 rfl
  have mM:s1.fr=st.fr:=by unfold aI.fr;rw[a2]
  have hL :∀z,z∈a.dr++(i::Lt.aR (b::l))→z∈i::Lt.aR (a::b::l):=fun z hz=>by
   rw[Lt.aR];simp only[cU,ba] at hz ⊢;rcases hz with hz|hz|hz
   ·exact .inr (.inl hz)
   ·exact .inl hz
   ·exact .inr (.inr hz)
  refine⟨(a1.trans b1 hd).more hL,b2.trans a2,b3,?_⟩;rw[mM] at b4;unfold Lt.ed;exact⟨Lt.All.imp a (fun j hj _ q=>(q.later b1 (hd j hj) hd).more fun t ht=>hL t (dW _ ht)) a4,Lt.ed.imp (b::l) (fun j _ _ q=>q.more fun t ht=>hL t (gR _ ht)) b4⟩
end
def mkLt (T:List Nd):Nat→Nat→Lt
 | 0,i=>.mk i (T.getD i ⟨0,0,0,0,⟨#[]⟩,[],[]⟩) []
 | g+1,i=>.mk i (T.getD i ⟨0,0,0,0,⟨#[]⟩,[],[]⟩) ((bD T i).map fun k=>mkLt T g k.toNat)
theorem qe (T:List Nd) (g i:Nat):(mkLt T g i).loc=i:=by cases g<;>rfl
theorem Li {T:List Nd} :∀{ks:List Lt},(∀k∈ks,Lt.In T k)→Lt.mW T ks
 | [],_=>by unfold Lt.mW;trivial
 | k::ks,h=>by unfold Lt.mW;exact⟨h k (bH ..),Li fun x hx=>h x (bQ _ hx)⟩
theorem Rt {T:List Nd} {r:Nat} {d:Nat→Nat} {m:List Nat} (hs:CR T r d m) {D:Nat} (hD :∀i∈m,d i≤D) :∀(g i:Nat),i∈m→D≤d i+g→Lt.In T (mkLt T g i):=by
 intro g;induction g with
 | zero =>
  intro i hi hg;obtain⟨x,hx⟩ :∃x,T[i]? = some x:=⟨_,bt (hs.lt i hi)⟩;have hk:bD T i=[]:=by
   cases e:bD T i with
   | nil=>rfl
   | cons k ks =>
    obtain⟨k0,k1,k2⟩:=hs.kid i hi k (by rw[e];exact bH ..)
    have:=hD k.toNat (hs.mem (by omega))
    omega
  unfold mkLt Lt.In;rw[jZ,hx];refine⟨rfl,?_,by unfold Lt.mW;trivial⟩
  rw[fM hx] at hk;show x.kids=_
  rw[hk];rfl
 | succ g ih =>
  intro i hi hg;obtain⟨x,hx⟩ :∃x,T[i]? = some x:=⟨_,bt (hs.lt i hi)⟩;unfold mkLt Lt.In;rw[jZ,hx];refine⟨rfl,?_,Li fun k hk=>?_⟩
  ·show x.kids=_
   rw[uo,←fM hx];refine(List.map_id _).symm.trans (wU fun k hk=>?_)
   obtain⟨k0,_,_⟩:=hs.kid i hi k hk;show k=((mkLt T g k.toNat).loc:Int)
   rw[qe];omega
  ·obtain⟨z,hz,rfl⟩:=eJ.1 hk
   obtain⟨k0,k1,k2⟩:=hs.kid i hi z hz;exact ih _ (hs.mem (by omega)) (by omega)
mutual
theorem Lt.perm {T:List Nd} :∀(t:Lt),Lt.In T t→t.dr.Perm (t.loc::t.dr.flatMap (gw T))
 | .mk i h ks,hi=>by
  unfold Lt.In at hi;obtain⟨hx,hk,hs⟩:=hi;rw[Lt.dr];show(i::_).Perm (i::_)
  refine List.Perm.cons i ?_;have h1:gw T i=ks.map Lt.loc:=by
   unfold gw;rw[fM hx,hk,uo];exact wU fun k _=>by simp
  rw[iC,h1];exact Lt.VD ks hs
theorem Lt.VD {T:List Nd} :∀(ks:List Lt),Lt.mW T ks→(Lt.aR ks).Perm (ks.map Lt.loc++(Lt.aR ks).flatMap (gw T))
 | [],_=>by rw[Lt.aR];exact List.Perm.nil
 | k::ks,hi=>by
  unfold Lt.mW at hi;have p1:=Lt.perm k hi.1;have p2:=Lt.VD ks hi.2;rw[Lt.aR,oJ,dS,iE];refine(p1.append p2).trans ?_;rw[iE];refine List.Perm.cons _ ?_;rw[←fI,←fI];exact List.Perm.append_right _ KL
end
mutual
theorem Lt.Aq {T:List Nd} :∀(t:Lt),Lt.In T t→∀j∈t.dr,j<T.length
 | .mk i h ks,hi=>by
  unfold Lt.In at hi;obtain⟨hx,hk,hs⟩:=hi;rw[Lt.dr];intro j hj;rcases ba.1 hj with rfl|hj
  ·exact(aJ.1 hx).1
  ·exact Lt.Lj ks hs j hj
theorem Lt.Lj {T:List Nd} :∀(ks:List Lt),Lt.mW T ks→∀j∈Lt.aR ks,j<T.length
 | [],_=>by rw[Lt.aR];intro j hj;simp at hj
 | k::ks,hi=>by
  unfold Lt.mW at hi;rw[Lt.aR];intro j hj;rcases cU.1 hj with hj|hj
  ·exact Lt.Aq k hi.1 j hj
  ·exact Lt.Lj ks hi.2 j hj
end
theorem Lk (p:Nat) :∀(l:List Nat),(l.map fun x=>if x=p then 1 else 0).sum=l.count p
 | []=>rfl
 | x::l=>by
  rw[dS,um,Lk p l,List.count_cons];by_cases h:x=p<;>simp[h]<;>omega
theorem Ar :∀l:List Nat,(l.map fun _=>0).sum=0
 | []=>rfl
 | _::l=>by rw[dS,um,Ar l]
theorem uB {T:List Nd} {r:Nat} {d:Nat→Nat} {m:List Nat} (hs:CR T r d m) {L:List Nat} (hp:L.Perm (r::L.flatMap (gw T))) (hL :∀j∈L,j<T.length) (hr:r<T.length) :∀(v j:Nat),j<T.length→d j≤v→L.count j=1:=by
 have uC :∀j p,j<T.length→p∈L→(gw T p).count j=if (j:Int)∈bD T p then 1 else 0:=fun j p hj hpL=>by
  have hn:(gw T p).Nodup:=by
   have h1:=hs.nodup;rw[hs.eq,jf] at h1;exact ph h1.2 (hs.mem (hL p hpL))
  by_cases h:(j:Int)∈bD T p
  ·rw[aj h]
   have h1:j∈gw T p:=eJ.2 ⟨_,h,by simp⟩
   exact List.Nodup.count hn |>.trans (aj h1)
  ·rw[ae h]
   refine List.count_eq_zero.2 fun h1=>h ?_
   obtain⟨z,hz,e⟩:=eJ.1 h1;obtain⟨z0,_,_⟩:=hs.kid p (hs.mem (hL p hpL)) z hz;rw[show(j:Int)=z by omega]
   exact hz
 have ace :∀j,L.count j=(if r=j then 1 else 0)+((L.map fun p=>(gw T p).count j).sum):=fun j=>by
  rw[hp.count_eq,List.count_cons,List.count_flatMap];have:(L.map (List.count j ∘ gw T))=L.map fun p=>(gw T p).count j:=rfl
  rw[this,Nat.add_comm];simp
 intro v;induction v with
 | zero =>
  intro j hj h0;exfalso;by_cases h:j=r
  ·have:=hs.root;subst h;omega
  ·obtain⟨p,jV,oR⟩:=hs.parent hj h
   obtain⟨_,_,h2⟩:=hs.kid p (hs.mem jV) _ oR;simp at h2;omega
 | succ v ih =>
  intro j hj hv;rw[ace j];by_cases h:r=j
  ·subst h
   rw[aj rfl];have:(L.map fun p=>(gw T p).count r)=L.map fun _=>0:=wU fun p hp=>by rw[uC r p hr hp,ae (hs.Xe (hL p hp))]
   rw[this,Ar]
  ·rw[ae h]
   obtain⟨p,jV,oR⟩:=hs.parent hj (fun e=>h e.symm)
   obtain⟨_,_,h2⟩:=hs.kid p (hs.mem jV) _ oR;simp at h2;have:(L.map fun q=>(gw T q).count j)=L.map fun q=>if q=p then 1 else 0:=wU fun q hq=>by
    rw[uC j q hj hq];by_cases e:q=p
    ·rw[e,aj oR,aj rfl]
    ·rw[ae e,ae]
     intro hk;exact e (hs.once (hL q hq) jV hk oR)
   rw[this,Lk,ih p jV (by omega)]
theorem Hb {T:List Nd} {r:Nat} {d:Nat→Nat} {m:List Nat} (hs:CR T r d m) :∃t:Lt,Lt.In T t∧t.loc=r∧t.dr.Nodup∧(∀j,j<T.length↔j∈t.dr):=by
 have hr:r<T.length:=hs.lt r (by rw[hs.eq];exact bH ..)
 have h1:=Rt hs (D:=T.length+1) (fun i _=>hs.bound i) (T.length+1) r (hs.mem hr) (by omega)
 refine⟨mkLt T (T.length+1) r,h1,qe _ _ _,?_,fun j=>⟨fun hj=>?_,Lt.Aq _ h1 j⟩⟩
 ·have hp:=Lt.perm _ h1
  rw[qe] at hp;refine List.nodup_iff_count.2 fun j=>?_
  by_cases hj:j<T.length
  ·exact ES (uB hs hp (Lt.Aq _ h1) hr (d j) j hj (ag _))
  ·rw[List.count_eq_zero.2 fun h=>hj (Lt.Aq _ h1 j h)]
   exact bg _
 ·have hp:=Lt.perm _ h1
  rw[qe] at hp;have:=uB hs hp (Lt.Aq _ h1) hr (d j) j hj (ag _);exact List.count_pos_iff.1 (by omega)
mutual
def Lt.ast:Lt→Ast
 | .mk _ h ks=>.mk h (Lt.aak ks)
def Lt.aak:List Lt→List Ast
 | []=>[]
 | k::ks=>Lt.ast k::Lt.aak ks
end
mutual
def Lt.size:Lt→Nat
 | .mk _ _ ks=>Lt.al ks+1
def Lt.al:List Lt→Nat
 | []=>0
 | k::ks=>Lt.size k+Lt.al ks
end
mutual
theorem Lt.rC :∀t:Lt,t.dr.length=t.size
 | .mk i h ks=>by rw[Lt.dr,Lt.size,List.length_cons,Lt.uD ks]
theorem Lt.uD :∀ks:List Lt,(Lt.aR ks).length=Lt.al ks
 | []=>by rw[Lt.aR,Lt.al];rfl
 | k::ks=>by rw[Lt.aR,Lt.al,cb,Lt.rC k,Lt.uD ks]
end
theorem pk :∀a b:List Lt,Lt.al (a++b)=Lt.al a+Lt.al b
 | [],b=>by rw[sG,show Lt.al []=0 by rw[Lt.al],jg]
 | k::a,b=>by rw[iE,Lt.al,Lt.al,pk a b,oN]
theorem Fc {T:List Nd} :∀{ks:List Lt},Lt.mW T ks→∀k∈ks,Lt.In T k
 | [],_,k,h=>by simp at h
 | x::ks,hi,k,h=>by
  unfold Lt.mW at hi;rcases ba.1 h with rfl|h
  ·exact hi.1
  ·exact Fc hi.2 k h
theorem kC {T:List Nd} {t:Lt} (h:Lt.In T t):Lt.mW T t.sub∧T[t.loc]? = some t.hd∧t.hd.kids=t.sub.map (fun k=>(k.loc:Int)):=by
 cases t with
 | mk i h' ks=>unfold Lt.In at h;exact⟨h.2.2,h.1,h.2.1⟩
theorem uG (t:Lt):t.size=Lt.al t.sub+1:=by cases t with|mk i h ks=>rw[Lt.size];rfl
def dY:Nat→List Nat→Nat
 | _,[]=>0
 | h,a::l=>max (h+a) (dY (h+1) l)
def gA:List Nat→Nat
 | []=>0
 | a::l=>max a (gA l)
def mB (vals:List Nat):Nat→List (Int×Nat)→Nat
 | h,[]=>dY h vals
 | h,(k,n)::l=>if k=8 then max (h+n) (mB vals (h+2) l) else mB vals h l
def gB (h:Nd) (l:List (Int×Nat)):Nat :=
 if h.kind=30∨h.kind=31∨h.kind=32 then 0
 else if h.kind=20 then mB ((l.drop h.num.toNat).map (·.2)) 0 (l.take h.num.toNat)
 else if h.kind=10 then max 2 (max ((l.map (·.2)).headD 0) (dY 2 ((l.map (·.2)).drop 1)))
 else if h.kind=27 then max 6 (max (dY 0 (l.map (·.2)).dropLast) (3+(l.map (·.2)).getLastD 0))
 else if h.kind=26 then max (dY 0 (l.map (·.2)).dropLast) (3+(l.map (·.2)).getLastD 0)
 else if h.kind=12 then (if h.op=18∨h.op=19 then gA (l.map (·.2)) else dY 0 (l.map (·.2)))
 else if h.kind=16∨h.kind=17 then dY 1 (l.map (·.2))
 else if h.kind=8∨h.kind=9∨h.kind=19∨h.kind=29 then dY 0 (l.map (·.2))
 else if h.kind=15 then max 1 (gA (l.map (·.2)))
 else if h.kind=13∨h.kind=14∨h.kind=18∨h.kind=21∨h.kind=22∨h.kind=23∨h.kind=24∨h.kind=25 then gA (l.map (·.2))
 else 1
mutual
def aH:Lt→Nat
 | .mk _ h ks=>gB h (mr ks)
def mr:List Lt→List (Int×Nat)
 | []=>[]
 | k::ks=>(k.hd.kind,aH k)::mr ks
end
theorem xg :∀ks:List Lt,mr ks=ks.map (fun k=>(k.hd.kind,aH k))
 | []=>by rw[mr];rfl
 | k::ks=>by rw[mr,xg ks];rfl
theorem fN (t:Lt):aH t=gB t.hd (t.sub.map fun k=>(k.hd.kind,aH k)):=by
 cases t with
 | mk i h ks=>rw[aH,xg];rfl
def gN (l:List Nat):Nat:=(l.map (· + 2)).sum
theorem rD :∀(l:List Nat) (h:Nat),dY h l≤h+gN l
 | [],h=>by unfold dY;omega
 | a::l,h=>by
  have:=rD l (h+1);simp only[gN,dS,um] at this ⊢;rw[dY];omega
theorem Fe :∀l:List Nat,gA l≤gN l
 | []=>by unfold gA;omega
 | a::l=>by
  have:=Fe l;simp only[gN,dS,um] at this ⊢;rw[gA];omega
theorem Ru (a b:List Nat):gN (a++b)=gN a+gN b:=by simp[gN]
theorem C8 (vals:List Nat) :∀(l:List (Int×Nat)) (h:Nat),mB vals h l≤h+gN (l.map (·.2))+gN vals
 | [],h=>by have:=rD vals h;unfold mB;simp only[gN,ET,List.sum_nil] at *;omega
 | (k,n)::l,h=>by
  have h1:=C8 vals l h;have h2:=C8 vals l (h+2);simp only[gN,dS,um] at h1 h2 ⊢;rw[mB];split<;>omega
theorem Ll (l:List Nat):gN l.dropLast+l.getLastD 0≤gN l:=by
 rcases List.eq_nil_or_concat l with rfl | ⟨l',x,rfl⟩
 ·simp[gN]
 ·simp[gN]
theorem Lm (l:List Nat):l.headD 0≤gN l∧gN (l.drop 1)≤gN l:=by
 cases l with
 | nil=>simp[gN]
 | cons a l=>simp[gN];omega
theorem Ln (h:Nd) (l:List (Int×Nat)):gB h l≤6+gN (l.map (·.2)):=by
 have e:gN (l.map (·.2))=gN ((l.take h.num.toNat).map (·.2))+gN ((l.drop h.num.toNat).map (·.2)):=by rw[←Ru,←kN,EK]
 have h1:=C8 ((l.drop h.num.toNat).map (·.2)) (l.take h.num.toNat) 0
 have h2:=rD (l.map (·.2)) 0
 have h3:=rD (l.map (·.2)) 1
 have h4:=Fe (l.map (·.2))
 have h5:=Ll (l.map (·.2))
 have h6:=rD (l.map (·.2)).dropLast 0
 have h7:=Lm (l.map (·.2))
 have h8:=rD ((l.map (·.2)).drop 1) 2
 unfold gB;repeat' split
 all_goals omega
mutual
theorem qf :∀t:Lt,aH t+2≤9*t.size
 | .mk _ h ks=>by
  have h1:=Ln h (mr ks);have h2:=As ks;rw[aH,Lt.size];omega
theorem As :∀ks:List Lt,gN ((mr ks).map (·.2))≤9*Lt.al ks
 | []=>by rw[mr,Lt.al];simp[gN]
 | k::ks=>by
  have h1:=qf k;have h2:=As ks;rw[mr,Lt.al];simp only[gN,dS,um] at h2 ⊢;omega
end
inductive lK:Lt→Lt→Prop where
 | self (t:Lt):lK t t
 | down {s k t:Lt}:k∈t.sub→lK s k→lK s t
mutual
theorem Fg :∀(t:Lt) (j:Nat),j∈t.dr→∃s,lK s t∧s.loc=j
 | .mk i h ks,j,hj=>by
  rw[Lt.dr] at hj;rcases ba.1 hj with rfl|hj
  ·exact⟨_,.self _,rfl⟩
  ·obtain⟨s,k,hk,hs,e⟩:=At ks j hj
   exact⟨s,.down hk hs,e⟩
theorem At :∀(ks:List Lt) (j:Nat),j∈Lt.aR ks→∃s k,k∈ks∧lK s k∧s.loc=j
 | [],j,hj=>by rw[Lt.aR] at hj;cases hj
 | k::ks,j,hj=>by
  rw[Lt.aR] at hj;rcases cU.1 hj with hj|hj
  ·obtain⟨s,hs,e⟩:=Fg k j hj
   exact⟨s,k,bH ..,hs,e⟩
  ·obtain⟨s,x,hx,hs,e⟩:=At ks j hj
   exact⟨s,x,bQ _ hx,hs,e⟩
end
open Go.RowKit
theorem ax {a b c:World} (h:Below a.heap.size a b) (k:Below b.heap.size b c):Below a.heap.size a c:=h.trans (k.mono h.size)
theorem jj {B:Nat} {a b c:World} (h:Below B a b) (hB:B≤a.heap.size) (k:Below b.heap.size b c):Below B a c:=h.trans (k.mono (aL hB h.size))
theorem Lo {W:World} {B e n s:Nat} {v:Value} {xs:List Value} (h:W.ownsRow B e s v n xs) :∀k,v.ownBlock=some k→B≤k:=fun k hk=>(h.lt k hk).1
theorem ao (w:World) (o:Obj):(w.alloc o).heap.size=w.heap.size+1:=by simp
theorem dG (w:World) (cs:Array Value) (t:TypeId) (j:Nat):(w.alloc (.cells cs t)).cell? ⟨w.heap.size,j,none⟩=cs[j]?:=cell_of_row (w.alloc (.cells cs t)) w.heap.size j _ t (0,0) (heap_alloc_new w _)
def oC (W:World) (b n:Nat) (f:Nat→Value):Prop:=∀j,j<n→W.cell? ⟨b,j,none⟩=some (f j)∧W.frozen? ⟨b,j,none⟩=false
theorem oC.eq_ {W:World} {b n:Nat} {f g:Nat→Value} (h:oC W b n f) (he :∀j,j<n→f j=g j):oC W b n g:=fun j hj=>by rw[←he j hj];exact h j hj
theorem oC.Xj {W:World} {b n k:Nat} {f:Nat→Value} (h:oC W b n f) (hk:k<n) (u:Value):oC (W.setCell ⟨b,k,none⟩ u) b n (fun j=>if j=k then u else f j):=by
 intro j hj;rw[World.frozen?_setCell];show _=some (if j=k then u else f j)∧_
 by_cases e:j=k
 ·subst e
  rw[aj rfl];exact⟨World.cell?_setCell_same W _ _ (h j hj).1,(h j hj).2⟩
 ·rw[ae e,World.cell?_setCell_other W _ _ _ (by intro e';injection e' with _ e2 _;omega)]
  exact h j hj
theorem oC.below {W W':World} {B b n:Nat} {f:Nat→Value} (h:oC W b n f) (hb:Below B W W') (hB:b<B):oC W' b n f:=fun j hj=>by
 rw[hb.cell (p:=⟨b,j,none⟩) hB,hb.frozen (p:=⟨b,j,none⟩) hB];exact h j hj
def cE (W:World) (v:Value) (zs:List Int):Prop :=
 ∃A c,v=.slice A zs.length c∧zs.length≤c∧(zs=[]∨∃bk o,A=some ⟨bk,o,none⟩∧bk<W.heap.size∧∀(j:Nat) z,zs[j]? = some z→W.cell? ⟨bk,o+j,none⟩=some (.int .i64 z))
theorem cE.below {W W':World} {v:Value} {zs:List Int} (h:cE W v zs) (hb:Below W.heap.size W W'):cE W' v zs:=by
 obtain⟨A,c,rfl,hc,h | ⟨bk,o,rfl,dH,hx⟩⟩:=h
 ·exact⟨A,c,rfl,hc,.inl h⟩
 ·exact⟨_,c,rfl,hc,.inr ⟨bk,o,rfl,cw dH hb.size,fun j x hj=>(hb.cell (p:=⟨bk,o+j,none⟩) dH).trans (hx j x hj)⟩⟩
def oS (W:World) (v:Value) (xs:List ByteArray):Prop :=
 ∃A c,v=.slice A xs.length c∧xs.length≤c∧(xs=[]∨∃bk o,A=some ⟨bk,o,none⟩∧bk<W.heap.size∧∀(j:Nat) x,xs[j]? = some x→W.cell? ⟨bk,o+j,none⟩=some (.string x))
theorem oS.below {W W':World} {v:Value} {xs:List ByteArray} (h:oS W v xs) (hb:Below W.heap.size W W'):oS W' v xs:=by
 obtain⟨A,c,rfl,hc,h | ⟨bk,o,rfl,dH,hx⟩⟩:=h
 ·exact⟨A,c,rfl,hc,.inl h⟩
 ·exact⟨_,c,rfl,hc,.inr ⟨bk,o,rfl,cw dH hb.size,fun j x hj=>(hb.cell (p:=⟨bk,o+j,none⟩) dH).trans (hx j x hj)⟩⟩
def cZ (x:Nd) (nv kv:Value):Value:=.agg #[.int .i64 x.kind,.int .i64 x.line,.int .i64 x.op,.int .i64 x.num,.string x.s,nv,kv]
structure lL (W:World) (b p:Nat) (x:Nd) (nv kv:Value):Prop where
 c0:W.cell? ⟨b,p,none⟩=some (.int .i64 x.kind)
 c1:W.cell? ⟨b,p+1,none⟩=some (.int .i64 x.line)
 c2:W.cell? ⟨b,p+2,none⟩=some (.int .i64 x.op)
 c3:W.cell? ⟨b,p+3,none⟩=some (.int .i64 x.num)
 c4:W.cell? ⟨b,p+4,none⟩=some (.string x.s)
 c5:W.cell? ⟨b,p+5,none⟩=some nv
 c6:W.cell? ⟨b,p+6,none⟩=some kv
theorem lL.below {W W':World} {B b p:Nat} {x:Nd} {nv kv:Value} (h:lL W b p x nv kv) (hb:Below B W W') (hB:b<B):lL W' b p x nv kv :=
 ⟨(hb.cell (p:=⟨b,_,none⟩) hB).trans h.c0,(hb.cell (p:=⟨b,_,none⟩) hB).trans h.c1,(hb.cell (p:=⟨b,_,none⟩) hB).trans h.c2,(hb.cell (p:=⟨b,_,none⟩) hB).trans h.c3,(hb.cell (p:=⟨b,_,none⟩) hB).trans h.c4,(hb.cell (p:=⟨b,_,none⟩) hB).trans h.c5,(hb.cell (p:=⟨b,_,none⟩) hB).trans h.c6⟩
def eO (W:World) (v:Value) (T:List Nd):Prop :=
 ∃A c,v=.slice A T.length c∧T.length≤c∧(T=[]∨∃bk o,A=some ⟨bk,o,none⟩∧bk<W.heap.size∧∀(i:Nat) x,T[i]? = some x→∃nv kv,lL W bk (o+i*7) x nv kv∧oS W nv x.names∧cE W kv x.kids)
theorem eO.below {W W':World} {v:Value} {T:List Nd} (h:eO W v T) (hb:Below W.heap.size W W'):eO W' v T:=by
 obtain⟨A,c,rfl,hc,h | ⟨bk,o,rfl,dH,hx⟩⟩:=h
 ·exact⟨A,c,rfl,hc,.inl h⟩
 ·exact⟨_,c,rfl,hc,.inr ⟨bk,o,rfl,cw dH hb.size,fun j x hj=>by
   obtain⟨nv,kv,h1,h2,h3⟩:=hx j x hj;exact⟨nv,kv,h1.below hb dH,h2.below hb,h3.below hb⟩⟩⟩
theorem info3:(Tryz.prog.info? 3).map (fun i=>(i.zero,i.size,i.bytes))=some (some (.int .i64 0),1,8):=by kernel_rfl
theorem Xk:(Tryz.prog.info? 133).map (fun i=>(i.zero,i.size,i.bytes))=some (some (.int .i64 0),1,8):=by kernel_rfl
theorem qg {w w':World} (h:w.grownBy w' none):Below w.heap.size w w':=⟨h.os,h.tape,h.output,h.size,fun i hi=>h.block i hi (by simp)⟩
theorem Hc (n:Nat) (hn:n≤1000000) (w:World) :∃W,(Instr.makeSlice 27 (.int .i64 (n:Int)) (.int .i64 (n:Int))).run Tryz.prog w=.ok (.slice (some ⟨w.heap.size,0,none⟩) n n) W∧Below w.heap.size w W∧w.heap.size<W.heap.size∧oC W w.heap.size n (fun _=>.int .i64 0):=by
 obtain⟨i0,mC,hz0,hz1,hz2⟩:=info_parts info3;obtain⟨W,h1,h2,h3⟩:=run_make_full (P:=Tryz.prog) w w.heap.size 27 3 i0 (.int .i64 0) 1 Tryz.underlying27 mC hz0 hz1 .i64 .i64 n (by rw[hz2];omega) (by unfold maxLen;omega) (ag _)
 refine⟨W,h1,qg h3,(h2.lt _ rfl).2,fun j hj=>⟨?_,h2.frozenAt j⟩⟩
 rw[h2.cellAt j (by omega)]
 show(madeCells #[.int .i64 0] (n*1)).toList[j]? = _
 rw[toList_madeCells_one,List.getElem?_replicate,aj (by omega)]
theorem C9 (n:Nat) (hn:n≤1000000) (w:World) :∃W,(Instr.makeSlice 132 (.int .i64 (n:Int)) (.int .i64 (n:Int))).run Tryz.prog w=.ok (.slice (some ⟨w.heap.size,0,none⟩) n n) W∧Below w.heap.size w W∧w.heap.size<W.heap.size∧oC W w.heap.size n (fun _=>.int .i64 0):=by
 obtain⟨i0,mC,hz0,hz1,hz2⟩:=info_parts Xk;obtain⟨W,h1,h2,h3⟩:=run_make_full (P:=Tryz.prog) w w.heap.size 132 133 i0 (.int .i64 0) 1 Tryz.underlying132 mC hz0 hz1 .i64 .i64 n (by rw[hz2];omega) (by unfold maxLen;omega) (ag _)
 refine⟨W,h1,qg h3,(h2.lt _ rfl).2,fun j hj=>⟨?_,h2.frozenAt j⟩⟩
 rw[h2.cellAt j (by omega)]
 show(madeCells #[.int .i64 0] (n*1)).toList[j]? = _
 rw[toList_madeCells_one,List.getElem?_replicate,aj (by omega)]
def Au (W:World) (B:Nat) (v:Value) (zs:List Int):Prop:=W.ownsRow B 3 1 v zs.length (zs.map (Value.int .i64))
theorem Au.form {W:World} {B:Nat} {v:Value} {zs:List Int} (h:Au W B v zs) (h0:0<zs.length) :∃g cap,v=.slice (some ⟨g,0,none⟩) zs.length cap∧B≤g∧g<W.heap.size∧∀(j:Nat) z,zs[j]? = some z→W.cell? ⟨g,j,none⟩=some (.int .i64 z):=by
 have hh:=h;rcases h.2 with ⟨rfl,h1⟩ | ⟨g,cap,cur,rfl,hg,_,hc,_⟩
 ·omega
 ·refine⟨g,cap,rfl,hg,(World.ownsRow.lt hh g rfl).2,fun j z hj=>?_⟩
  have hj':j<zs.length:=(aJ.1 hj).1;rw[World.ownsRow.cellAt hh j (by omega),ef,hj]
  rfl
theorem Xl {ops:Array Oper} {rest:List Oper} {o:Oper} {a:Act} {Q:Exit→Act→World→Prop} (w:World) (z:Int) (hgd:o.guard=none) (sl y:Operand)
  (ho:o.op=.call { callee:=.builtin .append,args:=#[sl,y],argTypes:=#[27,27]}) (B:Nat) (v:Value) (zs:List Int) (hs:a.eval sl=v) (hown:Au w B v zs) (g:Nat) (hg:g=w.heap.size) (hy:a.eval y=.slice (some ⟨g,0,none⟩) 1 1)
  (hlen:zs.length≤1000000) (hB:B≤w.heap.size)
  (h :∀v' w',Au w' B v' (zs++[z])→Below B w w'→wpList Tryz.prog ops Q rest (a.put o.dst v') w'):wpList Tryz.prog ops Q (o::rest) a (w.alloc (.cells #[.int .i64 z] 3)):=by
 subst hg;obtain⟨i0,mC,hz0,hz1,hz2⟩:=info_parts info3;have hc:=cell_of_row (w.alloc (.cells #[.int .i64 z] 3)) w.heap.size 0 _ 3 (0,0) (heap_alloc_new w _);refine wpList_append_own (P:=Tryz.prog) _ hgd sl y 27 ho B 3 i0 (.int .i64 0) 1 8 Tryz.underlying27 mC hz0 hz1 hz2 rfl (by omega) v zs.length (zs.map (Value.int .i64)) hs (hown.alloc _) ⟨w.heap.size,0,none⟩ 1 1 [.int .i64 z] hy rfl
  (fun j u hj=>by
   cases j with
   | zero=>obtain rfl:=gu hj;exact hc
   | succ j=>simp at hj) (fun u hu=>by obtain rfl:=bR.1 hu;rfl) (by unfold maxLen;omega) (by omega) (by simp;omega) ?_
 intro v' w' h1 h2 _;refine h v' w' ?_ (((Below.refl _ _).alloc hB _).grown h2 (by simp;omega) (Lo hown))
 unfold Au;rw[cb,kN];exact h1
end Go.Proofs.YtodmcdfeldkocaaGreatDoor
