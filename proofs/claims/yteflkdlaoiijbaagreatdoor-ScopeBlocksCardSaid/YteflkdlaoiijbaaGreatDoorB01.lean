/- Parts of the proof. -/
import Derived.RowKit
import Derived.Lib.SlTrimSet
import Derived.Lib.Strings
import Derived.Lib.ItoaNum
import Derived.Lib.IndexMore
import Derived.Lib.Replace
import Derived.Lib.Bytealg
import Derived.Test.YteflkdlaoiijbaaGreatDoorProg
import Derived.WalkKit
import Derived.WalkSpells
import Derived.WalkLawsBesides
import Derived.Lib.QuietBelow
import Derived.BigQuiet
import Derived.Lib.Hide
import Derived.IntWalk
import Derived.Shelf.Strings.Builder1
import Derived.Shelf.Strings.Builder2
import Derived.Shelf.Strings.Trim
import Derived.Shelf.Small.Utf8
import Derived.Shelf.Small.Strs
import Derived.Shelf.Small.Wraps
import Derived.Shelf.Strings.Search1
import Derived.Shelf.Strings.Search2
import Derived.Shelf.Strings.Search3
import Derived.Shelf.Strings.Cut
import Derived.Shelf.Strings.Count
import Derived.Shelf.LaysM
import Derived.Shelf.Strings.Shaped
import Derived.Shelf.Strings.Prefix
import Derived.Shelf.Strings.Split
import Derived.Shelf.Strings.Replace
import Derived.Shelf.Strings.SplitShaped
import Derived.Shelf.Strings.Runes
import Derived.Shelf.Strings.AsciiSet
import Derived.Shelf.Unicode.DecodeSlow
set_option maxHeartbeats 16000000
set_option maxRecDepth 20000
namespace Go.Proofs
theorem aa {p:Prop}(h:p):RowKit.Hid p:=h
abbrev aJ:=@Array.getElem?_eq_some_iff
abbrev ai:=@Nat.le_refl
abbrev aE:=@beq_eq_false_iff_ne
abbrev aL:=@List.getElem?_eq_some_iff
abbrev af:=@if_neg
abbrev ba:=@List.mem_of_getElem?
abbrev bH:=@List.getElem?_eq_getElem
abbrev aK:=@Nat.le_trans
abbrev ak:=@if_pos
abbrev bX:=@List.mem_cons_of_mem
abbrev bI:=@List.mem_singleton
abbrev bM:=@List.length_append
abbrev bQ:=@List.mem_cons_self
abbrev ay:=@congrArg
abbrev bb:=@List.mem_cons
abbrev dS:=@List.setIfInBounds_toArray
abbrev cC:=@Nat.lt_of_lt_of_le
abbrev bN:=@decide_eq_false
abbrev bF:=@decide_eq_true
abbrev dT:=@List.getElem?_cons_succ
abbrev ed:=@List.getElem?_cons_zero
abbrev dU:=@List.getElem?_set_self
abbrev eL:=@Bool.eq_false_or_eq_true
abbrev ee:=@List.getElem?_toArray
abbrev bx:=@Nat.zero_le
abbrev dH:=@List.set_cons_zero
abbrev dI:=@List.set_cons_succ
abbrev dk:=@Bool.and_eq_true
abbrev du:=@Nat.lt_succ_self
abbrev dd:=@List.mem_append
abbrev dB:=@List.cons_append
abbrev ef:=@Bool.false_ne_true
abbrev dm:=@List.length_map
abbrev fJ:=@List.getElem?_set_ne
abbrev gh:=@List.mem_append_left
abbrev eM:=@Option.some.injEq
abbrev eS:=@List.append_assoc
abbrev j5:=@List.getD_eq_getElem?_getD
abbrev mw:=@List.eq_nil_of_length_eq_zero
abbrev jc:=@List.mem_append_right
abbrev kS:=@List.getElem?_append_left
abbrev gE:=@List.getElem?_map
abbrev fK:=@Option.map_some
abbrev gF:=@Nat.le_add_right
abbrev iJ:=@Int.toNat_natCast
abbrev iK:=@of_decide_eq_true
abbrev kT:=@List.mem_iff_getElem?
abbrev gG:=@Option.some.inj
abbrev fw:=@Prod.mk.injEq
abbrev jd:=@List.flatMap_cons
abbrev je:=@decide_eq_true_eq
abbrev j6:=@List.mem_map_of_mem
abbrev gi:=@List.map_cons
abbrev fx:=@Nat.le_of_lt
abbrev mX:=@List.length_singleton
abbrev j7:=@List.length_drop
abbrev jz:=@Nat.not_lt_zero
abbrev j8:=@List.append_nil
abbrev gj:=@Nat.le_succ
abbrev pT:=@List.drop_of_length_le
abbrev kU:=@List.find?_cons
abbrev my:=@List.length_take
abbrev mz:=@List.nodup_cons
abbrev mB:=@Bool.eq_iff_iff
abbrev mC:=@List.length_set
abbrev zL:=@List.findIdx?_eq_some_iff_getElem
abbrev pU:=@List.flatMap_append
abbrev pV:=@List.map_eq_nil_iff
abbrev oR:=@List.nodup_append
abbrev jA:=@List.mem_map
abbrev jB:=@Nat.zero_add
abbrev jC:=@Nat.ne_of_lt
abbrev wE:=@List.dropWhile_cons_of_pos
abbrev kV:=@Bool.true_and
abbrev mY:=@List.nil_append
abbrev mZ:=@List.map_append
abbrev tR:=@List.take_of_length_le
abbrev tU:=@ByteArray.size_extract
abbrev oS:=@List.not_mem_nil
abbrev wF:=@Array.getElem?_eq_getElem
abbrev sw:=@Nat.eq_zero_or_pos
abbrev oT:=@List.drop_zero
abbrev zM:=@List.getElem?_append_right
abbrev wG:=@List.map_eq_append_iff
abbrev zN:=@Array.getElem_modify_self
abbrev zO:=@List.drop_eq_getElem_cons
abbrev wH:=@List.getElem?_eq_none
abbrev zP:=@Option.isSome_iff_exists
abbrev zQ:=@decide_eq_false_iff_not
abbrev wI:=@List.length_pos_iff
abbrev pW:=@Nat.add_assoc
abbrev tV:=@List.mem_flatMap
abbrev tW:=@List.drop_suffix
abbrev tX:=@List.suffix_cons
abbrev Ey:=@List.dropWhile_cons_of_neg
abbrev zR:=@List.dropWhile_suffix
abbrev sx:=@List.all_cons
abbrev Ez:=@List.set_eq_of_length_le
abbrev wJ:=@List.drop_length
abbrev Kx:=@List.take_append_of_le_length
abbrev zS:=@List.getElem?_drop
abbrev EA:=@List.append_eq_nil_iff
abbrev EB:=@List.dropWhile_sublist
abbrev EC:=@List.drop_eq_nil_of_le
abbrev oU:=@bne_iff_ne
abbrev ED:=@List.flatMap_singleton
abbrev wK:=@List.mem_filter
abbrev wL:=@Nat.le_add_left
abbrev zT:=@Array.size_modify
abbrev EE:=@Nat.mul_le_mul_right
abbrev Ky:=@List.takeWhile_cons_of_pos
abbrev zU:=@List.take_length
abbrev Kz:=@List.getElem?_eq_none_iff
abbrev KC:=@List.mem_of_find?_eq_some
abbrev KF:=@List.findIdx?_eq_none_iff
abbrev EF:=@List.take_succ_cons
abbrev EG:=@List.drop_succ_cons
abbrev KG:=@List.Pairwise.imp_of_mem
abbrev KH:=@List.append_cancel_right
abbrev zV:=@UInt8.toNat_inj
abbrev EH:=@List.prefix_append
abbrev EI:=@List.find?_eq_none
abbrev EJ:=@List.reverse_cons
abbrev KI:=@ByteArray.data_extract
abbrev oV:=@or_false
abbrev zW:=@Bool.false_and
abbrev EK:=@List.size_toArray
abbrev KJ:=@List.take_append_drop
abbrev KK:=@List.contains_iff_mem
abbrev EL:=@List.isEmpty_iff
abbrev zX:=@List.cons.inj
abbrev KL:=@Nat.pow_le_pow_right
abbrev KM:=@Array.replicate_succ
abbrev KN:=@Array.replicate_zero
abbrev EM:=@Nat.min_eq_left
abbrev KO:=@List.takeWhile_cons
abbrev KP:=@List.getElem?_range
abbrev KQ:=@List.append_toArray
abbrev zY:=@List.map_map
abbrev EN:=@List.nodup_nil
abbrev KS:=@Bool.false_eq_true
abbrev KT:=@List.contains_cons
abbrev KU:=@List.length_range'
abbrev wM:=@beq_iff_eq
abbrev EO:=@List.mem_range
abbrev KV:=@List.length_attach
abbrev KW:=@Bool.eq_false_iff
abbrev KX:=@List.contains_nil
abbrev KY:=@List.ext_getElem?
abbrev KZ:=@List.push_toArray
abbrev EP:=@List.map_drop
abbrev K9:=@List.getElem_mem
abbrev La:=@List.map_toArray
abbrev ER:=@Nat.pow_succ
abbrev ES:=@Nat.mul_comm
abbrev ET:=@Nat.lt_or_ge
abbrev EU:=@Nat.succ_mul
abbrev EV:=@Nat.add_mul
abbrev EW:=@Nat.one_mul
abbrev EX:=@Int.le_refl
abbrev tY:=@if_true
abbrev sy:=@not_or
end Go.Proofs
namespace Go.Proofs.YteflkdlaoiijbaaGreatDoor
structure Nd where
 kind:Int
 line:Int
 op:Int
 num:Int
 s:ByteArray
 names:List ByteArray
 kids:List Int
def upd (d:Nat→Nat) (i v:Nat):Nat→Nat:=fun j=>if j=i then v else d j
theorem upd_same (d:Nat→Nat) (i v:Nat):upd d i v i=v:=ak rfl
theorem gm (d:Nat→Nat) {i j:Nat} (v:Nat) (h:j≠i):upd d i v j=d j:=af h
def dD (N v:Nat):List Int→(Nat→Nat)→List Nat→Option ((Nat→Nat)×List Nat)
 | [],d,m=>some (d,m)
 | k::ks,d,m=>if 0≤k∧k<(N:Int)∧d k.toNat=0 then dD N v ks (upd d k.toNat v) (m++[k.toNat]) else none
def cB (T:List Nd) (i:Nat):List Int:=match T[i]? with|some x=>x.kids|none=>[]
def yn (T:List Nd):Nat→Nat→(Nat→Nat)→List Nat→Option ((Nat→Nat)×List Nat)
 | 0,_,d,m=>some (d,m)
 | f+1,a,d,m=>match m[a]? with
  | none=>some (d,m)
  | some i=>match dD T.length (d i+1) (cB T i) d m with
   | none=>none
   | some p=>yn T f (a+1) p.1 p.2
def EY (N:Nat):Option ((Nat→Nat)×List Nat)→Nat
 | none=>0
 | some p=>if p.2.length<N then 0 else p.1 (p.2.getLastD 0)
def eT (T:List Nd) (r:Int):Nat :=
 if T.length≤16384∧0≤r∧r<(T.length:Int) then EY T.length (yn T (T.length+1) 0 (upd (fun _=>0) r.toNat 1) [r.toNat]) else 0
theorem tZ :∀(N:Nat) (m:List Nat),m.Nodup→(∀j∈m,j<N)→m.length≤N:=by
 intro N;induction N with
 | zero =>
  intro m _ h;cases m with
  | nil=>exact ai _
  | cons a t=>exact absurd (h a (bQ ..)) (jz _)
 | succ N ih =>
  intro m hn h;by_cases hN:N∈m
  ·have h1:=ih (m.erase N) (hn.erase N) (fun j hj=>by
    have hj':=(hn.mem_erase_iff).1 hj;have:=h j hj'.2;have:=hj'.1;omega)
   rw[List.length_erase_of_mem hN] at h1;omega
  ·have h1:=ih m hn (fun j hj=>by
    have:=h j hj;have:j≠N:=fun e=>hN (e▸hj)
    omega)
   omega
theorem rh {N:Nat} {m:List Nat} (hn:m.Nodup) (h :∀j∈m,j<N) (hl:m.length=N) {j:Nat} (hj:j<N):j∈m:=by
 by_cases hm:j∈m
 ·exact hm
 ·have:=tZ N (j::m) (mz.2 ⟨hm,hn⟩) (fun x hx=>by
   rcases bb.1 hx with rfl|hx
   ·exact hj
   ·exact h x hx)
  rw[List.length_cons] at this;omega
structure Inv (N:Nat) (d:Nat→Nat) (m:List Nat):Prop where
 nodup:m.Nodup
 iff :∀j,d j≠0↔j∈m
 lt :∀j∈m,j<N
theorem Inv.len {N:Nat} {d:Nat→Nat} {m:List Nat} (h:Inv N d m):m.length≤N:=tZ N m h.nodup h.lt
theorem Inv.add {N:Nat} {d:Nat→Nat} {m:List Nat} (h:Inv N d m) {k v:Nat} (hk:k<N) (h0:d k=0) (hv:v≠0):Inv N (upd d k v) (m++[k]):=by
 have yo:k∉m:=fun hm=>(h.iff k).2 hm h0
 refine⟨?_,fun j=>?_,fun j hj=>?_⟩
 ·rw[oR]
  refine⟨h.nodup,by simp,fun a ha b hb=>?_⟩
  obtain rfl:=bI.1 hb;exact fun e=>yo (e▸ha)
 ·by_cases hj:j=k
  ·subst hj
   rw[upd_same];exact⟨fun _=>by simp,fun _=>hv⟩
  ·rw[gm _ _ hj,h.iff,dd,bI]
   exact⟨fun h=>.inl h,fun h=>h.resolve_right hj⟩
 ·rcases dd.1 hj with hj|hj
  ·exact h.lt j hj
  ·obtain rfl:=bI.1 hj
   exact hk
theorem Inv.start {N r:Nat} (h:r<N):Inv N (upd (fun _=>0) r 1) [r]:=by
 have h0:Inv N (fun _=>0) []:=⟨EN,fun j=>by simp,fun j hj=>by simp at hj⟩
 exact h0.add h rfl (by decide)
theorem pk {N v:Nat} (hv:v≠0) :∀(ks:List Int) (d:Nat→Nat) (m:List Nat) (d':Nat→Nat) (m':List Nat),Inv N d m→dD N v ks d m=some (d',m') →
  Inv N d' m'∧m'=m++ks.map Int.toNat∧(∀j,d j≠0→d' j=d j)∧(∀k∈ks,0≤k∧k<(N:Int)∧d' k.toNat=v)∧(∀j,d' j=d j∨d' j=v):=by
 intro ks;induction ks with
 | nil =>
  intro d m d' m' h e;obtain⟨rfl,rfl⟩:d=d'∧m=m':=by simpa[dD] using e
  exact⟨h,by simp,fun _ _=>rfl,fun k hk=>by simp at hk,fun _=>.inl rfl⟩
 | cons k ks ih =>
  intro d m d' m' h e;rw[dD] at e;split at e
  ·rename_i hk
   obtain⟨h0,h1,h2⟩:=hk;obtain⟨i1,i2,i3,i4,i5⟩:=ih _ _ _ _ (h.add (by omega) h2 hv) e
   refine⟨i1,by rw[i2];simp,fun j hj=>?_,fun k' EZ=>?_,fun j=>?_⟩
   ·have hjk:j≠k.toNat:=fun e=>hj (e▸h2)
    have:=i3 j (by rw[gm _ _ hjk];exact hj)
    rw[this,gm _ _ hjk]
   ·rcases bb.1 EZ with rfl|EZ
    ·refine⟨h0,h1,?_⟩
     rw[i3 _ (by rw[upd_same];exact hv),upd_same]
    ·exact i4 k' EZ
   ·rcases i5 j with h|h
    ·rw[h]
     by_cases hj:j=k.toNat
     ·subst hj;right;exact upd_same _ _ _
     ·left;exact gm _ _ hj
    ·exact .inr h
  ·cases e
structure Xi (T:List Nd) (r:Nat) (d:Nat→Nat) (m:List Nat):Prop where
 nodup:m.Nodup
 lt :∀j∈m,j<T.length
 full:m.length=T.length
 eq:m=r::m.flatMap fun i=>(cB T i).map Int.toNat
 kid :∀i∈m,∀k∈cB T i,0≤k∧k<(T.length:Int)∧d k.toNat=d i+1
 root:d r=1
 bound :∀i,d i≤T.length+1
theorem Xi.mem {T:List Nd} {r:Nat} {d:Nat→Nat} {m:List Nat} (h:Xi T r d m) {i:Nat} (hi:i<T.length):i∈m:=rh h.nodup h.lt h.full hi
theorem lN {α:Type} (m:List α) (a:Nat) (i:α) (h:m[a]? = some i):m.take (a+1)=m.take a++[i]:=by
 rw[List.take_add_one,h];rfl
structure Half (T:List Nd) (r:Nat) (a:Nat) (d:Nat→Nat) (m:List Nat):Prop where
 inv:Inv T.length d m
 le:a≤m.length
 eq:m=r::(m.take a).flatMap fun i=>(cB T i).map Int.toNat
 kid :∀i∈m.take a,∀k∈cB T i,0≤k∧k<(T.length:Int)∧d k.toNat=d i+1
 root:d r=1
 bound :∀i,d i≤a+1
theorem Half.start {T:List Nd} {r:Nat} (h:r<T.length):Half T r 0 (upd (fun _=>0) r 1) [r] :=
 ⟨Inv.start h,bx _,by simp,fun i hi=>by simp at hi,upd_same _ _ _,fun i=>by
  by_cases hi:i=r
  ·subst hi;rw[upd_same];omega
  ·rw[gm _ _ hi];omega⟩
theorem Half.step {T:List Nd} {r a i:Nat} {d d':Nat→Nat} {m m':List Nat} (h:Half T r a d m) (hi:m[a]? = some i) (e:dD T.length (d i+1) (cB T i) d m=some (d',m')):Half T r (a+1) d' m':=by
 obtain⟨i1,i2,i3,i4,i5⟩:=pk (by omega) _ _ _ _ _ h.inv e
 have hlt:a<m.length:=(aL.1 hi).1;have ri :∀j∈m,d' j=d j:=fun j hj=>i3 j ((h.inv.iff j).2 hj)
 have him:i∈m:=ba hi;have Xj:m'.take (a+1)=m.take a++[i]:=by
  rw[i2,Kx (by omega),lN m a i hi]
 refine⟨i1,by rw[i2,bM];omega,?_,fun j hj k hk=>?_,?_,fun j=>?_⟩
 ·rw[Xj,pU]
  conv=>lhs;rw[i2,h.eq]
  simp
 ·rw[Xj] at hj
  rcases dd.1 hj with hj|hj
  ·obtain⟨k0,k1,k2⟩:=h.kid j hj k hk
   have yo:d k.toNat≠0:=by omega
   rw[i3 _ yo,ri j (List.mem_of_mem_take hj)];exact⟨k0,k1,k2⟩
  ·obtain rfl:=bI.1 hj
   obtain⟨k0,k1,k2⟩:=i4 k hk;rw[k2,ri _ him];exact⟨k0,k1,rfl⟩
 ·rw[i3 r (by rw[h.root];decide),h.root]
 ·have:=h.bound j
  have:=h.bound i;rcases i5 j with e|e<;>omega
theorem Lb {T:List Nd} {r:Nat} :∀(f a:Nat) (d:Nat→Nat) (m:List Nat) (d':Nat→Nat) (m':List Nat),Half T r a d m→T.length+1≤f+a→yn T f a d m=some (d',m')→Half T r m'.length d' m':=by
 intro f;induction f with
 | zero =>
  intro a d m d' m' h hf e;have:=h.inv.len;have:=h.le;omega
 | succ f ih =>
  intro a d m d' m' h hf e;rw[yn] at e;cases hi:m[a]? with
  | none =>
   rw[hi] at e;obtain⟨rfl,rfl⟩:d=d'∧m=m':=by simpa using e
   have h1:m.length≤a:=Kz.1 hi;have h2:=h.le;obtain rfl:a=m.length:=by omega
   exact h
  | some i =>
   rw[hi] at e;have e':(match dD T.length (d i+1) (cB T i) d m with
    | none=>none
    | some p=>yn T f (a+1) p.1 p.2)=some (d',m'):=e
   cases hk:dD T.length (d i+1) (cB T i) d m with
   | none=>rw[hk] at e';cases e'
   | some p =>
    rw[hk] at e';exact ih _ _ _ _ _ (h.step hi hk) (by omega) e'
theorem zZ {T:List Nd} {r:Int} (h:eT T r≠0):T.length≤16384∧0≤r∧r<(T.length:Int)∧∃d m,Xi T r.toNat d m:=by
 unfold eT at h;split at h
 ·rename_i hh
  obtain⟨h0,h1,h2⟩:=hh;refine⟨h0,h1,h2,?_⟩;cases e:yn T (T.length+1) 0 (upd (fun _=>0) r.toNat 1) [r.toNat] with
  | none=>rw[e] at h;exact absurd rfl h
  | some p =>
   obtain⟨d,m⟩:=p;rw[e] at h;have hf:=Lb _ _ _ _ _ _ (Half.start (T:=T) (r:=r.toNat) (by omega)) (by omega) e
   have hlen:¬ m.length<T.length:=fun hl=>h (ak hl)
   have:=hf.inv.len;have hm:m.length=T.length:=by omega
   have ht:m.take m.length=m:=zU;refine⟨d,m,hf.inv.nodup,hf.inv.lt,hm,?_,fun i hi=>hf.kid i (by rw[ht];exact hi),hf.root,fun i=>by have:=hf.bound i;omega⟩
   have he:=hf.eq;rw[ht] at he;exact he
 ·exact absurd rfl h
theorem CH {α β:Type} {f:α→List β} :∀{l:List α},(l.flatMap f).Nodup→∀{a b:α} {x:β},a∈l→b∈l→x∈f a→x∈f b→l.Nodup→a=b:=by
 intro l;induction l with
 | nil=>intro _ a b x ha;simp at ha
 | cons c t ih =>
  intro hn a b x ha hb xa xb hl;rw[jd,oR] at hn;have hl':=(mz.1 hl);rcases bb.1 ha with ea|ha'<;>rcases bb.1 hb with eb|hb'
  ·rw[ea,eb]
  ·subst ea
   exact absurd rfl (hn.2.2 x xa x (tV.2 ⟨b,hb',xb⟩))
  ·subst eb
   exact absurd rfl (hn.2.2 x xb x (tV.2 ⟨a,ha',xa⟩))
  ·exact ih hn.2.1 ha' hb' xa xb hl'.2
theorem ua {α β:Type} {f:α→List β} :∀{l:List α},(l.flatMap f).Nodup→∀{a:α},a∈l→(f a).Nodup:=by
 intro l;induction l with
 | nil=>intro _ a ha;simp at ha
 | cons c t ih =>
  intro hn a ha;rw[jd,oR] at hn;rcases bb.1 ha with rfl|ha
  ·exact hn.1
  ·exact ih hn.2.1 ha
theorem Xi.GO {T:List Nd} {r:Nat} {d:Nat→Nat} {m:List Nat} (h:Xi T r d m) {i:Nat} (hi:i<T.length):(cB T i).Nodup:=by
 have h1:=h.nodup;rw[h.eq,mz] at h1;have:=ua h1.2 (h.mem hi);rw[List.Nodup,List.pairwise_map] at this;exact List.Pairwise.imp (fun h e=>h (by rw[e])) this
theorem yq {α:Type} (l:List α) (x:α) (h:l≠[]):l.getLastD x∈l:=by
 induction l with
 | nil=>exact absurd rfl h
 | cons a t ih =>
  cases t with
  | nil=>exact bI.2 rfl
  | cons b t=>exact bX _ (ih (by simp))
end Go.Proofs.YteflkdlaoiijbaaGreatDoor
namespace Go.Proofs.YteflkdlaoiijbaaGreatDoor
def dE (T:List Nd) (i:Nat):Int:=match T[i]? with|some x=>x.kind|none=>0
section
variable (fo:Nd→Bool) (ko:Int→Int→List Int→Bool) (so:Int→Int) (hd:Nd→List UInt8)
def kE (T:List Nd) (x:Nd):Bool:=decide (1≤x.line) && fo x && ko x.kind x.num (x.kids.map fun k=>so (dE T k.toNat))
def pn (T:List Nd) (r:Int):Bool:=decide (eT T r≠0) && decide (eT T r≤100) && decide (dE T r.toNat=18) && T.all (kE fo ko so T)
theorem gp {T:List Nd} {r:Int}:pn fo ko so T r=true↔eT T r≠0∧eT T r≤100∧dE T r.toNat=18∧∀(i:Nat) (x:Nd),T[i]? = some x→kE fo ko so T x=true:=by
 unfold pn;simp only[dk,je,List.all_eq_true,and_assoc];constructor
 ·rintro⟨h1,h2,h3,h4⟩
  exact⟨h1,h2,h3,fun i x hx=>h4 x (ba hx)⟩
 ·rintro⟨h1,h2,h3,h4⟩
  refine⟨h1,h2,h3,fun x hx=>?_⟩
  obtain⟨i,hi⟩:=kT.1 hx;exact h4 i x hi
theorem ue {T:List Nd} {x:Nd}:kE fo ko so T x=true↔1≤x.line∧fo x=true∧ko x.kind x.num (x.kids.map fun k=>so (dE T k.toNat))=true:=by
 unfold kE;simp only[dk,je,and_assoc]
theorem ji {T:List Nd} {i:Nat} {x:Nd} (h:T[i]? = some x):cB T i=x.kids:=by unfold cB;rw[h]
theorem og {T:List Nd} {i:Nat} {x:Nd} (h:T[i]? = some x):dE T i=x.kind:=by unfold dE;rw[h]
theorem GP {T:List Nd} {r:Int} (h:pn fo ko so T r=true) :∃d m,Xi T r.toNat d m∧0≤r∧r<(T.length:Int):=by
 obtain⟨h0,_⟩:=(gp fo ko so).1 h;obtain⟨_,VH,hr1,d,m,hs⟩:=zZ h0;exact⟨d,m,hs,VH,hr1⟩
end
end Go.Proofs.YteflkdlaoiijbaaGreatDoor
namespace Go.Proofs.YteflkdlaoiijbaaGreatDoor
inductive Ast where
 | mk (h:Nd) (kids:List Ast)
def Ast.hd:Ast→Nd
 | .mk h _=>h
mutual
def Ast.depth:Ast→Nat
 | .mk _ ks=>Ast.ng ks+1
def Ast.ng:List Ast→Nat
 | []=>0
 | a::xz=>max (Ast.depth a) (Ast.ng xz)
end
mutual
def Ast.size:Ast→Nat
 | .mk _ ks=>Ast.al ks+1
def Ast.al:List Ast→Nat
 | []=>0
 | a::xz=>Ast.size a+Ast.al xz
end
mutual
def gW (T:List Nd):Ast→Nat→List Nat→Prop
 | .mk h xz,i,js=>∃x sz,T[i]? = some x∧x={ h with kids:=x.kids}∧bo T xz x.kids sz∧js=i::sz
def bo (T:List Nd):List Ast→List Int→List Nat→Prop
 | [],ks,js=>ks=[]∧js=[]
 | a::xz,ks,js=>∃(k:Nat) (iz:List Int) (j1 j2:List Nat),ks=(k:Int)::iz∧gW T a k j1∧bo T xz iz j2∧js=j1++j2
end
def wN (T:List Nd) (i:Nat):List Nat:=(cB T i).map Int.toNat
theorem gW.root {T:List Nd} {a:Ast} {i:Nat} {js:List Nat} (h:gW T a i js):i∈js∧dE T i=a.hd.kind∧i<T.length:=by
 cases a with
 | mk hd xz =>
  unfold gW at h;obtain⟨x,sz,hx,he,_,rfl⟩:=h;refine⟨bQ ..,?_,(aL.1 hx).1⟩;rw[og hx,he];rfl
mutual
theorem gW.lt {T:List Nd} :∀(a:Ast) (i:Nat) (js:List Nat),gW T a i js→∀j∈js,j<T.length
 | .mk h xz,i,js,hr=>by
  unfold gW at hr;obtain⟨x,sz,hx,_,hs,rfl⟩:=hr;intro j hj;rcases bb.1 hj with rfl|hj
  ·exact(aL.1 hx).1
  ·exact bo.lt xz x.kids sz hs j hj
theorem bo.lt {T:List Nd} :∀(xz:List Ast) (ks:List Int) (js:List Nat),bo T xz ks js→∀j∈js,j<T.length
 | [],ks,js,hr=>by
  unfold bo at hr;obtain⟨_,rfl⟩:=hr;intro j hj;simp at hj
 | a::xz,ks,js,hr=>by
  unfold bo at hr;obtain⟨k,iz,j1,j2,_,h1,h2,rfl⟩:=hr;intro j hj;rcases dd.1 hj with hj|hj
  ·exact gW.lt a k j1 h1 j hj
  ·exact bo.lt xz iz j2 h2 j hj
end
mutual
/-- A tree lies in a longer list xz it did. -/
theorem gW.more {T T':List Nd} (hT :∀(i:Nat) x,T[i]? = some x→T'[i]? = some x) :∀(a:Ast) (i:Nat) (js:List Nat),gW T a i js→gW T' a i js
 | .mk h xz,i,js,hr=>by
  unfold gW at hr ⊢;obtain⟨x,sz,hx,he,hs,rfl⟩:=hr;exact⟨x,sz,hT i x hx,he,bo.more hT xz x.kids sz hs,rfl⟩
theorem bo.more {T T':List Nd} (hT :∀(i:Nat) x,T[i]? = some x→T'[i]? = some x) :∀(xz:List Ast) (ks:List Int) (js:List Nat),bo T xz ks js→bo T' xz ks js
 | [],ks,js,hr=>by
  unfold bo at hr ⊢;exact hr
 | a::xz,ks,js,hr=>by
  unfold bo at hr ⊢;obtain⟨k,iz,j1,j2,hk,h1,h2,rfl⟩:=hr;exact⟨k,iz,j1,j2,hk,gW.more hT a k j1 h1,bo.more hT xz iz j2 h2,rfl⟩
end
mutual
theorem gW.len {T:List Nd} :∀(a:Ast) (i:Nat) (js:List Nat),gW T a i js→js.length=a.size
 | .mk h xz,i,js,hr=>by
  unfold gW at hr;obtain⟨x,sz,_,_,hs,rfl⟩:=hr;rw[List.length_cons,bo.len xz x.kids sz hs,Ast.size]
theorem bo.len {T:List Nd} :∀(xz:List Ast) (ks:List Int) (js:List Nat),bo T xz ks js→js.length=Ast.al xz
 | [],ks,js,hr=>by
  unfold bo at hr;obtain⟨_,rfl⟩:=hr;rfl
 | a::xz,ks,js,hr=>by
  unfold bo at hr;obtain⟨k,iz,j1,j2,_,h1,h2,rfl⟩:=hr;rw[bM,gW.len a k j1 h1,bo.len xz iz j2 h2,Ast.al]
end
mutual
/-- The root, and what is named: all of them. -/
theorem gW.perm {T:List Nd} :∀(a:Ast) (i:Nat) (js:List Nat),gW T a i js→js.Perm (i::js.flatMap (wN T))
 | .mk h xz,i,js,hr=>by
  unfold gW at hr;obtain⟨x,sz,hx,_,hs,rfl⟩:=hr;refine List.Perm.cons i ?_;have h1:wN T i=x.kids.map Int.toNat:=by unfold wN;rw[ji hx]
  rw[jd,h1];exact bo.perm xz x.kids sz hs
theorem bo.perm {T:List Nd} :∀(xz:List Ast) (ks:List Int) (js:List Nat),bo T xz ks js→js.Perm (ks.map Int.toNat++js.flatMap (wN T))
 | [],ks,js,hr=>by
  unfold bo at hr;obtain⟨rfl,rfl⟩:=hr;exact List.Perm.nil
 | a::xz,ks,js,hr=>by
  unfold bo at hr;obtain⟨k,iz,j1,j2,rfl,h1,h2,rfl⟩:=hr;have p1:=gW.perm a k j1 h1;have p2:=bo.perm xz iz j2 h2;rw[pU,gi,iJ,dB];refine(p1.append p2).trans ?_;rw[dB];refine List.Perm.cons k ?_;rw[←eS,←eS];exact List.Perm.append_right _ List.perm_append_comm
end
mutual
/-- aau holds the root and what its members name holds all. -/
theorem gW.closed {T:List Nd} {m:List Nat} (hm :∀i∈m,∀k∈cB T i,k.toNat∈m) :∀(a:Ast) (i:Nat) (js:List Nat),gW T a i js→i∈m→∀j∈js,j∈m
 | .mk h xz,i,js,hr,hi=>by
  unfold gW at hr;obtain⟨x,sz,hx,_,hs,rfl⟩:=hr;intro j hj;rcases bb.1 hj with rfl|hj
  ·exact hi
  ·exact bo.closed hm xz x.kids sz hs (fun k hk=>hm i hi k (by rw[ji hx];exact hk)) j hj
theorem bo.closed {T:List Nd} {m:List Nat} (hm :∀i∈m,∀k∈cB T i,k.toNat∈m) :∀(xz:List Ast) (ks:List Int) (js:List Nat),bo T xz ks js→(∀k∈ks,k.toNat∈m)→∀j∈js,j∈m
 | [],ks,js,hr,_=>by
  unfold bo at hr;obtain⟨_,rfl⟩:=hr;intro j hj;simp at hj
 | a::xz,ks,js,hr,hk=>by
  unfold bo at hr;obtain⟨k,iz,j1,j2,rfl,h1,h2,rfl⟩:=hr;intro j hj;rcases dd.1 hj with hj|hj
  ·exact gW.closed hm a k j1 h1 (by simpa using hk k (bQ ..)) j hj
  ·exact bo.closed hm xz iz j2 h2 (fun z hz=>hk z (bX _ hz)) j hj
end
mutual
/-- How deep the nodes are, by whoever counts from parents to kids. -/
theorem gW.uf {T:List Nd} {d:Nat→Nat} :∀(a:Ast) (i:Nat) (js:List Nat),gW T a i js→(∀j∈js,∀k∈cB T j,d k.toNat=d j+1)→(∀j∈js,d j+1≤d i+a.depth)∧∃j∈js,d j+1=d i+a.depth
 | .mk h xz,i,js,hr,hd=>by
  unfold gW at hr;obtain⟨x,sz,hx,_,hs,rfl⟩:=hr;have h1:=bo.uf (v:=d i) xz x.kids sz hs (fun j hj=>hd j (bX _ hj)) (fun k hk=>hd i (bQ ..) k (by rw[ji hx];exact hk))
  rw[Ast.depth];refine⟨fun j hj=>?_,?_⟩
  ·rcases bb.1 hj with rfl|hj
   ·omega
   ·have:=h1.1 j hj
    omega
  ·by_cases h0:xz=[]
   ·subst h0
    exact⟨i,bQ ..,by rw[Ast.ng]⟩
   ·obtain⟨j,hj,he⟩:=h1.2 h0
    exact⟨j,bX _ hj,by omega⟩
theorem bo.uf {T:List Nd} {d:Nat→Nat} {v:Nat} :∀(xz:List Ast) (ks:List Int) (js:List Nat),bo T xz ks js→(∀j∈js,∀k∈cB T j,d k.toNat=d j+1)→(∀k∈ks,d k.toNat=v+1)→(∀j∈js,d j≤v+Ast.ng xz)∧(xz≠[]→∃j∈js,d j=v+Ast.ng xz)
 | [],ks,js,hr,_,_=>by
  unfold bo at hr;obtain⟨_,rfl⟩:=hr;exact⟨fun j hj=>by simp at hj,fun h=>absurd rfl h⟩
 | a::xz,ks,js,hr,hd,hk=>by
  unfold bo at hr;obtain⟨k,iz,j1,j2,rfl,h1,h2,rfl⟩:=hr;have e1:=gW.uf a k j1 h1 (fun j hj=>hd j (gh _ hj))
  have e2:=bo.uf (v:=v) xz iz j2 h2 (fun j hj=>hd j (jc _ hj)) (fun z hz=>hk z (bX _ hz))
  have hv:d k=v+1:=by simpa using hk k (bQ ..)
  rw[Ast.ng];refine⟨fun j hj=>?_,fun _=>?_⟩
  ·rcases dd.1 hj with hj|hj
   ·have:=e1.1 j hj
    omega
   ·have:=e2.1 j hj
    omega
  ·by_cases hle:Ast.ng xz≤a.depth
   ·obtain⟨j,hj,he⟩:=e1.2
    exact⟨j,gh _ hj,by omega⟩
   ·have h0:xz≠[]:=fun h=>by subst h;exact hle (by rw[Ast.ng];omega)
    obtain⟨j,hj,he⟩:=e2.2 h0;exact⟨j,jc _ hj,by omega⟩
end
theorem z7 {N v:Nat} :∀(ks:List Int) (d:Nat→Nat) (m:List Nat),(∀k∈ks,0≤k∧k<(N:Int)∧d k.toNat=0)→(ks.map Int.toNat).Nodup→∃p,dD N v ks d m=some p:=by
 intro ks;induction ks with
 | nil=>intro d m _ _;exact⟨_,rfl⟩
 | cons k ks ih =>
  intro d m h hn;obtain⟨h0,h1,h2⟩:=h k (bQ ..);rw[gi,mz] at hn;rw[dD,ak ⟨h0,h1,h2⟩];refine ih _ _ (fun z hz=>?_) hn.2
  obtain⟨z0,z1,z2⟩:=h z (bX _ hz);refine⟨z0,z1,?_⟩;have hne:z.toNat≠k.toNat:=fun e=>hn.1 (by rw[←e];exact j6 hz)
  rw[gm _ _ hne];exact z2
theorem GQ :∀(N:Nat) (m:List Nat),(∀j,j<N→j∈m)→N≤m.length:=by
 intro N;induction N with
 | zero=>intro m _;exact bx _
 | succ N ih =>
  intro m h;have hN:=h N (du _);have h1:=ih (m.erase N) (fun j hj=>(List.mem_erase_of_ne (by omega)).2 (h j (by omega)))
  rw[List.length_erase_of_mem hN] at h1;have:=List.length_pos_of_mem hN;omega
structure GR (a:Nat) (d:Nat→Nat) (m:List Nat):Prop where
 le:m.Pairwise fun x y=>d x≤d y
 top :∀i,m[a]? = some i→∀x∈m,d x≤d i+1
theorem GR.step {T:List Nd} {r a i:Nat} {d d':Nat→Nat} {m m':List Nat} (hh:Half T r a d m) (h:GR a d m) (hi:m[a]? = some i) (e:dD T.length (d i+1) (cB T i) d m=some (d',m')):GR (a+1) d' m':=by
 obtain⟨_,i2,i3,i4,_⟩:=pk (by omega) _ _ _ _ _ hh.inv e
 have ri :∀j∈m,d' j=d j:=fun j hj=>i3 j ((hh.inv.iff j).2 hj)
 have him:i∈m:=ba hi;have GS :∀y∈(cB T i).map Int.toNat,d' y=d i+1:=fun y hy=>by
  obtain⟨k,hk,rfl⟩:=jA.1 hy;exact(i4 k hk).2.2
 have hp:m'.Pairwise fun x y=>d' x≤d' y:=by
  rw[i2,List.pairwise_append];refine⟨?_,?_,fun x hx y hy=>?_⟩
  ·refine KG (fun hx hy hxy=>?_) h.le
   rw[ri _ hx,ri _ hy];exact hxy
  ·exact KG (R:=fun _ _=>True) (fun hx hy _=>by rw[GS _ hx,GS _ hy];exact ai _) (List.pairwise_of_forall (fun _ _=>trivial))
  ·rw[ri x hx,GS y hy]
   exact h.top i hi x hx
 refine⟨hp,fun i' hi' x hx=>?_⟩
 have hia:m'[a]? = some i:=by rw[i2,kS (aL.1 hi).1];exact hi
 have h1:d' i≤d' i':=by
  obtain⟨la,ea⟩:=aL.1 hia;obtain⟨lb,eb⟩:=aL.1 hi';have:=List.pairwise_iff_getElem.1 hp a (a+1) la lb (du _);rw[ea,eb] at this;exact this
 rw[ri i him] at h1;rw[i2] at hx;rcases dd.1 hx with hx|hx
 ·have:=h.top i hi x hx
  rw[ri x hx];omega
 ·rw[GS x hx]
  omega
theorem Rz {T:List Nd} {r:Nat} {js:List Nat} (dN:(r::js.flatMap (wN T)).Nodup) (hjs:js.Nodup) (z8 :∀i∈js,∀k∈cB T i,0≤k∧k<(T.length:Int)∧k.toNat∈js) :
  ∀(f a:Nat) (d:Nat→Nat) (m:List Nat),Half T r a d m→GR a d m→(∀j∈m,j∈js)→T.length+1≤f+a→∃d' m',yn T f a d m=some (d',m')∧Half T r m'.length d' m'∧GR m'.length d' m'∧∀j∈m',j∈js:=by
 intro f;induction f with
 | zero =>
  intro a d m h _ _ hf;have:=h.inv.len;have:=h.le;omega
 | succ f ih =>
  intro a d m h hm sY hf;cases hi:m[a]? with
  | none =>
   have h1:m.length≤a:=Kz.1 hi;have h2:=h.le;obtain rfl:a=m.length:=by omega
   exact⟨d,m,by rw[yn,hi],h,hm,sY⟩
  | some i =>
   have him:=ba hi;have vY:=sY i him;have hal:=(aL.1 hi).1;have VI :∀k∈cB T i,k.toNat∈wN T i:=fun k hk=>j6 hk
   have hz :∀k∈cB T i,0≤k∧k<(T.length:Int)∧d k.toNat=0:=fun k hk=>by
    obtain⟨k0,k1,_⟩:=z8 i vY k hk;refine⟨k0,k1,Classical.byContradiction fun hne=>?_⟩
    have yo:=(h.inv.iff _).1 hne;rw[h.eq] at yo;rcases bb.1 yo with e|yo
    ·rw[mz] at dN
     exact dN.1 (tV.2 ⟨i,vY,e▸VI k hk⟩)
    ·obtain⟨i',hi',sZ⟩:=tV.1 yo
     rw[mz] at dN;have he:i=i':=CH dN.2 vY (sY i' (List.mem_of_mem_take hi')) (VI k hk) sZ hjs;subst he;have hn:=h.inv.nodup;rw[←KJ a m,oR] at hn;refine hn.2.2 i hi' i ?_ rfl;rw[kT];exact⟨0,by rw[zS];exact hi⟩
   have CI:((cB T i).map Int.toNat).Nodup:=ua (mz.1 dN).2 vY;obtain⟨⟨d',m'⟩,hp⟩:=z7 (v:=d i+1) (cB T i) d m hz CI;obtain⟨d2,m2,h1,h2⟩:=ih (a+1) d' m' (h.step hi hp) (hm.step h hi hp) (fun j hj=>by
    have:=(pk (by omega) _ _ _ _ _ h.inv hp).2.1
    rw[this] at hj;rcases dd.1 hj with hj|hj
    ·exact sY j hj
    ·obtain⟨k,hk,rfl⟩:=jA.1 hj
     exact(z8 i vY k hk).2.2) (by omega)
   refine⟨d2,m2,?_,h2⟩;simp only[yn,hi,hp];exact h1
end Go.Proofs.YteflkdlaoiijbaaGreatDoor
namespace Go.Proofs.YteflkdlaoiijbaaGreatDoor
mutual
theorem gW.kids {T:List Nd} :∀(a:Ast) (i:Nat) (js:List Nat),gW T a i js→∀j∈js,∀k∈cB T j,0≤k∧k.toNat∈js
 | .mk h xz,i,js,hr=>by
  unfold gW at hr;obtain⟨x,sz,hx,_,hs,rfl⟩:=hr;have h1:=bo.kids xz x.kids sz hs;intro j hj k hk;rcases bb.1 hj with rfl|hj
  ·rw[ji hx] at hk
   have:=h1.1 k hk;exact⟨this.1,bX _ this.2⟩
  ·have:=h1.2 j hj k hk
   exact⟨this.1,bX _ this.2⟩
theorem bo.kids {T:List Nd} :∀(xz:List Ast) (ks:List Int) (js:List Nat),bo T xz ks js→(∀k∈ks,0≤k∧k.toNat∈js)∧∀j∈js,∀k∈cB T j,0≤k∧k.toNat∈js
 | [],ks,js,hr=>by
  unfold bo at hr;obtain⟨rfl,rfl⟩:=hr;exact⟨fun k hk=>by simp at hk,fun j hj=>by simp at hj⟩
 | a::xz,ks,js,hr=>by
  unfold bo at hr;obtain⟨k,iz,j1,j2,rfl,h1,h2,rfl⟩:=hr;have e1:=gW.kids a k j1 h1;have e2:=bo.kids xz iz j2 h2;refine⟨fun z hz=>?_,fun j hj z hz=>?_⟩
  ·rcases bb.1 hz with rfl|hz
   ·exact⟨by omega,gh _ (by rw[iJ];exact h1.root.1)⟩
   ·have:=e2.1 z hz
    exact⟨this.1,jc _ this.2⟩
  ·rcases dd.1 hj with hj|hj
   ·have:=e1 j hj z hz
    exact⟨this.1,gh _ this.2⟩
   ·have:=e2.2 j hj z hz
    exact⟨this.1,jc _ this.2⟩
end
theorem GU {d:Nat→Nat} {m:List Nat} (h:m.Pairwise fun x y=>d x≤d y) {x:Nat} (hx:x∈m):d x≤d (m.getLastD 0):=by
 obtain⟨i,hi,rfl⟩:=List.getElem_of_mem hx;have hne:m≠[]:=fun e=>by subst e;exact absurd hi (jz _)
 have hl:m.getLastD 0=m[m.length-1]'(by omega):=by
  rw[List.getLastD_eq_getLast?,List.getLast?_eq_getElem?,bH (by omega)]
  rfl
 rw[hl];by_cases e:i=m.length-1
 ·subst e;exact ai _
 ·exact List.pairwise_iff_getElem.1 h i (m.length-1) hi (by omega) (by omega)
theorem Aa {T:List Nd} {r:Nat} {a:Ast} {js:List Nat} (h:gW T a r js) (hn:js.Nodup) (hl:js.length=T.length) (hN:T.length≤16384):eT T (r:Int)=a.depth:=by
 obtain⟨hrj,_,hrl⟩:=h.root;have hlt:=gW.lt a r js h;have z8 :∀i∈js,∀k∈cB T i,0≤k∧k<(T.length:Int)∧k.toNat∈js:=fun i hi k hk=>by
  obtain⟨k0,k1⟩:=gW.kids a r js h i hi k hk;have:=hlt _ k1;exact⟨k0,by omega,k1⟩
 have dN:=(gW.perm a r js h).nodup_iff.1 hn;have hm0:GR 0 (upd (fun _=>0) r 1) [r]:=⟨by simp,fun i hi x hx=>by
  obtain rfl:r=i:=by simpa using hi
  obtain rfl:=bI.1 hx;omega⟩
 obtain⟨d,m,hb,hh,hm,sY⟩:=Rz dN hn z8 (T.length+1) 0 _ [r] (Half.start hrl) hm0 (fun j hj=>by
  obtain rfl:=bI.1 hj;exact hrj) (by omega)
 have Xj:m.take m.length=m:=zU;have heq:=hh.eq;have hk:=hh.kid;rw[Xj] at heq hk;have hrm:r∈m:=by rw[heq];exact bQ ..
 have CJ :∀i∈m,∀k∈cB T i,k.toNat∈m:=fun i hi k hk=>by
  rw[heq];exact bX _ (tV.2 ⟨i,hi,j6 hk⟩)
 have hall:=gW.closed CJ a r js h hrm;have hlen:m.length=T.length:=by
  have h1:=hh.inv.len;have h2:=GQ T.length m (fun j hj=>hall j (rh hn hlt hl hj))
  omega
 have e:eT T (r:Int)=d (m.getLastD 0):=by
  unfold eT;rw[ak ⟨hN,by omega,by omega⟩,iJ,hb]
  exact af (by show ¬ m.length<T.length;omega)
 obtain⟨h1,j,hj,he⟩:=gW.uf (d:=d) a r js h (fun j hj k rj=>(hk j (hall j hj) k rj).2.2)
 have aeh:=hh.root;have hne:m≠[]:=fun e=>by rw[e] at hrm;simp at hrm
 have h2:=h1 _ (sY _ (yq m 0 hne));have h3:=GU hm.le (hall j hj);rw[e];omega
section
variable (fo:Nd→Bool) (ko:Int→Int→List Int→Bool) (so:Int→Int) (hd:Nd→List UInt8)
mutual
def Ast.ok:Ast→Bool
 | .mk h ks=>decide (1≤h.line) && fo h && ko h.kind h.num (ks.map fun k=>so k.hd.kind) && Ast.QV ks
def Ast.QV:List Ast→Bool
 | []=>true
 | a::xz=>Ast.ok a && Ast.QV xz
end
variable {fo ko so hd}
theorem bo.aav {T:List Nd} :∀(xz:List Ast) (ks:List Int) (js:List Nat),bo T xz ks js→(ks.map fun k=>so (dE T k.toNat))=xz.map fun k=>so k.hd.kind:=by
 intro xz;induction xz with
 | nil =>
  intro ks js hr;unfold bo at hr;obtain⟨rfl,_⟩:=hr;rfl
 | cons a xz ih =>
  intro ks js hr;unfold bo at hr;obtain⟨k,iz,j1,j2,rfl,h1,h2,rfl⟩:=hr;rw[gi,gi,ih iz j2 h2,iJ,h1.root.2.1]
mutual
theorem gW.all {T:List Nd} (GV :∀x ks,fo { x with kids:=ks}=fo x) :∀(a:Ast) (i:Nat) (js:List Nat),gW T a i js→(Ast.ok fo ko so a=true↔∀j∈js,∀x,T[j]? = some x→kE fo ko so T x=true)
 | .mk h xz,i,js,hr=>by
  unfold gW at hr;obtain⟨x,sz,hx,he,hs,rfl⟩:=hr;have h1:=bo.all GV xz x.kids sz hs;have h2:kE fo ko so T x=(decide (1≤h.line) && fo h && ko h.kind h.num (xz.map fun k=>so k.hd.kind)):=by
   unfold kE;rw[bo.aav (so:=so) xz x.kids sz hs];have e1:x.line=h.line:=by rw[he]
   have e2:fo x=fo h:=by rw[he,GV]
   have e3:x.kind=h.kind:=by rw[he]
   have e4:x.num=h.num:=by rw[he]
   rw[e1,e2,e3,e4]
  rw[Ast.ok,dk,←h2,h1];constructor
  ·rintro⟨a1,a2⟩ j hj y hy
   rcases bb.1 hj with rfl|hj
   ·obtain rfl:=gG (hx.symm.trans hy)
    exact a1
   ·exact a2 j hj y hy
  ·intro hall
   exact⟨hall i (bQ ..) x hx,fun j hj y hy=>hall j (bX _ hj) y hy⟩
theorem bo.all {T:List Nd} (GV :∀x ks,fo { x with kids:=ks}=fo x) :∀(xz:List Ast) (ks:List Int) (js:List Nat),bo T xz ks js→(Ast.QV fo ko so xz=true↔∀j∈js,∀x,T[j]? = some x→kE fo ko so T x=true)
 | [],ks,js,hr=>by
  unfold bo at hr;obtain⟨_,rfl⟩:=hr;rw[Ast.QV];exact⟨fun _ j hj=>by simp at hj,fun _=>rfl⟩
 | a::xz,ks,js,hr=>by
  unfold bo at hr;obtain⟨k,iz,j1,j2,_,h1,h2,rfl⟩:=hr;rw[Ast.QV,dk,gW.all GV a k j1 h1,bo.all GV xz iz j2 h2];constructor
  ·rintro⟨a1,a2⟩ j hj y hy
   rcases dd.1 hj with hj|hj
   ·exact a1 j hj y hy
   ·exact a2 j hj y hy
  ·intro hall
   exact⟨fun j hj=>hall j (gh _ hj),fun j hj=>hall j (jc _ hj)⟩
end
theorem wO {T:List Nd} {r:Nat} {a:Ast} {js:List Nat} (GV :∀x ks,fo { x with kids:=ks}=fo x) (h:gW T a r js) (hn:js.Nodup) (hl:js.length=T.length) (hN:T.length≤16384) :
  pn fo ko so T (r:Int)=(decide (a.depth≤100) && decide (a.hd.kind=18) && Ast.ok fo ko so a):=by
 have hd:=Aa h hn hl hN;obtain⟨_,hk,_⟩:=h.root;have hlt:=gW.lt a r js h;have h0:a.depth≠0:=by cases a with|mk h ks=>rw[Ast.depth];omega
 have hall:T.all (kE fo ko so T)=Ast.ok fo ko so a:=by
  rw[mB,List.all_eq_true,gW.all GV a r js h];constructor
  ·intro h1 j _ x hx
   exact h1 x (ba hx)
  ·intro h1 x hx
   obtain⟨j,hj,rfl⟩:=List.getElem_of_mem hx;exact h1 j (rh hn hlt hl hj) _ (bH hj)
 unfold pn;rw[hd,iJ,hk,hall,bF h0,kV]
end
end Go.Proofs.YteflkdlaoiijbaaGreatDoor
namespace Go.Proofs.YteflkdlaoiijbaaGreatDoor
abbrev ah:=Int×Int×Int×List UInt8
inductive G (N:Type) (V:N→Type) (α:Type):Type where
 | ret:α→G N V α
 | bad:G N V α
 | tok:(ah→G N V α)→G N V α
 | look:(ah→G N V α)→G N V α
 | call:(n:N)→(V n→G N V α)→G N V α
section
variable {N:Type} {V:N→Type} (body :∀n,G N V (V n))
inductive P:{α:Type}→G N V α→List ah→Except Int (α×List ah)→Prop
 | ret {α:Type} {a:α} {ts:List ah}:P (.ret a) ts (.ok (a,ts))
 | bad {α:Type} {t:ah} {ts:List ah}:P (.bad:G N V α) (t::ts) (.error t.2.1)
 | tok {α:Type} {f:ah→G N V α} {t:ah} {ts:List ah} {r:Except Int (α×List ah)}:P (f t) ts r→P (.tok f) (t::ts) r
 | look {α:Type} {f:ah→G N V α} {t:ah} {ts:List ah} {r:Except Int (α×List ah)}:P (f t) (t::ts) r→P (.look f) (t::ts) r
 | call {α:Type} {n:N} {k:V n→G N V α} {ts au:List ah} {v:V n} {r:Except Int (α×List ah)}:P (body n) ts (.ok (v,au))→P (k v) au r→P (.call n k) ts r
 | fQ {α:Type} {n:N} {k:V n→G N V α} {ts:List ah} {e:Int}:P (body n) ts (.error e)→P (.call n k) ts (.error e)
variable {body}
theorem P.one {α:Type} {g:G N V α} {ts:List ah} {r r':Except Int (α×List ah)} (h:P body g ts r) (h':P body g ts r'):r=r':=by
 induction h with
 | ret=>cases h';rfl
 | bad=>cases h';rfl
 | tok _ ih=>cases h' with|tok h2=>exact ih h2
 | look _ ih=>cases h' with|look h2=>exact ih h2
 | call _ _ QW QX =>
  cases h' with
  | call a b =>
   have e:=QW a;injection e with e;injection e with e1 e2;subst e1 e2;exact QX b
  | fQ a=>cases QW a
 | fQ _ ih =>
  cases h' with
  | call a b=>cases ih a
  | fQ a =>
   have e:=ih a;injection e with e;rw[e]
theorem P.tail {α:Type} {g:G N V α} {ts:List ah} {r:Except Int (α×List ah)} (h:P body g ts r) :∀a au,r=.ok (a,au)→∃c,ts=c++au:=by
 induction h with
 | ret=>rintro a au e;injection e with e;injection e with _ e2;exact⟨[],by rw[e2];rfl⟩
 | bad=>intro a au e;cases e
 | @tok _ f t ts r _ ih=>intro a au e;obtain⟨c,hc⟩:=ih a au e;exact⟨t::c,by rw[hc];rfl⟩
 | look _ ih=>exact ih
 | call _ _ QW QX =>
  intro a au e;obtain⟨c1,h1⟩:=QW _ _ rfl;obtain⟨c2,h2⟩:=QX a au e;exact⟨c1++c2,by rw[h1,h2,eS]⟩
 | fQ _ _=>intro a au e;cases e
theorem P.ack {α:Type} {g:G N V α} {ts:List ah} {r:Except Int (α×List ah)} (h:P body g ts r) :∀(a:α) (us rs X Y:List ah),ts=us++X→r=.ok (a,rs++X)→rs≠[]→P body g (us++Y) (.ok (a,rs++Y)):=by
 induction h with
 | ret =>
  intro a us rs X Y e1 e2 _;injection e2 with e2;injection e2 with e2 e3;subst e2;rw[e1] at e3;obtain rfl:=KH e3;exact .ret
 | bad=>intro a us rs X Y _ e2 _;cases e2
 | @tok _ f t ts r h ih =>
  intro a us rs X Y e1 e2 hne;subst e2;obtain⟨c,hc⟩:=h.tail _ _ rfl;cases us with
  | nil =>
   have:=ay List.length e1;rw[hc] at this;simp at this;have hr:rs.length≠0:=fun e=>hne (mw e)
   omega
  | cons u us =>
   injection e1 with e3 e4;subst e3;exact .tok (ih a us rs X Y e4 rfl hne)
 | @look _ f t ts r h ih =>
  intro a us rs X Y e1 e2 hne;subst e2;obtain⟨c,hc⟩:=h.tail _ _ rfl;cases us with
  | nil =>
   have e5:([]:List ah)++X=c++rs++X:=by rw[←e1,hc,eS]
   have:=ay List.length e5;simp at this;exact absurd (mw (by omega)) hne
  | cons u us =>
   have e3:t=u:=by injection e1
   subst e3;exact .look (ih a (t::us) rs X Y e1 rfl hne)
 | @call _ n k ts au v r h1 h2 QW QX =>
  intro a us rs X Y e1 e2 hne;subst e2;obtain⟨c1,hc1⟩:=h1.tail _ _ rfl;obtain⟨c2,hc2⟩:=h2.tail _ _ rfl;have e3:us++X=(c1++(c2++rs))++X:=by rw[←e1,hc1,hc2];simp
  obtain rfl:=KH e3;have hm:c2++rs≠[]:=fun e=>hne (EA.1 e).2
  exact .call (QW v _ (c2++rs) X Y e1 (by rw[hc2,eS]) hm) (QX a (c2++rs) rs X Y (by rw[hc2,eS]) rfl hne)
 | fQ _ _=>intro a us rs X Y _ e2 _;cases e2
def Wp (Post :∀n,List ah→V n→List ah→Prop) {α:Type}:G N V α→List ah→(α→List ah→Prop)→Prop
 | .ret a,ts,Q=>Q a ts
 | .bad,_,_=>True
 | .tok f,ts,Q=>∀t au,ts=t::au→Wp Post (f t) au Q
 | .look f,ts,Q=>∀t au,ts=t::au→Wp Post (f t) ts Q
 | .call n k,ts,Q=>∀v au,Post n ts v au→Wp Post (k v) au Q
theorem P.post {Post :∀n,List ah→V n→List ah→Prop} (hb :∀n ts,Wp Post (body n) ts (Post n ts)) {α:Type} {g:G N V α} {ts:List ah} {r:Except Int (α×List ah)} (h:P body g ts r) :
  ∀a au,r=.ok (a,au)→∀Q:α→List ah→Prop,Wp Post g ts Q→Q a au:=by
 induction h with
 | ret =>
  intro a au e Q hq;injection e with e;injection e with e1 e2;subst e1 e2;exact hq
 | bad=>intro a au e;cases e
 | tok _ ih=>intro a au e Q hq;exact ih a au e Q (hq _ _ rfl)
 | look _ ih=>intro a au e Q hq;exact ih a au e Q (hq _ _ rfl)
 | @call _ n k ts eB v r h1 h2 QW QX =>
  intro a au e Q hq;exact QX a au e Q (hq v eB (QW v eB rfl _ (hb n ts)))
 | fQ _ _=>intro a au e;cases e
theorem P.holds {Post :∀n,List ah→V n→List ah→Prop} (hb :∀n ts,Wp Post (body n) ts (Post n ts)) {n:N} {ts au:List ah} {v:V n} (h:P body (body n) ts (.ok (v,au))):Post n ts v au :=
 h.post hb v au rfl _ (hb n ts)
end
end Go.Proofs.YteflkdlaoiijbaaGreatDoor
namespace Go.Proofs.YteflkdlaoiijbaaGreatDoor
def bu (l:List UInt8):ByteArray:=⟨l.toArray⟩
def ax (s:List UInt8) (t:ah):Bool:=(decide (t.1=2) || decide (t.1=5)) && decide (t.2.2.2=s)
def ig:List UInt8:=[101,110,100]
def sA:List UInt8:=[101,108,115,101]
def j9:List UInt8:=[101,108,115,101,105,102]
def po:List UInt8:=[117,110,116,105,108]
def jj:List UInt8:=[114,101,116,117,114,110]
def nh:List UInt8:=[98,114,101,97,107]
def pX:List UInt8:=[103,111,116,111]
def pY:List UInt8:=[100,111]
def pq:List UInt8:=[119,104,105,108,101]
def lO:List UInt8:=[114,101,112,101,97,116]
def Xk:List UInt8:=[105,102]
def Ab:List UInt8:=[116,104,101,110]
def CK:List UInt8:=[102,111,114]
def wIn:List UInt8:=[105,110]
def bc:List UInt8:=[102,117,110,99,116,105,111,110]
def lP:List UInt8:=[108,111,99,97,108]
def s5:List UInt8:=[110,105,108]
def ni:List UInt8:=[116,114,117,101]
def kF:List UInt8:=[102,97,108,115,101]
def CL:List UInt8:=[110,111,116]
def wOr:List UInt8:=[111,114]
def GW:List UInt8:=[97,110,100]
def wP:List UInt8:=[115,101,108,102]
def ij (t:ah):Bool:=decide (t.1=0) || ax ig t || ax sA t || ax j9 t || ax po t
def nd (k l:Int) (ks:List Ast):Ast:=.mk ⟨k,l,0,0,⟨#[]⟩,[],[]⟩ ks
def kf (k l:Int) (s:ByteArray) (ks:List Ast):Ast:=.mk ⟨k,l,0,0,s,[],[]⟩ ks
def QY (k l op:Int) (ks:List Ast):Ast:=.mk ⟨k,l,op,0,⟨#[]⟩,[],[]⟩ ks
def Cy (k l n:Int) (ks:List Ast):Ast:=.mk ⟨k,l,0,n,⟨#[]⟩,[],[]⟩ ks
def vZ (k l n:Int) (ns:List ByteArray) (ks:List Ast):Ast:=.mk ⟨k,l,0,n,⟨#[]⟩,ns,[]⟩ ks
def jD (t:ah):Option (Int×Nat×Nat) :=
 if ax wOr t then some (19,1,2) else if ax GW t then some (18,2,3)
 else if ax [60] t then some (14,3,4) else if ax [62] t then some (16,3,4) else if ax [60,61] t then some (15,3,4) else if ax [62,61] t then some (17,3,4) else if ax [126,61] t then some (13,3,4) else if ax [61,61] t then some (12,3,4)
 else if ax [124] t then some (7,4,5) else if ax [126] t then some (8,5,6) else if ax [38] t then some (6,6,7)
 else if ax [60,60] t then some (9,7,8) else if ax [62,62] t then some (10,7,8) else if ax [46,46] t then some (11,8,8)
 else if ax [43] t then some (1,9,10) else if ax [45] t then some (2,9,10)
 else if ax [42] t then some (3,10,11) else if ax [47,47] t then some (4,10,11) else if ax [37] t then some (5,10,11) else none
def jZ (t:ah):Option Int:=if ax [45] t then some 20 else if ax [126] t then some 21 else if ax CL t then some 22 else if ax [35] t then some 23 else none
inductive NT where
 | blk|nj (l:List Ast)|ret (at_:Int)|v7|els (l:List Ast)|RC (at_:Int)|RD (at_:Int)|QZ (at_:Int) (x:Ast)|loc (at_:Int)|Ac (at_:Int) (self:List ByteArray)
 | GX (l:List ByteArray)|GY|Q0 (l:List ByteArray)|v8|Q6 (l:List Ast)|Q7 (at_:Int) (l:List Ast)|wQ|aR (x:Ast)|arg|Kf (l:List Ast)|GZ|exp (s:Nat)|lvm (s:Nat) (x:Ast)|una|CN
def VT:NT→Type
 | .nj _ | .els _ | .v8 | .Q6 _ | .arg | .Kf _=>List Ast
 | .GX _=>List ByteArray×Int
 | .GY | .Q0 _=>List ByteArray
 | .blk | .ret _ | .v7 | .RC _ | .RD _ | .QZ _ _ | .loc _ | .Ac _ _ | .Q7 _ _ | .wQ | .aR _ | .GZ | .exp _ | .lvm _ _ | .una | .CN=>Ast
abbrev GL (α:Type):=G NT VT α
def want {α:Type} (s:List UInt8) (k:ah→GL α):GL α:=.look fun t=>if ax s t then .tok k else .bad
def name {α:Type} (k:ah→GL α):GL α:=.look fun t=>if t.1=1 then .tok k else .bad
def take {α:Type} (s:List UInt8) (a b:GL α):GL α:=.look fun t=>if ax s t then .tok fun _=>a else b
def bg :∀n:NT,GL (VT n)
 | .blk=>.look fun t=>.call (.nj []) fun(l:List Ast)=>.ret (nd 18 t.2.1 l)
 | .nj l=>.look fun t =>
   if ij t then .ret l
   else if ax jj t then .tok fun t=>.call (.ret t.2.1) fun(x:Ast)=>.ret (l++[x])
   else if ax [59] t then .tok fun _=>.call (.nj l) fun(l':List Ast)=>.ret l'
   else .call .v7 fun(x:Ast)=>.call (.nj (l++[x])) fun(l':List Ast)=>.ret l'
 | .ret at_=>.look fun t =>
   if ij t then .ret (nd 29 at_ [])
   else if ax [59] t then .tok fun _=>.ret (nd 29 at_ [])
   else .call .v8 fun(l:List Ast)=>take [59] (.ret (nd 29 at_ l)) (.ret (nd 29 at_ l))
 | .v7=>.look fun t =>
   if ax [58,58] t then .tok fun t=>name fun n=>want [58,58] fun _=>.ret (kf 32 t.2.1 (bu n.2.2.2) [])
   else if ax nh t then .tok fun t=>.ret (nd 30 t.2.1 [])
   else if ax pX t then .tok fun t=>name fun n=>.ret (kf 31 t.2.1 (bu n.2.2.2) [])
   else if ax pY t then .tok fun t=>.call .blk fun(b:Ast)=>want ig fun _=>.ret (nd 22 t.2.1 [b])
   else if ax pq t then .tok fun t=>.call (.exp 1) fun(e:Ast)=>want pY fun _=>.call .blk fun(b:Ast)=>want ig fun _=>.ret (nd 23 t.2.1 [e,b])
   else if ax lO t then .tok fun t=>.call .blk fun(b:Ast)=>want po fun _=>.call (.exp 1) fun(e:Ast)=>.ret (nd 24 t.2.1 [b,e])
   else if ax Xk t then .tok fun t=>.call (.exp 1) fun(e:Ast)=>want Ab fun _=>.call .blk fun(b:Ast)=>.call (.els [e,b]) fun(l:List Ast)=>.ret (nd 25 t.2.1 l)
   else if ax CK t then .tok fun t=>.call (.RC t.2.1) fun(x:Ast)=>.ret x
   else if ax bc t then .tok fun t=>.call (.RD t.2.1) fun(x:Ast)=>.ret x
   else if ax lP t then .tok fun t=>.call (.loc t.2.1) fun(x:Ast)=>.ret x
   else .call .wQ fun(x:Ast)=>if x.hd.kind=9∨x.hd.kind=10 then .ret (nd 21 t.2.1 [x]) else .call (.Q7 t.2.1 [x]) fun(y:Ast)=>.ret y
 | .els l=>.look fun t =>
   if ax j9 t then .tok fun _=>.call (.exp 1) fun(e:Ast)=>want Ab fun _=>.call .blk fun(b:Ast)=>.call (.els (l++[e,b])) fun(l':List Ast)=>.ret l'
   else if ax sA t then .tok fun _=>.call .blk fun(b:Ast)=>want ig fun _=>.ret (l++[b])
   else want ig fun _=>.ret l
 | .RC at_=>.call .GY fun(ns:List ByteArray)=>.look fun t =>
   if ax [61] t∧ns.length=1 then .tok fun _=>.call (.exp 1) fun(a:Ast)=>want [44] fun _=>.call (.exp 1) fun(b:Ast)=>.look fun t =>
    if ax [44] t then .tok fun _=>.call (.exp 1) fun(c:Ast)=>want pY fun _=>.call .blk fun(d:Ast)=>want ig fun _=>.ret (vZ 26 at_ 0 ns [a,b,c,d])
    else want pY fun _=>.call .blk fun(d:Ast)=>want ig fun _=>.ret (vZ 26 at_ 0 ns [a,b,d])
   else want wIn fun _=>.call .v8 fun(l:List Ast)=>want pY fun _=>.call .blk fun(d:Ast)=>want ig fun _=>.ret (vZ 27 at_ (l.length:Int) ns (l++[d]))
 | .RD at_=>name fun n=>.call (.QZ at_ (kf 7 n.2.1 (bu n.2.2.2) [])) fun(x:Ast)=>.ret x
 | .QZ at_ x=>.look fun t =>
   if ax [46] t then .tok fun d=>name fun n=>.call (.QZ at_ (nd 8 d.2.1 [x,kf 5 n.2.1 (bu n.2.2.2) []])) fun(y:Ast)=>.ret y
   else if ax [58] t then .tok fun d=>name fun n=>.call (.Ac at_ [bu wP]) fun(f:Ast)=>.ret (Cy 20 at_ 1 [nd 8 d.2.1 [x,kf 5 n.2.1 (bu n.2.2.2) []],f])
   else .call (.Ac at_ []) fun(f:Ast)=>.ret (Cy 20 at_ 1 [x,f])
 | .loc at_=>.look fun t =>
   if ax bc t then .tok fun f=>name fun n=>.call (.Ac f.2.1 []) fun(b:Ast)=>.ret (vZ 28 at_ 0 [bu n.2.2.2] [b])
   else .call .GY fun(ns:List ByteArray)=>.look fun t=>if ax [61] t then .tok fun _=>.call .v8 fun(l:List Ast)=>.ret (vZ 19 at_ 0 ns l) else .ret (vZ 19 at_ 0 ns [])
 | .Ac at_ self=>want [40] fun _=>.look fun t =>
   if ax [41] t then .tok fun _=>.call .blk fun(b:Ast)=>want ig fun _=>.ret (vZ 11 at_ 0 self [b])
   else .call (.GX self) fun(p:List ByteArray×Int)=>want [41] fun _=>.call .blk fun(b:Ast)=>want ig fun _=>.ret (vZ 11 at_ p.2 p.1 [b])
 | .GX l=>.look fun t =>
   if ax [46,46,46] t then .tok fun _=>.ret ((l,1):List ByteArray×Int)
   else name fun n=>.look fun t=>if ax [44] t then .tok fun _=>.call (.GX (l++[bu n.2.2.2])) fun(p:List ByteArray×Int)=>.ret p else .ret ((l++[bu n.2.2.2],0):List ByteArray×Int)
 | .GY=>name fun n=>.call (.Q0 [bu n.2.2.2]) fun(l:List ByteArray)=>.ret l
 | .Q0 l=>.look fun t=>if ax [44] t then .tok fun _=>name fun n=>.call (.Q0 (l++[bu n.2.2.2])) fun(l':List ByteArray)=>.ret l' else .ret l
 | .v8=>.call (.exp 1) fun(e:Ast)=>.call (.Q6 [e]) fun(l:List Ast)=>.ret l
 | .Q6 l=>.look fun t=>if ax [44] t then .tok fun _=>.call (.exp 1) fun(e:Ast)=>.call (.Q6 (l++[e])) fun(l':List Ast)=>.ret l' else .ret l
 | .Q7 at_ l=>.look fun t =>
   if (l.getLastD (nd 0 0 [])).hd.kind=7∨(l.getLastD (nd 0 0 [])).hd.kind=8 then
    if ax [44] t then .tok fun _=>.call .wQ fun(x:Ast)=>.call (.Q7 at_ (l++[x])) fun(y:Ast)=>.ret y
    else want [61] fun _=>.call .v8 fun(m:List Ast)=>.ret (Cy 20 at_ (l.length:Int) (l++m))
   else .bad
 | .wQ=>.look fun t =>
   if t.1=1 then .tok fun n=>.call (.aR (kf 7 n.2.1 (bu n.2.2.2) [])) fun(x:Ast)=>.ret x
   else if ax [40] t then .tok fun o=>.call (.exp 1) fun(e:Ast)=>want [41] fun _=>.call (.aR (nd 14 o.2.1 [e])) fun(x:Ast)=>.ret x
   else .bad
 | .aR x=>.look fun t =>
   if ax [46] t then .tok fun d=>name fun n=>.call (.aR (nd 8 d.2.1 [x,kf 5 n.2.1 (bu n.2.2.2) []])) fun(y:Ast)=>.ret y
   else if ax [91] t then .tok fun d=>.call (.exp 1) fun(e:Ast)=>want [93] fun _=>.call (.aR (nd 8 d.2.1 [x,e])) fun(y:Ast)=>.ret y
   else if ax [58] t then .tok fun d=>name fun n=>.call .arg fun(l:List Ast)=>.call (.aR (kf 10 d.2.1 (bu n.2.2.2) (x::l))) fun(y:Ast)=>.ret y
   else if ax [40] t || ax [123] t || decide (t.1=4) then .call .arg fun(l:List Ast)=>.call (.aR (nd 9 t.2.1 (x::l))) fun(y:Ast)=>.ret y
   else .ret x
 | .arg=>.look fun t =>
   if t.1=4 then .tok fun s=>.ret ([kf 5 s.2.1 (bu s.2.2.2) []]:List Ast)
   else if ax [123] t then .tok fun o=>.call (.Kf []) fun(l:List Ast)=>.ret ([nd 15 o.2.1 l]:List Ast)
   else want [40] fun _=>.look fun t=>if ax [41] t then .tok fun _=>.ret ([]:List Ast) else .call .v8 fun(l:List Ast)=>want [41] fun _=>.ret l
 | .Kf l=>.look fun t =>
   if ax [125] t then .tok fun _=>.ret l
   else .call .GZ fun(x:Ast)=>.look fun t=>if ax [44] t || ax [59] t then .tok fun _=>.call (.Kf (l++[x])) fun(l':List Ast)=>.ret l' else want [125] fun _=>.ret (l++[x])
 | .GZ=>.look fun t =>
   if ax [91] t then .tok fun _=>.call (.exp 1) fun(k:Ast)=>want [93] fun _=>want [61] fun _=>.call (.exp 1) fun(e:Ast)=>.ret (nd 17 t.2.1 [k,e])
   else .call (.exp 1) fun(e:Ast)=>.look fun u =>
    if ax [61] u∧e.hd.kind=7 then .tok fun _=>.call (.exp 1) fun(v:Ast)=>.ret (nd 17 t.2.1 [kf 5 t.2.1 e.hd.s [],v])
    else .ret (nd 16 t.2.1 [e])
 | .exp s=>.call .una fun(x:Ast)=>.call (.lvm s x) fun(y:Ast)=>.ret y
 | .lvm s x=>.look fun t=>match jD t with
   | some o=>if s≤o.2.1 then .tok fun d=>.call (.exp o.2.2) fun(y:Ast)=>.call (.lvm s (QY 12 d.2.1 o.1 [x,y])) fun(z:Ast)=>.ret z else .ret x
   | none=>.ret x
 | .una=>.look fun t=>match jZ t with
   | some o=>.tok fun d=>.call .una fun(x:Ast)=>.ret (QY 13 d.2.1 o [x])
   | none=>.call .CN fun(x:Ast)=>.ret x
 | .CN=>.look fun t =>
   if ax s5 t then .tok fun t=>.ret (nd 1 t.2.1 [])
   else if ax ni t then .tok fun t=>.ret (nd 2 t.2.1 [])
   else if ax kF t then .tok fun t=>.ret (nd 3 t.2.1 [])
   else if ax [46,46,46] t then .tok fun t=>.ret (nd 6 t.2.1 [])
   else if ax bc t then .tok fun t=>.call (.Ac t.2.1 []) fun(f:Ast)=>.ret f
   else if ax [123] t then .tok fun t=>.call (.Kf []) fun(l:List Ast)=>.ret (nd 15 t.2.1 l)
   else if t.1=3 then .tok fun t=>.ret (Cy 4 t.2.1 t.2.2.1 [])
   else if t.1=4 then .tok fun t=>.ret (kf 5 t.2.1 (bu t.2.2.2) [])
   else .call .wQ fun(x:Ast)=>.ret x
def kG:GL Ast:=.call .blk fun(b:Ast)=>.look fun t=>if t.1=0 then .ret b else .bad
abbrev PL {α:Type} (g:GL α) (ts:List ah) (r:Except Int (α×List ah)):Prop:=P bg g ts r
def oW (c:Nat):Nat:=if 48≤c∧c≤57 then c-48 else if 97≤c∧c≤122 then c-87 else if 65≤c∧c≤90 then c-55 else 36
def val (b:Nat) (l:List UInt8):Nat:=l.foldl (fun n c=>n*b+oW c.toNat) 0
theorem Lc (b:Nat) (l:List UInt8) (c:UInt8):val b (l++[c])=val b l*b+oW c.toNat:=by simp[val]
def iL (b:Nat) (l:List UInt8):Bool:=l.all fun c=>decide (oW c.toNat<b)
def s6 (b:Nat) (l:List UInt8):Bool:=!l.isEmpty && iL b l
theorem G8 (b:Nat) (l:List UInt8) (c:UInt8):iL b (l++[c])=(iL b l && decide (oW c.toNat<b)):=by simp[iL]
theorem Ad {b:Nat} {l:List UInt8} {c:UInt8} (h:c∈l) (hc:b≤oW c.toNat):iL b l=false:=by
 unfold iL;rw[List.all_eq_false];exact⟨c,h,by simpa using hc⟩
def CO (b:Nat) (l:List UInt8):Nat:=if s6 b l then val b l % 18446744073709551616 else 0
theorem yr {b:Nat} {l:List UInt8} (h:s6 b l=false):CO b l=0:=by unfold CO;simp[h]
theorem CP {b:Nat} {l:List UInt8} (h:s6 b l=true):CO b l=val b l % 18446744073709551616:=by unfold CO;simp[h]
theorem G9 (s:ByteArray) (k:Nat) (h:k<s.size):s.data.toList.take (k+1)=s.data.toList.take k++[s[k]]:=by
 rw[List.take_succ_eq_append_getElem (by simpa using h)];rfl
theorem get_mem (s:ByteArray) (k:Nat) (h:k<s.size):s[k]∈s.data.toList:=K9 (l:=s.data.toList) (n:=k) (by simpa using h)
def blanks:List UInt8:=[9,10,11,12,13,32]
def yt (c:Nat):Bool:=decide (9≤c∧c≤13) || decide (c=32)
theorem CQ {P:UInt8→Prop} (h :∀i:Fin 256,P (UInt8.ofNat i.val)) (c:UInt8):P c:=by
 have:=h ⟨c.toNat,c.toNat_lt⟩;simpa using this
theorem lQ :∀c:UInt8,blanks.contains c=yt c.toNat:=CQ (by decide +kernel)
def E0 (l:List UInt8):List UInt8:=Lib.trimS l blanks
theorem jE {p:UInt8→Bool} (l:List UInt8) (c:UInt8):(l++[c]).dropWhile p=if l.dropWhile p=[] then (if p c then [] else [c]) else l.dropWhile p++[c]:=by
 induction l with
 | nil=>simp[List.dropWhile];cases p c<;>simp
 | cons a t ih =>
  by_cases h:p a=true
  ·simp only[dB,List.dropWhile,h]
   exact ih
  ·simp[List.dropWhile,h]
theorem Xl {p:UInt8→Bool} (l:List UInt8):l.dropWhile p=[]↔∀x∈l,p x=true:=by
 induction l with
 | nil=>simp
 | cons a t ih =>
  cases h:p a
  ·simp[List.dropWhile,h]
  ·simp[List.dropWhile,h,ih]
theorem pZ {p:UInt8→Bool} (l:List UInt8):l.reverse.dropWhile p=[]→l.dropWhile p=[]:=by
 intro h;rw[Xl] at h ⊢;intro x hx;exact h x (by simpa using hx)
theorem Ha {p:UInt8→Bool} (l:List UInt8):(l.reverse.dropWhile p).reverse.dropWhile p=((l.dropWhile p).reverse.dropWhile p).reverse:=by
 induction l with
 | nil=>rfl
 | cons c t ih =>
  rw[EJ,jE];by_cases h0:t.reverse.dropWhile p=[]
  ·rw[ak h0]
   have h1:=pZ t h0;cases hc:p c
   ·simp[List.dropWhile,hc,jE,h0]
   ·simp[List.dropWhile,hc,h1]
  ·rw[af h0]
   cases hc:p c
   ·simp[List.dropWhile,hc,jE,h0]
   ·simp[List.dropWhile,hc,ih]
theorem wR (l:List UInt8):Lib.trimRightS (Lib.trimLeftS l blanks) blanks=E0 l:=(Ha l).symm
theorem Xm (l:List UInt8):(E0 l).length≤l.length:=by
 rw[←wR];unfold Lib.trimRightS Lib.trimLeftS;rw[List.length_reverse];have h1:=(EB (fun x=>blanks.contains x) (l:=(List.dropWhile (fun x=>blanks.contains x) l).reverse)).length_le
 have h2:=(EB (fun x=>blanks.contains x) (l:=l)).length_le
 rw[List.length_reverse] at h1;omega
def s8 (l:List UInt8):Bool:=Lib.hasPrefix l [48,120] || Lib.hasPrefix l [48,88]
def p7 (most:Int) (l:List UInt8):Bool:=s6 10 l && decide ((val 10 l:Int)≤most)
def CR (most:Int) (l:List UInt8):Nat:=if p7 most l then val 10 l else 0
def p9 (most:Int) (l:List UInt8):Bool:=if s8 l then s6 16 (l.drop 2) else p7 most l
def ug (most:Int) (l:List UInt8):Nat:=if s8 l then CO 16 (l.drop 2) else CR most l
def wS (n:Int):Int:=(n+9223372036854775808) % 18446744073709551616-9223372036854775808
def yw (l:List UInt8):Bool:=Lib.hasPrefix l [45]
def qa (b:Int) (l:List UInt8):Bool:=if 2≤b∧b≤36 then s6 b.toNat (Lib.trimPrefix (E0 l) [45]) else false
def kW (b:Int) (l:List UInt8):Int:=if 2≤b∧b≤36 then (if yw (E0 l) then wS (-(CO b.toNat (Lib.trimPrefix (E0 l) [45]):Int)) else wS (CO b.toNat (Lib.trimPrefix (E0 l) [45]):Int)) else 0
theorem val_zero (l:List UInt8):val 10 (48::l)=val 10 l:=rfl
theorem yx (l:List UInt8) :∀n:Nat,n*10 ^ l.length≤l.foldl (fun n c=>n*10+oW c.toNat) n:=by
 induction l with
 | nil=>intro n;simp
 | cons c t ih =>
  intro n;have h:=ih (n*10+oW c.toNat);rw[List.foldl_cons,List.length_cons,ER];refine aK ?_ h;rw[EV,show n*(10 ^ t.length*10)=n*10*10 ^ t.length by rw[Nat.mul_assoc,ES 10]]
  exact gF _ _
theorem yy (l:List UInt8) (h:iL 10 l=true) :∀n m:Nat,n<m→l.foldl (fun n c=>n*10+oW c.toNat) n<m*10 ^ l.length:=by
 induction l with
 | nil=>intro n m h;simpa using h
 | cons c t ih =>
  intro n m hm;simp only[iL,sx,dk,je] at h;have hh:=ih h.2 (n*10+oW c.toNat) (m*10) (by omega)
  rw[List.foldl_cons,List.length_cons,ER,ES (10 ^ t.length),←Nat.mul_assoc];exact hh
theorem Ae (l:List UInt8):val 10 (Lib.trimLeftB l 48)=val 10 l:=by
 unfold Lib.trimLeftB;induction l with
 | nil=>rfl
 | cons c t ih =>
  by_cases h:c=48
  ·subst h
   rw[val_zero,List.dropWhile,show((48:UInt8) == 48)=true from rfl]
   exact ih
  ·rw[List.dropWhile,show(c == 48)=false by simpa using h]
theorem wT {l:List UInt8} (h:iL 10 l=true):iL 10 (Lib.trimLeftB l 48)=true:=by
 unfold iL at *;rw[List.all_eq_true] at *;exact fun x hx=>h x ((EB _).subset hx)
theorem Hb {l:List UInt8} (h:iL 10 l=true) (hl:(Lib.trimLeftB l 48).length≤19):val 10 l<10000000000000000000:=by
 rw[←Ae];have:=yy _ (wT h) 0 1 (by omega)
 rw[EW] at this;have h2:10 ^ (Lib.trimLeftB l 48).length≤10 ^ 19:=KL (by omega) hl
 have h3:(10:Nat) ^ 19=10000000000000000000:=by decide
 unfold val;omega
theorem Hc (l:List UInt8) :∀c t,Lib.trimLeftB l 48=c::t→c≠48:=by
 unfold Lib.trimLeftB;induction l with
 | nil=>intro c t h;cases h
 | cons a r ih =>
  intro c t h;by_cases e:a=48
  ·subst e
   rw[List.dropWhile,show((48:UInt8) == 48)=true from rfl] at h
   exact ih c t h
  ·rw[List.dropWhile,show(a == 48)=false by simpa using e] at h
   injection h with h1 h2;exact h1▸e
theorem RE {c:UInt8} (h:oW c.toNat<10) (hc:c≠48):1≤oW c.toNat:=by
 have hn:c.toNat≠48:=fun e=>hc (zV.1 e)
 unfold oW at *;split at h
 ·rename_i hh;rw[ak hh];omega
 ·split at h
  ·omega
  ·split at h<;>omega
theorem Ld {l:List UInt8} (h:iL 10 l=true) (hl:19<(Lib.trimLeftB l 48).length):10000000000000000000≤val 10 l:=by
 rw[←Ae];have ha:=wT h;have hh:=Hc l;generalize Lib.trimLeftB l 48=m at *;cases m with
 | nil=>simp at hl
 | cons c t =>
  simp only[iL,sx,dk,je] at ha;have h1:=RE ha.1 (hh c t rfl);have h2:=yx t (oW c.toNat);have h3:10 ^ 19≤10 ^ t.length:=KL (by omega) (by simp at hl;omega)
  have h4:1*10 ^ t.length≤oW c.toNat*10 ^ t.length:=EE _ h1;have h5:(10:Nat) ^ 19=10000000000000000000:=by decide
  have h6:val 10 (c::t)=t.foldl (fun n c=>n*10+oW c.toNat) (oW c.toNat):=by simp[val]
  rw[h6];omega
theorem Le {b:Nat} {l:List UInt8} (h:s6 b l=true):iL b l=true:=by
 unfold s6 at h;rw[dk] at h;exact h.2
theorem Hd {l:List UInt8} (ho:s6 10 l=true) (hl:(Lib.trimLeftB l 48).length≤19):CO 10 l=val 10 l:=by
 have:=Hb (Le ho) hl;rw[CP ho];omega
theorem Lf {m:Int} {l:List UInt8} (ho:s6 10 l=false):p7 m l=false:=by unfold p7;rw[ho];rfl
theorem He {m:Int} {l:List UInt8} (hm:m≤9223372036854775808) (ho:s6 10 l=true) (hl:19<(Lib.trimLeftB l 48).length):p7 m l=false:=by
 have:=Ld (Le ho) hl;unfold p7;rw[ho,kV,zQ];omega
theorem RF {m:Int} {l:List UInt8} (ho:s6 10 l=true) (h:(val 10 l:Int)≤m):p7 m l=true:=by unfold p7;rw[ho,kV,je];exact h
theorem Hf {m:Int} {l:List UInt8} (h:m<(val 10 l:Int)):p7 m l=false:=by unfold p7;rw[Bool.and_eq_false_iff,zQ];right;omega
theorem yz {m:Int} {l:List UInt8} (h:p7 m l=false):CR m l=0:=by unfold CR;simp[h]
theorem RG {m:Int} {l:List UInt8} (h:p7 m l=true):CR m l=val 10 l:=by unfold CR;simp[h]
def oX (c:UInt8):Bool:=yt c.toNat
def uh (c:UInt8):Bool:=decide (97≤c.toNat∧c.toNat≤122) || decide (65≤c.toNat∧c.toNat≤90) || decide (c.toNat=95)
def gr (c:UInt8):Bool:=decide (48≤c.toNat∧c.toNat≤57)
def zB (c:UInt8):Bool:=gr c || decide (97≤c.toNat∧c.toNat≤102) || decide (65≤c.toNat∧c.toNat≤70)
def iM (c:UInt8):Bool:=uh c || gr c
def pt (c:UInt8):Bool:=iM c || decide (c.toNat=46)
def E3 (c:UInt8):Bool:=decide (c.toNat=39) || decide (c.toNat=34)
def runN (p:UInt8→Bool) (l:List UInt8):Nat:=(l.takeWhile p).length
theorem qb (p:UInt8→Bool) (l:List UInt8):l.take (runN p l)=l.takeWhile p:=by
 unfold runN;induction l with
 | nil=>rfl
 | cons a t ih=>cases h:p a<;>simp[h,ih]
theorem nm (p:UInt8→Bool) (l:List UInt8):l.drop (runN p l)=l.dropWhile p:=by
 unfold runN;induction l with
 | nil=>rfl
 | cons a t ih=>cases h:p a<;>simp[h,ih]
theorem ik (p:UInt8→Bool) (l:List UInt8):runN p l≤l.length:=by
 unfold runN;exact(List.takeWhile_sublist p (l:=l)).length_le
def nl (l:List UInt8):Nat:=Lib.countByte l 10
theorem Xn:nl []=0:=rfl
theorem ui (a b:List UInt8):nl (a++b)=nl a+nl b:=by unfold nl Lib.countByte;rw[List.count_append]
theorem Xo (l:List UInt8) (k:Nat):nl l=nl (l.take k)+nl (l.drop k):=by rw[←ui,KJ]
theorem VJ (l:List UInt8):nl l≤l.length:=List.count_le_length
def keys:List (List UInt8):=[[97,110,100],[98,114,101,97,107],[100,111],[101,108,115,101],[101,108,115,101,105,102],[101,110,100],[102,97,108,115,101],[102,111,114],[102,117,110,99,116,105,111,110],[103,111,116,111],[105,102],[105,110],[108,111,99,97,108],[110,105,108],[110,111,116],[111,114],[114,101,112,101,97,116],[114,101,116,117,114,110],[116,104,101,110],[116,114,117,101],[117,110,116,105,108],[119,104,105,108,101]]
def np (l:List UInt8):Bool:=keys.contains l
def signs:List (List UInt8):=[[43],[45],[42],[47,47],[37],[38],[124],[126],[60,60],[62,62],[46,46],[46,46,46],[61,61],[126,61],[60],[60,61],[62],[62,61],[61],[40],[41],[123],[125],[91],[93],[59],[58],[58,58],[44],[46],[35]]
def gB (l:List UInt8):Bool:=signs.contains l
def opn (l:List UInt8):Nat :=
 if Lib.hasPrefix l [91] then (if Lib.hasPrefix (Lib.trimLeftB (l.drop 1) 61) [91] then l.length-((Lib.trimLeftB (l.drop 1) 61).drop 1).length else 0) else 0
def clo (x:List UInt8):List UInt8:=Lib.replaceAll x [91] [93]
def wU (l:List UInt8):Option (List UInt8×List UInt8) :=
 if (Lib.cut (l.drop (opn l)) (clo (l.take (opn l)))).2.2 then some (Lib.trimPrefix (Lib.cut (l.drop (opn l)) (clo (l.take (opn l)))).1 [10],(Lib.cut (l.drop (opn l)) (clo (l.take (opn l)))).2.1) else none
def comm (l:List UInt8):Option (List UInt8) :=
 if 0<opn l then (wU l).map (·.2) else some (l.drop (Lib.cut l [10]).1.length)
inductive eO:List UInt8→Except (List UInt8) (List UInt8)→Prop
 | done {l r:List UInt8}:l.dropWhile oX=r→Lib.hasPrefix r [45,45]=false→eO l (.ok r)
 | more {l r r':List UInt8} {o:Except (List UInt8) (List UInt8)}:l.dropWhile oX=45::45::r→comm r=some r'→eO r' o→eO l o
 | bad {l r:List UInt8}:l.dropWhile oX=45::45::r→comm r=none→eO l (.error (45::45::r))
def code (b:Int) (p:UInt8→Bool) (least most:Nat) (l:List UInt8):Option (List UInt8×List UInt8) :=
 if qa b (l.take (min most (runN p l)))=true∧least≤min most (runN p l)∧kW b (l.take (min most (runN p l)))≤255 then
  some ([UInt8.ofNat (kW b (l.take (min most (runN p l)))).toNat],l.drop (min most (runN p l))) else none
def uj (c:UInt8):Option UInt8 :=
 if c.toNat=97 then some 7 else if c.toNat=98 then some 8 else if c.toNat=102 then some 12 else if c.toNat=110 then some 10 else if c.toNat=114 then some 13 else if c.toNat=116 then some 9 else if c.toNat=118 then some 11 else none
def oY (c:UInt8):Bool:=decide (c.toNat=92) || decide (c.toNat=39) || decide (c.toNat=34) || decide (c.toNat=10)
def lR (c:UInt8) (r:List UInt8):Option (List UInt8×List UInt8) :=
 match uj c with
 | some x=>some ([x],r)
 | none=>if oY c then some ([c],r) else if c.toNat=122 then some ([],r.dropWhile oX) else if c.toNat=120 then code 16 zB 2 2 r else if gr c then code 10 gr 1 3 (c::r) else none
def mS:List UInt8→Option (List UInt8×List UInt8)
 | []=>none
 | c::r=>lR c r
inductive qZ (q:UInt8):List UInt8→Option (List UInt8×List UInt8)→Prop
 | shut {r:List UInt8}:qZ q (q::r) (some ([],r))
 | none:qZ q [] none
 | line {r:List UInt8}:q≠10→qZ q (10::r) none
 | mS {r m r':List UInt8} {o:Option (List UInt8×List UInt8)}:q≠92→mS r=some (m,r')→qZ q r' o→qZ q (92::r) (o.map fun x=>(m++x.1,x.2))
 | bad {r:List UInt8}:q≠92→Go.Proofs.YteflkdlaoiijbaaGreatDoor.mS r=Option.none→qZ q (92::r) Option.none
 | byte {c:UInt8} {r:List UInt8} {o:Option (List UInt8×List UInt8)}:c≠q→c≠10→c≠92→qZ q r o→qZ q (c::r) (o.map fun x=>(c::x.1,x.2))
def sign (l:List UInt8):Option (List UInt8×List UInt8) :=
 if gB (l.take 3) then some (l.take 3,l.drop 3) else if gB (l.take 2) then some (l.take 2,l.drop 2) else if gB (l.take 1) then some (l.take 1,l.drop 1) else none
inductive Tok:List UInt8→Option (Int×Int×List UInt8×List UInt8)→Prop
 | eof:Tok [] (some (0,0,[],[]))
 | name {c:UInt8} {r:List UInt8}:uh c=true→Tok (c::r) (some (if np ((c::r).takeWhile iM) then 2 else 1,0,(c::r).takeWhile iM,(c::r).dropWhile iM))
 | num {c:UInt8} {r:List UInt8}:uh c=false→gr c=true→p9 9223372036854775807 ((c::r).takeWhile pt)=true →
   Tok (c::r) (some (3,wS (ug 9223372036854775807 ((c::r).takeWhile pt):Int),[],(c::r).dropWhile pt))
 | rk {c:UInt8} {r:List UInt8}:uh c=false→gr c=true→p9 9223372036854775807 ((c::r).takeWhile pt)=false→Tok (c::r) none
 | text {c:UInt8} {r:List UInt8} {o:Option (List UInt8×List UInt8)}:uh c=false→gr c=false→E3 c=true→qZ c r o→Tok (c::r) (o.map fun x=>(4,0,x.1,x.2))
 | long {c:UInt8} {r:List UInt8}:uh c=false→gr c=false→E3 c=false→0<opn (c::r)→Tok (c::r) ((wU (c::r)).map fun x=>(4,0,x.1,x.2))
 | sign {c:UInt8} {r:List UInt8}:uh c=false→gr c=false→E3 c=false→¬ 0<opn (c::r)→Tok (c::r) ((sign (c::r)).map fun x=>(5,0,x.1,x.2))
abbrev Tk:=Int×Int×Int×List UInt8
inductive dO (L:Int):List UInt8→Except Int (List Tk)→Prop
 | ei {l r:List UInt8}:eO l (.error r)→dO L l (.error (L-nl r))
 | fW {l r:List UInt8}:eO l (.ok r)→Tok r none→dO L l (.error (L-nl r))
 | eof {l:List UInt8}:eO l (.ok [])→dO L l (.ok [(0,L,0,[])])
 | step {l r r' s:List UInt8} {k n:Int} {o:Except Int (List Tk)}:eO l (.ok r)→r≠[]→Tok r (some (k,n,s,r'))→dO L r' o→dO L l (o.map ((k,L-nl r,n,s) :: ·))
theorem eO.sB {l:List UInt8} {o:Except (List UInt8) (List UInt8)} (h:eO l o) :∀{o'},eO l o'→o=o':=by
 induction h with
 | done h1 h2 =>
  intro o' h';cases h' with
  | done g1 g2=>rw[←h1,←g1]
  | more g1 g2 g3=>rw[h1] at g1;subst g1;simp[Lib.hasPrefix] at h2
  | bad g1 g2=>rw[h1] at g1;subst g1;simp[Lib.hasPrefix] at h2
 | more h1 h2 h3 ih =>
  intro o' h';cases h' with
  | done g1 g2=>rw[h1] at g1;subst g1;simp[Lib.hasPrefix] at g2
  | more g1 g2 g3 =>
   rw[h1] at g1;injection g1 with _ g1;injection g1 with _ g1;subst g1;rw[h2] at g2;injection g2 with g2;subst g2;exact ih g3
  | bad g1 g2 =>
   rw[h1] at g1;injection g1 with _ g1;injection g1 with _ g1;subst g1;rw[h2] at g2;cases g2
 | bad h1 h2 =>
  intro o' h';cases h' with
  | done g1 g2=>rw[h1] at g1;subst g1;simp[Lib.hasPrefix] at g2
  | more g1 g2 g3 =>
   rw[h1] at g1;injection g1 with _ g1;injection g1 with _ g1;subst g1;rw[h2] at g2;cases g2
  | bad g1 g2=>rw[←h1,←g1]
theorem qZ.sB {q:UInt8} {l:List UInt8} {o:Option (List UInt8×List UInt8)} (h:qZ q l o) :∀{o'},qZ q l o'→o=o':=by
 induction h with
 | shut =>
  intro o' h';cases h' with
  | shut=>rfl
  | line g=>exact absurd rfl g
  | mS g=>exact absurd rfl g
  | bad g=>exact absurd rfl g
  | byte g=>exact absurd rfl g
 | none=>intro o' h';cases h';rfl
 | line h =>
  intro o' h';cases h' with
  | shut=>exact absurd rfl h
  | line g=>rfl
  | byte g1 g2=>exact absurd rfl g2
 | mS h1 h2 h3 ih =>
  intro o' h';cases h' with
  | shut=>exact absurd rfl h1
  | mS g1 g2 g3 =>
   rw[h2] at g2;injection g2 with g2;injection g2 with a b;subst a;subst b;rw[ih g3]
  | bad g1 g2=>rw[h2] at g2;cases g2
  | byte g1 g2 g3=>exact absurd rfl g3
 | bad h1 h2 =>
  intro o' h';cases h' with
  | shut=>exact absurd rfl h1
  | mS g1 g2 g3=>rw[h2] at g2;cases g2
  | bad g1 g2=>rfl
  | byte g1 g2 g3=>exact absurd rfl g3
 | byte h1 h2 h3 h4 ih =>
  intro o' h';cases h' with
  | shut=>exact absurd rfl h1
  | line=>exact absurd rfl h2
  | mS=>exact absurd rfl h3
  | bad=>exact absurd rfl h3
  | byte g1 g2 g3 g4=>rw[ih g4]
theorem Tok.sB {l:List UInt8} {o:Option (Int×Int×List UInt8×List UInt8)} (h:Tok l o) :∀{o'},Tok l o'→o=o':=by
 intro o' h';cases h<;>cases h'<;>first|rfl|(simp_all;done)|skip
 rename_i a b c d e f g i j k;rw[e.sB k]
theorem dO.sB {L:Int} {l:List UInt8} {o:Except Int (List Tk)} (h:dO L l o) :∀{o'},dO L l o'→o=o':=by
 induction h with
 | ei h1 =>
  intro o' h';cases h' with
  | ei g1=>cases h1.sB g1;rfl
  | fW g1=>cases h1.sB g1
  | eof g1=>cases h1.sB g1
  | step g1=>cases h1.sB g1
 | fW h1 h2 =>
  intro o' h';cases h' with
  | ei g1=>cases h1.sB g1
  | fW g1=>cases h1.sB g1;rfl
  | eof g1=>cases h1.sB g1;cases h2
  | step g1 _ g3=>cases h1.sB g1;cases h2.sB g3
 | eof h1 =>
  intro o' h';cases h' with
  | ei g1=>cases h1.sB g1
  | fW g1 g2=>cases h1.sB g1;cases g2
  | eof g1=>rfl
  | step g1 g2=>cases h1.sB g1;exact absurd rfl g2
 | step h1 h2 h3 h4 ih =>
  intro o' h';cases h' with
  | ei g1=>cases h1.sB g1
  | fW g1 g2=>cases h1.sB g1;cases h3.sB g2
  | eof g1=>cases h1.sB g1;exact absurd rfl h2
  | step g1 g2 g3 g4 =>
   cases h1.sB g1;cases h3.sB g3;rw[ih g4]
theorem CS {p:UInt8→Bool} (h:p 10=false) (l x:List UInt8):(l++10::x).takeWhile p=l.takeWhile p:=by
 induction l with
 | nil=>simp[h]
 | cons a t ih=>cases e:p a<;>simp[e,ih]
theorem yA {p:UInt8→Bool} (h:p 10=false) (l x:List UInt8):(l++10::x).dropWhile p=l.dropWhile p++10::x:=by
 induction l with
 | nil=>simp[h]
 | cons a t ih=>cases e:p a<;>simp[e,ih]
theorem qc {p:UInt8→Bool} {l r:List UInt8} (x:List UInt8) (h:l.dropWhile p=r) (hr:r≠[]):(l++x).dropWhile p=r++x:=by
 induction l with
 | nil=>exact absurd h.symm hr
 | cons a t ih =>
  cases e:p a
  ·rw[Ey (by simp[e])] at h
   rw[dB,Ey (by simp[e]),←h,dB]
  ·rw[wE e] at h
   rw[dB,wE e];exact ih h
theorem RH {p:UInt8→Bool} {l:List UInt8} (x:List UInt8) (h:l.dropWhile p=[]):(l++x).dropWhile p=x.dropWhile p:=by
 induction l with
 | nil=>rfl
 | cons a t ih =>
  cases e:p a
  ·rw[Ey (by simp[e])] at h;cases h
  ·rw[wE e] at h
   rw[dB,wE e];exact ih h
theorem Af {p:UInt8→Bool} (l:List UInt8):(l.dropWhile p).dropWhile p=l.dropWhile p:=by
 induction l with
 | nil=>rfl
 | cons a t ih=>cases e:p a<;>simp[e,ih]
theorem yB (p:List UInt8) (hp:(10:UInt8)∉p) :∀l x:List UInt8,Lib.hasPrefix (l++10::x) p=Lib.hasPrefix l p:=by
 unfold Lib.hasPrefix;induction p with
 | nil=>intro l x;simp
 | cons a t ih =>
  intro l x;simp only[bb,sy] at hp;cases l with
  | nil=>simp[List.isPrefixOf,Ne.symm hp.1]
  | cons b r=>simp[List.isPrefixOf,ih hp.2]
theorem tlb (l x:List UInt8):Lib.trimLeftB (l++10::x) 61=Lib.trimLeftB l 61++10::x:=by
 unfold Lib.trimLeftB;exact yA (by decide) l x
theorem kX {α:Type} (l x:List α) (k:Nat) (h:k≤l.length):(l++x).drop k=l.drop k++x:=List.drop_append_of_le_length h
theorem uk {α:Type} (l x:List α) (k:Nat) (h:k≤l.length):(l++x).take k=l.take k:=Kx h
theorem E5 {l:List UInt8} {a:UInt8} (h:Lib.hasPrefix l [a]=true):1≤l.length:=by
 cases l with
 | nil=>simp[Lib.hasPrefix] at h
 | cons=>simp
theorem tw (l x:List UInt8):opn (l++10::x)=opn l:=by
 unfold opn;rw[yB [91] (by decide)]
 cases h:Lib.hasPrefix l [91]
 ·simp
 ·have hl:=E5 h
  rw[kX l _ 1 hl,tlb,yB [91] (by decide)]
  cases h2:Lib.hasPrefix (Lib.trimLeftB (l.drop 1) 61) [91]
  ·simp
  ·have hl2:=E5 h2
   rw[kX _ _ 1 hl2];simp only[tY,bM,List.length_cons];omega
theorem CT (l:List UInt8):opn l≤l.length:=by unfold opn;split<;>(try split)<;>omega
theorem Hg {l sep:List UInt8} (x:List UInt8) (h:0≤Lib.index l sep):Lib.index (l++x) sep=Lib.index l sep:=by
 have hr:=Lib.index_room l sep h;rcases Lib.index_spec l sep with ⟨h1,_⟩ | ⟨i,h1,h2,h3,h4⟩
 ·omega
 ·rw[h1] at hr ⊢
  have key :∀j,j≤i→Lib.occAt (l++x) sep j=Lib.occAt l sep j:=by
   intro j hj;unfold Lib.occAt;rw[kX l x j (by omega)]
   have hlen:sep.length≤(l.drop j).length:=by rw[j7];omega
   rw[mB,List.isPrefixOf_iff_prefix,List.isPrefixOf_iff_prefix];constructor
   ·intro g;exact List.prefix_of_prefix_length_le g (EH _ _) hlen
   ·intro g;exact g.trans (EH _ _)
  exact Lib.index_first (by rw[bM];omega) (by rw[key i (ai _)];exact h3) (fun j hj=>by rw[key j (by omega)];exact h4 j hj)
theorem RI {l sep t r:List UInt8} (x:List UInt8) (h:Lib.cut l sep=(t,r,true)):Lib.cut (l++x) sep=(t,r++x,true):=by
 unfold Lib.cut at h ⊢;by_cases h0:0≤Lib.index l sep
 ·have hr:=Lib.index_room l sep h0
  rw[ak h0] at h;rw[Hg x h0,ak h0,uk _ _ _ (by omega),kX _ _ _ (by omega)]
  injection h with h1 h2;injection h2 with h2 _;rw[h1,h2]
 ·rw[af h0] at h
  injection h with _ h2;injection h2 with _ h3;cases h3
theorem Lg (l:List UInt8):(Lib.cut l [10]).1=l.takeWhile (fun c=>c != 10):=by
 unfold Lib.cut;rw[Lib.index_one];induction l with
 | nil=>rfl
 | cons a t ih =>
  unfold Lib.indexByte;by_cases h:a=10
  ·subst h;simp
  ·have hb:(a == 10)=false:=by simpa using h
   simp only[KO,bne,hb,Bool.not_false];by_cases h1:0≤Lib.indexByte t 10
   ·rw[ak h1] at ih
    have e:(Lib.indexByte t 10 == -1)=false:=by simpa using (by omega:Lib.indexByte t 10≠-1)
    simp only[e,KS,if_false,tY];rw[ak (by omega)]
    rw[show(Lib.indexByte t 10+1).toNat=(Lib.indexByte t 10).toNat+1 by omega,EF]
    simp only[bne] at ih;rw[←ih]
   ·rw[af h1] at ih
    have hge:=Lib.index_ge t [10];rw[Lib.index_one] at hge;have e:Lib.indexByte t 10 = -1:=by omega
    simp[e];simp only[bne] at ih;simpa using ih
theorem E6 {l t r:List UInt8} (x:List UInt8) (h:wU l=some (t,r)):wU (l++10::x)=some (t,r++10::x):=by
 unfold wU at h ⊢;rw[tw,uk _ _ _ (CT l),kX _ _ _ (CT l)];obtain⟨a,b,c,e⟩ :∃a b c,Lib.cut (l.drop (opn l)) (clo (l.take (opn l)))=(a,b,c):=⟨_,_,_,rfl⟩;rw[e] at h;cases c
 ·simp at h
 ·rw[RI (10::x) e]
  simp only[tY] at h ⊢;injection h with h;injection h with h1 h2;rw[h1,h2]
theorem RJ {p:UInt8→Bool} (l:List UInt8):l.drop (l.takeWhile p).length=l.dropWhile p:=nm p l
theorem Lh {l r:List UInt8} (x:List UInt8) (h:comm l=some r):comm (l++10::x)=some (r++10::x):=by
 unfold comm at h ⊢;rw[tw];by_cases h0:0<opn l
 ·rw[ak h0] at h ⊢
  cases e:wU l with
  | none=>rw[e] at h;cases h
  | some q =>
   obtain⟨t,r'⟩:=q;rw[e] at h;rw[E6 x e];simp only[fK,eM] at h ⊢;rw[h]
 ·rw[af h0] at h ⊢
  rw[Lg,RJ] at h ⊢;rw[yA (by decide)]
  injection h with h;rw[h]
theorem eO.VK {l l':List UInt8} (h:l.dropWhile oX=l'.dropWhile oX) {o:Except (List UInt8) (List UInt8)} (hs:eO l o):eO l' o:=by
 cases hs with
 | done h1 h2=>exact .done (h▸h1) h2
 | more h1 h2 h3=>exact .more (h▸h1) h2 h3
 | bad h1 h2=>exact .bad (h▸h1) h2
theorem Hh (l x:List UInt8):(l++10::x).dropWhile oX=(l.dropWhile oX++10::x).dropWhile oX:=by
 by_cases h:l.dropWhile oX=[]
 ·rw[RH _ h,h];rfl
 ·rw[qc (10::x) rfl h]
  exact(qc (10::x) (Af l) h).symm
theorem eO.app {l:List UInt8} {q:Except (List UInt8) (List UInt8)} (h:eO l q) (x:List UInt8) :∀{r o},q=.ok r→eO (r++10::x) o→eO (l++10::x) o:=by
 induction h with
 | done h1 h2 =>
  intro r o e hs;cases e;exact hs.VK (h1▸(Hh _ x).symm)
 | @more l r1 r' o' h1 h2 h3 ih =>
  intro r o e hs;refine .more (r:=r1++10::x) ?_ (Lh x h2) (ih e hs);rw[qc (10::x) h1 (by simp)]
  rfl
 | bad h1 h2=>intro r o e;cases e
theorem eO.rest {l r:List UInt8} {q:Except (List UInt8) (List UInt8)} (h:eO l q):q=.ok r→r.dropWhile oX=r∧Lib.hasPrefix r [45,45]=false:=by
 induction h with
 | done h1 h2=>intro e;cases e;exact⟨by rw[←h1];exact Af _,h2⟩
 | more h1 h2 h3 ih=>exact ih
 | bad h1 h2=>intro e;cases e
theorem eO.Xp {l r:List UInt8} (h:eO l (.ok r)) (hr:r≠[]) (x:List UInt8):eO (l++10::x) (.ok (r++10::x)):=by
 obtain⟨h1,h2⟩:=h.rest rfl;exact h.app x rfl (.done (qc _ h1 hr) (by rw[yB _ (by decide)];exact h2))
theorem eO.tx {l x:List UInt8} {o:Except (List UInt8) (List UInt8)} (h:eO l (.ok [])) (hx:eO (10::x) o):eO (l++10::x) o:=h.app x rfl hx
theorem RM {p:UInt8→Bool} {l:List UInt8} (x:List UInt8) (hr:l.dropWhile p≠[]):(l++x).takeWhile p=l.takeWhile p:=by
 induction l with
 | nil=>exact absurd rfl hr
 | cons a t ih =>
  cases e:p a
  ·simp[e]
  ·rw[wE e] at hr
   simp[e,ih hr]
theorem Xq {p:UInt8→Bool} {l:List UInt8} (x:List UInt8) (hr:l.dropWhile p=[]):(l++x).takeWhile p=l++x.takeWhile p∧l.takeWhile p=l:=by
 induction l with
 | nil=>simp
 | cons a t ih =>
  cases e:p a
  ·rw[Ey (by simp[e])] at hr;cases hr
  ·rw[wE e] at hr
   simp[e,ih hr]
theorem Xr {p:UInt8→Bool} {l:List UInt8} {most:Nat} (x:List UInt8) (h:l.drop (min most (runN p l))≠[]):min most (runN p (l++x))=min most (runN p l)∧min most (runN p l)≤l.length:=by
 have h2:min most (runN p l)<l.length:=by
  apply Classical.byContradiction;intro g;exact h (EC (by omega))
 refine⟨?_,by omega⟩
 unfold runN at *;by_cases e:l.dropWhile p=[]
 ·obtain⟨e1,e2⟩:=Xq x e
  rw[e1,bM];rw[e2] at h2 ⊢;omega
 ·rw[RM x e]
theorem Ag {b:Int} {p:UInt8→Bool} {least most:Nat} {l m r:List UInt8} (x:List UInt8) (h:code b p least most l=some (m,r)) (hr:r≠[]):code b p least most (l++x)=some (m,r++x):=by
 unfold code at h ⊢;split at h
 ·rename_i hc
  injection h with h;injection h with h1 h2;obtain⟨e,hle⟩:=Xr (p:=p) (l:=l) (most:=most) x (by rw[h2];exact hr)
  rw[e,uk _ _ _ hle,kX _ _ _ hle,ak hc,h1,h2]
 ·cases h
theorem fj {c x:UInt8} (r:List UInt8) (e:uj c=some x):lR c r=some ([x],r):=by unfold lR;rw[e]
theorem jr {c:UInt8} (r:List UInt8) (e:uj c=none) (h:oY c=true):lR c r=some ([c],r):=by unfold lR;rw[e];exact ak h
theorem CU {c:UInt8} (r:List UInt8) (e:uj c=none) (h:oY c=false) (h2:c.toNat=122):lR c r=some ([],r.dropWhile oX):=by
 unfold lR;rw[e];exact(af (by rw[h];decide)).trans (ak h2)
theorem CV {c:UInt8} (r:List UInt8) (e:uj c=none) (h:oY c=false) (h2:c.toNat=120):lR c r=code 16 zB 2 2 r:=by
 unfold lR;rw[e];exact(af (by rw[h];decide)).trans ((af (by omega)).trans (ak h2))
theorem CW {c:UInt8} (r:List UInt8) (e:uj c=none) (h:oY c=false) (h2:c.toNat≠122) (h3:c.toNat≠120) (h4:gr c=true):lR c r=code 10 gr 1 3 (c::r):=by
 unfold lR;rw[e];exact(af (by rw[h];decide)).trans ((af h2).trans ((af h3).trans (ak h4)))
theorem yC {c:UInt8} (r:List UInt8) (e:uj c=none) (h:oY c=false) (h2:c.toNat≠122) (h3:c.toNat≠120) (h4:gr c=false):lR c r=none:=by
 unfold lR;rw[e];exact(af (by rw[h];decide)).trans ((af h2).trans ((af h3).trans (af (by rw[h4];decide))))
theorem Ah {a m t r x:List UInt8} (h:some (a,t)=some (m,r)):some (a,t++x)=some (m,r++x):=by
 injection h with h;injection h with h1 h2;rw[h1,h2]
theorem RN {l m r:List UInt8} (x:List UInt8) (h:mS l=some (m,r)) (hr:r≠[]):mS (l++x)=some (m,r++x):=by
 cases l with
 | nil=>cases h
 | cons c t =>
  rw[dB];have h:lR c t=some (m,r):=h;show lR c (t++x)=_
  cases e:uj c with
  | some y =>
   rw[fj _ e] at h ⊢;exact Ah h
  | none =>
   cases e1:oY c
   ·by_cases e2:c.toNat=122
    ·rw[CU _ e e1 e2] at h ⊢
     injection h with h;injection h with h1 h2;rw[qc x h2 hr,h1]
    ·by_cases e3:c.toNat=120
     ·rw[CV _ e e1 e3] at h ⊢
      exact Ag x h hr
     ·cases e4:gr c
      ·rw[yC _ e e1 e2 e3 e4] at h
       cases h
      ·rw[CW _ e e1 e2 e3 e4] at h ⊢
       exact Ag (l:=c::t) x h hr
   ·rw[jr _ e e1] at h ⊢
    exact Ah h
theorem qZ.kg {q:UInt8} {l:List UInt8} {z:List UInt8×List UInt8} (h:qZ q l (some z)):l≠[]:=by
 intro e;subst e;cases h
theorem qZ.app {q:UInt8} {l:List UInt8} {o:Option (List UInt8×List UInt8)} (h:qZ q l o) (x:List UInt8) :∀{t r},o=some (t,r)→qZ q (l++x) (some (t,r++x)):=by
 induction h with
 | shut=>intro t r e;cases e;exact .shut
 | none=>intro t r e;cases e
 | line=>intro t r e;cases e
 | @mS r1 m r' o' h1 h2 h3 ih =>
  intro t r e;cases o' with
  | none=>cases e
  | some z =>
   obtain⟨t',r''⟩:=z;simp only[fK,eM,fw] at e;have:=qZ.mS (q:=q) h1 (RN x h2 h3.kg) (ih rfl);simpa[e.1,e.2] using this
 | bad=>intro t r e;cases e
 | @byte c r1 o' h1 h2 h3 h4 ih =>
  intro t r e;cases o' with
  | none=>cases e
  | some z =>
   obtain⟨t',r''⟩:=z;simp only[fK,eM,fw] at e;have:=qZ.byte (q:=q) h1 h2 h3 (ih rfl);simpa[e.1,e.2] using this
theorem CX :∀s∈signs,(10:UInt8)∉s:=by decide
theorem yD {s:List UInt8} (h:(10:UInt8)∈s):gB s=false:=by
 unfold gB;rw[KW];intro hc;rw[KK] at hc;exact CX s hc h
theorem Li {l t r:List UInt8} (x:List UInt8) (h:sign l=some (t,r)) (hl:l≠[]):sign (l++10::x)=some (t,r++10::x):=by
 unfold sign at h ⊢;match l,hl with
 | [a],_ =>
  have e3:gB (([a]++10::x).take 3)=false:=yD (by simp)
  have e2:gB (([a]++10::x).take 2)=false:=yD (by simp)
  rw[e3,e2];have h':(if gB [a] then some ([a],[]) else none)=some (t,r):=by
   revert h
   show(if gB [a]=true then some ([a],[]) else if gB [a]=true then some ([a],[]) else if gB [a]=true then some ([a],[]) else none)=some (t,r)→_
   cases gB [a]<;>simp
  cases e:gB [a]
  ·rw[e] at h';simp at h'
  ·rw[e] at h'
   simp at h';obtain⟨rfl,rfl⟩:=h';simp[e]
 | [a,b],_ =>
  have e3:gB (([a,b]++10::x).take 3)=false:=yD (by simp)
  rw[e3];simp only[EF,List.take_nil,EG,List.drop_nil,oT,List.take_zero] at h;simp only[dB,mY,EF,List.take_zero,EG,oT];cases e:gB [a,b]
  ·rw[e] at h
   cases e1:gB [a]
   ·rw[e1] at h;simp at h
   ·rw[e1] at h
    simp at h;simp[←h.1,←h.2]
  ·rw[e] at h
   simp at h;simp[←h.1,←h.2]
 | a::b::c::l,_ =>
  simp only[dB,EF,List.take_zero,EG,oT] at h ⊢;split at h
  ·rename_i g;rw[ak g];simp at h ⊢;exact⟨h.1,by rw[←h.2]⟩
  ·rename_i g
   rw[af g];split at h
   ·rename_i g2;rw[ak g2];simp at h ⊢;exact⟨h.1,by rw[←h.2];rfl⟩
   ·rename_i g2
    rw[af g2];split at h
    ·rename_i g3;rw[ak g3];simp at h ⊢;exact⟨h.1,by rw[←h.2];rfl⟩
    ·cases h
theorem Tok.app {l:List UInt8} {k n:Int} {s r:List UInt8} (h:Tok l (some (k,n,s,r))) (hl:l≠[]) (x:List UInt8):Tok (l++10::x) (some (k,n,s,r++10::x)):=by
 generalize ho:some (k,n,s,r)=o at h;cases h with
 | eof=>exact absurd rfl hl
 | @name c t h1 =>
  have:=Tok.name (c:=c) (r:=t++10::x) h1;rw[←dB,CS (by decide),yA (by decide)] at this
  simp only[eM,fw] at ho;rw[ho.1,ho.2.1,ho.2.2.1,ho.2.2.2];exact this
 | @num c t h1 h2 h3 =>
  have:=Tok.num (c:=c) (r:=t++10::x) h1 h2 (by rw[←dB,CS (by decide)];exact h3)
  rw[←dB,CS (by decide),yA (by decide)] at this
  simp only[eM,fw] at ho;rw[ho.1,ho.2.1,ho.2.2.1,ho.2.2.2];exact this
 | rk=>cases ho
 | @text c t o' h1 h2 h3 h4 =>
  cases o' with
  | none=>cases ho
  | some z =>
   obtain⟨a,b⟩:=z;simp only[fK,eM,fw] at ho;have:=Tok.text h1 h2 h3 (h4.app (10::x) rfl);rw[ho.1,ho.2.1,ho.2.2.1,ho.2.2.2];exact this
 | @long c t h1 h2 h3 h4 =>
  cases e:wU (c::t) with
  | none=>rw[e] at ho;cases ho
  | some z =>
   obtain⟨a,b⟩:=z;rw[e] at ho;simp only[fK,eM,fw] at ho;have:=Tok.long (c:=c) (r:=t++10::x) h1 h2 h3 (by rw[←dB,tw];exact h4)
   rw[←dB,E6 x e] at this;rw[ho.1,ho.2.1,ho.2.2.1,ho.2.2.2];exact this
 | @sign c t h1 h2 h3 h4 =>
  cases e:Go.Proofs.YteflkdlaoiijbaaGreatDoor.sign (c::t) with
  | none=>rw[e] at ho;cases ho
  | some z =>
   obtain⟨a,b⟩:=z;rw[e] at ho;simp only[fK,eM,fw] at ho;have:=Tok.sign (c:=c) (r:=t++10::x) h1 h2 h3 (by rw[←dB,tw];exact h4)
   rw[←dB,Li x e (by simp)] at this
   rw[ho.1,ho.2.1,ho.2.2.1,ho.2.2.2];exact this
theorem dO.app {L:Int} {l:List UInt8} {q:Except Int (List Tk)} (h:dO L l q) :∀{ts},q=.ok ts→∃T,ts=T++[(0,L,0,[])] ∧
  ∀(x:List UInt8) (o:Except Int (List Tk)),dO (L+nl (10::x)) (10::x) o→dO (L+nl (10::x)) (l++10::x) (o.map (T ++ ·)):=by
 induction h with
 | ei=>intro ts e;cases e
 | fW=>intro ts e;cases e
 | @eof l h1 =>
  intro ts e;cases e;refine⟨[],rfl,fun x o ho=>?_⟩
  have e:o.map (([]:List Tk) ++ ·)=o:=by cases o<;>rfl
  rw[e];cases ho with
  | ei g=>exact .ei (h1.tx g)
  | fW g1 g2=>exact .fW (h1.tx g1) g2
  | eof g=>exact .eof (h1.tx g)
  | step g1 g2 g3 g4=>exact .step (h1.tx g1) g2 g3 g4
 | @step l r r' s k n o' h1 h2 h3 h4 ih =>
  intro ts e;cases o' with
  | error=>cases e
  | ok au =>
   obtain⟨T,hT,hx⟩:=ih rfl;have e':(k,L-nl r,n,s)::au=ts:=by injection e
   refine⟨(k,L-nl r,n,s)::T,by rw[←e',hT];rfl,fun x o ho=>?_⟩
   have:=dO.step (L:=L+nl (10::x)) (h1.Xp h2 x) (by simp) (h3.app h2 x) (hx x o ho)
   rw[ui] at this;have e2:L+(nl (10::x):Int)-((nl r+nl (10::x):Nat):Int)=L-nl r:=by omega
   rw[e2] at this;cases o<;>exact this
theorem dO.RO {L:Int} {l l':List UInt8} {o:Except Int (List Tk)} (hs :∀{q},eO l q→eO l' q) (h:dO L l o):dO L l' o:=by
 cases h with
 | ei g=>exact .ei (hs g)
 | fW g1 g2=>exact .fW (hs g1) g2
 | eof g=>exact .eof (hs g)
 | step g1 g2 g3 g4=>exact .step (hs g1) g2 g3 g4
open Go.RowKit
theorem RP {a b:Int} (h:a=b):Ending.returned (.int .u64 a)=.returned (.int .u64 b):=by rw[h]
theorem Xs (c:Nat):c<48∨(48≤c∧c≤57)∨(58≤c∧c≤64)∨(65≤c∧c≤90)∨(91≤c∧c≤96)∨(97≤c∧c≤122)∨123≤c:=by omega
theorem wV (c:Nat) (w:World) (h:c≤255) :
  Calls Tryz.prog 192 #[.int .u8 c] w fun e w'=>e=.returned (.int .u64 (oW c:Int))∧w=w':=by
 rcases Xs c with h1|h1|h1|h1|h1|h1|h1;all_goals
  go_enter Tryz.func192,Tryz.ntmps192
  go_wp2
  go_ret
  refine⟨RP ?_,rfl⟩;unfold oW;repeat (first|rw[ak (by omega)]|rw[af (by omega)])
  first|rfl|omega
theorem aaw (c:UInt8):c.toNat≤255:=by have:=c.toNat_lt;omega
theorem Xt (s:ByteArray) (h:0<s.size):s.data.toList≠[]:=by
 intro e;have:=Lib.size_eq s;rw[e,List.length_nil] at this;omega
theorem RQ (s:ByteArray) (h:¬ 0<s.size):s.data.toList=[]:=by
 have:=Lib.size_eq s;exact mw (by omega)
theorem um {b:Nat} {l:List UInt8} (h:l=[]):s6 b l=false:=by subst h;rfl
theorem E7 {b:Nat} {l:List UInt8} (h:l≠[]) (h':iL b l=true):s6 b l=true:=by
 unfold s6;cases l with
 | nil=>exact absurd rfl h
 | cons=>simpa using h'
theorem RS {b:Nat} {l:List UInt8} {c:UInt8} (h:c∈l) (hc:b≤oW c.toNat):s6 b l=false:=by
 unfold s6;rw[Ad h hc];simp
theorem lS {a a':Int} {o o':Bool} (h:a=a') (h':o=o'):Ending.returned (.tuple #[.int .u64 a,.bool o])=.returned (.tuple #[.int .u64 a',.bool o']):=by rw[h,h']
theorem Lj (v b d:Nat):IntKind.u64.wrap (IntKind.u64.wrap ((v:Int) % 18446744073709551616*(b:Int))+(d:Int))=((v*b+d) % 18446744073709551616:Nat):=by
 rw[IntKind.wrap_u64,IntKind.wrap_u64];have e:(v:Int) % 18446744073709551616*(b:Int) % 18446744073709551616=(v*b:Int) % 18446744073709551616:=by
  rw[Int.mul_emod,Int.emod_emod_of_dvd _ (Int.dvd_refl _),←Int.mul_emod]
 rw[e];have:((v*b:Nat):Int)=(v*b:Int):=by simp
 rw[←this];omega
theorem kY (s:ByteArray) (b:Nat) (w:World) (hs:s.size≤9223372036854775807) :
  Calls Tryz.prog 169 #[.string s,.int .u64 b] w fun e w'=>e=.returned (.tuple #[.int .u64 (CO b s.data.toList:Int),.bool (s6 b s.data.toList)])∧w=w':=by
 by_cases h0:0<s.size
 ·have hl:=Xt s h0
  have he:(s.toList.isEmpty)=false:=by rw[Lib.toList_data];simpa using hl
  have HL:=aa hl;clear hl;go_enter Tryz.func169,Tryz.ntmps169
  go_wp2
  go_loop [6,13] (fun n i=>∃k:Nat,k≤s.size∧i=.int .i64 k∧n=.int .u64 ((val b (s.data.toList.take k) % 18446744073709551616:Nat):Int)∧iL b (s.data.toList.take k)=true) (fun _ i=>s.size-(intOf i).toNat)
  case atStart=>exact⟨0,bx _,rfl,rfl,rfl⟩
  case round =>
   obtain⟨k,hk,rfl,rfl,ha⟩:=hrel;have HA:=aa ha;clear ha;by_cases hlt:k<s.size
   ·have jk:=aa (G9 s k hlt)
    by_cases hd:oW s[k].toNat<b
    ·have hm:val b (s.data.toList.take k) % 18446744073709551616<18446744073709551616:=Nat.mod_lt _ (by decide)
     have hvs:=aa (Lc b (s.data.toList.take k) s[k]);have has:=aa (G8 b (s.data.toList.take k) s[k]);generalize hv:val b (s.data.toList.take k)=v at hm hvs ⊢;clear hv;go_wp2_with (go_at_call 192;(with_reducible refine(wV _ _ (aaw _)).mono ?_);rintro e w' ⟨rfl,rfl⟩)
     go_round
     case rel=>exact⟨k+1,by omega,by go_num,by rw[jk.out,hvs.out];exact ay _ (Lj v b _),by rw[jk.out,has.out,HA.out];simpa using hd⟩
     case measure=>simp[intOf];omega
    ·have pw:=aa (RS (b:=b) (get_mem s k hlt) (by omega))
     go_wp2_with (go_at_call 192;(with_reducible refine(wV _ _ (aaw _)).mono ?_);rintro e w' ⟨rfl,rfl⟩)
     go_ret2
     exact⟨lS (by rw[yr pw.out];rfl) pw.out.symm,rfl⟩
   ·have EZ:k=s.size:=by omega
    have ha:=HA.out;rw[EZ,Lib.size_eq,zU] at ha;have CY:=E7 HL.out ha;have HO:=aa CY;have HK:=aa EZ;clear CY EZ ha;go_wp2
    go_ret2
    exact⟨lS (by rw[CP HO.out,HK.out,Lib.size_eq,zU];omega) HO.out.symm,rfl⟩
 ·have hl:=RQ s h0
  have he:(s.toList.isEmpty)=true:=by rw[Lib.toList_data,hl];rfl
  rw[yr (um hl),um hl];clear hl;go_enter Tryz.func169,Tryz.ntmps169
  go_wp2
  all_goals
   go_ret2
   exact⟨rfl,rfl⟩
end Go.Proofs.YteflkdlaoiijbaaGreatDoor
open Go.Shelf
namespace Go.Proofs
def Tryz.Ai:Go.Shelf.Ren:=⟨fun|161=>175|231=>196|227=>197|233=>198|235=>199|228=>219|197=>202|151=>220|260=>223|152=>232|137=>171|119=>237|224=>215|225=>214|217=>193|266=>217|n=>n,fun|9=>9|4=>4|3=>3|5=>5|117=>266|116=>265|0=>0|124=>269|105=>275|21=>21|119=>291|46=>282|139=>294|138=>293|n=>n,fun|3=>2|4=>3|n=>n⟩
theorem Tryz.RT:Go.Proofs.Lays.n161 Tryz.prog Tryz.Ai:={
 mixed:=by kernel_rfl
 f119:=Tryz.func237.trans (ay some (by kernel_rfl))
 f137:=Tryz.func171.trans (ay some (by kernel_rfl))
 f151:=Tryz.func220.trans (ay some (by kernel_rfl))
 f152:=Tryz.func232.trans (ay some (by kernel_rfl))
 f161:=Tryz.func175.trans (ay some (by kernel_rfl))
 f197:=Tryz.func202.trans (ay some (by kernel_rfl))
 f217:=Tryz.func193.trans (ay some (by kernel_rfl))
 f224:=Tryz.func215.trans (ay some (by kernel_rfl))
 f225:=Tryz.func214.trans (ay some (by kernel_rfl))
 f227:=Tryz.func197.trans (ay some (by kernel_rfl))
 f228:=Tryz.func219.trans (ay some (by kernel_rfl))
 f231:=Tryz.func196.trans (ay some (by kernel_rfl))
 f233:=Tryz.func198.trans (ay some (by kernel_rfl))
 f235:=Tryz.func199.trans (ay some (by kernel_rfl))
 f260:=Tryz.func223.trans (ay some (by kernel_rfl))
 f266:=Tryz.func217.trans (ay some (by kernel_rfl))
 t0:=Tryz.underlying0
 a0:=Tryz.isAgg0
 z0:=Tryz.sizeOf0
 v0:=Tryz.zeroValue0
 t3:=Tryz.underlying3
 a3:=Tryz.isAgg3
 z3:=Tryz.sizeOf3
 v3:=Tryz.zeroValue3
 t4:=Tryz.underlying4
 a4:=Tryz.isAgg4
 z4:=Tryz.sizeOf4
 v4:=Tryz.zeroValue4
 t5:=Tryz.underlying5
 a5:=Tryz.isAgg5
 z5:=Tryz.sizeOf5
 v5:=Tryz.zeroValue5
 t9:=Tryz.underlying9
 a9:=Tryz.isAgg9
 z9:=Tryz.sizeOf9
 v9:=Tryz.zeroValue9
 t21:=Tryz.underlying21
 a21:=Tryz.isAgg21
 z21:=Tryz.sizeOf21
 v21:=Tryz.zeroValue21
 t46:=Tryz.underlying282
 a46:=Tryz.isAgg282
 z46:=Tryz.sizeOf282
 v46:=Tryz.zeroValue282
 t105:=Tryz.underlying275
 a105:=Tryz.isAgg275
 z105:=Tryz.sizeOf275
 v105:=Tryz.zeroValue275
 t116:=Tryz.underlying265
 a116:=Tryz.isAgg265
 z116:=Tryz.sizeOf265
 t117:=Tryz.underlying266
 a117:=Tryz.isAgg266
 z117:=Tryz.sizeOf266
 v117:=Tryz.zeroValue266
 t119:=Tryz.underlying291
 a119:=Tryz.isAgg291
 z119:=Tryz.sizeOf291
 t124:=Tryz.underlying269
 a124:=Tryz.isAgg269
 z124:=Tryz.sizeOf269
 v124:=Tryz.zeroValue269
 t138:=Tryz.underlying293
 a138:=Tryz.isAgg293
 z138:=Tryz.sizeOf293
 v138:=Tryz.zeroValue293
 t139:=Tryz.underlying294
 a139:=Tryz.isAgg294
 z139:=Tryz.sizeOf294
 v139:=Tryz.zeroValue294
 g3:=by kernel_rfl
 g4:=by kernel_rfl}
open Go.RowKit in
theorem Tryz.strings_TrimLeft_one (s:ByteArray) (c:UInt8) (hc:c.toNat<128) (w:World) :
  Calls Tryz.prog 175 #[.string s,.string ⟨#[c]⟩] w fun e w'=>e=.returned (.string ⟨(Lib.trimLeftB s.data.toList c).toArray⟩)∧w'=w:=Any.strings_TrimLeft_one Tryz.RT s c hc w
def Tryz.Aj:Go.Shelf.Ren:=⟨fun|160=>218|232=>229|231=>196|227=>197|234=>230|233=>198|236=>231|235=>199|228=>219|271=>236|151=>220|197=>202|120=>240|152=>232|260=>223|137=>171|119=>237|224=>215|225=>214|217=>193|266=>217|n=>n,fun|9=>9|4=>4|3=>3|5=>5|117=>266|116=>265|0=>0|124=>269|21=>21|105=>275|46=>282|119=>291|139=>294|138=>293|n=>n,fun|3=>2|4=>3|n=>n⟩
theorem Tryz.RU:Go.Proofs.Lays.n160 Tryz.prog Tryz.Aj:={
 mixed:=by kernel_rfl
 f119:=Tryz.func237.trans (ay some (by kernel_rfl))
 f120:=Tryz.func240.trans (ay some (by kernel_rfl))
 f137:=Tryz.func171.trans (ay some (by kernel_rfl))
 f151:=Tryz.func220.trans (ay some (by kernel_rfl))
 f152:=Tryz.func232.trans (ay some (by kernel_rfl))
 f160:=Tryz.func218.trans (ay some (by kernel_rfl))
 f197:=Tryz.func202.trans (ay some (by kernel_rfl))
 f217:=Tryz.func193.trans (ay some (by kernel_rfl))
 f224:=Tryz.func215.trans (ay some (by kernel_rfl))
 f225:=Tryz.func214.trans (ay some (by kernel_rfl))
 f227:=Tryz.func197.trans (ay some (by kernel_rfl))
 f228:=Tryz.func219.trans (ay some (by kernel_rfl))
 f231:=Tryz.func196.trans (ay some (by kernel_rfl))
 f232:=Tryz.func229.trans (ay some (by kernel_rfl))
 f233:=Tryz.func198.trans (ay some (by kernel_rfl))
 f234:=Tryz.func230.trans (ay some (by kernel_rfl))
 f235:=Tryz.func199.trans (ay some (by kernel_rfl))
 f236:=Tryz.func231.trans (ay some (by kernel_rfl))
 f260:=Tryz.func223.trans (ay some (by kernel_rfl))
 f266:=Tryz.func217.trans (ay some (by kernel_rfl))
 f271:=Tryz.func236.trans (ay some (by kernel_rfl))
 t0:=Tryz.underlying0
 a0:=Tryz.isAgg0
 z0:=Tryz.sizeOf0
 v0:=Tryz.zeroValue0
 t3:=Tryz.underlying3
 a3:=Tryz.isAgg3
 z3:=Tryz.sizeOf3
 v3:=Tryz.zeroValue3
 t4:=Tryz.underlying4
 a4:=Tryz.isAgg4
 z4:=Tryz.sizeOf4
 v4:=Tryz.zeroValue4
 t5:=Tryz.underlying5
 a5:=Tryz.isAgg5
 z5:=Tryz.sizeOf5
 v5:=Tryz.zeroValue5
 t9:=Tryz.underlying9
 a9:=Tryz.isAgg9
 z9:=Tryz.sizeOf9
 v9:=Tryz.zeroValue9
 t21:=Tryz.underlying21
 a21:=Tryz.isAgg21
 z21:=Tryz.sizeOf21
 v21:=Tryz.zeroValue21
 t46:=Tryz.underlying282
 a46:=Tryz.isAgg282
 z46:=Tryz.sizeOf282
 v46:=Tryz.zeroValue282
 t105:=Tryz.underlying275
 a105:=Tryz.isAgg275
 z105:=Tryz.sizeOf275
 v105:=Tryz.zeroValue275
 t116:=Tryz.underlying265
 a116:=Tryz.isAgg265
 z116:=Tryz.sizeOf265
 t117:=Tryz.underlying266
 a117:=Tryz.isAgg266
 z117:=Tryz.sizeOf266
 v117:=Tryz.zeroValue266
 t119:=Tryz.underlying291
 a119:=Tryz.isAgg291
 z119:=Tryz.sizeOf291
 t124:=Tryz.underlying269
 a124:=Tryz.isAgg269
 z124:=Tryz.sizeOf269
 v124:=Tryz.zeroValue269
 t138:=Tryz.underlying293
 a138:=Tryz.isAgg293
 z138:=Tryz.sizeOf293
 v138:=Tryz.zeroValue293
 t139:=Tryz.underlying294
 a139:=Tryz.isAgg294
 z139:=Tryz.sizeOf294
 v139:=Tryz.zeroValue294
 g3:=by kernel_rfl
 g4:=by kernel_rfl}
def Tryz.Al:Go.Shelf.Ren:=⟨fun|137=>171|217=>193|266=>217|n=>n,fun|9=>9|5=>5|3=>3|n=>n,fun|n=>n⟩
theorem Tryz.RV:Go.Proofs.Lays.n137 Tryz.prog Tryz.Al:={
 mixed:=by kernel_rfl
 f137:=Tryz.func171.trans (ay some (by kernel_rfl))
 f217:=Tryz.func193.trans (ay some (by kernel_rfl))
 f266:=Tryz.func217.trans (ay some (by kernel_rfl))
 t3:=Tryz.underlying3
 a3:=Tryz.isAgg3
 z3:=Tryz.sizeOf3
 v3:=Tryz.zeroValue3
 t5:=Tryz.underlying5
 a5:=Tryz.isAgg5
 z5:=Tryz.sizeOf5
 v5:=Tryz.zeroValue5
 t9:=Tryz.underlying9
 a9:=Tryz.isAgg9
 z9:=Tryz.sizeOf9
 v9:=Tryz.zeroValue9}
open Go.RowKit in
theorem Tryz.strings_IndexByte (s:ByteArray) (c:Int) (w:World) :
  Calls Tryz.prog 171 #[.string s,.int .u8 c] w fun e w'=>e=.returned (.int .i64 (Lib.indexByte s.data.toList c.toNat.toUInt8))∧w'=w:=Any.strings_IndexByte Tryz.RV s c w
def Tryz.Am:Go.Shelf.Ren:=⟨fun|103=>174|210=>195|206=>132|n=>n,fun|9=>9|4=>4|24=>160|3=>3|n=>n,fun|n=>n⟩
theorem Tryz.RW:Go.Proofs.Lays.n103 Tryz.prog Tryz.Am:={
 mixed:=by kernel_rfl
 f103:=Tryz.func174.trans (ay some (by kernel_rfl))
 f206:=Tryz.func132.trans (ay some (by kernel_rfl))
 f210:=Tryz.func195.trans (ay some (by kernel_rfl))
 t3:=Tryz.underlying3
 a3:=Tryz.isAgg3
 z3:=Tryz.sizeOf3
 v3:=Tryz.zeroValue3
 t4:=Tryz.underlying4
 a4:=Tryz.isAgg4
 z4:=Tryz.sizeOf4
 v4:=Tryz.zeroValue4
 t9:=Tryz.underlying9
 a9:=Tryz.isAgg9
 z9:=Tryz.sizeOf9
 v9:=Tryz.zeroValue9
 t24:=Tryz.underlying160
 a24:=Tryz.isAgg160
 z24:=Tryz.sizeOf160
 v24:=Tryz.zeroValue160}
open Go.RowKit in
theorem Tryz.strings_CutPrefix (s p:ByteArray) (w:World) :
  Calls Tryz.prog 174 #[.string s,.string p] w fun e w'=>e=.returned (.tuple #[.string ⟨(Lib.trimPrefix s.data.toList p.data.toList).toArray⟩,.bool (Lib.hasPrefix s.data.toList p.data.toList)])∧w'=w:=Any.strings_CutPrefix Tryz.RW s p w
def Tryz.Ao:Go.Shelf.Ren:=⟨fun|145=>133|220=>168|219=>191|217=>193|225=>214|224=>215|267=>216|266=>217|314=>228|n=>n,fun|9=>9|4=>4|59=>211|3=>3|5=>5|46=>282|146=>286|51=>285|n=>n,fun|1=>1|n=>n⟩
theorem Tryz.RX:Go.Proofs.Lays.n145 Tryz.prog Tryz.Ao:={
 mixed:=by kernel_rfl
 f145:=Tryz.func133.trans (ay some (by kernel_rfl))
 f217:=Tryz.func193.trans (ay some (by kernel_rfl))
 f219:=Tryz.func191.trans (ay some (by kernel_rfl))
 f220:=Tryz.func168.trans (ay some (by kernel_rfl))
 f224:=Tryz.func215.trans (ay some (by kernel_rfl))
 f225:=Tryz.func214.trans (ay some (by kernel_rfl))
 f266:=Tryz.func217.trans (ay some (by kernel_rfl))
 f267:=Tryz.func216.trans (ay some (by kernel_rfl))
 f314:=Tryz.func228.trans (ay some (by kernel_rfl))
 t3:=Tryz.underlying3
 a3:=Tryz.isAgg3
 z3:=Tryz.sizeOf3
 v3:=Tryz.zeroValue3
 t4:=Tryz.underlying4
 a4:=Tryz.isAgg4
 z4:=Tryz.sizeOf4
 v4:=Tryz.zeroValue4
 t5:=Tryz.underlying5
 a5:=Tryz.isAgg5
 z5:=Tryz.sizeOf5
 v5:=Tryz.zeroValue5
 t9:=Tryz.underlying9
 a9:=Tryz.isAgg9
 z9:=Tryz.sizeOf9
 v9:=Tryz.zeroValue9
 t46:=Tryz.underlying282
 a46:=Tryz.isAgg282
 z46:=Tryz.sizeOf282
 v46:=Tryz.zeroValue282
 t51:=Tryz.underlying285
 a51:=Tryz.isAgg285
 z51:=Tryz.sizeOf285
 v51:=Tryz.zeroValue285
 t59:=Tryz.underlying211
 a59:=Tryz.isAgg211
 z59:=Tryz.sizeOf211
 v59:=Tryz.zeroValue211
 t146:=Tryz.underlying286
 a146:=Tryz.isAgg286
 z146:=Tryz.sizeOf286
 v146:=Tryz.zeroValue286
 g1:=by kernel_rfl}
open Go.RowKit Go.Lib in
theorem Tryz.strings_Cut (s sep:ByteArray) (m:Int) (w:World) (hs:s.size<4294967281) (hm:w.cell? ⟨1,0,none⟩=some (.int .i64 m)) :
  Calls Tryz.prog 133 #[.string s,.string sep] w fun e w'=>e=.returned (.tuple #[.string ⟨(Lib.cut s.data.toList sep.data.toList).1.toArray⟩,.string ⟨(Lib.cut s.data.toList sep.data.toList).2.1.toArray⟩,.bool (Lib.cut s.data.toList sep.data.toList).2.2])∧∃n,w'=w.drewN n:=Any.strings_Cut Tryz.RX s sep m w hs hm
def Tryz.Ap:Go.Shelf.Ren:=⟨fun|138=>131|195=>165|218=>166|143=>167|219=>191|217=>193|225=>214|224=>215|267=>216|266=>217|314=>228|n=>n,fun|9=>9|3=>3|4=>4|5=>5|0=>0|46=>282|146=>286|51=>285|n=>n,fun|1=>1|n=>n⟩
theorem Tryz.RY:Go.Proofs.Lays.n138 Tryz.prog Tryz.Ap:={
 mixed:=by kernel_rfl
 f138:=Tryz.func131.trans (ay some (by kernel_rfl))
 f143:=Tryz.func167.trans (ay some (by kernel_rfl))
 f195:=Tryz.func165.trans (ay some (by kernel_rfl))
 f217:=Tryz.func193.trans (ay some (by kernel_rfl))
 f218:=Tryz.func166.trans (ay some (by kernel_rfl))
 f219:=Tryz.func191.trans (ay some (by kernel_rfl))
 f224:=Tryz.func215.trans (ay some (by kernel_rfl))
 f225:=Tryz.func214.trans (ay some (by kernel_rfl))
 f266:=Tryz.func217.trans (ay some (by kernel_rfl))
 f267:=Tryz.func216.trans (ay some (by kernel_rfl))
 f314:=Tryz.func228.trans (ay some (by kernel_rfl))
 t0:=Tryz.underlying0
 a0:=Tryz.isAgg0
 z0:=Tryz.sizeOf0
 v0:=Tryz.zeroValue0
 t3:=Tryz.underlying3
 a3:=Tryz.isAgg3
 z3:=Tryz.sizeOf3
 v3:=Tryz.zeroValue3
 t4:=Tryz.underlying4
 a4:=Tryz.isAgg4
 z4:=Tryz.sizeOf4
 v4:=Tryz.zeroValue4
 t5:=Tryz.underlying5
 a5:=Tryz.isAgg5
 z5:=Tryz.sizeOf5
 v5:=Tryz.zeroValue5
 t9:=Tryz.underlying9
 a9:=Tryz.isAgg9
 z9:=Tryz.sizeOf9
 v9:=Tryz.zeroValue9
 t46:=Tryz.underlying282
 a46:=Tryz.isAgg282
 z46:=Tryz.sizeOf282
 v46:=Tryz.zeroValue282
 t51:=Tryz.underlying285
 a51:=Tryz.isAgg285
 z51:=Tryz.sizeOf285
 v51:=Tryz.zeroValue285
 t146:=Tryz.underlying286
 a146:=Tryz.isAgg286
 z146:=Tryz.sizeOf286
 v146:=Tryz.zeroValue286
 g1:=by kernel_rfl}
open Go.RowKit Go.Lib in
theorem Tryz.strings_Count_one (s:ByteArray) (c:UInt8) (w:World) :
  Calls Tryz.prog 131 #[.string s,.string ⟨#[c]⟩] w fun e w'=>e=.returned (.int .i64 (Lib.countByte s.data.toList c))∧w'=w:=Any.strings_Count_one Tryz.RY s c w
def Tryz.CZ:Go.Shelf.Ren:=⟨fun|99=>71|206=>132|n=>n,fun|9=>9|4=>4|3=>3|n=>n,fun|n=>n⟩
theorem Tryz.Xu:Go.Proofs.Lays.n99 Tryz.prog Tryz.CZ:={
 mixed:=by kernel_rfl
 f99:=Tryz.func71.trans (ay some (by kernel_rfl))
 f206:=Tryz.func132.trans (ay some (by kernel_rfl))
 t3:=Tryz.underlying3
 a3:=Tryz.isAgg3
 z3:=Tryz.sizeOf3
 v3:=Tryz.zeroValue3
 t4:=Tryz.underlying4
 a4:=Tryz.isAgg4
 z4:=Tryz.sizeOf4
 v4:=Tryz.zeroValue4
 t9:=Tryz.underlying9
 a9:=Tryz.isAgg9
 z9:=Tryz.sizeOf9
 v9:=Tryz.zeroValue9}
open Go.RowKit Go.Lib in
theorem Tryz.strings_HasPrefix (s p:ByteArray) (w:World) :
  Calls Tryz.prog 71 #[.string s,.string p] w fun e w'=>e=.returned (.bool (Lib.hasPrefix s.data.toList p.data.toList))∧w'=w:=Any.strings_HasPrefix Tryz.Xu s p w
def Tryz.Aq:Go.Shelf.Ren:=⟨fun|101=>140|208=>177|206=>132|n=>n,fun|9=>9|4=>4|3=>3|n=>n,fun|n=>n⟩
theorem Tryz.RZ:Go.Proofs.Lays.n101 Tryz.prog Tryz.Aq:={
 mixed:=by kernel_rfl
 f101:=Tryz.func140.trans (ay some (by kernel_rfl))
 f206:=Tryz.func132.trans (ay some (by kernel_rfl))
 f208:=Tryz.func177.trans (ay some (by kernel_rfl))
 t3:=Tryz.underlying3
 a3:=Tryz.isAgg3
 z3:=Tryz.sizeOf3
 v3:=Tryz.zeroValue3
 t4:=Tryz.underlying4
 a4:=Tryz.isAgg4
 z4:=Tryz.sizeOf4
 v4:=Tryz.zeroValue4
 t9:=Tryz.underlying9
 a9:=Tryz.isAgg9
 z9:=Tryz.sizeOf9
 v9:=Tryz.zeroValue9}
open Go.RowKit Go.Lib in
theorem Tryz.strings_TrimPrefix (s p:ByteArray) (w:World) :
  Calls Tryz.prog 140 #[.string s,.string p] w fun e w'=>e=.returned (.string ⟨(Lib.trimPrefix s.data.toList p.data.toList).toArray⟩)∧w'=w:=Any.strings_TrimPrefix Tryz.RZ s p w
def Tryz.sC:Go.Shelf.Ren:=⟨fun|155=>139|154=>176|138=>131|165=>200|143=>167|166=>201|197=>202|169=>203|195=>165|218=>166|240=>221|241=>222|219=>191|260=>223|276=>233|277=>234|217=>193|225=>214|224=>215|267=>216|266=>217|314=>228|n=>n,fun|9=>9|3=>3|4=>4|72=>272|0=>0|76=>72|105=>275|21=>21|5=>5|70=>270|20=>20|37=>216|75=>27|127=>284|164=>127|46=>282|119=>291|139=>294|138=>293|146=>286|51=>285|80=>121|n=>n,fun|1=>1|3=>2|4=>3|n=>n⟩
theorem Tryz.R9:Go.Proofs.Lays.n155 Tryz.prog Tryz.sC:={
 mixed:=by kernel_rfl
 f138:=Tryz.func131.trans (ay some (by kernel_rfl))
 f143:=Tryz.func167.trans (ay some (by kernel_rfl))
 f154:=Tryz.func176.trans (ay some (by kernel_rfl))
 f155:=Tryz.func139.trans (ay some (by kernel_rfl))
 f165:=Tryz.func200.trans (ay some (by kernel_rfl))
 f166:=Tryz.func201.trans (ay some (by kernel_rfl))
 f169:=Tryz.func203.trans (ay some (by kernel_rfl))
 f195:=Tryz.func165.trans (ay some (by kernel_rfl))
 f197:=Tryz.func202.trans (ay some (by kernel_rfl))
 f217:=Tryz.func193.trans (ay some (by kernel_rfl))
 f218:=Tryz.func166.trans (ay some (by kernel_rfl))
 f219:=Tryz.func191.trans (ay some (by kernel_rfl))
 f224:=Tryz.func215.trans (ay some (by kernel_rfl))
 f225:=Tryz.func214.trans (ay some (by kernel_rfl))
 f240:=Tryz.func221.trans (ay some (by kernel_rfl))
 f241:=Tryz.func222.trans (ay some (by kernel_rfl))
 f260:=Tryz.func223.trans (ay some (by kernel_rfl))
 f266:=Tryz.func217.trans (ay some (by kernel_rfl))
 f267:=Tryz.func216.trans (ay some (by kernel_rfl))
 f276:=Tryz.func233.trans (ay some (by kernel_rfl))
 f277:=Tryz.func234.trans (ay some (by kernel_rfl))
 f314:=Tryz.func228.trans (ay some (by kernel_rfl))
 t0:=Tryz.underlying0
 a0:=Tryz.isAgg0
 z0:=Tryz.sizeOf0
 v0:=Tryz.zeroValue0
 t3:=Tryz.underlying3
 a3:=Tryz.isAgg3
 z3:=Tryz.sizeOf3
 v3:=Tryz.zeroValue3
 t4:=Tryz.underlying4
 a4:=Tryz.isAgg4
 z4:=Tryz.sizeOf4
 v4:=Tryz.zeroValue4
 t5:=Tryz.underlying5
 a5:=Tryz.isAgg5
 z5:=Tryz.sizeOf5
 v5:=Tryz.zeroValue5
 t9:=Tryz.underlying9
 a9:=Tryz.isAgg9
 z9:=Tryz.sizeOf9
 v9:=Tryz.zeroValue9
 t20:=Tryz.underlying20
 a20:=Tryz.isAgg20
 z20:=Tryz.sizeOf20
 v20:=Tryz.zeroValue20
 t21:=Tryz.underlying21
 a21:=Tryz.isAgg21
 z21:=Tryz.sizeOf21
 v21:=Tryz.zeroValue21
 t37:=Tryz.underlying216
 a37:=Tryz.isAgg216
 z37:=Tryz.sizeOf216
 v37:=Tryz.zeroValue216
 t46:=Tryz.underlying282
 a46:=Tryz.isAgg282
 z46:=Tryz.sizeOf282
 v46:=Tryz.zeroValue282
 t51:=Tryz.underlying285
 a51:=Tryz.isAgg285
 z51:=Tryz.sizeOf285
 v51:=Tryz.zeroValue285
 t70:=Tryz.underlying270
 a70:=Tryz.isAgg270
 z70:=Tryz.sizeOf270
 v70:=Tryz.zeroValue270
 t72:=Tryz.underlying272
 a72:=Tryz.isAgg272
 z72:=Tryz.sizeOf272
 v72:=Tryz.zeroValue272
 t75:=Tryz.underlying27
 a75:=Tryz.isAgg27
 z75:=Tryz.sizeOf27
 v75:=Tryz.zeroValue27
 t76:=Tryz.underlying72
 a76:=Tryz.isAgg72
 z76:=Tryz.sizeOf72
 v76:=Tryz.zeroValue72
 t105:=Tryz.underlying275
 a105:=Tryz.isAgg275
 z105:=Tryz.sizeOf275
 v105:=Tryz.zeroValue275
 t119:=Tryz.underlying291
 a119:=Tryz.isAgg291
 z119:=Tryz.sizeOf291
 t127:=Tryz.underlying284
 a127:=Tryz.isAgg284
 z127:=Tryz.sizeOf284
 v127:=Tryz.zeroValue284
 t138:=Tryz.underlying293
 a138:=Tryz.isAgg293
 z138:=Tryz.sizeOf293
 v138:=Tryz.zeroValue293
 t139:=Tryz.underlying294
 a139:=Tryz.isAgg294
 z139:=Tryz.sizeOf294
 v139:=Tryz.zeroValue294
 t146:=Tryz.underlying286
 a146:=Tryz.isAgg286
 z146:=Tryz.sizeOf286
 v146:=Tryz.zeroValue286
 t164:=Tryz.underlying127
 a164:=Tryz.isAgg127
 z164:=Tryz.sizeOf127
 v164:=Tryz.zeroValue127
 g1:=by kernel_rfl
 g3:=by kernel_rfl
 g4:=by kernel_rfl}
theorem Tryz.qd:Builder.Extra Tryz.prog Tryz.sC:={
 sizeBuilder:=by kernel_rfl
 liesBuilder:=by kernel_rfl
 t5:=Tryz.underlying5
 a5:=Tryz.isAgg5
 z5:=Tryz.sizeOf5
 v5:=Tryz.zeroValue5
 infoByte:=by kernel_rfl
 cellsByte:=by kernel_rfl
 sizeByte:=by kernel_rfl
 neB5:=by decide}
open Go.RowKit Go.Lib in
theorem Tryz.strings_ReplaceAll (s old new:ByteArray) (m:Int) (w:World) (hs:s.size<4294967281) (hm:w.cell? ⟨1,0,none⟩=some (.int .i64 m)) (h1:1≤old.size) (hlen:s.size+Lib.countB s old*new.size≤140737488355328) :
  Calls Tryz.prog 139 #[.string s,.string old,.string new] w fun e w' =>
   e=.returned (.string ⟨(Lib.replaceAll s.data.toList old.data.toList new.data.toList).toArray⟩)∧Below w.heap.size w w':=Any.strings_ReplaceAll Tryz.R9 Tryz.qd s old new m w hs hm h1 hlen
end Go.Proofs
