/- Parts of the proof. -/
import Derived.RowKit
import Derived.Lib.SlTrimSet
import Derived.Lib.Strings
import Derived.Lib.ItoaNum
import Derived.Lib.IndexMore
import Derived.Lib.Replace
import Derived.Lib.Bytealg
import Derived.Test.YteflkdlaoiijbaaGreatDoorProg
import Derived.WalkKit
import Derived.WalkSpells
import Derived.WalkLawsBesides
import Derived.Lib.QuietBelow
import Derived.BigQuiet
import Derived.Lib.Hide
import Derived.IntWalk
import Derived.Shelf.Strings.Builder1
import Derived.Shelf.Strings.Builder2
import Derived.Shelf.Strings.Trim
import Derived.Shelf.Small.Utf8
import Derived.Shelf.Small.Strs
import Derived.Shelf.Small.Wraps
import Derived.Shelf.Strings.Search1
import Derived.Shelf.Strings.Search2
import Derived.Shelf.Strings.Search3
import Derived.Shelf.Strings.Cut
import Derived.Shelf.Strings.Count
import Derived.Shelf.LaysM
import Derived.Shelf.Strings.Shaped
import Derived.Shelf.Strings.Prefix
import Derived.Shelf.Strings.Split
import Derived.Shelf.Strings.Replace
import Derived.Shelf.Strings.SplitShaped
import Derived.Shelf.Strings.Runes
import Derived.Shelf.Strings.AsciiSet
import Derived.Shelf.Unicode.DecodeSlow
import Derived.Shelf.Strings.SlTrimAscii
import Derived.Lib.SplitLaws
import Derived.Below
import Derived.Deep.QuietTactic
import Derived.Deep.RegionWith
import Derived.RangeFuncBox
import Derived.Maps.AppendAt
set_option maxHeartbeats 16000000
set_option maxRecDepth 20000
namespace Go.Proofs
theorem aa {p:Prop}(h:p):RowKit.Hid p:=h
abbrev aJ:=@Array.getElem?_eq_some_iff
abbrev aK:=@List.getElem?_eq_some_iff
abbrev ah:=@Nat.le_refl
abbrev aG:=@beq_eq_false_iff_ne
abbrev aM:=@List.mem_of_getElem?
abbrev af:=@if_neg
abbrev bX:=@List.getElem?_eq_getElem
abbrev aL:=@Nat.le_trans
abbrev al:=@if_pos
abbrev bY:=@List.mem_cons_of_mem
abbrev bR:=@List.mem_singleton
abbrev bV:=@List.mem_cons_self
abbrev az:=@congrArg
abbrev bq:=@List.mem_cons
abbrev cC:=@List.length_append
abbrev dV:=@List.setIfInBounds_toArray
abbrev cL:=@Nat.lt_of_lt_of_le
abbrev dW:=@List.getElem?_cons_succ
abbrev dR:=@List.getElem?_set_self
abbrev cr:=@decide_eq_false
abbrev ee:=@List.getElem?_cons_zero
abbrev bZ:=@decide_eq_true
abbrev cD:=@List.length_map
abbrev eK:=@Bool.eq_false_or_eq_true
abbrev ef:=@List.getElem?_toArray
abbrev di:=@Bool.and_eq_true
abbrev dK:=@List.set_cons_zero
abbrev dL:=@List.set_cons_succ
abbrev bK:=@Nat.zero_le
abbrev dj:=@List.mem_append
abbrev dz:=@Nat.lt_succ_self
abbrev fD:=@List.getElem?_set_ne
abbrev fU:=@List.mem_append_left
abbrev fg:=@List.append_assoc
abbrev fV:=@Bool.false_ne_true
abbrev kB:=@List.getD_eq_getElem?_getD
abbrev fh:=@List.cons_append
abbrev iV:=@List.mem_append_right
abbrev kC:=@List.getElem?_append_left
abbrev gp:=@Nat.le_add_right
abbrev iy:=@decide_eq_true_eq
abbrev iz:=@Int.toNat_natCast
abbrev iA:=@List.getElem?_map
abbrev iB:=@of_decide_eq_true
abbrev kD:=@List.mem_iff_getElem?
abbrev pw:=@List.eq_nil_of_length_eq_zero
abbrev iW:=@List.flatMap_cons
abbrev jT:=@List.mem_map_of_mem
abbrev gO:=@Option.some.inj
abbrev fW:=@List.map_cons
abbrev fj:=@Nat.le_of_lt
abbrev mw:=@List.length_singleton
abbrev iX:=@List.append_nil
abbrev jq:=@Nat.not_lt_zero
abbrev kE:=@List.length_drop
abbrev fX:=@Nat.le_succ
abbrev px:=@List.drop_of_length_le
abbrev kF:=@List.nil_append
abbrev kG:=@List.length_set
abbrev kH:=@List.find?_cons
abbrev iY:=@Nat.zero_add
abbrev lZ:=@List.nodup_cons
abbrev l9:=@List.map_append
abbrev yW:=@List.findIdx?_eq_some_iff_getElem
abbrev py:=@List.flatMap_append
abbrev pz:=@List.map_eq_nil_iff
abbrev oe:=@List.nodup_append
abbrev jr:=@List.mem_map
abbrev jt:=@Nat.ne_of_lt
abbrev my:=@Bool.eq_iff_iff
abbrev kI:=@Bool.true_and
abbrev tb:=@List.take_of_length_le
abbrev og:=@List.length_take
abbrev te:=@ByteArray.size_extract
abbrev oh:=@List.not_mem_nil
abbrev vC:=@Array.getElem?_eq_getElem
abbrev pA:=@Option.some.injEq
abbrev rH:=@Nat.eq_zero_or_pos
abbrev yX:=@List.getElem?_append_right
abbrev vD:=@List.map_eq_append_iff
abbrev pB:=@Option.map_some
abbrev yY:=@Array.getElem_modify_self
abbrev yZ:=@List.drop_eq_getElem_cons
abbrev vF:=@List.getElem?_eq_none
abbrev y7:=@Option.isSome_iff_exists
abbrev y8:=@decide_eq_false_iff_not
abbrev vG:=@List.length_pos_iff
abbrev vH:=@List.replicate_succ
abbrev pC:=@Nat.add_assoc
abbrev tf:=@List.mem_flatMap
abbrev th:=@List.drop_suffix
abbrev ti:=@List.suffix_cons
abbrev y9:=@List.dropWhile_suffix
abbrev rI:=@List.all_cons
abbrev rJ:=@Prod.mk.injEq
abbrev DK:=@List.set_eq_of_length_le
abbrev vI:=@List.drop_length
abbrev tj:=@List.drop_zero
abbrev za:=@List.getElem?_drop
abbrev DL:=@List.dropWhile_sublist
abbrev om:=@bne_iff_ne
abbrev DM:=@List.flatMap_singleton
abbrev vJ:=@List.mem_filter
abbrev vK:=@Nat.le_add_left
abbrev zb:=@Array.size_modify
abbrev DN:=@Nat.mul_le_mul_right
abbrev JD:=@List.takeWhile_cons_of_pos
abbrev zc:=@List.take_length
abbrev JE:=@List.getElem?_eq_none_iff
abbrev JF:=@List.mem_of_find?_eq_some
abbrev JG:=@List.findIdx?_eq_none_iff
abbrev DO:=@List.replicate_zero
abbrev JH:=@List.Pairwise.imp_of_mem
abbrev ze:=@UInt8.toNat_inj
abbrev DP:=@List.find?_eq_none
abbrev DQ:=@List.reverse_cons
abbrev JI:=@ByteArray.data_extract
abbrev JJ:=@List.drop_eq_nil_of_le
abbrev oo:=@or_false
abbrev zf:=@Bool.false_and
abbrev JK:=@List.append_eq_nil_iff
abbrev DR:=@List.size_toArray
abbrev JL:=@List.take_append_drop
abbrev DS:=@List.isEmpty_iff
abbrev zg:=@List.cons.inj
abbrev TQ:=@List.take_append_of_le_length
abbrev JM:=@Nat.pow_le_pow_right
abbrev JN:=@Array.replicate_succ
abbrev JO:=@Array.replicate_zero
abbrev DT:=@Nat.min_eq_left
abbrev JP:=@List.getElem?_range
abbrev JR:=@List.append_toArray
abbrev zh:=@List.map_map
abbrev DU:=@List.nodup_nil
abbrev JS:=@Bool.false_eq_true
abbrev JT:=@List.contains_cons
abbrev JU:=@List.length_range'
abbrev vL:=@beq_iff_eq
abbrev DV:=@List.mem_range
abbrev JV:=@List.length_attach
abbrev JW:=@List.contains_nil
abbrev JX:=@List.ext_getElem?
abbrev JY:=@List.push_toArray
abbrev DW:=@List.map_drop
abbrev JZ:=@List.getElem_mem
abbrev J0:=@List.map_toArray
abbrev DX:=@Nat.pow_succ
abbrev DY:=@Nat.mul_comm
abbrev DZ:=@Nat.lt_or_ge
abbrev D0:=@Nat.succ_mul
abbrev D1:=@Nat.add_mul
abbrev D3:=@Nat.one_mul
end Go.Proofs
namespace Go.Proofs.YteflkdlaoiijbaaGreatDoor
structure Nd where
 kind:Int
 line:Int
 op:Int
 num:Int
 s:ByteArray
 names:List ByteArray
 kids:List Int
def upd (d:Nat→Nat) (i v:Nat):Nat→Nat:=fun j=>if j=i then v else d j
theorem upd_same (d:Nat→Nat) (i v:Nat):upd d i v i=v:=al rfl
theorem fY (d:Nat→Nat) {i j:Nat} (v:Nat) (h:j≠i):upd d i v j=d j:=af h
def dG (N v:Nat):List Int→(Nat→Nat)→List Nat→Option ((Nat→Nat)×List Nat)
 | [],d,m=>some (d,m)
 | k::ks,d,m=>if 0≤k∧k<(N:Int)∧d k.toNat=0 then dG N v ks (upd d k.toNat v) (m++[k.toNat]) else none
def cJ (T:List Nd) (i:Nat):List Int:=match T[i]? with|some x=>x.kids|none=>[]
def xt (T:List Nd):Nat→Nat→(Nat→Nat)→List Nat→Option ((Nat→Nat)×List Nat)
 | 0,_,d,m=>some (d,m)
 | f+1,a,d,m=>match m[a]? with
  | none=>some (d,m)
  | some i=>match dG T.length (d i+1) (cJ T i) d m with
   | none=>none
   | some p=>xt T f (a+1) p.1 p.2
def D4 (N:Nat):Option ((Nat→Nat)×List Nat)→Nat
 | none=>0
 | some p=>if p.2.length<N then 0 else p.1 (p.2.getLastD 0)
def eN (T:List Nd) (r:Int):Nat :=
 if T.length≤16384∧0≤r∧r<(T.length:Int) then D4 T.length (xt T (T.length+1) 0 (upd (fun _=>0) r.toNat 1) [r.toNat]) else 0
theorem tl :∀(N:Nat) (m:List Nat),m.Nodup→(∀j∈m,j<N)→m.length≤N:=by
 intro N;induction N with
 | zero =>
  intro m _ h;cases m with
  | nil=>exact ah _
  | cons a t=>exact absurd (h a (bV ..)) (jq _)
 | succ N ih =>
  intro m hn h;by_cases hN:N∈m
  ·have h1:=ih (m.erase N) (hn.erase N) (fun j hj=>by
    have hj':=(hn.mem_erase_iff).1 hj;have:=h j hj'.2;have:=hj'.1;omega)
   rw[List.length_erase_of_mem hN] at h1;omega
  ·have h1:=ih m hn (fun j hj=>by
    have:=h j hj;have:j≠N:=fun e=>hN (e▸hj)
    omega)
   omega
theorem qG {N:Nat} {m:List Nat} (hn:m.Nodup) (h :∀j∈m,j<N) (hl:m.length=N) {j:Nat} (hj:j<N):j∈m:=by
 by_cases hm:j∈m
 ·exact hm
 ·have:=tl N (j::m) (lZ.2 ⟨hm,hn⟩) (fun x hx=>by
   rcases bq.1 hx with rfl|hx
   ·exact hj
   ·exact h x hx)
  rw[List.length_cons] at this;omega
structure Inv (N:Nat) (d:Nat→Nat) (m:List Nat):Prop where
 nodup:m.Nodup
 iff :∀j,d j≠0↔j∈m
 lt :∀j∈m,j<N
theorem Inv.len {N:Nat} {d:Nat→Nat} {m:List Nat} (h:Inv N d m):m.length≤N:=tl N m h.nodup h.lt
theorem Inv.add {N:Nat} {d:Nat→Nat} {m:List Nat} (h:Inv N d m) {k v:Nat} (hk:k<N) (h0:d k=0) (hv:v≠0):Inv N (upd d k v) (m++[k]):=by
 have xu:k∉m:=fun hm=>(h.iff k).2 hm h0
 refine⟨?_,fun j=>?_,fun j hj=>?_⟩
 ·rw[oe]
  refine⟨h.nodup,by simp,fun a ha b hb=>?_⟩
  obtain rfl:=bR.1 hb;exact fun e=>xu (e▸ha)
 ·by_cases hj:j=k
  ·subst hj
   rw[upd_same];exact⟨fun _=>by simp,fun _=>hv⟩
  ·rw[fY _ _ hj,h.iff,dj,bR]
   exact⟨fun h=>.inl h,fun h=>h.resolve_right hj⟩
 ·rcases dj.1 hj with hj|hj
  ·exact h.lt j hj
  ·obtain rfl:=bR.1 hj
   exact hk
theorem Inv.start {N r:Nat} (h:r<N):Inv N (upd (fun _=>0) r 1) [r]:=by
 have h0:Inv N (fun _=>0) []:=⟨DU,fun j=>by simp,fun j hj=>by simp at hj⟩
 exact h0.add h rfl (by decide)
theorem oG {N v:Nat} (hv:v≠0) :∀(ks:List Int) (d:Nat→Nat) (m:List Nat) (d':Nat→Nat) (m':List Nat),Inv N d m→dG N v ks d m=some (d',m') →
  Inv N d' m'∧m'=m++ks.map Int.toNat∧(∀j,d j≠0→d' j=d j)∧(∀k∈ks,0≤k∧k<(N:Int)∧d' k.toNat=v)∧(∀j,d' j=d j∨d' j=v):=by
 intro ks;induction ks with
 | nil =>
  intro d m d' m' h e;obtain⟨rfl,rfl⟩:d=d'∧m=m':=by simpa[dG] using e
  exact⟨h,by simp,fun _ _=>rfl,fun k hk=>by simp at hk,fun _=>.inl rfl⟩
 | cons k ks ih =>
  intro d m d' m' h e;rw[dG] at e;split at e
  ·rename_i hk
   obtain⟨h0,h1,h2⟩:=hk;obtain⟨i1,i2,i3,i4,i5⟩:=ih _ _ _ _ (h.add (by omega) h2 hv) e
   refine⟨i1,by rw[i2];simp,fun j hj=>?_,fun k' sP=>?_,fun j=>?_⟩
   ·have hjk:j≠k.toNat:=fun e=>hj (e▸h2)
    have:=i3 j (by rw[fY _ _ hjk];exact hj)
    rw[this,fY _ _ hjk]
   ·rcases bq.1 sP with rfl|sP
    ·refine⟨h0,h1,?_⟩
     rw[i3 _ (by rw[upd_same];exact hv),upd_same]
    ·exact i4 k' sP
   ·rcases i5 j with h|h
    ·rw[h]
     by_cases hj:j=k.toNat
     ·subst hj;right;exact upd_same _ _ _
     ·left;exact fY _ _ hj
    ·exact .inr h
  ·cases e
structure Vk (T:List Nd) (r:Nat) (d:Nat→Nat) (m:List Nat):Prop where
 nodup:m.Nodup
 lt :∀j∈m,j<T.length
 full:m.length=T.length
 eq:m=r::m.flatMap fun i=>(cJ T i).map Int.toNat
 kid :∀i∈m,∀k∈cJ T i,0≤k∧k<(T.length:Int)∧d k.toNat=d i+1
 root:d r=1
 bound :∀i,d i≤T.length+1
theorem Vk.mem {T:List Nd} {r:Nat} {d:Nat→Nat} {m:List Nat} (h:Vk T r d m) {i:Nat} (hi:i<T.length):i∈m:=qG h.nodup h.lt h.full hi
theorem lx {α:Type} (m:List α) (a:Nat) (i:α) (h:m[a]? = some i):m.take (a+1)=m.take a++[i]:=by
 rw[List.take_add_one,h];rfl
structure Half (T:List Nd) (r:Nat) (a:Nat) (d:Nat→Nat) (m:List Nat):Prop where
 inv:Inv T.length d m
 le:a≤m.length
 eq:m=r::(m.take a).flatMap fun i=>(cJ T i).map Int.toNat
 kid :∀i∈m.take a,∀k∈cJ T i,0≤k∧k<(T.length:Int)∧d k.toNat=d i+1
 root:d r=1
 bound :∀i,d i≤a+1
theorem Half.start {T:List Nd} {r:Nat} (h:r<T.length):Half T r 0 (upd (fun _=>0) r 1) [r] :=
 ⟨Inv.start h,bK _,by simp,fun i hi=>by simp at hi,upd_same _ _ _,fun i=>by
  by_cases hi:i=r
  ·subst hi;rw[upd_same];omega
  ·rw[fY _ _ hi];omega⟩
theorem Half.step {T:List Nd} {r a i:Nat} {d d':Nat→Nat} {m m':List Nat} (h:Half T r a d m) (hi:m[a]? = some i) (e:dG T.length (d i+1) (cJ T i) d m=some (d',m')):Half T r (a+1) d' m':=by
 obtain⟨i1,i2,i3,i4,i5⟩:=oG (by omega) _ _ _ _ _ h.inv e
 have hlt:a<m.length:=(aK.1 hi).1;have aT :∀j∈m,d' j=d j:=fun j hj=>i3 j ((h.inv.iff j).2 hj)
 have Zl:i∈m:=aM hi;have Vl:m'.take (a+1)=m.take a++[i]:=by
  rw[i2,TQ (by omega),lx m a i hi]
 refine⟨i1,by rw[i2,cC];omega,?_,fun j hj k hk=>?_,?_,fun j=>?_⟩
 ·rw[Vl,py]
  conv=>lhs;rw[i2,h.eq]
  simp
 ·rw[Vl] at hj
  rcases dj.1 hj with hj|hj
  ·obtain⟨k0,k1,k2⟩:=h.kid j hj k hk
   have xu:d k.toNat≠0:=by omega
   rw[i3 _ xu,aT j (List.mem_of_mem_take hj)];exact⟨k0,k1,k2⟩
  ·obtain rfl:=bR.1 hj
   obtain⟨k0,k1,k2⟩:=i4 k hk;rw[k2,aT _ Zl];exact⟨k0,k1,rfl⟩
 ·rw[i3 r (by rw[h.root];decide),h.root]
 ·have:=h.bound j
  have:=h.bound i;rcases i5 j with e|e<;>omega
theorem J1 {T:List Nd} {r:Nat} :∀(f a:Nat) (d:Nat→Nat) (m:List Nat) (d':Nat→Nat) (m':List Nat),Half T r a d m→T.length+1≤f+a→xt T f a d m=some (d',m')→Half T r m'.length d' m':=by
 intro f;induction f with
 | zero =>
  intro a d m d' m' h hf e;have:=h.inv.len;have:=h.le;omega
 | succ f ih =>
  intro a d m d' m' h hf e;rw[xt] at e;cases hi:m[a]? with
  | none =>
   rw[hi] at e;obtain⟨rfl,rfl⟩:d=d'∧m=m':=by simpa using e
   have h1:m.length≤a:=JE.1 hi;have h2:=h.le;obtain rfl:a=m.length:=by omega
   exact h
  | some i =>
   rw[hi] at e;have e':(match dG T.length (d i+1) (cJ T i) d m with
    | none=>none
    | some p=>xt T f (a+1) p.1 p.2)=some (d',m'):=e
   cases hk:dG T.length (d i+1) (cJ T i) d m with
   | none=>rw[hk] at e';cases e'
   | some p =>
    rw[hk] at e';exact ih _ _ _ _ _ (h.step hi hk) (by omega) e'
theorem zi {T:List Nd} {r:Int} (h:eN T r≠0):T.length≤16384∧0≤r∧r<(T.length:Int)∧∃d m,Vk T r.toNat d m:=by
 unfold eN at h;split at h
 ·rename_i hh
  obtain⟨h0,h1,h2⟩:=hh;refine⟨h0,h1,h2,?_⟩;cases e:xt T (T.length+1) 0 (upd (fun _=>0) r.toNat 1) [r.toNat] with
  | none=>rw[e] at h;exact absurd rfl h
  | some p =>
   obtain⟨d,m⟩:=p;rw[e] at h;have hf:=J1 _ _ _ _ _ _ (Half.start (T:=T) (r:=r.toNat) (by omega)) (by omega) e
   have hlen:¬ m.length<T.length:=fun hl=>h (al hl)
   have:=hf.inv.len;have hm:m.length=T.length:=by omega
   have ht:m.take m.length=m:=zc;refine⟨d,m,hf.inv.nodup,hf.inv.lt,hm,?_,fun i hi=>hf.kid i (by rw[ht];exact hi),hf.root,fun i=>by have:=hf.bound i;omega⟩
   have he:=hf.eq;rw[ht] at he;exact he
 ·exact absurd rfl h
theorem BY {α β:Type} {f:α→List β} :∀{l:List α},(l.flatMap f).Nodup→∀{a b:α} {x:β},a∈l→b∈l→x∈f a→x∈f b→l.Nodup→a=b:=by
 intro l;induction l with
 | nil=>intro _ a b x ha;simp at ha
 | cons c t ih =>
  intro hn a b x ha hb xa xb hl;rw[iW,oe] at hn;have hl':=(lZ.1 hl);rcases bq.1 ha with ea|ha'<;>rcases bq.1 hb with eb|hb'
  ·rw[ea,eb]
  ·subst ea
   exact absurd rfl (hn.2.2 x xa x (tf.2 ⟨b,hb',xb⟩))
  ·subst eb
   exact absurd rfl (hn.2.2 x xb x (tf.2 ⟨a,ha',xa⟩))
  ·exact ih hn.2.1 ha' hb' xa xb hl'.2
theorem tm {α β:Type} {f:α→List β} :∀{l:List α},(l.flatMap f).Nodup→∀{a:α},a∈l→(f a).Nodup:=by
 intro l;induction l with
 | nil=>intro _ a ha;simp at ha
 | cons c t ih =>
  intro hn a ha;rw[iW,oe] at hn;rcases bq.1 ha with rfl|ha
  ·exact hn.1
  ·exact ih hn.2.1 ha
theorem Vk.FI {T:List Nd} {r:Nat} {d:Nat→Nat} {m:List Nat} (h:Vk T r d m) {i:Nat} (hi:i<T.length):(cJ T i).Nodup:=by
 have h1:=h.nodup;rw[h.eq,lZ] at h1;have:=tm h1.2 (h.mem hi);rw[List.Nodup,List.pairwise_map] at this;exact List.Pairwise.imp (fun h e=>h (by rw[e])) this
theorem xw {α:Type} (l:List α) (x:α) (h:l≠[]):l.getLastD x∈l:=by
 induction l with
 | nil=>exact absurd rfl h
 | cons a t ih =>
  cases t with
  | nil=>exact bR.2 rfl
  | cons b t=>exact bY _ (ih (by simp))
end Go.Proofs.YteflkdlaoiijbaaGreatDoor
namespace Go.Proofs.YteflkdlaoiijbaaGreatDoor
def dH (T:List Nd) (i:Nat):Int:=match T[i]? with|some x=>x.kind|none=>0
section
variable (fo:Nd→Bool) (ko:Int→Int→List Int→Bool) (so:Int→Int) (hd:Nd→List UInt8)
def kf (T:List Nd) (x:Nd):Bool:=decide (1≤x.line) && fo x && ko x.kind x.num (x.kids.map fun k=>so (dH T k.toNat))
def oH (T:List Nd) (r:Int):Bool:=decide (eN T r≠0) && decide (eN T r≤100) && decide (dH T r.toNat=18) && T.all (kf fo ko so T)
theorem fZ {T:List Nd} {r:Int}:oH fo ko so T r=true↔eN T r≠0∧eN T r≤100∧dH T r.toNat=18∧∀(i:Nat) (x:Nd),T[i]? = some x→kf fo ko so T x=true:=by
 unfold oH;simp only[di,iy,List.all_eq_true,and_assoc];constructor
 ·rintro⟨h1,h2,h3,h4⟩
  exact⟨h1,h2,h3,fun i x hx=>h4 x (aM hx)⟩
 ·rintro⟨h1,h2,h3,h4⟩
  refine⟨h1,h2,h3,fun x hx=>?_⟩
  obtain⟨i,hi⟩:=kD.1 hx;exact h4 i x hi
theorem tn {T:List Nd} {x:Nd}:kf fo ko so T x=true↔1≤x.line∧fo x=true∧ko x.kind x.num (x.kids.map fun k=>so (dH T k.toNat))=true:=by
 unfold kf;simp only[di,iy,and_assoc]
theorem jb {T:List Nd} {i:Nat} {x:Nd} (h:T[i]? = some x):cJ T i=x.kids:=by unfold cJ;rw[h]
theorem nH {T:List Nd} {i:Nat} {x:Nd} (h:T[i]? = some x):dH T i=x.kind:=by unfold dH;rw[h]
theorem FJ {T:List Nd} {r:Int} (h:oH fo ko so T r=true) :∃d m,Vk T r.toNat d m∧0≤r∧r<(T.length:Int):=by
 obtain⟨h0,_⟩:=(fZ fo ko so).1 h;obtain⟨_,TR,hr1,d,m,hs⟩:=zi h0;exact⟨d,m,hs,TR,hr1⟩
end
end Go.Proofs.YteflkdlaoiijbaaGreatDoor
namespace Go.Proofs.YteflkdlaoiijbaaGreatDoor
inductive Ast where
 | mk (h:Nd) (kids:List Ast)
def Ast.hd:Ast→Nd
 | .mk h _=>h
mutual
def Ast.depth:Ast→Nat
 | .mk _ ks=>Ast.ju ks+1
def Ast.ju:List Ast→Nat
 | []=>0
 | a::xz=>max (Ast.depth a) (Ast.ju xz)
end
mutual
def Ast.size:Ast→Nat
 | .mk _ ks=>Ast.ak ks+1
def Ast.ak:List Ast→Nat
 | []=>0
 | a::xz=>Ast.size a+Ast.ak xz
end
mutual
def gJ (T:List Nd):Ast→Nat→List Nat→Prop
 | .mk h xz,i,js=>∃x rK,T[i]? = some x∧x={ h with kids:=x.kids}∧bs T xz x.kids rK∧js=i::rK
def bs (T:List Nd):List Ast→List Int→List Nat→Prop
 | [],ks,js=>ks=[]∧js=[]
 | a::xz,ks,js=>∃(k:Nat) (ic:List Int) (j1 j2:List Nat),ks=(k:Int)::ic∧gJ T a k j1∧bs T xz ic j2∧js=j1++j2
end
def vM (T:List Nd) (i:Nat):List Nat:=(cJ T i).map Int.toNat
theorem gJ.root {T:List Nd} {a:Ast} {i:Nat} {js:List Nat} (h:gJ T a i js):i∈js∧dH T i=a.hd.kind∧i<T.length:=by
 cases a with
 | mk hd xz =>
  unfold gJ at h;obtain⟨x,rK,hx,he,_,rfl⟩:=h;refine⟨bV ..,?_,(aK.1 hx).1⟩;rw[nH hx,he];rfl
mutual
theorem gJ.lt {T:List Nd} :∀(a:Ast) (i:Nat) (js:List Nat),gJ T a i js→∀j∈js,j<T.length
 | .mk h xz,i,js,hr=>by
  unfold gJ at hr;obtain⟨x,rK,hx,_,hs,rfl⟩:=hr;intro j hj;rcases bq.1 hj with rfl|hj
  ·exact(aK.1 hx).1
  ·exact bs.lt xz x.kids rK hs j hj
theorem bs.lt {T:List Nd} :∀(xz:List Ast) (ks:List Int) (js:List Nat),bs T xz ks js→∀j∈js,j<T.length
 | [],ks,js,hr=>by
  unfold bs at hr;obtain⟨_,rfl⟩:=hr;intro j hj;simp at hj
 | a::xz,ks,js,hr=>by
  unfold bs at hr;obtain⟨k,ic,j1,j2,_,h1,h2,rfl⟩:=hr;intro j hj;rcases dj.1 hj with hj|hj
  ·exact gJ.lt a k j1 h1 j hj
  ·exact bs.lt xz ic j2 h2 j hj
end
mutual
/-- A tree lies in a longer list xz it did. -/
theorem gJ.more {T T':List Nd} (hT :∀(i:Nat) x,T[i]? = some x→T'[i]? = some x) :∀(a:Ast) (i:Nat) (js:List Nat),gJ T a i js→gJ T' a i js
 | .mk h xz,i,js,hr=>by
  unfold gJ at hr ⊢;obtain⟨x,rK,hx,he,hs,rfl⟩:=hr;exact⟨x,rK,hT i x hx,he,bs.more hT xz x.kids rK hs,rfl⟩
theorem bs.more {T T':List Nd} (hT :∀(i:Nat) x,T[i]? = some x→T'[i]? = some x) :∀(xz:List Ast) (ks:List Int) (js:List Nat),bs T xz ks js→bs T' xz ks js
 | [],ks,js,hr=>by
  unfold bs at hr ⊢;exact hr
 | a::xz,ks,js,hr=>by
  unfold bs at hr ⊢;obtain⟨k,ic,j1,j2,hk,h1,h2,rfl⟩:=hr;exact⟨k,ic,j1,j2,hk,gJ.more hT a k j1 h1,bs.more hT xz ic j2 h2,rfl⟩
end
mutual
theorem gJ.len {T:List Nd} :∀(a:Ast) (i:Nat) (js:List Nat),gJ T a i js→js.length=a.size
 | .mk h xz,i,js,hr=>by
  unfold gJ at hr;obtain⟨x,rK,_,_,hs,rfl⟩:=hr;rw[List.length_cons,bs.len xz x.kids rK hs,Ast.size]
theorem bs.len {T:List Nd} :∀(xz:List Ast) (ks:List Int) (js:List Nat),bs T xz ks js→js.length=Ast.ak xz
 | [],ks,js,hr=>by
  unfold bs at hr;obtain⟨_,rfl⟩:=hr;rfl
 | a::xz,ks,js,hr=>by
  unfold bs at hr;obtain⟨k,ic,j1,j2,_,h1,h2,rfl⟩:=hr;rw[cC,gJ.len a k j1 h1,bs.len xz ic j2 h2,Ast.ak]
end
mutual
/-- The root, and what is named: all of them. -/
theorem gJ.perm {T:List Nd} :∀(a:Ast) (i:Nat) (js:List Nat),gJ T a i js→js.Perm (i::js.flatMap (vM T))
 | .mk h xz,i,js,hr=>by
  unfold gJ at hr;obtain⟨x,rK,hx,_,hs,rfl⟩:=hr;refine List.Perm.cons i ?_;have h1:vM T i=x.kids.map Int.toNat:=by unfold vM;rw[jb hx]
  rw[iW,h1];exact bs.perm xz x.kids rK hs
theorem bs.perm {T:List Nd} :∀(xz:List Ast) (ks:List Int) (js:List Nat),bs T xz ks js→js.Perm (ks.map Int.toNat++js.flatMap (vM T))
 | [],ks,js,hr=>by
  unfold bs at hr;obtain⟨rfl,rfl⟩:=hr;exact List.Perm.nil
 | a::xz,ks,js,hr=>by
  unfold bs at hr;obtain⟨k,ic,j1,j2,rfl,h1,h2,rfl⟩:=hr;have p1:=gJ.perm a k j1 h1;have p2:=bs.perm xz ic j2 h2;rw[py,fW,iz,fh];refine(p1.append p2).trans ?_;rw[fh];refine List.Perm.cons k ?_;rw[←fg,←fg];exact List.Perm.append_right _ List.perm_append_comm
end
mutual
/-- Zm holds the root and what its members name holds all. -/
theorem gJ.closed {T:List Nd} {m:List Nat} (hm :∀i∈m,∀k∈cJ T i,k.toNat∈m) :∀(a:Ast) (i:Nat) (js:List Nat),gJ T a i js→i∈m→∀j∈js,j∈m
 | .mk h xz,i,js,hr,hi=>by
  unfold gJ at hr;obtain⟨x,rK,hx,_,hs,rfl⟩:=hr;intro j hj;rcases bq.1 hj with rfl|hj
  ·exact hi
  ·exact bs.closed hm xz x.kids rK hs (fun k hk=>hm i hi k (by rw[jb hx];exact hk)) j hj
theorem bs.closed {T:List Nd} {m:List Nat} (hm :∀i∈m,∀k∈cJ T i,k.toNat∈m) :∀(xz:List Ast) (ks:List Int) (js:List Nat),bs T xz ks js→(∀k∈ks,k.toNat∈m)→∀j∈js,j∈m
 | [],ks,js,hr,_=>by
  unfold bs at hr;obtain⟨_,rfl⟩:=hr;intro j hj;simp at hj
 | a::xz,ks,js,hr,hk=>by
  unfold bs at hr;obtain⟨k,ic,j1,j2,rfl,h1,h2,rfl⟩:=hr;intro j hj;rcases dj.1 hj with hj|hj
  ·exact gJ.closed hm a k j1 h1 (by simpa using hk k (bV ..)) j hj
  ·exact bs.closed hm xz ic j2 h2 (fun z hz=>hk z (bY _ hz)) j hj
end
mutual
/-- How deep the nodes are, by whoever counts from parents to kids. -/
theorem gJ.tp {T:List Nd} {d:Nat→Nat} :∀(a:Ast) (i:Nat) (js:List Nat),gJ T a i js→(∀j∈js,∀k∈cJ T j,d k.toNat=d j+1)→(∀j∈js,d j+1≤d i+a.depth)∧∃j∈js,d j+1=d i+a.depth
 | .mk h xz,i,js,hr,hd=>by
  unfold gJ at hr;obtain⟨x,rK,hx,_,hs,rfl⟩:=hr;have h1:=bs.tp (v:=d i) xz x.kids rK hs (fun j hj=>hd j (bY _ hj)) (fun k hk=>hd i (bV ..) k (by rw[jb hx];exact hk))
  rw[Ast.depth];refine⟨fun j hj=>?_,?_⟩
  ·rcases bq.1 hj with rfl|hj
   ·omega
   ·have:=h1.1 j hj
    omega
  ·by_cases h0:xz=[]
   ·subst h0
    exact⟨i,bV ..,by rw[Ast.ju]⟩
   ·obtain⟨j,hj,he⟩:=h1.2 h0
    exact⟨j,bY _ hj,by omega⟩
theorem bs.tp {T:List Nd} {d:Nat→Nat} {v:Nat} :∀(xz:List Ast) (ks:List Int) (js:List Nat),bs T xz ks js→(∀j∈js,∀k∈cJ T j,d k.toNat=d j+1)→(∀k∈ks,d k.toNat=v+1)→(∀j∈js,d j≤v+Ast.ju xz)∧(xz≠[]→∃j∈js,d j=v+Ast.ju xz)
 | [],ks,js,hr,_,_=>by
  unfold bs at hr;obtain⟨_,rfl⟩:=hr;exact⟨fun j hj=>by simp at hj,fun h=>absurd rfl h⟩
 | a::xz,ks,js,hr,hd,hk=>by
  unfold bs at hr;obtain⟨k,ic,j1,j2,rfl,h1,h2,rfl⟩:=hr;have e1:=gJ.tp a k j1 h1 (fun j hj=>hd j (fU _ hj))
  have e2:=bs.tp (v:=v) xz ic j2 h2 (fun j hj=>hd j (iV _ hj)) (fun z hz=>hk z (bY _ hz))
  have hv:d k=v+1:=by simpa using hk k (bV ..)
  rw[Ast.ju];refine⟨fun j hj=>?_,fun _=>?_⟩
  ·rcases dj.1 hj with hj|hj
   ·have:=e1.1 j hj
    omega
   ·have:=e2.1 j hj
    omega
  ·by_cases hle:Ast.ju xz≤a.depth
   ·obtain⟨j,hj,he⟩:=e1.2
    exact⟨j,fU _ hj,by omega⟩
   ·have h0:xz≠[]:=fun h=>by subst h;exact hle (by rw[Ast.ju];omega)
    obtain⟨j,hj,he⟩:=e2.2 h0;exact⟨j,iV _ hj,by omega⟩
end
theorem zj {N v:Nat} :∀(ks:List Int) (d:Nat→Nat) (m:List Nat),(∀k∈ks,0≤k∧k<(N:Int)∧d k.toNat=0)→(ks.map Int.toNat).Nodup→∃p,dG N v ks d m=some p:=by
 intro ks;induction ks with
 | nil=>intro d m _ _;exact⟨_,rfl⟩
 | cons k ks ih =>
  intro d m h hn;obtain⟨h0,h1,h2⟩:=h k (bV ..);rw[fW,lZ] at hn;rw[dG,al ⟨h0,h1,h2⟩];refine ih _ _ (fun z hz=>?_) hn.2
  obtain⟨z0,z1,z2⟩:=h z (bY _ hz);refine⟨z0,z1,?_⟩;have hne:z.toNat≠k.toNat:=fun e=>hn.1 (by rw[←e];exact jT hz)
  rw[fY _ _ hne];exact z2
theorem FK :∀(N:Nat) (m:List Nat),(∀j,j<N→j∈m)→N≤m.length:=by
 intro N;induction N with
 | zero=>intro m _;exact bK _
 | succ N ih =>
  intro m h;have hN:=h N (dz _);have h1:=ih (m.erase N) (fun j hj=>(List.mem_erase_of_ne (by omega)).2 (h j (by omega)))
  rw[List.length_erase_of_mem hN] at h1;have:=List.length_pos_of_mem hN;omega
structure FM (a:Nat) (d:Nat→Nat) (m:List Nat):Prop where
 le:m.Pairwise fun x y=>d x≤d y
 top :∀i,m[a]? = some i→∀x∈m,d x≤d i+1
theorem FM.step {T:List Nd} {r a i:Nat} {d d':Nat→Nat} {m m':List Nat} (hh:Half T r a d m) (h:FM a d m) (hi:m[a]? = some i) (e:dG T.length (d i+1) (cJ T i) d m=some (d',m')):FM (a+1) d' m':=by
 obtain⟨_,i2,i3,i4,_⟩:=oG (by omega) _ _ _ _ _ hh.inv e
 have aT :∀j∈m,d' j=d j:=fun j hj=>i3 j ((hh.inv.iff j).2 hj)
 have Zl:i∈m:=aM hi;have FN :∀y∈(cJ T i).map Int.toNat,d' y=d i+1:=fun y hy=>by
  obtain⟨k,hk,rfl⟩:=jr.1 hy;exact(i4 k hk).2.2
 have hp:m'.Pairwise fun x y=>d' x≤d' y:=by
  rw[i2,List.pairwise_append];refine⟨?_,?_,fun x hx y hy=>?_⟩
  ·refine JH (fun hx hy hxy=>?_) h.le
   rw[aT _ hx,aT _ hy];exact hxy
  ·exact JH (R:=fun _ _=>True) (fun hx hy _=>by rw[FN _ hx,FN _ hy];exact ah _) (List.pairwise_of_forall (fun _ _=>trivial))
  ·rw[aT x hx,FN y hy]
   exact h.top i hi x hx
 refine⟨hp,fun i' hi' x hx=>?_⟩
 have hia:m'[a]? = some i:=by rw[i2,kC (aK.1 hi).1];exact hi
 have h1:d' i≤d' i':=by
  obtain⟨la,ea⟩:=aK.1 hia;obtain⟨lb,eb⟩:=aK.1 hi';have:=List.pairwise_iff_getElem.1 hp a (a+1) la lb (dz _);rw[ea,eb] at this;exact this
 rw[aT i Zl] at h1;rw[i2] at hx;rcases dj.1 hx with hx|hx
 ·have:=h.top i hi x hx
  rw[aT x hx];omega
 ·rw[FN x hx]
  omega
theorem PN {T:List Nd} {r:Nat} {js:List Nat} (cN:(r::js.flatMap (vM T)).Nodup) (hjs:js.Nodup) (zk :∀i∈js,∀k∈cJ T i,0≤k∧k<(T.length:Int)∧k.toNat∈js) :
  ∀(f a:Nat) (d:Nat→Nat) (m:List Nat),Half T r a d m→FM a d m→(∀j∈m,j∈js)→T.length+1≤f+a→∃d' m',xt T f a d m=some (d',m')∧Half T r m'.length d' m'∧FM m'.length d' m'∧∀j∈m',j∈js:=by
 intro f;induction f with
 | zero =>
  intro a d m h _ _ hf;have:=h.inv.len;have:=h.le;omega
 | succ f ih =>
  intro a d m h hm fE hf;cases hi:m[a]? with
  | none =>
   have h1:m.length≤a:=JE.1 hi;have h2:=h.le;obtain rfl:a=m.length:=by omega
   exact⟨d,m,by rw[xt,hi],h,hm,fE⟩
  | some i =>
   have Zl:=aM hi;have vl:=fE i Zl;have hal:=(aK.1 hi).1;have TT :∀k∈cJ T i,k.toNat∈vM T i:=fun k hk=>jT hk
   have hz :∀k∈cJ T i,0≤k∧k<(T.length:Int)∧d k.toNat=0:=fun k hk=>by
    obtain⟨k0,k1,_⟩:=zk i vl k hk;refine⟨k0,k1,Classical.byContradiction fun hne=>?_⟩
    have xu:=(h.inv.iff _).1 hne;rw[h.eq] at xu;rcases bq.1 xu with e|xu
    ·rw[lZ] at cN
     exact cN.1 (tf.2 ⟨i,vl,e▸TT k hk⟩)
    ·obtain⟨i',hi',sw⟩:=tf.1 xu
     rw[lZ] at cN;have he:i=i':=BY cN.2 vl (fE i' (List.mem_of_mem_take hi')) (TT k hk) sw hjs;subst he;have hn:=h.inv.nodup;rw[←JL a m,oe] at hn;refine hn.2.2 i hi' i ?_ rfl;rw[kD];exact⟨0,by rw[za];exact hi⟩
   have BZ:((cJ T i).map Int.toNat).Nodup:=tm (lZ.1 cN).2 vl;obtain⟨⟨d',m'⟩,hp⟩:=zj (v:=d i+1) (cJ T i) d m hz BZ;obtain⟨d2,m2,h1,h2⟩:=ih (a+1) d' m' (h.step hi hp) (hm.step h hi hp) (fun j hj=>by
    have:=(oG (by omega) _ _ _ _ _ h.inv hp).2.1
    rw[this] at hj;rcases dj.1 hj with hj|hj
    ·exact fE j hj
    ·obtain⟨k,hk,rfl⟩:=jr.1 hj
     exact(zk i vl k hk).2.2) (by omega)
   refine⟨d2,m2,?_,h2⟩;simp only[xt,hi,hp];exact h1
end Go.Proofs.YteflkdlaoiijbaaGreatDoor
namespace Go.Proofs.YteflkdlaoiijbaaGreatDoor
mutual
theorem gJ.kids {T:List Nd} :∀(a:Ast) (i:Nat) (js:List Nat),gJ T a i js→∀j∈js,∀k∈cJ T j,0≤k∧k.toNat∈js
 | .mk h xz,i,js,hr=>by
  unfold gJ at hr;obtain⟨x,rK,hx,_,hs,rfl⟩:=hr;have h1:=bs.kids xz x.kids rK hs;intro j hj k hk;rcases bq.1 hj with rfl|hj
  ·rw[jb hx] at hk
   have:=h1.1 k hk;exact⟨this.1,bY _ this.2⟩
  ·have:=h1.2 j hj k hk
   exact⟨this.1,bY _ this.2⟩
theorem bs.kids {T:List Nd} :∀(xz:List Ast) (ks:List Int) (js:List Nat),bs T xz ks js→(∀k∈ks,0≤k∧k.toNat∈js)∧∀j∈js,∀k∈cJ T j,0≤k∧k.toNat∈js
 | [],ks,js,hr=>by
  unfold bs at hr;obtain⟨rfl,rfl⟩:=hr;exact⟨fun k hk=>by simp at hk,fun j hj=>by simp at hj⟩
 | a::xz,ks,js,hr=>by
  unfold bs at hr;obtain⟨k,ic,j1,j2,rfl,h1,h2,rfl⟩:=hr;have e1:=gJ.kids a k j1 h1;have e2:=bs.kids xz ic j2 h2;refine⟨fun z hz=>?_,fun j hj z hz=>?_⟩
  ·rcases bq.1 hz with rfl|hz
   ·exact⟨by omega,fU _ (by rw[iz];exact h1.root.1)⟩
   ·have:=e2.1 z hz
    exact⟨this.1,iV _ this.2⟩
  ·rcases dj.1 hj with hj|hj
   ·have:=e1 j hj z hz
    exact⟨this.1,fU _ this.2⟩
   ·have:=e2.2 j hj z hz
    exact⟨this.1,iV _ this.2⟩
end
theorem FQ {d:Nat→Nat} {m:List Nat} (h:m.Pairwise fun x y=>d x≤d y) {x:Nat} (hx:x∈m):d x≤d (m.getLastD 0):=by
 obtain⟨i,hi,rfl⟩:=List.getElem_of_mem hx;have hne:m≠[]:=fun e=>by subst e;exact absurd hi (jq _)
 have hl:m.getLastD 0=m[m.length-1]'(by omega):=by
  rw[List.getLastD_eq_getLast?,List.getLast?_eq_getElem?,bX (by omega)]
  rfl
 rw[hl];by_cases e:i=m.length-1
 ·subst e;exact ah _
 ·exact List.pairwise_iff_getElem.1 h i (m.length-1) hi (by omega) (by omega)
theorem zl {T:List Nd} {r:Nat} {a:Ast} {js:List Nat} (h:gJ T a r js) (hn:js.Nodup) (hl:js.length=T.length) (hN:T.length≤16384):eN T (r:Int)=a.depth:=by
 obtain⟨hrj,_,hrl⟩:=h.root;have hlt:=gJ.lt a r js h;have zk :∀i∈js,∀k∈cJ T i,0≤k∧k<(T.length:Int)∧k.toNat∈js:=fun i hi k hk=>by
  obtain⟨k0,k1⟩:=gJ.kids a r js h i hi k hk;have:=hlt _ k1;exact⟨k0,by omega,k1⟩
 have cN:=(gJ.perm a r js h).nodup_iff.1 hn;have hm0:FM 0 (upd (fun _=>0) r 1) [r]:=⟨by simp,fun i hi x hx=>by
  obtain rfl:r=i:=by simpa using hi
  obtain rfl:=bR.1 hx;omega⟩
 obtain⟨d,m,hb,hh,hm,fE⟩:=PN cN hn zk (T.length+1) 0 _ [r] (Half.start hrl) hm0 (fun j hj=>by
  obtain rfl:=bR.1 hj;exact hrj) (by omega)
 have Vl:m.take m.length=m:=zc;have heq:=hh.eq;have hk:=hh.kid;rw[Vl] at heq hk;have hrm:r∈m:=by rw[heq];exact bV ..
 have B9 :∀i∈m,∀k∈cJ T i,k.toNat∈m:=fun i hi k hk=>by
  rw[heq];exact bY _ (tf.2 ⟨i,hi,jT hk⟩)
 have hall:=gJ.closed B9 a r js h hrm;have hlen:m.length=T.length:=by
  have h1:=hh.inv.len;have h2:=FK T.length m (fun j hj=>hall j (qG hn hlt hl hj))
  omega
 have e:eN T (r:Int)=d (m.getLastD 0):=by
  unfold eN;rw[al ⟨hN,by omega,by omega⟩,iz,hb]
  exact af (by show ¬ m.length<T.length;omega)
 obtain⟨h1,j,hj,he⟩:=gJ.tp (d:=d) a r js h (fun j hj k jw=>(hk j (hall j hj) k jw).2.2)
 have adk:=hh.root;have hne:m≠[]:=fun e=>by rw[e] at hrm;simp at hrm
 have h2:=h1 _ (fE _ (xw m 0 hne));have h3:=FQ hm.le (hall j hj);rw[e];omega
section
variable (fo:Nd→Bool) (ko:Int→Int→List Int→Bool) (so:Int→Int) (hd:Nd→List UInt8)
mutual
def Ast.ok:Ast→Bool
 | .mk h ks=>decide (1≤h.line) && fo h && ko h.kind h.num (ks.map fun k=>so k.hd.kind) && Ast.TU ks
def Ast.TU:List Ast→Bool
 | []=>true
 | a::xz=>Ast.ok a && Ast.TU xz
end
variable {fo ko so hd}
theorem bs.Zn {T:List Nd} :∀(xz:List Ast) (ks:List Int) (js:List Nat),bs T xz ks js→(ks.map fun k=>so (dH T k.toNat))=xz.map fun k=>so k.hd.kind:=by
 intro xz;induction xz with
 | nil =>
  intro ks js hr;unfold bs at hr;obtain⟨rfl,_⟩:=hr;rfl
 | cons a xz ih =>
  intro ks js hr;unfold bs at hr;obtain⟨k,ic,j1,j2,rfl,h1,h2,rfl⟩:=hr;rw[fW,fW,ih ic j2 h2,iz,h1.root.2.1]
mutual
theorem gJ.all {T:List Nd} (FT :∀x ks,fo { x with kids:=ks}=fo x) :∀(a:Ast) (i:Nat) (js:List Nat),gJ T a i js→(Ast.ok fo ko so a=true↔∀j∈js,∀x,T[j]? = some x→kf fo ko so T x=true)
 | .mk h xz,i,js,hr=>by
  unfold gJ at hr;obtain⟨x,rK,hx,he,hs,rfl⟩:=hr;have h1:=bs.all FT xz x.kids rK hs;have h2:kf fo ko so T x=(decide (1≤h.line) && fo h && ko h.kind h.num (xz.map fun k=>so k.hd.kind)):=by
   unfold kf;rw[bs.Zn (so:=so) xz x.kids rK hs];have e1:x.line=h.line:=by rw[he]
   have e2:fo x=fo h:=by rw[he,FT]
   have e3:x.kind=h.kind:=by rw[he]
   have e4:x.num=h.num:=by rw[he]
   rw[e1,e2,e3,e4]
  rw[Ast.ok,di,←h2,h1];constructor
  ·rintro⟨a1,a2⟩ j hj y hy
   rcases bq.1 hj with rfl|hj
   ·obtain rfl:=gO (hx.symm.trans hy)
    exact a1
   ·exact a2 j hj y hy
  ·intro hall
   exact⟨hall i (bV ..) x hx,fun j hj y hy=>hall j (bY _ hj) y hy⟩
theorem bs.all {T:List Nd} (FT :∀x ks,fo { x with kids:=ks}=fo x) :∀(xz:List Ast) (ks:List Int) (js:List Nat),bs T xz ks js→(Ast.TU fo ko so xz=true↔∀j∈js,∀x,T[j]? = some x→kf fo ko so T x=true)
 | [],ks,js,hr=>by
  unfold bs at hr;obtain⟨_,rfl⟩:=hr;rw[Ast.TU];exact⟨fun _ j hj=>by simp at hj,fun _=>rfl⟩
 | a::xz,ks,js,hr=>by
  unfold bs at hr;obtain⟨k,ic,j1,j2,_,h1,h2,rfl⟩:=hr;rw[Ast.TU,di,gJ.all FT a k j1 h1,bs.all FT xz ic j2 h2];constructor
  ·rintro⟨a1,a2⟩ j hj y hy
   rcases dj.1 hj with hj|hj
   ·exact a1 j hj y hy
   ·exact a2 j hj y hy
  ·intro hall
   exact⟨fun j hj=>hall j (fU _ hj),fun j hj=>hall j (iV _ hj)⟩
end
theorem FU {T:List Nd} {r:Nat} {a:Ast} {js:List Nat} (FT :∀x ks,fo { x with kids:=ks}=fo x) (h:gJ T a r js) (hn:js.Nodup) (hl:js.length=T.length) (hN:T.length≤16384) :
  oH fo ko so T (r:Int)=(decide (a.depth≤100) && decide (a.hd.kind=18) && Ast.ok fo ko so a):=by
 have hd:=zl h hn hl hN;obtain⟨_,hk,_⟩:=h.root;have hlt:=gJ.lt a r js h;have h0:a.depth≠0:=by cases a with|mk h ks=>rw[Ast.depth];omega
 have hall:T.all (kf fo ko so T)=Ast.ok fo ko so a:=by
  rw[my,List.all_eq_true,gJ.all FT a r js h];constructor
  ·intro h1 j _ x hx
   exact h1 x (aM hx)
  ·intro h1 x hx
   obtain⟨j,hj,rfl⟩:=List.getElem_of_mem hx;exact h1 j (qG hn hlt hl hj) _ (bX hj)
 unfold oH;rw[hd,iz,hk,hall,bZ h0,kI]
end
end Go.Proofs.YteflkdlaoiijbaaGreatDoor
namespace Go.Proofs.YteflkdlaoiijbaaGreatDoor
abbrev aj:=Int×Int×Int×List UInt8
inductive G (N:Type) (V:N→Type) (α:Type):Type where
 | ret:α→G N V α
 | bad:G N V α
 | tok:(aj→G N V α)→G N V α
 | look:(aj→G N V α)→G N V α
 | call:(n:N)→(V n→G N V α)→G N V α
section
variable {N:Type} {V:N→Type} (body :∀n,G N V (V n))
inductive P:{α:Type}→G N V α→List aj→Except Int (α×List aj)→Prop
 | ret {α:Type} {a:α} {ts:List aj}:P (.ret a) ts (.ok (a,ts))
 | bad {α:Type} {t:aj} {ts:List aj}:P (.bad:G N V α) (t::ts) (.error t.2.1)
 | tok {α:Type} {f:aj→G N V α} {t:aj} {ts:List aj} {r:Except Int (α×List aj)}:P (f t) ts r→P (.tok f) (t::ts) r
 | look {α:Type} {f:aj→G N V α} {t:aj} {ts:List aj} {r:Except Int (α×List aj)}:P (f t) (t::ts) r→P (.look f) (t::ts) r
 | call {α:Type} {n:N} {k:V n→G N V α} {ts ax:List aj} {v:V n} {r:Except Int (α×List aj)}:P (body n) ts (.ok (v,ax))→P (k v) ax r→P (.call n k) ts r
 | ie {α:Type} {n:N} {k:V n→G N V α} {ts:List aj} {e:Int}:P (body n) ts (.error e)→P (.call n k) ts (.error e)
variable {body}
theorem P.one {α:Type} {g:G N V α} {ts:List aj} {r r':Except Int (α×List aj)} (h:P body g ts r) (h':P body g ts r'):r=r':=by
 induction h with
 | ret=>cases h';rfl
 | bad=>cases h';rfl
 | tok _ ih=>cases h' with|tok h2=>exact ih h2
 | look _ ih=>cases h' with|look h2=>exact ih h2
 | call _ _ YJ Zo =>
  cases h' with
  | call a b =>
   have e:=YJ a;injection e with e;injection e with e1 e2;subst e1 e2;exact Zo b
  | ie a=>cases YJ a
 | ie _ ih =>
  cases h' with
  | call a b=>cases ih a
  | ie a =>
   have e:=ih a;injection e with e;rw[e]
theorem P.tail {α:Type} {g:G N V α} {ts:List aj} {r:Except Int (α×List aj)} (h:P body g ts r) :∀a ax,r=.ok (a,ax)→∃c,ts=c++ax:=by
 induction h with
 | ret=>rintro a ax e;injection e with e;injection e with _ e2;exact⟨[],by rw[e2];rfl⟩
 | bad=>intro a ax e;cases e
 | @tok _ f t ts r _ ih=>intro a ax e;obtain⟨c,hc⟩:=ih a ax e;exact⟨t::c,by rw[hc];rfl⟩
 | look _ ih=>exact ih
 | call _ _ YJ Zo =>
  intro a ax e;obtain⟨c1,h1⟩:=YJ _ _ rfl;obtain⟨c2,h2⟩:=Zo a ax e;exact⟨c1++c2,by rw[h1,h2,fg]⟩
 | ie _ _=>intro a ax e;cases e
def Wp (Post :∀n,List aj→V n→List aj→Prop) {α:Type}:G N V α→List aj→(α→List aj→Prop)→Prop
 | .ret a,ts,Q=>Q a ts
 | .bad,_,_=>True
 | .tok f,ts,Q=>∀t ax,ts=t::ax→Wp Post (f t) ax Q
 | .look f,ts,Q=>∀t ax,ts=t::ax→Wp Post (f t) ts Q
 | .call n k,ts,Q=>∀v ax,Post n ts v ax→Wp Post (k v) ax Q
theorem P.post {Post :∀n,List aj→V n→List aj→Prop} (hb :∀n ts,Wp Post (body n) ts (Post n ts)) {α:Type} {g:G N V α} {ts:List aj} {r:Except Int (α×List aj)} (h:P body g ts r) :
  ∀a ax,r=.ok (a,ax)→∀Q:α→List aj→Prop,Wp Post g ts Q→Q a ax:=by
 induction h with
 | ret =>
  intro a ax e Q hq;injection e with e;injection e with e1 e2;subst e1 e2;exact hq
 | bad=>intro a ax e;cases e
 | tok _ ih=>intro a ax e Q hq;exact ih a ax e Q (hq _ _ rfl)
 | look _ ih=>intro a ax e Q hq;exact ih a ax e Q (hq _ _ rfl)
 | @call _ n k ts fC v r h1 h2 YJ Zo =>
  intro a ax e Q hq;exact Zo a ax e Q (hq v fC (YJ v fC rfl _ (hb n ts)))
 | ie _ _=>intro a ax e;cases e
theorem P.holds {Post :∀n,List aj→V n→List aj→Prop} (hb :∀n ts,Wp Post (body n) ts (Post n ts)) {n:N} {ts ax:List aj} {v:V n} (h:P body (body n) ts (.ok (v,ax))):Post n ts v ax :=
 h.post hb v ax rfl _ (hb n ts)
end
end Go.Proofs.YteflkdlaoiijbaaGreatDoor
namespace Go.Proofs.YteflkdlaoiijbaaGreatDoor
def bC (l:List UInt8):ByteArray:=⟨l.toArray⟩
def av (s:List UInt8) (t:aj):Bool:=(decide (t.1=2) || decide (t.1=5)) && decide (t.2.2.2=s)
def iC:List UInt8:=[101,110,100]
def rL:List UInt8:=[101,108,115,101]
def jU:List UInt8:=[101,108,115,101,105,102]
def oI:List UInt8:=[117,110,116,105,108]
def ig:List UInt8:=[114,101,116,117,114,110]
def oJ:List UInt8:=[98,114,101,97,107]
def rM:List UInt8:=[103,111,116,111]
def Ca:List UInt8:=[100,111]
def oK:List UInt8:=[119,104,105,108,101]
def ly:List UInt8:=[114,101,112,101,97,116]
def Vm:List UInt8:=[105,102]
def zm:List UInt8:=[116,104,101,110]
def Cb:List UInt8:=[102,111,114]
def wIn:List UInt8:=[105,110]
def ba:List UInt8:=[102,117,110,99,116,105,111,110]
def fx:List UInt8:=[108,111,99,97,108]
def sx:List UInt8:=[110,105,108]
def mz:List UInt8:=[116,114,117,101]
def kg:List UInt8:=[102,97,108,115,101]
def Cc:List UInt8:=[110,111,116]
def YK:List UInt8:=[111,114]
def FV:List UInt8:=[97,110,100]
def vN:List UInt8:=[115,101,108,102]
def iN (t:aj):Bool:=decide (t.1=0) || av iC t || av rL t || av jU t || av oI t
def nd (k l:Int) (ks:List Ast):Ast:=.mk ⟨k,l,0,0,⟨#[]⟩,[],[]⟩ ks
def ma (k l:Int) (s:ByteArray) (ks:List Ast):Ast:=.mk ⟨k,l,0,0,s,[],[]⟩ ks
def YL (k l op:Int) (ks:List Ast):Ast:=.mk ⟨k,l,op,0,⟨#[]⟩,[],[]⟩ ks
def Jm (k l n:Int) (ks:List Ast):Ast:=.mk ⟨k,l,0,n,⟨#[]⟩,[],[]⟩ ks
def ve (k l n:Int) (ns:List ByteArray) (ks:List Ast):Ast:=.mk ⟨k,l,0,n,⟨#[]⟩,ns,[]⟩ ks
def ml (t:aj):Option (Int×Nat×Nat) :=
 if av YK t then some (19,1,2) else if av FV t then some (18,2,3)
 else if av [60] t then some (14,3,4) else if av [62] t then some (16,3,4) else if av [60,61] t then some (15,3,4) else if av [62,61] t then some (17,3,4) else if av [126,61] t then some (13,3,4) else if av [61,61] t then some (12,3,4)
 else if av [124] t then some (7,4,5) else if av [126] t then some (8,5,6) else if av [38] t then some (6,6,7)
 else if av [60,60] t then some (9,7,8) else if av [62,62] t then some (10,7,8) else if av [46,46] t then some (11,8,8)
 else if av [43] t then some (1,9,10) else if av [45] t then some (2,9,10)
 else if av [42] t then some (3,10,11) else if av [47,47] t then some (4,10,11) else if av [37] t then some (5,10,11) else none
def lA (t:aj):Option Int:=if av [45] t then some 20 else if av [126] t then some 21 else if av Cc t then some 22 else if av [35] t then some 23 else none
inductive NT where
 | blk|oL (l:List Ast)|ret (at_:Int)|zn|els (l:List Ast)|Zq (at_:Int)|Zr (at_:Int)|YM (at_:Int) (x:Ast)|loc (at_:Int)|Jn (at_:Int) (self:List ByteArray)
 | Vn (l:List ByteArray)|TV|YN (l:List ByteArray)|Cd|YO (l:List Ast)|YP (at_:Int) (l:List Ast)|FW|aR (x:Ast)|arg|TW (l:List Ast)|Vo|exp (s:Nat)|lvm (s:Nat) (x:Ast)|una|TX
def VT:NT→Type
 | .oL _ | .els _ | .Cd | .YO _ | .arg | .TW _=>List Ast
 | .Vn _=>List ByteArray×Int
 | .TV | .YN _=>List ByteArray
 | .blk | .ret _ | .zn | .Zq _ | .Zr _ | .YM _ _ | .loc _ | .Jn _ _ | .YP _ _ | .FW | .aR _ | .Vo | .exp _ | .lvm _ _ | .una | .TX=>Ast
abbrev GL (α:Type):=G NT VT α
def want {α:Type} (s:List UInt8) (k:aj→GL α):GL α:=.look fun t=>if av s t then .tok k else .bad
def name {α:Type} (k:aj→GL α):GL α:=.look fun t=>if t.1=1 then .tok k else .bad
def take {α:Type} (s:List UInt8) (a b:GL α):GL α:=.look fun t=>if av s t then .tok fun _=>a else b
def bN :∀n:NT,GL (VT n)
 | .blk=>.look fun t=>.call (.oL []) fun(l:List Ast)=>.ret (nd 18 t.2.1 l)
 | .oL l=>.look fun t =>
   if iN t then .ret l
   else if av ig t then .tok fun t=>.call (.ret t.2.1) fun(x:Ast)=>.ret (l++[x])
   else if av [59] t then .tok fun _=>.call (.oL l) fun(l':List Ast)=>.ret l'
   else .call .zn fun(x:Ast)=>.call (.oL (l++[x])) fun(l':List Ast)=>.ret l'
 | .ret at_=>.look fun t =>
   if iN t then .ret (nd 29 at_ [])
   else if av [59] t then .tok fun _=>.ret (nd 29 at_ [])
   else .call .Cd fun(l:List Ast)=>take [59] (.ret (nd 29 at_ l)) (.ret (nd 29 at_ l))
 | .zn=>.look fun t =>
   if av [58,58] t then .tok fun t=>name fun n=>want [58,58] fun _=>.ret (ma 32 t.2.1 (bC n.2.2.2) [])
   else if av oJ t then .tok fun t=>.ret (nd 30 t.2.1 [])
   else if av rM t then .tok fun t=>name fun n=>.ret (ma 31 t.2.1 (bC n.2.2.2) [])
   else if av Ca t then .tok fun t=>.call .blk fun(b:Ast)=>want iC fun _=>.ret (nd 22 t.2.1 [b])
   else if av oK t then .tok fun t=>.call (.exp 1) fun(e:Ast)=>want Ca fun _=>.call .blk fun(b:Ast)=>want iC fun _=>.ret (nd 23 t.2.1 [e,b])
   else if av ly t then .tok fun t=>.call .blk fun(b:Ast)=>want oI fun _=>.call (.exp 1) fun(e:Ast)=>.ret (nd 24 t.2.1 [b,e])
   else if av Vm t then .tok fun t=>.call (.exp 1) fun(e:Ast)=>want zm fun _=>.call .blk fun(b:Ast)=>.call (.els [e,b]) fun(l:List Ast)=>.ret (nd 25 t.2.1 l)
   else if av Cb t then .tok fun t=>.call (.Zq t.2.1) fun(x:Ast)=>.ret x
   else if av ba t then .tok fun t=>.call (.Zr t.2.1) fun(x:Ast)=>.ret x
   else if av fx t then .tok fun t=>.call (.loc t.2.1) fun(x:Ast)=>.ret x
   else .call .FW fun(x:Ast)=>if x.hd.kind=9∨x.hd.kind=10 then .ret (nd 21 t.2.1 [x]) else .call (.YP t.2.1 [x]) fun(y:Ast)=>.ret y
 | .els l=>.look fun t =>
   if av jU t then .tok fun _=>.call (.exp 1) fun(e:Ast)=>want zm fun _=>.call .blk fun(b:Ast)=>.call (.els (l++[e,b])) fun(l':List Ast)=>.ret l'
   else if av rL t then .tok fun _=>.call .blk fun(b:Ast)=>want iC fun _=>.ret (l++[b])
   else want iC fun _=>.ret l
 | .Zq at_=>.call .TV fun(ns:List ByteArray)=>.look fun t =>
   if av [61] t∧ns.length=1 then .tok fun _=>.call (.exp 1) fun(a:Ast)=>want [44] fun _=>.call (.exp 1) fun(b:Ast)=>.look fun t =>
    if av [44] t then .tok fun _=>.call (.exp 1) fun(c:Ast)=>want Ca fun _=>.call .blk fun(d:Ast)=>want iC fun _=>.ret (ve 26 at_ 0 ns [a,b,c,d])
    else want Ca fun _=>.call .blk fun(d:Ast)=>want iC fun _=>.ret (ve 26 at_ 0 ns [a,b,d])
   else want wIn fun _=>.call .Cd fun(l:List Ast)=>want Ca fun _=>.call .blk fun(d:Ast)=>want iC fun _=>.ret (ve 27 at_ (l.length:Int) ns (l++[d]))
 | .Zr at_=>name fun n=>.call (.YM at_ (ma 7 n.2.1 (bC n.2.2.2) [])) fun(x:Ast)=>.ret x
 | .YM at_ x=>.look fun t =>
   if av [46] t then .tok fun d=>name fun n=>.call (.YM at_ (nd 8 d.2.1 [x,ma 5 n.2.1 (bC n.2.2.2) []])) fun(y:Ast)=>.ret y
   else if av [58] t then .tok fun d=>name fun n=>.call (.Jn at_ [bC vN]) fun(f:Ast)=>.ret (Jm 20 at_ 1 [nd 8 d.2.1 [x,ma 5 n.2.1 (bC n.2.2.2) []],f])
   else .call (.Jn at_ []) fun(f:Ast)=>.ret (Jm 20 at_ 1 [x,f])
 | .loc at_=>.look fun t =>
   if av ba t then .tok fun f=>name fun n=>.call (.Jn f.2.1 []) fun(b:Ast)=>.ret (ve 28 at_ 0 [bC n.2.2.2] [b])
   else .call .TV fun(ns:List ByteArray)=>.look fun t=>if av [61] t then .tok fun _=>.call .Cd fun(l:List Ast)=>.ret (ve 19 at_ 0 ns l) else .ret (ve 19 at_ 0 ns [])
 | .Jn at_ self=>want [40] fun _=>.look fun t =>
   if av [41] t then .tok fun _=>.call .blk fun(b:Ast)=>want iC fun _=>.ret (ve 11 at_ 0 self [b])
   else .call (.Vn self) fun(p:List ByteArray×Int)=>want [41] fun _=>.call .blk fun(b:Ast)=>want iC fun _=>.ret (ve 11 at_ p.2 p.1 [b])
 | .Vn l=>.look fun t =>
   if av [46,46,46] t then .tok fun _=>.ret ((l,1):List ByteArray×Int)
   else name fun n=>.look fun t=>if av [44] t then .tok fun _=>.call (.Vn (l++[bC n.2.2.2])) fun(p:List ByteArray×Int)=>.ret p else .ret ((l++[bC n.2.2.2],0):List ByteArray×Int)
 | .TV=>name fun n=>.call (.YN [bC n.2.2.2]) fun(l:List ByteArray)=>.ret l
 | .YN l=>.look fun t=>if av [44] t then .tok fun _=>name fun n=>.call (.YN (l++[bC n.2.2.2])) fun(l':List ByteArray)=>.ret l' else .ret l
 | .Cd=>.call (.exp 1) fun(e:Ast)=>.call (.YO [e]) fun(l:List Ast)=>.ret l
 | .YO l=>.look fun t=>if av [44] t then .tok fun _=>.call (.exp 1) fun(e:Ast)=>.call (.YO (l++[e])) fun(l':List Ast)=>.ret l' else .ret l
 | .YP at_ l=>.look fun t =>
   if (l.getLastD (nd 0 0 [])).hd.kind=7∨(l.getLastD (nd 0 0 [])).hd.kind=8 then
    if av [44] t then .tok fun _=>.call .FW fun(x:Ast)=>.call (.YP at_ (l++[x])) fun(y:Ast)=>.ret y
    else want [61] fun _=>.call .Cd fun(m:List Ast)=>.ret (Jm 20 at_ (l.length:Int) (l++m))
   else .bad
 | .FW=>.look fun t =>
   if t.1=1 then .tok fun n=>.call (.aR (ma 7 n.2.1 (bC n.2.2.2) [])) fun(x:Ast)=>.ret x
   else if av [40] t then .tok fun o=>.call (.exp 1) fun(e:Ast)=>want [41] fun _=>.call (.aR (nd 14 o.2.1 [e])) fun(x:Ast)=>.ret x
   else .bad
 | .aR x=>.look fun t =>
   if av [46] t then .tok fun d=>name fun n=>.call (.aR (nd 8 d.2.1 [x,ma 5 n.2.1 (bC n.2.2.2) []])) fun(y:Ast)=>.ret y
   else if av [91] t then .tok fun d=>.call (.exp 1) fun(e:Ast)=>want [93] fun _=>.call (.aR (nd 8 d.2.1 [x,e])) fun(y:Ast)=>.ret y
   else if av [58] t then .tok fun d=>name fun n=>.call .arg fun(l:List Ast)=>.call (.aR (ma 10 d.2.1 (bC n.2.2.2) (x::l))) fun(y:Ast)=>.ret y
   else if av [40] t || av [123] t || decide (t.1=4) then .call .arg fun(l:List Ast)=>.call (.aR (nd 9 t.2.1 (x::l))) fun(y:Ast)=>.ret y
   else .ret x
 | .arg=>.look fun t =>
   if t.1=4 then .tok fun s=>.ret ([ma 5 s.2.1 (bC s.2.2.2) []]:List Ast)
   else if av [123] t then .tok fun o=>.call (.TW []) fun(l:List Ast)=>.ret ([nd 15 o.2.1 l]:List Ast)
   else want [40] fun _=>.look fun t=>if av [41] t then .tok fun _=>.ret ([]:List Ast) else .call .Cd fun(l:List Ast)=>want [41] fun _=>.ret l
 | .TW l=>.look fun t =>
   if av [125] t then .tok fun _=>.ret l
   else .call .Vo fun(x:Ast)=>.look fun t=>if av [44] t || av [59] t then .tok fun _=>.call (.TW (l++[x])) fun(l':List Ast)=>.ret l' else want [125] fun _=>.ret (l++[x])
 | .Vo=>.look fun t =>
   if av [91] t then .tok fun _=>.call (.exp 1) fun(k:Ast)=>want [93] fun _=>want [61] fun _=>.call (.exp 1) fun(e:Ast)=>.ret (nd 17 t.2.1 [k,e])
   else .call (.exp 1) fun(e:Ast)=>.look fun u =>
    if av [61] u∧e.hd.kind=7 then .tok fun _=>.call (.exp 1) fun(v:Ast)=>.ret (nd 17 t.2.1 [ma 5 t.2.1 e.hd.s [],v])
    else .ret (nd 16 t.2.1 [e])
 | .exp s=>.call .una fun(x:Ast)=>.call (.lvm s x) fun(y:Ast)=>.ret y
 | .lvm s x=>.look fun t=>match ml t with
   | some o=>if s≤o.2.1 then .tok fun d=>.call (.exp o.2.2) fun(y:Ast)=>.call (.lvm s (YL 12 d.2.1 o.1 [x,y])) fun(z:Ast)=>.ret z else .ret x
   | none=>.ret x
 | .una=>.look fun t=>match lA t with
   | some o=>.tok fun d=>.call .una fun(x:Ast)=>.ret (YL 13 d.2.1 o [x])
   | none=>.call .TX fun(x:Ast)=>.ret x
 | .TX=>.look fun t =>
   if av sx t then .tok fun t=>.ret (nd 1 t.2.1 [])
   else if av mz t then .tok fun t=>.ret (nd 2 t.2.1 [])
   else if av kg t then .tok fun t=>.ret (nd 3 t.2.1 [])
   else if av [46,46,46] t then .tok fun t=>.ret (nd 6 t.2.1 [])
   else if av ba t then .tok fun t=>.call (.Jn t.2.1 []) fun(f:Ast)=>.ret f
   else if av [123] t then .tok fun t=>.call (.TW []) fun(l:List Ast)=>.ret (nd 15 t.2.1 l)
   else if t.1=3 then .tok fun t=>.ret (Jm 4 t.2.1 t.2.2.1 [])
   else if t.1=4 then .tok fun t=>.ret (ma 5 t.2.1 (bC t.2.2.2) [])
   else .call .FW fun(x:Ast)=>.ret x
def oM:GL Ast:=.call .blk fun(b:Ast)=>.look fun t=>if t.1=0 then .ret b else .bad
abbrev PL {α:Type} (g:GL α) (ts:List aj) (r:Except Int (α×List aj)):Prop:=P bN g ts r
def oq (c:Nat):Nat:=if 48≤c∧c≤57 then c-48 else if 97≤c∧c≤122 then c-87 else if 65≤c∧c≤90 then c-55 else 36
def val (b:Nat) (l:List UInt8):Nat:=l.foldl (fun n c=>n*b+oq c.toNat) 0
theorem J2 (b:Nat) (l:List UInt8) (c:UInt8):val b (l++[c])=val b l*b+oq c.toNat:=by simp[val]
def iD (b:Nat) (l:List UInt8):Bool:=l.all fun c=>decide (oq c.toNat<b)
def sy (b:Nat) (l:List UInt8):Bool:=!l.isEmpty && iD b l
theorem FX (b:Nat) (l:List UInt8) (c:UInt8):iD b (l++[c])=(iD b l && decide (oq c.toNat<b)):=by simp[iD]
theorem zo {b:Nat} {l:List UInt8} {c:UInt8} (h:c∈l) (hc:b≤oq c.toNat):iD b l=false:=by
 unfold iD;rw[List.all_eq_false];exact⟨c,h,by simpa using hc⟩
def Ce (b:Nat) (l:List UInt8):Nat:=if sy b l then val b l % 18446744073709551616 else 0
theorem xx {b:Nat} {l:List UInt8} (h:sy b l=false):Ce b l=0:=by unfold Ce;simp[h]
theorem Cf {b:Nat} {l:List UInt8} (h:sy b l=true):Ce b l=val b l % 18446744073709551616:=by unfold Ce;simp[h]
theorem FY (s:ByteArray) (k:Nat) (h:k<s.size):s.data.toList.take (k+1)=s.data.toList.take k++[s[k]]:=by
 rw[List.take_succ_eq_append_getElem (by simpa using h)];rfl
theorem get_mem (s:ByteArray) (k:Nat) (h:k<s.size):s[k]∈s.data.toList:=JZ (l:=s.data.toList) (n:=k) (by simpa using h)
def blanks:List UInt8:=[9,10,11,12,13,32]
def xy (c:Nat):Bool:=decide (9≤c∧c≤13) || decide (c=32)
theorem Cg {P:UInt8→Prop} (h :∀i:Fin 256,P (UInt8.ofNat i.val)) (c:UInt8):P c:=by
 have:=h ⟨c.toNat,c.toNat_lt⟩;simpa using this
theorem lB :∀c:UInt8,blanks.contains c=xy c.toNat:=Cg (by decide +kernel)
def D5 (l:List UInt8):List UInt8:=Lib.trimS l blanks
theorem jx {p:UInt8→Bool} (l:List UInt8) (c:UInt8):(l++[c]).dropWhile p=if l.dropWhile p=[] then (if p c then [] else [c]) else l.dropWhile p++[c]:=by
 induction l with
 | nil=>simp[List.dropWhile];cases p c<;>simp
 | cons a t ih =>
  by_cases h:p a=true
  ·simp only[fh,List.dropWhile,h]
   exact ih
  ·simp[List.dropWhile,h]
theorem Vp {p:UInt8→Bool} (l:List UInt8):l.dropWhile p=[]↔∀x∈l,p x=true:=by
 induction l with
 | nil=>simp
 | cons a t ih =>
  cases h:p a
  ·simp[List.dropWhile,h]
  ·simp[List.dropWhile,h,ih]
theorem pD {p:UInt8→Bool} (l:List UInt8):l.reverse.dropWhile p=[]→l.dropWhile p=[]:=by
 intro h;rw[Vp] at h ⊢;intro x hx;exact h x (by simpa using hx)
theorem FZ {p:UInt8→Bool} (l:List UInt8):(l.reverse.dropWhile p).reverse.dropWhile p=((l.dropWhile p).reverse.dropWhile p).reverse:=by
 induction l with
 | nil=>rfl
 | cons c t ih =>
  rw[DQ,jx];by_cases h0:t.reverse.dropWhile p=[]
  ·rw[al h0]
   have h1:=pD t h0;cases hc:p c
   ·simp[List.dropWhile,hc,jx,h0]
   ·simp[List.dropWhile,hc,h1]
  ·rw[af h0]
   cases hc:p c
   ·simp[List.dropWhile,hc,jx,h0]
   ·simp[List.dropWhile,hc,ih]
theorem vO (l:List UInt8):Lib.trimRightS (Lib.trimLeftS l blanks) blanks=D5 l:=(FZ l).symm
theorem Vq (l:List UInt8):(D5 l).length≤l.length:=by
 rw[←vO];unfold Lib.trimRightS Lib.trimLeftS;rw[List.length_reverse];have h1:=(DL (fun x=>blanks.contains x) (l:=(List.dropWhile (fun x=>blanks.contains x) l).reverse)).length_le
 have h2:=(DL (fun x=>blanks.contains x) (l:=l)).length_le
 rw[List.length_reverse] at h1;omega
def sz (l:List UInt8):Bool:=Lib.hasPrefix l [48,120] || Lib.hasPrefix l [48,88]
def pE (most:Int) (l:List UInt8):Bool:=sy 10 l && decide ((val 10 l:Int)≤most)
def Ch (most:Int) (l:List UInt8):Nat:=if pE most l then val 10 l else 0
def pF (most:Int) (l:List UInt8):Bool:=if sz l then sy 16 (l.drop 2) else pE most l
def tq (most:Int) (l:List UInt8):Nat:=if sz l then Ce 16 (l.drop 2) else Ch most l
def yL (n:Int):Int:=(n+9223372036854775808) % 18446744073709551616-9223372036854775808
def xA (l:List UInt8):Bool:=Lib.hasPrefix l [45]
def pG (b:Int) (l:List UInt8):Bool:=if 2≤b∧b≤36 then sy b.toNat (Lib.trimPrefix (D5 l) [45]) else false
def kJ (b:Int) (l:List UInt8):Int:=if 2≤b∧b≤36 then (if xA (D5 l) then yL (-(Ce b.toNat (Lib.trimPrefix (D5 l) [45]):Int)) else yL (Ce b.toNat (Lib.trimPrefix (D5 l) [45]):Int)) else 0
theorem val_zero (l:List UInt8):val 10 (48::l)=val 10 l:=rfl
theorem xB (l:List UInt8) :∀n:Nat,n*10 ^ l.length≤l.foldl (fun n c=>n*10+oq c.toNat) n:=by
 induction l with
 | nil=>intro n;simp
 | cons c t ih =>
  intro n;have h:=ih (n*10+oq c.toNat);rw[List.foldl_cons,List.length_cons,DX];refine aL ?_ h;rw[D1,show n*(10 ^ t.length*10)=n*10*10 ^ t.length by rw[Nat.mul_assoc,DY 10]]
  exact gp _ _
theorem xC (l:List UInt8) (h:iD 10 l=true) :∀n m:Nat,n<m→l.foldl (fun n c=>n*10+oq c.toNat) n<m*10 ^ l.length:=by
 induction l with
 | nil=>intro n m h;simpa using h
 | cons c t ih =>
  intro n m hm;simp only[iD,rI,di,iy] at h;have hh:=ih h.2 (n*10+oq c.toNat) (m*10) (by omega)
  rw[List.foldl_cons,List.length_cons,DX,DY (10 ^ t.length),←Nat.mul_assoc];exact hh
theorem zq (l:List UInt8):val 10 (Lib.trimLeftB l 48)=val 10 l:=by
 unfold Lib.trimLeftB;induction l with
 | nil=>rfl
 | cons c t ih =>
  by_cases h:c=48
  ·subst h
   rw[val_zero,List.dropWhile,show((48:UInt8) == 48)=true from rfl]
   exact ih
  ·rw[List.dropWhile,show(c == 48)=false by simpa using h]
theorem vP {l:List UInt8} (h:iD 10 l=true):iD 10 (Lib.trimLeftB l 48)=true:=by
 unfold iD at *;rw[List.all_eq_true] at *;exact fun x hx=>h x ((DL _).subset hx)
theorem Ga {l:List UInt8} (h:iD 10 l=true) (hl:(Lib.trimLeftB l 48).length≤19):val 10 l<10000000000000000000:=by
 rw[←zq];have:=xC _ (vP h) 0 1 (by omega)
 rw[D3] at this;have h2:10 ^ (Lib.trimLeftB l 48).length≤10 ^ 19:=JM (by omega) hl
 have h3:(10:Nat) ^ 19=10000000000000000000:=by decide
 unfold val;omega
theorem Gb (l:List UInt8) :∀c t,Lib.trimLeftB l 48=c::t→c≠48:=by
 unfold Lib.trimLeftB;induction l with
 | nil=>intro c t h;cases h
 | cons a r ih =>
  intro c t h;by_cases e:a=48
  ·subst e
   rw[List.dropWhile,show((48:UInt8) == 48)=true from rfl] at h
   exact ih c t h
  ·rw[List.dropWhile,show(a == 48)=false by simpa using e] at h
   injection h with h1 h2;exact h1▸e
theorem PO {c:UInt8} (h:oq c.toNat<10) (hc:c≠48):1≤oq c.toNat:=by
 have hn:c.toNat≠48:=fun e=>hc (ze.1 e)
 unfold oq at *;split at h
 ·rename_i hh;rw[al hh];omega
 ·split at h
  ·omega
  ·split at h<;>omega
theorem J3 {l:List UInt8} (h:iD 10 l=true) (hl:19<(Lib.trimLeftB l 48).length):10000000000000000000≤val 10 l:=by
 rw[←zq];have ha:=vP h;have hh:=Gb l;generalize Lib.trimLeftB l 48=m at *;cases m with
 | nil=>simp at hl
 | cons c t =>
  simp only[iD,rI,di,iy] at ha;have h1:=PO ha.1 (hh c t rfl);have h2:=xB t (oq c.toNat);have h3:10 ^ 19≤10 ^ t.length:=JM (by omega) (by simp at hl;omega)
  have h4:1*10 ^ t.length≤oq c.toNat*10 ^ t.length:=DN _ h1;have h5:(10:Nat) ^ 19=10000000000000000000:=by decide
  have h6:val 10 (c::t)=t.foldl (fun n c=>n*10+oq c.toNat) (oq c.toNat):=by simp[val]
  rw[h6];omega
theorem J4 {b:Nat} {l:List UInt8} (h:sy b l=true):iD b l=true:=by
 unfold sy at h;rw[di] at h;exact h.2
theorem Gc {l:List UInt8} (ho:sy 10 l=true) (hl:(Lib.trimLeftB l 48).length≤19):Ce 10 l=val 10 l:=by
 have:=Ga (J4 ho) hl;rw[Cf ho];omega
theorem J5 {m:Int} {l:List UInt8} (ho:sy 10 l=false):pE m l=false:=by unfold pE;rw[ho];rfl
theorem Gd {m:Int} {l:List UInt8} (hm:m≤9223372036854775808) (ho:sy 10 l=true) (hl:19<(Lib.trimLeftB l 48).length):pE m l=false:=by
 have:=J3 (J4 ho) hl;unfold pE;rw[ho,kI,y8];omega
theorem PQ {m:Int} {l:List UInt8} (ho:sy 10 l=true) (h:(val 10 l:Int)≤m):pE m l=true:=by unfold pE;rw[ho,kI,iy];exact h
theorem Ge {m:Int} {l:List UInt8} (h:m<(val 10 l:Int)):pE m l=false:=by unfold pE;rw[Bool.and_eq_false_iff,y8];right;omega
theorem xD {m:Int} {l:List UInt8} (h:pE m l=false):Ch m l=0:=by unfold Ch;simp[h]
theorem PT {m:Int} {l:List UInt8} (h:pE m l=true):Ch m l=val 10 l:=by unfold Ch;simp[h]
def pH (c:UInt8):Bool:=xy c.toNat
def vm (c:UInt8):Bool:=decide (97≤c.toNat∧c.toNat≤122) || decide (65≤c.toNat∧c.toNat≤90) || decide (c.toNat=95)
def gj (c:UInt8):Bool:=decide (48≤c.toNat∧c.toNat≤57)
def yM (c:UInt8):Bool:=gj c || decide (97≤c.toNat∧c.toNat≤102) || decide (65≤c.toNat∧c.toNat≤70)
def mB (c:UInt8):Bool:=vm c || gj c
def oN (c:UInt8):Bool:=mB c || decide (c.toNat=46)
def D7 (c:UInt8):Bool:=decide (c.toNat=39) || decide (c.toNat=34)
def runN (p:UInt8→Bool) (l:List UInt8):Nat:=(l.takeWhile p).length
theorem pI (p:UInt8→Bool) (l:List UInt8):l.take (runN p l)=l.takeWhile p:=by
 unfold runN;induction l with
 | nil=>rfl
 | cons a t ih=>cases h:p a<;>simp[h,ih]
theorem pJ (p:UInt8→Bool) (l:List UInt8):l.drop (runN p l)=l.dropWhile p:=by
 unfold runN;induction l with
 | nil=>rfl
 | cons a t ih=>cases h:p a<;>simp[h,ih]
theorem gS (p:UInt8→Bool) (l:List UInt8):runN p l≤l.length:=by
 unfold runN;exact(List.takeWhile_sublist p (l:=l)).length_le
def nl (l:List UInt8):Nat:=Lib.countByte l 10
theorem Vr:nl []=0:=rfl
theorem tw (a b:List UInt8):nl (a++b)=nl a+nl b:=by unfold nl Lib.countByte;rw[List.count_append]
theorem Vs (l:List UInt8) (k:Nat):nl l=nl (l.take k)+nl (l.drop k):=by rw[←tw,JL]
theorem TY (l:List UInt8):nl l≤l.length:=List.count_le_length
def keys:List (List UInt8):=[[97,110,100],[98,114,101,97,107],[100,111],[101,108,115,101],[101,108,115,101,105,102],[101,110,100],[102,97,108,115,101],[102,111,114],[102,117,110,99,116,105,111,110],[103,111,116,111],[105,102],[105,110],[108,111,99,97,108],[110,105,108],[110,111,116],[111,114],[114,101,112,101,97,116],[114,101,116,117,114,110],[116,104,101,110],[116,114,117,101],[117,110,116,105,108],[119,104,105,108,101]]
def pK (l:List UInt8):Bool:=keys.contains l
def signs:List (List UInt8):=[[43],[45],[42],[47,47],[37],[38],[124],[126],[60,60],[62,62],[46,46],[46,46,46],[61,61],[126,61],[60],[60,61],[62],[62,61],[61],[40],[41],[123],[125],[91],[93],[59],[58],[58,58],[44],[46],[35]]
def mC (l:List UInt8):Bool:=signs.contains l
def opn (l:List UInt8):Nat :=
 if Lib.hasPrefix l [91] then (if Lib.hasPrefix (Lib.trimLeftB (l.drop 1) 61) [91] then l.length-((Lib.trimLeftB (l.drop 1) 61).drop 1).length else 0) else 0
def Zs (x:List UInt8):List UInt8:=Lib.replaceAll x [91] [93]
def Jo (l:List UInt8):Option (List UInt8×List UInt8) :=
 if (Lib.cut (l.drop (opn l)) (Zs (l.take (opn l)))).2.2 then some (Lib.trimPrefix (Lib.cut (l.drop (opn l)) (Zs (l.take (opn l)))).1 [10],(Lib.cut (l.drop (opn l)) (Zs (l.take (opn l)))).2.1) else none
def comm (l:List UInt8):Option (List UInt8) :=
 if 0<opn l then (Jo l).map (·.2) else some (l.drop (Lib.cut l [10]).1.length)
inductive mD:List UInt8→Except (List UInt8) (List UInt8)→Prop
 | done {l r:List UInt8}:l.dropWhile pH=r→Lib.hasPrefix r [45,45]=false→mD l (.ok r)
 | more {l r r':List UInt8} {o:Except (List UInt8) (List UInt8)}:l.dropWhile pH=45::45::r→comm r=some r'→mD r' o→mD l o
 | bad {l r:List UInt8}:l.dropWhile pH=45::45::r→comm r=none→mD l (.error (45::45::r))
def code (b:Int) (p:UInt8→Bool) (least most:Nat) (l:List UInt8):Option (List UInt8×List UInt8) :=
 if pG b (l.take (min most (runN p l)))=true∧least≤min most (runN p l)∧kJ b (l.take (min most (runN p l)))≤255 then
  some ([UInt8.ofNat (kJ b (l.take (min most (runN p l)))).toNat],l.drop (min most (runN p l))) else none
def vn (c:UInt8):Option UInt8 :=
 if c.toNat=97 then some 7 else if c.toNat=98 then some 8 else if c.toNat=102 then some 12 else if c.toNat=110 then some 10 else if c.toNat=114 then some 13 else if c.toNat=116 then some 9 else if c.toNat=118 then some 11 else none
def pL (c:UInt8):Bool:=decide (c.toNat=92) || decide (c.toNat=39) || decide (c.toNat=34) || decide (c.toNat=10)
def oO (c:UInt8) (r:List UInt8):Option (List UInt8×List UInt8) :=
 match vn c with
 | some x=>some ([x],r)
 | none=>if pL c then some ([c],r) else if c.toNat=122 then some ([],r.dropWhile pH) else if c.toNat=120 then code 16 yM 2 2 r else if gj c then code 10 gj 1 3 (c::r) else none
def pq:List UInt8→Option (List UInt8×List UInt8)
 | []=>none
 | c::r=>oO c r
inductive xE (q:UInt8):List UInt8→Option (List UInt8×List UInt8)→Prop
 | shut {r:List UInt8}:xE q (q::r) (some ([],r))
 | none:xE q [] none
 | line {r:List UInt8}:q≠10→xE q (10::r) none
 | pq {r m r':List UInt8} {o:Option (List UInt8×List UInt8)}:q≠92→pq r=some (m,r')→xE q r' o→xE q (92::r) (o.map fun x=>(m++x.1,x.2))
 | bad {r:List UInt8}:q≠92→Go.Proofs.YteflkdlaoiijbaaGreatDoor.pq r=Option.none→xE q (92::r) Option.none
 | byte {c:UInt8} {r:List UInt8} {o:Option (List UInt8×List UInt8)}:c≠q→c≠10→c≠92→xE q r o→xE q (c::r) (o.map fun x=>(c::x.1,x.2))
def sign (l:List UInt8):Option (List UInt8×List UInt8) :=
 if mC (l.take 3) then some (l.take 3,l.drop 3) else if mC (l.take 2) then some (l.take 2,l.drop 2) else if mC (l.take 1) then some (l.take 1,l.drop 1) else none
inductive Tok:List UInt8→Option (Int×Int×List UInt8×List UInt8)→Prop
 | eof:Tok [] (some (0,0,[],[]))
 | name {c:UInt8} {r:List UInt8}:vm c=true→Tok (c::r) (some (if pK ((c::r).takeWhile mB) then 2 else 1,0,(c::r).takeWhile mB,(c::r).dropWhile mB))
 | num {c:UInt8} {r:List UInt8}:vm c=false→gj c=true→pF 9223372036854775807 ((c::r).takeWhile oN)=true →
   Tok (c::r) (some (3,yL (tq 9223372036854775807 ((c::r).takeWhile oN):Int),[],(c::r).dropWhile oN))
 | Ci {c:UInt8} {r:List UInt8}:vm c=false→gj c=true→pF 9223372036854775807 ((c::r).takeWhile oN)=false→Tok (c::r) none
 | text {c:UInt8} {r:List UInt8} {o:Option (List UInt8×List UInt8)}:vm c=false→gj c=false→D7 c=true→xE c r o→Tok (c::r) (o.map fun x=>(4,0,x.1,x.2))
 | long {c:UInt8} {r:List UInt8}:vm c=false→gj c=false→D7 c=false→0<opn (c::r)→Tok (c::r) ((Jo (c::r)).map fun x=>(4,0,x.1,x.2))
 | sign {c:UInt8} {r:List UInt8}:vm c=false→gj c=false→D7 c=false→¬ 0<opn (c::r)→Tok (c::r) ((sign (c::r)).map fun x=>(5,0,x.1,x.2))
abbrev Tk:=Int×Int×Int×List UInt8
inductive jQ (L:Int):List UInt8→Except Int (List Tk)→Prop
 | lC {l r:List UInt8}:mD l (.error r)→jQ L l (.error (L-nl r))
 | oP {l r:List UInt8}:mD l (.ok r)→Tok r none→jQ L l (.error (L-nl r))
 | eof {l:List UInt8}:mD l (.ok [])→jQ L l (.ok [(0,L,0,[])])
 | step {l r r' s:List UInt8} {k n:Int} {o:Except Int (List Tk)}:mD l (.ok r)→r≠[]→Tok r (some (k,n,s,r'))→jQ L r' o→jQ L l (o.map ((k,L-nl r,n,s) :: ·))
theorem mD.sA {l:List UInt8} {o:Except (List UInt8) (List UInt8)} (h:mD l o) :∀{o'},mD l o'→o=o':=by
 induction h with
 | done h1 h2 =>
  intro o' h';cases h' with
  | done g1 g2=>rw[←h1,←g1]
  | more g1 g2 g3=>rw[h1] at g1;subst g1;simp[Lib.hasPrefix] at h2
  | bad g1 g2=>rw[h1] at g1;subst g1;simp[Lib.hasPrefix] at h2
 | more h1 h2 h3 ih =>
  intro o' h';cases h' with
  | done g1 g2=>rw[h1] at g1;subst g1;simp[Lib.hasPrefix] at g2
  | more g1 g2 g3 =>
   rw[h1] at g1;injection g1 with _ g1;injection g1 with _ g1;subst g1;rw[h2] at g2;injection g2 with g2;subst g2;exact ih g3
  | bad g1 g2 =>
   rw[h1] at g1;injection g1 with _ g1;injection g1 with _ g1;subst g1;rw[h2] at g2;cases g2
 | bad h1 h2 =>
  intro o' h';cases h' with
  | done g1 g2=>rw[h1] at g1;subst g1;simp[Lib.hasPrefix] at g2
  | more g1 g2 g3 =>
   rw[h1] at g1;injection g1 with _ g1;injection g1 with _ g1;subst g1;rw[h2] at g2;cases g2
  | bad g1 g2=>rw[←h1,←g1]
theorem xE.sA {q:UInt8} {l:List UInt8} {o:Option (List UInt8×List UInt8)} (h:xE q l o) :∀{o'},xE q l o'→o=o':=by
 induction h with
 | shut =>
  intro o' h';cases h' with
  | shut=>rfl
  | line g=>exact absurd rfl g
  | pq g=>exact absurd rfl g
  | bad g=>exact absurd rfl g
  | byte g=>exact absurd rfl g
 | none=>intro o' h';cases h';rfl
 | line h =>
  intro o' h';cases h' with
  | shut=>exact absurd rfl h
  | line g=>rfl
  | byte g1 g2=>exact absurd rfl g2
 | pq h1 h2 h3 ih =>
  intro o' h';cases h' with
  | shut=>exact absurd rfl h1
  | pq g1 g2 g3 =>
   rw[h2] at g2;injection g2 with g2;injection g2 with a b;subst a;subst b;rw[ih g3]
  | bad g1 g2=>rw[h2] at g2;cases g2
  | byte g1 g2 g3=>exact absurd rfl g3
 | bad h1 h2 =>
  intro o' h';cases h' with
  | shut=>exact absurd rfl h1
  | pq g1 g2 g3=>rw[h2] at g2;cases g2
  | bad g1 g2=>rfl
  | byte g1 g2 g3=>exact absurd rfl g3
 | byte h1 h2 h3 h4 ih =>
  intro o' h';cases h' with
  | shut=>exact absurd rfl h1
  | line=>exact absurd rfl h2
  | pq=>exact absurd rfl h3
  | bad=>exact absurd rfl h3
  | byte g1 g2 g3 g4=>rw[ih g4]
theorem Tok.sA {l:List UInt8} {o:Option (Int×Int×List UInt8×List UInt8)} (h:Tok l o) :∀{o'},Tok l o'→o=o':=by
 intro o' h';cases h<;>cases h'<;>first|rfl|(simp_all;done)|skip
 rename_i a b c d e f g i j k;rw[e.sA k]
theorem jQ.sA {L:Int} {l:List UInt8} {o:Except Int (List Tk)} (h:jQ L l o) :∀{o'},jQ L l o'→o=o':=by
 induction h with
 | lC h1 =>
  intro o' h';cases h' with
  | lC g1=>cases h1.sA g1;rfl
  | oP g1=>cases h1.sA g1
  | eof g1=>cases h1.sA g1
  | step g1=>cases h1.sA g1
 | oP h1 h2 =>
  intro o' h';cases h' with
  | lC g1=>cases h1.sA g1
  | oP g1=>cases h1.sA g1;rfl
  | eof g1=>cases h1.sA g1;cases h2
  | step g1 _ g3=>cases h1.sA g1;cases h2.sA g3
 | eof h1 =>
  intro o' h';cases h' with
  | lC g1=>cases h1.sA g1
  | oP g1 g2=>cases h1.sA g1;cases g2
  | eof g1=>rfl
  | step g1 g2=>cases h1.sA g1;exact absurd rfl g2
 | step h1 h2 h3 h4 ih =>
  intro o' h';cases h' with
  | lC g1=>cases h1.sA g1
  | oP g1 g2=>cases h1.sA g1;cases h3.sA g2
  | eof g1=>cases h1.sA g1;exact absurd rfl h2
  | step g1 g2 g3 g4 =>
   cases h1.sA g1;cases h3.sA g3;rw[ih g4]
theorem Vt (l:List UInt8):opn l≤l.length:=by unfold opn;split<;>(try split)<;>omega
theorem Vu (l:List UInt8):(Lib.cut l [10]).1=l.takeWhile (fun c=>c != 10):=by
 unfold Lib.cut;rw[Lib.index_one];induction l with
 | nil=>rfl
 | cons a t ih =>
  unfold Lib.indexByte;by_cases h:a=10
  ·subst h;simp
  ·have hb:(a == 10)=false:=by simpa using h
   simp only[List.takeWhile_cons,bne,hb,Bool.not_false];by_cases h1:0≤Lib.indexByte t 10
   ·rw[al h1] at ih
    have e:(Lib.indexByte t 10 == -1)=false:=by simpa using (by omega:Lib.indexByte t 10≠-1)
    simp only[e,JS,if_false,if_true];rw[al (by omega)]
    rw[show(Lib.indexByte t 10+1).toNat=(Lib.indexByte t 10).toNat+1 by omega,List.take_succ_cons]
    simp only[bne] at ih;rw[←ih]
   ·rw[af h1] at ih
    have hge:=Lib.index_ge t [10];rw[Lib.index_one] at hge;have e:Lib.indexByte t 10 = -1:=by omega
    simp[e];simp only[bne] at ih;simpa using ih
theorem gb {c x:UInt8} (r:List UInt8) (e:vn c=some x):oO c r=some ([x],r):=by unfold oO;rw[e]
theorem kK {c:UInt8} (r:List UInt8) (e:vn c=none) (h:pL c=true):oO c r=some ([c],r):=by unfold oO;rw[e];exact al h
theorem J6 {c:UInt8} (r:List UInt8) (e:vn c=none) (h:pL c=false) (h2:c.toNat=122):oO c r=some ([],r.dropWhile pH):=by
 unfold oO;rw[e];exact(af (by rw[h];decide)).trans (al h2)
theorem J7 {c:UInt8} (r:List UInt8) (e:vn c=none) (h:pL c=false) (h2:c.toNat=120):oO c r=code 16 yM 2 2 r:=by
 unfold oO;rw[e];exact(af (by rw[h];decide)).trans ((af (by omega)).trans (al h2))
theorem J8 {c:UInt8} (r:List UInt8) (e:vn c=none) (h:pL c=false) (h2:c.toNat≠122) (h3:c.toNat≠120) (h4:gj c=true):oO c r=code 10 gj 1 3 (c::r):=by
 unfold oO;rw[e];exact(af (by rw[h];decide)).trans ((af h2).trans ((af h3).trans (al h4)))
theorem D8 {c:UInt8} (r:List UInt8) (e:vn c=none) (h:pL c=false) (h2:c.toNat≠122) (h3:c.toNat≠120) (h4:gj c=false):oO c r=none:=by
 unfold oO;rw[e];exact(af (by rw[h];decide)).trans ((af h2).trans ((af h3).trans (af (by rw[h4];decide))))
open Go.RowKit
theorem PU {a b:Int} (h:a=b):Ending.returned (.int .u64 a)=.returned (.int .u64 b):=by rw[h]
theorem Vv (c:Nat):c<48∨(48≤c∧c≤57)∨(58≤c∧c≤64)∨(65≤c∧c≤90)∨(91≤c∧c≤96)∨(97≤c∧c≤122)∨123≤c:=by omega
theorem vQ (c:Nat) (w:World) (h:c≤255) :
  Calls Tryz.prog 192 #[.int .u8 c] w fun e w'=>e=.returned (.int .u64 (oq c:Int))∧w=w':=by
 rcases Vv c with h1|h1|h1|h1|h1|h1|h1;all_goals
  go_enter Tryz.func192,Tryz.ntmps192
  go_wp2
  go_ret
  refine⟨PU ?_,rfl⟩;unfold oq;repeat (first|rw[al (by omega)]|rw[af (by omega)])
  first|rfl|omega
theorem Zt (c:UInt8):c.toNat≤255:=by have:=c.toNat_lt;omega
theorem Vw (s:ByteArray) (h:0<s.size):s.data.toList≠[]:=by
 intro e;have:=Lib.size_eq s;rw[e,List.length_nil] at this;omega
theorem PV (s:ByteArray) (h:¬ 0<s.size):s.data.toList=[]:=by
 have:=Lib.size_eq s;exact pw (by omega)
theorem tx {b:Nat} {l:List UInt8} (h:l=[]):sy b l=false:=by subst h;rfl
theorem D9 {b:Nat} {l:List UInt8} (h:l≠[]) (h':iD b l=true):sy b l=true:=by
 unfold sy;cases l with
 | nil=>exact absurd rfl h
 | cons=>simpa using h'
theorem PW {b:Nat} {l:List UInt8} {c:UInt8} (h:c∈l) (hc:b≤oq c.toNat):sy b l=false:=by
 unfold sy;rw[zo h hc];simp
theorem lD {a a':Int} {o o':Bool} (h:a=a') (h':o=o'):Ending.returned (.tuple #[.int .u64 a,.bool o])=.returned (.tuple #[.int .u64 a',.bool o']):=by rw[h,h']
theorem J9 (v b d:Nat):IntKind.u64.wrap (IntKind.u64.wrap ((v:Int) % 18446744073709551616*(b:Int))+(d:Int))=((v*b+d) % 18446744073709551616:Nat):=by
 rw[IntKind.wrap_u64,IntKind.wrap_u64];have e:(v:Int) % 18446744073709551616*(b:Int) % 18446744073709551616=(v*b:Int) % 18446744073709551616:=by
  rw[Int.mul_emod,Int.emod_emod_of_dvd _ (Int.dvd_refl _),←Int.mul_emod]
 rw[e];have:((v*b:Nat):Int)=(v*b:Int):=by simp
 rw[←this];omega
theorem kL (s:ByteArray) (b:Nat) (w:World) (hs:s.size≤9223372036854775807) :
  Calls Tryz.prog 169 #[.string s,.int .u64 b] w fun e w'=>e=.returned (.tuple #[.int .u64 (Ce b s.data.toList:Int),.bool (sy b s.data.toList)])∧w=w':=by
 by_cases h0:0<s.size
 ·have hl:=Vw s h0
  have he:(s.toList.isEmpty)=false:=by rw[Lib.toList_data];simpa using hl
  have HL:=aa hl;clear hl;go_enter Tryz.func169,Tryz.ntmps169
  go_wp2
  go_loop [6,13] (fun n i=>∃k:Nat,k≤s.size∧i=.int .i64 k∧n=.int .u64 ((val b (s.data.toList.take k) % 18446744073709551616:Nat):Int)∧iD b (s.data.toList.take k)=true) (fun _ i=>s.size-(intOf i).toNat)
  case atStart=>exact⟨0,bK _,rfl,rfl,rfl⟩
  case round =>
   obtain⟨k,hk,rfl,rfl,ha⟩:=hrel;have HA:=aa ha;clear ha;by_cases hlt:k<s.size
   ·have jc:=aa (FY s k hlt)
    by_cases hd:oq s[k].toNat<b
    ·have hm:val b (s.data.toList.take k) % 18446744073709551616<18446744073709551616:=Nat.mod_lt _ (by decide)
     have hvs:=aa (J2 b (s.data.toList.take k) s[k]);have has:=aa (FX b (s.data.toList.take k) s[k]);generalize hv:val b (s.data.toList.take k)=v at hm hvs ⊢;clear hv;go_wp2_with (go_at_call 192;(with_reducible refine(vQ _ _ (Zt _)).mono ?_);rintro e w' ⟨rfl,rfl⟩)
     go_round
     case rel=>exact⟨k+1,by omega,by go_num,by rw[jc.out,hvs.out];exact az _ (J9 v b _),by rw[jc.out,has.out,HA.out];simpa using hd⟩
     case measure=>simp[intOf];omega
    ·have oQ:=aa (PW (b:=b) (get_mem s k hlt) (by omega))
     go_wp2_with (go_at_call 192;(with_reducible refine(vQ _ _ (Zt _)).mono ?_);rintro e w' ⟨rfl,rfl⟩)
     go_ret2
     exact⟨lD (by rw[xx oQ.out];rfl) oQ.out.symm,rfl⟩
   ·have sP:k=s.size:=by omega
    have ha:=HA.out;rw[sP,Lib.size_eq,zc] at ha;have Cj:=D9 HL.out ha;have HO:=aa Cj;have HK:=aa sP;clear Cj sP ha;go_wp2
    go_ret2
    exact⟨lD (by rw[Cf HO.out,HK.out,Lib.size_eq,zc];omega) HO.out.symm,rfl⟩
 ·have hl:=PV s h0
  have he:(s.toList.isEmpty)=true:=by rw[Lib.toList_data,hl];rfl
  rw[xx (tx hl),tx hl];clear hl;go_enter Tryz.func169,Tryz.ntmps169
  go_wp2
  all_goals
   go_ret2
   exact⟨rfl,rfl⟩
end Go.Proofs.YteflkdlaoiijbaaGreatDoor
open Go.Shelf
namespace Go.Proofs
def Tryz.zr:Go.Shelf.Ren:=⟨fun|161=>175|231=>196|227=>197|233=>198|235=>199|228=>219|197=>202|151=>220|260=>223|152=>232|137=>171|119=>237|224=>215|225=>214|217=>193|266=>217|n=>n,fun|9=>9|4=>4|3=>3|5=>5|117=>266|116=>265|0=>0|124=>269|105=>275|21=>21|119=>291|46=>282|139=>294|138=>293|n=>n,fun|3=>2|4=>3|n=>n⟩
theorem Tryz.PX:Go.Proofs.Lays.n161 Tryz.prog Tryz.zr:={
 mixed:=by kernel_rfl
 f119:=Tryz.func237.trans (az some (by kernel_rfl))
 f137:=Tryz.func171.trans (az some (by kernel_rfl))
 f151:=Tryz.func220.trans (az some (by kernel_rfl))
 f152:=Tryz.func232.trans (az some (by kernel_rfl))
 f161:=Tryz.func175.trans (az some (by kernel_rfl))
 f197:=Tryz.func202.trans (az some (by kernel_rfl))
 f217:=Tryz.func193.trans (az some (by kernel_rfl))
 f224:=Tryz.func215.trans (az some (by kernel_rfl))
 f225:=Tryz.func214.trans (az some (by kernel_rfl))
 f227:=Tryz.func197.trans (az some (by kernel_rfl))
 f228:=Tryz.func219.trans (az some (by kernel_rfl))
 f231:=Tryz.func196.trans (az some (by kernel_rfl))
 f233:=Tryz.func198.trans (az some (by kernel_rfl))
 f235:=Tryz.func199.trans (az some (by kernel_rfl))
 f260:=Tryz.func223.trans (az some (by kernel_rfl))
 f266:=Tryz.func217.trans (az some (by kernel_rfl))
 t0:=Tryz.underlying0
 a0:=Tryz.isAgg0
 z0:=Tryz.sizeOf0
 v0:=Tryz.zeroValue0
 t3:=Tryz.underlying3
 a3:=Tryz.isAgg3
 z3:=Tryz.sizeOf3
 v3:=Tryz.zeroValue3
 t4:=Tryz.underlying4
 a4:=Tryz.isAgg4
 z4:=Tryz.sizeOf4
 v4:=Tryz.zeroValue4
 t5:=Tryz.underlying5
 a5:=Tryz.isAgg5
 z5:=Tryz.sizeOf5
 v5:=Tryz.zeroValue5
 t9:=Tryz.underlying9
 a9:=Tryz.isAgg9
 z9:=Tryz.sizeOf9
 v9:=Tryz.zeroValue9
 t21:=Tryz.underlying21
 a21:=Tryz.isAgg21
 z21:=Tryz.sizeOf21
 v21:=Tryz.zeroValue21
 t46:=Tryz.underlying282
 a46:=Tryz.isAgg282
 z46:=Tryz.sizeOf282
 v46:=Tryz.zeroValue282
 t105:=Tryz.underlying275
 a105:=Tryz.isAgg275
 z105:=Tryz.sizeOf275
 v105:=Tryz.zeroValue275
 t116:=Tryz.underlying265
 a116:=Tryz.isAgg265
 z116:=Tryz.sizeOf265
 t117:=Tryz.underlying266
 a117:=Tryz.isAgg266
 z117:=Tryz.sizeOf266
 v117:=Tryz.zeroValue266
 t119:=Tryz.underlying291
 a119:=Tryz.isAgg291
 z119:=Tryz.sizeOf291
 t124:=Tryz.underlying269
 a124:=Tryz.isAgg269
 z124:=Tryz.sizeOf269
 v124:=Tryz.zeroValue269
 t138:=Tryz.underlying293
 a138:=Tryz.isAgg293
 z138:=Tryz.sizeOf293
 v138:=Tryz.zeroValue293
 t139:=Tryz.underlying294
 a139:=Tryz.isAgg294
 z139:=Tryz.sizeOf294
 v139:=Tryz.zeroValue294
 g3:=by kernel_rfl
 g4:=by kernel_rfl}
open Go.RowKit in
theorem Tryz.strings_TrimLeft_one (s:ByteArray) (c:UInt8) (hc:c.toNat<128) (w:World) :
  Calls Tryz.prog 175 #[.string s,.string ⟨#[c]⟩] w fun e w'=>e=.returned (.string ⟨(Lib.trimLeftB s.data.toList c).toArray⟩)∧w'=w:=Any.strings_TrimLeft_one Tryz.PX s c hc w
def Tryz.zt:Go.Shelf.Ren:=⟨fun|160=>218|232=>229|231=>196|227=>197|234=>230|233=>198|236=>231|235=>199|228=>219|271=>236|151=>220|197=>202|120=>240|152=>232|260=>223|137=>171|119=>237|224=>215|225=>214|217=>193|266=>217|n=>n,fun|9=>9|4=>4|3=>3|5=>5|117=>266|116=>265|0=>0|124=>269|21=>21|105=>275|46=>282|119=>291|139=>294|138=>293|n=>n,fun|3=>2|4=>3|n=>n⟩
theorem Tryz.PY:Go.Proofs.Lays.n160 Tryz.prog Tryz.zt:={
 mixed:=by kernel_rfl
 f119:=Tryz.func237.trans (az some (by kernel_rfl))
 f120:=Tryz.func240.trans (az some (by kernel_rfl))
 f137:=Tryz.func171.trans (az some (by kernel_rfl))
 f151:=Tryz.func220.trans (az some (by kernel_rfl))
 f152:=Tryz.func232.trans (az some (by kernel_rfl))
 f160:=Tryz.func218.trans (az some (by kernel_rfl))
 f197:=Tryz.func202.trans (az some (by kernel_rfl))
 f217:=Tryz.func193.trans (az some (by kernel_rfl))
 f224:=Tryz.func215.trans (az some (by kernel_rfl))
 f225:=Tryz.func214.trans (az some (by kernel_rfl))
 f227:=Tryz.func197.trans (az some (by kernel_rfl))
 f228:=Tryz.func219.trans (az some (by kernel_rfl))
 f231:=Tryz.func196.trans (az some (by kernel_rfl))
 f232:=Tryz.func229.trans (az some (by kernel_rfl))
 f233:=Tryz.func198.trans (az some (by kernel_rfl))
 f234:=Tryz.func230.trans (az some (by kernel_rfl))
 f235:=Tryz.func199.trans (az some (by kernel_rfl))
 f236:=Tryz.func231.trans (az some (by kernel_rfl))
 f260:=Tryz.func223.trans (az some (by kernel_rfl))
 f266:=Tryz.func217.trans (az some (by kernel_rfl))
 f271:=Tryz.func236.trans (az some (by kernel_rfl))
 t0:=Tryz.underlying0
 a0:=Tryz.isAgg0
 z0:=Tryz.sizeOf0
 v0:=Tryz.zeroValue0
 t3:=Tryz.underlying3
 a3:=Tryz.isAgg3
 z3:=Tryz.sizeOf3
 v3:=Tryz.zeroValue3
 t4:=Tryz.underlying4
 a4:=Tryz.isAgg4
 z4:=Tryz.sizeOf4
 v4:=Tryz.zeroValue4
 t5:=Tryz.underlying5
 a5:=Tryz.isAgg5
 z5:=Tryz.sizeOf5
 v5:=Tryz.zeroValue5
 t9:=Tryz.underlying9
 a9:=Tryz.isAgg9
 z9:=Tryz.sizeOf9
 v9:=Tryz.zeroValue9
 t21:=Tryz.underlying21
 a21:=Tryz.isAgg21
 z21:=Tryz.sizeOf21
 v21:=Tryz.zeroValue21
 t46:=Tryz.underlying282
 a46:=Tryz.isAgg282
 z46:=Tryz.sizeOf282
 v46:=Tryz.zeroValue282
 t105:=Tryz.underlying275
 a105:=Tryz.isAgg275
 z105:=Tryz.sizeOf275
 v105:=Tryz.zeroValue275
 t116:=Tryz.underlying265
 a116:=Tryz.isAgg265
 z116:=Tryz.sizeOf265
 t117:=Tryz.underlying266
 a117:=Tryz.isAgg266
 z117:=Tryz.sizeOf266
 v117:=Tryz.zeroValue266
 t119:=Tryz.underlying291
 a119:=Tryz.isAgg291
 z119:=Tryz.sizeOf291
 t124:=Tryz.underlying269
 a124:=Tryz.isAgg269
 z124:=Tryz.sizeOf269
 v124:=Tryz.zeroValue269
 t138:=Tryz.underlying293
 a138:=Tryz.isAgg293
 z138:=Tryz.sizeOf293
 v138:=Tryz.zeroValue293
 t139:=Tryz.underlying294
 a139:=Tryz.isAgg294
 z139:=Tryz.sizeOf294
 v139:=Tryz.zeroValue294
 g3:=by kernel_rfl
 g4:=by kernel_rfl}
def Tryz.zu:Go.Shelf.Ren:=⟨fun|137=>171|217=>193|266=>217|n=>n,fun|9=>9|5=>5|3=>3|n=>n,fun|n=>n⟩
theorem Tryz.PZ:Go.Proofs.Lays.n137 Tryz.prog Tryz.zu:={
 mixed:=by kernel_rfl
 f137:=Tryz.func171.trans (az some (by kernel_rfl))
 f217:=Tryz.func193.trans (az some (by kernel_rfl))
 f266:=Tryz.func217.trans (az some (by kernel_rfl))
 t3:=Tryz.underlying3
 a3:=Tryz.isAgg3
 z3:=Tryz.sizeOf3
 v3:=Tryz.zeroValue3
 t5:=Tryz.underlying5
 a5:=Tryz.isAgg5
 z5:=Tryz.sizeOf5
 v5:=Tryz.zeroValue5
 t9:=Tryz.underlying9
 a9:=Tryz.isAgg9
 z9:=Tryz.sizeOf9
 v9:=Tryz.zeroValue9}
open Go.RowKit in
theorem Tryz.strings_IndexByte (s:ByteArray) (c:Int) (w:World) :
  Calls Tryz.prog 171 #[.string s,.int .u8 c] w fun e w'=>e=.returned (.int .i64 (Lib.indexByte s.data.toList c.toNat.toUInt8))∧w'=w:=Any.strings_IndexByte Tryz.PZ s c w
def Tryz.zv:Go.Shelf.Ren:=⟨fun|103=>174|210=>195|206=>132|n=>n,fun|9=>9|4=>4|24=>160|3=>3|n=>n,fun|n=>n⟩
theorem Tryz.Qa:Go.Proofs.Lays.n103 Tryz.prog Tryz.zv:={
 mixed:=by kernel_rfl
 f103:=Tryz.func174.trans (az some (by kernel_rfl))
 f206:=Tryz.func132.trans (az some (by kernel_rfl))
 f210:=Tryz.func195.trans (az some (by kernel_rfl))
 t3:=Tryz.underlying3
 a3:=Tryz.isAgg3
 z3:=Tryz.sizeOf3
 v3:=Tryz.zeroValue3
 t4:=Tryz.underlying4
 a4:=Tryz.isAgg4
 z4:=Tryz.sizeOf4
 v4:=Tryz.zeroValue4
 t9:=Tryz.underlying9
 a9:=Tryz.isAgg9
 z9:=Tryz.sizeOf9
 v9:=Tryz.zeroValue9
 t24:=Tryz.underlying160
 a24:=Tryz.isAgg160
 z24:=Tryz.sizeOf160
 v24:=Tryz.zeroValue160}
open Go.RowKit in
theorem Tryz.strings_CutPrefix (s p:ByteArray) (w:World) :
  Calls Tryz.prog 174 #[.string s,.string p] w fun e w'=>e=.returned (.tuple #[.string ⟨(Lib.trimPrefix s.data.toList p.data.toList).toArray⟩,.bool (Lib.hasPrefix s.data.toList p.data.toList)])∧w'=w:=Any.strings_CutPrefix Tryz.Qa s p w
def Tryz.zw:Go.Shelf.Ren:=⟨fun|145=>133|220=>168|219=>191|217=>193|225=>214|224=>215|267=>216|266=>217|314=>228|n=>n,fun|9=>9|4=>4|59=>211|3=>3|5=>5|46=>282|146=>286|51=>285|n=>n,fun|1=>1|n=>n⟩
theorem Tryz.Qb:Go.Proofs.Lays.n145 Tryz.prog Tryz.zw:={
 mixed:=by kernel_rfl
 f145:=Tryz.func133.trans (az some (by kernel_rfl))
 f217:=Tryz.func193.trans (az some (by kernel_rfl))
 f219:=Tryz.func191.trans (az some (by kernel_rfl))
 f220:=Tryz.func168.trans (az some (by kernel_rfl))
 f224:=Tryz.func215.trans (az some (by kernel_rfl))
 f225:=Tryz.func214.trans (az some (by kernel_rfl))
 f266:=Tryz.func217.trans (az some (by kernel_rfl))
 f267:=Tryz.func216.trans (az some (by kernel_rfl))
 f314:=Tryz.func228.trans (az some (by kernel_rfl))
 t3:=Tryz.underlying3
 a3:=Tryz.isAgg3
 z3:=Tryz.sizeOf3
 v3:=Tryz.zeroValue3
 t4:=Tryz.underlying4
 a4:=Tryz.isAgg4
 z4:=Tryz.sizeOf4
 v4:=Tryz.zeroValue4
 t5:=Tryz.underlying5
 a5:=Tryz.isAgg5
 z5:=Tryz.sizeOf5
 v5:=Tryz.zeroValue5
 t9:=Tryz.underlying9
 a9:=Tryz.isAgg9
 z9:=Tryz.sizeOf9
 v9:=Tryz.zeroValue9
 t46:=Tryz.underlying282
 a46:=Tryz.isAgg282
 z46:=Tryz.sizeOf282
 v46:=Tryz.zeroValue282
 t51:=Tryz.underlying285
 a51:=Tryz.isAgg285
 z51:=Tryz.sizeOf285
 v51:=Tryz.zeroValue285
 t59:=Tryz.underlying211
 a59:=Tryz.isAgg211
 z59:=Tryz.sizeOf211
 v59:=Tryz.zeroValue211
 t146:=Tryz.underlying286
 a146:=Tryz.isAgg286
 z146:=Tryz.sizeOf286
 v146:=Tryz.zeroValue286
 g1:=by kernel_rfl}
open Go.RowKit Go.Lib in
theorem Tryz.strings_Cut (s sep:ByteArray) (m:Int) (w:World) (hs:s.size<4294967281) (hm:w.cell? ⟨1,0,none⟩=some (.int .i64 m)) :
  Calls Tryz.prog 133 #[.string s,.string sep] w fun e w'=>e=.returned (.tuple #[.string ⟨(Lib.cut s.data.toList sep.data.toList).1.toArray⟩,.string ⟨(Lib.cut s.data.toList sep.data.toList).2.1.toArray⟩,.bool (Lib.cut s.data.toList sep.data.toList).2.2])∧∃n,w'=w.drewN n:=Any.strings_Cut Tryz.Qb s sep m w hs hm
def Tryz.zx:Go.Shelf.Ren:=⟨fun|138=>131|195=>165|218=>166|143=>167|219=>191|217=>193|225=>214|224=>215|267=>216|266=>217|314=>228|n=>n,fun|9=>9|3=>3|4=>4|5=>5|0=>0|46=>282|146=>286|51=>285|n=>n,fun|1=>1|n=>n⟩
theorem Tryz.Qc:Go.Proofs.Lays.n138 Tryz.prog Tryz.zx:={
 mixed:=by kernel_rfl
 f138:=Tryz.func131.trans (az some (by kernel_rfl))
 f143:=Tryz.func167.trans (az some (by kernel_rfl))
 f195:=Tryz.func165.trans (az some (by kernel_rfl))
 f217:=Tryz.func193.trans (az some (by kernel_rfl))
 f218:=Tryz.func166.trans (az some (by kernel_rfl))
 f219:=Tryz.func191.trans (az some (by kernel_rfl))
 f224:=Tryz.func215.trans (az some (by kernel_rfl))
 f225:=Tryz.func214.trans (az some (by kernel_rfl))
 f266:=Tryz.func217.trans (az some (by kernel_rfl))
 f267:=Tryz.func216.trans (az some (by kernel_rfl))
 f314:=Tryz.func228.trans (az some (by kernel_rfl))
 t0:=Tryz.underlying0
 a0:=Tryz.isAgg0
 z0:=Tryz.sizeOf0
 v0:=Tryz.zeroValue0
 t3:=Tryz.underlying3
 a3:=Tryz.isAgg3
 z3:=Tryz.sizeOf3
 v3:=Tryz.zeroValue3
 t4:=Tryz.underlying4
 a4:=Tryz.isAgg4
 z4:=Tryz.sizeOf4
 v4:=Tryz.zeroValue4
 t5:=Tryz.underlying5
 a5:=Tryz.isAgg5
 z5:=Tryz.sizeOf5
 v5:=Tryz.zeroValue5
 t9:=Tryz.underlying9
 a9:=Tryz.isAgg9
 z9:=Tryz.sizeOf9
 v9:=Tryz.zeroValue9
 t46:=Tryz.underlying282
 a46:=Tryz.isAgg282
 z46:=Tryz.sizeOf282
 v46:=Tryz.zeroValue282
 t51:=Tryz.underlying285
 a51:=Tryz.isAgg285
 z51:=Tryz.sizeOf285
 v51:=Tryz.zeroValue285
 t146:=Tryz.underlying286
 a146:=Tryz.isAgg286
 z146:=Tryz.sizeOf286
 v146:=Tryz.zeroValue286
 g1:=by kernel_rfl}
open Go.RowKit Go.Lib in
theorem Tryz.strings_Count_one (s:ByteArray) (c:UInt8) (w:World) :
  Calls Tryz.prog 131 #[.string s,.string ⟨#[c]⟩] w fun e w'=>e=.returned (.int .i64 (Lib.countByte s.data.toList c))∧w'=w:=Any.strings_Count_one Tryz.Qc s c w
def Tryz.Ck:Go.Shelf.Ren:=⟨fun|99=>71|206=>132|n=>n,fun|9=>9|4=>4|3=>3|n=>n,fun|n=>n⟩
theorem Tryz.Vx:Go.Proofs.Lays.n99 Tryz.prog Tryz.Ck:={
 mixed:=by kernel_rfl
 f99:=Tryz.func71.trans (az some (by kernel_rfl))
 f206:=Tryz.func132.trans (az some (by kernel_rfl))
 t3:=Tryz.underlying3
 a3:=Tryz.isAgg3
 z3:=Tryz.sizeOf3
 v3:=Tryz.zeroValue3
 t4:=Tryz.underlying4
 a4:=Tryz.isAgg4
 z4:=Tryz.sizeOf4
 v4:=Tryz.zeroValue4
 t9:=Tryz.underlying9
 a9:=Tryz.isAgg9
 z9:=Tryz.sizeOf9
 v9:=Tryz.zeroValue9}
open Go.RowKit Go.Lib in
theorem Tryz.strings_HasPrefix (s p:ByteArray) (w:World) :
  Calls Tryz.prog 71 #[.string s,.string p] w fun e w'=>e=.returned (.bool (Lib.hasPrefix s.data.toList p.data.toList))∧w'=w:=Any.strings_HasPrefix Tryz.Vx s p w
def Tryz.zy:Go.Shelf.Ren:=⟨fun|101=>140|208=>177|206=>132|n=>n,fun|9=>9|4=>4|3=>3|n=>n,fun|n=>n⟩
theorem Tryz.Qd:Go.Proofs.Lays.n101 Tryz.prog Tryz.zy:={
 mixed:=by kernel_rfl
 f101:=Tryz.func140.trans (az some (by kernel_rfl))
 f206:=Tryz.func132.trans (az some (by kernel_rfl))
 f208:=Tryz.func177.trans (az some (by kernel_rfl))
 t3:=Tryz.underlying3
 a3:=Tryz.isAgg3
 z3:=Tryz.sizeOf3
 v3:=Tryz.zeroValue3
 t4:=Tryz.underlying4
 a4:=Tryz.isAgg4
 z4:=Tryz.sizeOf4
 v4:=Tryz.zeroValue4
 t9:=Tryz.underlying9
 a9:=Tryz.isAgg9
 z9:=Tryz.sizeOf9
 v9:=Tryz.zeroValue9}
open Go.RowKit Go.Lib in
theorem Tryz.strings_TrimPrefix (s p:ByteArray) (w:World) :
  Calls Tryz.prog 140 #[.string s,.string p] w fun e w'=>e=.returned (.string ⟨(Lib.trimPrefix s.data.toList p.data.toList).toArray⟩)∧w'=w:=Any.strings_TrimPrefix Tryz.Qd s p w
def Tryz.rN:Go.Shelf.Ren:=⟨fun|155=>139|154=>176|138=>131|165=>200|143=>167|166=>201|197=>202|169=>203|195=>165|218=>166|240=>221|241=>222|219=>191|260=>223|276=>233|277=>234|217=>193|225=>214|224=>215|267=>216|266=>217|314=>228|n=>n,fun|9=>9|3=>3|4=>4|72=>272|0=>0|76=>72|105=>275|21=>21|5=>5|70=>270|20=>20|37=>216|75=>27|127=>284|164=>127|46=>282|119=>291|139=>294|138=>293|146=>286|51=>285|80=>121|n=>n,fun|1=>1|3=>2|4=>3|n=>n⟩
theorem Tryz.Qe:Go.Proofs.Lays.n155 Tryz.prog Tryz.rN:={
 mixed:=by kernel_rfl
 f138:=Tryz.func131.trans (az some (by kernel_rfl))
 f143:=Tryz.func167.trans (az some (by kernel_rfl))
 f154:=Tryz.func176.trans (az some (by kernel_rfl))
 f155:=Tryz.func139.trans (az some (by kernel_rfl))
 f165:=Tryz.func200.trans (az some (by kernel_rfl))
 f166:=Tryz.func201.trans (az some (by kernel_rfl))
 f169:=Tryz.func203.trans (az some (by kernel_rfl))
 f195:=Tryz.func165.trans (az some (by kernel_rfl))
 f197:=Tryz.func202.trans (az some (by kernel_rfl))
 f217:=Tryz.func193.trans (az some (by kernel_rfl))
 f218:=Tryz.func166.trans (az some (by kernel_rfl))
 f219:=Tryz.func191.trans (az some (by kernel_rfl))
 f224:=Tryz.func215.trans (az some (by kernel_rfl))
 f225:=Tryz.func214.trans (az some (by kernel_rfl))
 f240:=Tryz.func221.trans (az some (by kernel_rfl))
 f241:=Tryz.func222.trans (az some (by kernel_rfl))
 f260:=Tryz.func223.trans (az some (by kernel_rfl))
 f266:=Tryz.func217.trans (az some (by kernel_rfl))
 f267:=Tryz.func216.trans (az some (by kernel_rfl))
 f276:=Tryz.func233.trans (az some (by kernel_rfl))
 f277:=Tryz.func234.trans (az some (by kernel_rfl))
 f314:=Tryz.func228.trans (az some (by kernel_rfl))
 t0:=Tryz.underlying0
 a0:=Tryz.isAgg0
 z0:=Tryz.sizeOf0
 v0:=Tryz.zeroValue0
 t3:=Tryz.underlying3
 a3:=Tryz.isAgg3
 z3:=Tryz.sizeOf3
 v3:=Tryz.zeroValue3
 t4:=Tryz.underlying4
 a4:=Tryz.isAgg4
 z4:=Tryz.sizeOf4
 v4:=Tryz.zeroValue4
 t5:=Tryz.underlying5
 a5:=Tryz.isAgg5
 z5:=Tryz.sizeOf5
 v5:=Tryz.zeroValue5
 t9:=Tryz.underlying9
 a9:=Tryz.isAgg9
 z9:=Tryz.sizeOf9
 v9:=Tryz.zeroValue9
 t20:=Tryz.underlying20
 a20:=Tryz.isAgg20
 z20:=Tryz.sizeOf20
 v20:=Tryz.zeroValue20
 t21:=Tryz.underlying21
 a21:=Tryz.isAgg21
 z21:=Tryz.sizeOf21
 v21:=Tryz.zeroValue21
 t37:=Tryz.underlying216
 a37:=Tryz.isAgg216
 z37:=Tryz.sizeOf216
 v37:=Tryz.zeroValue216
 t46:=Tryz.underlying282
 a46:=Tryz.isAgg282
 z46:=Tryz.sizeOf282
 v46:=Tryz.zeroValue282
 t51:=Tryz.underlying285
 a51:=Tryz.isAgg285
 z51:=Tryz.sizeOf285
 v51:=Tryz.zeroValue285
 t70:=Tryz.underlying270
 a70:=Tryz.isAgg270
 z70:=Tryz.sizeOf270
 v70:=Tryz.zeroValue270
 t72:=Tryz.underlying272
 a72:=Tryz.isAgg272
 z72:=Tryz.sizeOf272
 v72:=Tryz.zeroValue272
 t75:=Tryz.underlying27
 a75:=Tryz.isAgg27
 z75:=Tryz.sizeOf27
 v75:=Tryz.zeroValue27
 t76:=Tryz.underlying72
 a76:=Tryz.isAgg72
 z76:=Tryz.sizeOf72
 v76:=Tryz.zeroValue72
 t105:=Tryz.underlying275
 a105:=Tryz.isAgg275
 z105:=Tryz.sizeOf275
 v105:=Tryz.zeroValue275
 t119:=Tryz.underlying291
 a119:=Tryz.isAgg291
 z119:=Tryz.sizeOf291
 t127:=Tryz.underlying284
 a127:=Tryz.isAgg284
 z127:=Tryz.sizeOf284
 v127:=Tryz.zeroValue284
 t138:=Tryz.underlying293
 a138:=Tryz.isAgg293
 z138:=Tryz.sizeOf293
 v138:=Tryz.zeroValue293
 t139:=Tryz.underlying294
 a139:=Tryz.isAgg294
 z139:=Tryz.sizeOf294
 v139:=Tryz.zeroValue294
 t146:=Tryz.underlying286
 a146:=Tryz.isAgg286
 z146:=Tryz.sizeOf286
 v146:=Tryz.zeroValue286
 t164:=Tryz.underlying127
 a164:=Tryz.isAgg127
 z164:=Tryz.sizeOf127
 v164:=Tryz.zeroValue127
 g1:=by kernel_rfl
 g3:=by kernel_rfl
 g4:=by kernel_rfl}
theorem Tryz.pM:Builder.Extra Tryz.prog Tryz.rN:={
 sizeBuilder:=by kernel_rfl
 liesBuilder:=by kernel_rfl
 t5:=Tryz.underlying5
 a5:=Tryz.isAgg5
 z5:=Tryz.sizeOf5
 v5:=Tryz.zeroValue5
 infoByte:=by kernel_rfl
 cellsByte:=by kernel_rfl
 sizeByte:=by kernel_rfl
 neB5:=by decide}
open Go.RowKit Go.Lib in
theorem Tryz.strings_ReplaceAll (s old new:ByteArray) (m:Int) (w:World) (hs:s.size<4294967281) (hm:w.cell? ⟨1,0,none⟩=some (.int .i64 m)) (h1:1≤old.size) (hlen:s.size+Lib.countB s old*new.size≤140737488355328) :
  Calls Tryz.prog 139 #[.string s,.string old,.string new] w fun e w' =>
   e=.returned (.string ⟨(Lib.replaceAll s.data.toList old.data.toList new.data.toList).toArray⟩)∧Below w.heap.size w w':=Any.strings_ReplaceAll Tryz.Qe Tryz.pM s old new m w hs hm h1 hlen
end Go.Proofs
namespace Go.Proofs.YteflkdlaoiijbaaGreatDoor
open Go.RowKit
theorem Cl {a a':Int} {o o':Bool} (h:a=a') (h':o=o'):Ending.returned (.tuple #[.int .i64 a,.bool o])=.returned (.tuple #[.int .i64 a',.bool o']):=by rw[h,h']
theorem Ka (s:ByteArray) (w:World):Calls Tryz.prog 175 #[.string s,.string ⟨#[48]⟩] w fun e w'=>e=.returned (.string ⟨(Lib.trimLeftB s.data.toList 48).toArray⟩)∧w=w' :=
 (Tryz.strings_TrimLeft_one s 48 (by decide) w).mono fun _ _ ⟨h,h'⟩=>⟨h,h'.symm⟩
theorem Kb (s:ByteArray) (b:Nat) (w:World) (hs:s.size≤9223372036854775807) (h:sy b s.data.toList=false) :
  Calls Tryz.prog 169 #[.string s,.int .u64 b] w fun e w'=>e=.returned (.tuple #[.int .u64 0,.bool false])∧w=w':=by
 have hc:=kL s b w hs;rw[xx h,h] at hc;exact hc
theorem vR (s:ByteArray) (b:Nat) (w:World) (hs:s.size≤9223372036854775807) (h:sy b s.data.toList=true) :
  Calls Tryz.prog 169 #[.string s,.int .u64 b] w fun e w'=>e=.returned (.tuple #[.int .u64 (Ce b s.data.toList:Int),.bool true])∧w=w':=by
 have hc:=kL s b w hs;rw[h] at hc;exact hc
theorem zz (s:ByteArray) (m:Int) (w:World) (hs:s.size≤9223372036854775807) (hm:m≤9223372036854775808) :
  Calls Tryz.prog 170 #[.string s,.int .u64 m] w fun e w'=>e=.returned (.tuple #[.int .u64 (Ch m s.data.toList:Int),.bool (pE m s.data.toList)])∧w=w':=by
 cases ho:sy 10 s.data.toList
 ·have HN:=aa (J5 (m:=m) ho)
  have HO:=aa ho;clear ho;go_enter Tryz.func170,Tryz.ntmps170
  go_wp2_with fail
  refine(Kb s 10 _ hs HO.out).mono ?_;rintro e w1 ⟨rfl,rfl⟩;go_wp2_with fail
  go_ret2
  exact⟨lD (by rw[xD HN.out];rfl) HN.out.symm,rfl⟩
 ·have HO:=aa ho
  by_cases hl:(Lib.trimLeftB s.data.toList 48).length≤19
  ·have HW:=aa (Gc ho hl)
   clear ho;obtain⟨v,hv⟩ :∃v:Int,v=(val 10 s.data.toList:Int):=⟨_,rfl⟩;have HV:=aa hv;have HC:=aa (fun(w:World)=>HV.out▸HW.out▸vR s 10 w hs HO.out)
   clear hv;by_cases hvm:v≤m
   ·have HN:=aa (PQ HO.out (HV.out▸hvm))
    go_enter Tryz.func170,Tryz.ntmps170
    go_wp2_with fail
    refine(HC.out _).mono ?_;rintro e w1 ⟨rfl,rfl⟩;go_wp2_with fail
    refine(Ka _ _).mono ?_;rintro e w2 ⟨rfl,rfl⟩;go_wp2_with fail
    go_ret2
    exact⟨lD (by rw[PT HN.out];exact HV.out) HN.out.symm,rfl⟩
   ·have HN:=aa (Ge (HV.out▸Int.lt_of_not_ge hvm))
    go_enter Tryz.func170,Tryz.ntmps170
    go_wp2_with fail
    refine(HC.out _).mono ?_;rintro e w1 ⟨rfl,rfl⟩;go_wp2_with fail
    refine(Ka _ _).mono ?_;rintro e w2 ⟨rfl,rfl⟩;go_wp2_with fail
    go_ret2
    exact⟨lD (by rw[xD HN.out];rfl) HN.out.symm,rfl⟩
  ·have HN:=aa (Gd hm ho (Nat.lt_of_not_le hl))
   clear ho;go_enter Tryz.func170,Tryz.ntmps170
   go_wp2_with fail
   refine(vR s 10 _ hs HO.out).mono ?_;rintro e w1 ⟨rfl,rfl⟩;go_wp2_with fail
   refine(Ka _ _).mono ?_;rintro e w2 ⟨rfl,rfl⟩;go_wp2_with fail
   go_ret2
   exact⟨lD (by rw[xD HN.out];rfl) HN.out.symm,rfl⟩
theorem lE (s p:ByteArray) (w:World) (r:Bool) (h:Lib.hasPrefix s.data.toList p.data.toList=r):Calls Tryz.prog 71 #[.string s,.string p] w fun e w'=>e=.returned (.bool r)∧w=w' :=
 (Tryz.strings_HasPrefix s p w).mono fun _ _ ⟨a,b⟩=>⟨by rw[a,h],b.symm⟩
theorem tz (s:ByteArray) (k:Nat):(⟨(s.data.toList.drop k).toArray⟩:ByteArray)=s.extract k s.size:=by
 rw[Lib.extract_eq,tb (by rw[kE,Lib.size_eq];omega)]
theorem Zu {s:ByteArray} {a b:UInt8} (h:Lib.hasPrefix s.data.toList [a,b]=true):2≤s.size:=by
 rw[Lib.size_eq];unfold Lib.hasPrefix at h;match hs:s.data.toList,h with
 | [],h=>simp[List.isPrefixOf] at h
 | [_],h=>simp[List.isPrefixOf] at h
 | _::_::_,_=>simp
theorem Vy {l:List UInt8} (h:Lib.hasPrefix l [48,120]=true):sz l=true:=by unfold sz;rw[h];rfl
theorem Vz {l:List UInt8} (h:Lib.hasPrefix l [48,88]=true):sz l=true:=by unfold sz;rw[h];simp
theorem VB {l:List UInt8} (h:Lib.hasPrefix l [48,120]=false) (h':Lib.hasPrefix l [48,88]=false):sz l=false:=by unfold sz;rw[h,h'];rfl
theorem zA {m:Int} {l:List UInt8} (h:sz l=true):pF m l=sy 16 (l.drop 2):=by unfold pF;simp[h]
theorem zB {m:Int} {l:List UInt8} (h:sz l=true):tq m l=Ce 16 (l.drop 2):=by unfold tq;simp[h]
theorem Kc {m:Int} {l:List UInt8} (h:sz l=false):pF m l=pE m l:=by unfold pF;simp[h]
theorem Kd {m:Int} {l:List UInt8} (h:sz l=false):tq m l=Ch m l:=by unfold tq;simp[h]
theorem tA (s:ByteArray) (k b:Nat) (w:World) (hs:s.size≤9223372036854775807) :
  Calls Tryz.prog 169 #[.string (s.extract k s.size),.int .u64 b] w fun e w'=>e=.returned (.tuple #[.int .u64 (Ce b (s.data.toList.drop k):Int),.bool (sy b (s.data.toList.drop k))])∧w=w':=by
 have h:=kL ⟨(s.data.toList.drop k).toArray⟩ b w (by rw[Lib.size_mk,kE,←Lib.size_eq];omega)
 rw[tz] at h;rw[show(s.extract k s.size).data.toList=s.data.toList.drop k by rw[←tz]] at h
 exact h
theorem zC (s:ByteArray) (m:Int) (w:World) (hs:s.size≤9223372036854775807) (hm:m≤9223372036854775808) :
  Calls Tryz.prog 136 #[.string s,.int .u64 m] w fun e w'=>e=.returned (.tuple #[.int .u64 (tq m s.data.toList:Int),.bool (pF m s.data.toList)])∧w=w':=by
 have HM:=aa hm;clear hm;cases h1:Lib.hasPrefix s.data.toList [48,120]
 ·cases h2:Lib.hasPrefix s.data.toList [48,88]
  ·have HX:=aa (VB h1 h2)
   have H1:=aa h1;have H2:=aa h2;clear h1 h2;go_enter Tryz.func136,Tryz.ntmps136
   go_wp2_with fail
   refine(lE _ _ _ _ H1.out).mono ?_;rintro e w1 ⟨rfl,rfl⟩;go_wp2_with fail
   refine(lE _ _ _ _ H2.out).mono ?_;rintro e w1 ⟨rfl,rfl⟩;go_wp2_with fail
   refine(zz _ _ _ hs HM.out).mono ?_;rintro e w1 ⟨rfl,rfl⟩;go_wp2_with fail
   go_ret2
   exact⟨lD (by rw[Kd HX.out]) (Kc HX.out).symm,rfl⟩
  ·have HX:=aa (Vz h2)
   have H1:=aa h1;have H2:=aa h2;have hz:=Zu h2;clear h1 h2;go_enter Tryz.func136,Tryz.ntmps136
   go_wp2_with fail
   refine(lE _ _ _ _ H1.out).mono ?_;rintro e w1 ⟨rfl,rfl⟩;go_wp2_with fail
   refine(lE _ _ _ _ H2.out).mono ?_;rintro e w1 ⟨rfl,rfl⟩;go_wp2_with fail
   refine(tA _ 2 16 _ hs).mono ?_;rintro e w1 ⟨rfl,rfl⟩;go_wp2_with fail
   go_ret2
   exact⟨lD (by rw[zB HX.out]) (zA HX.out).symm,rfl⟩
 ·have HX:=aa (Vy h1)
  have H1:=aa h1;have hz:=Zu h1;clear h1;go_enter Tryz.func136,Tryz.ntmps136
  go_wp2_with fail
  refine(lE _ _ _ _ H1.out).mono ?_;rintro e w1 ⟨rfl,rfl⟩;go_wp2_with fail
  refine(tA _ 2 16 _ hs).mono ?_;rintro e w1 ⟨rfl,rfl⟩;go_wp2_with fail
  go_ret2
  exact⟨lD (by rw[zB HX.out]) (zA HX.out).symm,rfl⟩
theorem xF (n:Int):wrap64 n=yL n:=by unfold wrap64 yL;rfl
theorem Qf (n:Int):yL (IntKind.u64.wrap n)=yL n:=by rw[IntKind.wrap_u64];unfold yL;omega
theorem zD (s:ByteArray) (w:World) (hs:s.size≤9223372036854775807) :
  Calls Tryz.prog 76 #[.string s] w fun e w'=>e=.returned (.tuple #[.int .i64 (yL (tq 9223372036854775807 s.data.toList:Int)),.bool (pF 9223372036854775807 s.data.toList)])∧w=w':=by
 go_enter Tryz.func76,Tryz.ntmps76
 go_wp2_with fail
 refine(zC _ _ _ hs (by omega)).mono ?_;rintro e w1 ⟨rfl,rfl⟩
 go_wp2_with fail
 go_ret2
 exact⟨Cl (by first|exact xF _|exact abw _) rfl,rfl⟩
theorem Ke (s:ByteArray) (w:World) (hs:s.size≤9223372036854775807) :
  Calls Tryz.prog 218 #[.string s,.string ⟨#[9,10,11,12,13,32]⟩] w fun e w'=>e=.returned (.string ⟨(D5 s.data.toList).toArray⟩)∧Below w.heap.size w w' :=
 Any.strings_Trim_laid Tryz.PY (by kernel_rfl) s ⟨#[9,10,11,12,13,32]⟩ w hs (by decide) (ascii_of_all (by decide))
theorem Kf (s:ByteArray):(⟨(D5 s.data.toList).toArray⟩:ByteArray).size≤s.size:=by
 rw[Lib.size_mk,Lib.size_eq];exact Vq _
theorem Zv (t:ByteArray) (w:World) (r:Bool) (h:xA t.data.toList=r) :
  Calls Tryz.prog 174 #[.string t,.string ⟨#[45]⟩] w fun e w'=>e=.returned (.tuple #[.string ⟨(Lib.trimPrefix t.data.toList [45]).toArray⟩,.bool r])∧w=w' :=
 (Tryz.strings_CutPrefix t ⟨#[45]⟩ w).mono fun _ _ ⟨a,b⟩=>⟨by rw[a,←h];rfl,b.symm⟩
theorem Kg (t:ByteArray) (p:List UInt8):(⟨(Lib.trimPrefix t.data.toList p).toArray⟩:ByteArray).size≤t.size:=by
 rw[Lib.size_mk,Lib.size_eq];exact Lib.trimPrefix_le _ _
theorem Kh {b:Int} {l:List UInt8} (h:¬ (2≤b∧b≤36)):pG b l=false:=by unfold pG;rw[af h]
theorem Ki {b:Int} {l:List UInt8} (h:¬ (2≤b∧b≤36)):kJ b l=0:=by unfold kJ;rw[af h]
theorem Gf (s:ByteArray) (b:Int) (w:World) (h:¬ (2≤b∧b≤36)) :
  Calls Tryz.prog 194 #[.string s,.int .i64 b] w fun e w'=>e=.returned (.tuple #[.int .i64 (kJ b s.data.toList),.bool (pG b s.data.toList)])∧Below w.heap.size w w':=by
 rw[Kh h,Ki h];by_cases h1:b<2
 ·clear h
  go_enter Tryz.func194,Tryz.ntmps194
  go_wp2_with fail
  go_ret2
  exact⟨rfl,Below.refl _ _⟩
 ·have h2:36<b:=by omega
  clear h;go_enter Tryz.func194,Tryz.ntmps194
  go_wp2_with fail
  go_ret2
  exact⟨rfl,Below.refl _ _⟩
theorem Kj (s:ByteArray) (b:Nat) (w:World) (hs:s.size≤9223372036854775807) (h1:2≤b) (h2:b≤36) :
  Calls Tryz.prog 194 #[.string s,.int .i64 b] w fun e w'=>e=.returned (.tuple #[.int .i64 (kJ b s.data.toList),.bool (pG b s.data.toList)])∧Below w.heap.size w w':=by
 have hz:=Kf s;have HT:=aa (show(⟨(D5 s.data.toList).toArray⟩:ByteArray).data.toList=D5 s.data.toList from rfl)
 have HC:=aa (Ke s · hs)
 generalize (⟨(D5 s.data.toList).toArray⟩:ByteArray)=t at hz HT HC;have hm:=Kg t [45];have ho:pG b s.data.toList=sy b (Lib.trimPrefix t.data.toList [45]):=by unfold pG;rw[←HT.out,al (by omega)];rfl
 have HO:=aa ho;clear ho;cases h:xA t.data.toList
 ·have HH:=aa h
  clear h;have hn:kJ b s.data.toList=yL (Ce b (Lib.trimPrefix t.data.toList [45]):Int):=by unfold kJ;rw[←HT.out,al (by omega),af (by rw[HH.out];exact fV)];rfl
  have HN:=aa hn;clear hn;go_enter Tryz.func194,Tryz.ntmps194
  go_wp2_with fail
  refine(HC.out _).mono ?_;rintro e w1 ⟨rfl,b1⟩;go_wp2_with fail
  refine(Zv _ _ _ HH.out).mono ?_;rintro e w2 ⟨rfl,rfl⟩;go_wp2_with fail
  refine(kL _ b _ (by omega)).mono ?_;rintro e w2 ⟨rfl,rfl⟩
  go_wp2_with fail
  go_ret2
  exact⟨Cl (by rw[HN.out];exact xF _) HO.out.symm,b1⟩
 ·have HH:=aa h
  clear h;have hn:kJ b s.data.toList=yL (-(Ce b (Lib.trimPrefix t.data.toList [45]):Int)):=by unfold kJ;rw[←HT.out,al (by omega),al HH.out];rfl
  have HN:=aa hn;clear hn;go_enter Tryz.func194,Tryz.ntmps194
  go_wp2_with fail
  refine(HC.out _).mono ?_;rintro e w1 ⟨rfl,b1⟩;go_wp2_with fail
  refine(Zv _ _ _ HH.out).mono ?_;rintro e w2 ⟨rfl,rfl⟩;go_wp2_with fail
  refine(kL _ b _ (by omega)).mono ?_;rintro e w2 ⟨rfl,rfl⟩
  go_wp2_with fail
  go_ret2
  refine⟨Cl ?_ HO.out.symm,b1⟩;rw[HN.out];exact(xF _).trans (Qf _)
theorem TZ (s:ByteArray) (b:Int) (w:World) (hs:s.size≤9223372036854775807) :
  Calls Tryz.prog 194 #[.string s,.int .i64 b] w fun e w'=>e=.returned (.tuple #[.int .i64 (kJ b s.data.toList),.bool (pG b s.data.toList)])∧Below w.heap.size w w':=by
 by_cases h:2≤b∧b≤36
 ·obtain⟨k,rfl⟩ :∃k:Nat,b=k:=⟨b.toNat,by omega⟩
  exact Kj s k w hs (by omega) (by omega)
 ·exact Gf s b w h
def Mx (w:World):Prop:=∃m:Int,w.cell? ⟨1,0,none⟩=some (.int .i64 m)
theorem Kk (s:ByteArray) (w:World):Calls Tryz.prog 131 #[.string s,.string ⟨#[10]⟩] w fun e w'=>e=.returned (.int .i64 (nl s.data.toList:Int))∧w=w' :=
 (Tryz.strings_Count_one s 10 w).mono fun _ _ ⟨a,b⟩=>⟨a,b.symm⟩
theorem zE (f p:ByteArray) (w:World) (hs:f.size≤1000000) (h:Mx w):Calls Tryz.prog 133 #[.string f,.string p] w fun e w' =>
  e=.returned (.tuple #[.string ⟨(Lib.cut f.data.toList p.data.toList).1.toArray⟩,.string ⟨(Lib.cut f.data.toList p.data.toList).2.1.toArray⟩,.bool (Lib.cut f.data.toList p.data.toList).2.2])∧∃n,w'=w.drewN n:=by
 obtain⟨m,hm⟩:=h;exact Tryz.strings_Cut f p m w (by omega) hm
theorem qH (t p:ByteArray) (w:World):Calls Tryz.prog 174 #[.string t,.string p] w fun e w'=>e=.returned (.tuple #[.string ⟨(Lib.trimPrefix t.data.toList p.data.toList).toArray⟩,.bool (Lib.hasPrefix t.data.toList p.data.toList)])∧w=w' :=
 (Tryz.strings_CutPrefix t p w).mono fun _ _ ⟨a,b⟩=>⟨a,b.symm⟩
theorem Kl (s:ByteArray) (w:World):Calls Tryz.prog 175 #[.string s,.string ⟨#[61]⟩] w fun e w'=>e=.returned (.string ⟨(Lib.trimLeftB s.data.toList 61).toArray⟩)∧w=w' :=
 (Tryz.strings_TrimLeft_one s 61 (by decide) w).mono fun _ _ ⟨a,b⟩=>⟨a,b.symm⟩
theorem Gg (s:ByteArray) (w:World) (hs:s.size≤1000000) (h:Mx w):Calls Tryz.prog 139 #[.string s,.string ⟨#[91]⟩,.string ⟨#[93]⟩] w fun e w'=>e=.returned (.string ⟨(Zs s.data.toList).toArray⟩)∧Below w.heap.size w w':=by
 obtain⟨m,hm⟩:=h;have h1:=Lib.countB_le (⟨#[91]⟩:ByteArray) (by decide) s.size s (ah _)
 have h2:(⟨#[93]⟩:ByteArray).size=1:=rfl;exact Tryz.strings_ReplaceAll s ⟨#[91]⟩ ⟨#[93]⟩ m w (by omega) hm (by decide) (by rw[h2];omega)
theorem Km (t:ByteArray) (w:World):Calls Tryz.prog 140 #[.string t,.string ⟨#[10]⟩] w fun e w'=>e=.returned (.string ⟨(Lib.trimPrefix t.data.toList [10]).toArray⟩)∧w=w' :=
 (Tryz.strings_TrimPrefix t ⟨#[10]⟩ w).mono fun _ _ ⟨a,b⟩=>⟨a,b.symm⟩
theorem eO (s:ByteArray) (c:UInt8) (w:World):Calls Tryz.prog 171 #[.string s,.int .u8 (c.toNat:Int)] w fun e w'=>e=.returned (.int .i64 (Lib.indexByte s.data.toList c))∧w=w' :=
 (Tryz.strings_IndexByte s (c.toNat:Int) w).mono fun _ _ ⟨a,b⟩=>⟨by rw[a];congr 3;simp,b.symm⟩
def Kp (b:Nat) (w w':World):Prop:=w.grownBy w' (some b)
theorem Kp.refl (b:Nat) (w:World):Kp b w w:=World.grownBy.refl _ _
theorem Kp.trans {b:Nat} {u v w:World} (h:Kp b u v) (k:Kp b v w):Kp b u w:=World.grownBy.trans h k
theorem Kp.draws {b:Nat} {w w':World} (h:Kp b w w') (n:Nat):Kp b w (w'.drewN n):=⟨h.os,h.tape,h.output,h.size,h.block⟩
theorem Kp.ae {b:Nat} {w w':World} (h:Below w.heap.size w w'):Kp b w w':=⟨h.os,h.tape,h.output,h.size,fun k hk _=>h.block k hk⟩
theorem Kp.set {b:Nat} {w w':World} (h:Kp b w w') (o:Nat) (v:Value):Kp b w (w'.setCell ⟨b,o,none⟩ v) :=
 h.trans ⟨rfl,rfl,rfl,by simp[World.setCell],fun k _ hk=>Below.heap_setCell _ _ _ k (fun e=>hk (by rw[e]))⟩
theorem Kp.alloc {b:Nat} {w w':World} (h:Kp b w w') (o:Obj):Kp b w (w'.alloc o):=h.trans (World.grownBy_alloc _ _ _)
structure Rd (W:World) (b:Nat) (s:ByteArray) (k:Nat):Prop where
 blk:W.heap[b]? = some (.cells #[.string s,.int .i64 (k:Int),.int .i64 ((1+nl (s.data.toList.take k):Nat):Int)] 110 (0,0))
 le:k≤s.size
 top:s.size≤100000
 far:4≤b
 mx:Mx W
theorem Rd.lt {W:World} {b:Nat} {s:ByteArray} {k:Nat} (h:Rd W b s k):b<W.heap.size:=(aJ.1 h.blk).1
theorem Rd.c0 {W:World} {b:Nat} {s:ByteArray} {k:Nat} (h:Rd W b s k):W.cell? ⟨b,0,none⟩=some (.string s):=by simp[World.cell?,h.blk]
theorem Rd.c1 {W:World} {b:Nat} {s:ByteArray} {k:Nat} (h:Rd W b s k):W.cell? ⟨b,1,none⟩=some (.int .i64 (k:Int)):=by simp[World.cell?,h.blk]
theorem Rd.c2 {W:World} {b:Nat} {s:ByteArray} {k:Nat} (h:Rd W b s k):W.cell? ⟨b,2,none⟩=some (.int .i64 ((1+nl (s.data.toList.take k):Nat):Int)):=by simp[World.cell?,h.blk]
theorem Rd.f1 {W:World} {b:Nat} {s:ByteArray} {k:Nat} (h:Rd W b s k):W.frozen? ⟨b,1,none⟩=false:=by simp[World.frozen?,h.blk]
theorem Rd.f2 {W:World} {b:Nat} {s:ByteArray} {k:Nat} (h:Rd W b s k):W.frozen? ⟨b,2,none⟩=false:=by simp[World.frozen?,h.blk]
theorem Mx.kp {b:Nat} {w w':World} (h:Mx w) (hb:4≤b) (hk:Kp b w w'):Mx w':=by
 obtain⟨m,hm⟩:=h;exact⟨m,World.grownBy.cell hk hm (by simp;omega)⟩
theorem Mx.below {w w':World} (h:Mx w) (hb:Below w.heap.size w w'):Mx w':=by
 obtain⟨m,hm⟩:=h;exact⟨m,(hb.cell (p:=⟨1,0,none⟩) (World.block_lt_of_cell? w _ hm)).trans hm⟩
theorem Rd.below {W W':World} {b:Nat} {s:ByteArray} {k:Nat} (h:Rd W b s k) (hb:Below W.heap.size W W'):Rd W' b s k :=
 ⟨(hb.block b h.lt).trans h.blk,h.le,h.top,h.far,h.mx.below hb⟩
theorem Rd.draws {W:World} {b:Nat} {s:ByteArray} {k:Nat} (h:Rd W b s k) (n:Nat):Rd (W.drewN n) b s k:=⟨h.blk,h.le,h.top,h.far,h.mx⟩
theorem Rd.alloc {W:World} {b:Nat} {s:ByteArray} {k:Nat} (h:Rd W b s k) (o:Obj):Rd (W.alloc o) b s k:=h.below ((Below.refl _ _).alloc (ah _) _)
theorem aA (b:Nat) (s:ByteArray) (k:Nat) (w:World) (h:Rd w b s k) :
  Calls Tryz.prog 69 #[.pointer (some ⟨b,0,none⟩)] w fun e w'=>e=.returned (.string (s.extract k s.size))∧Rd w' b s k∧Kp b w w':=by
 have HR:=aa h;have c0:=h.c0;have c1:=h.c1;have hle:=h.le;have bD:=h.top;clear h;go_enter Tryz.func69,Tryz.ntmps69
 go_wp2
 go_quiet (fail)
 go_wp2
 go_ret
 exact⟨rfl,HR.out.draws _,(Kp.refl _ _).draws _⟩
theorem xG (s:ByteArray) (k:Nat):(s.extract k s.size).data.toList=s.data.toList.drop k:=by
 rw[JI];simp only[Array.toList_extract,List.extract_eq_take_drop];exact tb (by rw[kE];exact ah _)
theorem lF (s:ByteArray) (k c:Nat):(s.extract k (k+c)).data.toList=(s.data.toList.drop k).take c:=by
 rw[JI];simp
theorem Kn (s:ByteArray) (k c:Nat):1+nl (s.data.toList.take k)+nl (s.extract k (k+c)).data.toList=1+nl (s.data.toList.take (k+c)):=by
 rw[lF,List.take_add,tw];omega
theorem xH {W:World} {b:Nat} {a0 a1 a2:Value} {t:TypeId} (h:W.heap[b]? = some (.cells #[a0,a1,a2] t (0,0))) (v:Value) :
  (W.setCell ⟨b,1,none⟩ v).heap[b]? = some (.cells #[a0,v,a2] t (0,0))∧(W.setCell ⟨b,2,none⟩ v).heap[b]? = some (.cells #[a0,a1,v] t (0,0)):=by
 obtain⟨hlt,hk⟩:=aJ.1 h;constructor
 ·show(W.heap.modify b _)[b]? = _
  rw[vC (by rw[zb];exact hlt),yY,hk]
  rfl
 ·show(W.heap.modify b _)[b]? = _
  rw[vC (by rw[zb];exact hlt),yY,hk]
  rfl
theorem Kp.drew {b:Nat} {w w':World} (h:Kp b w w'):Kp b w w'.drew:=⟨h.os,h.tape,h.output,h.size,h.block⟩
theorem Rd.moved {w:World} {b:Nat} {s:ByteArray} {k:Nat} (h:Rd w b s k) (c:Nat) (hc:k+c≤s.size) (nq:Nat) (x y:Int) (hx:x=((k+c:Nat):Int)) (hy:y=((1+nl (s.data.toList.take (k+c)):Nat):Int)) :
  Rd (((w.drewN nq).setCell ⟨b,1,none⟩ (.int .i64 x)).setCell ⟨b,2,none⟩ (.int .i64 y)).drew b s (k+c):=by
 have h0:(w.drewN nq).heap[b]? = some (.cells #[.string s,.int .i64 (k:Int),.int .i64 ((1+nl (s.data.toList.take k):Nat):Int)] 110 (0,0)):=h.blk;have h2:=(xH (xH h0 (.int .i64 x)).1 (.int .i64 y)).2;refine⟨?_,hc,h.top,h.far,?_⟩
 ·rw[hx,hy] at h2 ⊢
  exact h2
 ·exact h.mx.kp h.far ((((Kp.refl b w).draws nq).set 1 _).set 2 _).drew
theorem Ko (w:World) (b nq:Nat) (x y:Value):Kp b w (((w.drewN nq).setCell ⟨b,1,none⟩ x).setCell ⟨b,2,none⟩ y).drew:=((((Kp.refl b w).draws nq).set 1 _).set 2 _).drew
theorem bu (b:Nat) (s:ByteArray) (k c:Nat) (w:World) (h:Rd w b s k) (hc:k+c≤s.size) :
  Calls Tryz.prog 67 #[.pointer (some ⟨b,0,none⟩),.int .i64 (c:Int)] w fun e w'=>e=.returned (.string (s.extract k (k+c)))∧Rd w' b s (k+c)∧Kp b w w':=by
 have HR:=aa h;have c0:=h.c0;have c1:=h.c1;have hle:=h.le;have bD:=h.top;clear h;go_enter Tryz.func67,Tryz.ntmps67
 go_wp2
 have w1:IntKind.i64.wrap ((k:Int)+(c:Int))=(k:Int)+(c:Int):=IntWalk.i64_in _ (by omega)
 go_quiet (fail)
 clear w1;have f1:=HR.out.f1;go_wp2_with fail
 have c2:=HR.out.c2;have f2:=HR.out.f2;obtain⟨n,hn⟩ :∃n:Nat,n=nl (s.data.toList.take k):=⟨_,rfl⟩;obtain⟨m,hm⟩ :∃m:Nat,m=nl (s.extract k (k+c)).data.toList:=⟨_,rfl⟩;rw[←hn] at c2;have HC:=aa (fun W=>hm▸Kk (s.extract k (k+c)) W)
 have zF:n≤100000:=by
  have:=TY (s.data.toList.take k);rw[og] at this;omega
 have hm1:m≤100000:=by
  have:=TY (s.extract k (k+c)).data.toList;rw[lF,og] at this;rw[lF] at hm;omega
 have HN:=aa hn;have HM:=aa hm;clear hn hm;have w2:IntKind.i64.wrap (((1+n:Nat):Int)+(m:Int))=((1+n+m:Nat):Int):=by rw[IntWalk.i64_in _ (by omega)];omega
 go_region_with ((go_at_call 131;refine(HC.out _).mono ?_;rintro e w' ⟨rfl,rfl⟩))
 all_goals go_wp2
 all_goals go_ret
 all_goals exact⟨rfl,HR.out.moved c hc _ _ _ (by omega) (by rw[IntWalk.i64_in _ (by omega),←Kn,←HN.out,←HM.out];omega),Ko _ _ _ _ _⟩
theorem iE {a b:Bool} (h:a=b):Ending.returned (.bool a)=.returned (.bool b):=by rw[h]
theorem zG (c:UInt8) (r:Bool) (w:World) (h:pH c=r):Calls Tryz.prog 70 #[.int .u8 (c.toNat:Int)] w fun e w'=>e=.returned (.bool r)∧w=w':=by
 subst h;unfold pH;have hc:=c.toNat_lt;generalize c.toNat=n at *;go_enter Tryz.func70,Tryz.ntmps70
 go_wp2
 all_goals go_ret
 all_goals exact⟨iE (by unfold xy;rw[my];simp;omega),rfl⟩
theorem gT (c:UInt8) (r:Bool) (w:World) (h:vm c=r):Calls Tryz.prog 73 #[.int .u8 (c.toNat:Int)] w fun e w'=>e=.returned (.bool r)∧w=w':=by
 subst h;unfold vm;have hc:=c.toNat_lt;generalize c.toNat=n at *;go_enter Tryz.func73,Tryz.ntmps73
 go_wp2
 all_goals go_ret
 all_goals exact⟨iE (by rw[my];simp;omega),rfl⟩
theorem fF (c:UInt8) (r:Bool) (w:World) (h:gj c=r):Calls Tryz.prog 75 #[.int .u8 (c.toNat:Int)] w fun e w'=>e=.returned (.bool r)∧w=w':=by
 subst h;unfold gj;have hc:=c.toNat_lt;generalize c.toNat=n at *;go_enter Tryz.func75,Tryz.ntmps75
 go_wp2
 all_goals go_ret
 all_goals exact⟨iE (by rw[my];simp;omega),rfl⟩
theorem tB (c:UInt8) (r:Bool) (w:World) (h:D7 c=r):Calls Tryz.prog 78 #[.int .u8 (c.toNat:Int)] w fun e w'=>e=.returned (.bool r)∧w=w':=by
 subst h;unfold D7;have hc:=c.toNat_lt;generalize c.toNat=n at *;go_enter Tryz.func78,Tryz.ntmps78
 go_wp2
 all_goals go_ret
 all_goals exact⟨iE (by rw[my];simp;omega),rfl⟩
theorem sQ (c:UInt8) (r:Bool) (w:World) (h:mB c=r):Calls Tryz.prog 134 #[.int .u8 (c.toNat:Int)] w fun e w'=>e=.returned (.bool r)∧w=w':=by
 unfold mB at h;cases e1:vm c<;>cases e2:gj c<;>rw[e1,e2] at h<;>subst h <;>
  (have L1:=aa (fun W=>gT c _ W e1)
   have L2:=aa (fun W=>fF c _ W e2)
   clear e1 e2;go_enter Tryz.func134,Tryz.ntmps134
   go_wp2_with (first
    | (go_at_call 73;refine(L1.out _).mono ?_;rintro e w' ⟨rfl,rfl⟩)
    | (go_at_call 75;refine(L2.out _).mono ?_;rintro e w' ⟨rfl,rfl⟩))
   go_ret
   exact⟨rfl,rfl⟩)
theorem vS (c:UInt8) (r:Bool) (w:World) (h:oN c=r):Calls Tryz.prog 77 #[.int .u8 (c.toNat:Int)] w fun e w'=>e=.returned (.bool r)∧w=w':=by
 unfold oN at h;cases e1:mB c<;>rw[e1] at h
 ·have L1:=aa (fun W=>sQ c _ W e1)
  clear e1;subst h;go_enter Tryz.func77,Tryz.ntmps77
  go_wp2_with (go_at_call 134;refine(L1.out _).mono ?_;rintro e w' ⟨rfl,rfl⟩)
  go_ret
  exact⟨iE (by rw[my];simp;omega),rfl⟩
 ·have L1:=aa (fun W=>sQ c _ W e1)
  clear e1;subst h;go_enter Tryz.func77,Tryz.ntmps77
  go_wp2_with (go_at_call 134;refine(L1.out _).mono ?_;rintro e w' ⟨rfl,rfl⟩)
  go_ret
  exact⟨rfl,rfl⟩
theorem Kq (c:UInt8) (r:Bool) (w:World) (h:yM c=r):Calls Tryz.prog 173 #[.int .u8 (c.toNat:Int)] w fun e w'=>e=.returned (.bool r)∧w=w':=by
 unfold yM at h;cases e1:gj c<;>rw[e1] at h
 ·have L1:=aa (fun W=>fF c _ W e1)
  clear e1;subst h;have hc:=c.toNat_lt;generalize c.toNat=n at *;go_enter Tryz.func173,Tryz.ntmps173
  go_wp2_with (go_at_call 75;refine(L1.out _).mono ?_;rintro e w' ⟨rfl,rfl⟩)
  all_goals go_ret
  all_goals exact⟨iE (by rw[my];simp;omega),rfl⟩
 ·have L1:=aa (fun W=>fF c _ W e1)
  clear e1;subst h;go_enter Tryz.func173,Tryz.ntmps173
  go_wp2_with (go_at_call 75;refine(L1.out _).mono ?_;rintro e w' ⟨rfl,rfl⟩)
  go_ret
  exact⟨rfl,rfl⟩
end Go.Proofs.YteflkdlaoiijbaaGreatDoor
