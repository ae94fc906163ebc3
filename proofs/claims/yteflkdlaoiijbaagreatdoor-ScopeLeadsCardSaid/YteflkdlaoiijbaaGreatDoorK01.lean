/- Parts of the proof. -/
import Derived.RowKit
import Derived.Lib.SlTrimSet
import Derived.Lib.Strings
import Derived.Lib.ItoaNum
import Derived.Lib.IndexMore
import Derived.Lib.Replace
import Derived.Lib.Bytealg
import Derived.Test.YteflkdlaoiijbaaGreatDoorProg
import Derived.WalkKit
import Derived.WalkSpells
import Derived.WalkLawsBesides
import Derived.Lib.QuietBelow
import Derived.BigQuiet
import Derived.Lib.Hide
import Derived.IntWalk
import Derived.Shelf.Strings.Builder1
import Derived.Shelf.Strings.Builder2
import Derived.Shelf.Strings.Trim
import Derived.Shelf.Small.Utf8
import Derived.Shelf.Small.Strs
import Derived.Shelf.Small.Wraps
import Derived.Shelf.Strings.Search1
import Derived.Shelf.Strings.Search2
import Derived.Shelf.Strings.Search3
import Derived.Shelf.Strings.Cut
import Derived.Shelf.Strings.Count
import Derived.Shelf.LaysM
import Derived.Shelf.Strings.Shaped
import Derived.Shelf.Strings.Prefix
import Derived.Shelf.Strings.Split
import Derived.Shelf.Strings.Replace
import Derived.Shelf.Strings.SplitShaped
import Derived.Shelf.Strings.Runes
import Derived.Shelf.Strings.AsciiSet
import Derived.Shelf.Unicode.DecodeSlow
import Derived.Shelf.Strings.SlTrimAscii
import Derived.Lib.SplitLaws
import Derived.Below
import Derived.Deep.QuietTactic
import Derived.Deep.RegionWith
import Derived.RangeFuncBox
import Derived.Maps.AppendAt
set_option maxHeartbeats 16000000
set_option maxRecDepth 20000
namespace Go.Proofs
theorem aa {p:Prop}(h:p):RowKit.Hid p:=h
abbrev aF:=@Array.getElem?_eq_some_iff
abbrev aJ:=@List.getElem?_eq_some_iff
abbrev ah:=@Nat.le_refl
abbrev aC:=@beq_eq_false_iff_ne
abbrev aL:=@List.mem_of_getElem?
abbrev af:=@if_neg
abbrev bE:=@List.getElem?_eq_getElem
abbrev aM:=@Nat.le_trans
abbrev al:=@if_pos
abbrev cr:=@List.mem_cons_of_mem
abbrev bT:=@List.mem_cons_self
abbrev bZ:=@List.mem_singleton
abbrev aB:=@congrArg
abbrev bc:=@List.mem_cons
abbrev dY:=@List.setIfInBounds_toArray
abbrev cI:=@List.length_append
abbrev cJ:=@Nat.lt_of_lt_of_le
abbrev bU:=@decide_eq_false
abbrev dZ:=@List.getElem?_cons_succ
abbrev bX:=@decide_eq_true
abbrev cy:=@List.length_map
abbrev eh:=@List.getElem?_cons_zero
abbrev ec:=@List.getElem?_set_self
abbrev eN:=@Bool.eq_false_or_eq_true
abbrev bB:=@Nat.zero_le
abbrev ei:=@List.getElem?_toArray
abbrev cU:=@List.mem_append
abbrev dj:=@Bool.and_eq_true
abbrev dQ:=@List.set_cons_zero
abbrev dR:=@List.set_cons_succ
abbrev dC:=@Nat.lt_succ_self
abbrev eO:=@List.mem_append_left
abbrev fJ:=@List.getElem?_set_ne
abbrev jU:=@List.getD_eq_getElem?_getD
abbrev fw:=@List.getElem?_map
abbrev ma:=@List.eq_nil_of_length_eq_zero
abbrev iF:=@List.mem_append_right
abbrev gb:=@Bool.false_ne_true
abbrev fK:=@List.append_assoc
abbrev kK:=@List.getElem?_append_left
abbrev gU:=@of_decide_eq_true
abbrev jV:=@List.mem_iff_getElem?
abbrev gy:=@Nat.le_add_right
abbrev eP:=@List.map_cons
abbrev iG:=@List.flatMap_cons
abbrev iH:=@decide_eq_true_eq
abbrev iI:=@Int.toNat_natCast
abbrev gz:=@Option.some.inj
abbrev eQ:=@List.mem_map
abbrev iJ:=@List.cons_append
abbrev jW:=@List.mem_map_of_mem
abbrev gV:=@Nat.not_lt_zero
abbrev fx:=@Nat.le_of_lt
abbrev mF:=@List.length_singleton
abbrev jt:=@List.nodup_cons
abbrev kL:=@List.length_drop
abbrev jX:=@List.append_nil
abbrev gd:=@Nat.le_succ
abbrev pN:=@List.drop_of_length_le
abbrev mG:=@Nat.eq_zero_or_pos
abbrev oE:=@List.flatMap_append
abbrev kM:=@List.find?_cons
abbrev mc:=@List.length_take
abbrev sg:=@List.take_of_length_le
abbrev me:=@List.map_append
abbrev mg:=@List.length_set
abbrev zx:=@List.findIdx?_eq_some_iff_getElem
abbrev mH:=@List.mem_flatMap
abbrev pO:=@List.map_eq_nil_iff
abbrev si:=@List.getElem?_eq_none
abbrev oF:=@List.nodup_append
abbrev ju:=@Nat.ne_of_lt
abbrev mJ:=@Bool.eq_iff_iff
abbrev kN:=@Bool.true_and
abbrev tN:=@ByteArray.size_extract
abbrev oG:=@List.not_mem_nil
abbrev jY:=@Nat.zero_add
abbrev wm:=@Array.getElem?_eq_getElem
abbrev pP:=@Option.some.injEq
abbrev zy:=@List.getElem?_append_right
abbrev wo:=@List.map_eq_append_iff
abbrev pQ:=@Option.map_some
abbrev zz:=@Array.getElem_modify_self
abbrev zA:=@List.drop_eq_getElem_cons
abbrev zB:=@Option.isSome_iff_exists
abbrev zC:=@decide_eq_false_iff_not
abbrev sj:=@List.nil_append
abbrev sq:=@List.cons.injEq
abbrev wu:=@List.length_pos_iff
abbrev wy:=@List.map_congr_left
abbrev tP:=@List.drop_suffix
abbrev tQ:=@List.suffix_cons
abbrev sr:=@List.mem_range
abbrev zD:=@List.dropWhile_suffix
abbrev su:=@List.all_cons
abbrev sw:=@Nat.add_assoc
abbrev mL:=@bne_iff_ne
abbrev sx:=@Prod.mk.injEq
abbrev D8:=@List.set_eq_of_length_le
abbrev zE:=@List.getElem?_range
abbrev wA:=@List.drop_length
abbrev tR:=@List.drop_zero
abbrev zF:=@List.getElem?_drop
abbrev D9:=@List.dropWhile_sublist
abbrev Ea:=@List.flatMap_singleton
abbrev wB:=@List.mem_filter
abbrev wC:=@Nat.le_add_left
abbrev zG:=@Array.size_modify
abbrev Eb:=@Nat.mul_le_mul_right
abbrev JR:=@List.takeWhile_cons_of_pos
abbrev zH:=@List.take_length
abbrev tU:=@List.map_map
abbrev JS:=@List.getElem?_eq_none_iff
abbrev JT:=@List.mem_of_find?_eq_some
abbrev JU:=@List.Pairwise.imp_of_mem
abbrev JV:=@List.getElem?_take_of_lt
abbrev zI:=@UInt8.toNat_inj
abbrev Ec:=@List.find?_eq_none
abbrev Ed:=@List.reverse_cons
abbrev JW:=@ByteArray.data_extract
abbrev JX:=@List.drop_eq_nil_of_le
abbrev oH:=@or_false
abbrev zJ:=@Bool.false_and
abbrev JY:=@List.append_eq_nil_iff
abbrev Ee:=@List.ext_getElem?
abbrev Ef:=@List.size_toArray
abbrev JZ:=@List.perm_append_comm
abbrev J0:=@List.take_append_drop
abbrev Eg:=@List.isEmpty_iff
abbrev zK:=@List.cons.inj
abbrev Uf:=@List.take_append_of_le_length
abbrev J1:=@Nat.pow_le_pow_right
abbrev J2:=@Array.replicate_succ
abbrev J3:=@Array.replicate_zero
abbrev pR:=@and_true
abbrev Eh:=@Nat.min_eq_left
abbrev J4:=@List.append_toArray
abbrev Ei:=@List.nodup_nil
abbrev J5:=@Bool.false_eq_true
abbrev J6:=@List.contains_cons
abbrev J7:=@List.length_range'
abbrev wD:=@beq_iff_eq
abbrev J8:=@List.length_attach
abbrev J9:=@List.contains_nil
abbrev Ka:=@List.push_toArray
abbrev Ej:=@List.map_drop
abbrev Kb:=@List.getElem_mem
abbrev Kc:=@List.map_toArray
abbrev tV:=@eq_false
abbrev Ek:=@Nat.pow_succ
abbrev El:=@Nat.mul_comm
abbrev sy:=@if_true
abbrev Em:=@Nat.lt_or_ge
abbrev En:=@Nat.le_of_eq
abbrev Eo:=@Nat.zero_mul
abbrev Ep:=@Nat.succ_mul
abbrev Er:=@Nat.add_mul
abbrev Es:=@Nat.one_mul
abbrev sz:=@not_or
end Go.Proofs
namespace Go.Proofs.YteflkdlaoiijbaaGreatDoor
structure Nd where
 kind:Int
 line:Int
 op:Int
 num:Int
 s:ByteArray
 names:List ByteArray
 kids:List Int
def upd (d:Nat→Nat) (i v:Nat):Nat→Nat:=fun j=>if j=i then v else d j
theorem upd_same (d:Nat→Nat) (i v:Nat):upd d i v i=v:=al rfl
theorem gg (d:Nat→Nat) {i j:Nat} (v:Nat) (h:j≠i):upd d i v j=d j:=af h
def dK (N v:Nat):List Int→(Nat→Nat)→List Nat→Option ((Nat→Nat)×List Nat)
 | [],d,m=>some (d,m)
 | k::ks,d,m=>if 0≤k∧k<(N:Int)∧d k.toNat=0 then dK N v ks (upd d k.toNat v) (m++[k.toNat]) else none
def bJ (T:List Nd) (i:Nat):List Int:=match T[i]? with|some x=>x.kids|none=>[]
def xX (T:List Nd):Nat→Nat→(Nat→Nat)→List Nat→Option ((Nat→Nat)×List Nat)
 | 0,_,d,m=>some (d,m)
 | f+1,a,d,m=>match m[a]? with
  | none=>some (d,m)
  | some i=>match dK T.length (d i+1) (bJ T i) d m with
   | none=>none
   | some p=>xX T f (a+1) p.1 p.2
def Et (N:Nat):Option ((Nat→Nat)×List Nat)→Nat
 | none=>0
 | some p=>if p.2.length<N then 0 else p.1 (p.2.getLastD 0)
def eS (T:List Nd) (r:Int):Nat :=
 if T.length≤16384∧0≤r∧r<(T.length:Int) then Et T.length (xX T (T.length+1) 0 (upd (fun _=>0) r.toNat 1) [r.toNat]) else 0
theorem tW :∀(N:Nat) (m:List Nat),m.Nodup→(∀j∈m,j<N)→m.length≤N:=by
 intro N;induction N with
 | zero =>
  intro m _ h;cases m with
  | nil=>exact ah _
  | cons a t=>exact absurd (h a (bT ..)) (gV _)
 | succ N ih =>
  intro m hn h;by_cases hN:N∈m
  ·have h1:=ih (m.erase N) (hn.erase N) (fun j hj=>by
    have hj':=(hn.mem_erase_iff).1 hj;have:=h j hj'.2;have:=hj'.1;omega)
   rw[List.length_erase_of_mem hN] at h1;omega
  ·have h1:=ih m hn (fun j hj=>by
    have:=h j hj;have:j≠N:=fun e=>hN (e▸hj)
    omega)
   omega
theorem qZ {N:Nat} {m:List Nat} (hn:m.Nodup) (h :∀j∈m,j<N) (hl:m.length=N) {j:Nat} (hj:j<N):j∈m:=by
 by_cases hm:j∈m
 ·exact hm
 ·have:=tW N (j::m) (jt.2 ⟨hm,hn⟩) (fun x hx=>by
   rcases bc.1 hx with rfl|hx
   ·exact hj
   ·exact h x hx)
  rw[List.length_cons] at this;omega
structure Inv (N:Nat) (d:Nat→Nat) (m:List Nat):Prop where
 nodup:m.Nodup
 iff :∀j,d j≠0↔j∈m
 lt :∀j∈m,j<N
theorem Inv.len {N:Nat} {d:Nat→Nat} {m:List Nat} (h:Inv N d m):m.length≤N:=tW N m h.nodup h.lt
theorem Inv.add {N:Nat} {d:Nat→Nat} {m:List Nat} (h:Inv N d m) {k v:Nat} (hk:k<N) (h0:d k=0) (hv:v≠0):Inv N (upd d k v) (m++[k]):=by
 have xY:k∉m:=fun hm=>(h.iff k).2 hm h0
 refine⟨?_,fun j=>?_,fun j hj=>?_⟩
 ·rw[oF]
  refine⟨h.nodup,by simp,fun a ha b hb=>?_⟩
  obtain rfl:=bZ.1 hb;exact fun e=>xY (e▸ha)
 ·by_cases hj:j=k
  ·subst hj
   rw[upd_same];exact⟨fun _=>by simp,fun _=>hv⟩
  ·rw[gg _ _ hj,h.iff,cU,bZ]
   exact⟨fun h=>.inl h,fun h=>h.resolve_right hj⟩
 ·rcases cU.1 hj with hj|hj
  ·exact h.lt j hj
  ·obtain rfl:=bZ.1 hj
   exact hk
theorem Inv.start {N r:Nat} (h:r<N):Inv N (upd (fun _=>0) r 1) [r]:=by
 have h0:Inv N (fun _=>0) []:=⟨Ei,fun j=>by simp,fun j hj=>by simp at hj⟩
 exact h0.add h rfl (by decide)
theorem oT {N v:Nat} (hv:v≠0) :∀(ks:List Int) (d:Nat→Nat) (m:List Nat) (d':Nat→Nat) (m':List Nat),Inv N d m→dK N v ks d m=some (d',m') →
  Inv N d' m'∧m'=m++ks.map Int.toNat∧(∀j,d j≠0→d' j=d j)∧(∀k∈ks,0≤k∧k<(N:Int)∧d' k.toNat=v)∧(∀j,d' j=d j∨d' j=v):=by
 intro ks;induction ks with
 | nil =>
  intro d m d' m' h e;obtain⟨rfl,rfl⟩:d=d'∧m=m':=by simpa[dK] using e
  exact⟨h,by simp,fun _ _=>rfl,fun k hk=>by simp at hk,fun _=>.inl rfl⟩
 | cons k ks ih =>
  intro d m d' m' h e;rw[dK] at e;split at e
  ·rename_i hk
   obtain⟨h0,h1,h2⟩:=hk;obtain⟨i1,i2,i3,i4,i5⟩:=ih _ _ _ _ (h.add (by omega) h2 hv) e
   refine⟨i1,by rw[i2];simp,fun j hj=>?_,fun k' Eu=>?_,fun j=>?_⟩
   ·have hjk:j≠k.toNat:=fun e=>hj (e▸h2)
    have:=i3 j (by rw[gg _ _ hjk];exact hj)
    rw[this,gg _ _ hjk]
   ·rcases bc.1 Eu with rfl|Eu
    ·refine⟨h0,h1,?_⟩
     rw[i3 _ (by rw[upd_same];exact hv),upd_same]
    ·exact i4 k' Eu
   ·rcases i5 j with h|h
    ·rw[h]
     by_cases hj:j=k.toNat
     ·subst hj;right;exact upd_same _ _ _
     ·left;exact gg _ _ hj
    ·exact .inr h
  ·cases e
structure Ch (T:List Nd) (r:Nat) (d:Nat→Nat) (m:List Nat):Prop where
 nodup:m.Nodup
 lt :∀j∈m,j<T.length
 full:m.length=T.length
 eq:m=r::m.flatMap fun i=>(bJ T i).map Int.toNat
 kid :∀i∈m,∀k∈bJ T i,0≤k∧k<(T.length:Int)∧d k.toNat=d i+1
 root:d r=1
 bound :∀i,d i≤T.length+1
theorem Ch.mem {T:List Nd} {r:Nat} {d:Nat→Nat} {m:List Nat} (h:Ch T r d m) {i:Nat} (hi:i<T.length):i∈m:=qZ h.nodup h.lt h.full hi
theorem jw {α:Type} (m:List α) (a:Nat) (i:α) (h:m[a]? = some i):m.take (a+1)=m.take a++[i]:=by
 rw[List.take_add_one,h];rfl
structure Half (T:List Nd) (r:Nat) (a:Nat) (d:Nat→Nat) (m:List Nat):Prop where
 inv:Inv T.length d m
 le:a≤m.length
 eq:m=r::(m.take a).flatMap fun i=>(bJ T i).map Int.toNat
 kid :∀i∈m.take a,∀k∈bJ T i,0≤k∧k<(T.length:Int)∧d k.toNat=d i+1
 root:d r=1
 bound :∀i,d i≤a+1
theorem Half.start {T:List Nd} {r:Nat} (h:r<T.length):Half T r 0 (upd (fun _=>0) r 1) [r] :=
 ⟨Inv.start h,bB _,by simp,fun i hi=>by simp at hi,upd_same _ _ _,fun i=>by
  by_cases hi:i=r
  ·subst hi;rw[upd_same];omega
  ·rw[gg _ _ hi];omega⟩
theorem Half.step {T:List Nd} {r a i:Nat} {d d':Nat→Nat} {m m':List Nat} (h:Half T r a d m) (hi:m[a]? = some i) (e:dK T.length (d i+1) (bJ T i) d m=some (d',m')):Half T r (a+1) d' m':=by
 obtain⟨i1,i2,i3,i4,i5⟩:=oT (by omega) _ _ _ _ _ h.inv e
 have hlt:a<m.length:=(aJ.1 hi).1;have aU :∀j∈m,d' j=d j:=fun j hj=>i3 j ((h.inv.iff j).2 hj)
 have ZN:i∈m:=aL hi;have VE:m'.take (a+1)=m.take a++[i]:=by
  rw[i2,Uf (by omega),jw m a i hi]
 refine⟨i1,by rw[i2,cI];omega,?_,fun j hj k hk=>?_,?_,fun j=>?_⟩
 ·rw[VE,oE]
  conv=>lhs;rw[i2,h.eq]
  simp
 ·rw[VE] at hj
  rcases cU.1 hj with hj|hj
  ·obtain⟨k0,k1,k2⟩:=h.kid j hj k hk
   have xY:d k.toNat≠0:=by omega
   rw[i3 _ xY,aU j (List.mem_of_mem_take hj)];exact⟨k0,k1,k2⟩
  ·obtain rfl:=bZ.1 hj
   obtain⟨k0,k1,k2⟩:=i4 k hk;rw[k2,aU _ ZN];exact⟨k0,k1,rfl⟩
 ·rw[i3 r (by rw[h.root];decide),h.root]
 ·have:=h.bound j
  have:=h.bound i;rcases i5 j with e|e<;>omega
theorem Kd {T:List Nd} {r:Nat} :∀(f a:Nat) (d:Nat→Nat) (m:List Nat) (d':Nat→Nat) (m':List Nat),Half T r a d m→T.length+1≤f+a→xX T f a d m=some (d',m')→Half T r m'.length d' m':=by
 intro f;induction f with
 | zero =>
  intro a d m d' m' h hf e;have:=h.inv.len;have:=h.le;omega
 | succ f ih =>
  intro a d m d' m' h hf e;rw[xX] at e;cases hi:m[a]? with
  | none =>
   rw[hi] at e;obtain⟨rfl,rfl⟩:d=d'∧m=m':=by simpa using e
   have h1:m.length≤a:=JS.1 hi;have h2:=h.le;obtain rfl:a=m.length:=by omega
   exact h
  | some i =>
   rw[hi] at e;have e':(match dK T.length (d i+1) (bJ T i) d m with
    | none=>none
    | some p=>xX T f (a+1) p.1 p.2)=some (d',m'):=e
   cases hk:dK T.length (d i+1) (bJ T i) d m with
   | none=>rw[hk] at e';cases e'
   | some p =>
    rw[hk] at e';exact ih _ _ _ _ _ (h.step hi hk) (by omega) e'
theorem tX {T:List Nd} {r:Int} (h:eS T r≠0):T.length≤16384∧0≤r∧r<(T.length:Int)∧∃d m,Ch T r.toNat d m:=by
 unfold eS at h;split at h
 ·rename_i hh
  obtain⟨h0,h1,h2⟩:=hh;refine⟨h0,h1,h2,?_⟩;cases e:xX T (T.length+1) 0 (upd (fun _=>0) r.toNat 1) [r.toNat] with
  | none=>rw[e] at h;exact absurd rfl h
  | some p =>
   obtain⟨d,m⟩:=p;rw[e] at h;have hf:=Kd _ _ _ _ _ _ (Half.start (T:=T) (r:=r.toNat) (by omega)) (by omega) e
   have hlen:¬ m.length<T.length:=fun hl=>h (al hl)
   have:=hf.inv.len;have hm:m.length=T.length:=by omega
   have ht:m.take m.length=m:=zH;refine⟨d,m,hf.inv.nodup,hf.inv.lt,hm,?_,fun i hi=>hf.kid i (by rw[ht];exact hi),hf.root,fun i=>by have:=hf.bound i;omega⟩
   have he:=hf.eq;rw[ht] at he;exact he
 ·exact absurd rfl h
theorem Ch.VF {T:List Nd} {r:Nat} {d:Nat→Nat} {m:List Nat} (h:Ch T r d m) {i:Nat} (hi:i<T.length):(r:Int)∉bJ T i:=by
 intro hk;have h1:=h.nodup;rw[h.eq,jt] at h1;exact h1.1 (mH.2 ⟨i,h.mem hi,eQ.2 ⟨_,hk,by simp⟩⟩)
theorem Ch.parent {T:List Nd} {r:Nat} {d:Nat→Nat} {m:List Nat} (h:Ch T r d m) {k:Nat} (hk:k<T.length) (hr:k≠r) :∃i,i<T.length∧(k:Int)∈bJ T i:=by
 have h1:=h.mem hk;rw[h.eq] at h1;rcases bc.1 h1 with h2|h2
 ·exact absurd h2 hr
 ·obtain⟨i,hi,hx⟩:=mH.1 h2
  obtain⟨z,hz,e⟩:=eQ.1 hx;obtain⟨z0,_,_⟩:=h.kid i hi z hz;refine⟨i,h.lt i hi,?_⟩;rw[show(k:Int)=z by omega]
  exact hz
theorem tY {α β:Type} {f:α→List β} :∀{l:List α},(l.flatMap f).Nodup→∀{a b:α} {x:β},a∈l→b∈l→x∈f a→x∈f b→l.Nodup→a=b:=by
 intro l;induction l with
 | nil=>intro _ a b x ha;simp at ha
 | cons c t ih =>
  intro hn a b x ha hb xa xb hl;rw[iG,oF] at hn;have hl':=(jt.1 hl);rcases bc.1 ha with ea|ha'<;>rcases bc.1 hb with eb|hb'
  ·rw[ea,eb]
  ·subst ea
   exact absurd rfl (hn.2.2 x xa x (mH.2 ⟨b,hb',xb⟩))
  ·subst eb
   exact absurd rfl (hn.2.2 x xb x (mH.2 ⟨a,ha',xa⟩))
  ·exact ih hn.2.1 ha' hb' xa xb hl'.2
theorem Ch.once {T:List Nd} {r:Nat} {d:Nat→Nat} {m:List Nat} (h:Ch T r d m) {i j:Nat} {k:Int} (hi:i<T.length) (hj:j<T.length) (ki:k∈bJ T i) (kj:k∈bJ T j):i=j:=by
 have h1:=h.nodup;rw[h.eq,jt] at h1;exact tY h1.2 (h.mem hi) (h.mem hj) (eQ.2 ⟨k,ki,rfl⟩) (eQ.2 ⟨k,kj,rfl⟩) h.nodup
theorem oU {α β:Type} {f:α→List β} :∀{l:List α},(l.flatMap f).Nodup→∀{a:α},a∈l→(f a).Nodup:=by
 intro l;induction l with
 | nil=>intro _ a ha;simp at ha
 | cons c t ih =>
  intro hn a ha;rw[iG,oF] at hn;rcases bc.1 ha with rfl|ha
  ·exact hn.1
  ·exact ih hn.2.1 ha
theorem Ch.Gb {T:List Nd} {r:Nat} {d:Nat→Nat} {m:List Nat} (h:Ch T r d m) {i:Nat} (hi:i<T.length):(bJ T i).Nodup:=by
 have h1:=h.nodup;rw[h.eq,jt] at h1;have:=oU h1.2 (h.mem hi);rw[List.Nodup,List.pairwise_map] at this;exact List.Pairwise.imp (fun h e=>h (by rw[e])) this
theorem xZ {α:Type} (l:List α) (x:α) (h:l≠[]):l.getLastD x∈l:=by
 induction l with
 | nil=>exact absurd rfl h
 | cons a t ih =>
  cases t with
  | nil=>exact bZ.2 rfl
  | cons b t=>exact cr _ (ih (by simp))
end Go.Proofs.YteflkdlaoiijbaaGreatDoor
namespace Go.Proofs.YteflkdlaoiijbaaGreatDoor
def dD (T:List Nd) (i:Nat):Int:=match T[i]? with|some x=>x.kind|none=>0
section
variable (fo:Nd→Bool) (ko:Int→Int→List Int→Bool) (so:Int→Int) (hd:Nd→List UInt8)
def ku (T:List Nd) (x:Nd):Bool:=decide (1≤x.line) && fo x && ko x.kind x.num (x.kids.map fun k=>so (dD T k.toNat))
def oV (T:List Nd) (r:Int):Bool:=decide (eS T r≠0) && decide (eS T r≤100) && decide (dD T r.toNat=18) && T.all (ku fo ko so T)
theorem eT {T:List Nd} {r:Int}:oV fo ko so T r=true↔eS T r≠0∧eS T r≤100∧dD T r.toNat=18∧∀(i:Nat) (x:Nd),T[i]? = some x→ku fo ko so T x=true:=by
 unfold oV;simp only[dj,iH,List.all_eq_true,and_assoc];constructor
 ·rintro⟨h1,h2,h3,h4⟩
  exact⟨h1,h2,h3,fun i x hx=>h4 x (aL hx)⟩
 ·rintro⟨h1,h2,h3,h4⟩
  refine⟨h1,h2,h3,fun x hx=>?_⟩
  obtain⟨i,hi⟩:=jV.1 hx;exact h4 i x hi
theorem oW {T:List Nd} {x:Nd}:ku fo ko so T x=true↔1≤x.line∧fo x=true∧ko x.kind x.num (x.kids.map fun k=>so (dD T k.toNat))=true:=by
 unfold ku;simp only[dj,iH,and_assoc]
theorem fQ {T:List Nd} {i:Nat} {x:Nd} (h:T[i]? = some x):bJ T i=x.kids:=by unfold bJ;rw[h]
theorem lA {T:List Nd} {i:Nat} {x:Nd} (h:T[i]? = some x):dD T i=x.kind:=by unfold dD;rw[h]
theorem Gc {T:List Nd} {r:Int} (h:oV fo ko so T r=true) :∃d m,Ch T r.toNat d m∧0≤r∧r<(T.length:Int):=by
 obtain⟨h0,_⟩:=(eT fo ko so).1 h;obtain⟨_,Ug,hr1,d,m,hs⟩:=tX h0;exact⟨d,m,hs,Ug,hr1⟩
end
end Go.Proofs.YteflkdlaoiijbaaGreatDoor
namespace Go.Proofs.YteflkdlaoiijbaaGreatDoor
inductive Ast where
 | mk (h:Nd) (kids:List Ast)
def Ast.hd:Ast→Nd
 | .mk h _=>h
mutual
def Ast.depth:Ast→Nat
 | .mk _ ks=>Ast.mM ks+1
def Ast.mM:List Ast→Nat
 | []=>0
 | a::xz=>max (Ast.depth a) (Ast.mM xz)
end
mutual
def Ast.size:Ast→Nat
 | .mk _ ks=>Ast.ak ks+1
def Ast.ak:List Ast→Nat
 | []=>0
 | a::xz=>Ast.size a+Ast.ak xz
end
mutual
def gQ (T:List Nd):Ast→Nat→List Nat→Prop
 | .mk h xz,i,js=>∃x sA,T[i]? = some x∧x={ h with kids:=x.kids}∧bu T xz x.kids sA∧js=i::sA
def bu (T:List Nd):List Ast→List Int→List Nat→Prop
 | [],ks,js=>ks=[]∧js=[]
 | a::xz,ks,js=>∃(k:Nat) (iu:List Int) (j1 j2:List Nat),ks=(k:Int)::iu∧gQ T a k j1∧bu T xz iu j2∧js=j1++j2
end
def gA (T:List Nd) (i:Nat):List Nat:=(bJ T i).map Int.toNat
theorem gQ.root {T:List Nd} {a:Ast} {i:Nat} {js:List Nat} (h:gQ T a i js):i∈js∧dD T i=a.hd.kind∧i<T.length:=by
 cases a with
 | mk hd xz =>
  unfold gQ at h;obtain⟨x,sA,hx,he,_,rfl⟩:=h;refine⟨bT ..,?_,(aJ.1 hx).1⟩;rw[lA hx,he];rfl
mutual
theorem gQ.lt {T:List Nd} :∀(a:Ast) (i:Nat) (js:List Nat),gQ T a i js→∀j∈js,j<T.length
 | .mk h xz,i,js,hr=>by
  unfold gQ at hr;obtain⟨x,sA,hx,_,hs,rfl⟩:=hr;intro j hj;rcases bc.1 hj with rfl|hj
  ·exact(aJ.1 hx).1
  ·exact bu.lt xz x.kids sA hs j hj
theorem bu.lt {T:List Nd} :∀(xz:List Ast) (ks:List Int) (js:List Nat),bu T xz ks js→∀j∈js,j<T.length
 | [],ks,js,hr=>by
  unfold bu at hr;obtain⟨_,rfl⟩:=hr;intro j hj;simp at hj
 | a::xz,ks,js,hr=>by
  unfold bu at hr;obtain⟨k,iu,j1,j2,_,h1,h2,rfl⟩:=hr;intro j hj;rcases cU.1 hj with hj|hj
  ·exact gQ.lt a k j1 h1 j hj
  ·exact bu.lt xz iu j2 h2 j hj
end
mutual
/-- A tree lies in a longer list xz it did. -/
theorem gQ.more {T T':List Nd} (hT :∀(i:Nat) x,T[i]? = some x→T'[i]? = some x) :∀(a:Ast) (i:Nat) (js:List Nat),gQ T a i js→gQ T' a i js
 | .mk h xz,i,js,hr=>by
  unfold gQ at hr ⊢;obtain⟨x,sA,hx,he,hs,rfl⟩:=hr;exact⟨x,sA,hT i x hx,he,bu.more hT xz x.kids sA hs,rfl⟩
theorem bu.more {T T':List Nd} (hT :∀(i:Nat) x,T[i]? = some x→T'[i]? = some x) :∀(xz:List Ast) (ks:List Int) (js:List Nat),bu T xz ks js→bu T' xz ks js
 | [],ks,js,hr=>by
  unfold bu at hr ⊢;exact hr
 | a::xz,ks,js,hr=>by
  unfold bu at hr ⊢;obtain⟨k,iu,j1,j2,hk,h1,h2,rfl⟩:=hr;exact⟨k,iu,j1,j2,hk,gQ.more hT a k j1 h1,bu.more hT xz iu j2 h2,rfl⟩
end
mutual
theorem gQ.len {T:List Nd} :∀(a:Ast) (i:Nat) (js:List Nat),gQ T a i js→js.length=a.size
 | .mk h xz,i,js,hr=>by
  unfold gQ at hr;obtain⟨x,sA,_,_,hs,rfl⟩:=hr;rw[List.length_cons,bu.len xz x.kids sA hs,Ast.size]
theorem bu.len {T:List Nd} :∀(xz:List Ast) (ks:List Int) (js:List Nat),bu T xz ks js→js.length=Ast.ak xz
 | [],ks,js,hr=>by
  unfold bu at hr;obtain⟨_,rfl⟩:=hr;rfl
 | a::xz,ks,js,hr=>by
  unfold bu at hr;obtain⟨k,iu,j1,j2,_,h1,h2,rfl⟩:=hr;rw[cI,gQ.len a k j1 h1,bu.len xz iu j2 h2,Ast.ak]
end
mutual
/-- The root, and what is named: all of them. -/
theorem gQ.perm {T:List Nd} :∀(a:Ast) (i:Nat) (js:List Nat),gQ T a i js→js.Perm (i::js.flatMap (gA T))
 | .mk h xz,i,js,hr=>by
  unfold gQ at hr;obtain⟨x,sA,hx,_,hs,rfl⟩:=hr;refine List.Perm.cons i ?_;have h1:gA T i=x.kids.map Int.toNat:=by unfold gA;rw[fQ hx]
  rw[iG,h1];exact bu.perm xz x.kids sA hs
theorem bu.perm {T:List Nd} :∀(xz:List Ast) (ks:List Int) (js:List Nat),bu T xz ks js→js.Perm (ks.map Int.toNat++js.flatMap (gA T))
 | [],ks,js,hr=>by
  unfold bu at hr;obtain⟨rfl,rfl⟩:=hr;exact List.Perm.nil
 | a::xz,ks,js,hr=>by
  unfold bu at hr;obtain⟨k,iu,j1,j2,rfl,h1,h2,rfl⟩:=hr;have p1:=gQ.perm a k j1 h1;have p2:=bu.perm xz iu j2 h2;rw[oE,eP,iI,iJ];refine(p1.append p2).trans ?_;rw[iJ];refine List.Perm.cons k ?_;rw[←fK,←fK];exact List.Perm.append_right _ JZ
end
mutual
/-- ZO holds the root and what its members name holds all. -/
theorem gQ.closed {T:List Nd} {m:List Nat} (hm :∀i∈m,∀k∈bJ T i,k.toNat∈m) :∀(a:Ast) (i:Nat) (js:List Nat),gQ T a i js→i∈m→∀j∈js,j∈m
 | .mk h xz,i,js,hr,hi=>by
  unfold gQ at hr;obtain⟨x,sA,hx,_,hs,rfl⟩:=hr;intro j hj;rcases bc.1 hj with rfl|hj
  ·exact hi
  ·exact bu.closed hm xz x.kids sA hs (fun k hk=>hm i hi k (by rw[fQ hx];exact hk)) j hj
theorem bu.closed {T:List Nd} {m:List Nat} (hm :∀i∈m,∀k∈bJ T i,k.toNat∈m) :∀(xz:List Ast) (ks:List Int) (js:List Nat),bu T xz ks js→(∀k∈ks,k.toNat∈m)→∀j∈js,j∈m
 | [],ks,js,hr,_=>by
  unfold bu at hr;obtain⟨_,rfl⟩:=hr;intro j hj;simp at hj
 | a::xz,ks,js,hr,hk=>by
  unfold bu at hr;obtain⟨k,iu,j1,j2,rfl,h1,h2,rfl⟩:=hr;intro j hj;rcases cU.1 hj with hj|hj
  ·exact gQ.closed hm a k j1 h1 (by simpa using hk k (bT ..)) j hj
  ·exact bu.closed hm xz iu j2 h2 (fun z hz=>hk z (cr _ hz)) j hj
end
mutual
/-- How deep the nodes are, by whoever counts from parents to kids. -/
theorem gQ.tZ {T:List Nd} {d:Nat→Nat} :∀(a:Ast) (i:Nat) (js:List Nat),gQ T a i js→(∀j∈js,∀k∈bJ T j,d k.toNat=d j+1)→(∀j∈js,d j+1≤d i+a.depth)∧∃j∈js,d j+1=d i+a.depth
 | .mk h xz,i,js,hr,hd=>by
  unfold gQ at hr;obtain⟨x,sA,hx,_,hs,rfl⟩:=hr;have h1:=bu.tZ (v:=d i) xz x.kids sA hs (fun j hj=>hd j (cr _ hj)) (fun k hk=>hd i (bT ..) k (by rw[fQ hx];exact hk))
  rw[Ast.depth];refine⟨fun j hj=>?_,?_⟩
  ·rcases bc.1 hj with rfl|hj
   ·omega
   ·have:=h1.1 j hj
    omega
  ·by_cases h0:xz=[]
   ·subst h0
    exact⟨i,bT ..,by rw[Ast.mM]⟩
   ·obtain⟨j,hj,he⟩:=h1.2 h0
    exact⟨j,cr _ hj,by omega⟩
theorem bu.tZ {T:List Nd} {d:Nat→Nat} {v:Nat} :∀(xz:List Ast) (ks:List Int) (js:List Nat),bu T xz ks js→(∀j∈js,∀k∈bJ T j,d k.toNat=d j+1)→(∀k∈ks,d k.toNat=v+1)→(∀j∈js,d j≤v+Ast.mM xz)∧(xz≠[]→∃j∈js,d j=v+Ast.mM xz)
 | [],ks,js,hr,_,_=>by
  unfold bu at hr;obtain⟨_,rfl⟩:=hr;exact⟨fun j hj=>by simp at hj,fun h=>absurd rfl h⟩
 | a::xz,ks,js,hr,hd,hk=>by
  unfold bu at hr;obtain⟨k,iu,j1,j2,rfl,h1,h2,rfl⟩:=hr;have e1:=gQ.tZ a k j1 h1 (fun j hj=>hd j (eO _ hj))
  have e2:=bu.tZ (v:=v) xz iu j2 h2 (fun j hj=>hd j (iF _ hj)) (fun z hz=>hk z (cr _ hz))
  have hv:d k=v+1:=by simpa using hk k (bT ..)
  rw[Ast.mM];refine⟨fun j hj=>?_,fun _=>?_⟩
  ·rcases cU.1 hj with hj|hj
   ·have:=e1.1 j hj
    omega
   ·have:=e2.1 j hj
    omega
  ·by_cases hle:Ast.mM xz≤a.depth
   ·obtain⟨j,hj,he⟩:=e1.2
    exact⟨j,eO _ hj,by omega⟩
   ·have h0:xz≠[]:=fun h=>by subst h;exact hle (by rw[Ast.mM];omega)
    obtain⟨j,hj,he⟩:=e2.2 h0;exact⟨j,iF _ hj,by omega⟩
end
theorem zL {N v:Nat} :∀(ks:List Int) (d:Nat→Nat) (m:List Nat),(∀k∈ks,0≤k∧k<(N:Int)∧d k.toNat=0)→(ks.map Int.toNat).Nodup→∃p,dK N v ks d m=some p:=by
 intro ks;induction ks with
 | nil=>intro d m _ _;exact⟨_,rfl⟩
 | cons k ks ih =>
  intro d m h hn;obtain⟨h0,h1,h2⟩:=h k (bT ..);rw[eP,jt] at hn;rw[dK,al ⟨h0,h1,h2⟩];refine ih _ _ (fun z hz=>?_) hn.2
  obtain⟨z0,z1,z2⟩:=h z (cr _ hz);refine⟨z0,z1,?_⟩;have hne:z.toNat≠k.toNat:=fun e=>hn.1 (by rw[←e];exact jW hz)
  rw[gg _ _ hne];exact z2
theorem Gd :∀(N:Nat) (m:List Nat),(∀j,j<N→j∈m)→N≤m.length:=by
 intro N;induction N with
 | zero=>intro m _;exact bB _
 | succ N ih =>
  intro m h;have hN:=h N (dC _);have h1:=ih (m.erase N) (fun j hj=>(List.mem_erase_of_ne (by omega)).2 (h j (by omega)))
  rw[List.length_erase_of_mem hN] at h1;have:=List.length_pos_of_mem hN;omega
structure Ge (a:Nat) (d:Nat→Nat) (m:List Nat):Prop where
 le:m.Pairwise fun x y=>d x≤d y
 top :∀i,m[a]? = some i→∀x∈m,d x≤d i+1
theorem Ge.step {T:List Nd} {r a i:Nat} {d d':Nat→Nat} {m m':List Nat} (hh:Half T r a d m) (h:Ge a d m) (hi:m[a]? = some i) (e:dK T.length (d i+1) (bJ T i) d m=some (d',m')):Ge (a+1) d' m':=by
 obtain⟨_,i2,i3,i4,_⟩:=oT (by omega) _ _ _ _ _ hh.inv e
 have aU :∀j∈m,d' j=d j:=fun j hj=>i3 j ((hh.inv.iff j).2 hj)
 have ZN:i∈m:=aL hi;have Gf :∀y∈(bJ T i).map Int.toNat,d' y=d i+1:=fun y hy=>by
  obtain⟨k,hk,rfl⟩:=eQ.1 hy;exact(i4 k hk).2.2
 have hp:m'.Pairwise fun x y=>d' x≤d' y:=by
  rw[i2,List.pairwise_append];refine⟨?_,?_,fun x hx y hy=>?_⟩
  ·refine JU (fun hx hy hxy=>?_) h.le
   rw[aU _ hx,aU _ hy];exact hxy
  ·exact JU (R:=fun _ _=>True) (fun hx hy _=>by rw[Gf _ hx,Gf _ hy];exact ah _) (List.pairwise_of_forall (fun _ _=>trivial))
  ·rw[aU x hx,Gf y hy]
   exact h.top i hi x hx
 refine⟨hp,fun i' hi' x hx=>?_⟩
 have hia:m'[a]? = some i:=by rw[i2,kK (aJ.1 hi).1];exact hi
 have h1:d' i≤d' i':=by
  obtain⟨la,ea⟩:=aJ.1 hia;obtain⟨lb,eb⟩:=aJ.1 hi';have:=List.pairwise_iff_getElem.1 hp a (a+1) la lb (dC _);rw[ea,eb] at this;exact this
 rw[aU i ZN] at h1;rw[i2] at hx;rcases cU.1 hx with hx|hx
 ·have:=h.top i hi x hx
  rw[aU x hx];omega
 ·rw[Gf x hx]
  omega
theorem Qf {T:List Nd} {r:Nat} {js:List Nat} (cL:(r::js.flatMap (gA T)).Nodup) (hjs:js.Nodup) (zM :∀i∈js,∀k∈bJ T i,0≤k∧k<(T.length:Int)∧k.toNat∈js) :
  ∀(f a:Nat) (d:Nat→Nat) (m:List Nat),Half T r a d m→Ge a d m→(∀j∈m,j∈js)→T.length+1≤f+a→∃d' m',xX T f a d m=some (d',m')∧Half T r m'.length d' m'∧Ge m'.length d' m'∧∀j∈m',j∈js:=by
 intro f;induction f with
 | zero =>
  intro a d m h _ _ hf;have:=h.inv.len;have:=h.le;omega
 | succ f ih =>
  intro a d m h hm fL hf;cases hi:m[a]? with
  | none =>
   have h1:m.length≤a:=JS.1 hi;have h2:=h.le;obtain rfl:a=m.length:=by omega
   exact⟨d,m,by rw[xX,hi],h,hm,fL⟩
  | some i =>
   have ZN:=aL hi;have vR:=fL i ZN;have hal:=(aJ.1 hi).1;have Uh :∀k∈bJ T i,k.toNat∈gA T i:=fun k hk=>jW hk
   have hz :∀k∈bJ T i,0≤k∧k<(T.length:Int)∧d k.toNat=0:=fun k hk=>by
    obtain⟨k0,k1,_⟩:=zM i vR k hk;refine⟨k0,k1,Classical.byContradiction fun hne=>?_⟩
    have xY:=(h.inv.iff _).1 hne;rw[h.eq] at xY;rcases bc.1 xY with e|xY
    ·rw[jt] at cL
     exact cL.1 (mH.2 ⟨i,vR,e▸Uh k hk⟩)
    ·obtain⟨i',hi',re⟩:=mH.1 xY
     rw[jt] at cL;have he:i=i':=tY cL.2 vR (fL i' (List.mem_of_mem_take hi')) (Uh k hk) re hjs;subst he;have hn:=h.inv.nodup;rw[←J0 a m,oF] at hn;refine hn.2.2 i hi' i ?_ rfl;rw[jV];exact⟨0,by rw[zF];exact hi⟩
   have Cr:((bJ T i).map Int.toNat).Nodup:=oU (jt.1 cL).2 vR;obtain⟨⟨d',m'⟩,hp⟩:=zL (v:=d i+1) (bJ T i) d m hz Cr;obtain⟨d2,m2,h1,h2⟩:=ih (a+1) d' m' (h.step hi hp) (hm.step h hi hp) (fun j hj=>by
    have:=(oT (by omega) _ _ _ _ _ h.inv hp).2.1
    rw[this] at hj;rcases cU.1 hj with hj|hj
    ·exact fL j hj
    ·obtain⟨k,hk,rfl⟩:=eQ.1 hj
     exact(zM i vR k hk).2.2) (by omega)
   refine⟨d2,m2,?_,h2⟩;simp only[xX,hi,hp];exact h1
end Go.Proofs.YteflkdlaoiijbaaGreatDoor
namespace Go.Proofs.YteflkdlaoiijbaaGreatDoor
mutual
theorem gQ.kids {T:List Nd} :∀(a:Ast) (i:Nat) (js:List Nat),gQ T a i js→∀j∈js,∀k∈bJ T j,0≤k∧k.toNat∈js
 | .mk h xz,i,js,hr=>by
  unfold gQ at hr;obtain⟨x,sA,hx,_,hs,rfl⟩:=hr;have h1:=bu.kids xz x.kids sA hs;intro j hj k hk;rcases bc.1 hj with rfl|hj
  ·rw[fQ hx] at hk
   have:=h1.1 k hk;exact⟨this.1,cr _ this.2⟩
  ·have:=h1.2 j hj k hk
   exact⟨this.1,cr _ this.2⟩
theorem bu.kids {T:List Nd} :∀(xz:List Ast) (ks:List Int) (js:List Nat),bu T xz ks js→(∀k∈ks,0≤k∧k.toNat∈js)∧∀j∈js,∀k∈bJ T j,0≤k∧k.toNat∈js
 | [],ks,js,hr=>by
  unfold bu at hr;obtain⟨rfl,rfl⟩:=hr;exact⟨fun k hk=>by simp at hk,fun j hj=>by simp at hj⟩
 | a::xz,ks,js,hr=>by
  unfold bu at hr;obtain⟨k,iu,j1,j2,rfl,h1,h2,rfl⟩:=hr;have e1:=gQ.kids a k j1 h1;have e2:=bu.kids xz iu j2 h2;refine⟨fun z hz=>?_,fun j hj z hz=>?_⟩
  ·rcases bc.1 hz with rfl|hz
   ·exact⟨by omega,eO _ (by rw[iI];exact h1.root.1)⟩
   ·have:=e2.1 z hz
    exact⟨this.1,iF _ this.2⟩
  ·rcases cU.1 hj with hj|hj
   ·have:=e1 j hj z hz
    exact⟨this.1,eO _ this.2⟩
   ·have:=e2.2 j hj z hz
    exact⟨this.1,iF _ this.2⟩
end
theorem Gg {d:Nat→Nat} {m:List Nat} (h:m.Pairwise fun x y=>d x≤d y) {x:Nat} (hx:x∈m):d x≤d (m.getLastD 0):=by
 obtain⟨i,hi,rfl⟩:=List.getElem_of_mem hx;have hne:m≠[]:=fun e=>by subst e;exact absurd hi (gV _)
 have hl:m.getLastD 0=m[m.length-1]'(by omega):=by
  rw[List.getLastD_eq_getLast?,List.getLast?_eq_getElem?,bE (by omega)]
  rfl
 rw[hl];by_cases e:i=m.length-1
 ·subst e;exact ah _
 ·exact List.pairwise_iff_getElem.1 h i (m.length-1) hi (by omega) (by omega)
theorem zN {T:List Nd} {r:Nat} {a:Ast} {js:List Nat} (h:gQ T a r js) (hn:js.Nodup) (hl:js.length=T.length) (hN:T.length≤16384):eS T (r:Int)=a.depth:=by
 obtain⟨hrj,_,hrl⟩:=h.root;have hlt:=gQ.lt a r js h;have zM :∀i∈js,∀k∈bJ T i,0≤k∧k<(T.length:Int)∧k.toNat∈js:=fun i hi k hk=>by
  obtain⟨k0,k1⟩:=gQ.kids a r js h i hi k hk;have:=hlt _ k1;exact⟨k0,by omega,k1⟩
 have cL:=(gQ.perm a r js h).nodup_iff.1 hn;have hm0:Ge 0 (upd (fun _=>0) r 1) [r]:=⟨by simp,fun i hi x hx=>by
  obtain rfl:r=i:=by simpa using hi
  obtain rfl:=bZ.1 hx;omega⟩
 obtain⟨d,m,hb,hh,hm,fL⟩:=Qf cL hn zM (T.length+1) 0 _ [r] (Half.start hrl) hm0 (fun j hj=>by
  obtain rfl:=bZ.1 hj;exact hrj) (by omega)
 have VE:m.take m.length=m:=zH;have heq:=hh.eq;have hk:=hh.kid;rw[VE] at heq hk;have hrm:r∈m:=by rw[heq];exact bT ..
 have Cs :∀i∈m,∀k∈bJ T i,k.toNat∈m:=fun i hi k hk=>by
  rw[heq];exact cr _ (mH.2 ⟨i,hi,jW hk⟩)
 have hall:=gQ.closed Cs a r js h hrm;have hlen:m.length=T.length:=by
  have h1:=hh.inv.len;have h2:=Gd T.length m (fun j hj=>hall j (qZ hn hlt hl hj))
  omega
 have e:eS T (r:Int)=d (m.getLastD 0):=by
  unfold eS;rw[al ⟨hN,by omega,by omega⟩,iI,hb]
  exact af (by show ¬ m.length<T.length;omega)
 obtain⟨h1,j,hj,he⟩:=gQ.tZ (d:=d) a r js h (fun j hj k jx=>(hk j (hall j hj) k jx).2.2)
 have adB:=hh.root;have hne:m≠[]:=fun e=>by rw[e] at hrm;simp at hrm
 have h2:=h1 _ (fL _ (xZ m 0 hne));have h3:=Gg hm.le (hall j hj);rw[e];omega
section
variable (fo:Nd→Bool) (ko:Int→Int→List Int→Bool) (so:Int→Int) (hd:Nd→List UInt8)
mutual
def Ast.ok:Ast→Bool
 | .mk h ks=>decide (1≤h.line) && fo h && ko h.kind h.num (ks.map fun k=>so k.hd.kind) && Ast.ZP ks
def Ast.ZP:List Ast→Bool
 | []=>true
 | a::xz=>Ast.ok a && Ast.ZP xz
end
variable {fo ko so hd}
theorem bu.ZQ {T:List Nd} :∀(xz:List Ast) (ks:List Int) (js:List Nat),bu T xz ks js→(ks.map fun k=>so (dD T k.toNat))=xz.map fun k=>so k.hd.kind:=by
 intro xz;induction xz with
 | nil =>
  intro ks js hr;unfold bu at hr;obtain⟨rfl,_⟩:=hr;rfl
 | cons a xz ih =>
  intro ks js hr;unfold bu at hr;obtain⟨k,iu,j1,j2,rfl,h1,h2,rfl⟩:=hr;rw[eP,eP,ih iu j2 h2,iI,h1.root.2.1]
mutual
theorem gQ.all {T:List Nd} (Gh :∀x ks,fo { x with kids:=ks}=fo x) :∀(a:Ast) (i:Nat) (js:List Nat),gQ T a i js→(Ast.ok fo ko so a=true↔∀j∈js,∀x,T[j]? = some x→ku fo ko so T x=true)
 | .mk h xz,i,js,hr=>by
  unfold gQ at hr;obtain⟨x,sA,hx,he,hs,rfl⟩:=hr;have h1:=bu.all Gh xz x.kids sA hs;have h2:ku fo ko so T x=(decide (1≤h.line) && fo h && ko h.kind h.num (xz.map fun k=>so k.hd.kind)):=by
   unfold ku;rw[bu.ZQ (so:=so) xz x.kids sA hs];have e1:x.line=h.line:=by rw[he]
   have e2:fo x=fo h:=by rw[he,Gh]
   have e3:x.kind=h.kind:=by rw[he]
   have e4:x.num=h.num:=by rw[he]
   rw[e1,e2,e3,e4]
  rw[Ast.ok,dj,←h2,h1];constructor
  ·rintro⟨a1,a2⟩ j hj y hy
   rcases bc.1 hj with rfl|hj
   ·obtain rfl:=gz (hx.symm.trans hy)
    exact a1
   ·exact a2 j hj y hy
  ·intro hall
   exact⟨hall i (bT ..) x hx,fun j hj y hy=>hall j (cr _ hj) y hy⟩
theorem bu.all {T:List Nd} (Gh :∀x ks,fo { x with kids:=ks}=fo x) :∀(xz:List Ast) (ks:List Int) (js:List Nat),bu T xz ks js→(Ast.ZP fo ko so xz=true↔∀j∈js,∀x,T[j]? = some x→ku fo ko so T x=true)
 | [],ks,js,hr=>by
  unfold bu at hr;obtain⟨_,rfl⟩:=hr;rw[Ast.ZP];exact⟨fun _ j hj=>by simp at hj,fun _=>rfl⟩
 | a::xz,ks,js,hr=>by
  unfold bu at hr;obtain⟨k,iu,j1,j2,_,h1,h2,rfl⟩:=hr;rw[Ast.ZP,dj,gQ.all Gh a k j1 h1,bu.all Gh xz iu j2 h2];constructor
  ·rintro⟨a1,a2⟩ j hj y hy
   rcases cU.1 hj with hj|hj
   ·exact a1 j hj y hy
   ·exact a2 j hj y hy
  ·intro hall
   exact⟨fun j hj=>hall j (eO _ hj),fun j hj=>hall j (iF _ hj)⟩
end
theorem Gi {T:List Nd} {r:Nat} {a:Ast} {js:List Nat} (Gh :∀x ks,fo { x with kids:=ks}=fo x) (h:gQ T a r js) (hn:js.Nodup) (hl:js.length=T.length) (hN:T.length≤16384) :
  oV fo ko so T (r:Int)=(decide (a.depth≤100) && decide (a.hd.kind=18) && Ast.ok fo ko so a):=by
 have hd:=zN h hn hl hN;obtain⟨_,hk,_⟩:=h.root;have hlt:=gQ.lt a r js h;have h0:a.depth≠0:=by cases a with|mk h ks=>rw[Ast.depth];omega
 have hall:T.all (ku fo ko so T)=Ast.ok fo ko so a:=by
  rw[mJ,List.all_eq_true,gQ.all Gh a r js h];constructor
  ·intro h1 j _ x hx
   exact h1 x (aL hx)
  ·intro h1 x hx
   obtain⟨j,hj,rfl⟩:=List.getElem_of_mem hx;exact h1 j (qZ hn hlt hl hj) _ (bE hj)
 unfold oV;rw[hd,iI,hk,hall,bX h0,kN]
end
end Go.Proofs.YteflkdlaoiijbaaGreatDoor
namespace Go.Proofs.YteflkdlaoiijbaaGreatDoor
abbrev aj:=Int×Int×Int×List UInt8
inductive G (N:Type) (V:N→Type) (α:Type):Type where
 | ret:α→G N V α
 | bad:G N V α
 | tok:(aj→G N V α)→G N V α
 | look:(aj→G N V α)→G N V α
 | call:(n:N)→(V n→G N V α)→G N V α
section
variable {N:Type} {V:N→Type} (body :∀n,G N V (V n))
inductive P:{α:Type}→G N V α→List aj→Except Int (α×List aj)→Prop
 | ret {α:Type} {a:α} {ts:List aj}:P (.ret a) ts (.ok (a,ts))
 | bad {α:Type} {t:aj} {ts:List aj}:P (.bad:G N V α) (t::ts) (.error t.2.1)
 | tok {α:Type} {f:aj→G N V α} {t:aj} {ts:List aj} {r:Except Int (α×List aj)}:P (f t) ts r→P (.tok f) (t::ts) r
 | look {α:Type} {f:aj→G N V α} {t:aj} {ts:List aj} {r:Except Int (α×List aj)}:P (f t) (t::ts) r→P (.look f) (t::ts) r
 | call {α:Type} {n:N} {k:V n→G N V α} {ts ax:List aj} {v:V n} {r:Except Int (α×List aj)}:P (body n) ts (.ok (v,ax))→P (k v) ax r→P (.call n k) ts r
 | iv {α:Type} {n:N} {k:V n→G N V α} {ts:List aj} {e:Int}:P (body n) ts (.error e)→P (.call n k) ts (.error e)
variable {body}
theorem P.one {α:Type} {g:G N V α} {ts:List aj} {r r':Except Int (α×List aj)} (h:P body g ts r) (h':P body g ts r'):r=r':=by
 induction h with
 | ret=>cases h';rfl
 | bad=>cases h';rfl
 | tok _ ih=>cases h' with|tok h2=>exact ih h2
 | look _ ih=>cases h' with|look h2=>exact ih h2
 | call _ _ Y9 ZR =>
  cases h' with
  | call a b =>
   have e:=Y9 a;injection e with e;injection e with e1 e2;subst e1 e2;exact ZR b
  | iv a=>cases Y9 a
 | iv _ ih =>
  cases h' with
  | call a b=>cases ih a
  | iv a =>
   have e:=ih a;injection e with e;rw[e]
theorem P.tail {α:Type} {g:G N V α} {ts:List aj} {r:Except Int (α×List aj)} (h:P body g ts r) :∀a ax,r=.ok (a,ax)→∃c,ts=c++ax:=by
 induction h with
 | ret=>rintro a ax e;injection e with e;injection e with _ e2;exact⟨[],by rw[e2];rfl⟩
 | bad=>intro a ax e;cases e
 | @tok _ f t ts r _ ih=>intro a ax e;obtain⟨c,hc⟩:=ih a ax e;exact⟨t::c,by rw[hc];rfl⟩
 | look _ ih=>exact ih
 | call _ _ Y9 ZR =>
  intro a ax e;obtain⟨c1,h1⟩:=Y9 _ _ rfl;obtain⟨c2,h2⟩:=ZR a ax e;exact⟨c1++c2,by rw[h1,h2,fK]⟩
 | iv _ _=>intro a ax e;cases e
def Wp (Post :∀n,List aj→V n→List aj→Prop) {α:Type}:G N V α→List aj→(α→List aj→Prop)→Prop
 | .ret a,ts,Q=>Q a ts
 | .bad,_,_=>True
 | .tok f,ts,Q=>∀t ax,ts=t::ax→Wp Post (f t) ax Q
 | .look f,ts,Q=>∀t ax,ts=t::ax→Wp Post (f t) ts Q
 | .call n k,ts,Q=>∀v ax,Post n ts v ax→Wp Post (k v) ax Q
theorem P.post {Post :∀n,List aj→V n→List aj→Prop} (hb :∀n ts,Wp Post (body n) ts (Post n ts)) {α:Type} {g:G N V α} {ts:List aj} {r:Except Int (α×List aj)} (h:P body g ts r) :
  ∀a ax,r=.ok (a,ax)→∀Q:α→List aj→Prop,Wp Post g ts Q→Q a ax:=by
 induction h with
 | ret =>
  intro a ax e Q hq;injection e with e;injection e with e1 e2;subst e1 e2;exact hq
 | bad=>intro a ax e;cases e
 | tok _ ih=>intro a ax e Q hq;exact ih a ax e Q (hq _ _ rfl)
 | look _ ih=>intro a ax e Q hq;exact ih a ax e Q (hq _ _ rfl)
 | @call _ n k ts fI v r h1 h2 Y9 ZR =>
  intro a ax e Q hq;exact ZR a ax e Q (hq v fI (Y9 v fI rfl _ (hb n ts)))
 | iv _ _=>intro a ax e;cases e
theorem P.holds {Post :∀n,List aj→V n→List aj→Prop} (hb :∀n ts,Wp Post (body n) ts (Post n ts)) {n:N} {ts ax:List aj} {v:V n} (h:P body (body n) ts (.ok (v,ax))):Post n ts v ax :=
 h.post hb v ax rfl _ (hb n ts)
end
end Go.Proofs.YteflkdlaoiijbaaGreatDoor
namespace Go.Proofs.YteflkdlaoiijbaaGreatDoor
def bK (l:List UInt8):ByteArray:=⟨l.toArray⟩
def aw (s:List UInt8) (t:aj):Bool:=(decide (t.1=2) || decide (t.1=5)) && decide (t.2.2.2=s)
def iU:List UInt8:=[101,110,100]
def sB:List UInt8:=[101,108,115,101]
def jZ:List UInt8:=[101,108,115,101,105,102]
def oX:List UInt8:=[117,110,116,105,108]
def j3:List UInt8:=[114,101,116,117,114,110]
def oY:List UInt8:=[98,114,101,97,107]
def sC:List UInt8:=[103,111,116,111]
def Ct:List UInt8:=[100,111]
def oZ:List UInt8:=[119,104,105,108,101]
def lB:List UInt8:=[114,101,112,101,97,116]
def VG:List UInt8:=[105,102]
def zO:List UInt8:=[116,104,101,110]
def Cu:List UInt8:=[102,111,114]
def wIn:List UInt8:=[105,110]
def bq:List UInt8:=[102,117,110,99,116,105,111,110]
def lC:List UInt8:=[108,111,99,97,108]
def sW:List UInt8:=[110,105,108]
def mN:List UInt8:=[116,114,117,101]
def kx:List UInt8:=[102,97,108,115,101]
def Cv:List UInt8:=[110,111,116]
def Za:List UInt8:=[111,114]
def Gj:List UInt8:=[97,110,100]
def wE:List UInt8:=[115,101,108,102]
def iV (t:aj):Bool:=decide (t.1=0) || aw iU t || aw sB t || aw jZ t || aw oX t
def nd (k l:Int) (ks:List Ast):Ast:=.mk ⟨k,l,0,0,⟨#[]⟩,[],[]⟩ ks
def mh (k l:Int) (s:ByteArray) (ks:List Ast):Ast:=.mk ⟨k,l,0,0,s,[],[]⟩ ks
def Zb (k l op:Int) (ks:List Ast):Ast:=.mk ⟨k,l,op,0,⟨#[]⟩,[],[]⟩ ks
def JA (k l n:Int) (ks:List Ast):Ast:=.mk ⟨k,l,0,n,⟨#[]⟩,[],[]⟩ ks
def zP (k l n:Int) (ns:List ByteArray) (ks:List Ast):Ast:=.mk ⟨k,l,0,n,⟨#[]⟩,ns,[]⟩ ks
def mq (t:aj):Option (Int×Nat×Nat) :=
 if aw Za t then some (19,1,2) else if aw Gj t then some (18,2,3)
 else if aw [60] t then some (14,3,4) else if aw [62] t then some (16,3,4) else if aw [60,61] t then some (15,3,4) else if aw [62,61] t then some (17,3,4) else if aw [126,61] t then some (13,3,4) else if aw [61,61] t then some (12,3,4)
 else if aw [124] t then some (7,4,5) else if aw [126] t then some (8,5,6) else if aw [38] t then some (6,6,7)
 else if aw [60,60] t then some (9,7,8) else if aw [62,62] t then some (10,7,8) else if aw [46,46] t then some (11,8,8)
 else if aw [43] t then some (1,9,10) else if aw [45] t then some (2,9,10)
 else if aw [42] t then some (3,10,11) else if aw [47,47] t then some (4,10,11) else if aw [37] t then some (5,10,11) else none
def lD (t:aj):Option Int:=if aw [45] t then some 20 else if aw [126] t then some 21 else if aw Cv t then some 22 else if aw [35] t then some 23 else none
inductive NT where
 | blk|vM (l:List Ast)|ret (at_:Int)|Ci|els (l:List Ast)|ZS (at_:Int)|ZT (at_:Int)|Zc (at_:Int) (x:Ast)|loc (at_:Int)|JB (at_:Int) (self:List ByteArray)
 | VH (l:List ByteArray)|Ui|Zd (l:List ByteArray)|Cw|Ze (l:List Ast)|Zf (at_:Int) (l:List Ast)|Gk|aR (x:Ast)|arg|Uj (l:List Ast)|VI|exp (s:Nat)|lvm (s:Nat) (x:Ast)|una|Uk
def VT:NT→Type
 | .vM _ | .els _ | .Cw | .Ze _ | .arg | .Uj _=>List Ast
 | .VH _=>List ByteArray×Int
 | .Ui | .Zd _=>List ByteArray
 | .blk | .ret _ | .Ci | .ZS _ | .ZT _ | .Zc _ _ | .loc _ | .JB _ _ | .Zf _ _ | .Gk | .aR _ | .VI | .exp _ | .lvm _ _ | .una | .Uk=>Ast
abbrev GL (α:Type):=G NT VT α
def want {α:Type} (s:List UInt8) (k:aj→GL α):GL α:=.look fun t=>if aw s t then .tok k else .bad
def name {α:Type} (k:aj→GL α):GL α:=.look fun t=>if t.1=1 then .tok k else .bad
def take {α:Type} (s:List UInt8) (a b:GL α):GL α:=.look fun t=>if aw s t then .tok fun _=>a else b
def dt :∀n:NT,GL (VT n)
 | .blk=>.look fun t=>.call (.vM []) fun(l:List Ast)=>.ret (nd 18 t.2.1 l)
 | .vM l=>.look fun t =>
   if iV t then .ret l
   else if aw j3 t then .tok fun t=>.call (.ret t.2.1) fun(x:Ast)=>.ret (l++[x])
   else if aw [59] t then .tok fun _=>.call (.vM l) fun(l':List Ast)=>.ret l'
   else .call .Ci fun(x:Ast)=>.call (.vM (l++[x])) fun(l':List Ast)=>.ret l'
 | .ret at_=>.look fun t =>
   if iV t then .ret (nd 29 at_ [])
   else if aw [59] t then .tok fun _=>.ret (nd 29 at_ [])
   else .call .Cw fun(l:List Ast)=>take [59] (.ret (nd 29 at_ l)) (.ret (nd 29 at_ l))
 | .Ci=>.look fun t =>
   if aw [58,58] t then .tok fun t=>name fun n=>want [58,58] fun _=>.ret (mh 32 t.2.1 (bK n.2.2.2) [])
   else if aw oY t then .tok fun t=>.ret (nd 30 t.2.1 [])
   else if aw sC t then .tok fun t=>name fun n=>.ret (mh 31 t.2.1 (bK n.2.2.2) [])
   else if aw Ct t then .tok fun t=>.call .blk fun(b:Ast)=>want iU fun _=>.ret (nd 22 t.2.1 [b])
   else if aw oZ t then .tok fun t=>.call (.exp 1) fun(e:Ast)=>want Ct fun _=>.call .blk fun(b:Ast)=>want iU fun _=>.ret (nd 23 t.2.1 [e,b])
   else if aw lB t then .tok fun t=>.call .blk fun(b:Ast)=>want oX fun _=>.call (.exp 1) fun(e:Ast)=>.ret (nd 24 t.2.1 [b,e])
   else if aw VG t then .tok fun t=>.call (.exp 1) fun(e:Ast)=>want zO fun _=>.call .blk fun(b:Ast)=>.call (.els [e,b]) fun(l:List Ast)=>.ret (nd 25 t.2.1 l)
   else if aw Cu t then .tok fun t=>.call (.ZS t.2.1) fun(x:Ast)=>.ret x
   else if aw bq t then .tok fun t=>.call (.ZT t.2.1) fun(x:Ast)=>.ret x
   else if aw lC t then .tok fun t=>.call (.loc t.2.1) fun(x:Ast)=>.ret x
   else .call .Gk fun(x:Ast)=>if x.hd.kind=9∨x.hd.kind=10 then .ret (nd 21 t.2.1 [x]) else .call (.Zf t.2.1 [x]) fun(y:Ast)=>.ret y
 | .els l=>.look fun t =>
   if aw jZ t then .tok fun _=>.call (.exp 1) fun(e:Ast)=>want zO fun _=>.call .blk fun(b:Ast)=>.call (.els (l++[e,b])) fun(l':List Ast)=>.ret l'
   else if aw sB t then .tok fun _=>.call .blk fun(b:Ast)=>want iU fun _=>.ret (l++[b])
   else want iU fun _=>.ret l
 | .ZS at_=>.call .Ui fun(ns:List ByteArray)=>.look fun t =>
   if aw [61] t∧ns.length=1 then .tok fun _=>.call (.exp 1) fun(a:Ast)=>want [44] fun _=>.call (.exp 1) fun(b:Ast)=>.look fun t =>
    if aw [44] t then .tok fun _=>.call (.exp 1) fun(c:Ast)=>want Ct fun _=>.call .blk fun(d:Ast)=>want iU fun _=>.ret (zP 26 at_ 0 ns [a,b,c,d])
    else want Ct fun _=>.call .blk fun(d:Ast)=>want iU fun _=>.ret (zP 26 at_ 0 ns [a,b,d])
   else want wIn fun _=>.call .Cw fun(l:List Ast)=>want Ct fun _=>.call .blk fun(d:Ast)=>want iU fun _=>.ret (zP 27 at_ (l.length:Int) ns (l++[d]))
 | .ZT at_=>name fun n=>.call (.Zc at_ (mh 7 n.2.1 (bK n.2.2.2) [])) fun(x:Ast)=>.ret x
 | .Zc at_ x=>.look fun t =>
   if aw [46] t then .tok fun d=>name fun n=>.call (.Zc at_ (nd 8 d.2.1 [x,mh 5 n.2.1 (bK n.2.2.2) []])) fun(y:Ast)=>.ret y
   else if aw [58] t then .tok fun d=>name fun n=>.call (.JB at_ [bK wE]) fun(f:Ast)=>.ret (JA 20 at_ 1 [nd 8 d.2.1 [x,mh 5 n.2.1 (bK n.2.2.2) []],f])
   else .call (.JB at_ []) fun(f:Ast)=>.ret (JA 20 at_ 1 [x,f])
 | .loc at_=>.look fun t =>
   if aw bq t then .tok fun f=>name fun n=>.call (.JB f.2.1 []) fun(b:Ast)=>.ret (zP 28 at_ 0 [bK n.2.2.2] [b])
   else .call .Ui fun(ns:List ByteArray)=>.look fun t=>if aw [61] t then .tok fun _=>.call .Cw fun(l:List Ast)=>.ret (zP 19 at_ 0 ns l) else .ret (zP 19 at_ 0 ns [])
 | .JB at_ self=>want [40] fun _=>.look fun t =>
   if aw [41] t then .tok fun _=>.call .blk fun(b:Ast)=>want iU fun _=>.ret (zP 11 at_ 0 self [b])
   else .call (.VH self) fun(p:List ByteArray×Int)=>want [41] fun _=>.call .blk fun(b:Ast)=>want iU fun _=>.ret (zP 11 at_ p.2 p.1 [b])
 | .VH l=>.look fun t =>
   if aw [46,46,46] t then .tok fun _=>.ret ((l,1):List ByteArray×Int)
   else name fun n=>.look fun t=>if aw [44] t then .tok fun _=>.call (.VH (l++[bK n.2.2.2])) fun(p:List ByteArray×Int)=>.ret p else .ret ((l++[bK n.2.2.2],0):List ByteArray×Int)
 | .Ui=>name fun n=>.call (.Zd [bK n.2.2.2]) fun(l:List ByteArray)=>.ret l
 | .Zd l=>.look fun t=>if aw [44] t then .tok fun _=>name fun n=>.call (.Zd (l++[bK n.2.2.2])) fun(l':List ByteArray)=>.ret l' else .ret l
 | .Cw=>.call (.exp 1) fun(e:Ast)=>.call (.Ze [e]) fun(l:List Ast)=>.ret l
 | .Ze l=>.look fun t=>if aw [44] t then .tok fun _=>.call (.exp 1) fun(e:Ast)=>.call (.Ze (l++[e])) fun(l':List Ast)=>.ret l' else .ret l
 | .Zf at_ l=>.look fun t =>
   if (l.getLastD (nd 0 0 [])).hd.kind=7∨(l.getLastD (nd 0 0 [])).hd.kind=8 then
    if aw [44] t then .tok fun _=>.call .Gk fun(x:Ast)=>.call (.Zf at_ (l++[x])) fun(y:Ast)=>.ret y
    else want [61] fun _=>.call .Cw fun(m:List Ast)=>.ret (JA 20 at_ (l.length:Int) (l++m))
   else .bad
 | .Gk=>.look fun t =>
   if t.1=1 then .tok fun n=>.call (.aR (mh 7 n.2.1 (bK n.2.2.2) [])) fun(x:Ast)=>.ret x
   else if aw [40] t then .tok fun o=>.call (.exp 1) fun(e:Ast)=>want [41] fun _=>.call (.aR (nd 14 o.2.1 [e])) fun(x:Ast)=>.ret x
   else .bad
 | .aR x=>.look fun t =>
   if aw [46] t then .tok fun d=>name fun n=>.call (.aR (nd 8 d.2.1 [x,mh 5 n.2.1 (bK n.2.2.2) []])) fun(y:Ast)=>.ret y
   else if aw [91] t then .tok fun d=>.call (.exp 1) fun(e:Ast)=>want [93] fun _=>.call (.aR (nd 8 d.2.1 [x,e])) fun(y:Ast)=>.ret y
   else if aw [58] t then .tok fun d=>name fun n=>.call .arg fun(l:List Ast)=>.call (.aR (mh 10 d.2.1 (bK n.2.2.2) (x::l))) fun(y:Ast)=>.ret y
   else if aw [40] t || aw [123] t || decide (t.1=4) then .call .arg fun(l:List Ast)=>.call (.aR (nd 9 t.2.1 (x::l))) fun(y:Ast)=>.ret y
   else .ret x
 | .arg=>.look fun t =>
   if t.1=4 then .tok fun s=>.ret ([mh 5 s.2.1 (bK s.2.2.2) []]:List Ast)
   else if aw [123] t then .tok fun o=>.call (.Uj []) fun(l:List Ast)=>.ret ([nd 15 o.2.1 l]:List Ast)
   else want [40] fun _=>.look fun t=>if aw [41] t then .tok fun _=>.ret ([]:List Ast) else .call .Cw fun(l:List Ast)=>want [41] fun _=>.ret l
 | .Uj l=>.look fun t =>
   if aw [125] t then .tok fun _=>.ret l
   else .call .VI fun(x:Ast)=>.look fun t=>if aw [44] t || aw [59] t then .tok fun _=>.call (.Uj (l++[x])) fun(l':List Ast)=>.ret l' else want [125] fun _=>.ret (l++[x])
 | .VI=>.look fun t =>
   if aw [91] t then .tok fun _=>.call (.exp 1) fun(k:Ast)=>want [93] fun _=>want [61] fun _=>.call (.exp 1) fun(e:Ast)=>.ret (nd 17 t.2.1 [k,e])
   else .call (.exp 1) fun(e:Ast)=>.look fun u =>
    if aw [61] u∧e.hd.kind=7 then .tok fun _=>.call (.exp 1) fun(v:Ast)=>.ret (nd 17 t.2.1 [mh 5 t.2.1 e.hd.s [],v])
    else .ret (nd 16 t.2.1 [e])
 | .exp s=>.call .una fun(x:Ast)=>.call (.lvm s x) fun(y:Ast)=>.ret y
 | .lvm s x=>.look fun t=>match mq t with
   | some o=>if s≤o.2.1 then .tok fun d=>.call (.exp o.2.2) fun(y:Ast)=>.call (.lvm s (Zb 12 d.2.1 o.1 [x,y])) fun(z:Ast)=>.ret z else .ret x
   | none=>.ret x
 | .una=>.look fun t=>match lD t with
   | some o=>.tok fun d=>.call .una fun(x:Ast)=>.ret (Zb 13 d.2.1 o [x])
   | none=>.call .Uk fun(x:Ast)=>.ret x
 | .Uk=>.look fun t =>
   if aw sW t then .tok fun t=>.ret (nd 1 t.2.1 [])
   else if aw mN t then .tok fun t=>.ret (nd 2 t.2.1 [])
   else if aw kx t then .tok fun t=>.ret (nd 3 t.2.1 [])
   else if aw [46,46,46] t then .tok fun t=>.ret (nd 6 t.2.1 [])
   else if aw bq t then .tok fun t=>.call (.JB t.2.1 []) fun(f:Ast)=>.ret f
   else if aw [123] t then .tok fun t=>.call (.Uj []) fun(l:List Ast)=>.ret (nd 15 t.2.1 l)
   else if t.1=3 then .tok fun t=>.ret (JA 4 t.2.1 t.2.2.1 [])
   else if t.1=4 then .tok fun t=>.ret (mh 5 t.2.1 (bK t.2.2.2) [])
   else .call .Gk fun(x:Ast)=>.ret x
def rf:GL Ast:=.call .blk fun(b:Ast)=>.look fun t=>if t.1=0 then .ret b else .bad
abbrev PL {α:Type} (g:GL α) (ts:List aj) (r:Except Int (α×List aj)):Prop:=P dt g ts r
def oI (c:Nat):Nat:=if 48≤c∧c≤57 then c-48 else if 97≤c∧c≤122 then c-87 else if 65≤c∧c≤90 then c-55 else 36
def val (b:Nat) (l:List UInt8):Nat:=l.foldl (fun n c=>n*b+oI c.toNat) 0
theorem Ke (b:Nat) (l:List UInt8) (c:UInt8):val b (l++[c])=val b l*b+oI c.toNat:=by simp[val]
def iK (b:Nat) (l:List UInt8):Bool:=l.all fun c=>decide (oI c.toNat<b)
def sX (b:Nat) (l:List UInt8):Bool:=!l.isEmpty && iK b l
theorem Gl (b:Nat) (l:List UInt8) (c:UInt8):iK b (l++[c])=(iK b l && decide (oI c.toNat<b)):=by simp[iK]
theorem zQ {b:Nat} {l:List UInt8} {c:UInt8} (h:c∈l) (hc:b≤oI c.toNat):iK b l=false:=by
 unfold iK;rw[List.all_eq_false];exact⟨c,h,by simpa using hc⟩
def Cy (b:Nat) (l:List UInt8):Nat:=if sX b l then val b l % 18446744073709551616 else 0
theorem x9 {b:Nat} {l:List UInt8} (h:sX b l=false):Cy b l=0:=by unfold Cy;simp[h]
theorem Cz {b:Nat} {l:List UInt8} (h:sX b l=true):Cy b l=val b l % 18446744073709551616:=by unfold Cy;simp[h]
theorem Gm (s:ByteArray) (k:Nat) (h:k<s.size):s.data.toList.take (k+1)=s.data.toList.take k++[s[k]]:=by
 rw[List.take_succ_eq_append_getElem (by simpa using h)];rfl
theorem get_mem (s:ByteArray) (k:Nat) (h:k<s.size):s[k]∈s.data.toList:=Kb (l:=s.data.toList) (n:=k) (by simpa using h)
def blanks:List UInt8:=[9,10,11,12,13,32]
def ya (c:Nat):Bool:=decide (9≤c∧c≤13) || decide (c=32)
theorem CA {P:UInt8→Prop} (h :∀i:Fin 256,P (UInt8.ofNat i.val)) (c:UInt8):P c:=by
 have:=h ⟨c.toNat,c.toNat_lt⟩;simpa using this
theorem lE :∀c:UInt8,blanks.contains c=ya c.toNat:=CA (by decide +kernel)
def Ev (l:List UInt8):List UInt8:=Lib.trimS l blanks
theorem jy {p:UInt8→Bool} (l:List UInt8) (c:UInt8):(l++[c]).dropWhile p=if l.dropWhile p=[] then (if p c then [] else [c]) else l.dropWhile p++[c]:=by
 induction l with
 | nil=>simp[List.dropWhile];cases p c<;>simp
 | cons a t ih =>
  by_cases h:p a=true
  ·simp only[iJ,List.dropWhile,h]
   exact ih
  ·simp[List.dropWhile,h]
theorem VJ {p:UInt8→Bool} (l:List UInt8):l.dropWhile p=[]↔∀x∈l,p x=true:=by
 induction l with
 | nil=>simp
 | cons a t ih =>
  cases h:p a
  ·simp[List.dropWhile,h]
  ·simp[List.dropWhile,h,ih]
theorem pS {p:UInt8→Bool} (l:List UInt8):l.reverse.dropWhile p=[]→l.dropWhile p=[]:=by
 intro h;rw[VJ] at h ⊢;intro x hx;exact h x (by simpa using hx)
theorem Gn {p:UInt8→Bool} (l:List UInt8):(l.reverse.dropWhile p).reverse.dropWhile p=((l.dropWhile p).reverse.dropWhile p).reverse:=by
 induction l with
 | nil=>rfl
 | cons c t ih =>
  rw[Ed,jy];by_cases h0:t.reverse.dropWhile p=[]
  ·rw[al h0]
   have h1:=pS t h0;cases hc:p c
   ·simp[List.dropWhile,hc,jy,h0]
   ·simp[List.dropWhile,hc,h1]
  ·rw[af h0]
   cases hc:p c
   ·simp[List.dropWhile,hc,jy,h0]
   ·simp[List.dropWhile,hc,ih]
theorem wF (l:List UInt8):Lib.trimRightS (Lib.trimLeftS l blanks) blanks=Ev l:=(Gn l).symm
theorem VK (l:List UInt8):(Ev l).length≤l.length:=by
 rw[←wF];unfold Lib.trimRightS Lib.trimLeftS;rw[List.length_reverse];have h1:=(D9 (fun x=>blanks.contains x) (l:=(List.dropWhile (fun x=>blanks.contains x) l).reverse)).length_le
 have h2:=(D9 (fun x=>blanks.contains x) (l:=l)).length_le
 rw[List.length_reverse] at h1;omega
def sY (l:List UInt8):Bool:=Lib.hasPrefix l [48,120] || Lib.hasPrefix l [48,88]
def pT (most:Int) (l:List UInt8):Bool:=sX 10 l && decide ((val 10 l:Int)≤most)
def CB (most:Int) (l:List UInt8):Nat:=if pT most l then val 10 l else 0
def pU (most:Int) (l:List UInt8):Bool:=if sY l then sX 16 (l.drop 2) else pT most l
def ua (most:Int) (l:List UInt8):Nat:=if sY l then Cy 16 (l.drop 2) else CB most l
def zn (n:Int):Int:=(n+9223372036854775808) % 18446744073709551616-9223372036854775808
def yb (l:List UInt8):Bool:=Lib.hasPrefix l [45]
def pV (b:Int) (l:List UInt8):Bool:=if 2≤b∧b≤36 then sX b.toNat (Lib.trimPrefix (Ev l) [45]) else false
def kO (b:Int) (l:List UInt8):Int:=if 2≤b∧b≤36 then (if yb (Ev l) then zn (-(Cy b.toNat (Lib.trimPrefix (Ev l) [45]):Int)) else zn (Cy b.toNat (Lib.trimPrefix (Ev l) [45]):Int)) else 0
theorem val_zero (l:List UInt8):val 10 (48::l)=val 10 l:=rfl
theorem yc (l:List UInt8) :∀n:Nat,n*10 ^ l.length≤l.foldl (fun n c=>n*10+oI c.toNat) n:=by
 induction l with
 | nil=>intro n;simp
 | cons c t ih =>
  intro n;have h:=ih (n*10+oI c.toNat);rw[List.foldl_cons,List.length_cons,Ek];refine aM ?_ h;rw[Er,show n*(10 ^ t.length*10)=n*10*10 ^ t.length by rw[Nat.mul_assoc,El 10]]
  exact gy _ _
theorem yd (l:List UInt8) (h:iK 10 l=true) :∀n m:Nat,n<m→l.foldl (fun n c=>n*10+oI c.toNat) n<m*10 ^ l.length:=by
 induction l with
 | nil=>intro n m h;simpa using h
 | cons c t ih =>
  intro n m hm;simp only[iK,su,dj,iH] at h;have hh:=ih h.2 (n*10+oI c.toNat) (m*10) (by omega)
  rw[List.foldl_cons,List.length_cons,Ek,El (10 ^ t.length),←Nat.mul_assoc];exact hh
theorem zR (l:List UInt8):val 10 (Lib.trimLeftB l 48)=val 10 l:=by
 unfold Lib.trimLeftB;induction l with
 | nil=>rfl
 | cons c t ih =>
  by_cases h:c=48
  ·subst h
   rw[val_zero,List.dropWhile,show((48:UInt8) == 48)=true from rfl]
   exact ih
  ·rw[List.dropWhile,show(c == 48)=false by simpa using h]
theorem wG {l:List UInt8} (h:iK 10 l=true):iK 10 (Lib.trimLeftB l 48)=true:=by
 unfold iK at *;rw[List.all_eq_true] at *;exact fun x hx=>h x ((D9 _).subset hx)
theorem Gp {l:List UInt8} (h:iK 10 l=true) (hl:(Lib.trimLeftB l 48).length≤19):val 10 l<10000000000000000000:=by
 rw[←zR];have:=yd _ (wG h) 0 1 (by omega)
 rw[Es] at this;have h2:10 ^ (Lib.trimLeftB l 48).length≤10 ^ 19:=J1 (by omega) hl
 have h3:(10:Nat) ^ 19=10000000000000000000:=by decide
 unfold val;omega
theorem Gq (l:List UInt8) :∀c t,Lib.trimLeftB l 48=c::t→c≠48:=by
 unfold Lib.trimLeftB;induction l with
 | nil=>intro c t h;cases h
 | cons a r ih =>
  intro c t h;by_cases e:a=48
  ·subst e
   rw[List.dropWhile,show((48:UInt8) == 48)=true from rfl] at h
   exact ih c t h
  ·rw[List.dropWhile,show(a == 48)=false by simpa using e] at h
   injection h with h1 h2;exact h1▸e
theorem Qg {c:UInt8} (h:oI c.toNat<10) (hc:c≠48):1≤oI c.toNat:=by
 have hn:c.toNat≠48:=fun e=>hc (zI.1 e)
 unfold oI at *;split at h
 ·rename_i hh;rw[al hh];omega
 ·split at h
  ·omega
  ·split at h<;>omega
theorem Kf {l:List UInt8} (h:iK 10 l=true) (hl:19<(Lib.trimLeftB l 48).length):10000000000000000000≤val 10 l:=by
 rw[←zR];have ha:=wG h;have hh:=Gq l;generalize Lib.trimLeftB l 48=m at *;cases m with
 | nil=>simp at hl
 | cons c t =>
  simp only[iK,su,dj,iH] at ha;have h1:=Qg ha.1 (hh c t rfl);have h2:=yc t (oI c.toNat);have h3:10 ^ 19≤10 ^ t.length:=J1 (by omega) (by simp at hl;omega)
  have h4:1*10 ^ t.length≤oI c.toNat*10 ^ t.length:=Eb _ h1;have h5:(10:Nat) ^ 19=10000000000000000000:=by decide
  have h6:val 10 (c::t)=t.foldl (fun n c=>n*10+oI c.toNat) (oI c.toNat):=by simp[val]
  rw[h6];omega
theorem Kg {b:Nat} {l:List UInt8} (h:sX b l=true):iK b l=true:=by
 unfold sX at h;rw[dj] at h;exact h.2
theorem Gr {l:List UInt8} (ho:sX 10 l=true) (hl:(Lib.trimLeftB l 48).length≤19):Cy 10 l=val 10 l:=by
 have:=Gp (Kg ho) hl;rw[Cz ho];omega
theorem Kh {m:Int} {l:List UInt8} (ho:sX 10 l=false):pT m l=false:=by unfold pT;rw[ho];rfl
theorem Gs {m:Int} {l:List UInt8} (hm:m≤9223372036854775808) (ho:sX 10 l=true) (hl:19<(Lib.trimLeftB l 48).length):pT m l=false:=by
 have:=Kf (Kg ho) hl;unfold pT;rw[ho,kN,zC];omega
theorem Qh {m:Int} {l:List UInt8} (ho:sX 10 l=true) (h:(val 10 l:Int)≤m):pT m l=true:=by unfold pT;rw[ho,kN,iH];exact h
theorem Gt {m:Int} {l:List UInt8} (h:m<(val 10 l:Int)):pT m l=false:=by unfold pT;rw[Bool.and_eq_false_iff,zC];right;omega
theorem ye {m:Int} {l:List UInt8} (h:pT m l=false):CB m l=0:=by unfold CB;simp[h]
theorem Qi {m:Int} {l:List UInt8} (h:pT m l=true):CB m l=val 10 l:=by unfold CB;simp[h]
def sZ (c:UInt8):Bool:=ya c.toNat
def vS (c:UInt8):Bool:=decide (97≤c.toNat∧c.toNat≤122) || decide (65≤c.toNat∧c.toNat≤90) || decide (c.toNat=95)
def gr (c:UInt8):Bool:=decide (48≤c.toNat∧c.toNat≤57)
def zo (c:UInt8):Bool:=gr c || decide (97≤c.toNat∧c.toNat≤102) || decide (65≤c.toNat∧c.toNat≤70)
def mP (c:UInt8):Bool:=vS c || gr c
def o7 (c:UInt8):Bool:=mP c || decide (c.toNat=46)
def Ew (c:UInt8):Bool:=decide (c.toNat=39) || decide (c.toNat=34)
def runN (p:UInt8→Bool) (l:List UInt8):Nat:=(l.takeWhile p).length
theorem pW (p:UInt8→Bool) (l:List UInt8):l.take (runN p l)=l.takeWhile p:=by
 unfold runN;induction l with
 | nil=>rfl
 | cons a t ih=>cases h:p a<;>simp[h,ih]
theorem pX (p:UInt8→Bool) (l:List UInt8):l.drop (runN p l)=l.dropWhile p:=by
 unfold runN;induction l with
 | nil=>rfl
 | cons a t ih=>cases h:p a<;>simp[h,ih]
theorem hJ (p:UInt8→Bool) (l:List UInt8):runN p l≤l.length:=by
 unfold runN;exact(List.takeWhile_sublist p (l:=l)).length_le
def nl (l:List UInt8):Nat:=Lib.countByte l 10
theorem VL:nl []=0:=rfl
theorem Ki (a b:List UInt8):nl (a++b)=nl a+nl b:=by unfold nl Lib.countByte;rw[List.count_append]
theorem VM (l:List UInt8) (k:Nat):nl l=nl (l.take k)+nl (l.drop k):=by rw[←Ki,J0]
theorem Ul (l:List UInt8):nl l≤l.length:=List.count_le_length
def keys:List (List UInt8):=[[97,110,100],[98,114,101,97,107],[100,111],[101,108,115,101],[101,108,115,101,105,102],[101,110,100],[102,97,108,115,101],[102,111,114],[102,117,110,99,116,105,111,110],[103,111,116,111],[105,102],[105,110],[108,111,99,97,108],[110,105,108],[110,111,116],[111,114],[114,101,112,101,97,116],[114,101,116,117,114,110],[116,104,101,110],[116,114,117,101],[117,110,116,105,108],[119,104,105,108,101]]
def pY (l:List UInt8):Bool:=keys.contains l
def signs:List (List UInt8):=[[43],[45],[42],[47,47],[37],[38],[124],[126],[60,60],[62,62],[46,46],[46,46,46],[61,61],[126,61],[60],[60,61],[62],[62,61],[61],[40],[41],[123],[125],[91],[93],[59],[58],[58,58],[44],[46],[35]]
def mQ (l:List UInt8):Bool:=signs.contains l
def opn (l:List UInt8):Nat :=
 if Lib.hasPrefix l [91] then (if Lib.hasPrefix (Lib.trimLeftB (l.drop 1) 61) [91] then l.length-((Lib.trimLeftB (l.drop 1) 61).drop 1).length else 0) else 0
def ZU (x:List UInt8):List UInt8:=Lib.replaceAll x [91] [93]
def JC (l:List UInt8):Option (List UInt8×List UInt8) :=
 if (Lib.cut (l.drop (opn l)) (ZU (l.take (opn l)))).2.2 then some (Lib.trimPrefix (Lib.cut (l.drop (opn l)) (ZU (l.take (opn l)))).1 [10],(Lib.cut (l.drop (opn l)) (ZU (l.take (opn l)))).2.1) else none
def comm (l:List UInt8):Option (List UInt8) :=
 if 0<opn l then (JC l).map (·.2) else some (l.drop (Lib.cut l [10]).1.length)
inductive mS:List UInt8→Except (List UInt8) (List UInt8)→Prop
 | done {l r:List UInt8}:l.dropWhile sZ=r→Lib.hasPrefix r [45,45]=false→mS l (.ok r)
 | more {l r r':List UInt8} {o:Except (List UInt8) (List UInt8)}:l.dropWhile sZ=45::45::r→comm r=some r'→mS r' o→mS l o
 | bad {l r:List UInt8}:l.dropWhile sZ=45::45::r→comm r=none→mS l (.error (45::45::r))
def code (b:Int) (p:UInt8→Bool) (least most:Nat) (l:List UInt8):Option (List UInt8×List UInt8) :=
 if pV b (l.take (min most (runN p l)))=true∧least≤min most (runN p l)∧kO b (l.take (min most (runN p l)))≤255 then
  some ([UInt8.ofNat (kO b (l.take (min most (runN p l)))).toNat],l.drop (min most (runN p l))) else none
def vT (c:UInt8):Option UInt8 :=
 if c.toNat=97 then some 7 else if c.toNat=98 then some 8 else if c.toNat=102 then some 12 else if c.toNat=110 then some 10 else if c.toNat=114 then some 13 else if c.toNat=116 then some 9 else if c.toNat=118 then some 11 else none
def pZ (c:UInt8):Bool:=decide (c.toNat=92) || decide (c.toNat=39) || decide (c.toNat=34) || decide (c.toNat=10)
def o9 (c:UInt8) (r:List UInt8):Option (List UInt8×List UInt8) :=
 match vT c with
 | some x=>some ([x],r)
 | none=>if pZ c then some ([c],r) else if c.toNat=122 then some ([],r.dropWhile sZ) else if c.toNat=120 then code 16 zo 2 2 r else if gr c then code 10 gr 1 3 (c::r) else none
def pK:List UInt8→Option (List UInt8×List UInt8)
 | []=>none
 | c::r=>o9 c r
inductive yg (q:UInt8):List UInt8→Option (List UInt8×List UInt8)→Prop
 | shut {r:List UInt8}:yg q (q::r) (some ([],r))
 | none:yg q [] none
 | line {r:List UInt8}:q≠10→yg q (10::r) none
 | pK {r m r':List UInt8} {o:Option (List UInt8×List UInt8)}:q≠92→pK r=some (m,r')→yg q r' o→yg q (92::r) (o.map fun x=>(m++x.1,x.2))
 | bad {r:List UInt8}:q≠92→Go.Proofs.YteflkdlaoiijbaaGreatDoor.pK r=Option.none→yg q (92::r) Option.none
 | byte {c:UInt8} {r:List UInt8} {o:Option (List UInt8×List UInt8)}:c≠q→c≠10→c≠92→yg q r o→yg q (c::r) (o.map fun x=>(c::x.1,x.2))
def sign (l:List UInt8):Option (List UInt8×List UInt8) :=
 if mQ (l.take 3) then some (l.take 3,l.drop 3) else if mQ (l.take 2) then some (l.take 2,l.drop 2) else if mQ (l.take 1) then some (l.take 1,l.drop 1) else none
inductive Tok:List UInt8→Option (Int×Int×List UInt8×List UInt8)→Prop
 | eof:Tok [] (some (0,0,[],[]))
 | name {c:UInt8} {r:List UInt8}:vS c=true→Tok (c::r) (some (if pY ((c::r).takeWhile mP) then 2 else 1,0,(c::r).takeWhile mP,(c::r).dropWhile mP))
 | num {c:UInt8} {r:List UInt8}:vS c=false→gr c=true→pU 9223372036854775807 ((c::r).takeWhile o7)=true →
   Tok (c::r) (some (3,zn (ua 9223372036854775807 ((c::r).takeWhile o7):Int),[],(c::r).dropWhile o7))
 | CC {c:UInt8} {r:List UInt8}:vS c=false→gr c=true→pU 9223372036854775807 ((c::r).takeWhile o7)=false→Tok (c::r) none
 | text {c:UInt8} {r:List UInt8} {o:Option (List UInt8×List UInt8)}:vS c=false→gr c=false→Ew c=true→yg c r o→Tok (c::r) (o.map fun x=>(4,0,x.1,x.2))
 | long {c:UInt8} {r:List UInt8}:vS c=false→gr c=false→Ew c=false→0<opn (c::r)→Tok (c::r) ((JC (c::r)).map fun x=>(4,0,x.1,x.2))
 | sign {c:UInt8} {r:List UInt8}:vS c=false→gr c=false→Ew c=false→¬ 0<opn (c::r)→Tok (c::r) ((sign (c::r)).map fun x=>(5,0,x.1,x.2))
abbrev Tk:=Int×Int×Int×List UInt8
inductive ky (L:Int):List UInt8→Except Int (List Tk)→Prop
 | lF {l r:List UInt8}:mS l (.error r)→ky L l (.error (L-nl r))
 | pb {l r:List UInt8}:mS l (.ok r)→Tok r none→ky L l (.error (L-nl r))
 | eof {l:List UInt8}:mS l (.ok [])→ky L l (.ok [(0,L,0,[])])
 | step {l r r' s:List UInt8} {k n:Int} {o:Except Int (List Tk)}:mS l (.ok r)→r≠[]→Tok r (some (k,n,s,r'))→ky L r' o→ky L l (o.map ((k,L-nl r,n,s) :: ·))
theorem mS.s5 {l:List UInt8} {o:Except (List UInt8) (List UInt8)} (h:mS l o) :∀{o'},mS l o'→o=o':=by
 induction h with
 | done h1 h2 =>
  intro o' h';cases h' with
  | done g1 g2=>rw[←h1,←g1]
  | more g1 g2 g3=>rw[h1] at g1;subst g1;simp[Lib.hasPrefix] at h2
  | bad g1 g2=>rw[h1] at g1;subst g1;simp[Lib.hasPrefix] at h2
 | more h1 h2 h3 ih =>
  intro o' h';cases h' with
  | done g1 g2=>rw[h1] at g1;subst g1;simp[Lib.hasPrefix] at g2
  | more g1 g2 g3 =>
   rw[h1] at g1;injection g1 with _ g1;injection g1 with _ g1;subst g1;rw[h2] at g2;injection g2 with g2;subst g2;exact ih g3
  | bad g1 g2 =>
   rw[h1] at g1;injection g1 with _ g1;injection g1 with _ g1;subst g1;rw[h2] at g2;cases g2
 | bad h1 h2 =>
  intro o' h';cases h' with
  | done g1 g2=>rw[h1] at g1;subst g1;simp[Lib.hasPrefix] at g2
  | more g1 g2 g3 =>
   rw[h1] at g1;injection g1 with _ g1;injection g1 with _ g1;subst g1;rw[h2] at g2;cases g2
  | bad g1 g2=>rw[←h1,←g1]
theorem yg.s5 {q:UInt8} {l:List UInt8} {o:Option (List UInt8×List UInt8)} (h:yg q l o) :∀{o'},yg q l o'→o=o':=by
 induction h with
 | shut =>
  intro o' h';cases h' with
  | shut=>rfl
  | line g=>exact absurd rfl g
  | pK g=>exact absurd rfl g
  | bad g=>exact absurd rfl g
  | byte g=>exact absurd rfl g
 | none=>intro o' h';cases h';rfl
 | line h =>
  intro o' h';cases h' with
  | shut=>exact absurd rfl h
  | line g=>rfl
  | byte g1 g2=>exact absurd rfl g2
 | pK h1 h2 h3 ih =>
  intro o' h';cases h' with
  | shut=>exact absurd rfl h1
  | pK g1 g2 g3 =>
   rw[h2] at g2;injection g2 with g2;injection g2 with a b;subst a;subst b;rw[ih g3]
  | bad g1 g2=>rw[h2] at g2;cases g2
  | byte g1 g2 g3=>exact absurd rfl g3
 | bad h1 h2 =>
  intro o' h';cases h' with
  | shut=>exact absurd rfl h1
  | pK g1 g2 g3=>rw[h2] at g2;cases g2
  | bad g1 g2=>rfl
  | byte g1 g2 g3=>exact absurd rfl g3
 | byte h1 h2 h3 h4 ih =>
  intro o' h';cases h' with
  | shut=>exact absurd rfl h1
  | line=>exact absurd rfl h2
  | pK=>exact absurd rfl h3
  | bad=>exact absurd rfl h3
  | byte g1 g2 g3 g4=>rw[ih g4]
theorem Tok.s5 {l:List UInt8} {o:Option (Int×Int×List UInt8×List UInt8)} (h:Tok l o) :∀{o'},Tok l o'→o=o':=by
 intro o' h';cases h<;>cases h'<;>first|rfl|(simp_all;done)|skip
 rename_i a b c d e f g i j k;rw[e.s5 k]
theorem ky.s5 {L:Int} {l:List UInt8} {o:Except Int (List Tk)} (h:ky L l o) :∀{o'},ky L l o'→o=o':=by
 induction h with
 | lF h1 =>
  intro o' h';cases h' with
  | lF g1=>cases h1.s5 g1;rfl
  | pb g1=>cases h1.s5 g1
  | eof g1=>cases h1.s5 g1
  | step g1=>cases h1.s5 g1
 | pb h1 h2 =>
  intro o' h';cases h' with
  | lF g1=>cases h1.s5 g1
  | pb g1=>cases h1.s5 g1;rfl
  | eof g1=>cases h1.s5 g1;cases h2
  | step g1 _ g3=>cases h1.s5 g1;cases h2.s5 g3
 | eof h1 =>
  intro o' h';cases h' with
  | lF g1=>cases h1.s5 g1
  | pb g1 g2=>cases h1.s5 g1;cases g2
  | eof g1=>rfl
  | step g1 g2=>cases h1.s5 g1;exact absurd rfl g2
 | step h1 h2 h3 h4 ih =>
  intro o' h';cases h' with
  | lF g1=>cases h1.s5 g1
  | pb g1 g2=>cases h1.s5 g1;cases h3.s5 g2
  | eof g1=>cases h1.s5 g1;exact absurd rfl h2
  | step g1 g2 g3 g4 =>
   cases h1.s5 g1;cases h3.s5 g3;rw[ih g4]
theorem VN (l:List UInt8):opn l≤l.length:=by unfold opn;split<;>(try split)<;>omega
theorem VO (l:List UInt8):(Lib.cut l [10]).1=l.takeWhile (fun c=>c != 10):=by
 unfold Lib.cut;rw[Lib.index_one];induction l with
 | nil=>rfl
 | cons a t ih =>
  unfold Lib.indexByte;by_cases h:a=10
  ·subst h;simp
  ·have hb:(a == 10)=false:=by simpa using h
   simp only[List.takeWhile_cons,bne,hb,Bool.not_false];by_cases h1:0≤Lib.indexByte t 10
   ·rw[al h1] at ih
    have e:(Lib.indexByte t 10 == -1)=false:=by simpa using (by omega:Lib.indexByte t 10≠-1)
    simp only[e,J5,if_false,sy];rw[al (by omega)]
    rw[show(Lib.indexByte t 10+1).toNat=(Lib.indexByte t 10).toNat+1 by omega,List.take_succ_cons]
    simp only[bne] at ih;rw[←ih]
   ·rw[af h1] at ih
    have hge:=Lib.index_ge t [10];rw[Lib.index_one] at hge;have e:Lib.indexByte t 10 = -1:=by omega
    simp[e];simp only[bne] at ih;simpa using ih
theorem gh {c x:UInt8} (r:List UInt8) (e:vT c=some x):o9 c r=some ([x],r):=by unfold o9;rw[e]
theorem kP {c:UInt8} (r:List UInt8) (e:vT c=none) (h:pZ c=true):o9 c r=some ([c],r):=by unfold o9;rw[e];exact al h
theorem Kj {c:UInt8} (r:List UInt8) (e:vT c=none) (h:pZ c=false) (h2:c.toNat=122):o9 c r=some ([],r.dropWhile sZ):=by
 unfold o9;rw[e];exact(af (by rw[h];decide)).trans (al h2)
theorem Kk {c:UInt8} (r:List UInt8) (e:vT c=none) (h:pZ c=false) (h2:c.toNat=120):o9 c r=code 16 zo 2 2 r:=by
 unfold o9;rw[e];exact(af (by rw[h];decide)).trans ((af (by omega)).trans (al h2))
theorem Kl {c:UInt8} (r:List UInt8) (e:vT c=none) (h:pZ c=false) (h2:c.toNat≠122) (h3:c.toNat≠120) (h4:gr c=true):o9 c r=code 10 gr 1 3 (c::r):=by
 unfold o9;rw[e];exact(af (by rw[h];decide)).trans ((af h2).trans ((af h3).trans (al h4)))
theorem Ex {c:UInt8} (r:List UInt8) (e:vT c=none) (h:pZ c=false) (h2:c.toNat≠122) (h3:c.toNat≠120) (h4:gr c=false):o9 c r=none:=by
 unfold o9;rw[e];exact(af (by rw[h];decide)).trans ((af h2).trans ((af h3).trans (af (by rw[h4];decide))))
open Go.RowKit
theorem Qj {a b:Int} (h:a=b):Ending.returned (.int .u64 a)=.returned (.int .u64 b):=by rw[h]
theorem VP (c:Nat):c<48∨(48≤c∧c≤57)∨(58≤c∧c≤64)∨(65≤c∧c≤90)∨(91≤c∧c≤96)∨(97≤c∧c≤122)∨123≤c:=by omega
theorem wH (c:Nat) (w:World) (h:c≤255) :
  Calls Tryz.prog 192 #[.int .u8 c] w fun e w'=>e=.returned (.int .u64 (oI c:Int))∧w=w':=by
 rcases VP c with h1|h1|h1|h1|h1|h1|h1;all_goals
  go_enter Tryz.func192,Tryz.ntmps192
  go_wp2
  go_ret
  refine⟨Qj ?_,rfl⟩;unfold oI;repeat (first|rw[al (by omega)]|rw[af (by omega)])
  first|rfl|omega
theorem ZV (c:UInt8):c.toNat≤255:=by have:=c.toNat_lt;omega
theorem VQ (s:ByteArray) (h:0<s.size):s.data.toList≠[]:=by
 intro e;have:=Lib.size_eq s;rw[e,List.length_nil] at this;omega
theorem Qk (s:ByteArray) (h:¬ 0<s.size):s.data.toList=[]:=by
 have:=Lib.size_eq s;exact ma (by omega)
theorem ue {b:Nat} {l:List UInt8} (h:l=[]):sX b l=false:=by subst h;rfl
theorem Ey {b:Nat} {l:List UInt8} (h:l≠[]) (h':iK b l=true):sX b l=true:=by
 unfold sX;cases l with
 | nil=>exact absurd rfl h
 | cons=>simpa using h'
theorem Ql {b:Nat} {l:List UInt8} {c:UInt8} (h:c∈l) (hc:b≤oI c.toNat):sX b l=false:=by
 unfold sX;rw[zQ h hc];simp
theorem lG {a a':Int} {o o':Bool} (h:a=a') (h':o=o'):Ending.returned (.tuple #[.int .u64 a,.bool o])=.returned (.tuple #[.int .u64 a',.bool o']):=by rw[h,h']
theorem Km (v b d:Nat):IntKind.u64.wrap (IntKind.u64.wrap ((v:Int) % 18446744073709551616*(b:Int))+(d:Int))=((v*b+d) % 18446744073709551616:Nat):=by
 rw[IntKind.wrap_u64,IntKind.wrap_u64];have e:(v:Int) % 18446744073709551616*(b:Int) % 18446744073709551616=(v*b:Int) % 18446744073709551616:=by
  rw[Int.mul_emod,Int.emod_emod_of_dvd _ (Int.dvd_refl _),←Int.mul_emod]
 rw[e];have:((v*b:Nat):Int)=(v*b:Int):=by simp
 rw[←this];omega
theorem kQ (s:ByteArray) (b:Nat) (w:World) (hs:s.size≤9223372036854775807) :
  Calls Tryz.prog 169 #[.string s,.int .u64 b] w fun e w'=>e=.returned (.tuple #[.int .u64 (Cy b s.data.toList:Int),.bool (sX b s.data.toList)])∧w=w':=by
 by_cases h0:0<s.size
 ·have hl:=VQ s h0
  have he:(s.toList.isEmpty)=false:=by rw[Lib.toList_data];simpa using hl
  have HL:=aa hl;clear hl;go_enter Tryz.func169,Tryz.ntmps169
  go_wp2
  go_loop [6,13] (fun n i=>∃k:Nat,k≤s.size∧i=.int .i64 k∧n=.int .u64 ((val b (s.data.toList.take k) % 18446744073709551616:Nat):Int)∧iK b (s.data.toList.take k)=true) (fun _ i=>s.size-(intOf i).toNat)
  case atStart=>exact⟨0,bB _,rfl,rfl,rfl⟩
  case round =>
   obtain⟨k,hk,rfl,rfl,ha⟩:=hrel;have HA:=aa ha;clear ha;by_cases hlt:k<s.size
   ·have iW:=aa (Gm s k hlt)
    by_cases hd:oI s[k].toNat<b
    ·have hm:val b (s.data.toList.take k) % 18446744073709551616<18446744073709551616:=Nat.mod_lt _ (by decide)
     have hvs:=aa (Ke b (s.data.toList.take k) s[k]);have has:=aa (Gl b (s.data.toList.take k) s[k]);generalize hv:val b (s.data.toList.take k)=v at hm hvs ⊢;clear hv;go_wp2_with (go_at_call 192;(with_reducible refine(wH _ _ (ZV _)).mono ?_);rintro e w' ⟨rfl,rfl⟩)
     go_round
     case rel=>exact⟨k+1,by omega,by go_num,by rw[iW.out,hvs.out];exact aB _ (Km v b _),by rw[iW.out,has.out,HA.out];simpa using hd⟩
     case measure=>simp[intOf];omega
    ·have pd:=aa (Ql (b:=b) (get_mem s k hlt) (by omega))
     go_wp2_with (go_at_call 192;(with_reducible refine(wH _ _ (ZV _)).mono ?_);rintro e w' ⟨rfl,rfl⟩)
     go_ret2
     exact⟨lG (by rw[x9 pd.out];rfl) pd.out.symm,rfl⟩
   ·have Eu:k=s.size:=by omega
    have ha:=HA.out;rw[Eu,Lib.size_eq,zH] at ha;have CD:=Ey HL.out ha;have HO:=aa CD;have HK:=aa Eu;clear CD Eu ha;go_wp2
    go_ret2
    exact⟨lG (by rw[Cz HO.out,HK.out,Lib.size_eq,zH];omega) HO.out.symm,rfl⟩
 ·have hl:=Qk s h0
  have he:(s.toList.isEmpty)=true:=by rw[Lib.toList_data,hl];rfl
  rw[x9 (ue hl),ue hl];clear hl;go_enter Tryz.func169,Tryz.ntmps169
  go_wp2
  all_goals
   go_ret2
   exact⟨rfl,rfl⟩
end Go.Proofs.YteflkdlaoiijbaaGreatDoor
open Go.Shelf
namespace Go.Proofs
def Tryz.zS:Go.Shelf.Ren:=⟨fun|161=>175|231=>196|227=>197|233=>198|235=>199|228=>219|197=>202|151=>220|260=>223|152=>232|137=>171|119=>237|224=>215|225=>214|217=>193|266=>217|n=>n,fun|9=>9|4=>4|3=>3|5=>5|117=>266|116=>265|0=>0|124=>269|105=>275|21=>21|119=>291|46=>282|139=>294|138=>293|n=>n,fun|3=>2|4=>3|n=>n⟩
theorem Tryz.Qm:Go.Proofs.Lays.n161 Tryz.prog Tryz.zS:={
 mixed:=by kernel_rfl
 f119:=Tryz.func237.trans (aB some (by kernel_rfl))
 f137:=Tryz.func171.trans (aB some (by kernel_rfl))
 f151:=Tryz.func220.trans (aB some (by kernel_rfl))
 f152:=Tryz.func232.trans (aB some (by kernel_rfl))
 f161:=Tryz.func175.trans (aB some (by kernel_rfl))
 f197:=Tryz.func202.trans (aB some (by kernel_rfl))
 f217:=Tryz.func193.trans (aB some (by kernel_rfl))
 f224:=Tryz.func215.trans (aB some (by kernel_rfl))
 f225:=Tryz.func214.trans (aB some (by kernel_rfl))
 f227:=Tryz.func197.trans (aB some (by kernel_rfl))
 f228:=Tryz.func219.trans (aB some (by kernel_rfl))
 f231:=Tryz.func196.trans (aB some (by kernel_rfl))
 f233:=Tryz.func198.trans (aB some (by kernel_rfl))
 f235:=Tryz.func199.trans (aB some (by kernel_rfl))
 f260:=Tryz.func223.trans (aB some (by kernel_rfl))
 f266:=Tryz.func217.trans (aB some (by kernel_rfl))
 t0:=Tryz.underlying0
 a0:=Tryz.isAgg0
 z0:=Tryz.sizeOf0
 v0:=Tryz.zeroValue0
 t3:=Tryz.underlying3
 a3:=Tryz.isAgg3
 z3:=Tryz.sizeOf3
 v3:=Tryz.zeroValue3
 t4:=Tryz.underlying4
 a4:=Tryz.isAgg4
 z4:=Tryz.sizeOf4
 v4:=Tryz.zeroValue4
 t5:=Tryz.underlying5
 a5:=Tryz.isAgg5
 z5:=Tryz.sizeOf5
 v5:=Tryz.zeroValue5
 t9:=Tryz.underlying9
 a9:=Tryz.isAgg9
 z9:=Tryz.sizeOf9
 v9:=Tryz.zeroValue9
 t21:=Tryz.underlying21
 a21:=Tryz.isAgg21
 z21:=Tryz.sizeOf21
 v21:=Tryz.zeroValue21
 t46:=Tryz.underlying282
 a46:=Tryz.isAgg282
 z46:=Tryz.sizeOf282
 v46:=Tryz.zeroValue282
 t105:=Tryz.underlying275
 a105:=Tryz.isAgg275
 z105:=Tryz.sizeOf275
 v105:=Tryz.zeroValue275
 t116:=Tryz.underlying265
 a116:=Tryz.isAgg265
 z116:=Tryz.sizeOf265
 t117:=Tryz.underlying266
 a117:=Tryz.isAgg266
 z117:=Tryz.sizeOf266
 v117:=Tryz.zeroValue266
 t119:=Tryz.underlying291
 a119:=Tryz.isAgg291
 z119:=Tryz.sizeOf291
 t124:=Tryz.underlying269
 a124:=Tryz.isAgg269
 z124:=Tryz.sizeOf269
 v124:=Tryz.zeroValue269
 t138:=Tryz.underlying293
 a138:=Tryz.isAgg293
 z138:=Tryz.sizeOf293
 v138:=Tryz.zeroValue293
 t139:=Tryz.underlying294
 a139:=Tryz.isAgg294
 z139:=Tryz.sizeOf294
 v139:=Tryz.zeroValue294
 g3:=by kernel_rfl
 g4:=by kernel_rfl}
open Go.RowKit in
theorem Tryz.strings_TrimLeft_one (s:ByteArray) (c:UInt8) (hc:c.toNat<128) (w:World) :
  Calls Tryz.prog 175 #[.string s,.string ⟨#[c]⟩] w fun e w'=>e=.returned (.string ⟨(Lib.trimLeftB s.data.toList c).toArray⟩)∧w'=w:=Any.strings_TrimLeft_one Tryz.Qm s c hc w
def Tryz.zT:Go.Shelf.Ren:=⟨fun|160=>218|232=>229|231=>196|227=>197|234=>230|233=>198|236=>231|235=>199|228=>219|271=>236|151=>220|197=>202|120=>240|152=>232|260=>223|137=>171|119=>237|224=>215|225=>214|217=>193|266=>217|n=>n,fun|9=>9|4=>4|3=>3|5=>5|117=>266|116=>265|0=>0|124=>269|21=>21|105=>275|46=>282|119=>291|139=>294|138=>293|n=>n,fun|3=>2|4=>3|n=>n⟩
theorem Tryz.Qn:Go.Proofs.Lays.n160 Tryz.prog Tryz.zT:={
 mixed:=by kernel_rfl
 f119:=Tryz.func237.trans (aB some (by kernel_rfl))
 f120:=Tryz.func240.trans (aB some (by kernel_rfl))
 f137:=Tryz.func171.trans (aB some (by kernel_rfl))
 f151:=Tryz.func220.trans (aB some (by kernel_rfl))
 f152:=Tryz.func232.trans (aB some (by kernel_rfl))
 f160:=Tryz.func218.trans (aB some (by kernel_rfl))
 f197:=Tryz.func202.trans (aB some (by kernel_rfl))
 f217:=Tryz.func193.trans (aB some (by kernel_rfl))
 f224:=Tryz.func215.trans (aB some (by kernel_rfl))
 f225:=Tryz.func214.trans (aB some (by kernel_rfl))
 f227:=Tryz.func197.trans (aB some (by kernel_rfl))
 f228:=Tryz.func219.trans (aB some (by kernel_rfl))
 f231:=Tryz.func196.trans (aB some (by kernel_rfl))
 f232:=Tryz.func229.trans (aB some (by kernel_rfl))
 f233:=Tryz.func198.trans (aB some (by kernel_rfl))
 f234:=Tryz.func230.trans (aB some (by kernel_rfl))
 f235:=Tryz.func199.trans (aB some (by kernel_rfl))
 f236:=Tryz.func231.trans (aB some (by kernel_rfl))
 f260:=Tryz.func223.trans (aB some (by kernel_rfl))
 f266:=Tryz.func217.trans (aB some (by kernel_rfl))
 f271:=Tryz.func236.trans (aB some (by kernel_rfl))
 t0:=Tryz.underlying0
 a0:=Tryz.isAgg0
 z0:=Tryz.sizeOf0
 v0:=Tryz.zeroValue0
 t3:=Tryz.underlying3
 a3:=Tryz.isAgg3
 z3:=Tryz.sizeOf3
 v3:=Tryz.zeroValue3
 t4:=Tryz.underlying4
 a4:=Tryz.isAgg4
 z4:=Tryz.sizeOf4
 v4:=Tryz.zeroValue4
 t5:=Tryz.underlying5
 a5:=Tryz.isAgg5
 z5:=Tryz.sizeOf5
 v5:=Tryz.zeroValue5
 t9:=Tryz.underlying9
 a9:=Tryz.isAgg9
 z9:=Tryz.sizeOf9
 v9:=Tryz.zeroValue9
 t21:=Tryz.underlying21
 a21:=Tryz.isAgg21
 z21:=Tryz.sizeOf21
 v21:=Tryz.zeroValue21
 t46:=Tryz.underlying282
 a46:=Tryz.isAgg282
 z46:=Tryz.sizeOf282
 v46:=Tryz.zeroValue282
 t105:=Tryz.underlying275
 a105:=Tryz.isAgg275
 z105:=Tryz.sizeOf275
 v105:=Tryz.zeroValue275
 t116:=Tryz.underlying265
 a116:=Tryz.isAgg265
 z116:=Tryz.sizeOf265
 t117:=Tryz.underlying266
 a117:=Tryz.isAgg266
 z117:=Tryz.sizeOf266
 v117:=Tryz.zeroValue266
 t119:=Tryz.underlying291
 a119:=Tryz.isAgg291
 z119:=Tryz.sizeOf291
 t124:=Tryz.underlying269
 a124:=Tryz.isAgg269
 z124:=Tryz.sizeOf269
 v124:=Tryz.zeroValue269
 t138:=Tryz.underlying293
 a138:=Tryz.isAgg293
 z138:=Tryz.sizeOf293
 v138:=Tryz.zeroValue293
 t139:=Tryz.underlying294
 a139:=Tryz.isAgg294
 z139:=Tryz.sizeOf294
 v139:=Tryz.zeroValue294
 g3:=by kernel_rfl
 g4:=by kernel_rfl}
def Tryz.zU:Go.Shelf.Ren:=⟨fun|137=>171|217=>193|266=>217|n=>n,fun|9=>9|5=>5|3=>3|n=>n,fun|n=>n⟩
theorem Tryz.Qo:Go.Proofs.Lays.n137 Tryz.prog Tryz.zU:={
 mixed:=by kernel_rfl
 f137:=Tryz.func171.trans (aB some (by kernel_rfl))
 f217:=Tryz.func193.trans (aB some (by kernel_rfl))
 f266:=Tryz.func217.trans (aB some (by kernel_rfl))
 t3:=Tryz.underlying3
 a3:=Tryz.isAgg3
 z3:=Tryz.sizeOf3
 v3:=Tryz.zeroValue3
 t5:=Tryz.underlying5
 a5:=Tryz.isAgg5
 z5:=Tryz.sizeOf5
 v5:=Tryz.zeroValue5
 t9:=Tryz.underlying9
 a9:=Tryz.isAgg9
 z9:=Tryz.sizeOf9
 v9:=Tryz.zeroValue9}
open Go.RowKit in
theorem Tryz.strings_IndexByte (s:ByteArray) (c:Int) (w:World) :
  Calls Tryz.prog 171 #[.string s,.int .u8 c] w fun e w'=>e=.returned (.int .i64 (Lib.indexByte s.data.toList c.toNat.toUInt8))∧w'=w:=Any.strings_IndexByte Tryz.Qo s c w
def Tryz.zV:Go.Shelf.Ren:=⟨fun|103=>174|210=>195|206=>132|n=>n,fun|9=>9|4=>4|24=>160|3=>3|n=>n,fun|n=>n⟩
theorem Tryz.Qp:Go.Proofs.Lays.n103 Tryz.prog Tryz.zV:={
 mixed:=by kernel_rfl
 f103:=Tryz.func174.trans (aB some (by kernel_rfl))
 f206:=Tryz.func132.trans (aB some (by kernel_rfl))
 f210:=Tryz.func195.trans (aB some (by kernel_rfl))
 t3:=Tryz.underlying3
 a3:=Tryz.isAgg3
 z3:=Tryz.sizeOf3
 v3:=Tryz.zeroValue3
 t4:=Tryz.underlying4
 a4:=Tryz.isAgg4
 z4:=Tryz.sizeOf4
 v4:=Tryz.zeroValue4
 t9:=Tryz.underlying9
 a9:=Tryz.isAgg9
 z9:=Tryz.sizeOf9
 v9:=Tryz.zeroValue9
 t24:=Tryz.underlying160
 a24:=Tryz.isAgg160
 z24:=Tryz.sizeOf160
 v24:=Tryz.zeroValue160}
open Go.RowKit in
theorem Tryz.strings_CutPrefix (s p:ByteArray) (w:World) :
  Calls Tryz.prog 174 #[.string s,.string p] w fun e w'=>e=.returned (.tuple #[.string ⟨(Lib.trimPrefix s.data.toList p.data.toList).toArray⟩,.bool (Lib.hasPrefix s.data.toList p.data.toList)])∧w'=w:=Any.strings_CutPrefix Tryz.Qp s p w
def Tryz.zW:Go.Shelf.Ren:=⟨fun|145=>133|220=>168|219=>191|217=>193|225=>214|224=>215|267=>216|266=>217|314=>228|n=>n,fun|9=>9|4=>4|59=>211|3=>3|5=>5|46=>282|146=>286|51=>285|n=>n,fun|1=>1|n=>n⟩
theorem Tryz.Qq:Go.Proofs.Lays.n145 Tryz.prog Tryz.zW:={
 mixed:=by kernel_rfl
 f145:=Tryz.func133.trans (aB some (by kernel_rfl))
 f217:=Tryz.func193.trans (aB some (by kernel_rfl))
 f219:=Tryz.func191.trans (aB some (by kernel_rfl))
 f220:=Tryz.func168.trans (aB some (by kernel_rfl))
 f224:=Tryz.func215.trans (aB some (by kernel_rfl))
 f225:=Tryz.func214.trans (aB some (by kernel_rfl))
 f266:=Tryz.func217.trans (aB some (by kernel_rfl))
 f267:=Tryz.func216.trans (aB some (by kernel_rfl))
 f314:=Tryz.func228.trans (aB some (by kernel_rfl))
 t3:=Tryz.underlying3
 a3:=Tryz.isAgg3
 z3:=Tryz.sizeOf3
 v3:=Tryz.zeroValue3
 t4:=Tryz.underlying4
 a4:=Tryz.isAgg4
 z4:=Tryz.sizeOf4
 v4:=Tryz.zeroValue4
 t5:=Tryz.underlying5
 a5:=Tryz.isAgg5
 z5:=Tryz.sizeOf5
 v5:=Tryz.zeroValue5
 t9:=Tryz.underlying9
 a9:=Tryz.isAgg9
 z9:=Tryz.sizeOf9
 v9:=Tryz.zeroValue9
 t46:=Tryz.underlying282
 a46:=Tryz.isAgg282
 z46:=Tryz.sizeOf282
 v46:=Tryz.zeroValue282
 t51:=Tryz.underlying285
 a51:=Tryz.isAgg285
 z51:=Tryz.sizeOf285
 v51:=Tryz.zeroValue285
 t59:=Tryz.underlying211
 a59:=Tryz.isAgg211
 z59:=Tryz.sizeOf211
 v59:=Tryz.zeroValue211
 t146:=Tryz.underlying286
 a146:=Tryz.isAgg286
 z146:=Tryz.sizeOf286
 v146:=Tryz.zeroValue286
 g1:=by kernel_rfl}
open Go.RowKit Go.Lib in
theorem Tryz.strings_Cut (s sep:ByteArray) (m:Int) (w:World) (hs:s.size<4294967281) (hm:w.cell? ⟨1,0,none⟩=some (.int .i64 m)) :
  Calls Tryz.prog 133 #[.string s,.string sep] w fun e w'=>e=.returned (.tuple #[.string ⟨(Lib.cut s.data.toList sep.data.toList).1.toArray⟩,.string ⟨(Lib.cut s.data.toList sep.data.toList).2.1.toArray⟩,.bool (Lib.cut s.data.toList sep.data.toList).2.2])∧∃n,w'=w.drewN n:=Any.strings_Cut Tryz.Qq s sep m w hs hm
def Tryz.zX:Go.Shelf.Ren:=⟨fun|138=>131|195=>165|218=>166|143=>167|219=>191|217=>193|225=>214|224=>215|267=>216|266=>217|314=>228|n=>n,fun|9=>9|3=>3|4=>4|5=>5|0=>0|46=>282|146=>286|51=>285|n=>n,fun|1=>1|n=>n⟩
theorem Tryz.Qr:Go.Proofs.Lays.n138 Tryz.prog Tryz.zX:={
 mixed:=by kernel_rfl
 f138:=Tryz.func131.trans (aB some (by kernel_rfl))
 f143:=Tryz.func167.trans (aB some (by kernel_rfl))
 f195:=Tryz.func165.trans (aB some (by kernel_rfl))
 f217:=Tryz.func193.trans (aB some (by kernel_rfl))
 f218:=Tryz.func166.trans (aB some (by kernel_rfl))
 f219:=Tryz.func191.trans (aB some (by kernel_rfl))
 f224:=Tryz.func215.trans (aB some (by kernel_rfl))
 f225:=Tryz.func214.trans (aB some (by kernel_rfl))
 f266:=Tryz.func217.trans (aB some (by kernel_rfl))
 f267:=Tryz.func216.trans (aB some (by kernel_rfl))
 f314:=Tryz.func228.trans (aB some (by kernel_rfl))
 t0:=Tryz.underlying0
 a0:=Tryz.isAgg0
 z0:=Tryz.sizeOf0
 v0:=Tryz.zeroValue0
 t3:=Tryz.underlying3
 a3:=Tryz.isAgg3
 z3:=Tryz.sizeOf3
 v3:=Tryz.zeroValue3
 t4:=Tryz.underlying4
 a4:=Tryz.isAgg4
 z4:=Tryz.sizeOf4
 v4:=Tryz.zeroValue4
 t5:=Tryz.underlying5
 a5:=Tryz.isAgg5
 z5:=Tryz.sizeOf5
 v5:=Tryz.zeroValue5
 t9:=Tryz.underlying9
 a9:=Tryz.isAgg9
 z9:=Tryz.sizeOf9
 v9:=Tryz.zeroValue9
 t46:=Tryz.underlying282
 a46:=Tryz.isAgg282
 z46:=Tryz.sizeOf282
 v46:=Tryz.zeroValue282
 t51:=Tryz.underlying285
 a51:=Tryz.isAgg285
 z51:=Tryz.sizeOf285
 v51:=Tryz.zeroValue285
 t146:=Tryz.underlying286
 a146:=Tryz.isAgg286
 z146:=Tryz.sizeOf286
 v146:=Tryz.zeroValue286
 g1:=by kernel_rfl}
open Go.RowKit Go.Lib in
theorem Tryz.strings_Count_one (s:ByteArray) (c:UInt8) (w:World) :
  Calls Tryz.prog 131 #[.string s,.string ⟨#[c]⟩] w fun e w'=>e=.returned (.int .i64 (Lib.countByte s.data.toList c))∧w'=w:=Any.strings_Count_one Tryz.Qr s c w
def Tryz.CE:Go.Shelf.Ren:=⟨fun|99=>71|206=>132|n=>n,fun|9=>9|4=>4|3=>3|n=>n,fun|n=>n⟩
theorem Tryz.VR:Go.Proofs.Lays.n99 Tryz.prog Tryz.CE:={
 mixed:=by kernel_rfl
 f99:=Tryz.func71.trans (aB some (by kernel_rfl))
 f206:=Tryz.func132.trans (aB some (by kernel_rfl))
 t3:=Tryz.underlying3
 a3:=Tryz.isAgg3
 z3:=Tryz.sizeOf3
 v3:=Tryz.zeroValue3
 t4:=Tryz.underlying4
 a4:=Tryz.isAgg4
 z4:=Tryz.sizeOf4
 v4:=Tryz.zeroValue4
 t9:=Tryz.underlying9
 a9:=Tryz.isAgg9
 z9:=Tryz.sizeOf9
 v9:=Tryz.zeroValue9}
open Go.RowKit Go.Lib in
theorem Tryz.strings_HasPrefix (s p:ByteArray) (w:World) :
  Calls Tryz.prog 71 #[.string s,.string p] w fun e w'=>e=.returned (.bool (Lib.hasPrefix s.data.toList p.data.toList))∧w'=w:=Any.strings_HasPrefix Tryz.VR s p w
def Tryz.zY:Go.Shelf.Ren:=⟨fun|101=>140|208=>177|206=>132|n=>n,fun|9=>9|4=>4|3=>3|n=>n,fun|n=>n⟩
theorem Tryz.Qs:Go.Proofs.Lays.n101 Tryz.prog Tryz.zY:={
 mixed:=by kernel_rfl
 f101:=Tryz.func140.trans (aB some (by kernel_rfl))
 f206:=Tryz.func132.trans (aB some (by kernel_rfl))
 f208:=Tryz.func177.trans (aB some (by kernel_rfl))
 t3:=Tryz.underlying3
 a3:=Tryz.isAgg3
 z3:=Tryz.sizeOf3
 v3:=Tryz.zeroValue3
 t4:=Tryz.underlying4
 a4:=Tryz.isAgg4
 z4:=Tryz.sizeOf4
 v4:=Tryz.zeroValue4
 t9:=Tryz.underlying9
 a9:=Tryz.isAgg9
 z9:=Tryz.sizeOf9
 v9:=Tryz.zeroValue9}
open Go.RowKit Go.Lib in
theorem Tryz.strings_TrimPrefix (s p:ByteArray) (w:World) :
  Calls Tryz.prog 140 #[.string s,.string p] w fun e w'=>e=.returned (.string ⟨(Lib.trimPrefix s.data.toList p.data.toList).toArray⟩)∧w'=w:=Any.strings_TrimPrefix Tryz.Qs s p w
def Tryz.sD:Go.Shelf.Ren:=⟨fun|155=>139|154=>176|138=>131|165=>200|143=>167|166=>201|197=>202|169=>203|195=>165|218=>166|240=>221|241=>222|219=>191|260=>223|276=>233|277=>234|217=>193|225=>214|224=>215|267=>216|266=>217|314=>228|n=>n,fun|9=>9|3=>3|4=>4|72=>272|0=>0|76=>72|105=>275|21=>21|5=>5|70=>270|20=>20|37=>216|75=>27|127=>284|164=>127|46=>282|119=>291|139=>294|138=>293|146=>286|51=>285|80=>121|n=>n,fun|1=>1|3=>2|4=>3|n=>n⟩
theorem Tryz.Qt:Go.Proofs.Lays.n155 Tryz.prog Tryz.sD:={
 mixed:=by kernel_rfl
 f138:=Tryz.func131.trans (aB some (by kernel_rfl))
 f143:=Tryz.func167.trans (aB some (by kernel_rfl))
 f154:=Tryz.func176.trans (aB some (by kernel_rfl))
 f155:=Tryz.func139.trans (aB some (by kernel_rfl))
 f165:=Tryz.func200.trans (aB some (by kernel_rfl))
 f166:=Tryz.func201.trans (aB some (by kernel_rfl))
 f169:=Tryz.func203.trans (aB some (by kernel_rfl))
 f195:=Tryz.func165.trans (aB some (by kernel_rfl))
 f197:=Tryz.func202.trans (aB some (by kernel_rfl))
 f217:=Tryz.func193.trans (aB some (by kernel_rfl))
 f218:=Tryz.func166.trans (aB some (by kernel_rfl))
 f219:=Tryz.func191.trans (aB some (by kernel_rfl))
 f224:=Tryz.func215.trans (aB some (by kernel_rfl))
 f225:=Tryz.func214.trans (aB some (by kernel_rfl))
 f240:=Tryz.func221.trans (aB some (by kernel_rfl))
 f241:=Tryz.func222.trans (aB some (by kernel_rfl))
 f260:=Tryz.func223.trans (aB some (by kernel_rfl))
 f266:=Tryz.func217.trans (aB some (by kernel_rfl))
 f267:=Tryz.func216.trans (aB some (by kernel_rfl))
 f276:=Tryz.func233.trans (aB some (by kernel_rfl))
 f277:=Tryz.func234.trans (aB some (by kernel_rfl))
 f314:=Tryz.func228.trans (aB some (by kernel_rfl))
 t0:=Tryz.underlying0
 a0:=Tryz.isAgg0
 z0:=Tryz.sizeOf0
 v0:=Tryz.zeroValue0
 t3:=Tryz.underlying3
 a3:=Tryz.isAgg3
 z3:=Tryz.sizeOf3
 v3:=Tryz.zeroValue3
 t4:=Tryz.underlying4
 a4:=Tryz.isAgg4
 z4:=Tryz.sizeOf4
 v4:=Tryz.zeroValue4
 t5:=Tryz.underlying5
 a5:=Tryz.isAgg5
 z5:=Tryz.sizeOf5
 v5:=Tryz.zeroValue5
 t9:=Tryz.underlying9
 a9:=Tryz.isAgg9
 z9:=Tryz.sizeOf9
 v9:=Tryz.zeroValue9
 t20:=Tryz.underlying20
 a20:=Tryz.isAgg20
 z20:=Tryz.sizeOf20
 v20:=Tryz.zeroValue20
 t21:=Tryz.underlying21
 a21:=Tryz.isAgg21
 z21:=Tryz.sizeOf21
 v21:=Tryz.zeroValue21
 t37:=Tryz.underlying216
 a37:=Tryz.isAgg216
 z37:=Tryz.sizeOf216
 v37:=Tryz.zeroValue216
 t46:=Tryz.underlying282
 a46:=Tryz.isAgg282
 z46:=Tryz.sizeOf282
 v46:=Tryz.zeroValue282
 t51:=Tryz.underlying285
 a51:=Tryz.isAgg285
 z51:=Tryz.sizeOf285
 v51:=Tryz.zeroValue285
 t70:=Tryz.underlying270
 a70:=Tryz.isAgg270
 z70:=Tryz.sizeOf270
 v70:=Tryz.zeroValue270
 t72:=Tryz.underlying272
 a72:=Tryz.isAgg272
 z72:=Tryz.sizeOf272
 v72:=Tryz.zeroValue272
 t75:=Tryz.underlying27
 a75:=Tryz.isAgg27
 z75:=Tryz.sizeOf27
 v75:=Tryz.zeroValue27
 t76:=Tryz.underlying72
 a76:=Tryz.isAgg72
 z76:=Tryz.sizeOf72
 v76:=Tryz.zeroValue72
 t105:=Tryz.underlying275
 a105:=Tryz.isAgg275
 z105:=Tryz.sizeOf275
 v105:=Tryz.zeroValue275
 t119:=Tryz.underlying291
 a119:=Tryz.isAgg291
 z119:=Tryz.sizeOf291
 t127:=Tryz.underlying284
 a127:=Tryz.isAgg284
 z127:=Tryz.sizeOf284
 v127:=Tryz.zeroValue284
 t138:=Tryz.underlying293
 a138:=Tryz.isAgg293
 z138:=Tryz.sizeOf293
 v138:=Tryz.zeroValue293
 t139:=Tryz.underlying294
 a139:=Tryz.isAgg294
 z139:=Tryz.sizeOf294
 v139:=Tryz.zeroValue294
 t146:=Tryz.underlying286
 a146:=Tryz.isAgg286
 z146:=Tryz.sizeOf286
 v146:=Tryz.zeroValue286
 t164:=Tryz.underlying127
 a164:=Tryz.isAgg127
 z164:=Tryz.sizeOf127
 v164:=Tryz.zeroValue127
 g1:=by kernel_rfl
 g3:=by kernel_rfl
 g4:=by kernel_rfl}
theorem Tryz.p7:Builder.Extra Tryz.prog Tryz.sD:={
 sizeBuilder:=by kernel_rfl
 liesBuilder:=by kernel_rfl
 t5:=Tryz.underlying5
 a5:=Tryz.isAgg5
 z5:=Tryz.sizeOf5
 v5:=Tryz.zeroValue5
 infoByte:=by kernel_rfl
 cellsByte:=by kernel_rfl
 sizeByte:=by kernel_rfl
 neB5:=by decide}
open Go.RowKit Go.Lib in
theorem Tryz.strings_ReplaceAll (s old new:ByteArray) (m:Int) (w:World) (hs:s.size<4294967281) (hm:w.cell? ⟨1,0,none⟩=some (.int .i64 m)) (h1:1≤old.size) (hlen:s.size+Lib.countB s old*new.size≤140737488355328) :
  Calls Tryz.prog 139 #[.string s,.string old,.string new] w fun e w' =>
   e=.returned (.string ⟨(Lib.replaceAll s.data.toList old.data.toList new.data.toList).toArray⟩)∧Below w.heap.size w w':=Any.strings_ReplaceAll Tryz.Qt Tryz.p7 s old new m w hs hm h1 hlen
end Go.Proofs
namespace Go.Proofs.YteflkdlaoiijbaaGreatDoor
open Go.RowKit
theorem CF {a a':Int} {o o':Bool} (h:a=a') (h':o=o'):Ending.returned (.tuple #[.int .i64 a,.bool o])=.returned (.tuple #[.int .i64 a',.bool o']):=by rw[h,h']
theorem Kn (s:ByteArray) (w:World):Calls Tryz.prog 175 #[.string s,.string ⟨#[48]⟩] w fun e w'=>e=.returned (.string ⟨(Lib.trimLeftB s.data.toList 48).toArray⟩)∧w=w' :=
 (Tryz.strings_TrimLeft_one s 48 (by decide) w).mono fun _ _ ⟨h,h'⟩=>⟨h,h'.symm⟩
theorem Ko (s:ByteArray) (b:Nat) (w:World) (hs:s.size≤9223372036854775807) (h:sX b s.data.toList=false) :
  Calls Tryz.prog 169 #[.string s,.int .u64 b] w fun e w'=>e=.returned (.tuple #[.int .u64 0,.bool false])∧w=w':=by
 have hc:=kQ s b w hs;rw[x9 h,h] at hc;exact hc
theorem wI (s:ByteArray) (b:Nat) (w:World) (hs:s.size≤9223372036854775807) (h:sX b s.data.toList=true) :
  Calls Tryz.prog 169 #[.string s,.int .u64 b] w fun e w'=>e=.returned (.tuple #[.int .u64 (Cy b s.data.toList:Int),.bool true])∧w=w':=by
 have hc:=kQ s b w hs;rw[h] at hc;exact hc
theorem zZ (s:ByteArray) (m:Int) (w:World) (hs:s.size≤9223372036854775807) (hm:m≤9223372036854775808) :
  Calls Tryz.prog 170 #[.string s,.int .u64 m] w fun e w'=>e=.returned (.tuple #[.int .u64 (CB m s.data.toList:Int),.bool (pT m s.data.toList)])∧w=w':=by
 cases ho:sX 10 s.data.toList
 ·have HN:=aa (Kh (m:=m) ho)
  have HO:=aa ho;clear ho;go_enter Tryz.func170,Tryz.ntmps170
  go_wp2_with fail
  refine(Ko s 10 _ hs HO.out).mono ?_;rintro e w1 ⟨rfl,rfl⟩;go_wp2_with fail
  go_ret2
  exact⟨lG (by rw[ye HN.out];rfl) HN.out.symm,rfl⟩
 ·have HO:=aa ho
  by_cases hl:(Lib.trimLeftB s.data.toList 48).length≤19
  ·have HW:=aa (Gr ho hl)
   clear ho;obtain⟨v,hv⟩ :∃v:Int,v=(val 10 s.data.toList:Int):=⟨_,rfl⟩;have HV:=aa hv;have HC:=aa (fun(w:World)=>HV.out▸HW.out▸wI s 10 w hs HO.out)
   clear hv;by_cases hvm:v≤m
   ·have HN:=aa (Qh HO.out (HV.out▸hvm))
    go_enter Tryz.func170,Tryz.ntmps170
    go_wp2_with fail
    refine(HC.out _).mono ?_;rintro e w1 ⟨rfl,rfl⟩;go_wp2_with fail
    refine(Kn _ _).mono ?_;rintro e w2 ⟨rfl,rfl⟩;go_wp2_with fail
    go_ret2
    exact⟨lG (by rw[Qi HN.out];exact HV.out) HN.out.symm,rfl⟩
   ·have HN:=aa (Gt (HV.out▸Int.lt_of_not_ge hvm))
    go_enter Tryz.func170,Tryz.ntmps170
    go_wp2_with fail
    refine(HC.out _).mono ?_;rintro e w1 ⟨rfl,rfl⟩;go_wp2_with fail
    refine(Kn _ _).mono ?_;rintro e w2 ⟨rfl,rfl⟩;go_wp2_with fail
    go_ret2
    exact⟨lG (by rw[ye HN.out];rfl) HN.out.symm,rfl⟩
  ·have HN:=aa (Gs hm ho (Nat.lt_of_not_le hl))
   clear ho;go_enter Tryz.func170,Tryz.ntmps170
   go_wp2_with fail
   refine(wI s 10 _ hs HO.out).mono ?_;rintro e w1 ⟨rfl,rfl⟩;go_wp2_with fail
   refine(Kn _ _).mono ?_;rintro e w2 ⟨rfl,rfl⟩;go_wp2_with fail
   go_ret2
   exact⟨lG (by rw[ye HN.out];rfl) HN.out.symm,rfl⟩
theorem lH (s p:ByteArray) (w:World) (r:Bool) (h:Lib.hasPrefix s.data.toList p.data.toList=r):Calls Tryz.prog 71 #[.string s,.string p] w fun e w'=>e=.returned (.bool r)∧w=w' :=
 (Tryz.strings_HasPrefix s p w).mono fun _ _ ⟨a,b⟩=>⟨by rw[a,h],b.symm⟩
theorem uf (s:ByteArray) (k:Nat):(⟨(s.data.toList.drop k).toArray⟩:ByteArray)=s.extract k s.size:=by
 rw[Lib.extract_eq,sg (by rw[kL,Lib.size_eq];omega)]
theorem ZX {s:ByteArray} {a b:UInt8} (h:Lib.hasPrefix s.data.toList [a,b]=true):2≤s.size:=by
 rw[Lib.size_eq];unfold Lib.hasPrefix at h;match hs:s.data.toList,h with
 | [],h=>simp[List.isPrefixOf] at h
 | [_],h=>simp[List.isPrefixOf] at h
 | _::_::_,_=>simp
theorem VS {l:List UInt8} (h:Lib.hasPrefix l [48,120]=true):sY l=true:=by unfold sY;rw[h];rfl
theorem VU {l:List UInt8} (h:Lib.hasPrefix l [48,88]=true):sY l=true:=by unfold sY;rw[h];simp
theorem VV {l:List UInt8} (h:Lib.hasPrefix l [48,120]=false) (h':Lib.hasPrefix l [48,88]=false):sY l=false:=by unfold sY;rw[h,h'];rfl
theorem z7 {m:Int} {l:List UInt8} (h:sY l=true):pU m l=sX 16 (l.drop 2):=by unfold pU;simp[h]
theorem z8 {m:Int} {l:List UInt8} (h:sY l=true):ua m l=Cy 16 (l.drop 2):=by unfold ua;simp[h]
theorem Kq {m:Int} {l:List UInt8} (h:sY l=false):pU m l=pT m l:=by unfold pU;simp[h]
theorem Kr {m:Int} {l:List UInt8} (h:sY l=false):ua m l=CB m l:=by unfold ua;simp[h]
theorem ug (s:ByteArray) (k b:Nat) (w:World) (hs:s.size≤9223372036854775807) :
  Calls Tryz.prog 169 #[.string (s.extract k s.size),.int .u64 b] w fun e w'=>e=.returned (.tuple #[.int .u64 (Cy b (s.data.toList.drop k):Int),.bool (sX b (s.data.toList.drop k))])∧w=w':=by
 have h:=kQ ⟨(s.data.toList.drop k).toArray⟩ b w (by rw[Lib.size_mk,kL,←Lib.size_eq];omega)
 rw[uf] at h;rw[show(s.extract k s.size).data.toList=s.data.toList.drop k by rw[←uf]] at h
 exact h
theorem Aa (s:ByteArray) (m:Int) (w:World) (hs:s.size≤9223372036854775807) (hm:m≤9223372036854775808) :
  Calls Tryz.prog 136 #[.string s,.int .u64 m] w fun e w'=>e=.returned (.tuple #[.int .u64 (ua m s.data.toList:Int),.bool (pU m s.data.toList)])∧w=w':=by
 have HM:=aa hm;clear hm;cases h1:Lib.hasPrefix s.data.toList [48,120]
 ·cases h2:Lib.hasPrefix s.data.toList [48,88]
  ·have HX:=aa (VV h1 h2)
   have H1:=aa h1;have H2:=aa h2;clear h1 h2;go_enter Tryz.func136,Tryz.ntmps136
   go_wp2_with fail
   refine(lH _ _ _ _ H1.out).mono ?_;rintro e w1 ⟨rfl,rfl⟩;go_wp2_with fail
   refine(lH _ _ _ _ H2.out).mono ?_;rintro e w1 ⟨rfl,rfl⟩;go_wp2_with fail
   refine(zZ _ _ _ hs HM.out).mono ?_;rintro e w1 ⟨rfl,rfl⟩;go_wp2_with fail
   go_ret2
   exact⟨lG (by rw[Kr HX.out]) (Kq HX.out).symm,rfl⟩
  ·have HX:=aa (VU h2)
   have H1:=aa h1;have H2:=aa h2;have hz:=ZX h2;clear h1 h2;go_enter Tryz.func136,Tryz.ntmps136
   go_wp2_with fail
   refine(lH _ _ _ _ H1.out).mono ?_;rintro e w1 ⟨rfl,rfl⟩;go_wp2_with fail
   refine(lH _ _ _ _ H2.out).mono ?_;rintro e w1 ⟨rfl,rfl⟩;go_wp2_with fail
   refine(ug _ 2 16 _ hs).mono ?_;rintro e w1 ⟨rfl,rfl⟩;go_wp2_with fail
   go_ret2
   exact⟨lG (by rw[z8 HX.out]) (z7 HX.out).symm,rfl⟩
 ·have HX:=aa (VS h1)
  have H1:=aa h1;have hz:=ZX h1;clear h1;go_enter Tryz.func136,Tryz.ntmps136
  go_wp2_with fail
  refine(lH _ _ _ _ H1.out).mono ?_;rintro e w1 ⟨rfl,rfl⟩;go_wp2_with fail
  refine(ug _ 2 16 _ hs).mono ?_;rintro e w1 ⟨rfl,rfl⟩;go_wp2_with fail
  go_ret2
  exact⟨lG (by rw[z8 HX.out]) (z7 HX.out).symm,rfl⟩
theorem yh (n:Int):wrap64 n=zn n:=by unfold wrap64 zn;rfl
theorem Qu (n:Int):zn (IntKind.u64.wrap n)=zn n:=by rw[IntKind.wrap_u64];unfold zn;omega
theorem Ab (s:ByteArray) (w:World) (hs:s.size≤9223372036854775807) :
  Calls Tryz.prog 76 #[.string s] w fun e w'=>e=.returned (.tuple #[.int .i64 (zn (ua 9223372036854775807 s.data.toList:Int)),.bool (pU 9223372036854775807 s.data.toList)])∧w=w':=by
 go_enter Tryz.func76,Tryz.ntmps76
 go_wp2_with fail
 refine(Aa _ _ _ hs (by omega)).mono ?_;rintro e w1 ⟨rfl,rfl⟩
 go_wp2_with fail
 go_ret2
 exact⟨CF (by first|exact yh _|exact abO _) rfl,rfl⟩
theorem Ks (s:ByteArray) (w:World) (hs:s.size≤9223372036854775807) :
  Calls Tryz.prog 218 #[.string s,.string ⟨#[9,10,11,12,13,32]⟩] w fun e w'=>e=.returned (.string ⟨(Ev s.data.toList).toArray⟩)∧Below w.heap.size w w' :=
 Any.strings_Trim_laid Tryz.Qn (by kernel_rfl) s ⟨#[9,10,11,12,13,32]⟩ w hs (by decide) (ascii_of_all (by decide))
theorem Kt (s:ByteArray):(⟨(Ev s.data.toList).toArray⟩:ByteArray).size≤s.size:=by
 rw[Lib.size_mk,Lib.size_eq];exact VK _
theorem ZY (t:ByteArray) (w:World) (r:Bool) (h:yb t.data.toList=r) :
  Calls Tryz.prog 174 #[.string t,.string ⟨#[45]⟩] w fun e w'=>e=.returned (.tuple #[.string ⟨(Lib.trimPrefix t.data.toList [45]).toArray⟩,.bool r])∧w=w' :=
 (Tryz.strings_CutPrefix t ⟨#[45]⟩ w).mono fun _ _ ⟨a,b⟩=>⟨by rw[a,←h];rfl,b.symm⟩
theorem Ku (t:ByteArray) (p:List UInt8):(⟨(Lib.trimPrefix t.data.toList p).toArray⟩:ByteArray).size≤t.size:=by
 rw[Lib.size_mk,Lib.size_eq];exact Lib.trimPrefix_le _ _
theorem Kv {b:Int} {l:List UInt8} (h:¬ (2≤b∧b≤36)):pV b l=false:=by unfold pV;rw[af h]
theorem Kw {b:Int} {l:List UInt8} (h:¬ (2≤b∧b≤36)):kO b l=0:=by unfold kO;rw[af h]
theorem Gu (s:ByteArray) (b:Int) (w:World) (h:¬ (2≤b∧b≤36)) :
  Calls Tryz.prog 194 #[.string s,.int .i64 b] w fun e w'=>e=.returned (.tuple #[.int .i64 (kO b s.data.toList),.bool (pV b s.data.toList)])∧Below w.heap.size w w':=by
 rw[Kv h,Kw h];by_cases h1:b<2
 ·clear h
  go_enter Tryz.func194,Tryz.ntmps194
  go_wp2_with fail
  go_ret2
  exact⟨rfl,Below.refl _ _⟩
 ·have h2:36<b:=by omega
  clear h;go_enter Tryz.func194,Tryz.ntmps194
  go_wp2_with fail
  go_ret2
  exact⟨rfl,Below.refl _ _⟩
theorem Kx (s:ByteArray) (b:Nat) (w:World) (hs:s.size≤9223372036854775807) (h1:2≤b) (h2:b≤36) :
  Calls Tryz.prog 194 #[.string s,.int .i64 b] w fun e w'=>e=.returned (.tuple #[.int .i64 (kO b s.data.toList),.bool (pV b s.data.toList)])∧Below w.heap.size w w':=by
 have hz:=Kt s;have HT:=aa (show(⟨(Ev s.data.toList).toArray⟩:ByteArray).data.toList=Ev s.data.toList from rfl)
 have HC:=aa (Ks s · hs)
 generalize (⟨(Ev s.data.toList).toArray⟩:ByteArray)=t at hz HT HC;have hm:=Ku t [45];have ho:pV b s.data.toList=sX b (Lib.trimPrefix t.data.toList [45]):=by unfold pV;rw[←HT.out,al (by omega)];rfl
 have HO:=aa ho;clear ho;cases h:yb t.data.toList
 ·have HH:=aa h
  clear h;have hn:kO b s.data.toList=zn (Cy b (Lib.trimPrefix t.data.toList [45]):Int):=by unfold kO;rw[←HT.out,al (by omega),af (by rw[HH.out];exact gb)];rfl
  have HN:=aa hn;clear hn;go_enter Tryz.func194,Tryz.ntmps194
  go_wp2_with fail
  refine(HC.out _).mono ?_;rintro e w1 ⟨rfl,b1⟩;go_wp2_with fail
  refine(ZY _ _ _ HH.out).mono ?_;rintro e w2 ⟨rfl,rfl⟩;go_wp2_with fail
  refine(kQ _ b _ (by omega)).mono ?_;rintro e w2 ⟨rfl,rfl⟩
  go_wp2_with fail
  go_ret2
  exact⟨CF (by rw[HN.out];exact yh _) HO.out.symm,b1⟩
 ·have HH:=aa h
  clear h;have hn:kO b s.data.toList=zn (-(Cy b (Lib.trimPrefix t.data.toList [45]):Int)):=by unfold kO;rw[←HT.out,al (by omega),al HH.out];rfl
  have HN:=aa hn;clear hn;go_enter Tryz.func194,Tryz.ntmps194
  go_wp2_with fail
  refine(HC.out _).mono ?_;rintro e w1 ⟨rfl,b1⟩;go_wp2_with fail
  refine(ZY _ _ _ HH.out).mono ?_;rintro e w2 ⟨rfl,rfl⟩;go_wp2_with fail
  refine(kQ _ b _ (by omega)).mono ?_;rintro e w2 ⟨rfl,rfl⟩
  go_wp2_with fail
  go_ret2
  refine⟨CF ?_ HO.out.symm,b1⟩;rw[HN.out];exact(yh _).trans (Qu _)
theorem Um (s:ByteArray) (b:Int) (w:World) (hs:s.size≤9223372036854775807) :
  Calls Tryz.prog 194 #[.string s,.int .i64 b] w fun e w'=>e=.returned (.tuple #[.int .i64 (kO b s.data.toList),.bool (pV b s.data.toList)])∧Below w.heap.size w w':=by
 by_cases h:2≤b∧b≤36
 ·obtain⟨k,rfl⟩ :∃k:Nat,b=k:=⟨b.toNat,by omega⟩
  exact Kx s k w hs (by omega) (by omega)
 ·exact Gu s b w h
def Mx (w:World):Prop:=∃m:Int,w.cell? ⟨1,0,none⟩=some (.int .i64 m)
theorem Ky (s:ByteArray) (w:World):Calls Tryz.prog 131 #[.string s,.string ⟨#[10]⟩] w fun e w'=>e=.returned (.int .i64 (nl s.data.toList:Int))∧w=w' :=
 (Tryz.strings_Count_one s 10 w).mono fun _ _ ⟨a,b⟩=>⟨a,b.symm⟩
theorem Ac (f p:ByteArray) (w:World) (hs:f.size≤1000000) (h:Mx w):Calls Tryz.prog 133 #[.string f,.string p] w fun e w' =>
  e=.returned (.tuple #[.string ⟨(Lib.cut f.data.toList p.data.toList).1.toArray⟩,.string ⟨(Lib.cut f.data.toList p.data.toList).2.1.toArray⟩,.bool (Lib.cut f.data.toList p.data.toList).2.2])∧∃n,w'=w.drewN n:=by
 obtain⟨m,hm⟩:=h;exact Tryz.strings_Cut f p m w (by omega) hm
theorem rh (t p:ByteArray) (w:World):Calls Tryz.prog 174 #[.string t,.string p] w fun e w'=>e=.returned (.tuple #[.string ⟨(Lib.trimPrefix t.data.toList p.data.toList).toArray⟩,.bool (Lib.hasPrefix t.data.toList p.data.toList)])∧w=w' :=
 (Tryz.strings_CutPrefix t p w).mono fun _ _ ⟨a,b⟩=>⟨a,b.symm⟩
theorem Kz (s:ByteArray) (w:World):Calls Tryz.prog 175 #[.string s,.string ⟨#[61]⟩] w fun e w'=>e=.returned (.string ⟨(Lib.trimLeftB s.data.toList 61).toArray⟩)∧w=w' :=
 (Tryz.strings_TrimLeft_one s 61 (by decide) w).mono fun _ _ ⟨a,b⟩=>⟨a,b.symm⟩
theorem Gv (s:ByteArray) (w:World) (hs:s.size≤1000000) (h:Mx w):Calls Tryz.prog 139 #[.string s,.string ⟨#[91]⟩,.string ⟨#[93]⟩] w fun e w'=>e=.returned (.string ⟨(ZU s.data.toList).toArray⟩)∧Below w.heap.size w w':=by
 obtain⟨m,hm⟩:=h;have h1:=Lib.countB_le (⟨#[91]⟩:ByteArray) (by decide) s.size s (ah _)
 have h2:(⟨#[93]⟩:ByteArray).size=1:=rfl;exact Tryz.strings_ReplaceAll s ⟨#[91]⟩ ⟨#[93]⟩ m w (by omega) hm (by decide) (by rw[h2];omega)
theorem KC (t:ByteArray) (w:World):Calls Tryz.prog 140 #[.string t,.string ⟨#[10]⟩] w fun e w'=>e=.returned (.string ⟨(Lib.trimPrefix t.data.toList [10]).toArray⟩)∧w=w' :=
 (Tryz.strings_TrimPrefix t ⟨#[10]⟩ w).mono fun _ _ ⟨a,b⟩=>⟨a,b.symm⟩
theorem eU (s:ByteArray) (c:UInt8) (w:World):Calls Tryz.prog 171 #[.string s,.int .u8 (c.toNat:Int)] w fun e w'=>e=.returned (.int .i64 (Lib.indexByte s.data.toList c))∧w=w' :=
 (Tryz.strings_IndexByte s (c.toNat:Int) w).mono fun _ _ ⟨a,b⟩=>⟨by rw[a];congr 3;simp,b.symm⟩
def Kp (b:Nat) (w w':World):Prop:=w.grownBy w' (some b)
theorem Kp.refl (b:Nat) (w:World):Kp b w w:=World.grownBy.refl _ _
theorem Kp.trans {b:Nat} {u v w:World} (h:Kp b u v) (k:Kp b v w):Kp b u w:=World.grownBy.trans h k
theorem Kp.draws {b:Nat} {w w':World} (h:Kp b w w') (n:Nat):Kp b w (w'.drewN n):=⟨h.os,h.tape,h.output,h.size,h.block⟩
theorem Kp.ae {b:Nat} {w w':World} (h:Below w.heap.size w w'):Kp b w w':=⟨h.os,h.tape,h.output,h.size,fun k hk _=>h.block k hk⟩
theorem Kp.set {b:Nat} {w w':World} (h:Kp b w w') (o:Nat) (v:Value):Kp b w (w'.setCell ⟨b,o,none⟩ v) :=
 h.trans ⟨rfl,rfl,rfl,by simp[World.setCell],fun k _ hk=>Below.heap_setCell _ _ _ k (fun e=>hk (by rw[e]))⟩
theorem Kp.alloc {b:Nat} {w w':World} (h:Kp b w w') (o:Obj):Kp b w (w'.alloc o):=h.trans (World.grownBy_alloc _ _ _)
structure Rd (W:World) (b:Nat) (s:ByteArray) (k:Nat):Prop where
 blk:W.heap[b]? = some (.cells #[.string s,.int .i64 (k:Int),.int .i64 ((1+nl (s.data.toList.take k):Nat):Int)] 110 (0,0))
 le:k≤s.size
 top:s.size≤100000
 far:4≤b
 mx:Mx W
theorem Rd.lt {W:World} {b:Nat} {s:ByteArray} {k:Nat} (h:Rd W b s k):b<W.heap.size:=(aF.1 h.blk).1
theorem Rd.c0 {W:World} {b:Nat} {s:ByteArray} {k:Nat} (h:Rd W b s k):W.cell? ⟨b,0,none⟩=some (.string s):=by simp[World.cell?,h.blk]
theorem Rd.c1 {W:World} {b:Nat} {s:ByteArray} {k:Nat} (h:Rd W b s k):W.cell? ⟨b,1,none⟩=some (.int .i64 (k:Int)):=by simp[World.cell?,h.blk]
theorem Rd.c2 {W:World} {b:Nat} {s:ByteArray} {k:Nat} (h:Rd W b s k):W.cell? ⟨b,2,none⟩=some (.int .i64 ((1+nl (s.data.toList.take k):Nat):Int)):=by simp[World.cell?,h.blk]
theorem Rd.f1 {W:World} {b:Nat} {s:ByteArray} {k:Nat} (h:Rd W b s k):W.frozen? ⟨b,1,none⟩=false:=by simp[World.frozen?,h.blk]
theorem Rd.f2 {W:World} {b:Nat} {s:ByteArray} {k:Nat} (h:Rd W b s k):W.frozen? ⟨b,2,none⟩=false:=by simp[World.frozen?,h.blk]
theorem Mx.kp {b:Nat} {w w':World} (h:Mx w) (hb:4≤b) (hk:Kp b w w'):Mx w':=by
 obtain⟨m,hm⟩:=h;exact⟨m,World.grownBy.cell hk hm (by simp;omega)⟩
theorem Mx.below {w w':World} (h:Mx w) (hb:Below w.heap.size w w'):Mx w':=by
 obtain⟨m,hm⟩:=h;exact⟨m,(hb.cell (p:=⟨1,0,none⟩) (World.block_lt_of_cell? w _ hm)).trans hm⟩
theorem Rd.below {W W':World} {b:Nat} {s:ByteArray} {k:Nat} (h:Rd W b s k) (hb:Below W.heap.size W W'):Rd W' b s k :=
 ⟨(hb.block b h.lt).trans h.blk,h.le,h.top,h.far,h.mx.below hb⟩
theorem Rd.draws {W:World} {b:Nat} {s:ByteArray} {k:Nat} (h:Rd W b s k) (n:Nat):Rd (W.drewN n) b s k:=⟨h.blk,h.le,h.top,h.far,h.mx⟩
theorem Rd.alloc {W:World} {b:Nat} {s:ByteArray} {k:Nat} (h:Rd W b s k) (o:Obj):Rd (W.alloc o) b s k:=h.below ((Below.refl _ _).alloc (ah _) _)
theorem az (b:Nat) (s:ByteArray) (k:Nat) (w:World) (h:Rd w b s k) :
  Calls Tryz.prog 69 #[.pointer (some ⟨b,0,none⟩)] w fun e w'=>e=.returned (.string (s.extract k s.size))∧Rd w' b s k∧Kp b w w':=by
 have HR:=aa h;have c0:=h.c0;have c1:=h.c1;have hle:=h.le;have bG:=h.top;clear h;go_enter Tryz.func69,Tryz.ntmps69
 go_wp2
 go_quiet (fail)
 go_wp2
 go_ret
 exact⟨rfl,HR.out.draws _,(Kp.refl _ _).draws _⟩
theorem yi (s:ByteArray) (k:Nat):(s.extract k s.size).data.toList=s.data.toList.drop k:=by
 rw[JW];simp only[Array.toList_extract,List.extract_eq_take_drop];exact sg (by rw[kL];exact ah _)
theorem lI (s:ByteArray) (k c:Nat):(s.extract k (k+c)).data.toList=(s.data.toList.drop k).take c:=by
 rw[JW];simp
theorem KF (s:ByteArray) (k c:Nat):1+nl (s.data.toList.take k)+nl (s.extract k (k+c)).data.toList=1+nl (s.data.toList.take (k+c)):=by
 rw[lI,List.take_add,Ki];omega
theorem yj {W:World} {b:Nat} {a0 a1 a2:Value} {t:TypeId} (h:W.heap[b]? = some (.cells #[a0,a1,a2] t (0,0))) (v:Value) :
  (W.setCell ⟨b,1,none⟩ v).heap[b]? = some (.cells #[a0,v,a2] t (0,0))∧(W.setCell ⟨b,2,none⟩ v).heap[b]? = some (.cells #[a0,a1,v] t (0,0)):=by
 obtain⟨hlt,hk⟩:=aF.1 h;constructor
 ·show(W.heap.modify b _)[b]? = _
  rw[wm (by rw[zG];exact hlt),zz,hk]
  rfl
 ·show(W.heap.modify b _)[b]? = _
  rw[wm (by rw[zG];exact hlt),zz,hk]
  rfl
theorem Kp.drew {b:Nat} {w w':World} (h:Kp b w w'):Kp b w w'.drew:=⟨h.os,h.tape,h.output,h.size,h.block⟩
theorem Rd.moved {w:World} {b:Nat} {s:ByteArray} {k:Nat} (h:Rd w b s k) (c:Nat) (hc:k+c≤s.size) (nq:Nat) (x y:Int) (hx:x=((k+c:Nat):Int)) (hy:y=((1+nl (s.data.toList.take (k+c)):Nat):Int)) :
  Rd (((w.drewN nq).setCell ⟨b,1,none⟩ (.int .i64 x)).setCell ⟨b,2,none⟩ (.int .i64 y)).drew b s (k+c):=by
 have h0:(w.drewN nq).heap[b]? = some (.cells #[.string s,.int .i64 (k:Int),.int .i64 ((1+nl (s.data.toList.take k):Nat):Int)] 110 (0,0)):=h.blk;have h2:=(yj (yj h0 (.int .i64 x)).1 (.int .i64 y)).2;refine⟨?_,hc,h.top,h.far,?_⟩
 ·rw[hx,hy] at h2 ⊢
  exact h2
 ·exact h.mx.kp h.far ((((Kp.refl b w).draws nq).set 1 _).set 2 _).drew
theorem KG (w:World) (b nq:Nat) (x y:Value):Kp b w (((w.drewN nq).setCell ⟨b,1,none⟩ x).setCell ⟨b,2,none⟩ y).drew:=((((Kp.refl b w).draws nq).set 1 _).set 2 _).drew
theorem bx (b:Nat) (s:ByteArray) (k c:Nat) (w:World) (h:Rd w b s k) (hc:k+c≤s.size) :
  Calls Tryz.prog 67 #[.pointer (some ⟨b,0,none⟩),.int .i64 (c:Int)] w fun e w'=>e=.returned (.string (s.extract k (k+c)))∧Rd w' b s (k+c)∧Kp b w w':=by
 have HR:=aa h;have c0:=h.c0;have c1:=h.c1;have hle:=h.le;have bG:=h.top;clear h;go_enter Tryz.func67,Tryz.ntmps67
 go_wp2
 have w1:IntKind.i64.wrap ((k:Int)+(c:Int))=(k:Int)+(c:Int):=IntWalk.i64_in _ (by omega)
 go_quiet (fail)
 clear w1;have f1:=HR.out.f1;go_wp2_with fail
 have c2:=HR.out.c2;have f2:=HR.out.f2;obtain⟨n,hn⟩ :∃n:Nat,n=nl (s.data.toList.take k):=⟨_,rfl⟩;obtain⟨m,hm⟩ :∃m:Nat,m=nl (s.extract k (k+c)).data.toList:=⟨_,rfl⟩;rw[←hn] at c2;have HC:=aa (fun W=>hm▸Ky (s.extract k (k+c)) W)
 have wJ:n≤100000:=by
  have:=Ul (s.data.toList.take k);rw[mc] at this;omega
 have hm1:m≤100000:=by
  have:=Ul (s.extract k (k+c)).data.toList;rw[lI,mc] at this;rw[lI] at hm;omega
 have HN:=aa hn;have HM:=aa hm;clear hn hm;have w2:IntKind.i64.wrap (((1+n:Nat):Int)+(m:Int))=((1+n+m:Nat):Int):=by rw[IntWalk.i64_in _ (by omega)];omega
 go_region_with ((go_at_call 131;refine(HC.out _).mono ?_;rintro e w' ⟨rfl,rfl⟩))
 all_goals go_wp2
 all_goals go_ret
 all_goals exact⟨rfl,HR.out.moved c hc _ _ _ (by omega) (by rw[IntWalk.i64_in _ (by omega),←KF,←HN.out,←HM.out];omega),KG _ _ _ _ _⟩
end Go.Proofs.YteflkdlaoiijbaaGreatDoor
