/- Parts of the proof. -/
import Derived.RowKit
import Derived.Lib.SlTrimSet
import Derived.Lib.Strings
import Derived.Lib.ItoaNum
import Derived.Lib.IndexMore
import Derived.Lib.Replace
import Derived.Lib.Bytealg
import Derived.Test.YteflkdlaoiijbaaGreatDoorProg
import Derived.WalkKit
import Derived.WalkSpells
import Derived.WalkLawsBesides
import Derived.Lib.QuietBelow
import Derived.BigQuiet
import Derived.Lib.Hide
import Derived.IntWalk
import Derived.Shelf.Strings.Builder1
import Derived.Shelf.Strings.Builder2
import Derived.Shelf.Strings.Trim
import Derived.Shelf.Small.Utf8
import Derived.Shelf.Small.Strs
import Derived.Shelf.Small.Wraps
import Derived.Shelf.Strings.Search1
import Derived.Shelf.Strings.Search2
import Derived.Shelf.Strings.Search3
import Derived.Shelf.Strings.Cut
import Derived.Shelf.Strings.Count
import Derived.Shelf.LaysM
import Derived.Shelf.Strings.Shaped
import Derived.Shelf.Strings.Prefix
import Derived.Shelf.Strings.Split
import Derived.Shelf.Strings.Replace
import Derived.Shelf.Strings.SplitShaped
import Derived.Shelf.Strings.Runes
import Derived.Shelf.Strings.AsciiSet
import Derived.Shelf.Unicode.DecodeSlow
import Derived.Shelf.Strings.SlTrimAscii
import Derived.Lib.SplitLaws
import Derived.Below
import Derived.Deep.QuietTactic
import Derived.Deep.RegionWith
import Derived.RangeFuncBox
import Derived.Maps.AppendAt
set_option maxHeartbeats 16000000
set_option maxRecDepth 20000
namespace Go.Proofs
theorem aa {p:Prop}(h:p):RowKit.Hid p:=h
abbrev aI:=@Array.getElem?_eq_some_iff
abbrev ah:=@Nat.le_refl
abbrev aL:=@List.getElem?_eq_some_iff
abbrev aE:=@beq_eq_false_iff_ne
abbrev af:=@if_neg
abbrev ba:=@List.mem_of_getElem?
abbrev bE:=@List.getElem?_eq_getElem
abbrev aK:=@Nat.le_trans
abbrev ak:=@if_pos
abbrev ax:=@congrArg
abbrev bY:=@List.mem_cons_of_mem
abbrev bP:=@List.mem_singleton
abbrev bU:=@List.mem_cons_self
abbrev bV:=@List.length_append
abbrev aR:=@Nat.zero_le
abbrev bn:=@List.mem_cons
abbrev dO:=@List.setIfInBounds_toArray
abbrev cy:=@Nat.lt_of_lt_of_le
abbrev bL:=@decide_eq_false
abbrev dP:=@List.getElem?_cons_succ
abbrev bM:=@decide_eq_true
abbrev dY:=@List.getElem?_cons_zero
abbrev dQ:=@List.getElem?_set_self
abbrev eD:=@Bool.eq_false_or_eq_true
abbrev dZ:=@List.getElem?_toArray
abbrev cX:=@Bool.and_eq_true
abbrev cN:=@List.length_map
abbrev dB:=@List.set_cons_zero
abbrev dC:=@List.set_cons_succ
abbrev dr:=@Nat.lt_succ_self
abbrev dd:=@List.mem_append
abbrev fC:=@List.getElem?_set_ne
abbrev fV:=@List.mem_append_left
abbrev jU:=@List.getD_eq_getElem?_getD
abbrev fe:=@List.append_assoc
abbrev fW:=@Bool.false_ne_true
abbrev jb:=@List.mem_append_right
abbrev kF:=@List.getElem?_append_left
abbrev gw:=@List.getElem?_map
abbrev gy:=@Nat.le_add_right
abbrev iE:=@decide_eq_true_eq
abbrev iF:=@Int.toNat_natCast
abbrev iG:=@of_decide_eq_true
abbrev gU:=@List.cons_append
abbrev kG:=@List.mem_iff_getElem?
abbrev gz:=@Option.some.inj
abbrev pO:=@List.eq_nil_of_length_eq_zero
abbrev jc:=@List.flatMap_cons
abbrev jV:=@List.mem_map_of_mem
abbrev fX:=@List.map_cons
abbrev fg:=@Nat.le_of_lt
abbrev mM:=@List.length_singleton
abbrev jx:=@Nat.not_lt_zero
abbrev kH:=@List.length_drop
abbrev jW:=@List.append_nil
abbrev fY:=@Nat.le_succ
abbrev pP:=@List.drop_of_length_le
abbrev kI:=@List.find?_cons
abbrev jd:=@List.mem_map
abbrev ml:=@List.nodup_cons
abbrev mn:=@List.length_set
abbrev zz:=@List.findIdx?_eq_some_iff_getElem
abbrev pQ:=@List.flatMap_append
abbrev pR:=@List.map_eq_nil_iff
abbrev oK:=@List.nodup_append
abbrev jy:=@Nat.ne_of_lt
abbrev mN:=@Bool.eq_iff_iff
abbrev kJ:=@Bool.true_and
abbrev mP:=@List.map_append
abbrev mQ:=@List.nil_append
abbrev tG:=@List.take_of_length_le
abbrev oL:=@List.length_take
abbrev tH:=@ByteArray.size_extract
abbrev oM:=@List.not_mem_nil
abbrev jX:=@Nat.zero_add
abbrev wj:=@Array.getElem?_eq_getElem
abbrev pS:=@Option.some.injEq
abbrev oN:=@Option.map_some
abbrev rY:=@Nat.eq_zero_or_pos
abbrev zA:=@List.getElem?_append_right
abbrev wk:=@List.map_eq_append_iff
abbrev zB:=@Array.getElem_modify_self
abbrev zC:=@List.drop_eq_getElem_cons
abbrev wo:=@List.getElem?_eq_none
abbrev zD:=@Option.isSome_iff_exists
abbrev zE:=@decide_eq_false_iff_not
abbrev wu:=@List.length_pos_iff
abbrev tI:=@List.mem_flatMap
abbrev tJ:=@List.drop_suffix
abbrev tK:=@List.suffix_cons
abbrev zF:=@List.dropWhile_suffix
abbrev rZ:=@List.all_cons
abbrev r9:=@Nat.add_assoc
abbrev sa:=@Prod.mk.injEq
abbrev D7:=@List.set_eq_of_length_le
abbrev zG:=@List.takeWhile_cons
abbrev wy:=@List.drop_length
abbrev tL:=@List.drop_zero
abbrev zH:=@List.getElem?_drop
abbrev D8:=@List.dropWhile_sublist
abbrev oO:=@bne_iff_ne
abbrev D9:=@List.flatMap_singleton
abbrev wA:=@List.mem_filter
abbrev wB:=@Nat.le_add_left
abbrev zI:=@Array.size_modify
abbrev Ea:=@Nat.mul_le_mul_right
abbrev J4:=@List.takeWhile_cons_of_pos
abbrev zJ:=@List.take_length
abbrev tM:=@List.map_map
abbrev J5:=@List.getElem?_eq_none_iff
abbrev J6:=@List.mem_of_find?_eq_some
abbrev Eb:=@List.dropWhile_cons
abbrev J7:=@List.Pairwise.imp_of_mem
abbrev zK:=@UInt8.toNat_inj
abbrev Ec:=@List.find?_eq_none
abbrev Ed:=@List.reverse_cons
abbrev J8:=@ByteArray.data_extract
abbrev J9:=@List.drop_eq_nil_of_le
abbrev oP:=@or_false
abbrev zL:=@Bool.false_and
abbrev Ka:=@List.append_eq_nil_iff
abbrev Ee:=@List.size_toArray
abbrev Kb:=@List.take_append_drop
abbrev tN:=@beq_iff_eq
abbrev Ef:=@List.isEmpty_iff
abbrev zM:=@List.cons.inj
abbrev UD:=@List.take_append_of_le_length
abbrev Kc:=@Nat.pow_le_pow_right
abbrev Kd:=@Array.replicate_succ
abbrev Ke:=@Array.replicate_zero
abbrev Eg:=@Nat.min_eq_left
abbrev Kf:=@List.getElem?_range
abbrev Kg:=@List.append_toArray
abbrev Eh:=@List.nodup_nil
abbrev Kh:=@Bool.false_eq_true
abbrev Ki:=@List.contains_cons
abbrev Kj:=@List.length_range'
abbrev Ei:=@List.mem_range
abbrev Kk:=@List.length_attach
abbrev Kl:=@List.contains_nil
abbrev Km:=@List.ext_getElem?
abbrev Kn:=@List.push_toArray
abbrev Ej:=@List.map_drop
abbrev Ko:=@List.getElem_mem
abbrev Kq:=@List.map_toArray
abbrev Ek:=@Nat.pow_succ
abbrev El:=@Nat.mul_comm
abbrev Em:=@Nat.lt_or_ge
abbrev En:=@Nat.succ_mul
abbrev Eo:=@Nat.add_mul
abbrev Ep:=@Nat.one_mul
end Go.Proofs
namespace Go.Proofs.YteflkdlaoiijbaaGreatDoor
structure Nd where
 kind:Int
 line:Int
 op:Int
 num:Int
 s:ByteArray
 names:List ByteArray
 kids:List Int
def upd (d:Nat→Nat) (i v:Nat):Nat→Nat:=fun j=>if j=i then v else d j
theorem upd_same (d:Nat→Nat) (i v:Nat):upd d i v i=v:=ak rfl
theorem fZ (d:Nat→Nat) {i j:Nat} (v:Nat) (h:j≠i):upd d i v j=d j:=af h
def dy (N v:Nat):List Int→(Nat→Nat)→List Nat→Option ((Nat→Nat)×List Nat)
 | [],d,m=>some (d,m)
 | k::ks,d,m=>if 0≤k∧k<(N:Int)∧d k.toNat=0 then dy N v ks (upd d k.toNat v) (m++[k.toNat]) else none
def cw (T:List Nd) (i:Nat):List Int:=match T[i]? with|some x=>x.kids|none=>[]
def xY (T:List Nd):Nat→Nat→(Nat→Nat)→List Nat→Option ((Nat→Nat)×List Nat)
 | 0,_,d,m=>some (d,m)
 | f+1,a,d,m=>match m[a]? with
  | none=>some (d,m)
  | some i=>match dy T.length (d i+1) (cw T i) d m with
   | none=>none
   | some p=>xY T f (a+1) p.1 p.2
def Er (N:Nat):Option ((Nat→Nat)×List Nat)→Nat
 | none=>0
 | some p=>if p.2.length<N then 0 else p.1 (p.2.getLastD 0)
def eH (T:List Nd) (r:Int):Nat :=
 if T.length≤16384∧0≤r∧r<(T.length:Int) then Er T.length (xY T (T.length+1) 0 (upd (fun _=>0) r.toNat 1) [r.toNat]) else 0
theorem tP :∀(N:Nat) (m:List Nat),m.Nodup→(∀j∈m,j<N)→m.length≤N:=by
 intro N;induction N with
 | zero =>
  intro m _ h;cases m with
  | nil=>exact ah _
  | cons a t=>exact absurd (h a (bU ..)) (jx _)
 | succ N ih =>
  intro m hn h;by_cases hN:N∈m
  ·have h1:=ih (m.erase N) (hn.erase N) (fun j hj=>by
    have hj':=(hn.mem_erase_iff).1 hj;have:=h j hj'.2;have:=hj'.1;omega)
   rw[List.length_erase_of_mem hN] at h1;omega
  ·have h1:=ih m hn (fun j hj=>by
    have:=h j hj;have:j≠N:=fun e=>hN (e▸hj)
    omega)
   omega
theorem qV {N:Nat} {m:List Nat} (hn:m.Nodup) (h :∀j∈m,j<N) (hl:m.length=N) {j:Nat} (hj:j<N):j∈m:=by
 by_cases hm:j∈m
 ·exact hm
 ·have:=tP N (j::m) (ml.2 ⟨hm,hn⟩) (fun x hx=>by
   rcases bn.1 hx with rfl|hx
   ·exact hj
   ·exact h x hx)
  rw[List.length_cons] at this;omega
structure Inv (N:Nat) (d:Nat→Nat) (m:List Nat):Prop where
 nodup:m.Nodup
 iff :∀j,d j≠0↔j∈m
 lt :∀j∈m,j<N
theorem Inv.len {N:Nat} {d:Nat→Nat} {m:List Nat} (h:Inv N d m):m.length≤N:=tP N m h.nodup h.lt
theorem Inv.add {N:Nat} {d:Nat→Nat} {m:List Nat} (h:Inv N d m) {k v:Nat} (hk:k<N) (h0:d k=0) (hv:v≠0):Inv N (upd d k v) (m++[k]):=by
 have xZ:k∉m:=fun hm=>(h.iff k).2 hm h0
 refine⟨?_,fun j=>?_,fun j hj=>?_⟩
 ·rw[oK]
  refine⟨h.nodup,by simp,fun a ha b hb=>?_⟩
  obtain rfl:=bP.1 hb;exact fun e=>xZ (e▸ha)
 ·by_cases hj:j=k
  ·subst hj
   rw[upd_same];exact⟨fun _=>by simp,fun _=>hv⟩
  ·rw[fZ _ _ hj,h.iff,dd,bP]
   exact⟨fun h=>.inl h,fun h=>h.resolve_right hj⟩
 ·rcases dd.1 hj with hj|hj
  ·exact h.lt j hj
  ·obtain rfl:=bP.1 hj
   exact hk
theorem Inv.start {N r:Nat} (h:r<N):Inv N (upd (fun _=>0) r 1) [r]:=by
 have h0:Inv N (fun _=>0) []:=⟨Eh,fun j=>by simp,fun j hj=>by simp at hj⟩
 exact h0.add h rfl (by decide)
theorem pb {N v:Nat} (hv:v≠0) :∀(ks:List Int) (d:Nat→Nat) (m:List Nat) (d':Nat→Nat) (m':List Nat),Inv N d m→dy N v ks d m=some (d',m') →
  Inv N d' m'∧m'=m++ks.map Int.toNat∧(∀j,d j≠0→d' j=d j)∧(∀k∈ks,0≤k∧k<(N:Int)∧d' k.toNat=v)∧(∀j,d' j=d j∨d' j=v):=by
 intro ks;induction ks with
 | nil =>
  intro d m d' m' h e;obtain⟨rfl,rfl⟩:d=d'∧m=m':=by simpa[dy] using e
  exact⟨h,by simp,fun _ _=>rfl,fun k hk=>by simp at hk,fun _=>.inl rfl⟩
 | cons k ks ih =>
  intro d m d' m' h e;rw[dy] at e;split at e
  ·rename_i hk
   obtain⟨h0,h1,h2⟩:=hk;obtain⟨i1,i2,i3,i4,i5⟩:=ih _ _ _ _ (h.add (by omega) h2 hv) e
   refine⟨i1,by rw[i2];simp,fun j hj=>?_,fun k' Es=>?_,fun j=>?_⟩
   ·have hjk:j≠k.toNat:=fun e=>hj (e▸h2)
    have:=i3 j (by rw[fZ _ _ hjk];exact hj)
    rw[this,fZ _ _ hjk]
   ·rcases bn.1 Es with rfl|Es
    ·refine⟨h0,h1,?_⟩
     rw[i3 _ (by rw[upd_same];exact hv),upd_same]
    ·exact i4 k' Es
   ·rcases i5 j with h|h
    ·rw[h]
     by_cases hj:j=k.toNat
     ·subst hj;right;exact upd_same _ _ _
     ·left;exact fZ _ _ hj
    ·exact .inr h
  ·cases e
structure V9 (T:List Nd) (r:Nat) (d:Nat→Nat) (m:List Nat):Prop where
 nodup:m.Nodup
 lt :∀j∈m,j<T.length
 full:m.length=T.length
 eq:m=r::m.flatMap fun i=>(cw T i).map Int.toNat
 kid :∀i∈m,∀k∈cw T i,0≤k∧k<(T.length:Int)∧d k.toNat=d i+1
 root:d r=1
 bound :∀i,d i≤T.length+1
theorem V9.mem {T:List Nd} {r:Nat} {d:Nat→Nat} {m:List Nat} (h:V9 T r d m) {i:Nat} (hi:i<T.length):i∈m:=qV h.nodup h.lt h.full hi
theorem lI {α:Type} (m:List α) (a:Nat) (i:α) (h:m[a]? = some i):m.take (a+1)=m.take a++[i]:=by
 rw[List.take_add_one,h];rfl
structure Half (T:List Nd) (r:Nat) (a:Nat) (d:Nat→Nat) (m:List Nat):Prop where
 inv:Inv T.length d m
 le:a≤m.length
 eq:m=r::(m.take a).flatMap fun i=>(cw T i).map Int.toNat
 kid :∀i∈m.take a,∀k∈cw T i,0≤k∧k<(T.length:Int)∧d k.toNat=d i+1
 root:d r=1
 bound :∀i,d i≤a+1
theorem Half.start {T:List Nd} {r:Nat} (h:r<T.length):Half T r 0 (upd (fun _=>0) r 1) [r] :=
 ⟨Inv.start h,aR _,by simp,fun i hi=>by simp at hi,upd_same _ _ _,fun i=>by
  by_cases hi:i=r
  ·subst hi;rw[upd_same];omega
  ·rw[fZ _ _ hi];omega⟩
theorem Half.step {T:List Nd} {r a i:Nat} {d d':Nat→Nat} {m m':List Nat} (h:Half T r a d m) (hi:m[a]? = some i) (e:dy T.length (d i+1) (cw T i) d m=some (d',m')):Half T r (a+1) d' m':=by
 obtain⟨i1,i2,i3,i4,i5⟩:=pb (by omega) _ _ _ _ _ h.inv e
 have hlt:a<m.length:=(aL.1 hi).1;have qW :∀j∈m,d' j=d j:=fun j hj=>i3 j ((h.inv.iff j).2 hj)
 have him:i∈m:=ba hi;have Wb:m'.take (a+1)=m.take a++[i]:=by
  rw[i2,UD (by omega),lI m a i hi]
 refine⟨i1,by rw[i2,bV];omega,?_,fun j hj k hk=>?_,?_,fun j=>?_⟩
 ·rw[Wb,pQ]
  conv=>lhs;rw[i2,h.eq]
  simp
 ·rw[Wb] at hj
  rcases dd.1 hj with hj|hj
  ·obtain⟨k0,k1,k2⟩:=h.kid j hj k hk
   have xZ:d k.toNat≠0:=by omega
   rw[i3 _ xZ,qW j (List.mem_of_mem_take hj)];exact⟨k0,k1,k2⟩
  ·obtain rfl:=bP.1 hj
   obtain⟨k0,k1,k2⟩:=i4 k hk;rw[k2,qW _ him];exact⟨k0,k1,rfl⟩
 ·rw[i3 r (by rw[h.root];decide),h.root]
 ·have:=h.bound j
  have:=h.bound i;rcases i5 j with e|e<;>omega
theorem Kr {T:List Nd} {r:Nat} :∀(f a:Nat) (d:Nat→Nat) (m:List Nat) (d':Nat→Nat) (m':List Nat),Half T r a d m→T.length+1≤f+a→xY T f a d m=some (d',m')→Half T r m'.length d' m':=by
 intro f;induction f with
 | zero =>
  intro a d m d' m' h hf e;have:=h.inv.len;have:=h.le;omega
 | succ f ih =>
  intro a d m d' m' h hf e;rw[xY] at e;cases hi:m[a]? with
  | none =>
   rw[hi] at e;obtain⟨rfl,rfl⟩:d=d'∧m=m':=by simpa using e
   have h1:m.length≤a:=J5.1 hi;have h2:=h.le;obtain rfl:a=m.length:=by omega
   exact h
  | some i =>
   rw[hi] at e;have e':(match dy T.length (d i+1) (cw T i) d m with
    | none=>none
    | some p=>xY T f (a+1) p.1 p.2)=some (d',m'):=e
   cases hk:dy T.length (d i+1) (cw T i) d m with
   | none=>rw[hk] at e';cases e'
   | some p =>
    rw[hk] at e';exact ih _ _ _ _ _ (h.step hi hk) (by omega) e'
theorem zN {T:List Nd} {r:Int} (h:eH T r≠0):T.length≤16384∧0≤r∧r<(T.length:Int)∧∃d m,V9 T r.toNat d m:=by
 unfold eH at h;split at h
 ·rename_i hh
  obtain⟨h0,h1,h2⟩:=hh;refine⟨h0,h1,h2,?_⟩;cases e:xY T (T.length+1) 0 (upd (fun _=>0) r.toNat 1) [r.toNat] with
  | none=>rw[e] at h;exact absurd rfl h
  | some p =>
   obtain⟨d,m⟩:=p;rw[e] at h;have hf:=Kr _ _ _ _ _ _ (Half.start (T:=T) (r:=r.toNat) (by omega)) (by omega) e
   have hlen:¬ m.length<T.length:=fun hl=>h (ak hl)
   have:=hf.inv.len;have hm:m.length=T.length:=by omega
   have ht:m.take m.length=m:=zJ;refine⟨d,m,hf.inv.nodup,hf.inv.lt,hm,?_,fun i hi=>hf.kid i (by rw[ht];exact hi),hf.root,fun i=>by have:=hf.bound i;omega⟩
   have he:=hf.eq;rw[ht] at he;exact he
 ·exact absurd rfl h
theorem Cy {α β:Type} {f:α→List β} :∀{l:List α},(l.flatMap f).Nodup→∀{a b:α} {x:β},a∈l→b∈l→x∈f a→x∈f b→l.Nodup→a=b:=by
 intro l;induction l with
 | nil=>intro _ a b x ha;simp at ha
 | cons c t ih =>
  intro hn a b x ha hb xa xb hl;rw[jc,oK] at hn;have hl':=(ml.1 hl);rcases bn.1 ha with ea|ha'<;>rcases bn.1 hb with eb|hb'
  ·rw[ea,eb]
  ·subst ea
   exact absurd rfl (hn.2.2 x xa x (tI.2 ⟨b,hb',xb⟩))
  ·subst eb
   exact absurd rfl (hn.2.2 x xb x (tI.2 ⟨a,ha',xa⟩))
  ·exact ih hn.2.1 ha' hb' xa xb hl'.2
theorem tQ {α β:Type} {f:α→List β} :∀{l:List α},(l.flatMap f).Nodup→∀{a:α},a∈l→(f a).Nodup:=by
 intro l;induction l with
 | nil=>intro _ a ha;simp at ha
 | cons c t ih =>
  intro hn a ha;rw[jc,oK] at hn;rcases bn.1 ha with rfl|ha
  ·exact hn.1
  ·exact ih hn.2.1 ha
theorem V9.Gp {T:List Nd} {r:Nat} {d:Nat→Nat} {m:List Nat} (h:V9 T r d m) {i:Nat} (hi:i<T.length):(cw T i).Nodup:=by
 have h1:=h.nodup;rw[h.eq,ml] at h1;have:=tQ h1.2 (h.mem hi);rw[List.Nodup,List.pairwise_map] at this;exact List.Pairwise.imp (fun h e=>h (by rw[e])) this
theorem x9 {α:Type} (l:List α) (x:α) (h:l≠[]):l.getLastD x∈l:=by
 induction l with
 | nil=>exact absurd rfl h
 | cons a t ih =>
  cases t with
  | nil=>exact bP.2 rfl
  | cons b t=>exact bY _ (ih (by simp))
end Go.Proofs.YteflkdlaoiijbaaGreatDoor
namespace Go.Proofs.YteflkdlaoiijbaaGreatDoor
def dz (T:List Nd) (i:Nat):Int:=match T[i]? with|some x=>x.kind|none=>0
section
variable (fo:Nd→Bool) (ko:Int→Int→List Int→Bool) (so:Int→Int) (hd:Nd→List UInt8)
def km (T:List Nd) (x:Nd):Bool:=decide (1≤x.line) && fo x && ko x.kind x.num (x.kids.map fun k=>so (dz T k.toNat))
def pd (T:List Nd) (r:Int):Bool:=decide (eH T r≠0) && decide (eH T r≤100) && decide (dz T r.toNat=18) && T.all (km fo ko so T)
theorem gd {T:List Nd} {r:Int}:pd fo ko so T r=true↔eH T r≠0∧eH T r≤100∧dz T r.toNat=18∧∀(i:Nat) (x:Nd),T[i]? = some x→km fo ko so T x=true:=by
 unfold pd;simp only[cX,iE,List.all_eq_true,and_assoc];constructor
 ·rintro⟨h1,h2,h3,h4⟩
  exact⟨h1,h2,h3,fun i x hx=>h4 x (ba hx)⟩
 ·rintro⟨h1,h2,h3,h4⟩
  refine⟨h1,h2,h3,fun x hx=>?_⟩
  obtain⟨i,hi⟩:=kG.1 hx;exact h4 i x hi
theorem tR {T:List Nd} {x:Nd}:km fo ko so T x=true↔1≤x.line∧fo x=true∧ko x.kind x.num (x.kids.map fun k=>so (dz T k.toNat))=true:=by
 unfold km;simp only[cX,iE,and_assoc]
theorem jg {T:List Nd} {i:Nat} {x:Nd} (h:T[i]? = some x):cw T i=x.kids:=by unfold cw;rw[h]
theorem nU {T:List Nd} {i:Nat} {x:Nd} (h:T[i]? = some x):dz T i=x.kind:=by unfold dz;rw[h]
theorem Gq {T:List Nd} {r:Int} (h:pd fo ko so T r=true) :∃d m,V9 T r.toNat d m∧0≤r∧r<(T.length:Int):=by
 obtain⟨h0,_⟩:=(gd fo ko so).1 h;obtain⟨_,UE,hr1,d,m,hs⟩:=zN h0;exact⟨d,m,hs,UE,hr1⟩
end
end Go.Proofs.YteflkdlaoiijbaaGreatDoor
namespace Go.Proofs.YteflkdlaoiijbaaGreatDoor
inductive Ast where
 | mk (h:Nd) (kids:List Ast)
def Ast.hd:Ast→Nd
 | .mk h _=>h
mutual
def Ast.depth:Ast→Nat
 | .mk _ ks=>Ast.iR ks+1
def Ast.iR:List Ast→Nat
 | []=>0
 | a::xz=>max (Ast.depth a) (Ast.iR xz)
end
mutual
def Ast.size:Ast→Nat
 | .mk _ ks=>Ast.al ks+1
def Ast.al:List Ast→Nat
 | []=>0
 | a::xz=>Ast.size a+Ast.al xz
end
mutual
def gO (T:List Nd):Ast→Nat→List Nat→Prop
 | .mk h xz,i,js=>∃x sd,T[i]? = some x∧x={ h with kids:=x.kids}∧bj T xz x.kids sd∧js=i::sd
def bj (T:List Nd):List Ast→List Int→List Nat→Prop
 | [],ks,js=>ks=[]∧js=[]
 | a::xz,ks,js=>∃(k:Nat) (ir:List Int) (j1 j2:List Nat),ks=(k:Int)::ir∧gO T a k j1∧bj T xz ir j2∧js=j1++j2
end
def wC (T:List Nd) (i:Nat):List Nat:=(cw T i).map Int.toNat
theorem gO.root {T:List Nd} {a:Ast} {i:Nat} {js:List Nat} (h:gO T a i js):i∈js∧dz T i=a.hd.kind∧i<T.length:=by
 cases a with
 | mk hd xz =>
  unfold gO at h;obtain⟨x,sd,hx,he,_,rfl⟩:=h;refine⟨bU ..,?_,(aL.1 hx).1⟩;rw[nU hx,he];rfl
mutual
theorem gO.lt {T:List Nd} :∀(a:Ast) (i:Nat) (js:List Nat),gO T a i js→∀j∈js,j<T.length
 | .mk h xz,i,js,hr=>by
  unfold gO at hr;obtain⟨x,sd,hx,_,hs,rfl⟩:=hr;intro j hj;rcases bn.1 hj with rfl|hj
  ·exact(aL.1 hx).1
  ·exact bj.lt xz x.kids sd hs j hj
theorem bj.lt {T:List Nd} :∀(xz:List Ast) (ks:List Int) (js:List Nat),bj T xz ks js→∀j∈js,j<T.length
 | [],ks,js,hr=>by
  unfold bj at hr;obtain⟨_,rfl⟩:=hr;intro j hj;simp at hj
 | a::xz,ks,js,hr=>by
  unfold bj at hr;obtain⟨k,ir,j1,j2,_,h1,h2,rfl⟩:=hr;intro j hj;rcases dd.1 hj with hj|hj
  ·exact gO.lt a k j1 h1 j hj
  ·exact bj.lt xz ir j2 h2 j hj
end
mutual
/-- A tree lies in a longer list xz it did. -/
theorem gO.more {T T':List Nd} (hT :∀(i:Nat) x,T[i]? = some x→T'[i]? = some x) :∀(a:Ast) (i:Nat) (js:List Nat),gO T a i js→gO T' a i js
 | .mk h xz,i,js,hr=>by
  unfold gO at hr ⊢;obtain⟨x,sd,hx,he,hs,rfl⟩:=hr;exact⟨x,sd,hT i x hx,he,bj.more hT xz x.kids sd hs,rfl⟩
theorem bj.more {T T':List Nd} (hT :∀(i:Nat) x,T[i]? = some x→T'[i]? = some x) :∀(xz:List Ast) (ks:List Int) (js:List Nat),bj T xz ks js→bj T' xz ks js
 | [],ks,js,hr=>by
  unfold bj at hr ⊢;exact hr
 | a::xz,ks,js,hr=>by
  unfold bj at hr ⊢;obtain⟨k,ir,j1,j2,hk,h1,h2,rfl⟩:=hr;exact⟨k,ir,j1,j2,hk,gO.more hT a k j1 h1,bj.more hT xz ir j2 h2,rfl⟩
end
mutual
theorem gO.len {T:List Nd} :∀(a:Ast) (i:Nat) (js:List Nat),gO T a i js→js.length=a.size
 | .mk h xz,i,js,hr=>by
  unfold gO at hr;obtain⟨x,sd,_,_,hs,rfl⟩:=hr;rw[List.length_cons,bj.len xz x.kids sd hs,Ast.size]
theorem bj.len {T:List Nd} :∀(xz:List Ast) (ks:List Int) (js:List Nat),bj T xz ks js→js.length=Ast.al xz
 | [],ks,js,hr=>by
  unfold bj at hr;obtain⟨_,rfl⟩:=hr;rfl
 | a::xz,ks,js,hr=>by
  unfold bj at hr;obtain⟨k,ir,j1,j2,_,h1,h2,rfl⟩:=hr;rw[bV,gO.len a k j1 h1,bj.len xz ir j2 h2,Ast.al]
end
mutual
/-- The root, and what is named: all of them. -/
theorem gO.perm {T:List Nd} :∀(a:Ast) (i:Nat) (js:List Nat),gO T a i js→js.Perm (i::js.flatMap (wC T))
 | .mk h xz,i,js,hr=>by
  unfold gO at hr;obtain⟨x,sd,hx,_,hs,rfl⟩:=hr;refine List.Perm.cons i ?_;have h1:wC T i=x.kids.map Int.toNat:=by unfold wC;rw[jg hx]
  rw[jc,h1];exact bj.perm xz x.kids sd hs
theorem bj.perm {T:List Nd} :∀(xz:List Ast) (ks:List Int) (js:List Nat),bj T xz ks js→js.Perm (ks.map Int.toNat++js.flatMap (wC T))
 | [],ks,js,hr=>by
  unfold bj at hr;obtain⟨rfl,rfl⟩:=hr;exact List.Perm.nil
 | a::xz,ks,js,hr=>by
  unfold bj at hr;obtain⟨k,ir,j1,j2,rfl,h1,h2,rfl⟩:=hr;have p1:=gO.perm a k j1 h1;have p2:=bj.perm xz ir j2 h2;rw[pQ,fX,iF,gU];refine(p1.append p2).trans ?_;rw[gU];refine List.Perm.cons k ?_;rw[←fe,←fe];exact List.Perm.append_right _ List.perm_append_comm
end
mutual
/-- aaa holds the root and what its members name holds all. -/
theorem gO.closed {T:List Nd} {m:List Nat} (hm :∀i∈m,∀k∈cw T i,k.toNat∈m) :∀(a:Ast) (i:Nat) (js:List Nat),gO T a i js→i∈m→∀j∈js,j∈m
 | .mk h xz,i,js,hr,hi=>by
  unfold gO at hr;obtain⟨x,sd,hx,_,hs,rfl⟩:=hr;intro j hj;rcases bn.1 hj with rfl|hj
  ·exact hi
  ·exact bj.closed hm xz x.kids sd hs (fun k hk=>hm i hi k (by rw[jg hx];exact hk)) j hj
theorem bj.closed {T:List Nd} {m:List Nat} (hm :∀i∈m,∀k∈cw T i,k.toNat∈m) :∀(xz:List Ast) (ks:List Int) (js:List Nat),bj T xz ks js→(∀k∈ks,k.toNat∈m)→∀j∈js,j∈m
 | [],ks,js,hr,_=>by
  unfold bj at hr;obtain⟨_,rfl⟩:=hr;intro j hj;simp at hj
 | a::xz,ks,js,hr,hk=>by
  unfold bj at hr;obtain⟨k,ir,j1,j2,rfl,h1,h2,rfl⟩:=hr;intro j hj;rcases dd.1 hj with hj|hj
  ·exact gO.closed hm a k j1 h1 (by simpa using hk k (bU ..)) j hj
  ·exact bj.closed hm xz ir j2 h2 (fun z hz=>hk z (bY _ hz)) j hj
end
mutual
/-- How deep the nodes are, by whoever counts from parents to kids. -/
theorem gO.tU {T:List Nd} {d:Nat→Nat} :∀(a:Ast) (i:Nat) (js:List Nat),gO T a i js→(∀j∈js,∀k∈cw T j,d k.toNat=d j+1)→(∀j∈js,d j+1≤d i+a.depth)∧∃j∈js,d j+1=d i+a.depth
 | .mk h xz,i,js,hr,hd=>by
  unfold gO at hr;obtain⟨x,sd,hx,_,hs,rfl⟩:=hr;have h1:=bj.tU (v:=d i) xz x.kids sd hs (fun j hj=>hd j (bY _ hj)) (fun k hk=>hd i (bU ..) k (by rw[jg hx];exact hk))
  rw[Ast.depth];refine⟨fun j hj=>?_,?_⟩
  ·rcases bn.1 hj with rfl|hj
   ·omega
   ·have:=h1.1 j hj
    omega
  ·by_cases h0:xz=[]
   ·subst h0
    exact⟨i,bU ..,by rw[Ast.iR]⟩
   ·obtain⟨j,hj,he⟩:=h1.2 h0
    exact⟨j,bY _ hj,by omega⟩
theorem bj.tU {T:List Nd} {d:Nat→Nat} {v:Nat} :∀(xz:List Ast) (ks:List Int) (js:List Nat),bj T xz ks js→(∀j∈js,∀k∈cw T j,d k.toNat=d j+1)→(∀k∈ks,d k.toNat=v+1)→(∀j∈js,d j≤v+Ast.iR xz)∧(xz≠[]→∃j∈js,d j=v+Ast.iR xz)
 | [],ks,js,hr,_,_=>by
  unfold bj at hr;obtain⟨_,rfl⟩:=hr;exact⟨fun j hj=>by simp at hj,fun h=>absurd rfl h⟩
 | a::xz,ks,js,hr,hd,hk=>by
  unfold bj at hr;obtain⟨k,ir,j1,j2,rfl,h1,h2,rfl⟩:=hr;have e1:=gO.tU a k j1 h1 (fun j hj=>hd j (fV _ hj))
  have e2:=bj.tU (v:=v) xz ir j2 h2 (fun j hj=>hd j (jb _ hj)) (fun z hz=>hk z (bY _ hz))
  have hv:d k=v+1:=by simpa using hk k (bU ..)
  rw[Ast.iR];refine⟨fun j hj=>?_,fun _=>?_⟩
  ·rcases dd.1 hj with hj|hj
   ·have:=e1.1 j hj
    omega
   ·have:=e2.1 j hj
    omega
  ·by_cases hle:Ast.iR xz≤a.depth
   ·obtain⟨j,hj,he⟩:=e1.2
    exact⟨j,fV _ hj,by omega⟩
   ·have h0:xz≠[]:=fun h=>by subst h;exact hle (by rw[Ast.iR];omega)
    obtain⟨j,hj,he⟩:=e2.2 h0;exact⟨j,jb _ hj,by omega⟩
end
theorem zO {N v:Nat} :∀(ks:List Int) (d:Nat→Nat) (m:List Nat),(∀k∈ks,0≤k∧k<(N:Int)∧d k.toNat=0)→(ks.map Int.toNat).Nodup→∃p,dy N v ks d m=some p:=by
 intro ks;induction ks with
 | nil=>intro d m _ _;exact⟨_,rfl⟩
 | cons k ks ih =>
  intro d m h hn;obtain⟨h0,h1,h2⟩:=h k (bU ..);rw[fX,ml] at hn;rw[dy,ak ⟨h0,h1,h2⟩];refine ih _ _ (fun z hz=>?_) hn.2
  obtain⟨z0,z1,z2⟩:=h z (bY _ hz);refine⟨z0,z1,?_⟩;have hne:z.toNat≠k.toNat:=fun e=>hn.1 (by rw[←e];exact jV hz)
  rw[fZ _ _ hne];exact z2
theorem Gr :∀(N:Nat) (m:List Nat),(∀j,j<N→j∈m)→N≤m.length:=by
 intro N;induction N with
 | zero=>intro m _;exact aR _
 | succ N ih =>
  intro m h;have hN:=h N (dr _);have h1:=ih (m.erase N) (fun j hj=>(List.mem_erase_of_ne (by omega)).2 (h j (by omega)))
  rw[List.length_erase_of_mem hN] at h1;have:=List.length_pos_of_mem hN;omega
structure Gs (a:Nat) (d:Nat→Nat) (m:List Nat):Prop where
 le:m.Pairwise fun x y=>d x≤d y
 top :∀i,m[a]? = some i→∀x∈m,d x≤d i+1
theorem Gs.step {T:List Nd} {r a i:Nat} {d d':Nat→Nat} {m m':List Nat} (hh:Half T r a d m) (h:Gs a d m) (hi:m[a]? = some i) (e:dy T.length (d i+1) (cw T i) d m=some (d',m')):Gs (a+1) d' m':=by
 obtain⟨_,i2,i3,i4,_⟩:=pb (by omega) _ _ _ _ _ hh.inv e
 have qW :∀j∈m,d' j=d j:=fun j hj=>i3 j ((hh.inv.iff j).2 hj)
 have him:i∈m:=ba hi;have Gt :∀y∈(cw T i).map Int.toNat,d' y=d i+1:=fun y hy=>by
  obtain⟨k,hk,rfl⟩:=jd.1 hy;exact(i4 k hk).2.2
 have hp:m'.Pairwise fun x y=>d' x≤d' y:=by
  rw[i2,List.pairwise_append];refine⟨?_,?_,fun x hx y hy=>?_⟩
  ·refine J7 (fun hx hy ZA=>?_) h.le
   rw[qW _ hx,qW _ hy];exact ZA
  ·exact J7 (R:=fun _ _=>True) (fun hx hy _=>by rw[Gt _ hx,Gt _ hy];exact ah _) (List.pairwise_of_forall (fun _ _=>trivial))
  ·rw[qW x hx,Gt y hy]
   exact h.top i hi x hx
 refine⟨hp,fun i' hi' x hx=>?_⟩
 have hia:m'[a]? = some i:=by rw[i2,kF (aL.1 hi).1];exact hi
 have h1:d' i≤d' i':=by
  obtain⟨la,ea⟩:=aL.1 hia;obtain⟨lb,eb⟩:=aL.1 hi';have:=List.pairwise_iff_getElem.1 hp a (a+1) la lb (dr _);rw[ea,eb] at this;exact this
 rw[qW i him] at h1;rw[i2] at hx;rcases dd.1 hx with hx|hx
 ·have:=h.top i hi x hx
  rw[qW x hx];omega
 ·rw[Gt x hx]
  omega
theorem QF {T:List Nd} {r:Nat} {js:List Nat} (dG:(r::js.flatMap (wC T)).Nodup) (hjs:js.Nodup) (zP :∀i∈js,∀k∈cw T i,0≤k∧k<(T.length:Int)∧k.toNat∈js) :
  ∀(f a:Nat) (d:Nat→Nat) (m:List Nat),Half T r a d m→Gs a d m→(∀j∈m,j∈js)→T.length+1≤f+a→∃d' m',xY T f a d m=some (d',m')∧Half T r m'.length d' m'∧Gs m'.length d' m'∧∀j∈m',j∈js:=by
 intro f;induction f with
 | zero =>
  intro a d m h _ _ hf;have:=h.inv.len;have:=h.le;omega
 | succ f ih =>
  intro a d m h hm sP hf;cases hi:m[a]? with
  | none =>
   have h1:m.length≤a:=J5.1 hi;have h2:=h.le;obtain rfl:a=m.length:=by omega
   exact⟨d,m,by rw[xY,hi],h,hm,sP⟩
  | some i =>
   have him:=ba hi;have vN:=sP i him;have hal:=(aL.1 hi).1;have UF :∀k∈cw T i,k.toNat∈wC T i:=fun k hk=>jV hk
   have hz :∀k∈cw T i,0≤k∧k<(T.length:Int)∧d k.toNat=0:=fun k hk=>by
    obtain⟨k0,k1,_⟩:=zP i vN k hk;refine⟨k0,k1,Classical.byContradiction fun hne=>?_⟩
    have xZ:=(h.inv.iff _).1 hne;rw[h.eq] at xZ;rcases bn.1 xZ with e|xZ
    ·rw[ml] at dG
     exact dG.1 (tI.2 ⟨i,vN,e▸UF k hk⟩)
    ·obtain⟨i',hi',sQ⟩:=tI.1 xZ
     rw[ml] at dG;have he:i=i':=Cy dG.2 vN (sP i' (List.mem_of_mem_take hi')) (UF k hk) sQ hjs;subst he;have hn:=h.inv.nodup;rw[←Kb a m,oK] at hn;refine hn.2.2 i hi' i ?_ rfl;rw[kG];exact⟨0,by rw[zH];exact hi⟩
   have Cz:((cw T i).map Int.toNat).Nodup:=tQ (ml.1 dG).2 vN;obtain⟨⟨d',m'⟩,hp⟩:=zO (v:=d i+1) (cw T i) d m hz Cz;obtain⟨d2,m2,h1,h2⟩:=ih (a+1) d' m' (h.step hi hp) (hm.step h hi hp) (fun j hj=>by
    have:=(pb (by omega) _ _ _ _ _ h.inv hp).2.1
    rw[this] at hj;rcases dd.1 hj with hj|hj
    ·exact sP j hj
    ·obtain⟨k,hk,rfl⟩:=jd.1 hj
     exact(zP i vN k hk).2.2) (by omega)
   refine⟨d2,m2,?_,h2⟩;simp only[xY,hi,hp];exact h1
end Go.Proofs.YteflkdlaoiijbaaGreatDoor
namespace Go.Proofs.YteflkdlaoiijbaaGreatDoor
mutual
theorem gO.kids {T:List Nd} :∀(a:Ast) (i:Nat) (js:List Nat),gO T a i js→∀j∈js,∀k∈cw T j,0≤k∧k.toNat∈js
 | .mk h xz,i,js,hr=>by
  unfold gO at hr;obtain⟨x,sd,hx,_,hs,rfl⟩:=hr;have h1:=bj.kids xz x.kids sd hs;intro j hj k hk;rcases bn.1 hj with rfl|hj
  ·rw[jg hx] at hk
   have:=h1.1 k hk;exact⟨this.1,bY _ this.2⟩
  ·have:=h1.2 j hj k hk
   exact⟨this.1,bY _ this.2⟩
theorem bj.kids {T:List Nd} :∀(xz:List Ast) (ks:List Int) (js:List Nat),bj T xz ks js→(∀k∈ks,0≤k∧k.toNat∈js)∧∀j∈js,∀k∈cw T j,0≤k∧k.toNat∈js
 | [],ks,js,hr=>by
  unfold bj at hr;obtain⟨rfl,rfl⟩:=hr;exact⟨fun k hk=>by simp at hk,fun j hj=>by simp at hj⟩
 | a::xz,ks,js,hr=>by
  unfold bj at hr;obtain⟨k,ir,j1,j2,rfl,h1,h2,rfl⟩:=hr;have e1:=gO.kids a k j1 h1;have e2:=bj.kids xz ir j2 h2;refine⟨fun z hz=>?_,fun j hj z hz=>?_⟩
  ·rcases bn.1 hz with rfl|hz
   ·exact⟨by omega,fV _ (by rw[iF];exact h1.root.1)⟩
   ·have:=e2.1 z hz
    exact⟨this.1,jb _ this.2⟩
  ·rcases dd.1 hj with hj|hj
   ·have:=e1 j hj z hz
    exact⟨this.1,fV _ this.2⟩
   ·have:=e2.2 j hj z hz
    exact⟨this.1,jb _ this.2⟩
end
theorem Gu {d:Nat→Nat} {m:List Nat} (h:m.Pairwise fun x y=>d x≤d y) {x:Nat} (hx:x∈m):d x≤d (m.getLastD 0):=by
 obtain⟨i,hi,rfl⟩:=List.getElem_of_mem hx;have hne:m≠[]:=fun e=>by subst e;exact absurd hi (jx _)
 have hl:m.getLastD 0=m[m.length-1]'(by omega):=by
  rw[List.getLastD_eq_getLast?,List.getLast?_eq_getElem?,bE (by omega)]
  rfl
 rw[hl];by_cases e:i=m.length-1
 ·subst e;exact ah _
 ·exact List.pairwise_iff_getElem.1 h i (m.length-1) hi (by omega) (by omega)
theorem zQ {T:List Nd} {r:Nat} {a:Ast} {js:List Nat} (h:gO T a r js) (hn:js.Nodup) (hl:js.length=T.length) (hN:T.length≤16384):eH T (r:Int)=a.depth:=by
 obtain⟨hrj,_,hrl⟩:=h.root;have hlt:=gO.lt a r js h;have zP :∀i∈js,∀k∈cw T i,0≤k∧k<(T.length:Int)∧k.toNat∈js:=fun i hi k hk=>by
  obtain⟨k0,k1⟩:=gO.kids a r js h i hi k hk;have:=hlt _ k1;exact⟨k0,by omega,k1⟩
 have dG:=(gO.perm a r js h).nodup_iff.1 hn;have hm0:Gs 0 (upd (fun _=>0) r 1) [r]:=⟨by simp,fun i hi x hx=>by
  obtain rfl:r=i:=by simpa using hi
  obtain rfl:=bP.1 hx;omega⟩
 obtain⟨d,m,hb,hh,hm,sP⟩:=QF dG hn zP (T.length+1) 0 _ [r] (Half.start hrl) hm0 (fun j hj=>by
  obtain rfl:=bP.1 hj;exact hrj) (by omega)
 have Wb:m.take m.length=m:=zJ;have heq:=hh.eq;have hk:=hh.kid;rw[Wb] at heq hk;have hrm:r∈m:=by rw[heq];exact bU ..
 have CA :∀i∈m,∀k∈cw T i,k.toNat∈m:=fun i hi k hk=>by
  rw[heq];exact bY _ (tI.2 ⟨i,hi,jV hk⟩)
 have hall:=gO.closed CA a r js h hrm;have hlen:m.length=T.length:=by
  have h1:=hh.inv.len;have h2:=Gr T.length m (fun j hj=>hall j (qV hn hlt hl hj))
  omega
 have e:eH T (r:Int)=d (m.getLastD 0):=by
  unfold eH;rw[ak ⟨hN,by omega,by omega⟩,iF,hb]
  exact af (by show ¬ m.length<T.length;omega)
 obtain⟨h1,j,hj,he⟩:=gO.tU (d:=d) a r js h (fun j hj k qX=>(hk j (hall j hj) k qX).2.2)
 have ad0:=hh.root;have hne:m≠[]:=fun e=>by rw[e] at hrm;simp at hrm
 have h2:=h1 _ (sP _ (x9 m 0 hne));have h3:=Gu hm.le (hall j hj);rw[e];omega
section
variable (fo:Nd→Bool) (ko:Int→Int→List Int→Bool) (so:Int→Int) (hd:Nd→List UInt8)
mutual
def Ast.ok:Ast→Bool
 | .mk h ks=>decide (1≤h.line) && fo h && ko h.kind h.num (ks.map fun k=>so k.hd.kind) && Ast.Et ks
def Ast.Et:List Ast→Bool
 | []=>true
 | a::xz=>Ast.ok a && Ast.Et xz
end
variable {fo ko so hd}
theorem bj.aab {T:List Nd} :∀(xz:List Ast) (ks:List Int) (js:List Nat),bj T xz ks js→(ks.map fun k=>so (dz T k.toNat))=xz.map fun k=>so k.hd.kind:=by
 intro xz;induction xz with
 | nil =>
  intro ks js hr;unfold bj at hr;obtain⟨rfl,_⟩:=hr;rfl
 | cons a xz ih =>
  intro ks js hr;unfold bj at hr;obtain⟨k,ir,j1,j2,rfl,h1,h2,rfl⟩:=hr;rw[fX,fX,ih ir j2 h2,iF,h1.root.2.1]
mutual
theorem gO.all {T:List Nd} (Gv :∀x ks,fo { x with kids:=ks}=fo x) :∀(a:Ast) (i:Nat) (js:List Nat),gO T a i js→(Ast.ok fo ko so a=true↔∀j∈js,∀x,T[j]? = some x→km fo ko so T x=true)
 | .mk h xz,i,js,hr=>by
  unfold gO at hr;obtain⟨x,sd,hx,he,hs,rfl⟩:=hr;have h1:=bj.all Gv xz x.kids sd hs;have h2:km fo ko so T x=(decide (1≤h.line) && fo h && ko h.kind h.num (xz.map fun k=>so k.hd.kind)):=by
   unfold km;rw[bj.aab (so:=so) xz x.kids sd hs];have e1:x.line=h.line:=by rw[he]
   have e2:fo x=fo h:=by rw[he,Gv]
   have e3:x.kind=h.kind:=by rw[he]
   have e4:x.num=h.num:=by rw[he]
   rw[e1,e2,e3,e4]
  rw[Ast.ok,cX,←h2,h1];constructor
  ·rintro⟨a1,a2⟩ j hj y hy
   rcases bn.1 hj with rfl|hj
   ·obtain rfl:=gz (hx.symm.trans hy)
    exact a1
   ·exact a2 j hj y hy
  ·intro hall
   exact⟨hall i (bU ..) x hx,fun j hj y hy=>hall j (bY _ hj) y hy⟩
theorem bj.all {T:List Nd} (Gv :∀x ks,fo { x with kids:=ks}=fo x) :∀(xz:List Ast) (ks:List Int) (js:List Nat),bj T xz ks js→(Ast.Et fo ko so xz=true↔∀j∈js,∀x,T[j]? = some x→km fo ko so T x=true)
 | [],ks,js,hr=>by
  unfold bj at hr;obtain⟨_,rfl⟩:=hr;rw[Ast.Et];exact⟨fun _ j hj=>by simp at hj,fun _=>rfl⟩
 | a::xz,ks,js,hr=>by
  unfold bj at hr;obtain⟨k,ir,j1,j2,_,h1,h2,rfl⟩:=hr;rw[Ast.Et,cX,gO.all Gv a k j1 h1,bj.all Gv xz ir j2 h2];constructor
  ·rintro⟨a1,a2⟩ j hj y hy
   rcases dd.1 hj with hj|hj
   ·exact a1 j hj y hy
   ·exact a2 j hj y hy
  ·intro hall
   exact⟨fun j hj=>hall j (fV _ hj),fun j hj=>hall j (jb _ hj)⟩
end
theorem wD {T:List Nd} {r:Nat} {a:Ast} {js:List Nat} (Gv :∀x ks,fo { x with kids:=ks}=fo x) (h:gO T a r js) (hn:js.Nodup) (hl:js.length=T.length) (hN:T.length≤16384) :
  pd fo ko so T (r:Int)=(decide (a.depth≤100) && decide (a.hd.kind=18) && Ast.ok fo ko so a):=by
 have hd:=zQ h hn hl hN;obtain⟨_,hk,_⟩:=h.root;have hlt:=gO.lt a r js h;have h0:a.depth≠0:=by cases a with|mk h ks=>rw[Ast.depth];omega
 have hall:T.all (km fo ko so T)=Ast.ok fo ko so a:=by
  rw[mN,List.all_eq_true,gO.all Gv a r js h];constructor
  ·intro h1 j _ x hx
   exact h1 x (ba hx)
  ·intro h1 x hx
   obtain⟨j,hj,rfl⟩:=List.getElem_of_mem hx;exact h1 j (qV hn hlt hl hj) _ (bE hj)
 unfold pd;rw[hd,iF,hk,hall,bM h0,kJ]
end
end Go.Proofs.YteflkdlaoiijbaaGreatDoor
namespace Go.Proofs.YteflkdlaoiijbaaGreatDoor
abbrev aj:=Int×Int×Int×List UInt8
inductive G (N:Type) (V:N→Type) (α:Type):Type where
 | ret:α→G N V α
 | bad:G N V α
 | tok:(aj→G N V α)→G N V α
 | look:(aj→G N V α)→G N V α
 | call:(n:N)→(V n→G N V α)→G N V α
section
variable {N:Type} {V:N→Type} (body :∀n,G N V (V n))
inductive P:{α:Type}→G N V α→List aj→Except Int (α×List aj)→Prop
 | ret {α:Type} {a:α} {ts:List aj}:P (.ret a) ts (.ok (a,ts))
 | bad {α:Type} {t:aj} {ts:List aj}:P (.bad:G N V α) (t::ts) (.error t.2.1)
 | tok {α:Type} {f:aj→G N V α} {t:aj} {ts:List aj} {r:Except Int (α×List aj)}:P (f t) ts r→P (.tok f) (t::ts) r
 | look {α:Type} {f:aj→G N V α} {t:aj} {ts:List aj} {r:Except Int (α×List aj)}:P (f t) (t::ts) r→P (.look f) (t::ts) r
 | call {α:Type} {n:N} {k:V n→G N V α} {ts ay:List aj} {v:V n} {r:Except Int (α×List aj)}:P (body n) ts (.ok (v,ay))→P (k v) ay r→P (.call n k) ts r
 | iu {α:Type} {n:N} {k:V n→G N V α} {ts:List aj} {e:Int}:P (body n) ts (.error e)→P (.call n k) ts (.error e)
variable {body}
theorem P.one {α:Type} {g:G N V α} {ts:List aj} {r r':Except Int (α×List aj)} (h:P body g ts r) (h':P body g ts r'):r=r':=by
 induction h with
 | ret=>cases h';rfl
 | bad=>cases h';rfl
 | tok _ ih=>cases h' with|tok h2=>exact ih h2
 | look _ ih=>cases h' with|look h2=>exact ih h2
 | call _ _ ZB ih2 =>
  cases h' with
  | call a b =>
   have e:=ZB a;injection e with e;injection e with e1 e2;subst e1 e2;exact ih2 b
  | iu a=>cases ZB a
 | iu _ ih =>
  cases h' with
  | call a b=>cases ih a
  | iu a =>
   have e:=ih a;injection e with e;rw[e]
theorem P.tail {α:Type} {g:G N V α} {ts:List aj} {r:Except Int (α×List aj)} (h:P body g ts r) :∀a ay,r=.ok (a,ay)→∃c,ts=c++ay:=by
 induction h with
 | ret=>rintro a ay e;injection e with e;injection e with _ e2;exact⟨[],by rw[e2];rfl⟩
 | bad=>intro a ay e;cases e
 | @tok _ f t ts r _ ih=>intro a ay e;obtain⟨c,hc⟩:=ih a ay e;exact⟨t::c,by rw[hc];rfl⟩
 | look _ ih=>exact ih
 | call _ _ ZB ih2 =>
  intro a ay e;obtain⟨c1,h1⟩:=ZB _ _ rfl;obtain⟨c2,h2⟩:=ih2 a ay e;exact⟨c1++c2,by rw[h1,h2,fe]⟩
 | iu _ _=>intro a ay e;cases e
def Wp (Post :∀n,List aj→V n→List aj→Prop) {α:Type}:G N V α→List aj→(α→List aj→Prop)→Prop
 | .ret a,ts,Q=>Q a ts
 | .bad,_,_=>True
 | .tok f,ts,Q=>∀t ay,ts=t::ay→Wp Post (f t) ay Q
 | .look f,ts,Q=>∀t ay,ts=t::ay→Wp Post (f t) ts Q
 | .call n k,ts,Q=>∀v ay,Post n ts v ay→Wp Post (k v) ay Q
theorem P.post {Post :∀n,List aj→V n→List aj→Prop} (hb :∀n ts,Wp Post (body n) ts (Post n ts)) {α:Type} {g:G N V α} {ts:List aj} {r:Except Int (α×List aj)} (h:P body g ts r) :
  ∀a ay,r=.ok (a,ay)→∀Q:α→List aj→Prop,Wp Post g ts Q→Q a ay:=by
 induction h with
 | ret =>
  intro a ay e Q hq;injection e with e;injection e with e1 e2;subst e1 e2;exact hq
 | bad=>intro a ay e;cases e
 | tok _ ih=>intro a ay e Q hq;exact ih a ay e Q (hq _ _ rfl)
 | look _ ih=>intro a ay e Q hq;exact ih a ay e Q (hq _ _ rfl)
 | @call _ n k ts fB v r h1 h2 ZB ih2 =>
  intro a ay e Q hq;exact ih2 a ay e Q (hq v fB (ZB v fB rfl _ (hb n ts)))
 | iu _ _=>intro a ay e;cases e
theorem P.holds {Post :∀n,List aj→V n→List aj→Prop} (hb :∀n ts,Wp Post (body n) ts (Post n ts)) {n:N} {ts ay:List aj} {v:V n} (h:P body (body n) ts (.ok (v,ay))):Post n ts v ay :=
 h.post hb v ay rfl _ (hb n ts)
end
end Go.Proofs.YteflkdlaoiijbaaGreatDoor
namespace Go.Proofs.YteflkdlaoiijbaaGreatDoor
def bb (l:List UInt8):ByteArray:=⟨l.toArray⟩
def av (s:List UInt8) (t:aj):Bool:=(decide (t.1=2) || decide (t.1=5)) && decide (t.2.2.2=s)
def gP:List UInt8:=[101,110,100]
def se:List UInt8:=[101,108,115,101]
def jY:List UInt8:=[101,108,115,101,105,102]
def pe:List UInt8:=[117,110,116,105,108]
def iv:List UInt8:=[114,101,116,117,114,110]
def pg:List UInt8:=[98,114,101,97,107]
def sg:List UInt8:=[103,111,116,111]
def zR:List UInt8:=[100,111]
def ph:List UInt8:=[119,104,105,108,101]
def lJ:List UInt8:=[114,101,112,101,97,116]
def Wc:List UInt8:=[105,102]
def zS:List UInt8:=[116,104,101,110]
def CB:List UInt8:=[102,111,114]
def wIn:List UInt8:=[105,110]
def aZ:List UInt8:=[102,117,110,99,116,105,111,110]
def fP:List UInt8:=[108,111,99,97,108]
def sR:List UInt8:=[110,105,108]
def mS:List UInt8:=[116,114,117,101]
def kq:List UInt8:=[102,97,108,115,101]
def CC:List UInt8:=[110,111,116]
def ZC:List UInt8:=[111,114]
def Gx:List UInt8:=[97,110,100]
def wE:List UInt8:=[115,101,108,102]
def iS (t:aj):Bool:=decide (t.1=0) || av gP t || av se t || av jY t || av pe t
def nd (k l:Int) (ks:List Ast):Ast:=.mk ⟨k,l,0,0,⟨#[]⟩,[],[]⟩ ks
def jh (k l:Int) (s:ByteArray) (ks:List Ast):Ast:=.mk ⟨k,l,0,0,s,[],[]⟩ ks
def ZD (k l op:Int) (ks:List Ast):Ast:=.mk ⟨k,l,op,0,⟨#[]⟩,[],[]⟩ ks
def qS (k l n:Int) (ks:List Ast):Ast:=.mk ⟨k,l,0,n,⟨#[]⟩,[],[]⟩ ks
def oA (k l n:Int) (ns:List ByteArray) (ks:List Ast):Ast:=.mk ⟨k,l,0,n,⟨#[]⟩,ns,[]⟩ ks
def my (t:aj):Option (Int×Nat×Nat) :=
 if av ZC t then some (19,1,2) else if av Gx t then some (18,2,3)
 else if av [60] t then some (14,3,4) else if av [62] t then some (16,3,4) else if av [60,61] t then some (15,3,4) else if av [62,61] t then some (17,3,4) else if av [126,61] t then some (13,3,4) else if av [61,61] t then some (12,3,4)
 else if av [124] t then some (7,4,5) else if av [126] t then some (8,5,6) else if av [38] t then some (6,6,7)
 else if av [60,60] t then some (9,7,8) else if av [62,62] t then some (10,7,8) else if av [46,46] t then some (11,8,8)
 else if av [43] t then some (1,9,10) else if av [45] t then some (2,9,10)
 else if av [42] t then some (3,10,11) else if av [47,47] t then some (4,10,11) else if av [37] t then some (5,10,11) else none
def lK (t:aj):Option Int:=if av [45] t then some 20 else if av [126] t then some 21 else if av CC t then some 22 else if av [35] t then some 23 else none
inductive NT where
 | blk|tV (l:List Ast)|ret (at_:Int)|zT|els (l:List Ast)|ZE (at_:Int)|ZF (at_:Int)|Wd (at_:Int) (x:Ast)|loc (at_:Int)|Gy (at_:Int) (self:List ByteArray)
 | UG (l:List ByteArray)|QG|We (l:List ByteArray)|Ck|Wg (l:List Ast)|Wh (at_:Int) (l:List Ast)|Eu|aS (x:Ast)|arg|QH (l:List Ast)|UH|exp (s:Nat)|lvm (s:Nat) (x:Ast)|una|QI
def VT:NT→Type
 | .tV _ | .els _ | .Ck | .Wg _ | .arg | .QH _=>List Ast
 | .UG _=>List ByteArray×Int
 | .QG | .We _=>List ByteArray
 | .blk | .ret _ | .zT | .ZE _ | .ZF _ | .Wd _ _ | .loc _ | .Gy _ _ | .Wh _ _ | .Eu | .aS _ | .UH | .exp _ | .lvm _ _ | .una | .QI=>Ast
abbrev GL (α:Type):=G NT VT α
def want {α:Type} (s:List UInt8) (k:aj→GL α):GL α:=.look fun t=>if av s t then .tok k else .bad
def name {α:Type} (k:aj→GL α):GL α:=.look fun t=>if t.1=1 then .tok k else .bad
def take {α:Type} (s:List UInt8) (a b:GL α):GL α:=.look fun t=>if av s t then .tok fun _=>a else b
def df :∀n:NT,GL (VT n)
 | .blk=>.look fun t=>.call (.tV []) fun(l:List Ast)=>.ret (nd 18 t.2.1 l)
 | .tV l=>.look fun t =>
   if iS t then .ret l
   else if av iv t then .tok fun t=>.call (.ret t.2.1) fun(x:Ast)=>.ret (l++[x])
   else if av [59] t then .tok fun _=>.call (.tV l) fun(l':List Ast)=>.ret l'
   else .call .zT fun(x:Ast)=>.call (.tV (l++[x])) fun(l':List Ast)=>.ret l'
 | .ret at_=>.look fun t =>
   if iS t then .ret (nd 29 at_ [])
   else if av [59] t then .tok fun _=>.ret (nd 29 at_ [])
   else .call .Ck fun(l:List Ast)=>take [59] (.ret (nd 29 at_ l)) (.ret (nd 29 at_ l))
 | .zT=>.look fun t =>
   if av [58,58] t then .tok fun t=>name fun n=>want [58,58] fun _=>.ret (jh 32 t.2.1 (bb n.2.2.2) [])
   else if av pg t then .tok fun t=>.ret (nd 30 t.2.1 [])
   else if av sg t then .tok fun t=>name fun n=>.ret (jh 31 t.2.1 (bb n.2.2.2) [])
   else if av zR t then .tok fun t=>.call .blk fun(b:Ast)=>want gP fun _=>.ret (nd 22 t.2.1 [b])
   else if av ph t then .tok fun t=>.call (.exp 1) fun(e:Ast)=>want zR fun _=>.call .blk fun(b:Ast)=>want gP fun _=>.ret (nd 23 t.2.1 [e,b])
   else if av lJ t then .tok fun t=>.call .blk fun(b:Ast)=>want pe fun _=>.call (.exp 1) fun(e:Ast)=>.ret (nd 24 t.2.1 [b,e])
   else if av Wc t then .tok fun t=>.call (.exp 1) fun(e:Ast)=>want zS fun _=>.call .blk fun(b:Ast)=>.call (.els [e,b]) fun(l:List Ast)=>.ret (nd 25 t.2.1 l)
   else if av CB t then .tok fun t=>.call (.ZE t.2.1) fun(x:Ast)=>.ret x
   else if av aZ t then .tok fun t=>.call (.ZF t.2.1) fun(x:Ast)=>.ret x
   else if av fP t then .tok fun t=>.call (.loc t.2.1) fun(x:Ast)=>.ret x
   else .call .Eu fun(x:Ast)=>if x.hd.kind=9∨x.hd.kind=10 then .ret (nd 21 t.2.1 [x]) else .call (.Wh t.2.1 [x]) fun(y:Ast)=>.ret y
 | .els l=>.look fun t =>
   if av jY t then .tok fun _=>.call (.exp 1) fun(e:Ast)=>want zS fun _=>.call .blk fun(b:Ast)=>.call (.els (l++[e,b])) fun(l':List Ast)=>.ret l'
   else if av se t then .tok fun _=>.call .blk fun(b:Ast)=>want gP fun _=>.ret (l++[b])
   else want gP fun _=>.ret l
 | .ZE at_=>.call .QG fun(ns:List ByteArray)=>.look fun t =>
   if av [61] t∧ns.length=1 then .tok fun _=>.call (.exp 1) fun(a:Ast)=>want [44] fun _=>.call (.exp 1) fun(b:Ast)=>.look fun t =>
    if av [44] t then .tok fun _=>.call (.exp 1) fun(c:Ast)=>want zR fun _=>.call .blk fun(d:Ast)=>want gP fun _=>.ret (oA 26 at_ 0 ns [a,b,c,d])
    else want zR fun _=>.call .blk fun(d:Ast)=>want gP fun _=>.ret (oA 26 at_ 0 ns [a,b,d])
   else want wIn fun _=>.call .Ck fun(l:List Ast)=>want zR fun _=>.call .blk fun(d:Ast)=>want gP fun _=>.ret (oA 27 at_ (l.length:Int) ns (l++[d]))
 | .ZF at_=>name fun n=>.call (.Wd at_ (jh 7 n.2.1 (bb n.2.2.2) [])) fun(x:Ast)=>.ret x
 | .Wd at_ x=>.look fun t =>
   if av [46] t then .tok fun d=>name fun n=>.call (.Wd at_ (nd 8 d.2.1 [x,jh 5 n.2.1 (bb n.2.2.2) []])) fun(y:Ast)=>.ret y
   else if av [58] t then .tok fun d=>name fun n=>.call (.Gy at_ [bb wE]) fun(f:Ast)=>.ret (qS 20 at_ 1 [nd 8 d.2.1 [x,jh 5 n.2.1 (bb n.2.2.2) []],f])
   else .call (.Gy at_ []) fun(f:Ast)=>.ret (qS 20 at_ 1 [x,f])
 | .loc at_=>.look fun t =>
   if av aZ t then .tok fun f=>name fun n=>.call (.Gy f.2.1 []) fun(b:Ast)=>.ret (oA 28 at_ 0 [bb n.2.2.2] [b])
   else .call .QG fun(ns:List ByteArray)=>.look fun t=>if av [61] t then .tok fun _=>.call .Ck fun(l:List Ast)=>.ret (oA 19 at_ 0 ns l) else .ret (oA 19 at_ 0 ns [])
 | .Gy at_ self=>want [40] fun _=>.look fun t =>
   if av [41] t then .tok fun _=>.call .blk fun(b:Ast)=>want gP fun _=>.ret (oA 11 at_ 0 self [b])
   else .call (.UG self) fun(p:List ByteArray×Int)=>want [41] fun _=>.call .blk fun(b:Ast)=>want gP fun _=>.ret (oA 11 at_ p.2 p.1 [b])
 | .UG l=>.look fun t =>
   if av [46,46,46] t then .tok fun _=>.ret ((l,1):List ByteArray×Int)
   else name fun n=>.look fun t=>if av [44] t then .tok fun _=>.call (.UG (l++[bb n.2.2.2])) fun(p:List ByteArray×Int)=>.ret p else .ret ((l++[bb n.2.2.2],0):List ByteArray×Int)
 | .QG=>name fun n=>.call (.We [bb n.2.2.2]) fun(l:List ByteArray)=>.ret l
 | .We l=>.look fun t=>if av [44] t then .tok fun _=>name fun n=>.call (.We (l++[bb n.2.2.2])) fun(l':List ByteArray)=>.ret l' else .ret l
 | .Ck=>.call (.exp 1) fun(e:Ast)=>.call (.Wg [e]) fun(l:List Ast)=>.ret l
 | .Wg l=>.look fun t=>if av [44] t then .tok fun _=>.call (.exp 1) fun(e:Ast)=>.call (.Wg (l++[e])) fun(l':List Ast)=>.ret l' else .ret l
 | .Wh at_ l=>.look fun t =>
   if (l.getLastD (nd 0 0 [])).hd.kind=7∨(l.getLastD (nd 0 0 [])).hd.kind=8 then
    if av [44] t then .tok fun _=>.call .Eu fun(x:Ast)=>.call (.Wh at_ (l++[x])) fun(y:Ast)=>.ret y
    else want [61] fun _=>.call .Ck fun(m:List Ast)=>.ret (qS 20 at_ (l.length:Int) (l++m))
   else .bad
 | .Eu=>.look fun t =>
   if t.1=1 then .tok fun n=>.call (.aS (jh 7 n.2.1 (bb n.2.2.2) [])) fun(x:Ast)=>.ret x
   else if av [40] t then .tok fun o=>.call (.exp 1) fun(e:Ast)=>want [41] fun _=>.call (.aS (nd 14 o.2.1 [e])) fun(x:Ast)=>.ret x
   else .bad
 | .aS x=>.look fun t =>
   if av [46] t then .tok fun d=>name fun n=>.call (.aS (nd 8 d.2.1 [x,jh 5 n.2.1 (bb n.2.2.2) []])) fun(y:Ast)=>.ret y
   else if av [91] t then .tok fun d=>.call (.exp 1) fun(e:Ast)=>want [93] fun _=>.call (.aS (nd 8 d.2.1 [x,e])) fun(y:Ast)=>.ret y
   else if av [58] t then .tok fun d=>name fun n=>.call .arg fun(l:List Ast)=>.call (.aS (jh 10 d.2.1 (bb n.2.2.2) (x::l))) fun(y:Ast)=>.ret y
   else if av [40] t || av [123] t || decide (t.1=4) then .call .arg fun(l:List Ast)=>.call (.aS (nd 9 t.2.1 (x::l))) fun(y:Ast)=>.ret y
   else .ret x
 | .arg=>.look fun t =>
   if t.1=4 then .tok fun s=>.ret ([jh 5 s.2.1 (bb s.2.2.2) []]:List Ast)
   else if av [123] t then .tok fun o=>.call (.QH []) fun(l:List Ast)=>.ret ([nd 15 o.2.1 l]:List Ast)
   else want [40] fun _=>.look fun t=>if av [41] t then .tok fun _=>.ret ([]:List Ast) else .call .Ck fun(l:List Ast)=>want [41] fun _=>.ret l
 | .QH l=>.look fun t =>
   if av [125] t then .tok fun _=>.ret l
   else .call .UH fun(x:Ast)=>.look fun t=>if av [44] t || av [59] t then .tok fun _=>.call (.QH (l++[x])) fun(l':List Ast)=>.ret l' else want [125] fun _=>.ret (l++[x])
 | .UH=>.look fun t =>
   if av [91] t then .tok fun _=>.call (.exp 1) fun(k:Ast)=>want [93] fun _=>want [61] fun _=>.call (.exp 1) fun(e:Ast)=>.ret (nd 17 t.2.1 [k,e])
   else .call (.exp 1) fun(e:Ast)=>.look fun u =>
    if av [61] u∧e.hd.kind=7 then .tok fun _=>.call (.exp 1) fun(v:Ast)=>.ret (nd 17 t.2.1 [jh 5 t.2.1 e.hd.s [],v])
    else .ret (nd 16 t.2.1 [e])
 | .exp s=>.call .una fun(x:Ast)=>.call (.lvm s x) fun(y:Ast)=>.ret y
 | .lvm s x=>.look fun t=>match my t with
   | some o=>if s≤o.2.1 then .tok fun d=>.call (.exp o.2.2) fun(y:Ast)=>.call (.lvm s (ZD 12 d.2.1 o.1 [x,y])) fun(z:Ast)=>.ret z else .ret x
   | none=>.ret x
 | .una=>.look fun t=>match lK t with
   | some o=>.tok fun d=>.call .una fun(x:Ast)=>.ret (ZD 13 d.2.1 o [x])
   | none=>.call .QI fun(x:Ast)=>.ret x
 | .QI=>.look fun t =>
   if av sR t then .tok fun t=>.ret (nd 1 t.2.1 [])
   else if av mS t then .tok fun t=>.ret (nd 2 t.2.1 [])
   else if av kq t then .tok fun t=>.ret (nd 3 t.2.1 [])
   else if av [46,46,46] t then .tok fun t=>.ret (nd 6 t.2.1 [])
   else if av aZ t then .tok fun t=>.call (.Gy t.2.1 []) fun(f:Ast)=>.ret f
   else if av [123] t then .tok fun t=>.call (.QH []) fun(l:List Ast)=>.ret (nd 15 t.2.1 l)
   else if t.1=3 then .tok fun t=>.ret (qS 4 t.2.1 t.2.2.1 [])
   else if t.1=4 then .tok fun t=>.ret (jh 5 t.2.1 (bb t.2.2.2) [])
   else .call .Eu fun(x:Ast)=>.ret x
def pT:GL Ast:=.call .blk fun(b:Ast)=>.look fun t=>if t.1=0 then .ret b else .bad
abbrev PL {α:Type} (g:GL α) (ts:List aj) (r:Except Int (α×List aj)):Prop:=P df g ts r
def oQ (c:Nat):Nat:=if 48≤c∧c≤57 then c-48 else if 97≤c∧c≤122 then c-87 else if 65≤c∧c≤90 then c-55 else 36
def val (b:Nat) (l:List UInt8):Nat:=l.foldl (fun n c=>n*b+oQ c.toNat) 0
theorem Ks (b:Nat) (l:List UInt8) (c:UInt8):val b (l++[c])=val b l*b+oQ c.toNat:=by simp[val]
def iH (b:Nat) (l:List UInt8):Bool:=l.all fun c=>decide (oQ c.toNat<b)
def sS (b:Nat) (l:List UInt8):Bool:=!l.isEmpty && iH b l
theorem Gz (b:Nat) (l:List UInt8) (c:UInt8):iH b (l++[c])=(iH b l && decide (oQ c.toNat<b)):=by simp[iH]
theorem zU {b:Nat} {l:List UInt8} {c:UInt8} (h:c∈l) (hc:b≤oQ c.toNat):iH b l=false:=by
 unfold iH;rw[List.all_eq_false];exact⟨c,h,by simpa using hc⟩
def CD (b:Nat) (l:List UInt8):Nat:=if sS b l then val b l % 18446744073709551616 else 0
theorem ya {b:Nat} {l:List UInt8} (h:sS b l=false):CD b l=0:=by unfold CD;simp[h]
theorem CE {b:Nat} {l:List UInt8} (h:sS b l=true):CD b l=val b l % 18446744073709551616:=by unfold CD;simp[h]
theorem GA (s:ByteArray) (k:Nat) (h:k<s.size):s.data.toList.take (k+1)=s.data.toList.take k++[s[k]]:=by
 rw[List.take_succ_eq_append_getElem (by simpa using h)];rfl
theorem get_mem (s:ByteArray) (k:Nat) (h:k<s.size):s[k]∈s.data.toList:=Ko (l:=s.data.toList) (n:=k) (by simpa using h)
def blanks:List UInt8:=[9,10,11,12,13,32]
def yb (c:Nat):Bool:=decide (9≤c∧c≤13) || decide (c=32)
theorem CF {P:UInt8→Prop} (h :∀i:Fin 256,P (UInt8.ofNat i.val)) (c:UInt8):P c:=by
 have:=h ⟨c.toNat,c.toNat_lt⟩;simpa using this
theorem lL :∀c:UInt8,blanks.contains c=yb c.toNat:=CF (by decide +kernel)
def Ev (l:List UInt8):List UInt8:=Lib.trimS l blanks
theorem jz {p:UInt8→Bool} (l:List UInt8) (c:UInt8):(l++[c]).dropWhile p=if l.dropWhile p=[] then (if p c then [] else [c]) else l.dropWhile p++[c]:=by
 induction l with
 | nil=>simp[List.dropWhile];cases p c<;>simp
 | cons a t ih =>
  by_cases h:p a=true
  ·simp only[gU,List.dropWhile,h]
   exact ih
  ·simp[List.dropWhile,h]
theorem Wi {p:UInt8→Bool} (l:List UInt8):l.dropWhile p=[]↔∀x∈l,p x=true:=by
 induction l with
 | nil=>simp
 | cons a t ih =>
  cases h:p a
  ·simp[List.dropWhile,h]
  ·simp[List.dropWhile,h,ih]
theorem pU {p:UInt8→Bool} (l:List UInt8):l.reverse.dropWhile p=[]→l.dropWhile p=[]:=by
 intro h;rw[Wi] at h ⊢;intro x hx;exact h x (by simpa using hx)
theorem GB {p:UInt8→Bool} (l:List UInt8):(l.reverse.dropWhile p).reverse.dropWhile p=((l.dropWhile p).reverse.dropWhile p).reverse:=by
 induction l with
 | nil=>rfl
 | cons c t ih =>
  rw[Ed,jz];by_cases h0:t.reverse.dropWhile p=[]
  ·rw[ak h0]
   have h1:=pU t h0;cases hc:p c
   ·simp[List.dropWhile,hc,jz,h0]
   ·simp[List.dropWhile,hc,h1]
  ·rw[af h0]
   cases hc:p c
   ·simp[List.dropWhile,hc,jz,h0]
   ·simp[List.dropWhile,hc,ih]
theorem wF (l:List UInt8):Lib.trimRightS (Lib.trimLeftS l blanks) blanks=Ev l:=(GB l).symm
theorem Wj (l:List UInt8):(Ev l).length≤l.length:=by
 rw[←wF];unfold Lib.trimRightS Lib.trimLeftS;rw[List.length_reverse];have h1:=(D8 (fun x=>blanks.contains x) (l:=(List.dropWhile (fun x=>blanks.contains x) l).reverse)).length_le
 have h2:=(D8 (fun x=>blanks.contains x) (l:=l)).length_le
 rw[List.length_reverse] at h1;omega
def sT (l:List UInt8):Bool:=Lib.hasPrefix l [48,120] || Lib.hasPrefix l [48,88]
def pV (most:Int) (l:List UInt8):Bool:=sS 10 l && decide ((val 10 l:Int)≤most)
def CG (most:Int) (l:List UInt8):Nat:=if pV most l then val 10 l else 0
def oB (most:Int) (l:List UInt8):Bool:=if sT l then sS 16 (l.drop 2) else pV most l
def qY (most:Int) (l:List UInt8):Nat:=if sT l then CD 16 (l.drop 2) else CG most l
def wG (n:Int):Int:=(n+9223372036854775808) % 18446744073709551616-9223372036854775808
def yc (l:List UInt8):Bool:=Lib.hasPrefix l [45]
def pW (b:Int) (l:List UInt8):Bool:=if 2≤b∧b≤36 then sS b.toNat (Lib.trimPrefix (Ev l) [45]) else false
def kK (b:Int) (l:List UInt8):Int:=if 2≤b∧b≤36 then (if yc (Ev l) then wG (-(CD b.toNat (Lib.trimPrefix (Ev l) [45]):Int)) else wG (CD b.toNat (Lib.trimPrefix (Ev l) [45]):Int)) else 0
theorem val_zero (l:List UInt8):val 10 (48::l)=val 10 l:=rfl
theorem yd (l:List UInt8) :∀n:Nat,n*10 ^ l.length≤l.foldl (fun n c=>n*10+oQ c.toNat) n:=by
 induction l with
 | nil=>intro n;simp
 | cons c t ih =>
  intro n;have h:=ih (n*10+oQ c.toNat);rw[List.foldl_cons,List.length_cons,Ek];refine aK ?_ h;rw[Eo,show n*(10 ^ t.length*10)=n*10*10 ^ t.length by rw[Nat.mul_assoc,El 10]]
  exact gy _ _
theorem ye (l:List UInt8) (h:iH 10 l=true) :∀n m:Nat,n<m→l.foldl (fun n c=>n*10+oQ c.toNat) n<m*10 ^ l.length:=by
 induction l with
 | nil=>intro n m h;simpa using h
 | cons c t ih =>
  intro n m hm;simp only[iH,rZ,cX,iE] at h;have hh:=ih h.2 (n*10+oQ c.toNat) (m*10) (by omega)
  rw[List.foldl_cons,List.length_cons,Ek,El (10 ^ t.length),←Nat.mul_assoc];exact hh
theorem zV (l:List UInt8):val 10 (Lib.trimLeftB l 48)=val 10 l:=by
 unfold Lib.trimLeftB;induction l with
 | nil=>rfl
 | cons c t ih =>
  by_cases h:c=48
  ·subst h
   rw[val_zero,List.dropWhile,show((48:UInt8) == 48)=true from rfl]
   exact ih
  ·rw[List.dropWhile,show(c == 48)=false by simpa using h]
theorem wH {l:List UInt8} (h:iH 10 l=true):iH 10 (Lib.trimLeftB l 48)=true:=by
 unfold iH at *;rw[List.all_eq_true] at *;exact fun x hx=>h x ((D8 _).subset hx)
theorem GC {l:List UInt8} (h:iH 10 l=true) (hl:(Lib.trimLeftB l 48).length≤19):val 10 l<10000000000000000000:=by
 rw[←zV];have:=ye _ (wH h) 0 1 (by omega)
 rw[Ep] at this;have h2:10 ^ (Lib.trimLeftB l 48).length≤10 ^ 19:=Kc (by omega) hl
 have h3:(10:Nat) ^ 19=10000000000000000000:=by decide
 unfold val;omega
theorem GD (l:List UInt8) :∀c t,Lib.trimLeftB l 48=c::t→c≠48:=by
 unfold Lib.trimLeftB;induction l with
 | nil=>intro c t h;cases h
 | cons a r ih =>
  intro c t h;by_cases e:a=48
  ·subst e
   rw[List.dropWhile,show((48:UInt8) == 48)=true from rfl] at h
   exact ih c t h
  ·rw[List.dropWhile,show(a == 48)=false by simpa using e] at h
   injection h with h1 h2;exact h1▸e
theorem QJ {c:UInt8} (h:oQ c.toNat<10) (hc:c≠48):1≤oQ c.toNat:=by
 have hn:c.toNat≠48:=fun e=>hc (zK.1 e)
 unfold oQ at *;split at h
 ·rename_i hh;rw[ak hh];omega
 ·split at h
  ·omega
  ·split at h<;>omega
theorem Kt {l:List UInt8} (h:iH 10 l=true) (hl:19<(Lib.trimLeftB l 48).length):10000000000000000000≤val 10 l:=by
 rw[←zV];have ha:=wH h;have hh:=GD l;generalize Lib.trimLeftB l 48=m at *;cases m with
 | nil=>simp at hl
 | cons c t =>
  simp only[iH,rZ,cX,iE] at ha;have h1:=QJ ha.1 (hh c t rfl);have h2:=yd t (oQ c.toNat);have h3:10 ^ 19≤10 ^ t.length:=Kc (by omega) (by simp at hl;omega)
  have h4:1*10 ^ t.length≤oQ c.toNat*10 ^ t.length:=Ea _ h1;have h5:(10:Nat) ^ 19=10000000000000000000:=by decide
  have h6:val 10 (c::t)=t.foldl (fun n c=>n*10+oQ c.toNat) (oQ c.toNat):=by simp[val]
  rw[h6];omega
theorem Ku {b:Nat} {l:List UInt8} (h:sS b l=true):iH b l=true:=by
 unfold sS at h;rw[cX] at h;exact h.2
theorem GF {l:List UInt8} (ho:sS 10 l=true) (hl:(Lib.trimLeftB l 48).length≤19):CD 10 l=val 10 l:=by
 have:=GC (Ku ho) hl;rw[CE ho];omega
theorem Kv {m:Int} {l:List UInt8} (ho:sS 10 l=false):pV m l=false:=by unfold pV;rw[ho];rfl
theorem GG {m:Int} {l:List UInt8} (hm:m≤9223372036854775808) (ho:sS 10 l=true) (hl:19<(Lib.trimLeftB l 48).length):pV m l=false:=by
 have:=Kt (Ku ho) hl;unfold pV;rw[ho,kJ,zE];omega
theorem QK {m:Int} {l:List UInt8} (ho:sS 10 l=true) (h:(val 10 l:Int)≤m):pV m l=true:=by unfold pV;rw[ho,kJ,iE];exact h
theorem GH {m:Int} {l:List UInt8} (h:m<(val 10 l:Int)):pV m l=false:=by unfold pV;rw[Bool.and_eq_false_iff,zE];right;omega
theorem yg {m:Int} {l:List UInt8} (h:pV m l=false):CG m l=0:=by unfold CG;simp[h]
theorem QL {m:Int} {l:List UInt8} (h:pV m l=true):CG m l=val 10 l:=by unfold CG;simp[h]
def oR (c:UInt8):Bool:=yb c.toNat
def si (c:UInt8):Bool:=decide (97≤c.toNat∧c.toNat≤122) || decide (65≤c.toNat∧c.toNat≤90) || decide (c.toNat=95)
def fQ (c:UInt8):Bool:=decide (48≤c.toNat∧c.toNat≤57)
def zo (c:UInt8):Bool:=fQ c || decide (97≤c.toNat∧c.toNat≤102) || decide (65≤c.toNat∧c.toNat≤70)
def jZ (c:UInt8):Bool:=si c || fQ c
def mJ (c:UInt8):Bool:=jZ c || decide (c.toNat=46)
def Ew (c:UInt8):Bool:=decide (c.toNat=39) || decide (c.toNat=34)
def runN (p:UInt8→Bool) (l:List UInt8):Nat:=(l.takeWhile p).length
theorem pX (p:UInt8→Bool) (l:List UInt8):l.take (runN p l)=l.takeWhile p:=by
 unfold runN;induction l with
 | nil=>rfl
 | cons a t ih=>cases h:p a<;>simp[h,ih]
theorem pY (p:UInt8→Bool) (l:List UInt8):l.drop (runN p l)=l.dropWhile p:=by
 unfold runN;induction l with
 | nil=>rfl
 | cons a t ih=>cases h:p a<;>simp[h,ih]
theorem gZ (p:UInt8→Bool) (l:List UInt8):runN p l≤l.length:=by
 unfold runN;exact(List.takeWhile_sublist p (l:=l)).length_le
def nl (l:List UInt8):Nat:=Lib.countByte l 10
theorem Wk:nl []=0:=rfl
theorem yh (a b:List UInt8):nl (a++b)=nl a+nl b:=by unfold nl Lib.countByte;rw[List.count_append]
theorem Wl (l:List UInt8) (k:Nat):nl l=nl (l.take k)+nl (l.drop k):=by rw[←yh,Kb]
theorem UI (l:List UInt8):nl l≤l.length:=List.count_le_length
def keys:List (List UInt8):=[[97,110,100],[98,114,101,97,107],[100,111],[101,108,115,101],[101,108,115,101,105,102],[101,110,100],[102,97,108,115,101],[102,111,114],[102,117,110,99,116,105,111,110],[103,111,116,111],[105,102],[105,110],[108,111,99,97,108],[110,105,108],[110,111,116],[111,114],[114,101,112,101,97,116],[114,101,116,117,114,110],[116,104,101,110],[116,114,117,101],[117,110,116,105,108],[119,104,105,108,101]]
def gA (l:List UInt8):Bool:=keys.contains l
def signs:List (List UInt8):=[[43],[45],[42],[47,47],[37],[38],[124],[126],[60,60],[62,62],[46,46],[46,46,46],[61,61],[126,61],[60],[60,61],[62],[62,61],[61],[40],[41],[123],[125],[91],[93],[59],[58],[58,58],[44],[46],[35]]
def mT (l:List UInt8):Bool:=signs.contains l
def opn (l:List UInt8):Nat :=
 if Lib.hasPrefix l [91] then (if Lib.hasPrefix (Lib.trimLeftB (l.drop 1) 61) [91] then l.length-((Lib.trimLeftB (l.drop 1) 61).drop 1).length else 0) else 0
def clo (x:List UInt8):List UInt8:=Lib.replaceAll x [91] [93]
def JO (l:List UInt8):Option (List UInt8×List UInt8) :=
 if (Lib.cut (l.drop (opn l)) (clo (l.take (opn l)))).2.2 then some (Lib.trimPrefix (Lib.cut (l.drop (opn l)) (clo (l.take (opn l)))).1 [10],(Lib.cut (l.drop (opn l)) (clo (l.take (opn l)))).2.1) else none
def comm (l:List UInt8):Option (List UInt8) :=
 if 0<opn l then (JO l).map (·.2) else some (l.drop (Lib.cut l [10]).1.length)
inductive mV:List UInt8→Except (List UInt8) (List UInt8)→Prop
 | done {l r:List UInt8}:l.dropWhile oR=r→Lib.hasPrefix r [45,45]=false→mV l (.ok r)
 | more {l r r':List UInt8} {o:Except (List UInt8) (List UInt8)}:l.dropWhile oR=45::45::r→comm r=some r'→mV r' o→mV l o
 | bad {l r:List UInt8}:l.dropWhile oR=45::45::r→comm r=none→mV l (.error (45::45::r))
def code (b:Int) (p:UInt8→Bool) (least most:Nat) (l:List UInt8):Option (List UInt8×List UInt8) :=
 if pW b (l.take (min most (runN p l)))=true∧least≤min most (runN p l)∧kK b (l.take (min most (runN p l)))≤255 then
  some ([UInt8.ofNat (kK b (l.take (min most (runN p l)))).toNat],l.drop (min most (runN p l))) else none
def vO (c:UInt8):Option UInt8 :=
 if c.toNat=97 then some 7 else if c.toNat=98 then some 8 else if c.toNat=102 then some 12 else if c.toNat=110 then some 10 else if c.toNat=114 then some 13 else if c.toNat=116 then some 9 else if c.toNat=118 then some 11 else none
def pZ (c:UInt8):Bool:=decide (c.toNat=92) || decide (c.toNat=39) || decide (c.toNat=34) || decide (c.toNat=10)
def pj (c:UInt8) (r:List UInt8):Option (List UInt8×List UInt8) :=
 match vO c with
 | some x=>some ([x],r)
 | none=>if pZ c then some ([c],r) else if c.toNat=122 then some ([],r.dropWhile oR) else if c.toNat=120 then code 16 zo 2 2 r else if fQ c then code 10 fQ 1 3 (c::r) else none
def pM:List UInt8→Option (List UInt8×List UInt8)
 | []=>none
 | c::r=>pj c r
inductive yi (q:UInt8):List UInt8→Option (List UInt8×List UInt8)→Prop
 | shut {r:List UInt8}:yi q (q::r) (some ([],r))
 | none:yi q [] none
 | line {r:List UInt8}:q≠10→yi q (10::r) none
 | pM {r m r':List UInt8} {o:Option (List UInt8×List UInt8)}:q≠92→pM r=some (m,r')→yi q r' o→yi q (92::r) (o.map fun x=>(m++x.1,x.2))
 | bad {r:List UInt8}:q≠92→Go.Proofs.YteflkdlaoiijbaaGreatDoor.pM r=Option.none→yi q (92::r) Option.none
 | byte {c:UInt8} {r:List UInt8} {o:Option (List UInt8×List UInt8)}:c≠q→c≠10→c≠92→yi q r o→yi q (c::r) (o.map fun x=>(c::x.1,x.2))
def sign (l:List UInt8):Option (List UInt8×List UInt8) :=
 if mT (l.take 3) then some (l.take 3,l.drop 3) else if mT (l.take 2) then some (l.take 2,l.drop 2) else if mT (l.take 1) then some (l.take 1,l.drop 1) else none
inductive Tok:List UInt8→Option (Int×Int×List UInt8×List UInt8)→Prop
 | eof:Tok [] (some (0,0,[],[]))
 | name {c:UInt8} {r:List UInt8}:si c=true→Tok (c::r) (some (if gA ((c::r).takeWhile jZ) then 2 else 1,0,(c::r).takeWhile jZ,(c::r).dropWhile jZ))
 | num {c:UInt8} {r:List UInt8}:si c=false→fQ c=true→oB 9223372036854775807 ((c::r).takeWhile mJ)=true →
   Tok (c::r) (some (3,wG (qY 9223372036854775807 ((c::r).takeWhile mJ):Int),[],(c::r).dropWhile mJ))
 | CH {c:UInt8} {r:List UInt8}:si c=false→fQ c=true→oB 9223372036854775807 ((c::r).takeWhile mJ)=false→Tok (c::r) none
 | text {c:UInt8} {r:List UInt8} {o:Option (List UInt8×List UInt8)}:si c=false→fQ c=false→Ew c=true→yi c r o→Tok (c::r) (o.map fun x=>(4,0,x.1,x.2))
 | long {c:UInt8} {r:List UInt8}:si c=false→fQ c=false→Ew c=false→0<opn (c::r)→Tok (c::r) ((JO (c::r)).map fun x=>(4,0,x.1,x.2))
 | sign {c:UInt8} {r:List UInt8}:si c=false→fQ c=false→Ew c=false→¬ 0<opn (c::r)→Tok (c::r) ((sign (c::r)).map fun x=>(5,0,x.1,x.2))
abbrev Tk:=Int×Int×Int×List UInt8
inductive kt (L:Int):List UInt8→Except Int (List Tk)→Prop
 | lM {l r:List UInt8}:mV l (.error r)→kt L l (.error (L-nl r))
 | pk {l r:List UInt8}:mV l (.ok r)→Tok r none→kt L l (.error (L-nl r))
 | eof {l:List UInt8}:mV l (.ok [])→kt L l (.ok [(0,L,0,[])])
 | step {l r r' s:List UInt8} {k n:Int} {o:Except Int (List Tk)}:mV l (.ok r)→r≠[]→Tok r (some (k,n,s,r'))→kt L r' o→kt L l (o.map ((k,L-nl r,n,s) :: ·))
theorem mV.sU {l:List UInt8} {o:Except (List UInt8) (List UInt8)} (h:mV l o) :∀{o'},mV l o'→o=o':=by
 induction h with
 | done h1 h2 =>
  intro o' h';cases h' with
  | done g1 g2=>rw[←h1,←g1]
  | more g1 g2 g3=>rw[h1] at g1;subst g1;simp[Lib.hasPrefix] at h2
  | bad g1 g2=>rw[h1] at g1;subst g1;simp[Lib.hasPrefix] at h2
 | more h1 h2 h3 ih =>
  intro o' h';cases h' with
  | done g1 g2=>rw[h1] at g1;subst g1;simp[Lib.hasPrefix] at g2
  | more g1 g2 g3 =>
   rw[h1] at g1;injection g1 with _ g1;injection g1 with _ g1;subst g1;rw[h2] at g2;injection g2 with g2;subst g2;exact ih g3
  | bad g1 g2 =>
   rw[h1] at g1;injection g1 with _ g1;injection g1 with _ g1;subst g1;rw[h2] at g2;cases g2
 | bad h1 h2 =>
  intro o' h';cases h' with
  | done g1 g2=>rw[h1] at g1;subst g1;simp[Lib.hasPrefix] at g2
  | more g1 g2 g3 =>
   rw[h1] at g1;injection g1 with _ g1;injection g1 with _ g1;subst g1;rw[h2] at g2;cases g2
  | bad g1 g2=>rw[←h1,←g1]
theorem yi.sU {q:UInt8} {l:List UInt8} {o:Option (List UInt8×List UInt8)} (h:yi q l o) :∀{o'},yi q l o'→o=o':=by
 induction h with
 | shut =>
  intro o' h';cases h' with
  | shut=>rfl
  | line g=>exact absurd rfl g
  | pM g=>exact absurd rfl g
  | bad g=>exact absurd rfl g
  | byte g=>exact absurd rfl g
 | none=>intro o' h';cases h';rfl
 | line h =>
  intro o' h';cases h' with
  | shut=>exact absurd rfl h
  | line g=>rfl
  | byte g1 g2=>exact absurd rfl g2
 | pM h1 h2 h3 ih =>
  intro o' h';cases h' with
  | shut=>exact absurd rfl h1
  | pM g1 g2 g3 =>
   rw[h2] at g2;injection g2 with g2;injection g2 with a b;subst a;subst b;rw[ih g3]
  | bad g1 g2=>rw[h2] at g2;cases g2
  | byte g1 g2 g3=>exact absurd rfl g3
 | bad h1 h2 =>
  intro o' h';cases h' with
  | shut=>exact absurd rfl h1
  | pM g1 g2 g3=>rw[h2] at g2;cases g2
  | bad g1 g2=>rfl
  | byte g1 g2 g3=>exact absurd rfl g3
 | byte h1 h2 h3 h4 ih =>
  intro o' h';cases h' with
  | shut=>exact absurd rfl h1
  | line=>exact absurd rfl h2
  | pM=>exact absurd rfl h3
  | bad=>exact absurd rfl h3
  | byte g1 g2 g3 g4=>rw[ih g4]
theorem Tok.sU {l:List UInt8} {o:Option (Int×Int×List UInt8×List UInt8)} (h:Tok l o) :∀{o'},Tok l o'→o=o':=by
 intro o' h';cases h<;>cases h'<;>first|rfl|(simp_all;done)|skip
 rename_i a b c d e f g i j k;rw[e.sU k]
theorem kt.sU {L:Int} {l:List UInt8} {o:Except Int (List Tk)} (h:kt L l o) :∀{o'},kt L l o'→o=o':=by
 induction h with
 | lM h1 =>
  intro o' h';cases h' with
  | lM g1=>cases h1.sU g1;rfl
  | pk g1=>cases h1.sU g1
  | eof g1=>cases h1.sU g1
  | step g1=>cases h1.sU g1
 | pk h1 h2 =>
  intro o' h';cases h' with
  | lM g1=>cases h1.sU g1
  | pk g1=>cases h1.sU g1;rfl
  | eof g1=>cases h1.sU g1;cases h2
  | step g1 _ g3=>cases h1.sU g1;cases h2.sU g3
 | eof h1 =>
  intro o' h';cases h' with
  | lM g1=>cases h1.sU g1
  | pk g1 g2=>cases h1.sU g1;cases g2
  | eof g1=>rfl
  | step g1 g2=>cases h1.sU g1;exact absurd rfl g2
 | step h1 h2 h3 h4 ih =>
  intro o' h';cases h' with
  | lM g1=>cases h1.sU g1
  | pk g1 g2=>cases h1.sU g1;cases h3.sU g2
  | eof g1=>cases h1.sU g1;exact absurd rfl h2
  | step g1 g2 g3 g4 =>
   cases h1.sU g1;cases h3.sU g3;rw[ih g4]
theorem Wm (l:List UInt8):opn l≤l.length:=by unfold opn;split<;>(try split)<;>omega
theorem Wn (l:List UInt8):(Lib.cut l [10]).1=l.takeWhile (fun c=>c != 10):=by
 unfold Lib.cut;rw[Lib.index_one];induction l with
 | nil=>rfl
 | cons a t ih =>
  unfold Lib.indexByte;by_cases h:a=10
  ·subst h;simp
  ·have hb:(a == 10)=false:=by simpa using h
   simp only[zG,bne,hb,Bool.not_false];by_cases h1:0≤Lib.indexByte t 10
   ·rw[ak h1] at ih
    have e:(Lib.indexByte t 10 == -1)=false:=by simpa using (by omega:Lib.indexByte t 10≠-1)
    simp only[e,Kh,if_false,if_true];rw[ak (by omega)]
    rw[show(Lib.indexByte t 10+1).toNat=(Lib.indexByte t 10).toNat+1 by omega,List.take_succ_cons]
    simp only[bne] at ih;rw[←ih]
   ·rw[af h1] at ih
    have hge:=Lib.index_ge t [10];rw[Lib.index_one] at hge;have e:Lib.indexByte t 10 = -1:=by omega
    simp[e];simp only[bne] at ih;simpa using ih
theorem gg {c x:UInt8} (r:List UInt8) (e:vO c=some x):pj c r=some ([x],r):=by unfold pj;rw[e]
theorem kL {c:UInt8} (r:List UInt8) (e:vO c=none) (h:pZ c=true):pj c r=some ([c],r):=by unfold pj;rw[e];exact ak h
theorem Kw {c:UInt8} (r:List UInt8) (e:vO c=none) (h:pZ c=false) (h2:c.toNat=122):pj c r=some ([],r.dropWhile oR):=by
 unfold pj;rw[e];exact(af (by rw[h];decide)).trans (ak h2)
theorem Kx {c:UInt8} (r:List UInt8) (e:vO c=none) (h:pZ c=false) (h2:c.toNat=120):pj c r=code 16 zo 2 2 r:=by
 unfold pj;rw[e];exact(af (by rw[h];decide)).trans ((af (by omega)).trans (ak h2))
theorem Ky {c:UInt8} (r:List UInt8) (e:vO c=none) (h:pZ c=false) (h2:c.toNat≠122) (h3:c.toNat≠120) (h4:fQ c=true):pj c r=code 10 fQ 1 3 (c::r):=by
 unfold pj;rw[e];exact(af (by rw[h];decide)).trans ((af h2).trans ((af h3).trans (ak h4)))
theorem Ex {c:UInt8} (r:List UInt8) (e:vO c=none) (h:pZ c=false) (h2:c.toNat≠122) (h3:c.toNat≠120) (h4:fQ c=false):pj c r=none:=by
 unfold pj;rw[e];exact(af (by rw[h];decide)).trans ((af h2).trans ((af h3).trans (af (by rw[h4];decide))))
open Go.RowKit
theorem QM {a b:Int} (h:a=b):Ending.returned (.int .u64 a)=.returned (.int .u64 b):=by rw[h]
theorem Wo (c:Nat):c<48∨(48≤c∧c≤57)∨(58≤c∧c≤64)∨(65≤c∧c≤90)∨(91≤c∧c≤96)∨(97≤c∧c≤122)∨123≤c:=by omega
theorem wI (c:Nat) (w:World) (h:c≤255) :
  Calls Tryz.prog 192 #[.int .u8 c] w fun e w'=>e=.returned (.int .u64 (oQ c:Int))∧w=w':=by
 rcases Wo c with h1|h1|h1|h1|h1|h1|h1;all_goals
  go_enter Tryz.func192,Tryz.ntmps192
  go_wp2
  go_ret
  refine⟨QM ?_,rfl⟩;unfold oQ;repeat (first|rw[ak (by omega)]|rw[af (by omega)])
  first|rfl|omega
theorem aac (c:UInt8):c.toNat≤255:=by have:=c.toNat_lt;omega
theorem Wq (s:ByteArray) (h:0<s.size):s.data.toList≠[]:=by
 intro e;have:=Lib.size_eq s;rw[e,List.length_nil] at this;omega
theorem QN (s:ByteArray) (h:¬ 0<s.size):s.data.toList=[]:=by
 have:=Lib.size_eq s;exact pO (by omega)
theorem tW {b:Nat} {l:List UInt8} (h:l=[]):sS b l=false:=by subst h;rfl
theorem Ey {b:Nat} {l:List UInt8} (h:l≠[]) (h':iH b l=true):sS b l=true:=by
 unfold sS;cases l with
 | nil=>exact absurd rfl h
 | cons=>simpa using h'
theorem QO {b:Nat} {l:List UInt8} {c:UInt8} (h:c∈l) (hc:b≤oQ c.toNat):sS b l=false:=by
 unfold sS;rw[zU h hc];simp
theorem lN {a a':Int} {o o':Bool} (h:a=a') (h':o=o'):Ending.returned (.tuple #[.int .u64 a,.bool o])=.returned (.tuple #[.int .u64 a',.bool o']):=by rw[h,h']
theorem Kz (v b d:Nat):IntKind.u64.wrap (IntKind.u64.wrap ((v:Int) % 18446744073709551616*(b:Int))+(d:Int))=((v*b+d) % 18446744073709551616:Nat):=by
 rw[IntKind.wrap_u64,IntKind.wrap_u64];have e:(v:Int) % 18446744073709551616*(b:Int) % 18446744073709551616=(v*b:Int) % 18446744073709551616:=by
  rw[Int.mul_emod,Int.emod_emod_of_dvd _ (Int.dvd_refl _),←Int.mul_emod]
 rw[e];have:((v*b:Nat):Int)=(v*b:Int):=by simp
 rw[←this];omega
theorem kM (s:ByteArray) (b:Nat) (w:World) (hs:s.size≤9223372036854775807) :
  Calls Tryz.prog 169 #[.string s,.int .u64 b] w fun e w'=>e=.returned (.tuple #[.int .u64 (CD b s.data.toList:Int),.bool (sS b s.data.toList)])∧w=w':=by
 by_cases h0:0<s.size
 ·have hl:=Wq s h0
  have he:(s.toList.isEmpty)=false:=by rw[Lib.toList_data];simpa using hl
  have HL:=aa hl;clear hl;go_enter Tryz.func169,Tryz.ntmps169
  go_wp2
  go_loop [6,13] (fun n i=>∃k:Nat,k≤s.size∧i=.int .i64 k∧n=.int .u64 ((val b (s.data.toList.take k) % 18446744073709551616:Nat):Int)∧iH b (s.data.toList.take k)=true) (fun _ i=>s.size-(intOf i).toNat)
  case atStart=>exact⟨0,aR _,rfl,rfl,rfl⟩
  case round =>
   obtain⟨k,hk,rfl,rfl,ha⟩:=hrel;have HA:=aa ha;clear ha;by_cases hlt:k<s.size
   ·have ji:=aa (GA s k hlt)
    by_cases hd:oQ s[k].toNat<b
    ·have hm:val b (s.data.toList.take k) % 18446744073709551616<18446744073709551616:=Nat.mod_lt _ (by decide)
     have hvs:=aa (Ks b (s.data.toList.take k) s[k]);have has:=aa (Gz b (s.data.toList.take k) s[k]);generalize hv:val b (s.data.toList.take k)=v at hm hvs ⊢;clear hv;go_wp2_with (go_at_call 192;(with_reducible refine(wI _ _ (aac _)).mono ?_);rintro e w' ⟨rfl,rfl⟩)
     go_round
     case rel=>exact⟨k+1,by omega,by go_num,by rw[ji.out,hvs.out];exact ax _ (Kz v b _),by rw[ji.out,has.out,HA.out];simpa using hd⟩
     case measure=>simp[intOf];omega
    ·have pn:=aa (QO (b:=b) (get_mem s k hlt) (by omega))
     go_wp2_with (go_at_call 192;(with_reducible refine(wI _ _ (aac _)).mono ?_);rintro e w' ⟨rfl,rfl⟩)
     go_ret2
     exact⟨lN (by rw[ya pn.out];rfl) pn.out.symm,rfl⟩
   ·have Es:k=s.size:=by omega
    have ha:=HA.out;rw[Es,Lib.size_eq,zJ] at ha;have CI:=Ey HL.out ha;have HO:=aa CI;have HK:=aa Es;clear CI Es ha;go_wp2
    go_ret2
    exact⟨lN (by rw[CE HO.out,HK.out,Lib.size_eq,zJ];omega) HO.out.symm,rfl⟩
 ·have hl:=QN s h0
  have he:(s.toList.isEmpty)=true:=by rw[Lib.toList_data,hl];rfl
  rw[ya (tW hl),tW hl];clear hl;go_enter Tryz.func169,Tryz.ntmps169
  go_wp2
  all_goals
   go_ret2
   exact⟨rfl,rfl⟩
end Go.Proofs.YteflkdlaoiijbaaGreatDoor
open Go.Shelf
namespace Go.Proofs
def Tryz.zW:Go.Shelf.Ren:=⟨fun|161=>175|231=>196|227=>197|233=>198|235=>199|228=>219|197=>202|151=>220|260=>223|152=>232|137=>171|119=>237|224=>215|225=>214|217=>193|266=>217|n=>n,fun|9=>9|4=>4|3=>3|5=>5|117=>266|116=>265|0=>0|124=>269|105=>275|21=>21|119=>291|46=>282|139=>294|138=>293|n=>n,fun|3=>2|4=>3|n=>n⟩
theorem Tryz.QP:Go.Proofs.Lays.n161 Tryz.prog Tryz.zW:={
 mixed:=by kernel_rfl
 f119:=Tryz.func237.trans (ax some (by kernel_rfl))
 f137:=Tryz.func171.trans (ax some (by kernel_rfl))
 f151:=Tryz.func220.trans (ax some (by kernel_rfl))
 f152:=Tryz.func232.trans (ax some (by kernel_rfl))
 f161:=Tryz.func175.trans (ax some (by kernel_rfl))
 f197:=Tryz.func202.trans (ax some (by kernel_rfl))
 f217:=Tryz.func193.trans (ax some (by kernel_rfl))
 f224:=Tryz.func215.trans (ax some (by kernel_rfl))
 f225:=Tryz.func214.trans (ax some (by kernel_rfl))
 f227:=Tryz.func197.trans (ax some (by kernel_rfl))
 f228:=Tryz.func219.trans (ax some (by kernel_rfl))
 f231:=Tryz.func196.trans (ax some (by kernel_rfl))
 f233:=Tryz.func198.trans (ax some (by kernel_rfl))
 f235:=Tryz.func199.trans (ax some (by kernel_rfl))
 f260:=Tryz.func223.trans (ax some (by kernel_rfl))
 f266:=Tryz.func217.trans (ax some (by kernel_rfl))
 t0:=Tryz.underlying0
 a0:=Tryz.isAgg0
 z0:=Tryz.sizeOf0
 v0:=Tryz.zeroValue0
 t3:=Tryz.underlying3
 a3:=Tryz.isAgg3
 z3:=Tryz.sizeOf3
 v3:=Tryz.zeroValue3
 t4:=Tryz.underlying4
 a4:=Tryz.isAgg4
 z4:=Tryz.sizeOf4
 v4:=Tryz.zeroValue4
 t5:=Tryz.underlying5
 a5:=Tryz.isAgg5
 z5:=Tryz.sizeOf5
 v5:=Tryz.zeroValue5
 t9:=Tryz.underlying9
 a9:=Tryz.isAgg9
 z9:=Tryz.sizeOf9
 v9:=Tryz.zeroValue9
 t21:=Tryz.underlying21
 a21:=Tryz.isAgg21
 z21:=Tryz.sizeOf21
 v21:=Tryz.zeroValue21
 t46:=Tryz.underlying282
 a46:=Tryz.isAgg282
 z46:=Tryz.sizeOf282
 v46:=Tryz.zeroValue282
 t105:=Tryz.underlying275
 a105:=Tryz.isAgg275
 z105:=Tryz.sizeOf275
 v105:=Tryz.zeroValue275
 t116:=Tryz.underlying265
 a116:=Tryz.isAgg265
 z116:=Tryz.sizeOf265
 t117:=Tryz.underlying266
 a117:=Tryz.isAgg266
 z117:=Tryz.sizeOf266
 v117:=Tryz.zeroValue266
 t119:=Tryz.underlying291
 a119:=Tryz.isAgg291
 z119:=Tryz.sizeOf291
 t124:=Tryz.underlying269
 a124:=Tryz.isAgg269
 z124:=Tryz.sizeOf269
 v124:=Tryz.zeroValue269
 t138:=Tryz.underlying293
 a138:=Tryz.isAgg293
 z138:=Tryz.sizeOf293
 v138:=Tryz.zeroValue293
 t139:=Tryz.underlying294
 a139:=Tryz.isAgg294
 z139:=Tryz.sizeOf294
 v139:=Tryz.zeroValue294
 g3:=by kernel_rfl
 g4:=by kernel_rfl}
open Go.RowKit in
theorem Tryz.strings_TrimLeft_one (s:ByteArray) (c:UInt8) (hc:c.toNat<128) (w:World) :
  Calls Tryz.prog 175 #[.string s,.string ⟨#[c]⟩] w fun e w'=>e=.returned (.string ⟨(Lib.trimLeftB s.data.toList c).toArray⟩)∧w'=w:=Any.strings_TrimLeft_one Tryz.QP s c hc w
def Tryz.zX:Go.Shelf.Ren:=⟨fun|160=>218|232=>229|231=>196|227=>197|234=>230|233=>198|236=>231|235=>199|228=>219|271=>236|151=>220|197=>202|120=>240|152=>232|260=>223|137=>171|119=>237|224=>215|225=>214|217=>193|266=>217|n=>n,fun|9=>9|4=>4|3=>3|5=>5|117=>266|116=>265|0=>0|124=>269|21=>21|105=>275|46=>282|119=>291|139=>294|138=>293|n=>n,fun|3=>2|4=>3|n=>n⟩
theorem Tryz.QQ:Go.Proofs.Lays.n160 Tryz.prog Tryz.zX:={
 mixed:=by kernel_rfl
 f119:=Tryz.func237.trans (ax some (by kernel_rfl))
 f120:=Tryz.func240.trans (ax some (by kernel_rfl))
 f137:=Tryz.func171.trans (ax some (by kernel_rfl))
 f151:=Tryz.func220.trans (ax some (by kernel_rfl))
 f152:=Tryz.func232.trans (ax some (by kernel_rfl))
 f160:=Tryz.func218.trans (ax some (by kernel_rfl))
 f197:=Tryz.func202.trans (ax some (by kernel_rfl))
 f217:=Tryz.func193.trans (ax some (by kernel_rfl))
 f224:=Tryz.func215.trans (ax some (by kernel_rfl))
 f225:=Tryz.func214.trans (ax some (by kernel_rfl))
 f227:=Tryz.func197.trans (ax some (by kernel_rfl))
 f228:=Tryz.func219.trans (ax some (by kernel_rfl))
 f231:=Tryz.func196.trans (ax some (by kernel_rfl))
 f232:=Tryz.func229.trans (ax some (by kernel_rfl))
 f233:=Tryz.func198.trans (ax some (by kernel_rfl))
 f234:=Tryz.func230.trans (ax some (by kernel_rfl))
 f235:=Tryz.func199.trans (ax some (by kernel_rfl))
 f236:=Tryz.func231.trans (ax some (by kernel_rfl))
 f260:=Tryz.func223.trans (ax some (by kernel_rfl))
 f266:=Tryz.func217.trans (ax some (by kernel_rfl))
 f271:=Tryz.func236.trans (ax some (by kernel_rfl))
 t0:=Tryz.underlying0
 a0:=Tryz.isAgg0
 z0:=Tryz.sizeOf0
 v0:=Tryz.zeroValue0
 t3:=Tryz.underlying3
 a3:=Tryz.isAgg3
 z3:=Tryz.sizeOf3
 v3:=Tryz.zeroValue3
 t4:=Tryz.underlying4
 a4:=Tryz.isAgg4
 z4:=Tryz.sizeOf4
 v4:=Tryz.zeroValue4
 t5:=Tryz.underlying5
 a5:=Tryz.isAgg5
 z5:=Tryz.sizeOf5
 v5:=Tryz.zeroValue5
 t9:=Tryz.underlying9
 a9:=Tryz.isAgg9
 z9:=Tryz.sizeOf9
 v9:=Tryz.zeroValue9
 t21:=Tryz.underlying21
 a21:=Tryz.isAgg21
 z21:=Tryz.sizeOf21
 v21:=Tryz.zeroValue21
 t46:=Tryz.underlying282
 a46:=Tryz.isAgg282
 z46:=Tryz.sizeOf282
 v46:=Tryz.zeroValue282
 t105:=Tryz.underlying275
 a105:=Tryz.isAgg275
 z105:=Tryz.sizeOf275
 v105:=Tryz.zeroValue275
 t116:=Tryz.underlying265
 a116:=Tryz.isAgg265
 z116:=Tryz.sizeOf265
 t117:=Tryz.underlying266
 a117:=Tryz.isAgg266
 z117:=Tryz.sizeOf266
 v117:=Tryz.zeroValue266
 t119:=Tryz.underlying291
 a119:=Tryz.isAgg291
 z119:=Tryz.sizeOf291
 t124:=Tryz.underlying269
 a124:=Tryz.isAgg269
 z124:=Tryz.sizeOf269
 v124:=Tryz.zeroValue269
 t138:=Tryz.underlying293
 a138:=Tryz.isAgg293
 z138:=Tryz.sizeOf293
 v138:=Tryz.zeroValue293
 t139:=Tryz.underlying294
 a139:=Tryz.isAgg294
 z139:=Tryz.sizeOf294
 v139:=Tryz.zeroValue294
 g3:=by kernel_rfl
 g4:=by kernel_rfl}
def Tryz.zY:Go.Shelf.Ren:=⟨fun|137=>171|217=>193|266=>217|n=>n,fun|9=>9|5=>5|3=>3|n=>n,fun|n=>n⟩
theorem Tryz.QR:Go.Proofs.Lays.n137 Tryz.prog Tryz.zY:={
 mixed:=by kernel_rfl
 f137:=Tryz.func171.trans (ax some (by kernel_rfl))
 f217:=Tryz.func193.trans (ax some (by kernel_rfl))
 f266:=Tryz.func217.trans (ax some (by kernel_rfl))
 t3:=Tryz.underlying3
 a3:=Tryz.isAgg3
 z3:=Tryz.sizeOf3
 v3:=Tryz.zeroValue3
 t5:=Tryz.underlying5
 a5:=Tryz.isAgg5
 z5:=Tryz.sizeOf5
 v5:=Tryz.zeroValue5
 t9:=Tryz.underlying9
 a9:=Tryz.isAgg9
 z9:=Tryz.sizeOf9
 v9:=Tryz.zeroValue9}
open Go.RowKit in
theorem Tryz.strings_IndexByte (s:ByteArray) (c:Int) (w:World) :
  Calls Tryz.prog 171 #[.string s,.int .u8 c] w fun e w'=>e=.returned (.int .i64 (Lib.indexByte s.data.toList c.toNat.toUInt8))∧w'=w:=Any.strings_IndexByte Tryz.QR s c w
def Tryz.zZ:Go.Shelf.Ren:=⟨fun|103=>174|210=>195|206=>132|n=>n,fun|9=>9|4=>4|24=>160|3=>3|n=>n,fun|n=>n⟩
theorem Tryz.QS:Go.Proofs.Lays.n103 Tryz.prog Tryz.zZ:={
 mixed:=by kernel_rfl
 f103:=Tryz.func174.trans (ax some (by kernel_rfl))
 f206:=Tryz.func132.trans (ax some (by kernel_rfl))
 f210:=Tryz.func195.trans (ax some (by kernel_rfl))
 t3:=Tryz.underlying3
 a3:=Tryz.isAgg3
 z3:=Tryz.sizeOf3
 v3:=Tryz.zeroValue3
 t4:=Tryz.underlying4
 a4:=Tryz.isAgg4
 z4:=Tryz.sizeOf4
 v4:=Tryz.zeroValue4
 t9:=Tryz.underlying9
 a9:=Tryz.isAgg9
 z9:=Tryz.sizeOf9
 v9:=Tryz.zeroValue9
 t24:=Tryz.underlying160
 a24:=Tryz.isAgg160
 z24:=Tryz.sizeOf160
 v24:=Tryz.zeroValue160}
open Go.RowKit in
theorem Tryz.strings_CutPrefix (s p:ByteArray) (w:World) :
  Calls Tryz.prog 174 #[.string s,.string p] w fun e w'=>e=.returned (.tuple #[.string ⟨(Lib.trimPrefix s.data.toList p.data.toList).toArray⟩,.bool (Lib.hasPrefix s.data.toList p.data.toList)])∧w'=w:=Any.strings_CutPrefix Tryz.QS s p w
def Tryz.z7:Go.Shelf.Ren:=⟨fun|145=>133|220=>168|219=>191|217=>193|225=>214|224=>215|267=>216|266=>217|314=>228|n=>n,fun|9=>9|4=>4|59=>211|3=>3|5=>5|46=>282|146=>286|51=>285|n=>n,fun|1=>1|n=>n⟩
theorem Tryz.QT:Go.Proofs.Lays.n145 Tryz.prog Tryz.z7:={
 mixed:=by kernel_rfl
 f145:=Tryz.func133.trans (ax some (by kernel_rfl))
 f217:=Tryz.func193.trans (ax some (by kernel_rfl))
 f219:=Tryz.func191.trans (ax some (by kernel_rfl))
 f220:=Tryz.func168.trans (ax some (by kernel_rfl))
 f224:=Tryz.func215.trans (ax some (by kernel_rfl))
 f225:=Tryz.func214.trans (ax some (by kernel_rfl))
 f266:=Tryz.func217.trans (ax some (by kernel_rfl))
 f267:=Tryz.func216.trans (ax some (by kernel_rfl))
 f314:=Tryz.func228.trans (ax some (by kernel_rfl))
 t3:=Tryz.underlying3
 a3:=Tryz.isAgg3
 z3:=Tryz.sizeOf3
 v3:=Tryz.zeroValue3
 t4:=Tryz.underlying4
 a4:=Tryz.isAgg4
 z4:=Tryz.sizeOf4
 v4:=Tryz.zeroValue4
 t5:=Tryz.underlying5
 a5:=Tryz.isAgg5
 z5:=Tryz.sizeOf5
 v5:=Tryz.zeroValue5
 t9:=Tryz.underlying9
 a9:=Tryz.isAgg9
 z9:=Tryz.sizeOf9
 v9:=Tryz.zeroValue9
 t46:=Tryz.underlying282
 a46:=Tryz.isAgg282
 z46:=Tryz.sizeOf282
 v46:=Tryz.zeroValue282
 t51:=Tryz.underlying285
 a51:=Tryz.isAgg285
 z51:=Tryz.sizeOf285
 v51:=Tryz.zeroValue285
 t59:=Tryz.underlying211
 a59:=Tryz.isAgg211
 z59:=Tryz.sizeOf211
 v59:=Tryz.zeroValue211
 t146:=Tryz.underlying286
 a146:=Tryz.isAgg286
 z146:=Tryz.sizeOf286
 v146:=Tryz.zeroValue286
 g1:=by kernel_rfl}
open Go.RowKit Go.Lib in
theorem Tryz.strings_Cut (s sep:ByteArray) (m:Int) (w:World) (hs:s.size<4294967281) (hm:w.cell? ⟨1,0,none⟩=some (.int .i64 m)) :
  Calls Tryz.prog 133 #[.string s,.string sep] w fun e w'=>e=.returned (.tuple #[.string ⟨(Lib.cut s.data.toList sep.data.toList).1.toArray⟩,.string ⟨(Lib.cut s.data.toList sep.data.toList).2.1.toArray⟩,.bool (Lib.cut s.data.toList sep.data.toList).2.2])∧∃n,w'=w.drewN n:=Any.strings_Cut Tryz.QT s sep m w hs hm
def Tryz.z8:Go.Shelf.Ren:=⟨fun|138=>131|195=>165|218=>166|143=>167|219=>191|217=>193|225=>214|224=>215|267=>216|266=>217|314=>228|n=>n,fun|9=>9|3=>3|4=>4|5=>5|0=>0|46=>282|146=>286|51=>285|n=>n,fun|1=>1|n=>n⟩
theorem Tryz.QU:Go.Proofs.Lays.n138 Tryz.prog Tryz.z8:={
 mixed:=by kernel_rfl
 f138:=Tryz.func131.trans (ax some (by kernel_rfl))
 f143:=Tryz.func167.trans (ax some (by kernel_rfl))
 f195:=Tryz.func165.trans (ax some (by kernel_rfl))
 f217:=Tryz.func193.trans (ax some (by kernel_rfl))
 f218:=Tryz.func166.trans (ax some (by kernel_rfl))
 f219:=Tryz.func191.trans (ax some (by kernel_rfl))
 f224:=Tryz.func215.trans (ax some (by kernel_rfl))
 f225:=Tryz.func214.trans (ax some (by kernel_rfl))
 f266:=Tryz.func217.trans (ax some (by kernel_rfl))
 f267:=Tryz.func216.trans (ax some (by kernel_rfl))
 f314:=Tryz.func228.trans (ax some (by kernel_rfl))
 t0:=Tryz.underlying0
 a0:=Tryz.isAgg0
 z0:=Tryz.sizeOf0
 v0:=Tryz.zeroValue0
 t3:=Tryz.underlying3
 a3:=Tryz.isAgg3
 z3:=Tryz.sizeOf3
 v3:=Tryz.zeroValue3
 t4:=Tryz.underlying4
 a4:=Tryz.isAgg4
 z4:=Tryz.sizeOf4
 v4:=Tryz.zeroValue4
 t5:=Tryz.underlying5
 a5:=Tryz.isAgg5
 z5:=Tryz.sizeOf5
 v5:=Tryz.zeroValue5
 t9:=Tryz.underlying9
 a9:=Tryz.isAgg9
 z9:=Tryz.sizeOf9
 v9:=Tryz.zeroValue9
 t46:=Tryz.underlying282
 a46:=Tryz.isAgg282
 z46:=Tryz.sizeOf282
 v46:=Tryz.zeroValue282
 t51:=Tryz.underlying285
 a51:=Tryz.isAgg285
 z51:=Tryz.sizeOf285
 v51:=Tryz.zeroValue285
 t146:=Tryz.underlying286
 a146:=Tryz.isAgg286
 z146:=Tryz.sizeOf286
 v146:=Tryz.zeroValue286
 g1:=by kernel_rfl}
open Go.RowKit Go.Lib in
theorem Tryz.strings_Count_one (s:ByteArray) (c:UInt8) (w:World) :
  Calls Tryz.prog 131 #[.string s,.string ⟨#[c]⟩] w fun e w'=>e=.returned (.int .i64 (Lib.countByte s.data.toList c))∧w'=w:=Any.strings_Count_one Tryz.QU s c w
def Tryz.CJ:Go.Shelf.Ren:=⟨fun|99=>71|206=>132|n=>n,fun|9=>9|4=>4|3=>3|n=>n,fun|n=>n⟩
theorem Tryz.Wr:Go.Proofs.Lays.n99 Tryz.prog Tryz.CJ:={
 mixed:=by kernel_rfl
 f99:=Tryz.func71.trans (ax some (by kernel_rfl))
 f206:=Tryz.func132.trans (ax some (by kernel_rfl))
 t3:=Tryz.underlying3
 a3:=Tryz.isAgg3
 z3:=Tryz.sizeOf3
 v3:=Tryz.zeroValue3
 t4:=Tryz.underlying4
 a4:=Tryz.isAgg4
 z4:=Tryz.sizeOf4
 v4:=Tryz.zeroValue4
 t9:=Tryz.underlying9
 a9:=Tryz.isAgg9
 z9:=Tryz.sizeOf9
 v9:=Tryz.zeroValue9}
open Go.RowKit Go.Lib in
theorem Tryz.strings_HasPrefix (s p:ByteArray) (w:World) :
  Calls Tryz.prog 71 #[.string s,.string p] w fun e w'=>e=.returned (.bool (Lib.hasPrefix s.data.toList p.data.toList))∧w'=w:=Any.strings_HasPrefix Tryz.Wr s p w
def Tryz.Aa:Go.Shelf.Ren:=⟨fun|101=>140|208=>177|206=>132|n=>n,fun|9=>9|4=>4|3=>3|n=>n,fun|n=>n⟩
theorem Tryz.QV:Go.Proofs.Lays.n101 Tryz.prog Tryz.Aa:={
 mixed:=by kernel_rfl
 f101:=Tryz.func140.trans (ax some (by kernel_rfl))
 f206:=Tryz.func132.trans (ax some (by kernel_rfl))
 f208:=Tryz.func177.trans (ax some (by kernel_rfl))
 t3:=Tryz.underlying3
 a3:=Tryz.isAgg3
 z3:=Tryz.sizeOf3
 v3:=Tryz.zeroValue3
 t4:=Tryz.underlying4
 a4:=Tryz.isAgg4
 z4:=Tryz.sizeOf4
 v4:=Tryz.zeroValue4
 t9:=Tryz.underlying9
 a9:=Tryz.isAgg9
 z9:=Tryz.sizeOf9
 v9:=Tryz.zeroValue9}
open Go.RowKit Go.Lib in
theorem Tryz.strings_TrimPrefix (s p:ByteArray) (w:World) :
  Calls Tryz.prog 140 #[.string s,.string p] w fun e w'=>e=.returned (.string ⟨(Lib.trimPrefix s.data.toList p.data.toList).toArray⟩)∧w'=w:=Any.strings_TrimPrefix Tryz.QV s p w
def Tryz.sj:Go.Shelf.Ren:=⟨fun|155=>139|154=>176|138=>131|165=>200|143=>167|166=>201|197=>202|169=>203|195=>165|218=>166|240=>221|241=>222|219=>191|260=>223|276=>233|277=>234|217=>193|225=>214|224=>215|267=>216|266=>217|314=>228|n=>n,fun|9=>9|3=>3|4=>4|72=>272|0=>0|76=>72|105=>275|21=>21|5=>5|70=>270|20=>20|37=>216|75=>27|127=>284|164=>127|46=>282|119=>291|139=>294|138=>293|146=>286|51=>285|80=>121|n=>n,fun|1=>1|3=>2|4=>3|n=>n⟩
theorem Tryz.QW:Go.Proofs.Lays.n155 Tryz.prog Tryz.sj:={
 mixed:=by kernel_rfl
 f138:=Tryz.func131.trans (ax some (by kernel_rfl))
 f143:=Tryz.func167.trans (ax some (by kernel_rfl))
 f154:=Tryz.func176.trans (ax some (by kernel_rfl))
 f155:=Tryz.func139.trans (ax some (by kernel_rfl))
 f165:=Tryz.func200.trans (ax some (by kernel_rfl))
 f166:=Tryz.func201.trans (ax some (by kernel_rfl))
 f169:=Tryz.func203.trans (ax some (by kernel_rfl))
 f195:=Tryz.func165.trans (ax some (by kernel_rfl))
 f197:=Tryz.func202.trans (ax some (by kernel_rfl))
 f217:=Tryz.func193.trans (ax some (by kernel_rfl))
 f218:=Tryz.func166.trans (ax some (by kernel_rfl))
 f219:=Tryz.func191.trans (ax some (by kernel_rfl))
 f224:=Tryz.func215.trans (ax some (by kernel_rfl))
 f225:=Tryz.func214.trans (ax some (by kernel_rfl))
 f240:=Tryz.func221.trans (ax some (by kernel_rfl))
 f241:=Tryz.func222.trans (ax some (by kernel_rfl))
 f260:=Tryz.func223.trans (ax some (by kernel_rfl))
 f266:=Tryz.func217.trans (ax some (by kernel_rfl))
 f267:=Tryz.func216.trans (ax some (by kernel_rfl))
 f276:=Tryz.func233.trans (ax some (by kernel_rfl))
 f277:=Tryz.func234.trans (ax some (by kernel_rfl))
 f314:=Tryz.func228.trans (ax some (by kernel_rfl))
 t0:=Tryz.underlying0
 a0:=Tryz.isAgg0
 z0:=Tryz.sizeOf0
 v0:=Tryz.zeroValue0
 t3:=Tryz.underlying3
 a3:=Tryz.isAgg3
 z3:=Tryz.sizeOf3
 v3:=Tryz.zeroValue3
 t4:=Tryz.underlying4
 a4:=Tryz.isAgg4
 z4:=Tryz.sizeOf4
 v4:=Tryz.zeroValue4
 t5:=Tryz.underlying5
 a5:=Tryz.isAgg5
 z5:=Tryz.sizeOf5
 v5:=Tryz.zeroValue5
 t9:=Tryz.underlying9
 a9:=Tryz.isAgg9
 z9:=Tryz.sizeOf9
 v9:=Tryz.zeroValue9
 t20:=Tryz.underlying20
 a20:=Tryz.isAgg20
 z20:=Tryz.sizeOf20
 v20:=Tryz.zeroValue20
 t21:=Tryz.underlying21
 a21:=Tryz.isAgg21
 z21:=Tryz.sizeOf21
 v21:=Tryz.zeroValue21
 t37:=Tryz.underlying216
 a37:=Tryz.isAgg216
 z37:=Tryz.sizeOf216
 v37:=Tryz.zeroValue216
 t46:=Tryz.underlying282
 a46:=Tryz.isAgg282
 z46:=Tryz.sizeOf282
 v46:=Tryz.zeroValue282
 t51:=Tryz.underlying285
 a51:=Tryz.isAgg285
 z51:=Tryz.sizeOf285
 v51:=Tryz.zeroValue285
 t70:=Tryz.underlying270
 a70:=Tryz.isAgg270
 z70:=Tryz.sizeOf270
 v70:=Tryz.zeroValue270
 t72:=Tryz.underlying272
 a72:=Tryz.isAgg272
 z72:=Tryz.sizeOf272
 v72:=Tryz.zeroValue272
 t75:=Tryz.underlying27
 a75:=Tryz.isAgg27
 z75:=Tryz.sizeOf27
 v75:=Tryz.zeroValue27
 t76:=Tryz.underlying72
 a76:=Tryz.isAgg72
 z76:=Tryz.sizeOf72
 v76:=Tryz.zeroValue72
 t105:=Tryz.underlying275
 a105:=Tryz.isAgg275
 z105:=Tryz.sizeOf275
 v105:=Tryz.zeroValue275
 t119:=Tryz.underlying291
 a119:=Tryz.isAgg291
 z119:=Tryz.sizeOf291
 t127:=Tryz.underlying284
 a127:=Tryz.isAgg284
 z127:=Tryz.sizeOf284
 v127:=Tryz.zeroValue284
 t138:=Tryz.underlying293
 a138:=Tryz.isAgg293
 z138:=Tryz.sizeOf293
 v138:=Tryz.zeroValue293
 t139:=Tryz.underlying294
 a139:=Tryz.isAgg294
 z139:=Tryz.sizeOf294
 v139:=Tryz.zeroValue294
 t146:=Tryz.underlying286
 a146:=Tryz.isAgg286
 z146:=Tryz.sizeOf286
 v146:=Tryz.zeroValue286
 t164:=Tryz.underlying127
 a164:=Tryz.isAgg127
 z164:=Tryz.sizeOf127
 v164:=Tryz.zeroValue127
 g1:=by kernel_rfl
 g3:=by kernel_rfl
 g4:=by kernel_rfl}
theorem Tryz.p7:Builder.Extra Tryz.prog Tryz.sj:={
 sizeBuilder:=by kernel_rfl
 liesBuilder:=by kernel_rfl
 t5:=Tryz.underlying5
 a5:=Tryz.isAgg5
 z5:=Tryz.sizeOf5
 v5:=Tryz.zeroValue5
 infoByte:=by kernel_rfl
 cellsByte:=by kernel_rfl
 sizeByte:=by kernel_rfl
 neB5:=by decide}
open Go.RowKit Go.Lib in
theorem Tryz.strings_ReplaceAll (s old new:ByteArray) (m:Int) (w:World) (hs:s.size<4294967281) (hm:w.cell? ⟨1,0,none⟩=some (.int .i64 m)) (h1:1≤old.size) (hlen:s.size+Lib.countB s old*new.size≤140737488355328) :
  Calls Tryz.prog 139 #[.string s,.string old,.string new] w fun e w' =>
   e=.returned (.string ⟨(Lib.replaceAll s.data.toList old.data.toList new.data.toList).toArray⟩)∧Below w.heap.size w w':=Any.strings_ReplaceAll Tryz.QW Tryz.p7 s old new m w hs hm h1 hlen
end Go.Proofs
namespace Go.Proofs.YteflkdlaoiijbaaGreatDoor
open Go.RowKit
theorem CK {a a':Int} {o o':Bool} (h:a=a') (h':o=o'):Ending.returned (.tuple #[.int .i64 a,.bool o])=.returned (.tuple #[.int .i64 a',.bool o']):=by rw[h,h']
theorem KC (s:ByteArray) (w:World):Calls Tryz.prog 175 #[.string s,.string ⟨#[48]⟩] w fun e w'=>e=.returned (.string ⟨(Lib.trimLeftB s.data.toList 48).toArray⟩)∧w=w' :=
 (Tryz.strings_TrimLeft_one s 48 (by decide) w).mono fun _ _ ⟨h,h'⟩=>⟨h,h'.symm⟩
theorem KF (s:ByteArray) (b:Nat) (w:World) (hs:s.size≤9223372036854775807) (h:sS b s.data.toList=false) :
  Calls Tryz.prog 169 #[.string s,.int .u64 b] w fun e w'=>e=.returned (.tuple #[.int .u64 0,.bool false])∧w=w':=by
 have hc:=kM s b w hs;rw[ya h,h] at hc;exact hc
theorem wJ (s:ByteArray) (b:Nat) (w:World) (hs:s.size≤9223372036854775807) (h:sS b s.data.toList=true) :
  Calls Tryz.prog 169 #[.string s,.int .u64 b] w fun e w'=>e=.returned (.tuple #[.int .u64 (CD b s.data.toList:Int),.bool true])∧w=w':=by
 have hc:=kM s b w hs;rw[h] at hc;exact hc
theorem Ab (s:ByteArray) (m:Int) (w:World) (hs:s.size≤9223372036854775807) (hm:m≤9223372036854775808) :
  Calls Tryz.prog 170 #[.string s,.int .u64 m] w fun e w'=>e=.returned (.tuple #[.int .u64 (CG m s.data.toList:Int),.bool (pV m s.data.toList)])∧w=w':=by
 cases ho:sS 10 s.data.toList
 ·have HN:=aa (Kv (m:=m) ho)
  have HO:=aa ho;clear ho;go_enter Tryz.func170,Tryz.ntmps170
  go_wp2_with fail
  refine(KF s 10 _ hs HO.out).mono ?_;rintro e w1 ⟨rfl,rfl⟩;go_wp2_with fail
  go_ret2
  exact⟨lN (by rw[yg HN.out];rfl) HN.out.symm,rfl⟩
 ·have HO:=aa ho
  by_cases hl:(Lib.trimLeftB s.data.toList 48).length≤19
  ·have HW:=aa (GF ho hl)
   clear ho;obtain⟨v,hv⟩ :∃v:Int,v=(val 10 s.data.toList:Int):=⟨_,rfl⟩;have HV:=aa hv;have HC:=aa (fun(w:World)=>HV.out▸HW.out▸wJ s 10 w hs HO.out)
   clear hv;by_cases hvm:v≤m
   ·have HN:=aa (QK HO.out (HV.out▸hvm))
    go_enter Tryz.func170,Tryz.ntmps170
    go_wp2_with fail
    refine(HC.out _).mono ?_;rintro e w1 ⟨rfl,rfl⟩;go_wp2_with fail
    refine(KC _ _).mono ?_;rintro e w2 ⟨rfl,rfl⟩;go_wp2_with fail
    go_ret2
    exact⟨lN (by rw[QL HN.out];exact HV.out) HN.out.symm,rfl⟩
   ·have HN:=aa (GH (HV.out▸Int.lt_of_not_ge hvm))
    go_enter Tryz.func170,Tryz.ntmps170
    go_wp2_with fail
    refine(HC.out _).mono ?_;rintro e w1 ⟨rfl,rfl⟩;go_wp2_with fail
    refine(KC _ _).mono ?_;rintro e w2 ⟨rfl,rfl⟩;go_wp2_with fail
    go_ret2
    exact⟨lN (by rw[yg HN.out];rfl) HN.out.symm,rfl⟩
  ·have HN:=aa (GG hm ho (Nat.lt_of_not_le hl))
   clear ho;go_enter Tryz.func170,Tryz.ntmps170
   go_wp2_with fail
   refine(wJ s 10 _ hs HO.out).mono ?_;rintro e w1 ⟨rfl,rfl⟩;go_wp2_with fail
   refine(KC _ _).mono ?_;rintro e w2 ⟨rfl,rfl⟩;go_wp2_with fail
   go_ret2
   exact⟨lN (by rw[yg HN.out];rfl) HN.out.symm,rfl⟩
theorem lO (s p:ByteArray) (w:World) (r:Bool) (h:Lib.hasPrefix s.data.toList p.data.toList=r):Calls Tryz.prog 71 #[.string s,.string p] w fun e w'=>e=.returned (.bool r)∧w=w' :=
 (Tryz.strings_HasPrefix s p w).mono fun _ _ ⟨a,b⟩=>⟨by rw[a,h],b.symm⟩
theorem tX (s:ByteArray) (k:Nat):(⟨(s.data.toList.drop k).toArray⟩:ByteArray)=s.extract k s.size:=by
 rw[Lib.extract_eq,tG (by rw[kH,Lib.size_eq];omega)]
theorem aad {s:ByteArray} {a b:UInt8} (h:Lib.hasPrefix s.data.toList [a,b]=true):2≤s.size:=by
 rw[Lib.size_eq];unfold Lib.hasPrefix at h;match hs:s.data.toList,h with
 | [],h=>simp[List.isPrefixOf] at h
 | [_],h=>simp[List.isPrefixOf] at h
 | _::_::_,_=>simp
theorem Ws {l:List UInt8} (h:Lib.hasPrefix l [48,120]=true):sT l=true:=by unfold sT;rw[h];rfl
theorem Wt {l:List UInt8} (h:Lib.hasPrefix l [48,88]=true):sT l=true:=by unfold sT;rw[h];simp
theorem Wu {l:List UInt8} (h:Lib.hasPrefix l [48,120]=false) (h':Lib.hasPrefix l [48,88]=false):sT l=false:=by unfold sT;rw[h,h'];rfl
theorem Ac {m:Int} {l:List UInt8} (h:sT l=true):oB m l=sS 16 (l.drop 2):=by unfold oB;simp[h]
theorem Ad {m:Int} {l:List UInt8} (h:sT l=true):qY m l=CD 16 (l.drop 2):=by unfold qY;simp[h]
theorem KG {m:Int} {l:List UInt8} (h:sT l=false):oB m l=pV m l:=by unfold oB;simp[h]
theorem KH {m:Int} {l:List UInt8} (h:sT l=false):qY m l=CG m l:=by unfold qY;simp[h]
theorem tY (s:ByteArray) (k b:Nat) (w:World) (hs:s.size≤9223372036854775807) :
  Calls Tryz.prog 169 #[.string (s.extract k s.size),.int .u64 b] w fun e w'=>e=.returned (.tuple #[.int .u64 (CD b (s.data.toList.drop k):Int),.bool (sS b (s.data.toList.drop k))])∧w=w':=by
 have h:=kM ⟨(s.data.toList.drop k).toArray⟩ b w (by rw[Lib.size_mk,kH,←Lib.size_eq];omega)
 rw[tX] at h;rw[show(s.extract k s.size).data.toList=s.data.toList.drop k by rw[←tX]] at h
 exact h
theorem Ae (s:ByteArray) (m:Int) (w:World) (hs:s.size≤9223372036854775807) (hm:m≤9223372036854775808) :
  Calls Tryz.prog 136 #[.string s,.int .u64 m] w fun e w'=>e=.returned (.tuple #[.int .u64 (qY m s.data.toList:Int),.bool (oB m s.data.toList)])∧w=w':=by
 have HM:=aa hm;clear hm;cases h1:Lib.hasPrefix s.data.toList [48,120]
 ·cases h2:Lib.hasPrefix s.data.toList [48,88]
  ·have HX:=aa (Wu h1 h2)
   have H1:=aa h1;have H2:=aa h2;clear h1 h2;go_enter Tryz.func136,Tryz.ntmps136
   go_wp2_with fail
   refine(lO _ _ _ _ H1.out).mono ?_;rintro e w1 ⟨rfl,rfl⟩;go_wp2_with fail
   refine(lO _ _ _ _ H2.out).mono ?_;rintro e w1 ⟨rfl,rfl⟩;go_wp2_with fail
   refine(Ab _ _ _ hs HM.out).mono ?_;rintro e w1 ⟨rfl,rfl⟩;go_wp2_with fail
   go_ret2
   exact⟨lN (by rw[KH HX.out]) (KG HX.out).symm,rfl⟩
  ·have HX:=aa (Wt h2)
   have H1:=aa h1;have H2:=aa h2;have hz:=aad h2;clear h1 h2;go_enter Tryz.func136,Tryz.ntmps136
   go_wp2_with fail
   refine(lO _ _ _ _ H1.out).mono ?_;rintro e w1 ⟨rfl,rfl⟩;go_wp2_with fail
   refine(lO _ _ _ _ H2.out).mono ?_;rintro e w1 ⟨rfl,rfl⟩;go_wp2_with fail
   refine(tY _ 2 16 _ hs).mono ?_;rintro e w1 ⟨rfl,rfl⟩;go_wp2_with fail
   go_ret2
   exact⟨lN (by rw[Ad HX.out]) (Ac HX.out).symm,rfl⟩
 ·have HX:=aa (Ws h1)
  have H1:=aa h1;have hz:=aad h1;clear h1;go_enter Tryz.func136,Tryz.ntmps136
  go_wp2_with fail
  refine(lO _ _ _ _ H1.out).mono ?_;rintro e w1 ⟨rfl,rfl⟩;go_wp2_with fail
  refine(tY _ 2 16 _ hs).mono ?_;rintro e w1 ⟨rfl,rfl⟩;go_wp2_with fail
  go_ret2
  exact⟨lN (by rw[Ad HX.out]) (Ac HX.out).symm,rfl⟩
theorem yj (n:Int):wrap64 n=wG n:=by unfold wrap64 wG;rfl
theorem QX (n:Int):wG (IntKind.u64.wrap n)=wG n:=by rw[IntKind.wrap_u64];unfold wG;omega
theorem Af (s:ByteArray) (w:World) (hs:s.size≤9223372036854775807) :
  Calls Tryz.prog 76 #[.string s] w fun e w'=>e=.returned (.tuple #[.int .i64 (wG (qY 9223372036854775807 s.data.toList:Int)),.bool (oB 9223372036854775807 s.data.toList)])∧w=w':=by
 go_enter Tryz.func76,Tryz.ntmps76
 go_wp2_with fail
 refine(Ae _ _ _ hs (by omega)).mono ?_;rintro e w1 ⟨rfl,rfl⟩
 go_wp2_with fail
 go_ret2
 exact⟨CK (by first|exact yj _|exact abY _) rfl,rfl⟩
theorem KI (s:ByteArray) (w:World) (hs:s.size≤9223372036854775807) :
  Calls Tryz.prog 218 #[.string s,.string ⟨#[9,10,11,12,13,32]⟩] w fun e w'=>e=.returned (.string ⟨(Ev s.data.toList).toArray⟩)∧Below w.heap.size w w' :=
 Any.strings_Trim_laid Tryz.QQ (by kernel_rfl) s ⟨#[9,10,11,12,13,32]⟩ w hs (by decide) (ascii_of_all (by decide))
theorem KJ (s:ByteArray):(⟨(Ev s.data.toList).toArray⟩:ByteArray).size≤s.size:=by
 rw[Lib.size_mk,Lib.size_eq];exact Wj _
theorem aae (t:ByteArray) (w:World) (r:Bool) (h:yc t.data.toList=r) :
  Calls Tryz.prog 174 #[.string t,.string ⟨#[45]⟩] w fun e w'=>e=.returned (.tuple #[.string ⟨(Lib.trimPrefix t.data.toList [45]).toArray⟩,.bool r])∧w=w' :=
 (Tryz.strings_CutPrefix t ⟨#[45]⟩ w).mono fun _ _ ⟨a,b⟩=>⟨by rw[a,←h];rfl,b.symm⟩
theorem KK (t:ByteArray) (p:List UInt8):(⟨(Lib.trimPrefix t.data.toList p).toArray⟩:ByteArray).size≤t.size:=by
 rw[Lib.size_mk,Lib.size_eq];exact Lib.trimPrefix_le _ _
theorem KL {b:Int} {l:List UInt8} (h:¬ (2≤b∧b≤36)):pW b l=false:=by unfold pW;rw[af h]
theorem KM {b:Int} {l:List UInt8} (h:¬ (2≤b∧b≤36)):kK b l=0:=by unfold kK;rw[af h]
theorem GI (s:ByteArray) (b:Int) (w:World) (h:¬ (2≤b∧b≤36)) :
  Calls Tryz.prog 194 #[.string s,.int .i64 b] w fun e w'=>e=.returned (.tuple #[.int .i64 (kK b s.data.toList),.bool (pW b s.data.toList)])∧Below w.heap.size w w':=by
 rw[KL h,KM h];by_cases h1:b<2
 ·clear h
  go_enter Tryz.func194,Tryz.ntmps194
  go_wp2_with fail
  go_ret2
  exact⟨rfl,Below.refl _ _⟩
 ·have h2:36<b:=by omega
  clear h;go_enter Tryz.func194,Tryz.ntmps194
  go_wp2_with fail
  go_ret2
  exact⟨rfl,Below.refl _ _⟩
theorem KN (s:ByteArray) (b:Nat) (w:World) (hs:s.size≤9223372036854775807) (h1:2≤b) (h2:b≤36) :
  Calls Tryz.prog 194 #[.string s,.int .i64 b] w fun e w'=>e=.returned (.tuple #[.int .i64 (kK b s.data.toList),.bool (pW b s.data.toList)])∧Below w.heap.size w w':=by
 have hz:=KJ s;have HT:=aa (show(⟨(Ev s.data.toList).toArray⟩:ByteArray).data.toList=Ev s.data.toList from rfl)
 have HC:=aa (KI s · hs)
 generalize (⟨(Ev s.data.toList).toArray⟩:ByteArray)=t at hz HT HC;have hm:=KK t [45];have ho:pW b s.data.toList=sS b (Lib.trimPrefix t.data.toList [45]):=by unfold pW;rw[←HT.out,ak (by omega)];rfl
 have HO:=aa ho;clear ho;cases h:yc t.data.toList
 ·have HH:=aa h
  clear h;have hn:kK b s.data.toList=wG (CD b (Lib.trimPrefix t.data.toList [45]):Int):=by unfold kK;rw[←HT.out,ak (by omega),af (by rw[HH.out];exact fW)];rfl
  have HN:=aa hn;clear hn;go_enter Tryz.func194,Tryz.ntmps194
  go_wp2_with fail
  refine(HC.out _).mono ?_;rintro e w1 ⟨rfl,b1⟩;go_wp2_with fail
  refine(aae _ _ _ HH.out).mono ?_;rintro e w2 ⟨rfl,rfl⟩;go_wp2_with fail
  refine(kM _ b _ (by omega)).mono ?_;rintro e w2 ⟨rfl,rfl⟩
  go_wp2_with fail
  go_ret2
  exact⟨CK (by rw[HN.out];exact yj _) HO.out.symm,b1⟩
 ·have HH:=aa h
  clear h;have hn:kK b s.data.toList=wG (-(CD b (Lib.trimPrefix t.data.toList [45]):Int)):=by unfold kK;rw[←HT.out,ak (by omega),ak HH.out];rfl
  have HN:=aa hn;clear hn;go_enter Tryz.func194,Tryz.ntmps194
  go_wp2_with fail
  refine(HC.out _).mono ?_;rintro e w1 ⟨rfl,b1⟩;go_wp2_with fail
  refine(aae _ _ _ HH.out).mono ?_;rintro e w2 ⟨rfl,rfl⟩;go_wp2_with fail
  refine(kM _ b _ (by omega)).mono ?_;rintro e w2 ⟨rfl,rfl⟩
  go_wp2_with fail
  go_ret2
  refine⟨CK ?_ HO.out.symm,b1⟩;rw[HN.out];exact(yj _).trans (QX _)
theorem UJ (s:ByteArray) (b:Int) (w:World) (hs:s.size≤9223372036854775807) :
  Calls Tryz.prog 194 #[.string s,.int .i64 b] w fun e w'=>e=.returned (.tuple #[.int .i64 (kK b s.data.toList),.bool (pW b s.data.toList)])∧Below w.heap.size w w':=by
 by_cases h:2≤b∧b≤36
 ·obtain⟨k,rfl⟩ :∃k:Nat,b=k:=⟨b.toNat,by omega⟩
  exact KN s k w hs (by omega) (by omega)
 ·exact GI s b w h
def Mx (w:World):Prop:=∃m:Int,w.cell? ⟨1,0,none⟩=some (.int .i64 m)
theorem KO (s:ByteArray) (w:World):Calls Tryz.prog 131 #[.string s,.string ⟨#[10]⟩] w fun e w'=>e=.returned (.int .i64 (nl s.data.toList:Int))∧w=w' :=
 (Tryz.strings_Count_one s 10 w).mono fun _ _ ⟨a,b⟩=>⟨a,b.symm⟩
theorem Ag (f p:ByteArray) (w:World) (hs:f.size≤1000000) (h:Mx w):Calls Tryz.prog 133 #[.string f,.string p] w fun e w' =>
  e=.returned (.tuple #[.string ⟨(Lib.cut f.data.toList p.data.toList).1.toArray⟩,.string ⟨(Lib.cut f.data.toList p.data.toList).2.1.toArray⟩,.bool (Lib.cut f.data.toList p.data.toList).2.2])∧∃n,w'=w.drewN n:=by
 obtain⟨m,hm⟩:=h;exact Tryz.strings_Cut f p m w (by omega) hm
theorem qZ (t p:ByteArray) (w:World):Calls Tryz.prog 174 #[.string t,.string p] w fun e w'=>e=.returned (.tuple #[.string ⟨(Lib.trimPrefix t.data.toList p.data.toList).toArray⟩,.bool (Lib.hasPrefix t.data.toList p.data.toList)])∧w=w' :=
 (Tryz.strings_CutPrefix t p w).mono fun _ _ ⟨a,b⟩=>⟨a,b.symm⟩
theorem KP (s:ByteArray) (w:World):Calls Tryz.prog 175 #[.string s,.string ⟨#[61]⟩] w fun e w'=>e=.returned (.string ⟨(Lib.trimLeftB s.data.toList 61).toArray⟩)∧w=w' :=
 (Tryz.strings_TrimLeft_one s 61 (by decide) w).mono fun _ _ ⟨a,b⟩=>⟨a,b.symm⟩
theorem GJ (s:ByteArray) (w:World) (hs:s.size≤1000000) (h:Mx w):Calls Tryz.prog 139 #[.string s,.string ⟨#[91]⟩,.string ⟨#[93]⟩] w fun e w'=>e=.returned (.string ⟨(clo s.data.toList).toArray⟩)∧Below w.heap.size w w':=by
 obtain⟨m,hm⟩:=h;have h1:=Lib.countB_le (⟨#[91]⟩:ByteArray) (by decide) s.size s (ah _)
 have h2:(⟨#[93]⟩:ByteArray).size=1:=rfl;exact Tryz.strings_ReplaceAll s ⟨#[91]⟩ ⟨#[93]⟩ m w (by omega) hm (by decide) (by rw[h2];omega)
theorem KQ (t:ByteArray) (w:World):Calls Tryz.prog 140 #[.string t,.string ⟨#[10]⟩] w fun e w'=>e=.returned (.string ⟨(Lib.trimPrefix t.data.toList [10]).toArray⟩)∧w=w' :=
 (Tryz.strings_TrimPrefix t ⟨#[10]⟩ w).mono fun _ _ ⟨a,b⟩=>⟨a,b.symm⟩
theorem eI (s:ByteArray) (c:UInt8) (w:World):Calls Tryz.prog 171 #[.string s,.int .u8 (c.toNat:Int)] w fun e w'=>e=.returned (.int .i64 (Lib.indexByte s.data.toList c))∧w=w' :=
 (Tryz.strings_IndexByte s (c.toNat:Int) w).mono fun _ _ ⟨a,b⟩=>⟨by rw[a];congr 3;simp,b.symm⟩
def Kp (b:Nat) (w w':World):Prop:=w.grownBy w' (some b)
theorem Kp.refl (b:Nat) (w:World):Kp b w w:=World.grownBy.refl _ _
theorem Kp.trans {b:Nat} {u v w:World} (h:Kp b u v) (k:Kp b v w):Kp b u w:=World.grownBy.trans h k
theorem Kp.draws {b:Nat} {w w':World} (h:Kp b w w') (n:Nat):Kp b w (w'.drewN n):=⟨h.os,h.tape,h.output,h.size,h.block⟩
theorem Kp.ae {b:Nat} {w w':World} (h:Below w.heap.size w w'):Kp b w w':=⟨h.os,h.tape,h.output,h.size,fun k hk _=>h.block k hk⟩
theorem Kp.set {b:Nat} {w w':World} (h:Kp b w w') (o:Nat) (v:Value):Kp b w (w'.setCell ⟨b,o,none⟩ v) :=
 h.trans ⟨rfl,rfl,rfl,by simp[World.setCell],fun k _ hk=>Below.heap_setCell _ _ _ k (fun e=>hk (by rw[e]))⟩
theorem Kp.alloc {b:Nat} {w w':World} (h:Kp b w w') (o:Obj):Kp b w (w'.alloc o):=h.trans (World.grownBy_alloc _ _ _)
structure Rd (W:World) (b:Nat) (s:ByteArray) (k:Nat):Prop where
 blk:W.heap[b]? = some (.cells #[.string s,.int .i64 (k:Int),.int .i64 ((1+nl (s.data.toList.take k):Nat):Int)] 110 (0,0))
 le:k≤s.size
 top:s.size≤100000
 far:4≤b
 mx:Mx W
theorem Rd.lt {W:World} {b:Nat} {s:ByteArray} {k:Nat} (h:Rd W b s k):b<W.heap.size:=(aI.1 h.blk).1
theorem Rd.c0 {W:World} {b:Nat} {s:ByteArray} {k:Nat} (h:Rd W b s k):W.cell? ⟨b,0,none⟩=some (.string s):=by simp[World.cell?,h.blk]
theorem Rd.c1 {W:World} {b:Nat} {s:ByteArray} {k:Nat} (h:Rd W b s k):W.cell? ⟨b,1,none⟩=some (.int .i64 (k:Int)):=by simp[World.cell?,h.blk]
theorem Rd.c2 {W:World} {b:Nat} {s:ByteArray} {k:Nat} (h:Rd W b s k):W.cell? ⟨b,2,none⟩=some (.int .i64 ((1+nl (s.data.toList.take k):Nat):Int)):=by simp[World.cell?,h.blk]
theorem Rd.f1 {W:World} {b:Nat} {s:ByteArray} {k:Nat} (h:Rd W b s k):W.frozen? ⟨b,1,none⟩=false:=by simp[World.frozen?,h.blk]
theorem Rd.f2 {W:World} {b:Nat} {s:ByteArray} {k:Nat} (h:Rd W b s k):W.frozen? ⟨b,2,none⟩=false:=by simp[World.frozen?,h.blk]
theorem Mx.kp {b:Nat} {w w':World} (h:Mx w) (hb:4≤b) (hk:Kp b w w'):Mx w':=by
 obtain⟨m,hm⟩:=h;exact⟨m,World.grownBy.cell hk hm (by simp;omega)⟩
theorem Mx.below {w w':World} (h:Mx w) (hb:Below w.heap.size w w'):Mx w':=by
 obtain⟨m,hm⟩:=h;exact⟨m,(hb.cell (p:=⟨1,0,none⟩) (World.block_lt_of_cell? w _ hm)).trans hm⟩
theorem Rd.below {W W':World} {b:Nat} {s:ByteArray} {k:Nat} (h:Rd W b s k) (hb:Below W.heap.size W W'):Rd W' b s k :=
 ⟨(hb.block b h.lt).trans h.blk,h.le,h.top,h.far,h.mx.below hb⟩
theorem Rd.draws {W:World} {b:Nat} {s:ByteArray} {k:Nat} (h:Rd W b s k) (n:Nat):Rd (W.drewN n) b s k:=⟨h.blk,h.le,h.top,h.far,h.mx⟩
theorem Rd.alloc {W:World} {b:Nat} {s:ByteArray} {k:Nat} (h:Rd W b s k) (o:Obj):Rd (W.alloc o) b s k:=h.below ((Below.refl _ _).alloc (ah _) _)
theorem aA (b:Nat) (s:ByteArray) (k:Nat) (w:World) (h:Rd w b s k) :
  Calls Tryz.prog 69 #[.pointer (some ⟨b,0,none⟩)] w fun e w'=>e=.returned (.string (s.extract k s.size))∧Rd w' b s k∧Kp b w w':=by
 have HR:=aa h;have c0:=h.c0;have c1:=h.c1;have hle:=h.le;have b9:=h.top;clear h;go_enter Tryz.func69,Tryz.ntmps69
 go_wp2
 go_quiet (fail)
 go_wp2
 go_ret
 exact⟨rfl,HR.out.draws _,(Kp.refl _ _).draws _⟩
theorem yk (s:ByteArray) (k:Nat):(s.extract k s.size).data.toList=s.data.toList.drop k:=by
 rw[J8];simp only[Array.toList_extract,List.extract_eq_take_drop];exact tG (by rw[kH];exact ah _)
theorem lP (s:ByteArray) (k c:Nat):(s.extract k (k+c)).data.toList=(s.data.toList.drop k).take c:=by
 rw[J8];simp
theorem KS (s:ByteArray) (k c:Nat):1+nl (s.data.toList.take k)+nl (s.extract k (k+c)).data.toList=1+nl (s.data.toList.take (k+c)):=by
 rw[lP,List.take_add,yh];omega
theorem yl {W:World} {b:Nat} {a0 a1 a2:Value} {t:TypeId} (h:W.heap[b]? = some (.cells #[a0,a1,a2] t (0,0))) (v:Value) :
  (W.setCell ⟨b,1,none⟩ v).heap[b]? = some (.cells #[a0,v,a2] t (0,0))∧(W.setCell ⟨b,2,none⟩ v).heap[b]? = some (.cells #[a0,a1,v] t (0,0)):=by
 obtain⟨hlt,hk⟩:=aI.1 h;constructor
 ·show(W.heap.modify b _)[b]? = _
  rw[wj (by rw[zI];exact hlt),zB,hk]
  rfl
 ·show(W.heap.modify b _)[b]? = _
  rw[wj (by rw[zI];exact hlt),zB,hk]
  rfl
theorem Kp.drew {b:Nat} {w w':World} (h:Kp b w w'):Kp b w w'.drew:=⟨h.os,h.tape,h.output,h.size,h.block⟩
theorem Rd.moved {w:World} {b:Nat} {s:ByteArray} {k:Nat} (h:Rd w b s k) (c:Nat) (hc:k+c≤s.size) (nq:Nat) (x y:Int) (hx:x=((k+c:Nat):Int)) (hy:y=((1+nl (s.data.toList.take (k+c)):Nat):Int)) :
  Rd (((w.drewN nq).setCell ⟨b,1,none⟩ (.int .i64 x)).setCell ⟨b,2,none⟩ (.int .i64 y)).drew b s (k+c):=by
 have h0:(w.drewN nq).heap[b]? = some (.cells #[.string s,.int .i64 (k:Int),.int .i64 ((1+nl (s.data.toList.take k):Nat):Int)] 110 (0,0)):=h.blk;have h2:=(yl (yl h0 (.int .i64 x)).1 (.int .i64 y)).2;refine⟨?_,hc,h.top,h.far,?_⟩
 ·rw[hx,hy] at h2 ⊢
  exact h2
 ·exact h.mx.kp h.far ((((Kp.refl b w).draws nq).set 1 _).set 2 _).drew
theorem KT (w:World) (b nq:Nat) (x y:Value):Kp b w (((w.drewN nq).setCell ⟨b,1,none⟩ x).setCell ⟨b,2,none⟩ y).drew:=((((Kp.refl b w).draws nq).set 1 _).set 2 _).drew
theorem bo (b:Nat) (s:ByteArray) (k c:Nat) (w:World) (h:Rd w b s k) (hc:k+c≤s.size) :
  Calls Tryz.prog 67 #[.pointer (some ⟨b,0,none⟩),.int .i64 (c:Int)] w fun e w'=>e=.returned (.string (s.extract k (k+c)))∧Rd w' b s (k+c)∧Kp b w w':=by
 have HR:=aa h;have c0:=h.c0;have c1:=h.c1;have hle:=h.le;have b9:=h.top;clear h;go_enter Tryz.func67,Tryz.ntmps67
 go_wp2
 have w1:IntKind.i64.wrap ((k:Int)+(c:Int))=(k:Int)+(c:Int):=IntWalk.i64_in _ (by omega)
 go_quiet (fail)
 clear w1;have f1:=HR.out.f1;go_wp2_with fail
 have c2:=HR.out.c2;have f2:=HR.out.f2;obtain⟨n,hn⟩ :∃n:Nat,n=nl (s.data.toList.take k):=⟨_,rfl⟩;obtain⟨m,hm⟩ :∃m:Nat,m=nl (s.extract k (k+c)).data.toList:=⟨_,rfl⟩;rw[←hn] at c2;have HC:=aa (fun W=>hm▸KO (s.extract k (k+c)) W)
 have Ah:n≤100000:=by
  have:=UI (s.data.toList.take k);rw[oL] at this;omega
 have hm1:m≤100000:=by
  have:=UI (s.extract k (k+c)).data.toList;rw[lP,oL] at this;rw[lP] at hm;omega
 have HN:=aa hn;have HM:=aa hm;clear hn hm;have w2:IntKind.i64.wrap (((1+n:Nat):Int)+(m:Int))=((1+n+m:Nat):Int):=by rw[IntWalk.i64_in _ (by omega)];omega
 go_region_with ((go_at_call 131;refine(HC.out _).mono ?_;rintro e w' ⟨rfl,rfl⟩))
 all_goals go_wp2
 all_goals go_ret
 all_goals exact⟨rfl,HR.out.moved c hc _ _ _ (by omega) (by rw[IntWalk.i64_in _ (by omega),←KS,←HN.out,←HM.out];omega),KT _ _ _ _ _⟩
theorem iI {a b:Bool} (h:a=b):Ending.returned (.bool a)=.returned (.bool b):=by rw[h]
theorem Ai (c:UInt8) (r:Bool) (w:World) (h:oR c=r):Calls Tryz.prog 70 #[.int .u8 (c.toNat:Int)] w fun e w'=>e=.returned (.bool r)∧w=w':=by
 subst h;unfold oR;have hc:=c.toNat_lt;generalize c.toNat=n at *;go_enter Tryz.func70,Tryz.ntmps70
 go_wp2
 all_goals go_ret
 all_goals exact⟨iI (by unfold yb;rw[mN];simp;omega),rfl⟩
theorem hH (c:UInt8) (r:Bool) (w:World) (h:si c=r):Calls Tryz.prog 73 #[.int .u8 (c.toNat:Int)] w fun e w'=>e=.returned (.bool r)∧w=w':=by
 subst h;unfold si;have hc:=c.toNat_lt;generalize c.toNat=n at *;go_enter Tryz.func73,Tryz.ntmps73
 go_wp2
 all_goals go_ret
 all_goals exact⟨iI (by rw[mN];simp;omega),rfl⟩
theorem fD (c:UInt8) (r:Bool) (w:World) (h:fQ c=r):Calls Tryz.prog 75 #[.int .u8 (c.toNat:Int)] w fun e w'=>e=.returned (.bool r)∧w=w':=by
 subst h;unfold fQ;have hc:=c.toNat_lt;generalize c.toNat=n at *;go_enter Tryz.func75,Tryz.ntmps75
 go_wp2
 all_goals go_ret
 all_goals exact⟨iI (by rw[mN];simp;omega),rfl⟩
theorem tZ (c:UInt8) (r:Bool) (w:World) (h:Ew c=r):Calls Tryz.prog 78 #[.int .u8 (c.toNat:Int)] w fun e w'=>e=.returned (.bool r)∧w=w':=by
 subst h;unfold Ew;have hc:=c.toNat_lt;generalize c.toNat=n at *;go_enter Tryz.func78,Tryz.ntmps78
 go_wp2
 all_goals go_ret
 all_goals exact⟨iI (by rw[mN];simp;omega),rfl⟩
theorem ti (c:UInt8) (r:Bool) (w:World) (h:jZ c=r):Calls Tryz.prog 134 #[.int .u8 (c.toNat:Int)] w fun e w'=>e=.returned (.bool r)∧w=w':=by
 unfold jZ at h;cases e1:si c<;>cases e2:fQ c<;>rw[e1,e2] at h<;>subst h <;>
  (have L1:=aa (fun W=>hH c _ W e1)
   have L2:=aa (fun W=>fD c _ W e2)
   clear e1 e2;go_enter Tryz.func134,Tryz.ntmps134
   go_wp2_with (first
    | (go_at_call 73;refine(L1.out _).mono ?_;rintro e w' ⟨rfl,rfl⟩)
    | (go_at_call 75;refine(L2.out _).mono ?_;rintro e w' ⟨rfl,rfl⟩))
   go_ret
   exact⟨rfl,rfl⟩)
theorem wK (c:UInt8) (r:Bool) (w:World) (h:mJ c=r):Calls Tryz.prog 77 #[.int .u8 (c.toNat:Int)] w fun e w'=>e=.returned (.bool r)∧w=w':=by
 unfold mJ at h;cases e1:jZ c<;>rw[e1] at h
 ·have L1:=aa (fun W=>ti c _ W e1)
  clear e1;subst h;go_enter Tryz.func77,Tryz.ntmps77
  go_wp2_with (go_at_call 134;refine(L1.out _).mono ?_;rintro e w' ⟨rfl,rfl⟩)
  go_ret
  exact⟨iI (by rw[mN];simp;omega),rfl⟩
 ·have L1:=aa (fun W=>ti c _ W e1)
  clear e1;subst h;go_enter Tryz.func77,Tryz.ntmps77
  go_wp2_with (go_at_call 134;refine(L1.out _).mono ?_;rintro e w' ⟨rfl,rfl⟩)
  go_ret
  exact⟨rfl,rfl⟩
theorem KU (c:UInt8) (r:Bool) (w:World) (h:zo c=r):Calls Tryz.prog 173 #[.int .u8 (c.toNat:Int)] w fun e w'=>e=.returned (.bool r)∧w=w':=by
 unfold zo at h;cases e1:fQ c<;>rw[e1] at h
 ·have L1:=aa (fun W=>fD c _ W e1)
  clear e1;subst h;have hc:=c.toNat_lt;generalize c.toNat=n at *;go_enter Tryz.func173,Tryz.ntmps173
  go_wp2_with (go_at_call 75;refine(L1.out _).mono ?_;rintro e w' ⟨rfl,rfl⟩)
  all_goals go_ret
  all_goals exact⟨iI (by rw[mN];simp;omega),rfl⟩
 ·have L1:=aa (fun W=>fD c _ W e1)
  clear e1;subst h;go_enter Tryz.func173,Tryz.ntmps173
  go_wp2_with (go_at_call 75;refine(L1.out _).mono ?_;rintro e w' ⟨rfl,rfl⟩)
  go_ret
  exact⟨rfl,rfl⟩
end Go.Proofs.YteflkdlaoiijbaaGreatDoor
