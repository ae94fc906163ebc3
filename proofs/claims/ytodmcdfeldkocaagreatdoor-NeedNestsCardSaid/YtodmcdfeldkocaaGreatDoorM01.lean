/- Parts of the proof. -/
import Derived.RowKit
import Derived.Test.YtodmcdfeldkocaaGreatDoorProg
import Derived.WalkKit
import Derived.WalkSpells
import Derived.Lib.QuietBelow
import Derived.BigQuiet
import Derived.IntWalk
import Derived.WalkLawsBesides
import Derived.Deep.RegionWith
import Derived.Deep.LoopGhost
import Derived.Deep.QuietTactic
import Derived.Lib.Hide
import Derived.Lib.AppendStr
import Derived.Laws.IdiomStrings
import Derived.Laws.OwnMore
import Derived.Laws.Append
import Derived.Laws.MakeOwn
import Derived.OwnWalk
import Derived.OneCell
import Derived.Below
set_option maxHeartbeats 16000000
set_option maxRecDepth 20000
namespace Go.Proofs
theorem aa {p:Prop}(h:p):RowKit.Hid p:=h
abbrev ah:=@Nat.le_refl
abbrev aK:=@List.getElem?_eq_some_iff
abbrev aC:=@beq_eq_false_iff_ne
abbrev aO:=@Array.getElem?_eq_some_iff
abbrev ab:=@if_neg
abbrev aX:=@List.mem_of_getElem?
abbrev bG:=@List.getElem?_eq_getElem
abbrev cF:=@List.setIfInBounds_toArray
abbrev ai:=@if_pos
abbrev aL:=@Nat.le_trans
abbrev bO:=@List.mem_cons_of_mem
abbrev cI:=@List.getElem?_cons_succ
abbrev cJ:=@List.getElem?_cons_zero
abbrev bK:=@List.mem_singleton
abbrev bP:=@List.mem_cons_self
abbrev cK:=@List.getElem?_toArray
abbrev bc:=@List.mem_cons
abbrev aw:=@congrArg
abbrev bY:=@List.length_append
abbrev ch:=@List.set_cons_zero
abbrev cj:=@List.set_cons_succ
abbrev cG:=@Nat.lt_of_lt_of_le
abbrev bU:=@List.length_map
abbrev cP:=@List.append_assoc
abbrev dS:=@List.getElem?_set_self
abbrev bZ:=@decide_eq_false
abbrev bQ:=@decide_eq_true
abbrev bo:=@Nat.zero_le
abbrev eK:=@Bool.eq_false_or_eq_true
abbrev dp:=@Bool.and_eq_true
abbrev dd:=@List.mem_append
abbrev dz:=@Nat.lt_succ_self
abbrev eN:=@List.mem_append_left
abbrev dT:=@List.cons_append
abbrev fL:=@List.getElem?_set_ne
abbrev eO:=@List.getElem?_map
abbrev jZ:=@List.getD_eq_getElem?_getD
abbrev iE:=@List.mem_append_right
abbrev gd:=@Bool.false_ne_true
abbrev kI:=@List.getElem?_append_left
abbrev dV:=@List.map_cons
abbrev jz:=@List.mem_iff_getElem?
abbrev gV:=@Int.toNat_natCast
abbrev oG:=@List.eq_nil_of_length_eq_zero
abbrev gD:=@Nat.le_add_right
abbrev gh:=@List.append_nil
abbrev iF:=@decide_eq_true_eq
abbrev iG:=@of_decide_eq_true
abbrev ja:=@List.flatMap_cons
abbrev mr:=@List.drop_of_length_le
abbrev j3:=@List.mem_map_of_mem
abbrev gW:=@Option.some.inj
abbrev jb:=@List.length_drop
abbrev kJ:=@List.map_eq_nil_iff
abbrev fu:=@Nat.le_of_lt
abbrev mT:=@List.length_singleton
abbrev pR:=@List.drop_eq_getElem_cons
abbrev gi:=@Nat.zero_add
abbrev j4:=@List.length_take
abbrev jA:=@Nat.not_lt_zero
abbrev pS:=@ByteArray.size_append
abbrev kK:=@List.nodup_cons
abbrev kL:=@List.length_set
abbrev kM:=@List.nil_append
abbrev kN:=@List.map_append
abbrev kO:=@List.find?_cons
abbrev zH:=@List.findIdx?_eq_some_iff_getElem
abbrev pT:=@List.flatMap_append
abbrev iH:=@Nat.le_succ
abbrev oH:=@List.nodup_append
abbrev jB:=@List.mem_map
abbrev jC:=@Nat.ne_of_lt
abbrev ew:=@eq_false
abbrev mV:=@Bool.eq_iff_iff
abbrev kP:=@Bool.true_and
abbrev oI:=@List.not_mem_nil
abbrev tV:=@List.take_of_length_le
abbrev tW:=@ByteArray.size_extract
abbrev wC:=@Array.getElem?_eq_getElem
abbrev sr:=@List.replicate_succ
abbrev pU:=@Option.some.injEq
abbrev su:=@Nat.eq_zero_or_pos
abbrev zI:=@List.getElem?_append_right
abbrev oJ:=@List.drop_zero
abbrev wD:=@List.map_eq_append_iff
abbrev pV:=@Option.map_some
abbrev zJ:=@Array.getElem_modify_self
abbrev oK:=@Nat.add_assoc
abbrev zK:=@Option.isSome_iff_exists
abbrev zL:=@decide_eq_false_iff_not
abbrev wE:=@List.length_pos_iff
abbrev tX:=@List.mem_flatMap
abbrev tY:=@List.drop_suffix
abbrev tZ:=@List.suffix_cons
abbrev wF:=@List.getElem?_drop
abbrev zM:=@List.getElem?_eq_none
abbrev zN:=@List.dropWhile_suffix
abbrev EM:=@List.set_eq_of_length_le
abbrev sw:=@List.all_cons
abbrev sx:=@Prod.mk.injEq
abbrev zO:=@List.replicate_zero
abbrev wG:=@List.drop_length
abbrev EN:=@List.flatMap_singleton
abbrev zP:=@List.find?_eq_none
abbrev EO:=@Option.map_eq_some_iff
abbrev oL:=@bne_iff_ne
abbrev EP:=@List.dropWhile_sublist
abbrev wH:=@List.mem_filter
abbrev wI:=@Nat.le_add_left
abbrev ER:=@List.take_append_drop
abbrev zQ:=@Array.size_modify
abbrev ES:=@Nat.mul_le_mul_right
abbrev KV:=@List.takeWhile_cons_of_pos
abbrev zR:=@List.take_length
abbrev KW:=@List.mem_of_find?_eq_some
abbrev KX:=@List.Pairwise.imp_of_mem
abbrev wJ:=@List.map_drop
abbrev zS:=@Nat.min_eq_left
abbrev zT:=@UInt8.toNat_inj
abbrev oM:=@or_false
abbrev zU:=@Bool.false_and
abbrev ET:=@List.reverse_cons
abbrev EU:=@List.size_toArray
abbrev KY:=@List.append_eq_nil_iff
abbrev KZ:=@ByteArray.data_extract
abbrev K9:=@List.drop_eq_nil_of_le
abbrev EV:=@List.isEmpty_iff
abbrev zV:=@List.cons.inj
abbrev zW:=@List.map_take
abbrev VZ:=@List.take_append_of_le_length
abbrev La:=@List.mem_of_mem_take
abbrev wK:=@Nat.add_mul
abbrev Lb:=@Array.replicate_succ
abbrev Lc:=@Array.replicate_zero
abbrev Ld:=@Nat.pow_le_pow_right
abbrev Le:=@List.getElem?_range
abbrev Lf:=@List.append_toArray
abbrev zX:=@Nat.zero_mul
abbrev zY:=@List.map_map
abbrev EW:=@List.nodup_nil
abbrev EX:=@List.mem_range
abbrev wL:=@beq_iff_eq
abbrev Lg:=@List.length_attach
abbrev Lh:=@List.contains_cons
abbrev Li:=@Bool.false_eq_true
abbrev Lj:=@List.length_range'
abbrev Lk:=@List.push_toArray
abbrev Ll:=@List.contains_nil
abbrev EY:=@List.sum_cons
abbrev Lm:=@List.getElem_mem
abbrev Ln:=@List.map_toArray
abbrev EZ:=@List.map_nil
abbrev E0:=@Nat.succ_mul
abbrev E3:=@Nat.lt_or_ge
abbrev E5:=@Nat.add_zero
abbrev E6:=@Nat.pow_succ
abbrev E7:=@Nat.mul_comm
abbrev E8:=@Nat.one_mul
end Go.Proofs
namespace Go.Proofs.YtodmcdfeldkocaaGreatDoor
structure Nd where
 kind:Int
 line:Int
 op:Int
 num:Int
 s:ByteArray
 names:List ByteArray
 kids:List Int
def upd (d:Nat→Nat) (i v:Nat):Nat→Nat:=fun j=>if j=i then v else d j
theorem upd_same (d:Nat→Nat) (i v:Nat):upd d i v i=v:=ai rfl
theorem gj (d:Nat→Nat) {i j:Nat} (v:Nat) (h:j≠i):upd d i v j=d j:=ab h
def dH (N v:Nat):List Int→(Nat→Nat)→List Nat→Option ((Nat→Nat)×List Nat)
 | [],d,m=>some (d,m)
 | k::ks,d,m=>if 0≤k∧k<(N:Int)∧d k.toNat=0 then dH N v ks (upd d k.toNat v) (m++[k.toNat]) else none
def cE (T:List Nd) (i:Nat):List Int:=match T[i]? with|some x=>x.kids|none=>[]
def yk (T:List Nd):Nat→Nat→(Nat→Nat)→List Nat→Option ((Nat→Nat)×List Nat)
 | 0,_,d,m=>some (d,m)
 | f+1,a,d,m=>match m[a]? with
  | none=>some (d,m)
  | some i=>match dH T.length (d i+1) (cE T i) d m with
   | none=>none
   | some p=>yk T f (a+1) p.1 p.2
def E9 (N:Nat):Option ((Nat→Nat)×List Nat)→Nat
 | none=>0
 | some p=>if p.2.length<N then 0 else p.1 (p.2.getLastD 0)
def eP (T:List Nd) (r:Int):Nat :=
 if T.length≤16384∧0≤r∧r<(T.length:Int) then E9 T.length (yk T (T.length+1) 0 (upd (fun _=>0) r.toNat 1) [r.toNat]) else 0
theorem ua :∀(N:Nat) (m:List Nat),m.Nodup→(∀j∈m,j<N)→m.length≤N:=by
 intro N;induction N with
 | zero =>
  intro m _ h;cases m with
  | nil=>exact ah _
  | cons a t=>exact absurd (h a (bP ..)) (jA _)
 | succ N ih =>
  intro m hn h;by_cases hN:N∈m
  ·have h1:=ih (m.erase N) (hn.erase N) (fun j hj=>by
    have hj':=(hn.mem_erase_iff).1 hj;have:=h j hj'.2;have:=hj'.1;omega)
   rw[List.length_erase_of_mem hN] at h1;omega
  ·have h1:=ih m hn (fun j hj=>by
    have:=h j hj;have:j≠N:=fun e=>hN (e▸hj)
    omega)
   omega
theorem rj {N:Nat} {m:List Nat} (hn:m.Nodup) (h :∀j∈m,j<N) (hl:m.length=N) {j:Nat} (hj:j<N):j∈m:=by
 by_cases hm:j∈m
 ·exact hm
 ·have:=ua N (j::m) (kK.2 ⟨hm,hn⟩) (fun x hx=>by
   rcases bc.1 hx with rfl|hx
   ·exact hj
   ·exact h x hx)
  rw[List.length_cons] at this;omega
structure Inv (N:Nat) (d:Nat→Nat) (m:List Nat):Prop where
 nodup:m.Nodup
 iff :∀j,d j≠0↔j∈m
 lt :∀j∈m,j<N
theorem Inv.len {N:Nat} {d:Nat→Nat} {m:List Nat} (h:Inv N d m):m.length≤N:=ua N m h.nodup h.lt
theorem Inv.add {N:Nat} {d:Nat→Nat} {m:List Nat} (h:Inv N d m) {k v:Nat} (hk:k<N) (h0:d k=0) (hv:v≠0):Inv N (upd d k v) (m++[k]):=by
 have oz:k∉m:=fun hm=>(h.iff k).2 hm h0
 refine⟨?_,fun j=>?_,fun j hj=>?_⟩
 ·rw[oH]
  refine⟨h.nodup,by simp,fun a ha b hb=>?_⟩
  obtain rfl:=bK.1 hb;exact fun e=>oz (e▸ha)
 ·by_cases hj:j=k
  ·subst hj
   rw[upd_same];exact⟨fun _=>by simp,fun _=>hv⟩
  ·rw[gj _ _ hj,h.iff,dd,bK]
   exact⟨fun h=>.inl h,fun h=>h.resolve_right hj⟩
 ·rcases dd.1 hj with hj|hj
  ·exact h.lt j hj
  ·obtain rfl:=bK.1 hj
   exact hk
theorem Inv.start {N r:Nat} (h:r<N):Inv N (upd (fun _=>0) r 1) [r]:=by
 have h0:Inv N (fun _=>0) []:=⟨EW,fun j=>by simp,fun j hj=>by simp at hj⟩
 exact h0.add h rfl (by decide)
theorem o7 {N v:Nat} (hv:v≠0) :∀(ks:List Int) (d:Nat→Nat) (m:List Nat) (d':Nat→Nat) (m':List Nat),Inv N d m→dH N v ks d m=some (d',m') →
  Inv N d' m'∧m'=m++ks.map Int.toNat∧(∀j,d j≠0→d' j=d j)∧(∀k∈ks,0≤k∧k<(N:Int)∧d' k.toNat=v)∧(∀j,d' j=d j∨d' j=v):=by
 intro ks;induction ks with
 | nil =>
  intro d m d' m' h e;obtain⟨rfl,rfl⟩:d=d'∧m=m':=by simpa[dH] using e
  exact⟨h,by simp,fun _ _=>rfl,fun k hk=>by simp at hk,fun _=>.inl rfl⟩
 | cons k ks ih =>
  intro d m d' m' h e;rw[dH] at e;split at e
  ·rename_i hk
   obtain⟨h0,h1,h2⟩:=hk;obtain⟨i1,i2,i3,i4,i5⟩:=ih _ _ _ _ (h.add (by omega) h2 hv) e
   refine⟨i1,by rw[i2];simp,fun j hj=>?_,fun k' Fa=>?_,fun j=>?_⟩
   ·have hjk:j≠k.toNat:=fun e=>hj (e▸h2)
    have:=i3 j (by rw[gj _ _ hjk];exact hj)
    rw[this,gj _ _ hjk]
   ·rcases bc.1 Fa with rfl|Fa
    ·refine⟨h0,h1,?_⟩
     rw[i3 _ (by rw[upd_same];exact hv),upd_same]
    ·exact i4 k' Fa
   ·rcases i5 j with h|h
    ·rw[h]
     by_cases hj:j=k.toNat
     ·subst hj;right;exact upd_same _ _ _
     ·left;exact gj _ _ hj
    ·exact .inr h
  ·cases e
structure XF (T:List Nd) (r:Nat) (d:Nat→Nat) (m:List Nat):Prop where
 nodup:m.Nodup
 lt :∀j∈m,j<T.length
 full:m.length=T.length
 eq:m=r::m.flatMap fun i=>(cE T i).map Int.toNat
 kid :∀i∈m,∀k∈cE T i,0≤k∧k<(T.length:Int)∧d k.toNat=d i+1
 root:d r=1
 bound :∀i,d i≤T.length+1
theorem XF.mem {T:List Nd} {r:Nat} {d:Nat→Nat} {m:List Nat} (h:XF T r d m) {i:Nat} (hi:i<T.length):i∈m:=rj h.nodup h.lt h.full hi
theorem lJ {α:Type} (m:List α) (a:Nat) (i:α) (h:m[a]? = some i):m.take (a+1)=m.take a++[i]:=by
 rw[List.take_add_one,h];rfl
structure Half (T:List Nd) (r:Nat) (a:Nat) (d:Nat→Nat) (m:List Nat):Prop where
 inv:Inv T.length d m
 le:a≤m.length
 eq:m=r::(m.take a).flatMap fun i=>(cE T i).map Int.toNat
 kid :∀i∈m.take a,∀k∈cE T i,0≤k∧k<(T.length:Int)∧d k.toNat=d i+1
 root:d r=1
 bound :∀i,d i≤a+1
theorem Half.start {T:List Nd} {r:Nat} (h:r<T.length):Half T r 0 (upd (fun _=>0) r 1) [r] :=
 ⟨Inv.start h,bo _,by simp,fun i hi=>by simp at hi,upd_same _ _ _,fun i=>by
  by_cases hi:i=r
  ·subst hi;rw[upd_same];omega
  ·rw[gj _ _ hi];omega⟩
theorem Half.step {T:List Nd} {r a i:Nat} {d d':Nat→Nat} {m m':List Nat} (h:Half T r a d m) (hi:m[a]? = some i) (e:dH T.length (d i+1) (cE T i) d m=some (d',m')):Half T r (a+1) d' m':=by
 obtain⟨i1,i2,i3,i4,i5⟩:=o7 (by omega) _ _ _ _ _ h.inv e
 have hlt:a<m.length:=(aK.1 hi).1;have rk :∀j∈m,d' j=d j:=fun j hj=>i3 j ((h.inv.iff j).2 hj)
 have him:i∈m:=aX hi;have XG:m'.take (a+1)=m.take a++[i]:=by
  rw[i2,VZ (by omega),lJ m a i hi]
 refine⟨i1,by rw[i2,bY];omega,?_,fun j hj k hk=>?_,?_,fun j=>?_⟩
 ·rw[XG,pT]
  conv=>lhs;rw[i2,h.eq]
  simp
 ·rw[XG] at hj
  rcases dd.1 hj with hj|hj
  ·obtain⟨k0,k1,k2⟩:=h.kid j hj k hk
   have oz:d k.toNat≠0:=by omega
   rw[i3 _ oz,rk j (La hj)];exact⟨k0,k1,k2⟩
  ·obtain rfl:=bK.1 hj
   obtain⟨k0,k1,k2⟩:=i4 k hk;rw[k2,rk _ him];exact⟨k0,k1,rfl⟩
 ·rw[i3 r (by rw[h.root];decide),h.root]
 ·have:=h.bound j
  have:=h.bound i;rcases i5 j with e|e<;>omega
theorem Lo {T:List Nd} {r:Nat} :∀(f a:Nat) (d:Nat→Nat) (m:List Nat) (d':Nat→Nat) (m':List Nat),Half T r a d m→T.length+1≤f+a→yk T f a d m=some (d',m')→Half T r m'.length d' m':=by
 intro f;induction f with
 | zero =>
  intro a d m d' m' h hf e;have:=h.inv.len;have:=h.le;omega
 | succ f ih =>
  intro a d m d' m' h hf e;rw[yk] at e;cases hi:m[a]? with
  | none =>
   rw[hi] at e;obtain⟨rfl,rfl⟩:d=d'∧m=m':=by simpa using e
   have h1:m.length≤a:=List.getElem?_eq_none_iff.1 hi;have h2:=h.le;obtain rfl:a=m.length:=by omega
   exact h
  | some i =>
   rw[hi] at e;have e':(match dH T.length (d i+1) (cE T i) d m with
    | none=>none
    | some p=>yk T f (a+1) p.1 p.2)=some (d',m'):=e
   cases hk:dH T.length (d i+1) (cE T i) d m with
   | none=>rw[hk] at e';cases e'
   | some p =>
    rw[hk] at e';exact ih _ _ _ _ _ (h.step hi hk) (by omega) e'
theorem zZ {T:List Nd} {r:Int} (h:eP T r≠0):T.length≤16384∧0≤r∧r<(T.length:Int)∧∃d m,XF T r.toNat d m:=by
 unfold eP at h;split at h
 ·rename_i hh
  obtain⟨h0,h1,h2⟩:=hh;refine⟨h0,h1,h2,?_⟩;cases e:yk T (T.length+1) 0 (upd (fun _=>0) r.toNat 1) [r.toNat] with
  | none=>rw[e] at h;exact absurd rfl h
  | some p =>
   obtain⟨d,m⟩:=p;rw[e] at h;have hf:=Lo _ _ _ _ _ _ (Half.start (T:=T) (r:=r.toNat) (by omega)) (by omega) e
   have hlen:¬ m.length<T.length:=fun hl=>h (ai hl)
   have:=hf.inv.len;have hm:m.length=T.length:=by omega
   have ht:m.take m.length=m:=zR;refine⟨d,m,hf.inv.nodup,hf.inv.lt,hm,?_,fun i hi=>hf.kid i (by rw[ht];exact hi),hf.root,fun i=>by have:=hf.bound i;omega⟩
   have he:=hf.eq;rw[ht] at he;exact he
 ·exact absurd rfl h
theorem C8 {α β:Type} {f:α→List β} :∀{l:List α},(l.flatMap f).Nodup→∀{a b:α} {x:β},a∈l→b∈l→x∈f a→x∈f b→l.Nodup→a=b:=by
 intro l;induction l with
 | nil=>intro _ a b x ha;simp at ha
 | cons c t ih =>
  intro hn a b x ha hb xa xb hl;rw[ja,oH] at hn;have hl':=(kK.1 hl);rcases bc.1 ha with ea|ha'<;>rcases bc.1 hb with eb|hb'
  ·rw[ea,eb]
  ·subst ea
   exact absurd rfl (hn.2.2 x xa x (tX.2 ⟨b,hb',xb⟩))
  ·subst eb
   exact absurd rfl (hn.2.2 x xb x (tX.2 ⟨a,ha',xa⟩))
  ·exact ih hn.2.1 ha' hb' xa xb hl'.2
theorem ue {α β:Type} {f:α→List β} :∀{l:List α},(l.flatMap f).Nodup→∀{a:α},a∈l→(f a).Nodup:=by
 intro l;induction l with
 | nil=>intro _ a ha;simp at ha
 | cons c t ih =>
  intro hn a ha;rw[ja,oH] at hn;rcases bc.1 ha with rfl|ha
  ·exact hn.1
  ·exact ih hn.2.1 ha
theorem XF.Hf {T:List Nd} {r:Nat} {d:Nat→Nat} {m:List Nat} (h:XF T r d m) {i:Nat} (hi:i<T.length):(cE T i).Nodup:=by
 have h1:=h.nodup;rw[h.eq,kK] at h1;have:=ue h1.2 (h.mem hi);rw[List.Nodup,List.pairwise_map] at this;exact List.Pairwise.imp (fun h e=>h (by rw[e])) this
theorem yl {α:Type} (l:List α) (x:α) (h:l≠[]):l.getLastD x∈l:=by
 induction l with
 | nil=>exact absurd rfl h
 | cons a t ih =>
  cases t with
  | nil=>exact bK.2 rfl
  | cons b t=>exact bO _ (ih (by simp))
end Go.Proofs.YtodmcdfeldkocaaGreatDoor
namespace Go.Proofs.YtodmcdfeldkocaaGreatDoor
def dI (T:List Nd) (i:Nat):Int:=match T[i]? with|some x=>x.kind|none=>0
section
variable (fo:Nd→Bool) (ko:Int→Int→List Int→Bool) (so:Int→Int) (hd:Nd→List UInt8)
def ky (T:List Nd) (x:Nd):Bool:=decide (1≤x.line) && fo x && ko x.kind x.num (x.kids.map fun k=>so (dI T k.toNat))
def o9 (T:List Nd) (r:Int):Bool:=decide (eP T r≠0) && decide (eP T r≤100) && decide (dI T r.toNat=18) && T.all (ky fo ko so T)
theorem eQ {T:List Nd} {r:Int}:o9 fo ko so T r=true↔eP T r≠0∧eP T r≤100∧dI T r.toNat=18∧∀(i:Nat) (x:Nd),T[i]? = some x→ky fo ko so T x=true:=by
 unfold o9;simp only[dp,iF,List.all_eq_true,and_assoc];constructor
 ·rintro⟨h1,h2,h3,h4⟩
  exact⟨h1,h2,h3,fun i x hx=>h4 x (aX hx)⟩
 ·rintro⟨h1,h2,h3,h4⟩
  refine⟨h1,h2,h3,fun x hx=>?_⟩
  obtain⟨i,hi⟩:=jz.1 hx;exact h4 i x hi
theorem pb {T:List Nd} {x:Nd}:ky fo ko so T x=true↔1≤x.line∧fo x=true∧ko x.kind x.num (x.kids.map fun k=>so (dI T k.toNat))=true:=by
 unfold ky;simp only[dp,iF,and_assoc]
theorem jh {T:List Nd} {i:Nat} {x:Nd} (h:T[i]? = some x):cE T i=x.kids:=by unfold cE;rw[h]
theorem nT {T:List Nd} {i:Nat} {x:Nd} (h:T[i]? = some x):dI T i=x.kind:=by unfold dI;rw[h]
theorem Hg {T:List Nd} {r:Int} (h:o9 fo ko so T r=true) :∃d m,XF T r.toNat d m∧0≤r∧r<(T.length:Int):=by
 obtain⟨h0,_⟩:=(eQ fo ko so).1 h;obtain⟨_,V6,hr1,d,m,hs⟩:=zZ h0;exact⟨d,m,hs,V6,hr1⟩
end
end Go.Proofs.YtodmcdfeldkocaaGreatDoor
namespace Go.Proofs.YtodmcdfeldkocaaGreatDoor
inductive Ast where
 | mk (h:Nd) (kids:List Ast)
def Ast.hd:Ast→Nd
 | .mk h _=>h
mutual
def Ast.depth:Ast→Nat
 | .mk _ ks=>Ast.dW ks+1
def Ast.dW:List Ast→Nat
 | []=>0
 | a::xz=>max (Ast.depth a) (Ast.dW xz)
end
mutual
def Ast.size:Ast→Nat
 | .mk _ ks=>Ast.al ks+1
def Ast.al:List Ast→Nat
 | []=>0
 | a::xz=>Ast.size a+Ast.al xz
end
mutual
def gC (T:List Nd):Ast→Nat→List Nat→Prop
 | .mk h xz,i,js=>∃x qZ,T[i]? = some x∧x={ h with kids:=x.kids}∧bj T xz x.kids qZ∧js=i::qZ
def bj (T:List Nd):List Ast→List Int→List Nat→Prop
 | [],ks,js=>ks=[]∧js=[]
 | a::xz,ks,js=>∃(k:Nat) (gX:List Int) (j1 j2:List Nat),ks=(k:Int)::gX∧gC T a k j1∧bj T xz gX j2∧js=j1++j2
end
def wM (T:List Nd) (i:Nat):List Nat:=(cE T i).map Int.toNat
theorem gC.root {T:List Nd} {a:Ast} {i:Nat} {js:List Nat} (h:gC T a i js):i∈js∧dI T i=a.hd.kind∧i<T.length:=by
 cases a with
 | mk hd xz =>
  unfold gC at h;obtain⟨x,qZ,hx,he,_,rfl⟩:=h;refine⟨bP ..,?_,(aK.1 hx).1⟩;rw[nT hx,he];rfl
mutual
theorem gC.lt {T:List Nd} :∀(a:Ast) (i:Nat) (js:List Nat),gC T a i js→∀j∈js,j<T.length
 | .mk h xz,i,js,hr=>by
  unfold gC at hr;obtain⟨x,qZ,hx,_,hs,rfl⟩:=hr;intro j hj;rcases bc.1 hj with rfl|hj
  ·exact(aK.1 hx).1
  ·exact bj.lt xz x.kids qZ hs j hj
theorem bj.lt {T:List Nd} :∀(xz:List Ast) (ks:List Int) (js:List Nat),bj T xz ks js→∀j∈js,j<T.length
 | [],ks,js,hr=>by
  unfold bj at hr;obtain⟨_,rfl⟩:=hr;intro j hj;simp at hj
 | a::xz,ks,js,hr=>by
  unfold bj at hr;obtain⟨k,gX,j1,j2,_,h1,h2,rfl⟩:=hr;intro j hj;rcases dd.1 hj with hj|hj
  ·exact gC.lt a k j1 h1 j hj
  ·exact bj.lt xz gX j2 h2 j hj
end
mutual
/-- A tree lies in a longer list xz it did. -/
theorem gC.more {T T':List Nd} (hT :∀(i:Nat) x,T[i]? = some x→T'[i]? = some x) :∀(a:Ast) (i:Nat) (js:List Nat),gC T a i js→gC T' a i js
 | .mk h xz,i,js,hr=>by
  unfold gC at hr ⊢;obtain⟨x,qZ,hx,he,hs,rfl⟩:=hr;exact⟨x,qZ,hT i x hx,he,bj.more hT xz x.kids qZ hs,rfl⟩
theorem bj.more {T T':List Nd} (hT :∀(i:Nat) x,T[i]? = some x→T'[i]? = some x) :∀(xz:List Ast) (ks:List Int) (js:List Nat),bj T xz ks js→bj T' xz ks js
 | [],ks,js,hr=>by
  unfold bj at hr ⊢;exact hr
 | a::xz,ks,js,hr=>by
  unfold bj at hr ⊢;obtain⟨k,gX,j1,j2,hk,h1,h2,rfl⟩:=hr;exact⟨k,gX,j1,j2,hk,gC.more hT a k j1 h1,bj.more hT xz gX j2 h2,rfl⟩
end
mutual
theorem gC.len {T:List Nd} :∀(a:Ast) (i:Nat) (js:List Nat),gC T a i js→js.length=a.size
 | .mk h xz,i,js,hr=>by
  unfold gC at hr;obtain⟨x,qZ,_,_,hs,rfl⟩:=hr;rw[List.length_cons,bj.len xz x.kids qZ hs,Ast.size]
theorem bj.len {T:List Nd} :∀(xz:List Ast) (ks:List Int) (js:List Nat),bj T xz ks js→js.length=Ast.al xz
 | [],ks,js,hr=>by
  unfold bj at hr;obtain⟨_,rfl⟩:=hr;rfl
 | a::xz,ks,js,hr=>by
  unfold bj at hr;obtain⟨k,gX,j1,j2,_,h1,h2,rfl⟩:=hr;rw[bY,gC.len a k j1 h1,bj.len xz gX j2 h2,Ast.al]
end
mutual
/-- The root, and what is named: all of them. -/
theorem gC.perm {T:List Nd} :∀(a:Ast) (i:Nat) (js:List Nat),gC T a i js→js.Perm (i::js.flatMap (wM T))
 | .mk h xz,i,js,hr=>by
  unfold gC at hr;obtain⟨x,qZ,hx,_,hs,rfl⟩:=hr;refine List.Perm.cons i ?_;have h1:wM T i=x.kids.map Int.toNat:=by unfold wM;rw[jh hx]
  rw[ja,h1];exact bj.perm xz x.kids qZ hs
theorem bj.perm {T:List Nd} :∀(xz:List Ast) (ks:List Int) (js:List Nat),bj T xz ks js→js.Perm (ks.map Int.toNat++js.flatMap (wM T))
 | [],ks,js,hr=>by
  unfold bj at hr;obtain⟨rfl,rfl⟩:=hr;exact List.Perm.nil
 | a::xz,ks,js,hr=>by
  unfold bj at hr;obtain⟨k,gX,j1,j2,rfl,h1,h2,rfl⟩:=hr;have p1:=gC.perm a k j1 h1;have p2:=bj.perm xz gX j2 h2;rw[pT,dV,gV,dT];refine(p1.append p2).trans ?_;rw[dT];refine List.Perm.cons k ?_;rw[←cP,←cP];exact List.Perm.append_right _ List.perm_append_comm
end
mutual
/-- aaL holds the root and what its members name holds all. -/
theorem gC.closed {T:List Nd} {m:List Nat} (hm :∀i∈m,∀k∈cE T i,k.toNat∈m) :∀(a:Ast) (i:Nat) (js:List Nat),gC T a i js→i∈m→∀j∈js,j∈m
 | .mk h xz,i,js,hr,hi=>by
  unfold gC at hr;obtain⟨x,qZ,hx,_,hs,rfl⟩:=hr;intro j hj;rcases bc.1 hj with rfl|hj
  ·exact hi
  ·exact bj.closed hm xz x.kids qZ hs (fun k hk=>hm i hi k (by rw[jh hx];exact hk)) j hj
theorem bj.closed {T:List Nd} {m:List Nat} (hm :∀i∈m,∀k∈cE T i,k.toNat∈m) :∀(xz:List Ast) (ks:List Int) (js:List Nat),bj T xz ks js→(∀k∈ks,k.toNat∈m)→∀j∈js,j∈m
 | [],ks,js,hr,_=>by
  unfold bj at hr;obtain⟨_,rfl⟩:=hr;intro j hj;simp at hj
 | a::xz,ks,js,hr,hk=>by
  unfold bj at hr;obtain⟨k,gX,j1,j2,rfl,h1,h2,rfl⟩:=hr;intro j hj;rcases dd.1 hj with hj|hj
  ·exact gC.closed hm a k j1 h1 (by simpa using hk k (bP ..)) j hj
  ·exact bj.closed hm xz gX j2 h2 (fun z hz=>hk z (bO _ hz)) j hj
end
mutual
/-- How deep the nodes are, by whoever counts from parents to kids. -/
theorem gC.uf {T:List Nd} {d:Nat→Nat} :∀(a:Ast) (i:Nat) (js:List Nat),gC T a i js→(∀j∈js,∀k∈cE T j,d k.toNat=d j+1)→(∀j∈js,d j+1≤d i+a.depth)∧∃j∈js,d j+1=d i+a.depth
 | .mk h xz,i,js,hr,hd=>by
  unfold gC at hr;obtain⟨x,qZ,hx,_,hs,rfl⟩:=hr;have h1:=bj.uf (v:=d i) xz x.kids qZ hs (fun j hj=>hd j (bO _ hj)) (fun k hk=>hd i (bP ..) k (by rw[jh hx];exact hk))
  rw[Ast.depth];refine⟨fun j hj=>?_,?_⟩
  ·rcases bc.1 hj with rfl|hj
   ·omega
   ·have:=h1.1 j hj
    omega
  ·by_cases h0:xz=[]
   ·subst h0
    exact⟨i,bP ..,by rw[Ast.dW]⟩
   ·obtain⟨j,hj,he⟩:=h1.2 h0
    exact⟨j,bO _ hj,by omega⟩
theorem bj.uf {T:List Nd} {d:Nat→Nat} {v:Nat} :∀(xz:List Ast) (ks:List Int) (js:List Nat),bj T xz ks js→(∀j∈js,∀k∈cE T j,d k.toNat=d j+1)→(∀k∈ks,d k.toNat=v+1)→(∀j∈js,d j≤v+Ast.dW xz)∧(xz≠[]→∃j∈js,d j=v+Ast.dW xz)
 | [],ks,js,hr,_,_=>by
  unfold bj at hr;obtain⟨_,rfl⟩:=hr;exact⟨fun j hj=>by simp at hj,fun h=>absurd rfl h⟩
 | a::xz,ks,js,hr,hd,hk=>by
  unfold bj at hr;obtain⟨k,gX,j1,j2,rfl,h1,h2,rfl⟩:=hr;have e1:=gC.uf a k j1 h1 (fun j hj=>hd j (eN _ hj))
  have e2:=bj.uf (v:=v) xz gX j2 h2 (fun j hj=>hd j (iE _ hj)) (fun z hz=>hk z (bO _ hz))
  have hv:d k=v+1:=by simpa using hk k (bP ..)
  rw[Ast.dW];refine⟨fun j hj=>?_,fun _=>?_⟩
  ·rcases dd.1 hj with hj|hj
   ·have:=e1.1 j hj
    omega
   ·have:=e2.1 j hj
    omega
  ·by_cases hle:Ast.dW xz≤a.depth
   ·obtain⟨j,hj,he⟩:=e1.2
    exact⟨j,eN _ hj,by omega⟩
   ·have h0:xz≠[]:=fun h=>by subst h;exact hle (by rw[Ast.dW];omega)
    obtain⟨j,hj,he⟩:=e2.2 h0;exact⟨j,iE _ hj,by omega⟩
end
theorem z7 {N v:Nat} :∀(ks:List Int) (d:Nat→Nat) (m:List Nat),(∀k∈ks,0≤k∧k<(N:Int)∧d k.toNat=0)→(ks.map Int.toNat).Nodup→∃p,dH N v ks d m=some p:=by
 intro ks;induction ks with
 | nil=>intro d m _ _;exact⟨_,rfl⟩
 | cons k ks ih =>
  intro d m h hn;obtain⟨h0,h1,h2⟩:=h k (bP ..);rw[dV,kK] at hn;rw[dH,ai ⟨h0,h1,h2⟩];refine ih _ _ (fun z hz=>?_) hn.2
  obtain⟨z0,z1,z2⟩:=h z (bO _ hz);refine⟨z0,z1,?_⟩;have hne:z.toNat≠k.toNat:=fun e=>hn.1 (by rw[←e];exact j3 hz)
  rw[gj _ _ hne];exact z2
theorem Hh :∀(N:Nat) (m:List Nat),(∀j,j<N→j∈m)→N≤m.length:=by
 intro N;induction N with
 | zero=>intro m _;exact bo _
 | succ N ih =>
  intro m h;have hN:=h N (dz _);have h1:=ih (m.erase N) (fun j hj=>(List.mem_erase_of_ne (by omega)).2 (h j (by omega)))
  rw[List.length_erase_of_mem hN] at h1;have:=List.length_pos_of_mem hN;omega
structure Hi (a:Nat) (d:Nat→Nat) (m:List Nat):Prop where
 le:m.Pairwise fun x y=>d x≤d y
 top :∀i,m[a]? = some i→∀x∈m,d x≤d i+1
theorem Hi.step {T:List Nd} {r a i:Nat} {d d':Nat→Nat} {m m':List Nat} (hh:Half T r a d m) (h:Hi a d m) (hi:m[a]? = some i) (e:dH T.length (d i+1) (cE T i) d m=some (d',m')):Hi (a+1) d' m':=by
 obtain⟨_,i2,i3,i4,_⟩:=o7 (by omega) _ _ _ _ _ hh.inv e
 have rk :∀j∈m,d' j=d j:=fun j hj=>i3 j ((hh.inv.iff j).2 hj)
 have him:i∈m:=aX hi;have Hj :∀y∈(cE T i).map Int.toNat,d' y=d i+1:=fun y hy=>by
  obtain⟨k,hk,rfl⟩:=jB.1 hy;exact(i4 k hk).2.2
 have hp:m'.Pairwise fun x y=>d' x≤d' y:=by
  rw[i2,List.pairwise_append];refine⟨?_,?_,fun x hx y hy=>?_⟩
  ·refine KX (fun hx hy hxy=>?_) h.le
   rw[rk _ hx,rk _ hy];exact hxy
  ·exact KX (R:=fun _ _=>True) (fun hx hy _=>by rw[Hj _ hx,Hj _ hy];exact ah _) (List.pairwise_of_forall (fun _ _=>trivial))
  ·rw[rk x hx,Hj y hy]
   exact h.top i hi x hx
 refine⟨hp,fun i' hi' x hx=>?_⟩
 have hia:m'[a]? = some i:=by rw[i2,kI (aK.1 hi).1];exact hi
 have h1:d' i≤d' i':=by
  obtain⟨la,ea⟩:=aK.1 hia;obtain⟨lb,eb⟩:=aK.1 hi';have:=List.pairwise_iff_getElem.1 hp a (a+1) la lb (dz _);rw[ea,eb] at this;exact this
 rw[rk i him] at h1;rw[i2] at hx;rcases dd.1 hx with hx|hx
 ·have:=h.top i hi x hx
  rw[rk x hx];omega
 ·rw[Hj x hx]
  omega
theorem RO {T:List Nd} {r:Nat} {js:List Nat} (dJ:(r::js.flatMap (wM T)).Nodup) (hjs:js.Nodup) (z8 :∀i∈js,∀k∈cE T i,0≤k∧k<(T.length:Int)∧k.toNat∈js) :
  ∀(f a:Nat) (d:Nat→Nat) (m:List Nat),Half T r a d m→Hi a d m→(∀j∈m,j∈js)→T.length+1≤f+a→∃d' m',yk T f a d m=some (d',m')∧Half T r m'.length d' m'∧Hi m'.length d' m'∧∀j∈m',j∈js:=by
 intro f;induction f with
 | zero =>
  intro a d m h _ _ hf;have:=h.inv.len;have:=h.le;omega
 | succ f ih =>
  intro a d m h hm pW hf;cases hi:m[a]? with
  | none =>
   have h1:m.length≤a:=List.getElem?_eq_none_iff.1 hi;have h2:=h.le;obtain rfl:a=m.length:=by omega
   exact⟨d,m,by rw[yk,hi],h,hm,pW⟩
  | some i =>
   have him:=aX hi;have vT:=pW i him;have hal:=(aK.1 hi).1;have V7 :∀k∈cE T i,k.toNat∈wM T i:=fun k hk=>j3 hk
   have hz :∀k∈cE T i,0≤k∧k<(T.length:Int)∧d k.toNat=0:=fun k hk=>by
    obtain⟨k0,k1,_⟩:=z8 i vT k hk;refine⟨k0,k1,Classical.byContradiction fun hne=>?_⟩
    have oz:=(h.inv.iff _).1 hne;rw[h.eq] at oz;rcases bc.1 oz with e|oz
    ·rw[kK] at dJ
     exact dJ.1 (tX.2 ⟨i,vT,e▸V7 k hk⟩)
    ·obtain⟨i',hi',sV⟩:=tX.1 oz
     rw[kK] at dJ;have he:i=i':=C8 dJ.2 vT (pW i' (La hi')) (V7 k hk) sV hjs;subst he;have hn:=h.inv.nodup;rw[←ER a m,oH] at hn;refine hn.2.2 i hi' i ?_ rfl;rw[jz];exact⟨0,by rw[wF];exact hi⟩
   have zz:((cE T i).map Int.toNat).Nodup:=ue (kK.1 dJ).2 vT;obtain⟨⟨d',m'⟩,hp⟩:=z7 (v:=d i+1) (cE T i) d m hz zz;obtain⟨d2,m2,h1,h2⟩:=ih (a+1) d' m' (h.step hi hp) (hm.step h hi hp) (fun j hj=>by
    have:=(o7 (by omega) _ _ _ _ _ h.inv hp).2.1
    rw[this] at hj;rcases dd.1 hj with hj|hj
    ·exact pW j hj
    ·obtain⟨k,hk,rfl⟩:=jB.1 hj
     exact(z8 i vT k hk).2.2) (by omega)
   refine⟨d2,m2,?_,h2⟩;simp only[yk,hi,hp];exact h1
end Go.Proofs.YtodmcdfeldkocaaGreatDoor
namespace Go.Proofs.YtodmcdfeldkocaaGreatDoor
mutual
theorem gC.kids {T:List Nd} :∀(a:Ast) (i:Nat) (js:List Nat),gC T a i js→∀j∈js,∀k∈cE T j,0≤k∧k.toNat∈js
 | .mk h xz,i,js,hr=>by
  unfold gC at hr;obtain⟨x,qZ,hx,_,hs,rfl⟩:=hr;have h1:=bj.kids xz x.kids qZ hs;intro j hj k hk;rcases bc.1 hj with rfl|hj
  ·rw[jh hx] at hk
   have:=h1.1 k hk;exact⟨this.1,bO _ this.2⟩
  ·have:=h1.2 j hj k hk
   exact⟨this.1,bO _ this.2⟩
theorem bj.kids {T:List Nd} :∀(xz:List Ast) (ks:List Int) (js:List Nat),bj T xz ks js→(∀k∈ks,0≤k∧k.toNat∈js)∧∀j∈js,∀k∈cE T j,0≤k∧k.toNat∈js
 | [],ks,js,hr=>by
  unfold bj at hr;obtain⟨rfl,rfl⟩:=hr;exact⟨fun k hk=>by simp at hk,fun j hj=>by simp at hj⟩
 | a::xz,ks,js,hr=>by
  unfold bj at hr;obtain⟨k,gX,j1,j2,rfl,h1,h2,rfl⟩:=hr;have e1:=gC.kids a k j1 h1;have e2:=bj.kids xz gX j2 h2;refine⟨fun z hz=>?_,fun j hj z hz=>?_⟩
  ·rcases bc.1 hz with rfl|hz
   ·exact⟨by omega,eN _ (by rw[gV];exact h1.root.1)⟩
   ·have:=e2.1 z hz
    exact⟨this.1,iE _ this.2⟩
  ·rcases dd.1 hj with hj|hj
   ·have:=e1 j hj z hz
    exact⟨this.1,eN _ this.2⟩
   ·have:=e2.2 j hj z hz
    exact⟨this.1,iE _ this.2⟩
end
theorem Hk {d:Nat→Nat} {m:List Nat} (h:m.Pairwise fun x y=>d x≤d y) {x:Nat} (hx:x∈m):d x≤d (m.getLastD 0):=by
 obtain⟨i,hi,rfl⟩:=List.getElem_of_mem hx;have hne:m≠[]:=fun e=>by subst e;exact absurd hi (jA _)
 have hl:m.getLastD 0=m[m.length-1]'(by omega):=by
  rw[List.getLastD_eq_getLast?,List.getLast?_eq_getElem?,bG (by omega)]
  rfl
 rw[hl];by_cases e:i=m.length-1
 ·subst e;exact ah _
 ·exact List.pairwise_iff_getElem.1 h i (m.length-1) hi (by omega) (by omega)
theorem Aa {T:List Nd} {r:Nat} {a:Ast} {js:List Nat} (h:gC T a r js) (hn:js.Nodup) (hl:js.length=T.length) (hN:T.length≤16384):eP T (r:Int)=a.depth:=by
 obtain⟨hrj,_,hrl⟩:=h.root;have hlt:=gC.lt a r js h;have z8 :∀i∈js,∀k∈cE T i,0≤k∧k<(T.length:Int)∧k.toNat∈js:=fun i hi k hk=>by
  obtain⟨k0,k1⟩:=gC.kids a r js h i hi k hk;have:=hlt _ k1;exact⟨k0,by omega,k1⟩
 have dJ:=(gC.perm a r js h).nodup_iff.1 hn;have hm0:Hi 0 (upd (fun _=>0) r 1) [r]:=⟨by simp,fun i hi x hx=>by
  obtain rfl:r=i:=by simpa using hi
  obtain rfl:=bK.1 hx;omega⟩
 obtain⟨d,m,hb,hh,hm,pW⟩:=RO dJ hn z8 (T.length+1) 0 _ [r] (Half.start hrl) hm0 (fun j hj=>by
  obtain rfl:=bK.1 hj;exact hrj) (by omega)
 have XG:m.take m.length=m:=zR;have heq:=hh.eq;have hk:=hh.kid;rw[XG] at heq hk;have hrm:r∈m:=by rw[heq];exact bP ..
 have C9 :∀i∈m,∀k∈cE T i,k.toNat∈m:=fun i hi k hk=>by
  rw[heq];exact bO _ (tX.2 ⟨i,hi,j3 hk⟩)
 have hall:=gC.closed C9 a r js h hrm;have hlen:m.length=T.length:=by
  have h1:=hh.inv.len;have h2:=Hh T.length m (fun j hj=>hall j (rj hn hlt hl hj))
  omega
 have e:eP T (r:Int)=d (m.getLastD 0):=by
  unfold eP;rw[ai ⟨hN,by omega,by omega⟩,gV,hb]
  exact ab (by show ¬ m.length<T.length;omega)
 obtain⟨h1,j,hj,he⟩:=gC.uf (d:=d) a r js h (fun j hj k rl=>(hk j (hall j hj) k rl).2.2)
 have aen:=hh.root;have hne:m≠[]:=fun e=>by rw[e] at hrm;simp at hrm
 have h2:=h1 _ (pW _ (yl m 0 hne));have h3:=Hk hm.le (hall j hj);rw[e];omega
section
variable (fo:Nd→Bool) (ko:Int→Int→List Int→Bool) (so:Int→Int) (hd:Nd→List UInt8)
mutual
def Ast.ok:Ast→Bool
 | .mk h ks=>decide (1≤h.line) && fo h && ko h.kind h.num (ks.map fun k=>so k.hd.kind) && Ast.CU ks
def Ast.CU:List Ast→Bool
 | []=>true
 | a::xz=>Ast.ok a && Ast.CU xz
end
variable {fo ko so hd}
theorem bj.aaM {T:List Nd} :∀(xz:List Ast) (ks:List Int) (js:List Nat),bj T xz ks js→(ks.map fun k=>so (dI T k.toNat))=xz.map fun k=>so k.hd.kind:=by
 intro xz;induction xz with
 | nil =>
  intro ks js hr;unfold bj at hr;obtain⟨rfl,_⟩:=hr;rfl
 | cons a xz ih =>
  intro ks js hr;unfold bj at hr;obtain⟨k,gX,j1,j2,rfl,h1,h2,rfl⟩:=hr;rw[dV,dV,ih gX j2 h2,gV,h1.root.2.1]
mutual
theorem gC.all {T:List Nd} (Hl :∀x ks,fo { x with kids:=ks}=fo x) :∀(a:Ast) (i:Nat) (js:List Nat),gC T a i js→(Ast.ok fo ko so a=true↔∀j∈js,∀x,T[j]? = some x→ky fo ko so T x=true)
 | .mk h xz,i,js,hr=>by
  unfold gC at hr;obtain⟨x,qZ,hx,he,hs,rfl⟩:=hr;have h1:=bj.all Hl xz x.kids qZ hs;have h2:ky fo ko so T x=(decide (1≤h.line) && fo h && ko h.kind h.num (xz.map fun k=>so k.hd.kind)):=by
   unfold ky;rw[bj.aaM (so:=so) xz x.kids qZ hs];have e1:x.line=h.line:=by rw[he]
   have e2:fo x=fo h:=by rw[he,Hl]
   have e3:x.kind=h.kind:=by rw[he]
   have e4:x.num=h.num:=by rw[he]
   rw[e1,e2,e3,e4]
  rw[Ast.ok,dp,←h2,h1];constructor
  ·rintro⟨a1,a2⟩ j hj y hy
   rcases bc.1 hj with rfl|hj
   ·obtain rfl:=gW (hx.symm.trans hy)
    exact a1
   ·exact a2 j hj y hy
  ·intro hall
   exact⟨hall i (bP ..) x hx,fun j hj y hy=>hall j (bO _ hj) y hy⟩
theorem bj.all {T:List Nd} (Hl :∀x ks,fo { x with kids:=ks}=fo x) :∀(xz:List Ast) (ks:List Int) (js:List Nat),bj T xz ks js→(Ast.CU fo ko so xz=true↔∀j∈js,∀x,T[j]? = some x→ky fo ko so T x=true)
 | [],ks,js,hr=>by
  unfold bj at hr;obtain⟨_,rfl⟩:=hr;rw[Ast.CU];exact⟨fun _ j hj=>by simp at hj,fun _=>rfl⟩
 | a::xz,ks,js,hr=>by
  unfold bj at hr;obtain⟨k,gX,j1,j2,_,h1,h2,rfl⟩:=hr;rw[Ast.CU,dp,gC.all Hl a k j1 h1,bj.all Hl xz gX j2 h2];constructor
  ·rintro⟨a1,a2⟩ j hj y hy
   rcases dd.1 hj with hj|hj
   ·exact a1 j hj y hy
   ·exact a2 j hj y hy
  ·intro hall
   exact⟨fun j hj=>hall j (eN _ hj),fun j hj=>hall j (iE _ hj)⟩
end
theorem Hm {T:List Nd} {r:Nat} {a:Ast} {js:List Nat} (Hl :∀x ks,fo { x with kids:=ks}=fo x) (h:gC T a r js) (hn:js.Nodup) (hl:js.length=T.length) (hN:T.length≤16384) :
  o9 fo ko so T (r:Int)=(decide (a.depth≤100) && decide (a.hd.kind=18) && Ast.ok fo ko so a):=by
 have hd:=Aa h hn hl hN;obtain⟨_,hk,_⟩:=h.root;have hlt:=gC.lt a r js h;have h0:a.depth≠0:=by cases a with|mk h ks=>rw[Ast.depth];omega
 have hall:T.all (ky fo ko so T)=Ast.ok fo ko so a:=by
  rw[mV,List.all_eq_true,gC.all Hl a r js h];constructor
  ·intro h1 j _ x hx
   exact h1 x (aX hx)
  ·intro h1 x hx
   obtain⟨j,hj,rfl⟩:=List.getElem_of_mem hx;exact h1 j (rj hn hlt hl hj) _ (bG hj)
 unfold o9;rw[hd,gV,hk,hall,bQ h0,kP]
end
end Go.Proofs.YtodmcdfeldkocaaGreatDoor
namespace Go.Proofs.YtodmcdfeldkocaaGreatDoor
inductive Lt where
 | mk (i:Nat) (h:Nd) (kids:List Lt)
def Lt.loc:Lt→Nat
 | .mk i _ _=>i
def Lt.hd:Lt→Nd
 | .mk _ h _=>h
def Lt.sub:Lt→List Lt
 | .mk _ _ ks=>ks
mutual
/-- It lies so in a list of nodes. -/
def Lt.In (T:List Nd):Lt→Prop
 | .mk i h ks=>T[i]? = some h∧h.kids=ks.map (fun k=>(k.loc:Int))∧Lt.sW T ks
def Lt.sW (T:List Nd):List Lt→Prop
 | []=>True
 | k::ks=>Lt.In T k∧Lt.sW T ks
end
structure vU where
 name:ByteArray
 node:Nat
 cap:Bool
structure tx where
 loc:Bool
 idx:Nat
deriving DecidableEq
structure dr where
 node:Nat
 parent:Int
 params:Nat
 many:Bool
 vars:List vU
 cr:List tx
structure jw where
 s:ByteArray
 fn:Nat
 i:Nat
structure fE where
 fn:Nat
 node:Nat
 at_:Nat
 loop:Bool
 rep:Bool
 kids:List Lt
structure aI where
 fns:List dr
 uses:Nat→Int×Int
 of:Nat→Int
 names:List jw
 frames:List fE
abbrev Rs (α:Type):=Except (Int×Int) α
def aI.setOf (st:aI) (i fn:Nat):aI:={ st with of:=fun j=>if j=i then (fn:Int) else st.of j}
def aI.dt (st:aI) (i:Nat) (u:Int×Int):aI:={ st with uses:=fun j=>if j=i then u else st.uses j}
def aI.fn (st:aI) (f:Nat):dr:=st.fns.getD f ⟨0,0,0,false,[],[]⟩
def aI.oN (st:aI) (f:Nat) (x:dr):aI:={ st with fns:=st.fns.set f x}
def dO (node f:Nat) (line:Int):List ByteArray→aI→Rs aI
 | [],st=>.ok st
 | s::l,st =>
  if 200≤(st.fn f).vars.length then .error (11,line)
  else dO node f line l { st.oN f { st.fn f with vars:=(st.fn f).vars++[⟨s,node,false⟩]} with names:=⟨s,f,(st.fn f).vars.length⟩::st.names}
def bu (node f:Nat) (line:Int) (l:List ByteArray) (st:aI):Rs aI:=dO node f line l (st.dt node (2,((st.fn f).vars.length:Int)))
def gE (F:List dr) (f:Nat) (u:tx):Option (List dr×Nat) :=
 let x:=F.getD f ⟨0,0,0,false,[],[]⟩
 match x.cr.findIdx? (fun y=>decide (y=u)) with
 | some i=>some (F,i)
 | none=>if 60≤x.cr.length then none else some (F.set f { x with cr:=x.cr++[u]},x.cr.length)
def lK (x:jw):Nat→List dr→Nat→Option (List dr×Nat)
 | 0,_,_=>none
 | g+1,F,f =>
  let p:=(F.getD f ⟨0,0,0,false,[],[]⟩).parent
  if p=(x.fn:Int) then gE F f ⟨true,x.i⟩
  else match lK x g F p.toNat with
   | none=>none
   | some (F',k)=>gE F' f ⟨false,k⟩
def cZ (x:dr) (i:Nat):dr:={ x with vars:=match x.vars[i]? with|some v=>x.vars.set i { v with cap:=true}|none=>x.vars}
def lL (node f:Nat) (s:ByteArray) (line:Int) (st:aI):Rs aI :=
 match st.names.find? (fun n=>decide (n.s=s)) with
 | none=>.ok (st.dt node (1,0))
 | some n =>
  if n.fn=f then .ok (st.dt node (2,(n.i:Int)))
  else match lK n st.fns.length (st.fns.set n.fn (cZ (st.fn n.fn) n.i)) f with
   | none=>.error (12,line)
   | some (F,k)=>.ok ({ st with fns:=F}.dt node (3,(k:Int)))
def mu (s:ByteArray) (k:Lt):Bool:=decide (k.hd.kind=32) && decide (k.hd.s=s)
def cu (ks:List Lt) (s:ByteArray):Option Nat:=ks.findIdx? (mu s)
def b9 (frames:List fE) (f:Nat) (all:List Lt):Nat→List Lt→Option Int
 | _,[]=>none
 | n,k::ks =>
  if k.hd.kind=32∧((∃j,cu all k.hd.s=some j∧j<n)∨∃x∈frames,x.loop=false∧x.fn=f∧(cu x.kids k.hd.s).isSome) then some k.hd.line
  else b9 frames f all (n+1) ks
def gY (i f:Nat) (rep:Bool) (ks:List Lt) (st:aI):Rs aI :=
 match b9 st.frames f ks 0 ks with
 | some l=>.error (9,l)
 | none=>.ok { st with frames:=⟨f,i,0,false,rep,ks⟩::st.frames}
def aI.at (st:aI) (n:Nat):aI:={ st with frames:=match st.frames with | []=>[]|x::l=>{ x with at_:=n}::l}
def eD (node f:Nat) (line:Int) (st:aI):Rs aI :=
 match st.frames.find? (fun x=>x.loop && decide (x.fn=f)) with
 | none=>.error (8,line)
 | some x=>.ok (st.dt node (4,(x.node:Int)))
def isDecl (k:Lt):Bool:=decide (k.hd.kind=19) || decide (k.hd.kind=28)
def lM (ks:List Lt) (a j:Nat) (rep:Bool):Bool :=
 ((ks.take j).drop (a+1)).any isDecl && !(!rep && (ks.drop (j+1)).all fun k=>decide (k.hd.kind=32))
def dK (node f:Nat) (s:ByteArray) (line:Int) (st:aI):List fE→Rs aI
 | []=>.error (8,line)
 | x::l =>
  if x.loop=true∨x.fn≠f then dK node f s line st l
  else match cu x.kids s with
   | none=>dK node f s line st l
   | some j=>if lM x.kids x.at_ j x.rep then .error (10,line) else .ok (st.dt node (4,((x.kids.getD j (.mk 0 ⟨0,0,0,0,⟨#[]⟩,[],[]⟩ [])).loc:Int)))
def dv (i f:Nat) (st:aI):aI:={ st with frames:=⟨f,i,0,true,false,[]⟩::st.frames}
def aI.back (st j5:aI):aI:={ st with names:=j5.names,frames:=j5.frames}
def jD (i f:Nat) (h:Nd) (st:aI):aI:={ st with fns:=st.fns++[⟨i,(f:Int),h.names.length,decide (h.num=1),[],[]⟩]}
mutual
def aY:Lt→Nat→aI→Rs aI
 | .mk i h ks,f,j5 =>
  let st:=j5.setOf i f
  if h.kind=6 then (if (st.fn f).many then .ok st else .error (14,h.line))
  else if h.kind=7 then lL i f h.s h.line st
  else if h.kind=11 then
   (bu i st.fns.length h.line h.names (jD i f h st)).bind fun st1=>(aE ks st.fns.length st1).map fun st2=>st2.back st
  else if h.kind=18 then (gY i f false ks st).bind fun st1=>(cL ks 0 f st1).map fun st2=>st2.back st
  else if h.kind=19 then (aE ks f st).bind fun st1=>bu i f h.line h.names st1
  else if h.kind=23 then (aE ks f (dv i f st)).map fun st1=>st1.back st
  else if h.kind=24 then (mW ks f (dv i f st)).map fun st1=>st1.back st
  else if h.kind=26∨h.kind=27 then ji i h.line h.names ks f st
  else if h.kind=28 then (bu i f h.line h.names st).bind fun st1=>aE ks f st1
  else if h.kind=30 then eD i f h.line st
  else if h.kind=31 then dK i f h.s h.line st st.frames
  else aE ks f st
def aE:List Lt→Nat→aI→Rs aI
 | [],_,st=>.ok st
 | k::ks,f,st=>(aY k f st).bind fun st1=>aE ks f st1
/-- Statements of a block, from the one at n on. -/
def cL:List Lt→Nat→Nat→aI→Rs aI
 | [],_,_,st=>.ok st
 | k::ks,n,f,st=>(aY k f (st.at n)).bind fun st1=>cL ks (n+1) f st1
/-- A block with a test that stands in it. -/
def mW:List Lt→Nat→aI→Rs aI
 | [.mk i _ ks,t],f,st=>(gY i f true ks (st.setOf i f)).bind fun st1=>(cL ks 0 f st1).bind fun st2=>aY t f st2
 | _,_,st=>.ok st
/-- acE, then names are declared, then a block. -/
def ji (i:Nat) (line:Int) (names:List ByteArray):List Lt→Nat→aI→Rs aI
 | [],_,st=>.ok st
 | [b],f,st=>(bu i f line names (dv i f st)).bind fun st1=>(aY b f st1).map fun st2=>st2.back st
 | a::b::l,f,st=>(aY a f st).bind fun st1=>ji i line names (b::l) f st1
end
def fF (root:Nat):aI:=⟨[⟨root,-1,0,true,[],[]⟩],fun _=>(0,0),fun _=>0,[],[]⟩
def pd (t:Lt):Rs aI:=aY t 0 (fF t.loc)
structure pX (x x':dr):Prop where
 node:x'.node=x.node
 parent:x'.parent=x.parent
 params:x'.params=x.params
 many:x'.many=x.many
 vars :∀(j:Nat) v,x.vars[j]? = some v→∃v':vU,x'.vars[j]? = some v'∧v'.name=v.name∧v'.node=v.node∧(v.cap=true→v'.cap=true)
 cr :∀(j:Nat) u,x.cr[j]? = some u→x'.cr[j]? = some u
theorem pX.refl (x:dr):pX x x:=⟨rfl,rfl,rfl,rfl,fun _ v h=>⟨v,h,rfl,rfl,id⟩,fun _ _ h=>h⟩
theorem pX.trans {x y z:dr} (h:pX x y) (k:pX y z):pX x z :=
 ⟨k.node.trans h.node,k.parent.trans h.parent,k.params.trans h.params,k.many.trans h.many,fun j v hv=>by
  obtain⟨v1,h1,h2,h3,h4⟩:=h.vars j v hv;obtain⟨v2,k1,k2,k3,k4⟩:=k.vars j v1 h1;exact⟨v2,k1,k2.trans h2,k3.trans h3,fun c=>k4 (h4 c)⟩,fun j u hu=>k.cr j u (h.cr j u hu)⟩
theorem pX.len {x y:dr} (h:pX x y):x.vars.length≤y.vars.length:=by
 rcases su x.vars.length with h0|h0
 ·omega
 ·obtain⟨v',h1,_⟩:=h.vars (x.vars.length-1) _ (bG (by omega))
  have:=(aK.1 h1).1;omega
def ug (F F':List dr):Prop:=F.length≤F'.length∧∀(f:Nat) x,F[f]? = some x→∃x',F'[f]? = some x'∧pX x x'
theorem ug.refl (F:List dr):ug F F:=⟨ah _,fun _ x h=>⟨x,h,.refl x⟩⟩
theorem ug.trans {A B C:List dr} (h:ug A B) (k:ug B C):ug A C :=
 ⟨aL h.1 k.1,fun f x hx=>by
  obtain⟨y,hy,e⟩:=h.2 f x hx;obtain⟨z,hz,e'⟩:=k.2 f y hy;exact⟨z,hz,e.trans e'⟩⟩
theorem ug.set {F:List dr} {f:Nat} {x x':dr} (h:F[f]? = some x) (e:pX x x'):ug F (F.set f x') :=
 ⟨by simp,fun g y hy=>by
  by_cases hg:g=f
  ·subst hg
   rw[h] at hy;injection hy with hy;subst hy;exact⟨x',by rw[dS (aK.1 h).1],e⟩
  ·exact⟨y,by rw[fL (fun e=>hg e.symm)];exact hy,.refl y⟩⟩
theorem ug.app (F:List dr) (x:dr):ug F (F++[x]) :=
 ⟨by simp,fun f y hy=>⟨y,by rw[kI (aK.1 hy).1];exact hy,.refl y⟩⟩
structure Ffn (F:List dr) (i:Nat) (x:dr):Prop where
 par:(i=0∧x.parent = -1)∨∃p:Nat,x.parent=(p:Int)∧p<i
 par0:x.params≤x.vars.length
structure CV (F:List dr):Prop where
 pos:0<F.length
 each :∀(i:Nat) x,F[i]? = some x→Ffn F i x
inductive Lp (F:List dr):Nat→Nat→Prop
 | same {f:Nat}:Lp F f f
 | up {a f p:Nat} {x:dr}:F[f]? = some x→x.parent=(p:Int)→Lp F a p→Lp F a f
theorem Lp.ext {F F':List dr} (h:ug F F') {a f:Nat} (k:Lp F a f):Lp F' a f:=by
 induction k with
 | same=>exact .same
 | up h1 h2 _ ih =>
  obtain⟨x',h3,e⟩:=h.2 _ _ h1;exact .up h3 (e.parent.trans h2) ih
inductive sy (F:List dr) (s:ByteArray):Nat→Nat→Prop
 | here {f k j p:Nat} {x y:dr} {v:vU}:F[f]? = some x→x.cr[k]? = some ⟨true,j⟩→x.parent=(p:Int)→F[p]? = some y→y.vars[j]? = some v→v.name=s→v.cap=true→sy F s f k
 | up {f k j p:Nat} {x:dr}:F[f]? = some x→x.cr[k]? = some ⟨false,j⟩→x.parent=(p:Int)→sy F s p j→sy F s f k
theorem sy.ext {F F':List dr} (h:ug F F') {s:ByteArray} {f k:Nat} (l:sy F s f k):sy F' s f k:=by
 induction l with
 | here h1 h2 h3 h4 h5 h6 h7 =>
  obtain⟨x',e1,l1⟩:=h.2 _ _ h1;obtain⟨y',e2,l2⟩:=h.2 _ _ h4;obtain⟨v',e3,e4,_,e5⟩:=l2.vars _ _ h5;exact .here e1 (l1.cr _ _ h2) (l1.parent.trans h3) e2 e3 (e4.trans h6) (e5 h7)
 | up h1 h2 h3 _ ih =>
  obtain⟨x',e1,l1⟩:=h.2 _ _ h1;exact .up e1 (l1.cr _ _ h2) (l1.parent.trans h3) ih
theorem gF {F:List dr} {f:Nat} {x d:dr} (h:F[f]? = some x):F.getD f d=x:=by rw[jZ,h];rfl
theorem CV.set {F:List dr} (h:CV F) {f:Nat} {x x':dr} (hx:F[f]? = some x) (e:pX x x'):CV (F.set f x') :=
 ⟨by rw[kL];exact h.pos,fun i y hy=>by
  by_cases hi:i=f
  ·subst hi
   rw[dS (aK.1 hx).1] at hy;injection hy with hy;subst hy;obtain⟨p,q⟩:=h.each _ _ hx;exact⟨by rw[e.parent];exact p,by rw[e.params];exact aL q e.len⟩
  ·rw[fL (fun e=>hi e.symm)] at hy
   obtain⟨p,q⟩:=h.each _ _ hy;exact⟨p,q⟩⟩
theorem Ab {F F':List dr} {f k:Nat} {u:tx} (h:gE F f u=some (F',k)) {x:dr} (hx:F[f]? = some x) (hF:CV F) :
  ug F F'∧CV F'∧F'.length=F.length∧∃x',F'[f]? = some x'∧x'.cr[k]? = some u∧x'.parent=x.parent:=by
 unfold gE at h;simp only[gF hx] at h;split at h
 ·rename_i i hi
  injection h with h;injection h with h1 h2;subst h1 h2;obtain⟨hlt,he,_⟩:=zH.1 hi;refine⟨.refl F,hF,rfl,x,hx,?_,rfl⟩;rw[bG hlt];exact aw some (iG he)
 ·split at h
  ·cases h
  ·injection h with h
   injection h with h1 h2;subst h1 h2;have e:pX x { x with cr:=x.cr++[u]}:=⟨rfl,rfl,rfl,rfl,fun _ v hv=>⟨v,hv,rfl,rfl,id⟩,fun _ w hw=>by
    rw[kI (aK.1 hw).1];exact hw⟩
   exact⟨.set hx e,hF.set hx e,by simp,{ x with cr:=x.cr++[u]},by rw[dS (aK.1 hx).1],by simp,rfl⟩
theorem CV.par {F:List dr} (hF:CV F) {f:Nat} {x:dr} (hx:F[f]? = some x) (h0:f≠0) :∃p:Nat,x.parent=(p:Int)∧p<f∧∃y,F[p]? = some y:=by
 rcases(hF.each _ _ hx).par with ⟨h,_⟩ | ⟨p,h1,h2⟩
 ·exact absurd h h0
 ·have:=(aK.1 hx).1
  exact⟨p,h1,h2,F[p],bG (by omega)⟩
theorem Fb {n:jw} :∀(g:Nat) {F F':List dr} {f k:Nat},lK n g F f=some (F',k)→CV F→Lp F n.fn f→n.fn≠f→f<F.length→(∃y v,F[n.fn]? = some y∧y.vars[n.i]? = some v∧v.name=n.s∧v.cap=true) →
  ug F F'∧CV F'∧F'.length=F.length∧sy F' n.s f k:=by
 intro g;induction g with
 | zero=>intro F F' f k h;cases h
 | succ g ih =>
  intro F F' f k h hF ha hne hf hv;obtain⟨x,hx⟩ :∃x,F[f]? = some x:=⟨_,bG hf⟩;rw[lK] at h;simp only[gF hx] at h;cases ha with
  | same=>exact absurd rfl hne
  | @up _ p x' sV hp ha =>
   rw[hx] at sV;injection sV with sV;subst sV;have h0:f≠0:=fun e=>by
    rcases(hF.each _ _ hx).par with ⟨_,h1⟩ | ⟨q,_,h2⟩
    ·omega
    ·omega
   obtain⟨q,hq,hlt,y,hy⟩:=hF.par hx h0;have hqp:q=p:=by omega
   subst hqp;rw[hq] at h;by_cases he:q=n.fn
   ·subst he
    rw[ai rfl] at h;obtain⟨e1,e2,e3,x',sV,hu,XH⟩:=Ab h hx hF;obtain⟨y',v,hy',hv1,hv2,hv3⟩:=hv;obtain⟨y2,hy2,l2⟩:=e1.2 _ _ hy';obtain⟨v2,hv4,hv5,_,hv6⟩:=l2.vars _ _ hv1;exact⟨e1,e2,e3,.here sV hu (XH.trans hq) hy2 hv4 (hv5.trans hv2) (hv6 hv3)⟩
   ·rw[ab (by omega)] at h
    simp only[gV] at h;split at h
    ·cases h
    ·rename_i F1 k1 h1
     obtain⟨e1,e2,e3,l⟩:=ih h1 hF ha (fun e=>he e.symm) (by omega) hv
     obtain⟨x1,hx1,l1⟩:=e1.2 _ _ hx;obtain⟨g1,g2,g3,x2,hx2,hu,XH⟩:=Ab h hx1 e2;exact⟨e1.trans g1,g2,g3.trans e3,.up hx2 hu (XH.trans (l1.parent.trans hq)) (l.ext g1)⟩
mutual
def Lt.eE:Lt→List Nat
 | .mk i _ ks=>i::Lt.bh ks
def Lt.bh:List Lt→List Nat
 | []=>[]
 | k::ks=>Lt.eE k++Lt.bh ks
end
mutual
def Lt.All (Q:Nat→Nd→Prop):Lt→Prop
 | .mk i h ks=>Q i h∧Lt.dZ Q ks
def Lt.dZ (Q:Nat→Nd→Prop):List Lt→Prop
 | []=>True
 | k::ks=>Lt.All Q k∧Lt.dZ Q ks
end
mutual
theorem Lt.All.imp {Q Q':Nat→Nd→Prop} :∀(t:Lt),(∀i∈t.eE,∀h,Q i h→Q' i h)→Lt.All Q t→Lt.All Q' t
 | .mk i h ks,hi,ha=>by
  unfold Lt.All at ha ⊢;exact⟨hi i (by rw[Lt.eE];exact bP ..) h ha.1,Lt.dZ.imp ks (fun j hj=>hi j (by rw[Lt.eE];exact bO _ hj)) ha.2⟩
theorem Lt.dZ.imp {Q Q':Nat→Nd→Prop} :∀(ks:List Lt),(∀i∈Lt.bh ks,∀h,Q i h→Q' i h)→Lt.dZ Q ks→Lt.dZ Q' ks
 | [],_,_=>by unfold Lt.dZ;trivial
 | k::ks,hi,ha=>by
  unfold Lt.dZ at ha ⊢;exact⟨Lt.All.imp k (fun j hj=>hi j (by rw[Lt.bh];exact eN _ hj)) ha.1,Lt.dZ.imp ks (fun j hj=>hi j (by rw[Lt.bh];exact iE _ hj)) ha.2⟩
end
def Kok (h:Nd) (ks:List Lt):Prop:=((h.kind=6∨h.kind=7∨h.kind=30∨h.kind=31)→ks=[])∧(h.kind=24→∃b t,ks=[b,t]∧b.hd.kind=18)
mutual
def Lt.Wf:Lt→Prop
 | .mk _ h ks=>Kok h ks∧Lt.ym ks
def Lt.ym:List Lt→Prop
 | []=>True
 | k::ks=>Lt.Wf k∧Lt.ym ks
end
theorem pY (t:Lt):t.loc∈t.eE:=by cases t with|mk i h ks=>rw[Lt.eE];exact bP ..
theorem pZ :∀{ks:List Lt} {t:Lt},t∈ks→t.loc∈Lt.bh ks
 | k::ks,t,h=>by
  rw[Lt.bh];rcases bc.1 h with rfl|h
  ·exact eN _ (pY _)
  ·exact iE _ (pZ h)
def fE.core (x:fE):fE:={ x with at_:=0}
def aI.fr (st:aI):List fE:=st.frames.map fE.core
theorem V8 (st:aI) (n:Nat):(st.at n).fr=st.fr:=by
 unfold aI.at aI.fr;cases st.frames with
 | nil=>rfl
 | cons x l=>rfl
def Hn (F:List dr) (f:Nat) (n:jw):Prop:=Lp F n.fn f∧∃y v,F[n.fn]? = some y∧y.vars[n.i]? = some v∧v.name=n.s
theorem Hn.ext {F F':List dr} (h:ug F F') {f:Nat} {n:jw} (k:Hn F f n):Hn F' f n:=by
 obtain⟨a,y,v,h1,h2,h3⟩:=k;obtain⟨y',e1,l⟩:=h.2 _ _ h1;obtain⟨v',e2,e3,_⟩:=l.vars _ _ h2;exact⟨a.ext h,y',v',e1,e2,e3.trans h3⟩
structure Cx (f:Nat) (st:aI):Prop where
 ok:CV st.fns
 lt:f<st.fns.length
 names :∀n∈st.names,Hn st.fns f n
def Uok (st:aI) (s:ByteArray) (j:Nat):Prop:=∃f:Nat,st.of j=(f:Int)∧(st.uses j=(1,0)∨(∃k:Nat,st.uses j=(2,(k:Int))∧∃y v,st.fns[f]? = some y∧y.vars[k]? = some v∧v.name=s)∨∃k:Nat,st.uses j=(3,(k:Int))∧sy st.fns s f k)
def XI (V:List Nat) (fr:List fE) (st:aI) (j:Nat):Prop :=
 ∃f t:Nat,st.of j=(f:Int)∧st.uses j=(4,(t:Int))∧((t∈V∧st.of t=(f:Int))∨∃x∈fr,x.fn=f∧((x.loop=true∧t=x.node)∨(x.loop=false∧t∈x.kids.map Lt.loc)))
def sA (V:List Nat) (fr:List fE) (st:aI) (i:Nat) (h:Nd):Prop:=(h.kind=7→Uok st h.s i)∧(h.kind=30∨h.kind=31→XI V fr st i)
structure kz (L:List Nat) (f:Nat) (st st':aI):Prop where
 ext:ug st.fns st'.fns
 ok:CV st'.fns
 off :∀j,j∉L→st'.uses j=st.uses j∧st'.of j=st.of j
 names :∃a,st'.names=a++st.names∧∀n∈a,Hn st'.fns f n
 new :∀(g:Nat) x,st.fns.length≤g→st'.fns[g]? = some x→x.node∈L∧st'.of x.node=x.parent
theorem kz.cx {L:List Nat} {f:Nat} {st st':aI} (h:kz L f st st') (c:Cx f st):Cx f st' :=
 ⟨h.ok,cG c.lt h.ext.1,fun n hn=>by
  obtain⟨a,e,ha⟩:=h.names;rw[e] at hn;rcases dd.1 hn with hn|hn
  ·exact ha n hn
  ·exact(c.names n hn).ext h.ext⟩
theorem kz.refl {f:Nat} {st:aI} (c:Cx f st):kz [] f st st:=⟨.refl _,c.ok,fun _ _=>⟨rfl,rfl⟩,⟨[],rfl,fun n hn=>by simp at hn⟩,fun g x h1 h2=>by have:=(aK.1 h2).1;omega⟩
theorem kz.more {L L':List Nat} {f:Nat} {st st':aI} (h:kz L f st st') (hL :∀j∈L,j∈L'):kz L' f st st' :=
 ⟨h.ext,h.ok,fun j hj=>h.off j fun e=>hj (hL j e),h.names,fun g x h1 h2=>⟨hL _ (h.new g x h1 h2).1,(h.new g x h1 h2).2⟩⟩
theorem kz.trans {A B:List Nat} {f:Nat} {a b c:aI} (h:kz A f a b) (k:kz B f b c) (hd :∀j∈A,j∉B):kz (A++B) f a c :=
 ⟨h.ext.trans k.ext,k.ok,fun j hj=>by
  rw[dd,not_or] at hj;exact⟨(k.off j hj.2).1.trans (h.off j hj.1).1,(k.off j hj.2).2.trans (h.off j hj.1).2⟩,by
  obtain⟨x,e1,h1⟩:=h.names;obtain⟨y,e2,h2⟩:=k.names;refine⟨y++x,by rw[e2,e1,cP],fun n hn=>?_⟩
  rcases dd.1 hn with hn|hn
  ·exact h2 n hn
  ·exact(h1 n hn).ext k.ext,fun g x h1 h2=>by
  by_cases hg:b.fns.length≤g
  ·exact⟨iE _ (k.new g x hg h2).1,(k.new g x hg h2).2⟩
  ·obtain⟨y,hy⟩ :∃y,b.fns[g]? = some y:=⟨_,bG (by omega)⟩
   obtain⟨x',sV,l⟩:=k.ext.2 g y hy;rw[h2] at sV;injection sV with sV;subst sV;obtain⟨m1,m2⟩:=h.new g y h1 hy;rw[←l.node] at m1 m2;exact⟨eN _ m1,by rw[(k.off _ (hd _ m1)).2,m2,l.parent]⟩⟩
theorem Uok.later {B:List Nat} {f:Nat} {b c:aI} {s:ByteArray} {j:Nat} (h:Uok b s j) (k:kz B f b c) (hj:j∉B):Uok c s j:=by
 obtain⟨g,h1,h2⟩:=h;obtain⟨e1,e2⟩:=k.off j hj;refine⟨g,by rw[e2];exact h1,?_⟩
 rw[e1];rcases h2 with h2 | ⟨n,h2,y,v,h3,h4,h5⟩ | ⟨n,h2,h3⟩
 ·exact .inl h2
 ·obtain⟨y',e3,l⟩:=k.ext.2 _ _ h3
  obtain⟨v',e4,e5,_⟩:=l.vars _ _ h4;exact .inr (.inl ⟨n,h2,y',v',e3,e4,e5.trans h5⟩)
 ·exact .inr (.inr ⟨n,h2,h3.ext k.ext⟩)
theorem XI.later {B V:List Nat} {fr:List fE} {f:Nat} {b c:aI} {j:Nat} (h:XI V fr b j) (k:kz B f b c) (hj:j∉B) (hV :∀t∈V,t∉B):XI V fr c j:=by
 obtain⟨g,t,h1,h2,h3⟩:=h;obtain⟨e1,e2⟩:=k.off j hj;refine⟨g,t,by rw[e2];exact h1,by rw[e1];exact h2,?_⟩
 rcases h3 with ⟨h3,h4⟩|h3
 ·exact .inl ⟨h3,by rw[(k.off t (hV t h3)).2];exact h4⟩
 ·exact .inr h3
theorem sA.later {B V:List Nat} {fr:List fE} {f:Nat} {b c:aI} {j:Nat} {h:Nd} (q:sA V fr b j h) (k:kz B f b c) (hj:j∉B) (hV :∀t∈V,t∉B):sA V fr c j h :=
 ⟨fun e=>(q.1 e).later k hj,fun e=>(q.2 e).later k hj hV⟩
theorem sA.more {V V':List Nat} {fr:List fE} {b:aI} {j:Nat} {h:Nd} (q:sA V fr b j h) (hV :∀t∈V,t∈V'):sA V' fr b j h :=
 ⟨q.1,fun e=>by
  obtain⟨g,t,h1,h2,h3⟩:=q.2 e;exact⟨g,t,h1,h2,h3.imp (fun h=>⟨hV t h.1,h.2⟩) id⟩⟩
theorem sA.left {V:List Nat} {x:fE} {fr:List fE} {b:aI} {j:Nat} {h:Nd} (q:sA V (x::fr) b j h) (hx :∀t,((x.loop=true∧t=x.node)∨(x.loop=false∧t∈x.kids.map Lt.loc))→t∈V∧b.of t=(x.fn:Int)):sA V fr b j h :=
 ⟨q.1,fun e=>by
  obtain⟨g,t,h1,h2,h3⟩:=q.2 e;refine⟨g,t,h1,h2,?_⟩;rcases h3 with h3 | ⟨y,hy,h4,h5⟩
  ·exact .inl h3
  ·rcases bc.1 hy with rfl|hy
   ·obtain⟨k1,k2⟩:=hx t h5
    exact .inl ⟨k1,by rw[k2,h4]⟩
   ·exact .inr ⟨y,hy,h4,h5⟩⟩
theorem sA.same {V:List Nat} {fr:List fE} {b c:aI} {j:Nat} {h:Nd} (q:sA V fr b j h) (e1:c.fns=b.fns) (e2:c.uses=b.uses) (e3:c.of=b.of):sA V fr c j h:=by
 unfold sA Uok XI at *;rw[e1,e2,e3];exact q
theorem kz.back {L:List Nat} {f:Nat} {st st':aI} (h:kz L f st st'):kz L f st (st'.back st) :=
 ⟨h.ext,h.ok,h.off,⟨[],rfl,fun n hn=>by simp at hn⟩,h.new⟩
theorem Fc {f:Nat} {st:aI} (c:Cx f st) (i g:Nat):kz [i] f st (st.setOf i g) :=
 ⟨.refl _,c.ok,fun j hj=>⟨rfl,ab (by simpa using hj)⟩,⟨[],rfl,fun n hn=>by simp at hn⟩,fun g x h1 h2=>by have h3:g<st.fns.length:=(aK.1 h2).1;omega⟩
theorem tz {f:Nat} {st:aI} (c:Cx f st) (i:Nat) (u:Int×Int):kz [i] f st (st.dt i u) :=
 ⟨.refl _,c.ok,fun j hj=>⟨ab (by simpa using hj),rfl⟩,⟨[],rfl,fun n hn=>by simp at hn⟩,fun g x h1 h2=>by have h3:g<st.fns.length:=(aK.1 h2).1;omega⟩
theorem uh (st:aI) (i:Nat) (u:Int×Int):(st.dt i u).uses i=u:=ai rfl
theorem Lq (st:aI) (i f:Nat):(st.setOf i f).of i=(f:Int):=ai rfl
def j6 (x:dr) (node:Nat) (l:List ByteArray):dr:={ x with vars:=x.vars++l.map fun s=>⟨s,node,false⟩}
theorem Ho (x:dr) (node:Nat):j6 x node []=x:=by unfold j6;simp
theorem Ac (x:dr) (node:Nat) (l:List ByteArray):pX x (j6 x node l) :=
 ⟨rfl,rfl,rfl,rfl,fun j v h=>⟨v,by unfold j6;rw[kI (aK.1 h).1];exact h,rfl,rfl,id⟩,fun _ _ h=>h⟩
theorem Lr {F:List dr} {f:Nat} {x:dr} (h:F[f]? = some x):F.set f x=F:=by
 refine List.ext_getElem? fun g=>?_
 by_cases hg:f=g
 ·subst hg
  rw[dS (aK.1 h).1,h]
 ·rw[fL hg]
theorem wN {node f:Nat} {line:Int} :∀(l:List ByteArray) {st st':aI} {x:dr},dO node f line l st=.ok st'→st.fns[f]? = some x →
  st'.fns=st.fns.set f (j6 x node l)∧st'.uses=st.uses∧st'.of=st.of∧st'.frames=st.frames∧x.vars.length+l.length≤max 200 x.vars.length ∧
  ∃a,st'.names=a++st.names∧∀n∈a,n.fn=f∧∃v,(j6 x node l).vars[n.i]? = some v∧v.name=n.s:=by
 intro l;induction l with
 | nil =>
  intro st st' x h hx;rw[dO] at h;injection h with h;subst h;exact⟨by rw[Ho,Lr hx],rfl,rfl,rfl,by simp;omega,[],rfl,fun n hn=>by simp at hn⟩
 | cons s l ih =>
  intro st st' x h hx;rw[dO] at h;have e:st.fn f=x:=gF hx;rw[e] at h;split at h
  ·cases h
  ·rename_i hlt
   have hf:=(aK.1 hx).1;have sV:(st.oN f { x with vars:=x.vars++[⟨s,node,false⟩]}).fns[f]? = some { x with vars:=x.vars++[⟨s,node,false⟩]}:=dS hf;obtain⟨h1,h2,h3,h4,h5,a,h6,h7⟩:=ih h sV;have e2:j6 { x with vars:=x.vars++[⟨s,node,false⟩]} node l=j6 x node (s::l):=by unfold j6;simp
   refine⟨?_,h2,h3,h4,?_,a++[⟨s,f,x.vars.length⟩],by rw[h6];simp,fun n hn=>?_⟩
   ·rw[h1,e2]
    show(st.fns.set f _).set f _=_
    rw[List.set_set]
   ·simp only[bY,List.length_cons,List.length_nil] at h5 ⊢
    omega
   ·rw[e2] at h7
    rcases dd.1 hn with hn|hn
    ·exact h7 n hn
    ·rw[bK] at hn
     subst hn;refine⟨rfl,⟨s,node,false⟩,?_,rfl⟩;unfold j6;simp
theorem mX {node f:Nat} {line:Int} {l:List ByteArray} {st st':aI} (h:bu node f line l st=.ok st') (c:Cx f st):kz [node] f st st'∧st'.frames=st.frames∧st'.of=st.of:=by
 obtain⟨x,hx⟩ :∃x,st.fns[f]? = some x:=⟨_,bG c.lt⟩;unfold bu at h;obtain⟨h1,h2,h3,h4,_,a,h6,h7⟩:=wN l h (x:=x) hx;have h1:st'.fns=st.fns.set f (j6 x node l):=h1;refine⟨⟨?_,?_,fun j hj=>⟨?_,congrFun h3 j⟩,⟨a,h6,fun n hn=>?_⟩,fun g y k1 k2=>?_⟩,h4,h3⟩
 ·rw[h1];exact .set hx (Ac x node l)
 ·rw[h1];exact c.ok.set hx (Ac x node l)
 ·rw[h2];exact ab (by simpa using hj)
 ·obtain⟨e,v,k1,k2⟩:=h7 n hn
  rw[h1];unfold Hn;exact⟨by rw[e];exact .same,_,v,by rw[e,dS c.lt],k1,k2⟩
 ·have:=(aK.1 k2).1
  rw[h1,kL] at this;omega
theorem wO {i f:Nat} {h:Nd} {st st':aI} (e:bu i st.fns.length h.line h.names (jD i f h st)=.ok st') (c:Cx f st) :
  Cx st.fns.length st'∧ug st.fns st'.fns∧st'.fns.length=st.fns.length+1∧st'.of=st.of∧(∀j,j≠i→st'.uses j=st.uses j)∧st'.frames=st.frames∧(∃x,st'.fns[st.fns.length]? = some x∧x.node=i∧x.parent=(f:Int)):=by
 unfold bu at e;have hx:((jD i f h st).dt i (2,(((jD i f h st).fn st.fns.length).vars.length:Int))).fns[st.fns.length]? = some ⟨i,(f:Int),h.names.length,decide (h.num=1),[],[]⟩:=by
  show(st.fns++[_])[st.fns.length]? = _
  simp
 obtain⟨h1,h2,h3,h4,_,a,h6,h7⟩:=wN _ e hx;have hF:st'.fns=st.fns++[j6 ⟨i,(f:Int),h.names.length,decide (h.num=1),[],[]⟩ i h.names]:=by
  rw[h1];show(st.fns++[_]).set st.fns.length _=_
  rw[List.set_append_right _ _ (ah _)];simp
 have hE:ug st.fns st'.fns:=by rw[hF];exact .app _ _
 have hl:st'.fns[st.fns.length]? = some (j6 ⟨i,(f:Int),h.names.length,decide (h.num=1),[],[]⟩ i h.names):=by rw[hF];simp
 refine⟨⟨⟨by rw[hF];simp,fun g y hy=>?_⟩,by rw[hF];simp,fun n hn=>?_⟩,hE,by rw[hF];simp,h3,fun j hj=>by rw[h2];exact ab hj,h4,_,hl,rfl,rfl⟩
 ·by_cases hg:g<st.fns.length
  ·have hy':st.fns[g]? = some y:=by rw[hF,kI hg] at hy;exact hy
   obtain⟨p,q⟩:=c.ok.each _ _ hy';exact⟨p,q⟩
  ·have hlt:=(aK.1 hy).1
   rw[hF] at hlt;simp only[bY,List.length_cons,List.length_nil] at hlt;have vL:g=st.fns.length:=by omega
   subst vL;rw[hl] at hy;injection hy with hy;subst hy;exact⟨.inr ⟨f,rfl,c.lt⟩,by unfold j6;simp⟩
 ·rw[h6] at hn
  rcases dd.1 hn with hn|hn
  ·obtain⟨k1,v,k2,k3⟩:=h7 n hn
   exact⟨by rw[k1];exact .same,_,v,by rw[k1];exact hl,k2,k3⟩
  ·obtain⟨k1,k2⟩:=(c.names n hn).ext hE
   exact⟨.up hl rfl k1,k2⟩
theorem p7 (x:dr) (i:Nat):pX x (cZ x i):=by
 unfold cZ;split
 ·rename_i v hv
  refine⟨rfl,rfl,rfl,rfl,fun j w hw=>?_,fun _ _ h=>h⟩
  by_cases hj:j=i
  ·subst hj
   rw[hv] at hw;injection hw with hw;subst hw;exact⟨_,dS (aK.1 hv).1,rfl,rfl,fun _=>rfl⟩
  ·exact⟨w,by rw[fL (fun e=>hj e.symm)];exact hw,rfl,rfl,id⟩
 ·exact .refl x
theorem XJ {i f:Nat} {s:ByteArray} {line:Int} {st st':aI} (h:lL i f s line st=.ok st') (c:Cx f st) (hi:st.of i=(f:Int)):kz [i] f st st'∧st'.frames=st.frames∧st'.of=st.of∧Uok st' s i:=by
 unfold lL at h;split at h
 ·injection h with h
  subst h;exact⟨tz c _ _,rfl,rfl,f,hi,.inl (uh _ _ _)⟩
 ·rename_i n hn
  have hs:n.s=s:=iG (by simpa using List.find?_some hn)
  obtain⟨ha,y,v,hy,hv,RP⟩:=c.names n (KW hn);split at h
  ·rename_i hf
   injection h with h;subst h;refine⟨tz c _ _,rfl,rfl,f,hi,.inr (.inl ⟨n.i,uh _ _ _,y,v,?_,hv,RP.trans hs⟩)⟩;rw[←hf];exact hy
  ·rename_i hf
   split at h
   ·cases h
   ·rename_i F k hk
    injection h with h;subst h;have e0:st.fn n.fn=y:=gF hy;rw[e0] at hk;have hyl:=(aK.1 hy).1;have hE0:ug st.fns (st.fns.set n.fn (cZ y n.i)):=.set hy (p7 y n.i);obtain⟨e1,e2,e3,hl⟩:=Fb _ hk (c.ok.set hy (p7 y n.i)) (ha.ext hE0) hf (by rw[kL];exact c.lt) ⟨cZ y n.i,{ v with cap:=true},dS hyl,by
     unfold cZ;rw[hv];exact dS (aK.1 hv).1,RP,rfl⟩
    refine⟨⟨hE0.trans e1,e2,fun j hj=>⟨ab (by simpa using hj),rfl⟩,⟨[],rfl,fun n hn=>by simp at hn⟩,fun g x k1 k2=>?_⟩,rfl,rfl,f,hi,.inr (.inr ⟨k,uh _ _ _,by rw[←hs];exact hl⟩)⟩
    have:=(aK.1 k2).1;have e4:F.length=st.fns.length:=by rw[e3,kL]
    have e5:(({ st with fns:=F}:aI).dt i (3,(k:Int))).fns=F:=rfl;rw[e5] at this;omega
theorem Ls {i f:Nat} {line:Int} {st st':aI} (h:eD i f line st=.ok st') (c:Cx f st) (hi:st.of i=(f:Int)):kz [i] f st st'∧st'.frames=st.frames∧st'.of=st.of∧∀V,XI V st.fr st' i:=by
 unfold eD at h;split at h
 ·cases h
 ·rename_i x hx
  injection h with h;subst h;have h1:=List.find?_some hx;simp only[dp,iF] at h1;exact⟨tz c _ _,rfl,rfl,fun V=>⟨f,x.node,hi,uh _ _ _,.inr ⟨x.core,j3 (KW hx),h1.2,.inl ⟨h1.1,rfl⟩⟩⟩⟩
theorem RQ {i f:Nat} {s:ByteArray} {line:Int} {st st':aI} (c:Cx f st) (hi:st.of i=(f:Int)) :∀(l:List fE),dK i f s line st l=.ok st'→(∀x∈l,x∈st.frames)→kz [i] f st st'∧st'.frames=st.frames∧st'.of=st.of∧∀V,XI V st.fr st' i:=by
 intro l;induction l with
 | nil=>intro h;cases h
 | cons x l ih =>
  intro h hl;rw[dK] at h;split at h
  ·exact ih h fun y hy=>hl y (bO _ hy)
  ·rename_i hc
   rw[not_or,Decidable.not_not] at hc;split at h
   ·exact ih h fun y hy=>hl y (bO _ hy)
   ·rename_i j hj
    split at h
    ·cases h
    ·injection h with h
     subst h;obtain⟨hlt,he,_⟩:=zH.1 hj;refine⟨tz c _ _,rfl,rfl,fun V=>⟨f,_,hi,uh _ _ _,.inr ⟨x.core,j3 (hl x (bP ..)),hc.2,(.inr ⟨show x.loop=false by simpa using hc.1,?_⟩)⟩⟩⟩
     have e:x.kids.getD j (.mk 0 ⟨0,0,0,0,⟨#[]⟩,[],[]⟩ [])=x.kids[j]:=by rw[jZ,bG hlt];rfl
     rw[e];exact j3 (Lm hlt)
theorem kz.ui {A B:List Nat} {f:Nat} {a b c:aI} (h:kz A f a b) (k:kz B f b c) (e:c.of=b.of):kz (A++B) f a c :=
 ⟨h.ext.trans k.ext,k.ok,fun j hj=>by
  rw[dd,not_or] at hj;exact⟨(k.off j hj.2).1.trans (h.off j hj.1).1,(k.off j hj.2).2.trans (h.off j hj.1).2⟩,by
  obtain⟨x,e1,h1⟩:=h.names;obtain⟨y,e2,h2⟩:=k.names;refine⟨y++x,by rw[e2,e1,cP],fun n hn=>?_⟩
  rcases dd.1 hn with hn|hn
  ·exact h2 n hn
  ·exact(h1 n hn).ext k.ext,fun g x h1 h2=>by
  by_cases hg:b.fns.length≤g
  ·exact⟨iE _ (k.new g x hg h2).1,(k.new g x hg h2).2⟩
  ·obtain⟨y,hy⟩ :∃y,b.fns[g]? = some y:=⟨_,bG (by omega)⟩
   obtain⟨x',sV,l⟩:=k.ext.2 g y hy;rw[h2] at sV;injection sV with sV;subst sV;obtain⟨m1,m2⟩:=h.new g y h1 hy;rw[←l.node] at m1 m2;exact⟨eN _ m1,by rw[e,m2,l.parent]⟩⟩
theorem kz.XK {i:Nat} {L:List Nat} {f:Nat} {a b c:aI} (h:kz [i] f a b) (k:kz (i::L) f b c) (e:b.of i=(f:Int)) (e':c.of i=(f:Int)):kz (i::L) f a c :=
 ⟨h.ext.trans k.ext,k.ok,fun j hj=>by
  have hj':=hj;rw[bc,not_or] at hj';have h1:=h.off j (by simpa using hj'.1)
  exact⟨(k.off j hj).1.trans h1.1,(k.off j hj).2.trans h1.2⟩,by
  obtain⟨x,e1,h1⟩:=h.names;obtain⟨y,e2,h2⟩:=k.names;refine⟨y++x,by rw[e2,e1,cP],fun n hn=>?_⟩
  rcases dd.1 hn with hn|hn
  ·exact h2 n hn
  ·exact(h1 n hn).ext k.ext,fun g x h1 h2=>by
  by_cases hg:b.fns.length≤g
  ·exact k.new g x hg h2
  ·obtain⟨y,hy⟩ :∃y,b.fns[g]? = some y:=⟨_,bG (by omega)⟩
   obtain⟨x',sV,l⟩:=k.ext.2 g y hy;rw[h2] at sV;injection sV with sV;subst sV;obtain⟨m1,m2⟩:=h.new g y h1 hy;rw[bK] at m1;rw[l.node,m1];rw[m1,e] at m2;exact⟨bP ..,by rw[e',m2,l.parent]⟩⟩
theorem kz.rm {L:List Nat} {f:Nat} {a b:aI} {fr:List fE} (h:kz L f { a with frames:=fr} b):kz L f a b:=⟨h.ext,h.ok,h.off,h.names,h.new⟩
theorem Cx.Ad {f:Nat} {a:aI} (fr:List fE) (h:Cx f a):Cx f { a with frames:=fr}:=⟨h.ok,h.lt,h.names⟩
theorem kz.at_ {L:List Nat} {f n:Nat} {a b:aI} (h:kz L f (a.at n) b):kz L f a b:=⟨h.ext,h.ok,h.off,h.names,h.new⟩
theorem Cx.at_ {f:Nat} {a:aI} (n:Nat) (h:Cx f a):Cx f (a.at n):=⟨h.ok,h.lt,h.names⟩
theorem quiet {V:List Nat} {fr:List fE} {st:aI} {i:Nat} {h:Nd} (h7:h.kind≠7) (Fe:h.kind≠30) (Fg:h.kind≠31):sA V fr st i h:=⟨fun e=>absurd e h7,fun e=>e.elim (fun e=>absurd e Fe) fun e=>absurd e Fg⟩
theorem uj {α β:Type} {x:Rs α} {g:α→β} {y:β} (h:x.map g=.ok y) :∃a,x=.ok a∧y=g a:=by
 cases x with
 | error e=>cases h
 | ok a=>injection h with h;exact⟨a,rfl,h.symm⟩
theorem iw {α β:Type} {x:Rs α} {g:α→Rs β} {y:β} (h:x.bind g=.ok y) :∃a,x=.ok a∧g a=.ok y:=by
 cases x with
 | error e=>cases h
 | ok a=>exact⟨a,rfl,h⟩
theorem Ae {i f:Nat} {rep:Bool} {ks:List Lt} {st st':aI} (h:gY i f rep ks st=.ok st'):st'={ st with frames:=⟨f,i,0,false,rep,ks⟩::st.frames}:=by
 unfold gY at h;split at h
 ·cases h
 ·injection h with h
  exact h.symm
mutual
theorem jE :∀(t:Lt) {f:Nat} {j5 st':aI},aY t f j5=.ok st'→t.eE.Nodup→Cx f j5→t.Wf →
  kz t.eE f j5 st'∧st'.frames=j5.frames∧st'.of t.loc=(f:Int)∧Lt.All (sA t.eE j5.fr st') t
 | .mk i h ks,f,j5,st',hr,hn,c0,hw=>by
  rw[Lt.eE,kK] at hn;obtain⟨tA,zz⟩:=hn;unfold Lt.Wf at hw;obtain⟨⟨hk0,acF⟩,V9⟩:=hw;have S1:=Fc c0 i f;have c:=S1.cx c0;have hi:(j5.setOf i f).of i=(f:Int):=Lq _ _ _;have mP:(j5.setOf i f).fr=j5.fr:=rfl;have Fh:(j5.setOf i f).frames=j5.frames:=rfl;have Ro:(j5.setOf i f).names=j5.names:=rfl;have hfn:(j5.setOf i f).fns=j5.fns:=rfl;rw[Lt.eE];unfold Lt.All;show _∧_∧st'.of i=(f:Int)∧_
  unfold aY at hr;generalize j5.setOf i f=st at *;rw[←mP];have hd :∀j∈[i],j∉Lt.bh ks:=fun j hj=>by rw[bK] at hj;rw[hj];exact tA
  have up :∀{fr:List fE} {s:aI},Lt.dZ (sA (Lt.bh ks) fr s) ks→Lt.dZ (sA (i::Lt.bh ks) fr s) ks:=fun ha=>Lt.dZ.imp ks (fun j _ h q=>q.more fun t ht=>bO _ ht) ha
  by_cases h6:h.kind=6
  ·rw[ai h6] at hr
   split at hr
   ·injection hr with hr
    subst hr;have:=hk0 (.inl h6);subst this;exact⟨by simpa[Lt.bh] using S1,Fh,hi,quiet (by omega) (by omega) (by omega),by unfold Lt.dZ;trivial⟩
   ·cases hr
  rw[ab h6] at hr;by_cases h7:h.kind=7
  ·rw[ai h7] at hr
   have:=hk0 (.inr (.inl h7));subst this;obtain⟨a1,a2,a3,a4⟩:=XJ hr c hi;exact⟨(S1.ui a1 a3).more (by simp),a2.trans Fh,by rw[a3];exact hi,⟨fun _=>a4,fun e=>by omega⟩,by unfold Lt.dZ;trivial⟩
  rw[ab h7] at hr;by_cases h11:h.kind=11
  ·rw[ai h11] at hr
   obtain⟨s1,e1,hr⟩:=iw hr;obtain⟨s2,e2,rfl⟩:=uj hr;obtain⟨cx,b1,b2,b3,b4,b5,x,b6,b7,b8⟩:=wO e1 c;obtain⟨a1,_,a3,a4⟩:=gm ks e2 zz cx V9;have ra:s2.of i=(f:Int):=by rw[(a1.off i tA).2,b3];exact hi
   refine⟨⟨S1.ext.trans (b1.trans a1.ext),a1.ok,fun j hj=>?_,⟨[],Ro,fun n hn=>by simp at hn⟩,fun g y k1 k2=>?_⟩,Fh,ra,quiet (by omega) (by omega) (by omega),?_⟩
   ·rw[bc,not_or] at hj
    obtain⟨q1,q2⟩:=a1.off j hj.2;obtain⟨q3,q4⟩:=S1.off j (by simpa using hj.1)
    exact⟨by rw[←q3,←b4 j hj.1];exact q1,by rw[←q4,←b3];exact q2⟩
   ·have k2:s2.fns[g]? = some y:=k2
    by_cases hg:s1.fns.length≤g
    ·exact⟨bO _ (a1.new g y hg k2).1,(a1.new g y hg k2).2⟩
    ·have vL:g=st.fns.length:=by rw[←hfn] at k1;omega
     subst vL;obtain⟨x',m1,m2⟩:=a1.ext.2 _ _ b6;rw[k2] at m1;injection m1 with m1;subst m1;have e3:y.node=i:=m2.node.trans b7;exact⟨by rw[e3];exact bP ..,by rw[e3,m2.parent,b8];exact ra⟩
   ·have e4:s1.fr=st.fr:=by unfold aI.fr;rw[b5]
    rw[e4] at a4;exact up (Lt.dZ.imp ks (fun j _ _ q=>q.same rfl rfl rfl) a4)
  rw[ab h11] at hr;by_cases kH:h.kind=18
  ·rw[ai kH] at hr
   obtain⟨s1,e1,hr⟩:=iw hr;obtain⟨s2,e2,rfl⟩:=uj hr;have e1:=Ae e1;subst e1;obtain⟨a1,_,a3,a4⟩:=rn ks e2 zz (c.Ad _) V9;have ra:s2.of i=(f:Int):=by rw[(a1.off i tA).2];exact hi
   refine⟨S1.trans a1.rm.back hd |>.more (by simp),Fh,ra,quiet (by omega) (by omega) (by omega),up (Lt.dZ.imp ks (fun j _ _ q=>?_) a4)⟩
   have q:sA (Lt.bh ks) (_::st.fr) s2 _ _:=q;refine(q.left fun t ht=>?_).same rfl rfl rfl
   rcases ht with ⟨ht,_⟩ | ⟨_,ht⟩
   ·cases ht
   ·obtain⟨k,hk,rfl⟩:=jB.1 ht
    exact⟨pZ hk,a3 k hk⟩
  rw[ab kH] at hr;by_cases Lu:h.kind=19
  ·rw[ai Lu] at hr
   obtain⟨s1,e1,e2⟩:=iw hr;obtain⟨a1,a2,a3,a4⟩:=gm ks e1 zz c V9;have S2:=S1.trans a1 hd;obtain⟨b1,b2,b3⟩:=mX e2 (a1.cx c);refine⟨(S2.ui b1 b3).more (fun z hz=>by simp only[dd,bc,oI,oM] at hz ⊢;rcases hz with (hz|hz)|hz<;>simp[hz]),(b2.trans a2).trans Fh,by rw[b3,(a1.off i tA).2];exact hi,quiet (by omega) (by omega) (by omega),up (Lt.dZ.imp ks (fun j hj _ q=>q.later b1 ?_ ?_) a4)⟩
   ·intro e;rw[bK] at e;rw[e] at hj;exact tA hj
   ·intro t ht e;rw[bK] at e;rw[e] at ht;exact tA ht
  rw[ab Lu] at hr;by_cases Rp:h.kind=23
  ·rw[ai Rp] at hr
   obtain⟨s2,e2,rfl⟩:=uj hr;obtain⟨a1,_,a3,a4⟩:=gm ks e2 zz (c.Ad _) V9;have ra:s2.of i=(f:Int):=by rw[(a1.off i tA).2];exact hi
   refine⟨S1.trans a1.rm.back hd |>.more (by simp),Fh,ra,quiet (by omega) (by omega) (by omega),Lt.dZ.imp ks (fun j _ _ q=>?_) (up a4)⟩
   have q:sA (i::Lt.bh ks) (_::st.fr) s2 _ _:=q;refine(q.left fun t ht=>?_).same rfl rfl rfl
   rcases ht with ⟨_,ht⟩ | ⟨ht,_⟩
   ·rw[ht];exact⟨bP ..,ra⟩
   ·cases ht
  rw[ab Rp] at hr;by_cases Lv:h.kind=24
  ·rw[ai Lv] at hr
   obtain⟨s2,e2,rfl⟩:=uj hr;obtain⟨a1,a3,a4⟩:=RS ks e2 zz (c.Ad _) V9 (acF Lv);have ra:s2.of i=(f:Int):=by rw[(a1.off i tA).2];exact hi
   refine⟨S1.trans a1.rm.back hd |>.more (by simp),Fh,ra,quiet (by omega) (by omega) (by omega),Lt.dZ.imp ks (fun j _ _ q=>?_) (up a4)⟩
   have q:sA (i::Lt.bh ks) (_::st.fr) s2 _ _:=q;refine(q.left fun t ht=>?_).same rfl rfl rfl
   rcases ht with ⟨_,ht⟩ | ⟨ht,_⟩
   ·rw[ht];exact⟨bP ..,ra⟩
   ·cases ht
  rw[ab Lv] at hr;by_cases Rq:h.kind=26∨h.kind=27
  ·rw[ai Rq] at hr
   obtain⟨a1,a2,a3,a4⟩:=Af ks hr tA zz c V9 hi;exact⟨(S1.XK a1 hi a3).more (by simp),a2.trans Fh,a3,quiet (by omega) (by omega) (by omega),a4⟩
  rw[ab Rq] at hr;by_cases Rr:h.kind=28
  ·rw[ai Rr] at hr
   obtain⟨s1,e1,e2⟩:=iw hr;obtain⟨b1,b2,b3⟩:=mX e1 c;obtain⟨a1,a2,a3,a4⟩:=gm ks e2 zz (b1.cx c) V9;have S2:=S1.ui b1 b3;have e4:s1.fr=st.fr:=by unfold aI.fr;rw[b2]
   rw[e4] at a4;exact⟨(S2.trans a1 (by simpa using tA)).more (by simp),(a2.trans b2).trans Fh,by rw[(a1.off i tA).2,b3];exact hi,quiet (by omega) (by omega) (by omega),up a4⟩
  rw[ab Rr] at hr;by_cases Fe:h.kind=30
  ·rw[ai Fe] at hr
   have:=hk0 (.inr (.inr (.inl Fe)));subst this;obtain⟨a1,a2,a3,a4⟩:=Ls hr c hi;exact⟨(S1.ui a1 a3).more (by simp),a2.trans Fh,by rw[a3];exact hi,⟨fun e=>by omega,fun _=>a4 _⟩,by unfold Lt.dZ;trivial⟩
  rw[ab Fe] at hr;by_cases Fg:h.kind=31
  ·rw[ai Fg] at hr
   have:=hk0 (.inr (.inr (.inr Fg)));subst this;obtain⟨a1,a2,a3,a4⟩:=RQ c hi _ hr (fun _ h=>h)
   exact⟨(S1.ui a1 a3).more (by simp),a2.trans Fh,by rw[a3];exact hi,⟨fun e=>by omega,fun _=>a4 _⟩,by unfold Lt.dZ;trivial⟩
  rw[ab Fg] at hr;obtain⟨a1,a2,a3,a4⟩:=gm ks hr zz c V9;exact⟨S1.trans a1 hd,a2.trans Fh,by rw[(a1.off i tA).2];exact hi,quiet h7 Fe Fg,up a4⟩
theorem gm :∀(ks:List Lt) {f:Nat} {st st':aI},aE ks f st=.ok st'→(Lt.bh ks).Nodup→Cx f st→Lt.ym ks →
  kz (Lt.bh ks) f st st'∧st'.frames=st.frames∧(∀k∈ks,st'.of k.loc=(f:Int))∧Lt.dZ (sA (Lt.bh ks) st.fr st') ks
 | [],f,st,st',hr,_,c,_=>by
  unfold aE at hr;injection hr with hr;subst hr;exact⟨.refl c,rfl,fun k hk=>by simp at hk,by unfold Lt.dZ;trivial⟩
 | k::ks,f,st,st',hr,hn,c,hw=>by
  unfold aE at hr;obtain⟨s1,e1,e2⟩:=iw hr;rw[Lt.bh,oH] at hn;obtain⟨n1,n2,n3⟩:=hn;unfold Lt.ym at hw;obtain⟨a1,a2,a3,a4⟩:=jE k e1 n1 c hw.1;obtain⟨b1,b2,b3,b4⟩:=gm ks e2 n2 (a1.cx c) hw.2;have hd :∀j∈k.eE,j∉Lt.bh ks:=fun j h1 h2=>n3 j h1 j h2 rfl
  have mP:s1.fr=st.fr:=by unfold aI.fr;rw[a2]
  rw[Lt.bh];refine⟨a1.trans b1 hd,b2.trans a2,fun x hx=>?_,?_⟩
  ·rcases bc.1 hx with rfl|hx
   ·rw[(b1.off _ (hd _ (pY _))).2];exact a3
   ·exact b3 x hx
  ·unfold Lt.dZ
   rw[mP] at b4;exact⟨Lt.All.imp k (fun j hj _ q=>(q.later b1 (hd j hj) hd).more fun t ht=>eN _ ht) a4,Lt.dZ.imp ks (fun j _ _ q=>q.more fun t ht=>iE _ ht) b4⟩
theorem rn :∀(ks:List Lt) {n f:Nat} {st st':aI},cL ks n f st=.ok st'→(Lt.bh ks).Nodup→Cx f st→Lt.ym ks →
  kz (Lt.bh ks) f st st'∧st'.fr=st.fr∧(∀k∈ks,st'.of k.loc=(f:Int))∧Lt.dZ (sA (Lt.bh ks) st.fr st') ks
 | [],_,f,st,st',hr,_,c,_=>by
  unfold cL at hr;injection hr with hr;subst hr;exact⟨.refl c,rfl,fun k hk=>by simp at hk,by unfold Lt.dZ;trivial⟩
 | k::ks,n,f,st,st',hr,hn,c,hw=>by
  unfold cL at hr;obtain⟨s1,e1,e2⟩:=iw hr;rw[Lt.bh,oH] at hn;obtain⟨n1,n2,n3⟩:=hn;unfold Lt.ym at hw;obtain⟨a1,a2,a3,a4⟩:=jE k e1 n1 (c.at_ n) hw.1;have a1:=a1.at_;obtain⟨b1,b2,b3,b4⟩:=rn ks e2 n2 (a1.cx c) hw.2;have hd :∀j∈k.eE,j∉Lt.bh ks:=fun j h1 h2=>n3 j h1 j h2 rfl
  have mP:s1.fr=st.fr:=by unfold aI.fr;rw[a2];exact V8 st n
  rw[Lt.bh];refine⟨a1.trans b1 hd,b2.trans mP,fun x hx=>?_,?_⟩
  ·rcases bc.1 hx with rfl|hx
   ·rw[(b1.off _ (hd _ (pY _))).2];exact a3
   ·exact b3 x hx
  ·unfold Lt.dZ
   rw[mP] at b4;rw[V8] at a4;exact⟨Lt.All.imp k (fun j hj _ q=>(q.later b1 (hd j hj) hd).more fun t ht=>eN _ ht) a4,Lt.dZ.imp ks (fun j _ _ q=>q.more fun t ht=>iE _ ht) b4⟩
theorem RS :∀(ks:List Lt) {f:Nat} {st st':aI},mW ks f st=.ok st'→(Lt.bh ks).Nodup→Cx f st→Lt.ym ks→(∃b t,ks=[b,t]∧b.hd.kind=18) →
  kz (Lt.bh ks) f st st'∧(∀k∈ks,st'.of k.loc=(f:Int))∧Lt.dZ (sA (Lt.bh ks) st.fr st') ks
 | [],f,st,st',hr,hn,c,hw,hk=>by obtain⟨b,t,hk,_⟩:=hk;cases hk
 | [_],f,st,st',hr,hn,c,hw,hk=>by obtain⟨b,t,hk,_⟩:=hk;cases hk
 | _::_::_::_,f,st,st',hr,hn,c,hw,hk=>by obtain⟨b,t,hk,_⟩:=hk;cases hk
 | [.mk i h ks,t],f,st,st',hr,hn,c,hw,hk=>by
  obtain⟨_,_,hk,kH⟩:=hk;injection hk with hk _;subst hk;have kH:h.kind=18:=kH;unfold mW at hr;obtain⟨s1,e1,hr⟩:=iw hr;obtain⟨s2,e2,e3⟩:=iw hr;have e1:=Ae e1;subst e1;simp only[Lt.bh,Lt.eE,gh] at hn ⊢;rw[oH,kK] at hn;obtain⟨⟨tA,zz⟩,nt,n3⟩:=hn;simp only[Lt.ym,Lt.Wf] at hw;have S1:=Fc c i f;have c1:=S1.cx c;obtain⟨a1,a2,a3,a4⟩:=rn ks e2 zz (c1.Ad _) hw.1.2;have A1:=S1.trans a1.rm (fun j hj=>by rw[bK] at hj;rw[hj];exact tA)
  obtain⟨b1,b2,b3,b4⟩:=jE t e3 nt (a1.rm.cx c1) hw.2.1;have hd :∀j∈i::Lt.bh ks,j∉t.eE:=fun j h1 h2=>n3 j h1 j h2 rfl
  have hi:st'.of i=(f:Int):=by rw[(b1.off i (hd i (bP ..))).2,(a1.off i tA).2];exact Lq _ _ _
  have KF :∀k∈ks,st'.of k.loc=(f:Int):=fun k hk=>by rw[(b1.off _ (hd _ (bO _ (pZ hk)))).2];exact a3 k hk
  have Wb :∀{j:Nat} {x:Nd},sA (i::Lt.bh ks++t.eE) (⟨f,i,0,false,true,ks⟩::st.fr) st' j x→sA (i::Lt.bh ks++t.eE) st.fr st' j x:=fun q=>q.left fun z hz=>by
   rcases hz with ⟨hz,_⟩ | ⟨_,hz⟩
   ·cases hz
   ·obtain⟨k,hk,rfl⟩:=jB.1 hz
    exact⟨eN _ (bO _ (pZ hk)),KF k hk⟩
  refine⟨(A1.trans b1 hd),fun k hk=>?_,?_⟩
  ·rcases bc.1 hk with rfl|hk
   ·exact hi
   ·rw[bK] at hk
    rw[hk];exact b3
  ·unfold Lt.dZ Lt.All
   have e5:s2.fr=⟨f,i,0,false,true,ks⟩::st.fr:=a2;rw[e5] at b4;refine⟨⟨quiet (by omega) (by omega) (by omega),Lt.dZ.imp ks (fun j hj _ q=>Wb ((q.later b1 (hd j (bO _ hj)) fun z hz=>hd z (bO _ hz)).more fun z hz=>eN _ (bO _ hz))) a4⟩,?_⟩
   unfold Lt.dZ;exact⟨Lt.All.imp t (fun j _ _ q=>Wb (q.more fun z hz=>iE _ hz)) b4,by unfold Lt.dZ;trivial⟩
theorem Af {i:Nat} {line:Int} {names:List ByteArray} :∀(ks:List Lt) {f:Nat} {st st':aI},ji i line names ks f st=.ok st'→i∉Lt.bh ks→(Lt.bh ks).Nodup→Cx f st→Lt.ym ks→st.of i=(f:Int) →
  kz (i::Lt.bh ks) f st st'∧st'.frames=st.frames∧st'.of i=(f:Int)∧Lt.dZ (sA (i::Lt.bh ks) st.fr st') ks
 | [],f,st,st',hr,_,_,c,_,hi=>by
  unfold ji at hr;injection hr with hr;subst hr;exact⟨(kz.refl c).more (by simp),rfl,hi,by unfold Lt.dZ;trivial⟩
 | [b],f,st,st',hr,tA,hn,c,hw,hi=>by
  unfold ji at hr;obtain⟨s1,e1,hr⟩:=iw hr;obtain⟨s2,e2,rfl⟩:=uj hr;simp only[Lt.bh,gh] at tA hn ⊢;simp only[Lt.ym] at hw;obtain⟨b1,b2,b3⟩:=mX e1 (c.Ad _);have b1:=b1.rm;obtain⟨a1,a2,a3,a4⟩:=jE b e2 hn (b1.cx c) hw.1;have ra:s2.of i=(f:Int):=by rw[(a1.off i tA).2,b3];exact hi
  refine⟨((b1.trans a1 (by simpa using tA)).more (by simp)).back,rfl,ra,?_⟩
  unfold Lt.dZ;have e4:s1.fr=⟨f,i,0,true,false,[]⟩::st.fr:=by unfold aI.fr;rw[b2];rfl
  rw[e4] at a4;refine⟨Lt.All.imp b (fun j _ _ q=>?_) a4,by unfold Lt.dZ;trivial⟩
  refine((q.more fun z hz=>bO i hz).left fun t ht=>?_).same rfl rfl rfl
  rcases ht with ⟨_,ht⟩ | ⟨ht,_⟩
  ·rw[ht];exact⟨bP ..,ra⟩
  ·cases ht
 | a::b::l,f,st,st',hr,tA,hn,c,hw,hi=>by
  unfold ji at hr;obtain⟨s1,e1,e2⟩:=iw hr;rw[Lt.bh,oH] at hn;rw[Lt.bh,dd,not_or] at tA;obtain⟨n1,n2,n3⟩:=hn;unfold Lt.ym at hw;obtain⟨a1,a2,a3,a4⟩:=jE a e1 n1 c hw.1;have hi1:s1.of i=(f:Int):=by rw[(a1.off i tA.1).2];exact hi
  obtain⟨b1,b2,b3,b4⟩:=Af (b::l) e2 tA.2 n2 (a1.cx c) hw.2 hi1;have hd :∀j∈a.eE,j∉i::Lt.bh (b::l):=fun j h1 h2=>by
   rcases bc.1 h2 with rfl|h2
   ·exact tA.1 h1
   ·exact n3 j h1 j h2 rfl
  have mP:s1.fr=st.fr:=by unfold aI.fr;rw[a2]
  have hL :∀z,z∈a.eE++(i::Lt.bh (b::l))→z∈i::Lt.bh (a::b::l):=fun z hz=>by
   rw[Lt.bh];simp only[dd,bc] at hz ⊢;rcases hz with hz|hz|hz
   ·exact .inr (.inl hz)
   ·exact .inl hz
   ·exact .inr (.inr hz)
  refine⟨(a1.trans b1 hd).more hL,b2.trans a2,b3,?_⟩;rw[mP] at b4;unfold Lt.dZ;exact⟨Lt.All.imp a (fun j hj _ q=>(q.later b1 (hd j hj) hd).more fun t ht=>hL t (eN _ ht)) a4,Lt.dZ.imp (b::l) (fun j _ _ q=>q.more fun t ht=>hL t (iE _ ht)) b4⟩
end
mutual
def Lt.ast:Lt→Ast
 | .mk _ h ks=>.mk h (Lt.aaN ks)
def Lt.aaN:List Lt→List Ast
 | []=>[]
 | k::ks=>Lt.ast k::Lt.aaN ks
end
mutual
def Lt.size:Lt→Nat
 | .mk _ _ ks=>Lt.al ks+1
def Lt.al:List Lt→Nat
 | []=>0
 | k::ks=>Lt.size k+Lt.al ks
end
mutual
theorem Lt.wP :∀t:Lt,t.eE.length=t.size
 | .mk i h ks=>by rw[Lt.eE,Lt.size,List.length_cons,Lt.uk ks]
theorem Lt.uk :∀ks:List Lt,(Lt.bh ks).length=Lt.al ks
 | []=>by rw[Lt.bh,Lt.al];rfl
 | k::ks=>by rw[Lt.bh,Lt.al,bY,Lt.wP k,Lt.uk ks]
end
theorem pe :∀a b:List Lt,Lt.al (a++b)=Lt.al a+Lt.al b
 | [],b=>by rw[kM,show Lt.al []=0 by rw[Lt.al],gi]
 | k::a,b=>by rw[dT,Lt.al,Lt.al,pe a b,oK]
theorem Fi {T:List Nd} :∀{ks:List Lt},Lt.sW T ks→∀k∈ks,Lt.In T k
 | [],_,k,h=>by simp at h
 | x::ks,hi,k,h=>by
  unfold Lt.sW at hi;rcases bc.1 h with rfl|h
  ·exact hi.1
  ·exact Fi hi.2 k h
theorem lN {T:List Nd} {t:Lt} (h:Lt.In T t):Lt.sW T t.sub∧T[t.loc]? = some t.hd∧t.hd.kids=t.sub.map (fun k=>(k.loc:Int)):=by
 cases t with
 | mk i h' ks=>unfold Lt.In at h;exact⟨h.2.2,h.1,h.2.1⟩
theorem um (t:Lt):t.size=Lt.al t.sub+1:=by cases t with|mk i h ks=>rw[Lt.size];rfl
def dA:Nat→List Nat→Nat
 | _,[]=>0
 | h,a::l=>max (h+a) (dA (h+1) l)
def eR:List Nat→Nat
 | []=>0
 | a::l=>max a (eR l)
def mH (vals:List Nat):Nat→List (Int×Nat)→Nat
 | h,[]=>dA h vals
 | h,(k,n)::l=>if k=8 then max (h+n) (mH vals (h+2) l) else mH vals h l
def gp (h:Nd) (l:List (Int×Nat)):Nat :=
 if h.kind=30∨h.kind=31∨h.kind=32 then 0
 else if h.kind=20 then mH ((l.drop h.num.toNat).map (·.2)) 0 (l.take h.num.toNat)
 else if h.kind=10 then max 2 (max ((l.map (·.2)).headD 0) (dA 2 ((l.map (·.2)).drop 1)))
 else if h.kind=27 then max 6 (max (dA 0 (l.map (·.2)).dropLast) (3+(l.map (·.2)).getLastD 0))
 else if h.kind=26 then max (dA 0 (l.map (·.2)).dropLast) (3+(l.map (·.2)).getLastD 0)
 else if h.kind=12 then (if h.op=18∨h.op=19 then eR (l.map (·.2)) else dA 0 (l.map (·.2)))
 else if h.kind=16∨h.kind=17 then dA 1 (l.map (·.2))
 else if h.kind=8∨h.kind=9∨h.kind=19∨h.kind=29 then dA 0 (l.map (·.2))
 else if h.kind=15 then max 1 (eR (l.map (·.2)))
 else if h.kind=13∨h.kind=14∨h.kind=18∨h.kind=21∨h.kind=22∨h.kind=23∨h.kind=24∨h.kind=25 then eR (l.map (·.2))
 else 1
mutual
def aG:Lt→Nat
 | .mk _ h ks=>gp h (mw ks)
def mw:List Lt→List (Int×Nat)
 | []=>[]
 | k::ks=>(k.hd.kind,aG k)::mw ks
end
theorem wQ :∀ks:List Lt,mw ks=ks.map (fun k=>(k.hd.kind,aG k))
 | []=>by rw[mw];rfl
 | k::ks=>by rw[mw,wQ ks];rfl
theorem fQ (t:Lt):aG t=gp t.hd (t.sub.map fun k=>(k.hd.kind,aG k)):=by
 cases t with
 | mk i h ks=>rw[aG,wQ];rfl
def gR (l:List Nat):Nat:=(l.map (· + 2)).sum
theorem rp :∀(l:List Nat) (h:Nat),dA h l≤h+gR l
 | [],h=>by unfold dA;omega
 | a::l,h=>by
  have:=rp l (h+1);simp only[gR,dV,EY] at this ⊢;rw[dA];omega
theorem Fj :∀l:List Nat,eR l≤gR l
 | []=>by unfold eR;omega
 | a::l=>by
  have:=Fj l;simp only[gR,dV,EY] at this ⊢;rw[eR];omega
theorem RT (a b:List Nat):gR (a++b)=gR a+gR b:=by simp[gR]
theorem Da (vals:List Nat) :∀(l:List (Int×Nat)) (h:Nat),mH vals h l≤h+gR (l.map (·.2))+gR vals
 | [],h=>by have:=rp vals h;unfold mH;simp only[gR,EZ,List.sum_nil] at *;omega
 | (k,n)::l,h=>by
  have h1:=Da vals l h;have h2:=Da vals l (h+2);simp only[gR,dV,EY] at h1 h2 ⊢;rw[mH];split<;>omega
theorem Lw (l:List Nat):gR l.dropLast+l.getLastD 0≤gR l:=by
 rcases List.eq_nil_or_concat l with rfl | ⟨l',x,rfl⟩
 ·simp[gR]
 ·simp[gR]
theorem Lx (l:List Nat):l.headD 0≤gR l∧gR (l.drop 1)≤gR l:=by
 cases l with
 | nil=>simp[gR]
 | cons a l=>simp[gR];omega
theorem Ly (h:Nd) (l:List (Int×Nat)):gp h l≤6+gR (l.map (·.2)):=by
 have e:gR (l.map (·.2))=gR ((l.take h.num.toNat).map (·.2))+gR ((l.drop h.num.toNat).map (·.2)):=by rw[←RT,←kN,ER]
 have h1:=Da ((l.drop h.num.toNat).map (·.2)) (l.take h.num.toNat) 0
 have h2:=rp (l.map (·.2)) 0
 have h3:=rp (l.map (·.2)) 1
 have h4:=Fj (l.map (·.2))
 have h5:=Lw (l.map (·.2))
 have h6:=rp (l.map (·.2)).dropLast 0
 have h7:=Lx (l.map (·.2))
 have h8:=rp ((l.map (·.2)).drop 1) 2
 unfold gp;repeat' split
 all_goals omega
mutual
theorem p9 :∀t:Lt,aG t+2≤9*t.size
 | .mk _ h ks=>by
  have h1:=Ly h (mw ks);have h2:=Ag ks;rw[aG,Lt.size];omega
theorem Ag :∀ks:List Lt,gR ((mw ks).map (·.2))≤9*Lt.al ks
 | []=>by rw[mw,Lt.al];simp[gR]
 | k::ks=>by
  have h1:=p9 k;have h2:=Ag ks;rw[mw,Lt.al];simp only[gR,dV,EY] at h2 ⊢;omega
end
inductive lO:Lt→Lt→Prop where
 | self (t:Lt):lO t t
 | down {s k t:Lt}:k∈t.sub→lO s k→lO s t
mutual
theorem Fk :∀(t:Lt) (j:Nat),j∈t.eE→∃s,lO s t∧s.loc=j
 | .mk i h ks,j,hj=>by
  rw[Lt.eE] at hj;rcases bc.1 hj with rfl|hj
  ·exact⟨_,.self _,rfl⟩
  ·obtain⟨s,k,hk,hs,e⟩:=Ah ks j hj
   exact⟨s,.down hk hs,e⟩
theorem Ah :∀(ks:List Lt) (j:Nat),j∈Lt.bh ks→∃s k,k∈ks∧lO s k∧s.loc=j
 | [],j,hj=>by rw[Lt.bh] at hj;cases hj
 | k::ks,j,hj=>by
  rw[Lt.bh] at hj;rcases dd.1 hj with hj|hj
  ·obtain⟨s,hs,e⟩:=Fk k j hj
   exact⟨s,k,bP ..,hs,e⟩
  ·obtain⟨s,x,hx,hs,e⟩:=Ah ks j hj
   exact⟨s,x,bO _ hx,hs,e⟩
end
open Go.RowKit
theorem ay {a b c:World} (h:Below a.heap.size a b) (k:Below b.heap.size b c):Below a.heap.size a c:=h.trans (k.mono h.size)
theorem jj {B:Nat} {a b c:World} (h:Below B a b) (hB:B≤a.heap.size) (k:Below b.heap.size b c):Below B a c:=h.trans (k.mono (aL hB h.size))
theorem Lz {W:World} {B e n s:Nat} {v:Value} {xs:List Value} (h:W.ownsRow B e s v n xs) :∀k,v.ownBlock=some k→B≤k:=fun k hk=>(h.lt k hk).1
theorem aq (w:World) (o:Obj):(w.alloc o).heap.size=w.heap.size+1:=by simp
theorem dG (w:World) (cs:Array Value) (t:TypeId) (j:Nat):(w.alloc (.cells cs t)).cell? ⟨w.heap.size,j,none⟩=cs[j]?:=cell_of_row (w.alloc (.cells cs t)) w.heap.size j _ t (0,0) (heap_alloc_new w _)
def oA (W:World) (b n:Nat) (f:Nat→Value):Prop:=∀j,j<n→W.cell? ⟨b,j,none⟩=some (f j)∧W.frozen? ⟨b,j,none⟩=false
theorem oA.eq_ {W:World} {b n:Nat} {f g:Nat→Value} (h:oA W b n f) (he :∀j,j<n→f j=g j):oA W b n g:=fun j hj=>by rw[←he j hj];exact h j hj
theorem oA.XL {W:World} {b n k:Nat} {f:Nat→Value} (h:oA W b n f) (hk:k<n) (u:Value):oA (W.setCell ⟨b,k,none⟩ u) b n (fun j=>if j=k then u else f j):=by
 intro j hj;rw[World.frozen?_setCell];show _=some (if j=k then u else f j)∧_
 by_cases e:j=k
 ·subst e
  rw[ai rfl];exact⟨World.cell?_setCell_same W _ _ (h j hj).1,(h j hj).2⟩
 ·rw[ab e,World.cell?_setCell_other W _ _ _ (by intro e';injection e' with _ e2 _;omega)]
  exact h j hj
theorem oA.below {W W':World} {B b n:Nat} {f:Nat→Value} (h:oA W b n f) (hb:Below B W W') (hB:b<B):oA W' b n f:=fun j hj=>by
 rw[hb.cell (p:=⟨b,j,none⟩) hB,hb.frozen (p:=⟨b,j,none⟩) hB];exact h j hj
def cQ (W:World) (v:Value) (zs:List Int):Prop :=
 ∃A c,v=.slice A zs.length c∧zs.length≤c∧(zs=[]∨∃bk o,A=some ⟨bk,o,none⟩∧bk<W.heap.size∧∀(j:Nat) z,zs[j]? = some z→W.cell? ⟨bk,o+j,none⟩=some (.int .i64 z))
theorem cQ.below {W W':World} {v:Value} {zs:List Int} (h:cQ W v zs) (hb:Below W.heap.size W W'):cQ W' v zs:=by
 obtain⟨A,c,rfl,hc,h | ⟨bk,o,rfl,dU,hx⟩⟩:=h
 ·exact⟨A,c,rfl,hc,.inl h⟩
 ·exact⟨_,c,rfl,hc,.inr ⟨bk,o,rfl,cG dU hb.size,fun j x hj=>(hb.cell (p:=⟨bk,o+j,none⟩) dU).trans (hx j x hj)⟩⟩
def sB (W:World) (v:Value) (xs:List ByteArray):Prop :=
 ∃A c,v=.slice A xs.length c∧xs.length≤c∧(xs=[]∨∃bk o,A=some ⟨bk,o,none⟩∧bk<W.heap.size∧∀(j:Nat) x,xs[j]? = some x→W.cell? ⟨bk,o+j,none⟩=some (.string x))
theorem sB.below {W W':World} {v:Value} {xs:List ByteArray} (h:sB W v xs) (hb:Below W.heap.size W W'):sB W' v xs:=by
 obtain⟨A,c,rfl,hc,h | ⟨bk,o,rfl,dU,hx⟩⟩:=h
 ·exact⟨A,c,rfl,hc,.inl h⟩
 ·exact⟨_,c,rfl,hc,.inr ⟨bk,o,rfl,cG dU hb.size,fun j x hj=>(hb.cell (p:=⟨bk,o+j,none⟩) dU).trans (hx j x hj)⟩⟩
def da (x:Nd) (nv kv:Value):Value:=.agg #[.int .i64 x.kind,.int .i64 x.line,.int .i64 x.op,.int .i64 x.num,.string x.s,nv,kv]
structure lP (W:World) (b p:Nat) (x:Nd) (nv kv:Value):Prop where
 c0:W.cell? ⟨b,p,none⟩=some (.int .i64 x.kind)
 c1:W.cell? ⟨b,p+1,none⟩=some (.int .i64 x.line)
 c2:W.cell? ⟨b,p+2,none⟩=some (.int .i64 x.op)
 c3:W.cell? ⟨b,p+3,none⟩=some (.int .i64 x.num)
 c4:W.cell? ⟨b,p+4,none⟩=some (.string x.s)
 c5:W.cell? ⟨b,p+5,none⟩=some nv
 c6:W.cell? ⟨b,p+6,none⟩=some kv
theorem lP.below {W W':World} {B b p:Nat} {x:Nd} {nv kv:Value} (h:lP W b p x nv kv) (hb:Below B W W') (hB:b<B):lP W' b p x nv kv :=
 ⟨(hb.cell (p:=⟨b,_,none⟩) hB).trans h.c0,(hb.cell (p:=⟨b,_,none⟩) hB).trans h.c1,(hb.cell (p:=⟨b,_,none⟩) hB).trans h.c2,(hb.cell (p:=⟨b,_,none⟩) hB).trans h.c3,(hb.cell (p:=⟨b,_,none⟩) hB).trans h.c4,(hb.cell (p:=⟨b,_,none⟩) hB).trans h.c5,(hb.cell (p:=⟨b,_,none⟩) hB).trans h.c6⟩
def fw (W:World) (v:Value) (T:List Nd):Prop :=
 ∃A c,v=.slice A T.length c∧T.length≤c∧(T=[]∨∃bk o,A=some ⟨bk,o,none⟩∧bk<W.heap.size∧∀(i:Nat) x,T[i]? = some x→∃nv kv,lP W bk (o+i*7) x nv kv∧sB W nv x.names∧cQ W kv x.kids)
theorem fw.below {W W':World} {v:Value} {T:List Nd} (h:fw W v T) (hb:Below W.heap.size W W'):fw W' v T:=by
 obtain⟨A,c,rfl,hc,h | ⟨bk,o,rfl,dU,hx⟩⟩:=h
 ·exact⟨A,c,rfl,hc,.inl h⟩
 ·exact⟨_,c,rfl,hc,.inr ⟨bk,o,rfl,cG dU hb.size,fun j x hj=>by
   obtain⟨nv,kv,h1,h2,h3⟩:=hx j x hj;exact⟨nv,kv,h1.below hb dU,h2.below hb,h3.below hb⟩⟩⟩
theorem info3:(Tryz.prog.info? 3).map (fun i=>(i.zero,i.size,i.bytes))=some (some (.int .i64 0),1,8):=by kernel_rfl
theorem XM:(Tryz.prog.info? 133).map (fun i=>(i.zero,i.size,i.bytes))=some (some (.int .i64 0),1,8):=by kernel_rfl
theorem qa {w w':World} (h:w.grownBy w' none):Below w.heap.size w w':=⟨h.os,h.tape,h.output,h.size,fun i hi=>h.block i hi (by simp)⟩
theorem Hp (n:Nat) (hn:n≤1000000) (w:World) :∃W,(Instr.makeSlice 27 (.int .i64 (n:Int)) (.int .i64 (n:Int))).run Tryz.prog w=.ok (.slice (some ⟨w.heap.size,0,none⟩) n n) W∧Below w.heap.size w W∧w.heap.size<W.heap.size∧oA W w.heap.size n (fun _=>.int .i64 0):=by
 obtain⟨i0,mJ,hz0,hz1,hz2⟩:=info_parts info3;obtain⟨W,h1,h2,h3⟩:=run_make_full (P:=Tryz.prog) w w.heap.size 27 3 i0 (.int .i64 0) 1 Tryz.underlying27 mJ hz0 hz1 .i64 .i64 n (by rw[hz2];omega) (by unfold maxLen;omega) (ah _)
 refine⟨W,h1,qa h3,(h2.lt _ rfl).2,fun j hj=>⟨?_,h2.frozenAt j⟩⟩
 rw[h2.cellAt j (by omega)]
 show(madeCells #[.int .i64 0] (n*1)).toList[j]? = _
 rw[toList_madeCells_one,List.getElem?_replicate,ai (by omega)]
theorem Db (n:Nat) (hn:n≤1000000) (w:World) :∃W,(Instr.makeSlice 132 (.int .i64 (n:Int)) (.int .i64 (n:Int))).run Tryz.prog w=.ok (.slice (some ⟨w.heap.size,0,none⟩) n n) W∧Below w.heap.size w W∧w.heap.size<W.heap.size∧oA W w.heap.size n (fun _=>.int .i64 0):=by
 obtain⟨i0,mJ,hz0,hz1,hz2⟩:=info_parts XM;obtain⟨W,h1,h2,h3⟩:=run_make_full (P:=Tryz.prog) w w.heap.size 132 133 i0 (.int .i64 0) 1 Tryz.underlying132 mJ hz0 hz1 .i64 .i64 n (by rw[hz2];omega) (by unfold maxLen;omega) (ah _)
 refine⟨W,h1,qa h3,(h2.lt _ rfl).2,fun j hj=>⟨?_,h2.frozenAt j⟩⟩
 rw[h2.cellAt j (by omega)]
 show(madeCells #[.int .i64 0] (n*1)).toList[j]? = _
 rw[toList_madeCells_one,List.getElem?_replicate,ai (by omega)]
def Ai (W:World) (B:Nat) (v:Value) (zs:List Int):Prop:=W.ownsRow B 3 1 v zs.length (zs.map (Value.int .i64))
theorem Ai.form {W:World} {B:Nat} {v:Value} {zs:List Int} (h:Ai W B v zs) (h0:0<zs.length) :∃g cap,v=.slice (some ⟨g,0,none⟩) zs.length cap∧B≤g∧g<W.heap.size∧∀(j:Nat) z,zs[j]? = some z→W.cell? ⟨g,j,none⟩=some (.int .i64 z):=by
 have hh:=h;rcases h.2 with ⟨rfl,h1⟩ | ⟨g,cap,cur,rfl,hg,_,hc,_⟩
 ·omega
 ·refine⟨g,cap,rfl,hg,(World.ownsRow.lt hh g rfl).2,fun j z hj=>?_⟩
  have hj':j<zs.length:=(aK.1 hj).1;rw[World.ownsRow.cellAt hh j (by omega),eO,hj]
  rfl
theorem XN {ops:Array Oper} {rest:List Oper} {o:Oper} {a:Act} {Q:Exit→Act→World→Prop} (w:World) (z:Int) (hgd:o.guard=none) (sl y:Operand)
  (ho:o.op=.call { callee:=.builtin .append,args:=#[sl,y],argTypes:=#[27,27]}) (B:Nat) (v:Value) (zs:List Int) (hs:a.eval sl=v) (hown:Ai w B v zs) (g:Nat) (hg:g=w.heap.size) (hy:a.eval y=.slice (some ⟨g,0,none⟩) 1 1)
  (hlen:zs.length≤1000000) (hB:B≤w.heap.size)
  (h :∀v' w',Ai w' B v' (zs++[z])→Below B w w'→wpList Tryz.prog ops Q rest (a.put o.dst v') w'):wpList Tryz.prog ops Q (o::rest) a (w.alloc (.cells #[.int .i64 z] 3)):=by
 subst hg;obtain⟨i0,mJ,hz0,hz1,hz2⟩:=info_parts info3;have hc:=cell_of_row (w.alloc (.cells #[.int .i64 z] 3)) w.heap.size 0 _ 3 (0,0) (heap_alloc_new w _);refine wpList_append_own (P:=Tryz.prog) _ hgd sl y 27 ho B 3 i0 (.int .i64 0) 1 8 Tryz.underlying27 mJ hz0 hz1 hz2 rfl (by omega) v zs.length (zs.map (Value.int .i64)) hs (hown.alloc _) ⟨w.heap.size,0,none⟩ 1 1 [.int .i64 z] hy rfl
  (fun j u hj=>by
   cases j with
   | zero=>obtain rfl:=gW hj;exact hc
   | succ j=>simp at hj) (fun u hu=>by obtain rfl:=bK.1 hu;rfl) (by unfold maxLen;omega) (by omega) (by simp;omega) ?_
 intro v' w' h1 h2 _;refine h v' w' ?_ (((Below.refl _ _).alloc hB _).grown h2 (by simp;omega) (Lz hown))
 unfold Ai;rw[bY,kN];exact h1
def tB (W:World) (b o:Nat) (T:List Nd):Prop:=∀(i:Nat) x,T[i]? = some x→∃nv kv,lP W b (o+i*7) x nv kv∧sB W nv x.names∧cQ W kv x.kids
def ints (m:List Nat):List Int:=m.map fun(j:Nat)=>(j:Int)
theorem mY (m:List Nat):(ints m).length=m.length:=by simp[ints]
theorem ints_at {m:List Nat} {a i:Nat} (h:m[a]? = some i):(ints m)[a]? = some (i:Int):=by simp[ints,h]
theorem LB (m:List Nat) (j:Nat):ints (m++[j])=ints m++[(j:Int)]:=by simp[ints]
structure sX (w:World) (T:List Nd) (nv:Value) (r:Nat) (a:Nat) (d:Nat→Nat) (m:List Nat) (rq:Value) (wr:World):Prop where
 below:Below w.heap.size w wr
 size:w.heap.size+2≤wr.heap.size
 Hq:wr.cell? ⟨w.heap.size,0,none⟩=some nv
 Hr:wr.cell? ⟨w.heap.size,1,none⟩=some (.int .i64 (r:Int))
 XO:oA wr (w.heap.size+1) T.length (fun j=>.int .i64 (d j:Int))
 row:Ai wr (w.heap.size+2) rq (ints m)
theorem sX.store {w wr:World} {T:List Nd} {nv:Value} {r a:Nat} {d:Nat→Nat} {m:List Nat} {rq:Value} (h:sX w T nv r a d m rq wr) {k v:Nat} (hk:k<T.length) {x:Int} (hx:x=(v:Int)):sX w T nv r a (upd d k v) m rq (wr.setCell ⟨w.heap.size+1,k,none⟩ (.int .i64 x)):=by
 subst hx;exact
 ⟨h.below.setCell (iH _) _,by have:=h.size;simpa using this,
  (World.cell?_setCell_other wr _ _ _ (by intro e;injection e with e1 _ _;omega)).trans h.Hq,(World.cell?_setCell_other wr _ _ _ (by intro e;injection e with e1 _ _;omega)).trans h.Hr,
  (h.XO.XL hk _).eq_ (fun j _=>by
  unfold upd;by_cases e:j=k
  ·rw[ai e,ai e]
  ·rw[ab e,ab e]),ownsRow_setCell_below h.row (by show w.heap.size+1<w.heap.size+2;omega) _⟩
theorem sX.grow {w wr w':World} {T:List Nd} {nv:Value} {r a:Nat} {d:Nat→Nat} {m:List Nat} {rq v':Value} (h:sX w T nv r a d m rq wr) {k:Nat} (hr:Ai w' (w.heap.size+2) v' (ints m++[(k:Int)])) (hb:Below (w.heap.size+2) wr w'):sX w T nv r a d (m++[k]) v' w' :=
 ⟨h.below.trans (hb.mono (by omega)),aL h.size hb.size,(hb.cell (p:=⟨_,0,none⟩) (by show w.heap.size<_;omega)).trans h.Hq,(hb.cell (p:=⟨_,1,none⟩) (by show w.heap.size<_;omega)).trans h.Hr,h.XO.below hb (by omega),by rw[LB];exact hr⟩
theorem Dc (T:List Nd) (nv:Value) (r:Nat) (w w1:World) (hr:r<T.length) (hb1:Below (w.alloc (.cells #[nv,.int .i64 (r:Int)] 24)).heap.size (w.alloc (.cells #[nv,.int .i64 (r:Int)] 24)) w1) (hs1:w.heap.size+1<w1.heap.size)
  (h0:w1.cell? ⟨w.heap.size,0,none⟩=some nv) (h1:w1.cell? ⟨w.heap.size,1,none⟩=some (.int .i64 (r:Int))) (hf:oA w1 (w.alloc (.cells #[nv,.int .i64 (r:Int)] 24)).heap.size T.length (fun _=>.int .i64 0)) :
  sX w T nv r 0 (upd (fun _=>0) r 1) [r] (.slice (some ⟨w1.heap.size,0,none⟩) 1 1) ((w1.setCell ⟨w.heap.size+1,r,none⟩ (.int .i64 1)).alloc (.cells #[.int .i64 (r:Int)] 3)):=by
 rw[aq] at hf hb1;have hA:Below w.heap.size w w1:=((Below.refl _ _).alloc (ah _) _).trans (hb1.mono (by omega))
 have hB:Below (w.heap.size+2) (w1.setCell ⟨w.heap.size+1,r,none⟩ (.int .i64 1)) ((w1.setCell ⟨w.heap.size+1,r,none⟩ (.int .i64 1)).alloc (.cells #[.int .i64 (r:Int)] 3)):=(Below.refl _ _).alloc (by simp;omega) _
 have e1 :∀j:Nat,(⟨w.heap.size+1,r,none⟩:Addr)≠⟨w.heap.size,j,none⟩:=fun j e=>by injection e with e1 _ _;omega
 refine⟨(hA.setCell (iH _) _).trans (hB.mono (by omega)),by simp;omega,?_,?_,?_,?_⟩
 ·exact(hB.cell (p:=⟨_,0,none⟩) (by show w.heap.size<_;omega)).trans ((World.cell?_setCell_other w1 _ _ _ (e1 0)).trans h0)
 ·exact(hB.cell (p:=⟨_,1,none⟩) (by show w.heap.size<_;omega)).trans ((World.cell?_setCell_other w1 _ _ _ (e1 1)).trans h1)
 ·refine((hf.XL hr (.int .i64 1)).eq_ (fun j _=>?_)).below hB (by omega)
  unfold upd;by_cases e:j=r
  ·rw[ai e,ai e];rfl
  ·rw[ab e,ab e];rfl
 ·have:=World.ownsRow_lit (base:=w.heap.size+2) (e:=3) (size:=1) (w1.setCell ⟨w.heap.size+1,r,none⟩ (.int .i64 1)) #[.int .i64 (r:Int)] 1 (by simp;omega) (by decide) rfl
  simpa[Ai,ints] using this
theorem eS {α:Type} {l:List α} {k:Nat} {x:α} (h:l[k]? = some x):l.drop k=x::l.drop (k+1):=by
 obtain⟨hk,rfl⟩:=aK.1 h;exact pR hk
theorem sX.drew {w wr:World} {T:List Nd} {nv:Value} {r a:Nat} {d:Nat→Nat} {m:List Nat} {rq:Value} (h:sX w T nv r a d m rq wr):sX w T nv r a d m rq wr.drew :=
 ⟨h.below.drew,h.size,h.Hq,h.Hr,h.XO,h.row⟩
theorem Aj {T:List Nd} {a i:Nat} {d:Nat→Nat} {m:List Nat} (hi:m[a]? = some i) (ha:a≤T.length) (h:dH T.length (d i+1) (cE T i) d m=none):yk T (T.length+1-a) a d m=none:=by
 rw[show T.length+1-a=(T.length-a)+1 by omega]
 simp only[yk,hi,h]
theorem LC {T:List Nd} {a i:Nat} {d d':Nat→Nat} {m m':List Nat} (hi:m[a]? = some i) (ha:a≤T.length) (h:dH T.length (d i+1) (cE T i) d m=some (d',m')):yk T (T.length+1-a) a d m=yk T (T.length+1-(a+1)) (a+1) d' m':=by
 rw[show T.length+1-a=(T.length-a)+1 by omega,show T.length+1-(a+1)=T.length-a by omega]
 simp only[yk,hi,h]
theorem RU {T:List Nd} {a:Nat} {d:Nat→Nat} {m:List Nat} (hi:m.length≤a):yk T (T.length+1-a) a d m=some (d,m):=by
 cases e:T.length+1-a with
 | zero=>rfl
 | succ f=>simp only[yk,zM hi]
theorem rr (p:Int) (A:Option Addr) (n c:Nat) (w:World):Calls Tryz.prog 61 #[.int .i64 p,.slice A n c] w fun e w'=>e=.returned (.bool (decide (0≤p) && decide (p<(n:Int))))∧w=w':=by
 go_enter Tryz.func61,Tryz.ntmps61
 by_cases h:0≤p
 ·have g:decide (0≤p)=true:=bQ h
  go_wp2_with fail
  go_ret
  exact⟨by simp[g],rfl⟩
 ·have g:decide (0≤p)=false:=bZ h
  go_wp2_with fail
  go_ret
  exact⟨by simp,rfl⟩
theorem wR (p:Int) (A:Option Addr) (n c:Nat) (w:World) (h:0≤p∧p<(n:Int)):Calls Tryz.prog 61 #[.int .i64 p,.slice A n c] w fun e w'=>e=.returned (.bool true)∧w=w' :=
 (rr p A n c w).mono fun e w' hh=>⟨by rw[hh.1,bQ h.1,bQ h.2];rfl,hh.2⟩
theorem Al (p:Int) (A:Option Addr) (n c:Nat) (w:World) (h:¬ (0≤p∧p<(n:Int))):Calls Tryz.prog 61 #[.int .i64 p,.slice A n c] w fun e w'=>e=.returned (.bool false)∧w=w' :=
 (rr p A n c w).mono fun e w' hh=>⟨by
  rw[hh.1];by_cases h0:0≤p
  ·rw[bZ (fun h1=>h ⟨h0,h1⟩),Bool.and_false]
  ·rw[bZ h0,zU],hh.2⟩
theorem Hs (T:List Nd) (b o c r:Nat) (w:World) (hb:b<w.heap.size) (hN:T.length≤16384) (hr:r<T.length) (hn:tB w b o T) :
  Calls Tryz.prog 27 #[.agg #[.slice (some ⟨b,o,none⟩) T.length c,.int .i64 (r:Int)]] w fun e w'=>e=.returned (.int .i64 (eP T (r:Int):Int))∧Below w.heap.size w w':=by
 have HT:=aa hn;have uo:eP T (r:Int)=E9 T.length (yk T (T.length+1) 0 (upd (fun _=>0) r 1) [r]):=by
  unfold eP;rw[ai ⟨hN,by omega,by omega⟩,gV]
 rw[uo];obtain⟨B,hB⟩ :∃B,B=yk T (T.length+1) 0 (upd (fun _=>0) r 1) [r]:=⟨_,rfl⟩
 rw[←hB];have HB:=aa hB;have g1:decide ((16384:Int)<(T.length:Int))=false:=bZ (by omega)
 have g2:decide ((0:Int)≤(r:Int))=true:=bQ (by omega)
 have g3:decide ((r:Int)<(T.length:Int))=true:=bQ (by omega)
 obtain⟨w1,wS,hb1,hs1,kQ⟩:=Hp T.length (by omega) (w.alloc (.cells #[.slice (some ⟨b,o,none⟩) T.length c,.int .i64 (r:Int)] 24))
 have Wc:w1.cell? ⟨w.heap.size,0,none⟩=some (.slice (some ⟨b,o,none⟩) T.length c):=(hb1.cell (p:=⟨w.heap.size,0,none⟩) (by simp)).trans (dG w _ _ _)
 have Wd:w1.cell? ⟨w.heap.size,1,none⟩=some (.int .i64 (r:Int)):=(hb1.cell (p:=⟨w.heap.size,1,none⟩) (by simp)).trans (dG w _ _ _)
 have rk:=kQ r hr;have HF:=aa kQ;have ee:=aa hb1;rw[aq] at hs1 rk wS;clear hn uo hB hb1 kQ;go_enter Tryz.func27,Tryz.ntmps27
 go_wp2_with (go_at_call 61;refine(rr _ _ _ _ _).mono ?_;rintro e w' ⟨rfl,rfl⟩)
 clear wS;have HS:=aa (Dc T (.slice (some ⟨b,o,none⟩) T.length c) r w w1 hr ee.out hs1 Wc Wd HF.out);clear ee HF rk Wc Wd g2 g3;go_loopg [4,5] T.length (fun z rq atv wr=>∃(a:Nat) (d:Nat→Nat) (m:List Nat),atv=.int .i64 (a:Int)∧sX w T (.slice (some ⟨b,o,none⟩) T.length c) r a d m rq wr∧Half T r a d m∧T.length-a≤z∧yk T (T.length+1-a) a d m=B)
 case atStart=>exact⟨0,_,[r],rfl,HS.out,Half.start hr,by omega,HB.out.symm⟩
 case round =>
  clear HS HB;obtain⟨a,d,m,rfl,hs,hh,hz,hbf⟩:=hrel;have yn:=hh.inv.len;have hal:=hh.le;have hm1:1≤m.length:=by rw[hh.eq];simp
  obtain⟨g,cap,rfl,hg,re,sY⟩:=hs.row.form (by rw[mY];omega)
  rw[mY] at hs ⊢;have b0:=hs.Hq;have b1:=hs.Hr;have HS:=aa hs;have HH:=aa hh;have HGC:=aa sY;have HBF:=aa hbf;clear hs hh sY hbf;by_cases hlt:a<m.length
  ·obtain⟨i,hi⟩ :∃i,m[a]? = some i:=⟨m[a],bG hlt⟩
   have hiN:i<T.length:=HH.out.inv.lt i (aX hi);have hx:=bG hiN;obtain⟨nv,kv,eT,_,KF⟩:=HT.out i _ hx;have c6:=(HS.out.below.cell (p:=⟨b,o+i*7+6,none⟩) hb).trans eT.c6;have cm:=HGC.out a _ (ints_at hi);obtain⟨ks,XP⟩ :∃ks,ks=T[i].kids:=⟨_,rfl⟩;rw[←XP] at KF;have HKS:=aa XP;clear XP;obtain⟨KA,kc,rfl,wT,hka⟩:=KF;have HX:=aa hx;have XQ:a≤T.length:=by omega
   clear hx;go_wp2_with fail
   go_region
   go_wp2_with fail
   go_loopg [4,47] ks.length (fun z rq kvv wr2=>∃(k:Nat) (d2:Nat→Nat) (m2:List Nat),kvv=.int .i64 (k:Int)∧k≤ks.length∧ks.length-k≤z∧sX w T (.slice (some ⟨b,o,none⟩) T.length c) r a d2 m2 rq wr2∧Inv T.length d2 m2∧m2.length=m.length+k∧m2[a]? = some i∧d2 i=d i∧(∀j,d2 j≤a+2) ∧
    dH T.length (d i+1) (ks.drop k) d2 m2=dH T.length (d i+1) ks d m)
   case atStart=>exact⟨0,d,m,rfl,bo _,ah _,HS.out.drew,HH.out.inv,rfl,hi,rfl,fun j=>by have:=HH.out.bound j;omega,rfl⟩
   case round =>
    obtain⟨k,d2,m2,rfl,hk,hz2,hs2,LD,Fl,ra,hdi,aaO,hgo⟩:=hrel;have hml2:=LD.len;clear cm re b0 b1 HGC;obtain⟨g2,Dd,rfl,hg2,hgl2,Am⟩:=hs2.row.form (by rw[mY];omega)
    rw[mY] at hs2 ⊢;have b0:=hs2.Hq;have b1:=hs2.Hr;have tC:=aa hs2;have HI2:=aa LD;have We:=aa hgo;have HBD:=aa aaO;have cm2:=Am a _ (ints_at ra);have HI:=aa ra;have HDI:=aa hdi;have HLEN:=aa Fl;have acG:a<m2.length:=(aK.1 HI.out).1;have hkN:k≤20000:=by omega
    clear Fl hs2 LD hgo aaO Am ra hdi;by_cases wU:k<ks.length
    ·obtain⟨z,hzk⟩ :∃z,ks[k]? = some z:=⟨ks[k],bG wU⟩
     have hdr:=eS hzk;rcases hka with hnil | ⟨bk,ok,rfl,dU,hcell⟩
     ·rw[hnil] at wU;exact absurd wU (jA _)
     have ck:=(tC.out.below.cell (p:=⟨bk,ok+k,none⟩) dU).trans (hcell k z hzk);have HC:=aa hcell;have HZ:=aa hzk;have uq:=aa hdr;clear hcell hzk hdr;by_cases hp:0≤z∧z<(T.length:Int)
     ·obtain⟨q,rfl⟩ :∃q:Nat,z=(q:Int):=⟨z.toNat,by omega⟩
      have hq:q<T.length:=by omega
      obtain⟨cq,fq⟩:=tC.out.XO q hq;replace cq:wr.cell? ⟨w.heap.size+1,q,none⟩=some (.int .i64 (d2 q:Int)):=cq;by_cases h0:d2 q=0
      ·rw[h0] at cq
       have hiN2:=hiN;obtain⟨ci,fi⟩:=tC.out.XO i hiN;replace ci:wr.cell? ⟨w.heap.size+1,i,none⟩=some (.int .i64 (d i:Int)):=by rw[ci];show some (Value.int .i64 (d2 i:Int))=_;rw[HDI.out]
       have hdb:=HH.out.bound i;have yo:=tC.out.size;have acH:(ints m2).length≤1000000:=by rw[mY];omega
       have HST:=aa (tC.out.store (k:=q) (v:=d i+1) hq (x:=(d i:Int)+1) (by omega))
       go_wp2_with (first|(go_at_call 61;refine(wR _ _ _ _ _ hp).mono ?_;rintro e w' ⟨rfl,rfl⟩)|(at_builtin;refine XN _ (q:Int) rfl _ _ rfl (w.heap.size+2) _ (ints m2) rfl HST.out.row _ (by simp) rfl acH (by simpa using yo) ?_;intro v' w' Wg hb'))
       go_roundg (ks.length-(k+1))
       case measure=>omega
       case rel=>exact⟨k+1,upd d2 q (d i+1),m2++[q],by go_num,by omega,ah _,HST.out.grow Wg hb',HI2.out.add hq h0 (by omega),by rw[bY,HLEN.out];rfl,by rw[kI acG];exact HI.out,by
        rw[gj _ _ (fun e=>by subst e;have:=(HH.out.inv.iff i).2 (aX hi);have:=HDI.out;omega)];exact HDI.out,fun j=>by
        have:=HBD.out j;by_cases e:j=q
        ·subst e;rw[upd_same];omega
        ·rw[gj _ _ e];exact this,by
        rw[←We.out,uq.out,dH,ai ⟨by omega,by omega,by simpa using h0⟩,gV]⟩
      ·have hne:((d2 q:Int) == 0)=false:=aC.2 (by omega)
       go_wp2_with (go_at_call 61;refine(wR _ _ _ _ _ hp).mono ?_;rintro e w' ⟨rfl,rfl⟩)
       go_ret
       have hg0:dH T.length (d i+1) ks d m=none:=by
        rw[←We.out,uq.out,dH,ab (fun hh=>h0 (by simpa using hh.2.2))]
       exact⟨by rw[←HBF.out,Aj hi XQ (by rw[jh HX.out,←HKS.out];exact hg0)];rfl,tC.out.below⟩
     ·go_wp2_with (go_at_call 61;refine(Al _ _ _ _ _ hp).mono ?_;rintro e w' ⟨rfl,rfl⟩)
      go_ret
      have hg0:dH T.length (d i+1) ks d m=none:=by
       rw[←We.out,uq.out,dH,ab (fun hh=>hp ⟨hh.1,hh.2.1⟩)]
      exact⟨by rw[←HBF.out,Aj hi XQ (by rw[jh HX.out,←HKS.out];exact hg0)];rfl,tC.out.below⟩
    ·have ru:k=ks.length:=by omega
     have hg1:dH T.length (d i+1) ks d m=some (d2,m2):=by
      rw[←We.out,ru,wG];rfl
     have hgk:dH T.length (d i+1) (cE T i) d m=some (d2,m2):=by rw[jh HX.out,←HKS.out];exact hg1
     have HHn:=aa (HH.out.step hi hgk);have HBn:=aa ((LC hi XQ hgk).symm.trans HBF.out);clear hg1 hgk ru;go_wp2_with fail
     go_roundg (T.length-(a+1))
     case measure=>omega
     case rel=>exact⟨a+1,d2,m2,by go_num,(have h:=tC.out;⟨h.below,h.size,h.Hq,h.Hr,h.XO,h.row⟩),HHn.out,ah _,HBn.out⟩
  ·have hae:a=m.length:=by omega
   have hB:B=some (d,m):=by rw[←HBF.out,RU (by omega)]
   have ur:=aa hB;clear hB HBF;by_cases Fm:m.length<T.length
   ·have g5:decide ((m.length:Int)<(T.length:Int))=true:=bQ (by omega)
    go_wp2_with fail
    go_ret
    exact⟨by rw[ur.out];exact aw (fun x:Nat=>Ending.returned (.int .i64 (x:Int))) (ai Fm).symm,HS.out.below⟩
   ·have g5:decide ((m.length:Int)<(T.length:Int))=false:=bZ (by omega)
    obtain⟨l,hl⟩ :∃l,m[m.length-1]? = some l:=⟨m[m.length-1],bG (by omega)⟩
    have hlN:l<T.length:=HH.out.inv.lt l (aX hl);have cl:=HGC.out (m.length-1) _ (ints_at hl);have cd:wr.cell? ⟨w.heap.size+1,l,none⟩=some (.int .i64 (d l:Int)):=(HS.out.XO l hlN).1;have LF:m.getLastD 0=l:=by
     rw[List.getLastD_eq_getLast?,List.getLast?_eq_getElem?,hl];rfl
    have HL:=aa LF;clear LF hl hae;go_wp2_with fail
    go_ret
    exact⟨by rw[ur.out];exact aw (fun x:Nat=>Ending.returned (.int .i64 (x:Int))) (by rw[←HL.out];exact(ab Fm).symm),HS.out.below⟩
theorem Ht (T:List Nd) (A:Option Addr) (c:Nat) (r:Int) (w:World) (h:¬ (T.length≤16384∧0≤r∧r<(T.length:Int))) :
  Calls Tryz.prog 27 #[.agg #[.slice A T.length c,.int .i64 r]] w fun e w'=>e=.returned (.int .i64 (eP T r:Int))∧Below w.heap.size w w':=by
 have hd:eP T r=0:=by unfold eP;rw[ab h]
 rw[hd];have b1:=(Below.refl w.heap.size w).alloc (ah _) (.cells #[.slice A T.length c,.int .i64 r] 24);by_cases hN:T.length≤16384
 ·have g1:decide ((16384:Int)<(T.length:Int))=false:=bZ (by omega)
  have hp:¬ (0≤r∧r<(T.length:Int)):=fun hh=>h ⟨hN,hh⟩
  clear h hd;go_enter Tryz.func27,Tryz.ntmps27
  go_wp2_with (go_at_call 61;refine(Al _ _ _ _ _ hp).mono ?_;rintro e w' ⟨rfl,rfl⟩)
  go_ret
  exact⟨rfl,b1⟩
 ·have g1:decide ((16384:Int)<(T.length:Int))=true:=bQ (by omega)
  clear h hd;go_enter Tryz.func27,Tryz.ntmps27
  go_wp2_with fail
  go_ret
  exact⟨rfl,b1⟩
def my (W:World) (v:Value) (T:List Nd) (r:Int):Prop:=∃nv,v=.agg #[nv,.int .i64 r]∧fw W nv T
theorem my.below {W W':World} {v:Value} {T:List Nd} {r:Int} (h:my W v T r) (hb:Below W.heap.size W W'):my W' v T r:=by
 obtain⟨nv,e,hn⟩:=h;exact⟨nv,e,hn.below hb⟩
theorem Ao (v:Value) (T:List Nd) (r:Int) (w:World) (h:my w v T r):Calls Tryz.prog 27 #[v] w fun e w'=>e=.returned (.int .i64 (eP T r:Int))∧Below w.heap.size w w':=by
 obtain⟨nv,rfl,A,c,rfl,hc,hn⟩:=h;by_cases hh:T.length≤16384∧0≤r∧r<(T.length:Int)
 ·rcases hn with rfl | ⟨b,o,rfl,hb,hx⟩
  ·exfalso
   have:=hh.2.2;simp at this;omega
  ·obtain⟨q,rfl⟩ :∃q:Nat,r=(q:Int):=⟨r.toNat,by omega⟩
   exact Hs T b o c q w hb hh.1 (by omega) hx
 ·exact Ht T A c r w hh
end Go.Proofs.YtodmcdfeldkocaaGreatDoor
