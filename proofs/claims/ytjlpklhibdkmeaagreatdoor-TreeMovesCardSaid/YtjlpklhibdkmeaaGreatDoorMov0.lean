/- Nodes put elsewhere: plain mathematics, and the rows in memory. -/
import Derived.Test.YtjlpklhibdkmeaaGreatDoorBro0
import Derived.Laws.OwnMore
namespace Go.Proofs.YtjlpklhibdkmeaaGreatDoor
open Go.RowKit

/-- A list of which the first so many are turned. -/
structure Mix {α : Type} (f : α → α) (l l' : List α) (i : Nat) : Prop where
  len : l'.length = l.length
  done : ∀ j, j < i → l'[j]? = (l[j]?).map f
  todo : ∀ j, i ≤ j → l'[j]? = l[j]?
theorem Mix.start {α : Type} (f : α → α) (l : List α) : Mix f l l 0 := ⟨rfl, fun _ h => absurd h (Nat.not_lt_zero _), fun _ _ => rfl⟩
theorem Mix.step {α : Type} {f : α → α} {l l' : List α} {i : Nat} {x : α} (h : Mix f l l' i) (hx : l[i]? = some x) : Mix f l (l'.set i (f x)) (i + 1) := by
  have hi : i < l'.length := by rw [h.len]; exact (List.getElem?_eq_some_iff.1 hx).1
  refine ⟨by rw [List.length_set, h.len], fun j hj => ?_, fun j hj => ?_⟩
  · by_cases e : j = i
    · subst e
      rw [List.getElem?_set_self hi, hx]; rfl
    · rw [List.getElem?_set_ne (Ne.symm e)]
      exact h.done j (by omega)
  · rw [List.getElem?_set_ne (by omega)]
    exact h.todo j (by omega)
theorem Mix.skip {α : Type} {f : α → α} {l l' : List α} {i : Nat} {x : α} (h : Mix f l l' i) (hx : l[i]? = some x) (hf : f x = x) : Mix f l l' (i + 1) := by
  refine ⟨h.len, fun j hj => ?_, fun j hj => h.todo j (by omega)⟩
  by_cases e : j = i
  · subst e
    rw [h.todo j (Nat.le_refl _), hx, Option.map_some, hf]
  · exact h.done j (by omega)
theorem Mix.full {α : Type} {f : α → α} {l l' : List α} {i : Nat} (h : Mix f l l' i) (hi : l.length ≤ i) : l' = l.map f := by
  apply List.ext_getElem?
  intro j
  rw [List.getElem?_map]
  by_cases hj : j < i
  · exact h.done j hj
  · rw [h.todo j (by omega), List.getElem?_eq_none (by omega)]; rfl
theorem set_self {α : Type} {l : List α} {i : Nat} {x : α} (h : l[i]? = some x) : l.set i x = l := by
  apply List.ext_getElem?
  intro j
  by_cases e : j = i
  · subst e
    rw [List.getElem?_set_self (List.getElem?_eq_some_iff.1 h).1, h]
  · rw [List.getElem?_set_ne (Ne.symm e)]
/-- There is such a tree. -/
theorem moved_is (T : List Nd) (k : Nat) : ∃ U, Moved T U k := by
  refine ⟨(List.range T.length).map fun j => match T[(j + (T.length - k % T.length)) % T.length]? with | some x => mvNd T.length k x | none => ⟨0, 0, 0, 0, ⟨#[]⟩, [], []⟩, by simp, fun i hi => ?_⟩
  have hp := pi_lt k hi
  have hN : 0 < T.length := by omega
  have hb : (pi T.length k i + (T.length - k % T.length)) % T.length = i := by
    have h2 : (pi T.length k i + (T.length - k % T.length)) % T.length < T.length := Nat.mod_lt _ hN
    refine pi_inj (k := k) h2 hi ?_
    unfold pi
    have h1 := Nat.mod_lt k hN
    rw [Nat.mod_add_mod, Nat.add_assoc, Nat.mod_add_mod, show i + k + (T.length - k % T.length + k) = (i + k) + T.length * (k / T.length + 1) by
      have := Nat.div_add_mod k T.length
      rw [Nat.mul_add]; omega, Nat.add_mul_mod_self_left]
  rw [List.getElem?_map, List.getElem?_range hp, Option.map_some]
  show some (match T[(pi T.length k i + (T.length - k % T.length)) % T.length]? with | some x => mvNd T.length k x | none => _) = _
  rw [hb, List.getElem?_eq_getElem hi]
  rfl

theorem rowc_kids : ∀ (T : List Nd) (vs : List (Value × Value)) (i : Nat) (x : Nd) (ks : List Int), T[i]? = some x → rowc (T.set i { x with kids := ks }) vs = rowc T vs := by
  intro T
  induction T with
  | nil => intro vs i x ks h; simp at h
  | cons y T ih =>
    intro vs i x ks h
    cases vs with
    | nil => cases i <;> rfl
    | cons p vs =>
      cases i with
      | zero =>
        obtain rfl : y = x := by simpa using h
        rfl
      | succ i =>
        show ncell y p ++ rowc (T.set i { x with kids := ks }) vs = ncell y p ++ rowc T vs
        rw [ih vs i x ks (by simpa using h)]
theorem cop_kid {W : World} {B : Nat} {nv : Value} {T : List Nd} {vs : List (Value × Value)} (hC : Cop W B nv T vs) {i : Nat} {x : Nd} {p : Value × Value} (hx : T[i]? = some x) (hp : vs[i]? = some p) {g n c : Nat} (hpv : p.2 = .slice (some ⟨g, 0, none⟩) n c) (hn : n = x.kids.length) {j : Nat} {z : Int} (hz : x.kids[j]? = some z) :
    W.cell? ⟨g, j, none⟩ = some (.int .i64 z) ∧ W.frozen? ⟨g, j, none⟩ = false := by
  subst hn
  have h := hC.num i x p hx hp
  rw [hpv] at h
  have hj := (List.getElem?_eq_some_iff.1 hz).1
  refine ⟨?_, h.frozenAt j⟩
  rw [h.cellAt j (by omega), List.getElem?_map, hz]
  rfl
theorem Cop.setKid {W : World} {B : Nat} {nv : Value} {T : List Nd} {vs : List (Value × Value)} (hC : Cop W B nv T vs) {i : Nat} {x : Nd} {p : Value × Value} (hx : T[i]? = some x) (hp : vs[i]? = some p) {g n c : Nat} (hpv : p.2 = .slice (some ⟨g, 0, none⟩) n c) (hn : n = x.kids.length) (j : Nat) (z : Int) :
    Cop (W.setCell ⟨g, j, none⟩ (.int .i64 z)) B nv (T.set i { x with kids := x.kids.set j z }) vs := by
  subst hn
  have hnum := hC.num i x p hx hp
  obtain ⟨c', fz, hg⟩ := Lib.ownsRow_kind hnum g (by rw [hpv]; rfl)
  have hne : ∀ (g' : Nat) (cs : Array Value) (e : TypeId), e ≠ 3 → W.heap[g']? = some (.cells cs e (0, 0)) → g' ≠ g := fun g' cs e he hcs h => by
    subst h
    rw [hg] at hcs
    injection hcs with h1
    injection h1 with _ h2 _
    exact he h2.symm
  have hil := (List.getElem?_eq_some_iff.1 hx).1
  refine ⟨by rw [List.length_set]; exact hC.len, ?_, fun i' x' p' h1 h2 => ?_, fun i' x' p' h1 h2 => ?_, hC.sep⟩
  · rw [List.length_set, rowc_kids T vs i x _ hx]
    exact own_kept hC.row fun g' cs _ hcs => (Below.heap_setCell _ _ _ g' (hne g' cs 32 (by decide) hcs)).trans hcs
  · by_cases e : i' = i
    · subst e
      rw [List.getElem?_set_self hil] at h1
      obtain rfl := Option.some.inj h1
      exact own_kept (hC.str _ x p' hx h2) fun g' cs _ hcs => (Below.heap_setCell _ _ _ g' (hne g' cs 9 (by decide) hcs)).trans hcs
    · rw [List.getElem?_set_ne (Ne.symm e)] at h1
      exact own_kept (hC.str _ x' p' h1 h2) fun g' cs _ hcs => (Below.heap_setCell _ _ _ g' (hne g' cs 9 (by decide) hcs)).trans hcs
  · by_cases e : i' = i
    · subst e
      rw [List.getElem?_set_self hil] at h1
      obtain rfl := Option.some.inj h1
      obtain rfl : p' = p := Option.some.inj (h2.symm.trans hp)
      rw [hpv] at hnum ⊢
      have h := (hnum.stored j (.int .i64 z)).1
      show (W.setCell _ _).ownsRow B 3 1 _ (x.kids.set j z).length ((x.kids.set j z).map (Value.int .i64))
      rw [List.length_set, List.map_set]
      exact h
    · rw [List.getElem?_set_ne (Ne.symm e)] at h1
      refine own_kept (hC.num _ x' p' h1 h2) fun g' cs hg' hcs => (Below.heap_setCell _ _ _ g' (fun h => ?_)).trans hcs
      subst h
      rcases Nat.lt_or_ge i' i with h3 | h3
      · rcases hC.sep i' i p' p h3 h2 hp with h4 | h4
        · rw [hg'] at h4; cases h4
        · exact h4 (by rw [hg', hpv]; rfl)
      · rcases hC.sep i i' p p' (by omega) hp h2 with h4 | h4
        · rw [hpv] at h4; cases h4
        · exact h4 (by rw [hg', hpv]; rfl)

theorem opt_get {o : Option Value} (h : o.isSome = true) : o = some (o.getD undef) := by
  cases o with
  | none => cases h
  | some x => rfl
theorem drewC (n : Nat) (w : World) : Below n w w.drew := ⟨rfl, rfl, rfl, Nat.le_refl _, fun _ _ => rfl⟩
/-- make([]Node, n). -/
theorem make_nodes (n : Nat) (hn : n ≤ 100000) : ∃ M : Array Value, n * 7 ≤ M.size ∧ ∀ w : World, (Instr.makeSlice 22 (.int .i64 (n : Int)) (.int .i64 (n : Int))).run Tryz.prog w = .ok (.slice (some ⟨w.heap.size, 0, none⟩) n n) (w.alloc (.cells M 32)) := by
  obtain ⟨i0, hi0, hz0, hz1, hz2⟩ := info_parts info32
  refine ⟨madeCells (Value.cells (.agg #[.int .i64 0, .int .i64 0, .int .i64 0, .int .i64 0, .string ⟨#[]⟩, .slice none 0 0, .slice none 0 0])) (n * i0.size), by rw [size_madeCells, hz1]; exact Nat.le_refl _, fun w => ?_⟩
  have hr := run_make (P := Tryz.prog) w 22 32 i0 _ Tryz.underlying22 hi0 hz0 .i64 .i64 (n : Int) (n : Int) (by omega) (Int.le_refl _) (by rw [hz2]; omega) (by omega)
  simp only [Int.toNat_natCast] at hr
  exact hr
theorem fam_of {W : World} {g n : Nat} {M : Array Value} {t : TypeId} (h : W.heap[g]? = some (.cells M t (0, 0))) (hn : n ≤ M.size) : Fam W g n (fun j => (M[j]?).getD undef) := fun j hj => ⟨by
  rw [cell_of_row W g j M t (0, 0) h]
  exact opt_get (by rw [Array.getElem?_eq_getElem (by omega)]; rfl), Lib.frozen_of_heap h j⟩
/-- The new tree, made. -/
structure Stg (w2 W4 : World) (gU uB N : Nat) (r : Int) : Prop where
  bel : Below w2.heap.size w2 W4
  gl : w2.heap.size ≤ gU
  gs : gU < W4.heap.size
  ul : w2.heap.size ≤ uB
  us : uB < W4.heap.size
  ne : gU ≠ uB
  box : W4.heap[uB]? = some (.cells #[.slice (some ⟨gU, 0, none⟩) N N, .int .i64 r] 24 (0, 0))
  fam : ∃ f, Fam W4 gU (N * 7) f
theorem stg_a (w2 : World) (M : Array Value) (N : Nat) (r : Int) (hM : N * 7 ≤ M.size) : Stg w2 ((w2.alloc (.cells M 32)).alloc (.cells #[.slice (some ⟨w2.heap.size, 0, none⟩) N N, .int .i64 r] 24)).drew w2.heap.size (w2.heap.size + 1) N r := by
  have h1 := heap_alloc_new (w2.alloc (.cells M 32)) (.cells #[.slice (some ⟨w2.heap.size, 0, none⟩) N N, .int .i64 r] 24)
  rw [asize] at h1
  have h2 := ((b_alloc (w2.alloc (.cells M 32)) (.cells #[.slice (some ⟨w2.heap.size, 0, none⟩) N N, .int .i64 r] 24)).block w2.heap.size (by rw [asize]; exact Nat.lt_succ_self _)).trans (heap_alloc_new w2 (.cells M 32))
  exact ⟨(thenB (b_alloc w2 _) (b_alloc _ _)).trans (drewC _ _), Nat.le_refl _, by show _ < ((w2.alloc _).alloc _).heap.size; rw [asize, asize]; omega, Nat.le_succ _, by show _ < ((w2.alloc _).alloc _).heap.size; rw [asize, asize]; omega, by omega, h1, _, fam_of (W := ((w2.alloc _).alloc _).drew) h2 hM⟩
theorem stg_b (w2 : World) (M : Array Value) (N : Nat) (r : Int) (hM : N * 7 ≤ M.size) : Stg w2 ((w2.alloc (.cells #[.slice (some ⟨w2.heap.size + 1, 0, none⟩) N N, .int .i64 r] 24)).alloc (.cells M 32)).drew (w2.heap.size + 1) w2.heap.size N r := by
  have h1 := heap_alloc_new (w2.alloc (.cells #[.slice (some ⟨w2.heap.size + 1, 0, none⟩) N N, .int .i64 r] 24)) (.cells M 32)
  rw [asize] at h1
  have h2 := ((b_alloc (w2.alloc (.cells #[.slice (some ⟨w2.heap.size + 1, 0, none⟩) N N, .int .i64 r] 24)) (.cells M 32)).block w2.heap.size (by rw [asize]; exact Nat.lt_succ_self _)).trans (heap_alloc_new w2 (.cells #[.slice (some ⟨w2.heap.size + 1, 0, none⟩) N N, .int .i64 r] 24))
  exact ⟨(thenB (b_alloc w2 _) (b_alloc _ _)).trans (drewC _ _), Nat.le_succ _, by show _ < ((w2.alloc _).alloc _).heap.size; rw [asize, asize]; omega, Nat.le_refl _, by show _ < ((w2.alloc _).alloc _).heap.size; rw [asize, asize]; omega, by omega, h2, _, fam_of (W := ((w2.alloc _).alloc _).drew) h1 hM⟩
theorem Stg.root {w2 W4 : World} {gU uB N : Nat} {r : Int} (h : Stg w2 W4 gU uB N r) (r' : Int) : Stg w2 (W4.setCell ⟨uB, 1, none⟩ (.int .i64 r')) gU uB N r' := by
  obtain ⟨f, hf⟩ := h.fam
  refine ⟨h.bel.setCell h.ul _, h.gl, by simpa using h.gs, h.ul, by simpa using h.us, h.ne, ?_, f, fun j hj => ?_⟩
  · have hlt := h.us
    have hb := h.box
    simp [World.setCell, Array.getElem?_modify, hb]
  · rw [World.frozen?_setCell, World.cell?_setCell_other _ _ _ _ (by intro e; injection e with e1 _ _; exact h.ne e1.symm)]
    exact hf j hj
/-- The new row: the first so many nodes stand at their new places. -/
def Tgt (W : World) (g N k : Nat) (T : List Nd) (vs : List (Value × Value)) (i : Nat) : Prop :=
  ∃ f, Fam W g (N * 7) f ∧ ∀ (j : Nat) x p, j < i → T[j]? = some x → vs[j]? = some p → ∀ c, c < 7 → some (f (pi N k j * 7 + c)) = (ncell x p)[c]?
theorem Tgt.below {W W' : World} {B g N k i : Nat} {T : List Nd} {vs : List (Value × Value)} (h : Tgt W g N k T vs i) (hb : Below B W W') (hg : g < B) : Tgt W' g N k T vs i := by
  obtain ⟨f, h1, h2⟩ := h
  exact ⟨f, h1.below hb hg, h2⟩
/-- All stand there. -/
theorem tgt_nodes {W : World} {B g N k : Nat} {nv : Value} {T T' U : List Nd} {vs : List (Value × Value)} (hN : N = T.length) (hU : Moved T U k) (hC : Cop W B nv T' vs) (hT' : T' = T.map (mvNd N k)) (ht : Tgt W g N k T vs N) (hg : g < W.heap.size) : Nodes W (.slice (some ⟨g, 0, none⟩) N N) U := by
  subst hN hT'
  obtain ⟨f, hf, hd⟩ := ht
  refine ⟨_, T.length, by rw [hU.len], by rw [hU.len]; exact Nat.le_refl _, .inr ⟨g, 0, rfl, hg, fun q y hy => ?_⟩⟩
  have hq : q < T.length := by rw [← hU.len]; exact (List.getElem?_eq_some_iff.1 hy).1
  obtain ⟨i, hi, rfl⟩ := pi_surj (k := k) hq
  have hx := List.getElem?_eq_getElem hi
  have hlen : vs.length = T.length := by have := hC.len; simpa using this
  obtain ⟨p, hp⟩ : ∃ p, vs[i]? = some p := ⟨vs[i]'(by rw [hlen]; exact hi), List.getElem?_eq_getElem _⟩
  rw [hU.at_ i hi, hx, Option.map_some] at hy
  obtain rfl := Option.some.inj hy
  have hx' : (T.map (mvNd T.length k))[i]? = some (mvNd T.length k T[i]) := by rw [List.getElem?_map, hx]; rfl
  have hb : pi T.length k i * 7 + 7 ≤ T.length * 7 := by omega
  have hc := fun c (h : c < 7) => (hf (pi T.length k i * 7 + c) (by omega)).1.trans (hd i _ p hi hx hp c h)
  rw [Nat.zero_add]
  exact ⟨p.1, p.2, ⟨hc 0 (by decide), hc 1 (by decide), hc 2 (by decide), hc 3 (by decide), hc 4 (by decide), hc 5 (by decide), hc 6 (by decide)⟩, own_strs (hC.str i _ p hx' hp), own_nums (hC.num i _ p hx' hp)⟩
end Go.Proofs.YtjlpklhibdkmeaaGreatDoor
