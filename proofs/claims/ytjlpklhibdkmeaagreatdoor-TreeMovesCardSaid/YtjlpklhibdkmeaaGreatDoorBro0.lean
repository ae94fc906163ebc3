/- One node of a tree that is owned whole is changed. -/
import Derived.Test.YtjlpklhibdkmeaaGreatDoorLw
namespace Go.Proofs.YtjlpklhibdkmeaaGreatDoor
open Go.RowKit

theorem cop_ne {W : World} {B g0 c g : Nat} {T : List Nd} {vs : List (Value × Value)} (hC : Cop W B (.slice (some ⟨g0, 0, none⟩) T.length c) T vs) {cs : Array Value} {e : TypeId} (he : e ≠ 32) (hg : W.heap[g]? = some (.cells cs e (0, 0))) : g ≠ g0 := by
  intro h
  subst h
  obtain ⟨c', fz, hc'⟩ := Lib.ownsRow_kind hC.row g rfl
  rw [hg] at hc'
  injection hc' with h1
  injection h1 with _ h2 _
  exact he h2
theorem nodes_change {W W' : World} {B g0 c : Nat} {T : List Nd} {vs : List (Value × Value)} (hC : Cop W B (.slice (some ⟨g0, 0, none⟩) T.length c) T vs) (hc : T.length ≤ c) {i : Nat} {x : Nd} {p : Value × Value} (hx : T[i]? = some x) (hp : vs[i]? = some p) (x' : Nd) (v1 v2 : Value)
    (hsz : W.heap.size ≤ W'.heap.size) (hcell : ∀ k, (∀ j, j < 7 → k ≠ i * 7 + j) → W'.cell? ⟨g0, k, none⟩ = W.cell? ⟨g0, k, none⟩)
    (hkeep : ∀ (k : Nat) ob, W.heap[k]? = some ob → k ≠ g0 → some k ≠ p.2.ownBlock → W'.heap[k]? = some ob)
    (hna : NodeAt W' g0 (i * 7) x' v1 v2) (hs : Strs W' v1 x'.names) (hn : Nums W' v2 x'.kids) : Nodes W' (.slice (some ⟨g0, 0, none⟩) T.length c) (T.set i x') := by
  refine ⟨_, c, by rw [List.length_set], by rw [List.length_set]; exact hc, .inr ⟨g0, 0, rfl, Nat.lt_of_lt_of_le (World.ownsRow.lt hC.row g0 rfl).2 hsz, fun k y hy => ?_⟩⟩
  rw [Nat.zero_add]
  by_cases e : k = i
  · subst e
    rw [List.getElem?_set_self (List.getElem?_eq_some_iff.1 hx).1] at hy
    obtain rfl := Option.some.inj hy
    exact ⟨v1, v2, hna, hs, hn⟩
  · rw [List.getElem?_set_ne (Ne.symm e)] at hy
    have hk := (List.getElem?_eq_some_iff.1 hy).1
    obtain ⟨q, hq⟩ : ∃ q, vs[k]? = some q := ⟨vs[k]'(by rw [hC.len]; exact hk), List.getElem?_eq_getElem _⟩
    have hcl := fun j (hj : j < 7) => (hcell (k * 7 + j) (by intro j' hj'; omega)).trans ((World.ownsRow.cellAt hC.row (k * 7 + j) (by omega)).trans (rowc_at T vs k y q hy hq j hj))
    refine ⟨q.1, q.2, ⟨hcl 0 (by decide), hcl 1 (by decide), hcl 2 (by decide), hcl 3 (by decide), hcl 4 (by decide), hcl 5 (by decide), hcl 6 (by decide)⟩, own_strs (own_kept (hC.str k y q hy hq) fun g cs hg hcs => hkeep g _ hcs (cop_ne hC (by decide) hcs) fun h => ?_), own_nums (own_kept (hC.num k y q hy hq) fun g cs hg hcs => hkeep g _ hcs (cop_ne hC (by decide) hcs) fun h => ?_)⟩
    · obtain ⟨c', fz, hc'⟩ := Lib.ownsRow_kind (hC.num i x p hx hp) g h.symm
      rw [hcs] at hc'
      injection hc' with h1
      injection h1 with _ h2 _
      exact absurd h2 (by decide)
    · rcases Nat.lt_or_ge k i with h1 | h1
      · rcases hC.sep k i q p h1 hq hp with h2 | h2
        · rw [hg] at h2; cases h2
        · exact h2 (hg.trans h)
      · rcases hC.sep i k p q (by omega) hp hq with h2 | h2
        · rw [← h] at h2; cases h2
        · exact h2 (h.symm.trans hg.symm)
/-- The seven cells of a node of the row. -/
theorem cop_node {W : World} {B g0 c : Nat} {T : List Nd} {vs : List (Value × Value)} (hC : Cop W B (.slice (some ⟨g0, 0, none⟩) T.length c) T vs) {i : Nat} {x : Nd} {p : Value × Value} (hx : T[i]? = some x) (hp : vs[i]? = some p) : NodeAt W g0 (i * 7) x p.1 p.2 := by
  have hk := (List.getElem?_eq_some_iff.1 hx).1
  have hcl := fun j (hj : j < 7) => (World.ownsRow.cellAt hC.row (i * 7 + j) (by omega)).trans (rowc_at T vs i x p hx hp j hj)
  exact ⟨hcl 0 (by decide), hcl 1 (by decide), hcl 2 (by decide), hcl 3 (by decide), hcl 4 (by decide), hcl 5 (by decide), hcl 6 (by decide)⟩
theorem cop_frozen {W : World} {B g0 c : Nat} {T : List Nd} {vs : List (Value × Value)} (hC : Cop W B (.slice (some ⟨g0, 0, none⟩) T.length c) T vs) (k : Nat) : W.frozen? ⟨g0, k, none⟩ = false := by
  rcases hC.row.2 with ⟨h, _⟩ | ⟨g, cap, cur, h, _, hc, _⟩
  · cases h
  · injection h with h1 _ _
    injection h1 with h2
    injection h2 with h3
    subst h3
    exact Lib.frozen_of_heap hc k
theorem cop_some {W : World} {B c : Nat} {A : Option Addr} {T : List Nd} {vs : List (Value × Value)} (hC : Cop W B (.slice A T.length c) T vs) (h0 : 0 < T.length) : ∃ g0, A = some ⟨g0, 0, none⟩ ∧ T.length ≤ c ∧ B ≤ g0 ∧ g0 < W.heap.size := by
  rcases hC.row.2 with ⟨_, h⟩ | ⟨g, cap, cur, h, hg, hc, hcap, _⟩
  · omega
  · injection h with h1 _ h3
    subst h1 h3
    exact ⟨g, rfl, hcap, (World.ownsRow.lt hC.row g rfl).1, (World.ownsRow.lt hC.row g rfl).2⟩
theorem set_sm {T : List Nd} {i : Nat} {x x' : Nd} (h : Sm T) (hx : T[i]? = some x) (hl : -9223372036854775808 ≤ x'.line ∧ x'.line ≤ 9223372036854775807) (ho : x'.op = x.op) (hn : x'.num = x.num) (hs : x'.s = x.s) (hnm : x'.names = x.names) : Sm (T.set i x') := by
  have hm := List.mem_of_getElem? hx
  have key : ∀ y ∈ T.set i x', y ∈ T ∨ y = x' := fun y hy => List.mem_or_eq_of_mem_set hy
  refine ⟨by rw [List.length_set]; exact h.len, fun y hy => ?_, fun y hy => ?_, fun y hy => ?_, fun y hy => ?_, fun y hy => ?_⟩
  · rcases key y hy with h2 | rfl
    · exact h.l0 y h2
    · exact hl
  · rcases key y hy with h2 | rfl
    · exact h.o0 y h2
    · rw [ho]; exact h.o0 x hm
  · rcases key y hy with h2 | rfl
    · exact h.n0 y h2
    · rw [hn]; exact h.n0 x hm
  · rcases key y hy with h2 | rfl
    · exact h.s1 y h2
    · rw [hs]; exact h.s1 x hm
  · rcases key y hy with h2 | rfl
    · exact h.nl y h2
    · rw [hnm]; exact h.nl x hm
end Go.Proofs.YtjlpklhibdkmeaaGreatDoor
