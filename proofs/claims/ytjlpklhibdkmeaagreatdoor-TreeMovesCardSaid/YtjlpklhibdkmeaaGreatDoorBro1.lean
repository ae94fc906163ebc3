/- One cell of one node is changed. -/
import Derived.Test.YtjlpklhibdkmeaaGreatDoorBro0
namespace Go.Proofs.YtjlpklhibdkmeaaGreatDoor
open Go.RowKit

theorem set_at {W : World} {g0 k k' : Nat} {u v : Value} (h : W.cell? ⟨g0, k', none⟩ = some v) (hne : k ≠ k') : (W.setCell ⟨g0, k, none⟩ u).cell? ⟨g0, k', none⟩ = some v :=
  (World.cell?_setCell_other _ _ _ _ (fun e => by injection e with _ e2 _; exact hne e2)).trans h
theorem nodes_cell {W : World} {B g0 c : Nat} {T : List Nd} {vs : List (Value × Value)} (hC : Cop W B (.slice (some ⟨g0, 0, none⟩) T.length c) T vs) (hc : T.length ≤ c) {i : Nat} {x : Nd} {p : Value × Value} (hx : T[i]? = some x) (hp : vs[i]? = some p) (x' : Nd) (hnm : x'.names = x.names) (hkd : x'.kids = x.kids) (k : Nat) (u : Value) (hk : ∃ j, j < 7 ∧ k = i * 7 + j)
    (hna : NodeAt (W.setCell ⟨g0, k, none⟩ u) g0 (i * 7) x' p.1 p.2) : Nodes (W.setCell ⟨g0, k, none⟩ u) (.slice (some ⟨g0, 0, none⟩) T.length c) (T.set i x') := by
  obtain ⟨j0, hj0, rfl⟩ := hk
  refine nodes_change hC hc hx hp x' p.1 p.2 (by simp [World.setCell]) (fun k hk => World.cell?_setCell_other _ _ _ _ (fun e => by injection e with _ e2 _; exact hk j0 hj0 e2.symm)) (fun k ob h hne _ => (Below.heap_setCell _ _ _ k hne).trans h) hna ?_ ?_
  · rw [hnm]
    exact own_strs (own_kept (hC.str i x p hx hp) fun g cs _ hcs => (Below.heap_setCell _ _ _ g (cop_ne hC (by decide) hcs)).trans hcs)
  · rw [hkd]
    exact own_nums (own_kept (hC.num i x p hx hp) fun g cs _ hcs => (Below.heap_setCell _ _ _ g (cop_ne hC (by decide) hcs)).trans hcs)
/-- The Kind is changed. -/
theorem nodes_kind {W : World} {B g0 c : Nat} {T : List Nd} {vs : List (Value × Value)} (hC : Cop W B (.slice (some ⟨g0, 0, none⟩) T.length c) T vs) (hc : T.length ≤ c) {i : Nat} {x : Nd} {p : Value × Value} (hx : T[i]? = some x) (hp : vs[i]? = some p) (z : Int) :
    Nodes (W.setCell ⟨g0, i * 7, none⟩ (.int .i64 z)) (.slice (some ⟨g0, 0, none⟩) T.length c) (T.set i { x with kind := z }) := by
  have h := cop_node hC hx hp
  exact nodes_cell hC hc hx hp { x with kind := z } rfl rfl (i * 7) _ ⟨0, by decide, rfl⟩ ⟨World.cell?_setCell_same _ _ _ h.c0, set_at h.c1 (by omega), set_at h.c2 (by omega), set_at h.c3 (by omega), set_at h.c4 (by omega), set_at h.c5 (by omega), set_at h.c6 (by omega)⟩
/-- The Line is changed. -/
theorem nodes_line {W : World} {B g0 c : Nat} {T : List Nd} {vs : List (Value × Value)} (hC : Cop W B (.slice (some ⟨g0, 0, none⟩) T.length c) T vs) (hc : T.length ≤ c) {i : Nat} {x : Nd} {p : Value × Value} (hx : T[i]? = some x) (hp : vs[i]? = some p) (z : Int) :
    Nodes (W.setCell ⟨g0, i * 7 + 1, none⟩ (.int .i64 z)) (.slice (some ⟨g0, 0, none⟩) T.length c) (T.set i { x with line := z }) := by
  have h := cop_node hC hx hp
  exact nodes_cell hC hc hx hp { x with line := z } rfl rfl (i * 7 + 1) _ ⟨1, by decide, rfl⟩ ⟨set_at h.c0 (by omega), World.cell?_setCell_same _ _ _ h.c1, set_at h.c2 (by omega), set_at h.c3 (by omega), set_at h.c4 (by omega), set_at h.c5 (by omega), set_at h.c6 (by omega)⟩
end Go.Proofs.YtjlpklhibdkmeaaGreatDoor
