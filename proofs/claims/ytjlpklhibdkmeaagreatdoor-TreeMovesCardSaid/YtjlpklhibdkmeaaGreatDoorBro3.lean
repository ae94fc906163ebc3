/- append(x.Kids, z) at a step of a region that draws its order. -/
import Derived.Test.YtjlpklhibdkmeaaGreatDoorBro2
import Derived.RegionTactic
namespace Go.Proofs.YtjlpklhibdkmeaaGreatDoor
open Go.RowKit

theorem b_adrew (w : World) (o : Obj) : Below w.heap.size w (w.alloc o).drew := (b_alloc w o).trans ⟨rfl, rfl, rfl, Nat.le_refl _, fun _ _ => rfl⟩
theorem step_kid {ops : Array Oper} {o : Oper} {a : Act} {K : Act → World → Prop} {Q : Exit → Act → World → Prop} {E : Prop} (w0 w1 : World) (z : Int) (hgd : o.guard = none) (sl y : Operand)
    (ho : o.op = .call { callee := .builtin .append, args := #[sl, y], argTypes := #[30, 30] }) (B : Nat) (v : Value) (zs : List Int) (hs : a.eval sl = v) (hown : NRow w0 B v zs) (hw1 : ∀ (i : Nat) ob, w0.heap[i]? = some ob → w1.heap[i]? = some ob) (g : Nat) (hg : g = w0.heap.size) (hy : a.eval y = .slice (some ⟨g, 0, none⟩) 1 1)
    (hz : w1.heap[g]? = some (.cells #[.int .i64 z] 3 (0, 0)))
    (hlen : zs.length ≤ 1000000) (hB : B ≤ w0.heap.size) (hsz : w0.heap.size ≤ w1.heap.size) (hb1 : Below w0.heap.size w0 w1)
    (h : ∀ A' c' w', NRow w' B (.slice A' (zs.length + 1) c') (zs ++ [z]) → Below B w0 w' → (∀ (i : Nat) ob, w0.heap[i]? = some ob → some i ≠ v.ownBlock → w'.heap[i]? = some ob) → K (a.put o.dst (.slice A' (zs.length + 1) c')) w') :
    if Region.wanted o (yielded ops a.tmps) = true then Oper.wp Tryz.prog o a w1 K Q else E := by
  have hw : Region.wanted o (yielded ops a.tmps) = true := by simp [Region.wanted, hgd]
  rw [if_pos hw]
  subst hg
  obtain ⟨i0, hi0, hz0, hz1, hz2⟩ := info_parts info3
  have hown1 : NRow w1 B v zs := own_kept hown fun g cs _ hcs => hw1 g _ hcs
  have hc := cell_of_row w1 w0.heap.size 0 _ 3 (0, 0) hz
  refine wp_append_own (P := Tryz.prog) _ sl y 30 ho B 3 i0 (.int .i64 0) 1 8 Tryz.underlying30 hi0 hz0 hz1 hz2 rfl (by omega) v zs.length (zs.map (Value.int .i64)) hs hown1 ⟨w0.heap.size, 0, none⟩ 1 1 [.int .i64 z] hy rfl
    (fun j u hj => by
      cases j with
      | zero => obtain rfl := Option.some.inj hj; exact hc
      | succ j => simp at hj) (fun u hu => by obtain rfl := List.mem_singleton.1 hu; rfl) (by unfold maxLen; omega) (by omega) (by omega) ?_
  intro v' w' h1 h2 _
  obtain ⟨A', c', rfl⟩ : ∃ A' c', v' = .slice A' (zs.length + 1) c' := by
    rcases h1.2 with ⟨_, h0⟩ | ⟨g, cap, _, rfl, _⟩
    · omega
    · exact ⟨_, _, rfl⟩
  refine h A' c' w' ?_ ((hb1.mono hB).grown h2 (by omega) (own_row hown1)) (fun i ob hi hne => by
    have hlt := (Array.getElem?_eq_some_iff.1 hi).1
    exact (h2.block i (by omega) hne).trans (hw1 i ob hi))
  unfold NRow
  rw [List.length_append, List.map_append]
  exact h1
theorem kid_ne {W : World} {B : Nat} {nv : Value} {T : List Nd} {vs : List (Value × Value)} (hC : Cop W B nv T vs) {i : Nat} {x : Nd} {p : Value × Value} (hx : T[i]? = some x) (hp : vs[i]? = some p) {g : Nat} {cs : Array Value} {e : TypeId} (hcs : W.heap[g]? = some (.cells cs e (0, 0))) (he : e ≠ 3) : some g ≠ p.2.ownBlock := fun h => by
  obtain ⟨c', fz, hc'⟩ := Lib.ownsRow_kind (hC.num i x p hx hp) g h.symm
  rw [hcs] at hc'
  injection hc' with h1
  injection h1 with _ h2 _
  exact he h2
theorem cop_block {W : World} {B g0 c : Nat} {T : List Nd} {vs : List (Value × Value)} (hC : Cop W B (.slice (some ⟨g0, 0, none⟩) T.length c) T vs) : ∃ cs, W.heap[g0]? = some (.cells cs 32 (0, 0)) := by
  rcases hC.row.2 with ⟨h, _⟩ | ⟨g, cap, cur, h, _, hc, _⟩
  · cases h
  · injection h with h1 _ _
    injection h1 with h2
    injection h2 with h3
    subst h3
    exact ⟨cur, hc⟩
theorem kid_far {W w6 : World} {B g0 c : Nat} {T : List Nd} {vs : List (Value × Value)} (hC : Cop W B (.slice (some ⟨g0, 0, none⟩) T.length c) T vs) {i : Nat} {x : Nd} {p : Value × Value} (hx : T[i]? = some x) (hp : vs[i]? = some p)
    (hk : ∀ (k : Nat) ob, W.heap[k]? = some ob → some k ≠ p.2.ownBlock → w6.heap[k]? = some ob) (k : Nat) : w6.cell? ⟨g0, k, none⟩ = W.cell? ⟨g0, k, none⟩ ∧ w6.frozen? ⟨g0, k, none⟩ = false := by
  obtain ⟨cs, h⟩ := cop_block hC
  have h6 := hk _ _ h (kid_ne hC hx hp h (by decide))
  exact ⟨World.cell?_of_block (h6.trans h.symm), Lib.frozen_of_heap h6 k⟩
end Go.Proofs.YtjlpklhibdkmeaaGreatDoor
