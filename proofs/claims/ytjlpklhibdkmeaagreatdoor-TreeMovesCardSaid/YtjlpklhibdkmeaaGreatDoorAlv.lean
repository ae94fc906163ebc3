/- The document's example: alive. -/
import Derived.Test.YtjlpklhibdkmeaaGreatDoorPrn
namespace Go.Proofs.YtjlpklhibdkmeaaGreatDoor
open Go.RowKit

def T0 : List Nd := [⟨4, 1, 0, 1, ⟨#[]⟩, [], []⟩, ⟨29, 1, 0, 0, ⟨#[]⟩, [], [0]⟩, ⟨18, 1, 0, 0, ⟨#[]⟩, [], [1]⟩]
theorem deep0 : deepT T0 2 = 3 := by decide +kernel
theorem right0 : rightK T0 2 = true := by decide +kernel
theorem itoa1 : Lib.itoa 1 = [49] := by decide +kernel
theorem print0 : printK T0 2 = [40, 98, 108, 111, 99, 107, 64, 49, 32, 40, 114, 101, 116, 117, 114, 110, 64, 49, 32, 40, 105, 110, 116, 64, 49, 32, 49, 41, 41, 41] := by decide +kernel
theorem sm0 : Sm T0 := ⟨by decide, by decide, by decide, by decide, by decide, by decide⟩
def C0 (n : Nat) : Array Value := #[.int .i64 4, .int .i64 1, .int .i64 0, .int .i64 1, .string ⟨#[]⟩, .slice none 0 0, .slice none 0 0, .int .i64 29, .int .i64 1, .int .i64 0, .int .i64 0, .string ⟨#[]⟩, .slice none 0 0, .slice (some ⟨n, 0, none⟩) 1 1,
  .int .i64 18, .int .i64 1, .int .i64 0, .int .i64 0, .string ⟨#[]⟩, .slice none 0 0, .slice (some ⟨n + 1, 0, none⟩) 1 1]
def W0 (w : World) : World := (((w.alloc (.cells #[.int .i64 0] 3)).alloc (.cells #[.int .i64 1] 3)).alloc (.cells (C0 w.heap.size) 32)).alloc (.cells #[.slice (some ⟨w.heap.size + 1 + 1, 0, none⟩) 3 3, .int .i64 2] 24)
theorem below0 (w : World) : Below w.heap.size w (W0 w) := by
  unfold W0
  refine thenB (thenB (thenB (b_alloc w _) (b_alloc _ _)) (b_alloc _ _)) (b_alloc _ _)
theorem nums_lit (W : World) (g : Nat) (z : Int) (hg : g < W.heap.size) (hc : W.cell? ⟨g, 0, none⟩ = some (.int .i64 z)) : Nums W (.slice (some ⟨g, 0, none⟩) 1 1) [z] :=
  ⟨_, 1, rfl, Nat.le_refl _, .inr ⟨g, 0, rfl, hg, fun j q hj => by
    cases j with
    | zero => obtain rfl := Option.some.inj hj; exact hc
    | succ j => simp at hj⟩⟩
theorem nums_none (W : World) : Nums W (.slice none 0 0) [] := ⟨none, 0, rfl, Nat.le_refl _, .inl rfl⟩
theorem strs_none (W : World) : Strs W (.slice none 0 0) [] := ⟨none, 0, rfl, Nat.le_refl _, .inl rfl⟩
theorem tree0 (w : World) : TreeV (W0 w) (.agg #[.slice (some ⟨w.heap.size + 1 + 1, 0, none⟩) 3 3, .int .i64 2]) T0 2 := by
  obtain ⟨w1, h1⟩ : ∃ w1, w1 = w.alloc (.cells #[.int .i64 0] 3) := ⟨_, rfl⟩
  obtain ⟨w2, h2⟩ : ∃ w2, w2 = w1.alloc (.cells #[.int .i64 1] 3) := ⟨_, rfl⟩
  obtain ⟨w3, h3⟩ : ∃ w3, w3 = w2.alloc (.cells (C0 w.heap.size) 32) := ⟨_, rfl⟩
  obtain ⟨w4, h4⟩ : ∃ w4, w4 = w3.alloc (.cells #[.slice (some ⟨w.heap.size + 1 + 1, 0, none⟩) 3 3, .int .i64 2] 24) := ⟨_, rfl⟩
  have hW : W0 w = w4 := by rw [h4, h3, h2, h1]; rfl
  rw [hW]
  have s1 : w1.heap.size = w.heap.size + 1 := by rw [h1]; exact asize _ _
  have s2 : w2.heap.size = w.heap.size + 1 + 1 := by rw [h2, asize, s1]
  have s3 : w3.heap.size = w.heap.size + 1 + 1 + 1 := by rw [h3, asize, s2]
  have s4 : w4.heap.size = w.heap.size + 1 + 1 + 1 + 1 := by rw [h4, asize, s3]
  have b2 : Below w1.heap.size w1 w2 := by rw [h2]; exact b_alloc _ _
  have b3 : Below w2.heap.size w2 w3 := by rw [h3]; exact b_alloc _ _
  have b4 : Below w3.heap.size w3 w4 := by rw [h4]; exact b_alloc _ _
  have c1 : w1.cell? ⟨w.heap.size, 0, none⟩ = some (.int .i64 0) := by rw [h1]; exact acell w _ _ _
  have c2 : w2.cell? ⟨w.heap.size + 1, 0, none⟩ = some (.int .i64 1) := by rw [h2, ← s1]; exact acell w1 _ _ _
  have c3 : ∀ j : Nat, w4.cell? ⟨w.heap.size + 1 + 1, j, none⟩ = (C0 w.heap.size)[j]? := fun j => by
    rw [b4.cell (p := ⟨w.heap.size + 1 + 1, j, none⟩) (by show w.heap.size + 1 + 1 < w3.heap.size; omega), h3, ← s2]
    exact acell w2 _ _ _
  have d1 : w4.cell? ⟨w.heap.size, 0, none⟩ = some (.int .i64 0) := by
    rw [b4.cell (p := ⟨w.heap.size, 0, none⟩) (by show w.heap.size < w3.heap.size; omega), b3.cell (p := ⟨w.heap.size, 0, none⟩) (by show w.heap.size < w2.heap.size; omega), b2.cell (p := ⟨w.heap.size, 0, none⟩) (by show w.heap.size < w1.heap.size; omega)]
    exact c1
  have d2 : w4.cell? ⟨w.heap.size + 1, 0, none⟩ = some (.int .i64 1) := by
    rw [b4.cell (p := ⟨w.heap.size + 1, 0, none⟩) (by show w.heap.size + 1 < w3.heap.size; omega), b3.cell (p := ⟨w.heap.size + 1, 0, none⟩) (by show w.heap.size + 1 < w2.heap.size; omega)]
    exact c2
  refine ⟨_, rfl, _, 3, rfl, Nat.le_refl _, .inr ⟨w.heap.size + 1 + 1, 0, rfl, by omega, fun i x hx => ?_⟩⟩
  match i, hx with
  | 0, hx =>
    obtain rfl := Option.some.inj hx
    exact ⟨_, _, ⟨c3 0, c3 1, c3 2, c3 3, c3 4, c3 5, c3 6⟩, strs_none _, nums_none _⟩
  | 1, hx =>
    obtain rfl := Option.some.inj hx
    exact ⟨_, _, ⟨c3 7, c3 8, c3 9, c3 10, c3 11, c3 12, c3 13⟩, strs_none _, nums_lit _ _ _ (by omega) d1⟩
  | 2, hx =>
    obtain rfl := Option.some.inj hx
    exact ⟨_, _, ⟨c3 14, c3 15, c3 16, c3 17, c3 18, c3 19, c3 20⟩, strs_none _, nums_lit _ _ _ (by omega) d2⟩
  | j + 3, hx => simp [T0] at hx
set_option maxRecDepth 20000 in
theorem alive_any (w : World) (hT : Tab w) : Calls Tryz.prog 6 #[] w fun e w' => e = .returned (.bool true) ∧ Below w.heap.size w w' := by
  have HT0 := Lib.hid (tree0 w)
  have HB0 := Lib.hid (below0 w)
  have HTW := Lib.hid (hT.below (below0 w))
  obtain ⟨v, hv⟩ : ∃ v, v = W0 w := ⟨_, rfl⟩
  have hbox : ∀ W, Below v.heap.size v W → W.cell? ⟨w.heap.size + 1 + 1 + 1, 0, none⟩ = some (.slice (some ⟨w.heap.size + 1 + 1, 0, none⟩) 3 3) ∧ W.cell? ⟨w.heap.size + 1 + 1 + 1, 1, none⟩ = some (.int .i64 2) := fun W hW => by
    have hs : (((w.alloc (.cells #[.int .i64 0] 3)).alloc (.cells #[.int .i64 1] 3)).alloc (.cells (C0 w.heap.size) 32)).heap.size = w.heap.size + 1 + 1 + 1 := by rw [asize, asize, asize]
    have hsv : v.heap.size = w.heap.size + 1 + 1 + 1 + 1 := by rw [hv]; unfold W0; rw [asize, hs]
    have hc : ∀ j : Nat, v.cell? ⟨w.heap.size + 1 + 1 + 1, j, none⟩ = (#[.slice (some ⟨w.heap.size + 1 + 1, 0, none⟩) 3 3, .int .i64 2] : Array Value)[j]? := fun j => by
      rw [hv, ← hs]; exact acell _ _ _ _
    exact ⟨(hW.cell (p := ⟨_, 0, none⟩) (by show w.heap.size + 1 + 1 + 1 < v.heap.size; omega)).trans (hc 0), (hW.cell (p := ⟨_, 1, none⟩) (by show w.heap.size + 1 + 1 + 1 < v.heap.size; omega)).trans (hc 1)⟩
  have HBX := Lib.hid hbox
  rw [← hv] at HT0 HB0 HTW
  have hvw : v = (((w.alloc (.cells #[.int .i64 0] 3)).alloc (.cells #[.int .i64 1] 3)).alloc (.cells #[.int .i64 4, .int .i64 1, .int .i64 0, .int .i64 1, .string ⟨#[]⟩, .slice none 0 0, .slice none 0 0, .int .i64 29, .int .i64 1, .int .i64 0, .int .i64 0, .string ⟨#[]⟩, .slice none 0 0, .slice (some ⟨w.heap.size, 0, none⟩) 1 1,
    .int .i64 18, .int .i64 1, .int .i64 0, .int .i64 0, .string ⟨#[]⟩, .slice none 0 0, .slice (some ⟨w.heap.size + 1, 0, none⟩) 1 1] 32)).alloc (.cells #[.slice (some ⟨w.heap.size + 1 + 1, 0, none⟩) 3 3, .int .i64 2] 24) := hv
  have HV := Lib.hid hvw
  clear hT hbox hv hvw
  go_enter Tryz.func6, Tryz.ntmps6
  go_wp2_with fail
  rw [← HV.out]
  refine (right_any _ T0 2 v HT0.out sm0.szd).mono ?_; rintro e w1 ⟨rfl, b1⟩
  rw [right0]
  have B1 := Lib.hid b1
  obtain ⟨x0, x1⟩ := HBX.out _ b1
  clear b1
  go_wp2_with fail
  refine (deep_any _ T0 2 w1 (HT0.out.below B1.out)).mono ?_; rintro e w2 ⟨rfl, b2⟩
  rw [deep0]
  have B2 := Lib.hid (thenB B1.out b2)
  obtain ⟨x0, x1⟩ := HBX.out _ B2.out
  clear b2
  go_wp2_with fail
  refine (print_any _ T0 2 w2 (HT0.out.below B2.out) sm0 (HTW.out.below B2.out)).mono ?_; rintro e w3 ⟨rfl, b3⟩
  rw [print0]
  have B3 := Lib.hid (thenB HB0.out (thenB B2.out b3))
  clear b3
  go_wp2_with fail
  go_ret
  exact ⟨rfl, B3.out⟩
end Go.Proofs.YtjlpklhibdkmeaaGreatDoor
