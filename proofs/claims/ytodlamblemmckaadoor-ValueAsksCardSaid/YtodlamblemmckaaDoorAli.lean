/- selkielaw01.alive answers true wherever the table of powers lies as the program's text lays it. -/
import Derived.Test.YtodlamblemmckaaDoorGre
namespace Go.Proofs.YtodlamblemmckaaDoor
open Go.RowKit Go.Sort

theorem thenB {a b c : World} (h : Below a.heap.size a b) (k : Below b.heap.size b c) : Below a.heap.size a c := h.trans (k.mono h.size)

theorem al_less (w : World) : Calls Tryd.prog 20 #[V 3 0 ⟨#[97, 98]⟩, V 3 0 ⟨#[98]⟩] w fun e w' => e = .returned (.tuple #[.bool true, .bool true]) ∧ Below w.heap.size w w' := by
  have h := less_any 3 0 3 0 ⟨#[97, 98]⟩ ⟨#[98]⟩ w
  have e1 : lesB 3 0 ⟨#[97, 98]⟩ 3 0 ⟨#[98]⟩ = true := by decide +kernel
  have e2 : lesO 3 3 = true := by decide +kernel
  rw [e1, e2] at h
  exact h
theorem al_raw1 (w : World) : Calls Tryd.prog 22 #[V 2 1 noS, V 3 0 ⟨#[49]⟩] w fun e w' => e = .returned (.bool false) ∧ Below w.heap.size w w' := by
  have h := raw_any 2 1 noS 3 0 ⟨#[49]⟩ w
  have e1 : rawB 2 1 noS 3 0 ⟨#[49]⟩ = false := by decide +kernel
  rw [e1] at h
  exact h
theorem al_raw2 (w : World) : Calls Tryd.prog 22 #[V 1 0 noS, V 1 0 noS] w fun e w' => e = .returned (.bool true) ∧ Below w.heap.size w w' := by
  have h := raw_any 1 0 noS 1 0 noS w
  have e1 : rawB 1 0 noS 1 0 noS = true := by decide +kernel
  rw [e1] at h
  exact h
theorem al_truth (w : World) : Calls Tryd.prog 12 #[V 1 1 noS] w fun e w' => e = .returned (.bool true) ∧ Below w.heap.size w w' := by
  have h := truth_any 1 1 noS w
  have e1 : truB 1 1 = true := by decide +kernel
  rw [e1] at h
  exact h
theorem al_print (w : World) (hT : Tab w) : Calls Tryd.prog 16 #[V 2 (-7) noS] w fun e w' => e = .returned (.string ⟨#[45, 55]⟩) ∧ Below w.heap.size w w' := by
  have h := print_any 2 (-7) noS w hT (by omega) (by omega)
  have e1 : prnB 2 (-7) noS = ⟨#[45, 55]⟩ := by simp [prnB, Lib.itoa, Lib.decDigits]
  rw [e1] at h
  exact h
theorem al_true (w : World) : Calls Tryd.prog 26 #[.bool true] w fun e w' => e = .returned (V 1 1 noS) ∧ Below w.heap.size w w' := ofBool_any true w
theorem al_false (w : World) : Calls Tryd.prog 26 #[.bool false] w fun e w' => e = .returned (V 1 0 noS) ∧ Below w.heap.size w w' := ofBool_any false w

set_option maxHeartbeats 800000 in
theorem alive_any (w : World) (hT : Tab w) :
    Calls Tryd.prog 8 #[] w fun e w' => e = .returned (.bool true) ∧ Below w.heap.size w w' := by
  have HT := Lib.hid hT
  clear hT
  go_enter Tryd.func8, Tryd.ntmps8
  go_wp2_with fail
  refine (ofStr_any _ _).mono ?_; rintro e w1 ⟨rfl, b1⟩
  go_wp2_with fail
  refine (ofStr_any _ _).mono ?_; rintro e w2 ⟨rfl, b2⟩
  replace b2 := thenB b1 b2; clear b1
  go_wp2_with fail
  refine (al_less _).mono ?_; rintro e w3 ⟨rfl, b3⟩
  replace b3 := thenB b2 b3; clear b2
  go_wp2_with fail
  refine (key_no 0 0 noS _ (.inl rfl)).mono ?_; rintro e w4 ⟨rfl, b4⟩
  replace b4 := thenB b3 b4; clear b3
  go_wp2_with fail
  refine (ofInt_any _ _).mono ?_; rintro e w5 ⟨rfl, b5⟩
  replace b5 := thenB (b4.alloc b4.size _) b5; clear b4
  go_wp2_with fail
  refine (ofStr_any _ _).mono ?_; rintro e w6 ⟨rfl, b6⟩
  replace b6 := thenB b5 b6; clear b5
  go_wp2_with fail
  refine (al_raw1 _).mono ?_; rintro e w7 ⟨rfl, b7⟩
  replace b7 := thenB b6 b7; clear b6
  go_wp2_with fail
  refine (ofInt_any _ _).mono ?_; rintro e w8 ⟨rfl, b8⟩
  replace b8 := thenB b7 b8; clear b7
  go_wp2_with fail
  refine (al_print _ (HT.out.below b8)).mono ?_; rintro e w9 ⟨rfl, b9⟩
  replace b9 := thenB b8 b9; clear b8
  go_wp2_with fail
  refine (al_true _).mono ?_; rintro e w10 ⟨rfl, b10⟩
  replace b10 := thenB b9 b10; clear b9
  go_wp2_with fail
  refine (al_truth _).mono ?_; rintro e w11 ⟨rfl, b11⟩
  replace b11 := thenB b10 b11; clear b10
  go_wp2_with fail
  refine (al_false _).mono ?_; rintro e w12 ⟨rfl, b12⟩
  replace b12 := thenB b11 b12; clear b11
  go_wp2_with fail
  refine (al_raw2 _).mono ?_; rintro e w13 ⟨rfl, b13⟩
  replace b13 := thenB b12 b13; clear b12
  go_wp2_with fail
  go_ret
  exact ⟨rfl, b13⟩
end Go.Proofs.YtodlamblemmckaaDoor
