/- The document's Number, String and Digits of any value, told as the plain functions that the program's are told by; of Digits and String: the number is an int64. -/
import Derived.Test.YtpfdidggogddgaaDoorCRef
import Derived.Test.YtpfdidggogddgaaDoorCDig
namespace Go.Proofs.YtpfdidggogddgaaDoor
open Go.RowKit Go.Sort

set_option maxHeartbeats 400000 in
theorem rNumber (k n : Int) (s : ByteArray) (w : World) (hs : s.size ≤ 9223372036854775807) :
    Calls Tryd.prog 35 #[V k n s] w fun e w' => e = .returned (.tuple #[.int .i64 (nmN k n s), .bool (nmO k s)]) ∧ Below w.heap.size w w' := by
  rcases kinds3 k with rfl | rfl | ⟨g2, g3, h2, h3⟩
  · go_enter Tryd.func35, Tryd.ntmps35
    go_wp2
    go_ret2
    exact ⟨rfl, below1 _ _⟩
  · have HE := Lib.hid (show nmN 3 n s = toN s.data.toList by unfold nmN; rw [if_neg (by decide), if_pos rfl])
    have HO := Lib.hid (show nmO 3 s = toO s.data.toList by unfold nmO; rw [if_neg (by decide), if_pos rfl])
    go_enter Tryd.func35, Tryd.ntmps35
    go_wp2_with fail
    refine (rToInt _ _ hs).mono ?_; rintro e w1 ⟨rfl, rfl⟩
    go_wp2_with fail
    go_ret2
    exact ⟨ret_in HE.out.symm HO.out.symm, below1 _ _⟩
  · rw [show nmN k n s = 0 by simp [nmN, h2, h3], show nmO k s = false by simp [nmO, h2, h3]]
    clear h2 h3
    go_enter Tryd.func35, Tryd.ntmps35
    go_wp2
    go_ret2
    exact ⟨rfl, below1 _ _⟩

theorem rDigits (n : Int) (w : World) (h0 : -9223372036854775808 ≤ n) (h1 : n ≤ 9223372036854775807) :
    Calls Tryd.prog 38 #[.int .i64 n] w fun e w' => e = .returned (.string (digS n)) ∧ Below w.heap.size w w' := digits_any n.natAbs n w (Nat.le_refl _) h0 h1

set_option maxHeartbeats 400000 in
theorem rString (k n : Int) (s : ByteArray) (w : World) (hn0 : -9223372036854775808 ≤ n) (hn1 : n ≤ 9223372036854775807) :
    Calls Tryd.prog 37 #[V k n s] w fun e w' => e = .returned (.tuple #[.string (stS k n s), .bool (stO k)]) ∧ Below w.heap.size w w' := by
  rcases kinds3 k with rfl | rfl | ⟨g2, g3, h2, h3⟩
  · have H0 := Lib.hid hn0; have H1 := Lib.hid hn1
    clear hn0 hn1
    go_enter Tryd.func37, Tryd.ntmps37
    go_wp2_with fail
    refine (rDigits _ _ H0.out H1.out).mono ?_; rintro e w1 ⟨rfl, b1⟩
    go_wp2_with fail
    go_ret2
    exact ⟨ret_so rfl rfl, thenB (below1 _ _) b1⟩
  · clear hn0 hn1
    go_enter Tryd.func37, Tryd.ntmps37
    go_wp2
    go_ret2
    exact ⟨rfl, below1 _ _⟩
  · rw [show stS k n s = noS by simp [stS, h2, h3], show stO k = false by simp [stO, h2, h3]]
    clear h2 h3 hn0 hn1
    go_enter Tryd.func37, Tryd.ntmps37
    go_wp2
    go_ret2
    exact ⟨rfl, below1 _ _⟩
end Go.Proofs.YtpfdidggogddgaaDoor
