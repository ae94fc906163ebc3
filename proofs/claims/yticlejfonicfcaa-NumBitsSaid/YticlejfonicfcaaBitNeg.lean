/- One case of selkielaw02.NumBits (Neg), under what num.Do makes of its numbers there: it answers true and changes no memory. -/
import Derived.Test.YticlejfonicfcaaBitC
namespace Go.Proofs.Yticlejfonicfcaa
open Go.ChangeShapes Go.WideShapes Go.ChangeAt Go.RowKit Go.Sort

set_option maxHeartbeats 2000000 in
set_option maxRecDepth 100000 in
theorem bitsNeg (a b n u v s x p : Int) (w : World) (g0 : (n != -9223372036854775808) = true) (g1 : decide (64 ≤ n) = false) (g4 : decide (n ≤ -64) = false) (g2 : decide (0 ≤ n) = false) (s1 : Hid (doV 9 a n = p)) (s2 : Hid (doV 10 a (wrap64 (-n)) = p)) (z : Hid (doV 9 a 0 = a)) (x0 : Hid (doV 8 a a = 0)) (x1 : Hid (doV 6 a b = u)) (x2 : Hid (doV 7 a b = v)) (x3 : Hid (doV 1 u v = s)) (x4 : Hid (doV 1 a b = s)) (x5 : Hid (doV 8 a b = x)) (x6 : Hid (doV 8 x b = a)) (x7 : Hid (doV 2 v u = x)) :
    Calls Try.prog 6 #[I a, I b, I n] w fun e w' => e = .returned (.bool true) ∧ Below w.heap.size w w' := by
  go_enter Try.func6, Try.ntmps6
  go_wp2_with fail
  refine (alive_any _).mono ?_; rintro e w0 ⟨rfl, c0⟩
  go_wp2_with fail
  refine (bdo 9 a n p s1 _).mono ?_; rintro e w1 ⟨rfl, c1⟩
  replace c1 := thenB c0 c1; clear c0
  go_wp2_with fail
  refine (bdo 10 a (wrap64 (-n)) p s2 _).mono ?_; rintro e w0 ⟨rfl, c0⟩
  replace c0 := thenB c1 c0; clear c1
  go_wp2_with fail
  refine (bdo 9 a 0 a z _).mono ?_; rintro e w1 ⟨rfl, c1⟩
  replace c1 := thenB c0 c1; clear c0
  go_wp2_with fail
  refine (bdo 8 a a 0 x0 _).mono ?_; rintro e w0 ⟨rfl, c0⟩
  replace c0 := thenB c1 c0; clear c1
  go_wp2_with fail
  refine (bdo 6 a b u x1 _).mono ?_; rintro e w1 ⟨rfl, c1⟩
  replace c1 := thenB c0 c1; clear c0
  go_wp2_with fail
  refine (bdo 7 a b v x2 _).mono ?_; rintro e w0 ⟨rfl, c0⟩
  replace c0 := thenB c1 c0; clear c1
  go_wp2_with fail
  refine (bdo 1 u v s x3 _).mono ?_; rintro e w1 ⟨rfl, c1⟩
  replace c1 := thenB c0 c1; clear c0
  go_wp2_with fail
  refine (bdo 1 a b s x4 _).mono ?_; rintro e w0 ⟨rfl, c0⟩
  replace c0 := thenB c1 c0; clear c1
  go_wp2_with fail
  refine (bdo 8 a b x x5 _).mono ?_; rintro e w1 ⟨rfl, c1⟩
  replace c1 := thenB c0 c1; clear c0
  go_wp2_with fail
  refine (bdo 8 x b a x6 _).mono ?_; rintro e w0 ⟨rfl, c0⟩
  replace c0 := thenB c1 c0; clear c1
  go_wp2_with fail
  refine (bdo 7 a b v x2 _).mono ?_; rintro e w1 ⟨rfl, c1⟩
  replace c1 := thenB c0 c1; clear c0
  go_wp2_with fail
  refine (bdo 6 a b u x1 _).mono ?_; rintro e w0 ⟨rfl, c0⟩
  replace c0 := thenB c1 c0; clear c1
  go_wp2_with fail
  refine (bdo 2 v u x x7 _).mono ?_; rintro e w1 ⟨rfl, c1⟩
  replace c1 := thenB c0 c1; clear c0
  go_wp2_with fail
  refine (bdo 8 a b x x5 _).mono ?_; rintro e w0 ⟨rfl, c0⟩
  replace c0 := thenB c1 c0; clear c1
  go_wp2
  go_ret
  exact ⟨rfl, c0⟩
end Go.Proofs.Yticlejfonicfcaa
