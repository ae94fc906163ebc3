/- The closure of selkielaw02.NumBits, by what num.Do makes of two numbers; no condition. -/
import Derived.Test.YticlejfonicfcaaRowK
namespace Go.Proofs.Yticlejfonicfcaa
open Go.ChangeShapes Go.WideShapes Go.ChangeAt Go.RowKit Go.Sort

set_option maxHeartbeats 400000 in
theorem bdo_any (op a b : Int) (w : World) : Calls Try.prog 18 #[I op, I a, I b] w fun e w' => e = .returned (I (doV op a b)) ∧ Below w.heap.size w w' := by
  go_enter Try.func18, Try.ntmps18
  go_wp2_with fail
  refine (do_any _ _ _ _).mono ?_; rintro e w1 ⟨rfl, b1⟩
  go_wp2
  go_ret
  exact ⟨rfl, b1⟩
theorem bdo (op a b x : Int) (h : Hid (doV op a b = x)) (w : World) : Calls Try.prog 18 #[I op, I a, I b] w fun e w' => e = .returned (I x) ∧ Below w.heap.size w w' := by
  have := h.out; subst this; exact bdo_any op a b w
end Go.Proofs.Yticlejfonicfcaa
