/- selkielaw03.ConvReads answers true at any text and any base, wherever the table of powers lies as the program's text lays it. -/
import Derived.Test.YtpmhbnfiidmcmaaDoorPrt
import Derived.Test.YtpmhbnfiidmcmaaDoorRef
namespace Go.Proofs.YtpmhbnfiidmcmaaDoor
open Go.RowKit Go.Sort

set_option maxHeartbeats 1600000 in
theorem reads_any (s : ByteArray) (b : Int) (w : World) (hT : Tab w) :
    Calls Tryd.prog 3 #[.string s, .int .i64 b] w fun e w' => e = .returned (.bool true) ∧ Below w.heap.size w w' := by
  have HT := Lib.hid hT
  clear hT
  by_cases hs : s.size ≤ 10000
  · go_enter Tryd.func3, Tryd.ntmps3
    go_wp2_with fail
    refine (alive_any _ HT.out).mono ?_; rintro e w1 ⟨rfl, b1⟩
    go_wp2_with fail
    refine (cNumeral _ _ (by omega)).mono ?_; rintro e w2 ⟨rfl, rfl⟩
    go_wp2_with fail
    refine (rNumeral _ _ (by omega)).mono ?_; rintro e w2 ⟨rfl, rfl⟩
    go_wp2_with fail
    refine (cToInt _ _ (by omega)).mono ?_; rintro e w2 ⟨rfl, b2⟩
    replace b2 := thenB b1 b2; clear b1
    go_wp2_with fail
    refine (rToInt _ _ (by omega)).mono ?_; rintro e w3 ⟨rfl, rfl⟩
    go_wp2_with fail
    refine (cBase _ _ _ (by omega)).mono ?_; rintro e w3 ⟨rfl, b3⟩
    replace b3 := thenB b2 b3; clear b2
    go_wp2_with fail
    refine (rBase _ _ _ (by omega)).mono ?_; rintro e w4 ⟨rfl, rfl⟩
    go_wp2_with fail
    go_ret
    exact ⟨rfl, b3⟩
  · go_enter Tryd.func3, Tryd.ntmps3
    go_wp2_with fail
    refine (alive_any _ HT.out).mono ?_; rintro e w1 ⟨rfl, b1⟩
    go_wp2_with fail
    go_ret
    exact ⟨rfl, b1⟩
end Go.Proofs.YtpmhbnfiidmcmaaDoor
