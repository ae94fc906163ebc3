/- selkielaw01.ValueAsks answers true at any value whose number is an int64, wherever the table of powers lies as the program's text lays it. -/
import Derived.Test.YtodlamblemmckaaDoorRef
namespace Go.Proofs.YtodlamblemmckaaDoor
open Go.RowKit Go.Sort

/-- What the program's Key and the document's Key both answer of a value. -/
def KeysAre (k n : Int) (s : ByteArray) (xk xn : Int) (xs : ByteArray) (xe : Int) : Prop :=
  (∀ w : World, Calls Tryd.prog 10 #[V k n s] w fun e w' => e = .returned (.tuple #[V xk xn xs, .int .i64 xe]) ∧ Below w.heap.size w w') ∧
  (∀ w : World, Calls Tryd.prog 11 #[V k n s] w fun e w' => e = .returned (.tuple #[V xk xn xs, .int .i64 xe]) ∧ Below w.heap.size w w')

theorem keys_are (k n : Int) (s : ByteArray) : ∃ (xk xn : Int) (xs : ByteArray) (xe : Int), KeysAre k n s xk xn xs xe := by
  by_cases h : k = 0 ∨ k < 0 ∨ 7 < k
  · exact ⟨_, _, _, _, fun w => key_no k n s w h, fun w => rkey_no k n s w h⟩
  · exact ⟨_, _, _, _, fun w => key_yes k n s w (by omega) (by omega), fun w => rkey_yes k n s w (by omega) (by omega)⟩

set_option maxHeartbeats 1600000 in
theorem asks_any (ka na : Int) (sa : ByteArray) (w : World) (hT : Tab w) (hn0 : -9223372036854775808 ≤ na) (hn1 : na ≤ 9223372036854775807) :
    Calls Tryd.prog 3 #[V ka na sa] w fun e w' => e = .returned (.bool true) ∧ Below w.heap.size w w' := by
  have HT := Lib.hid hT; have H0 := Lib.hid hn0; have H1 := Lib.hid hn1
  obtain ⟨xk, xn, xs, xe, hK, hK'⟩ := keys_are ka na sa
  have HK := Lib.hid hK; have HK' := Lib.hid hK'
  clear hT hn0 hn1 hK hK'
  cases hs : bigB sa sa sa
  · have Hs := Lib.hid hs
    clear hs
    go_enter Tryd.func3, Tryd.ntmps3
    go_wp2_with fail
    refine (alive_any _ (HT.out.below (below1 _ _))).mono ?_; rintro e w1 ⟨rfl, b1⟩
    have hA : At w1 w.heap.size ka na sa := (at_new w ka na sa).below b1
    have B1 := Lib.hid (thenB (below1 _ _) b1)
    have HA := Lib.hid hA
    clear b1
    have a0 := hA.c0; have a1 := hA.c1; have a2 := hA.c2
    clear hA
    go_wp2_with fail
    refine (great1 _ _ _ _ _ Hs.out).mono ?_; rintro e w2 ⟨rfl, bb⟩
    have B2 := Lib.hid (thenB B1.out bb)
    have HA2 := Lib.hid (HA.out.below bb)
    clear a0 a1 a2 HA B1 bb
    have a0 := HA2.out.c0; have a1 := HA2.out.c1; have a2 := HA2.out.c2
    go_wp2_with fail
    refine (HK.out _).mono ?_; rintro e w3 ⟨rfl, bb⟩
    have B3 := Lib.hid (thenB B2.out bb)
    have HA3 := Lib.hid (HA2.out.below bb)
    clear a0 a1 a2 HA2 B2 bb
    have a0 := fun o => (HA3.out.alloc o).c0; have a1 := fun o => (HA3.out.alloc o).c1; have a2 := fun o => (HA3.out.alloc o).c2
    go_wp2_with fail
    refine (HK'.out _).mono ?_; rintro e w4 ⟨rfl, bb⟩
    have B4 := Lib.hid (thenB (thenB B3.out (below1 _ _)) bb)
    have HA4 := Lib.hid ((HA3.out.alloc _).below bb)
    have HX4 := Lib.hid ((at_new w3 xk xn xs).below bb)
    clear a0 a1 a2 HA3 B3 bb
    go_wp2_with fail
    generalize hW : w4.alloc (vcells xk xn xs) = W
    have hA : At W w.heap.size ka na sa := by subst hW; exact HA4.out.alloc _
    have hX : At W w3.heap.size xk xn xs := by subst hW; exact HX4.out.alloc _
    have hY : At W w4.heap.size xk xn xs := by subst hW; exact at_new w4 xk xn xs
    have B5 := Lib.hid (show Below w.heap.size w W by subst hW; exact thenB B4.out (below1 _ _))
    clear hW HA4 HX4 B4
    have a0 := cell_regrown hA.c0; have a1 := cell_regrown hA.c1; have a2 := cell_regrown hA.c2
    have x0 := cell_regrown hX.c0; have x1 := cell_regrown hX.c1; have x2 := cell_regrown hX.c2
    have y0 := cell_regrown hY.c0; have y1 := cell_regrown hY.c1; have y2 := cell_regrown hY.c2
    clear hA hX hY
    refine wp_region_quiet_below (by kernel_rfl) (by kernel_rfl) ?_
    repeat (go_big_quiet_step (first
      | (go_at_call 12; exact Calls.regrown_of (truth_any _ _ _ _))
      | (go_at_call 13; exact Calls.regrown_of (rtruth_any _ _ _ _))
      | (go_at_call 14; exact Calls.regrown_of (type_any _ _ _ _))
      | (go_at_call 15; exact Calls.regrown_of (rtype_any _ _ _ _))
      | (go_at_call 16; exact Calls.regrown_of (print_any _ _ _ _ ((HT.out.below B5.out).below (below_regrown _ _ _)) H0.out H1.out))
      | (go_at_call 17; exact Calls.regrown_of (rprint_any _ _ _ _ H0.out H1.out))
      | (go_at_call 18; exact Calls.regrown_of (own_any _ _ _ _))
      | (go_at_call 19; exact Calls.regrown_of (rown_any _ _ _ _))))
    refine wpQuiet_nil ?_
    intro _ hw'
    obtain ⟨⟨dq, osq⟩, hw''⟩ := hw'
    have bb := below_regrown W dq osq
    rw [← hw''] at bb
    clear hw'' a0 a1 a2 x0 x1 x2 y0 y1 y2
    go_wp2_with fail
    go_ret
    exact ⟨rfl, thenB B5.out bb⟩
  · have Hs := Lib.hid hs
    clear hs
    go_enter Tryd.func3, Tryd.ntmps3
    go_wp2_with fail
    refine (alive_any _ (HT.out.below (below1 _ _))).mono ?_; rintro e w1 ⟨rfl, b1⟩
    have hA : At w1 w.heap.size ka na sa := (at_new w ka na sa).below b1
    have B1 := Lib.hid (thenB (below1 _ _) b1)
    clear b1
    have a0 := hA.c0; have a1 := hA.c1; have a2 := hA.c2
    clear hA
    go_wp2_with fail
    refine (great1 _ _ _ _ _ Hs.out).mono ?_; rintro e w2 ⟨rfl, bb⟩
    have B2 := Lib.hid (thenB B1.out bb)
    clear bb
    go_wp2_with fail
    go_ret
    exact ⟨rfl, B2.out⟩

theorem i64_lo {n : Int} (h : (Lit.int .i64 n).wf = true) : -9223372036854775808 ≤ n := by
  have h' : (decide (IntKind.i64.min ≤ n) && decide (n ≤ IntKind.i64.max)) = true := h
  simp only [Bool.and_eq_true, decide_eq_true_eq] at h'
  exact h'.1
theorem i64_hi {n : Int} (h : (Lit.int .i64 n).wf = true) : n ≤ 9223372036854775807 := by
  have h' : (decide (IntKind.i64.min ≤ n) && decide (n ≤ IntKind.i64.max)) = true := h
  simp only [Bool.and_eq_true, decide_eq_true_eq] at h'
  exact h'.2
end Go.Proofs.YtodlamblemmckaaDoor
