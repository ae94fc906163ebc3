/- selkielaw01.ValuePairs answers true at any two values, wherever the table of powers lies as the program's text lays it. -/
import Derived.Test.YtodlamblemmckaaDoorBef
namespace Go.Proofs.YtodlamblemmckaaDoor
open Go.RowKit Go.Sort

set_option maxHeartbeats 1600000 in
theorem pairs_any (ka na kb nb : Int) (sa sb : ByteArray) (w : World) (hT : Tab w) :
    Calls Tryd.prog 4 #[V ka na sa, V kb nb sb] w fun e w' => e = .returned (.bool true) ∧ Below w.heap.size w w' := by
  have HT := Lib.hid hT
  clear hT
  cases hs : bigB sa sb sb
  · have h1 : sa.size ≤ 100000 := by simp [bigB] at hs; omega
    have h2 : sb.size ≤ 100000 := by simp [bigB] at hs; omega
    have Hs := Lib.hid hs; have H1 := Lib.hid h1; have H2 := Lib.hid h2
    clear hs h1 h2
    go_enter Tryd.func4, Tryd.ntmps4
    go_wp2_with fail
    refine (alive_any _ (HT.out.below (below2 _ _ _))).mono ?_; rintro e w1 ⟨rfl, b1⟩
    have hA : At w1 w.heap.size ka na sa := ((at_new w ka na sa).alloc _).below b1
    have hB : At w1 (w.heap.size + 1) kb nb sb := (at_new1 w (vcells ka na sa) kb nb sb).below b1
    have B1 := Lib.hid (thenB (below2 _ _ _) b1)
    have HA := Lib.hid hA; have HB := Lib.hid hB
    clear b1
    have a0 := hA.c0; have a1 := hA.c1; have a2 := hA.c2
    have b0 := hB.c0; have b1 := hB.c1; have b2 := hB.c2
    clear hA hB
    go_wp2_with fail
    refine (great2 _ _ _ _ _ _ _ _ Hs.out).mono ?_; rintro e w2 ⟨rfl, bb⟩
    have B2 := Lib.hid (thenB B1.out bb)
    have HA2 := Lib.hid (HA.out.below bb); have HB2 := Lib.hid (HB.out.below bb)
    clear a0 a1 a2 b0 b1 b2 HA HB B1 bb
    have a0 := HA2.out.c0; have a1 := HA2.out.c1; have a2 := HA2.out.c2
    have b0 := HB2.out.c0; have b1 := HB2.out.c1; have b2 := HB2.out.c2
    go_wp2_with fail
    refine (less_any _ _ _ _ _ _ _).mono ?_; rintro e w3 ⟨rfl, bb⟩
    have B3 := Lib.hid (thenB B2.out bb)
    have HA3 := Lib.hid (HA2.out.below bb); have HB3 := Lib.hid (HB2.out.below bb)
    clear a0 a1 a2 b0 b1 b2 HA2 HB2 B2 bb
    have a0 := HA3.out.c0; have a1 := HA3.out.c1; have a2 := HA3.out.c2
    have b0 := HB3.out.c0; have b1 := HB3.out.c1; have b2 := HB3.out.c2
    go_wp2_with fail
    refine (rless_any _ _ _ _ _ _ _ H1.out H2.out).mono ?_; rintro e w4 ⟨rfl, bb⟩
    have B4 := Lib.hid (thenB B3.out bb)
    have HA4 := Lib.hid (HA3.out.below bb); have HB4 := Lib.hid (HB3.out.below bb)
    clear a0 a1 a2 b0 b1 b2 HA3 HB3 B3 bb
    have a0 := cell_regrown HA4.out.c0; have a1 := cell_regrown HA4.out.c1; have a2 := cell_regrown HA4.out.c2
    have b0 := cell_regrown HB4.out.c0; have b1 := cell_regrown HB4.out.c1; have b2 := cell_regrown HB4.out.c2
    go_wp2_with fail
    refine wp_region_quiet_below (by kernel_rfl) (by kernel_rfl) ?_
    repeat (go_big_quiet_step (first | (go_at_call 22; exact Calls.regrown_of (raw_any _ _ _ _ _ _ _)) | (go_at_call 23; exact Calls.regrown_of (rraw_any _ _ _ _ _ _ _))))
    refine wpQuiet_nil ?_
    intro _ hw'
    obtain ⟨⟨dq, osq⟩, hw''⟩ := hw'
    have bb := below_regrown w4 dq osq
    rw [← hw''] at bb
    clear hw'' a0 a1 a2 b0 b1 b2
    go_wp2_with fail
    go_ret
    exact ⟨rfl, thenB B4.out bb⟩
  · have Hs := Lib.hid hs
    clear hs
    go_enter Tryd.func4, Tryd.ntmps4
    go_wp2_with fail
    refine (alive_any _ (HT.out.below (below2 _ _ _))).mono ?_; rintro e w1 ⟨rfl, b1⟩
    have hA : At w1 w.heap.size ka na sa := ((at_new w ka na sa).alloc _).below b1
    have hB : At w1 (w.heap.size + 1) kb nb sb := (at_new1 w (vcells ka na sa) kb nb sb).below b1
    have B1 := Lib.hid (thenB (below2 _ _ _) b1)
    clear b1
    have a0 := hA.c0; have a1 := hA.c1; have a2 := hA.c2
    have b0 := hB.c0; have b1 := hB.c1; have b2 := hB.c2
    clear hA hB
    go_wp2_with fail
    refine (great2 _ _ _ _ _ _ _ _ Hs.out).mono ?_; rintro e w2 ⟨rfl, bb⟩
    have B2 := Lib.hid (thenB B1.out bb)
    clear bb
    go_wp2_with fail
    go_ret
    exact ⟨rfl, B2.out⟩
end Go.Proofs.YtodlamblemmckaaDoor
