/- selkielaw10.WordsValues and WordsThings answer true at any values, number and text whose numbers are int64, wherever the table of powers lies as the program's text lays it. -/
import Derived.Test.YtpfdidggogddgaaDoorWb
namespace Go.Proofs.YtpfdidggogddgaaDoor
open Go.RowKit Go.Sort

theorem al_arith (w : World) : Calls Tryd.prog 13 #[V 0 0 noS, V 2 1 noS] w fun e w' => e = .returned (.string ⟨#[97, 116, 116, 101, 109, 112, 116, 32, 116, 111, 32, 112, 101, 114, 102, 111, 114, 109, 32, 97, 114, 105, 116, 104, 109, 101, 116, 105, 99, 32, 111, 110, 32, 97, 32, 110, 105, 108, 32, 118, 97, 108, 117, 101]⟩) ∧ Below w.heap.size w w' := by
  have h := arith_any 0 0 noS 2 1 noS w (by decide)
  rw [show att pArith (arithK 0 2 (nmO 0 noS)) = ⟨#[97, 116, 116, 101, 109, 112, 116, 32, 116, 111, 32, 112, 101, 114, 102, 111, 114, 109, 32, 97, 114, 105, 116, 104, 109, 101, 116, 105, 99, 32, 111, 110, 32, 97, 32, 110, 105, 108, 32, 118, 97, 108, 117, 101]⟩ by decide +kernel] at h
  exact h
theorem al_compare (w : World) : Calls Tryd.prog 17 #[V 2 1 noS, V 3 0 ⟨#[97]⟩] w fun e w' => e = .returned (.string ⟨#[97, 116, 116, 101, 109, 112, 116, 32, 116, 111, 32, 99, 111, 109, 112, 97, 114, 101, 32, 110, 117, 109, 98, 101, 114, 32, 119, 105, 116, 104, 32, 115, 116, 114, 105, 110, 103]⟩) ∧ Below w.heap.size w w' := by
  have h := compare_any 2 1 noS 3 0 ⟨#[97]⟩ w
  rw [show cmpS (typB 2) (typB 3) = ⟨#[97, 116, 116, 101, 109, 112, 116, 32, 116, 111, 32, 99, 111, 109, 112, 97, 114, 101, 32, 110, 117, 109, 98, 101, 114, 32, 119, 105, 116, 104, 32, 115, 116, 114, 105, 110, 103]⟩ by decide +kernel] at h
  exact h
theorem al_arg (w : World) (hT : Tab w) : Calls Tryd.prog 25 #[.int .i64 2, .string ⟨#[115, 117, 98]⟩] w fun e w' => e = .returned (.string ⟨#[98, 97, 100, 32, 97, 114, 103, 117, 109, 101, 110, 116, 32, 35, 50, 32, 116, 111, 32, 39, 115, 117, 98, 39]⟩) ∧ Below w.heap.size w w' := by
  have h := arg_any 2 ⟨#[115, 117, 98]⟩ w hT (by decide) (by decide) (by decide)
  rw [show argS 2 ⟨#[115, 117, 98]⟩ = ⟨#[98, 97, 100, 32, 97, 114, 103, 117, 109, 101, 110, 116, 32, 35, 50, 32, 116, 111, 32, 39, 115, 117, 98, 39]⟩ by decide +kernel] at h
  exact h
theorem al_err1 (w : World) (hT : Tab w) : Calls Tryd.prog 19 #[V 2 7 noS] w fun e w' => e = .returned (.string ⟨#[55]⟩) ∧ Below w.heap.size w w' := by
  have h := error_any 2 7 noS w hT (by decide) (by decide)
  rw [show errS 2 7 noS = ⟨#[55]⟩ by decide +kernel] at h
  exact h
theorem al_err2 (w : World) (hT : Tab w) : Calls Tryd.prog 19 #[V 4 0 noS] w fun e w' => e = .returned (.string ⟨#[40, 101, 114, 114, 111, 114, 32, 111, 98, 106, 101, 99, 116, 32, 105, 115, 32, 97, 32, 116, 97, 98, 108, 101, 32, 118, 97, 108, 117, 101, 41]⟩) ∧ Below w.heap.size w w' := by
  have h := error_any 4 0 noS w hT (by decide) (by decide)
  rw [show errS 4 0 noS = ⟨#[40, 101, 114, 114, 111, 114, 32, 111, 98, 106, 101, 99, 116, 32, 105, 115, 32, 97, 32, 116, 97, 98, 108, 101, 32, 118, 97, 108, 117, 101, 41]⟩ by decide +kernel] at h
  exact h

set_option maxHeartbeats 800000 in
theorem alive_any (w : World) (hT : Tab w) :
    Calls Tryd.prog 6 #[] w fun e w' => e = .returned (.bool true) ∧ Below w.heap.size w w' := by
  have HT := Lib.hid hT
  clear hT
  go_enter Tryd.func6, Tryd.ntmps6
  go_wp2_with fail
  refine (al_arith _).mono ?_; rintro e w1 ⟨rfl, b1⟩
  have HA := Lib.hid (((at_new w 2 1 noS).alloc (vcells 3 0 ⟨#[97]⟩)).below b1)
  have HB := Lib.hid ((at_new1 w (vcells 2 1 noS) 3 0 ⟨#[97]⟩).below b1)
  have B1 := Lib.hid (thenB (below2 w (vcells 2 1 noS) (vcells 3 0 ⟨#[97]⟩)) b1)
  clear b1
  have a0 := HA.out.c0; have a1 := HA.out.c1; have a2 := HA.out.c2
  have b0 := HB.out.c0; have b1 := HB.out.c1; have b2 := HB.out.c2
  go_wp2_with fail
  refine (al_compare _).mono ?_; rintro e w2 ⟨rfl, bb⟩
  have B2 := Lib.hid (thenB B1.out bb)
  clear bb B1
  go_wp2_with fail
  refine (al_arg _ (HT.out.below B2.out)).mono ?_; rintro e w3 ⟨rfl, bb⟩
  have B3 := Lib.hid (thenB B2.out bb)
  clear bb B2
  go_wp2_with fail
  refine (al_err1 _ (HT.out.below B3.out)).mono ?_; rintro e w4 ⟨rfl, bb⟩
  have B4 := Lib.hid (thenB B3.out bb)
  clear bb B3
  go_wp2_with fail
  refine (al_err2 _ (HT.out.below B4.out)).mono ?_; rintro e w5 ⟨rfl, bb⟩
  have B5 := Lib.hid (thenB B4.out bb)
  clear bb B4
  go_wp2_with fail
  go_ret
  exact ⟨rfl, B5.out⟩

def bigS (sa sb : ByteArray) : Bool := decide (10000 < sa.size ∨ 10000 < sb.size)

/-- Two functions answer one text. -/
def Both1 (f g : Nat) (a : Value) (w0 : World) : Prop := ∃ R : ByteArray, (∀ w : World, Below w0.heap.size w0 w → Calls Tryd.prog f #[a] w fun e w' => e = .returned (.string R) ∧ Below w.heap.size w w') ∧ (∀ w : World, Calls Tryd.prog g #[a] w fun e w' => e = .returned (.string R) ∧ Below w.heap.size w w')
def Both2 (f g : Nat) (a b : Value) (w0 : World) : Prop := ∃ R : ByteArray, (∀ w : World, Below w0.heap.size w0 w → Calls Tryd.prog f #[a, b] w fun e w' => e = .returned (.string R) ∧ Below w.heap.size w w') ∧ (∀ w : World, Calls Tryd.prog g #[a, b] w fun e w' => e = .returned (.string R) ∧ Below w.heap.size w w')

set_option maxHeartbeats 3200000 in
theorem values_any (ka na : Int) (sa : ByteArray) (kb nb : Int) (sb : ByteArray) (w : World) (hT : Tab w) (hn0 : -9223372036854775808 ≤ na) (hn1 : na ≤ 9223372036854775807) :
    Calls Tryd.prog 3 #[V ka na sa, V kb nb sb] w fun e w' => e = .returned (.bool true) ∧ Below w.heap.size w w' := by
  have HT := Lib.hid hT; have H0 := Lib.hid hn0; have H1 := Lib.hid hn1
  clear hT hn0 hn1
  cases hs : bigS sa sb
  · have h1 : sa.size ≤ 10000 := by simp [bigS] at hs; omega
    have h2 : sb.size ≤ 10000 := by simp [bigS] at hs; omega
    have h1' : sa.size ≤ 9223372036854775807 := by omega
    obtain ⟨R1, p1, q1⟩ : Both1 7 8 (V ka na sa) w := ⟨_, fun w _ => index_any _ _ _ w, fun w => rindex_any _ _ _ w⟩
    obtain ⟨R2, p2, q2⟩ : Both1 9 10 (V ka na sa) w := ⟨_, fun w _ => call_any _ _ _ w, fun w => rcall_any _ _ _ w⟩
    obtain ⟨R3, p3, q3⟩ : Both1 11 12 (V ka na sa) w := ⟨_, fun w _ => len_any _ _ _ w, fun w => rlen_any _ _ _ w⟩
    obtain ⟨R4, p4, q4⟩ : Both2 13 14 (V ka na sa) (V kb nb sb) w := ⟨_, fun w _ => arith_any _ _ _ _ _ _ w h1', fun w => rarith_any _ _ _ _ _ _ w h1'⟩
    obtain ⟨R5, p5, q5⟩ : Both2 15 16 (V ka na sa) (V kb nb sb) w := ⟨_, fun w hb => concat_any _ _ _ _ _ _ w (HT.out.below hb) H0.out H1.out, fun w => rconcat_any _ _ _ _ _ _ w H0.out H1.out⟩
    obtain ⟨R6, p6, q6⟩ : Both2 17 18 (V ka na sa) (V kb nb sb) w := ⟨_, fun w _ => compare_any _ _ _ _ _ _ w, fun w => rcompare_any _ _ _ _ _ _ w⟩
    obtain ⟨R7, p7, q7⟩ : Both1 19 20 (V ka na sa) w := ⟨_, fun w hb => error_any _ _ _ w (HT.out.below hb) H0.out H1.out, fun w => rerror_any _ _ _ w H0.out H1.out⟩
    have P1 := Lib.hid p1; have P2 := Lib.hid p2; have P3 := Lib.hid p3; have P4 := Lib.hid p4; have P5 := Lib.hid p5; have P6 := Lib.hid p6; have P7 := Lib.hid p7
    have Q1 := Lib.hid q1; have Q2 := Lib.hid q2; have Q3 := Lib.hid q3; have Q4 := Lib.hid q4; have Q5 := Lib.hid q5; have Q6 := Lib.hid q6; have Q7 := Lib.hid q7
    clear p1 p2 p3 p4 p5 p6 p7 q1 q2 q3 q4 q5 q6 q7 hs h1'
    go_enter Tryd.func3, Tryd.ntmps3
    go_wp2_with fail
    refine (alive_any _ (HT.out.below (below2 _ _ _))).mono ?_; rintro e w1 ⟨rfl, b1⟩
    have hA : At w1 w.heap.size ka na sa := ((at_new w ka na sa).alloc _).below b1
    have hB : At w1 (w.heap.size + 1) kb nb sb := (at_new1 w (vcells ka na sa) kb nb sb).below b1
    have B1 := Lib.hid (thenB (below2 _ _ _) b1)
    clear b1
    have a0 := hA.c0; have a1 := hA.c1; have a2 := hA.c2
    have b0 := hB.c0; have b1 := hB.c1; have b2 := hB.c2
    have HA := Lib.hid hA; have HB := Lib.hid hB
    clear hA hB
    go_wp2_with go_in
    generalize hW : w1 = W
    subst hW
    clear a0 a1 a2 b0 b1 b2
    have a0 := cell_regrown HA.out.c0; have a1 := cell_regrown HA.out.c1; have a2 := cell_regrown HA.out.c2
    have b0 := cell_regrown HB.out.c0; have b1 := cell_regrown HB.out.c1; have b2 := cell_regrown HB.out.c2
    refine wp_region_quiet_below (by kernel_rfl) (by kernel_rfl) ?_
    repeat (go_big_quiet_step (first
      | (go_at_call 7; exact Calls.regrown_of (P1.out _ (thenB B1.out (below_regrown _ _ _))))
      | (go_at_call 8; exact Calls.regrown_of (Q1.out _))
      | (go_at_call 9; exact Calls.regrown_of (P2.out _ (thenB B1.out (below_regrown _ _ _))))
      | (go_at_call 10; exact Calls.regrown_of (Q2.out _))
      | (go_at_call 11; exact Calls.regrown_of (P3.out _ (thenB B1.out (below_regrown _ _ _))))
      | (go_at_call 12; exact Calls.regrown_of (Q3.out _))
      | (go_at_call 13; exact Calls.regrown_of (P4.out _ (thenB B1.out (below_regrown _ _ _))))
      | (go_at_call 14; exact Calls.regrown_of (Q4.out _))
      | (go_at_call 15; exact Calls.regrown_of (P5.out _ (thenB B1.out (below_regrown _ _ _))))
      | (go_at_call 16; exact Calls.regrown_of (Q5.out _))
      | (go_at_call 17; exact Calls.regrown_of (P6.out _ (thenB B1.out (below_regrown _ _ _))))
      | (go_at_call 18; exact Calls.regrown_of (Q6.out _))
      | (go_at_call 19; exact Calls.regrown_of (P7.out _ (thenB B1.out (below_regrown _ _ _))))
      | (go_at_call 20; exact Calls.regrown_of (Q7.out _))))
    refine wpQuiet_nil ?_
    intro _ hw'
    obtain ⟨⟨dq, osq⟩, hw''⟩ := hw'
    have bb := Lib.hid (thenB B1.out (below_regrown w1 dq osq))
    rw [← hw''] at bb
    clear hw'' a0 a1 a2 b0 b1 b2
    go_wp2_with fail
    go_ret
    exact ⟨rfl, bb.out⟩
  · have hs' : 10000 < sa.size ∨ (sa.size ≤ 10000 ∧ 10000 < sb.size) := by simp [bigS] at hs; omega
    clear hs
    rcases hs' with h1 | ⟨h1, h2⟩
    all_goals
      go_enter Tryd.func3, Tryd.ntmps3
      go_wp2_with fail
      refine (alive_any _ (HT.out.below (below2 _ _ _))).mono ?_; rintro e w1 ⟨rfl, b1⟩
      have hA : At w1 w.heap.size ka na sa := ((at_new w ka na sa).alloc _).below b1
      have hB : At w1 (w.heap.size + 1) kb nb sb := (at_new1 w (vcells ka na sa) kb nb sb).below b1
      have B1 := Lib.hid (thenB (below2 _ _ _) b1)
      clear b1
      have a0 := hA.c0; have a1 := hA.c1; have a2 := hA.c2
      have b0 := hB.c0; have b1 := hB.c1; have b2 := hB.c2
      clear hA hB
      go_wp2_with fail
      go_ret
      exact ⟨rfl, B1.out⟩

set_option maxHeartbeats 1600000 in
theorem things_any (n : Int) (s : ByteArray) (w : World) (hT : Tab w) (hn0 : -9223372036854775808 ≤ n) (hn1 : n ≤ 9223372036854775807) :
    Calls Tryd.prog 4 #[.int .i64 n, .string s] w fun e w' => e = .returned (.bool true) ∧ Below w.heap.size w w' := by
  have HT := Lib.hid hT; have H0 := Lib.hid hn0; have H1 := Lib.hid hn1
  clear hT hn0 hn1
  by_cases hs : s.size ≤ 10000
  · go_enter Tryd.func4, Tryd.ntmps4
    go_wp2_with fail
    refine (alive_any _ HT.out).mono ?_; rintro e w1 ⟨rfl, b1⟩
    have B1 := Lib.hid b1
    clear b1
    go_wp2_with fail
    refine (zero_any _ _).mono ?_; rintro e w1 ⟨rfl, rfl⟩
    go_wp2_with fail
    refine (rzero_any _ _).mono ?_; rintro e w1 ⟨rfl, rfl⟩
    go_wp2_with fail
    refine (for_any _ _).mono ?_; rintro e w1 ⟨rfl, rfl⟩
    go_wp2_with fail
    refine (rfor_any _ _).mono ?_; rintro e w1 ⟨rfl, rfl⟩
    go_wp2_with fail
    refine (arg_any _ _ _ (HT.out.below B1.out) H0.out H1.out hs).mono ?_; rintro e w2 ⟨rfl, bb⟩
    have B2 := Lib.hid (thenB B1.out bb)
    clear bb B1
    go_wp2_with fail
    refine (rarg_any _ _ _ H0.out H1.out hs).mono ?_; rintro e w3 ⟨rfl, bb⟩
    have B3 := Lib.hid (thenB B2.out bb)
    clear bb B2
    go_wp2_with fail
    refine (field_any _ _).mono ?_; rintro e w1 ⟨rfl, rfl⟩
    go_wp2_with fail
    refine (rfield_any _ _).mono ?_; rintro e w1 ⟨rfl, rfl⟩
    go_wp2_with fail
    go_ret
    exact ⟨rfl, B3.out⟩
  · have hs' : (10000 : Int) < (s.size : Int) := by omega
    go_enter Tryd.func4, Tryd.ntmps4
    go_wp2_with fail
    refine (alive_any _ HT.out).mono ?_; rintro e w1 ⟨rfl, b1⟩
    have B1 := Lib.hid b1
    clear b1
    go_wp2_with fail
    go_ret
    exact ⟨rfl, B1.out⟩
end Go.Proofs.YtpfdidggogddgaaDoor
