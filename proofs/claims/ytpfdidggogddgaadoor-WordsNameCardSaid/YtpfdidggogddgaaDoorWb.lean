/- What Compare, Error, Zero, For, Arg and Field of package words and the document's answer of layer 10 say: one and the same text. -/
import Derived.Test.YtpfdidggogddgaaDoorWa
namespace Go.Proofs.YtpfdidggogddgaaDoor
open Go.RowKit Go.Sort

theorem below_drewN {B : Nat} {a w : World} (h : Below B a w) (n : Nat) : Below B a (w.drewN n) := ⟨h.os, h.tape, h.output, h.size, h.block⟩
def cmpS (x y : ByteArray) : ByteArray := if x = y then ⟨#[97, 116, 116, 101, 109, 112, 116, 32, 116, 111, 32, 99, 111, 109, 112, 97, 114, 101, 32, 116, 119, 111, 32]⟩ ++ x ++ ⟨#[32, 118, 97, 108, 117, 101, 115]⟩ else ⟨#[97, 116, 116, 101, 109, 112, 116, 32, 116, 111, 32, 99, 111, 109, 112, 97, 114, 101, 32]⟩ ++ x ++ ⟨#[32, 119, 105, 116, 104, 32]⟩ ++ y
theorem beq_ne' {x : ByteArray} {l : List UInt8} (h : x ≠ ⟨l.toArray⟩) : (x.toList == l) = false := by
  rw [beq_eq_false_iff_ne]
  intro e
  apply h
  rw [ByteArray.toList_eq] at e
  rcases x with ⟨x⟩
  rw [← e]
theorem beq_ne {x y : ByteArray} (h : x ≠ y) : (x.toList == y.toList) = false := by
  rw [beq_eq_false_iff_ne]
  intro e
  apply h
  rw [ByteArray.toList_eq, ByteArray.toList_eq] at e
  rcases x with ⟨x⟩; rcases y with ⟨y⟩
  simp only [Array.toList_inj] at e
  rw [e]

set_option maxHeartbeats 800000 in
theorem compare_any (ka na : Int) (sa : ByteArray) (kb nb : Int) (sb : ByteArray) (w : World) :
    Calls Tryd.prog 17 #[V ka na sa, V kb nb sb] w fun e w' => e = .returned (.string (cmpS (typB ka) (typB kb))) ∧ Below w.heap.size w w' := by
  by_cases h : typB ka = typB kb
  · rw [show cmpS (typB ka) (typB kb) = ⟨#[97, 116, 116, 101, 109, 112, 116, 32, 116, 111, 32, 99, 111, 109, 112, 97, 114, 101, 32, 116, 119, 111, 32]⟩ ++ typB ka ++ ⟨#[32, 118, 97, 108, 117, 101, 115]⟩ from if_pos h]
    have g : ((typB ka).toList == (typB kb).toList) = true := by rw [h]; simp
    clear h
    have s1 := typ_size ka; have s2 := typ_size kb
    have l1 : (⟨#[97, 116, 116, 101, 109, 112, 116, 32, 116, 111, 32, 99, 111, 109, 112, 97, 114, 101, 32]⟩ : ByteArray).size = 19 := rfl
    have l2 : (⟨#[97, 116, 116, 101, 109, 112, 116, 32, 116, 111, 32, 99, 111, 109, 112, 97, 114, 101, 32, 116, 119, 111, 32]⟩ : ByteArray).size = 23 := rfl
    have l3 : (⟨#[32, 118, 97, 108, 117, 101, 115]⟩ : ByteArray).size = 7 := rfl
    have l4 : (⟨#[32, 119, 105, 116, 104, 32]⟩ : ByteArray).size = 6 := rfl
    go_enter Tryd.func17, Tryd.ntmps17
    go_wp2_with go_in
    generalize hW : ((w.alloc (vcells ka na sa)).alloc (vcells kb nb sb)) = W
    have hA : At W w.heap.size ka na sa := by subst hW; exact (at_new w ka na sa).alloc _
    have hB : At W (w.heap.size + 1) kb nb sb := by subst hW; exact at_new1 w (vcells ka na sa) kb nb sb
    have HB : Hid (Below w.heap.size w W) := by subst hW; exact below2 _ _ _
    clear hW
    have a0 := cell_regrown hA.c0; have a1 := cell_regrown hA.c1; have a2 := cell_regrown hA.c2
    have b0 := cell_regrown hB.c0; have b1 := cell_regrown hB.c1; have b2 := cell_regrown hB.c2
    clear hA hB
    refine wp_region_quiet_below (by kernel_rfl) (by kernel_rfl) ?_
    repeat (go_big_quiet_step (first | (go_at_call 29; exact Calls.regrown_of (type_any _ _ _ _))))
    refine wpQuiet_nil ?_
    intro _ hw'
    obtain ⟨⟨dq, osq⟩, hw''⟩ := hw'
    have bb := Lib.hid (thenB HB.out (below_regrown W dq osq))
    rw [← hw''] at bb
    clear hw'' a0 a1 a2 b0 b1 b2
    go_wp2_with fail
    go_ret
    exact ⟨rfl, bb.out⟩
  · rw [show cmpS (typB ka) (typB kb) = ⟨#[97, 116, 116, 101, 109, 112, 116, 32, 116, 111, 32, 99, 111, 109, 112, 97, 114, 101, 32]⟩ ++ typB ka ++ ⟨#[32, 119, 105, 116, 104, 32]⟩ ++ typB kb from if_neg h]
    have g := beq_ne h
    clear h
    have s1 := typ_size ka; have s2 := typ_size kb
    have l1 : (⟨#[97, 116, 116, 101, 109, 112, 116, 32, 116, 111, 32, 99, 111, 109, 112, 97, 114, 101, 32]⟩ : ByteArray).size = 19 := rfl
    have l2 : (⟨#[97, 116, 116, 101, 109, 112, 116, 32, 116, 111, 32, 99, 111, 109, 112, 97, 114, 101, 32, 116, 119, 111, 32]⟩ : ByteArray).size = 23 := rfl
    have l3 : (⟨#[32, 118, 97, 108, 117, 101, 115]⟩ : ByteArray).size = 7 := rfl
    have l4 : (⟨#[32, 119, 105, 116, 104, 32]⟩ : ByteArray).size = 6 := rfl
    go_enter Tryd.func17, Tryd.ntmps17
    go_wp2_with go_in
    generalize hW : ((w.alloc (vcells ka na sa)).alloc (vcells kb nb sb)) = W
    have hA : At W w.heap.size ka na sa := by subst hW; exact (at_new w ka na sa).alloc _
    have hB : At W (w.heap.size + 1) kb nb sb := by subst hW; exact at_new1 w (vcells ka na sa) kb nb sb
    have HB : Hid (Below w.heap.size w W) := by subst hW; exact below2 _ _ _
    clear hW
    have a0 := cell_regrown hA.c0; have a1 := cell_regrown hA.c1; have a2 := cell_regrown hA.c2
    have b0 := cell_regrown hB.c0; have b1 := cell_regrown hB.c1; have b2 := cell_regrown hB.c2
    clear hA hB
    refine wp_region_quiet_below (by kernel_rfl) (by kernel_rfl) ?_
    repeat (go_big_quiet_step (first | (go_at_call 29; exact Calls.regrown_of (type_any _ _ _ _))))
    refine wpQuiet_nil ?_
    intro _ hw'
    obtain ⟨⟨dq, osq⟩, hw''⟩ := hw'
    have bb := Lib.hid (thenB HB.out (below_regrown W dq osq))
    rw [← hw''] at bb
    clear hw'' a0 a1 a2 b0 b1 b2
    go_wp2_with fail
    go_ret
    exact ⟨rfl, bb.out⟩

set_option maxHeartbeats 800000 in
theorem rcompare_any (ka na : Int) (sa : ByteArray) (kb nb : Int) (sb : ByteArray) (w : World) :
    Calls Tryd.prog 18 #[V ka na sa, V kb nb sb] w fun e w' => e = .returned (.string (cmpS (typB ka) (typB kb))) ∧ Below w.heap.size w w' := by
  by_cases h : typB ka = typB kb
  · rw [show cmpS (typB ka) (typB kb) = ⟨#[97, 116, 116, 101, 109, 112, 116, 32, 116, 111, 32, 99, 111, 109, 112, 97, 114, 101, 32, 116, 119, 111, 32]⟩ ++ typB ka ++ ⟨#[32, 118, 97, 108, 117, 101, 115]⟩ from if_pos h]
    have g : ((typB ka).toList == (typB kb).toList) = true := by rw [h]; simp
    clear h
    have s1 := typ_size ka; have s2 := typ_size kb
    have l1 : (⟨#[97, 116, 116, 101, 109, 112, 116, 32, 116, 111, 32, 99, 111, 109, 112, 97, 114, 101, 32]⟩ : ByteArray).size = 19 := rfl
    have l2 : (⟨#[97, 116, 116, 101, 109, 112, 116, 32, 116, 111, 32, 99, 111, 109, 112, 97, 114, 101, 32, 116, 119, 111, 32]⟩ : ByteArray).size = 23 := rfl
    have l3 : (⟨#[32, 118, 97, 108, 117, 101, 115]⟩ : ByteArray).size = 7 := rfl
    have l4 : (⟨#[32, 119, 105, 116, 104, 32]⟩ : ByteArray).size = 6 := rfl
    go_enter Tryd.func18, Tryd.ntmps18
    go_wp2_with go_in
    generalize hW : ((w.alloc (vcells ka na sa)).alloc (vcells kb nb sb)) = W
    have hA : At W w.heap.size ka na sa := by subst hW; exact (at_new w ka na sa).alloc _
    have hB : At W (w.heap.size + 1) kb nb sb := by subst hW; exact at_new1 w (vcells ka na sa) kb nb sb
    have HB : Hid (Below w.heap.size w W) := by subst hW; exact below2 _ _ _
    clear hW
    have a0 := cell_regrown hA.c0; have a1 := cell_regrown hA.c1; have a2 := cell_regrown hA.c2
    have b0 := cell_regrown hB.c0; have b1 := cell_regrown hB.c1; have b2 := cell_regrown hB.c2
    clear hA hB
    refine wp_region_quiet_below (by kernel_rfl) (by kernel_rfl) ?_
    repeat (go_big_quiet_step (first | (go_at_call 33; exact Calls.regrown_of (rtype_any _ _ _ _))))
    refine wpQuiet_nil ?_
    intro _ hw'
    obtain ⟨⟨dq, osq⟩, hw''⟩ := hw'
    have bb := Lib.hid (thenB HB.out (below_regrown W dq osq))
    rw [← hw''] at bb
    clear hw'' a0 a1 a2 b0 b1 b2
    go_wp2_with fail
    go_ret
    exact ⟨rfl, bb.out⟩
  · rw [show cmpS (typB ka) (typB kb) = ⟨#[97, 116, 116, 101, 109, 112, 116, 32, 116, 111, 32, 99, 111, 109, 112, 97, 114, 101, 32]⟩ ++ typB ka ++ ⟨#[32, 119, 105, 116, 104, 32]⟩ ++ typB kb from if_neg h]
    have g := beq_ne h
    clear h
    have s1 := typ_size ka; have s2 := typ_size kb
    have l1 : (⟨#[97, 116, 116, 101, 109, 112, 116, 32, 116, 111, 32, 99, 111, 109, 112, 97, 114, 101, 32]⟩ : ByteArray).size = 19 := rfl
    have l2 : (⟨#[97, 116, 116, 101, 109, 112, 116, 32, 116, 111, 32, 99, 111, 109, 112, 97, 114, 101, 32, 116, 119, 111, 32]⟩ : ByteArray).size = 23 := rfl
    have l3 : (⟨#[32, 118, 97, 108, 117, 101, 115]⟩ : ByteArray).size = 7 := rfl
    have l4 : (⟨#[32, 119, 105, 116, 104, 32]⟩ : ByteArray).size = 6 := rfl
    go_enter Tryd.func18, Tryd.ntmps18
    go_wp2_with go_in
    generalize hW : ((w.alloc (vcells ka na sa)).alloc (vcells kb nb sb)) = W
    have hA : At W w.heap.size ka na sa := by subst hW; exact (at_new w ka na sa).alloc _
    have hB : At W (w.heap.size + 1) kb nb sb := by subst hW; exact at_new1 w (vcells ka na sa) kb nb sb
    have HB : Hid (Below w.heap.size w W) := by subst hW; exact below2 _ _ _
    clear hW
    have a0 := cell_regrown hA.c0; have a1 := cell_regrown hA.c1; have a2 := cell_regrown hA.c2
    have b0 := cell_regrown hB.c0; have b1 := cell_regrown hB.c1; have b2 := cell_regrown hB.c2
    clear hA hB
    refine wp_region_quiet_below (by kernel_rfl) (by kernel_rfl) ?_
    repeat (go_big_quiet_step (first | (go_at_call 33; exact Calls.regrown_of (rtype_any _ _ _ _))))
    refine wpQuiet_nil ?_
    intro _ hw'
    obtain ⟨⟨dq, osq⟩, hw''⟩ := hw'
    have bb := Lib.hid (thenB HB.out (below_regrown W dq osq))
    rw [← hw''] at bb
    clear hw'' a0 a1 a2 b0 b1 b2
    go_wp2_with fail
    go_ret
    exact ⟨rfl, bb.out⟩

def errS (k n : Int) (s : ByteArray) : ByteArray := if stO k = true then stS k n s else ⟨#[40, 101, 114, 114, 111, 114, 32, 111, 98, 106, 101, 99, 116, 32, 105, 115, 32, 97, 32]⟩ ++ typB k ++ ⟨#[32, 118, 97, 108, 117, 101, 41]⟩
set_option maxHeartbeats 800000 in
theorem error_any (k n : Int) (s : ByteArray) (w : World) (hT : Tab w) (h0 : -9223372036854775808 ≤ n) (h1 : n ≤ 9223372036854775807) :
    Calls Tryd.prog 19 #[V k n s] w fun e w' => e = .returned (.string (errS k n s)) ∧ Below w.heap.size w w' := by
  cases ho : stO k
  · rw [show errS k n s = ⟨#[40, 101, 114, 114, 111, 114, 32, 111, 98, 106, 101, 99, 116, 32, 105, 115, 32, 97, 32]⟩ ++ typB k ++ ⟨#[32, 118, 97, 108, 117, 101, 41]⟩ from if_neg (by rw [ho]; decide)]
    have HO := Lib.hid ho
    have H0 := Lib.hid h0; have H1 := Lib.hid h1; have HT := Lib.hid hT
    clear h0 h1 hT ho
    have s1 := typ_size k
    have l1 : (⟨#[40, 101, 114, 114, 111, 114, 32, 111, 98, 106, 101, 99, 116, 32, 105, 115, 32, 97, 32]⟩ : ByteArray).size = 19 := rfl
    have l2 : (⟨#[32, 118, 97, 108, 117, 101, 41]⟩ : ByteArray).size = 7 := rfl
    go_enter Tryd.func19, Tryd.ntmps19
    go_wp2_with fail
    refine (string_is _ _ _ _ _ (HT.out.below (below1 _ _)) H0.out H1.out HO.out).mono ?_; rintro e w1 ⟨rfl, b1⟩
    have HA := Lib.hid ((at_new w k n s).below b1)
    have B1 := Lib.hid (thenB (below1 w (vcells k n s)) b1)
    clear b1
    have a0 := HA.out.c0; have a1 := HA.out.c1; have a2 := HA.out.c2
    go_wp2_with fail
    refine (type_any _ _ _ _).mono ?_; rintro e w2 ⟨rfl, b2⟩
    go_wp2_with fail
    go_ret
    exact ⟨rfl, thenB B1.out b2⟩
  · rw [show errS k n s = stS k n s from if_pos ho]
    have HO := Lib.hid ho
    have H0 := Lib.hid h0; have H1 := Lib.hid h1; have HT := Lib.hid hT
    clear h0 h1 hT ho
    go_enter Tryd.func19, Tryd.ntmps19
    go_wp2_with fail
    refine (string_is _ _ _ _ _ (HT.out.below (below1 _ _)) H0.out H1.out HO.out).mono ?_; rintro e w1 ⟨rfl, b1⟩
    have B1 := Lib.hid (thenB (below1 w (vcells k n s)) b1)
    clear b1
    go_wp2_with fail
    go_ret
    exact ⟨rfl, B1.out⟩
set_option maxHeartbeats 800000 in
theorem rerror_any (k n : Int) (s : ByteArray) (w : World) (h0 : -9223372036854775808 ≤ n) (h1 : n ≤ 9223372036854775807) :
    Calls Tryd.prog 20 #[V k n s] w fun e w' => e = .returned (.string (errS k n s)) ∧ Below w.heap.size w w' := by
  have H0 := Lib.hid h0; have H1 := Lib.hid h1
  clear h0 h1
  rcases kinds3 k with rfl | rfl | ⟨g2, g3, h2, h3⟩
  · rw [show errS 2 n s = digS n from rfl]
    go_enter Tryd.func20, Tryd.ntmps20
    go_wp2_with fail
    refine (rDigits _ _ H0.out H1.out).mono ?_; rintro e w1 ⟨rfl, b1⟩
    go_wp2_with fail
    go_ret
    exact ⟨rfl, thenB (below1 _ _) b1⟩
  · rw [show errS 3 n s = s from rfl]
    go_enter Tryd.func20, Tryd.ntmps20
    go_wp2
    go_ret
    exact ⟨rfl, below1 _ _⟩
  · rw [show errS k n s = ⟨#[40, 101, 114, 114, 111, 114, 32, 111, 98, 106, 101, 99, 116, 32, 105, 115, 32, 97, 32]⟩ ++ typB k ++ ⟨#[32, 118, 97, 108, 117, 101, 41]⟩ from if_neg (by simp [stO, h2, h3])]
    clear h2 h3
    have s1 := typ_size k
    have l1 : (⟨#[40, 101, 114, 114, 111, 114, 32, 111, 98, 106, 101, 99, 116, 32, 105, 115, 32, 97, 32]⟩ : ByteArray).size = 19 := rfl
    have l2 : (⟨#[32, 118, 97, 108, 117, 101, 41]⟩ : ByteArray).size = 7 := rfl
    go_enter Tryd.func20, Tryd.ntmps20
    go_wp2_with fail
    refine (rtype_any _ _ _ _).mono ?_; rintro e w1 ⟨rfl, b1⟩
    go_wp2_with fail
    go_ret
    exact ⟨rfl, thenB (below1 _ _) b1⟩

theorem print_is (n : Int) (D : ByteArray) (w : World) (hT : Tab w) (hn0 : -9223372036854775808 ≤ n) (hn1 : n ≤ 9223372036854775807) (h : digS n = D) :
    Calls Tryd.prog 39 #[.int .i64 n] w fun e w' => e = .returned (.string D) ∧ Below w.heap.size w w' := h ▸ cPrint n w hT hn0 hn1
theorem digits_is' (n : Int) (D : ByteArray) (w : World) (hn0 : -9223372036854775808 ≤ n) (hn1 : n ≤ 9223372036854775807) (h : digS n = D) :
    Calls Tryd.prog 38 #[.int .i64 n] w fun e w' => e = .returned (.string D) ∧ Below w.heap.size w w' := h ▸ rDigits n w hn0 hn1
def argS (n : Int) (s : ByteArray) : ByteArray := ⟨#[98, 97, 100, 32, 97, 114, 103, 117, 109, 101, 110, 116, 32, 35]⟩ ++ digS n ++ ⟨#[32, 116, 111, 32, 39]⟩ ++ s ++ ⟨#[39]⟩
set_option maxHeartbeats 800000 in
theorem arg_any (n : Int) (s : ByteArray) (w : World) (hT : Tab w) (h0 : -9223372036854775808 ≤ n) (h1 : n ≤ 9223372036854775807) (hs : s.size ≤ 10000) :
    Calls Tryd.prog 25 #[.int .i64 n, .string s] w fun e w' => e = .returned (.string (argS n s)) ∧ Below w.heap.size w w' := by
  have hd0 := digS_size n h0 h1
  obtain ⟨D, hD⟩ : ∃ D, digS n = D := ⟨_, rfl⟩
  rw [show argS n s = ⟨#[98, 97, 100, 32, 97, 114, 103, 117, 109, 101, 110, 116, 32, 35]⟩ ++ D ++ ⟨#[32, 116, 111, 32, 39]⟩ ++ s ++ ⟨#[39]⟩ by unfold argS; rw [hD]]
  have hd : D.size ≤ 100 := hD ▸ hd0
  have HD := Lib.hid hD
  clear hD hd0
  have l1 : (⟨#[98, 97, 100, 32, 97, 114, 103, 117, 109, 101, 110, 116, 32, 35]⟩ : ByteArray).size = 14 := rfl
  have l2 : (⟨#[32, 116, 111, 32, 39]⟩ : ByteArray).size = 5 := rfl
  have l3 : (⟨#[39]⟩ : ByteArray).size = 1 := rfl
  have H0 := Lib.hid h0; have H1 := Lib.hid h1; have HT := Lib.hid hT
  clear h0 h1 hT
  go_enter Tryd.func25, Tryd.ntmps25
  go_wp2_with fail
  refine (print_is _ _ _ HT.out H0.out H1.out HD.out).mono ?_; rintro e w1 ⟨rfl, b1⟩
  go_wp2_with fail
  go_ret
  exact ⟨rfl, b1⟩
set_option maxHeartbeats 800000 in
theorem rarg_any (n : Int) (s : ByteArray) (w : World) (h0 : -9223372036854775808 ≤ n) (h1 : n ≤ 9223372036854775807) (hs : s.size ≤ 10000) :
    Calls Tryd.prog 26 #[.int .i64 n, .string s] w fun e w' => e = .returned (.string (argS n s)) ∧ Below w.heap.size w w' := by
  have hd0 := digS_size n h0 h1
  obtain ⟨D, hD⟩ : ∃ D, digS n = D := ⟨_, rfl⟩
  rw [show argS n s = ⟨#[98, 97, 100, 32, 97, 114, 103, 117, 109, 101, 110, 116, 32, 35]⟩ ++ D ++ ⟨#[32, 116, 111, 32, 39]⟩ ++ s ++ ⟨#[39]⟩ by unfold argS; rw [hD]]
  have hd : D.size ≤ 100 := hD ▸ hd0
  have HD := Lib.hid hD
  clear hD hd0
  have l1 : (⟨#[98, 97, 100, 32, 97, 114, 103, 117, 109, 101, 110, 116, 32, 35]⟩ : ByteArray).size = 14 := rfl
  have l2 : (⟨#[32, 116, 111, 32, 39]⟩ : ByteArray).size = 5 := rfl
  have l3 : (⟨#[39]⟩ : ByteArray).size = 1 := rfl
  have H0 := Lib.hid h0; have H1 := Lib.hid h1
  clear h0 h1
  go_enter Tryd.func26, Tryd.ntmps26
  go_wp2_with fail
  refine (digits_is' _ _ _ H0.out H1.out HD.out).mono ?_; rintro e w1 ⟨rfl, b1⟩
  go_wp2_with fail
  go_ret
  exact ⟨rfl, b1⟩

def zeroS (n : Int) : ByteArray := if n = 5 then ⟨#[97, 116, 116, 101, 109, 112, 116, 32, 116, 111, 32, 112, 101, 114, 102, 111, 114, 109, 32, 39, 110, 37, 37, 48, 39]⟩ else ⟨#[97, 116, 116, 101, 109, 112, 116, 32, 116, 111, 32, 112, 101, 114, 102, 111, 114, 109, 32, 39, 110, 47, 47, 48, 39]⟩
theorem zero_any (n : Int) (w : World) :
    Calls Tryd.prog 21 #[.int .i64 n] w fun e w' => e = .returned (.string (zeroS n)) ∧ w = w' := by
  by_cases h : n = 5
  · subst h
    go_enter Tryd.func21, Tryd.ntmps21
    go_wp2
    go_ret
    exact ⟨rfl, rfl⟩
  · rw [show zeroS n = ⟨#[97, 116, 116, 101, 109, 112, 116, 32, 116, 111, 32, 112, 101, 114, 102, 111, 114, 109, 32, 39, 110, 47, 47, 48, 39]⟩ from if_neg h]
    have g : (n == 5) = false := by simpa using h
    clear h
    go_enter Tryd.func21, Tryd.ntmps21
    go_wp2
    go_ret
    exact ⟨rfl, rfl⟩
theorem rzero_any (n : Int) (w : World) :
    Calls Tryd.prog 22 #[.int .i64 n] w fun e w' => e = .returned (.string (zeroS n)) ∧ w = w' := by
  by_cases h : n = 5
  · subst h
    go_enter Tryd.func22, Tryd.ntmps22
    go_wp2
    go_ret
    exact ⟨rfl, rfl⟩
  · rw [show zeroS n = ⟨#[97, 116, 116, 101, 109, 112, 116, 32, 116, 111, 32, 112, 101, 114, 102, 111, 114, 109, 32, 39, 110, 47, 47, 48, 39]⟩ from if_neg h]
    have g : (n == 5) = false := by simpa using h
    clear h
    go_enter Tryd.func22, Tryd.ntmps22
    go_wp2
    go_ret
    exact ⟨rfl, rfl⟩

def forS (n : Int) : ByteArray := if n = 0 then ⟨#[39, 102, 111, 114, 39, 32, 105, 110, 105, 116, 105, 97, 108, 32, 118, 97, 108, 117, 101, 32, 109, 117, 115, 116, 32, 98, 101, 32, 97, 32, 110, 117, 109, 98, 101, 114]⟩ else if n = 1 then ⟨#[39, 102, 111, 114, 39, 32, 108, 105, 109, 105, 116, 32, 109, 117, 115, 116, 32, 98, 101, 32, 97, 32, 110, 117, 109, 98, 101, 114]⟩ else if n = 2 then ⟨#[39, 102, 111, 114, 39, 32, 115, 116, 101, 112, 32, 109, 117, 115, 116, 32, 98, 101, 32, 97, 32, 110, 117, 109, 98, 101, 114]⟩ else if n = 3 then ⟨#[39, 102, 111, 114, 39, 32, 115, 116, 101, 112, 32, 105, 115, 32, 122, 101, 114, 111]⟩ else ⟨#[]⟩
theorem for_any (n : Int) (w : World) :
    Calls Tryd.prog 23 #[.int .i64 n] w fun e w' => e = .returned (.string (forS n)) ∧ w = w' := by
  rcases (show n = 0 ∨ n = 1 ∨ n = 2 ∨ n = 3 ∨ (n ≠ 0 ∧ n ≠ 1 ∧ n ≠ 2 ∧ n ≠ 3) by omega) with rfl | rfl | rfl | rfl | ⟨h0, h1, h2, h3⟩
  iterate 4
    · go_enter Tryd.func23, Tryd.ntmps23
      go_wp2
      go_ret
      exact ⟨rfl, rfl⟩
  · rw [show forS n = ⟨#[]⟩ by unfold forS; rw [if_neg h0, if_neg h1, if_neg h2, if_neg h3]]
    have g0 : (n == 0) = false := by simpa using h0
    have g1 : (n == 1) = false := by simpa using h1
    have g2 : (n == 2) = false := by simpa using h2
    have g3 : (n == 3) = false := by simpa using h3
    clear h0 h1 h2 h3
    go_enter Tryd.func23, Tryd.ntmps23
    go_wp2
    go_ret
    exact ⟨rfl, rfl⟩
theorem rfor_any (n : Int) (w : World) :
    Calls Tryd.prog 24 #[.int .i64 n] w fun e w' => e = .returned (.string (forS n)) ∧ w = w' := by
  rcases (show n = 0 ∨ n = 1 ∨ n = 2 ∨ n = 3 ∨ (n ≠ 0 ∧ n ≠ 1 ∧ n ≠ 2 ∧ n ≠ 3) by omega) with rfl | rfl | rfl | rfl | ⟨h0, h1, h2, h3⟩
  iterate 4
    · go_enter Tryd.func24, Tryd.ntmps24
      go_wp2
      go_ret
      exact ⟨rfl, rfl⟩
  · rw [show forS n = ⟨#[]⟩ by unfold forS; rw [if_neg h0, if_neg h1, if_neg h2, if_neg h3]]
    have g0 : (n == 0) = false := by simpa using h0
    have g1 : (n == 1) = false := by simpa using h1
    have g2 : (n == 2) = false := by simpa using h2
    have g3 : (n == 3) = false := by simpa using h3
    clear h0 h1 h2 h3
    go_enter Tryd.func24, Tryd.ntmps24
    go_wp2
    go_ret
    exact ⟨rfl, rfl⟩

def fieldS (s : ByteArray) : ByteArray := if s = ⟨#[110, 105, 108]⟩ then ⟨#[116, 97, 98, 108, 101, 32, 105, 110, 100, 101, 120, 32, 105, 115, 32, 110, 105, 108]⟩ else if s = ⟨#[100, 101, 97, 100]⟩ then ⟨#[99, 97, 110, 110, 111, 116, 32, 114, 101, 115, 117, 109, 101, 32, 100, 101, 97, 100, 32, 99, 111, 114, 111, 117, 116, 105, 110, 101]⟩ else if s = ⟨#[115, 101, 108, 102]⟩ then ⟨#[99, 97, 110, 110, 111, 116, 32, 114, 101, 115, 117, 109, 101, 32, 110, 111, 110, 45, 115, 117, 115, 112, 101, 110, 100, 101, 100, 32, 99, 111, 114, 111, 117, 116, 105, 110, 101]⟩ else if s = ⟨#[114, 117, 110, 110, 105, 110, 103]⟩ then ⟨#[99, 97, 110, 110, 111, 116, 32, 114, 101, 115, 117, 109, 101, 32, 110, 111, 110, 45, 115, 117, 115, 112, 101, 110, 100, 101, 100, 32, 99, 111, 114, 111, 117, 116, 105, 110, 101]⟩ else if s = ⟨#[121, 105, 101, 108, 100]⟩ then ⟨#[97, 116, 116, 101, 109, 112, 116, 32, 116, 111, 32, 121, 105, 101, 108, 100, 32, 102, 114, 111, 109, 32, 111, 117, 116, 115, 105, 100, 101, 32, 97, 32, 99, 111, 114, 111, 117, 116, 105, 110, 101]⟩ else if s = ⟨#[99, 104, 97, 105, 110]⟩ then ⟨#[39, 95, 95, 105, 110, 100, 101, 120, 39, 32, 99, 104, 97, 105, 110, 32, 116, 111, 111, 32, 108, 111, 110, 103, 59, 32, 112, 111, 115, 115, 105, 98, 108, 121, 32, 97, 32, 108, 111, 111, 112]⟩ else if s = ⟨#[99, 108, 111, 115, 101]⟩ then ⟨#[99, 97, 110, 110, 111, 116, 32, 99, 108, 111, 115, 101, 32, 97, 32, 114, 117, 110, 110, 105, 110, 103, 32, 99, 111, 114, 111, 117, 116, 105, 110, 101]⟩ else if s = ⟨#[110, 101, 120, 116]⟩ then ⟨#[105, 110, 118, 97, 108, 105, 100, 32, 107, 101, 121, 32, 116, 111, 32, 39, 110, 101, 120, 116, 39]⟩ else if s = ⟨#[108, 111, 110, 103]⟩ then ⟨#[116, 111, 111, 32, 109, 97, 110, 121, 32, 114, 101, 115, 117, 108, 116, 115]⟩ else if s = ⟨#[115, 101, 116]⟩ then ⟨#[119, 114, 111, 110, 103, 32, 110, 117, 109, 98, 101, 114, 32, 111, 102, 32, 97, 114, 103, 117, 109, 101, 110, 116, 115]⟩ else ⟨#[]⟩
set_option maxHeartbeats 1600000 in
theorem field_any (s : ByteArray) (w : World) :
    Calls Tryd.prog 27 #[.string s] w fun e w' => e = .returned (.string (fieldS s)) ∧ w = w' := by
  rcases (show s = ⟨#[110, 105, 108]⟩ ∨ s = ⟨#[100, 101, 97, 100]⟩ ∨ s = ⟨#[115, 101, 108, 102]⟩ ∨ s = ⟨#[114, 117, 110, 110, 105, 110, 103]⟩ ∨ s = ⟨#[121, 105, 101, 108, 100]⟩ ∨ s = ⟨#[99, 104, 97, 105, 110]⟩ ∨ s = ⟨#[99, 108, 111, 115, 101]⟩ ∨ s = ⟨#[110, 101, 120, 116]⟩ ∨ s = ⟨#[108, 111, 110, 103]⟩ ∨ s = ⟨#[115, 101, 116]⟩ ∨ (s ≠ ⟨#[110, 105, 108]⟩ ∧ s ≠ ⟨#[100, 101, 97, 100]⟩ ∧ s ≠ ⟨#[115, 101, 108, 102]⟩ ∧ s ≠ ⟨#[114, 117, 110, 110, 105, 110, 103]⟩ ∧ s ≠ ⟨#[121, 105, 101, 108, 100]⟩ ∧ s ≠ ⟨#[99, 104, 97, 105, 110]⟩ ∧ s ≠ ⟨#[99, 108, 111, 115, 101]⟩ ∧ s ≠ ⟨#[110, 101, 120, 116]⟩ ∧ s ≠ ⟨#[108, 111, 110, 103]⟩ ∧ s ≠ ⟨#[115, 101, 116]⟩) by
    by_cases h0 : s = ⟨#[110, 105, 108]⟩
    · exact .inl h0
    by_cases h1 : s = ⟨#[100, 101, 97, 100]⟩
    · exact .inr (.inl h1)
    by_cases h2 : s = ⟨#[115, 101, 108, 102]⟩
    · exact .inr (.inr (.inl h2))
    by_cases h3 : s = ⟨#[114, 117, 110, 110, 105, 110, 103]⟩
    · exact .inr (.inr (.inr (.inl h3)))
    by_cases h4 : s = ⟨#[121, 105, 101, 108, 100]⟩
    · exact .inr (.inr (.inr (.inr (.inl h4))))
    by_cases h5 : s = ⟨#[99, 104, 97, 105, 110]⟩
    · exact .inr (.inr (.inr (.inr (.inr (.inl h5)))))
    by_cases h6 : s = ⟨#[99, 108, 111, 115, 101]⟩
    · exact .inr (.inr (.inr (.inr (.inr (.inr (.inl h6))))))
    by_cases h7 : s = ⟨#[110, 101, 120, 116]⟩
    · exact .inr (.inr (.inr (.inr (.inr (.inr (.inr (.inl h7)))))))
    by_cases h8 : s = ⟨#[108, 111, 110, 103]⟩
    · exact .inr (.inr (.inr (.inr (.inr (.inr (.inr (.inr (.inl h8))))))))
    by_cases h9 : s = ⟨#[115, 101, 116]⟩
    · exact .inr (.inr (.inr (.inr (.inr (.inr (.inr (.inr (.inr (.inl h9)))))))))
    exact .inr (.inr (.inr (.inr (.inr (.inr (.inr (.inr (.inr (.inr (⟨h0, h1, h2, h3, h4, h5, h6, h7, h8, h9⟩))))))))))) with rfl | rfl | rfl | rfl | rfl | rfl | rfl | rfl | rfl | rfl | ⟨h0, h1, h2, h3, h4, h5, h6, h7, h8, h9⟩
  iterate 10
    · go_enter Tryd.func27, Tryd.ntmps27
      go_wp2
      go_ret
      exact ⟨rfl, rfl⟩
  · rw [show fieldS s = ⟨#[]⟩ by unfold fieldS; rw [if_neg h0, if_neg h1, if_neg h2, if_neg h3, if_neg h4, if_neg h5, if_neg h6, if_neg h7, if_neg h8, if_neg h9]]
    have g0 : (s.toList == [110, 105, 108]) = false := beq_ne' h0
    have g1 : (s.toList == [100, 101, 97, 100]) = false := beq_ne' h1
    have g2 : (s.toList == [115, 101, 108, 102]) = false := beq_ne' h2
    have g3 : (s.toList == [114, 117, 110, 110, 105, 110, 103]) = false := beq_ne' h3
    have g4 : (s.toList == [121, 105, 101, 108, 100]) = false := beq_ne' h4
    have g5 : (s.toList == [99, 104, 97, 105, 110]) = false := beq_ne' h5
    have g6 : (s.toList == [99, 108, 111, 115, 101]) = false := beq_ne' h6
    have g7 : (s.toList == [110, 101, 120, 116]) = false := beq_ne' h7
    have g8 : (s.toList == [108, 111, 110, 103]) = false := beq_ne' h8
    have g9 : (s.toList == [115, 101, 116]) = false := beq_ne' h9
    clear h0 h1 h2 h3 h4 h5 h6 h7 h8 h9
    go_enter Tryd.func27, Tryd.ntmps27
    go_wp2
    go_ret
    exact ⟨rfl, rfl⟩
set_option maxHeartbeats 1600000 in
theorem rfield_any (s : ByteArray) (w : World) :
    Calls Tryd.prog 28 #[.string s] w fun e w' => e = .returned (.string (fieldS s)) ∧ w = w' := by
  rcases (show s = ⟨#[110, 105, 108]⟩ ∨ s = ⟨#[100, 101, 97, 100]⟩ ∨ s = ⟨#[115, 101, 108, 102]⟩ ∨ s = ⟨#[114, 117, 110, 110, 105, 110, 103]⟩ ∨ s = ⟨#[121, 105, 101, 108, 100]⟩ ∨ s = ⟨#[99, 104, 97, 105, 110]⟩ ∨ s = ⟨#[99, 108, 111, 115, 101]⟩ ∨ s = ⟨#[110, 101, 120, 116]⟩ ∨ s = ⟨#[108, 111, 110, 103]⟩ ∨ s = ⟨#[115, 101, 116]⟩ ∨ (s ≠ ⟨#[110, 105, 108]⟩ ∧ s ≠ ⟨#[100, 101, 97, 100]⟩ ∧ s ≠ ⟨#[115, 101, 108, 102]⟩ ∧ s ≠ ⟨#[114, 117, 110, 110, 105, 110, 103]⟩ ∧ s ≠ ⟨#[121, 105, 101, 108, 100]⟩ ∧ s ≠ ⟨#[99, 104, 97, 105, 110]⟩ ∧ s ≠ ⟨#[99, 108, 111, 115, 101]⟩ ∧ s ≠ ⟨#[110, 101, 120, 116]⟩ ∧ s ≠ ⟨#[108, 111, 110, 103]⟩ ∧ s ≠ ⟨#[115, 101, 116]⟩) by
    by_cases h0 : s = ⟨#[110, 105, 108]⟩
    · exact .inl h0
    by_cases h1 : s = ⟨#[100, 101, 97, 100]⟩
    · exact .inr (.inl h1)
    by_cases h2 : s = ⟨#[115, 101, 108, 102]⟩
    · exact .inr (.inr (.inl h2))
    by_cases h3 : s = ⟨#[114, 117, 110, 110, 105, 110, 103]⟩
    · exact .inr (.inr (.inr (.inl h3)))
    by_cases h4 : s = ⟨#[121, 105, 101, 108, 100]⟩
    · exact .inr (.inr (.inr (.inr (.inl h4))))
    by_cases h5 : s = ⟨#[99, 104, 97, 105, 110]⟩
    · exact .inr (.inr (.inr (.inr (.inr (.inl h5)))))
    by_cases h6 : s = ⟨#[99, 108, 111, 115, 101]⟩
    · exact .inr (.inr (.inr (.inr (.inr (.inr (.inl h6))))))
    by_cases h7 : s = ⟨#[110, 101, 120, 116]⟩
    · exact .inr (.inr (.inr (.inr (.inr (.inr (.inr (.inl h7)))))))
    by_cases h8 : s = ⟨#[108, 111, 110, 103]⟩
    · exact .inr (.inr (.inr (.inr (.inr (.inr (.inr (.inr (.inl h8))))))))
    by_cases h9 : s = ⟨#[115, 101, 116]⟩
    · exact .inr (.inr (.inr (.inr (.inr (.inr (.inr (.inr (.inr (.inl h9)))))))))
    exact .inr (.inr (.inr (.inr (.inr (.inr (.inr (.inr (.inr (.inr (⟨h0, h1, h2, h3, h4, h5, h6, h7, h8, h9⟩))))))))))) with rfl | rfl | rfl | rfl | rfl | rfl | rfl | rfl | rfl | rfl | ⟨h0, h1, h2, h3, h4, h5, h6, h7, h8, h9⟩
  iterate 10
    · go_enter Tryd.func28, Tryd.ntmps28
      go_wp2
      go_ret
      exact ⟨rfl, rfl⟩
  · rw [show fieldS s = ⟨#[]⟩ by unfold fieldS; rw [if_neg h0, if_neg h1, if_neg h2, if_neg h3, if_neg h4, if_neg h5, if_neg h6, if_neg h7, if_neg h8, if_neg h9]]
    have g0 : (s.toList == [110, 105, 108]) = false := beq_ne' h0
    have g1 : (s.toList == [100, 101, 97, 100]) = false := beq_ne' h1
    have g2 : (s.toList == [115, 101, 108, 102]) = false := beq_ne' h2
    have g3 : (s.toList == [114, 117, 110, 110, 105, 110, 103]) = false := beq_ne' h3
    have g4 : (s.toList == [121, 105, 101, 108, 100]) = false := beq_ne' h4
    have g5 : (s.toList == [99, 104, 97, 105, 110]) = false := beq_ne' h5
    have g6 : (s.toList == [99, 108, 111, 115, 101]) = false := beq_ne' h6
    have g7 : (s.toList == [110, 101, 120, 116]) = false := beq_ne' h7
    have g8 : (s.toList == [108, 111, 110, 103]) = false := beq_ne' h8
    have g9 : (s.toList == [115, 101, 116]) = false := beq_ne' h9
    clear h0 h1 h2 h3 h4 h5 h6 h7 h8 h9
    go_enter Tryd.func28, Tryd.ntmps28
    go_wp2
    go_ret
    exact ⟨rfl, rfl⟩
end Go.Proofs.YtpfdidggogddgaaDoor
