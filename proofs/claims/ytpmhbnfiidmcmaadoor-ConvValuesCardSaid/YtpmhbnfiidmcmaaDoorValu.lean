/- selkielaw03.ConvValues answers true at any number and value whose numbers are int64, wherever the table of powers lies as the program's text lays it. -/
import Derived.Test.YtpmhbnfiidmcmaaDoorRead
import Derived.Test.YtpmhbnfiidmcmaaDoorDig
namespace Go.Proofs.YtpmhbnfiidmcmaaDoor
open Go.RowKit Go.Sort

set_option maxHeartbeats 400000 in
theorem rNumber (k n : Int) (s : ByteArray) (w : World) (hs : s.size ≤ 9223372036854775807) :
    Calls Tryd.prog 16 #[V k n s] w fun e w' => e = .returned (.tuple #[.int .i64 (nmN k n s), .bool (nmO k s)]) ∧ Below w.heap.size w w' := by
  rcases kinds3 k with rfl | rfl | ⟨g2, g3, h2, h3⟩
  · go_enter Tryd.func16, Tryd.ntmps16
    go_wp2
    go_ret2
    exact ⟨rfl, below1 _ _⟩
  · have HE := Lib.hid (show nmN 3 n s = toN s.data.toList by unfold nmN; rw [if_neg (by decide), if_pos rfl])
    have HO := Lib.hid (show nmO 3 s = toO s.data.toList by unfold nmO; rw [if_neg (by decide), if_pos rfl])
    go_enter Tryd.func16, Tryd.ntmps16
    go_wp2_with fail
    refine (rToInt _ _ hs).mono ?_; rintro e w1 ⟨rfl, rfl⟩
    go_wp2_with fail
    go_ret2
    exact ⟨ret_in HE.out.symm HO.out.symm, below1 _ _⟩
  · rw [show nmN k n s = 0 by simp [nmN, h2, h3], show nmO k s = false by simp [nmO, h2, h3]]
    clear h2 h3
    go_enter Tryd.func16, Tryd.ntmps16
    go_wp2
    go_ret2
    exact ⟨rfl, below1 _ _⟩

theorem rDigits (n : Int) (w : World) (h0 : -9223372036854775808 ≤ n) (h1 : n ≤ 9223372036854775807) :
    Calls Tryd.prog 20 #[.int .i64 n] w fun e w' => e = .returned (.string (digS n)) ∧ Below w.heap.size w w' := digits_any n.natAbs n w (Nat.le_refl _) h0 h1

set_option maxHeartbeats 400000 in
theorem rString (k n : Int) (s : ByteArray) (w : World) (hn0 : -9223372036854775808 ≤ n) (hn1 : n ≤ 9223372036854775807) :
    Calls Tryd.prog 18 #[V k n s] w fun e w' => e = .returned (.tuple #[.string (stS k n s), .bool (stO k)]) ∧ Below w.heap.size w w' := by
  rcases kinds3 k with rfl | rfl | ⟨g2, g3, h2, h3⟩
  · have H0 := Lib.hid hn0; have H1 := Lib.hid hn1
    clear hn0 hn1
    go_enter Tryd.func18, Tryd.ntmps18
    go_wp2_with fail
    refine (rDigits _ _ H0.out H1.out).mono ?_; rintro e w1 ⟨rfl, b1⟩
    go_wp2_with fail
    go_ret2
    exact ⟨ret_so rfl rfl, thenB (below1 _ _) b1⟩
  · clear hn0 hn1
    go_enter Tryd.func18, Tryd.ntmps18
    go_wp2
    go_ret2
    exact ⟨rfl, below1 _ _⟩
  · rw [show stS k n s = noS by simp [stS, h2, h3], show stO k = false by simp [stO, h2, h3]]
    clear h2 h3 hn0 hn1
    go_enter Tryd.func18, Tryd.ntmps18
    go_wp2
    go_ret2
    exact ⟨rfl, below1 _ _⟩

set_option maxHeartbeats 1600000 in
theorem values_any (n ka na : Int) (sa : ByteArray) (w : World) (hT : Tab w) (h0 : -9223372036854775808 ≤ n) (h1 : n ≤ 9223372036854775807) (hn0 : -9223372036854775808 ≤ na) (hn1 : na ≤ 9223372036854775807) :
    Calls Tryd.prog 4 #[.int .i64 n, V ka na sa] w fun e w' => e = .returned (.bool true) ∧ Below w.heap.size w w' := by
  have HT := Lib.hid hT; have H0 := Lib.hid h0; have H1 := Lib.hid h1; have N0 := Lib.hid hn0; have N1 := Lib.hid hn1
  clear hT h0 h1 hn0 hn1
  by_cases hs : sa.size ≤ 10000
  · go_enter Tryd.func4, Tryd.ntmps4
    go_wp2_with fail
    refine (alive_any _ (HT.out.below (below1 _ _))).mono ?_; rintro e w1 ⟨rfl, b1⟩
    have HA := Lib.hid ((at_new w ka na sa).below b1)
    have B1 := Lib.hid (thenB (below1 _ _) b1)
    clear b1
    have a0 := HA.out.c0; have a1 := HA.out.c1; have a2 := HA.out.c2
    go_wp2_with fail
    refine (cNumber _ _ _ _ (by omega)).mono ?_; rintro e w2 ⟨rfl, bb⟩
    have B2 := Lib.hid (thenB B1.out bb)
    have HA2 := Lib.hid (HA.out.below bb)
    clear a0 a1 a2 HA B1 bb
    have a0 := HA2.out.c0; have a1 := HA2.out.c1; have a2 := HA2.out.c2
    go_wp2_with fail
    refine (rNumber _ _ _ _ (by omega)).mono ?_; rintro e w3 ⟨rfl, bb⟩
    have B3 := Lib.hid (thenB B2.out bb)
    have HA3 := Lib.hid (HA2.out.below bb)
    clear a0 a1 a2 HA2 B2 bb
    have a0 := HA3.out.c0; have a1 := HA3.out.c1; have a2 := HA3.out.c2
    go_wp2_with fail
    refine (cString _ _ _ _ (HT.out.below B3.out) N0.out N1.out).mono ?_; rintro e w4 ⟨rfl, bb⟩
    have B4 := Lib.hid (thenB B3.out bb)
    have HA4 := Lib.hid (HA3.out.below bb)
    clear a0 a1 a2 HA3 B3 bb
    have a0 := HA4.out.c0; have a1 := HA4.out.c1; have a2 := HA4.out.c2
    go_wp2_with fail
    refine (rString _ _ _ _ N0.out N1.out).mono ?_; rintro e w5 ⟨rfl, bb⟩
    have B5 := Lib.hid (thenB B4.out bb)
    clear a0 a1 a2 HA4 B4 bb
    go_wp2_with fail
    refine (cPrint _ _ (HT.out.below B5.out) H0.out H1.out).mono ?_; rintro e w6 ⟨rfl, bb⟩
    have B6 := Lib.hid (thenB B5.out bb)
    clear B5 bb
    go_wp2_with fail
    refine (rDigits _ _ H0.out H1.out).mono ?_; rintro e w7 ⟨rfl, bb⟩
    have B7 := Lib.hid (thenB B6.out bb)
    clear B6 bb
    go_wp2_with fail
    go_ret
    exact ⟨rfl, B7.out⟩
  · go_enter Tryd.func4, Tryd.ntmps4
    go_wp2_with fail
    refine (alive_any _ (HT.out.below (below1 _ _))).mono ?_; rintro e w1 ⟨rfl, b1⟩
    have HA := Lib.hid ((at_new w ka na sa).below b1)
    have B1 := Lib.hid (thenB (below1 _ _) b1)
    clear b1
    have a0 := HA.out.c0; have a1 := HA.out.c1; have a2 := HA.out.c2
    go_wp2_with fail
    go_ret
    exact ⟨rfl, B1.out⟩
end Go.Proofs.YtpmhbnfiidmcmaaDoor
