/- str.Rep: a string so often, with another one between. -/
import Derived.Test.YtnpmnielknmboaaGreatDoorSDef
import Derived.Test.YtnpmnielknmboaaGreatDoorShelf
import Derived.Lib.TrimByte
namespace Go.Proofs.YtnpmnielknmboaaGreatDoor
open Go.RowKit Go.Sort

theorem str_add (a b : List UInt8) : (⟨a.toArray⟩ : ByteArray) ++ ⟨b.toArray⟩ = ⟨(a ++ b).toArray⟩ := by
  apply ByteArray.ext
  simp
theorem str_cat (a b : ByteArray) : a ++ b = ⟨(a.data.toList ++ b.data.toList).toArray⟩ := by
  apply ByteArray.ext
  simp
theorem mk_list (l : List UInt8) : (⟨l.toArray⟩ : ByteArray).data.toList = l := rfl

set_option maxHeartbeats 1000000 in
theorem rep_low (s b : ByteArray) (n most : Int) (w : World) (h : n ≤ 0) :
    Calls Tryz.prog 20 #[.string s, .int .i64 n, .string b, .int .i64 most] w fun e w' => e = .returned (.tuple #[.string ⟨(repS s.data.toList b.data.toList n most).toArray⟩, .int .i64 (repN s.data.toList b.data.toList n most)]) ∧ Below w.heap.size w w' := by
  have HR := Lib.hid (repS_no (s := s.data.toList) (b := b.data.toList) (repB_low (most := most) h))
  have HL := Lib.hid (rep_nil (s := s.data.toList) (b := b.data.toList) h)
  go_enter Tryz.func20, Tryz.ntmps20
  go_wp2
  go_ret2
  exact ⟨ret_si (by rw [HR.out.1, HL.out]) HR.out.2.symm, below2 _ _⟩

/-- Whether it fits, as the program asks it. -/
theorem rep_fits {ls lb M k : Int} (he : 0 < lb + ls) : (M - ls) / (lb + ls) < k ↔ M < ls + k * (lb + ls) := by
  constructor
  · intro h
    have := Int.lt_mul_of_ediv_lt he h
    omega
  · intro h
    exact Int.ediv_lt_of_lt_mul he (by omega)

set_option maxHeartbeats 4000000 in
set_option maxRecDepth 100000 in
theorem rep_high (s b : ByteArray) (n most : Int) (w : World) (h : 1 ≤ n) (hn : n ≤ 9223372036854775807) (hm : most ≤ 2147483647) (hs : s.size ≤ 3000) (hb : b.size ≤ 3000) :
    Calls Tryz.prog 20 #[.string s, .int .i64 n, .string b, .int .i64 most] w fun e w' => e = .returned (.tuple #[.string ⟨(repS s.data.toList b.data.toList n most).toArray⟩, .int .i64 (repN s.data.toList b.data.toList n most)]) ∧ Below w.heap.size w w' := by
  obtain ⟨M, hM, hM0, hM1⟩ : ∃ M : Int, M = max 0 most ∧ 0 ≤ M ∧ M ≤ 2147483647 := ⟨_, rfl, by omega, by omega⟩
  have HBd := Lib.hid (fun W => hM ▸ bound_any most W hm)
  have HM := Lib.hid hM
  clear hM
  have hg0 : decide (n ≤ 0) = false := decide_eq_false (by omega)
  by_cases h1 : M - s.size < 0
  · have hB : repB s.data.toList.length b.data.toList.length n most = true := by
      rw [repB_is h, ← HM.out, ← Lib.size_eq, ← Lib.size_eq]
      have := Int.mul_nonneg (a := n - 1) (b := (b.size : Int) + s.size) (by omega) (by omega)
      exact decide_eq_true (by omega)
    have HR := Lib.hid (repS_yes hB)
    clear hB
    go_enter Tryz.func20, Tryz.ntmps20
    go_wp2_with (go_at_call 29; refine (HBd.out _).mono ?_; rintro e w' ⟨rfl, rfl⟩)
    go_ret2
    exact ⟨ret_si (by rw [HR.out.1]) HR.out.2.symm, below2 _ _⟩
  · have hg1 : decide (M - (s.size : Int) < 0) = false := decide_eq_false h1
    by_cases he : b.size + s.size = 0
    · have HL := Lib.hid (rep_empty (s := s.data.toList) (b := b.data.toList) (by rw [← Lib.size_eq, ← Lib.size_eq]; omega) n)
      have hB : repB s.data.toList.length b.data.toList.length n most = false := by
        rw [repB_is h, ← HM.out, ← Lib.size_eq, ← Lib.size_eq, show ((b.size : Int) + s.size) = 0 from by omega]
        exact decide_eq_false (by omega)
      have HR := Lib.hid (repS_no hB)
      have hg2 : (((b.size : Int) + s.size) == 0) = true := by rw [show ((b.size : Int) + s.size) = 0 from by omega]; rfl
      clear hB
      go_enter Tryz.func20, Tryz.ntmps20
      go_wp2_with (go_at_call 29; refine (HBd.out _).mono ?_; rintro e w' ⟨rfl, rfl⟩)
      go_ret2
      exact ⟨ret_si (by rw [HR.out.1, HL.out]) HR.out.2.symm, below2 _ _⟩
    · have hg2 : (((b.size : Int) + s.size) == 0) = false := beq_eq_false_iff_ne.2 (by omega)
      have hq0 : 0 ≤ (M - s.size) / ((b.size : Int) + s.size) := Int.ediv_nonneg (by omega) (by omega)
      have hq1 : (M - s.size) / ((b.size : Int) + s.size) ≤ 2147483647 := Int.le_trans (Int.ediv_le_self _ (by omega)) (by omega)
      have hf := rep_fits (ls := s.size) (lb := b.size) (M := M) (k := n - 1) (by omega)
      by_cases h2 : (M - s.size) / ((b.size : Int) + s.size) < n - 1
      · have hB : repB s.data.toList.length b.data.toList.length n most = true := by
          rw [repB_is h, ← HM.out, ← Lib.size_eq, ← Lib.size_eq]
          exact decide_eq_true (hf.1 h2)
        have HR := Lib.hid (repS_yes hB)
        clear hB hf
        go_enter Tryz.func20, Tryz.ntmps20
        go_wp2_with (go_at_call 29; refine (HBd.out _).mono ?_; rintro e w' ⟨rfl, rfl⟩)
        go_ret2
        exact ⟨ret_si (by rw [HR.out.1]) HR.out.2.symm, below2 _ _⟩
      · have hB : repB s.data.toList.length b.data.toList.length n most = false := by
          rw [repB_is h, ← HM.out, ← Lib.size_eq, ← Lib.size_eq]
          exact decide_eq_false (fun hh => h2 (hf.2 hh))
        have HR := Lib.hid (repS_no hB)
        have hlen : (n - 1) * ((b.size : Int) + s.size) ≤ 2147483647 := by
          have : ¬ M < (s.size : Int) + (n - 1) * ((b.size : Int) + s.size) := fun hh => h2 (hf.2 hh)
          omega
        obtain ⟨k, rfl⟩ : ∃ k : Nat, n = (k : Int) + 1 := ⟨(n - 1).toNat, by omega⟩
        have hk : (b ++ s).size * k ≤ 2147483647 := by
          rw [ByteArray.size_append, Nat.mul_comm]
          rw [show (k : Int) + 1 - 1 = (k : Int) from by omega] at hlen
          have e : (k : Int) * ((b.size : Int) + s.size) = ((k * (b.size + s.size) : Nat) : Int) := by simp
          omega
        obtain ⟨r, hr⟩ : ∃ r : ByteArray, r = ⟨(Lib.repeatL (b ++ s).data.toList k).toArray⟩ := ⟨_, rfl⟩
        have HRp := Lib.hid (fun W => hr ▸ Tryz.strings_Repeat (b ++ s) k W (by omega) (by omega))
        have HRe := Lib.hid hr
        have hkz : (Lib.repeatL (b ++ s).data.toList k).length ≤ 2147483647 := by
          rw [Lib.repeatL_length, ← Lib.size_eq, Nat.mul_comm]; exact hk
        have hkz' : r.size ≤ 2147483647 := by rw [hr, Lib.size_mk]; exact hkz
        clear hr
        have hd : decide ((M - (s.size : Int)) / ((b.size : Int) + s.size) < (k : Int)) = false := decide_eq_false (by omega)
        have HN := Lib.hid (rep_nat s.data.toList b.data.toList k)
        clear hB hf h2 hlen hk hkz
        go_enter Tryz.func20, Tryz.ntmps20
        go_wp2_with fail
        refine (HBd.out _).mono ?_; rintro e w' ⟨rfl, rfl⟩
        clear hq0 hq1
        go_wp2_with fail
        refine (HRp.out _).mono ?_; rintro e w1 ⟨rfl, b1⟩
        go_wp2_with fail
        go_ret2
        exact ⟨ret_si (by rw [HR.out.1, HN.out, str_cat, HRe.out, mk_list, str_cat, mk_list]) HR.out.2.symm, b1⟩

theorem rep_any (s b : ByteArray) (n most : Int) (w : World) (hn : n ≤ 9223372036854775807) (hm : most ≤ 2147483647) (hs : s.size ≤ 3000) (hb : b.size ≤ 3000) :
    Calls Tryz.prog 20 #[.string s, .int .i64 n, .string b, .int .i64 most] w fun e w' => e = .returned (.tuple #[.string ⟨(repS s.data.toList b.data.toList n most).toArray⟩, .int .i64 (repN s.data.toList b.data.toList n most)]) ∧ Below w.heap.size w w' := by
  by_cases h : n ≤ 0
  · exact rep_low s b n most w h
  · exact rep_high s b n most w (by omega) hn hm hs hb
end Go.Proofs.YtnpmnielknmboaaGreatDoor
