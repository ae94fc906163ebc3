/- The document's Rep, Join and Find: plain functions of lists. -/
import Derived.Test.YtnpmnielknmboaaDoorBuf
import Derived.LoopTactic
namespace Go.Proofs.YtnpmnielknmboaaDoor
open Go.RowKit Go.Sort

theorem ret_si {a a' : ByteArray} {n n' : Int} (h : a = a') (h' : n = n') : Ending.returned (.tuple #[.string a, .int .i64 n]) = .returned (.tuple #[.string a', .int .i64 n']) := by rw [h, h']
theorem ret_iib {a a' b b' : Int} {c c' : Bool} (h : a = a') (h' : b = b') (h'' : c = c') : Ending.returned (.tuple #[.int .i64 a, .int .i64 b, .bool c]) = .returned (.tuple #[.int .i64 a', .int .i64 b', .bool c']) := by rw [h, h', h'']

/-- What Rep answers: the string and the error's number. -/
def repS (s b : List UInt8) (n most : Int) : List UInt8 := if repB s.length b.length n most then [] else repL s b n
def repN (s b : List UInt8) (n most : Int) : Int := if repB s.length b.length n most then 3 else 0

theorem repS_no {s b : List UInt8} {n most : Int} (h : repB s.length b.length n most = false) : repS s b n most = repL s b n ∧ repN s b n most = 0 := by
  unfold repS repN; rw [h]; exact ⟨rfl, rfl⟩
theorem repS_yes {s b : List UInt8} {n most : Int} (h : repB s.length b.length n most = true) : repS s b n most = [] ∧ repN s b n most = 3 := by
  unfold repS repN; rw [h]; exact ⟨rfl, rfl⟩
theorem repB_low {ls lb : Nat} {n most : Int} (h : n ≤ 0) : repB ls lb n most = false := by
  unfold repB; rw [decide_eq_false (by omega)]; rfl

set_option maxHeartbeats 1000000 in
theorem rrep_low (s b : ByteArray) (n most : Int) (w : World) (h : n ≤ 0) (hm : most ≤ 100000) :
    Calls Tryd.prog 9 #[.string s, .int .i64 n, .string b, .int .i64 most] w fun e w' => e = .returned (.tuple #[.string ⟨(repS s.data.toList b.data.toList n most).toArray⟩, .int .i64 (repN s.data.toList b.data.toList n most)]) ∧ Below w.heap.size w w' := by
  have HR := Lib.hid (repS_no (s := s.data.toList) (b := b.data.toList) (repB_low (most := most) h))
  have HL := Lib.hid (rep_nil (s := s.data.toList) (b := b.data.toList) h)
  go_enter Tryd.func9, Tryd.ntmps9
  go_wp2
  all_goals
    go_ret2
    exact ⟨ret_si (by rw [HR.out.1, HL.out]) HR.out.2.symm, below2 _ _⟩

set_option maxHeartbeats 1000000 in
theorem rrep_none (s b : ByteArray) (n most : Int) (w : World) (h : 1 ≤ n) (hm : most ≤ 100000) (he : s.size + b.size = 0) :
    Calls Tryd.prog 9 #[.string s, .int .i64 n, .string b, .int .i64 most] w fun e w' => e = .returned (.tuple #[.string ⟨(repS s.data.toList b.data.toList n most).toArray⟩, .int .i64 (repN s.data.toList b.data.toList n most)]) ∧ Below w.heap.size w w' := by
  have hs0 : s.data.toList.length = 0 := by rw [← Lib.size_eq]; omega
  have hb0 : b.data.toList.length = 0 := by rw [← Lib.size_eq]; omega
  have hB : repB s.data.toList.length b.data.toList.length n most = false := by
    rw [hs0, hb0]; unfold repB
    rw [show ((n - 1) * (((0 : Nat) : Int) + ((0 : Nat) : Int))) = 0 by simp]
    rw [decide_eq_false (p := max 0 most < _) (by omega)]
    exact Bool.and_false _
  have HR := Lib.hid (repS_no hB)
  have HL := Lib.hid (rep_empty (s := s.data.toList) (b := b.data.toList) (by omega) n)
  have e1 : (s.size : Int) = 0 := by omega
  have e2 : (b.size : Int) = 0 := by omega
  clear hs0 hb0 hB he
  go_enter Tryd.func9, Tryd.ntmps9
  go_wp2
  all_goals
    go_ret2
    exact ⟨ret_si (by rw [HR.out.1, HL.out]) HR.out.2.symm, below2 _ _⟩

/-- n - 1 is more than what fits: too long. -/
theorem rep_far {ls lb n most : Int} (he : 0 < ls + lb) (h : (most + lb) / (ls + lb) < n - 1) : most < ls + (n - 1) * (lb + ls) := by
  have h1 : most + lb < (n - 1) * (ls + lb) := by
    have := Int.lt_mul_of_ediv_lt (a := most + lb) (b := n - 1) (c := ls + lb) he h
    exact this
  rw [Int.add_comm lb ls]
  omega
theorem rep_len (ls lb n : Int) : n * (ls + lb) - lb = ls + (n - 1) * (lb + ls) := by
  rw [Int.sub_mul, Int.add_comm lb ls, Int.one_mul]
  omega
theorem repB_is {ls lb : Nat} {n most : Int} (h : 1 ≤ n) : repB ls lb n most = decide (max 0 most < (ls : Int) + (n - 1) * ((lb : Int) + ls)) := by
  unfold repB; rw [decide_eq_true h]; rfl
theorem rep_mono (s b : List UInt8) {j n : Nat} (h : j ≤ n) : (repL s b j).length ≤ (repL s b n).length := by
  cases j with
  | zero => rw [rep_nil (by omega)]; exact Nat.zero_le _
  | succ j =>
    obtain ⟨m, rfl⟩ : ∃ m, n = m + 1 := ⟨n - 1, by omega⟩
    rw [show (((j + 1 : Nat) : Int)) = (j : Int) + 1 from by omega, show (((m + 1 : Nat) : Int)) = (m : Int) + 1 from by omega, rep_length, rep_length]
    have := Nat.mul_le_mul_right (b.length + s.length) (show j ≤ m by omega)
    omega
/-- What the law's numbers say where it is long: it is within the bound, or it isn't. -/
theorem rep_cases {ls lb : Nat} {n M : Int} (h : 1 ≤ n) (he : 0 < ls + lb) (hM : 0 ≤ M) (hM' : M ≤ 100000) (hl : ls ≤ 3000) (hb : lb ≤ 3000) (h1 : n - 1 ≤ (M + lb) / (ls + lb)) :
    ∃ L : Int, wrap64 (wrap64 (n * ((ls : Int) + lb)) - lb) = L ∧ L = (ls : Int) + (n - 1) * ((lb : Int) + ls) ∧ n ≤ 200000 ∧ 0 ≤ L ∧ L ≤ 2000000000 := by
  have hq : (M + lb) / ((ls : Int) + lb) ≤ M + lb := Int.ediv_le_self _ (by omega)
  have hn : n ≤ 103001 := by omega
  obtain ⟨k, rfl⟩ : ∃ k : Nat, n = (k : Int) := ⟨n.toNat, by omega⟩
  have hk : k * (ls + lb) ≤ 103001 * 6000 := Nat.mul_le_mul (by omega) (by omega)
  have hk1 : 1 * (ls + lb) ≤ k * (ls + lb) := Nat.mul_le_mul_right _ (by omega)
  have e : (k : Int) * ((ls : Int) + lb) = ((k * (ls + lb) : Nat) : Int) := by simp
  refine ⟨_, rfl, ?_, by omega, ?_⟩
  · rw [← rep_len, e]
    generalize k * (ls + lb) = X at *
    rw [show wrap64 (X : Int) = X from by unfold wrap64; omega]
    unfold wrap64; omega
  · rw [e]
    generalize k * (ls + lb) = X at *
    rw [show wrap64 (X : Int) = X from by unfold wrap64; omega]
    unfold wrap64; omega
set_option maxHeartbeats 4000000 in
set_option maxRecDepth 100000 in
theorem rrep_long (s b : ByteArray) (n most : Int) (w : World) (h : 1 ≤ n) (hn : n ≤ 9223372036854775807) (hm : most ≤ 100000) (he : 0 < s.size + b.size) (hs : s.size ≤ 3000) (hb : b.size ≤ 3000) :
    Calls Tryd.prog 9 #[.string s, .int .i64 n, .string b, .int .i64 most] w fun e w' => e = .returned (.tuple #[.string ⟨(repS s.data.toList b.data.toList n most).toArray⟩, .int .i64 (repN s.data.toList b.data.toList n most)]) ∧ Below w.heap.size w w' := by
  have e0 : (((s.size : Int) + (b.size : Int)) == 0) = false := beq_eq_false_iff_ne.2 (by omega)
  have e1 : 0 < (s.size : Int) + (b.size : Int) := by omega
  obtain ⟨M, hM, hM0, hM1⟩ : ∃ M : Int, M = max 0 most ∧ 0 ≤ M ∧ M ≤ 100000 := ⟨_, rfl, by omega, by omega⟩
  have HM := Lib.hid hM
  clear hM
  have hq0 : 0 ≤ (M + b.size) / ((s.size : Int) + b.size) := Int.ediv_nonneg (by omega) (by omega)
  have hq1 : (M + b.size) / ((s.size : Int) + b.size) ≤ 103000 := Int.le_trans (Int.ediv_le_self _ (by omega)) (by omega)
  by_cases h1 : (M + b.size) / ((s.size : Int) + b.size) < n - 1
  · have hB : repB s.data.toList.length b.data.toList.length n most = true := by
      rw [repB_is h, ← HM.out, ← Lib.size_eq, ← Lib.size_eq]
      exact decide_eq_true (rep_far e1 h1)
    have HR := Lib.hid (repS_yes hB)
    clear hB
    rcases Int.lt_or_le 0 most with hp | hp
    · obtain rfl : most = M := by have := HM.out; omega
      go_enter Tryd.func9, Tryd.ntmps9
      go_wp2
      go_ret2
      exact ⟨ret_si (by rw [HR.out.1]) HR.out.2.symm, below2 _ _⟩
    · obtain rfl : (0 : Int) = M := by have := HM.out; omega
      rw [Int.zero_add] at h1 hq0 hq1
      go_enter Tryd.func9, Tryd.ntmps9
      go_wp2
      go_ret2
      exact ⟨ret_si (by rw [HR.out.1]) HR.out.2.symm, below2 _ _⟩
  · have h1' : n - 1 ≤ (M + b.size) / ((s.size : Int) + b.size) := by omega
    obtain ⟨L, eL, eL', hn', hL0, hL1⟩ := rep_cases h he hM0 hM1 hs hb h1'
    have EL := Lib.hid eL
    have EL' := Lib.hid eL'
    by_cases h2 : M < L
    · have hB : repB s.data.toList.length b.data.toList.length n most = true := by
        rw [repB_is h, ← HM.out, ← Lib.size_eq, ← Lib.size_eq, ← eL']
        exact decide_eq_true h2
      have HR := Lib.hid (repS_yes hB)
      clear hB eL' h1
      rcases Int.lt_or_le 0 most with hp | hp
      · obtain rfl : most = M := by have := HM.out; omega
        have hd : decide ((most + (b.size : Int)) / ((s.size : Int) + b.size) < n - 1) = false := decide_eq_false (by omega)
        go_enter Tryd.func9, Tryd.ntmps9
        go_wp2
        go_ret2
        exact ⟨ret_si (by rw [HR.out.1]) HR.out.2.symm, below2 _ _⟩
      · obtain rfl : (0 : Int) = M := by have := HM.out; omega
        rw [Int.zero_add] at h1' hq0 hq1
        have hd : decide ((b.size : Int) / ((s.size : Int) + b.size) < n - 1) = false := decide_eq_false (by omega)
        go_enter Tryd.func9, Tryd.ntmps9
        go_wp2
        go_ret2
        exact ⟨ret_si (by rw [HR.out.1]) HR.out.2.symm, below2 _ _⟩
    · have hB : repB s.data.toList.length b.data.toList.length n most = false := by
        rw [repB_is h, ← HM.out, ← Lib.size_eq, ← Lib.size_eq, ← eL']
        exact decide_eq_false h2
      have HR := Lib.hid (repS_no hB)
      clear hB h1
      obtain ⟨k, rfl⟩ : ∃ k : Nat, n = (k : Int) := ⟨n.toNat, by omega⟩
      have hlen : ∀ j : Nat, j ≤ k → (repL s.data.toList b.data.toList j).length ≤ 100000 := by
        intro j hj
        refine Nat.le_trans (rep_mono _ _ hj) ?_
        have := rep_length s.data.toList b.data.toList (k - 1)
        rw [show ((k - 1 : Nat) : Int) + 1 = (k : Int) from by omega] at this
        rw [this, ← Lib.size_eq, ← Lib.size_eq]
        have e := EL'.out
        rw [show (k : Int) - 1 = ((k - 1 : Nat) : Int) from by omega] at e
        have e' : ((k - 1 : Nat) : Int) * ((b.size : Int) + s.size) = (((k - 1) * (b.size + s.size) : Nat) : Int) := by simp
        rw [e'] at e
        omega
      have HL := Lib.hid hlen
      clear eL' hlen
      have hd : decide ((M + (b.size : Int)) / ((s.size : Int) + b.size) < (k : Int) - 1) = false := decide_eq_false (by omega)
      have hLM : decide (M < L) = false := decide_eq_false h2
      have hk0 : decide (k = 0) = false := decide_eq_false (by omega)
      clear h2
      rcases Int.lt_or_le 0 most with hp | hp
      · obtain rfl : most = M := by have := HM.out; omega
        go_enter Tryd.func9, Tryd.ntmps9
        go_wp2
        clear eL hd hq0 hq1 h1' e0 hLM hL0 hL1 EL hk0
        go_loopw [11, 12] (fun o i wr => ∃ j : Nat, j ≤ k ∧ i = .int .i64 j ∧ BBuf wr w.heap.size o (repL s.data.toList b.data.toList j) ∧ Below w.heap.size w wr) (fun _ i _ => k - (intOf i).toNat)
        case atStart => exact ⟨0, Nat.zero_le _, rfl, by rw [rep_nil (by omega)]; exact BBuf.nil _ _, below2 _ _⟩
        case round =>
          obtain ⟨j, hj, rfl, hbuf, hbel⟩ := hrel
          have HB := Lib.hid hbuf
          have HW := Lib.hid hbel
          have hsz := hbel.size
          clear hbuf hbel
          by_cases hlt : j < k
          · have hl := HL.out (j + 1) (by omega)
            rcases Nat.eq_zero_or_pos j with h0 | h0
            · have E0 := Lib.hid h0
              have hg : decide (0 < j) = false := decide_eq_false (by omega)
              have hr := rep_one s.data.toList b.data.toList
              have HR1 := Lib.hid hr
              have hb0 : BBuf wr w.heap.size u11 [] := by have := HB.out; rw [E0.out, rep_nil (by omega)] at this; exact this
              have HB0 := Lib.hid hb0
              clear h0 hr hb0
              go_wp2_with (at_builtin; refine at_append _ rfl _ _ rfl w.heap.size _ _ rfl HB0.out s rfl (by simp; omega) hsz ?_; intro v1 w1 hb1 hw1)
              go_roundw
              case rel => exact ⟨j + 1, by omega, by go_num, by rw [E0.out, show (((0 + 1 : Nat) : Int)) = 1 from rfl, HR1.out]; exact hb1, HW.out.trans hw1⟩
              case measure => simp [intOf]; omega
            · have hg : decide (0 < j) = true := decide_eq_true (by omega)
              have hr := rep_succ s.data.toList b.data.toList j h0
              have HR1 := Lib.hid hr
              have hl0 := HL.out j (by omega)
              clear hr
              go_wp2_with (first | (at_builtin; refine at_append _ rfl _ _ rfl w.heap.size _ _ rfl HB.out b rfl (by omega) hsz ?_; intro v1 w1 hb1 hw1; have HB1 := Lib.hid hb1; have HW1 := Lib.hid hw1; have hsz1 := Nat.le_trans hsz hw1.size; clear hb1 hw1) | (at_builtin; refine at_append _ rfl _ _ rfl w.heap.size _ _ rfl HB1.out s rfl (by rw [List.length_append, ← Lib.size_eq b]; omega) hsz1 ?_; intro v2 w2 hb2 hw2))
              go_roundw
              case rel => exact ⟨j + 1, by omega, by go_num, by rw [show (((j + 1 : Nat) : Int)) = (j : Int) + 1 from by omega, HR1.out]; exact hb2, (HW.out.trans HW1.out).trans hw2⟩
              case measure => simp [intOf]; omega
          · have hjk : j = k := by omega
            have hcv := buf_string HB.out
            have HK := Lib.hid hjk
            clear hjk
            go_wp2
            go_ret2
            exact ⟨ret_si (by rw [HR.out.1, HK.out]) HR.out.2.symm, HW.out⟩
      · obtain rfl : (0 : Int) = M := by have := HM.out; omega
        rw [Int.zero_add] at hq0 hq1 h1' hd
        go_enter Tryd.func9, Tryd.ntmps9
        go_wp2
        clear eL hd hq0 hq1 h1' e0 hLM hL0 hL1 EL hk0
        go_loopw [11, 12] (fun o i wr => ∃ j : Nat, j ≤ k ∧ i = .int .i64 j ∧ BBuf wr w.heap.size o (repL s.data.toList b.data.toList j) ∧ Below w.heap.size w wr) (fun _ i _ => k - (intOf i).toNat)
        case atStart => exact ⟨0, Nat.zero_le _, rfl, by rw [rep_nil (by omega)]; exact BBuf.nil _ _, below2 _ _⟩
        case round =>
          obtain ⟨j, hj, rfl, hbuf, hbel⟩ := hrel
          have HB := Lib.hid hbuf
          have HW := Lib.hid hbel
          have hsz := hbel.size
          clear hbuf hbel
          by_cases hlt : j < k
          · have hl := HL.out (j + 1) (by omega)
            rcases Nat.eq_zero_or_pos j with h0 | h0
            · have E0 := Lib.hid h0
              have hg : decide (0 < j) = false := decide_eq_false (by omega)
              have hr := rep_one s.data.toList b.data.toList
              have HR1 := Lib.hid hr
              have hb0 : BBuf wr w.heap.size u11 [] := by have := HB.out; rw [E0.out, rep_nil (by omega)] at this; exact this
              have HB0 := Lib.hid hb0
              clear h0 hr hb0
              go_wp2_with (at_builtin; refine at_append _ rfl _ _ rfl w.heap.size _ _ rfl HB0.out s rfl (by simp; omega) hsz ?_; intro v1 w1 hb1 hw1)
              go_roundw
              case rel => exact ⟨j + 1, by omega, by go_num, by rw [E0.out, show (((0 + 1 : Nat) : Int)) = 1 from rfl, HR1.out]; exact hb1, HW.out.trans hw1⟩
              case measure => simp [intOf]; omega
            · have hg : decide (0 < j) = true := decide_eq_true (by omega)
              have hr := rep_succ s.data.toList b.data.toList j h0
              have HR1 := Lib.hid hr
              have hl0 := HL.out j (by omega)
              clear hr
              go_wp2_with (first | (at_builtin; refine at_append _ rfl _ _ rfl w.heap.size _ _ rfl HB.out b rfl (by omega) hsz ?_; intro v1 w1 hb1 hw1; have HB1 := Lib.hid hb1; have HW1 := Lib.hid hw1; have hsz1 := Nat.le_trans hsz hw1.size; clear hb1 hw1) | (at_builtin; refine at_append _ rfl _ _ rfl w.heap.size _ _ rfl HB1.out s rfl (by rw [List.length_append, ← Lib.size_eq b]; omega) hsz1 ?_; intro v2 w2 hb2 hw2))
              go_roundw
              case rel => exact ⟨j + 1, by omega, by go_num, by rw [show (((j + 1 : Nat) : Int)) = (j : Int) + 1 from by omega, HR1.out]; exact hb2, (HW.out.trans HW1.out).trans hw2⟩
              case measure => simp [intOf]; omega
          · have hjk : j = k := by omega
            have hcv := buf_string HB.out
            have HK := Lib.hid hjk
            clear hjk
            go_wp2
            go_ret2
            exact ⟨ret_si (by rw [HR.out.1, HK.out]) HR.out.2.symm, HW.out⟩

theorem rrep_any (s b : ByteArray) (n most : Int) (w : World) (hn : n ≤ 9223372036854775807) (hm : most ≤ 100000) (hs : s.size ≤ 3000) (hb : b.size ≤ 3000) :
    Calls Tryd.prog 9 #[.string s, .int .i64 n, .string b, .int .i64 most] w fun e w' => e = .returned (.tuple #[.string ⟨(repS s.data.toList b.data.toList n most).toArray⟩, .int .i64 (repN s.data.toList b.data.toList n most)]) ∧ Below w.heap.size w w' := by
  by_cases h : n ≤ 0
  · exact rrep_low s b n most w h hm
  · by_cases he : s.size + b.size = 0
    · exact rrep_none s b n most w (by omega) hm he
    · exact rrep_long s b n most w (by omega) hn hm (by omega) hs hb
end Go.Proofs.YtnpmnielknmboaaDoor
