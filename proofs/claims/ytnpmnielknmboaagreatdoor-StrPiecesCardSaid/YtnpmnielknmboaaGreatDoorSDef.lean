/- The document's Rep, Join and Find: plain functions of lists. -/
import Derived.Test.YtnpmnielknmboaaGreatDoorSBuf
import Derived.LoopTactic
namespace Go.Proofs.YtnpmnielknmboaaGreatDoor
open Go.RowKit Go.Sort

theorem ret_si {a a' : ByteArray} {n n' : Int} (h : a = a') (h' : n = n') : Ending.returned (.tuple #[.string a, .int .i64 n]) = .returned (.tuple #[.string a', .int .i64 n']) := by rw [h, h']
theorem ret_iib {a a' b b' : Int} {c c' : Bool} (h : a = a') (h' : b = b') (h'' : c = c') : Ending.returned (.tuple #[.int .i64 a, .int .i64 b, .bool c]) = .returned (.tuple #[.int .i64 a', .int .i64 b', .bool c']) := by rw [h, h', h'']

/-- What Rep answers: the string and the error's number. -/
def repS (s b : List UInt8) (n most : Int) : List UInt8 := if repB s.length b.length n most then [] else repL s b n
def repN (s b : List UInt8) (n most : Int) : Int := if repB s.length b.length n most then 3 else 0

theorem repS_no {s b : List UInt8} {n most : Int} (h : repB s.length b.length n most = false) : repS s b n most = repL s b n ∧ repN s b n most = 0 := by
  unfold repS repN; rw [h]; exact ⟨rfl, rfl⟩
theorem repS_yes {s b : List UInt8} {n most : Int} (h : repB s.length b.length n most = true) : repS s b n most = [] ∧ repN s b n most = 3 := by
  unfold repS repN; rw [h]; exact ⟨rfl, rfl⟩
theorem repB_low {ls lb : Nat} {n most : Int} (h : n ≤ 0) : repB ls lb n most = false := by
  unfold repB; rw [decide_eq_false (by omega)]; rfl

/-- n - 1 is more than what fits: too long. -/
theorem rep_far {ls lb n most : Int} (he : 0 < ls + lb) (h : (most + lb) / (ls + lb) < n - 1) : most < ls + (n - 1) * (lb + ls) := by
  have h1 : most + lb < (n - 1) * (ls + lb) := by
    have := Int.lt_mul_of_ediv_lt (a := most + lb) (b := n - 1) (c := ls + lb) he h
    exact this
  rw [Int.add_comm lb ls]
  omega
theorem rep_len (ls lb n : Int) : n * (ls + lb) - lb = ls + (n - 1) * (lb + ls) := by
  rw [Int.sub_mul, Int.add_comm lb ls, Int.one_mul]
  omega
theorem repB_is {ls lb : Nat} {n most : Int} (h : 1 ≤ n) : repB ls lb n most = decide (max 0 most < (ls : Int) + (n - 1) * ((lb : Int) + ls)) := by
  unfold repB; rw [decide_eq_true h]; rfl
theorem rep_mono (s b : List UInt8) {j n : Nat} (h : j ≤ n) : (repL s b j).length ≤ (repL s b n).length := by
  cases j with
  | zero => rw [rep_nil (by omega)]; exact Nat.zero_le _
  | succ j =>
    obtain ⟨m, rfl⟩ : ∃ m, n = m + 1 := ⟨n - 1, by omega⟩
    rw [show (((j + 1 : Nat) : Int)) = (j : Int) + 1 from by omega, show (((m + 1 : Nat) : Int)) = (m : Int) + 1 from by omega, rep_length, rep_length]
    have := Nat.mul_le_mul_right (b.length + s.length) (show j ≤ m by omega)
    omega
/-- What the law's numbers say where it is long: it is within the bound, or it isn't. -/
theorem rep_cases {ls lb : Nat} {n M : Int} (h : 1 ≤ n) (he : 0 < ls + lb) (hM : 0 ≤ M) (hM' : M ≤ 100000) (hl : ls ≤ 3000) (hb : lb ≤ 3000) (h1 : n - 1 ≤ (M + lb) / (ls + lb)) :
    ∃ L : Int, wrap64 (wrap64 (n * ((ls : Int) + lb)) - lb) = L ∧ L = (ls : Int) + (n - 1) * ((lb : Int) + ls) ∧ n ≤ 200000 ∧ 0 ≤ L ∧ L ≤ 2000000000 := by
  have hq : (M + lb) / ((ls : Int) + lb) ≤ M + lb := Int.ediv_le_self _ (by omega)
  have hn : n ≤ 103001 := by omega
  obtain ⟨k, rfl⟩ : ∃ k : Nat, n = (k : Int) := ⟨n.toNat, by omega⟩
  have hk : k * (ls + lb) ≤ 103001 * 6000 := Nat.mul_le_mul (by omega) (by omega)
  have hk1 : 1 * (ls + lb) ≤ k * (ls + lb) := Nat.mul_le_mul_right _ (by omega)
  have e : (k : Int) * ((ls : Int) + lb) = ((k * (ls + lb) : Nat) : Int) := by simp
  refine ⟨_, rfl, ?_, by omega, ?_⟩
  · rw [← rep_len, e]
    generalize k * (ls + lb) = X at *
    rw [show wrap64 (X : Int) = X from by unfold wrap64; omega]
    unfold wrap64; omega
  · rw [e]
    generalize k * (ls + lb) = X at *
    rw [show wrap64 (X : Int) = X from by unfold wrap64; omega]
    unfold wrap64; omega
end Go.Proofs.YtnpmnielknmboaaGreatDoor
