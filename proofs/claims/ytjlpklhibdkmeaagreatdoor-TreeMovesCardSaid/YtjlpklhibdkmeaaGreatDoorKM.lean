/- Plain mathematics: of which sorts a Kind is, and what a node's Kids must be. No program is named here. -/
import Derived.Test.YtjlpklhibdkmeaaGreatDoorDeep
namespace Go.Proofs.YtjlpklhibdkmeaaGreatDoor
open Go.RowKit

def soK (k : Int) : Int :=
  if k = 7 ∨ k = 8 then 3 else if k = 9 ∨ k = 10 then 5 else if k = 11 then 9 else if 1 ≤ k ∧ k ≤ 15 then 1 else if k = 16 ∨ k = 17 then 16 else
  if k = 18 then 32 else if k = 29 then 128 else if 19 ≤ k ∧ k ≤ 32 then 64 else 0
/-- One of a Kid's sorts is wanted. -/
def hitB (a b : Int) : Bool := !(bits .and .i64 a b == 0)
def begB : List Int → List Int → Bool
  | _, [] => true
  | [], _ :: _ => false
  | k :: ks, r :: rs => hitB k r && begB ks rs
theorem begB_len : ∀ {ks row : List Int}, begB ks row = true → row.length ≤ ks.length := by
  intro ks row
  induction row generalizing ks with
  | nil => intro _; exact Nat.zero_le _
  | cons r rs ih =>
    intro h
    cases ks with
    | nil => cases h
    | cons k ks =>
      rw [begB, Bool.and_eq_true] at h
      have := ih h.2
      simp only [List.length_cons]
      omega
theorem begB_short : ∀ {ks row : List Int}, ks.length < row.length → begB ks row = false := by
  intro ks row h
  cases e : begB ks row with
  | false => rfl
  | true => have := begB_len e; omega
/-- As many times as they stand there, and at most so often. -/
def eat (row : List Int) (most : Int) : Nat → Int → List Int → Int × List Int
  | 0, t, ks => (t, ks)
  | f + 1, t, ks => if t < most ∧ begB ks row = true then eat row most f (t + 1) (ks.drop row.length) else (t, ks)
theorem eat_fuel {row : List Int} {most : Int} (h0 : 0 < row.length) : ∀ (n f : Nat) (t : Int) (ks : List Int), ks.length ≤ n → ks.length < f → eat row most f t ks = eat row most (ks.length + 1) t ks := by
  intro n
  induction n with
  | zero =>
    intro f t ks hn hf
    obtain ⟨f, rfl⟩ : ∃ g, f = g + 1 := ⟨f - 1, by omega⟩
    have hb : begB ks row = false := begB_short (by omega)
    rw [eat, eat, if_neg (by rw [hb]; simp), if_neg (by rw [hb]; simp)]
  | succ n ih =>
    intro f t ks hn hf
    obtain ⟨f, rfl⟩ : ∃ g, f = g + 1 := ⟨f - 1, by omega⟩
    rw [eat, eat]
    by_cases hc : t < most ∧ begB ks row = true
    · have hl := begB_len hc.2
      have hd : (ks.drop row.length).length = ks.length - row.length := List.length_drop
      rw [if_pos hc, if_pos hc, ih f _ _ (by omega) (by omega), ih ks.length _ _ (by omega) (by omega)]
    · rw [if_neg hc, if_neg hc]
theorem eat_step {row : List Int} {most t : Int} {ks : List Int} (h0 : 0 < row.length) (ht : t < most) (hb : begB ks row = true) : eat row most (ks.length + 1) t ks = eat row most ((ks.drop row.length).length + 1) (t + 1) (ks.drop row.length) := by
  have hl := begB_len hb
  have hd : (ks.drop row.length).length = ks.length - row.length := List.length_drop
  rw [eat, if_pos ⟨ht, hb⟩, eat_fuel h0 _ ks.length _ _ (Nat.le_refl _) (by omega)]
theorem eat_end {row : List Int} {most t : Int} {ks : List Int} (h : ¬ (t < most ∧ begB ks row = true)) : eat row most (ks.length + 1) t ks = (t, ks) := by
  rw [eat, if_neg h]
theorem eat_le {row : List Int} {most : Int} : ∀ (f : Nat) (t : Int) (ks : List Int), (eat row most f t ks).2.length ≤ ks.length := by
  intro f
  induction f with
  | zero => intro t ks; exact Nat.le_refl _
  | succ f ih =>
    intro t ks
    rw [eat]
    split
    · exact Nat.le_trans (ih _ _) (by rw [List.length_drop]; omega)
    · exact Nat.le_refl _
abbrev Prt := Int × Int × List Int
def allL : List Prt → List Int → Bool
  | [], ks => ks.isEmpty
  | p :: ps, ks => decide (p.1 ≤ (eat p.2.2 p.2.1 (ks.length + 1) 0 ks).1) && allL ps (eat p.2.2 p.2.1 (ks.length + 1) 0 ks).2
def big : Int := 9223372036854775807
def partsK (k n : Int) : List Prt :=
  if k = 13 ∨ k = 14 ∨ k = 16 then [(1, 1, [1])]
  else if k = 8 ∨ k = 12 ∨ k = 17 then [(1, 1, [1, 1])]
  else if k = 9 ∨ k = 10 then [(1, big, [1])]
  else if k = 19 ∨ k = 29 then [(0, big, [1])]
  else if k = 11 ∨ k = 22 then [(1, 1, [32])]
  else if k = 21 then [(1, 1, [4])]
  else if k = 28 then [(1, 1, [8])]
  else if k = 23 then [(1, 1, [1, 32])]
  else if k = 24 then [(1, 1, [32, 1])]
  else if k = 15 then [(0, big, [16])]
  else if k = 18 then [(0, big, [64]), (0, 1, [128])]
  else if k = 25 then [(1, big, [1, 32]), (0, 1, [32])]
  else if k = 26 then [(2, 3, [1]), (1, 1, [32])]
  else if k = 27 then [(n, n, [1]), (1, 1, [32])]
  else if k = 20 then [(n, n, [2]), (1, big, [1])]
  else []
def koK (k n : Int) (ss : List Int) : Bool := allL (partsK k n) ss
theorem and_zero (b : Int) : bits .and .i64 0 b = 0 := by
  show IntKind.i64.wrap (((BitVec.ofInt 64 0) &&& (BitVec.ofInt 64 b)).toNat : Int) = 0
  rw [show BitVec.ofInt 64 0 = 0#64 from rfl, BitVec.zero_and]
  rfl
theorem hit_zero (b : Int) : hitB 0 b = false := by
  unfold hitB
  rw [and_zero]
  rfl
theorem begB_zero : ∀ {ks row : List Int}, begB ks row = true → (0 : Int) ∉ ks.take row.length := by
  intro ks row
  induction row generalizing ks with
  | nil => intro _; simp
  | cons r rs ih =>
    intro h
    cases ks with
    | nil => cases h
    | cons k ks =>
      rw [begB, Bool.and_eq_true] at h
      rw [List.length_cons, List.take_succ_cons, List.mem_cons]
      rintro (e | e)
      · rw [← e, hit_zero] at h; cases h.1
      · exact ih h.2 e
theorem eat_zero {row : List Int} {most : Int} : ∀ (f : Nat) (t : Int) (ks : List Int), (0 : Int) ∈ ks → (0 : Int) ∈ (eat row most f t ks).2 := by
  intro f
  induction f with
  | zero => intro t ks h; exact h
  | succ f ih =>
    intro t ks h
    rw [eat]
    split
    · rename_i hc
      refine ih _ _ ?_
      rw [← List.take_append_drop row.length ks] at h
      exact (List.mem_append.1 h).resolve_left (begB_zero hc.2)
    · exact h
theorem allL_zero : ∀ (ps : List Prt) (ks : List Int), allL ps ks = true → (0 : Int) ∉ ks := by
  intro ps
  induction ps with
  | nil =>
    intro ks h hm
    cases ks with
    | nil => cases hm
    | cons a t => cases h
  | cons p ps ih =>
    intro ks h hm
    rw [allL, Bool.and_eq_true] at h
    exact ih _ h.2 (eat_zero _ _ _ hm)
theorem ko_zero (k n : Int) (ss : List Int) (h : koK k n ss = true) : (0 : Int) ∉ ss := allL_zero _ _ h
theorem ko_do (n : Int) : koK 22 n [soK 18] = true := by
  show koK 22 n [32] = true
  unfold koK
  have : partsK 22 n = [(1, 1, [32])] := by simp [partsK]
  rw [this]
  decide +kernel
theorem ko_block (n : Int) : koK 18 n [soK 22] = true := by
  show koK 18 n [64] = true
  unfold koK
  have : partsK 18 n = [(0, big, [64]), (0, 1, [128])] := by simp [partsK]
  rw [this]
  decide +kernel
end Go.Proofs.YtjlpklhibdkmeaaGreatDoor
