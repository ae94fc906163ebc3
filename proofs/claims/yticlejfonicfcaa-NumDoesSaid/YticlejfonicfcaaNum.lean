/- What each function of package num returns, told as a plain function of its numbers, and that it changes no memory; no condition but a divisor that is not nought. -/
import Derived.Test.YticlejfonicfcaaRows
import Derived.Test.YticlejfonicfcaaMath
import Derived.WalkKit
import Derived.WalkSpells
import Derived.WalkLawsBesides
import Derived.Lib.QuietBelow
import Derived.BigQuiet
import Derived.Lib.Hide
import Derived.LoopTactic
namespace Go.Proofs.Yticlejfonicfcaa
open Go.RowKit Go.Sort

abbrev I (n : Int) : Value := .int .i64 n
theorem thenB {a b c : World} (h : Below a.heap.size a b) (k : Below b.heap.size b c) : Below a.heap.size a c := h.trans (k.mono h.size)
theorem ret2 {k l : IntKind} {a b c d : Int} (h : a = b) (h' : c = d) : Ending.returned (.tuple #[.int k a, .int l c]) = .returned (.tuple #[.int k b, .int l d]) := by rw [h, h']
theorem ret1 {k : IntKind} {a b : Int} (h : a = b) : Ending.returned (.int k a) = .returned (.int k b) := by rw [h]

set_option maxHeartbeats 400000 in
theorem left_any (a p : Int) (w : World) :
    Calls Try.prog 20 #[I a, I p] w fun e w' => e = .returned (I (leftV a p)) ∧ w = w' := by
  by_cases h : p < 0
  · have e := Lib.hid (show leftV a p = _ from if_pos h)
    go_enter Try.func20, Try.ntmps20
    go_wp2
    go_ret
    exact ⟨ret1 e.out.symm, rfl⟩
  · have e := Lib.hid (show leftV a p = _ from if_neg h)
    go_enter Try.func20, Try.ntmps20
    go_wp2
    go_ret
    exact ⟨ret1 e.out.symm, rfl⟩

def divE (b : Int) : Int := if b = 0 then 2 else 0
def divV (op a b : Int) : Int := if op = 5 then remV a b else quoV a b

set_option maxHeartbeats 400000 in
theorem divide_any (op a b : Int) (w : World) :
    Calls Try.prog 19 #[I op, I a, I b] w fun e w' => e = .returned (.tuple #[I (divV op a b), I (divE b)]) ∧ Below w.heap.size w w' := by
  by_cases hb : b = 0
  · subst hb
    have e : divV op a 0 = 0 := by simp [divV, remV, quoV]
    rw [e, show divE 0 = 2 from rfl]
    clear e
    go_enter Try.func19, Try.ntmps19
    go_wp2
    go_ret2
    exact ⟨rfl, Below.refl _ _⟩
  · have h1 : (b == 0) = false := by simpa using hb
    have E := Lib.hid (show divE b = 0 from if_neg hb)
    have R := Lib.hid (show remV a b = if adj a b = true then wrap64 (a.tmod b + b) else a.tmod b from if_neg hb)
    have Q := Lib.hid (show quoV a b = if adj a b = true then wrap64 (wrap64 (a.tdiv b) - 1) else wrap64 (a.tdiv b) from if_neg hb)
    go_enter Try.func19, Try.ntmps19
    go_wp2
    go_region
    go_wp2
    all_goals
      go_ret2
      refine ⟨ret2 ?_ E.out.symm, (Below.refl _ _).drew⟩
      unfold divV
      rw [R.out, Q.out]
      clear R Q E
      simp_all [adj]

def doV (op a b : Int) : Int :=
  if op = 1 then wrap64 (a + b) else if op = 2 then wrap64 (a - b) else if op = 3 then wrap64 (a * b) else if op = 4 then quoV a b else if op = 5 then remV a b else
  if op = 6 then bits .and .i64 a b else if op = 7 then bits .or .i64 a b else if op = 8 then bits .xor .i64 a b else if op = 9 then leftV a b else
  if op = 10 then leftV a (wrap64 (-b)) else 0
def doE (op b : Int) : Int := if op = 4 ∨ op = 5 then divE b else if 1 ≤ op ∧ op ≤ 10 then 0 else 1
theorem ops (k : Int) : k = 1 ∨ k = 2 ∨ k = 3 ∨ k = 4 ∨ k = 5 ∨ k = 6 ∨ k = 7 ∨ k = 8 ∨ k = 9 ∨ k = 10 ∨ k < 1 ∨ 10 < k := by omega

set_option maxHeartbeats 1000000 in
theorem do_any (op a b : Int) (w : World) :
    Calls Try.prog 10 #[I op, I a, I b] w fun e w' => e = .returned (.tuple #[I (doV op a b), I (doE op b)]) ∧ Below w.heap.size w w' := by
  rcases ops op with rfl | rfl | rfl | rfl | rfl | rfl | rfl | rfl | rfl | rfl | h | h
  iterate 3
    · go_enter Try.func10, Try.ntmps10
      go_wp2
      go_ret2
      exact ⟨rfl, Below.refl _ _⟩
  iterate 2
    · go_enter Try.func10, Try.ntmps10
      go_wp2_with fail
      refine (divide_any _ _ _ _).mono ?_
      rintro e w1 ⟨rfl, b1⟩
      go_wp2
      go_ret2
      exact ⟨rfl, b1⟩
  iterate 3
    · go_enter Try.func10, Try.ntmps10
      go_wp2
      go_ret2
      exact ⟨rfl, Below.refl _ _⟩
  iterate 2
    · go_enter Try.func10, Try.ntmps10
      go_wp2_with fail
      refine (left_any _ _ _).mono ?_
      rintro e w1 ⟨rfl, rfl⟩
      go_wp2
      go_ret2
      exact ⟨rfl, Below.refl _ _⟩
  all_goals
    have e1 : doV op a b = 0 := by unfold doV; repeat rw [if_neg (by omega)]
    have e2 : doE op b = 1 := by unfold doE; repeat rw [if_neg (by omega)]
    rw [e1, e2]
    have g1 : (op == 1) = false := by simp; omega
    have g2 : (op == 2) = false := by simp; omega
    have g3 : (op == 3) = false := by simp; omega
    have g4 : (op == 4) = false := by simp; omega
    have g5 : (op == 5) = false := by simp; omega
    have g6 : (op == 6) = false := by simp; omega
    have g7 : (op == 7) = false := by simp; omega
    have g8 : (op == 8) = false := by simp; omega
    have g9 : (op == 9) = false := by simp; omega
    have g10 : (op == 10) = false := by simp; omega
    clear e1 e2
    go_enter Try.func10, Try.ntmps10
    go_wp2
    go_ret2
    exact ⟨rfl, Below.refl _ _⟩

def oneV (op a : Int) : Int := if op = 20 then wrap64 (-a) else if op = 21 then bits .xor .i64 (-1) a else 0
def oneE (op : Int) : Int := if op = 20 ∨ op = 21 then 0 else 1
set_option maxHeartbeats 400000 in
theorem one_any (op a : Int) (w : World)  :
    Calls Try.prog 12 #[I op, I a] w fun e w' => e = .returned (.tuple #[I (oneV op a), I (oneE op)]) ∧ w = w' := by
  by_cases h1 : op = 20
  · subst h1
    go_enter Try.func12, Try.ntmps12
    go_wp2
    go_ret2
    exact ⟨rfl, rfl⟩
  · by_cases h2 : op = 21
    · subst h2
      go_enter Try.func12, Try.ntmps12
      go_wp2
      go_ret2
      exact ⟨rfl, rfl⟩
    · have e1 : oneV op a = 0 := by simp [oneV, h1, h2]
      have e2 : oneE op = 1 := by simp [oneE, h1, h2]
      rw [e1, e2]
      have g1 : (op == 20) = false := by simpa using h1
      have g2 : (op == 21) = false := by simpa using h2
      clear e1 e2
      go_enter Try.func12, Try.ntmps12
      go_wp2
      go_ret2
      exact ⟨rfl, rfl⟩

set_option maxHeartbeats 400000 in
theorem rounds_any (a b c : Int) (w : World) (hc : ¬ c = 0) :
    Calls Try.prog 22 #[I a, I b, .int .u64 c] w fun e w' => e = .returned (.int .u64 (roundsV a b c)) ∧ w = w' := by
  go_enter Try.func22, Try.ntmps22
  go_wp2
  all_goals
    go_ret
    refine ⟨ret1 ?_, rfl⟩
    unfold roundsV
    first | (simp_all; done) | (rw [if_neg (by omega)]; simp_all)

theorem u64_ne (s : Int) (h : s ≠ 0) (h0 : -9223372036854775808 ≤ s) (h1 : s ≤ 9223372036854775807) : ¬ IntKind.u64.wrap s = 0 ∧ ¬ IntKind.u64.wrap (-IntKind.u64.wrap s) = 0 := by
  simp only [IntKind.wrap_u64]; omega

set_option maxHeartbeats 400000 in
theorem count_any (a b c : Int) (w : World) (h0 : -9223372036854775808 ≤ c) (h1 : c ≤ 9223372036854775807) :
    Calls Try.prog 14 #[I a, I b, I c] w fun e w' => e = .returned (.tuple #[.int .u64 (countV a b c), I (countE c)]) ∧ w = w' := by
  by_cases hc : c = 0
  · subst hc
    clear h0 h1
    go_enter Try.func14, Try.ntmps14
    go_wp2
    go_ret2
    exact ⟨rfl, rfl⟩
  · have g : (c == 0) = false := by simpa using hc
    have N := Lib.hid (u64_ne c hc h0 h1)
    have E := Lib.hid (show countE c = 0 from if_neg hc)
    have E0 := Lib.hid hc
    clear h0 h1 hc
    by_cases hp : 0 < c
    · go_enter Try.func14, Try.ntmps14
      go_wp2_with fail
      refine (rounds_any _ _ _ _ N.out.1).mono ?_
      rintro e w1 ⟨rfl, rfl⟩
      go_wp2
      go_ret2
      exact ⟨ret2 (by unfold countV; rw [if_neg E0.out, if_pos hp]) E.out.symm, rfl⟩
    · go_enter Try.func14, Try.ntmps14
      go_wp2_with fail
      refine (rounds_any _ _ _ _ N.out.2).mono ?_
      rintro e w1 ⟨rfl, rfl⟩
      go_wp2
      go_ret2
      exact ⟨ret2 (by unfold countV; rw [if_neg E0.out, if_neg (by omega)]) E.out.symm, rfl⟩

/-! ### The document's examples -/
theorem lit_do (op a b x y : Int) (w : World) (h : doV op a b = x) (h' : doE op b = y) :
    Calls Try.prog 10 #[I op, I a, I b] w fun e w' => e = .returned (.tuple #[I x, I y]) ∧ Below w.heap.size w w' := by
  subst h h'; exact do_any op a b w
theorem lit_count (a b c x y : Int) (w : World) (h0 : -9223372036854775808 ≤ c) (h1 : c ≤ 9223372036854775807) (h : countV a b c = x) (h' : countE c = y) :
    Calls Try.prog 14 #[I a, I b, I c] w fun e w' => e = .returned (.tuple #[.int .u64 x, I y]) ∧ w = w' := by
  subst h h'; exact count_any a b c w h0 h1

set_option maxHeartbeats 400000 in
theorem alive_any (w : World) :
    Calls Try.prog 9 #[] w fun e w' => e = .returned (.bool true) ∧ Below w.heap.size w w' := by
  go_enter Try.func9, Try.ntmps9
  go_wp2_with fail
  refine (lit_do 4 (-7) 2 (-4) 0 _ (by decide +kernel) (by decide +kernel)).mono ?_; rintro e w1 ⟨rfl, b1⟩
  go_wp2_with fail
  refine (lit_do 5 7 (-2) (-1) 0 _ (by decide +kernel) (by decide +kernel)).mono ?_; rintro e w2 ⟨rfl, b2⟩
  replace b2 := thenB b1 b2; clear b1
  go_wp2_with fail
  refine (lit_do 10 (-1) 60 15 0 _ (by decide +kernel) (by decide +kernel)).mono ?_; rintro e w3 ⟨rfl, b3⟩
  replace b3 := thenB b2 b3; clear b2
  go_wp2_with fail
  refine (lit_count 1 10 3 4 0 _ (by decide) (by decide) (by decide +kernel) (by decide +kernel)).mono ?_; rintro e w4 ⟨rfl, rfl⟩
  go_wp2_with fail
  refine (lit_do 4 1 0 0 2 _ (by decide +kernel) (by decide +kernel)).mono ?_; rintro e w5 ⟨rfl, b5⟩
  replace b5 := thenB b3 b5; clear b3
  go_wp2
  go_ret
  exact ⟨rfl, b5⟩
end Go.Proofs.Yticlejfonicfcaa
