/- Plain mathematics of tokens: what a source's rest begins with, and what follows. No program is named here. -/
import Derived.Test.YtbeckfamnhfaeaaGreatDoorCMath2
import Derived.Lib.IndexMore
import Derived.Lib.Replace
import Derived.Lib.Bytealg
namespace Go.Proofs.YtbeckfamnhfaeaaGreatDoor

/-! Kinds of bytes. -/
def blB (c : UInt8) : Bool := blkB c.toNat
def ltB (c : UInt8) : Bool := decide (97 ≤ c.toNat ∧ c.toNat ≤ 122) || decide (65 ≤ c.toNat ∧ c.toNat ≤ 90) || decide (c.toNat = 95)
def dgB (c : UInt8) : Bool := decide (48 ≤ c.toNat ∧ c.toNat ≤ 57)
def hxB (c : UInt8) : Bool := dgB c || decide (97 ≤ c.toNat ∧ c.toNat ≤ 102) || decide (65 ≤ c.toNat ∧ c.toNat ≤ 70)
def nmB (c : UInt8) : Bool := ltB c || dgB c
def nuB (c : UInt8) : Bool := nmB c || decide (c.toNat = 46)
def quB (c : UInt8) : Bool := decide (c.toNat = 39) || decide (c.toNat = 34)

/-- How many bytes of a kind a text begins with. -/
def runN (p : UInt8 → Bool) (l : List UInt8) : Nat := (l.takeWhile p).length
theorem take_run (p : UInt8 → Bool) (l : List UInt8) : l.take (runN p l) = l.takeWhile p := by
  unfold runN
  induction l with
  | nil => rfl
  | cons a t ih => cases h : p a <;> simp [h, ih]
theorem drop_run (p : UInt8 → Bool) (l : List UInt8) : l.drop (runN p l) = l.dropWhile p := by
  unfold runN
  induction l with
  | nil => rfl
  | cons a t ih => cases h : p a <;> simp [h, ih]
theorem run_le (p : UInt8 → Bool) (l : List UInt8) : runN p l ≤ l.length := by
  unfold runN
  exact (List.takeWhile_sublist p (l := l)).length_le

/-- How many lines end in a text. -/
def nl (l : List UInt8) : Nat := Lib.countByte l 10
theorem nl_nil : nl [] = 0 := rfl
theorem nl_app (a b : List UInt8) : nl (a ++ b) = nl a + nl b := by unfold nl Lib.countByte; rw [List.count_append]
theorem nl_cut (l : List UInt8) (k : Nat) : nl l = nl (l.take k) + nl (l.drop k) := by rw [← nl_app, List.take_append_drop]
theorem nl_le (l : List UInt8) : nl l ≤ l.length := List.count_le_length

/-- Whether a name is a keyword. -/
def keys : List (List UInt8) := [[97, 110, 100], [98, 114, 101, 97, 107], [100, 111], [101, 108, 115, 101], [101, 108, 115, 101, 105, 102], [101, 110, 100], [102, 97, 108, 115, 101], [102, 111, 114], [102, 117, 110, 99, 116, 105, 111, 110], [103, 111, 116, 111], [105, 102], [105, 110], [108, 111, 99, 97, 108], [110, 105, 108], [110, 111, 116], [111, 114], [114, 101, 112, 101, 97, 116], [114, 101, 116, 117, 114, 110], [116, 104, 101, 110], [116, 114, 117, 101], [117, 110, 116, 105, 108], [119, 104, 105, 108, 101]]
def wordB (l : List UInt8) : Bool := keys.contains l
/-- Whether a text is a sign. -/
def signs : List (List UInt8) := [[43], [45], [42], [47, 47], [37], [38], [124], [126], [60, 60], [62, 62], [46, 46], [46, 46, 46], [61, 61], [126, 61], [60], [60, 61], [62], [62, 61], [61], [40], [41], [123], [125], [91], [93], [59], [58], [58, 58], [44], [46], [35]]
def sgnB (l : List UInt8) : Bool := signs.contains l

/-- How many bytes the opening of a long bracket has; 0: none begins. -/
def opn (l : List UInt8) : Nat :=
  if Lib.hasPrefix l [91] then (if Lib.hasPrefix (Lib.trimLeftB (l.drop 1) 61) [91] then l.length - ((Lib.trimLeftB (l.drop 1) 61).drop 1).length else 0) else 0
/-- What closes it. -/
def clo (x : List UInt8) : List UInt8 := Lib.replaceAll x [91] [93]
/-- A long bracket's text, and what stands behind it. -/
def brk (l : List UInt8) : Option (List UInt8 × List UInt8) :=
  if (Lib.cut (l.drop (opn l)) (clo (l.take (opn l)))).2.2 then some (Lib.trimPrefix (Lib.cut (l.drop (opn l)) (clo (l.take (opn l)))).1 [10], (Lib.cut (l.drop (opn l)) (clo (l.take (opn l)))).2.1) else none
/-- What stands behind a comment, behind its --. -/
def comm (l : List UInt8) : Option (List UInt8) :=
  if 0 < opn l then (brk l).map (·.2) else some (l.drop (Lib.cut l [10]).1.length)
/-- What stands behind blanks and comments; else the comment that has no end. -/
inductive Skip : List UInt8 → Except (List UInt8) (List UInt8) → Prop
  | done {l r : List UInt8} : l.dropWhile blB = r → Lib.hasPrefix r [45, 45] = false → Skip l (.ok r)
  | more {l r r' : List UInt8} {o : Except (List UInt8) (List UInt8)} : l.dropWhile blB = 45 :: 45 :: r → comm r = some r' → Skip r' o → Skip l o
  | bad {l r : List UInt8} : l.dropWhile blB = 45 :: 45 :: r → comm r = none → Skip l (.error (45 :: 45 :: r))

/-- A byte's number in digits: the byte, and what stands behind. -/
def code (b : Int) (p : UInt8 → Bool) (least most : Nat) (l : List UInt8) : Option (List UInt8 × List UInt8) :=
  if basO b (l.take (min most (runN p l))) = true ∧ least ≤ min most (runN p l) ∧ basN b (l.take (min most (runN p l))) ≤ 255 then
    some ([UInt8.ofNat (basN b (l.take (min most (runN p l)))).toNat], l.drop (min most (runN p l))) else none
def lett (c : UInt8) : Option UInt8 :=
  if c.toNat = 97 then some 7 else if c.toNat = 98 then some 8 else if c.toNat = 102 then some 12 else if c.toNat = 110 then some 10 else if c.toNat = 114 then some 13 else if c.toNat = 116 then some 9 else if c.toNat = 118 then some 11 else none
def selfB (c : UInt8) : Bool := decide (c.toNat = 92) || decide (c.toNat = 39) || decide (c.toNat = 34) || decide (c.toNat = 10)
/-- What stands behind a backslash: the bytes that it stands for, and what stands behind it. -/
def escC (c : UInt8) (r : List UInt8) : Option (List UInt8 × List UInt8) :=
  match lett c with
  | some x => some ([x], r)
  | none => if selfB c then some ([c], r) else if c.toNat = 122 then some ([], r.dropWhile blB) else if c.toNat = 120 then code 16 hxB 2 2 r else if dgB c then code 10 dgB 1 3 (c :: r) else none
def esc : List UInt8 → Option (List UInt8 × List UInt8)
  | [] => none
  | c :: r => escC c r

/-- A text in quotes, behind the first of them: its bytes, and what stands behind. -/
inductive Quo (q : UInt8) : List UInt8 → Option (List UInt8 × List UInt8) → Prop
  | shut {r : List UInt8} : Quo q (q :: r) (some ([], r))
  | none : Quo q [] none
  | line {r : List UInt8} : q ≠ 10 → Quo q (10 :: r) none
  | esc {r m r' : List UInt8} {o : Option (List UInt8 × List UInt8)} : q ≠ 92 → esc r = some (m, r') → Quo q r' o → Quo q (92 :: r) (o.map fun x => (m ++ x.1, x.2))
  | bad {r : List UInt8} : q ≠ 92 → Go.Proofs.YtbeckfamnhfaeaaGreatDoor.esc r = Option.none → Quo q (92 :: r) Option.none
  | byte {c : UInt8} {r : List UInt8} {o : Option (List UInt8 × List UInt8)} : c ≠ q → c ≠ 10 → c ≠ 92 → Quo q r o → Quo q (c :: r) (o.map fun x => (c :: x.1, x.2))

/-- The longest sign, and what stands behind. -/
def sign (l : List UInt8) : Option (List UInt8 × List UInt8) :=
  if sgnB (l.take 3) then some (l.take 3, l.drop 3) else if sgnB (l.take 2) then some (l.take 2, l.drop 2) else if sgnB (l.take 1) then some (l.take 1, l.drop 1) else none

/-- A token: its kind, number, text, and what stands behind. -/
inductive Tok : List UInt8 → Option (Int × Int × List UInt8 × List UInt8) → Prop
  | eof : Tok [] (some (0, 0, [], []))
  | name {c : UInt8} {r : List UInt8} : ltB c = true → Tok (c :: r) (some (if wordB ((c :: r).takeWhile nmB) then 2 else 1, 0, (c :: r).takeWhile nmB, (c :: r).dropWhile nmB))
  | num {c : UInt8} {r : List UInt8} : ltB c = false → dgB c = true → numO 9223372036854775807 ((c :: r).takeWhile nuB) = true →
      Tok (c :: r) (some (3, sgn (numN 9223372036854775807 ((c :: r).takeWhile nuB) : Int), [], (c :: r).dropWhile nuB))
  | numBad {c : UInt8} {r : List UInt8} : ltB c = false → dgB c = true → numO 9223372036854775807 ((c :: r).takeWhile nuB) = false → Tok (c :: r) none
  | text {c : UInt8} {r : List UInt8} {o : Option (List UInt8 × List UInt8)} : ltB c = false → dgB c = false → quB c = true → Quo c r o → Tok (c :: r) (o.map fun x => (4, 0, x.1, x.2))
  | long {c : UInt8} {r : List UInt8} : ltB c = false → dgB c = false → quB c = false → 0 < opn (c :: r) → Tok (c :: r) ((brk (c :: r)).map fun x => (4, 0, x.1, x.2))
  | sign {c : UInt8} {r : List UInt8} : ltB c = false → dgB c = false → quB c = false → ¬ 0 < opn (c :: r) → Tok (c :: r) ((sign (c :: r)).map fun x => (5, 0, x.1, x.2))

/-- A token with its line: kind, line, number, text. -/
abbrev Tk := Int × Int × Int × List UInt8
/-- A source's tokens from here on, L the source's last line; else the line of what is wrong. -/
inductive LexR (L : Int) : List UInt8 → Except Int (List Tk) → Prop
  | skipBad {l r : List UInt8} : Skip l (.error r) → LexR L l (.error (L - nl r))
  | tokBad {l r : List UInt8} : Skip l (.ok r) → Tok r none → LexR L l (.error (L - nl r))
  | eof {l : List UInt8} : Skip l (.ok []) → LexR L l (.ok [(0, L, 0, [])])
  | step {l r r' s : List UInt8} {k n : Int} {o : Except Int (List Tk)} : Skip l (.ok r) → r ≠ [] → Tok r (some (k, n, s, r')) → LexR L r' o → LexR L l (o.map ((k, L - nl r, n, s) :: ·))

/-! Each comes to one thing alone. -/
theorem Skip.det {l : List UInt8} {o : Except (List UInt8) (List UInt8)} (h : Skip l o) : ∀ {o'}, Skip l o' → o = o' := by
  induction h with
  | done h1 h2 =>
    intro o' h'
    cases h' with
    | done g1 g2 => rw [← h1, ← g1]
    | more g1 g2 g3 => rw [h1] at g1; subst g1; simp [Lib.hasPrefix] at h2
    | bad g1 g2 => rw [h1] at g1; subst g1; simp [Lib.hasPrefix] at h2
  | more h1 h2 h3 ih =>
    intro o' h'
    cases h' with
    | done g1 g2 => rw [h1] at g1; subst g1; simp [Lib.hasPrefix] at g2
    | more g1 g2 g3 =>
      rw [h1] at g1
      injection g1 with _ g1; injection g1 with _ g1
      subst g1
      rw [h2] at g2
      injection g2 with g2
      subst g2
      exact ih g3
    | bad g1 g2 =>
      rw [h1] at g1
      injection g1 with _ g1; injection g1 with _ g1
      subst g1
      rw [h2] at g2
      cases g2
  | bad h1 h2 =>
    intro o' h'
    cases h' with
    | done g1 g2 => rw [h1] at g1; subst g1; simp [Lib.hasPrefix] at g2
    | more g1 g2 g3 =>
      rw [h1] at g1
      injection g1 with _ g1; injection g1 with _ g1
      subst g1
      rw [h2] at g2
      cases g2
    | bad g1 g2 => rw [← h1, ← g1]
theorem Quo.det {q : UInt8} {l : List UInt8} {o : Option (List UInt8 × List UInt8)} (h : Quo q l o) : ∀ {o'}, Quo q l o' → o = o' := by
  induction h with
  | shut =>
    intro o' h'
    cases h' with
    | shut => rfl
    | line g => exact absurd rfl g
    | esc g => exact absurd rfl g
    | bad g => exact absurd rfl g
    | byte g => exact absurd rfl g
  | none => intro o' h'; cases h'; rfl
  | line h =>
    intro o' h'
    cases h' with
    | shut => exact absurd rfl h
    | line g => rfl
    | byte g1 g2 => exact absurd rfl g2
  | esc h1 h2 h3 ih =>
    intro o' h'
    cases h' with
    | shut => exact absurd rfl h1
    | esc g1 g2 g3 =>
      rw [h2] at g2
      injection g2 with g2
      injection g2 with a b
      subst a; subst b
      rw [ih g3]
    | bad g1 g2 => rw [h2] at g2; cases g2
    | byte g1 g2 g3 => exact absurd rfl g3
  | bad h1 h2 =>
    intro o' h'
    cases h' with
    | shut => exact absurd rfl h1
    | esc g1 g2 g3 => rw [h2] at g2; cases g2
    | bad g1 g2 => rfl
    | byte g1 g2 g3 => exact absurd rfl g3
  | byte h1 h2 h3 h4 ih =>
    intro o' h'
    cases h' with
    | shut => exact absurd rfl h1
    | line => exact absurd rfl h2
    | esc => exact absurd rfl h3
    | bad => exact absurd rfl h3
    | byte g1 g2 g3 g4 => rw [ih g4]
theorem Tok.det {l : List UInt8} {o : Option (Int × Int × List UInt8 × List UInt8)} (h : Tok l o) : ∀ {o'}, Tok l o' → o = o' := by
  intro o' h'
  cases h <;> cases h' <;> first | rfl | (simp_all; done) | skip
  rename_i a b c d e f g i j k
  rw [e.det k]
theorem LexR.det {L : Int} {l : List UInt8} {o : Except Int (List Tk)} (h : LexR L l o) : ∀ {o'}, LexR L l o' → o = o' := by
  induction h with
  | skipBad h1 =>
    intro o' h'
    cases h' with
    | skipBad g1 => cases h1.det g1; rfl
    | tokBad g1 => cases h1.det g1
    | eof g1 => cases h1.det g1
    | step g1 => cases h1.det g1
  | tokBad h1 h2 =>
    intro o' h'
    cases h' with
    | skipBad g1 => cases h1.det g1
    | tokBad g1 => cases h1.det g1; rfl
    | eof g1 => cases h1.det g1; cases h2
    | step g1 _ g3 => cases h1.det g1; cases h2.det g3
  | eof h1 =>
    intro o' h'
    cases h' with
    | skipBad g1 => cases h1.det g1
    | tokBad g1 g2 => cases h1.det g1; cases g2
    | eof g1 => rfl
    | step g1 g2 => cases h1.det g1; exact absurd rfl g2
  | step h1 h2 h3 h4 ih =>
    intro o' h'
    cases h' with
    | skipBad g1 => cases h1.det g1
    | tokBad g1 g2 => cases h1.det g1; cases h3.det g2
    | eof g1 => cases h1.det g1; exact absurd rfl h2
    | step g1 g2 g3 g4 =>
      cases h1.det g1
      cases h3.det g3
      rw [ih g4]
end Go.Proofs.YtbeckfamnhfaeaaGreatDoor
