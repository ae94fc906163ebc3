/- Plain mathematics of tokens: blanks and comments ahead and behind. -/
import Derived.Test.YtbeckfamnhfaeaaGreatDoorLexS
namespace Go.Proofs.YtbeckfamnhfaeaaGreatDoor

/-- The four gaps, and how many lines end in them. -/
def gap : Nat → List UInt8
  | 0 => [32, 9]
  | 1 => [45, 45, 120, 10]
  | 2 => [45, 45, 91, 91, 97, 10, 98, 93, 93]
  | _ => [10, 45, 45, 91, 61, 61, 91, 32, 93, 93, 32, 93, 61, 61, 93, 10]
def gapL : Nat → Nat
  | 0 => 0
  | 1 => 1
  | 2 => 1
  | _ => 2
theorem gap_nl : ∀ r, nl (gap r) = gapL r
  | 0 => rfl
  | 1 => rfl
  | 2 => rfl
  | _ + 3 => rfl
theorem skip_nl {l : List UInt8} {q : Except (List UInt8) (List UInt8)} (h : Skip l q) : Skip (10 :: l) q := h.of_dw (by simp [blB, blkB])
theorem brk_at {l t r : List UInt8} (n : Nat) (hn : opn l = n) (h : Lib.cut (l.drop n) (clo (l.take n)) = (t, r, true)) : brk l = some (Lib.trimPrefix t [10], r) := by
  unfold brk
  rw [hn, h]
  rfl
theorem comm1 (l : List UInt8) : comm (120 :: 10 :: l) = some (10 :: l) := by
  unfold comm
  rw [show opn (120 :: 10 :: l) = 0 from rfl, if_neg (by omega), cut_nl]
  rfl
theorem comm2 (l : List UInt8) : comm (91 :: 91 :: 97 :: 10 :: 98 :: 93 :: 93 :: l) = some l := by
  have ho : opn (91 :: 91 :: 97 :: 10 :: 98 :: 93 :: 93 :: l) = 2 := by
    show (l.length + 1 + 1 + 1 + 1 + 1 + 1 + 1) - (l.length + 1 + 1 + 1 + 1 + 1) = 2
    omega
  have hc : Lib.cut ([97, 10, 98, 93, 93] ++ l) [93, 93] = ([97, 10, 98], [] ++ l, true) := cut_app l (by decide +kernel)
  have hb := brk_at (l := 91 :: 91 :: 97 :: 10 :: 98 :: 93 :: 93 :: l) 2 ho (by
    rw [show clo (List.take 2 (91 :: 91 :: 97 :: 10 :: 98 :: 93 :: 93 :: l)) = [93, 93] from (show clo [91, 91] = [93, 93] by decide +kernel)]
    exact hc)
  unfold comm
  rw [ho, if_pos (by omega), hb]
  rfl
theorem comm3 (l : List UInt8) : comm (91 :: 61 :: 61 :: 91 :: 32 :: 93 :: 93 :: 32 :: 93 :: 61 :: 61 :: 93 :: 10 :: l) = some (10 :: l) := by
  have ho : opn (91 :: 61 :: 61 :: 91 :: 32 :: 93 :: 93 :: 32 :: 93 :: 61 :: 61 :: 93 :: 10 :: l) = 4 := by
    show (l.length + 1 + 1 + 1 + 1 + 1 + 1 + 1 + 1 + 1 + 1 + 1 + 1 + 1) - (l.length + 1 + 1 + 1 + 1 + 1 + 1 + 1 + 1 + 1) = 4
    omega
  have hc : Lib.cut ([32, 93, 93, 32, 93, 61, 61, 93] ++ 10 :: l) [93, 61, 61, 93] = ([32, 93, 93, 32], [] ++ 10 :: l, true) := cut_app (10 :: l) (by decide +kernel)
  have hb := brk_at (l := 91 :: 61 :: 61 :: 91 :: 32 :: 93 :: 93 :: 32 :: 93 :: 61 :: 61 :: 93 :: 10 :: l) 4 ho (by
    rw [show clo (List.take 4 (91 :: 61 :: 61 :: 91 :: 32 :: 93 :: 93 :: 32 :: 93 :: 61 :: 61 :: 93 :: 10 :: l)) = [93, 61, 61, 93] from (show clo [91, 61, 61, 91] = [93, 61, 61, 93] by decide +kernel)]
    exact hc)
  unfold comm
  rw [ho, if_pos (by omega), hb]
  rfl
theorem gap_skip (l : List UInt8) {q : Except (List UInt8) (List UInt8)} (h : Skip l q) : ∀ r, Skip (gap r ++ l) q
  | 0 => h.of_dw (by simp [gap, blB, blkB])
  | 1 => .more (r := 120 :: 10 :: l) (by simp [gap, blB, blkB]) (comm1 l) (skip_nl h)
  | 2 => .more (r := 91 :: 91 :: 97 :: 10 :: 98 :: 93 :: 93 :: l) (by simp [gap, blB, blkB]) (comm2 l) h
  | _ + 3 => .more (r := 91 :: 61 :: 61 :: 91 :: 32 :: 93 :: 93 :: 32 :: 93 :: 61 :: 61 :: 93 :: 10 :: l) (by simp [gap, blB, blkB]) (comm3 l) (skip_nl h)
theorem gap_len : ∀ r, (gap r).length ≤ 16
  | 0 => by decide
  | 1 => by decide
  | 2 => by decide
  | _ + 3 => Nat.le_refl 16
theorem between_pure {s : List UInt8} {l : List Tk} (hs : LexR (1 + (nl s : Int)) s (.ok l)) (i j : Nat) :
    ∃ T, l = T ++ [(0, 1 + (nl s : Int), 0, [])] ∧ LexR (1 + (nl (gap i ++ s ++ [10] ++ gap j) : Int)) (gap i ++ s ++ [10] ++ gap j) (.ok (T.map (onL (gapL i : Int)) ++ [(0, 1 + (nl (gap i ++ s ++ [10] ++ gap j) : Int), 0, [])])) := by
  obtain ⟨T, h1, _⟩ := hs.app rfl
  refine ⟨T, h1, ?_⟩
  have hd := hs.onL (gapL i : Int) rfl
  obtain ⟨T', h3, h4⟩ := hd.app rfl
  have hT : T' = T.map (onL (gapL i : Int)) := by
    rw [h1, List.map_append, List.map_cons, List.map_nil] at h3
    exact ((List.append_inj' h3 rfl).1).symm
  have e1 : gap i ++ s ++ [10] ++ gap j = gap i ++ (s ++ 10 :: gap j) := by simp
  have e2 : (1 + (nl (gap i ++ (s ++ 10 :: gap j)) : Int)) = 1 + (nl s : Int) + (gapL i : Int) + (nl (10 :: gap j) : Int) := by
    rw [nl_app, nl_app, gap_nl]
    omega
  rw [e1, e2, ← hT]
  have hend : Skip (10 :: gap j) (.ok []) := by
    have := gap_skip [] (q := .ok []) (.done rfl rfl) j
    rw [List.append_nil] at this
    exact skip_nl this
  have := h4 (gap j) _ (.eof hend)
  exact this.of_skip fun h => gap_skip _ h i
end Go.Proofs.YtbeckfamnhfaeaaGreatDoor
