/- Plain mathematics of tokens: a name alone. -/
import Derived.Test.YtbeckfamnhfaeaaGreatDoorLexS
namespace Go.Proofs.YtbeckfamnhfaeaaGreatDoor

theorem nm_no10 {s : List UInt8} (h : ∀ c ∈ s, nmB c = true) : nl s = 0 := by
  unfold nl Lib.countByte
  rw [List.count_eq_zero]
  intro h10
  have := h 10 h10
  exact absurd this (by decide)
theorem tw_every {p : UInt8 → Bool} : ∀ {s : List UInt8}, (∀ c ∈ s, p c = true) → s.takeWhile p = s ∧ s.dropWhile p = []
  | [], _ => ⟨rfl, rfl⟩
  | c :: s, h => by
    obtain ⟨h1, h2⟩ := tw_every (p := p) (s := s) fun x hx => h x (List.mem_cons_of_mem _ hx)
    have hc := h c List.mem_cons_self
    exact ⟨by rw [List.takeWhile_cons_of_pos hc, h1], by rw [List.dropWhile_cons_of_pos hc, h2]⟩
theorem nm_blank {c : UInt8} (h : nmB c = true) : blB c = false := by
  revert h
  exact u8_all (P := fun c => nmB c = true → blB c = false) (by decide +kernel) c
theorem nm_dash {c : UInt8} (h : nmB c = true) : c ≠ 45 := by
  rintro rfl
  exact absurd h (by decide)
theorem skip_name {c : UInt8} {s : List UInt8} (h : nmB c = true) : Skip (c :: s) (.ok (c :: s)) := by
  refine .done ?_ ?_
  · rw [List.dropWhile_cons_of_neg (by rw [nm_blank h]; decide)]
  · unfold Lib.hasPrefix
    have : ((45 : UInt8) == c) = false := by simpa using (nm_dash h).symm
    simp [List.isPrefixOf, this]
theorem skip_done' {l : List UInt8} (h1 : l.dropWhile blB = l) (h2 : Lib.hasPrefix l [45, 45] = false) : Skip l (.ok l) := .done h1 h2
theorem lex_eof (L : Int) : LexR L [] (.ok [(0, L, 0, [])]) := .eof (.done rfl rfl)
theorem words_pure {c : UInt8} {s : List UInt8} (hc : ltB c = true) (h : ∀ x ∈ c :: s, nmB x = true) :
    LexR 1 (c :: s) (.ok [(if wordB (c :: s) then 2 else 1, 1, 0, c :: s), (0, 1, 0, [])]) := by
  obtain ⟨h1, h2⟩ := tw_every h
  have ht := Tok.name (c := c) (r := s) hc
  rw [h1, h2] at ht
  have hl := LexR.step (L := 1) (skip_name (s := s) (h c List.mem_cons_self)) (by simp) ht (lex_eof 1)
  rw [nm_no10 h] at hl
  exact hl
end Go.Proofs.YtbeckfamnhfaeaaGreatDoor
