/- Plain mathematics of tokens: what stands behind a line's end says nothing of what was read ahead of it. -/
import Derived.Test.YtbeckfamnhfaeaaGreatDoorLexM
namespace Go.Proofs.YtbeckfamnhfaeaaGreatDoor

theorem tw_app {p : UInt8 → Bool} (h : p 10 = false) (l x : List UInt8) : (l ++ 10 :: x).takeWhile p = l.takeWhile p := by
  induction l with
  | nil => simp [h]
  | cons a t ih => cases e : p a <;> simp [e, ih]
theorem dw_app {p : UInt8 → Bool} (h : p 10 = false) (l x : List UInt8) : (l ++ 10 :: x).dropWhile p = l.dropWhile p ++ 10 :: x := by
  induction l with
  | nil => simp [h]
  | cons a t ih => cases e : p a <;> simp [e, ih]
theorem dw_more {p : UInt8 → Bool} {l r : List UInt8} (x : List UInt8) (h : l.dropWhile p = r) (hr : r ≠ []) : (l ++ x).dropWhile p = r ++ x := by
  induction l with
  | nil => exact absurd h.symm hr
  | cons a t ih =>
    cases e : p a
    · rw [List.dropWhile_cons_of_neg (by simp [e])] at h
      rw [List.cons_append, List.dropWhile_cons_of_neg (by simp [e]), ← h, List.cons_append]
    · rw [List.dropWhile_cons_of_pos e] at h
      rw [List.cons_append, List.dropWhile_cons_of_pos e]
      exact ih h
theorem dw_done {p : UInt8 → Bool} {l : List UInt8} (x : List UInt8) (h : l.dropWhile p = []) : (l ++ x).dropWhile p = x.dropWhile p := by
  induction l with
  | nil => rfl
  | cons a t ih =>
    cases e : p a
    · rw [List.dropWhile_cons_of_neg (by simp [e])] at h; cases h
    · rw [List.dropWhile_cons_of_pos e] at h
      rw [List.cons_append, List.dropWhile_cons_of_pos e]
      exact ih h
theorem dw_twice {p : UInt8 → Bool} (l : List UInt8) : (l.dropWhile p).dropWhile p = l.dropWhile p := by
  induction l with
  | nil => rfl
  | cons a t ih => cases e : p a <;> simp [e, ih]
theorem pre_app (p : List UInt8) (hp : (10 : UInt8) ∉ p) : ∀ l x : List UInt8, Lib.hasPrefix (l ++ 10 :: x) p = Lib.hasPrefix l p := by
  unfold Lib.hasPrefix
  induction p with
  | nil => intro l x; simp
  | cons a t ih =>
    intro l x
    simp only [List.mem_cons, not_or] at hp
    cases l with
    | nil => simp [List.isPrefixOf, Ne.symm hp.1]
    | cons b r => simp [List.isPrefixOf, ih hp.2]

theorem tlb (l x : List UInt8) : Lib.trimLeftB (l ++ 10 :: x) 61 = Lib.trimLeftB l 61 ++ 10 :: x := by
  unfold Lib.trimLeftB
  exact dw_app (by decide) l x
theorem drop_app {α : Type} (l x : List α) (k : Nat) (h : k ≤ l.length) : (l ++ x).drop k = l.drop k ++ x := List.drop_append_of_le_length h
theorem take_app {α : Type} (l x : List α) (k : Nat) (h : k ≤ l.length) : (l ++ x).take k = l.take k := List.take_append_of_le_length h
theorem pre_len {l : List UInt8} {a : UInt8} (h : Lib.hasPrefix l [a] = true) : 1 ≤ l.length := by
  cases l with
  | nil => simp [Lib.hasPrefix] at h
  | cons => simp
theorem opn_app (l x : List UInt8) : opn (l ++ 10 :: x) = opn l := by
  unfold opn
  rw [pre_app [91] (by decide)]
  cases h : Lib.hasPrefix l [91]
  · simp
  · have hl := pre_len h
    rw [drop_app l _ 1 hl, tlb, pre_app [91] (by decide)]
    cases h2 : Lib.hasPrefix (Lib.trimLeftB (l.drop 1) 61) [91]
    · simp
    · have hl2 := pre_len h2
      rw [drop_app _ _ 1 hl2]
      simp only [if_true, List.length_append, List.length_cons]
      omega
theorem opn_le (l : List UInt8) : opn l ≤ l.length := by unfold opn; split <;> (try split) <;> omega

theorem index_app {l sep : List UInt8} (x : List UInt8) (h : 0 ≤ Lib.index l sep) : Lib.index (l ++ x) sep = Lib.index l sep := by
  have hr := Lib.index_room l sep h
  rcases Lib.index_spec l sep with ⟨h1, _⟩ | ⟨i, h1, h2, h3, h4⟩
  · omega
  · rw [h1] at hr ⊢
    have key : ∀ j, j ≤ i → Lib.occAt (l ++ x) sep j = Lib.occAt l sep j := by
      intro j hj
      unfold Lib.occAt
      rw [drop_app l x j (by omega)]
      have hlen : sep.length ≤ (l.drop j).length := by rw [List.length_drop]; omega
      rw [Bool.eq_iff_iff, List.isPrefixOf_iff_prefix, List.isPrefixOf_iff_prefix]
      constructor
      · intro g; exact List.prefix_of_prefix_length_le g (List.prefix_append _ _) hlen
      · intro g; exact g.trans (List.prefix_append _ _)
    exact Lib.index_first (by rw [List.length_append]; omega) (by rw [key i (Nat.le_refl _)]; exact h3) (fun j hj => by rw [key j (by omega)]; exact h4 j hj)
theorem cut_app {l sep t r : List UInt8} (x : List UInt8) (h : Lib.cut l sep = (t, r, true)) : Lib.cut (l ++ x) sep = (t, r ++ x, true) := by
  unfold Lib.cut at h ⊢
  by_cases h0 : 0 ≤ Lib.index l sep
  · have hr := Lib.index_room l sep h0
    rw [if_pos h0] at h
    rw [index_app x h0, if_pos h0, take_app _ _ _ (by omega), drop_app _ _ _ (by omega)]
    injection h with h1 h2
    injection h2 with h2 _
    rw [h1, h2]
  · rw [if_neg h0] at h
    injection h with _ h2
    injection h2 with _ h3
    cases h3
theorem cut_nl (l : List UInt8) : (Lib.cut l [10]).1 = l.takeWhile (fun c => c != 10) := by
  unfold Lib.cut
  rw [Lib.index_one]
  induction l with
  | nil => rfl
  | cons a t ih =>
    unfold Lib.indexByte
    by_cases h : a = 10
    · subst h; simp
    · have hb : (a == 10) = false := by simpa using h
      simp only [List.takeWhile_cons, bne, hb, Bool.not_false]
      by_cases h1 : 0 ≤ Lib.indexByte t 10
      · rw [if_pos h1] at ih
        have e : (Lib.indexByte t 10 == -1) = false := by simpa using (by omega : Lib.indexByte t 10 ≠ -1)
        simp only [e, Bool.false_eq_true, if_false, if_true]
        rw [if_pos (by omega)]
        rw [show (Lib.indexByte t 10 + 1).toNat = (Lib.indexByte t 10).toNat + 1 by omega, List.take_succ_cons]
        simp only [bne] at ih
        rw [← ih]
      · rw [if_neg h1] at ih
        have hge := Lib.index_ge t [10]
        rw [Lib.index_one] at hge
        have e : Lib.indexByte t 10 = -1 := by omega
        simp [e]
        simp only [bne] at ih
        simpa using ih
theorem brk_app {l t r : List UInt8} (x : List UInt8) (h : brk l = some (t, r)) : brk (l ++ 10 :: x) = some (t, r ++ 10 :: x) := by
  unfold brk at h ⊢
  rw [opn_app, take_app _ _ _ (opn_le l), drop_app _ _ _ (opn_le l)]
  obtain ⟨a, b, c, e⟩ : ∃ a b c, Lib.cut (l.drop (opn l)) (clo (l.take (opn l))) = (a, b, c) := ⟨_, _, _, rfl⟩
  rw [e] at h
  cases c
  · simp at h
  · rw [cut_app (10 :: x) e]
    simp only [if_true] at h ⊢
    injection h with h
    injection h with h1 h2
    rw [h1, h2]
theorem drop_tw {p : UInt8 → Bool} (l : List UInt8) : l.drop (l.takeWhile p).length = l.dropWhile p := drop_run p l
theorem comm_app {l r : List UInt8} (x : List UInt8) (h : comm l = some r) : comm (l ++ 10 :: x) = some (r ++ 10 :: x) := by
  unfold comm at h ⊢
  rw [opn_app]
  by_cases h0 : 0 < opn l
  · rw [if_pos h0] at h ⊢
    cases e : brk l with
    | none => rw [e] at h; cases h
    | some q =>
      obtain ⟨t, r'⟩ := q
      rw [e] at h
      rw [brk_app x e]
      simp only [Option.map_some, Option.some.injEq] at h ⊢
      rw [h]
  · rw [if_neg h0] at h ⊢
    rw [cut_nl, drop_tw] at h ⊢
    rw [dw_app (by decide)]
    injection h with h
    rw [h]

theorem Skip.of_dw {l l' : List UInt8} (h : l.dropWhile blB = l'.dropWhile blB) {o : Except (List UInt8) (List UInt8)} (hs : Skip l o) : Skip l' o := by
  cases hs with
  | done h1 h2 => exact .done (h ▸ h1) h2
  | more h1 h2 h3 => exact .more (h ▸ h1) h2 h3
  | bad h1 h2 => exact .bad (h ▸ h1) h2
theorem dw_app_bl (l x : List UInt8) : (l ++ 10 :: x).dropWhile blB = (l.dropWhile blB ++ 10 :: x).dropWhile blB := by
  by_cases h : l.dropWhile blB = []
  · rw [dw_done _ h, h]; rfl
  · rw [dw_more (10 :: x) rfl h]
    exact (dw_more (10 :: x) (dw_twice l) h).symm
theorem Skip.app {l : List UInt8} {q : Except (List UInt8) (List UInt8)} (h : Skip l q) (x : List UInt8) : ∀ {r o}, q = .ok r → Skip (r ++ 10 :: x) o → Skip (l ++ 10 :: x) o := by
  induction h with
  | done h1 h2 =>
    intro r o e hs
    cases e
    exact hs.of_dw (h1 ▸ (dw_app_bl _ x).symm)
  | @more l r1 r' o' h1 h2 h3 ih =>
    intro r o e hs
    refine .more (r := r1 ++ 10 :: x) ?_ (comm_app x h2) (ih e hs)
    rw [dw_more (10 :: x) h1 (by simp)]
    rfl
  | bad h1 h2 => intro r o e; cases e

theorem Skip.rest {l r : List UInt8} {q : Except (List UInt8) (List UInt8)} (h : Skip l q) : q = .ok r → r.dropWhile blB = r ∧ Lib.hasPrefix r [45, 45] = false := by
  induction h with
  | done h1 h2 => intro e; cases e; exact ⟨by rw [← h1]; exact dw_twice _, h2⟩
  | more h1 h2 h3 ih => exact ih
  | bad h1 h2 => intro e; cases e
/-- Behind blanks and comments stands something: it stays so. -/
theorem Skip.app_ok {l r : List UInt8} (h : Skip l (.ok r)) (hr : r ≠ []) (x : List UInt8) : Skip (l ++ 10 :: x) (.ok (r ++ 10 :: x)) := by
  obtain ⟨h1, h2⟩ := h.rest rfl
  exact h.app x rfl (.done (dw_more _ h1 hr) (by rw [pre_app _ (by decide)]; exact h2))
theorem Skip.app_end {l x : List UInt8} {o : Except (List UInt8) (List UInt8)} (h : Skip l (.ok [])) (hx : Skip (10 :: x) o) : Skip (l ++ 10 :: x) o := h.app x rfl hx

theorem tw_more {p : UInt8 → Bool} {l : List UInt8} (x : List UInt8) (hr : l.dropWhile p ≠ []) : (l ++ x).takeWhile p = l.takeWhile p := by
  induction l with
  | nil => exact absurd rfl hr
  | cons a t ih =>
    cases e : p a
    · simp [e]
    · rw [List.dropWhile_cons_of_pos e] at hr
      simp [e, ih hr]
theorem tw_all {p : UInt8 → Bool} {l : List UInt8} (x : List UInt8) (hr : l.dropWhile p = []) : (l ++ x).takeWhile p = l ++ x.takeWhile p ∧ l.takeWhile p = l := by
  induction l with
  | nil => simp
  | cons a t ih =>
    cases e : p a
    · rw [List.dropWhile_cons_of_neg (by simp [e])] at hr; cases hr
    · rw [List.dropWhile_cons_of_pos e] at hr
      simp [e, ih hr]
theorem code_n {p : UInt8 → Bool} {l : List UInt8} {most : Nat} (x : List UInt8) (h : l.drop (min most (runN p l)) ≠ []) : min most (runN p (l ++ x)) = min most (runN p l) ∧ min most (runN p l) ≤ l.length := by
  have h2 : min most (runN p l) < l.length := by
    apply Classical.byContradiction
    intro g
    exact h (List.drop_eq_nil_of_le (by omega))
  refine ⟨?_, by omega⟩
  unfold runN at *
  by_cases e : l.dropWhile p = []
  · obtain ⟨e1, e2⟩ := tw_all x e
    rw [e1, List.length_append]
    rw [e2] at h2 ⊢
    omega
  · rw [tw_more x e]
theorem code_app {b : Int} {p : UInt8 → Bool} {least most : Nat} {l m r : List UInt8} (x : List UInt8) (h : code b p least most l = some (m, r)) (hr : r ≠ []) : code b p least most (l ++ x) = some (m, r ++ x) := by
  unfold code at h ⊢
  split at h
  · rename_i hc
    injection h with h
    injection h with h1 h2
    obtain ⟨e, hle⟩ := code_n (p := p) (l := l) (most := most) x (by rw [h2]; exact hr)
    rw [e, take_app _ _ _ hle, drop_app _ _ _ hle, if_pos hc, h1, h2]
  · cases h
theorem escC_lett {c x : UInt8} (r : List UInt8) (e : lett c = some x) : escC c r = some ([x], r) := by unfold escC; rw [e]
theorem escC_self {c : UInt8} (r : List UInt8) (e : lett c = none) (h : selfB c = true) : escC c r = some ([c], r) := by unfold escC; rw [e]; exact if_pos h
theorem escC_z {c : UInt8} (r : List UInt8) (e : lett c = none) (h : selfB c = false) (h2 : c.toNat = 122) : escC c r = some ([], r.dropWhile blB) := by
  unfold escC; rw [e]; exact (if_neg (by rw [h]; decide)).trans (if_pos h2)
theorem escC_x {c : UInt8} (r : List UInt8) (e : lett c = none) (h : selfB c = false) (h2 : c.toNat = 120) : escC c r = code 16 hxB 2 2 r := by
  unfold escC; rw [e]; exact (if_neg (by rw [h]; decide)).trans ((if_neg (by omega)).trans (if_pos h2))
theorem escC_d {c : UInt8} (r : List UInt8) (e : lett c = none) (h : selfB c = false) (h2 : c.toNat ≠ 122) (h3 : c.toNat ≠ 120) (h4 : dgB c = true) : escC c r = code 10 dgB 1 3 (c :: r) := by
  unfold escC; rw [e]; exact (if_neg (by rw [h]; decide)).trans ((if_neg h2).trans ((if_neg h3).trans (if_pos h4)))
theorem escC_no {c : UInt8} (r : List UInt8) (e : lett c = none) (h : selfB c = false) (h2 : c.toNat ≠ 122) (h3 : c.toNat ≠ 120) (h4 : dgB c = false) : escC c r = none := by
  unfold escC; rw [e]; exact (if_neg (by rw [h]; decide)).trans ((if_neg h2).trans ((if_neg h3).trans (if_neg (by rw [h4]; decide))))
theorem pair_app {a m t r x : List UInt8} (h : some (a, t) = some (m, r)) : some (a, t ++ x) = some (m, r ++ x) := by
  injection h with h
  injection h with h1 h2
  rw [h1, h2]
theorem esc_app {l m r : List UInt8} (x : List UInt8) (h : esc l = some (m, r)) (hr : r ≠ []) : esc (l ++ x) = some (m, r ++ x) := by
  cases l with
  | nil => cases h
  | cons c t =>
    rw [List.cons_append]
    have h : escC c t = some (m, r) := h
    show escC c (t ++ x) = _
    cases e : lett c with
    | some y =>
      rw [escC_lett _ e] at h ⊢
      exact pair_app h
    | none =>
      cases e1 : selfB c
      · by_cases e2 : c.toNat = 122
        · rw [escC_z _ e e1 e2] at h ⊢
          injection h with h
          injection h with h1 h2
          rw [dw_more x h2 hr, h1]
        · by_cases e3 : c.toNat = 120
          · rw [escC_x _ e e1 e3] at h ⊢
            exact code_app x h hr
          · cases e4 : dgB c
            · rw [escC_no _ e e1 e2 e3 e4] at h
              cases h
            · rw [escC_d _ e e1 e2 e3 e4] at h ⊢
              exact code_app (l := c :: t) x h hr
      · rw [escC_self _ e e1] at h ⊢
        exact pair_app h
theorem Quo.some_of {q : UInt8} {l : List UInt8} {z : List UInt8 × List UInt8} (h : Quo q l (some z)) : l ≠ [] := by
  intro e
  subst e
  cases h
theorem Quo.app {q : UInt8} {l : List UInt8} {o : Option (List UInt8 × List UInt8)} (h : Quo q l o) (x : List UInt8) : ∀ {t r}, o = some (t, r) → Quo q (l ++ x) (some (t, r ++ x)) := by
  induction h with
  | shut => intro t r e; cases e; exact .shut
  | none => intro t r e; cases e
  | line => intro t r e; cases e
  | @esc r1 m r' o' h1 h2 h3 ih =>
    intro t r e
    cases o' with
    | none => cases e
    | some z =>
      obtain ⟨t', r''⟩ := z
      simp only [Option.map_some, Option.some.injEq, Prod.mk.injEq] at e
      have := Quo.esc (q := q) h1 (esc_app x h2 h3.some_of) (ih rfl)
      simpa [e.1, e.2] using this
  | bad => intro t r e; cases e
  | @byte c r1 o' h1 h2 h3 h4 ih =>
    intro t r e
    cases o' with
    | none => cases e
    | some z =>
      obtain ⟨t', r''⟩ := z
      simp only [Option.map_some, Option.some.injEq, Prod.mk.injEq] at e
      have := Quo.byte (q := q) h1 h2 h3 (ih rfl)
      simpa [e.1, e.2] using this

theorem signs_no10 : ∀ s ∈ signs, (10 : UInt8) ∉ s := by decide
theorem sgnB_no {s : List UInt8} (h : (10 : UInt8) ∈ s) : sgnB s = false := by
  unfold sgnB
  rw [Bool.eq_false_iff]
  intro hc
  rw [List.contains_iff_mem] at hc
  exact signs_no10 s hc h
theorem sign_app {l t r : List UInt8} (x : List UInt8) (h : sign l = some (t, r)) (hl : l ≠ []) : sign (l ++ 10 :: x) = some (t, r ++ 10 :: x) := by
  unfold sign at h ⊢
  match l, hl with
  | [a], _ =>
    have e3 : sgnB (([a] ++ 10 :: x).take 3) = false := sgnB_no (by simp)
    have e2 : sgnB (([a] ++ 10 :: x).take 2) = false := sgnB_no (by simp)
    rw [e3, e2]
    have h' : (if sgnB [a] then some ([a], []) else none) = some (t, r) := by
      revert h
      show (if sgnB [a] = true then some ([a], []) else if sgnB [a] = true then some ([a], []) else if sgnB [a] = true then some ([a], []) else none) = some (t, r) → _
      cases sgnB [a] <;> simp
    cases e : sgnB [a]
    · rw [e] at h'; simp at h'
    · rw [e] at h'
      simp at h'
      obtain ⟨rfl, rfl⟩ := h'
      simp [e]
  | [a, b], _ =>
    have e3 : sgnB (([a, b] ++ 10 :: x).take 3) = false := sgnB_no (by simp)
    rw [e3]
    simp only [List.take_succ_cons, List.take_nil, List.drop_succ_cons, List.drop_nil, List.drop_zero, List.take_zero] at h
    simp only [List.cons_append, List.nil_append, List.take_succ_cons, List.take_zero, List.drop_succ_cons, List.drop_zero]
    cases e : sgnB [a, b]
    · rw [e] at h
      cases e1 : sgnB [a]
      · rw [e1] at h; simp at h
      · rw [e1] at h
        simp at h
        simp [← h.1, ← h.2]
    · rw [e] at h
      simp at h
      simp [← h.1, ← h.2]
  | a :: b :: c :: l, _ =>
    simp only [List.cons_append, List.take_succ_cons, List.take_zero, List.drop_succ_cons, List.drop_zero] at h ⊢
    split at h
    · rename_i g; rw [if_pos g]; simp at h ⊢; exact ⟨h.1, by rw [← h.2]⟩
    · rename_i g
      rw [if_neg g]
      split at h
      · rename_i g2; rw [if_pos g2]; simp at h ⊢; exact ⟨h.1, by rw [← h.2]; rfl⟩
      · rename_i g2
        rw [if_neg g2]
        split at h
        · rename_i g3; rw [if_pos g3]; simp at h ⊢; exact ⟨h.1, by rw [← h.2]; rfl⟩
        · cases h

theorem Tok.app {l : List UInt8} {k n : Int} {s r : List UInt8} (h : Tok l (some (k, n, s, r))) (hl : l ≠ []) (x : List UInt8) : Tok (l ++ 10 :: x) (some (k, n, s, r ++ 10 :: x)) := by
  generalize ho : some (k, n, s, r) = o at h
  cases h with
  | eof => exact absurd rfl hl
  | @name c t h1 =>
    have := Tok.name (c := c) (r := t ++ 10 :: x) h1
    rw [← List.cons_append, tw_app (by decide), dw_app (by decide)] at this
    simp only [Option.some.injEq, Prod.mk.injEq] at ho
    rw [ho.1, ho.2.1, ho.2.2.1, ho.2.2.2]
    exact this
  | @num c t h1 h2 h3 =>
    have := Tok.num (c := c) (r := t ++ 10 :: x) h1 h2 (by rw [← List.cons_append, tw_app (by decide)]; exact h3)
    rw [← List.cons_append, tw_app (by decide), dw_app (by decide)] at this
    simp only [Option.some.injEq, Prod.mk.injEq] at ho
    rw [ho.1, ho.2.1, ho.2.2.1, ho.2.2.2]
    exact this
  | numBad => cases ho
  | @text c t o' h1 h2 h3 h4 =>
    cases o' with
    | none => cases ho
    | some z =>
      obtain ⟨a, b⟩ := z
      simp only [Option.map_some, Option.some.injEq, Prod.mk.injEq] at ho
      have := Tok.text h1 h2 h3 (h4.app (10 :: x) rfl)
      rw [ho.1, ho.2.1, ho.2.2.1, ho.2.2.2]
      exact this
  | @long c t h1 h2 h3 h4 =>
    cases e : brk (c :: t) with
    | none => rw [e] at ho; cases ho
    | some z =>
      obtain ⟨a, b⟩ := z
      rw [e] at ho
      simp only [Option.map_some, Option.some.injEq, Prod.mk.injEq] at ho
      have := Tok.long (c := c) (r := t ++ 10 :: x) h1 h2 h3 (by rw [← List.cons_append, opn_app]; exact h4)
      rw [← List.cons_append, brk_app x e] at this
      rw [ho.1, ho.2.1, ho.2.2.1, ho.2.2.2]
      exact this
  | @sign c t h1 h2 h3 h4 =>
    cases e : Go.Proofs.YtbeckfamnhfaeaaGreatDoor.sign (c :: t) with
    | none => rw [e] at ho; cases ho
    | some z =>
      obtain ⟨a, b⟩ := z
      rw [e] at ho
      simp only [Option.map_some, Option.some.injEq, Prod.mk.injEq] at ho
      have := Tok.sign (c := c) (r := t ++ 10 :: x) h1 h2 h3 (by rw [← List.cons_append, opn_app]; exact h4)
      rw [← List.cons_append, sign_app x e (by simp)] at this
      rw [ho.1, ho.2.1, ho.2.2.1, ho.2.2.2]
      exact this

theorem LexR.app {L : Int} {l : List UInt8} {q : Except Int (List Tk)} (h : LexR L l q) : ∀ {ts}, q = .ok ts → ∃ T, ts = T ++ [(0, L, 0, [])] ∧
    ∀ (x : List UInt8) (o : Except Int (List Tk)), LexR (L + nl (10 :: x)) (10 :: x) o → LexR (L + nl (10 :: x)) (l ++ 10 :: x) (o.map (T ++ ·)) := by
  induction h with
  | skipBad => intro ts e; cases e
  | tokBad => intro ts e; cases e
  | @eof l h1 =>
    intro ts e
    cases e
    refine ⟨[], rfl, fun x o ho => ?_⟩
    have e : o.map (([] : List Tk) ++ ·) = o := by cases o <;> rfl
    rw [e]
    cases ho with
    | skipBad g => exact .skipBad (h1.app_end g)
    | tokBad g1 g2 => exact .tokBad (h1.app_end g1) g2
    | eof g => exact .eof (h1.app_end g)
    | step g1 g2 g3 g4 => exact .step (h1.app_end g1) g2 g3 g4
  | @step l r r' s k n o' h1 h2 h3 h4 ih =>
    intro ts e
    cases o' with
    | error => cases e
    | ok ts' =>
      obtain ⟨T, hT, hx⟩ := ih rfl
      have e' : (k, L - nl r, n, s) :: ts' = ts := by injection e
      refine ⟨(k, L - nl r, n, s) :: T, by rw [← e', hT]; rfl, fun x o ho => ?_⟩
      have := LexR.step (L := L + nl (10 :: x)) (h1.app_ok h2 x) (by simp) (h3.app h2 x) (hx x o ho)
      rw [nl_app] at this
      have e2 : L + (nl (10 :: x) : Int) - ((nl r + nl (10 :: x) : Nat) : Int) = L - nl r := by omega
      rw [e2] at this
      cases o <;> exact this
theorem LexR.of_skip {L : Int} {l l' : List UInt8} {o : Except Int (List Tk)} (hs : ∀ {q}, Skip l q → Skip l' q) (h : LexR L l o) : LexR L l' o := by
  cases h with
  | skipBad g => exact .skipBad (hs g)
  | tokBad g1 g2 => exact .tokBad (hs g1) g2
  | eof g => exact .eof (hs g)
  | step g1 g2 g3 g4 => exact .step (hs g1) g2 g3 g4
/-- Lines counted on. -/
def onL (d : Int) (t : Tk) : Tk := (t.1, t.2.1 + d, t.2.2)
theorem LexR.onL {L : Int} {l : List UInt8} {q : Except Int (List Tk)} (d : Int) (h : LexR L l q) : ∀ {ts}, q = .ok ts → LexR (L + d) l (.ok (ts.map (onL d))) := by
  induction h with
  | skipBad => intro ts e; cases e
  | tokBad => intro ts e; cases e
  | eof h1 => intro ts e; cases e; exact .eof h1
  | @step l r r' s k n o' h1 h2 h3 h4 ih =>
    intro ts e
    cases o' with
    | error => cases e
    | ok ts' =>
      have e' : (k, L - nl r, n, s) :: ts' = ts := by injection e
      have := LexR.step (L := L + d) h1 h2 h3 (ih rfl)
      rw [← e', List.map_cons]
      rw [show L + d - (nl r : Int) = L - nl r + d by omega] at this
      exact this
end Go.Proofs.YtbeckfamnhfaeaaGreatDoor
