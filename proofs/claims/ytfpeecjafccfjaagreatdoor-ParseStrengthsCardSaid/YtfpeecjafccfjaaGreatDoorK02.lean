/- Parts of the proof: LexX, LDg, Shelf, LConv, LSh, LRd, LKd, LBr, LBk. -/
import Derived.Test.YtfpeecjafccfjaaGreatDoorProg
import Derived.WalkKit
import Derived.WalkSpells
import Derived.WalkLawsBesides
import Derived.Lib.QuietBelow
import Derived.BigQuiet
import Derived.Lib.Hide
import Derived.IntWalk
import Derived.Shelf.Strings.Builder1
import Derived.Shelf.Strings.Builder2
import Derived.Shelf.Strings.Trim
import Derived.Shelf.Small.Utf8
import Derived.Shelf.Small.Strs
import Derived.Shelf.Small.Wraps
import Derived.Shelf.Strconv.Itoa0
import Derived.Shelf.Strconv.Itoa1
import Derived.Shelf.LaysM
import Derived.Shelf.Strconv.Itoa2
import Derived.Shelf.Strconv.Itoa3
import Derived.Shelf.Strconv.Itoa4
import Derived.Shelf.Strings.Search1
import Derived.Shelf.Strings.Search2
import Derived.Shelf.Strings.Search3
import Derived.Shelf.Strings.Cut
import Derived.Shelf.Strings.Count
import Derived.Shelf.Strings.Shaped
import Derived.Shelf.Strings.Prefix
import Derived.Shelf.Strings.Split
import Derived.Shelf.Strings.Replace
import Derived.Shelf.Strings.SplitShaped
import Derived.Shelf.Strings.Runes
import Derived.Shelf.Strings.AsciiSet
import Derived.Shelf.Unicode.DecodeSlow
import Derived.Shelf.Strings.SlTrimAscii
import Derived.Lib.SplitLaws
import Derived.Below
import Derived.Deep.QuietTactic
import Derived.Deep.RegionWith
import Derived.RangeFuncBox
import Derived.Maps.AppendAt
import Derived.Test.YtfpeecjafccfjaaGreatDoorK01
namespace Go.Proofs.YtfpeecjafccfjaaGreatDoor
theorem tw_app {p : UInt8 → Bool} (h : p 10 = false) (l x : List UInt8) : (l ++ 10 :: x).takeWhile p = l.takeWhile p := by
  induction l with
  | nil => simp [h]
  | cons a t ih => cases e : p a <;> simp [e, ih]
theorem dw_app {p : UInt8 → Bool} (h : p 10 = false) (l x : List UInt8) : (l ++ 10 :: x).dropWhile p = l.dropWhile p ++ 10 :: x := by
  induction l with
  | nil => simp [h]
  | cons a t ih => cases e : p a <;> simp [e, ih]
theorem dw_more {p : UInt8 → Bool} {l r : List UInt8} (x : List UInt8) (h : l.dropWhile p = r) (hr : r ≠ []) : (l ++ x).dropWhile p = r ++ x := by
  induction l with
  | nil => exact absurd h.symm hr
  | cons a t ih =>
    cases e : p a
    · rw [List.dropWhile_cons_of_neg (by simp [e])] at h
      rw [List.cons_append, List.dropWhile_cons_of_neg (by simp [e]), ← h, List.cons_append]
    · rw [List.dropWhile_cons_of_pos e] at h
      rw [List.cons_append, List.dropWhile_cons_of_pos e]
      exact ih h
theorem dw_done {p : UInt8 → Bool} {l : List UInt8} (x : List UInt8) (h : l.dropWhile p = []) : (l ++ x).dropWhile p = x.dropWhile p := by
  induction l with
  | nil => rfl
  | cons a t ih =>
    cases e : p a
    · rw [List.dropWhile_cons_of_neg (by simp [e])] at h; cases h
    · rw [List.dropWhile_cons_of_pos e] at h
      rw [List.cons_append, List.dropWhile_cons_of_pos e]
      exact ih h
theorem dw_twice {p : UInt8 → Bool} (l : List UInt8) : (l.dropWhile p).dropWhile p = l.dropWhile p := by
  induction l with
  | nil => rfl
  | cons a t ih => cases e : p a <;> simp [e, ih]
theorem pre_app (p : List UInt8) (hp : (10 : UInt8) ∉ p) : ∀ l x : List UInt8, Lib.hasPrefix (l ++ 10 :: x) p = Lib.hasPrefix l p := by
  unfold Lib.hasPrefix
  induction p with
  | nil => intro l x; simp
  | cons a t ih =>
    intro l x
    simp only [List.mem_cons, not_or] at hp
    cases l with
    | nil => simp [List.isPrefixOf, Ne.symm hp.1]
    | cons b r => simp [List.isPrefixOf, ih hp.2]
theorem tlb (l x : List UInt8) : Lib.trimLeftB (l ++ 10 :: x) 61 = Lib.trimLeftB l 61 ++ 10 :: x := by
  unfold Lib.trimLeftB
  exact dw_app (by decide) l x
theorem drop_app {α : Type} (l x : List α) (k : Nat) (h : k ≤ l.length) : (l ++ x).drop k = l.drop k ++ x := List.drop_append_of_le_length h
theorem take_app {α : Type} (l x : List α) (k : Nat) (h : k ≤ l.length) : (l ++ x).take k = l.take k := List.take_append_of_le_length h
theorem pre_len {l : List UInt8} {a : UInt8} (h : Lib.hasPrefix l [a] = true) : 1 ≤ l.length := by
  cases l with
  | nil => simp [Lib.hasPrefix] at h
  | cons => simp
theorem opn_app (l x : List UInt8) : opn (l ++ 10 :: x) = opn l := by
  unfold opn
  rw [pre_app [91] (by decide)]
  cases h : Lib.hasPrefix l [91]
  · simp
  · have hl := pre_len h
    rw [drop_app l _ 1 hl, tlb, pre_app [91] (by decide)]
    cases h2 : Lib.hasPrefix (Lib.trimLeftB (l.drop 1) 61) [91]
    · simp
    · have hl2 := pre_len h2
      rw [drop_app _ _ 1 hl2]
      simp only [if_true, List.length_append, List.length_cons]
      omega
theorem opn_le (l : List UInt8) : opn l ≤ l.length := by unfold opn; split <;> (try split) <;> omega
theorem index_app {l sep : List UInt8} (x : List UInt8) (h : 0 ≤ Lib.index l sep) : Lib.index (l ++ x) sep = Lib.index l sep := by
  have hr := Lib.index_room l sep h
  rcases Lib.index_spec l sep with ⟨h1, _⟩ | ⟨i, h1, h2, h3, h4⟩
  · omega
  · rw [h1] at hr ⊢
    have key : ∀ j, j ≤ i → Lib.occAt (l ++ x) sep j = Lib.occAt l sep j := by
      intro j hj
      unfold Lib.occAt
      rw [drop_app l x j (by omega)]
      have hlen : sep.length ≤ (l.drop j).length := by rw [List.length_drop]; omega
      rw [Bool.eq_iff_iff, List.isPrefixOf_iff_prefix, List.isPrefixOf_iff_prefix]
      constructor
      · intro g; exact List.prefix_of_prefix_length_le g (List.prefix_append _ _) hlen
      · intro g; exact g.trans (List.prefix_append _ _)
    exact Lib.index_first (by rw [List.length_append]; omega) (by rw [key i (Nat.le_refl _)]; exact h3) (fun j hj => by rw [key j (by omega)]; exact h4 j hj)
theorem cut_app {l sep t r : List UInt8} (x : List UInt8) (h : Lib.cut l sep = (t, r, true)) : Lib.cut (l ++ x) sep = (t, r ++ x, true) := by
  unfold Lib.cut at h ⊢
  by_cases h0 : 0 ≤ Lib.index l sep
  · have hr := Lib.index_room l sep h0
    rw [if_pos h0] at h
    rw [index_app x h0, if_pos h0, take_app _ _ _ (by omega), drop_app _ _ _ (by omega)]
    injection h with h1 h2
    injection h2 with h2 _
    rw [h1, h2]
  · rw [if_neg h0] at h
    injection h with _ h2
    injection h2 with _ h3
    cases h3
theorem cut_nl (l : List UInt8) : (Lib.cut l [10]).1 = l.takeWhile (fun c => c != 10) := by
  unfold Lib.cut
  rw [Lib.index_one]
  induction l with
  | nil => rfl
  | cons a t ih =>
    unfold Lib.indexByte
    by_cases h : a = 10
    · subst h; simp
    · have hb : (a == 10) = false := by simpa using h
      simp only [List.takeWhile_cons, bne, hb, Bool.not_false]
      by_cases h1 : 0 ≤ Lib.indexByte t 10
      · rw [if_pos h1] at ih
        have e : (Lib.indexByte t 10 == -1) = false := by simpa using (by omega : Lib.indexByte t 10 ≠ -1)
        simp only [e, Bool.false_eq_true, if_false, if_true]
        rw [if_pos (by omega)]
        rw [show (Lib.indexByte t 10 + 1).toNat = (Lib.indexByte t 10).toNat + 1 by omega, List.take_succ_cons]
        simp only [bne] at ih
        rw [← ih]
      · rw [if_neg h1] at ih
        have hge := Lib.index_ge t [10]
        rw [Lib.index_one] at hge
        have e : Lib.indexByte t 10 = -1 := by omega
        simp [e]
        simp only [bne] at ih
        simpa using ih
theorem brk_app {l t r : List UInt8} (x : List UInt8) (h : brk l = some (t, r)) : brk (l ++ 10 :: x) = some (t, r ++ 10 :: x) := by
  unfold brk at h ⊢
  rw [opn_app, take_app _ _ _ (opn_le l), drop_app _ _ _ (opn_le l)]
  obtain ⟨a, b, c, e⟩ : ∃ a b c, Lib.cut (l.drop (opn l)) (clo (l.take (opn l))) = (a, b, c) := ⟨_, _, _, rfl⟩
  rw [e] at h
  cases c
  · simp at h
  · rw [cut_app (10 :: x) e]
    simp only [if_true] at h ⊢
    injection h with h
    injection h with h1 h2
    rw [h1, h2]
theorem drop_tw {p : UInt8 → Bool} (l : List UInt8) : l.drop (l.takeWhile p).length = l.dropWhile p := drop_run p l
theorem comm_app {l r : List UInt8} (x : List UInt8) (h : comm l = some r) : comm (l ++ 10 :: x) = some (r ++ 10 :: x) := by
  unfold comm at h ⊢
  rw [opn_app]
  by_cases h0 : 0 < opn l
  · rw [if_pos h0] at h ⊢
    cases e : brk l with
    | none => rw [e] at h; cases h
    | some q =>
      obtain ⟨t, r'⟩ := q
      rw [e] at h
      rw [brk_app x e]
      simp only [Option.map_some, Option.some.injEq] at h ⊢
      rw [h]
  · rw [if_neg h0] at h ⊢
    rw [cut_nl, drop_tw] at h ⊢
    rw [dw_app (by decide)]
    injection h with h
    rw [h]
theorem Skip.of_dw {l l' : List UInt8} (h : l.dropWhile blB = l'.dropWhile blB) {o : Except (List UInt8) (List UInt8)} (hs : Skip l o) : Skip l' o := by
  cases hs with
  | done h1 h2 => exact .done (h ▸ h1) h2
  | more h1 h2 h3 => exact .more (h ▸ h1) h2 h3
  | bad h1 h2 => exact .bad (h ▸ h1) h2
theorem dw_app_bl (l x : List UInt8) : (l ++ 10 :: x).dropWhile blB = (l.dropWhile blB ++ 10 :: x).dropWhile blB := by
  by_cases h : l.dropWhile blB = []
  · rw [dw_done _ h, h]; rfl
  · rw [dw_more (10 :: x) rfl h]
    exact (dw_more (10 :: x) (dw_twice l) h).symm
theorem Skip.app {l : List UInt8} {q : Except (List UInt8) (List UInt8)} (h : Skip l q) (x : List UInt8) : ∀ {r o}, q = .ok r → Skip (r ++ 10 :: x) o → Skip (l ++ 10 :: x) o := by
  induction h with
  | done h1 h2 =>
    intro r o e hs
    cases e
    exact hs.of_dw (h1 ▸ (dw_app_bl _ x).symm)
  | @more l r1 r' o' h1 h2 h3 ih =>
    intro r o e hs
    refine .more (r := r1 ++ 10 :: x) ?_ (comm_app x h2) (ih e hs)
    rw [dw_more (10 :: x) h1 (by simp)]
    rfl
  | bad h1 h2 => intro r o e; cases e
theorem Skip.rest {l r : List UInt8} {q : Except (List UInt8) (List UInt8)} (h : Skip l q) : q = .ok r → r.dropWhile blB = r ∧ Lib.hasPrefix r [45, 45] = false := by
  induction h with
  | done h1 h2 => intro e; cases e; exact ⟨by rw [← h1]; exact dw_twice _, h2⟩
  | more h1 h2 h3 ih => exact ih
  | bad h1 h2 => intro e; cases e
theorem Skip.app_ok {l r : List UInt8} (h : Skip l (.ok r)) (hr : r ≠ []) (x : List UInt8) : Skip (l ++ 10 :: x) (.ok (r ++ 10 :: x)) := by
  obtain ⟨h1, h2⟩ := h.rest rfl
  exact h.app x rfl (.done (dw_more _ h1 hr) (by rw [pre_app _ (by decide)]; exact h2))
theorem Skip.app_end {l x : List UInt8} {o : Except (List UInt8) (List UInt8)} (h : Skip l (.ok [])) (hx : Skip (10 :: x) o) : Skip (l ++ 10 :: x) o := h.app x rfl hx
theorem tw_more {p : UInt8 → Bool} {l : List UInt8} (x : List UInt8) (hr : l.dropWhile p ≠ []) : (l ++ x).takeWhile p = l.takeWhile p := by
  induction l with
  | nil => exact absurd rfl hr
  | cons a t ih =>
    cases e : p a
    · simp [e]
    · rw [List.dropWhile_cons_of_pos e] at hr
      simp [e, ih hr]
theorem tw_all {p : UInt8 → Bool} {l : List UInt8} (x : List UInt8) (hr : l.dropWhile p = []) : (l ++ x).takeWhile p = l ++ x.takeWhile p ∧ l.takeWhile p = l := by
  induction l with
  | nil => simp
  | cons a t ih =>
    cases e : p a
    · rw [List.dropWhile_cons_of_neg (by simp [e])] at hr; cases hr
    · rw [List.dropWhile_cons_of_pos e] at hr
      simp [e, ih hr]
theorem code_n {p : UInt8 → Bool} {l : List UInt8} {most : Nat} (x : List UInt8) (h : l.drop (min most (runN p l)) ≠ []) : min most (runN p (l ++ x)) = min most (runN p l) ∧ min most (runN p l) ≤ l.length := by
  have h2 : min most (runN p l) < l.length := by
    apply Classical.byContradiction
    intro g
    exact h (List.drop_eq_nil_of_le (by omega))
  refine ⟨?_, by omega⟩
  unfold runN at *
  by_cases e : l.dropWhile p = []
  · obtain ⟨e1, e2⟩ := tw_all x e
    rw [e1, List.length_append]
    rw [e2] at h2 ⊢
    omega
  · rw [tw_more x e]
theorem code_app {b : Int} {p : UInt8 → Bool} {least most : Nat} {l m r : List UInt8} (x : List UInt8) (h : code b p least most l = some (m, r)) (hr : r ≠ []) : code b p least most (l ++ x) = some (m, r ++ x) := by
  unfold code at h ⊢
  split at h
  · rename_i hc
    injection h with h
    injection h with h1 h2
    obtain ⟨e, hle⟩ := code_n (p := p) (l := l) (most := most) x (by rw [h2]; exact hr)
    rw [e, take_app _ _ _ hle, drop_app _ _ _ hle, if_pos hc, h1, h2]
  · cases h
theorem escC_lett {c x : UInt8} (r : List UInt8) (e : lett c = some x) : escC c r = some ([x], r) := by unfold escC; rw [e]
theorem escC_self {c : UInt8} (r : List UInt8) (e : lett c = none) (h : selfB c = true) : escC c r = some ([c], r) := by unfold escC; rw [e]; exact if_pos h
theorem escC_z {c : UInt8} (r : List UInt8) (e : lett c = none) (h : selfB c = false) (h2 : c.toNat = 122) : escC c r = some ([], r.dropWhile blB) := by
  unfold escC; rw [e]; exact (if_neg (by rw [h]; decide)).trans (if_pos h2)
theorem escC_x {c : UInt8} (r : List UInt8) (e : lett c = none) (h : selfB c = false) (h2 : c.toNat = 120) : escC c r = code 16 hxB 2 2 r := by
  unfold escC; rw [e]; exact (if_neg (by rw [h]; decide)).trans ((if_neg (by omega)).trans (if_pos h2))
theorem escC_d {c : UInt8} (r : List UInt8) (e : lett c = none) (h : selfB c = false) (h2 : c.toNat ≠ 122) (h3 : c.toNat ≠ 120) (h4 : dgB c = true) : escC c r = code 10 dgB 1 3 (c :: r) := by
  unfold escC; rw [e]; exact (if_neg (by rw [h]; decide)).trans ((if_neg h2).trans ((if_neg h3).trans (if_pos h4)))
theorem escC_no {c : UInt8} (r : List UInt8) (e : lett c = none) (h : selfB c = false) (h2 : c.toNat ≠ 122) (h3 : c.toNat ≠ 120) (h4 : dgB c = false) : escC c r = none := by
  unfold escC; rw [e]; exact (if_neg (by rw [h]; decide)).trans ((if_neg h2).trans ((if_neg h3).trans (if_neg (by rw [h4]; decide))))
theorem pair_app {a m t r x : List UInt8} (h : some (a, t) = some (m, r)) : some (a, t ++ x) = some (m, r ++ x) := by
  injection h with h
  injection h with h1 h2
  rw [h1, h2]
theorem esc_app {l m r : List UInt8} (x : List UInt8) (h : esc l = some (m, r)) (hr : r ≠ []) : esc (l ++ x) = some (m, r ++ x) := by
  cases l with
  | nil => cases h
  | cons c t =>
    rw [List.cons_append]
    have h : escC c t = some (m, r) := h
    show escC c (t ++ x) = _
    cases e : lett c with
    | some y =>
      rw [escC_lett _ e] at h ⊢
      exact pair_app h
    | none =>
      cases e1 : selfB c
      · by_cases e2 : c.toNat = 122
        · rw [escC_z _ e e1 e2] at h ⊢
          injection h with h
          injection h with h1 h2
          rw [dw_more x h2 hr, h1]
        · by_cases e3 : c.toNat = 120
          · rw [escC_x _ e e1 e3] at h ⊢
            exact code_app x h hr
          · cases e4 : dgB c
            · rw [escC_no _ e e1 e2 e3 e4] at h
              cases h
            · rw [escC_d _ e e1 e2 e3 e4] at h ⊢
              exact code_app (l := c :: t) x h hr
      · rw [escC_self _ e e1] at h ⊢
        exact pair_app h
theorem Quo.some_of {q : UInt8} {l : List UInt8} {z : List UInt8 × List UInt8} (h : Quo q l (some z)) : l ≠ [] := by
  intro e
  subst e
  cases h
theorem Quo.app {q : UInt8} {l : List UInt8} {o : Option (List UInt8 × List UInt8)} (h : Quo q l o) (x : List UInt8) : ∀ {t r}, o = some (t, r) → Quo q (l ++ x) (some (t, r ++ x)) := by
  induction h with
  | shut => intro t r e; cases e; exact .shut
  | none => intro t r e; cases e
  | line => intro t r e; cases e
  | @esc r1 m r' o' h1 h2 h3 ih =>
    intro t r e
    cases o' with
    | none => cases e
    | some z =>
      obtain ⟨t', r''⟩ := z
      simp only [Option.map_some, Option.some.injEq, Prod.mk.injEq] at e
      have := Quo.esc (q := q) h1 (esc_app x h2 h3.some_of) (ih rfl)
      simpa [e.1, e.2] using this
  | bad => intro t r e; cases e
  | @byte c r1 o' h1 h2 h3 h4 ih =>
    intro t r e
    cases o' with
    | none => cases e
    | some z =>
      obtain ⟨t', r''⟩ := z
      simp only [Option.map_some, Option.some.injEq, Prod.mk.injEq] at e
      have := Quo.byte (q := q) h1 h2 h3 (ih rfl)
      simpa [e.1, e.2] using this
theorem signs_no10 : ∀ s ∈ signs, (10 : UInt8) ∉ s := by decide
theorem sgnB_no {s : List UInt8} (h : (10 : UInt8) ∈ s) : sgnB s = false := by
  unfold sgnB
  rw [Bool.eq_false_iff]
  intro hc
  rw [List.contains_iff_mem] at hc
  exact signs_no10 s hc h
theorem sign_app {l t r : List UInt8} (x : List UInt8) (h : sign l = some (t, r)) (hl : l ≠ []) : sign (l ++ 10 :: x) = some (t, r ++ 10 :: x) := by
  unfold sign at h ⊢
  match l, hl with
  | [a], _ =>
    have e3 : sgnB (([a] ++ 10 :: x).take 3) = false := sgnB_no (by simp)
    have e2 : sgnB (([a] ++ 10 :: x).take 2) = false := sgnB_no (by simp)
    rw [e3, e2]
    have h' : (if sgnB [a] then some ([a], []) else none) = some (t, r) := by
      revert h
      show (if sgnB [a] = true then some ([a], []) else if sgnB [a] = true then some ([a], []) else if sgnB [a] = true then some ([a], []) else none) = some (t, r) → _
      cases sgnB [a] <;> simp
    cases e : sgnB [a]
    · rw [e] at h'; simp at h'
    · rw [e] at h'
      simp at h'
      obtain ⟨rfl, rfl⟩ := h'
      simp [e]
  | [a, b], _ =>
    have e3 : sgnB (([a, b] ++ 10 :: x).take 3) = false := sgnB_no (by simp)
    rw [e3]
    simp only [List.take_succ_cons, List.take_nil, List.drop_succ_cons, List.drop_nil, List.drop_zero, List.take_zero] at h
    simp only [List.cons_append, List.nil_append, List.take_succ_cons, List.take_zero, List.drop_succ_cons, List.drop_zero]
    cases e : sgnB [a, b]
    · rw [e] at h
      cases e1 : sgnB [a]
      · rw [e1] at h; simp at h
      · rw [e1] at h
        simp at h
        simp [← h.1, ← h.2]
    · rw [e] at h
      simp at h
      simp [← h.1, ← h.2]
  | a :: b :: c :: l, _ =>
    simp only [List.cons_append, List.take_succ_cons, List.take_zero, List.drop_succ_cons, List.drop_zero] at h ⊢
    split at h
    · rename_i g; rw [if_pos g]; simp at h ⊢; exact ⟨h.1, by rw [← h.2]⟩
    · rename_i g
      rw [if_neg g]
      split at h
      · rename_i g2; rw [if_pos g2]; simp at h ⊢; exact ⟨h.1, by rw [← h.2]; rfl⟩
      · rename_i g2
        rw [if_neg g2]
        split at h
        · rename_i g3; rw [if_pos g3]; simp at h ⊢; exact ⟨h.1, by rw [← h.2]; rfl⟩
        · cases h
theorem Tok.app {l : List UInt8} {k n : Int} {s r : List UInt8} (h : Tok l (some (k, n, s, r))) (hl : l ≠ []) (x : List UInt8) : Tok (l ++ 10 :: x) (some (k, n, s, r ++ 10 :: x)) := by
  generalize ho : some (k, n, s, r) = o at h
  cases h with
  | eof => exact absurd rfl hl
  | @name c t h1 =>
    have := Tok.name (c := c) (r := t ++ 10 :: x) h1
    rw [← List.cons_append, tw_app (by decide), dw_app (by decide)] at this
    simp only [Option.some.injEq, Prod.mk.injEq] at ho
    rw [ho.1, ho.2.1, ho.2.2.1, ho.2.2.2]
    exact this
  | @num c t h1 h2 h3 =>
    have := Tok.num (c := c) (r := t ++ 10 :: x) h1 h2 (by rw [← List.cons_append, tw_app (by decide)]; exact h3)
    rw [← List.cons_append, tw_app (by decide), dw_app (by decide)] at this
    simp only [Option.some.injEq, Prod.mk.injEq] at ho
    rw [ho.1, ho.2.1, ho.2.2.1, ho.2.2.2]
    exact this
  | numBad => cases ho
  | @text c t o' h1 h2 h3 h4 =>
    cases o' with
    | none => cases ho
    | some z =>
      obtain ⟨a, b⟩ := z
      simp only [Option.map_some, Option.some.injEq, Prod.mk.injEq] at ho
      have := Tok.text h1 h2 h3 (h4.app (10 :: x) rfl)
      rw [ho.1, ho.2.1, ho.2.2.1, ho.2.2.2]
      exact this
  | @long c t h1 h2 h3 h4 =>
    cases e : brk (c :: t) with
    | none => rw [e] at ho; cases ho
    | some z =>
      obtain ⟨a, b⟩ := z
      rw [e] at ho
      simp only [Option.map_some, Option.some.injEq, Prod.mk.injEq] at ho
      have := Tok.long (c := c) (r := t ++ 10 :: x) h1 h2 h3 (by rw [← List.cons_append, opn_app]; exact h4)
      rw [← List.cons_append, brk_app x e] at this
      rw [ho.1, ho.2.1, ho.2.2.1, ho.2.2.2]
      exact this
  | @sign c t h1 h2 h3 h4 =>
    cases e : Go.Proofs.YtfpeecjafccfjaaGreatDoor.sign (c :: t) with
    | none => rw [e] at ho; cases ho
    | some z =>
      obtain ⟨a, b⟩ := z
      rw [e] at ho
      simp only [Option.map_some, Option.some.injEq, Prod.mk.injEq] at ho
      have := Tok.sign (c := c) (r := t ++ 10 :: x) h1 h2 h3 (by rw [← List.cons_append, opn_app]; exact h4)
      rw [← List.cons_append, sign_app x e (by simp)] at this
      rw [ho.1, ho.2.1, ho.2.2.1, ho.2.2.2]
      exact this
theorem LexR.app {L : Int} {l : List UInt8} {q : Except Int (List Tk)} (h : LexR L l q) : ∀ {ts}, q = .ok ts → ∃ T, ts = T ++ [(0, L, 0, [])] ∧
    ∀ (x : List UInt8) (o : Except Int (List Tk)), LexR (L + nl (10 :: x)) (10 :: x) o → LexR (L + nl (10 :: x)) (l ++ 10 :: x) (o.map (T ++ ·)) := by
  induction h with
  | skipBad => intro ts e; cases e
  | tokBad => intro ts e; cases e
  | @eof l h1 =>
    intro ts e
    cases e
    refine ⟨[], rfl, fun x o ho => ?_⟩
    have e : o.map (([] : List Tk) ++ ·) = o := by cases o <;> rfl
    rw [e]
    cases ho with
    | skipBad g => exact .skipBad (h1.app_end g)
    | tokBad g1 g2 => exact .tokBad (h1.app_end g1) g2
    | eof g => exact .eof (h1.app_end g)
    | step g1 g2 g3 g4 => exact .step (h1.app_end g1) g2 g3 g4
  | @step l r r' s k n o' h1 h2 h3 h4 ih =>
    intro ts e
    cases o' with
    | error => cases e
    | ok ts' =>
      obtain ⟨T, hT, hx⟩ := ih rfl
      have e' : (k, L - nl r, n, s) :: ts' = ts := by injection e
      refine ⟨(k, L - nl r, n, s) :: T, by rw [← e', hT]; rfl, fun x o ho => ?_⟩
      have := LexR.step (L := L + nl (10 :: x)) (h1.app_ok h2 x) (by simp) (h3.app h2 x) (hx x o ho)
      rw [nl_app] at this
      have e2 : L + (nl (10 :: x) : Int) - ((nl r + nl (10 :: x) : Nat) : Int) = L - nl r := by omega
      rw [e2] at this
      cases o <;> exact this
theorem LexR.of_skip {L : Int} {l l' : List UInt8} {o : Except Int (List Tk)} (hs : ∀ {q}, Skip l q → Skip l' q) (h : LexR L l o) : LexR L l' o := by
  cases h with
  | skipBad g => exact .skipBad (hs g)
  | tokBad g1 g2 => exact .tokBad (hs g1) g2
  | eof g => exact .eof (hs g)
  | step g1 g2 g3 g4 => exact .step (hs g1) g2 g3 g4
end Go.Proofs.YtfpeecjafccfjaaGreatDoor
namespace Go.Proofs.YtfpeecjafccfjaaGreatDoor
open Go.RowKit
theorem ret_u64 {a b : Int} (h : a = b) : Ending.returned (.int .u64 a) = .returned (.int .u64 b) := by rw [h]
theorem bytes5 (c : Nat) : c < 48 ∨ (48 ≤ c ∧ c ≤ 57) ∨ (58 ≤ c ∧ c ≤ 64) ∨ (65 ≤ c ∧ c ≤ 90) ∨ (91 ≤ c ∧ c ≤ 96) ∨ (97 ≤ c ∧ c ≤ 122) ∨ 123 ≤ c := by omega
set_option maxHeartbeats 400000 in
theorem digit_any (c : Nat) (w : World) (h : c ≤ 255) :
    Calls Tryz.prog 161 #[.int .u8 c] w fun e w' => e = .returned (.int .u64 (dgv c : Int)) ∧ w = w' := by
  rcases bytes5 c with h1 | h1 | h1 | h1 | h1 | h1 | h1
  all_goals
    go_enter Tryz.func161, Tryz.ntmps161
    go_wp2
    go_ret
    refine ⟨ret_u64 ?_, rfl⟩
    unfold dgv
    repeat (first | rw [if_pos (by omega)] | rw [if_neg (by omega)])
    first | rfl | omega
theorem u8le (c : UInt8) : c.toNat ≤ 255 := by have := c.toNat_lt; omega
theorem emp_no (s : ByteArray) (h : 0 < s.size) : s.data.toList ≠ [] := by
  intro e
  have := Lib.size_eq s
  rw [e, List.length_nil] at this
  omega
theorem emp_yes (s : ByteArray) (h : ¬ 0 < s.size) : s.data.toList = [] := by
  have := Lib.size_eq s
  exact List.eq_nil_of_length_eq_zero (by omega)
theorem okD_no_nil {b : Nat} {l : List UInt8} (h : l = []) : okD b l = false := by subst h; rfl
theorem okD_all {b : Nat} {l : List UInt8} (h : l ≠ []) (h' : allD b l = true) : okD b l = true := by
  unfold okD
  cases l with
  | nil => exact absurd rfl h
  | cons => simpa using h'
theorem okD_bad {b : Nat} {l : List UInt8} {c : UInt8} (h : c ∈ l) (hc : b ≤ dgv c.toNat) : okD b l = false := by
  unfold okD
  rw [allD_of_mem h hc]
  simp
theorem ret_wh {a a' : Int} {o o' : Bool} (h : a = a') (h' : o = o') : Ending.returned (.tuple #[.int .u64 a, .bool o]) = .returned (.tuple #[.int .u64 a', .bool o']) := by rw [h, h']
theorem step_u64 (v b d : Nat) : IntKind.u64.wrap (IntKind.u64.wrap ((v : Int) % 18446744073709551616 * (b : Int)) + (d : Int)) = ((v * b + d) % 18446744073709551616 : Nat) := by
  rw [IntKind.wrap_u64, IntKind.wrap_u64]
  have e : (v : Int) % 18446744073709551616 * (b : Int) % 18446744073709551616 = (v * b : Int) % 18446744073709551616 := by
    rw [Int.mul_emod, Int.emod_emod_of_dvd _ (Int.dvd_refl _), ← Int.mul_emod]
  rw [e]
  have : ((v * b : Nat) : Int) = (v * b : Int) := by simp
  rw [← this]
  omega
set_option maxHeartbeats 1600000 in
theorem whole_any (s : ByteArray) (b : Nat) (w : World) (hs : s.size ≤ 9223372036854775807) :
    Calls Tryz.prog 138 #[.string s, .int .u64 b] w fun e w' => e = .returned (.tuple #[.int .u64 (whN b s.data.toList : Int), .bool (okD b s.data.toList)]) ∧ w = w' := by
  by_cases h0 : 0 < s.size
  · have hl := emp_no s h0
    have he : (s.toList.isEmpty) = false := by rw [Lib.toList_data]; simpa using hl
    have HL := Lib.hid hl
    clear hl
    go_enter Tryz.func138, Tryz.ntmps138
    go_wp2
    go_loop [6, 13] (fun n i => ∃ k : Nat, k ≤ s.size ∧ i = .int .i64 k ∧ n = .int .u64 ((val b (s.data.toList.take k) % 18446744073709551616 : Nat) : Int) ∧ allD b (s.data.toList.take k) = true) (fun _ i => s.size - (intOf i).toNat)
    case atStart => exact ⟨0, Nat.zero_le _, rfl, rfl, rfl⟩
    case round =>
      obtain ⟨k, hk, rfl, rfl, ha⟩ := hrel
      have HA := Lib.hid ha
      clear ha
      by_cases hlt : k < s.size
      · have hts := Lib.hid (take_snoc s k hlt)
        by_cases hd : dgv s[k].toNat < b
        · have hm : val b (s.data.toList.take k) % 18446744073709551616 < 18446744073709551616 := Nat.mod_lt _ (by decide)
          have hvs := Lib.hid (val_snoc b (s.data.toList.take k) s[k])
          have has := Lib.hid (allD_snoc b (s.data.toList.take k) s[k])
          generalize hv : val b (s.data.toList.take k) = v at hm hvs ⊢
          clear hv
          go_wp2_with (go_at_call 161; (with_reducible refine (digit_any _ _ (u8le _)).mono ?_); rintro e w' ⟨rfl, rfl⟩)
          go_round
          case rel => exact ⟨k + 1, by omega, by go_num, by rw [hts.out, hvs.out]; exact congrArg _ (step_u64 v b _), by rw [hts.out, has.out, HA.out]; simpa using hd⟩
          case measure => simp [intOf]; omega
        · have hbad := Lib.hid (okD_bad (b := b) (get_mem s k hlt) (by omega))
          go_wp2_with (go_at_call 161; (with_reducible refine (digit_any _ _ (u8le _)).mono ?_); rintro e w' ⟨rfl, rfl⟩)
          go_ret2
          exact ⟨ret_wh (by rw [whN_no hbad.out]; rfl) hbad.out.symm, rfl⟩
      · have hk' : k = s.size := by omega
        have ha := HA.out
        rw [hk', Lib.size_eq, List.take_length] at ha
        have hok := okD_all HL.out ha
        have HO := Lib.hid hok
        have HK := Lib.hid hk'
        clear hok hk' ha
        go_wp2
        go_ret2
        exact ⟨ret_wh (by rw [whN_ok HO.out, HK.out, Lib.size_eq, List.take_length]; omega) HO.out.symm, rfl⟩
  · have hl := emp_yes s h0
    have he : (s.toList.isEmpty) = true := by rw [Lib.toList_data, hl]; rfl
    rw [whN_no (okD_no_nil hl), okD_no_nil hl]
    clear hl
    go_enter Tryz.func138, Tryz.ntmps138
    go_wp2
    all_goals
      go_ret2
      exact ⟨rfl, rfl⟩
end Go.Proofs.YtfpeecjafccfjaaGreatDoor
namespace Go.Proofs
open Go.Shelf
def Tryz.lays169_ren : Go.Shelf.Ren := ⟨fun | 169 => 27 | n => n, fun | 70 => 71 | 9 => 9 | 0 => 0 | 72 => 74 | 37 => 72 | 127 => 122 | 3 => 3 | 5 => 5 | n => n, fun | n => n⟩
theorem Tryz.lays169 : Go.Proofs.Lays.n169 Tryz.prog Tryz.lays169_ren := {
  mixed := by kernel_rfl
  f169 := Tryz.func27.trans (congrArg some (by kernel_rfl))
  t0 := Tryz.underlying0
  a0 := Tryz.isAgg0
  z0 := Tryz.sizeOf0
  v0 := Tryz.zeroValue0
  t3 := Tryz.underlying3
  a3 := Tryz.isAgg3
  z3 := Tryz.sizeOf3
  v3 := Tryz.zeroValue3
  t9 := Tryz.underlying9
  a9 := Tryz.isAgg9
  z9 := Tryz.sizeOf9
  v9 := Tryz.zeroValue9
  t37 := Tryz.underlying72
  a37 := Tryz.isAgg72
  z37 := Tryz.sizeOf72
  v37 := Tryz.zeroValue72
  t70 := Tryz.underlying71
  a70 := Tryz.isAgg71
  z70 := Tryz.sizeOf71
  v70 := Tryz.zeroValue71
  t72 := Tryz.underlying74
  a72 := Tryz.isAgg74
  z72 := Tryz.sizeOf74
  v72 := Tryz.zeroValue74
  t127 := Tryz.underlying122
  a127 := Tryz.isAgg122
  z127 := Tryz.sizeOf122
  v127 := Tryz.zeroValue122 }
theorem Tryz.Builder_Extra_169 : Builder.Extra Tryz.prog Tryz.lays169_ren := {
  sizeBuilder := by kernel_rfl
  liesBuilder := by kernel_rfl
  t5 := Tryz.underlying5
  a5 := Tryz.isAgg5
  z5 := Tryz.sizeOf5
  v5 := Tryz.zeroValue5
  infoByte := by kernel_rfl
  cellsByte := by kernel_rfl
  sizeByte := by kernel_rfl
  neB5 := by decide }
open Go.RowKit in
theorem Tryz.Builder_String_any (B b : Nat) (l : List UInt8) (w : World) (h : Lib.IsBuilder 74 5 B b (Lib.byteCells l) w) (hBw : B ≤ w.heap.size) :
    Calls Tryz.prog 27 #[.pointer (some ⟨b, 0, none⟩)] w fun e w' => e = .returned (.string ⟨l.toArray⟩) ∧ Below B w w' := Any.Builder_String_any Tryz.lays169 Tryz.Builder_Extra_169 B b l w h hBw
def Tryz.lays161_ren : Go.Shelf.Ren := ⟨fun | 161 => 144 | 231 => 165 | 227 => 166 | 233 => 167 | 235 => 168 | 228 => 191 | 197 => 170 | 151 => 192 | 260 => 194 | 152 => 210 | 137 => 140 | 119 => 219 | 224 => 187 | 225 => 186 | 217 => 162 | 266 => 189 | n => n, fun | 9 => 9 | 4 => 4 | 3 => 3 | 5 => 5 | 117 => 203 | 116 => 202 | 0 => 0 | 124 => 206 | 105 => 208 | 21 => 21 | 119 => 231 | 46 => 216 | 139 => 234 | 138 => 233 | n => n, fun | 3 => 3 | 4 => 4 | n => n⟩
theorem Tryz.lays161 : Go.Proofs.Lays.n161 Tryz.prog Tryz.lays161_ren := {
  mixed := by kernel_rfl
  f119 := Tryz.func219.trans (congrArg some (by kernel_rfl))
  f137 := Tryz.func140.trans (congrArg some (by kernel_rfl))
  f151 := Tryz.func192.trans (congrArg some (by kernel_rfl))
  f152 := Tryz.func210.trans (congrArg some (by kernel_rfl))
  f161 := Tryz.func144.trans (congrArg some (by kernel_rfl))
  f197 := Tryz.func170.trans (congrArg some (by kernel_rfl))
  f217 := Tryz.func162.trans (congrArg some (by kernel_rfl))
  f224 := Tryz.func187.trans (congrArg some (by kernel_rfl))
  f225 := Tryz.func186.trans (congrArg some (by kernel_rfl))
  f227 := Tryz.func166.trans (congrArg some (by kernel_rfl))
  f228 := Tryz.func191.trans (congrArg some (by kernel_rfl))
  f231 := Tryz.func165.trans (congrArg some (by kernel_rfl))
  f233 := Tryz.func167.trans (congrArg some (by kernel_rfl))
  f235 := Tryz.func168.trans (congrArg some (by kernel_rfl))
  f260 := Tryz.func194.trans (congrArg some (by kernel_rfl))
  f266 := Tryz.func189.trans (congrArg some (by kernel_rfl))
  t0 := Tryz.underlying0
  a0 := Tryz.isAgg0
  z0 := Tryz.sizeOf0
  v0 := Tryz.zeroValue0
  t3 := Tryz.underlying3
  a3 := Tryz.isAgg3
  z3 := Tryz.sizeOf3
  v3 := Tryz.zeroValue3
  t4 := Tryz.underlying4
  a4 := Tryz.isAgg4
  z4 := Tryz.sizeOf4
  v4 := Tryz.zeroValue4
  t5 := Tryz.underlying5
  a5 := Tryz.isAgg5
  z5 := Tryz.sizeOf5
  v5 := Tryz.zeroValue5
  t9 := Tryz.underlying9
  a9 := Tryz.isAgg9
  z9 := Tryz.sizeOf9
  v9 := Tryz.zeroValue9
  t21 := Tryz.underlying21
  a21 := Tryz.isAgg21
  z21 := Tryz.sizeOf21
  v21 := Tryz.zeroValue21
  t46 := Tryz.underlying216
  a46 := Tryz.isAgg216
  z46 := Tryz.sizeOf216
  v46 := Tryz.zeroValue216
  t105 := Tryz.underlying208
  a105 := Tryz.isAgg208
  z105 := Tryz.sizeOf208
  v105 := Tryz.zeroValue208
  t116 := Tryz.underlying202
  a116 := Tryz.isAgg202
  z116 := Tryz.sizeOf202
  t117 := Tryz.underlying203
  a117 := Tryz.isAgg203
  z117 := Tryz.sizeOf203
  v117 := Tryz.zeroValue203
  t119 := Tryz.underlying231
  a119 := Tryz.isAgg231
  z119 := Tryz.sizeOf231
  t124 := Tryz.underlying206
  a124 := Tryz.isAgg206
  z124 := Tryz.sizeOf206
  v124 := Tryz.zeroValue206
  t138 := Tryz.underlying233
  a138 := Tryz.isAgg233
  z138 := Tryz.sizeOf233
  v138 := Tryz.zeroValue233
  t139 := Tryz.underlying234
  a139 := Tryz.isAgg234
  z139 := Tryz.sizeOf234
  v139 := Tryz.zeroValue234
  g3 := by kernel_rfl
  g4 := by kernel_rfl }
open Go.RowKit in
theorem Tryz.strings_TrimLeft_one (s : ByteArray) (c : UInt8) (hc : c.toNat < 128) (w : World) :
    Calls Tryz.prog 144 #[.string s, .string ⟨#[c]⟩] w fun e w' => e = .returned (.string ⟨(Lib.trimLeftB s.data.toList c).toArray⟩) ∧ w' = w := Any.strings_TrimLeft_one Tryz.lays161 s c hc w
def Tryz.lays160_ren : Go.Shelf.Ren := ⟨fun | 160 => 190 | 232 => 207 | 231 => 165 | 227 => 166 | 234 => 208 | 233 => 167 | 236 => 209 | 235 => 168 | 228 => 191 | 271 => 218 | 151 => 192 | 197 => 170 | 120 => 224 | 152 => 210 | 260 => 194 | 137 => 140 | 119 => 219 | 224 => 187 | 225 => 186 | 217 => 162 | 266 => 189 | n => n, fun | 9 => 9 | 4 => 4 | 3 => 3 | 5 => 5 | 117 => 203 | 116 => 202 | 0 => 0 | 124 => 206 | 21 => 21 | 105 => 208 | 46 => 216 | 119 => 231 | 139 => 234 | 138 => 233 | n => n, fun | 3 => 3 | 4 => 4 | n => n⟩
theorem Tryz.lays160 : Go.Proofs.Lays.n160 Tryz.prog Tryz.lays160_ren := {
  mixed := by kernel_rfl
  f119 := Tryz.func219.trans (congrArg some (by kernel_rfl))
  f120 := Tryz.func224.trans (congrArg some (by kernel_rfl))
  f137 := Tryz.func140.trans (congrArg some (by kernel_rfl))
  f151 := Tryz.func192.trans (congrArg some (by kernel_rfl))
  f152 := Tryz.func210.trans (congrArg some (by kernel_rfl))
  f160 := Tryz.func190.trans (congrArg some (by kernel_rfl))
  f197 := Tryz.func170.trans (congrArg some (by kernel_rfl))
  f217 := Tryz.func162.trans (congrArg some (by kernel_rfl))
  f224 := Tryz.func187.trans (congrArg some (by kernel_rfl))
  f225 := Tryz.func186.trans (congrArg some (by kernel_rfl))
  f227 := Tryz.func166.trans (congrArg some (by kernel_rfl))
  f228 := Tryz.func191.trans (congrArg some (by kernel_rfl))
  f231 := Tryz.func165.trans (congrArg some (by kernel_rfl))
  f232 := Tryz.func207.trans (congrArg some (by kernel_rfl))
  f233 := Tryz.func167.trans (congrArg some (by kernel_rfl))
  f234 := Tryz.func208.trans (congrArg some (by kernel_rfl))
  f235 := Tryz.func168.trans (congrArg some (by kernel_rfl))
  f236 := Tryz.func209.trans (congrArg some (by kernel_rfl))
  f260 := Tryz.func194.trans (congrArg some (by kernel_rfl))
  f266 := Tryz.func189.trans (congrArg some (by kernel_rfl))
  f271 := Tryz.func218.trans (congrArg some (by kernel_rfl))
  t0 := Tryz.underlying0
  a0 := Tryz.isAgg0
  z0 := Tryz.sizeOf0
  v0 := Tryz.zeroValue0
  t3 := Tryz.underlying3
  a3 := Tryz.isAgg3
  z3 := Tryz.sizeOf3
  v3 := Tryz.zeroValue3
  t4 := Tryz.underlying4
  a4 := Tryz.isAgg4
  z4 := Tryz.sizeOf4
  v4 := Tryz.zeroValue4
  t5 := Tryz.underlying5
  a5 := Tryz.isAgg5
  z5 := Tryz.sizeOf5
  v5 := Tryz.zeroValue5
  t9 := Tryz.underlying9
  a9 := Tryz.isAgg9
  z9 := Tryz.sizeOf9
  v9 := Tryz.zeroValue9
  t21 := Tryz.underlying21
  a21 := Tryz.isAgg21
  z21 := Tryz.sizeOf21
  v21 := Tryz.zeroValue21
  t46 := Tryz.underlying216
  a46 := Tryz.isAgg216
  z46 := Tryz.sizeOf216
  v46 := Tryz.zeroValue216
  t105 := Tryz.underlying208
  a105 := Tryz.isAgg208
  z105 := Tryz.sizeOf208
  v105 := Tryz.zeroValue208
  t116 := Tryz.underlying202
  a116 := Tryz.isAgg202
  z116 := Tryz.sizeOf202
  t117 := Tryz.underlying203
  a117 := Tryz.isAgg203
  z117 := Tryz.sizeOf203
  v117 := Tryz.zeroValue203
  t119 := Tryz.underlying231
  a119 := Tryz.isAgg231
  z119 := Tryz.sizeOf231
  t124 := Tryz.underlying206
  a124 := Tryz.isAgg206
  z124 := Tryz.sizeOf206
  v124 := Tryz.zeroValue206
  t138 := Tryz.underlying233
  a138 := Tryz.isAgg233
  z138 := Tryz.sizeOf233
  v138 := Tryz.zeroValue233
  t139 := Tryz.underlying234
  a139 := Tryz.isAgg234
  z139 := Tryz.sizeOf234
  v139 := Tryz.zeroValue234
  g3 := by kernel_rfl
  g4 := by kernel_rfl }
def Tryz.lays137_ren : Go.Shelf.Ren := ⟨fun | 137 => 140 | 217 => 162 | 266 => 189 | n => n, fun | 9 => 9 | 5 => 5 | 3 => 3 | n => n, fun | n => n⟩
theorem Tryz.lays137 : Go.Proofs.Lays.n137 Tryz.prog Tryz.lays137_ren := {
  mixed := by kernel_rfl
  f137 := Tryz.func140.trans (congrArg some (by kernel_rfl))
  f217 := Tryz.func162.trans (congrArg some (by kernel_rfl))
  f266 := Tryz.func189.trans (congrArg some (by kernel_rfl))
  t3 := Tryz.underlying3
  a3 := Tryz.isAgg3
  z3 := Tryz.sizeOf3
  v3 := Tryz.zeroValue3
  t5 := Tryz.underlying5
  a5 := Tryz.isAgg5
  z5 := Tryz.sizeOf5
  v5 := Tryz.zeroValue5
  t9 := Tryz.underlying9
  a9 := Tryz.isAgg9
  z9 := Tryz.sizeOf9
  v9 := Tryz.zeroValue9 }
open Go.RowKit in
theorem Tryz.strings_IndexByte (s : ByteArray) (c : Int) (w : World) :
    Calls Tryz.prog 140 #[.string s, .int .u8 c] w fun e w' => e = .returned (.int .i64 (Lib.indexByte s.data.toList c.toNat.toUInt8)) ∧ w' = w := Any.strings_IndexByte Tryz.lays137 s c w
def Tryz.lays103_ren : Go.Shelf.Ren := ⟨fun | 103 => 143 | 210 => 164 | 206 => 106 | n => n, fun | 9 => 9 | 4 => 4 | 24 => 130 | 3 => 3 | n => n, fun | n => n⟩
theorem Tryz.lays103 : Go.Proofs.Lays.n103 Tryz.prog Tryz.lays103_ren := {
  mixed := by kernel_rfl
  f103 := Tryz.func143.trans (congrArg some (by kernel_rfl))
  f206 := Tryz.func106.trans (congrArg some (by kernel_rfl))
  f210 := Tryz.func164.trans (congrArg some (by kernel_rfl))
  t3 := Tryz.underlying3
  a3 := Tryz.isAgg3
  z3 := Tryz.sizeOf3
  v3 := Tryz.zeroValue3
  t4 := Tryz.underlying4
  a4 := Tryz.isAgg4
  z4 := Tryz.sizeOf4
  v4 := Tryz.zeroValue4
  t9 := Tryz.underlying9
  a9 := Tryz.isAgg9
  z9 := Tryz.sizeOf9
  v9 := Tryz.zeroValue9
  t24 := Tryz.underlying130
  a24 := Tryz.isAgg130
  z24 := Tryz.sizeOf130
  v24 := Tryz.zeroValue130 }
open Go.RowKit in
theorem Tryz.strings_CutPrefix (s p : ByteArray) (w : World) :
    Calls Tryz.prog 143 #[.string s, .string p] w fun e w' => e = .returned (.tuple #[.string ⟨(Lib.trimPrefix s.data.toList p.data.toList).toArray⟩, .bool (Lib.hasPrefix s.data.toList p.data.toList)]) ∧ w' = w := Any.strings_CutPrefix Tryz.lays103 s p w
def Tryz.laysM171_ren : Go.Shelf.Ren := ⟨fun | 171 => 60 | 243 => 102 | 246 => 132 | 283 => 154 | 284 => 155 | 285 => 156 | 286 => 157 | 129 => 180 | 317 => 179 | 318 => 181 | 319 => 182 | 320 => 183 | 337 => 199 | 338 => 200 | n => n, fun | 3 => 3 | 9 => 9 | 2 => 2 | 4 => 4 | 171 => 190 | 0 => 0 | 53 => 159 | 37 => 72 | 5 => 5 | 173 => 193 | 212 => 212 | 51 => 213 | 20 => 20 | 213 => 214 | 46 => 216 | 232 => 235 | 233 => 236 | n => n, fun | 17 => 2 | 18 => 5 | 19 => 6 | n => n⟩
theorem Tryz.laysM171 : Go.Proofs.LaysM.n171 Tryz.prog Tryz.laysM171_ren := {
  mixed := by kernel_rfl
  f129 := Tryz.func180.trans (congrArg some (by kernel_rfl))
  f171 := Tryz.func60.trans (congrArg some (by kernel_rfl))
  f243 := Tryz.func102.trans (congrArg some (by kernel_rfl))
  f246 := Tryz.func132.trans (congrArg some (by kernel_rfl))
  f283 := Tryz.func154.trans (congrArg some (by kernel_rfl))
  f284 := Tryz.func155.trans (congrArg some (by kernel_rfl))
  f285 := Tryz.func156.trans (congrArg some (by kernel_rfl))
  f286 := Tryz.func157.trans (congrArg some (by kernel_rfl))
  f317 := Tryz.func179.trans (congrArg some (by kernel_rfl))
  f318 := Tryz.func181.trans (congrArg some (by kernel_rfl))
  f319 := Tryz.func182.trans (congrArg some (by kernel_rfl))
  f320 := Tryz.func183.trans (congrArg some (by kernel_rfl))
  f337 := Tryz.func199.trans (congrArg some (by kernel_rfl))
  f338 := Tryz.func200.trans (congrArg some (by kernel_rfl))
  t0 := Tryz.underlying0
  a0 := Tryz.isAgg0
  z0 := Tryz.sizeOf0
  v0 := Tryz.zeroValue0
  t2 := Tryz.underlying2
  a2 := Tryz.isAgg2
  z2 := Tryz.sizeOf2
  v2 := Tryz.zeroValue2
  t3 := Tryz.underlying3
  a3 := Tryz.isAgg3
  z3 := Tryz.sizeOf3
  v3 := Tryz.zeroValue3
  t4 := Tryz.underlying4
  a4 := Tryz.isAgg4
  z4 := Tryz.sizeOf4
  v4 := Tryz.zeroValue4
  t5 := Tryz.underlying5
  a5 := Tryz.isAgg5
  z5 := Tryz.sizeOf5
  v5 := Tryz.zeroValue5
  t9 := Tryz.underlying9
  a9 := Tryz.isAgg9
  z9 := Tryz.sizeOf9
  v9 := Tryz.zeroValue9
  t20 := Tryz.underlying20
  a20 := Tryz.isAgg20
  z20 := Tryz.sizeOf20
  v20 := Tryz.zeroValue20
  t37 := Tryz.underlying72
  a37 := Tryz.isAgg72
  z37 := Tryz.sizeOf72
  v37 := Tryz.zeroValue72
  t46 := Tryz.underlying216
  a46 := Tryz.isAgg216
  z46 := Tryz.sizeOf216
  v46 := Tryz.zeroValue216
  t51 := Tryz.underlying213
  a51 := Tryz.isAgg213
  z51 := Tryz.sizeOf213
  v51 := Tryz.zeroValue213
  t53 := Tryz.underlying159
  a53 := Tryz.isAgg159
  z53 := Tryz.sizeOf159
  v53 := Tryz.zeroValue159
  t171 := Tryz.underlying190
  a171 := Tryz.isAgg190
  z171 := Tryz.sizeOf190
  v171 := Tryz.zeroValue190
  t173 := Tryz.underlying193
  a173 := Tryz.isAgg193
  z173 := Tryz.sizeOf193
  v173 := Tryz.zeroValue193
  t212 := Tryz.underlying212
  a212 := Tryz.isAgg212
  z212 := Tryz.sizeOf212
  v212 := Tryz.zeroValue212
  t213 := Tryz.underlying214
  a213 := Tryz.isAgg214
  z213 := Tryz.sizeOf214
  t232 := Tryz.underlying235
  a232 := Tryz.isAgg235
  z232 := Tryz.sizeOf235
  v232 := Tryz.zeroValue235
  t233 := Tryz.underlying236
  a233 := Tryz.isAgg236
  z233 := Tryz.sizeOf236
  v233 := Tryz.zeroValue236
  g17 := by kernel_rfl
  g18 := by kernel_rfl
  g19 := by kernel_rfl
  i0 := by kernel_rfl
  i2 := by kernel_rfl
  i3 := by kernel_rfl
  i4 := by kernel_rfl
  i5 := by kernel_rfl
  i9 := by kernel_rfl
  i20 := by kernel_rfl
  i37 := by kernel_rfl
  i46 := by kernel_rfl
  i51 := by kernel_rfl
  i53 := by kernel_rfl
  i171 := by kernel_rfl
  i173 := by kernel_rfl
  i212 := by kernel_rfl
  i232 := by kernel_rfl
  i233 := by kernel_rfl
  m17 := by kernel_rfl
  m18 := by kernel_rfl
  m19 := by kernel_rfl }
open Go.RowKit Go.Sort Go.Lib in
theorem Tryz.strconv_Itoa (n : Int) (h0 : -9223372036854775808 ≤ n) (h1 : n ≤ 9223372036854775807) (w : World) (htab : Lib.TabIs Tryz.prog w "internal/strconv.uint64pow10" .u64 Lib.pow10Tab) :
    Calls Tryz.prog 60 #[.int .i64 n] w fun e w' => e = .returned (.string ⟨(Lib.itoa n).toArray⟩) ∧ ∃ k os, w' = grow (w.drewN k) os := Any.strconv_Itoa Tryz.laysM171 n h0 h1 w htab
def Tryz.laysM173_ren : Go.Shelf.Ren := ⟨fun | 173 => 103 | 246 => 132 | 283 => 154 | 284 => 155 | 285 => 156 | 286 => 157 | 129 => 180 | 317 => 179 | 318 => 181 | 319 => 182 | 320 => 183 | 337 => 199 | 338 => 200 | n => n, fun | 2 => 2 | 3 => 3 | 9 => 9 | 4 => 4 | 171 => 190 | 0 => 0 | 53 => 159 | 37 => 72 | 5 => 5 | 173 => 193 | 212 => 212 | 51 => 213 | 20 => 20 | 213 => 214 | 46 => 216 | 232 => 235 | 233 => 236 | n => n, fun | 17 => 2 | 18 => 5 | 19 => 6 | n => n⟩
theorem Tryz.laysM173 : Go.Proofs.LaysM.n173 Tryz.prog Tryz.laysM173_ren := {
  mixed := by kernel_rfl
  f129 := Tryz.func180.trans (congrArg some (by kernel_rfl))
  f173 := Tryz.func103.trans (congrArg some (by kernel_rfl))
  f246 := Tryz.func132.trans (congrArg some (by kernel_rfl))
  f283 := Tryz.func154.trans (congrArg some (by kernel_rfl))
  f284 := Tryz.func155.trans (congrArg some (by kernel_rfl))
  f285 := Tryz.func156.trans (congrArg some (by kernel_rfl))
  f286 := Tryz.func157.trans (congrArg some (by kernel_rfl))
  f317 := Tryz.func179.trans (congrArg some (by kernel_rfl))
  f318 := Tryz.func181.trans (congrArg some (by kernel_rfl))
  f319 := Tryz.func182.trans (congrArg some (by kernel_rfl))
  f320 := Tryz.func183.trans (congrArg some (by kernel_rfl))
  f337 := Tryz.func199.trans (congrArg some (by kernel_rfl))
  f338 := Tryz.func200.trans (congrArg some (by kernel_rfl))
  t0 := Tryz.underlying0
  a0 := Tryz.isAgg0
  z0 := Tryz.sizeOf0
  v0 := Tryz.zeroValue0
  t2 := Tryz.underlying2
  a2 := Tryz.isAgg2
  z2 := Tryz.sizeOf2
  v2 := Tryz.zeroValue2
  t3 := Tryz.underlying3
  a3 := Tryz.isAgg3
  z3 := Tryz.sizeOf3
  v3 := Tryz.zeroValue3
  t4 := Tryz.underlying4
  a4 := Tryz.isAgg4
  z4 := Tryz.sizeOf4
  v4 := Tryz.zeroValue4
  t5 := Tryz.underlying5
  a5 := Tryz.isAgg5
  z5 := Tryz.sizeOf5
  v5 := Tryz.zeroValue5
  t9 := Tryz.underlying9
  a9 := Tryz.isAgg9
  z9 := Tryz.sizeOf9
  v9 := Tryz.zeroValue9
  t20 := Tryz.underlying20
  a20 := Tryz.isAgg20
  z20 := Tryz.sizeOf20
  v20 := Tryz.zeroValue20
  t37 := Tryz.underlying72
  a37 := Tryz.isAgg72
  z37 := Tryz.sizeOf72
  v37 := Tryz.zeroValue72
  t46 := Tryz.underlying216
  a46 := Tryz.isAgg216
  z46 := Tryz.sizeOf216
  v46 := Tryz.zeroValue216
  t51 := Tryz.underlying213
  a51 := Tryz.isAgg213
  z51 := Tryz.sizeOf213
  v51 := Tryz.zeroValue213
  t53 := Tryz.underlying159
  a53 := Tryz.isAgg159
  z53 := Tryz.sizeOf159
  v53 := Tryz.zeroValue159
  t171 := Tryz.underlying190
  a171 := Tryz.isAgg190
  z171 := Tryz.sizeOf190
  v171 := Tryz.zeroValue190
  t173 := Tryz.underlying193
  a173 := Tryz.isAgg193
  z173 := Tryz.sizeOf193
  v173 := Tryz.zeroValue193
  t212 := Tryz.underlying212
  a212 := Tryz.isAgg212
  z212 := Tryz.sizeOf212
  v212 := Tryz.zeroValue212
  t213 := Tryz.underlying214
  a213 := Tryz.isAgg214
  z213 := Tryz.sizeOf214
  t232 := Tryz.underlying235
  a232 := Tryz.isAgg235
  z232 := Tryz.sizeOf235
  v232 := Tryz.zeroValue235
  t233 := Tryz.underlying236
  a233 := Tryz.isAgg236
  z233 := Tryz.sizeOf236
  v233 := Tryz.zeroValue236
  g17 := by kernel_rfl
  g18 := by kernel_rfl
  g19 := by kernel_rfl
  i0 := by kernel_rfl
  i2 := by kernel_rfl
  i3 := by kernel_rfl
  i4 := by kernel_rfl
  i5 := by kernel_rfl
  i9 := by kernel_rfl
  i20 := by kernel_rfl
  i37 := by kernel_rfl
  i46 := by kernel_rfl
  i51 := by kernel_rfl
  i53 := by kernel_rfl
  i171 := by kernel_rfl
  i173 := by kernel_rfl
  i212 := by kernel_rfl
  i232 := by kernel_rfl
  i233 := by kernel_rfl
  m17 := by kernel_rfl
  m18 := by kernel_rfl
  m19 := by kernel_rfl }
open Go.RowKit Go.Sort Go.Lib in
theorem Tryz.strconv_FormatInt_10 (n : Int) (h0 : -9223372036854775808 ≤ n) (h1 : n ≤ 9223372036854775807) (w : World) (htab : Lib.TabIs Tryz.prog w "internal/strconv.uint64pow10" .u64 Lib.pow10Tab) :
    Calls Tryz.prog 103 #[.int .i64 n, .int .i64 10] w fun e w' => e = .returned (.string ⟨(Lib.itoa n).toArray⟩) ∧ ∃ k os, w' = grow (w.drewN k) os := Any.strconv_FormatInt_10 Tryz.laysM173 n h0 h1 w htab
def Tryz.lays145_ren : Go.Shelf.Ren := ⟨fun | 145 => 107 | 220 => 137 | 219 => 160 | 217 => 162 | 225 => 186 | 224 => 187 | 267 => 188 | 266 => 189 | 314 => 206 | n => n, fun | 9 => 9 | 4 => 4 | 59 => 157 | 3 => 3 | 5 => 5 | 46 => 216 | 146 => 227 | 51 => 213 | n => n, fun | 1 => 1 | n => n⟩
theorem Tryz.lays145 : Go.Proofs.Lays.n145 Tryz.prog Tryz.lays145_ren := {
  mixed := by kernel_rfl
  f145 := Tryz.func107.trans (congrArg some (by kernel_rfl))
  f217 := Tryz.func162.trans (congrArg some (by kernel_rfl))
  f219 := Tryz.func160.trans (congrArg some (by kernel_rfl))
  f220 := Tryz.func137.trans (congrArg some (by kernel_rfl))
  f224 := Tryz.func187.trans (congrArg some (by kernel_rfl))
  f225 := Tryz.func186.trans (congrArg some (by kernel_rfl))
  f266 := Tryz.func189.trans (congrArg some (by kernel_rfl))
  f267 := Tryz.func188.trans (congrArg some (by kernel_rfl))
  f314 := Tryz.func206.trans (congrArg some (by kernel_rfl))
  t3 := Tryz.underlying3
  a3 := Tryz.isAgg3
  z3 := Tryz.sizeOf3
  v3 := Tryz.zeroValue3
  t4 := Tryz.underlying4
  a4 := Tryz.isAgg4
  z4 := Tryz.sizeOf4
  v4 := Tryz.zeroValue4
  t5 := Tryz.underlying5
  a5 := Tryz.isAgg5
  z5 := Tryz.sizeOf5
  v5 := Tryz.zeroValue5
  t9 := Tryz.underlying9
  a9 := Tryz.isAgg9
  z9 := Tryz.sizeOf9
  v9 := Tryz.zeroValue9
  t46 := Tryz.underlying216
  a46 := Tryz.isAgg216
  z46 := Tryz.sizeOf216
  v46 := Tryz.zeroValue216
  t51 := Tryz.underlying213
  a51 := Tryz.isAgg213
  z51 := Tryz.sizeOf213
  v51 := Tryz.zeroValue213
  t59 := Tryz.underlying157
  a59 := Tryz.isAgg157
  z59 := Tryz.sizeOf157
  v59 := Tryz.zeroValue157
  t146 := Tryz.underlying227
  a146 := Tryz.isAgg227
  z146 := Tryz.sizeOf227
  v146 := Tryz.zeroValue227
  g1 := by kernel_rfl }
open Go.RowKit Go.Lib in
theorem Tryz.strings_Cut (s sep : ByteArray) (m : Int) (w : World) (hs : s.size < 4294967281) (hm : w.cell? ⟨1, 0, none⟩ = some (.int .i64 m)) :
    Calls Tryz.prog 107 #[.string s, .string sep] w fun e w' => e = .returned (.tuple #[.string ⟨(Lib.cut s.data.toList sep.data.toList).1.toArray⟩, .string ⟨(Lib.cut s.data.toList sep.data.toList).2.1.toArray⟩, .bool (Lib.cut s.data.toList sep.data.toList).2.2]) ∧ ∃ n, w' = w.drewN n := Any.strings_Cut Tryz.lays145 s sep m w hs hm
def Tryz.lays138_ren : Go.Shelf.Ren := ⟨fun | 138 => 105 | 195 => 134 | 218 => 135 | 143 => 136 | 219 => 160 | 217 => 162 | 225 => 186 | 224 => 187 | 267 => 188 | 266 => 189 | 314 => 206 | n => n, fun | 9 => 9 | 3 => 3 | 4 => 4 | 5 => 5 | 0 => 0 | 46 => 216 | 146 => 227 | 51 => 213 | n => n, fun | 1 => 1 | n => n⟩
theorem Tryz.lays138 : Go.Proofs.Lays.n138 Tryz.prog Tryz.lays138_ren := {
  mixed := by kernel_rfl
  f138 := Tryz.func105.trans (congrArg some (by kernel_rfl))
  f143 := Tryz.func136.trans (congrArg some (by kernel_rfl))
  f195 := Tryz.func134.trans (congrArg some (by kernel_rfl))
  f217 := Tryz.func162.trans (congrArg some (by kernel_rfl))
  f218 := Tryz.func135.trans (congrArg some (by kernel_rfl))
  f219 := Tryz.func160.trans (congrArg some (by kernel_rfl))
  f224 := Tryz.func187.trans (congrArg some (by kernel_rfl))
  f225 := Tryz.func186.trans (congrArg some (by kernel_rfl))
  f266 := Tryz.func189.trans (congrArg some (by kernel_rfl))
  f267 := Tryz.func188.trans (congrArg some (by kernel_rfl))
  f314 := Tryz.func206.trans (congrArg some (by kernel_rfl))
  t0 := Tryz.underlying0
  a0 := Tryz.isAgg0
  z0 := Tryz.sizeOf0
  v0 := Tryz.zeroValue0
  t3 := Tryz.underlying3
  a3 := Tryz.isAgg3
  z3 := Tryz.sizeOf3
  v3 := Tryz.zeroValue3
  t4 := Tryz.underlying4
  a4 := Tryz.isAgg4
  z4 := Tryz.sizeOf4
  v4 := Tryz.zeroValue4
  t5 := Tryz.underlying5
  a5 := Tryz.isAgg5
  z5 := Tryz.sizeOf5
  v5 := Tryz.zeroValue5
  t9 := Tryz.underlying9
  a9 := Tryz.isAgg9
  z9 := Tryz.sizeOf9
  v9 := Tryz.zeroValue9
  t46 := Tryz.underlying216
  a46 := Tryz.isAgg216
  z46 := Tryz.sizeOf216
  v46 := Tryz.zeroValue216
  t51 := Tryz.underlying213
  a51 := Tryz.isAgg213
  z51 := Tryz.sizeOf213
  v51 := Tryz.zeroValue213
  t146 := Tryz.underlying227
  a146 := Tryz.isAgg227
  z146 := Tryz.sizeOf227
  v146 := Tryz.zeroValue227
  g1 := by kernel_rfl }
open Go.RowKit Go.Lib in
theorem Tryz.strings_Count_one (s : ByteArray) (c : UInt8) (w : World) :
    Calls Tryz.prog 105 #[.string s, .string ⟨#[c]⟩] w fun e w' => e = .returned (.int .i64 (Lib.countByte s.data.toList c)) ∧ w' = w := Any.strings_Count_one Tryz.lays138 s c w
def Tryz.lays99_ren : Go.Shelf.Ren := ⟨fun | 99 => 67 | 206 => 106 | n => n, fun | 9 => 9 | 4 => 4 | 3 => 3 | n => n, fun | n => n⟩
theorem Tryz.lays99 : Go.Proofs.Lays.n99 Tryz.prog Tryz.lays99_ren := {
  mixed := by kernel_rfl
  f99 := Tryz.func67.trans (congrArg some (by kernel_rfl))
  f206 := Tryz.func106.trans (congrArg some (by kernel_rfl))
  t3 := Tryz.underlying3
  a3 := Tryz.isAgg3
  z3 := Tryz.sizeOf3
  v3 := Tryz.zeroValue3
  t4 := Tryz.underlying4
  a4 := Tryz.isAgg4
  z4 := Tryz.sizeOf4
  v4 := Tryz.zeroValue4
  t9 := Tryz.underlying9
  a9 := Tryz.isAgg9
  z9 := Tryz.sizeOf9
  v9 := Tryz.zeroValue9 }
open Go.RowKit Go.Lib in
theorem Tryz.strings_HasPrefix (s p : ByteArray) (w : World) :
    Calls Tryz.prog 67 #[.string s, .string p] w fun e w' => e = .returned (.bool (Lib.hasPrefix s.data.toList p.data.toList)) ∧ w' = w := Any.strings_HasPrefix Tryz.lays99 s p w
def Tryz.lays101_ren : Go.Shelf.Ren := ⟨fun | 101 => 113 | 208 => 146 | 206 => 106 | n => n, fun | 9 => 9 | 4 => 4 | 3 => 3 | n => n, fun | n => n⟩
theorem Tryz.lays101 : Go.Proofs.Lays.n101 Tryz.prog Tryz.lays101_ren := {
  mixed := by kernel_rfl
  f101 := Tryz.func113.trans (congrArg some (by kernel_rfl))
  f206 := Tryz.func106.trans (congrArg some (by kernel_rfl))
  f208 := Tryz.func146.trans (congrArg some (by kernel_rfl))
  t3 := Tryz.underlying3
  a3 := Tryz.isAgg3
  z3 := Tryz.sizeOf3
  v3 := Tryz.zeroValue3
  t4 := Tryz.underlying4
  a4 := Tryz.isAgg4
  z4 := Tryz.sizeOf4
  v4 := Tryz.zeroValue4
  t9 := Tryz.underlying9
  a9 := Tryz.isAgg9
  z9 := Tryz.sizeOf9
  v9 := Tryz.zeroValue9 }
open Go.RowKit Go.Lib in
theorem Tryz.strings_TrimPrefix (s p : ByteArray) (w : World) :
    Calls Tryz.prog 113 #[.string s, .string p] w fun e w' => e = .returned (.string ⟨(Lib.trimPrefix s.data.toList p.data.toList).toArray⟩) ∧ w' = w := Any.strings_TrimPrefix Tryz.lays101 s p w
def Tryz.lays155_ren : Go.Shelf.Ren := ⟨fun | 155 => 112 | 154 => 145 | 138 => 105 | 165 => 169 | 143 => 136 | 166 => 58 | 197 => 170 | 169 => 27 | 195 => 134 | 218 => 135 | 240 => 101 | 241 => 193 | 219 => 160 | 260 => 194 | 276 => 131 | 277 => 211 | 217 => 162 | 225 => 186 | 224 => 187 | 267 => 188 | 266 => 189 | 314 => 206 | n => n, fun | 9 => 9 | 3 => 3 | 4 => 4 | 72 => 74 | 0 => 0 | 76 => 53 | 105 => 208 | 21 => 21 | 5 => 5 | 70 => 71 | 20 => 20 | 37 => 72 | 75 => 27 | 127 => 122 | 164 => 94 | 46 => 216 | 119 => 231 | 139 => 234 | 138 => 233 | 146 => 227 | 51 => 213 | 80 => 76 | n => n, fun | 1 => 1 | 3 => 3 | 4 => 4 | n => n⟩
theorem Tryz.lays155 : Go.Proofs.Lays.n155 Tryz.prog Tryz.lays155_ren := {
  mixed := by kernel_rfl
  f138 := Tryz.func105.trans (congrArg some (by kernel_rfl))
  f143 := Tryz.func136.trans (congrArg some (by kernel_rfl))
  f154 := Tryz.func145.trans (congrArg some (by kernel_rfl))
  f155 := Tryz.func112.trans (congrArg some (by kernel_rfl))
  f165 := Tryz.func169.trans (congrArg some (by kernel_rfl))
  f166 := Tryz.func58.trans (congrArg some (by kernel_rfl))
  f169 := Tryz.func27.trans (congrArg some (by kernel_rfl))
  f195 := Tryz.func134.trans (congrArg some (by kernel_rfl))
  f197 := Tryz.func170.trans (congrArg some (by kernel_rfl))
  f217 := Tryz.func162.trans (congrArg some (by kernel_rfl))
  f218 := Tryz.func135.trans (congrArg some (by kernel_rfl))
  f219 := Tryz.func160.trans (congrArg some (by kernel_rfl))
  f224 := Tryz.func187.trans (congrArg some (by kernel_rfl))
  f225 := Tryz.func186.trans (congrArg some (by kernel_rfl))
  f240 := Tryz.func101.trans (congrArg some (by kernel_rfl))
  f241 := Tryz.func193.trans (congrArg some (by kernel_rfl))
  f260 := Tryz.func194.trans (congrArg some (by kernel_rfl))
  f266 := Tryz.func189.trans (congrArg some (by kernel_rfl))
  f267 := Tryz.func188.trans (congrArg some (by kernel_rfl))
  f276 := Tryz.func131.trans (congrArg some (by kernel_rfl))
  f277 := Tryz.func211.trans (congrArg some (by kernel_rfl))
  f314 := Tryz.func206.trans (congrArg some (by kernel_rfl))
  t0 := Tryz.underlying0
  a0 := Tryz.isAgg0
  z0 := Tryz.sizeOf0
  v0 := Tryz.zeroValue0
  t3 := Tryz.underlying3
  a3 := Tryz.isAgg3
  z3 := Tryz.sizeOf3
  v3 := Tryz.zeroValue3
  t4 := Tryz.underlying4
  a4 := Tryz.isAgg4
  z4 := Tryz.sizeOf4
  v4 := Tryz.zeroValue4
  t5 := Tryz.underlying5
  a5 := Tryz.isAgg5
  z5 := Tryz.sizeOf5
  v5 := Tryz.zeroValue5
  t9 := Tryz.underlying9
  a9 := Tryz.isAgg9
  z9 := Tryz.sizeOf9
  v9 := Tryz.zeroValue9
  t20 := Tryz.underlying20
  a20 := Tryz.isAgg20
  z20 := Tryz.sizeOf20
  v20 := Tryz.zeroValue20
  t21 := Tryz.underlying21
  a21 := Tryz.isAgg21
  z21 := Tryz.sizeOf21
  v21 := Tryz.zeroValue21
  t37 := Tryz.underlying72
  a37 := Tryz.isAgg72
  z37 := Tryz.sizeOf72
  v37 := Tryz.zeroValue72
  t46 := Tryz.underlying216
  a46 := Tryz.isAgg216
  z46 := Tryz.sizeOf216
  v46 := Tryz.zeroValue216
  t51 := Tryz.underlying213
  a51 := Tryz.isAgg213
  z51 := Tryz.sizeOf213
  v51 := Tryz.zeroValue213
  t70 := Tryz.underlying71
  a70 := Tryz.isAgg71
  z70 := Tryz.sizeOf71
  v70 := Tryz.zeroValue71
  t72 := Tryz.underlying74
  a72 := Tryz.isAgg74
  z72 := Tryz.sizeOf74
  v72 := Tryz.zeroValue74
  t75 := Tryz.underlying27
  a75 := Tryz.isAgg27
  z75 := Tryz.sizeOf27
  v75 := Tryz.zeroValue27
  t76 := Tryz.underlying53
  a76 := Tryz.isAgg53
  z76 := Tryz.sizeOf53
  v76 := Tryz.zeroValue53
  t105 := Tryz.underlying208
  a105 := Tryz.isAgg208
  z105 := Tryz.sizeOf208
  v105 := Tryz.zeroValue208
  t119 := Tryz.underlying231
  a119 := Tryz.isAgg231
  z119 := Tryz.sizeOf231
  t127 := Tryz.underlying122
  a127 := Tryz.isAgg122
  z127 := Tryz.sizeOf122
  v127 := Tryz.zeroValue122
  t138 := Tryz.underlying233
  a138 := Tryz.isAgg233
  z138 := Tryz.sizeOf233
  v138 := Tryz.zeroValue233
  t139 := Tryz.underlying234
  a139 := Tryz.isAgg234
  z139 := Tryz.sizeOf234
  v139 := Tryz.zeroValue234
  t146 := Tryz.underlying227
  a146 := Tryz.isAgg227
  z146 := Tryz.sizeOf227
  v146 := Tryz.zeroValue227
  t164 := Tryz.underlying94
  a164 := Tryz.isAgg94
  z164 := Tryz.sizeOf94
  v164 := Tryz.zeroValue94
  g1 := by kernel_rfl
  g3 := by kernel_rfl
  g4 := by kernel_rfl }
theorem Tryz.Builder_Extra_155 : Builder.Extra Tryz.prog Tryz.lays155_ren := {
  sizeBuilder := by kernel_rfl
  liesBuilder := by kernel_rfl
  t5 := Tryz.underlying5
  a5 := Tryz.isAgg5
  z5 := Tryz.sizeOf5
  v5 := Tryz.zeroValue5
  infoByte := by kernel_rfl
  cellsByte := by kernel_rfl
  sizeByte := by kernel_rfl
  neB5 := by decide }
open Go.RowKit Go.Lib in
theorem Tryz.strings_ReplaceAll (s old new : ByteArray) (m : Int) (w : World) (hs : s.size < 4294967281) (hm : w.cell? ⟨1, 0, none⟩ = some (.int .i64 m)) (h1 : 1 ≤ old.size) (hlen : s.size + Lib.countB s old * new.size ≤ 140737488355328) :
    Calls Tryz.prog 112 #[.string s, .string old, .string new] w fun e w' =>
      e = .returned (.string ⟨(Lib.replaceAll s.data.toList old.data.toList new.data.toList).toArray⟩) ∧ Below w.heap.size w w' := Any.strings_ReplaceAll Tryz.lays155 Tryz.Builder_Extra_155 s old new m w hs hm h1 hlen
end Go.Proofs
namespace Go.Proofs.YtfpeecjafccfjaaGreatDoor
open Go.RowKit
theorem ret_in {a a' : Int} {o o' : Bool} (h : a = a') (h' : o = o') : Ending.returned (.tuple #[.int .i64 a, .bool o]) = .returned (.tuple #[.int .i64 a', .bool o']) := by rw [h, h']
theorem left0 (s : ByteArray) (w : World) : Calls Tryz.prog 144 #[.string s, .string ⟨#[48]⟩] w fun e w' => e = .returned (.string ⟨(Lib.trimLeftB s.data.toList 48).toArray⟩) ∧ w = w' :=
  (Tryz.strings_TrimLeft_one s 48 (by decide) w).mono fun _ _ ⟨h, h'⟩ => ⟨h, h'.symm⟩
theorem whole_no (s : ByteArray) (b : Nat) (w : World) (hs : s.size ≤ 9223372036854775807) (h : okD b s.data.toList = false) :
    Calls Tryz.prog 138 #[.string s, .int .u64 b] w fun e w' => e = .returned (.tuple #[.int .u64 0, .bool false]) ∧ w = w' := by
  have hc := whole_any s b w hs
  rw [whN_no h, h] at hc
  exact hc
theorem whole_yes (s : ByteArray) (b : Nat) (w : World) (hs : s.size ≤ 9223372036854775807) (h : okD b s.data.toList = true) :
    Calls Tryz.prog 138 #[.string s, .int .u64 b] w fun e w' => e = .returned (.tuple #[.int .u64 (whN b s.data.toList : Int), .bool true]) ∧ w = w' := by
  have hc := whole_any s b w hs
  rw [h] at hc
  exact hc
set_option maxHeartbeats 800000 in
theorem decimal_any (s : ByteArray) (m : Int) (w : World) (hs : s.size ≤ 9223372036854775807) (hm : m ≤ 9223372036854775808) :
    Calls Tryz.prog 139 #[.string s, .int .u64 m] w fun e w' => e = .returned (.tuple #[.int .u64 (decN m s.data.toList : Int), .bool (decO m s.data.toList)]) ∧ w = w' := by
  cases ho : okD 10 s.data.toList
  · have HN := Lib.hid (decO_not (m := m) ho)
    have HO := Lib.hid ho
    clear ho
    go_enter Tryz.func139, Tryz.ntmps139
    go_wp2_with fail
    refine (whole_no s 10 _ hs HO.out).mono ?_; rintro e w1 ⟨rfl, rfl⟩
    go_wp2_with fail
    go_ret2
    exact ⟨ret_wh (by rw [decN_no HN.out]; rfl) HN.out.symm, rfl⟩
  · have HO := Lib.hid ho
    by_cases hl : (Lib.trimLeftB s.data.toList 48).length ≤ 19
    · have HW := Lib.hid (dec_short ho hl)
      clear ho
      obtain ⟨v, hv⟩ : ∃ v : Int, v = (val 10 s.data.toList : Int) := ⟨_, rfl⟩
      have HV := Lib.hid hv
      have HC := Lib.hid (fun (w : World) => HV.out ▸ HW.out ▸ whole_yes s 10 w hs HO.out)
      clear hv
      by_cases hvm : v ≤ m
      · have HN := Lib.hid (decO_is HO.out (HV.out ▸ hvm))
        go_enter Tryz.func139, Tryz.ntmps139
        go_wp2_with fail
        refine (HC.out _).mono ?_; rintro e w1 ⟨rfl, rfl⟩
        go_wp2_with fail
        refine (left0 _ _).mono ?_; rintro e w2 ⟨rfl, rfl⟩
        go_wp2_with fail
        go_ret2
        exact ⟨ret_wh (by rw [decN_is HN.out]; exact HV.out) HN.out.symm, rfl⟩
      · have HN := Lib.hid (decO_more (HV.out ▸ Int.lt_of_not_ge hvm))
        go_enter Tryz.func139, Tryz.ntmps139
        go_wp2_with fail
        refine (HC.out _).mono ?_; rintro e w1 ⟨rfl, rfl⟩
        go_wp2_with fail
        refine (left0 _ _).mono ?_; rintro e w2 ⟨rfl, rfl⟩
        go_wp2_with fail
        go_ret2
        exact ⟨ret_wh (by rw [decN_no HN.out]; rfl) HN.out.symm, rfl⟩
    · have HN := Lib.hid (decO_long hm ho (Nat.lt_of_not_le hl))
      clear ho
      go_enter Tryz.func139, Tryz.ntmps139
      go_wp2_with fail
      refine (whole_yes s 10 _ hs HO.out).mono ?_; rintro e w1 ⟨rfl, rfl⟩
      go_wp2_with fail
      refine (left0 _ _).mono ?_; rintro e w2 ⟨rfl, rfl⟩
      go_wp2_with fail
      go_ret2
      exact ⟨ret_wh (by rw [decN_no HN.out]; rfl) HN.out.symm, rfl⟩
theorem hasP_is (s p : ByteArray) (w : World) (r : Bool) (h : Lib.hasPrefix s.data.toList p.data.toList = r) : Calls Tryz.prog 67 #[.string s, .string p] w fun e w' => e = .returned (.bool r) ∧ w = w' :=
  (Tryz.strings_HasPrefix s p w).mono fun _ _ ⟨a, b⟩ => ⟨by rw [a, h], b.symm⟩
theorem drop_bytes (s : ByteArray) (k : Nat) : (⟨(s.data.toList.drop k).toArray⟩ : ByteArray) = s.extract k s.size := by
  rw [Lib.extract_eq, List.take_of_length_le (by rw [List.length_drop, Lib.size_eq]; omega)]
theorem pre2 {s : ByteArray} {a b : UInt8} (h : Lib.hasPrefix s.data.toList [a, b] = true) : 2 ≤ s.size := by
  rw [Lib.size_eq]
  unfold Lib.hasPrefix at h
  match hs : s.data.toList, h with
  | [], h => simp [List.isPrefixOf] at h
  | [_], h => simp [List.isPrefixOf] at h
  | _ :: _ :: _, _ => simp
theorem hexB_1 {l : List UInt8} (h : Lib.hasPrefix l [48, 120] = true) : hexB l = true := by unfold hexB; rw [h]; rfl
theorem hexB_2 {l : List UInt8} (h : Lib.hasPrefix l [48, 88] = true) : hexB l = true := by unfold hexB; rw [h]; simp
theorem hexB_0 {l : List UInt8} (h : Lib.hasPrefix l [48, 120] = false) (h' : Lib.hasPrefix l [48, 88] = false) : hexB l = false := by unfold hexB; rw [h, h']; rfl
theorem numO_hex {m : Int} {l : List UInt8} (h : hexB l = true) : numO m l = okD 16 (l.drop 2) := by unfold numO; simp [h]
theorem numN_hex {m : Int} {l : List UInt8} (h : hexB l = true) : numN m l = whN 16 (l.drop 2) := by unfold numN; simp [h]
theorem numO_dec {m : Int} {l : List UInt8} (h : hexB l = false) : numO m l = decO m l := by unfold numO; simp [h]
theorem numN_dec {m : Int} {l : List UInt8} (h : hexB l = false) : numN m l = decN m l := by unfold numN; simp [h]
theorem whole_rest (s : ByteArray) (k b : Nat) (w : World) (hs : s.size ≤ 9223372036854775807) :
    Calls Tryz.prog 138 #[.string (s.extract k s.size), .int .u64 b] w fun e w' => e = .returned (.tuple #[.int .u64 (whN b (s.data.toList.drop k) : Int), .bool (okD b (s.data.toList.drop k))]) ∧ w = w' := by
  have h := whole_any ⟨(s.data.toList.drop k).toArray⟩ b w (by rw [Lib.size_mk, List.length_drop, ← Lib.size_eq]; omega)
  rw [drop_bytes] at h
  rw [show (s.extract k s.size).data.toList = s.data.toList.drop k by rw [← drop_bytes]] at h
  exact h
set_option maxHeartbeats 800000 in
theorem numeral_any (s : ByteArray) (m : Int) (w : World) (hs : s.size ≤ 9223372036854775807) (hm : m ≤ 9223372036854775808) :
    Calls Tryz.prog 109 #[.string s, .int .u64 m] w fun e w' => e = .returned (.tuple #[.int .u64 (numN m s.data.toList : Int), .bool (numO m s.data.toList)]) ∧ w = w' := by
  have HM := Lib.hid hm
  clear hm
  cases h1 : Lib.hasPrefix s.data.toList [48, 120]
  · cases h2 : Lib.hasPrefix s.data.toList [48, 88]
    · have HX := Lib.hid (hexB_0 h1 h2)
      have H1 := Lib.hid h1; have H2 := Lib.hid h2
      clear h1 h2
      go_enter Tryz.func109, Tryz.ntmps109
      go_wp2_with fail
      refine (hasP_is _ _ _ _ H1.out).mono ?_; rintro e w1 ⟨rfl, rfl⟩
      go_wp2_with fail
      refine (hasP_is _ _ _ _ H2.out).mono ?_; rintro e w1 ⟨rfl, rfl⟩
      go_wp2_with fail
      refine (decimal_any _ _ _ hs HM.out).mono ?_; rintro e w1 ⟨rfl, rfl⟩
      go_wp2_with fail
      go_ret2
      exact ⟨ret_wh (by rw [numN_dec HX.out]) (numO_dec HX.out).symm, rfl⟩
    · have HX := Lib.hid (hexB_2 h2)
      have H1 := Lib.hid h1; have H2 := Lib.hid h2
      have hz := pre2 h2
      clear h1 h2
      go_enter Tryz.func109, Tryz.ntmps109
      go_wp2_with fail
      refine (hasP_is _ _ _ _ H1.out).mono ?_; rintro e w1 ⟨rfl, rfl⟩
      go_wp2_with fail
      refine (hasP_is _ _ _ _ H2.out).mono ?_; rintro e w1 ⟨rfl, rfl⟩
      go_wp2_with fail
      refine (whole_rest _ 2 16 _ hs).mono ?_; rintro e w1 ⟨rfl, rfl⟩
      go_wp2_with fail
      go_ret2
      exact ⟨ret_wh (by rw [numN_hex HX.out]) (numO_hex HX.out).symm, rfl⟩
  · have HX := Lib.hid (hexB_1 h1)
    have H1 := Lib.hid h1
    have hz := pre2 h1
    clear h1
    go_enter Tryz.func109, Tryz.ntmps109
    go_wp2_with fail
    refine (hasP_is _ _ _ _ H1.out).mono ?_; rintro e w1 ⟨rfl, rfl⟩
    go_wp2_with fail
    refine (whole_rest _ 2 16 _ hs).mono ?_; rintro e w1 ⟨rfl, rfl⟩
    go_wp2_with fail
    go_ret2
    exact ⟨ret_wh (by rw [numN_hex HX.out]) (numO_hex HX.out).symm, rfl⟩
theorem w64_sgn (n : Int) : wrap64 n = sgn n := by unfold wrap64 sgn; rfl
theorem i64_sgn (n : Int) : IntKind.i64.wrap n = sgn n := by rw [IntKind.wrap_i64]; rfl
theorem sgn_u64 (n : Int) : sgn (IntKind.u64.wrap n) = sgn n := by rw [IntKind.wrap_u64]; unfold sgn; omega
set_option maxHeartbeats 800000 in
theorem cNumeral (s : ByteArray) (w : World) (hs : s.size ≤ 9223372036854775807) :
    Calls Tryz.prog 72 #[.string s] w fun e w' => e = .returned (.tuple #[.int .i64 (sgn (numN 9223372036854775807 s.data.toList : Int)), .bool (numO 9223372036854775807 s.data.toList)]) ∧ w = w' := by
  go_enter Tryz.func72, Tryz.ntmps72
  go_wp2_with fail
  refine (numeral_any _ _ _ hs (by omega)).mono ?_; rintro e w1 ⟨rfl, rfl⟩
  go_wp2_with fail
  go_ret2
  exact ⟨ret_in (by first | exact w64_sgn _ | exact i64_sgn _) rfl, rfl⟩
theorem trim_any (s : ByteArray) (w : World) (hs : s.size ≤ 9223372036854775807) :
    Calls Tryz.prog 190 #[.string s, .string ⟨#[9, 10, 11, 12, 13, 32]⟩] w fun e w' => e = .returned (.string ⟨(trm s.data.toList).toArray⟩) ∧ Below w.heap.size w w' :=
  Any.strings_Trim_laid Tryz.lays160 (by kernel_rfl) s ⟨#[9, 10, 11, 12, 13, 32]⟩ w hs (by decide) (ascii_of_all (by decide))
theorem trm_size (s : ByteArray) : (⟨(trm s.data.toList).toArray⟩ : ByteArray).size ≤ s.size := by
  rw [Lib.size_mk, Lib.size_eq]
  exact trm_le _
theorem cutM (t : ByteArray) (w : World) (r : Bool) (h : minB t.data.toList = r) :
    Calls Tryz.prog 143 #[.string t, .string ⟨#[45]⟩] w fun e w' => e = .returned (.tuple #[.string ⟨(Lib.trimPrefix t.data.toList [45]).toArray⟩, .bool r]) ∧ w = w' :=
  (Tryz.strings_CutPrefix t ⟨#[45]⟩ w).mono fun _ _ ⟨a, b⟩ => ⟨by rw [a, ← h]; rfl, b.symm⟩
theorem cut_size (t : ByteArray) (p : List UInt8) : (⟨(Lib.trimPrefix t.data.toList p).toArray⟩ : ByteArray).size ≤ t.size := by
  rw [Lib.size_mk, Lib.size_eq]
  exact Lib.trimPrefix_le _ _
theorem basO_out {b : Int} {l : List UInt8} (h : ¬ (2 ≤ b ∧ b ≤ 36)) : basO b l = false := by unfold basO; rw [if_neg h]
theorem basN_out {b : Int} {l : List UInt8} (h : ¬ (2 ≤ b ∧ b ≤ 36)) : basN b l = 0 := by unfold basN; rw [if_neg h]
set_option maxHeartbeats 800000 in
theorem cBase_out (s : ByteArray) (b : Int) (w : World) (h : ¬ (2 ≤ b ∧ b ≤ 36)) :
    Calls Tryz.prog 163 #[.string s, .int .i64 b] w fun e w' => e = .returned (.tuple #[.int .i64 (basN b s.data.toList), .bool (basO b s.data.toList)]) ∧ Below w.heap.size w w' := by
  rw [basO_out h, basN_out h]
  by_cases h1 : b < 2
  · clear h
    go_enter Tryz.func163, Tryz.ntmps163
    go_wp2_with fail
    go_ret2
    exact ⟨rfl, Below.refl _ _⟩
  · have h2 : 36 < b := by omega
    clear h
    go_enter Tryz.func163, Tryz.ntmps163
    go_wp2_with fail
    go_ret2
    exact ⟨rfl, Below.refl _ _⟩
set_option maxHeartbeats 800000 in
theorem cBase_in (s : ByteArray) (b : Nat) (w : World) (hs : s.size ≤ 9223372036854775807) (h1 : 2 ≤ b) (h2 : b ≤ 36) :
    Calls Tryz.prog 163 #[.string s, .int .i64 b] w fun e w' => e = .returned (.tuple #[.int .i64 (basN b s.data.toList), .bool (basO b s.data.toList)]) ∧ Below w.heap.size w w' := by
  have hz := trm_size s
  have HT := Lib.hid (show (⟨(trm s.data.toList).toArray⟩ : ByteArray).data.toList = trm s.data.toList from rfl)
  have HC := Lib.hid (trim_any s · hs)
  generalize (⟨(trm s.data.toList).toArray⟩ : ByteArray) = t at hz HT HC
  have hm := cut_size t [45]
  have ho : basO b s.data.toList = okD b (Lib.trimPrefix t.data.toList [45]) := by unfold basO; rw [← HT.out, if_pos (by omega)]; rfl
  have HO := Lib.hid ho
  clear ho
  cases h : minB t.data.toList
  · have HH := Lib.hid h
    clear h
    have hn : basN b s.data.toList = sgn (whN b (Lib.trimPrefix t.data.toList [45]) : Int) := by unfold basN; rw [← HT.out, if_pos (by omega), if_neg (by rw [HH.out]; exact Bool.false_ne_true)]; rfl
    have HN := Lib.hid hn
    clear hn
    go_enter Tryz.func163, Tryz.ntmps163
    go_wp2_with fail
    refine (HC.out _).mono ?_; rintro e w1 ⟨rfl, b1⟩
    go_wp2_with fail
    refine (cutM _ _ _ HH.out).mono ?_; rintro e w2 ⟨rfl, rfl⟩
    go_wp2_with fail
    refine (whole_any _ b _ (by omega)).mono ?_; rintro e w2 ⟨rfl, rfl⟩
    go_wp2_with fail
    go_ret2
    exact ⟨ret_in (by rw [HN.out]; exact w64_sgn _) HO.out.symm, b1⟩
  · have HH := Lib.hid h
    clear h
    have hn : basN b s.data.toList = sgn (-(whN b (Lib.trimPrefix t.data.toList [45]) : Int)) := by unfold basN; rw [← HT.out, if_pos (by omega), if_pos HH.out]; rfl
    have HN := Lib.hid hn
    clear hn
    go_enter Tryz.func163, Tryz.ntmps163
    go_wp2_with fail
    refine (HC.out _).mono ?_; rintro e w1 ⟨rfl, b1⟩
    go_wp2_with fail
    refine (cutM _ _ _ HH.out).mono ?_; rintro e w2 ⟨rfl, rfl⟩
    go_wp2_with fail
    refine (whole_any _ b _ (by omega)).mono ?_; rintro e w2 ⟨rfl, rfl⟩
    go_wp2_with fail
    go_ret2
    refine ⟨ret_in ?_ HO.out.symm, b1⟩
    rw [HN.out]
    exact (w64_sgn _).trans (sgn_u64 _)
theorem cBase (s : ByteArray) (b : Int) (w : World) (hs : s.size ≤ 9223372036854775807) :
    Calls Tryz.prog 163 #[.string s, .int .i64 b] w fun e w' => e = .returned (.tuple #[.int .i64 (basN b s.data.toList), .bool (basO b s.data.toList)]) ∧ Below w.heap.size w w' := by
  by_cases h : 2 ≤ b ∧ b ≤ 36
  · obtain ⟨k, rfl⟩ : ∃ k : Nat, b = k := ⟨b.toNat, by omega⟩
    exact cBase_in s k w hs (by omega) (by omega)
  · exact cBase_out s b w h
end Go.Proofs.YtfpeecjafccfjaaGreatDoor
namespace Go.Proofs.YtfpeecjafccfjaaGreatDoor
open Go.RowKit
def Mx (w : World) : Prop := ∃ m : Int, w.cell? ⟨1, 0, none⟩ = some (.int .i64 m)
theorem count_nl (s : ByteArray) (w : World) : Calls Tryz.prog 105 #[.string s, .string ⟨#[10]⟩] w fun e w' => e = .returned (.int .i64 (nl s.data.toList : Int)) ∧ w = w' :=
  (Tryz.strings_Count_one s 10 w).mono fun _ _ ⟨a, b⟩ => ⟨a, b.symm⟩
theorem cut_call (f p : ByteArray) (w : World) (hs : f.size ≤ 1000000) (h : Mx w) : Calls Tryz.prog 107 #[.string f, .string p] w fun e w' =>
    e = .returned (.tuple #[.string ⟨(Lib.cut f.data.toList p.data.toList).1.toArray⟩, .string ⟨(Lib.cut f.data.toList p.data.toList).2.1.toArray⟩, .bool (Lib.cut f.data.toList p.data.toList).2.2]) ∧ ∃ n, w' = w.drewN n := by
  obtain ⟨m, hm⟩ := h
  exact Tryz.strings_Cut f p m w (by omega) hm
theorem cutP_call (t p : ByteArray) (w : World) : Calls Tryz.prog 143 #[.string t, .string p] w fun e w' => e = .returned (.tuple #[.string ⟨(Lib.trimPrefix t.data.toList p.data.toList).toArray⟩, .bool (Lib.hasPrefix t.data.toList p.data.toList)]) ∧ w = w' :=
  (Tryz.strings_CutPrefix t p w).mono fun _ _ ⟨a, b⟩ => ⟨a, b.symm⟩
theorem trimL_eq (s : ByteArray) (w : World) : Calls Tryz.prog 144 #[.string s, .string ⟨#[61]⟩] w fun e w' => e = .returned (.string ⟨(Lib.trimLeftB s.data.toList 61).toArray⟩) ∧ w = w' :=
  (Tryz.strings_TrimLeft_one s 61 (by decide) w).mono fun _ _ ⟨a, b⟩ => ⟨a, b.symm⟩
theorem repl_call (s : ByteArray) (w : World) (hs : s.size ≤ 1000000) (h : Mx w) : Calls Tryz.prog 112 #[.string s, .string ⟨#[91]⟩, .string ⟨#[93]⟩] w fun e w' => e = .returned (.string ⟨(clo s.data.toList).toArray⟩) ∧ Below w.heap.size w w' := by
  obtain ⟨m, hm⟩ := h
  have h1 := Lib.countB_le (⟨#[91]⟩ : ByteArray) (by decide) s.size s (Nat.le_refl _)
  have h2 : (⟨#[93]⟩ : ByteArray).size = 1 := rfl
  exact Tryz.strings_ReplaceAll s ⟨#[91]⟩ ⟨#[93]⟩ m w (by omega) hm (by decide) (by rw [h2]; omega)
theorem trimP_nl (t : ByteArray) (w : World) : Calls Tryz.prog 113 #[.string t, .string ⟨#[10]⟩] w fun e w' => e = .returned (.string ⟨(Lib.trimPrefix t.data.toList [10]).toArray⟩) ∧ w = w' :=
  (Tryz.strings_TrimPrefix t ⟨#[10]⟩ w).mono fun _ _ ⟨a, b⟩ => ⟨a, b.symm⟩
theorem indexB_call (s : ByteArray) (c : UInt8) (w : World) : Calls Tryz.prog 140 #[.string s, .int .u8 (c.toNat : Int)] w fun e w' => e = .returned (.int .i64 (Lib.indexByte s.data.toList c)) ∧ w = w' :=
  (Tryz.strings_IndexByte s (c.toNat : Int) w).mono fun _ _ ⟨a, b⟩ => ⟨by rw [a]; congr 3; simp, b.symm⟩
end Go.Proofs.YtfpeecjafccfjaaGreatDoor
namespace Go.Proofs.YtfpeecjafccfjaaGreatDoor
open Go.RowKit
def Kp (b : Nat) (w w' : World) : Prop := w.grownBy w' (some b)
theorem Kp.refl (b : Nat) (w : World) : Kp b w w := World.grownBy.refl _ _
theorem Kp.trans {b : Nat} {u v w : World} (h : Kp b u v) (k : Kp b v w) : Kp b u w := World.grownBy.trans h k
theorem Kp.draws {b : Nat} {w w' : World} (h : Kp b w w') (n : Nat) : Kp b w (w'.drewN n) := ⟨h.os, h.tape, h.output, h.size, h.block⟩
theorem Kp.of_below {b : Nat} {w w' : World} (h : Below w.heap.size w w') : Kp b w w' := ⟨h.os, h.tape, h.output, h.size, fun k hk _ => h.block k hk⟩
theorem Kp.set {b : Nat} {w w' : World} (h : Kp b w w') (o : Nat) (v : Value) : Kp b w (w'.setCell ⟨b, o, none⟩ v) :=
  h.trans ⟨rfl, rfl, rfl, by simp [World.setCell], fun k _ hk => Below.heap_setCell _ _ _ k (fun e => hk (by rw [e]))⟩
theorem Kp.alloc {b : Nat} {w w' : World} (h : Kp b w w') (o : Obj) : Kp b w (w'.alloc o) := h.trans (World.grownBy_alloc _ _ _)
structure Rd (W : World) (b : Nat) (s : ByteArray) (k : Nat) : Prop where
  blk : W.heap[b]? = some (.cells #[.string s, .int .i64 (k : Int), .int .i64 ((1 + nl (s.data.toList.take k) : Nat) : Int)] 78 (0, 0))
  le : k ≤ s.size
  top : s.size ≤ 100000
  far : 7 ≤ b
  mx : Mx W
theorem Rd.lt {W : World} {b : Nat} {s : ByteArray} {k : Nat} (h : Rd W b s k) : b < W.heap.size := (Array.getElem?_eq_some_iff.1 h.blk).1
theorem Rd.c0 {W : World} {b : Nat} {s : ByteArray} {k : Nat} (h : Rd W b s k) : W.cell? ⟨b, 0, none⟩ = some (.string s) := by simp [World.cell?, h.blk]
theorem Rd.c1 {W : World} {b : Nat} {s : ByteArray} {k : Nat} (h : Rd W b s k) : W.cell? ⟨b, 1, none⟩ = some (.int .i64 (k : Int)) := by simp [World.cell?, h.blk]
theorem Rd.c2 {W : World} {b : Nat} {s : ByteArray} {k : Nat} (h : Rd W b s k) : W.cell? ⟨b, 2, none⟩ = some (.int .i64 ((1 + nl (s.data.toList.take k) : Nat) : Int)) := by simp [World.cell?, h.blk]
theorem Rd.f1 {W : World} {b : Nat} {s : ByteArray} {k : Nat} (h : Rd W b s k) : W.frozen? ⟨b, 1, none⟩ = false := by simp [World.frozen?, h.blk]
theorem Rd.f2 {W : World} {b : Nat} {s : ByteArray} {k : Nat} (h : Rd W b s k) : W.frozen? ⟨b, 2, none⟩ = false := by simp [World.frozen?, h.blk]
theorem Mx.kp {b : Nat} {w w' : World} (h : Mx w) (hb : 7 ≤ b) (hk : Kp b w w') : Mx w' := by
  obtain ⟨m, hm⟩ := h
  exact ⟨m, World.grownBy.cell hk hm (by simp; omega)⟩
theorem Mx.below {w w' : World} (h : Mx w) (hb : Below w.heap.size w w') : Mx w' := by
  obtain ⟨m, hm⟩ := h
  exact ⟨m, (hb.cell (p := ⟨1, 0, none⟩) (World.block_lt_of_cell? w _ hm)).trans hm⟩
theorem Rd.below {W W' : World} {b : Nat} {s : ByteArray} {k : Nat} (h : Rd W b s k) (hb : Below W.heap.size W W') : Rd W' b s k :=
  ⟨(hb.block b h.lt).trans h.blk, h.le, h.top, h.far, h.mx.below hb⟩
theorem Rd.draws {W : World} {b : Nat} {s : ByteArray} {k : Nat} (h : Rd W b s k) (n : Nat) : Rd (W.drewN n) b s k := ⟨h.blk, h.le, h.top, h.far, h.mx⟩
theorem Rd.alloc {W : World} {b : Nat} {s : ByteArray} {k : Nat} (h : Rd W b s k) (o : Obj) : Rd (W.alloc o) b s k := h.below ((Below.refl _ _).alloc (Nat.le_refl _) _)
set_option maxHeartbeats 1000000 in
theorem rest_any (b : Nat) (s : ByteArray) (k : Nat) (w : World) (h : Rd w b s k) :
    Calls Tryz.prog 65 #[.pointer (some ⟨b, 0, none⟩)] w fun e w' => e = .returned (.string (s.extract k s.size)) ∧ Rd w' b s k ∧ Kp b w w' := by
  have HR := Lib.hid h
  have c0 := h.c0
  have c1 := h.c1
  have hle := h.le
  have htop := h.top
  clear h
  go_enter Tryz.func65, Tryz.ntmps65
  go_wp2
  go_quiet (fail)
  go_wp2
  go_ret
  exact ⟨rfl, HR.out.draws _, (Kp.refl _ _).draws _⟩
theorem drop_extract (s : ByteArray) (k : Nat) : (s.extract k s.size).data.toList = s.data.toList.drop k := by
  rw [ByteArray.data_extract]
  simp only [Array.toList_extract, List.extract_eq_take_drop]
  exact List.take_of_length_le (by rw [List.length_drop]; exact Nat.le_refl _)
theorem piece_list (s : ByteArray) (k c : Nat) : (s.extract k (k + c)).data.toList = (s.data.toList.drop k).take c := by
  rw [ByteArray.data_extract]
  simp
theorem nl_piece (s : ByteArray) (k c : Nat) : 1 + nl (s.data.toList.take k) + nl (s.extract k (k + c)).data.toList = 1 + nl (s.data.toList.take (k + c)) := by
  rw [piece_list, List.take_add, nl_app]
  omega
theorem set_blk {W : World} {b : Nat} {a0 a1 a2 : Value} {t : TypeId} (h : W.heap[b]? = some (.cells #[a0, a1, a2] t (0, 0))) (v : Value) :
    (W.setCell ⟨b, 1, none⟩ v).heap[b]? = some (.cells #[a0, v, a2] t (0, 0)) ∧ (W.setCell ⟨b, 2, none⟩ v).heap[b]? = some (.cells #[a0, a1, v] t (0, 0)) := by
  obtain ⟨hlt, hk⟩ := Array.getElem?_eq_some_iff.1 h
  constructor
  · show (W.heap.modify b _)[b]? = _
    rw [Array.getElem?_eq_getElem (by rw [Array.size_modify]; exact hlt), Array.getElem_modify_self, hk]
    rfl
  · show (W.heap.modify b _)[b]? = _
    rw [Array.getElem?_eq_getElem (by rw [Array.size_modify]; exact hlt), Array.getElem_modify_self, hk]
    rfl
theorem Kp.drew {b : Nat} {w w' : World} (h : Kp b w w') : Kp b w w'.drew := ⟨h.os, h.tape, h.output, h.size, h.block⟩
theorem Rd.moved {w : World} {b : Nat} {s : ByteArray} {k : Nat} (h : Rd w b s k) (c : Nat) (hc : k + c ≤ s.size) (nq : Nat) (x y : Int) (hx : x = ((k + c : Nat) : Int)) (hy : y = ((1 + nl (s.data.toList.take (k + c)) : Nat) : Int)) :
    Rd (((w.drewN nq).setCell ⟨b, 1, none⟩ (.int .i64 x)).setCell ⟨b, 2, none⟩ (.int .i64 y)).drew b s (k + c) := by
  have h0 : (w.drewN nq).heap[b]? = some (.cells #[.string s, .int .i64 (k : Int), .int .i64 ((1 + nl (s.data.toList.take k) : Nat) : Int)] 78 (0, 0)) := h.blk
  have h2 := (set_blk (set_blk h0 (.int .i64 x)).1 (.int .i64 y)).2
  refine ⟨?_, hc, h.top, h.far, ?_⟩
  · rw [hx, hy] at h2 ⊢
    exact h2
  · exact h.mx.kp h.far ((((Kp.refl b w).draws nq).set 1 _).set 2 _).drew
theorem kp_moved (w : World) (b nq : Nat) (x y : Value) : Kp b w (((w.drewN nq).setCell ⟨b, 1, none⟩ x).setCell ⟨b, 2, none⟩ y).drew := ((((Kp.refl b w).draws nq).set 1 _).set 2 _).drew
set_option maxHeartbeats 1000000 in
theorem take_any (b : Nat) (s : ByteArray) (k c : Nat) (w : World) (h : Rd w b s k) (hc : k + c ≤ s.size) :
    Calls Tryz.prog 63 #[.pointer (some ⟨b, 0, none⟩), .int .i64 (c : Int)] w fun e w' => e = .returned (.string (s.extract k (k + c))) ∧ Rd w' b s (k + c) ∧ Kp b w w' := by
  have HR := Lib.hid h
  have c0 := h.c0
  have c1 := h.c1
  have hle := h.le
  have htop := h.top
  clear h
  go_enter Tryz.func63, Tryz.ntmps63
  go_wp2
  have w1 : IntKind.i64.wrap ((k : Int) + (c : Int)) = (k : Int) + (c : Int) := IntWalk.i64_in _ (by omega)
  go_quiet (fail)
  clear w1
  have f1 := HR.out.f1
  go_wp2_with fail
  have c2 := HR.out.c2
  have f2 := HR.out.f2
  obtain ⟨n, hn⟩ : ∃ n : Nat, n = nl (s.data.toList.take k) := ⟨_, rfl⟩
  obtain ⟨m, hm⟩ : ∃ m : Nat, m = nl (s.extract k (k + c)).data.toList := ⟨_, rfl⟩
  rw [← hn] at c2
  have HC := Lib.hid (fun W => hm ▸ count_nl (s.extract k (k + c)) W)
  have hn1 : n ≤ 100000 := by
    have := nl_le (s.data.toList.take k)
    rw [List.length_take] at this
    omega
  have hm1 : m ≤ 100000 := by
    have := nl_le (s.extract k (k + c)).data.toList
    rw [piece_list, List.length_take] at this
    rw [piece_list] at hm
    omega
  have HN := Lib.hid hn
  have HM := Lib.hid hm
  clear hn hm
  have w2 : IntKind.i64.wrap (((1 + n : Nat) : Int) + (m : Int)) = ((1 + n + m : Nat) : Int) := by rw [IntWalk.i64_in _ (by omega)]; omega
  go_region_with ((go_at_call 105; refine (HC.out _).mono ?_; rintro e w' ⟨rfl, rfl⟩))
  all_goals go_wp2
  all_goals go_ret
  all_goals exact ⟨rfl, HR.out.moved c hc _ _ _ (by omega) (by rw [IntWalk.i64_in _ (by omega), ← nl_piece, ← HN.out, ← HM.out]; omega), kp_moved _ _ _ _ _⟩
end Go.Proofs.YtfpeecjafccfjaaGreatDoor
namespace Go.Proofs.YtfpeecjafccfjaaGreatDoor
open Go.RowKit
theorem ret_bool {a b : Bool} (h : a = b) : Ending.returned (.bool a) = .returned (.bool b) := by rw [h]
set_option maxHeartbeats 1000000 in
theorem blank_is (c : UInt8) (r : Bool) (w : World) (h : blB c = r) : Calls Tryz.prog 66 #[.int .u8 (c.toNat : Int)] w fun e w' => e = .returned (.bool r) ∧ w = w' := by
  subst h
  unfold blB
  have hc := c.toNat_lt
  generalize c.toNat = n at *
  go_enter Tryz.func66, Tryz.ntmps66
  go_wp2
  all_goals go_ret
  all_goals exact ⟨ret_bool (by unfold blkB; rw [Bool.eq_iff_iff]; simp; omega), rfl⟩
set_option maxHeartbeats 1000000 in
theorem letter_is (c : UInt8) (r : Bool) (w : World) (h : ltB c = r) : Calls Tryz.prog 69 #[.int .u8 (c.toNat : Int)] w fun e w' => e = .returned (.bool r) ∧ w = w' := by
  subst h
  unfold ltB
  have hc := c.toNat_lt
  generalize c.toNat = n at *
  go_enter Tryz.func69, Tryz.ntmps69
  go_wp2
  all_goals go_ret
  all_goals exact ⟨ret_bool (by rw [Bool.eq_iff_iff]; simp; omega), rfl⟩
set_option maxHeartbeats 1000000 in
theorem digit_is (c : UInt8) (r : Bool) (w : World) (h : dgB c = r) : Calls Tryz.prog 71 #[.int .u8 (c.toNat : Int)] w fun e w' => e = .returned (.bool r) ∧ w = w' := by
  subst h
  unfold dgB
  have hc := c.toNat_lt
  generalize c.toNat = n at *
  go_enter Tryz.func71, Tryz.ntmps71
  go_wp2
  all_goals go_ret
  all_goals exact ⟨ret_bool (by rw [Bool.eq_iff_iff]; simp; omega), rfl⟩
set_option maxHeartbeats 1000000 in
theorem quote_is (c : UInt8) (r : Bool) (w : World) (h : quB c = r) : Calls Tryz.prog 74 #[.int .u8 (c.toNat : Int)] w fun e w' => e = .returned (.bool r) ∧ w = w' := by
  subst h
  unfold quB
  have hc := c.toNat_lt
  generalize c.toNat = n at *
  go_enter Tryz.func74, Tryz.ntmps74
  go_wp2
  all_goals go_ret
  all_goals exact ⟨ret_bool (by rw [Bool.eq_iff_iff]; simp; omega), rfl⟩
set_option maxHeartbeats 1000000 in
theorem name_is (c : UInt8) (r : Bool) (w : World) (h : nmB c = r) : Calls Tryz.prog 108 #[.int .u8 (c.toNat : Int)] w fun e w' => e = .returned (.bool r) ∧ w = w' := by
  unfold nmB at h
  cases e1 : ltB c <;> cases e2 : dgB c <;> rw [e1, e2] at h <;> subst h <;>
    (have L1 := Lib.hid (fun W => letter_is c _ W e1)
     have L2 := Lib.hid (fun W => digit_is c _ W e2)
     clear e1 e2
     go_enter Tryz.func108, Tryz.ntmps108
     go_wp2_with (first
       | (go_at_call 69; refine (L1.out _).mono ?_; rintro e w' ⟨rfl, rfl⟩)
       | (go_at_call 71; refine (L2.out _).mono ?_; rintro e w' ⟨rfl, rfl⟩))
     go_ret
     exact ⟨rfl, rfl⟩)
set_option maxHeartbeats 1000000 in
theorem number_is (c : UInt8) (r : Bool) (w : World) (h : nuB c = r) : Calls Tryz.prog 73 #[.int .u8 (c.toNat : Int)] w fun e w' => e = .returned (.bool r) ∧ w = w' := by
  unfold nuB at h
  cases e1 : nmB c <;> rw [e1] at h
  · have L1 := Lib.hid (fun W => name_is c _ W e1)
    clear e1
    subst h
    go_enter Tryz.func73, Tryz.ntmps73
    go_wp2_with (go_at_call 108; refine (L1.out _).mono ?_; rintro e w' ⟨rfl, rfl⟩)
    go_ret
    exact ⟨ret_bool (by rw [Bool.eq_iff_iff]; simp; omega), rfl⟩
  · have L1 := Lib.hid (fun W => name_is c _ W e1)
    clear e1
    subst h
    go_enter Tryz.func73, Tryz.ntmps73
    go_wp2_with (go_at_call 108; refine (L1.out _).mono ?_; rintro e w' ⟨rfl, rfl⟩)
    go_ret
    exact ⟨rfl, rfl⟩
set_option maxHeartbeats 1000000 in
theorem hex_is (c : UInt8) (r : Bool) (w : World) (h : hxB c = r) : Calls Tryz.prog 142 #[.int .u8 (c.toNat : Int)] w fun e w' => e = .returned (.bool r) ∧ w = w' := by
  unfold hxB at h
  cases e1 : dgB c <;> rw [e1] at h
  · have L1 := Lib.hid (fun W => digit_is c _ W e1)
    clear e1
    subst h
    have hc := c.toNat_lt
    generalize c.toNat = n at *
    go_enter Tryz.func142, Tryz.ntmps142
    go_wp2_with (go_at_call 71; refine (L1.out _).mono ?_; rintro e w' ⟨rfl, rfl⟩)
    all_goals go_ret
    all_goals exact ⟨ret_bool (by rw [Bool.eq_iff_iff]; simp; omega), rfl⟩
  · have L1 := Lib.hid (fun W => digit_is c _ W e1)
    clear e1
    subst h
    go_enter Tryz.func142, Tryz.ntmps142
    go_wp2_with (go_at_call 71; refine (L1.out _).mono ?_; rintro e w' ⟨rfl, rfl⟩)
    go_ret
    exact ⟨rfl, rfl⟩
end Go.Proofs.YtfpeecjafccfjaaGreatDoor
namespace Go.Proofs.YtfpeecjafccfjaaGreatDoor
open Go.RowKit
def sfx (s : ByteArray) (k : Nat) : List UInt8 := s.data.toList.drop k
theorem sfx_rest (s : ByteArray) (k : Nat) : (s.extract k s.size).data.toList = sfx s k := drop_extract s k
theorem sfx_len (s : ByteArray) (k : Nat) : (sfx s k).length = s.size - k := by unfold sfx; rw [List.length_drop, ← Lib.size_eq]
theorem sfx_drop (s : ByteArray) (k c : Nat) : (sfx s k).drop c = sfx s (k + c) := by unfold sfx; rw [List.drop_drop]
theorem sfx_take (s : ByteArray) (k c : Nat) : (s.extract k (k + c)).data.toList = (sfx s k).take c := piece_list s k c
theorem rest_size (s : ByteArray) (k : Nat) (h : k ≤ s.size) : (s.extract k s.size).size = s.size - k := by rw [ByteArray.size_extract]; omega
theorem mk_list (l : List UInt8) : (⟨l.toArray⟩ : ByteArray).data.toList = l := rfl
theorem mk_size (l : List UInt8) : (⟨l.toArray⟩ : ByteArray).size = l.length := by show l.toArray.size = _; simp
theorem of_list {s : ByteArray} {l : List UInt8} (h : s.data.toList = l) : s = ⟨l.toArray⟩ := by subst h; rfl
theorem ret_i64' {a b : Int} (h : a = b) : Ending.returned (.int .i64 a) = .returned (.int .i64 b) := by rw [h]
set_option maxHeartbeats 1000000 in
theorem opening_any (s : ByteArray) (w : World) (hs : s.size ≤ 100000) : Calls Tryz.prog 111 #[.string s] w fun e w' => e = .returned (.int .i64 (opn s.data.toList : Int)) ∧ w = w' := by
  obtain ⟨n, hn⟩ : ∃ n : Nat, n = opn s.data.toList := ⟨_, rfl⟩
  rw [← hn]
  unfold opn at hn
  obtain ⟨t1, ht1⟩ : ∃ t : ByteArray, t = ⟨(Lib.trimPrefix s.data.toList [91]).toArray⟩ := ⟨_, rfl⟩
  cases e1 : Lib.hasPrefix s.data.toList [91]
  · have C1 := Lib.hid (fun W => cutP_call s ⟨#[91]⟩ W)
    rw [show (⟨#[91]⟩ : ByteArray).data.toList = [91] from rfl, e1, ← ht1] at C1
    rw [e1] at hn
    have HN := Lib.hid hn
    clear hn e1 ht1
    go_enter Tryz.func111, Tryz.ntmps111
    go_wp2_with (go_at_call 143; refine (C1.out _).mono ?_; rintro e w' ⟨rfl, rfl⟩)
    go_ret
    exact ⟨ret_i64' (by rw [HN.out]; rfl), rfl⟩
  · have C1 := Lib.hid (fun W => cutP_call s ⟨#[91]⟩ W)
    rw [show (⟨#[91]⟩ : ByteArray).data.toList = [91] from rfl, e1, ← ht1] at C1
    have ht1' : t1.data.toList = s.data.toList.drop 1 := by rw [ht1]; show Lib.trimPrefix s.data.toList [91] = _; unfold Lib.trimPrefix; rw [if_pos e1]; rfl
    rw [e1, if_pos rfl, ← ht1'] at hn
    obtain ⟨t2, ht2⟩ : ∃ t : ByteArray, t = ⟨(Lib.trimLeftB t1.data.toList 61).toArray⟩ := ⟨_, rfl⟩
    have C2 := Lib.hid (fun W => trimL_eq t1 W)
    rw [← ht2] at C2
    rw [show Lib.trimLeftB t1.data.toList 61 = t2.data.toList by rw [ht2]] at hn
    obtain ⟨t3, ht3⟩ : ∃ t : ByteArray, t = ⟨(Lib.trimPrefix t2.data.toList [91]).toArray⟩ := ⟨_, rfl⟩
    have C3 := Lib.hid (fun W => cutP_call t2 ⟨#[91]⟩ W)
    cases e2 : Lib.hasPrefix t2.data.toList [91]
    · rw [show (⟨#[91]⟩ : ByteArray).data.toList = [91] from rfl, e2, ← ht3] at C3
      rw [e2] at hn
      have HN := Lib.hid hn
      clear hn e1 e2 ht1 ht2 ht3 ht1'
      go_enter Tryz.func111, Tryz.ntmps111
      go_wp2_with fail
      refine (C1.out _).mono ?_; rintro e w' ⟨rfl, rfl⟩
      go_wp2_with fail
      refine (C2.out _).mono ?_; rintro e w' ⟨rfl, rfl⟩
      go_wp2_with fail
      refine (C3.out _).mono ?_; rintro e w' ⟨rfl, rfl⟩
      go_wp2_with fail
      go_ret
      exact ⟨ret_i64' (by rw [HN.out]; rfl), rfl⟩
    · rw [show (⟨#[91]⟩ : ByteArray).data.toList = [91] from rfl, e2, ← ht3] at C3
      have ht3' : t3.data.toList = t2.data.toList.drop 1 := by rw [ht3]; show Lib.trimPrefix t2.data.toList [91] = _; unfold Lib.trimPrefix; rw [if_pos e2]; rfl
      rw [e2, if_pos rfl, ← ht3', ← Lib.size_eq, ← Lib.size_eq] at hn
      have hle : t3.size ≤ s.size := by
        rw [Lib.size_eq, ht3', ht2, mk_list, ht1', Lib.size_eq s, List.length_drop]
        have h1 := (List.dropWhile_sublist (fun x => x == 61) (l := s.data.toList.drop 1)).length_le
        rw [List.length_drop] at h1
        unfold Lib.trimLeftB
        omega
      have HN := Lib.hid hn
      clear hn e1 e2 ht1 ht2 ht3 ht1' ht3'
      go_enter Tryz.func111, Tryz.ntmps111
      go_wp2_with fail
      refine (C1.out _).mono ?_; rintro e w' ⟨rfl, rfl⟩
      go_wp2_with fail
      refine (C2.out _).mono ?_; rintro e w' ⟨rfl, rfl⟩
      go_wp2_with fail
      refine (C3.out _).mono ?_; rintro e w' ⟨rfl, rfl⟩
      go_wp2_with fail
      go_ret
      exact ⟨ret_i64' (by rw [HN.out]; omega), rfl⟩
set_option maxHeartbeats 1000000 in
theorem begins_is (s : ByteArray) (r : Bool) (w : World) (hs : s.size ≤ 100000) (h : decide (0 < opn s.data.toList) = r) : Calls Tryz.prog 76 #[.string s] w fun e w' => e = .returned (.bool r) ∧ w = w' := by
  have C := Lib.hid (fun W => opening_any s W hs)
  generalize opn s.data.toList = n at *
  go_enter Tryz.func76, Tryz.ntmps76
  go_wp2_with (go_at_call 111; refine (C.out _).mono ?_; rintro e w' ⟨rfl, rfl⟩)
  go_ret
  exact ⟨rfl, rfl⟩
end Go.Proofs.YtfpeecjafccfjaaGreatDoor
namespace Go.Proofs.YtfpeecjafccfjaaGreatDoor
open Go.RowKit
theorem cut_room {l sep : List UInt8} {t r : List UInt8} (h : Lib.cut l sep = (t, r, true)) : t.length + sep.length ≤ l.length ∧ r = l.drop (t.length + sep.length) := by
  unfold Lib.cut at h
  by_cases h0 : 0 ≤ Lib.index l sep
  · rw [if_pos h0] at h
    injection h with h1 h2
    injection h2 with h2 _
    have hr := Lib.index_room l sep h0
    have hlen : t.length = (Lib.index l sep).toNat := by rw [← h1, List.length_take]; omega
    rw [hlen]
    exact ⟨by omega, h2.symm⟩
  · rw [if_neg h0] at h
    injection h with _ h2
    injection h2 with _ h3
    cases h3
def TextPost (b : Nat) (s : ByteArray) (k : Nat) (w : World) (o : Option (List UInt8 × List UInt8)) (e : Ending) (w' : World) : Prop :=
  Kp b w w' ∧ match o with
    | some (t, r) => ∃ k', e = .returned (.tuple #[.string ⟨t.toArray⟩, .bool true]) ∧ Rd w' b s k' ∧ sfx s k' = r ∧ k < k'
    | none => e = .returned (.tuple #[.string ⟨#[]⟩, .bool false])
theorem TextPost.some_of {b : Nat} {s : ByteArray} {k : Nat} {w w' : World} {t r : List UInt8} {e : Ending} (h : TextPost b s k w (some (t, r)) e w') : ∃ k', e = .returned (.tuple #[.string ⟨t.toArray⟩, .bool true]) ∧ Rd w' b s k' ∧ sfx s k' = r ∧ k < k' ∧ Kp b w w' := by
  obtain ⟨h0, k', h1, h2, h3, h4⟩ := h
  exact ⟨k', h1, h2, h3, h4, h0⟩
theorem TextPost.none_of {b : Nat} {s : ByteArray} {k : Nat} {w w' : World} {e : Ending} (h : TextPost b s k w none e w') : e = .returned (.tuple #[.string ⟨#[]⟩, .bool false]) ∧ Kp b w w' := ⟨h.2, h.1⟩
set_option maxHeartbeats 2000000 in
theorem bracketed_any (b : Nat) (s : ByteArray) (k : Nat) (w : World) (h : Rd w b s k) (hp : 0 < opn (sfx s k)) : Calls Tryz.prog 77 #[.pointer (some ⟨b, 0, none⟩)] w (TextPost b s k w (brk (sfx s k))) := by
  have htop := h.top
  have hle := h.le
  have HR := Lib.hid h
  clear h
  obtain ⟨n, hn⟩ : ∃ n : Nat, n = opn (sfx s k) := ⟨_, rfl⟩
  have hnl := opn_le (sfx s k)
  rw [← hn, sfx_len] at hnl
  rw [← hn] at hp
  have C1 := Lib.hid (fun W => opening_any (s.extract k s.size) W (by rw [rest_size s k hle]; omega))
  rw [sfx_rest, ← hn] at C1
  obtain ⟨cl, hcl⟩ : ∃ cl : ByteArray, cl = ⟨(clo (s.extract k (k + n)).data.toList).toArray⟩ := ⟨_, rfl⟩
  have C2 := Lib.hid (fun W hW => repl_call (s.extract k (k + n)) W (by rw [ByteArray.size_extract]; omega) hW)
  rw [← hcl] at C2
  have hb : brk (sfx s k) = if (Lib.cut (sfx s (k + n)) cl.data.toList).2.2 then some (Lib.trimPrefix (Lib.cut (sfx s (k + n)) cl.data.toList).1 [10], (Lib.cut (sfx s (k + n)) cl.data.toList).2.1) else none := by
    unfold brk
    rw [← hn, hcl, mk_list, sfx_take, sfx_drop]
  have C3 := Lib.hid (fun W hW => cut_call (s.extract (k + n) s.size) cl W (by rw [rest_size s _ (by omega)]; omega) hW)
  rw [sfx_rest] at C3
  obtain ⟨a, r, o, hq⟩ : ∃ a r o, Lib.cut (sfx s (k + n)) cl.data.toList = (a, r, o) := ⟨_, _, _, rfl⟩
  rw [hq] at C3 hb
  obtain ⟨A, hA⟩ : ∃ A : ByteArray, A = ⟨a.toArray⟩ := ⟨_, rfl⟩
  obtain ⟨R, hR⟩ : ∃ R : ByteArray, R = ⟨r.toArray⟩ := ⟨_, rfl⟩
  simp only [← hA, ← hR] at C3
  cases o
  · have HB := Lib.hid hb
    clear hn hcl hq hA hR hb
    go_enter Tryz.func77, Tryz.ntmps77
    go_wp2_with fail
    refine (rest_any _ _ _ _ HR.out).mono ?_; rintro e w1 ⟨rfl, r1, k1⟩
    have R1 := Lib.hid r1
    have K1 := Lib.hid k1
    clear r1 k1
    go_wp2_with fail
    refine (C1.out _).mono ?_; rintro e w1' ⟨rfl, rfl⟩
    go_wp2_with fail
    refine (take_any _ _ _ _ _ R1.out (by omega)).mono ?_; rintro e w2 ⟨rfl, r2, k2⟩
    have R2 := Lib.hid r2
    have K2 := Lib.hid (K1.out.trans k2)
    clear r2 k2
    go_wp2_with fail
    refine (C2.out _ R2.out.mx).mono ?_; rintro e w3 ⟨rfl, b3⟩
    have R3 := Lib.hid (R2.out.below b3)
    have K3 := Lib.hid (K2.out.trans (Kp.of_below b3))
    clear b3
    go_wp2_with fail
    refine (rest_any _ _ _ _ R3.out).mono ?_; rintro e w4 ⟨rfl, r4, k4⟩
    have R4 := Lib.hid r4
    have K4 := Lib.hid (K3.out.trans k4)
    clear r4 k4
    go_wp2_with fail
    refine (C3.out _ R4.out.mx).mono ?_; rintro e w5 ⟨rfl, n5, rfl⟩
    go_wp2_with fail
    go_ret2
    refine ⟨K4.out.draws _, ?_⟩
    rw [HB.out]
    rfl
  · obtain ⟨hroom, hr⟩ := cut_room hq
    rw [sfx_len, ← Lib.size_eq] at hroom
    rw [sfx_drop, ← Lib.size_eq] at hr
    have hAs : A.size = a.length := by rw [hA, mk_size]
    have C4 := Lib.hid (fun W => trimP_nl A W)
    rw [hA, mk_list, ← hA] at C4
    obtain ⟨T, hT⟩ : ∃ T : ByteArray, T = ⟨(Lib.trimPrefix a [10]).toArray⟩ := ⟨_, rfl⟩
    rw [← hT] at C4
    rw [← hAs] at hroom hr
    have HB := Lib.hid hb
    have HE := Lib.hid hr
    have HT := Lib.hid hT
    clear hn hcl hq hA hR hb hr hAs hT
    go_enter Tryz.func77, Tryz.ntmps77
    go_wp2_with fail
    refine (rest_any _ _ _ _ HR.out).mono ?_; rintro e w1 ⟨rfl, r1, k1⟩
    have R1 := Lib.hid r1
    have K1 := Lib.hid k1
    clear r1 k1
    go_wp2_with fail
    refine (C1.out _).mono ?_; rintro e w1' ⟨rfl, rfl⟩
    go_wp2_with fail
    refine (take_any _ _ _ _ _ R1.out (by omega)).mono ?_; rintro e w2 ⟨rfl, r2, k2⟩
    have R2 := Lib.hid r2
    have K2 := Lib.hid (K1.out.trans k2)
    clear r2 k2
    go_wp2_with fail
    refine (C2.out _ R2.out.mx).mono ?_; rintro e w3 ⟨rfl, b3⟩
    have R3 := Lib.hid (R2.out.below b3)
    have K3 := Lib.hid (K2.out.trans (Kp.of_below b3))
    clear b3
    go_wp2_with fail
    refine (rest_any _ _ _ _ R3.out).mono ?_; rintro e w4 ⟨rfl, r4, k4⟩
    have R4 := Lib.hid r4
    have K4 := Lib.hid (K3.out.trans k4)
    clear r4 k4
    go_wp2_with fail
    refine (C3.out _ R4.out.mx).mono ?_; rintro e w5 ⟨rfl, n5, rfl⟩
    have R5 := Lib.hid (R4.out.draws n5)
    have K5 := Lib.hid (K4.out.draws n5)
    generalize w4.drewN n5 = w5 at *
    have htake := fun W h => take_any b s (k + n) (A.size + cl.size) W h (by omega)
    rw [show ((A.size + cl.size : Nat) : Int) = (A.size : Int) + (cl.size : Int) by omega] at htake
    have C6 := Lib.hid htake
    clear htake
    go_wp2_with fail
    refine (C6.out _ R5.out).mono ?_; rintro e w6 ⟨rfl, r6, k6⟩
    have R6 := Lib.hid r6
    have K6 := Lib.hid (K5.out.trans k6)
    clear r6 k6
    go_wp2_with fail
    refine (C4.out _).mono ?_; rintro e w6' ⟨rfl, rfl⟩
    go_wp2_with fail
    go_ret2
    refine ⟨K6.out, ?_⟩
    rw [HB.out]
    exact ⟨_, by rw [HT.out]; rfl, R6.out, HE.out.symm, by omega⟩
end Go.Proofs.YtfpeecjafccfjaaGreatDoor
