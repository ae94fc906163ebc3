/- Plain mathematics of tokens: texts and numbers that were written are read. -/
import Derived.Test.YtbeckfamnhfaeaaGreatDoorLexW
import Derived.Test.YtbeckfamnhfaeaaGreatDoorCMath4
import Derived.Lib.ItoaMem
namespace Go.Proofs.YtbeckfamnhfaeaaGreatDoor

/-! In quotes, byte by byte. -/
/-- A byte's number in three digits. -/
def d3 (c : UInt8) : List UInt8 := zers (3 - (Lib.itoa (c.toNat : Int)).length) (Lib.itoa (c.toNat : Int))
theorem d3_all : ∀ c : UInt8, (d3 c).length = 3 ∧ (d3 c).all dgB = true ∧ basO 10 (d3 c) = true ∧ basN 10 (d3 c) = (c.toNat : Int) ∧ (Lib.itoa (c.toNat : Int)).length ≤ 3 ∧ 1 ≤ (Lib.itoa (c.toNat : Int)).length := u8_all (by decide +kernel)
def escs (s : List UInt8) : List UInt8 := s.flatMap fun c => 92 :: d3 c
theorem dg_plain : ∀ c : UInt8, dgB c = true → lett c = none ∧ selfB c = false ∧ c.toNat ≠ 122 ∧ c.toNat ≠ 120 := u8_all (by decide +kernel)
theorem esc_d3 (c : UInt8) (r : List UInt8) : esc (d3 c ++ r) = some ([c], r) := by
  obtain ⟨h1, h2, h3, h4, _, _⟩ := d3_all c
  match e : d3 c, h1 with
  | [a, b, d], _ =>
    rw [e] at h2 h3 h4
    simp only [List.all_cons, List.all_nil, Bool.and_true, Bool.and_eq_true] at h2
    obtain ⟨ha, hb, hd⟩ := h2
    obtain ⟨p1, p2, p3, p4⟩ := dg_plain a ha
    have hesc : esc ([a, b, d] ++ r) = code 10 dgB 1 3 (a :: b :: d :: r) := (show esc (a :: (b :: d :: r)) = escC a (b :: d :: r) from rfl).trans (escC_d _ p1 p2 p3 p4 ha)
    rw [hesc]
    unfold code
    have hrun : min 3 (runN dgB (a :: b :: d :: r)) = 3 := by
      unfold runN
      rw [List.takeWhile_cons_of_pos ha, List.takeWhile_cons_of_pos hb, List.takeWhile_cons_of_pos hd]
      simp only [List.length_cons]
      omega
    rw [hrun, show List.take 3 (a :: b :: d :: r) = [a, b, d] from rfl, show List.drop 3 (a :: b :: d :: r) = r from rfl]
    rw [if_pos ⟨h3, by omega, by rw [h4]; have := c.toNat_lt; omega⟩, h4]
    simp
theorem quo_escs : ∀ s : List UInt8, Quo 34 (escs s ++ [34]) (some (s, []))
  | [] => .shut
  | c :: s => by
    have h := Quo.esc (q := 34) (r := d3 c ++ (escs s ++ [34])) (m := [c]) (r' := escs s ++ [34]) (by decide) (esc_d3 c _) (quo_escs s)
    have e : escs (c :: s) ++ [34] = 92 :: (d3 c ++ (escs s ++ [34])) := by simp [escs]
    rw [e]
    exact h
theorem escs_app (a b : List UInt8) : escs (a ++ b) = escs a ++ escs b := by simp [escs]
theorem escs_len (s : List UInt8) : (escs s).length = 4 * s.length := by
  induction s with
  | nil => rfl
  | cons c s ih =>
    have h : escs (c :: s) = 92 :: (d3 c ++ escs s) := by simp [escs]
    rw [h, List.length_cons, List.length_append, (d3_all c).1, ih, List.length_cons]
    omega
theorem text_pure (L : Int) (s : List UInt8) : ∃ l1 l2, LexR L (34 :: (escs s ++ [34])) (.ok [(4, l1, 0, s), (0, l2, 0, [])]) := by
  have ht := Tok.text (c := 34) (r := escs s ++ [34]) (by decide) (by decide) (by decide) (quo_escs s)
  have h := LexR.step (L := L) (skip_done' (l := 34 :: (escs s ++ [34])) (by rw [List.dropWhile_cons_of_neg (by decide)]) rfl) (by simp) ht (lex_eof L)
  exact ⟨_, _, h⟩

/-! In a long bracket. -/
/-- Rows of = in a text: none is longer than M; none at its end longer than n. -/
def Runs (l : List UInt8) (n M : Nat) : Prop := ∀ a m : Nat, a + m ≤ l.length → (∀ i, i < m → l[a + i]? = some 61) → m ≤ M ∧ (a + m = l.length → m ≤ n)
theorem Runs.nil : Runs [] 0 0 := fun a m h _ => by simp at h; omega
theorem Runs.eq {l : List UInt8} {n M : Nat} (h : Runs l n M) : Runs (l ++ [61]) (n + 1) (max M (n + 1)) := by
  intro a m hm hall
  rw [List.length_append, List.length_singleton] at hm
  by_cases h1 : a + m ≤ l.length
  · have := h a m h1 fun i hi => by
      have := hall i hi
      rwa [List.getElem?_append_left (by omega)] at this
    exact ⟨by have := this.1; omega, fun e => by rw [List.length_append, List.length_singleton] at e; omega⟩
  · by_cases hm0 : m = 0
    · subst hm0; exact ⟨by omega, fun _ => by omega⟩
    · have := (h a (m - 1) (by omega) fun i hi => by
        have := hall i (by omega)
        rwa [List.getElem?_append_left (by omega)] at this).2 (by omega)
      exact ⟨by omega, fun _ => by omega⟩
theorem Runs.other {l : List UInt8} {n M : Nat} {c : UInt8} (h : Runs l n M) (hc : c ≠ 61) : Runs (l ++ [c]) 0 (max M 0) := by
  intro a m hm hall
  rw [List.length_append, List.length_singleton] at hm
  by_cases h1 : a + m ≤ l.length
  · have := h a m h1 fun i hi => by
      have := hall i hi
      rwa [List.getElem?_append_left (by omega)] at this
    exact ⟨by have := this.1; omega, fun e => by rw [List.length_append, List.length_singleton] at e; omega⟩
  · by_cases hm0 : m = 0
    · subst hm0; exact ⟨by omega, fun _ => by omega⟩
    · have := hall (m - 1) (by omega)
      rw [List.getElem?_append_right (by omega), show a + (m - 1) - l.length = 0 by omega] at this
      simp at this
      exact absurd this hc
theorem idx_row (k : Nat) : Lib.indexByte (List.replicate k 61 ++ [91]) 91 = k := by
  induction k with
  | zero => rfl
  | succ k ih =>
    rw [List.replicate_succ, List.cons_append]
    unfold Lib.indexByte
    rw [ih]
    have e : ((k : Int) == -1) = false := by rw [beq_eq_false_iff_ne]; omega
    simp [e]
theorem clo_row (k : Nat) : clo (91 :: (List.replicate k 61 ++ [91])) = 93 :: (List.replicate k 61 ++ [93]) := by
  have i1 : Lib.index (91 :: (List.replicate k 61 ++ [91])) [91] = (0 : Nat) := by rw [Lib.index_one]; rfl
  have i2 : Lib.index (List.replicate k 61 ++ [91]) [91] = k := by rw [Lib.index_one, idx_row]
  have i3 : Lib.index [] [91] = -1 := rfl
  have e1 : (91 :: (List.replicate k 61 ++ [91]) : List UInt8).drop (0 + ([91] : List UInt8).length) = List.replicate k 61 ++ [91] := rfl
  have e2 : (List.replicate k 61 ++ [91] : List UInt8).drop (k + ([91] : List UInt8).length) = [] := List.drop_eq_nil_of_le (by simp)
  have c2 : Lib.count (List.replicate k 61 ++ [91]) [91] = 1 := by rw [Lib.count_hit (by simp) i2, e2, Lib.count_miss i3]
  have c1 : Lib.count (91 :: (List.replicate k 61 ++ [91])) [91] = 2 := by rw [Lib.count_hit (by simp) i1, e1, c2]
  unfold clo Lib.replaceAll Lib.replace
  rw [if_neg (by decide)]
  unfold Lib.replaceNum
  rw [if_pos (by omega), c1, Lib.replaceK_hit _ _ 1 _ 0 i1, e1, Lib.replaceK_hit _ _ 0 _ k i2, e2]
  have e3 : (List.replicate k 61 ++ [91] : List UInt8).take k = List.replicate k 61 := by
    rw [List.take_append_of_le_length (by simp), List.take_of_length_le (by simp)]
  rw [e3]
  simp [Lib.replaceK]
theorem occ_iff (s sub : List UInt8) (j : Nat) (h : Lib.occAt s sub j = true) : ∀ i, i < sub.length → s[j + i]? = sub[i]? := by
  intro i hi
  unfold Lib.occAt at h
  rw [List.isPrefixOf_iff_prefix] at h
  obtain ⟨t, ht⟩ := h
  have := congrArg (fun l => l[i]?) ht
  simp only [List.getElem?_drop] at this
  rw [← this, List.getElem?_append_left hi]
theorem cut_level {s : List UInt8} {n k : Nat} (h : Runs s n k) : Lib.cut (10 :: (s ++ (93 :: (List.replicate (k + 1) 61 ++ [93])))) (93 :: (List.replicate (k + 1) 61 ++ [93])) = (10 :: s, [], true) := by
  have hsl : (93 :: (List.replicate (k + 1) 61 ++ [93]) : List UInt8).length = k + 3 := by simp
  have hix : Lib.index (10 :: (s ++ (93 :: (List.replicate (k + 1) 61 ++ [93])))) (93 :: (List.replicate (k + 1) 61 ++ [93])) = ((s.length + 1 : Nat) : Int) := by
    refine Lib.index_first (by simp) ?_ ?_
    · unfold Lib.occAt
      rw [List.drop_succ_cons, List.drop_append_of_le_length (Nat.le_refl _), List.drop_length, List.nil_append]
      exact List.isPrefixOf_iff_prefix.2 (List.prefix_refl _)
    · intro j hj
      rw [Bool.eq_false_iff]
      intro ho
      have hat := occ_iff _ _ _ ho
      rw [hsl] at hat
      have h0 := hat 0 (by omega)
      have hj1 : 1 ≤ j := by
        rcases Nat.eq_zero_or_pos j with e | e
        · subst e; simp at h0
        · exact e
      -- what stands at a place of the text
      have at_s : ∀ p, p < s.length → (10 :: (s ++ (93 :: (List.replicate (k + 1) 61 ++ [93]))))[p + 1]? = s[p]? := fun p hp => by
        rw [List.getElem?_cons_succ, List.getElem?_append_left hp]
      have at_end : (10 :: (s ++ (93 :: (List.replicate (k + 1) 61 ++ [93]))))[s.length + 1]? = some 93 := by
        rw [List.getElem?_cons_succ, List.getElem?_append_right (Nat.le_refl _), Nat.sub_self]; rfl
      have row : ∀ i, i < k + 1 → (93 :: (List.replicate (k + 1) 61 ++ [93]) : List UInt8)[i + 1]? = some 61 := fun i hi => by
        rw [List.getElem?_cons_succ, List.getElem?_append_left (by simpa using hi), List.getElem?_replicate, if_pos hi]
      -- the row of = lies within s
      have hin : ∀ i, i < k + 1 → j + i + 1 < s.length + 1 := fun i => by
        induction i with
        | zero =>
          intro hi
          rcases Nat.lt_or_ge (j + 0 + 1) (s.length + 1) with g | g
          · exact g
          · exfalso
            have := hat (0 + 1) (by omega)
            rw [row 0 hi, show j + (0 + 1) = s.length + 1 by omega, at_end] at this
            cases this
        | succ i ih =>
          intro hi
          have := ih (by omega)
          rcases Nat.lt_or_ge (j + (i + 1) + 1) (s.length + 1) with g | g
          · exact g
          · exfalso
            have h2 := hat (i + 1 + 1) (by omega)
            rw [row (i + 1) hi, show j + (i + 1 + 1) = s.length + 1 by omega, at_end] at h2
            cases h2
      have hlast := hin k (by omega)
      have := (h j (k + 1) (by omega) fun i hi => by
        have h2 := hat (i + 1) (by omega)
        rw [row i hi, show j + (i + 1) = (j + i) + 1 by omega, at_s (j + i) (by have := hin i hi; omega)] at h2
        exact h2).1
      omega
  unfold Lib.cut
  rw [hix, if_pos (by omega)]
  have e : (((s.length + 1 : Nat) : Int)).toNat = s.length + 1 := by omega
  rw [e, hsl]
  have e1 : (10 :: (s ++ (93 :: (List.replicate (k + 1) 61 ++ [93])))).take (s.length + 1) = 10 :: s := by
    rw [List.take_succ_cons, List.take_append_of_le_length (Nat.le_refl _), List.take_length]
  have e2 : (10 :: (s ++ (93 :: (List.replicate (k + 1) 61 ++ [93])))).drop (s.length + 1 + (k + 3)) = [] := List.drop_eq_nil_of_le (by simp; omega)
  rw [e1, e2]
/-- A text in a long bracket of a level that it has not. -/
def longOf (k : Nat) (s : List UInt8) : List UInt8 := 91 :: (List.replicate (k + 1) 61 ++ (91 :: 10 :: (s ++ (93 :: (List.replicate (k + 1) 61 ++ [93])))))
theorem dw_row (k : Nat) (r : List UInt8) : (List.replicate k 61 ++ 91 :: r).dropWhile (fun x => x == 61) = 91 :: r := by
  induction k with
  | zero => rfl
  | succ k ih => rw [List.replicate_succ, List.cons_append, List.dropWhile_cons_of_pos (by rfl)]; exact ih
theorem long_opn (k : Nat) (s : List UInt8) : opn (longOf k s) = k + 3 := by
  unfold opn longOf
  rw [if_pos (by rfl), List.drop_succ_cons, List.drop_zero]
  unfold Lib.trimLeftB
  rw [dw_row, if_pos (by rfl)]
  simp
  omega
theorem long_pure (L : Int) {s : List UInt8} {n k : Nat} (h : Runs s n k) : ∃ l1 l2, LexR L (longOf k s) (.ok [(4, l1, 0, s), (0, l2, 0, [])]) := by
  have ho := long_opn k s
  have e0 : longOf k s = (91 :: (List.replicate (k + 1) 61 ++ [91])) ++ (10 :: (s ++ (93 :: (List.replicate (k + 1) 61 ++ [93])))) := by simp [longOf]
  have hl : (91 :: (List.replicate (k + 1) 61 ++ [91]) : List UInt8).length = k + 3 := by simp
  have ht : (longOf k s).take (k + 3) = 91 :: (List.replicate (k + 1) 61 ++ [91]) := by rw [e0, List.take_append_of_le_length (by omega), List.take_of_length_le (by omega)]
  have hd : (longOf k s).drop (k + 3) = 10 :: (s ++ (93 :: (List.replicate (k + 1) 61 ++ [93]))) := by
    rw [e0, List.drop_append_of_le_length (by omega), List.drop_eq_nil_of_le (by omega), List.nil_append]
  have hb : brk (longOf k s) = some (s, []) := by
    unfold brk
    rw [ho, ht, hd, clo_row, cut_level h]
    rfl
  have hcons : longOf k s = 91 :: (List.replicate (k + 1) 61 ++ (91 :: 10 :: (s ++ (93 :: (List.replicate (k + 1) 61 ++ [93]))))) := rfl
  have htok : Tok (longOf k s) (some (4, 0, s, [])) := by
    have := Tok.long (c := 91) (r := List.replicate (k + 1) 61 ++ (91 :: 10 :: (s ++ (93 :: (List.replicate (k + 1) 61 ++ [93]))))) (by decide) (by decide) (by decide) (by rw [← hcons, ho]; omega)
    rw [← hcons, hb] at this
    exact this
  have h := LexR.step (L := L) (skip_done' (l := longOf k s) (by rw [hcons, List.dropWhile_cons_of_neg (by decide)]) rfl) (by rw [hcons]; simp) htok (lex_eof L)
  exact ⟨_, _, h⟩

/-! A number. -/
theorem num_pure (L : Int) (n : Int) (h0 : 0 ≤ n) (h1 : n ≤ 9223372036854775807) : ∃ l1 l2, LexR L (Lib.itoa n) (.ok [(3, l1, n, []), (0, l2, 0, [])]) := by
  obtain ⟨r1, r2, _, _⟩ := zers_read n 0 h0 h1
  rw [show zers 0 (Lib.itoa n) = Lib.itoa n from rfl] at r1 r2
  have ei : Lib.itoa n = Lib.decDigits n.toNat := by unfold Lib.itoa; rw [if_neg (by omega)]
  have hne : Lib.itoa n ≠ [] := by rw [ei]; exact dec_some _
  have hdg : ∀ c ∈ Lib.itoa n, dgB c = true := by
    intro c hc
    rw [ei] at hc
    have := dg10 (allD_mem (allD_dec n.toNat n.toNat (Nat.le_refl _)) hc)
    unfold dgB
    exact decide_eq_true this
  have hnu : ∀ c ∈ Lib.itoa n, nuB c = true := fun c hc => by unfold nuB nmB; rw [hdg c hc]; simp
  obtain ⟨w1, w2⟩ := tw_every hnu
  cases e : Lib.itoa n with
  | nil => exact absurd e hne
  | cons c t =>
    have hc : dgB c = true := hdg c (by rw [e]; exact List.mem_cons_self)
    have hlt : ltB c = false := by
      revert hc
      exact u8_all (P := fun c => dgB c = true → ltB c = false) (by decide +kernel) c
    rw [e] at r1 r2 w1 w2
    have ht := Tok.num (c := c) (r := t) hlt hc (by rw [w1]; exact r2)
    rw [w1, w2, r1] at ht
    have h := LexR.step (L := L) (skip_name (s := t) (by unfold nmB; rw [hc]; simp)) (by simp) ht (lex_eof L)
    exact ⟨_, _, h⟩
end Go.Proofs.YtbeckfamnhfaeaaGreatDoor
