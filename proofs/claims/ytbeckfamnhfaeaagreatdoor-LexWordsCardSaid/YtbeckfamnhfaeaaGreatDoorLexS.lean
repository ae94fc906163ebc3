/- Plain mathematics of tokens: what stands behind is an end of what stood ahead; lines never fall. -/
import Derived.Test.YtbeckfamnhfaeaaGreatDoorLexX
namespace Go.Proofs.YtbeckfamnhfaeaaGreatDoor

theorem nl_suffix {r l : List UInt8} (h : r <:+ l) : nl r ≤ nl l := h.sublist.count_le 10
theorem cut_suffix (l sep : List UInt8) (h : (Lib.cut l sep).2.2 = true) : (Lib.cut l sep).2.1 <:+ l := by
  unfold Lib.cut at h ⊢
  split
  · exact List.drop_suffix _ _
  · rename_i h0
    rw [if_neg h0] at h
    cases h
theorem brk_suffix {l t r : List UInt8} (h : brk l = some (t, r)) : r <:+ l := by
  unfold brk at h
  split at h
  · rename_i hc
    injection h with h
    injection h with _ h
    rw [← h]
    exact (cut_suffix _ _ hc).trans (List.drop_suffix _ _)
  · cases h
theorem comm_suffix {l r : List UInt8} (h : comm l = some r) : r <:+ l := by
  unfold comm at h
  split at h
  · cases e : brk l with
    | none => rw [e] at h; cases h
    | some z =>
      obtain ⟨t, r'⟩ := z
      rw [e] at h
      simp only [Option.map_some, Option.some.injEq] at h
      rw [← h]
      exact brk_suffix e
  · injection h with h
    rw [← h]
    exact List.drop_suffix _ _
theorem Skip.suffix {l : List UInt8} {q : Except (List UInt8) (List UInt8)} (h : Skip l q) : ∀ {r}, q = .ok r → r <:+ l := by
  induction h with
  | done h1 h2 => intro r e; cases e; rw [← h1]; exact List.dropWhile_suffix _
  | @more l r1 r' o h1 h2 h3 ih =>
    intro r e
    have a := ih e
    have b := comm_suffix h2
    have c : (45 :: 45 :: r1) <:+ l := by rw [← h1]; exact List.dropWhile_suffix _
    exact a.trans (b.trans (((List.suffix_cons 45 r1).trans (List.suffix_cons 45 _)).trans c))
  | bad => intro r e; cases e
theorem code_suffix {b : Int} {p : UInt8 → Bool} {least most : Nat} {l m r : List UInt8} (h : code b p least most l = some (m, r)) : r <:+ l := by
  unfold code at h
  split at h
  · injection h with h
    injection h with _ h
    rw [← h]
    exact List.drop_suffix _ _
  · cases h
theorem esc_suffix {l m r : List UInt8} (h : esc l = some (m, r)) : r <:+ l := by
  cases l with
  | nil => cases h
  | cons c t =>
    have h : escC c t = some (m, r) := h
    have ht := List.suffix_cons c t
    cases e : lett c with
    | some y =>
      rw [escC_lett _ e] at h
      injection h with h
      injection h with _ h
      rw [← h]
      exact ht
    | none =>
      cases e1 : selfB c
      · by_cases e2 : c.toNat = 122
        · rw [escC_z _ e e1 e2] at h
          injection h with h
          injection h with _ h
          rw [← h]
          exact (List.dropWhile_suffix _).trans ht
        · by_cases e3 : c.toNat = 120
          · rw [escC_x _ e e1 e3] at h
            exact (code_suffix h).trans ht
          · cases e4 : dgB c
            · rw [escC_no _ e e1 e2 e3 e4] at h
              cases h
            · rw [escC_d _ e e1 e2 e3 e4] at h
              exact code_suffix h
      · rw [escC_self _ e e1] at h
        injection h with h
        injection h with _ h
        rw [← h]
        exact ht
theorem Quo.suffix {q : UInt8} {l : List UInt8} {o : Option (List UInt8 × List UInt8)} (h : Quo q l o) : ∀ {t r}, o = some (t, r) → r <:+ l := by
  induction h with
  | shut => intro t r e; cases e; exact List.suffix_cons _ _
  | none => intro t r e; cases e
  | line => intro t r e; cases e
  | @esc r1 m r' o' h1 h2 h3 ih =>
    intro t r e
    cases o' with
    | none => cases e
    | some z =>
      obtain ⟨t', r''⟩ := z
      simp only [Option.map_some, Option.some.injEq, Prod.mk.injEq] at e
      rw [← e.2]
      exact ((ih rfl).trans (esc_suffix h2)).trans (List.suffix_cons _ _)
  | bad => intro t r e; cases e
  | @byte c r1 o' h1 h2 h3 h4 ih =>
    intro t r e
    cases o' with
    | none => cases e
    | some z =>
      obtain ⟨t', r''⟩ := z
      simp only [Option.map_some, Option.some.injEq, Prod.mk.injEq] at e
      rw [← e.2]
      exact (ih rfl).trans (List.suffix_cons _ _)
theorem Tok.suffix {l : List UInt8} {k n : Int} {s r : List UInt8} (h : Tok l (some (k, n, s, r))) : r <:+ l := by
  generalize ho : some (k, n, s, r) = o at h
  cases h with
  | eof => simp only [Option.some.injEq, Prod.mk.injEq] at ho; rw [ho.2.2.2]; exact List.suffix_refl _
  | name => simp only [Option.some.injEq, Prod.mk.injEq] at ho; rw [ho.2.2.2]; exact List.dropWhile_suffix _
  | num => simp only [Option.some.injEq, Prod.mk.injEq] at ho; rw [ho.2.2.2]; exact List.dropWhile_suffix _
  | numBad => cases ho
  | @text c t o' h1 h2 h3 h4 =>
    cases o' with
    | none => cases ho
    | some z =>
      obtain ⟨a, b⟩ := z
      simp only [Option.map_some, Option.some.injEq, Prod.mk.injEq] at ho
      rw [ho.2.2.2]
      exact (h4.suffix rfl).trans (List.suffix_cons _ _)
  | @long c t h1 h2 h3 h4 =>
    cases e : brk (c :: t) with
    | none => rw [e] at ho; cases ho
    | some z =>
      obtain ⟨a, b⟩ := z
      rw [e] at ho
      simp only [Option.map_some, Option.some.injEq, Prod.mk.injEq] at ho
      rw [ho.2.2.2]
      exact brk_suffix e
  | @sign c t h1 h2 h3 h4 =>
    cases e : Go.Proofs.YtbeckfamnhfaeaaGreatDoor.sign (c :: t) with
    | none => rw [e] at ho; cases ho
    | some z =>
      obtain ⟨a, b⟩ := z
      rw [e] at ho
      simp only [Option.map_some, Option.some.injEq, Prod.mk.injEq] at ho
      rw [ho.2.2.2]
      unfold Go.Proofs.YtbeckfamnhfaeaaGreatDoor.sign at e
      split at e
      · injection e with e; injection e with _ e; rw [← e]; exact List.drop_suffix _ _
      · split at e
        · injection e with e; injection e with _ e; rw [← e]; exact List.drop_suffix _ _
        · split at e
          · injection e with e; injection e with _ e; rw [← e]; exact List.drop_suffix _ _
          · cases e

/-- Lines never fall, from n on, up to M. -/
def Rising (M : Int) : Int → List Tk → Prop
  | _, [] => True
  | n, t :: ts => n ≤ t.2.1 ∧ t.2.1 ≤ M ∧ Rising M t.2.1 ts
theorem Rising.weak {M n n' : Int} {ts : List Tk} (h : Rising M n ts) (hn : n' ≤ n) : Rising M n' ts := by
  cases ts with
  | nil => trivial
  | cons t ts => exact ⟨by have := h.1; omega, h.2.1, h.2.2⟩
theorem LexR.rising {L : Int} {l : List UInt8} {q : Except Int (List Tk)} (h : LexR L l q) : ∀ {ts}, q = .ok ts → Rising L (L - nl l) ts := by
  induction h with
  | skipBad => intro ts e; cases e
  | tokBad => intro ts e; cases e
  | eof h1 => intro ts e; cases e; exact ⟨by show L - _ ≤ L; omega, Int.le_refl _, trivial⟩
  | @step l r r' s k n o' h1 h2 h3 h4 ih =>
    intro ts e
    cases o' with
    | error => cases e
    | ok ts' =>
      have e' : (k, L - nl r, n, s) :: ts' = ts := by injection e
      rw [← e']
      have a := nl_suffix (h1.suffix rfl)
      have b := nl_suffix h3.suffix
      exact ⟨by show L - (nl l : Int) ≤ L - (nl r : Int); omega, by show L - (nl r : Int) ≤ L; omega, (ih rfl).weak (by show L - (nl r : Int) ≤ L - (nl r' : Int); omega)⟩
theorem Rising.mem {M : Int} : ∀ {n : Int} {ts : List Tk}, Rising M n ts → ∀ t ∈ ts, n ≤ t.2.1 ∧ t.2.1 ≤ M
  | _, [], _, _, h => by cases h
  | n, t :: ts, h, x, hx => by
    rcases List.mem_cons.1 hx with rfl | hx
    · exact ⟨h.1, h.2.1⟩
    · have := Rising.mem h.2.2 x hx
      have := h.1
      omega
theorem Rising.drop {M : Int} : ∀ {n : Int} {ts : List Tk} (k : Nat), Rising M n ts → ∃ n', Rising M n' (ts.drop k) ∧ (k = 0 → n' = n) ∧ (∀ j t, k = j + 1 → ts[j]? = some t → n' = t.2.1)
  | n, ts, 0, h => ⟨n, h, fun _ => rfl, fun j t e => by omega⟩
  | n, [], k + 1, h => ⟨n, trivial, fun e => by omega, fun j t e ht => by simp at ht⟩
  | n, t :: ts, k + 1, h => by
    obtain ⟨n', h1, h2, h3⟩ := Rising.drop k h.2.2
    refine ⟨n', h1, fun e => by omega, fun j x e hx => ?_⟩
    cases j with
    | zero =>
      obtain rfl : t = x := by simpa using hx
      exact h2 (by omega)
    | succ j => exact h3 j x (by omega) (by simpa using hx)
end Go.Proofs.YtbeckfamnhfaeaaGreatDoor
