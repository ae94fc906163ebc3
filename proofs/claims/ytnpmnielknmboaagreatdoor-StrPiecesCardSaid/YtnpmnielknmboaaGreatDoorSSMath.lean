/- The plain mathematics of layer str: places, pieces, where a list stands in another one, copies, joined lists. No program is named. -/
import Derived.Lib.Index
import Derived.Lib.IndexMore
import Derived.Lib.Join
import Derived.Lib.Repeat
namespace Go.Proofs.YtnpmnielknmboaaGreatDoor
open Go.Lib

/-- The place that i counts as where a piece begins. -/
def fstP (i n : Int) : Int := max (if i < 0 then i + n + 1 else i) 1
/-- The place that j counts as where a piece ends. -/
def lstP (j n : Int) : Int := min (if j < 0 then j + n + 1 else j) n
theorem fst_ge (i n : Int) : 1 ≤ fstP i n := by unfold fstP; omega
theorem fst_pos {i n : Int} (h : 1 ≤ i) : fstP i n = i := by unfold fstP; rw [if_neg (by omega)]; omega
theorem lst_le (j n : Int) : lstP j n ≤ n := by unfold lstP; omega
theorem lst_one (n : Int) : lstP (-1) n = n := by unfold lstP; rw [if_pos (by omega)]; omega
theorem lst_pos {j n : Int} (h : 0 ≤ j) (h' : j ≤ n) : lstP j n = j := by unfold lstP; rw [if_neg (by omega)]; omega

/-- A piece of a list. -/
def subL (l : List UInt8) (i j : Int) : List UInt8 :=
  if lstP j l.length < fstP i l.length then [] else (l.take (lstP j l.length).toNat).drop (fstP i l.length - 1).toNat
theorem sub_len (l : List UInt8) (i j : Int) : (subL l i j).length ≤ l.length := by
  unfold subL
  split
  · simp
  · rw [List.length_drop, List.length_take]; omega
theorem sub_none {l : List UInt8} {i j : Int} (h : lstP j l.length < fstP i l.length) : subL l i j = [] := by unfold subL; rw [if_pos h]
theorem sub_some {l : List UInt8} {i j : Int} (h : ¬ lstP j l.length < fstP i l.length) : subL l i j = (l.take (lstP j l.length).toNat).drop (fstP i l.length - 1).toNat := by unfold subL; rw [if_neg h]
theorem sub_all (l : List UInt8) : subL l 1 (-1) = l := by
  by_cases h : lstP (-1) l.length < fstP 1 l.length
  · rw [sub_none h]
    rw [lst_one, fst_pos (by omega)] at h
    exact (List.eq_nil_of_length_eq_zero (by omega)).symm
  · rw [sub_some h, lst_one, fst_pos (by omega)]
    simp
theorem sub_head {l : List UInt8} {k : Nat} (h0 : 0 < k) (hk : k ≤ l.length) : subL l 1 k = l.take k := by
  rw [sub_some (by rw [lst_pos (by omega) (by omega), fst_pos (by omega)]; omega), lst_pos (by omega) (by omega), fst_pos (by omega)]
  simp
theorem sub_rest {l : List UInt8} {k : Nat} (hk : k ≤ l.length) : subL l ((k : Int) + 1) (-1) = l.drop k := by
  by_cases h : lstP (-1) l.length < fstP ((k : Int) + 1) l.length
  · rw [sub_none h]
    rw [lst_one, fst_pos (by omega)] at h
    rw [List.drop_eq_nil_of_le (by omega)]
  · rw [sub_some h, lst_one, fst_pos (by omega)]
    simp
/-- A piece that is told by its place and its length. -/
theorem sub_at {l what : List UInt8} {k : Nat} (ho : occAt l what k = true) (hw : 0 < what.length) : subL l ((k : Int) + 1) ((k : Int) + 1 + what.length - 1) = what := by
  have hr : k + what.length ≤ l.length := by
    rcases occAt_room ho with h | h
    · exact h
    · rw [h] at hw; simp at hw
  have e1 : fstP ((k : Int) + 1) l.length = (k : Int) + 1 := fst_pos (by omega)
  have e2 : lstP ((k : Int) + 1 + what.length - 1) l.length = ((k + what.length : Nat) : Int) := by rw [lst_pos (by omega) (by omega)]; omega
  rw [sub_some (by rw [e1, e2]; omega), e1, e2]
  rw [show ((k : Int) + 1 - 1).toNat = k from by omega, show (((k + what.length : Nat) : Int)).toNat = k + what.length from by omega]
  rw [List.drop_take, show k + what.length - k = what.length from by omega]
  rw [occAt_iff_take _ _ _ hr] at ho
  exact eq_of_beq ho

/-- Where what stands in l, from a place on; 0: nowhere. -/
def findL (l what : List UInt8) (i : Int) : Int :=
  if (l.length : Int) + 1 < fstP i l.length then 0
  else if index (l.drop (fstP i l.length - 1).toNat) what < 0 then 0
  else fstP i l.length + index (l.drop (fstP i l.length - 1).toNat) what
/-- Its last place. -/
def findE (l what : List UInt8) (i : Int) : Int := if findL l what i = 0 then 0 else findL l what i + what.length - 1
/-- Whether it stands there. -/
def findB (l what : List UInt8) (i : Int) : Bool := !(findL l what i == 0)
theorem find_ge (l what : List UInt8) (i : Int) : 0 ≤ findL l what i := by
  unfold findL
  have := fst_ge i l.length
  split
  · omega
  · split
    · omega
    · omega
theorem find_far {l what : List UInt8} {i : Int} (h : (l.length : Int) + 1 < fstP i l.length) : findL l what i = 0 := by unfold findL; rw [if_pos h]
theorem find_no {l what : List UInt8} {i : Int} (h : ¬ (l.length : Int) + 1 < fstP i l.length) (hn : index (l.drop (fstP i l.length - 1).toNat) what < 0) : findL l what i = 0 := by
  unfold findL; rw [if_neg h, if_pos hn]
theorem find_yes {l what : List UInt8} {i : Int} (h : ¬ (l.length : Int) + 1 < fstP i l.length) (hn : ¬ index (l.drop (fstP i l.length - 1).toNat) what < 0) :
    findL l what i = fstP i l.length + index (l.drop (fstP i l.length - 1).toNat) what := by
  unfold findL; rw [if_neg h, if_neg hn]
theorem occ_drop (l what : List UInt8) (k j : Nat) : occAt (l.drop k) what j = occAt l what (k + j) := by unfold occAt; rw [List.drop_drop]
/-- The first place from k on is p: found. -/
theorem find_first {l what : List UInt8} {i : Int} {p : Nat} (h : ¬ (l.length : Int) + 1 < fstP i l.length) (hp : fstP i l.length ≤ (p : Int) + 1) (hl : p ≤ l.length) (ho : occAt l what p = true)
    (hn : ∀ q : Nat, fstP i l.length ≤ (q : Int) + 1 → q < p → occAt l what q = false) : findL l what i = (p : Int) + 1 := by
  have hf := fst_ge i l.length
  have e : index (l.drop (fstP i l.length - 1).toNat) what = ((p - (fstP i l.length - 1).toNat : Nat) : Int) := by
    apply index_first
    · rw [List.length_drop]; omega
    · rw [occ_drop, show (fstP i l.length - 1).toNat + (p - (fstP i l.length - 1).toNat) = p from by omega]; exact ho
    · intro j hj
      rw [occ_drop]
      exact hn _ (by omega) (by omega)
  rw [find_yes h (by rw [e]; omega), e]
  omega
theorem find_none {l what : List UInt8} {i : Int} (h : ¬ (l.length : Int) + 1 < fstP i l.length) (hn : ∀ q : Nat, fstP i l.length ≤ (q : Int) + 1 → q ≤ l.length → occAt l what q = false) : findL l what i = 0 := by
  have hf := fst_ge i l.length
  refine find_no h ?_
  rw [index_none (fun j hj => ?_)]
  · omega
  · rw [occ_drop]
    rw [List.length_drop] at hj
    exact hn _ (by omega) (by omega)
/-- What is found: the place, what stands there, and nothing ahead of it. -/
theorem find_spec {l what : List UInt8} {i : Int} (h : findL l what i ≠ 0) :
    ∃ p : Nat, findL l what i = (p : Int) + 1 ∧ fstP i l.length ≤ (p : Int) + 1 ∧ p + what.length ≤ l.length ∧ occAt l what p = true ∧ ∀ q : Nat, fstP i l.length ≤ (q : Int) + 1 → q < p → occAt l what q = false := by
  have hf := fst_ge i l.length
  by_cases h1 : (l.length : Int) + 1 < fstP i l.length
  · exact absurd (find_far h1) h
  · rcases index_spec (l.drop (fstP i l.length - 1).toNat) what with ⟨e, _⟩ | ⟨k, e, hk, ho, hn⟩
    · exact absurd (find_no h1 (by rw [e]; omega)) h
    · have hr := index_room (l.drop (fstP i l.length - 1).toNat) what (by rw [e]; omega)
      rw [e, List.length_drop] at hr
      rw [occ_drop] at ho
      refine ⟨(fstP i l.length - 1).toNat + k, ?_, by omega, by omega, ho, ?_⟩
      · rw [find_yes h1 (by rw [e]; omega), e]; omega
      · intro q hq hqp
        have := hn (q - (fstP i l.length - 1).toNat) (by omega)
        rw [occ_drop, show (fstP i l.length - 1).toNat + (q - (fstP i l.length - 1).toNat) = q from by omega] at this
        exact this
/-- From any place up to the found one, the same is found. -/
theorem find_again {l what : List UInt8} {i : Int} {q : Int} (h : findL l what i ≠ 0) (h1 : fstP i l.length ≤ q) (h2 : q ≤ findL l what i) : findL l what q = findL l what i := by
  obtain ⟨p, e, hp, hr, ho, hn⟩ := find_spec h
  have hf := fst_ge i l.length
  rw [e] at h2 ⊢
  have eq : fstP q l.length = q := fst_pos (by omega)
  exact find_first (by rw [eq]; omega) (by rw [eq]; omega) (by omega) ho (fun r hr' hrp => hn r (by rw [eq] at hr'; omega) hrp)
/-- What stands at a place is found there. -/
theorem find_here {l what : List UInt8} {k : Nat} (hk : k ≤ l.length) (ho : occAt l what k = true) : findL l what ((k : Int) + 1) = (k : Int) + 1 := by
  have e : fstP ((k : Int) + 1) l.length = (k : Int) + 1 := fst_pos (by omega)
  exact find_first (by rw [e]; omega) (by rw [e]; omega) hk ho (fun q hq hqp => by rw [e] at hq; omega)

/-- A list so often, with another one between. -/
def repL (s b : List UInt8) (n : Int) : List UInt8 := if n ≤ 0 then [] else s ++ repeatL (b ++ s) (n - 1).toNat
/-- Whether that is too long. -/
def repB (ls lb : Nat) (n most : Int) : Bool := decide (1 ≤ n) && decide (max 0 most < (ls : Int) + (n - 1) * ((lb : Int) + ls))
theorem rep_nil {s b : List UInt8} {n : Int} (h : n ≤ 0) : repL s b n = [] := by unfold repL; rw [if_pos h]
theorem rep_nat (s b : List UInt8) (k : Nat) : repL s b ((k : Int) + 1) = s ++ repeatL (b ++ s) k := by
  unfold repL; rw [if_neg (by omega), show ((k : Int) + 1 - 1).toNat = k from by omega]
theorem rep_one (s b : List UInt8) : repL s b 1 = s := by
  have := rep_nat s b 0
  simp [repeatL] at this
  exact this
theorem repeat_snoc (l : List UInt8) : ∀ k, repeatL l (k + 1) = repeatL l k ++ l
  | 0 => by simp [repeatL]
  | k + 1 => by
    show l ++ repeatL l (k + 1) = (l ++ repeatL l k) ++ l
    rw [repeat_snoc l k, List.append_assoc]
theorem rep_succ (s b : List UInt8) (k : Nat) (h : 0 < k) : repL s b ((k : Int) + 1) = repL s b k ++ b ++ s := by
  obtain ⟨m, rfl⟩ : ∃ m, k = m + 1 := ⟨k - 1, by omega⟩
  rw [rep_nat, repeat_snoc]
  have := rep_nat s b m
  rw [show (((m + 1 : Nat) : Int)) = (m : Int) + 1 from by omega, this]
  simp [List.append_assoc]
theorem rep_length (s b : List UInt8) (k : Nat) : (repL s b ((k : Int) + 1)).length = s.length + k * (b.length + s.length) := by
  rw [rep_nat, List.length_append, repeatL_length, List.length_append]
theorem rep_empty {s b : List UInt8} (h : s.length + b.length = 0) (n : Int) : repL s b n = [] := by
  obtain rfl : s = [] := List.eq_nil_of_length_eq_zero (by omega)
  obtain rfl : b = [] := List.eq_nil_of_length_eq_zero (by omega)
  unfold repL
  split
  · rfl
  · generalize (n - 1).toNat = k
    induction k with
    | zero => rfl
    | succ k ih => simpa [repeatL] using ih

/-- Joined so far: the next one. -/
theorem join_next (xs : List (List UInt8)) (b : List UInt8) (k : Nat) (y : List UInt8) (h : xs[k]? = some y) :
    join (xs.take (k + 1)) b = join (xs.take k) b ++ (if k = 0 then [] else b) ++ y := by
  cases xs with
  | nil => simp at h
  | cons x r =>
    cases k with
    | zero =>
      simp at h
      subst h
      simp [join_one, join_nil]
    | succ k =>
      rw [List.take_succ_cons, List.take_succ_cons, join_cons, join_cons, joinTail_take_succ b r k y (by simpa using h)]
      simp
theorem join_take_le (xs : List (List UInt8)) (b : List UInt8) (k : Nat) : (join (xs.take k) b).length ≤ (join xs b).length := by
  cases xs with
  | nil => simp
  | cons x r =>
    cases k with
    | zero => simp [join_nil]
    | succ k =>
      rw [List.take_succ_cons, join_cons, join_cons, List.length_append, List.length_append]
      have := joinTail_take_le b r k
      omega
theorem join_bound (xs : List (List UInt8)) (b : List UInt8) (m : Nat) (hb : b.length ≤ m) (hx : ∀ x ∈ xs, x.length ≤ m) : ∀ k, (join (xs.take k) b).length ≤ k * (2 * m)
  | 0 => by simp [join_nil]
  | k + 1 => by
    have ih := join_bound xs b m hb hx k
    rcases Nat.lt_or_ge k xs.length with h | h
    · rw [join_next xs b k xs[k] (List.getElem?_eq_getElem h), List.length_append, List.length_append]
      have h1 := hx xs[k] (List.getElem_mem h)
      have h2 : (if k = 0 then ([] : List UInt8) else b).length ≤ m := by
        split
        · exact Nat.zero_le _
        · exact hb
      rw [Nat.succ_mul]
      omega
    · rw [List.take_of_length_le (by omega)]
      rw [List.take_of_length_le (by omega)] at ih
      rw [Nat.succ_mul]
      omega
/-- So often is joined so often. -/
theorem rep_join (s b : List UInt8) : ∀ k : Nat, join (List.replicate k s) b = repL s b k
  | 0 => by rw [rep_nil (by omega)]; rfl
  | 1 => by
    have := rep_one s b
    rw [show (((1 : Nat) : Int)) = 1 from rfl, this]
    exact join_one s b
  | k + 2 => by
    have ih := rep_join s b (k + 1)
    have hn := join_next (List.replicate (k + 2) s) b (k + 1) s (by rw [List.getElem?_replicate]; simp)
    rw [List.take_of_length_le (by simp), List.take_replicate, Nat.min_eq_left (by omega), ih, if_neg (by omega)] at hn
    rw [hn]
    have := rep_succ s b (k + 1) (by omega)
    rw [show (((k + 2 : Nat) : Int)) = ((k + 1 : Nat) : Int) + 1 from by omega, this]
/-- The place of the k-th one. -/
theorem join_occ (xs : List (List UInt8)) (b : List UInt8) (k : Nat) (y : List UInt8) (h : xs[k]? = some y) :
    occAt (join xs b) y ((join (xs.take k) b).length + (if k = 0 then 0 else b.length)) = true := by
  have h1 : ∃ t, join xs b = join (xs.take (k + 1)) b ++ t := by
    cases xs with
    | nil => simp at h
    | cons x r =>
      rw [List.take_succ_cons, join_cons, join_cons]
      refine ⟨joinTail b (r.drop k), ?_⟩
      rw [List.append_assoc]
      congr 1
      unfold joinTail
      rw [← List.flatten_append, ← List.map_append, List.take_append_drop]
  obtain ⟨t, ht⟩ := h1
  rw [join_next xs b k y h] at ht
  rw [ht]
  unfold occAt
  have e : (join (xs.take k) b).length + (if k = 0 then 0 else b.length) = (join (xs.take k) b ++ (if k = 0 then [] else b)).length := by
    rw [List.length_append]; split <;> simp
  rw [e, List.append_assoc, List.drop_left]
  exact List.isPrefixOf_iff_prefix.2 (List.prefix_append _ _)

/-- Small letters as capitals, and capitals as small letters. -/
def upC (c : UInt8) : UInt8 := if 97 ≤ c.toNat ∧ c.toNat ≤ 122 then c - 32 else c
def loC (c : UInt8) : UInt8 := if 65 ≤ c.toNat ∧ c.toNat ≤ 90 then c + 32 else c
theorem lo_up (c : UInt8) : loC (upC c) = loC c := by
  have : ∀ n : Fin 256, loC (upC (UInt8.ofNat n.val)) = loC (UInt8.ofNat n.val) := by decide +kernel
  have h := this ⟨c.toNat, c.toNat_lt⟩
  simpa using h
theorem up_lo (c : UInt8) : upC (loC c) = upC c := by
  have : ∀ n : Fin 256, upC (loC (UInt8.ofNat n.val)) = upC (UInt8.ofNat n.val) := by decide +kernel
  have h := this ⟨c.toNat, c.toNat_lt⟩
  simpa using h
end Go.Proofs.YtnpmnielknmboaaGreatDoor
