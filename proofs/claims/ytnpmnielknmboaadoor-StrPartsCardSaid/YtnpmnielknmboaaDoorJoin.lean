/- str.Join and the document's: strings with another one between, or too long. -/
import Derived.Test.YtnpmnielknmboaaDoorRep
namespace Go.Proofs.YtnpmnielknmboaaDoor
open Go.RowKit Go.Sort

/-- A slice of strings that reads as xs. -/
def Strs (W : World) (v : Value) (xs : List ByteArray) : Prop :=
  (∃ A c, v = .slice A 0 c ∧ xs = []) ∨
  ∃ bk o c, v = .slice (some ⟨bk, o, none⟩) xs.length c ∧ 0 < xs.length ∧ bk < W.heap.size ∧ xs.length ≤ c ∧ ∀ (j : Nat) x, xs[j]? = some x → W.cell? ⟨bk, o + j, none⟩ = some (.string x)
theorem Strs.below {W W' : World} {v : Value} {xs : List ByteArray} (h : Strs W v xs) (hb : Below W.heap.size W W') : Strs W' v xs := by
  rcases h with h | ⟨bk, o, c, rfl, h0, hbk, hc, hx⟩
  · exact .inl h
  · exact .inr ⟨bk, o, c, rfl, h0, Nat.lt_of_lt_of_le hbk hb.size, hc, fun j x hj => (hb.cell (p := ⟨bk, o + j, none⟩) hbk).trans (hx j x hj)⟩

/-- The strings as lists. -/
def lists (xs : List ByteArray) : List (List UInt8) := xs.map (·.data.toList)
theorem lists_len (xs : List ByteArray) : (lists xs).length = xs.length := by simp [lists]
theorem lists_at {xs : List ByteArray} {k : Nat} {x : ByteArray} (h : xs[k]? = some x) : (lists xs)[k]? = some x.data.toList := by simp [lists, h]
theorem lists_le {xs : List ByteArray} {m : Nat} (h : ∀ x ∈ xs, x.size ≤ m) : ∀ y ∈ lists xs, y.length ≤ m := by
  intro y hy
  obtain ⟨x, hx, rfl⟩ := List.mem_map.1 hy
  rw [← Lib.size_eq]
  exact h x hx

/-- What Join answers. -/
def joiB (xs : List ByteArray) (b : ByteArray) (most : Int) : Bool := decide (max 0 most < (Lib.join (lists xs) b.data.toList).length)
def joiS (xs : List ByteArray) (b : ByteArray) (most : Int) : List UInt8 := if joiB xs b most then [] else Lib.join (lists xs) b.data.toList
def joiN (xs : List ByteArray) (b : ByteArray) (most : Int) : Int := if joiB xs b most then 3 else 0
theorem joi_no {xs : List ByteArray} {b : ByteArray} {most : Int} (h : ((Lib.join (lists xs) b.data.toList).length : Int) ≤ max 0 most) : joiS xs b most = Lib.join (lists xs) b.data.toList ∧ joiN xs b most = 0 := by
  unfold joiS joiN joiB
  rw [decide_eq_false (by omega)]
  exact ⟨rfl, rfl⟩
theorem joi_yes {xs : List ByteArray} {b : ByteArray} {most : Int} (h : max 0 most < ((Lib.join (lists xs) b.data.toList).length : Int)) : joiS xs b most = [] ∧ joiN xs b most = 3 := by
  unfold joiS joiN joiB
  rw [decide_eq_true h]
  exact ⟨rfl, rfl⟩

set_option maxHeartbeats 1000000 in
theorem join_none (A : Option Addr) (c : Nat) (b : ByteArray) (most : Int) (w : World) (hm : most ≤ 2147483647) :
    Calls Tryd.prog 10 #[.slice A 0 c, .string b, .int .i64 most] w fun e w' => e = .returned (.tuple #[.string ⟨(joiS [] b most).toArray⟩, .int .i64 (joiN [] b most)]) ∧ Below w.heap.size w w' := by
  have HR := Lib.hid (joi_no (xs := []) (b := b) (most := most) (by show ((0 : Nat) : Int) ≤ _; omega))
  go_enter Tryd.func10, Tryd.ntmps10
  go_wp2_with (go_at_call 21; refine (bound_any most _ hm).mono ?_; rintro e w' ⟨rfl, rfl⟩)
  go_loop [8, 15] (fun n i => n = .int .i64 0 ∧ i = .int .i64 0) (fun _ _ => 0)
  case atStart => exact ⟨rfl, rfl⟩
  case round =>
    obtain ⟨rfl, rfl⟩ := hrel
    go_wp2_with (go_at_call 23; refine (Tryd.strings_Join_none _ _ _ _).mono ?_; rintro e w' ⟨rfl, rfl⟩)
    go_ret2
    exact ⟨ret_si (by rw [HR.out.1]; rfl) HR.out.2.symm, below2 _ _⟩

theorem join_far (xs : List ByteArray) (b : ByteArray) (hb : b.size ≤ 3000) (hx : ∀ x ∈ xs, x.size ≤ 3000) (hl : xs.length ≤ 100) (k : Nat) (hk : k ≤ xs.length) : (Lib.join ((lists xs).take k) b.data.toList).length ≤ 600000 := by
  refine Nat.le_trans (join_bound (lists xs) b.data.toList 3000 (by rw [← Lib.size_eq]; exact hb) (lists_le hx) k) ?_
  omega
theorem join_all (xs : List ByteArray) (b : ByteArray) (k : Nat) (hk : xs.length ≤ k) : Lib.join ((lists xs).take k) b.data.toList = Lib.join (lists xs) b.data.toList := by
  rw [List.take_of_length_le (by rw [lists_len]; exact hk)]

set_option maxHeartbeats 4000000 in
set_option maxRecDepth 100000 in
theorem join_some (bk o c : Nat) (xs : List ByteArray) (b : ByteArray) (most : Int) (w : World) (hm : most ≤ 2147483647) (h0 : 0 < xs.length) (hbk : bk < w.heap.size) (hc : xs.length ≤ c)
    (hx : ∀ (j : Nat) x, xs[j]? = some x → w.cell? ⟨bk, o + j, none⟩ = some (.string x)) (hb : b.size ≤ 3000) (hs : ∀ x ∈ xs, x.size ≤ 3000) (hl : xs.length ≤ 100) :
    Calls Tryd.prog 10 #[.slice (some ⟨bk, o, none⟩) xs.length c, .string b, .int .i64 most] w fun e w' => e = .returned (.tuple #[.string ⟨(joiS xs b most).toArray⟩, .int .i64 (joiN xs b most)]) ∧ Below w.heap.size w w' := by
  obtain ⟨M, hM, hM0, hM1⟩ : ∃ M : Int, M = max 0 most ∧ 0 ≤ M ∧ M ≤ 2147483647 := ⟨_, rfl, by omega, by omega⟩
  have HBd := Lib.hid (fun W => hM ▸ bound_any most W hm)
  have HM := Lib.hid hM
  have HX := Lib.hid hx
  have HF := Lib.hid (join_far xs b hb hs hl)
  have HS := Lib.hid hs
  clear hM hx hs
  go_enter Tryd.func10, Tryd.ntmps10
  go_wp2_with (go_at_call 21; refine (HBd.out _).mono ?_; rintro e w' ⟨rfl, rfl⟩)
  go_loop [8, 15] (fun n i => ∃ k : Nat, k ≤ xs.length ∧ i = .int .i64 k ∧ n = .int .i64 ((Lib.join ((lists xs).take k) b.data.toList).length : Int) ∧ ((Lib.join ((lists xs).take k) b.data.toList).length : Int) ≤ M) (fun _ i => xs.length - (intOf i).toNat)
  case atStart => exact ⟨0, Nat.zero_le _, rfl, rfl, by show ((0 : Nat) : Int) ≤ _; omega⟩
  case round =>
    obtain ⟨k, hk, rfl, rfl, hle⟩ := hrel
    by_cases hlt : k < xs.length
    · obtain ⟨x, hxk⟩ : ∃ x, xs[k]? = some x := ⟨xs[k], List.getElem?_eq_getElem hlt⟩
      have hcell := HX.out k x hxk
      have hxs : x.size ≤ 3000 := HS.out x (List.mem_of_getElem? hxk)
      have hn := congrArg List.length (join_next (lists xs) b.data.toList k _ (lists_at hxk))
      rw [List.length_append, List.length_append, ← Lib.size_eq x] at hn
      have h1 := HF.out k hk
      have h2 := HF.out (k + 1) hlt
      obtain ⟨n0, e0⟩ : ∃ n0 : Nat, n0 = (Lib.join ((lists xs).take k) b.data.toList).length := ⟨_, rfl⟩
      obtain ⟨n1, e1⟩ : ∃ n1 : Nat, n1 = (Lib.join ((lists xs).take (k + 1)) b.data.toList).length := ⟨_, rfl⟩
      rw [← e0] at hn hle h1
      rw [← e1] at hn h2
      rw [← e0]
      have E1 := Lib.hid e1
      have hmax := join_take_le (lists xs) b.data.toList (k + 1)
      rw [← e1] at hmax
      have HMX := Lib.hid hmax
      have HXK := Lib.hid hxk
      clear e0 e1 hmax hxk
      rcases Nat.eq_zero_or_pos k with hk0 | hk0
      · have hn' : n1 = n0 + x.size := by rw [hn, if_pos hk0]; simp
        have HN := Lib.hid hn'
        have hg : decide (0 < k) = false := decide_eq_false (by omega)
        have hk0' := Lib.hid hk0
        have hw : (n0 : Int) + (x.size : Int) = (n1 : Int) := by omega
        clear hn hn' hk0
        by_cases hbig : M < (n1 : Int)
        · have HR := Lib.hid (joi_yes (xs := xs) (b := b) (most := most) (by rw [← HM.out]; exact Int.lt_of_lt_of_le hbig (by have := HMX.out; omega)))
          go_wp2
          go_ret2
          exact ⟨ret_si (by rw [HR.out.1]) HR.out.2.symm, below2 _ _⟩
        · go_wp2
          go_round
          case rel => exact ⟨k + 1, by omega, by go_num, by rw [← E1.out], by rw [← E1.out]; omega⟩
          case measure => simp [intOf]; omega
      · have hn' : n1 = n0 + b.size + x.size := by rw [hn, if_neg (by omega), ← Lib.size_eq]
        have HN := Lib.hid hn'
        have hg : decide (0 < k) = true := decide_eq_true (by omega)
        have hw : (n0 : Int) + (b.size : Int) + (x.size : Int) = (n1 : Int) := by omega
        clear hn hn'
        by_cases hbig : M < (n1 : Int)
        · have HR := Lib.hid (joi_yes (xs := xs) (b := b) (most := most) (by rw [← HM.out]; exact Int.lt_of_lt_of_le hbig (by have := HMX.out; omega)))
          go_wp2
          go_ret2
          exact ⟨ret_si (by rw [HR.out.1]) HR.out.2.symm, below2 _ _⟩
        · go_wp2
          go_round
          case rel => exact ⟨k + 1, by omega, by go_num, by rw [← E1.out], by rw [← E1.out]; omega⟩
          case measure => simp [intOf]; omega
    · have hall := join_all xs b k (by omega)
      have HR := Lib.hid (joi_no (xs := xs) (b := b) (most := most) (by rw [← HM.out, ← hall]; exact hle))
      have h1 := HF.out k hk
      have HJ := Lib.hid (fun W hW hc' => Tryd.strings_Join bk o c xs b W hW hc' (by omega) hc (by show (Lib.join (lists xs) b.data.toList).length ≤ _; rw [← hall]; omega))
      clear hall hle
      go_wp2_with fail
      refine (HJ.out _ HX.out hbk).mono ?_; rintro e w1 ⟨rfl, b1⟩
      go_wp2_with fail
      go_ret2
      exact ⟨ret_si (by rw [HR.out.1]; rfl) HR.out.2.symm, b1⟩
theorem join_any (v : Value) (xs : List ByteArray) (b : ByteArray) (most : Int) (w : World) (hv : Strs w v xs) (hm : most ≤ 2147483647) (hb : b.size ≤ 3000) (hs : ∀ x ∈ xs, x.size ≤ 3000) (hl : xs.length ≤ 100) :
    Calls Tryd.prog 10 #[v, .string b, .int .i64 most] w fun e w' => e = .returned (.tuple #[.string ⟨(joiS xs b most).toArray⟩, .int .i64 (joiN xs b most)]) ∧ Below w.heap.size w w' := by
  rcases hv with ⟨A, c, rfl, rfl⟩ | ⟨bk, o, c, rfl, h0, hbk, hc, hx⟩
  · exact join_none A c b most w hm
  · exact join_some bk o c xs b most w hm h0 hbk hc hx hb hs hl

set_option maxHeartbeats 1000000 in
theorem rjoin_none (A : Option Addr) (c : Nat) (b : ByteArray) (most : Int) (w : World) :
    Calls Tryd.prog 11 #[.slice A 0 c, .string b, .int .i64 most] w fun e w' => e = .returned (.tuple #[.string ⟨(joiS [] b most).toArray⟩, .int .i64 (joiN [] b most)]) ∧ Below w.heap.size w w' := by
  have HR := Lib.hid (joi_no (xs := []) (b := b) (most := most) (by show ((0 : Nat) : Int) ≤ _; omega))
  have hcv := buf_string (BBuf.nil w 0)
  rcases Int.lt_or_le 0 most with hp | hp
  all_goals
    go_enter Tryd.func11, Tryd.ntmps11
    go_wp2
    go_loop [8, 15] (fun n i => n = .slice none 0 0 ∧ i = .int .i64 0) (fun _ _ => 0)
    case atStart => exact ⟨rfl, rfl⟩
    case round =>
      obtain ⟨rfl, rfl⟩ := hrel
      go_wp2
      go_ret2
      exact ⟨ret_si (by rw [HR.out.1]; rfl) HR.out.2.symm, below2 _ _⟩

set_option maxHeartbeats 4000000 in
set_option maxRecDepth 100000 in
theorem rjoin_some (bk o c : Nat) (xs : List ByteArray) (b : ByteArray) (most : Int) (w : World) (hm : most ≤ 2147483647) (hbk : bk < w.heap.size)
    (hx : ∀ (j : Nat) x, xs[j]? = some x → w.cell? ⟨bk, o + j, none⟩ = some (.string x)) (hb : b.size ≤ 3000) (hs : ∀ x ∈ xs, x.size ≤ 3000) (hl : xs.length ≤ 100) :
    Calls Tryd.prog 11 #[.slice (some ⟨bk, o, none⟩) xs.length c, .string b, .int .i64 most] w fun e w' => e = .returned (.tuple #[.string ⟨(joiS xs b most).toArray⟩, .int .i64 (joiN xs b most)]) ∧ Below w.heap.size w w' := by
  obtain ⟨M, hM, hM0, hM1⟩ : ∃ M : Int, M = max 0 most ∧ 0 ≤ M ∧ M ≤ 2147483647 := ⟨_, rfl, by omega, by omega⟩
  have HM := Lib.hid hM
  have HX := Lib.hid hx
  have HF := Lib.hid (join_far xs b hb hs hl)
  have HS := Lib.hid hs
  clear hM hx hs
  rcases Int.lt_or_le 0 most with hp | hp
  · obtain rfl : most = M := by have := HM.out; omega
    go_enter Tryd.func11, Tryd.ntmps11
    go_wp2
    go_loopw [8, 15] (fun n i wr => ∃ k : Nat, k ≤ xs.length ∧ i = .int .i64 k ∧ BBuf wr w.heap.size n (Lib.join ((lists xs).take k) b.data.toList) ∧ Below w.heap.size w wr ∧ ((Lib.join ((lists xs).take k) b.data.toList).length : Int) ≤ most) (fun _ i _ => xs.length - (intOf i).toNat)
    case atStart => exact ⟨0, Nat.zero_le _, rfl, BBuf.nil _ _, below2 _ _, by show ((0 : Nat) : Int) ≤ _; omega⟩
    case round =>
      obtain ⟨k, hk, rfl, hbuf, hbel, hle⟩ := hrel
      have HB := Lib.hid hbuf
      have HW := Lib.hid hbel
      have hsz := hbel.size
      by_cases hlt : k < xs.length
      · obtain ⟨x, hxk⟩ : ∃ x, xs[k]? = some x := ⟨xs[k], List.getElem?_eq_getElem hlt⟩
        have hcell := (hbel.cell (p := ⟨bk, o + k, none⟩) hbk).trans (HX.out k x hxk)
        have hxs : x.size ≤ 3000 := HS.out x (List.mem_of_getElem? hxk)
        have HN := Lib.hid (join_next (lists xs) b.data.toList k _ (lists_at hxk))
        have h1 := HF.out k hk
        have hmax := Lib.hid (join_take_le (lists xs) b.data.toList (k + 1))
        clear hbuf hbel hxk
        rcases Nat.eq_zero_or_pos k with hk0 | hk0
        · have hg : decide (0 < k) = false := decide_eq_false (by omega)
          have hn := HN.out
          rw [if_pos hk0, List.append_nil] at hn
          have HN' := Lib.hid hn
          have hn1 := congrArg List.length hn
          obtain ⟨n1, e1⟩ : ∃ n1 : Nat, n1 = (Lib.join ((lists xs).take (k + 1)) b.data.toList).length := ⟨_, rfl⟩
          have E1 := Lib.hid e1
          rw [List.length_append, ← Lib.size_eq x] at hn1
          clear hn hk0
          go_wp2_with (at_builtin; refine at_append _ rfl _ _ rfl w.heap.size _ _ rfl HB.out x rfl (by omega) hsz ?_; intro v1 w1 hb1 hw1; rw [← HN'.out] at hb1; obtain ⟨A1, c1, rfl⟩ := hb1.form; rw [← E1.out] at hb1 ⊢; have HB1 := Lib.hid hb1; have HW1 := Lib.hid hw1; clear hb1 hw1 hn1 e1 h1)
          · have HR := Lib.hid (joi_yes (xs := xs) (b := b) (most := most) (by rw [← HM.out]; have := hmax.out; have := E1.out; omega))
            go_ret2
            exact ⟨ret_si (by rw [HR.out.1]) HR.out.2.symm, HW.out.trans HW1.out⟩
          · go_roundw
            case rel => exact ⟨k + 1, by omega, by go_num, HB1.out, HW.out.trans HW1.out, by rw [← E1.out]; omega⟩
            case measure => simp [intOf]; omega
        · have hg : decide (0 < k) = true := decide_eq_true (by omega)
          have hn := HN.out
          rw [if_neg (by omega)] at hn
          have HN' := Lib.hid hn
          have hn1 := congrArg List.length hn
          obtain ⟨n1, e1⟩ : ∃ n1 : Nat, n1 = (Lib.join ((lists xs).take (k + 1)) b.data.toList).length := ⟨_, rfl⟩
          have E1 := Lib.hid e1
          rw [List.length_append, List.length_append, ← Lib.size_eq x, ← Lib.size_eq b] at hn1
          clear hn
          go_wp2_with (first
            | (at_builtin; refine at_append _ rfl _ _ rfl w.heap.size _ _ rfl HB.out b rfl (by omega) hsz ?_; intro v0 w0 hb0 hw0; have HB0 := Lib.hid hb0; have HW0 := Lib.hid hw0; have hsz0 := Nat.le_trans hsz hw0.size; clear hb0 hw0)
            | (at_builtin; refine at_append _ rfl _ _ rfl w.heap.size _ _ rfl HB0.out x rfl (by rw [List.length_append, ← Lib.size_eq b]; omega) hsz0 ?_; intro v1 w1 hb1 hw1; rw [← HN'.out] at hb1; obtain ⟨A1, c1, rfl⟩ := hb1.form; rw [← E1.out] at hb1 ⊢; have HB1 := Lib.hid hb1; have HW1 := Lib.hid hw1; clear hb1 hw1 hn1 e1 h1))
          · have HR := Lib.hid (joi_yes (xs := xs) (b := b) (most := most) (by rw [← HM.out]; have := hmax.out; have := E1.out; omega))
            go_ret2
            exact ⟨ret_si (by rw [HR.out.1]) HR.out.2.symm, (HW.out.trans HW0.out).trans HW1.out⟩
          · go_roundw
            case rel => exact ⟨k + 1, by omega, by go_num, HB1.out, (HW.out.trans HW0.out).trans HW1.out, by rw [← E1.out]; omega⟩
            case measure => simp [intOf]; omega
      · have hall := join_all xs b k (by omega)
        have HR := Lib.hid (joi_no (xs := xs) (b := b) (most := most) (by rw [← HM.out, ← hall]; exact hle))
        have hcv := buf_string HB.out
        have HA := Lib.hid hall
        clear hall hle hbuf hbel
        go_wp2
        go_ret2
        exact ⟨ret_si (by rw [HR.out.1, HA.out]) HR.out.2.symm, HW.out⟩
  · obtain rfl : (0 : Int) = M := by have := HM.out; omega
    go_enter Tryd.func11, Tryd.ntmps11
    go_wp2
    go_loopw [8, 15] (fun n i wr => ∃ k : Nat, k ≤ xs.length ∧ i = .int .i64 k ∧ BBuf wr w.heap.size n (Lib.join ((lists xs).take k) b.data.toList) ∧ Below w.heap.size w wr ∧ ((Lib.join ((lists xs).take k) b.data.toList).length : Int) ≤ 0) (fun _ i _ => xs.length - (intOf i).toNat)
    case atStart => exact ⟨0, Nat.zero_le _, rfl, BBuf.nil _ _, below2 _ _, by show ((0 : Nat) : Int) ≤ _; omega⟩
    case round =>
      obtain ⟨k, hk, rfl, hbuf, hbel, hle⟩ := hrel
      have HB := Lib.hid hbuf
      have HW := Lib.hid hbel
      have hsz := hbel.size
      by_cases hlt : k < xs.length
      · obtain ⟨x, hxk⟩ : ∃ x, xs[k]? = some x := ⟨xs[k], List.getElem?_eq_getElem hlt⟩
        have hcell := (hbel.cell (p := ⟨bk, o + k, none⟩) hbk).trans (HX.out k x hxk)
        have hxs : x.size ≤ 3000 := HS.out x (List.mem_of_getElem? hxk)
        have HN := Lib.hid (join_next (lists xs) b.data.toList k _ (lists_at hxk))
        have h1 := HF.out k hk
        have hmax := Lib.hid (join_take_le (lists xs) b.data.toList (k + 1))
        clear hbuf hbel hxk
        rcases Nat.eq_zero_or_pos k with hk0 | hk0
        · have hg : decide (0 < k) = false := decide_eq_false (by omega)
          have hn := HN.out
          rw [if_pos hk0, List.append_nil] at hn
          have HN' := Lib.hid hn
          have hn1 := congrArg List.length hn
          obtain ⟨n1, e1⟩ : ∃ n1 : Nat, n1 = (Lib.join ((lists xs).take (k + 1)) b.data.toList).length := ⟨_, rfl⟩
          have E1 := Lib.hid e1
          rw [List.length_append, ← Lib.size_eq x] at hn1
          clear hn hk0
          go_wp2_with (at_builtin; refine at_append _ rfl _ _ rfl w.heap.size _ _ rfl HB.out x rfl (by omega) hsz ?_; intro v1 w1 hb1 hw1; rw [← HN'.out] at hb1; obtain ⟨A1, c1, rfl⟩ := hb1.form; rw [← E1.out] at hb1 ⊢; have HB1 := Lib.hid hb1; have HW1 := Lib.hid hw1; clear hb1 hw1 hn1 e1 h1)
          · have HR := Lib.hid (joi_yes (xs := xs) (b := b) (most := most) (by rw [← HM.out]; have := hmax.out; have := E1.out; omega))
            go_ret2
            exact ⟨ret_si (by rw [HR.out.1]) HR.out.2.symm, HW.out.trans HW1.out⟩
          · go_roundw
            case rel => exact ⟨k + 1, by omega, by go_num, HB1.out, HW.out.trans HW1.out, by rw [← E1.out]; omega⟩
            case measure => simp [intOf]; omega
        · have hg : decide (0 < k) = true := decide_eq_true (by omega)
          have hn := HN.out
          rw [if_neg (by omega)] at hn
          have HN' := Lib.hid hn
          have hn1 := congrArg List.length hn
          obtain ⟨n1, e1⟩ : ∃ n1 : Nat, n1 = (Lib.join ((lists xs).take (k + 1)) b.data.toList).length := ⟨_, rfl⟩
          have E1 := Lib.hid e1
          rw [List.length_append, List.length_append, ← Lib.size_eq x, ← Lib.size_eq b] at hn1
          clear hn
          go_wp2_with (first
            | (at_builtin; refine at_append _ rfl _ _ rfl w.heap.size _ _ rfl HB.out b rfl (by omega) hsz ?_; intro v0 w0 hb0 hw0; have HB0 := Lib.hid hb0; have HW0 := Lib.hid hw0; have hsz0 := Nat.le_trans hsz hw0.size; clear hb0 hw0)
            | (at_builtin; refine at_append _ rfl _ _ rfl w.heap.size _ _ rfl HB0.out x rfl (by rw [List.length_append, ← Lib.size_eq b]; omega) hsz0 ?_; intro v1 w1 hb1 hw1; rw [← HN'.out] at hb1; obtain ⟨A1, c1, rfl⟩ := hb1.form; rw [← E1.out] at hb1 ⊢; have HB1 := Lib.hid hb1; have HW1 := Lib.hid hw1; clear hb1 hw1 hn1 e1 h1))
          · have HR := Lib.hid (joi_yes (xs := xs) (b := b) (most := most) (by rw [← HM.out]; have := hmax.out; have := E1.out; omega))
            go_ret2
            exact ⟨ret_si (by rw [HR.out.1]) HR.out.2.symm, (HW.out.trans HW0.out).trans HW1.out⟩
          · go_roundw
            case rel => exact ⟨k + 1, by omega, by go_num, HB1.out, (HW.out.trans HW0.out).trans HW1.out, by rw [← E1.out]; omega⟩
            case measure => simp [intOf]; omega
      · have hall := join_all xs b k (by omega)
        have HR := Lib.hid (joi_no (xs := xs) (b := b) (most := most) (by rw [← HM.out, ← hall]; exact hle))
        have hcv := buf_string HB.out
        have HA := Lib.hid hall
        clear hall hle hbuf hbel
        go_wp2
        go_ret2
        exact ⟨ret_si (by rw [HR.out.1, HA.out]) HR.out.2.symm, HW.out⟩
theorem rjoin_any (v : Value) (xs : List ByteArray) (b : ByteArray) (most : Int) (w : World) (hv : Strs w v xs) (hm : most ≤ 2147483647) (hb : b.size ≤ 3000) (hs : ∀ x ∈ xs, x.size ≤ 3000) (hl : xs.length ≤ 100) :
    Calls Tryd.prog 11 #[v, .string b, .int .i64 most] w fun e w' => e = .returned (.tuple #[.string ⟨(joiS xs b most).toArray⟩, .int .i64 (joiN xs b most)]) ∧ Below w.heap.size w w' := by
  rcases hv with ⟨A, c, rfl, rfl⟩ | ⟨bk, o, c, rfl, _, hbk, _, hx⟩
  · exact rjoin_none A c b most w
  · exact rjoin_some bk o c xs b most w hm hbk hx hb hs hl
end Go.Proofs.YtnpmnielknmboaaDoor
