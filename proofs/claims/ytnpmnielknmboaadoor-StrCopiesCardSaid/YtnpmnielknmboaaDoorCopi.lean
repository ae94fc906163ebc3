/- selkielaw04.StrCopies answers true at any strings, number and bound. -/
import Derived.Test.YtnpmnielknmboaaDoorLive
namespace Go.Proofs.YtnpmnielknmboaaDoor
open Go.RowKit Go.Sort

/-- The law's struct lies in block b. -/
def Cop (W : World) (b : Nat) (S : ByteArray) (n : Int) (B : ByteArray) (l : Value) (m : Int) : Prop :=
  W.cell? ⟨b, 0, none⟩ = some (.string S) ∧ W.cell? ⟨b, 1, none⟩ = some (.int .i64 n) ∧ W.cell? ⟨b, 2, none⟩ = some (.string B) ∧ W.cell? ⟨b, 3, none⟩ = some l ∧ W.cell? ⟨b, 4, none⟩ = some (.int .i64 m)
theorem Cop.new (w : World) (t : TypeId) (S : ByteArray) (n : Int) (B : ByteArray) (l : Value) (m : Int) : Cop (w.alloc (.cells #[.string S, .int .i64 n, .string B, l, .int .i64 m] t)) w.heap.size S n B l m := by
  have hc := fun i => cell_of_row (w.alloc (.cells #[.string S, .int .i64 n, .string B, l, .int .i64 m] t)) w.heap.size i _ t (0, 0) (heap_alloc_new w _)
  exact ⟨hc 0, hc 1, hc 2, hc 3, hc 4⟩
theorem Cop.below {W W' : World} {b : Nat} {S : ByteArray} {n : Int} {B : ByteArray} {l : Value} {m : Int} (h : Cop W b S n B l m) (hb : Below W.heap.size W W') : Cop W' b S n B l m := by
  have hlt : b < W.heap.size := World.block_lt_of_cell? W _ h.1
  exact ⟨(hb.cell (p := ⟨b, 0, none⟩) hlt).trans h.1, (hb.cell (p := ⟨b, 1, none⟩) hlt).trans h.2.1, (hb.cell (p := ⟨b, 2, none⟩) hlt).trans h.2.2.1, (hb.cell (p := ⟨b, 3, none⟩) hlt).trans h.2.2.2.1, (hb.cell (p := ⟨b, 4, none⟩) hlt).trans h.2.2.2.2⟩

set_option maxHeartbeats 2000000 in
set_option maxRecDepth 100000 in
theorem copies_far (S B : ByteArray) (n m : Int) (A : Option Addr) (k c : Nat) (w : World) (hM : Mx w) (h : 3000 < S.size ∨ 3000 < B.size ∨ 100 < k ∨ 100000 < m) :
    Calls Tryd.prog 3 #[.agg #[.string S, .int .i64 n, .string B, .slice A k c, .int .i64 m]] w fun e w' => e = .returned (.bool true) ∧ Below w.heap.size w w' := by
  have HM := Lib.hid (hM.below (belowA w (.cells #[.string S, .int .i64 n, .string B, .slice A k c, .int .i64 m] 24)))
  have HC := Lib.hid (Cop.new w 24 S n B (.slice A k c) m)
  clear hM
  by_cases h1 : 3000 < S.size
  · clear h
    go_enter Tryd.func3, Tryd.ntmps3
    go_wp2_with fail
    refine (alive_any _ HM.out).mono ?_; rintro e w1 ⟨rfl, b1⟩
    obtain ⟨c0, c1, c2, c3, c4⟩ := HC.out.below b1
    have HB := Lib.hid (thenB (belowA w _) b1)
    clear b1
    go_wp2_with fail
    go_ret
    exact ⟨rfl, HB.out⟩
  · have g1 : decide (3000 < S.size) = false := decide_eq_false h1
    by_cases h2 : 3000 < B.size
    · clear h
      go_enter Tryd.func3, Tryd.ntmps3
      go_wp2_with fail
      refine (alive_any _ HM.out).mono ?_; rintro e w1 ⟨rfl, b1⟩
      obtain ⟨c0, c1, c2, c3, c4⟩ := HC.out.below b1
      have HB := Lib.hid (thenB (belowA w _) b1)
      clear b1
      go_wp2_with fail
      go_ret
      exact ⟨rfl, HB.out⟩
    · have g2 : decide (3000 < B.size) = false := decide_eq_false h2
      by_cases h3 : 100 < k
      · clear h
        go_enter Tryd.func3, Tryd.ntmps3
        go_wp2_with fail
        refine (alive_any _ HM.out).mono ?_; rintro e w1 ⟨rfl, b1⟩
        obtain ⟨c0, c1, c2, c3, c4⟩ := HC.out.below b1
        have HB := Lib.hid (thenB (belowA w _) b1)
        clear b1
        go_wp2_with fail
        go_ret
        exact ⟨rfl, HB.out⟩
      · have g3 : decide (100 < k) = false := decide_eq_false h3
        have h4 : 100000 < m := by omega
        clear h
        go_enter Tryd.func3, Tryd.ntmps3
        go_wp2_with fail
        refine (alive_any _ HM.out).mono ?_; rintro e w1 ⟨rfl, b1⟩
        obtain ⟨c0, c1, c2, c3, c4⟩ := HC.out.below b1
        have HB := Lib.hid (thenB (belowA w _) b1)
        clear b1
        go_wp2_with fail
        go_ret
        exact ⟨rfl, HB.out⟩

/-- What the four calls of the law answer, the program's and the document's alike. -/
theorem copies_calls (S B : ByteArray) (n m : Int) (l : Value) (xs : List ByteArray) (hn : n ≤ 9223372036854775807) (h1 : S.size ≤ 3000) (h2 : B.size ≤ 3000) (h3 : xs.length ≤ 100) (h4 : m ≤ 100000) (h5 : ∀ x ∈ xs, x.size ≤ 3000) :
    ∃ (r : ByteArray) (e : Int) (q : ByteArray) (g : Int),
      (∀ W, Calls Tryd.prog 8 #[.string S, .int .i64 n, .string B, .int .i64 m] W fun x w' => x = .returned (.tuple #[.string r, .int .i64 e]) ∧ Below W.heap.size W w') ∧
      (∀ W, Calls Tryd.prog 9 #[.string S, .int .i64 n, .string B, .int .i64 m] W fun x w' => x = .returned (.tuple #[.string r, .int .i64 e]) ∧ Below W.heap.size W w') ∧
      (∀ W, Strs W l xs → Calls Tryd.prog 10 #[l, .string B, .int .i64 m] W fun x w' => x = .returned (.tuple #[.string q, .int .i64 g]) ∧ Below W.heap.size W w') ∧
      (∀ W, Strs W l xs → Calls Tryd.prog 11 #[l, .string B, .int .i64 m] W fun x w' => x = .returned (.tuple #[.string q, .int .i64 g]) ∧ Below W.heap.size W w') :=
  ⟨_, _, _, _, fun W => rep_any S B n m W hn (by omega) h1 h2, fun W => rrep_any S B n m W hn h4 h1 h2, fun W hW => join_any l xs B m W hW (by omega) h2 h5 h3, fun W hW => rjoin_any l xs B m W hW (by omega) h2 h5 h3⟩

set_option maxHeartbeats 4000000 in
set_option maxRecDepth 100000 in
theorem copies_none (S B : ByteArray) (n m : Int) (A : Option Addr) (c : Nat) (w : World) (hM : Mx w) (hn : n ≤ 9223372036854775807) (h1 : S.size ≤ 3000) (h2 : B.size ≤ 3000) (h4 : m ≤ 100000) :
    Calls Tryd.prog 3 #[.agg #[.string S, .int .i64 n, .string B, .slice A 0 c, .int .i64 m]] w fun e w' => e = .returned (.bool true) ∧ Below w.heap.size w w' := by
  have HM := Lib.hid (hM.below (belowA w (.cells #[.string S, .int .i64 n, .string B, .slice A 0 c, .int .i64 m] 24)))
  have HC := Lib.hid (Cop.new w 24 S n B (.slice A 0 c) m)
  obtain ⟨r, e, q, g, r1, r2, r3, r4⟩ := copies_calls S B n m (.slice A 0 c) [] hn h1 h2 (by simp) h4 (by simp)
  have R1 := Lib.hid r1
  have R2 := Lib.hid r2
  have R3 := Lib.hid r3
  have R4 := Lib.hid r4
  have g1 : decide (3000 < S.size) = false := decide_eq_false (by omega)
  have g2 : decide (3000 < B.size) = false := decide_eq_false (by omega)
  have g4 : decide (100000 < m) = false := decide_eq_false (by omega)
  clear hM r1 r2 r3 r4
  go_enter Tryd.func3, Tryd.ntmps3
  go_wp2_with fail
  refine (alive_any _ HM.out).mono ?_; rintro e w1 ⟨rfl, b1⟩
  have HC1 := Lib.hid (HC.out.below b1)
  have HB := Lib.hid (thenB (belowA w _) b1)
  have HS1 : Hid (Strs w1 (.slice A 0 c) []) := Lib.hid (.inl ⟨_, _, rfl, rfl⟩)
  clear b1
  obtain ⟨c0, c1, c2, c3, c4⟩ := HC1.out
  go_wp2_with fail
  clear c0 c1 c2 c3 c4
  go_loop [39] (fun i => i = .int .i64 0) (fun _ => 0)
  case atStart => exact rfl
  case round =>
    obtain rfl := hrel
    obtain ⟨c0, c1, c2, c3, c4⟩ := HC1.out
    go_wp2_with fail
    refine (R1.out _).mono ?_; rintro e w2 ⟨rfl, b2⟩
    clear c0 c1 c2 c3 c4
    have HC2 := Lib.hid (HC1.out.below b2)
    have HB2 := Lib.hid (thenB HB.out b2)
    have HS2 := Lib.hid (HS1.out.below b2)
    clear b2
    obtain ⟨c0, c1, c2, c3, c4⟩ := HC2.out
    go_wp2_with fail
    refine (R2.out _).mono ?_; rintro e w3 ⟨rfl, b3⟩
    clear c0 c1 c2 c3 c4
    have HC3 := Lib.hid (HC2.out.below b3)
    have HB3 := Lib.hid (thenB HB2.out b3)
    have HS3 := Lib.hid (HS2.out.below b3)
    clear b3
    obtain ⟨c0, c1, c2, c3, c4⟩ := HC3.out
    go_wp2_with fail
    refine (R3.out _ HS3.out).mono ?_; rintro e w4 ⟨rfl, b4⟩
    clear c0 c1 c2 c3 c4
    have HC4 := Lib.hid (HC3.out.below b4)
    have HB4 := Lib.hid (thenB HB3.out b4)
    have HS4 := Lib.hid (HS3.out.below b4)
    clear b4
    obtain ⟨c0, c1, c2, c3, c4⟩ := HC4.out
    go_wp2_with fail
    refine (R4.out _ HS4.out).mono ?_; rintro e w5 ⟨rfl, b5⟩
    clear c0 c1 c2 c3 c4
    have HB5 := Lib.hid (thenB HB4.out b5)
    clear b5
    go_wp2_with fail
    go_ret
    exact ⟨rfl, HB5.out⟩

set_option maxHeartbeats 4000000 in
set_option maxRecDepth 100000 in
theorem copies_some (S B : ByteArray) (n m : Int) (bk o c : Nat) (xs : List ByteArray) (w : World) (hM : Mx w) (h0 : 0 < xs.length) (hbk : bk < w.heap.size) (hc : xs.length ≤ c)
    (hx : ∀ (j : Nat) x, xs[j]? = some x → w.cell? ⟨bk, o + j, none⟩ = some (.string x)) (hn : n ≤ 9223372036854775807) (h1 : S.size ≤ 3000) (h2 : B.size ≤ 3000) (h3 : xs.length ≤ 100) (h4 : m ≤ 100000) :
    Calls Tryd.prog 3 #[.agg #[.string S, .int .i64 n, .string B, .slice (some ⟨bk, o, none⟩) xs.length c, .int .i64 m]] w fun e w' => e = .returned (.bool true) ∧ Below w.heap.size w w' := by
  have HM := Lib.hid (hM.below (belowA w (.cells #[.string S, .int .i64 n, .string B, .slice (some ⟨bk, o, none⟩) xs.length c, .int .i64 m] 24)))
  have HC := Lib.hid (Cop.new w 24 S n B (.slice (some ⟨bk, o, none⟩) xs.length c) m)
  have hst : Strs w (.slice (some ⟨bk, o, none⟩) xs.length c) xs := .inr ⟨bk, o, c, rfl, h0, hbk, hc, hx⟩
  have HST := Lib.hid hst
  have HX := Lib.hid hx
  have g1 : decide (3000 < S.size) = false := decide_eq_false (by omega)
  have g2 : decide (3000 < B.size) = false := decide_eq_false (by omega)
  have g3 : decide (100 < xs.length) = false := decide_eq_false (by omega)
  have g4 : decide (100000 < m) = false := decide_eq_false (by omega)
  clear hM hst hx
  go_enter Tryd.func3, Tryd.ntmps3
  go_wp2_with fail
  refine (alive_any _ HM.out).mono ?_; rintro e w1 ⟨rfl, b1⟩
  have HC1 := Lib.hid (HC.out.below b1)
  have HB := Lib.hid (thenB (belowA w _) b1)
  have HS1 := Lib.hid (HST.out.below HB.out)
  have HX1 : Hid (∀ (j : Nat) x, xs[j]? = some x → w1.cell? ⟨bk, o + j, none⟩ = some (.string x)) := Lib.hid (fun j x hj => (HB.out.cell (p := ⟨bk, o + j, none⟩) hbk).trans (HX.out j x hj))
  clear b1
  obtain ⟨c0, c1, c2, c3, c4⟩ := HC1.out
  go_wp2_with fail
  clear c0 c1 c2 c3 c4
  go_loop [39] (fun i => ∃ k : Nat, k ≤ xs.length ∧ i = .int .i64 k ∧ ∀ j x, j < k → xs[j]? = some x → x.size ≤ 3000) (fun i => xs.length - (intOf i).toNat)
  case atStart => exact ⟨0, Nat.zero_le _, rfl, fun _ _ h => absurd h (by omega)⟩
  case round =>
    obtain ⟨k, hk, rfl, hall⟩ := hrel
    have HA := Lib.hid hall
    clear hall
    by_cases hlt : k < xs.length
    · obtain ⟨x, hxk⟩ : ∃ x, xs[k]? = some x := ⟨xs[k], List.getElem?_eq_getElem hlt⟩
      have hcell := HX1.out k x hxk
      have HXK := Lib.hid hxk
      clear hxk
      by_cases hbig : 3000 < x.size
      · go_wp2_with fail
        go_ret
        exact ⟨rfl, HB.out⟩
      · go_wp2_with fail
        go_round
        case rel =>
          refine ⟨k + 1, by omega, by go_num, fun j y hj hy => ?_⟩
          by_cases e : j = k
          · rw [e, HXK.out] at hy
            obtain rfl := Option.some.inj hy
            omega
          · exact HA.out j y (by omega) hy
        case measure => simp [intOf]; omega
    · have h5 : ∀ x ∈ xs, x.size ≤ 3000 := fun x hx => by
        obtain ⟨j, hj, rfl⟩ := List.getElem_of_mem hx
        exact HA.out j _ (by omega) (List.getElem?_eq_getElem hj)
      obtain ⟨r, e, q, g, r1, r2, r3, r4⟩ := copies_calls S B n m (.slice (some ⟨bk, o, none⟩) xs.length c) xs hn h1 h2 h3 h4 h5
      have R1 := Lib.hid r1
      have R2 := Lib.hid r2
      have R3 := Lib.hid r3
      have R4 := Lib.hid r4
      clear r1 r2 r3 r4 h5
      obtain ⟨c0, c1, c2, c3, c4⟩ := HC1.out
      go_wp2_with fail
      refine (R1.out _).mono ?_; rintro e w2 ⟨rfl, b2⟩
      clear c0 c1 c2 c3 c4
      have HC2 := Lib.hid (HC1.out.below b2)
      have HB2 := Lib.hid (thenB HB.out b2)
      have HS2 := Lib.hid (HS1.out.below b2)
      clear b2
      obtain ⟨c0, c1, c2, c3, c4⟩ := HC2.out
      go_wp2_with fail
      refine (R2.out _).mono ?_; rintro e w3 ⟨rfl, b3⟩
      clear c0 c1 c2 c3 c4
      have HC3 := Lib.hid (HC2.out.below b3)
      have HB3 := Lib.hid (thenB HB2.out b3)
      have HS3 := Lib.hid (HS2.out.below b3)
      clear b3
      obtain ⟨c0, c1, c2, c3, c4⟩ := HC3.out
      go_wp2_with fail
      refine (R3.out _ HS3.out).mono ?_; rintro e w4 ⟨rfl, b4⟩
      clear c0 c1 c2 c3 c4
      have HC4 := Lib.hid (HC3.out.below b4)
      have HB4 := Lib.hid (thenB HB3.out b4)
      have HS4 := Lib.hid (HS3.out.below b4)
      clear b4
      obtain ⟨c0, c1, c2, c3, c4⟩ := HC4.out
      go_wp2_with fail
      refine (R4.out _ HS4.out).mono ?_; rintro e w5 ⟨rfl, b5⟩
      clear c0 c1 c2 c3 c4
      have HB5 := Lib.hid (thenB HB4.out b5)
      clear b5
      go_wp2_with fail
      go_ret
      exact ⟨rfl, HB5.out⟩

theorem copies_any (S : ByteArray) (n : Int) (B : ByteArray) (l : Value) (m : Int) (xs : List ByteArray) (w : World) (hM : Mx w) (hl : Strs w l xs) (hn : n ≤ 9223372036854775807) (_ : m ≤ 9223372036854775807) :
    Calls Tryd.prog 3 #[.agg #[.string S, .int .i64 n, .string B, l, .int .i64 m]] w fun e w' => e = .returned (.bool true) ∧ Below w.heap.size w w' := by
  rcases hl with ⟨A, c, rfl, rfl⟩ | ⟨bk, o, c, rfl, h0, hbk, hc, hx⟩
  · by_cases h : 3000 < S.size ∨ 3000 < B.size ∨ 100 < 0 ∨ 100000 < m
    · exact copies_far S B n m A 0 c w hM h
    · exact copies_none S B n m A c w hM hn (by omega) (by omega) (by omega)
  · by_cases h : 3000 < S.size ∨ 3000 < B.size ∨ 100 < xs.length ∨ 100000 < m
    · exact copies_far S B n m _ xs.length c w hM h
    · exact copies_some S B n m bk o c xs w hM h0 hbk hc hx hn (by omega) (by omega) (by omega) (by omega)
end Go.Proofs.YtnpmnielknmboaaDoor
