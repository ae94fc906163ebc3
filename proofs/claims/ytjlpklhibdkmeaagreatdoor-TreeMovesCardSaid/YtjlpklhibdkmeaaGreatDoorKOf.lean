/- tree.kidsOf, kidsRight. -/
import Derived.Test.YtjlpklhibdkmeaaGreatDoorRul
namespace Go.Proofs.YtjlpklhibdkmeaaGreatDoor
open Go.RowKit

/-- What kidsOf answers. -/
def OfPost (k n : Int) (w : World) (e : Ending) (w' : World) : Prop := ∃ v, e = .returned v ∧ Rule w' v (partsK k n) ∧ Below w.heap.size w w'
theorem of_rule {k n : Int} {ps : List Prt} (h : partsK k n = ps) {w w' : World} {v : Value} (hr : Rule w' v ps) (hb : Below w.heap.size w w') : OfPost k n w (.returned v) w' := ⟨v, rfl, by rw [h]; exact hr, hb⟩
theorem b_alloc (w : World) (o : Obj) : Below w.heap.size w (w.alloc o) := (Below.refl _ _).alloc (Nat.le_refl _) _
set_option maxHeartbeats 2000000 in
theorem kof_just1 (x : Nd) (A B : Option Addr) (a c b d : Nat) (w : World) (h : x.kind = 13 ∨ x.kind = 14 ∨ x.kind = 16 ∨ x.kind = 11 ∨ x.kind = 22 ∨ x.kind = 21 ∨ x.kind = 28) : Calls Tryz.prog 24 #[nodeV x (.slice A a c) (.slice B b d)] w (OfPost x.kind x.num w) := by
  obtain ⟨kind, line, op, num, s, names, kids⟩ := x
  unfold nodeV
  simp only at h ⊢
  have b1 := b_alloc w (.cells #[.int .i64 kind, .int .i64 line, .int .i64 op, .int .i64 num, .string s, .slice A a c, .slice B b d] 32)
  rcases h with rfl | rfl | rfl | rfl | rfl | rfl | rfl
  all_goals
    have B1 := Lib.hid b1
    clear b1
    go_enter Tryz.func24, Tryz.ntmps24
    go_wp2_with fail
    refine (just_any _ _ _ (nums_one _ _ 53 _ (by simp))).mono ?_
    rintro e w2 ⟨v, rfl, hr, b2⟩
    have HR := Lib.hid hr
    have B2 := Lib.hid (thenB B1.out (thenB (b_alloc _ _) b2))
    obtain ⟨bp, pv, rfl, _⟩ := hr
    clear b2
    go_wp2_with fail
    go_ret
    exact of_rule (by simp [partsK]) HR.out B2.out
set_option maxHeartbeats 2000000 in
theorem kof_just2 (x : Nd) (A B : Option Addr) (a c b d : Nat) (w : World) (h : x.kind = 8 ∨ x.kind = 12 ∨ x.kind = 17 ∨ x.kind = 23 ∨ x.kind = 24) : Calls Tryz.prog 24 #[nodeV x (.slice A a c) (.slice B b d)] w (OfPost x.kind x.num w) := by
  obtain ⟨kind, line, op, num, s, names, kids⟩ := x
  unfold nodeV
  simp only at h ⊢
  have b1 := b_alloc w (.cells #[.int .i64 kind, .int .i64 line, .int .i64 op, .int .i64 num, .string s, .slice A a c, .slice B b d] 32)
  rcases h with rfl | rfl | rfl | rfl | rfl
  all_goals
    have B1 := Lib.hid b1
    clear b1
    go_enter Tryz.func24, Tryz.ntmps24
    go_wp2_with fail
    refine (just_any _ _ _ (nums_two _ _ _ 53 _ (by simp))).mono ?_
    rintro e w2 ⟨v, rfl, hr, b2⟩
    have HR := Lib.hid hr
    have B2 := Lib.hid (thenB B1.out (thenB (b_alloc _ _) b2))
    obtain ⟨bp, pv, rfl, _⟩ := hr
    clear b2
    go_wp2_with fail
    go_ret
    exact of_rule (by simp [partsK]) HR.out B2.out
set_option maxHeartbeats 2000000 in
theorem kof_one (x : Nd) (A B : Option Addr) (a c b d : Nat) (w : World) (h : x.kind = 9 ∨ x.kind = 10 ∨ x.kind = 19 ∨ x.kind = 29 ∨ x.kind = 15) : Calls Tryz.prog 24 #[nodeV x (.slice A a c) (.slice B b d)] w (OfPost x.kind x.num w) := by
  obtain ⟨kind, line, op, num, s, names, kids⟩ := x
  unfold nodeV
  simp only at h ⊢
  have b1 := b_alloc w (.cells #[.int .i64 kind, .int .i64 line, .int .i64 op, .int .i64 num, .string s, .slice A a c, .slice B b d] 32)
  rcases h with rfl | rfl | rfl | rfl | rfl
  all_goals
    have B1 := Lib.hid b1
    clear b1
    go_enter Tryz.func24, Tryz.ntmps24
    go_wp2_with fail
    refine (some_any _ _ _ _ _ (nums_one _ _ 53 _ (by simp))).mono ?_
    rintro e w2 ⟨v, rfl, hp, b2⟩
    have HP := Lib.hid hp
    have B2 := Lib.hid (thenB B1.out (thenB (b_alloc _ _) b2))
    obtain ⟨bm, br, bl, rv, rfl, _⟩ := hp
    clear b2
    go_wp2_with fail
    refine (all_any _ _ _ (parts_one (b := w2.heap.size) (by rw [asize]; exact Nat.lt_succ_self _) (acell w2 _ _ _) (HP.out.below (b_alloc w2 _)))).mono ?_
    rintro e w3 ⟨v3, rfl, hr, b3⟩
    have HR := Lib.hid hr
    have B3 := Lib.hid (thenB B2.out (thenB (b_alloc _ _) b3))
    obtain ⟨bp, pv, rfl, _⟩ := hr
    clear b3
    go_wp2_with fail
    go_ret
    exact of_rule (by simp [partsK, big]) HR.out B3.out
set_option maxHeartbeats 2000000 in
theorem kof_two1 (x : Nd) (A B : Option Addr) (a c b d : Nat) (w : World) (h : x.kind = 18 ∨ x.kind = 26 ∨ x.kind = 27 ∨ x.kind = 20) : Calls Tryz.prog 24 #[nodeV x (.slice A a c) (.slice B b d)] w (OfPost x.kind x.num w) := by
  obtain ⟨kind, line, op, num, s, names, kids⟩ := x
  unfold nodeV
  simp only at h ⊢
  have b1 := b_alloc w (.cells #[.int .i64 kind, .int .i64 line, .int .i64 op, .int .i64 num, .string s, .slice A a c, .slice B b d] 32)
  rcases h with rfl | rfl | rfl | rfl
  all_goals
    have B1 := Lib.hid b1
    clear b1
    go_enter Tryz.func24, Tryz.ntmps24
    go_wp2_with fail
    refine (some_any _ _ _ _ _ (nums_one _ _ 53 _ (by simp))).mono ?_
    rintro e w2 ⟨v, rfl, hp, b2⟩
    have HP := Lib.hid hp
    have B2 := Lib.hid (thenB B1.out (thenB (b_alloc _ _) b2))
    obtain ⟨bm, br, bl, rv, rfl, _⟩ := hp
    clear b2
    go_wp2_with fail
    refine (some_any _ _ _ _ _ (nums_one w2 _ 53 _ rfl)).mono ?_
    rintro e w3 ⟨v, rfl, hp3, b3⟩
    have HP2 := Lib.hid (HP.out.below (thenB (b_alloc w2 _) b3))
    have HP3 := Lib.hid hp3
    have B3 := Lib.hid (thenB B2.out (thenB (b_alloc _ _) b3))
    obtain ⟨bm3, br3, bl3, rv3, rfl, _⟩ := hp3
    clear b3 HP
    go_wp2_with fail
    refine (all_any _ _ _ (parts_two (b := w3.heap.size) (by rw [asize]; exact Nat.lt_succ_self _) (acell w3 _ _ _) (acell w3 _ _ _) (HP2.out.below (b_alloc w3 _)) (HP3.out.below (b_alloc w3 _)))).mono ?_
    rintro e w4 ⟨v4, rfl, hr, b4⟩
    have HR := Lib.hid hr
    have B4 := Lib.hid (thenB B3.out (thenB (b_alloc _ _) b4))
    obtain ⟨bp, pv, rfl, _⟩ := hr
    clear b4
    go_wp2_with fail
    go_ret
    exact of_rule (by simp [partsK, big]) HR.out B4.out
set_option maxHeartbeats 2000000 in
theorem kof_two2 (x : Nd) (A B : Option Addr) (a c b d : Nat) (w : World) (h : x.kind = 25) : Calls Tryz.prog 24 #[nodeV x (.slice A a c) (.slice B b d)] w (OfPost x.kind x.num w) := by
  obtain ⟨kind, line, op, num, s, names, kids⟩ := x
  unfold nodeV
  simp only at h ⊢
  have b1 := b_alloc w (.cells #[.int .i64 kind, .int .i64 line, .int .i64 op, .int .i64 num, .string s, .slice A a c, .slice B b d] 32)
  subst h
  have B1 := Lib.hid b1
  clear b1
  go_enter Tryz.func24, Tryz.ntmps24
  go_wp2_with fail
  refine (some_any _ _ _ _ _ (nums_two _ _ _ 53 _ (by simp))).mono ?_
  rintro e w2 ⟨v, rfl, hp, b2⟩
  have HP := Lib.hid hp
  have B2 := Lib.hid (thenB B1.out (thenB (b_alloc _ _) b2))
  obtain ⟨bm, br, bl, rv, rfl, _⟩ := hp
  clear b2
  go_wp2_with fail
  refine (some_any _ _ _ _ _ (nums_one w2 _ 53 _ rfl)).mono ?_
  rintro e w3 ⟨v, rfl, hp3, b3⟩
  have HP2 := Lib.hid (HP.out.below (thenB (b_alloc w2 _) b3))
  have HP3 := Lib.hid hp3
  have B3 := Lib.hid (thenB B2.out (thenB (b_alloc _ _) b3))
  obtain ⟨bm3, br3, bl3, rv3, rfl, _⟩ := hp3
  clear b3 HP
  go_wp2_with fail
  refine (all_any _ _ _ (parts_two (b := w3.heap.size) (by rw [asize]; exact Nat.lt_succ_self _) (acell w3 _ _ _) (acell w3 _ _ _) (HP2.out.below (b_alloc w3 _)) (HP3.out.below (b_alloc w3 _)))).mono ?_
  rintro e w4 ⟨v4, rfl, hr, b4⟩
  have HR := Lib.hid hr
  have B4 := Lib.hid (thenB B3.out (thenB (b_alloc _ _) b4))
  obtain ⟨bp, pv, rfl, _⟩ := hr
  clear b4
  go_wp2_with fail
  go_ret
  exact of_rule (by simp [partsK, big]) HR.out B4.out
set_option maxHeartbeats 2000000 in
theorem kof_none (x : Nd) (A B : Option Addr) (a c b d : Nat) (w : World) (h : ∀ k ∈ [13, 14, 16, 8, 12, 17, 9, 10, 19, 29, 11, 22, 21, 28, 23, 24, 15, 18, 25, 26, 27, (20 : Int)], x.kind ≠ k) : Calls Tryz.prog 24 #[nodeV x (.slice A a c) (.slice B b d)] w (OfPost x.kind x.num w) := by
  obtain ⟨kind, line, op, num, s, names, kids⟩ := x
  unfold nodeV
  simp only at h ⊢
  simp only [List.mem_cons, List.not_mem_nil, or_false, forall_eq_or_imp, forall_eq] at h
  obtain ⟨h1, h2, h3, h4, h5, h6, h7, h8, h9, h10, h11, h12, h13, h14, h15, h16, h17, h18, h19, h20, h21, h22⟩ := h
  have hp : partsK kind num = [] := by simp only [partsK]; simp [*]
  have b1 := b_alloc w (.cells #[.int .i64 kind, .int .i64 line, .int .i64 op, .int .i64 num, .string s, .slice A a c, .slice B b d] 32)
  have B1 := Lib.hid b1
  have HP := Lib.hid hp
  clear b1 hp
  go_enter Tryz.func24, Tryz.ntmps24
  go_wp2_with fail
  refine (all_any _ [] _ ⟨none, 0, rfl, .inl rfl⟩).mono ?_
  rintro e w2 ⟨v, rfl, hr, b2⟩
  have HR := Lib.hid hr
  have B2 := Lib.hid (thenB B1.out b2)
  obtain ⟨bp, pv, rfl, _⟩ := hr
  clear b2
  go_wp2_with fail
  go_ret
  exact of_rule HP.out HR.out B2.out
theorem kof_any (x : Nd) (A B : Option Addr) (a c b d : Nat) (w : World) : Calls Tryz.prog 24 #[nodeV x (.slice A a c) (.slice B b d)] w (OfPost x.kind x.num w) := by
  by_cases h1 : x.kind = 13 ∨ x.kind = 14 ∨ x.kind = 16 ∨ x.kind = 11 ∨ x.kind = 22 ∨ x.kind = 21 ∨ x.kind = 28
  · exact kof_just1 x A B a c b d w h1
  by_cases h2 : x.kind = 8 ∨ x.kind = 12 ∨ x.kind = 17 ∨ x.kind = 23 ∨ x.kind = 24
  · exact kof_just2 x A B a c b d w h2
  by_cases h3 : x.kind = 9 ∨ x.kind = 10 ∨ x.kind = 19 ∨ x.kind = 29 ∨ x.kind = 15
  · exact kof_one x A B a c b d w h3
  by_cases h4 : x.kind = 18 ∨ x.kind = 26 ∨ x.kind = 27 ∨ x.kind = 20
  · exact kof_two1 x A B a c b d w h4
  by_cases h5 : x.kind = 25
  · exact kof_two2 x A B a c b d w h5
  refine kof_none x A B a c b d w fun k hk => ?_
  simp only [List.mem_cons, List.not_mem_nil, or_false] at hk
  omega
theorem ite_prop {α : Type} {p : Prop} [Decidable p] {a b : α} (P : α → Prop) (ha : P a) (hb : P b) : P (if p then a else b) := by
  by_cases h : p
  · rw [if_pos h]; exact ha
  · rw [if_neg h]; exact hb
def posP (ps : List Prt) : Prop := ps.all (fun p => decide (0 < p.2.2.length)) = true ∧ ps.length ≤ 1000
theorem posP_one (a b : Int) (r : Int) (l : List Int) : posP [(a, b, r :: l)] := ⟨rfl, Nat.le_of_ble_eq_true rfl⟩
theorem posP_two (a b a' b' : Int) (r r' : Int) (l l' : List Int) : posP [(a, b, r :: l), (a', b', r' :: l')] := ⟨rfl, Nat.le_of_ble_eq_true rfl⟩
theorem posP_all (k n : Int) : posP (partsK k n) := by
  unfold partsK
  refine ite_prop posP (posP_one ..) <| ite_prop posP (posP_one ..) <| ite_prop posP (posP_one ..) <| ite_prop posP (posP_one ..) <| ite_prop posP (posP_one ..) <| ite_prop posP (posP_one ..) <| ite_prop posP (posP_one ..) <| ite_prop posP (posP_one ..) <| ite_prop posP (posP_one ..) <| ite_prop posP (posP_one ..) <| ite_prop posP (posP_two ..) <| ite_prop posP (posP_two ..) <| ite_prop posP (posP_two ..) <| ite_prop posP (posP_two ..) <| ite_prop posP (posP_two ..) ⟨rfl, Nat.zero_le _⟩
theorem parts_pos (k n : Int) : ∀ p ∈ partsK k n, 0 < p.2.2.length := fun p hp => of_decide_eq_true (List.all_eq_true.1 (posP_all k n).1 p hp)
theorem parts_len (k n : Int) : (partsK k n).length ≤ 1000 := (posP_all k n).2
end Go.Proofs.YtjlpklhibdkmeaaGreatDoor
