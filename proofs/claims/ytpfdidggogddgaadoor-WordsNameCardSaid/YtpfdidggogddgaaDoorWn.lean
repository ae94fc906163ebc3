/- selkielaw10.WordsName answers true at any two values whose numbers are int64, wherever the table of powers lies as the program's text lays it. -/
import Derived.Test.YtpfdidggogddgaaDoorWl
import Derived.LoopTactic
namespace Go.Proofs.YtpfdidggogddgaaDoor
open Go.RowKit Go.Sort

set_option maxHeartbeats 400000 in
theorem ends_yes (s t : ByteArray) (P : Nat) (w : World) (hs : s.size ≤ 1000000) (h : s.size = P + t.size) (ht : s.extract P s.size = t) :
    Calls Tryd.prog 30 #[.string s, .string t] w fun e w' => e = .returned (.bool true) ∧ w = w' := by
  have hge : ((t.size : Int) ≤ (s.size : Int)) := by omega
  have hsub : (s.size : Int) - (t.size : Int) = (P : Int) := by omega
  have hP : P ≤ s.size := by omega
  have H := Lib.hid h
  clear h
  go_enter Tryd.func30, Tryd.ntmps30
  go_wp2
  go_ret
  exact ⟨rfl, rfl⟩

set_option maxHeartbeats 400000 in
theorem has_yes (s t : ByteArray) (P : Nat) (w : World) (hs : s.size ≤ 1000000) (h : P + t.size ≤ s.size) (ht : s.extract P (P + t.size) = t) :
    Calls Tryd.prog 31 #[.string s, .string t] w fun e w' => e = .returned (.bool true) ∧ w = w' := by
  go_enter Tryd.func31, Tryd.ntmps31
  go_wp2
  go_loop [5] (fun i => ∃ k : Nat, k ≤ P ∧ i = .int .i64 k) (fun i => P - (intOf i).toNat)
  case atStart => exact ⟨0, Nat.zero_le _, rfl⟩
  case round =>
    obtain ⟨k, hk, rfl⟩ := hrel
    have h1 : (k : Int) + (t.size : Int) ≤ (s.size : Int) := by omega
    by_cases hh : (s.extract k (k + t.size)).toList = t.toList
    · have hb : ((s.extract k (k + t.size)).toList == t.toList) = true := by rw [hh]; simp
      clear hh
      go_wp2_with fail
      go_ret
      exact ⟨rfl, rfl⟩
    · have hne : k ≠ P := by rintro rfl; exact hh (by rw [ht])
      have hlt : k < P := by omega
      have hb : ((s.extract k (k + t.size)).toList == t.toList) = false := beq_eq_false_iff_ne.2 hh
      clear hh
      go_wp2_with fail
      go_round
      case rel => exact ⟨k + 1, by omega, by go_num⟩
      case measure => simp [intOf]; omega

def endB (s t : ByteArray) : Bool := if t.size ≤ s.size then ((s.extract (s.size - t.size) s.size).toList == t.toList) else false
set_option maxHeartbeats 400000 in
theorem ends_some (s t : ByteArray) (w : World) (hs : s.size ≤ 1000000) (ht : t.size ≤ 1000000) :
    Calls Tryd.prog 30 #[.string s, .string t] w fun e w' => e = .returned (.bool (endB s t)) ∧ w = w' := by
  by_cases hle : t.size ≤ s.size
  · rw [show endB s t = ((s.extract (s.size - t.size) s.size).toList == t.toList) from if_pos hle]
    obtain ⟨P, hP⟩ : ∃ P, s.size = P + t.size := ⟨s.size - t.size, by omega⟩
    have hge : ((t.size : Int) ≤ (s.size : Int)) := by omega
    have hsub : (s.size : Int) - (t.size : Int) = (P : Int) := by omega
    have hPs : P ≤ s.size := by omega
    rw [show s.size - t.size = P by omega]
    have H := Lib.hid hP
    clear hP
    go_enter Tryd.func30, Tryd.ntmps30
    go_wp2
    go_ret
    exact ⟨rfl, rfl⟩
  · rw [show endB s t = false from if_neg hle]
    have hge : ¬ ((t.size : Int) ≤ (s.size : Int)) := by omega
    go_enter Tryd.func30, Tryd.ntmps30
    go_wp2
    go_ret
    exact ⟨rfl, rfl⟩

theorem app_size (u t : ByteArray) : (u ++ t).size = u.size + t.size := by simp
theorem app_tail (u t : ByteArray) : (u ++ t).extract u.size (u ++ t).size = t := by
  rw [app_size]
  apply ByteArray.ext
  rw [ByteArray.data_extract, ByteArray.data_append]
  show (u.data ++ t.data).extract u.data.size (u.data.size + t.data.size) = t.data
  simp only [Array.extract_append, Array.extract_size_left]
  simp

/-- What is said ends with a value's word. -/
def tl (T : ByteArray) : ByteArray := cB ++ T ++ cV
theorem att_tl (q p : ByteArray) (k : Int) (h : q ++ cB = p) : att p k = q ++ tl (typB k) := by
  unfold att tl
  rw [← h]
  simp only [ByteArray.append_assoc]

def wordsL : List ByteArray := [noS, ⟨#[110, 105, 108]⟩, ⟨#[98, 111, 111, 108, 101, 97, 110]⟩, ⟨#[110, 117, 109, 98, 101, 114]⟩, ⟨#[115, 116, 114, 105, 110, 103]⟩, ⟨#[116, 97, 98, 108, 101]⟩, ⟨#[102, 117, 110, 99, 116, 105, 111, 110]⟩, ⟨#[116, 104, 114, 101, 97, 100]⟩]
theorem typ_mem (k : Int) : typB k ∈ wordsL := by
  unfold typB
  repeat' split
  all_goals simp [wordsL]
/-- The place of the first word, and of the second, in what Compare says. -/
def at1 (x y : ByteArray) : Nat := if x = y then 23 else 19
def at2 (x y : ByteArray) : Nat := if x = y then 23 else 25 + x.size
theorem cmp_all : ∀ x ∈ wordsL, ∀ y ∈ wordsL, (at1 x y + x.size ≤ (cmpS x y).size ∧ (cmpS x y).extract (at1 x y) (at1 x y + x.size) = x) ∧ (at2 x y + y.size ≤ (cmpS x y).size ∧ (cmpS x y).extract (at2 x y) (at2 x y + y.size) = y) ∧
    (cmpS x y).size = (cmpS y x).size ∧ ((cmpS x y).data.toList == (cmpS y x).data.toList) = (x.data.toList == y.data.toList) ∧ (cmpS x y).size ≤ 100 := by decide +kernel

theorem five0 (a b c d f : ByteArray) (w : World) : (Instr.index 32 (.agg #[.string a, .string b, .string c, .string d, .string f]) (.int .i64 0)).run Tryd.prog w = .ok (.string a) w := by kernel_rfl
theorem five1 (a b c d f : ByteArray) (w : World) : (Instr.index 32 (.agg #[.string a, .string b, .string c, .string d, .string f]) (.int .i64 1)).run Tryd.prog w = .ok (.string b) w := by kernel_rfl
theorem five2 (a b c d f : ByteArray) (w : World) : (Instr.index 32 (.agg #[.string a, .string b, .string c, .string d, .string f]) (.int .i64 2)).run Tryd.prog w = .ok (.string c) w := by kernel_rfl
theorem five3 (a b c d f : ByteArray) (w : World) : (Instr.index 32 (.agg #[.string a, .string b, .string c, .string d, .string f]) (.int .i64 3)).run Tryd.prog w = .ok (.string d) w := by kernel_rfl
theorem five4 (a b c d f : ByteArray) (w : World) : (Instr.index 32 (.agg #[.string a, .string b, .string c, .string d, .string f]) (.int .i64 4)).run Tryd.prog w = .ok (.string f) w := by kernel_rfl

theorem ends_tl (R u T : ByteArray) (w : World) (hs : R.size ≤ 1000) (h : R = u ++ tl T) :
    Calls Tryd.prog 30 #[.string R, .string (cB ++ T ++ cV)] w fun e w' => e = .returned (.bool true) ∧ w = w' := by
  refine ends_yes R (cB ++ T ++ cV) u.size w (by omega) ?_ ?_
  · rw [h]; exact app_size u (tl T)
  · rw [h]; exact app_tail u (tl T)

theorem ends_is (R X : ByteArray) (r : Bool) (w : World) (hs : R.size ≤ 1000000) (hx : X.size ≤ 8) (h : endB R (cB ++ X ++ cV) = r) :
    Calls Tryd.prog 30 #[.string R, .string (cB ++ X ++ cV)] w fun e w' => e = .returned (.bool r) ∧ w = w' := by
  rw [← h]
  refine ends_some R (cB ++ X ++ cV) w hs ?_
  have h1 : cB.size = 3 := rfl
  have h3 : cV.size = 6 := rfl
  simp only [ByteArray.size_append]
  omega
/-- A function of one value answers a text that ends with the word T. -/
def Tail1 (f : Nat) (a : Value) (T : ByteArray) (w0 : World) : Prop := ∃ R u : ByteArray, (∀ w : World, Below w0.heap.size w0 w → Calls Tryd.prog f #[a] w fun e w' => e = .returned (.string R) ∧ Below w.heap.size w w') ∧ R = u ++ tl T ∧ R.size ≤ 1000
def Tail2 (f : Nat) (a b : Value) (T : ByteArray) (w0 : World) : Prop := ∃ R u : ByteArray, (∀ w : World, Below w0.heap.size w0 w → Calls Tryd.prog f #[a, b] w fun e w' => e = .returned (.string R) ∧ Below w.heap.size w w') ∧ R = u ++ tl T ∧ R.size ≤ 1000
theorem att_size (p : ByteArray) (k : Int) (h : p.size ≤ 100) : (att p k).size ≤ 1000 := by
  have := typ_size k
  have h3 : cV.size = 6 := rfl
  unfold att
  simp only [ByteArray.size_append]
  omega
theorem tail1 {f : Nat} {k n : Int} {s p : ByteArray} {w0 : World} (q : ByteArray) (hp : p.size ≤ 100) (hq : q ++ cB = p)
    (h : ∀ w : World, Below w0.heap.size w0 w → Calls Tryd.prog f #[V k n s] w fun e w' => e = .returned (.string (att p k)) ∧ Below w.heap.size w w') : Tail1 f (V k n s) (typB k) w0 :=
  ⟨att p k, q, h, att_tl q p k hq, att_size p k hp⟩
theorem tail2 {f : Nat} {k n : Int} {s p : ByteArray} {j m : Int} {t : ByteArray} {w0 : World} (i : Int) (q : ByteArray) (hp : p.size ≤ 100) (hq : q ++ cB = p)
    (h : ∀ w : World, Below w0.heap.size w0 w → Calls Tryd.prog f #[V k n s, V j m t] w fun e w' => e = .returned (.string (att p i)) ∧ Below w.heap.size w w') : Tail2 f (V k n s) (V j m t) (typB i) w0 :=
  ⟨att p i, q, h, att_tl q p i hq, att_size p i hp⟩

set_option maxHeartbeats 3200000 in
theorem name_any (ka na : Int) (sa : ByteArray) (kb nb : Int) (sb : ByteArray) (w : World) (hT : Tab w) (hn0 : -9223372036854775808 ≤ na) (hn1 : na ≤ 9223372036854775807) :
    Calls Tryd.prog 5 #[V ka na sa, V kb nb sb] w fun e w' => e = .returned (.bool true) ∧ Below w.heap.size w w' := by
  have HT := Lib.hid hT; have H0 := Lib.hid hn0; have H1 := Lib.hid hn1
  clear hT hn0 hn1
  cases hs : bigS sa sb
  · have h1 : sa.size ≤ 10000 := by simp [bigS] at hs; omega
    have h2 : sb.size ≤ 10000 := by simp [bigS] at hs; omega
    have h1' : sa.size ≤ 9223372036854775807 := by omega
    obtain ⟨R1, u1, p1, e1, z1⟩ : Tail1 7 (V ka na sa) (typB ka) w := tail1 ⟨#[97, 116, 116, 101, 109, 112, 116, 32, 116, 111, 32, 105, 110, 100, 101, 120]⟩ (by decide) (by decide +kernel) (fun w _ => index_any _ _ _ w)
    obtain ⟨R2, u2, p2, e2, z2⟩ : Tail1 9 (V ka na sa) (typB ka) w := tail1 ⟨#[97, 116, 116, 101, 109, 112, 116, 32, 116, 111, 32, 99, 97, 108, 108]⟩ (by decide) (by decide +kernel) (fun w _ => call_any _ _ _ w)
    obtain ⟨R3, u3, p3, e3, z3⟩ : Tail1 11 (V ka na sa) (typB ka) w := tail1 ⟨#[97, 116, 116, 101, 109, 112, 116, 32, 116, 111, 32, 103, 101, 116, 32, 108, 101, 110, 103, 116, 104, 32, 111, 102]⟩ (by decide) (by decide +kernel) (fun w _ => len_any _ _ _ w)
    obtain ⟨R4, u4, p4, e4, z4⟩ : Tail2 13 (V ka na sa) (V ka na sa) (typB ka) w := tail2 (p := pArith) ka ⟨#[97, 116, 116, 101, 109, 112, 116, 32, 116, 111, 32, 112, 101, 114, 102, 111, 114, 109, 32, 97, 114, 105, 116, 104, 109, 101, 116, 105, 99, 32, 111, 110]⟩ (by decide) (by decide +kernel) (fun w _ => by
      have h := arith_any ka na sa ka na sa w h1'
      rw [show arithK ka ka (nmO ka sa) = ka by unfold arithK; split <;> rfl] at h
      exact h)
    obtain ⟨R5, u5, p5, e5, z5⟩ : Tail2 15 (V ka na sa) (V ka na sa) (typB ka) w := tail2 (p := pConcat) ka ⟨#[97, 116, 116, 101, 109, 112, 116, 32, 116, 111, 32, 99, 111, 110, 99, 97, 116, 101, 110, 97, 116, 101]⟩ (by decide) (by decide +kernel) (fun w hb => by
      have h := concat_any ka na sa ka na sa w (HT.out.below hb) H0.out H1.out
      rw [show concatK ka ka (stO ka) = ka by unfold concatK; split <;> rfl] at h
      exact h)
    obtain ⟨R6, u6, p6, e6, z6⟩ : Tail2 13 (V ka na sa) (V kb nb sb) (typB (arithK ka kb (nmO ka sa))) w := tail2 _ ⟨#[97, 116, 116, 101, 109, 112, 116, 32, 116, 111, 32, 112, 101, 114, 102, 111, 114, 109, 32, 97, 114, 105, 116, 104, 109, 101, 116, 105, 99, 32, 111, 110]⟩ (by decide) (by decide +kernel) (fun w _ => arith_any _ _ _ _ _ _ w h1')
    obtain ⟨X, hX⟩ : ∃ X, typB ka = X := ⟨_, rfl⟩
    obtain ⟨Y, hY⟩ : ∃ Y, typB kb = Y := ⟨_, rfl⟩
    obtain ⟨Z, hZ⟩ : ∃ Z, typB (arithK ka kb (nmO ka sa)) = Z := ⟨_, rfl⟩
    have hZZ : Z = X ∨ Z = Y := by
      subst hX hY hZ
      unfold arithK
      split
      · exact .inr rfl
      · exact .inl rfl
    obtain ⟨C, hC⟩ : ∃ C, cmpS X Y = C := ⟨_, rfl⟩
    obtain ⟨D, hD⟩ : ∃ D, cmpS Y X = D := ⟨_, rfl⟩
    obtain ⟨⟨g1, g2⟩, ⟨g3, g4⟩, g5, g6, g7⟩ := cmp_all X (hX ▸ typ_mem ka) Y (hY ▸ typ_mem kb)
    rw [hC, hD] at g5 g6
    rw [hC] at g1 g2 g3 g4 g7
    rw [← ByteArray.toList_eq, ← ByteArray.toList_eq, ← ByteArray.toList_eq, ← ByteArray.toList_eq] at g6
    have pc : ∀ w : World, Calls Tryd.prog 17 #[V ka na sa, V kb nb sb] w fun e w' => e = .returned (.string C) ∧ Below w.heap.size w w' := fun w => by
      have h := compare_any ka na sa kb nb sb w
      rw [hX, hY, hC] at h
      exact h
    have pd : ∀ w : World, Calls Tryd.prog 17 #[V kb nb sb, V ka na sa] w fun e w' => e = .returned (.string D) ∧ Below w.heap.size w w' := fun w => by
      have h := compare_any kb nb sb ka na sa w
      rw [hX, hY, hD] at h
      exact h
    have hx : X.size ≤ 8 := hX ▸ typ_size ka
    have hy : Y.size ≤ 8 := hY ▸ typ_size kb
    rw [hX] at e1 e2 e3 e4 e5
    rw [hZ] at e6
    have P1 := Lib.hid p1; have P2 := Lib.hid p2; have P3 := Lib.hid p3; have P4 := Lib.hid p4; have P5 := Lib.hid p5; have P6 := Lib.hid p6; have PC := Lib.hid pc; have PD := Lib.hid pd
    have E1 := Lib.hid e1; have E2 := Lib.hid e2; have E3 := Lib.hid e3; have E4 := Lib.hid e4; have E5 := Lib.hid e5; have E6 := Lib.hid e6
    have Z1 := Lib.hid z1; have Z2 := Lib.hid z2; have Z3 := Lib.hid z3; have Z4 := Lib.hid z4; have Z5 := Lib.hid z5; have Z6 := Lib.hid z6
    have G1 := Lib.hid g1; have G2 := Lib.hid g2; have G3 := Lib.hid g3; have G4 := Lib.hid g4; have G7 := Lib.hid g7
    have HX := Lib.hid hX; have HY := Lib.hid hY; have HZZ := Lib.hid hZZ
    have g5' : (C.size : Int) = (D.size : Int) := by rw [g5]
    obtain ⟨q, hq⟩ : ∃ q : Bool, (X.toList == Y.toList) = q := ⟨_, rfl⟩
    rw [hq] at g6
    have l1 : (⟨#[32, 97, 32]⟩ : ByteArray).size = 3 := rfl
    have l2 : (⟨#[32, 118, 97, 108, 117, 101]⟩ : ByteArray).size = 6 := rfl
    clear p1 p2 p3 p4 p5 p6 pc pd e1 e2 e3 e4 e5 e6 z1 z2 z3 z4 z5 z6 g1 g2 g3 g4 g5 g7 hX hY hZ hZZ hC hD hs h1'
    have i0 := five0; have i1 := five1; have i2 := five2; have i3 := five3; have i4 := five4
    go_enter Tryd.func5, Tryd.ntmps5
    go_wp2_with fail
    refine (alive_any _ (HT.out.below (below2 _ _ _))).mono ?_; rintro e w1 ⟨rfl, b1⟩
    have hA : At w1 w.heap.size ka na sa := ((at_new w ka na sa).alloc _).below b1
    have hB : At w1 (w.heap.size + 1) kb nb sb := (at_new1 w (vcells ka na sa) kb nb sb).below b1
    have B1 := Lib.hid (thenB (below2 _ _ _) b1)
    clear b1
    have a0 := hA.c0; have a1 := hA.c1; have a2 := hA.c2
    have b0 := hB.c0; have b1 := hB.c1; have b2 := hB.c2
    have HA := Lib.hid hA; have HB := Lib.hid hB
    clear hA hB
    go_wp2_with go_in
    clear a0 a1 a2 b0 b1 b2
    have a0 := cell_regrown HA.out.c0; have a1 := cell_regrown HA.out.c1; have a2 := cell_regrown HA.out.c2
    have b0 := cell_regrown HB.out.c0; have b1 := cell_regrown HB.out.c1; have b2 := cell_regrown HB.out.c2
    refine wp_region_quiet_below (by kernel_rfl) (by kernel_rfl) ?_
    repeat (go_big_quiet_step (first
      | (go_at_call 29; with_reducible exact Calls.regrown_of (type_is _ _ _ _ _ HX.out))
      | (go_at_call 29; with_reducible exact Calls.regrown_of (type_is _ _ _ _ _ HY.out))))
    refine wpQuiet_nil ?_
    intro w2 hw'
    obtain ⟨⟨dq, osq⟩, hw''⟩ := hw'
    have bb := below_regrown w1 dq osq
    rw [← hw''] at bb
    have HA2 := Lib.hid (HA.out.below bb); have HB2 := Lib.hid (HB.out.below bb)
    have B2 := Lib.hid (thenB B1.out bb)
    clear hw'' a0 a1 a2 b0 b1 b2 HA HB bb B1
    have a0 := HA2.out.c0; have a1 := HA2.out.c1; have a2 := HA2.out.c2
    have b0 := HB2.out.c0; have b1 := HB2.out.c1; have b2 := HB2.out.c2
    go_wp2_with go_in
    clear a0 a1 a2 b0 b1 b2
    have a0 := cell_regrown HA2.out.c0; have a1 := cell_regrown HA2.out.c1; have a2 := cell_regrown HA2.out.c2
    refine wp_region_quiet_below (by kernel_rfl) (by kernel_rfl) ?_
    repeat (go_big_quiet_step (first
      | (go_at_call 7; exact Calls.regrown_of (P1.out _ (thenB B2.out (below_regrown _ _ _))))
      | (go_at_call 9; exact Calls.regrown_of (P2.out _ (thenB B2.out (below_regrown _ _ _))))
      | (go_at_call 11; exact Calls.regrown_of (P3.out _ (thenB B2.out (below_regrown _ _ _))))
      | (go_at_call 13; exact Calls.regrown_of (P4.out _ (thenB B2.out (below_regrown _ _ _))))
      | (go_at_call 15; exact Calls.regrown_of (P5.out _ (thenB B2.out (below_regrown _ _ _))))))
    refine wpQuiet_nil ?_
    intro w3 hw'
    obtain ⟨⟨dq, osq⟩, hw''⟩ := hw'
    have bb := below_regrown w2 dq osq
    rw [← hw''] at bb
    have HA3 := Lib.hid (HA2.out.below bb); have HB3 := Lib.hid (HB2.out.below bb)
    have B3 := Lib.hid (thenB B2.out bb)
    clear hw'' a0 a1 a2 HA2 HB2 bb B2
    go_wp2_with fail
    go_loop [41] (fun i => ∃ k : Nat, k ≤ 5 ∧ i = .int .i64 k) (fun i => 5 - (intOf i).toNat)
    case atStart => exact ⟨0, by omega, rfl⟩
    case round =>
      obtain ⟨k, hk, rfl⟩ := hrel
      rcases (show k = 0 ∨ k = 1 ∨ k = 2 ∨ k = 3 ∨ k = 4 ∨ k = 5 by omega) with rfl | rfl | rfl | rfl | rfl | rfl
      · go_wp2_with fail
        refine (ends_tl _ _ _ _ Z1.out E1.out).mono ?_; rintro e w9 ⟨rfl, rfl⟩
        go_wp2_with fail
        go_round
        case rel => exact ⟨1, by omega, by go_num⟩
        case measure => simp [intOf]
      · go_wp2_with fail
        refine (ends_tl _ _ _ _ Z2.out E2.out).mono ?_; rintro e w9 ⟨rfl, rfl⟩
        go_wp2_with fail
        go_round
        case rel => exact ⟨2, by omega, by go_num⟩
        case measure => simp [intOf]
      · go_wp2_with fail
        refine (ends_tl _ _ _ _ Z3.out E3.out).mono ?_; rintro e w9 ⟨rfl, rfl⟩
        go_wp2_with fail
        go_round
        case rel => exact ⟨3, by omega, by go_num⟩
        case measure => simp [intOf]
      · go_wp2_with fail
        refine (ends_tl _ _ _ _ Z4.out E4.out).mono ?_; rintro e w9 ⟨rfl, rfl⟩
        go_wp2_with fail
        go_round
        case rel => exact ⟨4, by omega, by go_num⟩
        case measure => simp [intOf]
      · go_wp2_with fail
        refine (ends_tl _ _ _ _ Z5.out E5.out).mono ?_; rintro e w9 ⟨rfl, rfl⟩
        go_wp2_with fail
        go_round
        case rel => exact ⟨5, by omega, by go_num⟩
        case measure => simp [intOf]
      · go_wp2_with go_in
        have a0 := cell_regrown HA3.out.c0; have a1 := cell_regrown HA3.out.c1; have a2 := cell_regrown HA3.out.c2
        have b0 := cell_regrown HB3.out.c0; have b1 := cell_regrown HB3.out.c1; have b2 := cell_regrown HB3.out.c2
        refine wp_region_quiet_below (by kernel_rfl) (by kernel_rfl) ?_
        repeat (go_big_quiet_step (first
          | (go_at_call 17; with_reducible exact Calls.regrown_of (PC.out _))
          | (go_at_call 17; with_reducible exact Calls.regrown_of (PD.out _))))
        refine wpQuiet_nil ?_
        intro w4 hw'
        obtain ⟨⟨dq, osq⟩, hw''⟩ := hw'
        have bb := below_regrown w3 dq osq
        rw [← hw''] at bb
        have HA4 := Lib.hid (HA3.out.below bb); have HB4 := Lib.hid (HB3.out.below bb)
        have B4 := Lib.hid (thenB B3.out bb)
        clear hw'' a0 a1 a2 b0 b1 b2 HA3 HB3 bb B3
        have a0 := HA4.out.c0; have a1 := HA4.out.c1; have a2 := HA4.out.c2
        have b0 := HB4.out.c0; have b1 := HB4.out.c1; have b2 := HB4.out.c2
        go_wp2_with fail
        refine (has_yes _ _ _ _ (by have := G7.out; omega) G1.out G2.out).mono ?_; rintro e w9 ⟨rfl, rfl⟩
        go_wp2_with fail
        refine (has_yes _ _ _ _ (by have := G7.out; omega) G3.out G4.out).mono ?_; rintro e w9 ⟨rfl, rfl⟩
        cases q
        all_goals
          go_wp2_with fail
          refine (P6.out _ B4.out).mono ?_; rintro e w5 ⟨rfl, bb⟩
          have B5 := Lib.hid (thenB B4.out bb)
          clear bb
          rcases HZZ.out with rfl | rfl
          · go_wp2_with fail
            refine (ends_tl _ _ _ _ Z6.out E6.out).mono ?_; rintro e w9 ⟨rfl, rfl⟩
            go_wp2_with fail
            go_ret
            exact ⟨rfl, B5.out⟩
          · obtain ⟨r, hr⟩ : ∃ r : Bool, endB R6 (cB ++ X ++ cV) = r := ⟨_, rfl⟩
            have HR := Lib.hid hr
            clear hr
            go_wp2_with fail
            refine (ends_is _ _ _ _ (by have := Z6.out; omega) hx HR.out).mono ?_; rintro e w9 ⟨rfl, rfl⟩
            cases r
            · go_wp2_with fail
              refine (ends_tl _ _ _ _ Z6.out E6.out).mono ?_; rintro e w9 ⟨rfl, rfl⟩
              go_wp2_with fail
              go_ret
              exact ⟨rfl, B5.out⟩
            · go_wp2_with fail
              go_ret
              exact ⟨rfl, B5.out⟩
  · have hs' : 10000 < sa.size ∨ (sa.size ≤ 10000 ∧ 10000 < sb.size) := by simp [bigS] at hs; omega
    clear hs
    rcases hs' with h1 | ⟨h1, h2⟩
    all_goals
      go_enter Tryd.func5, Tryd.ntmps5
      go_wp2_with fail
      refine (alive_any _ (HT.out.below (below2 _ _ _))).mono ?_; rintro e w1 ⟨rfl, b1⟩
      have hA : At w1 w.heap.size ka na sa := ((at_new w ka na sa).alloc _).below b1
      have hB : At w1 (w.heap.size + 1) kb nb sb := (at_new1 w (vcells ka na sa) kb nb sb).below b1
      have B1 := Lib.hid (thenB (below2 _ _ _) b1)
      clear b1
      have a0 := hA.c0; have a1 := hA.c1; have a2 := hA.c2
      have b0 := hB.c0; have b1 := hB.c1; have b2 := hB.c2
      clear hA hB
      go_wp2_with fail
      go_ret
      exact ⟨rfl, B1.out⟩
end Go.Proofs.YtpfdidggogddgaaDoor
