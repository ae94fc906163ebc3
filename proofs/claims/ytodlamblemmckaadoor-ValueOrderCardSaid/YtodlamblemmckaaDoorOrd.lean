/- selkielaw01.ValueOrder answers true at any three values, wherever the table of powers lies as the program's text lays it. -/
import Derived.Test.YtodlamblemmckaaDoorTri
import Derived.LoopTactic
namespace Go.Proofs.YtodlamblemmckaaDoor
open Go.RowKit Go.Sort

/-- How many of the first k of three truths hold. -/
def cntB (x y z : Bool) : Nat → Int
  | 0 => 0
  | 1 => if x then 1 else 0
  | 2 => (if x then 1 else 0) + (if y then 1 else 0)
  | _ => (if x then 1 else 0) + (if y then 1 else 0) + (if z then 1 else 0)

/-- A place of three truths, read. -/
theorem idx0 (x y z : Bool) (w : World) : (Instr.index 38 (.agg #[.bool x, .bool y, .bool z]) (.int .i64 0)).run Tryd.prog w = .ok (.bool x) w := by kernel_rfl
theorem idx1 (x y z : Bool) (w : World) : (Instr.index 38 (.agg #[.bool x, .bool y, .bool z]) (.int .i64 1)).run Tryd.prog w = .ok (.bool y) w := by kernel_rfl
theorem idx2 (x y z : Bool) (w : World) : (Instr.index 38 (.agg #[.bool x, .bool y, .bool z]) (.int .i64 2)).run Tryd.prog w = .ok (.bool z) w := by kernel_rfl

set_option maxHeartbeats 8000000 in
theorem order_core (ka na kb nb kc nc : Int) (sa sb sc : ByteArray) (ok ab ba r bc so ac too : Bool) (w : World)
    (hT : Tab w) (hs : bigB sa sb sc = false) (hab : lesB ka na sa kb nb sb = ab ∧ lesO ka kb = ok) (hba : lesB kb nb sb ka na sa = ba ∧ lesO kb ka = ok)
    (hbc : lesB kb nb sb kc nc sc = bc ∧ lesO kb kc = so) (hac : lesB ka na sa kc nc sc = ac ∧ lesO ka kc = too) (hr : rawB ka na sa kb nb sb = r)
    (hall : ok = false ∧ ab = false ∧ ba = false ∧ r = false ∨ ok = false ∧ ab = false ∧ ba = false ∧ r = true ∨
      ok = true ∧ ab = true ∧ ba = false ∧ r = false ∧ bc = false ∨ ok = true ∧ ab = true ∧ ba = false ∧ r = false ∧ bc = true ∧ so = true ∧ ac = true ∧ too = true ∨
      ok = true ∧ ab = false ∧ ba = true ∧ r = false ∨ ok = true ∧ ab = false ∧ ba = false ∧ r = true) :
    Calls Tryd.prog 6 #[V ka na sa, V kb nb sb, V kc nc sc] w fun e w' => e = .returned (.bool true) ∧ Below w.heap.size w w' := by
  have HT := Lib.hid hT
  have Hs := Lib.hid hs
  have Hab := Lib.hid hab; have Hbc := Lib.hid hbc; have Hac := Lib.hid hac; have Hba := Lib.hid hba; have Hr := Lib.hid hr
  clear hT hs hab hba hbc hac hr
  obtain ⟨cnt, hcnt⟩ : ∃ cnt : Nat → Int, cnt = cntB ab ba r := ⟨_, rfl⟩
  rcases hall with ⟨rfl, rfl, rfl, rfl⟩ | ⟨rfl, rfl, rfl, rfl⟩ | ⟨rfl, rfl, rfl, rfl, rfl⟩ | ⟨rfl, rfl, rfl, rfl, rfl, rfl, rfl, rfl⟩ | ⟨rfl, rfl, rfl, rfl⟩ | ⟨rfl, rfl, rfl, rfl⟩
  all_goals
    have z0 : cnt 0 = 0 := by rw [hcnt]; rfl
    first | have z1 : cnt 1 = 0 := by rw [hcnt]; rfl | have z1 : cnt 1 = 1 := by rw [hcnt]; rfl
    first | have z2 : cnt 2 = 0 := by rw [hcnt]; rfl | have z2 : cnt 2 = 1 := by rw [hcnt]; rfl
    first | have z3 : cnt 3 = 0 := by rw [hcnt]; rfl | have z3 : cnt 3 = 1 := by rw [hcnt]; rfl
    clear hcnt
    have i0 := idx0; have i1 := idx1; have i2 := idx2
    go_enter Tryd.func6, Tryd.ntmps6
    go_wp2_with fail
    refine (alive_any _ (HT.out.below (below3 _ _ _ _))).mono ?_; rintro e w1 ⟨rfl, b1⟩
    have hA : At w1 w.heap.size ka na sa := (((at_new w ka na sa).alloc _).alloc _).below b1
    have hB : At w1 (w.heap.size + 1) kb nb sb := ((at_new1 w (vcells ka na sa) kb nb sb).alloc _).below b1
    have hC : At w1 (w.heap.size + 1 + 1) kc nc sc := (at_new_2 w (vcells ka na sa) (vcells kb nb sb) kc nc sc).below b1
    have B1 := Lib.hid (thenB (below3 _ _ _ _) b1)
    have HA := Lib.hid hA; have HB := Lib.hid hB; have HC := Lib.hid hC
    clear b1
    have a0 := hA.c0; have a1 := hA.c1; have a2 := hA.c2
    have b0 := hB.c0; have b1 := hB.c1; have b2 := hB.c2
    have c0 := hC.c0; have c1 := hC.c1; have c2 := hC.c2
    clear hA hB hC
    go_wp2_with fail
    refine (great3 _ _ _ _ _ _ _ _ _ _ _ Hs.out).mono ?_; rintro e w2 ⟨rfl, bb⟩
    have B2 := Lib.hid (thenB B1.out bb)
    have HA2 := Lib.hid (HA.out.below bb); have HB2 := Lib.hid (HB.out.below bb); have HC2 := Lib.hid (HC.out.below bb)
    clear a0 a1 a2 b0 b1 b2 c0 c1 c2 HA HB HC B1 bb
    have a0 := HA2.out.c0; have a1 := HA2.out.c1; have a2 := HA2.out.c2
    have b0 := HB2.out.c0; have b1 := HB2.out.c1; have b2 := HB2.out.c2
    go_wp2_with fail
    refine (less_is _ _ _ _ _ _ _ _ _ Hab.out).mono ?_; rintro e w3 ⟨rfl, bb⟩
    have B3 := Lib.hid (thenB B2.out bb)
    have HA3 := Lib.hid (HA2.out.below bb); have HB3 := Lib.hid (HB2.out.below bb); have HC3 := Lib.hid (HC2.out.below bb)
    clear a0 a1 a2 b0 b1 b2 HA2 HB2 HC2 B2 bb
    have a0 := HA3.out.c0; have a1 := HA3.out.c1; have a2 := HA3.out.c2
    have b0 := HB3.out.c0; have b1 := HB3.out.c1; have b2 := HB3.out.c2
    go_wp2_with fail
    refine (less_is _ _ _ _ _ _ _ _ _ Hba.out).mono ?_; rintro e w4 ⟨rfl, bb⟩
    have B4 := Lib.hid (thenB B3.out bb)
    have HA4 := Lib.hid (HA3.out.below bb); have HB4 := Lib.hid (HB3.out.below bb); have HC4 := Lib.hid (HC3.out.below bb)
    clear a0 a1 a2 b0 b1 b2 HA3 HB3 HC3 B3 bb
    have b0 := HB4.out.c0; have b1 := HB4.out.c1; have b2 := HB4.out.c2
    have c0 := HC4.out.c0; have c1 := HC4.out.c1; have c2 := HC4.out.c2
    go_wp2_with fail
    refine (less_is _ _ _ _ _ _ _ _ _ Hbc.out).mono ?_; rintro e w5 ⟨rfl, bb⟩
    have B5 := Lib.hid (thenB B4.out bb)
    have HA5 := Lib.hid (HA4.out.below bb); have HB5 := Lib.hid (HB4.out.below bb); have HC5 := Lib.hid (HC4.out.below bb)
    clear b0 b1 b2 c0 c1 c2 HA4 HB4 HC4 B4 bb
    have a0 := HA5.out.c0; have a1 := HA5.out.c1; have a2 := HA5.out.c2
    have c0 := HC5.out.c0; have c1 := HC5.out.c1; have c2 := HC5.out.c2
    go_wp2_with fail
    refine (less_is _ _ _ _ _ _ _ _ _ Hac.out).mono ?_; rintro e w6 ⟨rfl, bb⟩
    have B6 := Lib.hid (thenB B5.out bb)
    have HA6 := Lib.hid (HA5.out.below bb); have HB6 := Lib.hid (HB5.out.below bb)
    clear a0 a1 a2 c0 c1 c2 HA5 HB5 HC5 B5 bb
    have a0 := HA6.out.c0; have a1 := HA6.out.c1; have a2 := HA6.out.c2
    have b0 := HB6.out.c0; have b1 := HB6.out.c1; have b2 := HB6.out.c2
    go_wp2_with fail
    refine (raw_is _ _ _ _ _ _ _ _ Hr.out).mono ?_; rintro e w7 ⟨rfl, bb⟩
    have B7 := Lib.hid (thenB B6.out bb)
    clear a0 a1 a2 b0 b1 b2 HA6 HB6 B6 bb
    go_wp2_with fail
    go_loop [15, 68] (fun n i => ∃ k : Nat, k ≤ 3 ∧ i = .int .i64 k ∧ n = .int .i64 (cnt k)) (fun _ i => 3 - (intOf i).toNat)
    case atStart => exact ⟨0, by omega, rfl, by rw [z0]⟩
    case round =>
      obtain ⟨k, hk, rfl, rfl⟩ := hrel
      rcases (show k = 0 ∨ k = 1 ∨ k = 2 ∨ k = 3 by omega) with rfl | rfl | rfl | rfl
      · go_wp2_with fail
        go_round
        case rel => exact ⟨1, by omega, by go_num, by first | (rw [z1]; done) | rw [z0, z1]⟩
        case measure => simp [intOf]
      · go_wp2_with fail
        go_round
        case rel => exact ⟨2, by omega, by go_num, by first | (rw [z2]; done) | rw [z1, z2]⟩
        case measure => simp [intOf]
      · go_wp2_with fail
        go_round
        case rel => exact ⟨3, by omega, by go_num, by first | (rw [z3]; done) | rw [z2, z3]⟩
        case measure => simp [intOf]
      · go_wp2_with fail
        go_ret
        exact ⟨rfl, B7.out⟩

theorem lesO_symm (k j : Int) : lesO j k = lesO k j := by
  unfold lesO
  by_cases h : k = j
  · subst h; rfl
  · have h' : ¬ j = k := fun e => h e.symm
    simp [h, h']

/-! The order of texts, byte by byte. -/
theorem bl_irrefl : ∀ l : List UInt8, Op.bytesLess l l = false
  | [] => rfl
  | a :: l => by simp [Op.bytesLess, bl_irrefl l]
theorem bl_trans : ∀ x y z : List UInt8, Op.bytesLess x y = true → Op.bytesLess y z = true → Op.bytesLess x z = true
  | [], [], _, h, _ => by simp [Op.bytesLess] at h
  | [], _ :: _, [], _, h => by simp [Op.bytesLess] at h
  | [], _ :: _, _ :: _, _, _ => by simp [Op.bytesLess]
  | _ :: _, [], _, h, _ => by simp [Op.bytesLess] at h
  | _ :: _, _ :: _, [], _, h => by simp [Op.bytesLess] at h
  | a :: x, b :: y, c :: z, h, h' => by
    have ih := bl_trans x y z
    simp only [Op.bytesLess, Bool.or_eq_true, Bool.and_eq_true, decide_eq_true_eq, beq_iff_eq, UInt8.lt_iff_toNat_lt, ← UInt8.toNat_inj] at h h' ⊢
    rcases h with h | ⟨h, hx⟩
    · rcases h' with h' | ⟨h', _⟩ <;> exact .inl (by omega)
    · rcases h' with h' | ⟨h', hy⟩
      · exact .inl (by omega)
      · exact .inr ⟨by omega, ih hx hy⟩
theorem bl_three : ∀ x y : List UInt8, Op.bytesLess x y = true ∨ Op.bytesLess y x = true ∨ x = y
  | [], [] => .inr (.inr rfl)
  | [], _ :: _ => .inl rfl
  | _ :: _, [] => .inr (.inl rfl)
  | a :: x, b :: y => by
    have ih := bl_three x y
    simp only [Op.bytesLess, Bool.or_eq_true, Bool.and_eq_true, decide_eq_true_eq, beq_iff_eq, UInt8.lt_iff_toNat_lt, List.cons.injEq, ← UInt8.toNat_inj]
    by_cases h1 : a.toNat < b.toNat
    · exact .inl (.inl h1)
    · by_cases h2 : b.toNat < a.toNat
      · exact .inr (.inl (.inl h2))
      · have h3 : a.toNat = b.toNat := by omega
        rcases ih with h | h | h
        · exact .inl (.inr ⟨h3, h⟩)
        · exact .inr (.inl (.inr ⟨h3.symm, h⟩))
        · exact .inr (.inr ⟨h3, h⟩)
theorem bl_asymm {x y : List UInt8} (h : Op.bytesLess x y = true) : Op.bytesLess y x = false := by
  cases h' : Op.bytesLess y x
  · rfl
  · have := bl_trans _ _ _ h h'
    rw [bl_irrefl] at this
    exact this.symm
theorem bl_ne {x y : List UInt8} (h : Op.bytesLess x y = true) : ¬ x = y := by
  rintro rfl
  rw [bl_irrefl] at h
  exact Bool.noConfusion h

/-! The order of values. -/
theorem les_int (n m : Int) (s t : ByteArray) : lesB 2 n s 2 m t = decide (n < m) := by simp [lesB]
theorem les_str (n m : Int) (s t : ByteArray) : lesB 3 n s 3 m t = Op.bytesLess s.toList t.toList := by simp [lesB]
theorem raw_int (n m : Int) (s t : ByteArray) : rawB 2 n s 2 m t = decide (n = m) := by simp [rawB, strB, ownN, ownS]
theorem raw_str (n m : Int) (s t : ByteArray) : rawB 3 n s 3 m t = decide (s.toList = t.toList) := by simp [rawB, strB, ownN, ownS]
theorem les_ok {k n : Int} {s : ByteArray} {j m : Int} {t : ByteArray} (h : lesB k n s j m t = true) : k = j ∧ (k = 2 ∨ k = 3) := by
  simp only [lesB, Bool.and_eq_true, Bool.or_eq_true, decide_eq_true_eq] at h
  refine ⟨h.1, ?_⟩
  rcases h.2 with h | h
  · exact .inl h.1
  · exact .inr h.1
theorem les_trans {k n : Int} {s : ByteArray} {j m : Int} {t : ByteArray} {i p : Int} {u : ByteArray} (h : lesB k n s j m t = true) (h' : lesB j m t i p u = true) :
    lesB k n s i p u = true ∧ lesO j i = true ∧ lesO k i = true := by
  obtain ⟨rfl, hk⟩ := les_ok h
  obtain ⟨rfl, _⟩ := les_ok h'
  rcases hk with rfl | rfl
  · rw [les_int] at *
    simp only [decide_eq_true_eq] at *
    exact ⟨by omega, rfl, rfl⟩
  · rw [les_str] at *
    exact ⟨bl_trans _ _ _ h h', rfl, rfl⟩
theorem les_no {k n : Int} {s : ByteArray} {j m : Int} {t : ByteArray} (h : lesO k j = false) : lesB k n s j m t = false := by
  cases e : lesB k n s j m t
  · rfl
  · obtain ⟨rfl, hk⟩ := les_ok e
    rcases hk with rfl | rfl <;> cases h
theorem les_three (k n : Int) (s : ByteArray) (j m : Int) (t : ByteArray) (h : lesO k j = true) :
    lesB k n s j m t = true ∧ lesB j m t k n s = false ∧ rawB k n s j m t = false ∨ lesB k n s j m t = false ∧ lesB j m t k n s = true ∧ rawB k n s j m t = false ∨
    lesB k n s j m t = false ∧ lesB j m t k n s = false ∧ rawB k n s j m t = true := by
  simp only [lesO, Bool.and_eq_true, Bool.or_eq_true, decide_eq_true_eq] at h
  obtain ⟨rfl, rfl | rfl⟩ := h
  · rw [les_int, les_int, raw_int]
    simp only [decide_eq_true_eq, decide_eq_false_iff_not]
    omega
  · rw [les_str, les_str, raw_str]
    simp only [decide_eq_true_eq, decide_eq_false_iff_not]
    rcases bl_three s.toList t.toList with h | h | h
    · exact .inl ⟨h, bl_asymm h, bl_ne h⟩
    · exact .inr (.inl ⟨bl_asymm h, h, fun e => bl_ne h e.symm⟩)
    · rw [h, bl_irrefl]; exact .inr (.inr ⟨rfl, rfl, rfl⟩)

set_option maxHeartbeats 800000 in
theorem order_any (ka na kb nb kc nc : Int) (sa sb sc : ByteArray) (w : World) (hT : Tab w) :
    Calls Tryd.prog 6 #[V ka na sa, V kb nb sb, V kc nc sc] w fun e w' => e = .returned (.bool true) ∧ Below w.heap.size w w' := by
  cases hs : bigB sa sb sc
  · refine order_core ka na kb nb kc nc sa sb sc _ _ _ _ _ _ _ _ w hT hs ⟨rfl, rfl⟩ ⟨rfl, lesO_symm ka kb⟩ ⟨rfl, rfl⟩ ⟨rfl, rfl⟩ rfl ?_
    cases ho : lesO ka kb
    · have h1 := les_no (n := na) (s := sa) (m := nb) (t := sb) ho
      have h2 := les_no (n := nb) (s := sb) (m := na) (t := sa) ((lesO_symm ka kb).trans ho)
      cases hr : rawB ka na sa kb nb sb
      · exact .inl ⟨rfl, h1, h2, rfl⟩
      · exact .inr (.inl ⟨rfl, h1, h2, rfl⟩)
    · rcases les_three ka na sa kb nb sb ho with ⟨h1, h2, h3⟩ | ⟨h1, h2, h3⟩ | ⟨h1, h2, h3⟩
      · cases hc : lesB kb nb sb kc nc sc
        · exact .inr (.inr (.inl ⟨rfl, h1, h2, h3, rfl⟩))
        · obtain ⟨h4, h5, h6⟩ := les_trans h1 hc
          exact .inr (.inr (.inr (.inl ⟨rfl, h1, h2, h3, rfl, h5, h4, h6⟩)))
      · exact .inr (.inr (.inr (.inr (.inl ⟨rfl, h1, h2, h3⟩))))
      · exact .inr (.inr (.inr (.inr (.inr ⟨rfl, h1, h2, h3⟩))))
  · have HT := Lib.hid hT
    have Hs := Lib.hid hs
    clear hT hs
    go_enter Tryd.func6, Tryd.ntmps6
    go_wp2_with fail
    refine (alive_any _ (HT.out.below (below3 _ _ _ _))).mono ?_; rintro e w1 ⟨rfl, b1⟩
    have hA : At w1 w.heap.size ka na sa := (((at_new w ka na sa).alloc _).alloc _).below b1
    have hB : At w1 (w.heap.size + 1) kb nb sb := ((at_new1 w (vcells ka na sa) kb nb sb).alloc _).below b1
    have hC : At w1 (w.heap.size + 1 + 1) kc nc sc := (at_new_2 w (vcells ka na sa) (vcells kb nb sb) kc nc sc).below b1
    have B1 := Lib.hid (thenB (below3 _ _ _ _) b1)
    clear b1
    have a0 := hA.c0; have a1 := hA.c1; have a2 := hA.c2
    have b0 := hB.c0; have b1 := hB.c1; have b2 := hB.c2
    have c0 := hC.c0; have c1 := hC.c1; have c2 := hC.c2
    clear hA hB hC
    go_wp2_with fail
    refine (great3 _ _ _ _ _ _ _ _ _ _ _ Hs.out).mono ?_; rintro e w2 ⟨rfl, bb⟩
    have B2 := Lib.hid (thenB B1.out bb)
    clear bb
    go_wp2_with fail
    go_ret
    exact ⟨rfl, B2.out⟩
end Go.Proofs.YtodlamblemmckaaDoor
