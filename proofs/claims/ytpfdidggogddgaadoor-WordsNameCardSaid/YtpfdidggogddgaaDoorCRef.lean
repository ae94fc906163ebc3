/- The document's Numeral, ToInt and Base: the same plain functions of the text. -/
import Derived.Test.YtpfdidggogddgaaDoorCConv
namespace Go.Proofs.YtpfdidggogddgaaDoor
open Go.RowKit Go.Sort

theorem digits_is (s : ByteArray) (b : Nat) (w : World) (r o : Bool) (hs : s.size ≤ 9223372036854775807) (hb0 : 2 ≤ b) (hb1 : b ≤ 36) (hr : rndB b s.data.toList = r) (ho : okD b s.data.toList = o) :
    Calls Tryd.prog 65 #[.string s, .int .u64 b] w fun e w' => e = .returned (.tuple #[.int .u64 (whN b s.data.toList : Int), .bool r, .bool o]) ∧ w = w' := by
  have h := digits_yes s b w hs hb0 hb1
  rw [hr, ho] at h
  exact h
theorem digits_rest (s : ByteArray) (k b : Nat) (w : World) (hs : s.size ≤ 9223372036854775807) (hb0 : 2 ≤ b) (hb1 : b ≤ 36) :
    Calls Tryd.prog 65 #[.string (s.extract k s.size), .int .u64 b] w fun e w' => e = .returned (.tuple #[.int .u64 (whN b (s.data.toList.drop k) : Int), .bool (rndB b (s.data.toList.drop k)), .bool (okD b (s.data.toList.drop k))]) ∧ w = w' := by
  have h := digits_yes ⟨(s.data.toList.drop k).toArray⟩ b w (by rw [Lib.size_mk, List.length_drop, ← Lib.size_eq]; omega) hb0 hb1
  rw [drop_bytes] at h
  rw [show (s.extract k s.size).data.toList = s.data.toList.drop k by rw [← drop_bytes]] at h
  exact h

/-- How a text's first bytes tell a hex numeral. -/
theorem list2 (s : ByteArray) (h : 1 < s.size) : s.data.toList = s[0]'(by omega) :: s[1]'h :: s.data.toList.drop 2 := by
  have hl : 1 < s.data.toList.length := by rw [← Lib.size_eq]; exact h
  match hs : s.data.toList, hl with
  | a :: b :: t, _ =>
    have e0 : s[0]'(by omega) = s.data.toList[0]'(by omega) := rfl
    have e1 : s[1]'h = s.data.toList[1]'(by omega) := rfl
    rw [e0, e1]
    simp [hs]
theorem pre_two (a b x y : UInt8) (l : List UInt8) : Lib.hasPrefix (a :: b :: l) [x, y] = (x == a && y == b) := by
  simp [Lib.hasPrefix, List.isPrefixOf]
theorem hexB_long (s : ByteArray) (h : 1 < s.size) : hexB s.data.toList = (((48 : UInt8) == s[0]'(by omega)) && ((120 : UInt8) == s[1]'h || (88 : UInt8) == s[1]'h)) := by
  unfold hexB
  rw [list2 s h, pre_two, pre_two, Bool.and_or_distrib_left]
theorem hexB_short (s : ByteArray) (h : ¬ 1 < s.size) : hexB s.data.toList = false := by
  have hl : ¬ 1 < s.data.toList.length := by rw [← Lib.size_eq]; exact h
  match hs : s.data.toList with
  | [] => rfl
  | [_] => simp [hexB, Lib.hasPrefix, List.isPrefixOf]
  | _ :: _ :: _ => rw [hs] at hl; simp at hl
theorem u8_is (c : UInt8) (k : UInt8) : (k == c) = ((c.toNat : Int) == (k.toNat : Int)) := by
  rw [Bool.eq_iff_iff, beq_iff_eq, beq_iff_eq]
  constructor
  · rintro rfl; rfl
  · intro h; exact (UInt8.toNat_inj.1 (by omega)).symm
/-- The ways in which a text is no hex numeral. -/
theorem no_hex (s : ByteArray) (h : hexB s.data.toList = false) :
    (¬ 1 < s.size) ∨ (∃ h1 : 1 < s.size, (((s[0]'(by omega)).toNat : Int) == 48) = false) ∨
    (∃ h1 : 1 < s.size, (((s[0]'(by omega)).toNat : Int) == 48) = true ∧ (((s[1]'h1).toNat : Int) == 120) = false ∧ (((s[1]'h1).toNat : Int) == 88) = false) := by
  by_cases h1 : 1 < s.size
  · right
    rw [hexB_long s h1, u8_is, u8_is, u8_is] at h
    cases h0 : (((s[0]'(by omega)).toNat : Int) == 48)
    · exact .inl ⟨h1, h0⟩
    · right
      refine ⟨h1, h0, ?_⟩
      have h0' : (((s[0]'(by omega)).toNat : Int) == ((48 : UInt8).toNat : Int)) = true := h0
      rw [h0', Bool.true_and, Bool.or_eq_false_iff] at h
      exact h
  · exact .inl h1
theorem yes_hex (s : ByteArray) (h : hexB s.data.toList = true) :
    ∃ h1 : 1 < s.size, (((s[0]'(by omega)).toNat : Int) == 48) = true ∧ ((((s[1]'h1).toNat : Int) == 120) = true ∨ ((((s[1]'h1).toNat : Int) == 120) = false ∧ (((s[1]'h1).toNat : Int) == 88) = true)) := by
  by_cases h1 : 1 < s.size
  · rw [hexB_long s h1, u8_is, u8_is, u8_is, Bool.and_eq_true] at h
    refine ⟨h1, h.1, ?_⟩
    cases h2 : (((s[1]'h1).toNat : Int) == 120)
    · right
      refine ⟨rfl, ?_⟩
      have h2' : (((s[1]'h1).toNat : Int) == ((120 : UInt8).toNat : Int)) = false := h2
      have h3 := h.2
      rw [h2', Bool.false_or] at h3
      exact h3
    · exact .inl rfl
  · rw [hexB_short s h1] at h
    cases h

/-- What decimal digits come to, as the document's digits tells it. -/
theorem dec_ways (s : ByteArray) (m : Int) (hs : s.size ≤ 9223372036854775807) (hm : m ≤ 9223372036854775808) :
    ∃ (v : Int) (r o : Bool), (∀ w : World, Calls Tryd.prog 65 #[.string s, .int .u64 10] w fun e w' => e = .returned (.tuple #[.int .u64 v, .bool r, .bool o]) ∧ w = w') ∧
      ((o = false ∧ decO m s.data.toList = false) ∨ (o = true ∧ r = true ∧ decO m s.data.toList = false) ∨ (o = true ∧ r = false ∧ m < v ∧ decO m s.data.toList = false) ∨
       (o = true ∧ r = false ∧ v ≤ m ∧ decO m s.data.toList = true ∧ v = (decN m s.data.toList : Int))) := by
  refine ⟨_, _, _, fun w => digits_is s 10 w _ _ hs (by decide) (by decide) rfl rfl, ?_⟩
  cases ho : okD 10 s.data.toList
  · exact .inl ⟨rfl, decO_not ho⟩
  · right
    cases hr : rndB 10 s.data.toList
    · right
      rw [pl_short ho hr]
      by_cases hv : (val 10 s.data.toList : Int) ≤ m
      · exact .inr ⟨rfl, rfl, hv, decO_is ho hv, by rw [decN_is (decO_is ho hv)]⟩
      · exact .inl ⟨rfl, rfl, by omega, decO_more (by omega)⟩
    · exact .inl ⟨rfl, rfl, decO_round hm hr⟩

set_option maxHeartbeats 3200000 in
theorem plain_any (s : ByteArray) (m : Int) (w : World) (hs : s.size ≤ 9223372036854775807) (hm : m ≤ 9223372036854775808) :
    Calls Tryd.prog 50 #[.string s, .int .u64 m] w fun e w' => e = .returned (.tuple #[.int .i64 (sgn (numN m s.data.toList : Int)), .bool (numO m s.data.toList)]) ∧ w = w' := by
  cases hx : hexB s.data.toList
  · have HX := Lib.hid hx
    obtain ⟨v, r, o, hD, hW⟩ := dec_ways s m hs hm
    have HD := Lib.hid hD
    have hN := no_hex s hx
    clear hD hx hm
    rcases hW with ⟨rfl, h⟩ | ⟨rfl, rfl, h⟩ | ⟨rfl, rfl, hv, h⟩ | ⟨rfl, rfl, hv, h, h'⟩
    · have HO := Lib.hid h
      clear h
      rcases hN with h1 | ⟨h1, h2⟩ | ⟨h1, h2, h3, h4⟩
      all_goals
        go_enter Tryd.func50, Tryd.ntmps50
        go_wp2_with fail
        refine (HD.out _).mono ?_; rintro e w1 ⟨rfl, rfl⟩
        go_wp2_with fail
        go_ret2
        exact ⟨ret_in (by rw [numN_dec HX.out, decN_no HO.out]; rfl) (by rw [numO_dec HX.out]; exact HO.out.symm), rfl⟩
    · have HO := Lib.hid h
      clear h
      rcases hN with h1 | ⟨h1, h2⟩ | ⟨h1, h2, h3, h4⟩
      all_goals
        go_enter Tryd.func50, Tryd.ntmps50
        go_wp2_with fail
        refine (HD.out _).mono ?_; rintro e w1 ⟨rfl, rfl⟩
        go_wp2_with fail
        go_ret2
        exact ⟨ret_in (by rw [numN_dec HX.out, decN_no HO.out]; rfl) (by rw [numO_dec HX.out]; exact HO.out.symm), rfl⟩
    · have HO := Lib.hid h
      clear h
      rcases hN with h1 | ⟨h1, h2⟩ | ⟨h1, h2, h3, h4⟩
      all_goals
        go_enter Tryd.func50, Tryd.ntmps50
        go_wp2_with fail
        refine (HD.out _).mono ?_; rintro e w1 ⟨rfl, rfl⟩
        go_wp2_with fail
        go_ret2
        exact ⟨ret_in (by rw [numN_dec HX.out, decN_no HO.out]; rfl) (by rw [numO_dec HX.out]; exact HO.out.symm), rfl⟩
    · have HO := Lib.hid h
      have HV := Lib.hid h'
      clear h h'
      rcases hN with h1 | ⟨h1, h2⟩ | ⟨h1, h2, h3, h4⟩
      all_goals
        go_enter Tryd.func50, Tryd.ntmps50
        go_wp2_with fail
        refine (HD.out _).mono ?_; rintro e w1 ⟨rfl, rfl⟩
        go_wp2_with fail
        go_ret2
        exact ⟨ret_in (by rw [numN_dec HX.out, ← HV.out]; exact w64_sgn _) (by rw [numO_dec HX.out]; exact HO.out.symm), rfl⟩
  · have HX := Lib.hid hx
    obtain ⟨h1, h2, h3⟩ := yes_hex s hx
    clear hx hm
    rcases h3 with h3 | ⟨h3, h4⟩
    all_goals
      go_enter Tryd.func50, Tryd.ntmps50
      go_wp2_with fail
      refine (digits_rest _ 2 16 _ hs (by decide) (by decide)).mono ?_; rintro e w1 ⟨rfl, rfl⟩
      go_wp2_with fail
      go_ret2
      exact ⟨ret_in (by rw [numN_hex HX.out]; exact w64_sgn _) (numO_hex HX.out).symm, rfl⟩

set_option maxHeartbeats 800000 in
theorem rNumeral (s : ByteArray) (w : World) (hs : s.size ≤ 9223372036854775807) :
    Calls Tryd.prog 51 #[.string s] w fun e w' => e = .returned (.tuple #[.int .i64 (sgn (numN 9223372036854775807 s.data.toList : Int)), .bool (numO 9223372036854775807 s.data.toList)]) ∧ w = w' := by
  go_enter Tryd.func51, Tryd.ntmps51
  go_wp2_with fail
  refine (plain_any _ _ _ hs (by omega)).mono ?_; rintro e w1 ⟨rfl, rfl⟩
  go_wp2_with fail
  go_ret2
  exact ⟨rfl, rfl⟩

/-- What the first byte of a text tells. -/
theorem list1 (s : ByteArray) (h : 0 < s.size) : s.data.toList = s[0]'h :: s.data.toList.drop 1 := by
  have hl : 0 < s.data.toList.length := by rw [← Lib.size_eq]; exact h
  match hs : s.data.toList, hl with
  | a :: t, _ =>
    have e0 : s[0]'h = s.data.toList[0]'(by omega) := rfl
    rw [e0]
    simp [hs]
theorem pre_one (a x : UInt8) (l : List UInt8) : Lib.hasPrefix (a :: l) [x] = (x == a) := by simp [Lib.hasPrefix, List.isPrefixOf]
theorem pre_first (s : ByteArray) (h : 0 < s.size) (x : UInt8) : Lib.hasPrefix s.data.toList [x] = (((s[0]'h).toNat : Int) == (x.toNat : Int)) := by
  rw [list1 s h, pre_one, u8_is]
theorem pre_none (s : ByteArray) (h : ¬ 0 < s.size) (x : UInt8) : Lib.hasPrefix s.data.toList [x] = false := by rw [emp_yes s h]; rfl
theorem plain_rest (s : ByteArray) (m : Int) (w : World) (hs : s.size ≤ 9223372036854775807) (hm : m ≤ 9223372036854775808) :
    Calls Tryd.prog 50 #[.string (s.extract 1 s.size), .int .u64 m] w fun e w' => e = .returned (.tuple #[.int .i64 (sgn (numN m (s.data.toList.tail) : Int)), .bool (numO m (s.data.toList.tail))]) ∧ w = w' := by
  have h := plain_any ⟨(s.data.toList.drop 1).toArray⟩ m w (by rw [Lib.size_mk, List.length_drop, ← Lib.size_eq]; omega) hm
  rw [drop_bytes] at h
  rw [show (s.extract 1 s.size).data.toList = s.data.toList.drop 1 by rw [← drop_bytes], List.drop_one] at h
  exact h
theorem rNumeral_rest (s : ByteArray) (w : World) (hs : s.size ≤ 9223372036854775807) :
    Calls Tryd.prog 51 #[.string (s.extract 1 s.size)] w fun e w' => e = .returned (.tuple #[.int .i64 (sgn (numN 9223372036854775807 (s.data.toList.tail) : Int)), .bool (numO 9223372036854775807 (s.data.toList.tail))]) ∧ w = w' := by
  have h := rNumeral ⟨(s.data.toList.drop 1).toArray⟩ w (by rw [Lib.size_mk, List.length_drop, ← Lib.size_eq]; omega)
  rw [drop_bytes] at h
  rw [show (s.extract 1 s.size).data.toList = s.data.toList.drop 1 by rw [← drop_bytes], List.drop_one] at h
  exact h
theorem sgn_back (n : Int) : sgn (IntKind.u64.wrap (-IntKind.u64.wrap (sgn n))) = sgn (-n) := by rw [IntKind.wrap_u64, IntKind.wrap_u64]; unfold sgn; omega
theorem cutp_drop {l : List UInt8} (h : Lib.hasPrefix l [43] = true) : Lib.trimPrefix l [43] = l.drop 1 := by unfold Lib.trimPrefix; rw [if_pos h]; rfl
theorem cutp_keep {l : List UInt8} (h : Lib.hasPrefix l [43] = false) : Lib.trimPrefix l [43] = l := by unfold Lib.trimPrefix; rw [h]; rfl

set_option maxHeartbeats 1600000 in
theorem rToInt (s : ByteArray) (w : World) (hs : s.size ≤ 9223372036854775807) :
    Calls Tryd.prog 42 #[.string s] w fun e w' => e = .returned (.tuple #[.int .i64 (toN s.data.toList), .bool (toO s.data.toList)]) ∧ w = w' := by
  have hz := trm_size s
  have HT := Lib.hid (show (⟨(trm s.data.toList).toArray⟩ : ByteArray).data.toList = trm s.data.toList from rfl)
  have HC := Lib.hid (rtrim_any s · hs)
  generalize (⟨(trm s.data.toList).toArray⟩ : ByteArray) = t at hz HT HC
  by_cases h0 : 0 < t.size
  · cases h1 : (((t[0]'h0).toNat : Int) == 45)
    · have HM := Lib.hid (show minB t.data.toList = false from (pre_first t h0 45).trans h1)
      have ho : toO s.data.toList = numO 9223372036854775807 (Lib.trimPrefix t.data.toList [43]) := by unfold toO; rw [← HT.out, if_neg (by rw [HM.out]; exact Bool.false_ne_true)]
      have hn : toN s.data.toList = sgn (numN 9223372036854775807 (Lib.trimPrefix t.data.toList [43]) : Int) := by unfold toN; rw [← HT.out, if_neg (by rw [HM.out]; exact Bool.false_ne_true)]
      cases h2 : (((t[0]'h0).toNat : Int) == 43)
      · rw [cutp_keep ((pre_first t h0 43).trans h2)] at ho hn
        have HO := Lib.hid ho; have HN := Lib.hid hn
        clear ho hn
        go_enter Tryd.func42, Tryd.ntmps42
        go_wp2_with fail
        refine (HC.out _).mono ?_; rintro e w1 ⟨rfl, rfl⟩
        go_wp2_with fail
        refine (rNumeral _ _ (by omega)).mono ?_; rintro e w1 ⟨rfl, rfl⟩
        go_wp2_with fail
        go_ret2
        exact ⟨ret_in HN.out.symm HO.out.symm, rfl⟩
      · rw [cutp_drop ((pre_first t h0 43).trans h2), List.drop_one] at ho hn
        have HO := Lib.hid ho; have HN := Lib.hid hn
        clear ho hn
        go_enter Tryd.func42, Tryd.ntmps42
        go_wp2_with fail
        refine (HC.out _).mono ?_; rintro e w1 ⟨rfl, rfl⟩
        go_wp2_with fail
        refine (rNumeral_rest _ _ (by omega)).mono ?_; rintro e w1 ⟨rfl, rfl⟩
        go_wp2_with fail
        go_ret2
        exact ⟨ret_in HN.out.symm HO.out.symm, rfl⟩
    · have HM := Lib.hid (show minB t.data.toList = true from (pre_first t h0 45).trans h1)
      have HO := Lib.hid (show toO s.data.toList = numO 9223372036854775808 t.data.toList.tail by unfold toO; rw [← HT.out, if_pos HM.out, List.drop_one])
      have HN := Lib.hid (show toN s.data.toList = sgn (-(numN 9223372036854775808 t.data.toList.tail : Int)) by unfold toN; rw [← HT.out, if_pos HM.out, List.drop_one])
      go_enter Tryd.func42, Tryd.ntmps42
      go_wp2_with fail
      refine (HC.out _).mono ?_; rintro e w1 ⟨rfl, rfl⟩
      go_wp2_with fail
      refine (plain_rest _ _ _ (by omega) (by omega)).mono ?_; rintro e w1 ⟨rfl, rfl⟩
      go_wp2_with fail
      go_ret2
      refine ⟨ret_in ?_ HO.out.symm, rfl⟩
      rw [HN.out]
      exact (w64_sgn _).trans (sgn_back _)
  · have HM := Lib.hid (show minB t.data.toList = false from pre_none t h0 45)
    have ho : toO s.data.toList = numO 9223372036854775807 (Lib.trimPrefix t.data.toList [43]) := by unfold toO; rw [← HT.out, if_neg (by rw [HM.out]; exact Bool.false_ne_true)]
    have hn : toN s.data.toList = sgn (numN 9223372036854775807 (Lib.trimPrefix t.data.toList [43]) : Int) := by unfold toN; rw [← HT.out, if_neg (by rw [HM.out]; exact Bool.false_ne_true)]
    rw [cutp_keep (pre_none t h0 43)] at ho hn
    have HO := Lib.hid ho; have HN := Lib.hid hn
    clear ho hn
    go_enter Tryd.func42, Tryd.ntmps42
    go_wp2_with fail
    refine (HC.out _).mono ?_; rintro e w1 ⟨rfl, rfl⟩
    go_wp2_with fail
    refine (rNumeral _ _ (by omega)).mono ?_; rintro e w1 ⟨rfl, rfl⟩
    go_wp2_with fail
    go_ret2
    exact ⟨ret_in HN.out.symm HO.out.symm, rfl⟩

end Go.Proofs.YtpfdidggogddgaaDoor
