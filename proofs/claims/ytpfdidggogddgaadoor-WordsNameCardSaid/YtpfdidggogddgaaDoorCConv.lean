/- conv.Numeral, ToInt and Base, and the document's: the plain functions numO, numN, toO, toN, basO, basN of the text. -/
import Derived.Test.YtpfdidggogddgaaDoorCMath2
import Derived.Test.YtpfdidggogddgaaDoorCTrm
import Derived.Test.YtpfdidggogddgaaDoorShelf
import Derived.Shelf.Strings.SlTrimAscii
namespace Go.Proofs.YtpfdidggogddgaaDoor
open Go.RowKit Go.Sort

theorem ret_in {a a' : Int} {o o' : Bool} (h : a = a') (h' : o = o') : Ending.returned (.tuple #[.int .i64 a, .bool o]) = .returned (.tuple #[.int .i64 a', .bool o']) := by rw [h, h']
theorem left0 (s : ByteArray) (w : World) : Calls Tryd.prog 76 #[.string s, .string ⟨#[48]⟩] w fun e w' => e = .returned (.string ⟨(Lib.trimLeftB s.data.toList 48).toArray⟩) ∧ w = w' :=
  (Tryd.strings_TrimLeft_one s 48 (by decide) w).mono fun _ _ ⟨h, h'⟩ => ⟨h, h'.symm⟩

theorem whole_no (s : ByteArray) (b : Nat) (w : World) (hs : s.size ≤ 9223372036854775807) (h : okD b s.data.toList = false) :
    Calls Tryd.prog 62 #[.string s, .int .u64 b] w fun e w' => e = .returned (.tuple #[.int .u64 0, .bool false]) ∧ w = w' := by
  have hc := whole_any s b w hs
  rw [whN_no h, h] at hc
  exact hc
theorem whole_yes (s : ByteArray) (b : Nat) (w : World) (hs : s.size ≤ 9223372036854775807) (h : okD b s.data.toList = true) :
    Calls Tryd.prog 62 #[.string s, .int .u64 b] w fun e w' => e = .returned (.tuple #[.int .u64 (whN b s.data.toList : Int), .bool true]) ∧ w = w' := by
  have hc := whole_any s b w hs
  rw [h] at hc
  exact hc

set_option maxHeartbeats 800000 in
theorem decimal_any (s : ByteArray) (m : Int) (w : World) (hs : s.size ≤ 9223372036854775807) (hm : m ≤ 9223372036854775808) :
    Calls Tryd.prog 63 #[.string s, .int .u64 m] w fun e w' => e = .returned (.tuple #[.int .u64 (decN m s.data.toList : Int), .bool (decO m s.data.toList)]) ∧ w = w' := by
  cases ho : okD 10 s.data.toList
  · have HN := Lib.hid (decO_not (m := m) ho)
    have HO := Lib.hid ho
    clear ho
    go_enter Tryd.func63, Tryd.ntmps63
    go_wp2_with fail
    refine (whole_no s 10 _ hs HO.out).mono ?_; rintro e w1 ⟨rfl, rfl⟩
    go_wp2_with fail
    go_ret2
    exact ⟨ret_wh (by rw [decN_no HN.out]; rfl) HN.out.symm, rfl⟩
  · have HO := Lib.hid ho
    by_cases hl : (Lib.trimLeftB s.data.toList 48).length ≤ 19
    · have HW := Lib.hid (dec_short ho hl)
      clear ho
      obtain ⟨v, hv⟩ : ∃ v : Int, v = (val 10 s.data.toList : Int) := ⟨_, rfl⟩
      have HV := Lib.hid hv
      have HC := Lib.hid (fun (w : World) => HV.out ▸ HW.out ▸ whole_yes s 10 w hs HO.out)
      clear hv
      by_cases hvm : v ≤ m
      · have HN := Lib.hid (decO_is HO.out (HV.out ▸ hvm))
        go_enter Tryd.func63, Tryd.ntmps63
        go_wp2_with fail
        refine (HC.out _).mono ?_; rintro e w1 ⟨rfl, rfl⟩
        go_wp2_with fail
        refine (left0 _ _).mono ?_; rintro e w2 ⟨rfl, rfl⟩
        go_wp2_with fail
        go_ret2
        exact ⟨ret_wh (by rw [decN_is HN.out]; exact HV.out) HN.out.symm, rfl⟩
      · have HN := Lib.hid (decO_more (HV.out ▸ Int.lt_of_not_ge hvm))
        go_enter Tryd.func63, Tryd.ntmps63
        go_wp2_with fail
        refine (HC.out _).mono ?_; rintro e w1 ⟨rfl, rfl⟩
        go_wp2_with fail
        refine (left0 _ _).mono ?_; rintro e w2 ⟨rfl, rfl⟩
        go_wp2_with fail
        go_ret2
        exact ⟨ret_wh (by rw [decN_no HN.out]; rfl) HN.out.symm, rfl⟩
    · have HN := Lib.hid (decO_long hm ho (Nat.lt_of_not_le hl))
      clear ho
      go_enter Tryd.func63, Tryd.ntmps63
      go_wp2_with fail
      refine (whole_yes s 10 _ hs HO.out).mono ?_; rintro e w1 ⟨rfl, rfl⟩
      go_wp2_with fail
      refine (left0 _ _).mono ?_; rintro e w2 ⟨rfl, rfl⟩
      go_wp2_with fail
      go_ret2
      exact ⟨ret_wh (by rw [decN_no HN.out]; rfl) HN.out.symm, rfl⟩

theorem hasP_is (s p : ByteArray) (w : World) (r : Bool) (h : Lib.hasPrefix s.data.toList p.data.toList = r) : Calls Tryd.prog 61 #[.string s, .string p] w fun e w' => e = .returned (.bool r) ∧ w = w' :=
  (Tryd.strings_HasPrefix s p w).mono fun _ _ ⟨a, b⟩ => ⟨by rw [a, h], b.symm⟩
theorem drop_bytes (s : ByteArray) (k : Nat) : (⟨(s.data.toList.drop k).toArray⟩ : ByteArray) = s.extract k s.size := by
  rw [Lib.extract_eq, List.take_of_length_le (by rw [List.length_drop, Lib.size_eq]; omega)]
theorem pre2 {s : ByteArray} {a b : UInt8} (h : Lib.hasPrefix s.data.toList [a, b] = true) : 2 ≤ s.size := by
  rw [Lib.size_eq]
  unfold Lib.hasPrefix at h
  match hs : s.data.toList, h with
  | [], h => simp [List.isPrefixOf] at h
  | [_], h => simp [List.isPrefixOf] at h
  | _ :: _ :: _, _ => simp
theorem hexB_1 {l : List UInt8} (h : Lib.hasPrefix l [48, 120] = true) : hexB l = true := by unfold hexB; rw [h]; rfl
theorem hexB_2 {l : List UInt8} (h : Lib.hasPrefix l [48, 88] = true) : hexB l = true := by unfold hexB; rw [h]; simp
theorem hexB_0 {l : List UInt8} (h : Lib.hasPrefix l [48, 120] = false) (h' : Lib.hasPrefix l [48, 88] = false) : hexB l = false := by unfold hexB; rw [h, h']; rfl
theorem numO_hex {m : Int} {l : List UInt8} (h : hexB l = true) : numO m l = okD 16 (l.drop 2) := by unfold numO; simp [h]
theorem numN_hex {m : Int} {l : List UInt8} (h : hexB l = true) : numN m l = whN 16 (l.drop 2) := by unfold numN; simp [h]
theorem numO_dec {m : Int} {l : List UInt8} (h : hexB l = false) : numO m l = decO m l := by unfold numO; simp [h]
theorem numN_dec {m : Int} {l : List UInt8} (h : hexB l = false) : numN m l = decN m l := by unfold numN; simp [h]
theorem whole_rest (s : ByteArray) (k b : Nat) (w : World) (hs : s.size ≤ 9223372036854775807) :
    Calls Tryd.prog 62 #[.string (s.extract k s.size), .int .u64 b] w fun e w' => e = .returned (.tuple #[.int .u64 (whN b (s.data.toList.drop k) : Int), .bool (okD b (s.data.toList.drop k))]) ∧ w = w' := by
  have h := whole_any ⟨(s.data.toList.drop k).toArray⟩ b w (by rw [Lib.size_mk, List.length_drop, ← Lib.size_eq]; omega)
  rw [drop_bytes] at h
  rw [show (s.extract k s.size).data.toList = s.data.toList.drop k by rw [← drop_bytes]] at h
  exact h

set_option maxHeartbeats 800000 in
theorem numeral_any (s : ByteArray) (m : Int) (w : World) (hs : s.size ≤ 9223372036854775807) (hm : m ≤ 9223372036854775808) :
    Calls Tryd.prog 46 #[.string s, .int .u64 m] w fun e w' => e = .returned (.tuple #[.int .u64 (numN m s.data.toList : Int), .bool (numO m s.data.toList)]) ∧ w = w' := by
  have HM := Lib.hid hm
  clear hm
  cases h1 : Lib.hasPrefix s.data.toList [48, 120]
  · cases h2 : Lib.hasPrefix s.data.toList [48, 88]
    · have HX := Lib.hid (hexB_0 h1 h2)
      have H1 := Lib.hid h1; have H2 := Lib.hid h2
      clear h1 h2
      go_enter Tryd.func46, Tryd.ntmps46
      go_wp2_with fail
      refine (hasP_is _ _ _ _ H1.out).mono ?_; rintro e w1 ⟨rfl, rfl⟩
      go_wp2_with fail
      refine (hasP_is _ _ _ _ H2.out).mono ?_; rintro e w1 ⟨rfl, rfl⟩
      go_wp2_with fail
      refine (decimal_any _ _ _ hs HM.out).mono ?_; rintro e w1 ⟨rfl, rfl⟩
      go_wp2_with fail
      go_ret2
      exact ⟨ret_wh (by rw [numN_dec HX.out]) (numO_dec HX.out).symm, rfl⟩
    · have HX := Lib.hid (hexB_2 h2)
      have H1 := Lib.hid h1; have H2 := Lib.hid h2
      have hz := pre2 h2
      clear h1 h2
      go_enter Tryd.func46, Tryd.ntmps46
      go_wp2_with fail
      refine (hasP_is _ _ _ _ H1.out).mono ?_; rintro e w1 ⟨rfl, rfl⟩
      go_wp2_with fail
      refine (hasP_is _ _ _ _ H2.out).mono ?_; rintro e w1 ⟨rfl, rfl⟩
      go_wp2_with fail
      refine (whole_rest _ 2 16 _ hs).mono ?_; rintro e w1 ⟨rfl, rfl⟩
      go_wp2_with fail
      go_ret2
      exact ⟨ret_wh (by rw [numN_hex HX.out]) (numO_hex HX.out).symm, rfl⟩
  · have HX := Lib.hid (hexB_1 h1)
    have H1 := Lib.hid h1
    have hz := pre2 h1
    clear h1
    go_enter Tryd.func46, Tryd.ntmps46
    go_wp2_with fail
    refine (hasP_is _ _ _ _ H1.out).mono ?_; rintro e w1 ⟨rfl, rfl⟩
    go_wp2_with fail
    refine (whole_rest _ 2 16 _ hs).mono ?_; rintro e w1 ⟨rfl, rfl⟩
    go_wp2_with fail
    go_ret2
    exact ⟨ret_wh (by rw [numN_hex HX.out]) (numO_hex HX.out).symm, rfl⟩

theorem w64_sgn (n : Int) : wrap64 n = sgn n := by unfold wrap64 sgn; rfl
theorem i64_sgn (n : Int) : IntKind.i64.wrap n = sgn n := by rw [IntKind.wrap_i64]; rfl
theorem sgn_neg (n : Int) : sgn (-sgn n) = sgn (-n) := by unfold sgn; omega
theorem sgn_u64 (n : Int) : sgn (IntKind.u64.wrap n) = sgn n := by rw [IntKind.wrap_u64]; unfold sgn; omega

set_option maxHeartbeats 800000 in
theorem cNumeral (s : ByteArray) (w : World) (hs : s.size ≤ 9223372036854775807) :
    Calls Tryd.prog 47 #[.string s] w fun e w' => e = .returned (.tuple #[.int .i64 (sgn (numN 9223372036854775807 s.data.toList : Int)), .bool (numO 9223372036854775807 s.data.toList)]) ∧ w = w' := by
  go_enter Tryd.func47, Tryd.ntmps47
  go_wp2_with fail
  refine (numeral_any _ _ _ hs (by omega)).mono ?_; rintro e w1 ⟨rfl, rfl⟩
  go_wp2_with fail
  go_ret2
  exact ⟨ret_in (by first | exact w64_sgn _ | exact i64_sgn _) rfl, rfl⟩

theorem trim_any (s : ByteArray) (w : World) (hs : s.size ≤ 9223372036854775807) :
    Calls Tryd.prog 44 #[.string s, .string ⟨#[9, 10, 11, 12, 13, 32]⟩] w fun e w' => e = .returned (.string ⟨(trm s.data.toList).toArray⟩) ∧ Below w.heap.size w w' :=
  Any.strings_Trim_laid Tryd.lays160 (by kernel_rfl) s ⟨#[9, 10, 11, 12, 13, 32]⟩ w hs (by decide) (ascii_of_all (by decide))
theorem trm_size (s : ByteArray) : (⟨(trm s.data.toList).toArray⟩ : ByteArray).size ≤ s.size := by
  rw [Lib.size_mk, Lib.size_eq]
  exact trm_le _
theorem cutM (t : ByteArray) (w : World) (r : Bool) (h : minB t.data.toList = r) :
    Calls Tryd.prog 45 #[.string t, .string ⟨#[45]⟩] w fun e w' => e = .returned (.tuple #[.string ⟨(Lib.trimPrefix t.data.toList [45]).toArray⟩, .bool r]) ∧ w = w' :=
  (Tryd.strings_CutPrefix t ⟨#[45]⟩ w).mono fun _ _ ⟨a, b⟩ => ⟨by rw [a, ← h]; rfl, b.symm⟩
theorem cutP (t : ByteArray) (w : World) :
    Calls Tryd.prog 48 #[.string t, .string ⟨#[43]⟩] w fun e w' => e = .returned (.string ⟨(Lib.trimPrefix t.data.toList [43]).toArray⟩) ∧ w = w' :=
  (Tryd.strings_TrimPrefix t ⟨#[43]⟩ w).mono fun _ _ ⟨a, b⟩ => ⟨a, b.symm⟩
theorem cut_size (t : ByteArray) (p : List UInt8) : (⟨(Lib.trimPrefix t.data.toList p).toArray⟩ : ByteArray).size ≤ t.size := by
  rw [Lib.size_mk, Lib.size_eq]
  exact Lib.trimPrefix_le _ _
theorem cut_drop {l : List UInt8} (h : minB l = true) : Lib.trimPrefix l [45] = l.drop 1 := by unfold Lib.trimPrefix; unfold minB at h; rw [if_pos h]; rfl
theorem cut_keep {l : List UInt8} (h : minB l = false) : Lib.trimPrefix l [45] = l := by unfold Lib.trimPrefix; unfold minB at h; rw [h]; rfl

set_option maxHeartbeats 800000 in
theorem cToInt (s : ByteArray) (w : World) (hs : s.size ≤ 9223372036854775807) :
    Calls Tryd.prog 41 #[.string s] w fun e w' => e = .returned (.tuple #[.int .i64 (toN s.data.toList), .bool (toO s.data.toList)]) ∧ Below w.heap.size w w' := by
  have hz := trm_size s
  have HT := Lib.hid (show (⟨(trm s.data.toList).toArray⟩ : ByteArray).data.toList = trm s.data.toList from rfl)
  have HC := Lib.hid (trim_any s · hs)
  generalize (⟨(trm s.data.toList).toArray⟩ : ByteArray) = t at hz HT HC
  have hp := cut_size t [43]
  have hm := cut_size t [45]
  cases h : minB t.data.toList
  · have HH := Lib.hid h
    clear h
    have ho : toO s.data.toList = numO 9223372036854775807 (Lib.trimPrefix t.data.toList [43]) := by unfold toO; rw [← HT.out, if_neg (by rw [HH.out]; exact Bool.false_ne_true)]
    have hn : toN s.data.toList = sgn (numN 9223372036854775807 (Lib.trimPrefix t.data.toList [43]) : Int) := by unfold toN; rw [← HT.out, if_neg (by rw [HH.out]; exact Bool.false_ne_true)]
    have HO := Lib.hid ho; have HN := Lib.hid hn
    clear ho hn
    go_enter Tryd.func41, Tryd.ntmps41
    go_wp2_with fail
    refine (HC.out _).mono ?_; rintro e w1 ⟨rfl, b1⟩
    go_wp2_with fail
    refine (cutM _ _ _ HH.out).mono ?_; rintro e w2 ⟨rfl, rfl⟩
    go_wp2_with fail
    refine (cutP _ _).mono ?_; rintro e w2 ⟨rfl, rfl⟩
    go_wp2_with fail
    refine (cNumeral _ _ (by omega)).mono ?_; rintro e w2 ⟨rfl, rfl⟩
    go_wp2_with fail
    go_ret2
    exact ⟨ret_in HN.out.symm HO.out.symm, b1⟩
  · have HH := Lib.hid h
    clear h
    have ho : toO s.data.toList = numO 9223372036854775808 (Lib.trimPrefix t.data.toList [45]) := by unfold toO; rw [← HT.out, if_pos HH.out, cut_drop HH.out]
    have hn : toN s.data.toList = sgn (-(numN 9223372036854775808 (Lib.trimPrefix t.data.toList [45]) : Int)) := by unfold toN; rw [← HT.out, if_pos HH.out, cut_drop HH.out]
    have HO := Lib.hid ho; have HN := Lib.hid hn
    clear ho hn
    go_enter Tryd.func41, Tryd.ntmps41
    go_wp2_with fail
    refine (HC.out _).mono ?_; rintro e w1 ⟨rfl, b1⟩
    go_wp2_with fail
    refine (cutM _ _ _ HH.out).mono ?_; rintro e w2 ⟨rfl, rfl⟩
    go_wp2_with fail
    refine (numeral_any _ _ _ (by omega) (by omega)).mono ?_; rintro e w2 ⟨rfl, rfl⟩
    go_wp2_with fail
    go_ret2
    refine ⟨ret_in ?_ HO.out.symm, b1⟩
    rw [HN.out, ← sgn_neg]
    rw [w64_sgn, w64_sgn]

end Go.Proofs.YtpfdidggogddgaaDoor
