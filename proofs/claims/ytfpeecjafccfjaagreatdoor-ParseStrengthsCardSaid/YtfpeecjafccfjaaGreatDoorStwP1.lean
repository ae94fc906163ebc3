/- Parts of the proof: Laid, Str, Bar, StrA, StrB, Stw. -/
import Derived.Test.YtfpeecjafccfjaaGreatDoorCards
import Derived.Test.YtfpeecjafccfjaaGreatDoorTie
import Derived.ProofKit
import Derived.LaidMore
import Derived.LaidHandle
import Derived.Lay
import Derived.OpenShut
import Derived.SizedLaws
import Derived.Stop.Joined
import Derived.Stop.LaidErr
import Derived.Lib.LaidTab
import Derived.BigQuiet
import Derived.Great.Walk
import Derived.Laws.Rows
import Derived.Maps.AppendAt
import Derived.RangeFuncBox
import Derived.Deep.Cut
import Derived.Lib.QuietBelow
import Derived.Test.YtfpeecjafccfjaaGreatDoorK15
namespace Go.Proofs.YtfpeecjafccfjaaGreatDoor
open Go.ChangeShapes Go.WideShapes Go.ChangeAt Go.WideMaps Go.WideElems Go.RowKit Go.ChangeMaps
theorem u8_lo {n : Int} (h : (Lit.int .u8 n).wf = true) : 0 ≤ n := by
  have h' : (decide (IntKind.u8.min ≤ n) && decide (n ≤ IntKind.u8.max)) = true := h
  simp only [Bool.and_eq_true, decide_eq_true_eq] at h'
  exact h'.1
theorem u8_hi {n : Int} (h : (Lit.int .u8 n).wf = true) : n ≤ 255 := by
  have h' : (decide (IntKind.u8.min ≤ n) && decide (n ≤ IntKind.u8.max)) = true := h
  simp only [Bool.and_eq_true, decide_eq_true_eq] at h'
  exact h'.2
end Go.Proofs.YtfpeecjafccfjaaGreatDoor
namespace Go.Proofs.YtfpeecjafccfjaaGreatDoor
open Go.RowKit
def pfxB : List UInt8 := [40, 112, 97, 114, 101, 110, 64, 49, 32]
def closeF : Nat → List UInt8 → Option (List UInt8 × List UInt8)
  | _, [] => none
  | d, c :: t => if c = 40 then (closeF (d + 1) t).map fun x => (c :: x.1, x.2)
    else if c = 41 then (if d = 1 then some ([], t) else (closeF (d - 1) t).map fun x => (c :: x.1, x.2))
    else (closeF d t).map fun x => (c :: x.1, x.2)
def bareF : List UInt8 → List UInt8 → Option (List UInt8)
  | _, [] => none
  | out, c :: t => if Lib.hasPrefix (c :: t) pfxB then (match closeF 0 (c :: t) with
      | none => none
      | some x => if 9 ≤ x.1.length then some (out ++ x.1.drop 9 ++ x.2) else none)
    else bareF (out ++ [c]) t
def opsB : List (List UInt8) := [[111, 114], [97, 110, 100], [60], [62], [60, 61], [62, 61], [126, 61], [61, 61], [124], [126], [38], [60, 60], [62, 62], [46, 46], [43], [45], [42], [47, 47], [37]]
def strB : List Nat := [1, 2, 3, 3, 3, 3, 3, 3, 4, 5, 6, 7, 7, 8, 9, 9, 10, 10, 10]
def opA (i : Nat) : List UInt8 := opsB.getD i []
def stA (i : Nat) : Nat := strB.getD i 0
def ba (l : List UInt8) : ByteArray := ⟨l.toArray⟩
def plainA (i k : Nat) : List UInt8 := [114, 101, 116, 117, 114, 110, 32, 120, 32] ++ opA i ++ [32, 121, 32] ++ opA k ++ [32, 122]
def leftA (i k : Nat) : List UInt8 := [114, 101, 116, 117, 114, 110, 32, 40, 32, 120, 32] ++ opA i ++ [32, 121, 32, 41, 32] ++ opA k ++ [32, 122]
def rightA (i k : Nat) : List UInt8 := [114, 101, 116, 117, 114, 110, 32, 120, 32] ++ opA i ++ [32, 40, 32, 121, 32] ++ opA k ++ [32, 122, 32, 41]
def toLeftA (i k : Nat) : Bool := decide (stA k < stA i) || (decide (stA i = stA k) && decide (i ≠ 13))
def chkA (i k : Nat) : Bool :=
  match sayF (ba (plainA i k)), sayF (ba (leftA i k)), sayF (ba (rightA i k)) with
  | some (p, n, _), some (l, m, _), some (r, o, _) => decide (n = 0) && decide (m = 0) && decide (o = 0) && decide (l.length ≤ 1000000) && decide (r.length ≤ 1000000) && (match bareF [] l, bareF [] r with
    | some bl, some br => if toLeftA i k then decide (p = bl) && !decide (p = br) else decide (p = br) && !decide (p = bl)
    | _, _ => false)
  | _, _, _ => false
end Go.Proofs.YtfpeecjafccfjaaGreatDoor
namespace Go.Proofs.YtfpeecjafccfjaaGreatDoor
open Go.RowKit
theorem get_drop (s : ByteArray) (p : Nat) (h : p < s.size) : s.data.toList.drop p = s[p] :: s.data.toList.drop (p + 1) := by
  rw [List.drop_eq_getElem_cons (by rw [← Lib.size_eq]; exact h)]
  rfl
theorem pre_take (s : ByteArray) (j : Nat) : ((s.extract j (j + 9)).toList == [40, 112, 97, 114, 101, 110, 64, 49, 32]) = Lib.hasPrefix (s.data.toList.drop j) pfxB := by
  rw [Lib.toList_data, ext_list, show j + 9 - j = 9 by omega, Bool.eq_iff_iff, beq_iff_eq]
  unfold Lib.hasPrefix
  rw [List.isPrefixOf_iff_prefix, List.prefix_iff_eq_take]
  exact eq_comm
set_option maxHeartbeats 4000000 in
theorem bare_any (s : ByteArray) (r : List UInt8) (w : World) (hs : s.size ≤ 1000000) (h : bareF [] s.data.toList = some r) : Calls Tryz.prog 14 #[.string s] w fun e w' => e = .returned (.string ⟨r.toArray⟩) ∧ Below w.heap.size w w' := by
  have H := Lib.hid h
  clear h
  go_enter Tryz.func14, Tryz.ntmps14
  go_wp2_with fail
  go_loop [3, 4] (fun vo vj => ∃ (j : Nat) (o : ByteArray), j ≤ s.size ∧ vj = .int .i64 (j : Int) ∧ vo = .string o ∧ o.size = j ∧ bareF o.data.toList (s.data.toList.drop j) = some r) (fun _ vj => s.size - (intOf vj).toNat)
  case atStart => exact ⟨0, ⟨#[]⟩, Nat.zero_le _, rfl, rfl, rfl, H.out⟩
  case round =>
    obtain ⟨j, o, hj, rfl, rfl, ho, hb⟩ := hrel
    have hlt : j < s.size := by
      rcases Nat.lt_or_ge j s.size with h | h
      · exact h
      · rw [List.drop_of_length_le (by rw [← Lib.size_eq]; exact h)] at hb
        cases hb
    rw [get_drop s j hlt, bareF, ← get_drop s j hlt] at hb
    have hpt := pre_take s j
    by_cases hp : Lib.hasPrefix (s.data.toList.drop j) pfxB = true
    · rw [if_pos hp] at hb
      rw [hp] at hpt
      have hl : j + 9 ≤ s.size := by
        unfold Lib.hasPrefix at hp
        have h1 := (List.isPrefixOf_iff_prefix.1 hp).length_le
        rw [List.length_drop, ← Lib.size_eq] at h1
        have : pfxB.length = 9 := rfl
        omega
      have hc0 : s.data.toList.drop j ≠ [] ∧ s[j] = 40 := by
        unfold Lib.hasPrefix at hp
        obtain ⟨t, ht⟩ := List.isPrefixOf_iff_prefix.1 hp
        rw [get_drop s j hlt] at ht ⊢
        injection ht with ht _
        exact ⟨by simp, ht.symm⟩
      cases hcl : closeF 0 (s.data.toList.drop j) with
      | none => rw [hcl] at hb; cases hb
      | some x =>
        rw [hcl] at hb
        dsimp only at hb
        by_cases h9 : 9 ≤ x.1.length
        · rw [if_pos h9] at hb
          injection hb with hb
          have HR := Lib.hid hb
          have HC := Lib.hid hcl
          have H0 := Lib.hid hc0
          clear hb hcl hc0 hp
          have gl : decide ((j : Int) + 9 ≤ (s.size : Int)) = true := decide_eq_true (by omega)
          go_wp2_with fail
          go_loop [5, 7] (fun vd vp => ∃ (d p : Nat) (y : List UInt8), j ≤ p ∧ p ≤ s.size ∧ d ≤ p ∧ vd = .int .i64 (d : Int) ∧ vp = .int .i64 (p : Int) ∧ closeF d (s.data.toList.drop p) = some (y, x.2) ∧ x.1 = (s.data.toList.drop j).take (p - j) ++ y ∧ (1 ≤ d ∨ p = j)) (fun _ vp => s.size - (intOf vp).toNat)
          case atStart => exact ⟨0, j, x.1, Nat.le_refl _, by omega, Nat.zero_le _, rfl, rfl, HC.out, by simp, .inr rfl⟩
          case round =>
            obtain ⟨d, p, y, hjp, hps, hdp, rfl, rfl, hcl, hxy, hd⟩ := hrel
            have hlp : p < s.size := by
              rcases Nat.lt_or_ge p s.size with h | h
              · exact h
              · rw [List.drop_of_length_le (by rw [← Lib.size_eq]; exact h)] at hcl
                cases hcl
            have hx0 := H0.out.2
            have hxn : ∀ z : List UInt8, y = s[p] :: z → x.1 = (s.data.toList.drop j).take (p + 1 - j) ++ z := fun z hz => by
              rw [hxy, hz, show p + 1 - j = (p - j) + 1 by omega]
              have : (s.data.toList.drop j).take ((p - j) + 1) = (s.data.toList.drop j).take (p - j) ++ [s[p]] := by
                rw [List.take_add_one, List.getElem?_drop, show j + (p - j) = p by omega, List.getElem?_eq_getElem (by rw [← Lib.size_eq]; exact hlp)]
                rfl
              rw [this, List.append_assoc]
              rfl
            rw [get_drop s p hlp, closeF] at hcl
            by_cases h40 : s[p] = 40
            · rw [if_pos h40] at hcl
              cases hc2 : closeF (d + 1) (s.data.toList.drop (p + 1)) with
              | none => rw [hc2] at hcl; cases hcl
              | some z =>
                rw [hc2] at hcl
                injection hcl with hcl
                have e1 := (congrArg Prod.fst hcl).symm
                have e2 := (congrArg Prod.snd hcl)
                dsimp only at e1 e2
                have HXN := Lib.hid (hxn z.1 e1)
                have HC2 := Lib.hid (show closeF (d + 1) (s.data.toList.drop (p + 1)) = some (z.1, x.2) from by rw [hc2, ← e2])
                have g1 : (((s[p].toNat : Nat) : Int) == 40) = true := by rw [h40]; rfl
                have g2 : (((s[p].toNat : Nat) : Int) == 41) = false := by rw [h40]; rfl
                clear hcl e1 e2 hc2 hxn hxy hx0 h40
                go_wp2_with fail
                go_round
                case rel => exact ⟨d + 1, p + 1, z.1, by omega, by omega, by omega, by go_num, by go_num, HC2.out, HXN.out, .inl (by omega)⟩
                case measure => simp [intOf]; omega
            · rw [if_neg h40] at hcl
              have g1 : (((s[p].toNat : Nat) : Int) == 40) = false := beq_eq_false_iff_ne.2 fun h => h40 (UInt8.toNat_inj.1 (by have : (40 : UInt8).toNat = 40 := rfl; omega))
              by_cases h41 : s[p] = 41
              · rw [if_pos h41] at hcl
                have g2 : (((s[p].toNat : Nat) : Int) == 41) = true := by rw [h41]; rfl
                have hd1 : 1 ≤ d := by
                  rcases hd with h | h
                  · exact h
                  · subst h
                    rw [hx0] at h41
                    exact absurd h41 (by decide)
                by_cases hd2 : d = 1
                · rw [if_pos hd2] at hcl
                  subst hd2
                  injection hcl with hcl
                  have e1 : y = [] := (congrArg Prod.fst hcl).symm
                  have e2 : x.2 = s.data.toList.drop (p + 1) := (congrArg Prod.snd hcl).symm
                  rw [e1, List.append_nil] at hxy
                  have hpj : j + 9 ≤ p := by
                    rw [hxy, List.length_take] at h9
                    omega
                  have HF := Lib.hid (show o.data.toList ++ (s.extract (j + 9) p).data.toList ++ (s.extract (p + 1) s.size).data.toList = r from by
                    rw [← HR.out, ext_list, ext_list, e2, hxy, List.drop_take, List.drop_drop, List.take_of_length_le (l := s.data.toList.drop (p + 1)) (by rw [List.length_drop, ← Lib.size_eq]; exact Nat.le_refl _), show p - j - 9 = p - (j + 9) by omega])
                  clear hcl e1 e2 hxn hxy hx0 h40 h41 h9
                  go_wp2_with fail
                  go_quiet (fail)
                  go_wp2_with fail
                  go_ret
                  refine ⟨?_, ⟨rfl, rfl, rfl, Nat.le_refl _, fun _ _ => rfl⟩⟩
                  have e : (o ++ s.extract (j + 9) p ++ s.extract (p + 1) s.size : ByteArray) = ⟨r.toArray⟩ := by
                    apply ByteArray.ext
                    apply Array.toList_inj.1
                    rw [nl_append, nl_append, HF.out]
                  rw [e]
                  rfl
                · rw [if_neg hd2] at hcl
                  cases hc2 : closeF (d - 1) (s.data.toList.drop (p + 1)) with
                  | none => rw [hc2] at hcl; cases hcl
                  | some z =>
                    rw [hc2] at hcl
                    injection hcl with hcl
                    have e1 := (congrArg Prod.fst hcl).symm
                    have e2 := (congrArg Prod.snd hcl)
                    dsimp only at e1 e2
                    have HXN := Lib.hid (hxn z.1 e1)
                    have HC2 := Lib.hid (show closeF (d - 1) (s.data.toList.drop (p + 1)) = some (z.1, x.2) from by rw [hc2, ← e2])
                    have g3 : ((d : Int) - 1 == 0) = false := beq_eq_false_iff_ne.2 (by omega)
                    clear hcl e1 e2 hc2 hxn hxy hx0 h40 h41
                    go_wp2_with fail
                    go_round
                    case rel => exact ⟨d - 1, p + 1, z.1, by omega, by omega, by omega, by go_num, by go_num, HC2.out, HXN.out, .inl (by omega)⟩
                    case measure => simp [intOf]; omega
              · rw [if_neg h41] at hcl
                have g2 : (((s[p].toNat : Nat) : Int) == 41) = false := beq_eq_false_iff_ne.2 fun h => h41 (UInt8.toNat_inj.1 (by have : (41 : UInt8).toNat = 41 := rfl; omega))
                cases hc2 : closeF d (s.data.toList.drop (p + 1)) with
                | none => rw [hc2] at hcl; cases hcl
                | some z =>
                  rw [hc2] at hcl
                  injection hcl with hcl
                  have e1 := (congrArg Prod.fst hcl).symm
                  have e2 := (congrArg Prod.snd hcl)
                  dsimp only at e1 e2
                  have HXN := Lib.hid (hxn z.1 e1)
                  have HC2 := Lib.hid (show closeF d (s.data.toList.drop (p + 1)) = some (z.1, x.2) from by rw [hc2, ← e2])
                  have hdd : 1 ≤ d := by
                    rcases hd with h | h
                    · exact h
                    · subst h
                      exact absurd hx0 h40
                  clear hcl e1 e2 hc2 hxn hxy hx0 h40 h41
                  go_wp2_with fail
                  go_round
                  case rel => exact ⟨d, p + 1, z.1, by omega, by omega, by omega, by go_num, by go_num, HC2.out, HXN.out, .inl hdd⟩
                  case measure => simp [intOf]; omega
        · rw [if_neg h9] at hb; cases hb
    · rw [if_neg hp] at hb
      rw [Bool.eq_false_iff.2 hp] at hpt
      have HB := Lib.hid hb
      clear hb hp
      by_cases hl : j + 9 ≤ s.size
      · have gl : decide ((j : Int) + 9 ≤ (s.size : Int)) = true := decide_eq_true (by omega)
        go_wp2_with fail
        go_round
        case rel => exact ⟨j + 1, _, by omega, by go_num, rfl, by rw [ByteArray.size_append, ByteArray.size_extract]; omega, by
          rw [nl_append, ext_list, show j + 1 - j = 1 by omega, get_drop s j hlt]
          exact HB.out⟩
        case measure => simp [intOf]; omega
      · have gl : decide ((j : Int) + 9 ≤ (s.size : Int)) = false := decide_eq_false (by omega)
        go_wp2_with fail
        go_round
        case rel => exact ⟨j + 1, _, by omega, by go_num, rfl, by rw [ByteArray.size_append, ByteArray.size_extract]; omega, by
          rw [nl_append, ext_list, show j + 1 - j = 1 by omega, get_drop s j hlt]
          exact HB.out⟩
        case measure => simp [intOf]; omega
end Go.Proofs.YtfpeecjafccfjaaGreatDoor
namespace Go.Proofs.YtfpeecjafccfjaaGreatDoor
theorem chk0 : ∀ k, k < 19 → chkA 0 k = true := by decide +kernel
theorem chk1 : ∀ k, k < 19 → chkA 1 k = true := by decide +kernel
theorem chk2 : ∀ k, k < 19 → chkA 2 k = true := by decide +kernel
theorem chk3 : ∀ k, k < 19 → chkA 3 k = true := by decide +kernel
theorem chk4 : ∀ k, k < 19 → chkA 4 k = true := by decide +kernel
theorem chk5 : ∀ k, k < 19 → chkA 5 k = true := by decide +kernel
theorem chk6 : ∀ k, k < 19 → chkA 6 k = true := by decide +kernel
theorem chk7 : ∀ k, k < 19 → chkA 7 k = true := by decide +kernel
theorem chk8 : ∀ k, k < 19 → chkA 8 k = true := by decide +kernel
theorem chk9 : ∀ k, k < 19 → chkA 9 k = true := by decide +kernel
end Go.Proofs.YtfpeecjafccfjaaGreatDoor
namespace Go.Proofs.YtfpeecjafccfjaaGreatDoor
theorem chk10 : ∀ k, k < 19 → chkA 10 k = true := by decide +kernel
theorem chk11 : ∀ k, k < 19 → chkA 11 k = true := by decide +kernel
theorem chk12 : ∀ k, k < 19 → chkA 12 k = true := by decide +kernel
theorem chk13 : ∀ k, k < 19 → chkA 13 k = true := by decide +kernel
theorem chk14 : ∀ k, k < 19 → chkA 14 k = true := by decide +kernel
theorem chk15 : ∀ k, k < 19 → chkA 15 k = true := by decide +kernel
theorem chk16 : ∀ k, k < 19 → chkA 16 k = true := by decide +kernel
theorem chk17 : ∀ k, k < 19 → chkA 17 k = true := by decide +kernel
theorem chk18 : ∀ k, k < 19 → chkA 18 k = true := by decide +kernel
end Go.Proofs.YtfpeecjafccfjaaGreatDoor
namespace Go.Proofs.YtfpeecjafccfjaaGreatDoor
open Go.RowKit
theorem chk_all (i k : Nat) (hi : i < 19) (hk : k < 19) : chkA i k = true := by
  rcases (show i = 0 ∨ i = 1 ∨ i = 2 ∨ i = 3 ∨ i = 4 ∨ i = 5 ∨ i = 6 ∨ i = 7 ∨ i = 8 ∨ i = 9 ∨ i = 10 ∨ i = 11 ∨ i = 12 ∨ i = 13 ∨ i = 14 ∨ i = 15 ∨ i = 16 ∨ i = 17 ∨ i = 18 by omega) with rfl | rfl | rfl | rfl | rfl | rfl | rfl | rfl | rfl | rfl | rfl | rfl | rfl | rfl | rfl | rfl | rfl | rfl | rfl
  · exact chk0 k hk
  · exact chk1 k hk
  · exact chk2 k hk
  · exact chk3 k hk
  · exact chk4 k hk
  · exact chk5 k hk
  · exact chk6 k hk
  · exact chk7 k hk
  · exact chk8 k hk
  · exact chk9 k hk
  · exact chk10 k hk
  · exact chk11 k hk
  · exact chk12 k hk
  · exact chk13 k hk
  · exact chk14 k hk
  · exact chk15 k hk
  · exact chk16 k hk
  · exact chk17 k hk
  · exact chk18 k hk
theorem ops_len : ∀ i, i < 19 → (opA i).length ≤ 3 := by decide +kernel
theorem ops_dots : ∀ i, i < 19 → ((ba (opA i)).toList == [46, 46]) = decide (i = 13) := by decide +kernel
theorem ba_size (l : List UInt8) : (ba l).size = l.length := rfl
theorem ba_eq {s : ByteArray} {l : List UInt8} (h : s.data.toList = l) : s = ba l := by
  apply ByteArray.ext
  apply Array.toList_inj.1
  rw [h]
  rfl
theorem ba_list (l : List UInt8) : (ba l).data.toList = l := rfl
theorem ba_toList (l : List UInt8) : (ba l).toList = l := by rw [Lib.toList_data]; rfl
theorem strengths_pure (i k : Nat) (hi : i < 19) (hk : k < 19) : ∃ (P L R BL BR : ByteArray) (l0 l1 l2 : Int),
    (∀ W, EnvL W → TabR W → Calls Tryz.prog 11 #[.string ((⟨#[114, 101, 116, 117, 114, 110, 32, 120, 32]⟩ : ByteArray) ++ ba (opA i) ++ (⟨#[32, 121, 32]⟩ : ByteArray) ++ ba (opA k) ++ (⟨#[32, 122]⟩ : ByteArray))] W fun e w' => e = .returned (.tuple #[.string P, .int .i64 0, .int .i64 l0]) ∧ Below W.heap.size W w') ∧
    (∀ W, EnvL W → TabR W → Calls Tryz.prog 11 #[.string ((⟨#[114, 101, 116, 117, 114, 110, 32, 40, 32, 120, 32]⟩ : ByteArray) ++ ba (opA i) ++ (⟨#[32, 121, 32, 41, 32]⟩ : ByteArray) ++ ba (opA k) ++ (⟨#[32, 122]⟩ : ByteArray))] W fun e w' => e = .returned (.tuple #[.string L, .int .i64 0, .int .i64 l1]) ∧ Below W.heap.size W w') ∧
    (∀ W, EnvL W → TabR W → Calls Tryz.prog 11 #[.string ((⟨#[114, 101, 116, 117, 114, 110, 32, 120, 32]⟩ : ByteArray) ++ ba (opA i) ++ (⟨#[32, 40, 32, 121, 32]⟩ : ByteArray) ++ ba (opA k) ++ (⟨#[32, 122, 32, 41]⟩ : ByteArray))] W fun e w' => e = .returned (.tuple #[.string R, .int .i64 0, .int .i64 l2]) ∧ Below W.heap.size W w') ∧
    (∀ W, Calls Tryz.prog 14 #[.string L] W fun e w' => e = .returned (.string BL) ∧ Below W.heap.size W w') ∧
    (∀ W, Calls Tryz.prog 14 #[.string R] W fun e w' => e = .returned (.string BR) ∧ Below W.heap.size W w') ∧
    (P.toList == BL.toList) = toLeftA i k ∧ (P.toList == BR.toList) = !toLeftA i k := by
  have h := chk_all i k hi hk
  have s1 := ops_len i hi
  have s2 := ops_len k hk
  unfold chkA at h
  cases h1 : sayF (ba (plainA i k)) with
  | none => rw [h1] at h; cases h
  | some p =>
    cases h2 : sayF (ba (leftA i k)) with
    | none => rw [h1, h2] at h; cases h
    | some l =>
      cases h3 : sayF (ba (rightA i k)) with
      | none => rw [h1, h2, h3] at h; cases h
      | some r =>
        obtain ⟨p, n, l0⟩ := p
        obtain ⟨l, m, l1⟩ := l
        obtain ⟨r, o, l2⟩ := r
        rw [h1, h2, h3] at h
        dsimp only at h
        cases h4 : bareF [] l with
        | none => rw [h4] at h; simp at h
        | some bl =>
          cases h5 : bareF [] r with
          | none => rw [h4, h5] at h; simp at h
          | some br =>
            rw [h4, h5] at h
            simp only [Bool.and_eq_true, decide_eq_true_eq] at h
            obtain ⟨⟨⟨⟨⟨rfl, rfl⟩, rfl⟩, b1⟩, b2⟩, h6⟩ := h
            refine ⟨ba p, ba l, ba r, ba bl, ba br, l0, l1, l2, fun W hE hT => ?_, fun W hE hT => ?_, fun W hE hT => ?_, fun W => bare_any (ba l) bl W b1 h4, fun W => bare_any (ba r) br W b2 h5, ?_⟩
            · have := told_is h1 W (by rw [ba_size]; unfold plainA; simp only [List.length_append, List.length_cons, List.length_nil]; omega) hE hT
              rw [ba_eq (s := (⟨#[114, 101, 116, 117, 114, 110, 32, 120, 32]⟩ : ByteArray) ++ ba (opA i) ++ (⟨#[32, 121, 32]⟩ : ByteArray) ++ ba (opA k) ++ (⟨#[32, 122]⟩ : ByteArray)) (l := plainA i k) (by simp only [nl_append, ba_list]; rfl)]
              exact this
            · have := told_is h2 W (by rw [ba_size]; unfold leftA; simp only [List.length_append, List.length_cons, List.length_nil]; omega) hE hT
              rw [ba_eq (s := (⟨#[114, 101, 116, 117, 114, 110, 32, 40, 32, 120, 32]⟩ : ByteArray) ++ ba (opA i) ++ (⟨#[32, 121, 32, 41, 32]⟩ : ByteArray) ++ ba (opA k) ++ (⟨#[32, 122]⟩ : ByteArray)) (l := leftA i k) (by simp only [nl_append, ba_list]; rfl)]
              exact this
            · have := told_is h3 W (by rw [ba_size]; unfold rightA; simp only [List.length_append, List.length_cons, List.length_nil]; omega) hE hT
              rw [ba_eq (s := (⟨#[114, 101, 116, 117, 114, 110, 32, 120, 32]⟩ : ByteArray) ++ ba (opA i) ++ (⟨#[32, 40, 32, 121, 32]⟩ : ByteArray) ++ ba (opA k) ++ (⟨#[32, 122, 32, 41]⟩ : ByteArray)) (l := rightA i k) (by simp only [nl_append, ba_list]; rfl)]
              exact this
            · rw [ba_toList, ba_toList, ba_toList]
              cases ht : toLeftA i k with
              | true =>
                rw [ht, if_pos rfl] at h6
                simp only [Bool.and_eq_true, decide_eq_true_eq, Bool.not_eq_true', decide_eq_false_iff_not] at h6
                exact ⟨beq_iff_eq.2 h6.1, beq_eq_false_iff_ne.2 h6.2⟩
              | false =>
                rw [ht, if_neg (by decide)] at h6
                simp only [Bool.and_eq_true, decide_eq_true_eq, Bool.not_eq_true', decide_eq_false_iff_not] at h6
                exact ⟨beq_eq_false_iff_ne.2 h6.2, beq_iff_eq.2 h6.1⟩
def opsA : Array Value := #[.string ⟨#[111, 114]⟩, .string ⟨#[97, 110, 100]⟩, .string ⟨#[60]⟩, .string ⟨#[62]⟩, .string ⟨#[60, 61]⟩, .string ⟨#[62, 61]⟩, .string ⟨#[126, 61]⟩, .string ⟨#[61, 61]⟩, .string ⟨#[124]⟩, .string ⟨#[126]⟩, .string ⟨#[38]⟩, .string ⟨#[60, 60]⟩, .string ⟨#[62, 62]⟩, .string ⟨#[46, 46]⟩, .string ⟨#[43]⟩, .string ⟨#[45]⟩, .string ⟨#[42]⟩, .string ⟨#[47, 47]⟩, .string ⟨#[37]⟩]
theorem opsA_is : opsA = (opsB.map fun l => Value.string (ba l)).toArray := by kernel_rfl
theorem opsA_at {k : Nat} (h : k < 19) : opsA[k]? = some (.string (ba (opA k))) := by
  rw [opsA_is, List.getElem?_toArray, List.getElem?_map]
  have hl : k < opsB.length := h
  unfold opA
  rw [List.getD_eq_getElem?_getD, List.getElem?_eq_getElem hl]
  rfl
def strsA : Array Value := #[.int .i64 1, .int .i64 2, .int .i64 3, .int .i64 3, .int .i64 3, .int .i64 3, .int .i64 3, .int .i64 3, .int .i64 4, .int .i64 5, .int .i64 6, .int .i64 7, .int .i64 7, .int .i64 8, .int .i64 9, .int .i64 9, .int .i64 10, .int .i64 10, .int .i64 10]
theorem strsA_is : strsA = (strB.map fun (l : Nat) => Value.int .i64 (l : Int)).toArray := by kernel_rfl
theorem strsA_at {k : Nat} (h : k < 19) : strsA[k]? = some (.int .i64 (stA k : Int)) := by
  rw [strsA_is, List.getElem?_toArray, List.getElem?_map]
  have hl : k < strB.length := h
  unfold stA
  rw [List.getD_eq_getElem?_getD, List.getElem?_eq_getElem hl]
  rfl
set_option maxHeartbeats 8000000 in
set_option maxRecDepth 100000 in
theorem strengths_nat (a b : Nat) (w : World) (ha : a ≤ 255) (hb : b ≤ 255) (hE : EnvL w) (hT : TabR w) : Calls Tryz.prog 5 #[.int .u8 (a : Int), .int .u8 (b : Int)] w fun e w' => e = .returned (.bool true) ∧ Below w.heap.size w w' := by
  have A1 := Lib.hid (alive_p w hE hT)
  have HE := Lib.hid hE
  have HTb := Lib.hid hT
  clear hE hT
  go_enter Tryz.func5, Tryz.ntmps5
  go_wp2_with fail
  refine A1.out.mono ?_; rintro e w1 ⟨rfl, b1⟩
  have B1 := Lib.hid b1
  clear b1
  go_upto_region 3 with (fail)
  refine wp_region_lit ?_
  refine wpList_build rfl 41 _ rfl (by kernel_rfl) ?_
  rename_i K hK
  generalize hb1 : (Tryz.prog.built 41 _).getD #[] = cs
  have hcs : cs = opsA := by rw [← hb1]; kernel_rfl
  clear hb1
  subst hcs
  refine Great.wpList_allocTo rfl _ rfl (.pointer (some ⟨w1.heap.size, 0, none⟩)) (.cells (opsA.map fun _ => .string ⟨#[]⟩) 41) (by kernel_rfl) ?_
  refine wpList_store_row rfl 41 _ _ rfl w1.heap.size opsA rfl rfl 41 _ (heap_alloc_new w1 _) (by kernel_rfl) (by kernel_rfl) (by kernel_rfl) ?_
  refine wpList_nil (hK _ _ ?_)
  generalize hW : (World.setRow _ w1.heap.size opsA) = W1
  have hblk : W1.heap[w1.heap.size]? = some (.cells opsA 41 (0, 0)) := by rw [← hW]; exact setRow_heap _ _ _ _ _ _ (heap_alloc_new w1 _)
  have hbel : Below w1.heap.size w1 W1 := by
    rw [← hW]
    exact ((Below.refl _ _).alloc (Nat.le_refl _) _).trans ⟨rfl, rfl, rfl, by simp [World.setRow], fun k hk => setRow_other _ _ _ _ (by omega)⟩
  have hsz : w1.heap.size < W1.heap.size := (Array.getElem?_eq_some_iff.1 hblk).1
  have HR1 := Lib.hid (fun j (hj : j < 19) => ((cell_of_row W1 w1.heap.size j _ 41 (0, 0) hblk).trans (opsA_at hj)))
  clear hW hblk hK
  obtain ⟨g1, hg1⟩ : ∃ g, g = w1.heap.size := ⟨_, rfl⟩
  rw [← hg1] at hsz HR1
  have B2 := Lib.hid (thenBR B1.out hbel)
  clear hbel
  generalize opsA = kk at *
  go_upto_region 4 with (fail)
  refine wp_region_lit ?_
  refine wpList_build rfl 42 _ rfl (by kernel_rfl) ?_
  rename_i K2 hK2
  generalize hb1 : (Tryz.prog.built 42 _).getD #[] = cs
  have hcs : cs = strsA := by rw [← hb1]; kernel_rfl
  clear hb1
  subst hcs
  refine Great.wpList_allocTo rfl _ rfl (.pointer (some ⟨W1.heap.size, 0, none⟩)) (.cells (strsA.map fun _ => .int .i64 0) 42) (by kernel_rfl) ?_
  refine wpList_store_row rfl 42 _ _ rfl W1.heap.size strsA rfl rfl 42 _ (heap_alloc_new W1 _) (by kernel_rfl) (by kernel_rfl) (by kernel_rfl) ?_
  refine wpList_nil (hK2 _ _ ?_)
  generalize hW : (World.setRow _ W1.heap.size strsA) = W2
  have hblk : W2.heap[W1.heap.size]? = some (.cells strsA 42 (0, 0)) := by rw [← hW]; exact setRow_heap _ _ _ _ _ _ (heap_alloc_new W1 _)
  have hbel : Below W1.heap.size W1 W2 := by
    rw [← hW]
    exact ((Below.refl _ _).alloc (Nat.le_refl _) _).trans ⟨rfl, rfl, rfl, by simp [World.setRow], fun k hk => setRow_other _ _ _ _ (by omega)⟩
  have hsz2 : W1.heap.size < W2.heap.size := (Array.getElem?_eq_some_iff.1 hblk).1
  have HS2 := Lib.hid (fun j (hj : j < 19) => ((cell_of_row W2 W1.heap.size j _ 42 (0, 0) hblk).trans (strsA_at hj)))
  have HR2 := Lib.hid (fun j (hj : j < 19) => (hbel.cell (p := ⟨g1, j, none⟩) hsz).trans (HR1.out j hj))
  clear hW hblk hK2 HR1
  obtain ⟨g2, hg2⟩ : ∃ g, g = W1.heap.size := ⟨_, rfl⟩
  rw [← hg2] at hsz2 HS2
  have B3 := Lib.hid (thenBR B2.out hbel)
  clear hbel
  generalize strsA = kk2 at *
  have hma : (a : Int).tmod 19 = ((a % 19 : Nat) : Int) := by rw [Int.tmod_eq_emod_of_nonneg (by omega)]; rfl
  have hmb : (b : Int).tmod 19 = ((b % 19 : Nat) : Int) := by rw [Int.tmod_eq_emod_of_nonneg (by omega)]; rfl
  have hi : a % 19 < 19 := Nat.mod_lt _ (by decide)
  have hk : b % 19 < 19 := Nat.mod_lt _ (by decide)
  generalize a % 19 = i at *
  generalize b % 19 = k at *
  obtain ⟨P, L, R, BL, BR, l0, l1, l2, p1, p2, p3, p4, p5, p6, p7⟩ := strengths_pure i k hi hk
  have P1 := Lib.hid p1
  have P2 := Lib.hid p2
  have P3 := Lib.hid p3
  have P4 := Lib.hid p4
  have P5 := Lib.hid p5
  have q1 := ops_len i hi
  have q2 := ops_len k hk
  have q3 := ops_dots i hi
  rw [← ba_size] at q1 q2
  have c1 := HR2.out i hi
  have c2 := HR2.out k hk
  have c3 := HS2.out i hi
  have c4 := HS2.out k hk
  have BC := Lib.hid (fun W (hW : Below W2.heap.size W2 W) (j : Nat) => And.intro (hW.cell (p := ⟨g1, j, none⟩) (by show g1 < _; omega)) (hW.cell (p := ⟨g2, j, none⟩) hsz2))
  rw [hg1, hg2] at *
  have CC := Lib.hid (fun W (hW : Below W2.heap.size W2 W) => And.intro ((BC.out W hW i).1.trans c1) (And.intro ((BC.out W hW k).1.trans c2) (And.intro ((BC.out W hW i).2.trans c3) ((BC.out W hW k).2.trans c4))))
  have ht : toLeftA i k = (decide (stA k < stA i) || (decide (stA i = stA k) && decide (i ≠ 13))) := rfl
  rw [ht] at p6 p7
  clear p1 p2 p3 p4 p5 hsz hsz2 BC ht
  generalize ba (opA i) = A at *
  generalize ba (opA k) = B at *
  go_wp2_with fail
  have a1 := cell_regrown c1
  have a2 := cell_regrown c2
  refine wp_region_quiet_below (by kernel_rfl) (by kernel_rfl) ?_
  repeat (go_big_quiet_step (first | (go_at_call 11; exact Calls.regrown_of (P1.out _ (HE.out.below (thenBR B3.out (below_regrown _ _ _))) (HTb.out.below (thenBR B3.out (below_regrown _ _ _)))))))
  refine wpQuiet_nil ?_
  intro w3 hw'
  obtain ⟨⟨dq, osq⟩, hw''⟩ := hw'
  have bb := below_regrown W2 dq osq
  rw [← hw''] at bb
  have B4 := Lib.hid bb
  have B4w := Lib.hid (thenBR B3.out bb)
  clear hw'' bb a1 a2 c1 c2 c3 c4
  obtain ⟨c1, c2, _, _⟩ := CC.out w3 B4.out
  go_wp2_with fail
  have a1 := cell_regrown c1
  have a2 := cell_regrown c2
  refine wp_region_quiet_below (by kernel_rfl) (by kernel_rfl) ?_
  repeat (go_big_quiet_step (first | (go_at_call 11; exact Calls.regrown_of (P2.out _ (HE.out.below (thenBR B4w.out (below_regrown _ _ _))) (HTb.out.below (thenBR B4w.out (below_regrown _ _ _)))))))
  refine wpQuiet_nil ?_
  intro w4 hw'
  obtain ⟨⟨dq, osq⟩, hw''⟩ := hw'
  have bb := below_regrown w3 dq osq
  rw [← hw''] at bb
  have B5 := Lib.hid (thenBR B4.out bb)
  have B5w := Lib.hid (thenBR B3.out B5.out)
  clear hw'' bb a1 a2 c1 c2
  obtain ⟨c1, c2, _, _⟩ := CC.out w4 B5.out
  go_wp2_with fail
  have a1 := cell_regrown c1
  have a2 := cell_regrown c2
  refine wp_region_quiet_below (by kernel_rfl) (by kernel_rfl) ?_
  repeat (go_big_quiet_step (first | (go_at_call 11; exact Calls.regrown_of (P3.out _ (HE.out.below (thenBR B5w.out (below_regrown _ _ _))) (HTb.out.below (thenBR B5w.out (below_regrown _ _ _)))))))
  refine wpQuiet_nil ?_
  intro w5 hw'
  obtain ⟨⟨dq, osq⟩, hw''⟩ := hw'
  have bb := below_regrown w4 dq osq
  rw [← hw''] at bb
  have B6 := Lib.hid (thenBR B5.out bb)
  clear hw'' bb a1 a2 c1 c2
  obtain ⟨d1, d2, d3, d4⟩ := CC.out w5 B6.out
  have BZ := Lib.hid (thenBR B3.out B6.out)
  clear P1 P2 P3 CC
  by_cases h1 : stA k < stA i
  · rw [decide_eq_true h1, Bool.true_or] at p6 p7
    have f1 : decide ((stA k : Int) < (stA i : Int)) = true := decide_eq_true (by omega)
    have a1 := cell_regrown d1
    have a2 := cell_regrown d2
    have a3 := cell_regrown d3
    have a4 := cell_regrown d4
    go_wp2_with fail
    refine wp_region_quiet_below (by kernel_rfl) (by kernel_rfl) ?_
    repeat (go_big_quiet_step (fail))
    refine wpQuiet_nil ?_
    intro w6 hw'
    obtain ⟨⟨dq, osq⟩, hw''⟩ := hw'
    have bb := below_regrown w5 dq osq
    rw [← hw''] at bb
    have B7 := Lib.hid (thenBR BZ.out bb)
    clear hw'' bb a1 a2 a3 a4 d1 d2 d3 d4
    go_wp2_with fail
    refine (P4.out w6).mono ?_; rintro e w7 ⟨rfl, b8⟩
    have B8 := Lib.hid (thenBR B7.out b8)
    clear b8
    go_wp2_with fail
    refine (P5.out w7).mono ?_; rintro e w8 ⟨rfl, b9⟩
    have B9 := Lib.hid (thenBR B8.out b9)
    clear b9
    go_wp2_with fail
    go_ret
    exact ⟨rfl, B9.out⟩
  · rw [decide_eq_false h1, Bool.false_or] at p6 p7
    have f1 : decide ((stA k : Int) < (stA i : Int)) = false := decide_eq_false (by omega)
    by_cases h2 : stA i = stA k
    · have f2 : ((stA i : Int) == (stA k : Int)) = true := beq_iff_eq.2 (by omega)
      rw [decide_eq_true h2, Bool.true_and] at p6 p7
      by_cases h3 : i = 13
      · have f3 : (A.toList == [46, 46]) = true := by rw [q3]; exact decide_eq_true h3
        rw [decide_eq_false (show ¬ i ≠ 13 from fun h => h h3)] at p6 p7
        clear q3 h3 h2
        have a1 := cell_regrown d1
        have a2 := cell_regrown d2
        have a3 := cell_regrown d3
        have a4 := cell_regrown d4
        go_wp2_with fail
        refine wp_region_quiet_below (by kernel_rfl) (by kernel_rfl) ?_
        repeat (go_big_quiet_step (fail))
        refine wpQuiet_nil ?_
        intro w6 hw'
        obtain ⟨⟨dq, osq⟩, hw''⟩ := hw'
        have bb := below_regrown w5 dq osq
        rw [← hw''] at bb
        have B7 := Lib.hid (thenBR BZ.out bb)
        clear hw'' bb a1 a2 a3 a4 d1 d2 d3 d4
        go_wp2_with fail
        refine (P5.out w6).mono ?_; rintro e w7 ⟨rfl, b8⟩
        have B8 := Lib.hid (thenBR B7.out b8)
        clear b8
        go_wp2_with fail
        refine (P4.out w7).mono ?_; rintro e w8 ⟨rfl, b9⟩
        have B9 := Lib.hid (thenBR B8.out b9)
        clear b9
        go_wp2_with fail
        go_ret
        exact ⟨rfl, B9.out⟩
      · have f3 : (A.toList == [46, 46]) = false := by rw [q3]; exact decide_eq_false h3
        rw [decide_eq_true (show i ≠ 13 from h3)] at p6 p7
        clear q3 h3 h2
        have a1 := cell_regrown d1
        have a2 := cell_regrown d2
        have a3 := cell_regrown d3
        have a4 := cell_regrown d4
        go_wp2_with fail
        refine wp_region_quiet_below (by kernel_rfl) (by kernel_rfl) ?_
        repeat (go_big_quiet_step (fail))
        refine wpQuiet_nil ?_
        intro w6 hw'
        obtain ⟨⟨dq, osq⟩, hw''⟩ := hw'
        have bb := below_regrown w5 dq osq
        rw [← hw''] at bb
        have B7 := Lib.hid (thenBR BZ.out bb)
        clear hw'' bb a1 a2 a3 a4 d1 d2 d3 d4
        go_wp2_with fail
        refine (P4.out w6).mono ?_; rintro e w7 ⟨rfl, b8⟩
        have B8 := Lib.hid (thenBR B7.out b8)
        clear b8
        go_wp2_with fail
        refine (P5.out w7).mono ?_; rintro e w8 ⟨rfl, b9⟩
        have B9 := Lib.hid (thenBR B8.out b9)
        clear b9
        go_wp2_with fail
        go_ret
        exact ⟨rfl, B9.out⟩
    · have f2 : ((stA i : Int) == (stA k : Int)) = false := beq_eq_false_iff_ne.2 (by omega)
      rw [decide_eq_false h2, Bool.false_and] at p6 p7
      clear h2
      have a1 := cell_regrown d1
      have a2 := cell_regrown d2
      have a3 := cell_regrown d3
      have a4 := cell_regrown d4
      go_wp2_with fail
      refine wp_region_quiet_below (by kernel_rfl) (by kernel_rfl) ?_
      repeat (go_big_quiet_step (fail))
      refine wpQuiet_nil ?_
      intro w6 hw'
      obtain ⟨⟨dq, osq⟩, hw''⟩ := hw'
      have bb := below_regrown w5 dq osq
      rw [← hw''] at bb
      have B7 := Lib.hid (thenBR BZ.out bb)
      clear hw'' bb a1 a2 a3 a4 d1 d2 d3 d4
      go_wp2_with fail
      refine (P5.out w6).mono ?_; rintro e w7 ⟨rfl, b8⟩
      have B8 := Lib.hid (thenBR B7.out b8)
      clear b8
      go_wp2_with fail
      refine (P4.out w7).mono ?_; rintro e w8 ⟨rfl, b9⟩
      have B9 := Lib.hid (thenBR B8.out b9)
      clear b9
      go_wp2_with fail
      go_ret
      exact ⟨rfl, B9.out⟩
theorem strengths_any (a b : Int) (w : World) (hE : EnvL w) (hT : TabR w) (a0 : 0 ≤ a) (a1 : a ≤ 255) (b0 : 0 ≤ b) (b1 : b ≤ 255) : Calls Tryz.prog 5 #[.int .u8 a, .int .u8 b] w fun e w' => e = .returned (.bool true) ∧ Below w.heap.size w w' := by
  have h := strengths_nat a.toNat b.toNat w (by omega) (by omega) hE hT
  rw [Int.toNat_of_nonneg a0, Int.toNat_of_nonneg b0] at h
  exact h
end Go.Proofs.YtfpeecjafccfjaaGreatDoor
