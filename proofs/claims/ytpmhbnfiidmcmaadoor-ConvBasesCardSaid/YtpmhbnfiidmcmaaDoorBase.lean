/- selkielaw03.ConvBases answers true at any int64, any base and any way of writing, wherever the table of powers lies as the program's text lays it. -/
import Derived.Test.YtpmhbnfiidmcmaaDoorMath4
import Derived.Test.YtpmhbnfiidmcmaaDoorJoins
import Derived.LoopTactic
import Derived.Deep.QuietTactic
import Derived.BigQuiet
namespace Go.Proofs.YtpmhbnfiidmcmaaDoor
open Go.RowKit Go.Sort

abbrev bcells (n b : Int) (c m : Bool) : Obj := .cells #[.int .i64 n, .int .u8 b, .bool c, .bool m] 39
/-- In the world W the block k holds the number, its base and how it is written. -/
structure AtB (W : World) (k : Nat) (n b : Int) (c m : Bool) : Prop where
  c0 : W.cell? ⟨k, 0, none⟩ = some (.int .i64 n)
  c1 : W.cell? ⟨k, 1, none⟩ = some (.int .u8 b)
  c2 : W.cell? ⟨k, 2, none⟩ = some (.bool c)
  c3 : W.cell? ⟨k, 3, none⟩ = some (.bool m)
theorem atB_new (w : World) (n b : Int) (c m : Bool) : AtB (w.alloc (bcells n b c m)) w.heap.size n b c m := by
  refine ⟨?_, ?_, ?_, ?_⟩ <;> simp [go_sem]
theorem AtB.below {W W' : World} {k : Nat} {n b : Int} {c m : Bool} (h : AtB W k n b c m) (hb : Below W.heap.size W W') : AtB W' k n b c m :=
  have lt := block_lt_of_cell h.c0
  ⟨(hb.cell (p := ⟨k, 0, none⟩) lt).trans h.c0, (hb.cell (p := ⟨k, 1, none⟩) lt).trans h.c1, (hb.cell (p := ⟨k, 2, none⟩) lt).trans h.c2, (hb.cell (p := ⟨k, 3, none⟩) lt).trans h.c3⟩
theorem str_add (a b : List UInt8) : (⟨a.toArray⟩ : ByteArray) ++ ⟨b.toArray⟩ = ⟨(a ++ b).toArray⟩ := by
  apply ByteArray.ext
  simp
theorem below_drewN (w : World) (k : Nat) : Below w.heap.size w (w.drewN k) := ⟨rfl, rfl, rfl, Nat.le_refl _, fun _ _ => rfl⟩

set_option maxHeartbeats 1600000 in
theorem bases_neg (n b : Int) (c m : Bool) (w : World) (hT : Tab w) (hb0 : 0 ≤ b) (hb1 : b ≤ 255) (hn : n < 0) :
    Calls Tryd.prog 7 #[B4 n b c m] w fun e w' => e = .returned (.bool true) ∧ Below w.heap.size w w' := by
  have HT := Lib.hid hT
  clear hT
  go_enter Tryd.func7, Tryd.ntmps7
  go_wp2_with fail
  refine (alive_any _ (HT.out.below (below1 _ _))).mono ?_; rintro e w1 ⟨rfl, b1⟩
  have HA := Lib.hid ((atB_new w n b c m).below b1)
  have B1 := Lib.hid (thenB (below1 _ _) b1)
  clear b1
  have a0 := HA.out.c0; have a1 := HA.out.c1; have a2 := HA.out.c2; have a3 := HA.out.c3
  go_wp2_with fail
  go_quiet (fail)
  go_wp2_with fail
  go_ret
  exact ⟨rfl, thenB B1.out (below_drewN _ _)⟩

def mz (v : Value) : Nat := if Lib.strSize v = 0 then 1 else 0

theorem mz_le (v : Value) : mz v ≤ 1 := by unfold mz; split <;> omega
theorem mz_some {s : ByteArray} (h : 0 < s.size) : mz (.string s) = 0 := by unfold mz; rw [Lib.strSize_string, if_neg (by omega)]
theorem mz_none : mz (.string ⟨#[]⟩) = 1 := by unfold mz; rw [Lib.strSize_string]; rfl
theorem mk_list (l : List UInt8) : (⟨l.toArray⟩ : ByteArray).data.toList = l := rfl

/-- What Base answers of a number that was written, with a - ahead of it and with a sign more. -/
theorem base_calls {B N : Nat} {l : List UInt8} (L : ByteArray) (hL : L = ⟨l.toArray⟩) (h2 : 2 ≤ B) (h36 : B ≤ 36) (hN : N ≤ 9223372036854775807) (h : Wr B N 0 l) (hl : l ≠ []) :
    (∀ w : World, Calls Tryd.prog 13 #[.string L, .int .i64 B] w fun e w' => e = .returned (.tuple #[.int .i64 N, .bool true]) ∧ Below w.heap.size w w') ∧
    (∃ x : Int, ∀ w : World, Calls Tryd.prog 13 #[.string (L ++ ⟨#[47]⟩), .int .i64 B] w fun e w' => e = .returned (.tuple #[.int .i64 x, .bool false]) ∧ Below w.heap.size w w') ∧
    (∀ w : World, Calls Tryd.prog 13 #[.string (⟨#[45]⟩ ++ L), .int .i64 B] w fun e w' => e = .returned (.tuple #[.int .i64 (-N), .bool true]) ∧ Below w.heap.size w w') ∧
    (∃ x : Int, ∀ w : World, Calls Tryd.prog 13 #[.string (⟨#[45]⟩ ++ L ++ ⟨#[47]⟩), .int .i64 B] w fun e w' => e = .returned (.tuple #[.int .i64 x, .bool false]) ∧ Below w.heap.size w w') := by
  subst hL
  have hlen := h.len
  obtain ⟨a, b, c, d, e, f⟩ := bases_read h2 h36 hN h hl
  refine ⟨fun w => ?_, ⟨basN B (l ++ [47]), fun w => ?_⟩, fun w => ?_, ⟨basN B (45 :: l ++ [47]), fun w => ?_⟩⟩
  · have hh := cBase ⟨l.toArray⟩ B w (by rw [Lib.size_mk]; omega)
    rw [mk_list, a, b] at hh
    exact hh
  · have hh := cBase ⟨(l ++ [47]).toArray⟩ B w (by rw [Lib.size_mk, List.length_append]; simp; omega)
    rw [mk_list, c] at hh
    rw [show (⟨l.toArray⟩ : ByteArray) ++ ⟨#[47]⟩ = ⟨(l ++ [47]).toArray⟩ from str_add l [47]]
    exact hh
  · have hh := cBase ⟨(45 :: l).toArray⟩ B w (by rw [Lib.size_mk, List.length_cons]; omega)
    rw [mk_list, d, e] at hh
    rw [show (⟨#[45]⟩ : ByteArray) ++ ⟨l.toArray⟩ = ⟨(45 :: l).toArray⟩ from str_add [45] l]
    exact hh
  · have hh := cBase ⟨(45 :: l ++ [47]).toArray⟩ B w (by rw [Lib.size_mk, List.length_append, List.length_cons]; simp; omega)
    rw [mk_list, f] at hh
    rw [show (⟨#[45]⟩ : ByteArray) ++ ⟨l.toArray⟩ = ⟨(45 :: l).toArray⟩ from str_add [45] l, show (⟨(45 :: l).toArray⟩ : ByteArray) ++ ⟨#[47]⟩ = ⟨(45 :: l ++ [47]).toArray⟩ from str_add (45 :: l) [47]]
    exact hh

theorem small_lit : (⟨#[48, 49, 50, 51, 52, 53, 54, 55, 56, 57, 97, 98, 99, 100, 101, 102, 103, 104, 105, 106, 107, 108, 109, 110, 111, 112, 113, 114, 115, 116, 117, 118, 119, 120, 121, 122]⟩ : ByteArray) = smalls36 := rfl
theorem great_lit : (⟨#[48, 49, 50, 51, 52, 53, 54, 55, 56, 57, 65, 66, 67, 68, 69, 70, 71, 72, 73, 74, 75, 76, 77, 78, 79, 80, 81, 82, 83, 84, 85, 86, 87, 88, 89, 90]⟩ : ByteArray) = greats36 := rfl

set_option maxHeartbeats 3200000 in
theorem bases_small (N : Nat) (b : Int) (m : Bool) (w : World) (hT : Tab w) (hb0 : 0 ≤ b) (hb1 : b ≤ 255) (hN : N ≤ 9223372036854775807) :
    Calls Tryd.prog 7 #[B4 N b false m] w fun e w' => e = .returned (.bool true) ∧ Below w.heap.size w w' := by
  have HT := Lib.hid hT
  clear hT
  have hN0 : decide ((N : Int) < 0) = false := by simp
  go_enter Tryd.func7, Tryd.ntmps7
  go_wp2_with fail
  refine (alive_any _ (HT.out.below (below1 _ _))).mono ?_; rintro e w1 ⟨rfl, b1⟩
  have HA := Lib.hid ((atB_new w N b false m).below b1)
  have B1 := Lib.hid (thenB (below1 _ _) b1)
  clear b1
  have a0 := HA.out.c0; have a1 := HA.out.c1; have a2 := HA.out.c2; have a3 := HA.out.c3
  go_wp2_with fail
  go_quiet (fail)
  go_wp2_with fail
  clear a0 a1 a2 a3 HA
  rw [small_lit]
  have HD := Lib.hid small_at
  have hDs : smalls36.size = 36 := rfl
  generalize smalls36 = D at HD hDs ⊢
  obtain ⟨B, hB⟩ : ∃ B : Nat, b % 35 + 2 = (B : Int) := ⟨(b % 35 + 2).toNat, by omega⟩
  have hB2 : 2 ≤ B := by omega
  have hB36 : B ≤ 36 := by omega
  rw [hB]
  clear hB
  go_loop [9, 11] (fun s x => ∃ (l : List UInt8) (y : Nat), s = .string ⟨l.toArray⟩ ∧ x = .int .i64 y ∧ Wr B N y l ∧ y ≤ N) (fun s x => 2 * (intOf x).toNat + mz s)
  case atStart => exact ⟨[], N, rfl, rfl, Wr.start B N, Nat.le_refl _⟩
  case round =>
    obtain ⟨l, y, rfl, rfl, hW, hy⟩ := hrel
    have hls : (⟨l.toArray⟩ : ByteArray).size = l.length := Lib.size_mk _
    have hlen := hW.len
    by_cases hy0 : 0 < y
    · obtain ⟨d, hd⟩ : ∃ d : Nat, y % B = d := ⟨_, rfl⟩
      obtain ⟨q, hq⟩ : ∃ q : Nat, y / B = q := ⟨_, rfl⟩
      have hd36 : d < 36 := by have : y % B < B := Nat.mod_lt _ (by omega); omega
      have hqy : q < y := by rw [← hq]; exact Nat.div_lt_self hy0 (by omega)
      obtain ⟨c, hc, hc'⟩ := HD.out d hd36
      have HW := Lib.hid (hq ▸ hW.step hB2 (by omega) (.inl hy0) (hc'.trans hd.symm))
      have hdm : (y : Int) % (B : Int) = (d : Int) := by rw [← hd]; simp
      have hdd : (y : Int) / (B : Int) = (q : Int) := by rw [← hq]; simp
      have HC := Lib.hid (str_add [c] l)
      have hcs : (⟨#[c]⟩ : ByteArray).size = 1 := rfl
      clear hc' hd hq hW
      generalize (⟨l.toArray⟩ : ByteArray) = L at hls HC ⊢
      go_wp2_with fail
      refine ⟨⟨c :: l, q, by rw [HC.out]; rfl, rfl, HW.out, by omega⟩, ?_⟩
      have hz := mz_le (.string (⟨#[c]⟩ ++ L))
      simp only [intOf, Int.toNat_natCast]
      omega
    · obtain rfl : y = 0 := by omega
      cases l with
      | nil =>
        obtain ⟨c, hc, hc'⟩ := HD.out 0 (by omega)
        have HW := Lib.hid (Nat.zero_div B ▸ hW.step hB2 (by omega) (.inr rfl) (hc'.trans (Nat.zero_mod B).symm))
        have hdm : (0 : Int) % (B : Int) = 0 := Int.zero_emod _
        have hdd : (0 : Int) / (B : Int) = 0 := Int.zero_ediv _
        have hcs : (⟨#[c]⟩ : ByteArray).size = 1 := rfl
        clear hc' hW hls hlen
        go_wp2_with fail
        refine ⟨⟨[c], 0, congrArg Value.string (str_add [c] []), rfl, HW.out, Nat.zero_le _⟩, ?_⟩
        have hz : mz (.string (⟨#[c]⟩ ++ ⟨#[]⟩)) = 0 := mz_some (by rw [show (⟨#[c]⟩ : ByteArray) ++ ⟨#[]⟩ = ⟨[c].toArray⟩ from str_add [c] []]; exact Nat.zero_lt_one)
        rw [hz, mz_none]
        simp [intOf]
      | cons x t =>
        obtain ⟨L, hL⟩ : ∃ L : ByteArray, L = ⟨(x :: t).toArray⟩ := ⟨_, rfl⟩
        have HC := Lib.hid (base_calls L hL hB2 hB36 hN hW (by simp))
        rw [← hL] at hls ⊢
        have hLs : L.size ≤ 63 := by omega
        have hLs0 : 0 < L.size := by rw [hls]; simp
        have hLe : L.toList.isEmpty = false := by rw [Lib.toList_data]; simpa using emp_no L hLs0
        have h45 : (⟨#[45]⟩ : ByteArray).size = 1 := rfl
        have h47 : (⟨#[47]⟩ : ByteArray).size = 1 := rfl
        clear hL hW hls hlen
        cases m
        · obtain ⟨v, hv⟩ := HC.out.2.1
          have HV := Lib.hid hv
          clear hv
          go_wp2_with fail
          refine (HC.out.1 _).mono ?_; rintro e w3 ⟨rfl, b3⟩
          go_wp2_with fail
          refine (HV.out _).mono ?_; rintro e w4 ⟨rfl, b4⟩
          go_wp2_with fail
          go_ret
          exact ⟨rfl, thenB (thenB B1.out (below_drewN _ _)) (thenB b3 b4)⟩
        · obtain ⟨v, hv⟩ := HC.out.2.2.2
          have HV := Lib.hid hv
          clear hv
          go_wp2_with fail
          refine (HC.out.2.2.1 _).mono ?_; rintro e w3 ⟨rfl, b3⟩
          go_wp2_with fail
          refine (HV.out _).mono ?_; rintro e w4 ⟨rfl, b4⟩
          go_wp2_with fail
          go_ret
          exact ⟨rfl, thenB (thenB B1.out (below_drewN _ _)) (thenB b3 b4)⟩

set_option maxHeartbeats 3200000 in
theorem bases_great (N : Nat) (b : Int) (m : Bool) (w : World) (hT : Tab w) (hb0 : 0 ≤ b) (hb1 : b ≤ 255) (hN : N ≤ 9223372036854775807) :
    Calls Tryd.prog 7 #[B4 N b true m] w fun e w' => e = .returned (.bool true) ∧ Below w.heap.size w w' := by
  have HT := Lib.hid hT
  clear hT
  have hN0 : decide ((N : Int) < 0) = false := by simp
  go_enter Tryd.func7, Tryd.ntmps7
  go_wp2_with fail
  refine (alive_any _ (HT.out.below (below1 _ _))).mono ?_; rintro e w1 ⟨rfl, b1⟩
  have HA := Lib.hid ((atB_new w N b true m).below b1)
  have B1 := Lib.hid (thenB (below1 _ _) b1)
  clear b1
  have a0 := HA.out.c0; have a1 := HA.out.c1; have a2 := HA.out.c2; have a3 := HA.out.c3
  go_wp2_with fail
  go_quiet (fail)
  go_wp2_with fail
  clear a0 a1 a2 a3 HA
  rw [great_lit]
  have HD := Lib.hid great_at
  have hDs : greats36.size = 36 := rfl
  generalize greats36 = D at HD hDs ⊢
  obtain ⟨B, hB⟩ : ∃ B : Nat, b % 35 + 2 = (B : Int) := ⟨(b % 35 + 2).toNat, by omega⟩
  have hB2 : 2 ≤ B := by omega
  have hB36 : B ≤ 36 := by omega
  rw [hB]
  clear hB
  go_loop [9, 11] (fun s x => ∃ (l : List UInt8) (y : Nat), s = .string ⟨l.toArray⟩ ∧ x = .int .i64 y ∧ Wr B N y l ∧ y ≤ N) (fun s x => 2 * (intOf x).toNat + mz s)
  case atStart => exact ⟨[], N, rfl, rfl, Wr.start B N, Nat.le_refl _⟩
  case round =>
    obtain ⟨l, y, rfl, rfl, hW, hy⟩ := hrel
    have hls : (⟨l.toArray⟩ : ByteArray).size = l.length := Lib.size_mk _
    have hlen := hW.len
    by_cases hy0 : 0 < y
    · obtain ⟨d, hd⟩ : ∃ d : Nat, y % B = d := ⟨_, rfl⟩
      obtain ⟨q, hq⟩ : ∃ q : Nat, y / B = q := ⟨_, rfl⟩
      have hd36 : d < 36 := by have : y % B < B := Nat.mod_lt _ (by omega); omega
      have hqy : q < y := by rw [← hq]; exact Nat.div_lt_self hy0 (by omega)
      obtain ⟨c, hc, hc'⟩ := HD.out d hd36
      have HW := Lib.hid (hq ▸ hW.step hB2 (by omega) (.inl hy0) (hc'.trans hd.symm))
      have hdm : (y : Int) % (B : Int) = (d : Int) := by rw [← hd]; simp
      have hdd : (y : Int) / (B : Int) = (q : Int) := by rw [← hq]; simp
      have HC := Lib.hid (str_add [c] l)
      have hcs : (⟨#[c]⟩ : ByteArray).size = 1 := rfl
      clear hc' hd hq hW
      generalize (⟨l.toArray⟩ : ByteArray) = L at hls HC ⊢
      go_wp2_with fail
      refine ⟨⟨c :: l, q, by rw [HC.out]; rfl, rfl, HW.out, by omega⟩, ?_⟩
      have hz := mz_le (.string (⟨#[c]⟩ ++ L))
      simp only [intOf, Int.toNat_natCast]
      omega
    · obtain rfl : y = 0 := by omega
      cases l with
      | nil =>
        obtain ⟨c, hc, hc'⟩ := HD.out 0 (by omega)
        have HW := Lib.hid (Nat.zero_div B ▸ hW.step hB2 (by omega) (.inr rfl) (hc'.trans (Nat.zero_mod B).symm))
        have hdm : (0 : Int) % (B : Int) = 0 := Int.zero_emod _
        have hdd : (0 : Int) / (B : Int) = 0 := Int.zero_ediv _
        have hcs : (⟨#[c]⟩ : ByteArray).size = 1 := rfl
        clear hc' hW hls hlen
        go_wp2_with fail
        refine ⟨⟨[c], 0, congrArg Value.string (str_add [c] []), rfl, HW.out, Nat.zero_le _⟩, ?_⟩
        have hz : mz (.string (⟨#[c]⟩ ++ ⟨#[]⟩)) = 0 := mz_some (by rw [show (⟨#[c]⟩ : ByteArray) ++ ⟨#[]⟩ = ⟨[c].toArray⟩ from str_add [c] []]; exact Nat.zero_lt_one)
        rw [hz, mz_none]
        simp [intOf]
      | cons x t =>
        obtain ⟨L, hL⟩ : ∃ L : ByteArray, L = ⟨(x :: t).toArray⟩ := ⟨_, rfl⟩
        have HC := Lib.hid (base_calls L hL hB2 hB36 hN hW (by simp))
        rw [← hL] at hls ⊢
        have hLs : L.size ≤ 63 := by omega
        have hLs0 : 0 < L.size := by rw [hls]; simp
        have hLe : L.toList.isEmpty = false := by rw [Lib.toList_data]; simpa using emp_no L hLs0
        have h45 : (⟨#[45]⟩ : ByteArray).size = 1 := rfl
        have h47 : (⟨#[47]⟩ : ByteArray).size = 1 := rfl
        clear hL hW hls hlen
        cases m
        · obtain ⟨v, hv⟩ := HC.out.2.1
          have HV := Lib.hid hv
          clear hv
          go_wp2_with fail
          refine (HC.out.1 _).mono ?_; rintro e w3 ⟨rfl, b3⟩
          go_wp2_with fail
          refine (HV.out _).mono ?_; rintro e w4 ⟨rfl, b4⟩
          go_wp2_with fail
          go_ret
          exact ⟨rfl, thenB (thenB B1.out (below_drewN _ _)) (thenB b3 b4)⟩
        · obtain ⟨v, hv⟩ := HC.out.2.2.2
          have HV := Lib.hid hv
          clear hv
          go_wp2_with fail
          refine (HC.out.2.2.1 _).mono ?_; rintro e w3 ⟨rfl, b3⟩
          go_wp2_with fail
          refine (HV.out _).mono ?_; rintro e w4 ⟨rfl, b4⟩
          go_wp2_with fail
          go_ret
          exact ⟨rfl, thenB (thenB B1.out (below_drewN _ _)) (thenB b3 b4)⟩

theorem bases_any (n b : Int) (c m : Bool) (w : World) (hT : Tab w) (_h0 : -9223372036854775808 ≤ n) (h1 : n ≤ 9223372036854775807) (hb0 : 0 ≤ b) (hb1 : b ≤ 255) :
    Calls Tryd.prog 7 #[B4 n b c m] w fun e w' => e = .returned (.bool true) ∧ Below w.heap.size w w' := by
  by_cases hn : n < 0
  · exact bases_neg n b c m w hT hb0 hb1 hn
  · obtain ⟨N, rfl⟩ : ∃ N : Nat, n = N := ⟨n.toNat, by omega⟩
    cases c
    · exact bases_small N b m w hT hb0 hb1 (by omega)
    · exact bases_great N b m w hT hb0 hb1 (by omega)
end Go.Proofs.YtpmhbnfiidmcmaaDoor
