/- (*reader).code and (*reader).escaped: what stands behind a backslash. -/
import Derived.Test.YtbeckfamnhfaeaaGreatDoorSk
import Derived.Test.YtbeckfamnhfaeaaGreatDoorCMath4
namespace Go.Proofs.YtbeckfamnhfaeaaGreatDoor
open Go.RowKit

/-- A slice of no byte or of one. -/
def Bts (W : World) (v : Value) (m : List UInt8) : Prop :=
  (v = .slice none 0 0 ∧ m = []) ∨ (∃ g x, m = [x] ∧ v = .slice (some ⟨g, 0, none⟩) 1 1 ∧ W.cell? ⟨g, 0, none⟩ = some (.int .u8 (x.toNat : Int)))
def EscPost (b : Nat) (s : ByteArray) (k : Nat) (w : World) (o : Option (List UInt8 × List UInt8)) (e : Ending) (w' : World) : Prop :=
  Kp b w w' ∧ match o with
    | some (m, r) => ∃ k' v, e = .returned (.tuple #[v, .bool true]) ∧ Bts w' v m ∧ Rd w' b s k' ∧ sfx s k' = r ∧ k ≤ k'
    | none => e = .returned (.tuple #[.slice none 0 0, .bool false])

theorem digits_bas {b : Nat} (hb : 2 ≤ b) (hb' : b ≤ 36) {d : List UInt8} (hd : allD b d = true) (hl : d.length ≤ 3) : 0 ≤ basN b d := by
  by_cases h0 : d = []
  · subst h0
    have := (bas_plain (l := []) (d := []) hb hb' rfl rfl).1
    rw [this]
    rw [whN_no rfl]
    decide
  · have ht := trm_id (noblk_of hb' hd) h0
    have hm : minB d = false := by have := min_of hb' hd [] h0; rwa [List.append_nil] at this
    rw [(bas_plain hb hb' ht hm).1, whN_ok (okD_all h0 hd)]
    have hv : val b d < 46657 := by
      have : val b d ≤ b ^ d.length := by
        have h2 : ∀ (l : List UInt8), allD b l = true → val b l + 1 ≤ b ^ l.length := by
          intro l
          induction l with
          | nil => intro _; simp [val]
          | cons c t ih =>
            intro h
            simp only [allD, List.all_cons, Bool.and_eq_true, decide_eq_true_eq] at h
            rw [val_cons, List.length_cons, Nat.pow_succ]
            have i := ih h.2
            have h4 : (dgv c.toNat + 1) * b ^ t.length ≤ b * b ^ t.length := Nat.mul_le_mul_right _ (by omega)
            rw [Nat.add_mul, Nat.one_mul] at h4
            rw [Nat.mul_comm (b ^ t.length) b]
            omega
        have := h2 d hd
        omega
      have h3 : b ^ d.length ≤ 36 ^ 3 := Nat.le_trans (Nat.pow_le_pow_left hb' _) (Nat.pow_le_pow_right (by omega) hl)
      have h4 : (36 : Nat) ^ 3 = 46656 := by decide
      omega
    rw [sgn_in (by omega) (by omega)]
    omega

theorem take_kind {p : UInt8 → Bool} (l : List UInt8) (n : Nat) : ∀ c ∈ l.take (min n (runN p l)), p c = true := by
  intro c hc
  have h1 : c ∈ l.take (runN p l) := (List.take_subset_take_left l (Nat.min_le_right n (runN p l))) hc
  rw [take_run] at h1
  exact List.all_eq_true.1 List.all_takeWhile c h1
theorem hx_dgv : ∀ c : UInt8, hxB c = true → dgv c.toNat < 16 := u8_all (by decide +kernel)
theorem dg_dgv : ∀ c : UInt8, dgB c = true → dgv c.toNat < 10 := u8_all (by decide +kernel)
theorem kind_allD {p : UInt8 → Bool} {b : Nat} (h : ∀ c : UInt8, p c = true → dgv c.toNat < b) (l : List UInt8) (n : Nat) : allD b (l.take (min n (runN p l))) = true := by
  unfold allD
  rw [List.all_eq_true]
  intro c hc
  exact decide_eq_true (h c (take_kind l n c hc))
theorem byte_new (w : World) (x : Int) (u : UInt8) (h : x = (u.toNat : Int)) : Bts (w.alloc (.cells #[.int .u8 x] 5)) (.slice (some ⟨w.heap.size, 0, none⟩) 1 1) [u] := by
  refine .inr ⟨_, u, rfl, rfl, ?_⟩
  rw [← h]
  unfold World.cell?
  rw [World.alloc_heap_new]
  rfl
theorem u8_of {n : Int} (h0 : 0 ≤ n) (h1 : n ≤ 255) : n = ((UInt8.ofNat n.toNat).toNat : Int) := by
  rw [UInt8.toNat_ofNat', Nat.mod_eq_of_lt (by omega)]
  omega

set_option maxHeartbeats 2000000 in
theorem code_hex (b : Nat) (s : ByteArray) (k : Nat) (w : World) (h : Rd w b s k) :
    Calls Tryz.prog 66 #[.pointer (some ⟨b, 0, none⟩), .int .i64 16, .func (.func 67) #[] #[], .int .i64 2, .int .i64 2] w (EscPost b s k w (code 16 hxB 2 2 (sfx s k))) := by
  have htop := h.top
  have hle := h.le
  have HR := Lib.hid h
  clear h
  obtain ⟨m, hm⟩ : ∃ m : Nat, m = runN hxB (sfx s k) := ⟨_, rfl⟩
  have C1 := Lib.hid (fun W => run_hex (s.extract k s.size) W (by rw [rest_size s _ hle]; omega))
  rw [sfx_rest, ← hm] at C1
  have hml := run_le hxB (sfx s k)
  rw [sfx_len, ← hm] at hml
  have hall := kind_allD (p := hxB) (b := 16) hx_dgv (sfx s k) 2
  rw [← hm] at hall
  obtain ⟨c, hc⟩ : ∃ c : Nat, c = min 2 m := ⟨_, rfl⟩
  have hT : ∀ W, Rd W b s k → Calls Tryz.prog 20 #[.pointer (some ⟨b, 0, none⟩), .int .i64 (min 2 (m : Int))] W fun e w' => e = .returned (.string (s.extract k (k + c))) ∧ Rd w' b s (k + c) ∧ Kp b W w' := fun W h => by
    have := take_any b s k c W h (by omega)
    rwa [show (c : Int) = min 2 (m : Int) by omega] at this
  have hcode : code 16 hxB 2 2 (sfx s k) = if basO 16 (s.extract k (k + c)).data.toList = true ∧ 2 ≤ c ∧ basN 16 (s.extract k (k + c)).data.toList ≤ 255 then some ([UInt8.ofNat (basN 16 (s.extract k (k + c)).data.toList).toNat], sfx s (k + c)) else none := by
    unfold code
    rw [← hm, ← hc, ← sfx_take, sfx_drop]
  rw [← hc, ← sfx_take] at hall
  have hpos := digits_bas (b := 16) (by decide) (by decide) hall (by rw [sfx_take, List.length_take]; omega)
  have hDs : (s.extract k (k + c)).size = c := by rw [ByteArray.size_extract]; omega
  obtain ⟨D, hD⟩ : ∃ D : ByteArray, D = s.extract k (k + c) := ⟨_, rfl⟩
  rw [← hD] at hT hcode hpos hDs
  have C2 := Lib.hid hT
  have C3 := Lib.hid (fun W => cBase D 16 W (by omega))
  obtain ⟨N, hN⟩ : ∃ N : Int, N = basN 16 D.data.toList := ⟨_, rfl⟩
  obtain ⟨o, ho⟩ : ∃ o : Bool, o = basO 16 D.data.toList := ⟨_, rfl⟩
  rw [show ((16 : Nat) : Int) = (16 : Int) from rfl] at hpos
  rw [← hN] at hpos
  rw [← hN, ← ho] at C3 hcode
  have HC := Lib.hid hcode
  clear hm hall hT hcode hD hN ho
  have hcase : o = false ∨ (o = true ∧ D.size < 2) ∨ (o = true ∧ 2 ≤ D.size ∧ 255 < N) ∨ (o = true ∧ 2 ≤ D.size ∧ N ≤ 255) := by
    cases o
    · exact .inl rfl
    · right
      by_cases h1 : D.size < 2
      · exact .inl ⟨rfl, h1⟩
      · right
        by_cases h2 : 255 < N
        · exact .inl ⟨rfl, by omega, h2⟩
        · exact .inr ⟨rfl, by omega, by omega⟩
  rcases hcase with rfl | ⟨rfl, h1⟩ | ⟨rfl, h1, h2⟩ | ⟨rfl, h1, h2⟩
  all_goals have HDs := Lib.hid hDs
  all_goals have HCm := Lib.hid hc
  all_goals clear hDs hc
  · go_enter Tryz.func66, Tryz.ntmps66
    go_wp2_with fail
    refine (rest_any _ _ _ _ HR.out).mono ?_; rintro e w1 ⟨rfl, r1, k1⟩
    have R1 := Lib.hid r1
    have K1 := Lib.hid k1
    clear r1 k1
    go_wp2_with fail
    refine (C1.out _).mono ?_; rintro e w1' ⟨rfl, rfl⟩
    go_wp2_with fail
    refine (C2.out _ R1.out).mono ?_; rintro e w2 ⟨rfl, r2, k2⟩
    have R2 := Lib.hid r2
    have K2 := hid_kp K1 k2
    clear r2 k2
    go_wp2_with fail
    refine (C3.out _).mono ?_; rintro e w3 ⟨rfl, b3⟩
    have K3 := hid_kp K2 (Kp.of_below b3)
    clear b3
    go_wp2_with fail
    go_ret2
    refine ⟨K3.out, ?_⟩
    rw [HC.out, if_neg (by simp)]
    rfl
  · have g1 : decide (D.size < 2) = true := decide_eq_true h1
    go_enter Tryz.func66, Tryz.ntmps66
    go_wp2_with fail
    refine (rest_any _ _ _ _ HR.out).mono ?_; rintro e w1 ⟨rfl, r1, k1⟩
    have R1 := Lib.hid r1
    have K1 := Lib.hid k1
    clear r1 k1
    go_wp2_with fail
    refine (C1.out _).mono ?_; rintro e w1' ⟨rfl, rfl⟩
    go_wp2_with fail
    refine (C2.out _ R1.out).mono ?_; rintro e w2 ⟨rfl, r2, k2⟩
    have R2 := Lib.hid r2
    have K2 := hid_kp K1 k2
    clear r2 k2
    go_wp2_with fail
    refine (C3.out _).mono ?_; rintro e w3 ⟨rfl, b3⟩
    have K3 := hid_kp K2 (Kp.of_below b3)
    clear b3
    go_wp2_with fail
    go_ret2
    refine ⟨K3.out, ?_⟩
    rw [HC.out, if_neg (by have := HDs.out; omega)]
    rfl
  · have g1 : decide (D.size < 2) = false := decide_eq_false (by omega)
    have g2 : decide (255 < N) = true := decide_eq_true h2
    go_enter Tryz.func66, Tryz.ntmps66
    go_wp2_with fail
    refine (rest_any _ _ _ _ HR.out).mono ?_; rintro e w1 ⟨rfl, r1, k1⟩
    have R1 := Lib.hid r1
    have K1 := Lib.hid k1
    clear r1 k1
    go_wp2_with fail
    refine (C1.out _).mono ?_; rintro e w1' ⟨rfl, rfl⟩
    go_wp2_with fail
    refine (C2.out _ R1.out).mono ?_; rintro e w2 ⟨rfl, r2, k2⟩
    have R2 := Lib.hid r2
    have K2 := hid_kp K1 k2
    clear r2 k2
    go_wp2_with fail
    refine (C3.out _).mono ?_; rintro e w3 ⟨rfl, b3⟩
    have K3 := hid_kp K2 (Kp.of_below b3)
    clear b3
    go_wp2_with fail
    go_ret2
    refine ⟨K3.out, ?_⟩
    rw [HC.out, if_neg (by omega)]
    rfl
  · have g1 : decide (D.size < 2) = false := decide_eq_false (by omega)
    have g2 : decide (255 < N) = false := decide_eq_false (by omega)
    go_enter Tryz.func66, Tryz.ntmps66
    go_wp2_with fail
    refine (rest_any _ _ _ _ HR.out).mono ?_; rintro e w1 ⟨rfl, r1, k1⟩
    have R1 := Lib.hid r1
    have K1 := Lib.hid k1
    clear r1 k1
    go_wp2_with fail
    refine (C1.out _).mono ?_; rintro e w1' ⟨rfl, rfl⟩
    go_wp2_with fail
    refine (C2.out _ R1.out).mono ?_; rintro e w2 ⟨rfl, r2, k2⟩
    have R2 := Lib.hid r2
    have K2 := hid_kp K1 k2
    clear r2 k2
    go_wp2_with fail
    refine (C3.out _).mono ?_; rintro e w3 ⟨rfl, b3⟩
    have R3 := Lib.hid (R2.out.below b3)
    have K3 := hid_kp K2 (Kp.of_below b3)
    clear b3
    go_wp2_with fail
    go_ret2
    refine ⟨K3.out.alloc _, ?_⟩
    rw [HC.out, if_pos ⟨by trivial, by have := HDs.out; omega, h2⟩]
    exact ⟨_, _, rfl, byte_new _ _ _ (u8_of hpos h2), R3.out.alloc _, rfl, by omega⟩

set_option maxHeartbeats 2000000 in
theorem code_digit (b : Nat) (s : ByteArray) (k : Nat) (w : World) (h : Rd w b s k) :
    Calls Tryz.prog 66 #[.pointer (some ⟨b, 0, none⟩), .int .i64 10, .func (.func 28) #[] #[], .int .i64 1, .int .i64 3] w (EscPost b s k w (code 10 dgB 1 3 (sfx s k))) := by
  have htop := h.top
  have hle := h.le
  have HR := Lib.hid h
  clear h
  obtain ⟨m, hm⟩ : ∃ m : Nat, m = runN dgB (sfx s k) := ⟨_, rfl⟩
  have C1 := Lib.hid (fun W => run_digit (s.extract k s.size) W (by rw [rest_size s _ hle]; omega))
  rw [sfx_rest, ← hm] at C1
  have hml := run_le dgB (sfx s k)
  rw [sfx_len, ← hm] at hml
  have hall := kind_allD (p := dgB) (b := 10) dg_dgv (sfx s k) 3
  rw [← hm] at hall
  obtain ⟨c, hc⟩ : ∃ c : Nat, c = min 3 m := ⟨_, rfl⟩
  have hT : ∀ W, Rd W b s k → Calls Tryz.prog 20 #[.pointer (some ⟨b, 0, none⟩), .int .i64 (min 3 (m : Int))] W fun e w' => e = .returned (.string (s.extract k (k + c))) ∧ Rd w' b s (k + c) ∧ Kp b W w' := fun W h => by
    have := take_any b s k c W h (by omega)
    rwa [show (c : Int) = min 3 (m : Int) by omega] at this
  have hcode : code 10 dgB 1 3 (sfx s k) = if basO 10 (s.extract k (k + c)).data.toList = true ∧ 1 ≤ c ∧ basN 10 (s.extract k (k + c)).data.toList ≤ 255 then some ([UInt8.ofNat (basN 10 (s.extract k (k + c)).data.toList).toNat], sfx s (k + c)) else none := by
    unfold code
    rw [← hm, ← hc, ← sfx_take, sfx_drop]
  rw [← hc, ← sfx_take] at hall
  have hpos := digits_bas (b := 10) (by decide) (by decide) hall (by rw [sfx_take, List.length_take]; omega)
  have hDs : (s.extract k (k + c)).size = c := by rw [ByteArray.size_extract]; omega
  obtain ⟨D, hD⟩ : ∃ D : ByteArray, D = s.extract k (k + c) := ⟨_, rfl⟩
  rw [← hD] at hT hcode hpos hDs
  have C2 := Lib.hid hT
  have C3 := Lib.hid (fun W => cBase D 10 W (by omega))
  obtain ⟨N, hN⟩ : ∃ N : Int, N = basN 10 D.data.toList := ⟨_, rfl⟩
  obtain ⟨o, ho⟩ : ∃ o : Bool, o = basO 10 D.data.toList := ⟨_, rfl⟩
  rw [show ((10 : Nat) : Int) = (10 : Int) from rfl] at hpos
  rw [← hN] at hpos
  rw [← hN, ← ho] at C3 hcode
  have HC := Lib.hid hcode
  clear hm hall hT hcode hD hN ho
  have hcase : o = false ∨ (o = true ∧ D.size < 1) ∨ (o = true ∧ 1 ≤ D.size ∧ 255 < N) ∨ (o = true ∧ 1 ≤ D.size ∧ N ≤ 255) := by
    cases o
    · exact .inl rfl
    · right
      by_cases h1 : D.size < 1
      · exact .inl ⟨rfl, h1⟩
      · right
        by_cases h2 : 255 < N
        · exact .inl ⟨rfl, by omega, h2⟩
        · exact .inr ⟨rfl, by omega, by omega⟩
  rcases hcase with rfl | ⟨rfl, h1⟩ | ⟨rfl, h1, h2⟩ | ⟨rfl, h1, h2⟩
  all_goals have HDs := Lib.hid hDs
  all_goals have HCm := Lib.hid hc
  all_goals clear hDs hc
  · go_enter Tryz.func66, Tryz.ntmps66
    go_wp2_with fail
    refine (rest_any _ _ _ _ HR.out).mono ?_; rintro e w1 ⟨rfl, r1, k1⟩
    have R1 := Lib.hid r1
    have K1 := Lib.hid k1
    clear r1 k1
    go_wp2_with fail
    refine (C1.out _).mono ?_; rintro e w1' ⟨rfl, rfl⟩
    go_wp2_with fail
    refine (C2.out _ R1.out).mono ?_; rintro e w2 ⟨rfl, r2, k2⟩
    have R2 := Lib.hid r2
    have K2 := hid_kp K1 k2
    clear r2 k2
    go_wp2_with fail
    refine (C3.out _).mono ?_; rintro e w3 ⟨rfl, b3⟩
    have K3 := hid_kp K2 (Kp.of_below b3)
    clear b3
    go_wp2_with fail
    go_ret2
    refine ⟨K3.out, ?_⟩
    rw [HC.out, if_neg (by simp)]
    rfl
  · have g1 : decide (D.size < 1) = true := decide_eq_true h1
    go_enter Tryz.func66, Tryz.ntmps66
    go_wp2_with fail
    refine (rest_any _ _ _ _ HR.out).mono ?_; rintro e w1 ⟨rfl, r1, k1⟩
    have R1 := Lib.hid r1
    have K1 := Lib.hid k1
    clear r1 k1
    go_wp2_with fail
    refine (C1.out _).mono ?_; rintro e w1' ⟨rfl, rfl⟩
    go_wp2_with fail
    refine (C2.out _ R1.out).mono ?_; rintro e w2 ⟨rfl, r2, k2⟩
    have R2 := Lib.hid r2
    have K2 := hid_kp K1 k2
    clear r2 k2
    go_wp2_with fail
    refine (C3.out _).mono ?_; rintro e w3 ⟨rfl, b3⟩
    have K3 := hid_kp K2 (Kp.of_below b3)
    clear b3
    go_wp2_with fail
    go_ret2
    refine ⟨K3.out, ?_⟩
    rw [HC.out, if_neg (by have := HDs.out; omega)]
    rfl
  · have g1 : decide (D.size < 1) = false := decide_eq_false (by omega)
    have g2 : decide (255 < N) = true := decide_eq_true h2
    go_enter Tryz.func66, Tryz.ntmps66
    go_wp2_with fail
    refine (rest_any _ _ _ _ HR.out).mono ?_; rintro e w1 ⟨rfl, r1, k1⟩
    have R1 := Lib.hid r1
    have K1 := Lib.hid k1
    clear r1 k1
    go_wp2_with fail
    refine (C1.out _).mono ?_; rintro e w1' ⟨rfl, rfl⟩
    go_wp2_with fail
    refine (C2.out _ R1.out).mono ?_; rintro e w2 ⟨rfl, r2, k2⟩
    have R2 := Lib.hid r2
    have K2 := hid_kp K1 k2
    clear r2 k2
    go_wp2_with fail
    refine (C3.out _).mono ?_; rintro e w3 ⟨rfl, b3⟩
    have K3 := hid_kp K2 (Kp.of_below b3)
    clear b3
    go_wp2_with fail
    go_ret2
    refine ⟨K3.out, ?_⟩
    rw [HC.out, if_neg (by omega)]
    rfl
  · have g1 : decide (D.size < 1) = false := decide_eq_false (by omega)
    have g2 : decide (255 < N) = false := decide_eq_false (by omega)
    go_enter Tryz.func66, Tryz.ntmps66
    go_wp2_with fail
    refine (rest_any _ _ _ _ HR.out).mono ?_; rintro e w1 ⟨rfl, r1, k1⟩
    have R1 := Lib.hid r1
    have K1 := Lib.hid k1
    clear r1 k1
    go_wp2_with fail
    refine (C1.out _).mono ?_; rintro e w1' ⟨rfl, rfl⟩
    go_wp2_with fail
    refine (C2.out _ R1.out).mono ?_; rintro e w2 ⟨rfl, r2, k2⟩
    have R2 := Lib.hid r2
    have K2 := hid_kp K1 k2
    clear r2 k2
    go_wp2_with fail
    refine (C3.out _).mono ?_; rintro e w3 ⟨rfl, b3⟩
    have R3 := Lib.hid (R2.out.below b3)
    have K3 := hid_kp K2 (Kp.of_below b3)
    clear b3
    go_wp2_with fail
    go_ret2
    refine ⟨K3.out.alloc _, ?_⟩
    rw [HC.out, if_pos ⟨by trivial, by have := HDs.out; omega, h2⟩]
    exact ⟨_, _, rfl, byte_new _ _ _ (u8_of hpos h2), R3.out.alloc _, rfl, by omega⟩
end Go.Proofs.YtbeckfamnhfaeaaGreatDoor
