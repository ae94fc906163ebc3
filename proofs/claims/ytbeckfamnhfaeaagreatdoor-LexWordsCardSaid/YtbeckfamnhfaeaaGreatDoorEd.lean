/- (*reader).escaped: what stands behind a backslash, byte by byte. -/
import Derived.Test.YtbeckfamnhfaeaaGreatDoorEs
namespace Go.Proofs.YtbeckfamnhfaeaaGreatDoor
open Go.RowKit

theorem sfx_cons (s : ByteArray) (k : Nat) (h : k < s.size) : sfx s k = s[k] :: sfx s (k + 1) := by
  unfold sfx
  exact List.drop_eq_getElem_cons (l := s.data.toList) (i := k) (by simpa using h)
theorem rest_head (s : ByteArray) (k : Nat) (h : k < s.size) (h' : 0 < (s.extract k s.size).size) : (s.extract k s.size)[0] = s[k] := by
  rw [ByteArray.getElem_extract]
  simp
theorem sfx_end (s : ByteArray) (k : Nat) (h : s.size ≤ k) : sfx s k = [] := List.drop_eq_nil_of_le (by rw [← Lib.size_eq]; exact h)
theorem empB_no (X : ByteArray) (h : 0 < X.size) : X.toList.isEmpty = false := by
  rw [Lib.toList_data]
  cases e : X.data.toList with
  | nil =>
    have := Lib.size_eq X
    rw [e, List.length_nil] at this
    omega
  | cons => rfl
theorem empB_yes (X : ByteArray) (h : X.size = 0) : X.toList.isEmpty = true := by
  rw [Lib.toList_data, List.eq_nil_of_length_eq_zero (l := X.data.toList) (by rw [← Lib.size_eq]; exact h)]
  rfl

set_option maxHeartbeats 2000000 in
theorem esc_none (b : Nat) (s : ByteArray) (k : Nat) (w : World) (h : Rd w b s k) (hk : k = s.size) : Calls Tryz.prog 48 #[.pointer (some ⟨b, 0, none⟩)] w (EscPost b s k w (esc (sfx s k))) := by
  rw [sfx_end s k (by omega)]
  obtain ⟨X, hX⟩ : ∃ X : ByteArray, X = s.extract k s.size := ⟨_, rfl⟩
  have C1 := Lib.hid (fun W h => rest_any b s k W h)
  rw [← hX] at C1
  have hXe := empB_yes X (by rw [hX, rest_size s k (by omega)]; omega)
  have HR := Lib.hid h
  clear hX h
  go_enter Tryz.func48, Tryz.ntmps48
  go_wp2_with fail
  refine (C1.out _ HR.out).mono ?_; rintro e w1 ⟨rfl, r1, k1⟩
  have K1 := Lib.hid k1
  clear r1 k1
  go_wp2_with fail
  go_ret2
  exact ⟨K1.out, rfl⟩

set_option maxHeartbeats 4000000 in
theorem esc_97 (b : Nat) (s : ByteArray) (k : Nat) (w : World) (h : Rd w b s k) (hk : k < s.size) (hc : s[k] = 97) : Calls Tryz.prog 48 #[.pointer (some ⟨b, 0, none⟩)] w (EscPost b s k w (some ([7], sfx s (k + 1)))) := by
  obtain ⟨X, hX⟩ : ∃ X : ByteArray, X = s.extract k s.size := ⟨_, rfl⟩
  have C1 := Lib.hid (fun W h => rest_any b s k W h)
  have hXs : 0 < X.size := by rw [hX, rest_size s k (by omega)]; omega
  have hX0 : X[0] = 97 := by subst hX; rw [rest_head s k hk hXs]; exact hc
  rw [← hX] at C1
  have hXe := empB_no X hXs
  have HR := Lib.hid h
  have I1 := Lib.hid (fun W => indexB_call ⟨#[97, 98, 102, 110, 114, 116, 118]⟩ 97 W)
  have T1 := Lib.hid (fun W h => take_any b s k 1 W h (by omega))
  clear hX h hc
  go_enter Tryz.func48, Tryz.ntmps48
  go_wp2_with fail
  refine (C1.out _ HR.out).mono ?_; rintro e w1 ⟨rfl, r1, k1⟩
  have R1 := Lib.hid r1
  have K1 := Lib.hid k1
  clear r1 k1
  go_wp2_with fail
  refine (C1.out _ R1.out).mono ?_; rintro e w2 ⟨rfl, r2, k2⟩
  have R2 := Lib.hid r2
  have K2 := hid_kp K1 k2
  clear r2 k2
  go_wp2_with fail
  refine (I1.out _).mono ?_; rintro e w2' ⟨rfl, rfl⟩
  rw [show Lib.indexByte (⟨#[97, 98, 102, 110, 114, 116, 118]⟩ : ByteArray).data.toList 97 = 0 from by decide]
  go_wp2_with fail
  refine (T1.out _ R2.out).mono ?_; rintro e w3 ⟨rfl, r3, k3⟩
  have R3 := Lib.hid r3
  have K3 := hid_kp K2 k3
  clear r3 k3
  go_wp2_with fail
  go_ret2
  exact ⟨K3.out.alloc _, _, _, rfl, byte_new _ _ _ rfl, R3.out.alloc _, rfl, by omega⟩
set_option maxHeartbeats 4000000 in
theorem esc_98 (b : Nat) (s : ByteArray) (k : Nat) (w : World) (h : Rd w b s k) (hk : k < s.size) (hc : s[k] = 98) : Calls Tryz.prog 48 #[.pointer (some ⟨b, 0, none⟩)] w (EscPost b s k w (some ([8], sfx s (k + 1)))) := by
  obtain ⟨X, hX⟩ : ∃ X : ByteArray, X = s.extract k s.size := ⟨_, rfl⟩
  have C1 := Lib.hid (fun W h => rest_any b s k W h)
  have hXs : 0 < X.size := by rw [hX, rest_size s k (by omega)]; omega
  have hX0 : X[0] = 98 := by subst hX; rw [rest_head s k hk hXs]; exact hc
  rw [← hX] at C1
  have hXe := empB_no X hXs
  have HR := Lib.hid h
  have I1 := Lib.hid (fun W => indexB_call ⟨#[97, 98, 102, 110, 114, 116, 118]⟩ 98 W)
  have T1 := Lib.hid (fun W h => take_any b s k 1 W h (by omega))
  clear hX h hc
  go_enter Tryz.func48, Tryz.ntmps48
  go_wp2_with fail
  refine (C1.out _ HR.out).mono ?_; rintro e w1 ⟨rfl, r1, k1⟩
  have R1 := Lib.hid r1
  have K1 := Lib.hid k1
  clear r1 k1
  go_wp2_with fail
  refine (C1.out _ R1.out).mono ?_; rintro e w2 ⟨rfl, r2, k2⟩
  have R2 := Lib.hid r2
  have K2 := hid_kp K1 k2
  clear r2 k2
  go_wp2_with fail
  refine (I1.out _).mono ?_; rintro e w2' ⟨rfl, rfl⟩
  rw [show Lib.indexByte (⟨#[97, 98, 102, 110, 114, 116, 118]⟩ : ByteArray).data.toList 98 = 1 from by decide]
  go_wp2_with fail
  refine (T1.out _ R2.out).mono ?_; rintro e w3 ⟨rfl, r3, k3⟩
  have R3 := Lib.hid r3
  have K3 := hid_kp K2 k3
  clear r3 k3
  go_wp2_with fail
  go_ret2
  exact ⟨K3.out.alloc _, _, _, rfl, byte_new _ _ _ rfl, R3.out.alloc _, rfl, by omega⟩
set_option maxHeartbeats 4000000 in
theorem esc_102 (b : Nat) (s : ByteArray) (k : Nat) (w : World) (h : Rd w b s k) (hk : k < s.size) (hc : s[k] = 102) : Calls Tryz.prog 48 #[.pointer (some ⟨b, 0, none⟩)] w (EscPost b s k w (some ([12], sfx s (k + 1)))) := by
  obtain ⟨X, hX⟩ : ∃ X : ByteArray, X = s.extract k s.size := ⟨_, rfl⟩
  have C1 := Lib.hid (fun W h => rest_any b s k W h)
  have hXs : 0 < X.size := by rw [hX, rest_size s k (by omega)]; omega
  have hX0 : X[0] = 102 := by subst hX; rw [rest_head s k hk hXs]; exact hc
  rw [← hX] at C1
  have hXe := empB_no X hXs
  have HR := Lib.hid h
  have I1 := Lib.hid (fun W => indexB_call ⟨#[97, 98, 102, 110, 114, 116, 118]⟩ 102 W)
  have T1 := Lib.hid (fun W h => take_any b s k 1 W h (by omega))
  clear hX h hc
  go_enter Tryz.func48, Tryz.ntmps48
  go_wp2_with fail
  refine (C1.out _ HR.out).mono ?_; rintro e w1 ⟨rfl, r1, k1⟩
  have R1 := Lib.hid r1
  have K1 := Lib.hid k1
  clear r1 k1
  go_wp2_with fail
  refine (C1.out _ R1.out).mono ?_; rintro e w2 ⟨rfl, r2, k2⟩
  have R2 := Lib.hid r2
  have K2 := hid_kp K1 k2
  clear r2 k2
  go_wp2_with fail
  refine (I1.out _).mono ?_; rintro e w2' ⟨rfl, rfl⟩
  rw [show Lib.indexByte (⟨#[97, 98, 102, 110, 114, 116, 118]⟩ : ByteArray).data.toList 102 = 2 from by decide]
  go_wp2_with fail
  refine (T1.out _ R2.out).mono ?_; rintro e w3 ⟨rfl, r3, k3⟩
  have R3 := Lib.hid r3
  have K3 := hid_kp K2 k3
  clear r3 k3
  go_wp2_with fail
  go_ret2
  exact ⟨K3.out.alloc _, _, _, rfl, byte_new _ _ _ rfl, R3.out.alloc _, rfl, by omega⟩
set_option maxHeartbeats 4000000 in
theorem esc_110 (b : Nat) (s : ByteArray) (k : Nat) (w : World) (h : Rd w b s k) (hk : k < s.size) (hc : s[k] = 110) : Calls Tryz.prog 48 #[.pointer (some ⟨b, 0, none⟩)] w (EscPost b s k w (some ([10], sfx s (k + 1)))) := by
  obtain ⟨X, hX⟩ : ∃ X : ByteArray, X = s.extract k s.size := ⟨_, rfl⟩
  have C1 := Lib.hid (fun W h => rest_any b s k W h)
  have hXs : 0 < X.size := by rw [hX, rest_size s k (by omega)]; omega
  have hX0 : X[0] = 110 := by subst hX; rw [rest_head s k hk hXs]; exact hc
  rw [← hX] at C1
  have hXe := empB_no X hXs
  have HR := Lib.hid h
  have I1 := Lib.hid (fun W => indexB_call ⟨#[97, 98, 102, 110, 114, 116, 118]⟩ 110 W)
  have T1 := Lib.hid (fun W h => take_any b s k 1 W h (by omega))
  clear hX h hc
  go_enter Tryz.func48, Tryz.ntmps48
  go_wp2_with fail
  refine (C1.out _ HR.out).mono ?_; rintro e w1 ⟨rfl, r1, k1⟩
  have R1 := Lib.hid r1
  have K1 := Lib.hid k1
  clear r1 k1
  go_wp2_with fail
  refine (C1.out _ R1.out).mono ?_; rintro e w2 ⟨rfl, r2, k2⟩
  have R2 := Lib.hid r2
  have K2 := hid_kp K1 k2
  clear r2 k2
  go_wp2_with fail
  refine (I1.out _).mono ?_; rintro e w2' ⟨rfl, rfl⟩
  rw [show Lib.indexByte (⟨#[97, 98, 102, 110, 114, 116, 118]⟩ : ByteArray).data.toList 110 = 3 from by decide]
  go_wp2_with fail
  refine (T1.out _ R2.out).mono ?_; rintro e w3 ⟨rfl, r3, k3⟩
  have R3 := Lib.hid r3
  have K3 := hid_kp K2 k3
  clear r3 k3
  go_wp2_with fail
  go_ret2
  exact ⟨K3.out.alloc _, _, _, rfl, byte_new _ _ _ rfl, R3.out.alloc _, rfl, by omega⟩
set_option maxHeartbeats 4000000 in
theorem esc_114 (b : Nat) (s : ByteArray) (k : Nat) (w : World) (h : Rd w b s k) (hk : k < s.size) (hc : s[k] = 114) : Calls Tryz.prog 48 #[.pointer (some ⟨b, 0, none⟩)] w (EscPost b s k w (some ([13], sfx s (k + 1)))) := by
  obtain ⟨X, hX⟩ : ∃ X : ByteArray, X = s.extract k s.size := ⟨_, rfl⟩
  have C1 := Lib.hid (fun W h => rest_any b s k W h)
  have hXs : 0 < X.size := by rw [hX, rest_size s k (by omega)]; omega
  have hX0 : X[0] = 114 := by subst hX; rw [rest_head s k hk hXs]; exact hc
  rw [← hX] at C1
  have hXe := empB_no X hXs
  have HR := Lib.hid h
  have I1 := Lib.hid (fun W => indexB_call ⟨#[97, 98, 102, 110, 114, 116, 118]⟩ 114 W)
  have T1 := Lib.hid (fun W h => take_any b s k 1 W h (by omega))
  clear hX h hc
  go_enter Tryz.func48, Tryz.ntmps48
  go_wp2_with fail
  refine (C1.out _ HR.out).mono ?_; rintro e w1 ⟨rfl, r1, k1⟩
  have R1 := Lib.hid r1
  have K1 := Lib.hid k1
  clear r1 k1
  go_wp2_with fail
  refine (C1.out _ R1.out).mono ?_; rintro e w2 ⟨rfl, r2, k2⟩
  have R2 := Lib.hid r2
  have K2 := hid_kp K1 k2
  clear r2 k2
  go_wp2_with fail
  refine (I1.out _).mono ?_; rintro e w2' ⟨rfl, rfl⟩
  rw [show Lib.indexByte (⟨#[97, 98, 102, 110, 114, 116, 118]⟩ : ByteArray).data.toList 114 = 4 from by decide]
  go_wp2_with fail
  refine (T1.out _ R2.out).mono ?_; rintro e w3 ⟨rfl, r3, k3⟩
  have R3 := Lib.hid r3
  have K3 := hid_kp K2 k3
  clear r3 k3
  go_wp2_with fail
  go_ret2
  exact ⟨K3.out.alloc _, _, _, rfl, byte_new _ _ _ rfl, R3.out.alloc _, rfl, by omega⟩
set_option maxHeartbeats 4000000 in
theorem esc_116 (b : Nat) (s : ByteArray) (k : Nat) (w : World) (h : Rd w b s k) (hk : k < s.size) (hc : s[k] = 116) : Calls Tryz.prog 48 #[.pointer (some ⟨b, 0, none⟩)] w (EscPost b s k w (some ([9], sfx s (k + 1)))) := by
  obtain ⟨X, hX⟩ : ∃ X : ByteArray, X = s.extract k s.size := ⟨_, rfl⟩
  have C1 := Lib.hid (fun W h => rest_any b s k W h)
  have hXs : 0 < X.size := by rw [hX, rest_size s k (by omega)]; omega
  have hX0 : X[0] = 116 := by subst hX; rw [rest_head s k hk hXs]; exact hc
  rw [← hX] at C1
  have hXe := empB_no X hXs
  have HR := Lib.hid h
  have I1 := Lib.hid (fun W => indexB_call ⟨#[97, 98, 102, 110, 114, 116, 118]⟩ 116 W)
  have T1 := Lib.hid (fun W h => take_any b s k 1 W h (by omega))
  clear hX h hc
  go_enter Tryz.func48, Tryz.ntmps48
  go_wp2_with fail
  refine (C1.out _ HR.out).mono ?_; rintro e w1 ⟨rfl, r1, k1⟩
  have R1 := Lib.hid r1
  have K1 := Lib.hid k1
  clear r1 k1
  go_wp2_with fail
  refine (C1.out _ R1.out).mono ?_; rintro e w2 ⟨rfl, r2, k2⟩
  have R2 := Lib.hid r2
  have K2 := hid_kp K1 k2
  clear r2 k2
  go_wp2_with fail
  refine (I1.out _).mono ?_; rintro e w2' ⟨rfl, rfl⟩
  rw [show Lib.indexByte (⟨#[97, 98, 102, 110, 114, 116, 118]⟩ : ByteArray).data.toList 116 = 5 from by decide]
  go_wp2_with fail
  refine (T1.out _ R2.out).mono ?_; rintro e w3 ⟨rfl, r3, k3⟩
  have R3 := Lib.hid r3
  have K3 := hid_kp K2 k3
  clear r3 k3
  go_wp2_with fail
  go_ret2
  exact ⟨K3.out.alloc _, _, _, rfl, byte_new _ _ _ rfl, R3.out.alloc _, rfl, by omega⟩
set_option maxHeartbeats 4000000 in
theorem esc_118 (b : Nat) (s : ByteArray) (k : Nat) (w : World) (h : Rd w b s k) (hk : k < s.size) (hc : s[k] = 118) : Calls Tryz.prog 48 #[.pointer (some ⟨b, 0, none⟩)] w (EscPost b s k w (some ([11], sfx s (k + 1)))) := by
  obtain ⟨X, hX⟩ : ∃ X : ByteArray, X = s.extract k s.size := ⟨_, rfl⟩
  have C1 := Lib.hid (fun W h => rest_any b s k W h)
  have hXs : 0 < X.size := by rw [hX, rest_size s k (by omega)]; omega
  have hX0 : X[0] = 118 := by subst hX; rw [rest_head s k hk hXs]; exact hc
  rw [← hX] at C1
  have hXe := empB_no X hXs
  have HR := Lib.hid h
  have I1 := Lib.hid (fun W => indexB_call ⟨#[97, 98, 102, 110, 114, 116, 118]⟩ 118 W)
  have T1 := Lib.hid (fun W h => take_any b s k 1 W h (by omega))
  clear hX h hc
  go_enter Tryz.func48, Tryz.ntmps48
  go_wp2_with fail
  refine (C1.out _ HR.out).mono ?_; rintro e w1 ⟨rfl, r1, k1⟩
  have R1 := Lib.hid r1
  have K1 := Lib.hid k1
  clear r1 k1
  go_wp2_with fail
  refine (C1.out _ R1.out).mono ?_; rintro e w2 ⟨rfl, r2, k2⟩
  have R2 := Lib.hid r2
  have K2 := hid_kp K1 k2
  clear r2 k2
  go_wp2_with fail
  refine (I1.out _).mono ?_; rintro e w2' ⟨rfl, rfl⟩
  rw [show Lib.indexByte (⟨#[97, 98, 102, 110, 114, 116, 118]⟩ : ByteArray).data.toList 118 = 6 from by decide]
  go_wp2_with fail
  refine (T1.out _ R2.out).mono ?_; rintro e w3 ⟨rfl, r3, k3⟩
  have R3 := Lib.hid r3
  have K3 := hid_kp K2 k3
  clear r3 k3
  go_wp2_with fail
  go_ret2
  exact ⟨K3.out.alloc _, _, _, rfl, byte_new _ _ _ rfl, R3.out.alloc _, rfl, by omega⟩
set_option maxHeartbeats 4000000 in
theorem esc_92 (b : Nat) (s : ByteArray) (k : Nat) (w : World) (h : Rd w b s k) (hk : k < s.size) (hc : s[k] = 92) : Calls Tryz.prog 48 #[.pointer (some ⟨b, 0, none⟩)] w (EscPost b s k w (some ([92], sfx s (k + 1)))) := by
  obtain ⟨X, hX⟩ : ∃ X : ByteArray, X = s.extract k s.size := ⟨_, rfl⟩
  have C1 := Lib.hid (fun W h => rest_any b s k W h)
  have hXs : 0 < X.size := by rw [hX, rest_size s k (by omega)]; omega
  have hX0 : X[0] = 92 := by subst hX; rw [rest_head s k hk hXs]; exact hc
  rw [← hX] at C1
  have hXe := empB_no X hXs
  have HR := Lib.hid h
  have T1 := Lib.hid (fun W h => take_any b s k 1 W h (by omega))
  clear hX h hc
  go_enter Tryz.func48, Tryz.ntmps48
  go_wp2_with fail
  refine (C1.out _ HR.out).mono ?_; rintro e w1 ⟨rfl, r1, k1⟩
  have R1 := Lib.hid r1
  have K1 := Lib.hid k1
  clear r1 k1
  go_wp2_with fail
  refine (C1.out _ R1.out).mono ?_; rintro e w2 ⟨rfl, r2, k2⟩
  have R2 := Lib.hid r2
  have K2 := hid_kp K1 k2
  clear r2 k2
  go_wp2_with fail
  refine (T1.out _ R2.out).mono ?_; rintro e w3 ⟨rfl, r3, k3⟩
  have R3 := Lib.hid r3
  have K3 := hid_kp K2 k3
  clear r3 k3
  go_wp2_with fail
  go_ret2
  exact ⟨K3.out.alloc _, _, _, rfl, byte_new _ _ _ rfl, R3.out.alloc _, rfl, by omega⟩
set_option maxHeartbeats 4000000 in
theorem esc_39 (b : Nat) (s : ByteArray) (k : Nat) (w : World) (h : Rd w b s k) (hk : k < s.size) (hc : s[k] = 39) : Calls Tryz.prog 48 #[.pointer (some ⟨b, 0, none⟩)] w (EscPost b s k w (some ([39], sfx s (k + 1)))) := by
  obtain ⟨X, hX⟩ : ∃ X : ByteArray, X = s.extract k s.size := ⟨_, rfl⟩
  have C1 := Lib.hid (fun W h => rest_any b s k W h)
  have hXs : 0 < X.size := by rw [hX, rest_size s k (by omega)]; omega
  have hX0 : X[0] = 39 := by subst hX; rw [rest_head s k hk hXs]; exact hc
  rw [← hX] at C1
  have hXe := empB_no X hXs
  have HR := Lib.hid h
  have T1 := Lib.hid (fun W h => take_any b s k 1 W h (by omega))
  clear hX h hc
  go_enter Tryz.func48, Tryz.ntmps48
  go_wp2_with fail
  refine (C1.out _ HR.out).mono ?_; rintro e w1 ⟨rfl, r1, k1⟩
  have R1 := Lib.hid r1
  have K1 := Lib.hid k1
  clear r1 k1
  go_wp2_with fail
  refine (C1.out _ R1.out).mono ?_; rintro e w2 ⟨rfl, r2, k2⟩
  have R2 := Lib.hid r2
  have K2 := hid_kp K1 k2
  clear r2 k2
  go_wp2_with fail
  refine (T1.out _ R2.out).mono ?_; rintro e w3 ⟨rfl, r3, k3⟩
  have R3 := Lib.hid r3
  have K3 := hid_kp K2 k3
  clear r3 k3
  go_wp2_with fail
  go_ret2
  exact ⟨K3.out.alloc _, _, _, rfl, byte_new _ _ _ rfl, R3.out.alloc _, rfl, by omega⟩
set_option maxHeartbeats 4000000 in
theorem esc_34 (b : Nat) (s : ByteArray) (k : Nat) (w : World) (h : Rd w b s k) (hk : k < s.size) (hc : s[k] = 34) : Calls Tryz.prog 48 #[.pointer (some ⟨b, 0, none⟩)] w (EscPost b s k w (some ([34], sfx s (k + 1)))) := by
  obtain ⟨X, hX⟩ : ∃ X : ByteArray, X = s.extract k s.size := ⟨_, rfl⟩
  have C1 := Lib.hid (fun W h => rest_any b s k W h)
  have hXs : 0 < X.size := by rw [hX, rest_size s k (by omega)]; omega
  have hX0 : X[0] = 34 := by subst hX; rw [rest_head s k hk hXs]; exact hc
  rw [← hX] at C1
  have hXe := empB_no X hXs
  have HR := Lib.hid h
  have T1 := Lib.hid (fun W h => take_any b s k 1 W h (by omega))
  clear hX h hc
  go_enter Tryz.func48, Tryz.ntmps48
  go_wp2_with fail
  refine (C1.out _ HR.out).mono ?_; rintro e w1 ⟨rfl, r1, k1⟩
  have R1 := Lib.hid r1
  have K1 := Lib.hid k1
  clear r1 k1
  go_wp2_with fail
  refine (C1.out _ R1.out).mono ?_; rintro e w2 ⟨rfl, r2, k2⟩
  have R2 := Lib.hid r2
  have K2 := hid_kp K1 k2
  clear r2 k2
  go_wp2_with fail
  refine (T1.out _ R2.out).mono ?_; rintro e w3 ⟨rfl, r3, k3⟩
  have R3 := Lib.hid r3
  have K3 := hid_kp K2 k3
  clear r3 k3
  go_wp2_with fail
  go_ret2
  exact ⟨K3.out.alloc _, _, _, rfl, byte_new _ _ _ rfl, R3.out.alloc _, rfl, by omega⟩
set_option maxHeartbeats 4000000 in
theorem esc_10 (b : Nat) (s : ByteArray) (k : Nat) (w : World) (h : Rd w b s k) (hk : k < s.size) (hc : s[k] = 10) : Calls Tryz.prog 48 #[.pointer (some ⟨b, 0, none⟩)] w (EscPost b s k w (some ([10], sfx s (k + 1)))) := by
  obtain ⟨X, hX⟩ : ∃ X : ByteArray, X = s.extract k s.size := ⟨_, rfl⟩
  have C1 := Lib.hid (fun W h => rest_any b s k W h)
  have hXs : 0 < X.size := by rw [hX, rest_size s k (by omega)]; omega
  have hX0 : X[0] = 10 := by subst hX; rw [rest_head s k hk hXs]; exact hc
  rw [← hX] at C1
  have hXe := empB_no X hXs
  have HR := Lib.hid h
  have T1 := Lib.hid (fun W h => take_any b s k 1 W h (by omega))
  clear hX h hc
  go_enter Tryz.func48, Tryz.ntmps48
  go_wp2_with fail
  refine (C1.out _ HR.out).mono ?_; rintro e w1 ⟨rfl, r1, k1⟩
  have R1 := Lib.hid r1
  have K1 := Lib.hid k1
  clear r1 k1
  go_wp2_with fail
  refine (C1.out _ R1.out).mono ?_; rintro e w2 ⟨rfl, r2, k2⟩
  have R2 := Lib.hid r2
  have K2 := hid_kp K1 k2
  clear r2 k2
  go_wp2_with fail
  refine (T1.out _ R2.out).mono ?_; rintro e w3 ⟨rfl, r3, k3⟩
  have R3 := Lib.hid r3
  have K3 := hid_kp K2 k3
  clear r3 k3
  go_wp2_with fail
  go_ret2
  exact ⟨K3.out.alloc _, _, _, rfl, byte_new _ _ _ rfl, R3.out.alloc _, rfl, by omega⟩
set_option maxHeartbeats 4000000 in
theorem esc_122 (b : Nat) (s : ByteArray) (k : Nat) (w : World) (h : Rd w b s k) (hk : k < s.size) (hc : s[k] = 122) : Calls Tryz.prog 48 #[.pointer (some ⟨b, 0, none⟩)] w (EscPost b s k w (some ([], (sfx s (k + 1)).dropWhile blB))) := by
  obtain ⟨X, hX⟩ : ∃ X : ByteArray, X = s.extract k s.size := ⟨_, rfl⟩
  have C1 := Lib.hid (fun W h => rest_any b s k W h)
  have hXs : 0 < X.size := by rw [hX, rest_size s k (by omega)]; omega
  have hX0 : X[0] = 122 := by subst hX; rw [rest_head s k hk hXs]; exact hc
  rw [← hX] at C1
  have hXe := empB_no X hXs
  have HR := Lib.hid h
  have T1 := Lib.hid (fun W h => take_any b s k 1 W h (by omega))
  obtain ⟨m, hm⟩ : ∃ m : Nat, m = runN blB (sfx s (k + 1)) := ⟨_, rfl⟩
  have C2 := Lib.hid (fun W => run_blank (s.extract (k + 1) s.size) W (by rw [rest_size s _ (by omega)]; have := h.top; omega))
  rw [sfx_rest, ← hm] at C2
  have hml := run_le blB (sfx s (k + 1))
  rw [sfx_len, ← hm] at hml
  have hdw : (sfx s (k + 1)).dropWhile blB = sfx s (k + 1 + m) := by rw [← drop_run, ← hm, sfx_drop]
  have HD := Lib.hid hdw
  clear hX h hc hm hdw
  go_enter Tryz.func48, Tryz.ntmps48
  go_wp2_with fail
  refine (C1.out _ HR.out).mono ?_; rintro e w1 ⟨rfl, r1, k1⟩
  have R1 := Lib.hid r1
  have K1 := Lib.hid k1
  clear r1 k1
  go_wp2_with fail
  refine (C1.out _ R1.out).mono ?_; rintro e w2 ⟨rfl, r2, k2⟩
  have R2 := Lib.hid r2
  have K2 := hid_kp K1 k2
  clear r2 k2
  go_wp2_with fail
  refine (T1.out _ R2.out).mono ?_; rintro e w3 ⟨rfl, r3, k3⟩
  have R3 := Lib.hid r3
  have K3 := hid_kp K2 k3
  clear r3 k3
  go_wp2_with fail
  refine (rest_any _ _ _ _ R3.out).mono ?_; rintro e w4 ⟨rfl, r4, k4⟩
  have R4 := Lib.hid r4
  have K4 := hid_kp K3 k4
  clear r4 k4
  go_wp2_with fail
  refine (C2.out _).mono ?_; rintro e w4' ⟨rfl, rfl⟩
  go_wp2_with fail
  refine (take_any _ _ _ _ _ R4.out (by omega)).mono ?_; rintro e w5 ⟨rfl, r5, k5⟩
  have R5 := Lib.hid r5
  have K5 := hid_kp K4 k5
  clear r5 k5
  go_wp2_with fail
  go_ret2
  exact ⟨K5.out, _, _, rfl, .inl ⟨rfl, rfl⟩, R5.out, HD.out.symm, by omega⟩
set_option maxHeartbeats 4000000 in
theorem esc_120 (b : Nat) (s : ByteArray) (k : Nat) (w : World) (h : Rd w b s k) (hk : k < s.size) (hc : s[k] = 120) : Calls Tryz.prog 48 #[.pointer (some ⟨b, 0, none⟩)] w (EscPost b s k w (code 16 hxB 2 2 (sfx s (k + 1)))) := by
  obtain ⟨X, hX⟩ : ∃ X : ByteArray, X = s.extract k s.size := ⟨_, rfl⟩
  have C1 := Lib.hid (fun W h => rest_any b s k W h)
  have hXs : 0 < X.size := by rw [hX, rest_size s k (by omega)]; omega
  have hX0 : X[0] = 120 := by subst hX; rw [rest_head s k hk hXs]; exact hc
  rw [← hX] at C1
  have hXe := empB_no X hXs
  have HR := Lib.hid h
  have T1 := Lib.hid (fun W h => take_any b s k 1 W h (by omega))
  have C2 := Lib.hid (fun W h => code_hex b s (k + 1) W h)
  obtain ⟨o, ho⟩ : ∃ o, o = code 16 hxB 2 2 (sfx s (k + 1)) := ⟨_, rfl⟩
  rw [← ho] at C2 ⊢
  clear hX h hc ho
  rcases o with _ | ⟨m, r⟩
  · go_enter Tryz.func48, Tryz.ntmps48
    go_wp2_with fail
    refine (C1.out _ HR.out).mono ?_; rintro e w1 ⟨rfl, r1, k1⟩
    have R1 := Lib.hid r1
    have K1 := Lib.hid k1
    clear r1 k1
    go_wp2_with fail
    refine (C1.out _ R1.out).mono ?_; rintro e w2 ⟨rfl, r2, k2⟩
    have R2 := Lib.hid r2
    have K2 := hid_kp K1 k2
    clear r2 k2
    go_wp2_with fail
    refine (T1.out _ R2.out).mono ?_; rintro e w3 ⟨rfl, r3, k3⟩
    have R3 := Lib.hid r3
    have K3 := hid_kp K2 k3
    clear r3 k3
    go_wp2_with fail
    refine (C2.out _ R3.out).mono ?_; intro e w4 hp4
    obtain ⟨k4, rfl⟩ := hp4
    have K4 := hid_kp K3 k4
    clear k4
    go_wp2_with fail
    go_ret2
    exact ⟨K4.out, rfl⟩
  · go_enter Tryz.func48, Tryz.ntmps48
    go_wp2_with fail
    refine (C1.out _ HR.out).mono ?_; rintro e w1 ⟨rfl, r1, k1⟩
    have R1 := Lib.hid r1
    have K1 := Lib.hid k1
    clear r1 k1
    go_wp2_with fail
    refine (C1.out _ R1.out).mono ?_; rintro e w2 ⟨rfl, r2, k2⟩
    have R2 := Lib.hid r2
    have K2 := hid_kp K1 k2
    clear r2 k2
    go_wp2_with fail
    refine (T1.out _ R2.out).mono ?_; rintro e w3 ⟨rfl, r3, k3⟩
    have R3 := Lib.hid r3
    have K3 := hid_kp K2 k3
    clear r3 k3
    go_wp2_with fail
    refine (C2.out _ R3.out).mono ?_; intro e w4 hp4
    obtain ⟨k4, k', v, rfl, hb4, r4, hr4, hl4⟩ := hp4
    have K4 := hid_kp K3 k4
    have R4 := Lib.hid r4
    have HB := Lib.hid hb4
    have HE := Lib.hid hr4
    clear k4 r4 hb4 hr4
    go_wp2_with fail
    go_ret2
    exact ⟨K4.out, _, _, rfl, HB.out, R4.out, HE.out, by omega⟩
set_option maxHeartbeats 4000000 in
theorem esc_48 (b : Nat) (s : ByteArray) (k : Nat) (w : World) (h : Rd w b s k) (hk : k < s.size) (hc : s[k] = 48) : Calls Tryz.prog 48 #[.pointer (some ⟨b, 0, none⟩)] w (EscPost b s k w (code 10 dgB 1 3 (sfx s k))) := by
  obtain ⟨X, hX⟩ : ∃ X : ByteArray, X = s.extract k s.size := ⟨_, rfl⟩
  have C1 := Lib.hid (fun W h => rest_any b s k W h)
  have hXs : 0 < X.size := by rw [hX, rest_size s k (by omega)]; omega
  have hX0 : X[0] = 48 := by subst hX; rw [rest_head s k hk hXs]; exact hc
  rw [← hX] at C1
  have hXe := empB_no X hXs
  have HR := Lib.hid h
  have C2 := Lib.hid (fun W h => code_digit b s k W h)
  obtain ⟨o, ho⟩ : ∃ o, o = code 10 dgB 1 3 (sfx s k) := ⟨_, rfl⟩
  rw [← ho] at C2 ⊢
  clear hX h hc ho
  rcases o with _ | ⟨m, r⟩
  · go_enter Tryz.func48, Tryz.ntmps48
    go_wp2_with fail
    refine (C1.out _ HR.out).mono ?_; rintro e w1 ⟨rfl, r1, k1⟩
    have R1 := Lib.hid r1
    have K1 := Lib.hid k1
    clear r1 k1
    go_wp2_with fail
    refine (C1.out _ R1.out).mono ?_; rintro e w2 ⟨rfl, r2, k2⟩
    have R2 := Lib.hid r2
    have K2 := hid_kp K1 k2
    clear r2 k2
    go_wp2_with fail
    refine (C2.out _ R2.out).mono ?_; intro e w4 hp4
    obtain ⟨k4, rfl⟩ := hp4
    have K4 := hid_kp K2 k4
    clear k4
    go_wp2_with fail
    go_ret2
    exact ⟨K4.out, rfl⟩
  · go_enter Tryz.func48, Tryz.ntmps48
    go_wp2_with fail
    refine (C1.out _ HR.out).mono ?_; rintro e w1 ⟨rfl, r1, k1⟩
    have R1 := Lib.hid r1
    have K1 := Lib.hid k1
    clear r1 k1
    go_wp2_with fail
    refine (C1.out _ R1.out).mono ?_; rintro e w2 ⟨rfl, r2, k2⟩
    have R2 := Lib.hid r2
    have K2 := hid_kp K1 k2
    clear r2 k2
    go_wp2_with fail
    refine (C2.out _ R2.out).mono ?_; intro e w4 hp4
    obtain ⟨k4, k', v, rfl, hb4, r4, hr4, hl4⟩ := hp4
    have K4 := hid_kp K2 k4
    have R4 := Lib.hid r4
    have HB := Lib.hid hb4
    have HE := Lib.hid hr4
    clear k4 r4 hb4 hr4
    go_wp2_with fail
    go_ret2
    exact ⟨K4.out, _, _, rfl, HB.out, R4.out, HE.out, by omega⟩
set_option maxHeartbeats 4000000 in
theorem esc_49 (b : Nat) (s : ByteArray) (k : Nat) (w : World) (h : Rd w b s k) (hk : k < s.size) (hc : s[k] = 49) : Calls Tryz.prog 48 #[.pointer (some ⟨b, 0, none⟩)] w (EscPost b s k w (code 10 dgB 1 3 (sfx s k))) := by
  obtain ⟨X, hX⟩ : ∃ X : ByteArray, X = s.extract k s.size := ⟨_, rfl⟩
  have C1 := Lib.hid (fun W h => rest_any b s k W h)
  have hXs : 0 < X.size := by rw [hX, rest_size s k (by omega)]; omega
  have hX0 : X[0] = 49 := by subst hX; rw [rest_head s k hk hXs]; exact hc
  rw [← hX] at C1
  have hXe := empB_no X hXs
  have HR := Lib.hid h
  have C2 := Lib.hid (fun W h => code_digit b s k W h)
  obtain ⟨o, ho⟩ : ∃ o, o = code 10 dgB 1 3 (sfx s k) := ⟨_, rfl⟩
  rw [← ho] at C2 ⊢
  clear hX h hc ho
  rcases o with _ | ⟨m, r⟩
  · go_enter Tryz.func48, Tryz.ntmps48
    go_wp2_with fail
    refine (C1.out _ HR.out).mono ?_; rintro e w1 ⟨rfl, r1, k1⟩
    have R1 := Lib.hid r1
    have K1 := Lib.hid k1
    clear r1 k1
    go_wp2_with fail
    refine (C1.out _ R1.out).mono ?_; rintro e w2 ⟨rfl, r2, k2⟩
    have R2 := Lib.hid r2
    have K2 := hid_kp K1 k2
    clear r2 k2
    go_wp2_with fail
    refine (C2.out _ R2.out).mono ?_; intro e w4 hp4
    obtain ⟨k4, rfl⟩ := hp4
    have K4 := hid_kp K2 k4
    clear k4
    go_wp2_with fail
    go_ret2
    exact ⟨K4.out, rfl⟩
  · go_enter Tryz.func48, Tryz.ntmps48
    go_wp2_with fail
    refine (C1.out _ HR.out).mono ?_; rintro e w1 ⟨rfl, r1, k1⟩
    have R1 := Lib.hid r1
    have K1 := Lib.hid k1
    clear r1 k1
    go_wp2_with fail
    refine (C1.out _ R1.out).mono ?_; rintro e w2 ⟨rfl, r2, k2⟩
    have R2 := Lib.hid r2
    have K2 := hid_kp K1 k2
    clear r2 k2
    go_wp2_with fail
    refine (C2.out _ R2.out).mono ?_; intro e w4 hp4
    obtain ⟨k4, k', v, rfl, hb4, r4, hr4, hl4⟩ := hp4
    have K4 := hid_kp K2 k4
    have R4 := Lib.hid r4
    have HB := Lib.hid hb4
    have HE := Lib.hid hr4
    clear k4 r4 hb4 hr4
    go_wp2_with fail
    go_ret2
    exact ⟨K4.out, _, _, rfl, HB.out, R4.out, HE.out, by omega⟩
set_option maxHeartbeats 4000000 in
theorem esc_50 (b : Nat) (s : ByteArray) (k : Nat) (w : World) (h : Rd w b s k) (hk : k < s.size) (hc : s[k] = 50) : Calls Tryz.prog 48 #[.pointer (some ⟨b, 0, none⟩)] w (EscPost b s k w (code 10 dgB 1 3 (sfx s k))) := by
  obtain ⟨X, hX⟩ : ∃ X : ByteArray, X = s.extract k s.size := ⟨_, rfl⟩
  have C1 := Lib.hid (fun W h => rest_any b s k W h)
  have hXs : 0 < X.size := by rw [hX, rest_size s k (by omega)]; omega
  have hX0 : X[0] = 50 := by subst hX; rw [rest_head s k hk hXs]; exact hc
  rw [← hX] at C1
  have hXe := empB_no X hXs
  have HR := Lib.hid h
  have C2 := Lib.hid (fun W h => code_digit b s k W h)
  obtain ⟨o, ho⟩ : ∃ o, o = code 10 dgB 1 3 (sfx s k) := ⟨_, rfl⟩
  rw [← ho] at C2 ⊢
  clear hX h hc ho
  rcases o with _ | ⟨m, r⟩
  · go_enter Tryz.func48, Tryz.ntmps48
    go_wp2_with fail
    refine (C1.out _ HR.out).mono ?_; rintro e w1 ⟨rfl, r1, k1⟩
    have R1 := Lib.hid r1
    have K1 := Lib.hid k1
    clear r1 k1
    go_wp2_with fail
    refine (C1.out _ R1.out).mono ?_; rintro e w2 ⟨rfl, r2, k2⟩
    have R2 := Lib.hid r2
    have K2 := hid_kp K1 k2
    clear r2 k2
    go_wp2_with fail
    refine (C2.out _ R2.out).mono ?_; intro e w4 hp4
    obtain ⟨k4, rfl⟩ := hp4
    have K4 := hid_kp K2 k4
    clear k4
    go_wp2_with fail
    go_ret2
    exact ⟨K4.out, rfl⟩
  · go_enter Tryz.func48, Tryz.ntmps48
    go_wp2_with fail
    refine (C1.out _ HR.out).mono ?_; rintro e w1 ⟨rfl, r1, k1⟩
    have R1 := Lib.hid r1
    have K1 := Lib.hid k1
    clear r1 k1
    go_wp2_with fail
    refine (C1.out _ R1.out).mono ?_; rintro e w2 ⟨rfl, r2, k2⟩
    have R2 := Lib.hid r2
    have K2 := hid_kp K1 k2
    clear r2 k2
    go_wp2_with fail
    refine (C2.out _ R2.out).mono ?_; intro e w4 hp4
    obtain ⟨k4, k', v, rfl, hb4, r4, hr4, hl4⟩ := hp4
    have K4 := hid_kp K2 k4
    have R4 := Lib.hid r4
    have HB := Lib.hid hb4
    have HE := Lib.hid hr4
    clear k4 r4 hb4 hr4
    go_wp2_with fail
    go_ret2
    exact ⟨K4.out, _, _, rfl, HB.out, R4.out, HE.out, by omega⟩
set_option maxHeartbeats 4000000 in
theorem esc_51 (b : Nat) (s : ByteArray) (k : Nat) (w : World) (h : Rd w b s k) (hk : k < s.size) (hc : s[k] = 51) : Calls Tryz.prog 48 #[.pointer (some ⟨b, 0, none⟩)] w (EscPost b s k w (code 10 dgB 1 3 (sfx s k))) := by
  obtain ⟨X, hX⟩ : ∃ X : ByteArray, X = s.extract k s.size := ⟨_, rfl⟩
  have C1 := Lib.hid (fun W h => rest_any b s k W h)
  have hXs : 0 < X.size := by rw [hX, rest_size s k (by omega)]; omega
  have hX0 : X[0] = 51 := by subst hX; rw [rest_head s k hk hXs]; exact hc
  rw [← hX] at C1
  have hXe := empB_no X hXs
  have HR := Lib.hid h
  have C2 := Lib.hid (fun W h => code_digit b s k W h)
  obtain ⟨o, ho⟩ : ∃ o, o = code 10 dgB 1 3 (sfx s k) := ⟨_, rfl⟩
  rw [← ho] at C2 ⊢
  clear hX h hc ho
  rcases o with _ | ⟨m, r⟩
  · go_enter Tryz.func48, Tryz.ntmps48
    go_wp2_with fail
    refine (C1.out _ HR.out).mono ?_; rintro e w1 ⟨rfl, r1, k1⟩
    have R1 := Lib.hid r1
    have K1 := Lib.hid k1
    clear r1 k1
    go_wp2_with fail
    refine (C1.out _ R1.out).mono ?_; rintro e w2 ⟨rfl, r2, k2⟩
    have R2 := Lib.hid r2
    have K2 := hid_kp K1 k2
    clear r2 k2
    go_wp2_with fail
    refine (C2.out _ R2.out).mono ?_; intro e w4 hp4
    obtain ⟨k4, rfl⟩ := hp4
    have K4 := hid_kp K2 k4
    clear k4
    go_wp2_with fail
    go_ret2
    exact ⟨K4.out, rfl⟩
  · go_enter Tryz.func48, Tryz.ntmps48
    go_wp2_with fail
    refine (C1.out _ HR.out).mono ?_; rintro e w1 ⟨rfl, r1, k1⟩
    have R1 := Lib.hid r1
    have K1 := Lib.hid k1
    clear r1 k1
    go_wp2_with fail
    refine (C1.out _ R1.out).mono ?_; rintro e w2 ⟨rfl, r2, k2⟩
    have R2 := Lib.hid r2
    have K2 := hid_kp K1 k2
    clear r2 k2
    go_wp2_with fail
    refine (C2.out _ R2.out).mono ?_; intro e w4 hp4
    obtain ⟨k4, k', v, rfl, hb4, r4, hr4, hl4⟩ := hp4
    have K4 := hid_kp K2 k4
    have R4 := Lib.hid r4
    have HB := Lib.hid hb4
    have HE := Lib.hid hr4
    clear k4 r4 hb4 hr4
    go_wp2_with fail
    go_ret2
    exact ⟨K4.out, _, _, rfl, HB.out, R4.out, HE.out, by omega⟩
set_option maxHeartbeats 4000000 in
theorem esc_52 (b : Nat) (s : ByteArray) (k : Nat) (w : World) (h : Rd w b s k) (hk : k < s.size) (hc : s[k] = 52) : Calls Tryz.prog 48 #[.pointer (some ⟨b, 0, none⟩)] w (EscPost b s k w (code 10 dgB 1 3 (sfx s k))) := by
  obtain ⟨X, hX⟩ : ∃ X : ByteArray, X = s.extract k s.size := ⟨_, rfl⟩
  have C1 := Lib.hid (fun W h => rest_any b s k W h)
  have hXs : 0 < X.size := by rw [hX, rest_size s k (by omega)]; omega
  have hX0 : X[0] = 52 := by subst hX; rw [rest_head s k hk hXs]; exact hc
  rw [← hX] at C1
  have hXe := empB_no X hXs
  have HR := Lib.hid h
  have C2 := Lib.hid (fun W h => code_digit b s k W h)
  obtain ⟨o, ho⟩ : ∃ o, o = code 10 dgB 1 3 (sfx s k) := ⟨_, rfl⟩
  rw [← ho] at C2 ⊢
  clear hX h hc ho
  rcases o with _ | ⟨m, r⟩
  · go_enter Tryz.func48, Tryz.ntmps48
    go_wp2_with fail
    refine (C1.out _ HR.out).mono ?_; rintro e w1 ⟨rfl, r1, k1⟩
    have R1 := Lib.hid r1
    have K1 := Lib.hid k1
    clear r1 k1
    go_wp2_with fail
    refine (C1.out _ R1.out).mono ?_; rintro e w2 ⟨rfl, r2, k2⟩
    have R2 := Lib.hid r2
    have K2 := hid_kp K1 k2
    clear r2 k2
    go_wp2_with fail
    refine (C2.out _ R2.out).mono ?_; intro e w4 hp4
    obtain ⟨k4, rfl⟩ := hp4
    have K4 := hid_kp K2 k4
    clear k4
    go_wp2_with fail
    go_ret2
    exact ⟨K4.out, rfl⟩
  · go_enter Tryz.func48, Tryz.ntmps48
    go_wp2_with fail
    refine (C1.out _ HR.out).mono ?_; rintro e w1 ⟨rfl, r1, k1⟩
    have R1 := Lib.hid r1
    have K1 := Lib.hid k1
    clear r1 k1
    go_wp2_with fail
    refine (C1.out _ R1.out).mono ?_; rintro e w2 ⟨rfl, r2, k2⟩
    have R2 := Lib.hid r2
    have K2 := hid_kp K1 k2
    clear r2 k2
    go_wp2_with fail
    refine (C2.out _ R2.out).mono ?_; intro e w4 hp4
    obtain ⟨k4, k', v, rfl, hb4, r4, hr4, hl4⟩ := hp4
    have K4 := hid_kp K2 k4
    have R4 := Lib.hid r4
    have HB := Lib.hid hb4
    have HE := Lib.hid hr4
    clear k4 r4 hb4 hr4
    go_wp2_with fail
    go_ret2
    exact ⟨K4.out, _, _, rfl, HB.out, R4.out, HE.out, by omega⟩
set_option maxHeartbeats 4000000 in
theorem esc_53 (b : Nat) (s : ByteArray) (k : Nat) (w : World) (h : Rd w b s k) (hk : k < s.size) (hc : s[k] = 53) : Calls Tryz.prog 48 #[.pointer (some ⟨b, 0, none⟩)] w (EscPost b s k w (code 10 dgB 1 3 (sfx s k))) := by
  obtain ⟨X, hX⟩ : ∃ X : ByteArray, X = s.extract k s.size := ⟨_, rfl⟩
  have C1 := Lib.hid (fun W h => rest_any b s k W h)
  have hXs : 0 < X.size := by rw [hX, rest_size s k (by omega)]; omega
  have hX0 : X[0] = 53 := by subst hX; rw [rest_head s k hk hXs]; exact hc
  rw [← hX] at C1
  have hXe := empB_no X hXs
  have HR := Lib.hid h
  have C2 := Lib.hid (fun W h => code_digit b s k W h)
  obtain ⟨o, ho⟩ : ∃ o, o = code 10 dgB 1 3 (sfx s k) := ⟨_, rfl⟩
  rw [← ho] at C2 ⊢
  clear hX h hc ho
  rcases o with _ | ⟨m, r⟩
  · go_enter Tryz.func48, Tryz.ntmps48
    go_wp2_with fail
    refine (C1.out _ HR.out).mono ?_; rintro e w1 ⟨rfl, r1, k1⟩
    have R1 := Lib.hid r1
    have K1 := Lib.hid k1
    clear r1 k1
    go_wp2_with fail
    refine (C1.out _ R1.out).mono ?_; rintro e w2 ⟨rfl, r2, k2⟩
    have R2 := Lib.hid r2
    have K2 := hid_kp K1 k2
    clear r2 k2
    go_wp2_with fail
    refine (C2.out _ R2.out).mono ?_; intro e w4 hp4
    obtain ⟨k4, rfl⟩ := hp4
    have K4 := hid_kp K2 k4
    clear k4
    go_wp2_with fail
    go_ret2
    exact ⟨K4.out, rfl⟩
  · go_enter Tryz.func48, Tryz.ntmps48
    go_wp2_with fail
    refine (C1.out _ HR.out).mono ?_; rintro e w1 ⟨rfl, r1, k1⟩
    have R1 := Lib.hid r1
    have K1 := Lib.hid k1
    clear r1 k1
    go_wp2_with fail
    refine (C1.out _ R1.out).mono ?_; rintro e w2 ⟨rfl, r2, k2⟩
    have R2 := Lib.hid r2
    have K2 := hid_kp K1 k2
    clear r2 k2
    go_wp2_with fail
    refine (C2.out _ R2.out).mono ?_; intro e w4 hp4
    obtain ⟨k4, k', v, rfl, hb4, r4, hr4, hl4⟩ := hp4
    have K4 := hid_kp K2 k4
    have R4 := Lib.hid r4
    have HB := Lib.hid hb4
    have HE := Lib.hid hr4
    clear k4 r4 hb4 hr4
    go_wp2_with fail
    go_ret2
    exact ⟨K4.out, _, _, rfl, HB.out, R4.out, HE.out, by omega⟩
set_option maxHeartbeats 4000000 in
theorem esc_54 (b : Nat) (s : ByteArray) (k : Nat) (w : World) (h : Rd w b s k) (hk : k < s.size) (hc : s[k] = 54) : Calls Tryz.prog 48 #[.pointer (some ⟨b, 0, none⟩)] w (EscPost b s k w (code 10 dgB 1 3 (sfx s k))) := by
  obtain ⟨X, hX⟩ : ∃ X : ByteArray, X = s.extract k s.size := ⟨_, rfl⟩
  have C1 := Lib.hid (fun W h => rest_any b s k W h)
  have hXs : 0 < X.size := by rw [hX, rest_size s k (by omega)]; omega
  have hX0 : X[0] = 54 := by subst hX; rw [rest_head s k hk hXs]; exact hc
  rw [← hX] at C1
  have hXe := empB_no X hXs
  have HR := Lib.hid h
  have C2 := Lib.hid (fun W h => code_digit b s k W h)
  obtain ⟨o, ho⟩ : ∃ o, o = code 10 dgB 1 3 (sfx s k) := ⟨_, rfl⟩
  rw [← ho] at C2 ⊢
  clear hX h hc ho
  rcases o with _ | ⟨m, r⟩
  · go_enter Tryz.func48, Tryz.ntmps48
    go_wp2_with fail
    refine (C1.out _ HR.out).mono ?_; rintro e w1 ⟨rfl, r1, k1⟩
    have R1 := Lib.hid r1
    have K1 := Lib.hid k1
    clear r1 k1
    go_wp2_with fail
    refine (C1.out _ R1.out).mono ?_; rintro e w2 ⟨rfl, r2, k2⟩
    have R2 := Lib.hid r2
    have K2 := hid_kp K1 k2
    clear r2 k2
    go_wp2_with fail
    refine (C2.out _ R2.out).mono ?_; intro e w4 hp4
    obtain ⟨k4, rfl⟩ := hp4
    have K4 := hid_kp K2 k4
    clear k4
    go_wp2_with fail
    go_ret2
    exact ⟨K4.out, rfl⟩
  · go_enter Tryz.func48, Tryz.ntmps48
    go_wp2_with fail
    refine (C1.out _ HR.out).mono ?_; rintro e w1 ⟨rfl, r1, k1⟩
    have R1 := Lib.hid r1
    have K1 := Lib.hid k1
    clear r1 k1
    go_wp2_with fail
    refine (C1.out _ R1.out).mono ?_; rintro e w2 ⟨rfl, r2, k2⟩
    have R2 := Lib.hid r2
    have K2 := hid_kp K1 k2
    clear r2 k2
    go_wp2_with fail
    refine (C2.out _ R2.out).mono ?_; intro e w4 hp4
    obtain ⟨k4, k', v, rfl, hb4, r4, hr4, hl4⟩ := hp4
    have K4 := hid_kp K2 k4
    have R4 := Lib.hid r4
    have HB := Lib.hid hb4
    have HE := Lib.hid hr4
    clear k4 r4 hb4 hr4
    go_wp2_with fail
    go_ret2
    exact ⟨K4.out, _, _, rfl, HB.out, R4.out, HE.out, by omega⟩
set_option maxHeartbeats 4000000 in
theorem esc_55 (b : Nat) (s : ByteArray) (k : Nat) (w : World) (h : Rd w b s k) (hk : k < s.size) (hc : s[k] = 55) : Calls Tryz.prog 48 #[.pointer (some ⟨b, 0, none⟩)] w (EscPost b s k w (code 10 dgB 1 3 (sfx s k))) := by
  obtain ⟨X, hX⟩ : ∃ X : ByteArray, X = s.extract k s.size := ⟨_, rfl⟩
  have C1 := Lib.hid (fun W h => rest_any b s k W h)
  have hXs : 0 < X.size := by rw [hX, rest_size s k (by omega)]; omega
  have hX0 : X[0] = 55 := by subst hX; rw [rest_head s k hk hXs]; exact hc
  rw [← hX] at C1
  have hXe := empB_no X hXs
  have HR := Lib.hid h
  have C2 := Lib.hid (fun W h => code_digit b s k W h)
  obtain ⟨o, ho⟩ : ∃ o, o = code 10 dgB 1 3 (sfx s k) := ⟨_, rfl⟩
  rw [← ho] at C2 ⊢
  clear hX h hc ho
  rcases o with _ | ⟨m, r⟩
  · go_enter Tryz.func48, Tryz.ntmps48
    go_wp2_with fail
    refine (C1.out _ HR.out).mono ?_; rintro e w1 ⟨rfl, r1, k1⟩
    have R1 := Lib.hid r1
    have K1 := Lib.hid k1
    clear r1 k1
    go_wp2_with fail
    refine (C1.out _ R1.out).mono ?_; rintro e w2 ⟨rfl, r2, k2⟩
    have R2 := Lib.hid r2
    have K2 := hid_kp K1 k2
    clear r2 k2
    go_wp2_with fail
    refine (C2.out _ R2.out).mono ?_; intro e w4 hp4
    obtain ⟨k4, rfl⟩ := hp4
    have K4 := hid_kp K2 k4
    clear k4
    go_wp2_with fail
    go_ret2
    exact ⟨K4.out, rfl⟩
  · go_enter Tryz.func48, Tryz.ntmps48
    go_wp2_with fail
    refine (C1.out _ HR.out).mono ?_; rintro e w1 ⟨rfl, r1, k1⟩
    have R1 := Lib.hid r1
    have K1 := Lib.hid k1
    clear r1 k1
    go_wp2_with fail
    refine (C1.out _ R1.out).mono ?_; rintro e w2 ⟨rfl, r2, k2⟩
    have R2 := Lib.hid r2
    have K2 := hid_kp K1 k2
    clear r2 k2
    go_wp2_with fail
    refine (C2.out _ R2.out).mono ?_; intro e w4 hp4
    obtain ⟨k4, k', v, rfl, hb4, r4, hr4, hl4⟩ := hp4
    have K4 := hid_kp K2 k4
    have R4 := Lib.hid r4
    have HB := Lib.hid hb4
    have HE := Lib.hid hr4
    clear k4 r4 hb4 hr4
    go_wp2_with fail
    go_ret2
    exact ⟨K4.out, _, _, rfl, HB.out, R4.out, HE.out, by omega⟩
set_option maxHeartbeats 4000000 in
theorem esc_56 (b : Nat) (s : ByteArray) (k : Nat) (w : World) (h : Rd w b s k) (hk : k < s.size) (hc : s[k] = 56) : Calls Tryz.prog 48 #[.pointer (some ⟨b, 0, none⟩)] w (EscPost b s k w (code 10 dgB 1 3 (sfx s k))) := by
  obtain ⟨X, hX⟩ : ∃ X : ByteArray, X = s.extract k s.size := ⟨_, rfl⟩
  have C1 := Lib.hid (fun W h => rest_any b s k W h)
  have hXs : 0 < X.size := by rw [hX, rest_size s k (by omega)]; omega
  have hX0 : X[0] = 56 := by subst hX; rw [rest_head s k hk hXs]; exact hc
  rw [← hX] at C1
  have hXe := empB_no X hXs
  have HR := Lib.hid h
  have C2 := Lib.hid (fun W h => code_digit b s k W h)
  obtain ⟨o, ho⟩ : ∃ o, o = code 10 dgB 1 3 (sfx s k) := ⟨_, rfl⟩
  rw [← ho] at C2 ⊢
  clear hX h hc ho
  rcases o with _ | ⟨m, r⟩
  · go_enter Tryz.func48, Tryz.ntmps48
    go_wp2_with fail
    refine (C1.out _ HR.out).mono ?_; rintro e w1 ⟨rfl, r1, k1⟩
    have R1 := Lib.hid r1
    have K1 := Lib.hid k1
    clear r1 k1
    go_wp2_with fail
    refine (C1.out _ R1.out).mono ?_; rintro e w2 ⟨rfl, r2, k2⟩
    have R2 := Lib.hid r2
    have K2 := hid_kp K1 k2
    clear r2 k2
    go_wp2_with fail
    refine (C2.out _ R2.out).mono ?_; intro e w4 hp4
    obtain ⟨k4, rfl⟩ := hp4
    have K4 := hid_kp K2 k4
    clear k4
    go_wp2_with fail
    go_ret2
    exact ⟨K4.out, rfl⟩
  · go_enter Tryz.func48, Tryz.ntmps48
    go_wp2_with fail
    refine (C1.out _ HR.out).mono ?_; rintro e w1 ⟨rfl, r1, k1⟩
    have R1 := Lib.hid r1
    have K1 := Lib.hid k1
    clear r1 k1
    go_wp2_with fail
    refine (C1.out _ R1.out).mono ?_; rintro e w2 ⟨rfl, r2, k2⟩
    have R2 := Lib.hid r2
    have K2 := hid_kp K1 k2
    clear r2 k2
    go_wp2_with fail
    refine (C2.out _ R2.out).mono ?_; intro e w4 hp4
    obtain ⟨k4, k', v, rfl, hb4, r4, hr4, hl4⟩ := hp4
    have K4 := hid_kp K2 k4
    have R4 := Lib.hid r4
    have HB := Lib.hid hb4
    have HE := Lib.hid hr4
    clear k4 r4 hb4 hr4
    go_wp2_with fail
    go_ret2
    exact ⟨K4.out, _, _, rfl, HB.out, R4.out, HE.out, by omega⟩
set_option maxHeartbeats 4000000 in
theorem esc_57 (b : Nat) (s : ByteArray) (k : Nat) (w : World) (h : Rd w b s k) (hk : k < s.size) (hc : s[k] = 57) : Calls Tryz.prog 48 #[.pointer (some ⟨b, 0, none⟩)] w (EscPost b s k w (code 10 dgB 1 3 (sfx s k))) := by
  obtain ⟨X, hX⟩ : ∃ X : ByteArray, X = s.extract k s.size := ⟨_, rfl⟩
  have C1 := Lib.hid (fun W h => rest_any b s k W h)
  have hXs : 0 < X.size := by rw [hX, rest_size s k (by omega)]; omega
  have hX0 : X[0] = 57 := by subst hX; rw [rest_head s k hk hXs]; exact hc
  rw [← hX] at C1
  have hXe := empB_no X hXs
  have HR := Lib.hid h
  have C2 := Lib.hid (fun W h => code_digit b s k W h)
  obtain ⟨o, ho⟩ : ∃ o, o = code 10 dgB 1 3 (sfx s k) := ⟨_, rfl⟩
  rw [← ho] at C2 ⊢
  clear hX h hc ho
  rcases o with _ | ⟨m, r⟩
  · go_enter Tryz.func48, Tryz.ntmps48
    go_wp2_with fail
    refine (C1.out _ HR.out).mono ?_; rintro e w1 ⟨rfl, r1, k1⟩
    have R1 := Lib.hid r1
    have K1 := Lib.hid k1
    clear r1 k1
    go_wp2_with fail
    refine (C1.out _ R1.out).mono ?_; rintro e w2 ⟨rfl, r2, k2⟩
    have R2 := Lib.hid r2
    have K2 := hid_kp K1 k2
    clear r2 k2
    go_wp2_with fail
    refine (C2.out _ R2.out).mono ?_; intro e w4 hp4
    obtain ⟨k4, rfl⟩ := hp4
    have K4 := hid_kp K2 k4
    clear k4
    go_wp2_with fail
    go_ret2
    exact ⟨K4.out, rfl⟩
  · go_enter Tryz.func48, Tryz.ntmps48
    go_wp2_with fail
    refine (C1.out _ HR.out).mono ?_; rintro e w1 ⟨rfl, r1, k1⟩
    have R1 := Lib.hid r1
    have K1 := Lib.hid k1
    clear r1 k1
    go_wp2_with fail
    refine (C1.out _ R1.out).mono ?_; rintro e w2 ⟨rfl, r2, k2⟩
    have R2 := Lib.hid r2
    have K2 := hid_kp K1 k2
    clear r2 k2
    go_wp2_with fail
    refine (C2.out _ R2.out).mono ?_; intro e w4 hp4
    obtain ⟨k4, k', v, rfl, hb4, r4, hr4, hl4⟩ := hp4
    have K4 := hid_kp K2 k4
    have R4 := Lib.hid r4
    have HB := Lib.hid hb4
    have HE := Lib.hid hr4
    clear k4 r4 hb4 hr4
    go_wp2_with fail
    go_ret2
    exact ⟨K4.out, _, _, rfl, HB.out, R4.out, HE.out, by omega⟩
set_option maxHeartbeats 4000000 in
theorem esc_other (b : Nat) (s : ByteArray) (k : Nat) (w : World) (h : Rd w b s k) (hk : k < s.size) (c : UInt8) (hc : s[k] = c) (hn : ∀ v ∈ [97, 98, 102, 110, 114, 116, 118, 92, 39, 34, 10, 122, 120, 48, 49, 50, 51, 52, 53, 54, 55, 56, 57], c.toNat ≠ v) : Calls Tryz.prog 48 #[.pointer (some ⟨b, 0, none⟩)] w (EscPost b s k w (none)) := by
  obtain ⟨X, hX⟩ : ∃ X : ByteArray, X = s.extract k s.size := ⟨_, rfl⟩
  have C1 := Lib.hid (fun W h => rest_any b s k W h)
  have hXs : 0 < X.size := by rw [hX, rest_size s k (by omega)]; omega
  have hX0 : X[0] = c := by subst hX; rw [rest_head s k hk hXs]; exact hc
  rw [← hX] at C1
  have hXe := empB_no X hXs
  have HR := Lib.hid h
  have g97 : ((c.toNat : Int) == 97) = false := beq_eq_false_iff_ne.2 (by have := hn 97 (by decide); omega)
  have g98 : ((c.toNat : Int) == 98) = false := beq_eq_false_iff_ne.2 (by have := hn 98 (by decide); omega)
  have g102 : ((c.toNat : Int) == 102) = false := beq_eq_false_iff_ne.2 (by have := hn 102 (by decide); omega)
  have g110 : ((c.toNat : Int) == 110) = false := beq_eq_false_iff_ne.2 (by have := hn 110 (by decide); omega)
  have g114 : ((c.toNat : Int) == 114) = false := beq_eq_false_iff_ne.2 (by have := hn 114 (by decide); omega)
  have g116 : ((c.toNat : Int) == 116) = false := beq_eq_false_iff_ne.2 (by have := hn 116 (by decide); omega)
  have g118 : ((c.toNat : Int) == 118) = false := beq_eq_false_iff_ne.2 (by have := hn 118 (by decide); omega)
  have g92 : ((c.toNat : Int) == 92) = false := beq_eq_false_iff_ne.2 (by have := hn 92 (by decide); omega)
  have g39 : ((c.toNat : Int) == 39) = false := beq_eq_false_iff_ne.2 (by have := hn 39 (by decide); omega)
  have g34 : ((c.toNat : Int) == 34) = false := beq_eq_false_iff_ne.2 (by have := hn 34 (by decide); omega)
  have g10 : ((c.toNat : Int) == 10) = false := beq_eq_false_iff_ne.2 (by have := hn 10 (by decide); omega)
  have g122 : ((c.toNat : Int) == 122) = false := beq_eq_false_iff_ne.2 (by have := hn 122 (by decide); omega)
  have g120 : ((c.toNat : Int) == 120) = false := beq_eq_false_iff_ne.2 (by have := hn 120 (by decide); omega)
  have g48 : ((c.toNat : Int) == 48) = false := beq_eq_false_iff_ne.2 (by have := hn 48 (by decide); omega)
  have g49 : ((c.toNat : Int) == 49) = false := beq_eq_false_iff_ne.2 (by have := hn 49 (by decide); omega)
  have g50 : ((c.toNat : Int) == 50) = false := beq_eq_false_iff_ne.2 (by have := hn 50 (by decide); omega)
  have g51 : ((c.toNat : Int) == 51) = false := beq_eq_false_iff_ne.2 (by have := hn 51 (by decide); omega)
  have g52 : ((c.toNat : Int) == 52) = false := beq_eq_false_iff_ne.2 (by have := hn 52 (by decide); omega)
  have g53 : ((c.toNat : Int) == 53) = false := beq_eq_false_iff_ne.2 (by have := hn 53 (by decide); omega)
  have g54 : ((c.toNat : Int) == 54) = false := beq_eq_false_iff_ne.2 (by have := hn 54 (by decide); omega)
  have g55 : ((c.toNat : Int) == 55) = false := beq_eq_false_iff_ne.2 (by have := hn 55 (by decide); omega)
  have g56 : ((c.toNat : Int) == 56) = false := beq_eq_false_iff_ne.2 (by have := hn 56 (by decide); omega)
  have g57 : ((c.toNat : Int) == 57) = false := beq_eq_false_iff_ne.2 (by have := hn 57 (by decide); omega)
  clear hX h hc hn
  go_enter Tryz.func48, Tryz.ntmps48
  go_wp2_with fail
  refine (C1.out _ HR.out).mono ?_; rintro e w1 ⟨rfl, r1, k1⟩
  have R1 := Lib.hid r1
  have K1 := Lib.hid k1
  clear r1 k1
  go_wp2_with fail
  refine (C1.out _ R1.out).mono ?_; rintro e w2 ⟨rfl, r2, k2⟩
  have R2 := Lib.hid r2
  have K2 := hid_kp K1 k2
  clear r2 k2
  go_wp2_with fail
  go_ret2
  exact ⟨K2.out, rfl⟩
end Go.Proofs.YtbeckfamnhfaeaaGreatDoor
