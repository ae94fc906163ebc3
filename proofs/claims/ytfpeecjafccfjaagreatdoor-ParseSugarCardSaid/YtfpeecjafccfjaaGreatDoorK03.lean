/- Parts of the proof: LRu, LSk, CMath3, CMath4, LEs, LEd. -/
import Derived.Deep.LoopGhost
import Derived.Test.YtfpeecjafccfjaaGreatDoorK02
namespace Go.Proofs.YtfpeecjafccfjaaGreatDoor
open Go.RowKit
theorem run_more {p : UInt8 → Bool} {l : List UInt8} {k : Nat} {c : UInt8} (h : k ≤ runN p l) (hc : l[k]? = some c) (hp : p c = true) : k + 1 ≤ runN p l := by
  induction l generalizing k with
  | nil => simp at hc
  | cons a t ih =>
    unfold runN at *
    cases k with
    | zero =>
      simp at hc
      subst hc
      simp [hp]
    | succ k =>
      cases e : p a
      · simp [e] at h
      · simp [e] at h ⊢
        exact ih h (by simpa using hc)
theorem run_stop {p : UInt8 → Bool} {l : List UInt8} {k : Nat} {c : UInt8} (h : k ≤ runN p l) (hc : l[k]? = some c) (hp : p c = false) : k = runN p l := by
  induction l generalizing k with
  | nil => simp at hc
  | cons a t ih =>
    unfold runN at *
    cases k with
    | zero =>
      simp at hc
      subst hc
      simp [hp]
    | succ k =>
      cases e : p a
      · simp [e] at h
      · simp [e] at h ⊢
        exact ih h (by simpa using hc)
theorem ret_i64 {a b : Int} (h : a = b) : Ending.returned (.int .i64 a) = .returned (.int .i64 b) := by rw [h]
set_option maxHeartbeats 1000000 in
theorem run_blank (s : ByteArray) (w : World) (hs : s.size ≤ 100000) : Calls Tryz.prog 64 #[.string s, .func (.func 66) #[] #[]] w fun e w' => e = .returned (.int .i64 (runN blB s.data.toList : Int)) ∧ w = w' := by
  have hle : runN blB s.data.toList ≤ s.size := by
    have := run_le blB s.data.toList
    rwa [← Lib.size_eq] at this
  obtain ⟨m, hm⟩ : ∃ m : Nat, m = runN blB s.data.toList := ⟨_, rfl⟩
  rw [← hm] at hle ⊢
  have HM := Lib.hid hm
  clear hm
  go_enter Tryz.func64, Tryz.ntmps64
  go_wp2_with fail
  go_loop [5] (fun i => ∃ k : Nat, k ≤ m ∧ i = .int .i64 k) (fun i => s.size - (intOf i).toNat)
  case atStart => exact ⟨0, Nat.zero_le _, rfl⟩
  case round =>
    obtain ⟨k, hk, rfl⟩ := hrel
    by_cases hlt : k < s.size
    · have hg : s.data.toList[k]? = some s[k] := List.getElem?_eq_getElem (l := s.data.toList) (i := k) (by simpa using hlt)
      cases e : blB s[k]
      · have hstop := run_stop (by rw [← HM.out]; exact hk) hg e
        have HK := Lib.hid (fun W => blank_is s[k] _ W e)
        clear hg e
        have HS := Lib.hid (hstop.trans HM.out.symm)
        clear hstop
        go_wp2_with (go_at_call 66; refine (HK.out _).mono ?_; rintro e w' ⟨rfl, rfl⟩)
        go_ret
        exact ⟨ret_i64 (by rw [HS.out]), rfl⟩
      · have hmore := run_more (by rw [← HM.out]; exact hk) hg e
        have HK := Lib.hid (fun W => blank_is s[k] _ W e)
        clear hg e
        rw [← HM.out] at hmore
        go_wp2_with (go_at_call 66; refine (HK.out _).mono ?_; rintro e w' ⟨rfl, rfl⟩)
        go_round
        case rel => exact ⟨k + 1, hmore, by go_num⟩
        case measure => simp [intOf]; omega
    · have hkm : k = m := by omega
      go_wp2_with fail
      go_ret
      exact ⟨ret_i64 (by omega), rfl⟩
set_option maxHeartbeats 1000000 in
theorem run_name (s : ByteArray) (w : World) (hs : s.size ≤ 100000) : Calls Tryz.prog 64 #[.string s, .func (.func 108) #[] #[]] w fun e w' => e = .returned (.int .i64 (runN nmB s.data.toList : Int)) ∧ w = w' := by
  have hle : runN nmB s.data.toList ≤ s.size := by
    have := run_le nmB s.data.toList
    rwa [← Lib.size_eq] at this
  obtain ⟨m, hm⟩ : ∃ m : Nat, m = runN nmB s.data.toList := ⟨_, rfl⟩
  rw [← hm] at hle ⊢
  have HM := Lib.hid hm
  clear hm
  go_enter Tryz.func64, Tryz.ntmps64
  go_wp2_with fail
  go_loop [5] (fun i => ∃ k : Nat, k ≤ m ∧ i = .int .i64 k) (fun i => s.size - (intOf i).toNat)
  case atStart => exact ⟨0, Nat.zero_le _, rfl⟩
  case round =>
    obtain ⟨k, hk, rfl⟩ := hrel
    by_cases hlt : k < s.size
    · have hg : s.data.toList[k]? = some s[k] := List.getElem?_eq_getElem (l := s.data.toList) (i := k) (by simpa using hlt)
      cases e : nmB s[k]
      · have hstop := run_stop (by rw [← HM.out]; exact hk) hg e
        have HK := Lib.hid (fun W => name_is s[k] _ W e)
        clear hg e
        have HS := Lib.hid (hstop.trans HM.out.symm)
        clear hstop
        go_wp2_with (go_at_call 108; refine (HK.out _).mono ?_; rintro e w' ⟨rfl, rfl⟩)
        go_ret
        exact ⟨ret_i64 (by rw [HS.out]), rfl⟩
      · have hmore := run_more (by rw [← HM.out]; exact hk) hg e
        have HK := Lib.hid (fun W => name_is s[k] _ W e)
        clear hg e
        rw [← HM.out] at hmore
        go_wp2_with (go_at_call 108; refine (HK.out _).mono ?_; rintro e w' ⟨rfl, rfl⟩)
        go_round
        case rel => exact ⟨k + 1, hmore, by go_num⟩
        case measure => simp [intOf]; omega
    · have hkm : k = m := by omega
      go_wp2_with fail
      go_ret
      exact ⟨ret_i64 (by omega), rfl⟩
set_option maxHeartbeats 1000000 in
theorem run_number (s : ByteArray) (w : World) (hs : s.size ≤ 100000) : Calls Tryz.prog 64 #[.string s, .func (.func 73) #[] #[]] w fun e w' => e = .returned (.int .i64 (runN nuB s.data.toList : Int)) ∧ w = w' := by
  have hle : runN nuB s.data.toList ≤ s.size := by
    have := run_le nuB s.data.toList
    rwa [← Lib.size_eq] at this
  obtain ⟨m, hm⟩ : ∃ m : Nat, m = runN nuB s.data.toList := ⟨_, rfl⟩
  rw [← hm] at hle ⊢
  have HM := Lib.hid hm
  clear hm
  go_enter Tryz.func64, Tryz.ntmps64
  go_wp2_with fail
  go_loop [5] (fun i => ∃ k : Nat, k ≤ m ∧ i = .int .i64 k) (fun i => s.size - (intOf i).toNat)
  case atStart => exact ⟨0, Nat.zero_le _, rfl⟩
  case round =>
    obtain ⟨k, hk, rfl⟩ := hrel
    by_cases hlt : k < s.size
    · have hg : s.data.toList[k]? = some s[k] := List.getElem?_eq_getElem (l := s.data.toList) (i := k) (by simpa using hlt)
      cases e : nuB s[k]
      · have hstop := run_stop (by rw [← HM.out]; exact hk) hg e
        have HK := Lib.hid (fun W => number_is s[k] _ W e)
        clear hg e
        have HS := Lib.hid (hstop.trans HM.out.symm)
        clear hstop
        go_wp2_with (go_at_call 73; refine (HK.out _).mono ?_; rintro e w' ⟨rfl, rfl⟩)
        go_ret
        exact ⟨ret_i64 (by rw [HS.out]), rfl⟩
      · have hmore := run_more (by rw [← HM.out]; exact hk) hg e
        have HK := Lib.hid (fun W => number_is s[k] _ W e)
        clear hg e
        rw [← HM.out] at hmore
        go_wp2_with (go_at_call 73; refine (HK.out _).mono ?_; rintro e w' ⟨rfl, rfl⟩)
        go_round
        case rel => exact ⟨k + 1, hmore, by go_num⟩
        case measure => simp [intOf]; omega
    · have hkm : k = m := by omega
      go_wp2_with fail
      go_ret
      exact ⟨ret_i64 (by omega), rfl⟩
set_option maxHeartbeats 1000000 in
theorem run_digit (s : ByteArray) (w : World) (hs : s.size ≤ 100000) : Calls Tryz.prog 64 #[.string s, .func (.func 71) #[] #[]] w fun e w' => e = .returned (.int .i64 (runN dgB s.data.toList : Int)) ∧ w = w' := by
  have hle : runN dgB s.data.toList ≤ s.size := by
    have := run_le dgB s.data.toList
    rwa [← Lib.size_eq] at this
  obtain ⟨m, hm⟩ : ∃ m : Nat, m = runN dgB s.data.toList := ⟨_, rfl⟩
  rw [← hm] at hle ⊢
  have HM := Lib.hid hm
  clear hm
  go_enter Tryz.func64, Tryz.ntmps64
  go_wp2_with fail
  go_loop [5] (fun i => ∃ k : Nat, k ≤ m ∧ i = .int .i64 k) (fun i => s.size - (intOf i).toNat)
  case atStart => exact ⟨0, Nat.zero_le _, rfl⟩
  case round =>
    obtain ⟨k, hk, rfl⟩ := hrel
    by_cases hlt : k < s.size
    · have hg : s.data.toList[k]? = some s[k] := List.getElem?_eq_getElem (l := s.data.toList) (i := k) (by simpa using hlt)
      cases e : dgB s[k]
      · have hstop := run_stop (by rw [← HM.out]; exact hk) hg e
        have HK := Lib.hid (fun W => digit_is s[k] _ W e)
        clear hg e
        have HS := Lib.hid (hstop.trans HM.out.symm)
        clear hstop
        go_wp2_with (go_at_call 71; refine (HK.out _).mono ?_; rintro e w' ⟨rfl, rfl⟩)
        go_ret
        exact ⟨ret_i64 (by rw [HS.out]), rfl⟩
      · have hmore := run_more (by rw [← HM.out]; exact hk) hg e
        have HK := Lib.hid (fun W => digit_is s[k] _ W e)
        clear hg e
        rw [← HM.out] at hmore
        go_wp2_with (go_at_call 71; refine (HK.out _).mono ?_; rintro e w' ⟨rfl, rfl⟩)
        go_round
        case rel => exact ⟨k + 1, hmore, by go_num⟩
        case measure => simp [intOf]; omega
    · have hkm : k = m := by omega
      go_wp2_with fail
      go_ret
      exact ⟨ret_i64 (by omega), rfl⟩
set_option maxHeartbeats 1000000 in
theorem run_hex (s : ByteArray) (w : World) (hs : s.size ≤ 100000) : Calls Tryz.prog 64 #[.string s, .func (.func 142) #[] #[]] w fun e w' => e = .returned (.int .i64 (runN hxB s.data.toList : Int)) ∧ w = w' := by
  have hle : runN hxB s.data.toList ≤ s.size := by
    have := run_le hxB s.data.toList
    rwa [← Lib.size_eq] at this
  obtain ⟨m, hm⟩ : ∃ m : Nat, m = runN hxB s.data.toList := ⟨_, rfl⟩
  rw [← hm] at hle ⊢
  have HM := Lib.hid hm
  clear hm
  go_enter Tryz.func64, Tryz.ntmps64
  go_wp2_with fail
  go_loop [5] (fun i => ∃ k : Nat, k ≤ m ∧ i = .int .i64 k) (fun i => s.size - (intOf i).toNat)
  case atStart => exact ⟨0, Nat.zero_le _, rfl⟩
  case round =>
    obtain ⟨k, hk, rfl⟩ := hrel
    by_cases hlt : k < s.size
    · have hg : s.data.toList[k]? = some s[k] := List.getElem?_eq_getElem (l := s.data.toList) (i := k) (by simpa using hlt)
      cases e : hxB s[k]
      · have hstop := run_stop (by rw [← HM.out]; exact hk) hg e
        have HK := Lib.hid (fun W => hex_is s[k] _ W e)
        clear hg e
        have HS := Lib.hid (hstop.trans HM.out.symm)
        clear hstop
        go_wp2_with (go_at_call 142; refine (HK.out _).mono ?_; rintro e w' ⟨rfl, rfl⟩)
        go_ret
        exact ⟨ret_i64 (by rw [HS.out]), rfl⟩
      · have hmore := run_more (by rw [← HM.out]; exact hk) hg e
        have HK := Lib.hid (fun W => hex_is s[k] _ W e)
        clear hg e
        rw [← HM.out] at hmore
        go_wp2_with (go_at_call 142; refine (HK.out _).mono ?_; rintro e w' ⟨rfl, rfl⟩)
        go_round
        case rel => exact ⟨k + 1, hmore, by go_num⟩
        case measure => simp [intOf]; omega
    · have hkm : k = m := by omega
      go_wp2_with fail
      go_ret
      exact ⟨ret_i64 (by omega), rfl⟩
end Go.Proofs.YtfpeecjafccfjaaGreatDoor
namespace Go.Proofs.YtfpeecjafccfjaaGreatDoor
open Go.RowKit
theorem hid_kp {b : Nat} {w u v : World} (h : Hid (Kp b w u)) (k : Kp b u v) : Hid (Kp b w v) := Lib.hid (h.out.trans k)
def CommPost (b : Nat) (s : ByteArray) (k : Nat) (w : World) (o : Option (List UInt8)) (e : Ending) (w' : World) : Prop :=
  Kp b w w' ∧ match o with
    | some r => ∃ k', e = .returned (.bool true) ∧ Rd w' b s k' ∧ sfx s k' = r ∧ k < k'
    | none => e = .returned (.bool false)
theorem CommPost.some_of {b : Nat} {s : ByteArray} {k : Nat} {w w' : World} {r : List UInt8} {e : Ending} (h : CommPost b s k w (some r) e w') : ∃ k', e = .returned (.bool true) ∧ Rd w' b s k' ∧ sfx s k' = r ∧ k < k' ∧ Kp b w w' := by
  obtain ⟨h0, k', h1, h2, h3, h4⟩ := h
  exact ⟨k', h1, h2, h3, h4, h0⟩
theorem CommPost.none_of {b : Nat} {s : ByteArray} {k : Nat} {w w' : World} {e : Ending} (h : CommPost b s k w none e w') : e = .returned (.bool false) ∧ Kp b w w' := ⟨h.2, h.1⟩
set_option maxHeartbeats 2000000 in
theorem comment_any (b : Nat) (s : ByteArray) (k : Nat) (w : World) (h : Rd w b s k) (hk : k + 2 ≤ s.size) : Calls Tryz.prog 68 #[.pointer (some ⟨b, 0, none⟩)] w (CommPost b s k w (comm (sfx s (k + 2)))) := by
  have htop := h.top
  have HR := Lib.hid h
  clear h
  have T1 := Lib.hid (fun W h => take_any b s k 2 W h hk)
  by_cases hp : 0 < opn (sfx s (k + 2))
  · have B1 := Lib.hid (fun W => begins_is (s.extract (k + 2) s.size) true W (by rw [rest_size s _ hk]; omega) (by rw [sfx_rest]; exact decide_eq_true hp))
    have K1 := Lib.hid (fun W h => bracketed_any b s (k + 2) W h hp)
    have hc : comm (sfx s (k + 2)) = (brk (sfx s (k + 2))).map (·.2) := by unfold comm; rw [if_pos hp]
    cases hb : brk (sfx s (k + 2)) with
    | none =>
      rw [hb] at hc
      have HC := Lib.hid hc
      rw [hb] at K1
      clear hb hc hp
      go_enter Tryz.func68, Tryz.ntmps68
      go_wp2_with fail
      refine (T1.out _ HR.out).mono ?_; rintro e w1 ⟨rfl, r1, k1⟩
      have R1 := Lib.hid r1
      have KK1 := Lib.hid k1
      clear r1 k1
      go_wp2_with fail
      refine (rest_any _ _ _ _ R1.out).mono ?_; rintro e w2 ⟨rfl, r2, k2⟩
      have R2 := Lib.hid r2
      have KK2 := hid_kp KK1 k2
      clear r2 k2
      go_wp2_with fail
      refine (B1.out _).mono ?_; rintro e w2' ⟨rfl, rfl⟩
      go_wp2_with fail
      refine (K1.out _ R2.out).mono ?_; intro e w3 hp3
      obtain ⟨rfl, k3⟩ := hp3.none_of
      clear hp3
      have KK3 := hid_kp KK2 k3
      clear k3
      go_wp2_with fail
      go_ret
      refine ⟨KK3.out, ?_⟩
      rw [HC.out]
      rfl
    | some z =>
      obtain ⟨t, r⟩ := z
      rw [hb] at hc
      have HC := Lib.hid hc
      rw [hb] at K1
      clear hb hc hp
      go_enter Tryz.func68, Tryz.ntmps68
      go_wp2_with fail
      refine (T1.out _ HR.out).mono ?_; rintro e w1 ⟨rfl, r1, k1⟩
      have R1 := Lib.hid r1
      have KK1 := Lib.hid k1
      clear r1 k1
      go_wp2_with fail
      refine (rest_any _ _ _ _ R1.out).mono ?_; rintro e w2 ⟨rfl, r2, k2⟩
      have R2 := Lib.hid r2
      have KK2 := hid_kp KK1 k2
      clear r2 k2
      go_wp2_with fail
      refine (B1.out _).mono ?_; rintro e w2' ⟨rfl, rfl⟩
      go_wp2_with fail
      refine (K1.out _ R2.out).mono ?_; intro e w3 hp3
      obtain ⟨k', rfl, r3, hr3, hlt, k3⟩ := hp3.some_of
      clear hp3
      have R3 := Lib.hid r3
      have KK3 := hid_kp KK2 k3
      have HE := Lib.hid hr3
      clear r3 k3 hr3
      go_wp2_with fail
      go_ret
      refine ⟨KK3.out, ?_⟩
      rw [HC.out]
      exact ⟨k', rfl, R3.out, HE.out, by omega⟩
  · have B1 := Lib.hid (fun W => begins_is (s.extract (k + 2) s.size) false W (by rw [rest_size s _ hk]; omega) (by rw [sfx_rest]; exact decide_eq_false hp))
    obtain ⟨A, hA⟩ : ∃ A : ByteArray, A = ⟨(Lib.cut (sfx s (k + 2)) [10]).1.toArray⟩ := ⟨_, rfl⟩
    obtain ⟨R, hR⟩ : ∃ R : ByteArray, R = ⟨(Lib.cut (sfx s (k + 2)) [10]).2.1.toArray⟩ := ⟨_, rfl⟩
    obtain ⟨o, ho⟩ : ∃ o : Bool, o = (Lib.cut (sfx s (k + 2)) [10]).2.2 := ⟨_, rfl⟩
    have C1 := Lib.hid (fun W hW => cut_call (s.extract (k + 2) s.size) ⟨#[10]⟩ W (by rw [rest_size s _ hk]; omega) hW)
    rw [sfx_rest, show (⟨#[10]⟩ : ByteArray).data.toList = [10] from rfl, ← hA, ← hR, ← ho] at C1
    have hAs : A.size = (Lib.cut (sfx s (k + 2)) [10]).1.length := by rw [hA, mk_size]
    have hc : comm (sfx s (k + 2)) = some (sfx s (k + 2 + A.size)) := by unfold comm; rw [if_neg hp, ← hAs, sfx_drop]
    have hAl : k + 2 + A.size ≤ s.size := by
      rw [hAs, cut_nl]
      have := run_le (fun c => c != 10) (sfx s (k + 2))
      rw [sfx_len] at this
      unfold runN at this
      omega
    have HC := Lib.hid hc
    have T2 := Lib.hid (fun W h => take_any b s (k + 2) A.size W h hAl)
    clear hA hR ho hAs hc hp
    go_enter Tryz.func68, Tryz.ntmps68
    go_wp2_with fail
    refine (T1.out _ HR.out).mono ?_; rintro e w1 ⟨rfl, r1, k1⟩
    have R1 := Lib.hid r1
    have KK1 := Lib.hid k1
    clear r1 k1
    go_wp2_with fail
    refine (rest_any _ _ _ _ R1.out).mono ?_; rintro e w2 ⟨rfl, r2, k2⟩
    have R2 := Lib.hid r2
    have KK2 := hid_kp KK1 k2
    clear r2 k2
    go_wp2_with fail
    refine (B1.out _).mono ?_; rintro e w2' ⟨rfl, rfl⟩
    go_wp2_with fail
    refine (rest_any _ _ _ _ R2.out).mono ?_; rintro e w3 ⟨rfl, r3, k3⟩
    have R3 := Lib.hid r3
    have KK3 := hid_kp KK2 k3
    clear r3 k3
    go_wp2_with fail
    refine (C1.out _ R3.out.mx).mono ?_; rintro e w4 ⟨rfl, n4, rfl⟩
    have R4 := Lib.hid (R3.out.draws n4)
    have KK4 := Lib.hid (KK3.out.draws n4)
    generalize w3.drewN n4 = w4 at *
    go_wp2_with fail
    refine (T2.out _ R4.out).mono ?_; rintro e w5 ⟨rfl, r5, k5⟩
    have R5 := Lib.hid r5
    have KK5 := hid_kp KK4 k5
    clear r5 k5
    go_wp2_with fail
    go_ret
    refine ⟨KK5.out, ?_⟩
    rw [HC.out]
    exact ⟨_, rfl, R5.out, rfl, by omega⟩
def Flt (W : World) (v : Value) (n : Int) : Prop := ∃ g, v = .iface 64 (.pointer (some ⟨g, 0, none⟩)) ∧ W.heap[g]? = some (.cells #[.int .i64 n, .iface 60 (.int .i64 5)] 68 (0, 0))
set_option maxHeartbeats 1000000 in
theorem fault_any (n : Int) (w : World) : Calls Tryz.prog 28 #[.int .i64 n, .int .i64 5] w fun e w' => e = .returned (.iface 64 (.pointer (some ⟨w.heap.size, 0, none⟩))) ∧ w' = w.alloc (.cells #[.int .i64 n, .iface 60 (.int .i64 5)] 68) := by
  go_enter Tryz.func28, Tryz.ntmps28
  go_wp2
  go_ret
  exact ⟨rfl, rfl⟩
theorem Flt.new (w : World) (n : Int) : Flt (w.alloc (.cells #[.int .i64 n, .iface 60 (.int .i64 5)] 68)) (.iface 64 (.pointer (some ⟨w.heap.size, 0, none⟩))) n := ⟨_, rfl, World.alloc_heap_new w _⟩
def lastL (s : ByteArray) : Int := 1 + (nl s.data.toList : Int)
theorem line_at (s : ByteArray) (k : Nat) : ((1 + nl (s.data.toList.take k) : Nat) : Int) = lastL s - nl (sfx s k) := by
  unfold lastL sfx
  have := nl_cut s.data.toList k
  omega
def SkipPost (b : Nat) (s : ByteArray) (k : Nat) (w : World) (e : Ending) (w' : World) : Prop :=
  Kp b w w' ∧ ((∃ k', e = .returned .nilIface ∧ Rd w' b s k' ∧ k ≤ k' ∧ Skip (sfx s k) (.ok (sfx s k'))) ∨
    (∃ r v, e = .returned v ∧ Flt w' v (lastL s - nl r) ∧ Skip (sfx s k) (.error r)))
theorem two_dash {l : List UInt8} (h : Lib.hasPrefix l [45, 45] = true) : l = 45 :: 45 :: l.drop 2 := by
  match l with
  | [] => simp [Lib.hasPrefix] at h
  | [a] => simp [Lib.hasPrefix] at h
  | a :: b :: t =>
    simp [Lib.hasPrefix, List.isPrefixOf] at h
    simp [← h.1, ← h.2]
set_option maxHeartbeats 4000000 in
theorem skip_any (b : Nat) (s : ByteArray) (k : Nat) (w : World) (h : Rd w b s k) : Calls Tryz.prog 29 #[.pointer (some ⟨b, 0, none⟩)] w (SkipPost b s k w) := by
  have htop := h.top
  have hle := h.le
  have HR := Lib.hid h
  clear h
  go_enter Tryz.func29, Tryz.ntmps29
  go_wp2_with fail
  go_loopg [] s.size (fun z wr => ∃ k1, Rd wr b s k1 ∧ s.size - k1 ≤ z ∧ Kp b w wr ∧ k ≤ k1 ∧ ∀ o, Skip (sfx s k1) o → Skip (sfx s k) o)
  case atStart => exact ⟨k, HR.out, by omega, Kp.refl _ _, Nat.le_refl _, fun _ h => h⟩
  case round =>
    obtain ⟨k1, hr, hz, hkp, hkk, hsk⟩ := hrel
    have hle1 := hr.le
    have R0 := Lib.hid hr
    have K0 := Lib.hid hkp
    have HS := Lib.hid hsk
    clear hr hkp hsk
    obtain ⟨m, hm⟩ : ∃ m : Nat, m = runN blB (sfx s k1) := ⟨_, rfl⟩
    have C1 := Lib.hid (fun W => run_blank (s.extract k1 s.size) W (by rw [rest_size s _ hle1]; omega))
    rw [sfx_rest, ← hm] at C1
    have hml := run_le blB (sfx s k1)
    rw [sfx_len, ← hm] at hml
    have hdw : (sfx s k1).dropWhile blB = sfx s (k1 + m) := by rw [← drop_run, ← hm, sfx_drop]
    have HD := Lib.hid hdw
    clear hm hdw
    cases hpre : Lib.hasPrefix (sfx s (k1 + m)) [45, 45]
    · have P1 := Lib.hid (fun W => hasP_is (s.extract (k1 + m) s.size) ⟨#[45, 45]⟩ W false (by rw [sfx_rest]; exact hpre))
      have HP := Lib.hid hpre
      clear hpre
      go_wp2_with fail
      refine (rest_any _ _ _ _ R0.out).mono ?_; rintro e w1 ⟨rfl, r1, k1'⟩
      have R1 := Lib.hid r1
      have K1 := hid_kp K0 k1'
      clear r1 k1'
      go_wp2_with fail
      refine (C1.out _).mono ?_; rintro e w1' ⟨rfl, rfl⟩
      go_wp2_with fail
      refine (take_any _ _ _ _ _ R1.out (by omega)).mono ?_; rintro e w2 ⟨rfl, r2, k2⟩
      have R2 := Lib.hid r2
      have K2 := hid_kp K1 k2
      clear r2 k2
      go_wp2_with fail
      refine (rest_any _ _ _ _ R2.out).mono ?_; rintro e w3 ⟨rfl, r3, k3⟩
      have R3 := Lib.hid r3
      have K3 := hid_kp K2 k3
      clear r3 k3
      go_wp2_with fail
      refine (P1.out _).mono ?_; rintro e w3' ⟨rfl, rfl⟩
      go_wp2_with fail
      go_ret
      exact ⟨K3.out, .inl ⟨_, rfl, R3.out, by omega, HS.out _ (.done HD.out HP.out)⟩⟩
    · have P1 := Lib.hid (fun W => hasP_is (s.extract (k1 + m) s.size) ⟨#[45, 45]⟩ W true (by rw [sfx_rest]; exact hpre))
      have h2 := two_dash hpre
      rw [sfx_drop] at h2
      have hroom : k1 + m + 2 ≤ s.size := by
        have := congrArg List.length h2
        rw [sfx_len, List.length_cons, List.length_cons] at this
        omega
      have HP := Lib.hid h2
      clear hpre h2
      have CM := Lib.hid (fun W h => comment_any b s (k1 + m) W h hroom)
      cases hcm : comm (sfx s (k1 + m + 2)) with
      | none =>
        rw [hcm] at CM
        have HCM := Lib.hid hcm
        clear hcm
        go_wp2_with fail
        refine (rest_any _ _ _ _ R0.out).mono ?_; rintro e w1 ⟨rfl, r1, k1'⟩
        have R1 := Lib.hid r1
        have K1 := hid_kp K0 k1'
        clear r1 k1'
        go_wp2_with fail
        refine (C1.out _).mono ?_; rintro e w1' ⟨rfl, rfl⟩
        go_wp2_with fail
        refine (take_any _ _ _ _ _ R1.out (by omega)).mono ?_; rintro e w2 ⟨rfl, r2, k2⟩
        have R2 := Lib.hid r2
        have K2 := hid_kp K1 k2
        clear r2 k2
        go_wp2_with fail
        refine (rest_any _ _ _ _ R2.out).mono ?_; rintro e w3 ⟨rfl, r3, k3⟩
        have R3 := Lib.hid r3
        have K3 := hid_kp K2 k3
        clear r3 k3
        go_wp2_with fail
        refine (P1.out _).mono ?_; rintro e w3' ⟨rfl, rfl⟩
        have c2 := R3.out.c2
        rw [line_at] at c2
        generalize hline : lastL s - (nl (sfx s (k1 + m)) : Int) = line at c2
        have HL := Lib.hid hline
        clear hline
        go_wp2_with fail
        clear c2
        refine (CM.out _ R3.out).mono ?_; intro e w4 hp4
        obtain ⟨rfl, k4⟩ := hp4.none_of
        have K4 := hid_kp K3 k4
        clear hp4 k4
        go_wp2_with fail
        refine (fault_any _ _).mono ?_; rintro e w5 ⟨rfl, rfl⟩
        go_wp2_with fail
        go_ret
        refine ⟨K4.out.alloc _, .inr ⟨_, _, rfl, ?_, HS.out _ (.bad (HD.out.trans HP.out) HCM.out)⟩⟩
        rw [← HP.out, HL.out]
        exact Flt.new _ _
      | some r' =>
        rw [hcm] at CM
        have HCM := Lib.hid hcm
        clear hcm
        go_wp2_with fail
        refine (rest_any _ _ _ _ R0.out).mono ?_; rintro e w1 ⟨rfl, r1, k1'⟩
        have R1 := Lib.hid r1
        have K1 := hid_kp K0 k1'
        clear r1 k1'
        go_wp2_with fail
        refine (C1.out _).mono ?_; rintro e w1' ⟨rfl, rfl⟩
        go_wp2_with fail
        refine (take_any _ _ _ _ _ R1.out (by omega)).mono ?_; rintro e w2 ⟨rfl, r2, k2⟩
        have R2 := Lib.hid r2
        have K2 := hid_kp K1 k2
        clear r2 k2
        go_wp2_with fail
        refine (rest_any _ _ _ _ R2.out).mono ?_; rintro e w3 ⟨rfl, r3, k3⟩
        have R3 := Lib.hid r3
        have K3 := hid_kp K2 k3
        clear r3 k3
        go_wp2_with fail
        refine (P1.out _).mono ?_; rintro e w3' ⟨rfl, rfl⟩
        have c2 := R3.out.c2
        rw [line_at] at c2
        generalize hline : lastL s - (nl (sfx s (k1 + m)) : Int) = line at c2
        clear hline
        go_wp2_with fail
        clear c2
        refine (CM.out _ R3.out).mono ?_; intro e w4 hp4
        obtain ⟨k', rfl, r4, hr4, hlt, k4⟩ := hp4.some_of
        have R4 := Lib.hid r4
        have K4 := hid_kp K3 k4
        have HE := Lib.hid hr4
        clear hp4 k4 r4 hr4
        go_wp2_with fail
        go_roundg (s.size - k')
        case measure => have := R4.out.le; omega
        case rel => exact ⟨k', R4.out, Nat.le_refl _, K4.out, by omega, fun o ho => HS.out o (.more (HD.out.trans HP.out) HCM.out (HE.out ▸ ho))⟩
end Go.Proofs.YtfpeecjafccfjaaGreatDoor
namespace Go.Proofs.YtfpeecjafccfjaaGreatDoor
theorem allD_mem {b : Nat} {l : List UInt8} (h : allD b l = true) {c : UInt8} (hc : c ∈ l) : dgv c.toNat < b := by
  unfold allD at h
  rw [List.all_eq_true] at h
  simpa using h c hc
theorem dw_all {p : UInt8 → Bool} (a b : List UInt8) (h : ∀ c ∈ a, p c = true) : (a ++ b).dropWhile p = b.dropWhile p := by
  induction a with
  | nil => rfl
  | cons c t ih =>
    rw [List.cons_append, List.dropWhile, h c (by simp)]
    exact ih fun x hx => h x (by simp [hx])
theorem dw_none {p : UInt8 → Bool} (a b : List UInt8) (ha : a ≠ []) (h : ∀ c ∈ a, p c = false) : (a ++ b).dropWhile p = a ++ b := by
  cases a with
  | nil => exact absurd rfl ha
  | cons c t => rw [List.cons_append, List.dropWhile, h c (by simp)]
theorem trm_mid (p x q : List UInt8) (hp : ∀ c ∈ p, blkB c.toNat = true) (hq : ∀ c ∈ q, blkB c.toNat = true) (hx : ∀ c ∈ x, blkB c.toNat = false) (hn : x ≠ []) : trm (p ++ x ++ q) = x := by
  rw [← trm_other]
  unfold Lib.trimLeftS Lib.trimRightS
  have e1 : List.dropWhile (fun y => blanks.contains y) (p ++ x ++ q) = x ++ q := by
    rw [List.append_assoc, dw_all p (x ++ q) (fun c hc => by rw [blanks_has]; exact hp c hc), dw_none x q hn (fun c hc => by rw [blanks_has]; exact hx c hc)]
  rw [e1, List.reverse_append, dw_all q.reverse x.reverse (fun c hc => by rw [blanks_has]; exact hq c (by simpa using hc))]
  have e2 := dw_none (p := fun y => blanks.contains y) x.reverse [] (by simpa using hn) (fun c hc => by rw [blanks_has]; exact hx c (by simpa using hc))
  rw [List.append_nil] at e2
  rw [e2, List.reverse_reverse]
theorem bas_plain {b : Nat} {l d : List UInt8} (h2 : 2 ≤ b) (h36 : b ≤ 36) (ht : trm l = d) (h : minB d = false) : basN b l = sgn (whN b d : Int) ∧ basO b l = okD b d := by
  unfold basN basO
  have e : Lib.trimPrefix d [45] = d := by unfold Lib.trimPrefix; unfold minB at h; rw [h, if_neg (by decide)]
  have hb : 2 ≤ (b : Int) ∧ (b : Int) ≤ 36 := by omega
  have hm : ¬ minB d = true := by rw [h]; decide
  rw [ht, if_pos hb, if_pos hb, if_neg hm, e, Int.toNat_natCast]
  exact ⟨rfl, rfl⟩
theorem sgn_in {n : Int} (h0 : -9223372036854775808 ≤ n) (h1 : n ≤ 9223372036854775807) : sgn n = n := by unfold sgn; omega
end Go.Proofs.YtfpeecjafccfjaaGreatDoor
namespace Go.Proofs.YtfpeecjafccfjaaGreatDoor
theorem foldl_val (b : Nat) (l : List UInt8) : ∀ n : Nat, l.foldl (fun n c => n * b + dgv c.toNat) n = n * b ^ l.length + val b l := by
  induction l with
  | nil => intro n; simp [val]
  | cons c t ih =>
    intro n
    have e : val b (c :: t) = dgv c.toNat * b ^ t.length + val b t := by
      show t.foldl _ (0 * b + dgv c.toNat) = _
      rw [ih]
      simp
    rw [List.foldl_cons, ih, e, List.length_cons, Nat.pow_succ, Nat.add_mul, Nat.mul_assoc, Nat.mul_comm b, Nat.add_assoc]
theorem val_cons (b : Nat) (c : UInt8) (l : List UInt8) : val b (c :: l) = dgv c.toNat * b ^ l.length + val b l := by
  show l.foldl _ (0 * b + dgv c.toNat) = _
  rw [foldl_val]
  simp
structure Wr (b n x : Nat) (l : List UInt8) : Prop where
  sum : n = x * b ^ l.length + val b l
  dig : allD b l = true
  len : l.length ≤ 63
theorem Wr.start (b n : Nat) : Wr b n n [] := ⟨by simp [val], rfl, by simp⟩
theorem Wr.step {b n x : Nat} {l : List UInt8} (h : Wr b n x l) (hb : 2 ≤ b) (hn : n < 9223372036854775808) (hx : 0 < x ∨ l = []) {c : UInt8} (hc : dgv c.toNat = x % b) : Wr b n (x / b) (c :: l) := by
  refine ⟨?_, ?_, ?_⟩
  · have hd : x = b * (x / b) + x % b := (Nat.div_add_mod x b).symm
    have hs := h.sum
    rw [val_cons, hc, List.length_cons, Nat.pow_succ]
    have e : x / b * (b ^ l.length * b) + (x % b * b ^ l.length + val b l) = (b * (x / b) + x % b) * b ^ l.length + val b l := by
      rw [Nat.add_mul, Nat.add_assoc, Nat.mul_comm (b ^ l.length) b, ← Nat.mul_assoc, Nat.mul_comm (x / b) b]
    rw [e, ← hd]
    exact hs
  · have := h.dig
    unfold allD at *
    rw [List.all_cons, this, hc]
    have : x % b < b := Nat.mod_lt _ (by omega)
    simpa using this
  · rcases hx with hx | rfl
    · have h1 : x * b ^ l.length ≤ n := by have := h.sum; omega
      have h2 : 2 ^ l.length ≤ b ^ l.length := Nat.pow_le_pow_left hb _
      have h3 : 1 * b ^ l.length ≤ x * b ^ l.length := Nat.mul_le_mul_right _ hx
      rw [List.length_cons]
      by_cases hl : l.length ≤ 62
      · omega
      · have h4 : 2 ^ 63 ≤ 2 ^ l.length := Nat.pow_le_pow_right (by omega) (by omega)
        have h5 : (2 : Nat) ^ 63 = 9223372036854775808 := by decide
        omega
    · simp
theorem Wr.short {b n x : Nat} {l : List UInt8} (h : Wr b n x l) : l.length ≤ 63 := h.len
theorem noblk_of {b : Nat} (hb : b ≤ 36) {l : List UInt8} (h : allD b l = true) : ∀ c ∈ l, blkB c.toNat = false := by
  intro c hc
  have := allD_mem h hc
  unfold blkB
  rw [Bool.or_eq_false_iff, decide_eq_false_iff_not, decide_eq_false_iff_not]
  unfold dgv at this
  split at this
  · omega
  · split at this
    · omega
    · split at this <;> omega
theorem min_of {b : Nat} (hb : b ≤ 36) {l : List UInt8} (h : allD b l = true) (t : List UInt8) (hl : l ≠ []) : minB (l ++ t) = false := by
  cases l with
  | nil => exact absurd rfl hl
  | cons c r =>
    have h1 := allD_mem h (c := c) (by simp)
    have hne : ((45 : UInt8) == c) = false := by
      rw [beq_eq_false_iff_ne]
      rintro rfl
      have : dgv (45 : UInt8).toNat = 36 := by decide
      omega
    simp [minB, Lib.hasPrefix, List.isPrefixOf, hne]
theorem trm_id {x : List UInt8} (hx : ∀ c ∈ x, blkB c.toNat = false) (hn : x ≠ []) : trm x = x := by
  have := trm_mid [] x [] (fun c hc => by cases hc) (fun c hc => by cases hc) hx hn
  simpa using this
end Go.Proofs.YtfpeecjafccfjaaGreatDoor
namespace Go.Proofs.YtfpeecjafccfjaaGreatDoor
open Go.RowKit
def Bts (W : World) (v : Value) (m : List UInt8) : Prop :=
  (v = .slice none 0 0 ∧ m = []) ∨ (∃ g x, m = [x] ∧ v = .slice (some ⟨g, 0, none⟩) 1 1 ∧ W.cell? ⟨g, 0, none⟩ = some (.int .u8 (x.toNat : Int)))
def EscPost (b : Nat) (s : ByteArray) (k : Nat) (w : World) (o : Option (List UInt8 × List UInt8)) (e : Ending) (w' : World) : Prop :=
  Kp b w w' ∧ match o with
    | some (m, r) => ∃ k' v, e = .returned (.tuple #[v, .bool true]) ∧ Bts w' v m ∧ Rd w' b s k' ∧ sfx s k' = r ∧ k ≤ k'
    | none => e = .returned (.tuple #[.slice none 0 0, .bool false])
theorem digits_bas {b : Nat} (hb : 2 ≤ b) (hb' : b ≤ 36) {d : List UInt8} (hd : allD b d = true) (hl : d.length ≤ 3) : 0 ≤ basN b d := by
  by_cases h0 : d = []
  · subst h0
    have := (bas_plain (l := []) (d := []) hb hb' rfl rfl).1
    rw [this]
    rw [whN_no rfl]
    decide
  · have ht := trm_id (noblk_of hb' hd) h0
    have hm : minB d = false := by have := min_of hb' hd [] h0; rwa [List.append_nil] at this
    rw [(bas_plain hb hb' ht hm).1, whN_ok (okD_all h0 hd)]
    have hv : val b d < 46657 := by
      have : val b d ≤ b ^ d.length := by
        have h2 : ∀ (l : List UInt8), allD b l = true → val b l + 1 ≤ b ^ l.length := by
          intro l
          induction l with
          | nil => intro _; simp [val]
          | cons c t ih =>
            intro h
            simp only [allD, List.all_cons, Bool.and_eq_true, decide_eq_true_eq] at h
            rw [val_cons, List.length_cons, Nat.pow_succ]
            have i := ih h.2
            have h4 : (dgv c.toNat + 1) * b ^ t.length ≤ b * b ^ t.length := Nat.mul_le_mul_right _ (by omega)
            rw [Nat.add_mul, Nat.one_mul] at h4
            rw [Nat.mul_comm (b ^ t.length) b]
            omega
        have := h2 d hd
        omega
      have h3 : b ^ d.length ≤ 36 ^ 3 := Nat.le_trans (Nat.pow_le_pow_left hb' _) (Nat.pow_le_pow_right (by omega) hl)
      have h4 : (36 : Nat) ^ 3 = 46656 := by decide
      omega
    rw [sgn_in (by omega) (by omega)]
    omega
theorem take_kind {p : UInt8 → Bool} (l : List UInt8) (n : Nat) : ∀ c ∈ l.take (min n (runN p l)), p c = true := by
  intro c hc
  have h1 : c ∈ l.take (runN p l) := (List.take_subset_take_left l (Nat.min_le_right n (runN p l))) hc
  rw [take_run] at h1
  exact List.all_eq_true.1 List.all_takeWhile c h1
theorem hx_dgv : ∀ c : UInt8, hxB c = true → dgv c.toNat < 16 := u8_all (by decide +kernel)
theorem dg_dgv : ∀ c : UInt8, dgB c = true → dgv c.toNat < 10 := u8_all (by decide +kernel)
theorem kind_allD {p : UInt8 → Bool} {b : Nat} (h : ∀ c : UInt8, p c = true → dgv c.toNat < b) (l : List UInt8) (n : Nat) : allD b (l.take (min n (runN p l))) = true := by
  unfold allD
  rw [List.all_eq_true]
  intro c hc
  exact decide_eq_true (h c (take_kind l n c hc))
theorem byte_new (w : World) (x : Int) (u : UInt8) (h : x = (u.toNat : Int)) : Bts (w.alloc (.cells #[.int .u8 x] 5)) (.slice (some ⟨w.heap.size, 0, none⟩) 1 1) [u] := by
  refine .inr ⟨_, u, rfl, rfl, ?_⟩
  rw [← h]
  unfold World.cell?
  rw [World.alloc_heap_new]
  rfl
theorem u8_of {n : Int} (h0 : 0 ≤ n) (h1 : n ≤ 255) : n = ((UInt8.ofNat n.toNat).toNat : Int) := by
  rw [UInt8.toNat_ofNat', Nat.mod_eq_of_lt (by omega)]
  omega
set_option maxHeartbeats 2000000 in
theorem code_hex (b : Nat) (s : ByteArray) (k : Nat) (w : World) (h : Rd w b s k) :
    Calls Tryz.prog 141 #[.pointer (some ⟨b, 0, none⟩), .int .i64 16, .func (.func 142) #[] #[], .int .i64 2, .int .i64 2] w (EscPost b s k w (code 16 hxB 2 2 (sfx s k))) := by
  have htop := h.top
  have hle := h.le
  have HR := Lib.hid h
  clear h
  obtain ⟨m, hm⟩ : ∃ m : Nat, m = runN hxB (sfx s k) := ⟨_, rfl⟩
  have C1 := Lib.hid (fun W => run_hex (s.extract k s.size) W (by rw [rest_size s _ hle]; omega))
  rw [sfx_rest, ← hm] at C1
  have hml := run_le hxB (sfx s k)
  rw [sfx_len, ← hm] at hml
  have hall := kind_allD (p := hxB) (b := 16) hx_dgv (sfx s k) 2
  rw [← hm] at hall
  obtain ⟨c, hc⟩ : ∃ c : Nat, c = min 2 m := ⟨_, rfl⟩
  have hT : ∀ W, Rd W b s k → Calls Tryz.prog 63 #[.pointer (some ⟨b, 0, none⟩), .int .i64 (min 2 (m : Int))] W fun e w' => e = .returned (.string (s.extract k (k + c))) ∧ Rd w' b s (k + c) ∧ Kp b W w' := fun W h => by
    have := take_any b s k c W h (by omega)
    rwa [show (c : Int) = min 2 (m : Int) by omega] at this
  have hcode : code 16 hxB 2 2 (sfx s k) = if basO 16 (s.extract k (k + c)).data.toList = true ∧ 2 ≤ c ∧ basN 16 (s.extract k (k + c)).data.toList ≤ 255 then some ([UInt8.ofNat (basN 16 (s.extract k (k + c)).data.toList).toNat], sfx s (k + c)) else none := by
    unfold code
    rw [← hm, ← hc, ← sfx_take, sfx_drop]
  rw [← hc, ← sfx_take] at hall
  have hpos := digits_bas (b := 16) (by decide) (by decide) hall (by rw [sfx_take, List.length_take]; omega)
  have hDs : (s.extract k (k + c)).size = c := by rw [ByteArray.size_extract]; omega
  obtain ⟨D, hD⟩ : ∃ D : ByteArray, D = s.extract k (k + c) := ⟨_, rfl⟩
  rw [← hD] at hT hcode hpos hDs
  have C2 := Lib.hid hT
  have C3 := Lib.hid (fun W => cBase D 16 W (by omega))
  obtain ⟨N, hN⟩ : ∃ N : Int, N = basN 16 D.data.toList := ⟨_, rfl⟩
  obtain ⟨o, ho⟩ : ∃ o : Bool, o = basO 16 D.data.toList := ⟨_, rfl⟩
  rw [show ((16 : Nat) : Int) = (16 : Int) from rfl] at hpos
  rw [← hN] at hpos
  rw [← hN, ← ho] at C3 hcode
  have HC := Lib.hid hcode
  clear hm hall hT hcode hD hN ho
  have hcase : o = false ∨ (o = true ∧ D.size < 2) ∨ (o = true ∧ 2 ≤ D.size ∧ 255 < N) ∨ (o = true ∧ 2 ≤ D.size ∧ N ≤ 255) := by
    cases o
    · exact .inl rfl
    · right
      by_cases h1 : D.size < 2
      · exact .inl ⟨rfl, h1⟩
      · right
        by_cases h2 : 255 < N
        · exact .inl ⟨rfl, by omega, h2⟩
        · exact .inr ⟨rfl, by omega, by omega⟩
  rcases hcase with rfl | ⟨rfl, h1⟩ | ⟨rfl, h1, h2⟩ | ⟨rfl, h1, h2⟩
  all_goals have HDs := Lib.hid hDs
  all_goals have HCm := Lib.hid hc
  all_goals clear hDs hc
  · go_enter Tryz.func141, Tryz.ntmps141
    go_wp2_with fail
    refine (rest_any _ _ _ _ HR.out).mono ?_; rintro e w1 ⟨rfl, r1, k1⟩
    have R1 := Lib.hid r1
    have K1 := Lib.hid k1
    clear r1 k1
    go_wp2_with fail
    refine (C1.out _).mono ?_; rintro e w1' ⟨rfl, rfl⟩
    go_wp2_with fail
    refine (C2.out _ R1.out).mono ?_; rintro e w2 ⟨rfl, r2, k2⟩
    have R2 := Lib.hid r2
    have K2 := hid_kp K1 k2
    clear r2 k2
    go_wp2_with fail
    refine (C3.out _).mono ?_; rintro e w3 ⟨rfl, b3⟩
    have K3 := hid_kp K2 (Kp.of_below b3)
    clear b3
    go_wp2_with fail
    go_ret2
    refine ⟨K3.out, ?_⟩
    rw [HC.out, if_neg (by simp)]
    rfl
  · have g1 : decide (D.size < 2) = true := decide_eq_true h1
    go_enter Tryz.func141, Tryz.ntmps141
    go_wp2_with fail
    refine (rest_any _ _ _ _ HR.out).mono ?_; rintro e w1 ⟨rfl, r1, k1⟩
    have R1 := Lib.hid r1
    have K1 := Lib.hid k1
    clear r1 k1
    go_wp2_with fail
    refine (C1.out _).mono ?_; rintro e w1' ⟨rfl, rfl⟩
    go_wp2_with fail
    refine (C2.out _ R1.out).mono ?_; rintro e w2 ⟨rfl, r2, k2⟩
    have R2 := Lib.hid r2
    have K2 := hid_kp K1 k2
    clear r2 k2
    go_wp2_with fail
    refine (C3.out _).mono ?_; rintro e w3 ⟨rfl, b3⟩
    have K3 := hid_kp K2 (Kp.of_below b3)
    clear b3
    go_wp2_with fail
    go_ret2
    refine ⟨K3.out, ?_⟩
    rw [HC.out, if_neg (by have := HDs.out; omega)]
    rfl
  · have g1 : decide (D.size < 2) = false := decide_eq_false (by omega)
    have g2 : decide (255 < N) = true := decide_eq_true h2
    go_enter Tryz.func141, Tryz.ntmps141
    go_wp2_with fail
    refine (rest_any _ _ _ _ HR.out).mono ?_; rintro e w1 ⟨rfl, r1, k1⟩
    have R1 := Lib.hid r1
    have K1 := Lib.hid k1
    clear r1 k1
    go_wp2_with fail
    refine (C1.out _).mono ?_; rintro e w1' ⟨rfl, rfl⟩
    go_wp2_with fail
    refine (C2.out _ R1.out).mono ?_; rintro e w2 ⟨rfl, r2, k2⟩
    have R2 := Lib.hid r2
    have K2 := hid_kp K1 k2
    clear r2 k2
    go_wp2_with fail
    refine (C3.out _).mono ?_; rintro e w3 ⟨rfl, b3⟩
    have K3 := hid_kp K2 (Kp.of_below b3)
    clear b3
    go_wp2_with fail
    go_ret2
    refine ⟨K3.out, ?_⟩
    rw [HC.out, if_neg (by omega)]
    rfl
  · have g1 : decide (D.size < 2) = false := decide_eq_false (by omega)
    have g2 : decide (255 < N) = false := decide_eq_false (by omega)
    go_enter Tryz.func141, Tryz.ntmps141
    go_wp2_with fail
    refine (rest_any _ _ _ _ HR.out).mono ?_; rintro e w1 ⟨rfl, r1, k1⟩
    have R1 := Lib.hid r1
    have K1 := Lib.hid k1
    clear r1 k1
    go_wp2_with fail
    refine (C1.out _).mono ?_; rintro e w1' ⟨rfl, rfl⟩
    go_wp2_with fail
    refine (C2.out _ R1.out).mono ?_; rintro e w2 ⟨rfl, r2, k2⟩
    have R2 := Lib.hid r2
    have K2 := hid_kp K1 k2
    clear r2 k2
    go_wp2_with fail
    refine (C3.out _).mono ?_; rintro e w3 ⟨rfl, b3⟩
    have R3 := Lib.hid (R2.out.below b3)
    have K3 := hid_kp K2 (Kp.of_below b3)
    clear b3
    go_wp2_with fail
    go_ret2
    refine ⟨K3.out.alloc _, ?_⟩
    rw [HC.out, if_pos ⟨by trivial, by have := HDs.out; omega, h2⟩]
    exact ⟨_, _, rfl, byte_new _ _ _ (u8_of hpos h2), R3.out.alloc _, rfl, by omega⟩
set_option maxHeartbeats 2000000 in
theorem code_digit (b : Nat) (s : ByteArray) (k : Nat) (w : World) (h : Rd w b s k) :
    Calls Tryz.prog 141 #[.pointer (some ⟨b, 0, none⟩), .int .i64 10, .func (.func 71) #[] #[], .int .i64 1, .int .i64 3] w (EscPost b s k w (code 10 dgB 1 3 (sfx s k))) := by
  have htop := h.top
  have hle := h.le
  have HR := Lib.hid h
  clear h
  obtain ⟨m, hm⟩ : ∃ m : Nat, m = runN dgB (sfx s k) := ⟨_, rfl⟩
  have C1 := Lib.hid (fun W => run_digit (s.extract k s.size) W (by rw [rest_size s _ hle]; omega))
  rw [sfx_rest, ← hm] at C1
  have hml := run_le dgB (sfx s k)
  rw [sfx_len, ← hm] at hml
  have hall := kind_allD (p := dgB) (b := 10) dg_dgv (sfx s k) 3
  rw [← hm] at hall
  obtain ⟨c, hc⟩ : ∃ c : Nat, c = min 3 m := ⟨_, rfl⟩
  have hT : ∀ W, Rd W b s k → Calls Tryz.prog 63 #[.pointer (some ⟨b, 0, none⟩), .int .i64 (min 3 (m : Int))] W fun e w' => e = .returned (.string (s.extract k (k + c))) ∧ Rd w' b s (k + c) ∧ Kp b W w' := fun W h => by
    have := take_any b s k c W h (by omega)
    rwa [show (c : Int) = min 3 (m : Int) by omega] at this
  have hcode : code 10 dgB 1 3 (sfx s k) = if basO 10 (s.extract k (k + c)).data.toList = true ∧ 1 ≤ c ∧ basN 10 (s.extract k (k + c)).data.toList ≤ 255 then some ([UInt8.ofNat (basN 10 (s.extract k (k + c)).data.toList).toNat], sfx s (k + c)) else none := by
    unfold code
    rw [← hm, ← hc, ← sfx_take, sfx_drop]
  rw [← hc, ← sfx_take] at hall
  have hpos := digits_bas (b := 10) (by decide) (by decide) hall (by rw [sfx_take, List.length_take]; omega)
  have hDs : (s.extract k (k + c)).size = c := by rw [ByteArray.size_extract]; omega
  obtain ⟨D, hD⟩ : ∃ D : ByteArray, D = s.extract k (k + c) := ⟨_, rfl⟩
  rw [← hD] at hT hcode hpos hDs
  have C2 := Lib.hid hT
  have C3 := Lib.hid (fun W => cBase D 10 W (by omega))
  obtain ⟨N, hN⟩ : ∃ N : Int, N = basN 10 D.data.toList := ⟨_, rfl⟩
  obtain ⟨o, ho⟩ : ∃ o : Bool, o = basO 10 D.data.toList := ⟨_, rfl⟩
  rw [show ((10 : Nat) : Int) = (10 : Int) from rfl] at hpos
  rw [← hN] at hpos
  rw [← hN, ← ho] at C3 hcode
  have HC := Lib.hid hcode
  clear hm hall hT hcode hD hN ho
  have hcase : o = false ∨ (o = true ∧ D.size < 1) ∨ (o = true ∧ 1 ≤ D.size ∧ 255 < N) ∨ (o = true ∧ 1 ≤ D.size ∧ N ≤ 255) := by
    cases o
    · exact .inl rfl
    · right
      by_cases h1 : D.size < 1
      · exact .inl ⟨rfl, h1⟩
      · right
        by_cases h2 : 255 < N
        · exact .inl ⟨rfl, by omega, h2⟩
        · exact .inr ⟨rfl, by omega, by omega⟩
  rcases hcase with rfl | ⟨rfl, h1⟩ | ⟨rfl, h1, h2⟩ | ⟨rfl, h1, h2⟩
  all_goals have HDs := Lib.hid hDs
  all_goals have HCm := Lib.hid hc
  all_goals clear hDs hc
  · go_enter Tryz.func141, Tryz.ntmps141
    go_wp2_with fail
    refine (rest_any _ _ _ _ HR.out).mono ?_; rintro e w1 ⟨rfl, r1, k1⟩
    have R1 := Lib.hid r1
    have K1 := Lib.hid k1
    clear r1 k1
    go_wp2_with fail
    refine (C1.out _).mono ?_; rintro e w1' ⟨rfl, rfl⟩
    go_wp2_with fail
    refine (C2.out _ R1.out).mono ?_; rintro e w2 ⟨rfl, r2, k2⟩
    have R2 := Lib.hid r2
    have K2 := hid_kp K1 k2
    clear r2 k2
    go_wp2_with fail
    refine (C3.out _).mono ?_; rintro e w3 ⟨rfl, b3⟩
    have K3 := hid_kp K2 (Kp.of_below b3)
    clear b3
    go_wp2_with fail
    go_ret2
    refine ⟨K3.out, ?_⟩
    rw [HC.out, if_neg (by simp)]
    rfl
  · have g1 : decide (D.size < 1) = true := decide_eq_true h1
    go_enter Tryz.func141, Tryz.ntmps141
    go_wp2_with fail
    refine (rest_any _ _ _ _ HR.out).mono ?_; rintro e w1 ⟨rfl, r1, k1⟩
    have R1 := Lib.hid r1
    have K1 := Lib.hid k1
    clear r1 k1
    go_wp2_with fail
    refine (C1.out _).mono ?_; rintro e w1' ⟨rfl, rfl⟩
    go_wp2_with fail
    refine (C2.out _ R1.out).mono ?_; rintro e w2 ⟨rfl, r2, k2⟩
    have R2 := Lib.hid r2
    have K2 := hid_kp K1 k2
    clear r2 k2
    go_wp2_with fail
    refine (C3.out _).mono ?_; rintro e w3 ⟨rfl, b3⟩
    have K3 := hid_kp K2 (Kp.of_below b3)
    clear b3
    go_wp2_with fail
    go_ret2
    refine ⟨K3.out, ?_⟩
    rw [HC.out, if_neg (by have := HDs.out; omega)]
    rfl
  · have g1 : decide (D.size < 1) = false := decide_eq_false (by omega)
    have g2 : decide (255 < N) = true := decide_eq_true h2
    go_enter Tryz.func141, Tryz.ntmps141
    go_wp2_with fail
    refine (rest_any _ _ _ _ HR.out).mono ?_; rintro e w1 ⟨rfl, r1, k1⟩
    have R1 := Lib.hid r1
    have K1 := Lib.hid k1
    clear r1 k1
    go_wp2_with fail
    refine (C1.out _).mono ?_; rintro e w1' ⟨rfl, rfl⟩
    go_wp2_with fail
    refine (C2.out _ R1.out).mono ?_; rintro e w2 ⟨rfl, r2, k2⟩
    have R2 := Lib.hid r2
    have K2 := hid_kp K1 k2
    clear r2 k2
    go_wp2_with fail
    refine (C3.out _).mono ?_; rintro e w3 ⟨rfl, b3⟩
    have K3 := hid_kp K2 (Kp.of_below b3)
    clear b3
    go_wp2_with fail
    go_ret2
    refine ⟨K3.out, ?_⟩
    rw [HC.out, if_neg (by omega)]
    rfl
  · have g1 : decide (D.size < 1) = false := decide_eq_false (by omega)
    have g2 : decide (255 < N) = false := decide_eq_false (by omega)
    go_enter Tryz.func141, Tryz.ntmps141
    go_wp2_with fail
    refine (rest_any _ _ _ _ HR.out).mono ?_; rintro e w1 ⟨rfl, r1, k1⟩
    have R1 := Lib.hid r1
    have K1 := Lib.hid k1
    clear r1 k1
    go_wp2_with fail
    refine (C1.out _).mono ?_; rintro e w1' ⟨rfl, rfl⟩
    go_wp2_with fail
    refine (C2.out _ R1.out).mono ?_; rintro e w2 ⟨rfl, r2, k2⟩
    have R2 := Lib.hid r2
    have K2 := hid_kp K1 k2
    clear r2 k2
    go_wp2_with fail
    refine (C3.out _).mono ?_; rintro e w3 ⟨rfl, b3⟩
    have R3 := Lib.hid (R2.out.below b3)
    have K3 := hid_kp K2 (Kp.of_below b3)
    clear b3
    go_wp2_with fail
    go_ret2
    refine ⟨K3.out.alloc _, ?_⟩
    rw [HC.out, if_pos ⟨by trivial, by have := HDs.out; omega, h2⟩]
    exact ⟨_, _, rfl, byte_new _ _ _ (u8_of hpos h2), R3.out.alloc _, rfl, by omega⟩
end Go.Proofs.YtfpeecjafccfjaaGreatDoor
namespace Go.Proofs.YtfpeecjafccfjaaGreatDoor
open Go.RowKit
theorem sfx_cons (s : ByteArray) (k : Nat) (h : k < s.size) : sfx s k = s[k] :: sfx s (k + 1) := by
  unfold sfx
  exact List.drop_eq_getElem_cons (l := s.data.toList) (i := k) (by simpa using h)
theorem rest_head (s : ByteArray) (k : Nat) (h : k < s.size) (h' : 0 < (s.extract k s.size).size) : (s.extract k s.size)[0] = s[k] := by
  rw [ByteArray.getElem_extract]
  simp
theorem sfx_end (s : ByteArray) (k : Nat) (h : s.size ≤ k) : sfx s k = [] := List.drop_eq_nil_of_le (by rw [← Lib.size_eq]; exact h)
theorem empB_no (X : ByteArray) (h : 0 < X.size) : X.toList.isEmpty = false := by
  rw [Lib.toList_data]
  cases e : X.data.toList with
  | nil =>
    have := Lib.size_eq X
    rw [e, List.length_nil] at this
    omega
  | cons => rfl
theorem empB_yes (X : ByteArray) (h : X.size = 0) : X.toList.isEmpty = true := by
  rw [Lib.toList_data, List.eq_nil_of_length_eq_zero (l := X.data.toList) (by rw [← Lib.size_eq]; exact h)]
  rfl
set_option maxHeartbeats 2000000 in
theorem esc_none (b : Nat) (s : ByteArray) (k : Nat) (w : World) (h : Rd w b s k) (hk : k = s.size) : Calls Tryz.prog 110 #[.pointer (some ⟨b, 0, none⟩)] w (EscPost b s k w (esc (sfx s k))) := by
  rw [sfx_end s k (by omega)]
  obtain ⟨X, hX⟩ : ∃ X : ByteArray, X = s.extract k s.size := ⟨_, rfl⟩
  have C1 := Lib.hid (fun W h => rest_any b s k W h)
  rw [← hX] at C1
  have hXe := empB_yes X (by rw [hX, rest_size s k (by omega)]; omega)
  have HR := Lib.hid h
  clear hX h
  go_enter Tryz.func110, Tryz.ntmps110
  go_wp2_with fail
  refine (C1.out _ HR.out).mono ?_; rintro e w1 ⟨rfl, r1, k1⟩
  have K1 := Lib.hid k1
  clear r1 k1
  go_wp2_with fail
  go_ret2
  exact ⟨K1.out, rfl⟩
set_option maxHeartbeats 4000000 in
theorem esc_97 (b : Nat) (s : ByteArray) (k : Nat) (w : World) (h : Rd w b s k) (hk : k < s.size) (hc : s[k] = 97) : Calls Tryz.prog 110 #[.pointer (some ⟨b, 0, none⟩)] w (EscPost b s k w (some ([7], sfx s (k + 1)))) := by
  obtain ⟨X, hX⟩ : ∃ X : ByteArray, X = s.extract k s.size := ⟨_, rfl⟩
  have C1 := Lib.hid (fun W h => rest_any b s k W h)
  have hXs : 0 < X.size := by rw [hX, rest_size s k (by omega)]; omega
  have hX0 : X[0] = 97 := by subst hX; rw [rest_head s k hk hXs]; exact hc
  rw [← hX] at C1
  have hXe := empB_no X hXs
  have HR := Lib.hid h
  have I1 := Lib.hid (fun W => indexB_call ⟨#[97, 98, 102, 110, 114, 116, 118]⟩ 97 W)
  have T1 := Lib.hid (fun W h => take_any b s k 1 W h (by omega))
  clear hX h hc
  go_enter Tryz.func110, Tryz.ntmps110
  go_wp2_with fail
  refine (C1.out _ HR.out).mono ?_; rintro e w1 ⟨rfl, r1, k1⟩
  have R1 := Lib.hid r1
  have K1 := Lib.hid k1
  clear r1 k1
  go_wp2_with fail
  refine (C1.out _ R1.out).mono ?_; rintro e w2 ⟨rfl, r2, k2⟩
  have R2 := Lib.hid r2
  have K2 := hid_kp K1 k2
  clear r2 k2
  go_wp2_with fail
  refine (I1.out _).mono ?_; rintro e w2' ⟨rfl, rfl⟩
  rw [show Lib.indexByte (⟨#[97, 98, 102, 110, 114, 116, 118]⟩ : ByteArray).data.toList 97 = 0 from by decide]
  go_wp2_with fail
  refine (T1.out _ R2.out).mono ?_; rintro e w3 ⟨rfl, r3, k3⟩
  have R3 := Lib.hid r3
  have K3 := hid_kp K2 k3
  clear r3 k3
  go_wp2_with fail
  go_ret2
  exact ⟨K3.out.alloc _, _, _, rfl, byte_new _ _ _ rfl, R3.out.alloc _, rfl, by omega⟩
set_option maxHeartbeats 4000000 in
theorem esc_98 (b : Nat) (s : ByteArray) (k : Nat) (w : World) (h : Rd w b s k) (hk : k < s.size) (hc : s[k] = 98) : Calls Tryz.prog 110 #[.pointer (some ⟨b, 0, none⟩)] w (EscPost b s k w (some ([8], sfx s (k + 1)))) := by
  obtain ⟨X, hX⟩ : ∃ X : ByteArray, X = s.extract k s.size := ⟨_, rfl⟩
  have C1 := Lib.hid (fun W h => rest_any b s k W h)
  have hXs : 0 < X.size := by rw [hX, rest_size s k (by omega)]; omega
  have hX0 : X[0] = 98 := by subst hX; rw [rest_head s k hk hXs]; exact hc
  rw [← hX] at C1
  have hXe := empB_no X hXs
  have HR := Lib.hid h
  have I1 := Lib.hid (fun W => indexB_call ⟨#[97, 98, 102, 110, 114, 116, 118]⟩ 98 W)
  have T1 := Lib.hid (fun W h => take_any b s k 1 W h (by omega))
  clear hX h hc
  go_enter Tryz.func110, Tryz.ntmps110
  go_wp2_with fail
  refine (C1.out _ HR.out).mono ?_; rintro e w1 ⟨rfl, r1, k1⟩
  have R1 := Lib.hid r1
  have K1 := Lib.hid k1
  clear r1 k1
  go_wp2_with fail
  refine (C1.out _ R1.out).mono ?_; rintro e w2 ⟨rfl, r2, k2⟩
  have R2 := Lib.hid r2
  have K2 := hid_kp K1 k2
  clear r2 k2
  go_wp2_with fail
  refine (I1.out _).mono ?_; rintro e w2' ⟨rfl, rfl⟩
  rw [show Lib.indexByte (⟨#[97, 98, 102, 110, 114, 116, 118]⟩ : ByteArray).data.toList 98 = 1 from by decide]
  go_wp2_with fail
  refine (T1.out _ R2.out).mono ?_; rintro e w3 ⟨rfl, r3, k3⟩
  have R3 := Lib.hid r3
  have K3 := hid_kp K2 k3
  clear r3 k3
  go_wp2_with fail
  go_ret2
  exact ⟨K3.out.alloc _, _, _, rfl, byte_new _ _ _ rfl, R3.out.alloc _, rfl, by omega⟩
set_option maxHeartbeats 4000000 in
theorem esc_102 (b : Nat) (s : ByteArray) (k : Nat) (w : World) (h : Rd w b s k) (hk : k < s.size) (hc : s[k] = 102) : Calls Tryz.prog 110 #[.pointer (some ⟨b, 0, none⟩)] w (EscPost b s k w (some ([12], sfx s (k + 1)))) := by
  obtain ⟨X, hX⟩ : ∃ X : ByteArray, X = s.extract k s.size := ⟨_, rfl⟩
  have C1 := Lib.hid (fun W h => rest_any b s k W h)
  have hXs : 0 < X.size := by rw [hX, rest_size s k (by omega)]; omega
  have hX0 : X[0] = 102 := by subst hX; rw [rest_head s k hk hXs]; exact hc
  rw [← hX] at C1
  have hXe := empB_no X hXs
  have HR := Lib.hid h
  have I1 := Lib.hid (fun W => indexB_call ⟨#[97, 98, 102, 110, 114, 116, 118]⟩ 102 W)
  have T1 := Lib.hid (fun W h => take_any b s k 1 W h (by omega))
  clear hX h hc
  go_enter Tryz.func110, Tryz.ntmps110
  go_wp2_with fail
  refine (C1.out _ HR.out).mono ?_; rintro e w1 ⟨rfl, r1, k1⟩
  have R1 := Lib.hid r1
  have K1 := Lib.hid k1
  clear r1 k1
  go_wp2_with fail
  refine (C1.out _ R1.out).mono ?_; rintro e w2 ⟨rfl, r2, k2⟩
  have R2 := Lib.hid r2
  have K2 := hid_kp K1 k2
  clear r2 k2
  go_wp2_with fail
  refine (I1.out _).mono ?_; rintro e w2' ⟨rfl, rfl⟩
  rw [show Lib.indexByte (⟨#[97, 98, 102, 110, 114, 116, 118]⟩ : ByteArray).data.toList 102 = 2 from by decide]
  go_wp2_with fail
  refine (T1.out _ R2.out).mono ?_; rintro e w3 ⟨rfl, r3, k3⟩
  have R3 := Lib.hid r3
  have K3 := hid_kp K2 k3
  clear r3 k3
  go_wp2_with fail
  go_ret2
  exact ⟨K3.out.alloc _, _, _, rfl, byte_new _ _ _ rfl, R3.out.alloc _, rfl, by omega⟩
set_option maxHeartbeats 4000000 in
theorem esc_110 (b : Nat) (s : ByteArray) (k : Nat) (w : World) (h : Rd w b s k) (hk : k < s.size) (hc : s[k] = 110) : Calls Tryz.prog 110 #[.pointer (some ⟨b, 0, none⟩)] w (EscPost b s k w (some ([10], sfx s (k + 1)))) := by
  obtain ⟨X, hX⟩ : ∃ X : ByteArray, X = s.extract k s.size := ⟨_, rfl⟩
  have C1 := Lib.hid (fun W h => rest_any b s k W h)
  have hXs : 0 < X.size := by rw [hX, rest_size s k (by omega)]; omega
  have hX0 : X[0] = 110 := by subst hX; rw [rest_head s k hk hXs]; exact hc
  rw [← hX] at C1
  have hXe := empB_no X hXs
  have HR := Lib.hid h
  have I1 := Lib.hid (fun W => indexB_call ⟨#[97, 98, 102, 110, 114, 116, 118]⟩ 110 W)
  have T1 := Lib.hid (fun W h => take_any b s k 1 W h (by omega))
  clear hX h hc
  go_enter Tryz.func110, Tryz.ntmps110
  go_wp2_with fail
  refine (C1.out _ HR.out).mono ?_; rintro e w1 ⟨rfl, r1, k1⟩
  have R1 := Lib.hid r1
  have K1 := Lib.hid k1
  clear r1 k1
  go_wp2_with fail
  refine (C1.out _ R1.out).mono ?_; rintro e w2 ⟨rfl, r2, k2⟩
  have R2 := Lib.hid r2
  have K2 := hid_kp K1 k2
  clear r2 k2
  go_wp2_with fail
  refine (I1.out _).mono ?_; rintro e w2' ⟨rfl, rfl⟩
  rw [show Lib.indexByte (⟨#[97, 98, 102, 110, 114, 116, 118]⟩ : ByteArray).data.toList 110 = 3 from by decide]
  go_wp2_with fail
  refine (T1.out _ R2.out).mono ?_; rintro e w3 ⟨rfl, r3, k3⟩
  have R3 := Lib.hid r3
  have K3 := hid_kp K2 k3
  clear r3 k3
  go_wp2_with fail
  go_ret2
  exact ⟨K3.out.alloc _, _, _, rfl, byte_new _ _ _ rfl, R3.out.alloc _, rfl, by omega⟩
set_option maxHeartbeats 4000000 in
theorem esc_114 (b : Nat) (s : ByteArray) (k : Nat) (w : World) (h : Rd w b s k) (hk : k < s.size) (hc : s[k] = 114) : Calls Tryz.prog 110 #[.pointer (some ⟨b, 0, none⟩)] w (EscPost b s k w (some ([13], sfx s (k + 1)))) := by
  obtain ⟨X, hX⟩ : ∃ X : ByteArray, X = s.extract k s.size := ⟨_, rfl⟩
  have C1 := Lib.hid (fun W h => rest_any b s k W h)
  have hXs : 0 < X.size := by rw [hX, rest_size s k (by omega)]; omega
  have hX0 : X[0] = 114 := by subst hX; rw [rest_head s k hk hXs]; exact hc
  rw [← hX] at C1
  have hXe := empB_no X hXs
  have HR := Lib.hid h
  have I1 := Lib.hid (fun W => indexB_call ⟨#[97, 98, 102, 110, 114, 116, 118]⟩ 114 W)
  have T1 := Lib.hid (fun W h => take_any b s k 1 W h (by omega))
  clear hX h hc
  go_enter Tryz.func110, Tryz.ntmps110
  go_wp2_with fail
  refine (C1.out _ HR.out).mono ?_; rintro e w1 ⟨rfl, r1, k1⟩
  have R1 := Lib.hid r1
  have K1 := Lib.hid k1
  clear r1 k1
  go_wp2_with fail
  refine (C1.out _ R1.out).mono ?_; rintro e w2 ⟨rfl, r2, k2⟩
  have R2 := Lib.hid r2
  have K2 := hid_kp K1 k2
  clear r2 k2
  go_wp2_with fail
  refine (I1.out _).mono ?_; rintro e w2' ⟨rfl, rfl⟩
  rw [show Lib.indexByte (⟨#[97, 98, 102, 110, 114, 116, 118]⟩ : ByteArray).data.toList 114 = 4 from by decide]
  go_wp2_with fail
  refine (T1.out _ R2.out).mono ?_; rintro e w3 ⟨rfl, r3, k3⟩
  have R3 := Lib.hid r3
  have K3 := hid_kp K2 k3
  clear r3 k3
  go_wp2_with fail
  go_ret2
  exact ⟨K3.out.alloc _, _, _, rfl, byte_new _ _ _ rfl, R3.out.alloc _, rfl, by omega⟩
set_option maxHeartbeats 4000000 in
theorem esc_116 (b : Nat) (s : ByteArray) (k : Nat) (w : World) (h : Rd w b s k) (hk : k < s.size) (hc : s[k] = 116) : Calls Tryz.prog 110 #[.pointer (some ⟨b, 0, none⟩)] w (EscPost b s k w (some ([9], sfx s (k + 1)))) := by
  obtain ⟨X, hX⟩ : ∃ X : ByteArray, X = s.extract k s.size := ⟨_, rfl⟩
  have C1 := Lib.hid (fun W h => rest_any b s k W h)
  have hXs : 0 < X.size := by rw [hX, rest_size s k (by omega)]; omega
  have hX0 : X[0] = 116 := by subst hX; rw [rest_head s k hk hXs]; exact hc
  rw [← hX] at C1
  have hXe := empB_no X hXs
  have HR := Lib.hid h
  have I1 := Lib.hid (fun W => indexB_call ⟨#[97, 98, 102, 110, 114, 116, 118]⟩ 116 W)
  have T1 := Lib.hid (fun W h => take_any b s k 1 W h (by omega))
  clear hX h hc
  go_enter Tryz.func110, Tryz.ntmps110
  go_wp2_with fail
  refine (C1.out _ HR.out).mono ?_; rintro e w1 ⟨rfl, r1, k1⟩
  have R1 := Lib.hid r1
  have K1 := Lib.hid k1
  clear r1 k1
  go_wp2_with fail
  refine (C1.out _ R1.out).mono ?_; rintro e w2 ⟨rfl, r2, k2⟩
  have R2 := Lib.hid r2
  have K2 := hid_kp K1 k2
  clear r2 k2
  go_wp2_with fail
  refine (I1.out _).mono ?_; rintro e w2' ⟨rfl, rfl⟩
  rw [show Lib.indexByte (⟨#[97, 98, 102, 110, 114, 116, 118]⟩ : ByteArray).data.toList 116 = 5 from by decide]
  go_wp2_with fail
  refine (T1.out _ R2.out).mono ?_; rintro e w3 ⟨rfl, r3, k3⟩
  have R3 := Lib.hid r3
  have K3 := hid_kp K2 k3
  clear r3 k3
  go_wp2_with fail
  go_ret2
  exact ⟨K3.out.alloc _, _, _, rfl, byte_new _ _ _ rfl, R3.out.alloc _, rfl, by omega⟩
set_option maxHeartbeats 4000000 in
theorem esc_118 (b : Nat) (s : ByteArray) (k : Nat) (w : World) (h : Rd w b s k) (hk : k < s.size) (hc : s[k] = 118) : Calls Tryz.prog 110 #[.pointer (some ⟨b, 0, none⟩)] w (EscPost b s k w (some ([11], sfx s (k + 1)))) := by
  obtain ⟨X, hX⟩ : ∃ X : ByteArray, X = s.extract k s.size := ⟨_, rfl⟩
  have C1 := Lib.hid (fun W h => rest_any b s k W h)
  have hXs : 0 < X.size := by rw [hX, rest_size s k (by omega)]; omega
  have hX0 : X[0] = 118 := by subst hX; rw [rest_head s k hk hXs]; exact hc
  rw [← hX] at C1
  have hXe := empB_no X hXs
  have HR := Lib.hid h
  have I1 := Lib.hid (fun W => indexB_call ⟨#[97, 98, 102, 110, 114, 116, 118]⟩ 118 W)
  have T1 := Lib.hid (fun W h => take_any b s k 1 W h (by omega))
  clear hX h hc
  go_enter Tryz.func110, Tryz.ntmps110
  go_wp2_with fail
  refine (C1.out _ HR.out).mono ?_; rintro e w1 ⟨rfl, r1, k1⟩
  have R1 := Lib.hid r1
  have K1 := Lib.hid k1
  clear r1 k1
  go_wp2_with fail
  refine (C1.out _ R1.out).mono ?_; rintro e w2 ⟨rfl, r2, k2⟩
  have R2 := Lib.hid r2
  have K2 := hid_kp K1 k2
  clear r2 k2
  go_wp2_with fail
  refine (I1.out _).mono ?_; rintro e w2' ⟨rfl, rfl⟩
  rw [show Lib.indexByte (⟨#[97, 98, 102, 110, 114, 116, 118]⟩ : ByteArray).data.toList 118 = 6 from by decide]
  go_wp2_with fail
  refine (T1.out _ R2.out).mono ?_; rintro e w3 ⟨rfl, r3, k3⟩
  have R3 := Lib.hid r3
  have K3 := hid_kp K2 k3
  clear r3 k3
  go_wp2_with fail
  go_ret2
  exact ⟨K3.out.alloc _, _, _, rfl, byte_new _ _ _ rfl, R3.out.alloc _, rfl, by omega⟩
set_option maxHeartbeats 4000000 in
theorem esc_92 (b : Nat) (s : ByteArray) (k : Nat) (w : World) (h : Rd w b s k) (hk : k < s.size) (hc : s[k] = 92) : Calls Tryz.prog 110 #[.pointer (some ⟨b, 0, none⟩)] w (EscPost b s k w (some ([92], sfx s (k + 1)))) := by
  obtain ⟨X, hX⟩ : ∃ X : ByteArray, X = s.extract k s.size := ⟨_, rfl⟩
  have C1 := Lib.hid (fun W h => rest_any b s k W h)
  have hXs : 0 < X.size := by rw [hX, rest_size s k (by omega)]; omega
  have hX0 : X[0] = 92 := by subst hX; rw [rest_head s k hk hXs]; exact hc
  rw [← hX] at C1
  have hXe := empB_no X hXs
  have HR := Lib.hid h
  have T1 := Lib.hid (fun W h => take_any b s k 1 W h (by omega))
  clear hX h hc
  go_enter Tryz.func110, Tryz.ntmps110
  go_wp2_with fail
  refine (C1.out _ HR.out).mono ?_; rintro e w1 ⟨rfl, r1, k1⟩
  have R1 := Lib.hid r1
  have K1 := Lib.hid k1
  clear r1 k1
  go_wp2_with fail
  refine (C1.out _ R1.out).mono ?_; rintro e w2 ⟨rfl, r2, k2⟩
  have R2 := Lib.hid r2
  have K2 := hid_kp K1 k2
  clear r2 k2
  go_wp2_with fail
  refine (T1.out _ R2.out).mono ?_; rintro e w3 ⟨rfl, r3, k3⟩
  have R3 := Lib.hid r3
  have K3 := hid_kp K2 k3
  clear r3 k3
  go_wp2_with fail
  go_ret2
  exact ⟨K3.out.alloc _, _, _, rfl, byte_new _ _ _ rfl, R3.out.alloc _, rfl, by omega⟩
set_option maxHeartbeats 4000000 in
theorem esc_39 (b : Nat) (s : ByteArray) (k : Nat) (w : World) (h : Rd w b s k) (hk : k < s.size) (hc : s[k] = 39) : Calls Tryz.prog 110 #[.pointer (some ⟨b, 0, none⟩)] w (EscPost b s k w (some ([39], sfx s (k + 1)))) := by
  obtain ⟨X, hX⟩ : ∃ X : ByteArray, X = s.extract k s.size := ⟨_, rfl⟩
  have C1 := Lib.hid (fun W h => rest_any b s k W h)
  have hXs : 0 < X.size := by rw [hX, rest_size s k (by omega)]; omega
  have hX0 : X[0] = 39 := by subst hX; rw [rest_head s k hk hXs]; exact hc
  rw [← hX] at C1
  have hXe := empB_no X hXs
  have HR := Lib.hid h
  have T1 := Lib.hid (fun W h => take_any b s k 1 W h (by omega))
  clear hX h hc
  go_enter Tryz.func110, Tryz.ntmps110
  go_wp2_with fail
  refine (C1.out _ HR.out).mono ?_; rintro e w1 ⟨rfl, r1, k1⟩
  have R1 := Lib.hid r1
  have K1 := Lib.hid k1
  clear r1 k1
  go_wp2_with fail
  refine (C1.out _ R1.out).mono ?_; rintro e w2 ⟨rfl, r2, k2⟩
  have R2 := Lib.hid r2
  have K2 := hid_kp K1 k2
  clear r2 k2
  go_wp2_with fail
  refine (T1.out _ R2.out).mono ?_; rintro e w3 ⟨rfl, r3, k3⟩
  have R3 := Lib.hid r3
  have K3 := hid_kp K2 k3
  clear r3 k3
  go_wp2_with fail
  go_ret2
  exact ⟨K3.out.alloc _, _, _, rfl, byte_new _ _ _ rfl, R3.out.alloc _, rfl, by omega⟩
set_option maxHeartbeats 4000000 in
theorem esc_34 (b : Nat) (s : ByteArray) (k : Nat) (w : World) (h : Rd w b s k) (hk : k < s.size) (hc : s[k] = 34) : Calls Tryz.prog 110 #[.pointer (some ⟨b, 0, none⟩)] w (EscPost b s k w (some ([34], sfx s (k + 1)))) := by
  obtain ⟨X, hX⟩ : ∃ X : ByteArray, X = s.extract k s.size := ⟨_, rfl⟩
  have C1 := Lib.hid (fun W h => rest_any b s k W h)
  have hXs : 0 < X.size := by rw [hX, rest_size s k (by omega)]; omega
  have hX0 : X[0] = 34 := by subst hX; rw [rest_head s k hk hXs]; exact hc
  rw [← hX] at C1
  have hXe := empB_no X hXs
  have HR := Lib.hid h
  have T1 := Lib.hid (fun W h => take_any b s k 1 W h (by omega))
  clear hX h hc
  go_enter Tryz.func110, Tryz.ntmps110
  go_wp2_with fail
  refine (C1.out _ HR.out).mono ?_; rintro e w1 ⟨rfl, r1, k1⟩
  have R1 := Lib.hid r1
  have K1 := Lib.hid k1
  clear r1 k1
  go_wp2_with fail
  refine (C1.out _ R1.out).mono ?_; rintro e w2 ⟨rfl, r2, k2⟩
  have R2 := Lib.hid r2
  have K2 := hid_kp K1 k2
  clear r2 k2
  go_wp2_with fail
  refine (T1.out _ R2.out).mono ?_; rintro e w3 ⟨rfl, r3, k3⟩
  have R3 := Lib.hid r3
  have K3 := hid_kp K2 k3
  clear r3 k3
  go_wp2_with fail
  go_ret2
  exact ⟨K3.out.alloc _, _, _, rfl, byte_new _ _ _ rfl, R3.out.alloc _, rfl, by omega⟩
set_option maxHeartbeats 4000000 in
theorem esc_10 (b : Nat) (s : ByteArray) (k : Nat) (w : World) (h : Rd w b s k) (hk : k < s.size) (hc : s[k] = 10) : Calls Tryz.prog 110 #[.pointer (some ⟨b, 0, none⟩)] w (EscPost b s k w (some ([10], sfx s (k + 1)))) := by
  obtain ⟨X, hX⟩ : ∃ X : ByteArray, X = s.extract k s.size := ⟨_, rfl⟩
  have C1 := Lib.hid (fun W h => rest_any b s k W h)
  have hXs : 0 < X.size := by rw [hX, rest_size s k (by omega)]; omega
  have hX0 : X[0] = 10 := by subst hX; rw [rest_head s k hk hXs]; exact hc
  rw [← hX] at C1
  have hXe := empB_no X hXs
  have HR := Lib.hid h
  have T1 := Lib.hid (fun W h => take_any b s k 1 W h (by omega))
  clear hX h hc
  go_enter Tryz.func110, Tryz.ntmps110
  go_wp2_with fail
  refine (C1.out _ HR.out).mono ?_; rintro e w1 ⟨rfl, r1, k1⟩
  have R1 := Lib.hid r1
  have K1 := Lib.hid k1
  clear r1 k1
  go_wp2_with fail
  refine (C1.out _ R1.out).mono ?_; rintro e w2 ⟨rfl, r2, k2⟩
  have R2 := Lib.hid r2
  have K2 := hid_kp K1 k2
  clear r2 k2
  go_wp2_with fail
  refine (T1.out _ R2.out).mono ?_; rintro e w3 ⟨rfl, r3, k3⟩
  have R3 := Lib.hid r3
  have K3 := hid_kp K2 k3
  clear r3 k3
  go_wp2_with fail
  go_ret2
  exact ⟨K3.out.alloc _, _, _, rfl, byte_new _ _ _ rfl, R3.out.alloc _, rfl, by omega⟩
set_option maxHeartbeats 4000000 in
theorem esc_122 (b : Nat) (s : ByteArray) (k : Nat) (w : World) (h : Rd w b s k) (hk : k < s.size) (hc : s[k] = 122) : Calls Tryz.prog 110 #[.pointer (some ⟨b, 0, none⟩)] w (EscPost b s k w (some ([], (sfx s (k + 1)).dropWhile blB))) := by
  obtain ⟨X, hX⟩ : ∃ X : ByteArray, X = s.extract k s.size := ⟨_, rfl⟩
  have C1 := Lib.hid (fun W h => rest_any b s k W h)
  have hXs : 0 < X.size := by rw [hX, rest_size s k (by omega)]; omega
  have hX0 : X[0] = 122 := by subst hX; rw [rest_head s k hk hXs]; exact hc
  rw [← hX] at C1
  have hXe := empB_no X hXs
  have HR := Lib.hid h
  have T1 := Lib.hid (fun W h => take_any b s k 1 W h (by omega))
  obtain ⟨m, hm⟩ : ∃ m : Nat, m = runN blB (sfx s (k + 1)) := ⟨_, rfl⟩
  have C2 := Lib.hid (fun W => run_blank (s.extract (k + 1) s.size) W (by rw [rest_size s _ (by omega)]; have := h.top; omega))
  rw [sfx_rest, ← hm] at C2
  have hml := run_le blB (sfx s (k + 1))
  rw [sfx_len, ← hm] at hml
  have hdw : (sfx s (k + 1)).dropWhile blB = sfx s (k + 1 + m) := by rw [← drop_run, ← hm, sfx_drop]
  have HD := Lib.hid hdw
  clear hX h hc hm hdw
  go_enter Tryz.func110, Tryz.ntmps110
  go_wp2_with fail
  refine (C1.out _ HR.out).mono ?_; rintro e w1 ⟨rfl, r1, k1⟩
  have R1 := Lib.hid r1
  have K1 := Lib.hid k1
  clear r1 k1
  go_wp2_with fail
  refine (C1.out _ R1.out).mono ?_; rintro e w2 ⟨rfl, r2, k2⟩
  have R2 := Lib.hid r2
  have K2 := hid_kp K1 k2
  clear r2 k2
  go_wp2_with fail
  refine (T1.out _ R2.out).mono ?_; rintro e w3 ⟨rfl, r3, k3⟩
  have R3 := Lib.hid r3
  have K3 := hid_kp K2 k3
  clear r3 k3
  go_wp2_with fail
  refine (rest_any _ _ _ _ R3.out).mono ?_; rintro e w4 ⟨rfl, r4, k4⟩
  have R4 := Lib.hid r4
  have K4 := hid_kp K3 k4
  clear r4 k4
  go_wp2_with fail
  refine (C2.out _).mono ?_; rintro e w4' ⟨rfl, rfl⟩
  go_wp2_with fail
  refine (take_any _ _ _ _ _ R4.out (by omega)).mono ?_; rintro e w5 ⟨rfl, r5, k5⟩
  have R5 := Lib.hid r5
  have K5 := hid_kp K4 k5
  clear r5 k5
  go_wp2_with fail
  go_ret2
  exact ⟨K5.out, _, _, rfl, .inl ⟨rfl, rfl⟩, R5.out, HD.out.symm, by omega⟩
set_option maxHeartbeats 4000000 in
theorem esc_120 (b : Nat) (s : ByteArray) (k : Nat) (w : World) (h : Rd w b s k) (hk : k < s.size) (hc : s[k] = 120) : Calls Tryz.prog 110 #[.pointer (some ⟨b, 0, none⟩)] w (EscPost b s k w (code 16 hxB 2 2 (sfx s (k + 1)))) := by
  obtain ⟨X, hX⟩ : ∃ X : ByteArray, X = s.extract k s.size := ⟨_, rfl⟩
  have C1 := Lib.hid (fun W h => rest_any b s k W h)
  have hXs : 0 < X.size := by rw [hX, rest_size s k (by omega)]; omega
  have hX0 : X[0] = 120 := by subst hX; rw [rest_head s k hk hXs]; exact hc
  rw [← hX] at C1
  have hXe := empB_no X hXs
  have HR := Lib.hid h
  have T1 := Lib.hid (fun W h => take_any b s k 1 W h (by omega))
  have C2 := Lib.hid (fun W h => code_hex b s (k + 1) W h)
  obtain ⟨o, ho⟩ : ∃ o, o = code 16 hxB 2 2 (sfx s (k + 1)) := ⟨_, rfl⟩
  rw [← ho] at C2 ⊢
  clear hX h hc ho
  rcases o with _ | ⟨m, r⟩
  · go_enter Tryz.func110, Tryz.ntmps110
    go_wp2_with fail
    refine (C1.out _ HR.out).mono ?_; rintro e w1 ⟨rfl, r1, k1⟩
    have R1 := Lib.hid r1
    have K1 := Lib.hid k1
    clear r1 k1
    go_wp2_with fail
    refine (C1.out _ R1.out).mono ?_; rintro e w2 ⟨rfl, r2, k2⟩
    have R2 := Lib.hid r2
    have K2 := hid_kp K1 k2
    clear r2 k2
    go_wp2_with fail
    refine (T1.out _ R2.out).mono ?_; rintro e w3 ⟨rfl, r3, k3⟩
    have R3 := Lib.hid r3
    have K3 := hid_kp K2 k3
    clear r3 k3
    go_wp2_with fail
    refine (C2.out _ R3.out).mono ?_; intro e w4 hp4
    obtain ⟨k4, rfl⟩ := hp4
    have K4 := hid_kp K3 k4
    clear k4
    go_wp2_with fail
    go_ret2
    exact ⟨K4.out, rfl⟩
  · go_enter Tryz.func110, Tryz.ntmps110
    go_wp2_with fail
    refine (C1.out _ HR.out).mono ?_; rintro e w1 ⟨rfl, r1, k1⟩
    have R1 := Lib.hid r1
    have K1 := Lib.hid k1
    clear r1 k1
    go_wp2_with fail
    refine (C1.out _ R1.out).mono ?_; rintro e w2 ⟨rfl, r2, k2⟩
    have R2 := Lib.hid r2
    have K2 := hid_kp K1 k2
    clear r2 k2
    go_wp2_with fail
    refine (T1.out _ R2.out).mono ?_; rintro e w3 ⟨rfl, r3, k3⟩
    have R3 := Lib.hid r3
    have K3 := hid_kp K2 k3
    clear r3 k3
    go_wp2_with fail
    refine (C2.out _ R3.out).mono ?_; intro e w4 hp4
    obtain ⟨k4, k', v, rfl, hb4, r4, hr4, hl4⟩ := hp4
    have K4 := hid_kp K3 k4
    have R4 := Lib.hid r4
    have HB := Lib.hid hb4
    have HE := Lib.hid hr4
    clear k4 r4 hb4 hr4
    go_wp2_with fail
    go_ret2
    exact ⟨K4.out, _, _, rfl, HB.out, R4.out, HE.out, by omega⟩
set_option maxHeartbeats 4000000 in
theorem esc_48 (b : Nat) (s : ByteArray) (k : Nat) (w : World) (h : Rd w b s k) (hk : k < s.size) (hc : s[k] = 48) : Calls Tryz.prog 110 #[.pointer (some ⟨b, 0, none⟩)] w (EscPost b s k w (code 10 dgB 1 3 (sfx s k))) := by
  obtain ⟨X, hX⟩ : ∃ X : ByteArray, X = s.extract k s.size := ⟨_, rfl⟩
  have C1 := Lib.hid (fun W h => rest_any b s k W h)
  have hXs : 0 < X.size := by rw [hX, rest_size s k (by omega)]; omega
  have hX0 : X[0] = 48 := by subst hX; rw [rest_head s k hk hXs]; exact hc
  rw [← hX] at C1
  have hXe := empB_no X hXs
  have HR := Lib.hid h
  have C2 := Lib.hid (fun W h => code_digit b s k W h)
  obtain ⟨o, ho⟩ : ∃ o, o = code 10 dgB 1 3 (sfx s k) := ⟨_, rfl⟩
  rw [← ho] at C2 ⊢
  clear hX h hc ho
  rcases o with _ | ⟨m, r⟩
  · go_enter Tryz.func110, Tryz.ntmps110
    go_wp2_with fail
    refine (C1.out _ HR.out).mono ?_; rintro e w1 ⟨rfl, r1, k1⟩
    have R1 := Lib.hid r1
    have K1 := Lib.hid k1
    clear r1 k1
    go_wp2_with fail
    refine (C1.out _ R1.out).mono ?_; rintro e w2 ⟨rfl, r2, k2⟩
    have R2 := Lib.hid r2
    have K2 := hid_kp K1 k2
    clear r2 k2
    go_wp2_with fail
    refine (C2.out _ R2.out).mono ?_; intro e w4 hp4
    obtain ⟨k4, rfl⟩ := hp4
    have K4 := hid_kp K2 k4
    clear k4
    go_wp2_with fail
    go_ret2
    exact ⟨K4.out, rfl⟩
  · go_enter Tryz.func110, Tryz.ntmps110
    go_wp2_with fail
    refine (C1.out _ HR.out).mono ?_; rintro e w1 ⟨rfl, r1, k1⟩
    have R1 := Lib.hid r1
    have K1 := Lib.hid k1
    clear r1 k1
    go_wp2_with fail
    refine (C1.out _ R1.out).mono ?_; rintro e w2 ⟨rfl, r2, k2⟩
    have R2 := Lib.hid r2
    have K2 := hid_kp K1 k2
    clear r2 k2
    go_wp2_with fail
    refine (C2.out _ R2.out).mono ?_; intro e w4 hp4
    obtain ⟨k4, k', v, rfl, hb4, r4, hr4, hl4⟩ := hp4
    have K4 := hid_kp K2 k4
    have R4 := Lib.hid r4
    have HB := Lib.hid hb4
    have HE := Lib.hid hr4
    clear k4 r4 hb4 hr4
    go_wp2_with fail
    go_ret2
    exact ⟨K4.out, _, _, rfl, HB.out, R4.out, HE.out, by omega⟩
set_option maxHeartbeats 4000000 in
theorem esc_49 (b : Nat) (s : ByteArray) (k : Nat) (w : World) (h : Rd w b s k) (hk : k < s.size) (hc : s[k] = 49) : Calls Tryz.prog 110 #[.pointer (some ⟨b, 0, none⟩)] w (EscPost b s k w (code 10 dgB 1 3 (sfx s k))) := by
  obtain ⟨X, hX⟩ : ∃ X : ByteArray, X = s.extract k s.size := ⟨_, rfl⟩
  have C1 := Lib.hid (fun W h => rest_any b s k W h)
  have hXs : 0 < X.size := by rw [hX, rest_size s k (by omega)]; omega
  have hX0 : X[0] = 49 := by subst hX; rw [rest_head s k hk hXs]; exact hc
  rw [← hX] at C1
  have hXe := empB_no X hXs
  have HR := Lib.hid h
  have C2 := Lib.hid (fun W h => code_digit b s k W h)
  obtain ⟨o, ho⟩ : ∃ o, o = code 10 dgB 1 3 (sfx s k) := ⟨_, rfl⟩
  rw [← ho] at C2 ⊢
  clear hX h hc ho
  rcases o with _ | ⟨m, r⟩
  · go_enter Tryz.func110, Tryz.ntmps110
    go_wp2_with fail
    refine (C1.out _ HR.out).mono ?_; rintro e w1 ⟨rfl, r1, k1⟩
    have R1 := Lib.hid r1
    have K1 := Lib.hid k1
    clear r1 k1
    go_wp2_with fail
    refine (C1.out _ R1.out).mono ?_; rintro e w2 ⟨rfl, r2, k2⟩
    have R2 := Lib.hid r2
    have K2 := hid_kp K1 k2
    clear r2 k2
    go_wp2_with fail
    refine (C2.out _ R2.out).mono ?_; intro e w4 hp4
    obtain ⟨k4, rfl⟩ := hp4
    have K4 := hid_kp K2 k4
    clear k4
    go_wp2_with fail
    go_ret2
    exact ⟨K4.out, rfl⟩
  · go_enter Tryz.func110, Tryz.ntmps110
    go_wp2_with fail
    refine (C1.out _ HR.out).mono ?_; rintro e w1 ⟨rfl, r1, k1⟩
    have R1 := Lib.hid r1
    have K1 := Lib.hid k1
    clear r1 k1
    go_wp2_with fail
    refine (C1.out _ R1.out).mono ?_; rintro e w2 ⟨rfl, r2, k2⟩
    have R2 := Lib.hid r2
    have K2 := hid_kp K1 k2
    clear r2 k2
    go_wp2_with fail
    refine (C2.out _ R2.out).mono ?_; intro e w4 hp4
    obtain ⟨k4, k', v, rfl, hb4, r4, hr4, hl4⟩ := hp4
    have K4 := hid_kp K2 k4
    have R4 := Lib.hid r4
    have HB := Lib.hid hb4
    have HE := Lib.hid hr4
    clear k4 r4 hb4 hr4
    go_wp2_with fail
    go_ret2
    exact ⟨K4.out, _, _, rfl, HB.out, R4.out, HE.out, by omega⟩
set_option maxHeartbeats 4000000 in
theorem esc_50 (b : Nat) (s : ByteArray) (k : Nat) (w : World) (h : Rd w b s k) (hk : k < s.size) (hc : s[k] = 50) : Calls Tryz.prog 110 #[.pointer (some ⟨b, 0, none⟩)] w (EscPost b s k w (code 10 dgB 1 3 (sfx s k))) := by
  obtain ⟨X, hX⟩ : ∃ X : ByteArray, X = s.extract k s.size := ⟨_, rfl⟩
  have C1 := Lib.hid (fun W h => rest_any b s k W h)
  have hXs : 0 < X.size := by rw [hX, rest_size s k (by omega)]; omega
  have hX0 : X[0] = 50 := by subst hX; rw [rest_head s k hk hXs]; exact hc
  rw [← hX] at C1
  have hXe := empB_no X hXs
  have HR := Lib.hid h
  have C2 := Lib.hid (fun W h => code_digit b s k W h)
  obtain ⟨o, ho⟩ : ∃ o, o = code 10 dgB 1 3 (sfx s k) := ⟨_, rfl⟩
  rw [← ho] at C2 ⊢
  clear hX h hc ho
  rcases o with _ | ⟨m, r⟩
  · go_enter Tryz.func110, Tryz.ntmps110
    go_wp2_with fail
    refine (C1.out _ HR.out).mono ?_; rintro e w1 ⟨rfl, r1, k1⟩
    have R1 := Lib.hid r1
    have K1 := Lib.hid k1
    clear r1 k1
    go_wp2_with fail
    refine (C1.out _ R1.out).mono ?_; rintro e w2 ⟨rfl, r2, k2⟩
    have R2 := Lib.hid r2
    have K2 := hid_kp K1 k2
    clear r2 k2
    go_wp2_with fail
    refine (C2.out _ R2.out).mono ?_; intro e w4 hp4
    obtain ⟨k4, rfl⟩ := hp4
    have K4 := hid_kp K2 k4
    clear k4
    go_wp2_with fail
    go_ret2
    exact ⟨K4.out, rfl⟩
  · go_enter Tryz.func110, Tryz.ntmps110
    go_wp2_with fail
    refine (C1.out _ HR.out).mono ?_; rintro e w1 ⟨rfl, r1, k1⟩
    have R1 := Lib.hid r1
    have K1 := Lib.hid k1
    clear r1 k1
    go_wp2_with fail
    refine (C1.out _ R1.out).mono ?_; rintro e w2 ⟨rfl, r2, k2⟩
    have R2 := Lib.hid r2
    have K2 := hid_kp K1 k2
    clear r2 k2
    go_wp2_with fail
    refine (C2.out _ R2.out).mono ?_; intro e w4 hp4
    obtain ⟨k4, k', v, rfl, hb4, r4, hr4, hl4⟩ := hp4
    have K4 := hid_kp K2 k4
    have R4 := Lib.hid r4
    have HB := Lib.hid hb4
    have HE := Lib.hid hr4
    clear k4 r4 hb4 hr4
    go_wp2_with fail
    go_ret2
    exact ⟨K4.out, _, _, rfl, HB.out, R4.out, HE.out, by omega⟩
set_option maxHeartbeats 4000000 in
theorem esc_51 (b : Nat) (s : ByteArray) (k : Nat) (w : World) (h : Rd w b s k) (hk : k < s.size) (hc : s[k] = 51) : Calls Tryz.prog 110 #[.pointer (some ⟨b, 0, none⟩)] w (EscPost b s k w (code 10 dgB 1 3 (sfx s k))) := by
  obtain ⟨X, hX⟩ : ∃ X : ByteArray, X = s.extract k s.size := ⟨_, rfl⟩
  have C1 := Lib.hid (fun W h => rest_any b s k W h)
  have hXs : 0 < X.size := by rw [hX, rest_size s k (by omega)]; omega
  have hX0 : X[0] = 51 := by subst hX; rw [rest_head s k hk hXs]; exact hc
  rw [← hX] at C1
  have hXe := empB_no X hXs
  have HR := Lib.hid h
  have C2 := Lib.hid (fun W h => code_digit b s k W h)
  obtain ⟨o, ho⟩ : ∃ o, o = code 10 dgB 1 3 (sfx s k) := ⟨_, rfl⟩
  rw [← ho] at C2 ⊢
  clear hX h hc ho
  rcases o with _ | ⟨m, r⟩
  · go_enter Tryz.func110, Tryz.ntmps110
    go_wp2_with fail
    refine (C1.out _ HR.out).mono ?_; rintro e w1 ⟨rfl, r1, k1⟩
    have R1 := Lib.hid r1
    have K1 := Lib.hid k1
    clear r1 k1
    go_wp2_with fail
    refine (C1.out _ R1.out).mono ?_; rintro e w2 ⟨rfl, r2, k2⟩
    have R2 := Lib.hid r2
    have K2 := hid_kp K1 k2
    clear r2 k2
    go_wp2_with fail
    refine (C2.out _ R2.out).mono ?_; intro e w4 hp4
    obtain ⟨k4, rfl⟩ := hp4
    have K4 := hid_kp K2 k4
    clear k4
    go_wp2_with fail
    go_ret2
    exact ⟨K4.out, rfl⟩
  · go_enter Tryz.func110, Tryz.ntmps110
    go_wp2_with fail
    refine (C1.out _ HR.out).mono ?_; rintro e w1 ⟨rfl, r1, k1⟩
    have R1 := Lib.hid r1
    have K1 := Lib.hid k1
    clear r1 k1
    go_wp2_with fail
    refine (C1.out _ R1.out).mono ?_; rintro e w2 ⟨rfl, r2, k2⟩
    have R2 := Lib.hid r2
    have K2 := hid_kp K1 k2
    clear r2 k2
    go_wp2_with fail
    refine (C2.out _ R2.out).mono ?_; intro e w4 hp4
    obtain ⟨k4, k', v, rfl, hb4, r4, hr4, hl4⟩ := hp4
    have K4 := hid_kp K2 k4
    have R4 := Lib.hid r4
    have HB := Lib.hid hb4
    have HE := Lib.hid hr4
    clear k4 r4 hb4 hr4
    go_wp2_with fail
    go_ret2
    exact ⟨K4.out, _, _, rfl, HB.out, R4.out, HE.out, by omega⟩
set_option maxHeartbeats 4000000 in
theorem esc_52 (b : Nat) (s : ByteArray) (k : Nat) (w : World) (h : Rd w b s k) (hk : k < s.size) (hc : s[k] = 52) : Calls Tryz.prog 110 #[.pointer (some ⟨b, 0, none⟩)] w (EscPost b s k w (code 10 dgB 1 3 (sfx s k))) := by
  obtain ⟨X, hX⟩ : ∃ X : ByteArray, X = s.extract k s.size := ⟨_, rfl⟩
  have C1 := Lib.hid (fun W h => rest_any b s k W h)
  have hXs : 0 < X.size := by rw [hX, rest_size s k (by omega)]; omega
  have hX0 : X[0] = 52 := by subst hX; rw [rest_head s k hk hXs]; exact hc
  rw [← hX] at C1
  have hXe := empB_no X hXs
  have HR := Lib.hid h
  have C2 := Lib.hid (fun W h => code_digit b s k W h)
  obtain ⟨o, ho⟩ : ∃ o, o = code 10 dgB 1 3 (sfx s k) := ⟨_, rfl⟩
  rw [← ho] at C2 ⊢
  clear hX h hc ho
  rcases o with _ | ⟨m, r⟩
  · go_enter Tryz.func110, Tryz.ntmps110
    go_wp2_with fail
    refine (C1.out _ HR.out).mono ?_; rintro e w1 ⟨rfl, r1, k1⟩
    have R1 := Lib.hid r1
    have K1 := Lib.hid k1
    clear r1 k1
    go_wp2_with fail
    refine (C1.out _ R1.out).mono ?_; rintro e w2 ⟨rfl, r2, k2⟩
    have R2 := Lib.hid r2
    have K2 := hid_kp K1 k2
    clear r2 k2
    go_wp2_with fail
    refine (C2.out _ R2.out).mono ?_; intro e w4 hp4
    obtain ⟨k4, rfl⟩ := hp4
    have K4 := hid_kp K2 k4
    clear k4
    go_wp2_with fail
    go_ret2
    exact ⟨K4.out, rfl⟩
  · go_enter Tryz.func110, Tryz.ntmps110
    go_wp2_with fail
    refine (C1.out _ HR.out).mono ?_; rintro e w1 ⟨rfl, r1, k1⟩
    have R1 := Lib.hid r1
    have K1 := Lib.hid k1
    clear r1 k1
    go_wp2_with fail
    refine (C1.out _ R1.out).mono ?_; rintro e w2 ⟨rfl, r2, k2⟩
    have R2 := Lib.hid r2
    have K2 := hid_kp K1 k2
    clear r2 k2
    go_wp2_with fail
    refine (C2.out _ R2.out).mono ?_; intro e w4 hp4
    obtain ⟨k4, k', v, rfl, hb4, r4, hr4, hl4⟩ := hp4
    have K4 := hid_kp K2 k4
    have R4 := Lib.hid r4
    have HB := Lib.hid hb4
    have HE := Lib.hid hr4
    clear k4 r4 hb4 hr4
    go_wp2_with fail
    go_ret2
    exact ⟨K4.out, _, _, rfl, HB.out, R4.out, HE.out, by omega⟩
set_option maxHeartbeats 4000000 in
theorem esc_53 (b : Nat) (s : ByteArray) (k : Nat) (w : World) (h : Rd w b s k) (hk : k < s.size) (hc : s[k] = 53) : Calls Tryz.prog 110 #[.pointer (some ⟨b, 0, none⟩)] w (EscPost b s k w (code 10 dgB 1 3 (sfx s k))) := by
  obtain ⟨X, hX⟩ : ∃ X : ByteArray, X = s.extract k s.size := ⟨_, rfl⟩
  have C1 := Lib.hid (fun W h => rest_any b s k W h)
  have hXs : 0 < X.size := by rw [hX, rest_size s k (by omega)]; omega
  have hX0 : X[0] = 53 := by subst hX; rw [rest_head s k hk hXs]; exact hc
  rw [← hX] at C1
  have hXe := empB_no X hXs
  have HR := Lib.hid h
  have C2 := Lib.hid (fun W h => code_digit b s k W h)
  obtain ⟨o, ho⟩ : ∃ o, o = code 10 dgB 1 3 (sfx s k) := ⟨_, rfl⟩
  rw [← ho] at C2 ⊢
  clear hX h hc ho
  rcases o with _ | ⟨m, r⟩
  · go_enter Tryz.func110, Tryz.ntmps110
    go_wp2_with fail
    refine (C1.out _ HR.out).mono ?_; rintro e w1 ⟨rfl, r1, k1⟩
    have R1 := Lib.hid r1
    have K1 := Lib.hid k1
    clear r1 k1
    go_wp2_with fail
    refine (C1.out _ R1.out).mono ?_; rintro e w2 ⟨rfl, r2, k2⟩
    have R2 := Lib.hid r2
    have K2 := hid_kp K1 k2
    clear r2 k2
    go_wp2_with fail
    refine (C2.out _ R2.out).mono ?_; intro e w4 hp4
    obtain ⟨k4, rfl⟩ := hp4
    have K4 := hid_kp K2 k4
    clear k4
    go_wp2_with fail
    go_ret2
    exact ⟨K4.out, rfl⟩
  · go_enter Tryz.func110, Tryz.ntmps110
    go_wp2_with fail
    refine (C1.out _ HR.out).mono ?_; rintro e w1 ⟨rfl, r1, k1⟩
    have R1 := Lib.hid r1
    have K1 := Lib.hid k1
    clear r1 k1
    go_wp2_with fail
    refine (C1.out _ R1.out).mono ?_; rintro e w2 ⟨rfl, r2, k2⟩
    have R2 := Lib.hid r2
    have K2 := hid_kp K1 k2
    clear r2 k2
    go_wp2_with fail
    refine (C2.out _ R2.out).mono ?_; intro e w4 hp4
    obtain ⟨k4, k', v, rfl, hb4, r4, hr4, hl4⟩ := hp4
    have K4 := hid_kp K2 k4
    have R4 := Lib.hid r4
    have HB := Lib.hid hb4
    have HE := Lib.hid hr4
    clear k4 r4 hb4 hr4
    go_wp2_with fail
    go_ret2
    exact ⟨K4.out, _, _, rfl, HB.out, R4.out, HE.out, by omega⟩
set_option maxHeartbeats 4000000 in
theorem esc_54 (b : Nat) (s : ByteArray) (k : Nat) (w : World) (h : Rd w b s k) (hk : k < s.size) (hc : s[k] = 54) : Calls Tryz.prog 110 #[.pointer (some ⟨b, 0, none⟩)] w (EscPost b s k w (code 10 dgB 1 3 (sfx s k))) := by
  obtain ⟨X, hX⟩ : ∃ X : ByteArray, X = s.extract k s.size := ⟨_, rfl⟩
  have C1 := Lib.hid (fun W h => rest_any b s k W h)
  have hXs : 0 < X.size := by rw [hX, rest_size s k (by omega)]; omega
  have hX0 : X[0] = 54 := by subst hX; rw [rest_head s k hk hXs]; exact hc
  rw [← hX] at C1
  have hXe := empB_no X hXs
  have HR := Lib.hid h
  have C2 := Lib.hid (fun W h => code_digit b s k W h)
  obtain ⟨o, ho⟩ : ∃ o, o = code 10 dgB 1 3 (sfx s k) := ⟨_, rfl⟩
  rw [← ho] at C2 ⊢
  clear hX h hc ho
  rcases o with _ | ⟨m, r⟩
  · go_enter Tryz.func110, Tryz.ntmps110
    go_wp2_with fail
    refine (C1.out _ HR.out).mono ?_; rintro e w1 ⟨rfl, r1, k1⟩
    have R1 := Lib.hid r1
    have K1 := Lib.hid k1
    clear r1 k1
    go_wp2_with fail
    refine (C1.out _ R1.out).mono ?_; rintro e w2 ⟨rfl, r2, k2⟩
    have R2 := Lib.hid r2
    have K2 := hid_kp K1 k2
    clear r2 k2
    go_wp2_with fail
    refine (C2.out _ R2.out).mono ?_; intro e w4 hp4
    obtain ⟨k4, rfl⟩ := hp4
    have K4 := hid_kp K2 k4
    clear k4
    go_wp2_with fail
    go_ret2
    exact ⟨K4.out, rfl⟩
  · go_enter Tryz.func110, Tryz.ntmps110
    go_wp2_with fail
    refine (C1.out _ HR.out).mono ?_; rintro e w1 ⟨rfl, r1, k1⟩
    have R1 := Lib.hid r1
    have K1 := Lib.hid k1
    clear r1 k1
    go_wp2_with fail
    refine (C1.out _ R1.out).mono ?_; rintro e w2 ⟨rfl, r2, k2⟩
    have R2 := Lib.hid r2
    have K2 := hid_kp K1 k2
    clear r2 k2
    go_wp2_with fail
    refine (C2.out _ R2.out).mono ?_; intro e w4 hp4
    obtain ⟨k4, k', v, rfl, hb4, r4, hr4, hl4⟩ := hp4
    have K4 := hid_kp K2 k4
    have R4 := Lib.hid r4
    have HB := Lib.hid hb4
    have HE := Lib.hid hr4
    clear k4 r4 hb4 hr4
    go_wp2_with fail
    go_ret2
    exact ⟨K4.out, _, _, rfl, HB.out, R4.out, HE.out, by omega⟩
set_option maxHeartbeats 4000000 in
theorem esc_55 (b : Nat) (s : ByteArray) (k : Nat) (w : World) (h : Rd w b s k) (hk : k < s.size) (hc : s[k] = 55) : Calls Tryz.prog 110 #[.pointer (some ⟨b, 0, none⟩)] w (EscPost b s k w (code 10 dgB 1 3 (sfx s k))) := by
  obtain ⟨X, hX⟩ : ∃ X : ByteArray, X = s.extract k s.size := ⟨_, rfl⟩
  have C1 := Lib.hid (fun W h => rest_any b s k W h)
  have hXs : 0 < X.size := by rw [hX, rest_size s k (by omega)]; omega
  have hX0 : X[0] = 55 := by subst hX; rw [rest_head s k hk hXs]; exact hc
  rw [← hX] at C1
  have hXe := empB_no X hXs
  have HR := Lib.hid h
  have C2 := Lib.hid (fun W h => code_digit b s k W h)
  obtain ⟨o, ho⟩ : ∃ o, o = code 10 dgB 1 3 (sfx s k) := ⟨_, rfl⟩
  rw [← ho] at C2 ⊢
  clear hX h hc ho
  rcases o with _ | ⟨m, r⟩
  · go_enter Tryz.func110, Tryz.ntmps110
    go_wp2_with fail
    refine (C1.out _ HR.out).mono ?_; rintro e w1 ⟨rfl, r1, k1⟩
    have R1 := Lib.hid r1
    have K1 := Lib.hid k1
    clear r1 k1
    go_wp2_with fail
    refine (C1.out _ R1.out).mono ?_; rintro e w2 ⟨rfl, r2, k2⟩
    have R2 := Lib.hid r2
    have K2 := hid_kp K1 k2
    clear r2 k2
    go_wp2_with fail
    refine (C2.out _ R2.out).mono ?_; intro e w4 hp4
    obtain ⟨k4, rfl⟩ := hp4
    have K4 := hid_kp K2 k4
    clear k4
    go_wp2_with fail
    go_ret2
    exact ⟨K4.out, rfl⟩
  · go_enter Tryz.func110, Tryz.ntmps110
    go_wp2_with fail
    refine (C1.out _ HR.out).mono ?_; rintro e w1 ⟨rfl, r1, k1⟩
    have R1 := Lib.hid r1
    have K1 := Lib.hid k1
    clear r1 k1
    go_wp2_with fail
    refine (C1.out _ R1.out).mono ?_; rintro e w2 ⟨rfl, r2, k2⟩
    have R2 := Lib.hid r2
    have K2 := hid_kp K1 k2
    clear r2 k2
    go_wp2_with fail
    refine (C2.out _ R2.out).mono ?_; intro e w4 hp4
    obtain ⟨k4, k', v, rfl, hb4, r4, hr4, hl4⟩ := hp4
    have K4 := hid_kp K2 k4
    have R4 := Lib.hid r4
    have HB := Lib.hid hb4
    have HE := Lib.hid hr4
    clear k4 r4 hb4 hr4
    go_wp2_with fail
    go_ret2
    exact ⟨K4.out, _, _, rfl, HB.out, R4.out, HE.out, by omega⟩
set_option maxHeartbeats 4000000 in
theorem esc_56 (b : Nat) (s : ByteArray) (k : Nat) (w : World) (h : Rd w b s k) (hk : k < s.size) (hc : s[k] = 56) : Calls Tryz.prog 110 #[.pointer (some ⟨b, 0, none⟩)] w (EscPost b s k w (code 10 dgB 1 3 (sfx s k))) := by
  obtain ⟨X, hX⟩ : ∃ X : ByteArray, X = s.extract k s.size := ⟨_, rfl⟩
  have C1 := Lib.hid (fun W h => rest_any b s k W h)
  have hXs : 0 < X.size := by rw [hX, rest_size s k (by omega)]; omega
  have hX0 : X[0] = 56 := by subst hX; rw [rest_head s k hk hXs]; exact hc
  rw [← hX] at C1
  have hXe := empB_no X hXs
  have HR := Lib.hid h
  have C2 := Lib.hid (fun W h => code_digit b s k W h)
  obtain ⟨o, ho⟩ : ∃ o, o = code 10 dgB 1 3 (sfx s k) := ⟨_, rfl⟩
  rw [← ho] at C2 ⊢
  clear hX h hc ho
  rcases o with _ | ⟨m, r⟩
  · go_enter Tryz.func110, Tryz.ntmps110
    go_wp2_with fail
    refine (C1.out _ HR.out).mono ?_; rintro e w1 ⟨rfl, r1, k1⟩
    have R1 := Lib.hid r1
    have K1 := Lib.hid k1
    clear r1 k1
    go_wp2_with fail
    refine (C1.out _ R1.out).mono ?_; rintro e w2 ⟨rfl, r2, k2⟩
    have R2 := Lib.hid r2
    have K2 := hid_kp K1 k2
    clear r2 k2
    go_wp2_with fail
    refine (C2.out _ R2.out).mono ?_; intro e w4 hp4
    obtain ⟨k4, rfl⟩ := hp4
    have K4 := hid_kp K2 k4
    clear k4
    go_wp2_with fail
    go_ret2
    exact ⟨K4.out, rfl⟩
  · go_enter Tryz.func110, Tryz.ntmps110
    go_wp2_with fail
    refine (C1.out _ HR.out).mono ?_; rintro e w1 ⟨rfl, r1, k1⟩
    have R1 := Lib.hid r1
    have K1 := Lib.hid k1
    clear r1 k1
    go_wp2_with fail
    refine (C1.out _ R1.out).mono ?_; rintro e w2 ⟨rfl, r2, k2⟩
    have R2 := Lib.hid r2
    have K2 := hid_kp K1 k2
    clear r2 k2
    go_wp2_with fail
    refine (C2.out _ R2.out).mono ?_; intro e w4 hp4
    obtain ⟨k4, k', v, rfl, hb4, r4, hr4, hl4⟩ := hp4
    have K4 := hid_kp K2 k4
    have R4 := Lib.hid r4
    have HB := Lib.hid hb4
    have HE := Lib.hid hr4
    clear k4 r4 hb4 hr4
    go_wp2_with fail
    go_ret2
    exact ⟨K4.out, _, _, rfl, HB.out, R4.out, HE.out, by omega⟩
set_option maxHeartbeats 4000000 in
theorem esc_57 (b : Nat) (s : ByteArray) (k : Nat) (w : World) (h : Rd w b s k) (hk : k < s.size) (hc : s[k] = 57) : Calls Tryz.prog 110 #[.pointer (some ⟨b, 0, none⟩)] w (EscPost b s k w (code 10 dgB 1 3 (sfx s k))) := by
  obtain ⟨X, hX⟩ : ∃ X : ByteArray, X = s.extract k s.size := ⟨_, rfl⟩
  have C1 := Lib.hid (fun W h => rest_any b s k W h)
  have hXs : 0 < X.size := by rw [hX, rest_size s k (by omega)]; omega
  have hX0 : X[0] = 57 := by subst hX; rw [rest_head s k hk hXs]; exact hc
  rw [← hX] at C1
  have hXe := empB_no X hXs
  have HR := Lib.hid h
  have C2 := Lib.hid (fun W h => code_digit b s k W h)
  obtain ⟨o, ho⟩ : ∃ o, o = code 10 dgB 1 3 (sfx s k) := ⟨_, rfl⟩
  rw [← ho] at C2 ⊢
  clear hX h hc ho
  rcases o with _ | ⟨m, r⟩
  · go_enter Tryz.func110, Tryz.ntmps110
    go_wp2_with fail
    refine (C1.out _ HR.out).mono ?_; rintro e w1 ⟨rfl, r1, k1⟩
    have R1 := Lib.hid r1
    have K1 := Lib.hid k1
    clear r1 k1
    go_wp2_with fail
    refine (C1.out _ R1.out).mono ?_; rintro e w2 ⟨rfl, r2, k2⟩
    have R2 := Lib.hid r2
    have K2 := hid_kp K1 k2
    clear r2 k2
    go_wp2_with fail
    refine (C2.out _ R2.out).mono ?_; intro e w4 hp4
    obtain ⟨k4, rfl⟩ := hp4
    have K4 := hid_kp K2 k4
    clear k4
    go_wp2_with fail
    go_ret2
    exact ⟨K4.out, rfl⟩
  · go_enter Tryz.func110, Tryz.ntmps110
    go_wp2_with fail
    refine (C1.out _ HR.out).mono ?_; rintro e w1 ⟨rfl, r1, k1⟩
    have R1 := Lib.hid r1
    have K1 := Lib.hid k1
    clear r1 k1
    go_wp2_with fail
    refine (C1.out _ R1.out).mono ?_; rintro e w2 ⟨rfl, r2, k2⟩
    have R2 := Lib.hid r2
    have K2 := hid_kp K1 k2
    clear r2 k2
    go_wp2_with fail
    refine (C2.out _ R2.out).mono ?_; intro e w4 hp4
    obtain ⟨k4, k', v, rfl, hb4, r4, hr4, hl4⟩ := hp4
    have K4 := hid_kp K2 k4
    have R4 := Lib.hid r4
    have HB := Lib.hid hb4
    have HE := Lib.hid hr4
    clear k4 r4 hb4 hr4
    go_wp2_with fail
    go_ret2
    exact ⟨K4.out, _, _, rfl, HB.out, R4.out, HE.out, by omega⟩
set_option maxHeartbeats 4000000 in
theorem esc_other (b : Nat) (s : ByteArray) (k : Nat) (w : World) (h : Rd w b s k) (hk : k < s.size) (c : UInt8) (hc : s[k] = c) (hn : ∀ v ∈ [97, 98, 102, 110, 114, 116, 118, 92, 39, 34, 10, 122, 120, 48, 49, 50, 51, 52, 53, 54, 55, 56, 57], c.toNat ≠ v) : Calls Tryz.prog 110 #[.pointer (some ⟨b, 0, none⟩)] w (EscPost b s k w (none)) := by
  obtain ⟨X, hX⟩ : ∃ X : ByteArray, X = s.extract k s.size := ⟨_, rfl⟩
  have C1 := Lib.hid (fun W h => rest_any b s k W h)
  have hXs : 0 < X.size := by rw [hX, rest_size s k (by omega)]; omega
  have hX0 : X[0] = c := by subst hX; rw [rest_head s k hk hXs]; exact hc
  rw [← hX] at C1
  have hXe := empB_no X hXs
  have HR := Lib.hid h
  have g97 : ((c.toNat : Int) == 97) = false := beq_eq_false_iff_ne.2 (by have := hn 97 (by decide); omega)
  have g98 : ((c.toNat : Int) == 98) = false := beq_eq_false_iff_ne.2 (by have := hn 98 (by decide); omega)
  have g102 : ((c.toNat : Int) == 102) = false := beq_eq_false_iff_ne.2 (by have := hn 102 (by decide); omega)
  have g110 : ((c.toNat : Int) == 110) = false := beq_eq_false_iff_ne.2 (by have := hn 110 (by decide); omega)
  have g114 : ((c.toNat : Int) == 114) = false := beq_eq_false_iff_ne.2 (by have := hn 114 (by decide); omega)
  have g116 : ((c.toNat : Int) == 116) = false := beq_eq_false_iff_ne.2 (by have := hn 116 (by decide); omega)
  have g118 : ((c.toNat : Int) == 118) = false := beq_eq_false_iff_ne.2 (by have := hn 118 (by decide); omega)
  have g92 : ((c.toNat : Int) == 92) = false := beq_eq_false_iff_ne.2 (by have := hn 92 (by decide); omega)
  have g39 : ((c.toNat : Int) == 39) = false := beq_eq_false_iff_ne.2 (by have := hn 39 (by decide); omega)
  have g34 : ((c.toNat : Int) == 34) = false := beq_eq_false_iff_ne.2 (by have := hn 34 (by decide); omega)
  have g10 : ((c.toNat : Int) == 10) = false := beq_eq_false_iff_ne.2 (by have := hn 10 (by decide); omega)
  have g122 : ((c.toNat : Int) == 122) = false := beq_eq_false_iff_ne.2 (by have := hn 122 (by decide); omega)
  have g120 : ((c.toNat : Int) == 120) = false := beq_eq_false_iff_ne.2 (by have := hn 120 (by decide); omega)
  have g48 : ((c.toNat : Int) == 48) = false := beq_eq_false_iff_ne.2 (by have := hn 48 (by decide); omega)
  have g49 : ((c.toNat : Int) == 49) = false := beq_eq_false_iff_ne.2 (by have := hn 49 (by decide); omega)
  have g50 : ((c.toNat : Int) == 50) = false := beq_eq_false_iff_ne.2 (by have := hn 50 (by decide); omega)
  have g51 : ((c.toNat : Int) == 51) = false := beq_eq_false_iff_ne.2 (by have := hn 51 (by decide); omega)
  have g52 : ((c.toNat : Int) == 52) = false := beq_eq_false_iff_ne.2 (by have := hn 52 (by decide); omega)
  have g53 : ((c.toNat : Int) == 53) = false := beq_eq_false_iff_ne.2 (by have := hn 53 (by decide); omega)
  have g54 : ((c.toNat : Int) == 54) = false := beq_eq_false_iff_ne.2 (by have := hn 54 (by decide); omega)
  have g55 : ((c.toNat : Int) == 55) = false := beq_eq_false_iff_ne.2 (by have := hn 55 (by decide); omega)
  have g56 : ((c.toNat : Int) == 56) = false := beq_eq_false_iff_ne.2 (by have := hn 56 (by decide); omega)
  have g57 : ((c.toNat : Int) == 57) = false := beq_eq_false_iff_ne.2 (by have := hn 57 (by decide); omega)
  clear hX h hc hn
  go_enter Tryz.func110, Tryz.ntmps110
  go_wp2_with fail
  refine (C1.out _ HR.out).mono ?_; rintro e w1 ⟨rfl, r1, k1⟩
  have R1 := Lib.hid r1
  have K1 := Lib.hid k1
  clear r1 k1
  go_wp2_with fail
  refine (C1.out _ R1.out).mono ?_; rintro e w2 ⟨rfl, r2, k2⟩
  have R2 := Lib.hid r2
  have K2 := hid_kp K1 k2
  clear r2 k2
  go_wp2_with fail
  go_ret2
  exact ⟨K2.out, rfl⟩
end Go.Proofs.YtfpeecjafccfjaaGreatDoor
