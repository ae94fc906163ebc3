/- tree.begins, some, all, just, kidsOf: what a node's Kids must be, as closures. -/
import Derived.Test.YtjlpklhibdkmeaaGreatDoorKM
namespace Go.Proofs.YtjlpklhibdkmeaaGreatDoor
open Go.RowKit

theorem ret_bool {a b : Bool} (h : a = b) : Ending.returned (.bool a) = .returned (.bool b) := by rw [h]
theorem ret_i64 {a b : Int} (h : a = b) : Ending.returned (.int .i64 a) = .returned (.int .i64 b) := by rw [h]
set_option maxHeartbeats 2000000 in
theorem sorts_any (k : Int) (w : World) : Calls Tryz.prog 23 #[.int .i64 k] w fun e w' => e = .returned (.int .i64 (soK k)) ∧ w = w' := by
  go_enter Tryz.func23, Tryz.ntmps23
  go_wp2_with fail
  all_goals
    go_ret
    refine ⟨ret_i64 ?_, rfl⟩
    simp only [soK]
    simp_all
    try omega
theorem begB_take {ks row : List Int} {i : Nat} {k r : Int} (hk : ks[i]? = some k) (hr : row[i]? = some r) : begB (ks.drop i) (row.drop i) = (hitB k r && begB (ks.drop (i + 1)) (row.drop (i + 1))) := by
  rw [drop_cons' hk, drop_cons' hr, begB]
set_option maxHeartbeats 2000000 in
theorem begins_any (kv rv : Value) (ks row : List Int) (w : World) (hk : Nums w kv ks) (hr : Nums w rv row) (hl : ks.length ≤ 1000000) : Calls Tryz.prog 42 #[kv, rv] w fun e w' => e = .returned (.bool (begB ks row)) ∧ w = w' := by
  obtain ⟨KA, kc, rfl, hkc, hka⟩ := hk
  obtain ⟨RA, rc, rfl, hrc, hra⟩ := hr
  by_cases hlt : ks.length < row.length
  · have hb := begB_short hlt
    rw [hb]
    have g : decide ((ks.length : Int) < (row.length : Int)) = true := decide_eq_true (by omega)
    clear hka hra hb
    go_enter Tryz.func42, Tryz.ntmps42
    go_wp2_with fail
    go_ret
    exact ⟨rfl, rfl⟩
  · have g : decide ((ks.length : Int) < (row.length : Int)) = false := decide_eq_false (by omega)
    have HK := Lib.hid hka
    have HR := Lib.hid hra
    clear hka hra
    go_enter Tryz.func42, Tryz.ntmps42
    go_wp2_with fail
    go_loop [14] (fun i => ∃ n : Nat, n ≤ row.length ∧ i = .int .i64 (n : Int) ∧ begB (ks.drop n) (row.drop n) = begB ks row) (fun i => row.length - (intOf i).toNat)
    case atStart => exact ⟨0, Nat.zero_le _, rfl, rfl⟩
    case round =>
      obtain ⟨n, hn, rfl, hb⟩ := hrel
      have HB := Lib.hid hb
      clear hb
      by_cases hnl : n < row.length
      · have hx := List.getElem?_eq_getElem hnl
        have hy := List.getElem?_eq_getElem (show n < ks.length by omega)
        obtain ⟨x, hxe⟩ : ∃ x, x = row[n] := ⟨_, rfl⟩
        obtain ⟨y, hye⟩ : ∃ y, y = ks[n]'(by omega) := ⟨_, rfl⟩
        rw [← hxe] at hx
        rw [← hye] at hy
        clear hxe hye
        rcases HK.out with h0 | ⟨b1, o1, rfl, _, hc1⟩
        · rw [h0] at hy; simp at hy
        rcases HR.out with h0 | ⟨b2, o2, rfl, _, hc2⟩
        · rw [h0] at hx; simp at hx
        have c1 := hc1 n _ hy
        have c2 := hc2 n _ hx
        have hstep := begB_take hy hx
        have HS := Lib.hid hstep
        clear hc1 hc2 hstep hx hy HK HR
        by_cases hh : bits .and .i64 y x = 0
        · go_wp2_with fail
          go_ret
          exact ⟨ret_bool (by rw [← HB.out, HS.out]; simp [hitB, hh]), rfl⟩
        · have hhb : (bits .and .i64 y x == 0) = false := beq_eq_false_iff_ne.2 hh
          go_wp2_with fail
          go_round
          case rel => exact ⟨n + 1, by omega, by go_num, by rw [← HB.out, HS.out]; simp [hitB, hh]⟩
          case measure => simp [intOf]; omega
      · have he : begB (ks.drop n) (row.drop n) = true := by
          rw [List.drop_of_length_le (show row.length ≤ n by omega)]
          cases ks.drop n <;> rfl
        have HE := Lib.hid he
        clear he
        go_wp2_with fail
        go_ret
        exact ⟨ret_bool (by rw [← HB.out, HE.out]), rfl⟩
end Go.Proofs.YtjlpklhibdkmeaaGreatDoor
