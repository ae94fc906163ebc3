/- (*reader).quoted: a text in quotes. -/
import Derived.Test.YtbeckfamnhfaeaaGreatDoorBf
namespace Go.Proofs.YtbeckfamnhfaeaaGreatDoor
open Go.RowKit

/-- What quoted answers. -/
def QuoPost (q : UInt8) (b : Nat) (s : ByteArray) (k : Nat) (w : World) (e : Ending) (w' : World) : Prop := ∃ o, Quo q (sfx s (k + 1)) o ∧ TextPost b s k w o e w'
theorem map_nil (o : Option (List UInt8 × List UInt8)) : o.map (fun x => ([] ++ x.1, x.2)) = o := by cases o <;> rfl
theorem map_app (o : Option (List UInt8 × List UInt8)) (out m : List UInt8) : (o.map fun x => (m ++ x.1, x.2)).map (fun x => (out ++ x.1, x.2)) = o.map fun x => ((out ++ m) ++ x.1, x.2) := by
  cases o <;> simp
theorem one_head (s : ByteArray) (k : Nat) (h : k < s.size) (X : ByteArray) (hX : X = s.extract k (k + 1)) (h' : 0 < X.size) : X[0] = s[k] := by
  subst hX
  rw [ByteArray.getElem_extract]
  simp
theorem one_size (s : ByteArray) (k : Nat) (h : k < s.size) : (s.extract k (k + 1)).size = 1 := by rw [ByteArray.size_extract]; omega
theorem take_one (b : Nat) (s : ByteArray) (k : Nat) (hk : k < s.size) : ∃ X : ByteArray, ∃ hX : 0 < X.size, X[0] = s[k] ∧ ∀ W, Rd W b s k → Calls Tryz.prog 20 #[.pointer (some ⟨b, 0, none⟩), .int .i64 1] W fun e w' => e = .returned (.string X) ∧ Rd w' b s (k + 1) ∧ Kp b W w' := by
  have hs := one_size s k hk
  exact ⟨s.extract k (k + 1), by omega, one_head s k hk _ rfl (by omega), fun W h => take_any b s k 1 W h (by omega)⟩

theorem BBuf.form {W : World} {B : Nat} {v : Value} {l : List UInt8} (h : BBuf W B v l) : ∃ A c, v = .slice A l.length c := by
  rcases h.2 with ⟨rfl, h0⟩ | ⟨g, cap, _, rfl, _⟩
  · exact ⟨none, 0, by rw [h0]⟩
  · exact ⟨_, _, rfl⟩
set_option maxHeartbeats 4000000 in
theorem quoted_any (b : Nat) (s : ByteArray) (k : Nat) (w : World) (h : Rd w b s k) (hk : k < s.size) (q : UInt8) (hq : s[k] = q) (hq10 : q ≠ 10) (hq92 : q ≠ 92) :
    Calls Tryz.prog 32 #[.pointer (some ⟨b, 0, none⟩)] w (QuoPost q b s k w) := by
  have htop := h.top
  have hblt := h.lt
  have HR := Lib.hid h
  obtain ⟨X, hXs, hX0, hT⟩ := take_one b s k hk
  rw [hq] at hX0
  have T1 := Lib.hid hT
  clear h hT hq
  go_enter Tryz.func32, Tryz.ntmps32
  go_wp2_with fail
  refine (T1.out _ HR.out).mono ?_; rintro e w1 ⟨rfl, r1, k1⟩
  have R1 := Lib.hid r1
  have K1 := Lib.hid k1
  clear r1 k1
  go_wp2_with fail
  clear hX0 hXs
  go_loopg [5] s.size (fun z tv wr => ∃ (k1 : Nat) (out : List UInt8), Rd wr b s k1 ∧ k < k1 ∧ s.size - k1 ≤ z ∧ Kp b w wr ∧ BBuf wr w.heap.size tv out ∧ out.length + k ≤ k1 ∧ ∀ o, Quo q (sfx s k1) o → Quo q (sfx s (k + 1)) (o.map fun x => (out ++ x.1, x.2)))
  case atStart => exact ⟨k + 1, [], R1.out, by omega, by omega, K1.out, BBuf.nil _ _, by simp, fun o h => by rw [map_nil]; exact h⟩
  case round =>
    obtain ⟨k1, out, hr, hlt, hz, hkp, hbuf, hol, hquo⟩ := hrel
    have hle1 := hr.le
    have R0 := Lib.hid hr
    have K0 := Lib.hid hkp
    have HB := Lib.hid hbuf
    have HQ := Lib.hid hquo
    have hsz0 := hkp.size
    clear hr hkp hbuf hquo
    obtain ⟨Y, hY⟩ : ∃ Y : ByteArray, Y = s.extract k1 s.size := ⟨_, rfl⟩
    have C1 := Lib.hid (fun W h => rest_any b s k1 W h)
    rw [← hY] at C1
    have hYs : Y.size = s.size - k1 := by rw [hY, rest_size s k1 hle1]
    clear hY
    by_cases hend : k1 = s.size
    · have hYe := empB_yes Y (by omega)
      have hs0 := sfx_end s k1 (by omega)
      have HE := Lib.hid hs0
      clear hs0 hYs
      go_wp2_with fail
      refine (C1.out _ R0.out).mono ?_; rintro e w2 ⟨rfl, r2, k2⟩
      have K2 := hid_kp K0 k2
      clear r2 k2
      go_wp2_with fail
      go_ret2
      exact ⟨none, HQ.out none (by rw [HE.out]; exact .none), K2.out, rfl⟩
    · have hk1 : k1 < s.size := by omega
      have hYe := empB_no Y (by omega)
      have hcons := sfx_cons s k1 hk1
      obtain ⟨Z, hZs, hZ0, hT⟩ := take_one b s k1 hk1
      have T2 := Lib.hid hT
      obtain ⟨c, hc⟩ : ∃ c : UInt8, c = s[k1] := ⟨_, rfl⟩
      rw [← hc] at hZ0 hcons
      have HC := Lib.hid hcons
      clear hYs hT hc hcons
      have hcl := c.toNat_lt
      have hql := q.toNat_lt
      obtain ⟨A1, c1, rfl⟩ := HB.out.form
      by_cases hcq : c = q
      · subst hcq
        go_wp2_with fail
        refine (C1.out _ R0.out).mono ?_; rintro e w2 ⟨rfl, r2, k2⟩
        have R2 := Lib.hid r2
        have K2 := hid_kp K0 k2
        have B2 := Lib.hid (HB.out.kp k2 hblt)
        clear r2 k2
        go_wp2_with fail
        refine (T2.out _ R2.out).mono ?_; rintro e w3 ⟨rfl, r3, k3⟩
        have R3 := Lib.hid r3
        have K3 := hid_kp K2 k3
        have B3 := Lib.hid (B2.out.kp k3 hblt)
        clear r3 k3
        have hcv := buf_string B3.out
        go_wp2_with fail
        go_ret2
        refine ⟨some (out, sfx s (k1 + 1)), ?_, K3.out, _, rfl, R3.out, rfl, by omega⟩
        have := HQ.out (some ([], sfx s (k1 + 1))) (by rw [HC.out]; exact .shut)
        simpa using this
      · have hcqn : c.toNat ≠ q.toNat := fun e => hcq (UInt8.toNat_inj.1 e)
        by_cases hc10 : c = 10
        · subst hc10
          have g1 : ((10 : Int) == (q.toNat : Int)) = false := beq_eq_false_iff_ne.2 (by have : (10 : UInt8).toNat = 10 := rfl; omega)
          go_wp2_with fail
          refine (C1.out _ R0.out).mono ?_; rintro e w2 ⟨rfl, r2, k2⟩
          have R2 := Lib.hid r2
          have K2 := hid_kp K0 k2
          have B2 := Lib.hid (HB.out.kp k2 hblt)
          clear r2 k2
          go_wp2_with fail
          refine (T2.out _ R2.out).mono ?_; rintro e w3 ⟨rfl, r3, k3⟩
          have R3 := Lib.hid r3
          have K3 := hid_kp K2 k3
          have B3 := Lib.hid (B2.out.kp k3 hblt)
          clear r3 k3
          go_wp2_with fail
          go_ret2
          exact ⟨none, HQ.out none (by rw [HC.out]; exact .line hq10), K3.out, rfl⟩
        · by_cases hc92 : c = 92
          · subst hc92
            have g1 : ((92 : Int) == (q.toNat : Int)) = false := beq_eq_false_iff_ne.2 (by have : (92 : UInt8).toNat = 92 := rfl; omega)
            have E1 := Lib.hid (fun W h => escaped_any b s (k1 + 1) W h)
            cases hes : esc (sfx s (k1 + 1)) with
            | none =>
              rw [hes] at E1
              have HES := Lib.hid hes
              clear hes
              go_wp2_with fail
              refine (C1.out _ R0.out).mono ?_; rintro e w2 ⟨rfl, r2, k2⟩
              have R2 := Lib.hid r2
              have K2 := hid_kp K0 k2
              have B2 := Lib.hid (HB.out.kp k2 hblt)
              clear r2 k2
              go_wp2_with fail
              refine (T2.out _ R2.out).mono ?_; rintro e w3 ⟨rfl, r3, k3⟩
              have R3 := Lib.hid r3
              have K3 := hid_kp K2 k3
              have B3 := Lib.hid (B2.out.kp k3 hblt)
              clear r3 k3
              go_wp2_with fail
              refine (E1.out _ R3.out).mono ?_; intro e w4 hp4
              obtain ⟨k4, rfl⟩ := hp4
              have K4 := hid_kp K3 k4
              clear k4
              go_wp2_with fail
              go_ret2
              exact ⟨none, HQ.out none (by rw [HC.out]; exact .bad hq92 HES.out), K4.out, rfl⟩
            | some z =>
              obtain ⟨m, r⟩ := z
              rw [hes] at E1
              have HES := Lib.hid hes
              clear hes
              go_wp2_with fail
              refine (C1.out _ R0.out).mono ?_; rintro e w2 ⟨rfl, r2, k2⟩
              have R2 := Lib.hid r2
              have K2 := hid_kp K0 k2
              have B2 := Lib.hid (HB.out.kp k2 hblt)
              clear r2 k2
              go_wp2_with fail
              refine (T2.out _ R2.out).mono ?_; rintro e w3 ⟨rfl, r3, k3⟩
              have R3 := Lib.hid r3
              have K3 := hid_kp K2 k3
              have B3 := Lib.hid (B2.out.kp k3 hblt)
              clear r3 k3
              go_wp2_with fail
              refine (E1.out _ R3.out).mono ?_; intro e w4 hp4
              obtain ⟨k4, k', v, rfl, hb4, r4, hr4, hl4⟩ := hp4
              have K4 := hid_kp K3 k4
              have R4 := Lib.hid r4
              have B4 := Lib.hid (B3.out.kp k4 hblt)
              have HE := Lib.hid hr4
              have hml : m.length ≤ 1 := by
                rcases hb4 with ⟨_, rfl⟩ | ⟨_, _, rfl, _⟩ <;> simp
              have HBT := Lib.hid hb4
              have hsz4 := K4.out.size
              clear k4 r4 hb4 hr4
              have hk'le := R4.out.le
              go_wp2_with (at_builtin; refine at_bts _ rfl _ _ rfl w.heap.size _ out rfl B4.out _ rfl m HBT.out (by omega) hsz4 ?_; intro v5 w5 hb5 hw5)
              go_roundg (s.size - k')
              case measure => omega
              case rel => exact ⟨k', out ++ m, R4.out.belowB hw5 hblt, by omega, Nat.le_refl _, K4.out.below hw5, hb5, by rw [List.length_append]; omega, fun o ho => by
                have := HQ.out _ (by rw [HC.out]; exact .esc hq92 HES.out (HE.out ▸ ho))
                rwa [map_app] at this⟩
          · have g1 : ((c.toNat : Int) == (q.toNat : Int)) = false := beq_eq_false_iff_ne.2 (by omega)
            have g2 : ((c.toNat : Int) == 10) = false := beq_eq_false_iff_ne.2 (fun e => hc10 (UInt8.toNat_inj.1 (by show c.toNat = 10; omega)))
            have g3 : ((c.toNat : Int) == 92) = false := beq_eq_false_iff_ne.2 (fun e => hc92 (UInt8.toNat_inj.1 (by show c.toNat = 92; omega)))
            go_wp2_with fail
            refine (C1.out _ R0.out).mono ?_; rintro e w2 ⟨rfl, r2, k2⟩
            have R2 := Lib.hid r2
            have K2 := hid_kp K0 k2
            have B2 := Lib.hid (HB.out.kp k2 hblt)
            clear r2 k2
            go_wp2_with fail
            refine (T2.out _ R2.out).mono ?_; rintro e w3 ⟨rfl, r3, k3⟩
            have R3 := Lib.hid r3
            have K3 := hid_kp K2 k3
            have B3 := Lib.hid (B2.out.kp k3 hblt)
            clear r3 k3
            have hsz3 := K3.out.size
            go_wp2_with (at_builtin; refine at_bts _ rfl _ _ rfl w.heap.size _ out rfl (World.ownsRow.alloc B3.out _) _ rfl [c] (byte_new _ _ _ rfl) (by omega) (by simp; omega) ?_; intro v5 w5 hb5 hw5)
            go_roundg (s.size - (k1 + 1))
            case measure => omega
            case rel => exact ⟨k1 + 1, out ++ [c], (R3.out.alloc _).belowB hw5 hblt, by omega, Nat.le_refl _, (K3.out.alloc _).below hw5, hb5, by rw [List.length_append]; simp; omega, fun o ho => by
              have := HQ.out _ (by rw [HC.out]; exact .byte hcq hc10 hc92 ho)
              rw [show (o.map fun x => (c :: x.1, x.2)) = o.map fun x => ([c] ++ x.1, x.2) from rfl, map_app] at this
              exact this⟩
end Go.Proofs.YtbeckfamnhfaeaaGreatDoor
