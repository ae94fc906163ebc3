/- (*reader).bracketed: a long bracket's text. -/
import Derived.Test.YtbeckfamnhfaeaaGreatDoorBr
namespace Go.Proofs.YtbeckfamnhfaeaaGreatDoor
open Go.RowKit

theorem cut_room {l sep : List UInt8} {t r : List UInt8} (h : Lib.cut l sep = (t, r, true)) : t.length + sep.length ≤ l.length ∧ r = l.drop (t.length + sep.length) := by
  unfold Lib.cut at h
  by_cases h0 : 0 ≤ Lib.index l sep
  · rw [if_pos h0] at h
    injection h with h1 h2
    injection h2 with h2 _
    have hr := Lib.index_room l sep h0
    have hlen : t.length = (Lib.index l sep).toNat := by rw [← h1, List.length_take]; omega
    rw [hlen]
    exact ⟨by omega, h2.symm⟩
  · rw [if_neg h0] at h
    injection h with _ h2
    injection h2 with _ h3
    cases h3
/-- What a call that reads a text answers: a text and true, the reader moved on; or false. -/
def TextPost (b : Nat) (s : ByteArray) (k : Nat) (w : World) (o : Option (List UInt8 × List UInt8)) (e : Ending) (w' : World) : Prop :=
  Kp b w w' ∧ match o with
    | some (t, r) => ∃ k', e = .returned (.tuple #[.string ⟨t.toArray⟩, .bool true]) ∧ Rd w' b s k' ∧ sfx s k' = r ∧ k < k'
    | none => e = .returned (.tuple #[.string ⟨#[]⟩, .bool false])
theorem TextPost.some_of {b : Nat} {s : ByteArray} {k : Nat} {w w' : World} {t r : List UInt8} {e : Ending} (h : TextPost b s k w (some (t, r)) e w') : ∃ k', e = .returned (.tuple #[.string ⟨t.toArray⟩, .bool true]) ∧ Rd w' b s k' ∧ sfx s k' = r ∧ k < k' ∧ Kp b w w' := by
  obtain ⟨h0, k', h1, h2, h3, h4⟩ := h
  exact ⟨k', h1, h2, h3, h4, h0⟩
theorem TextPost.none_of {b : Nat} {s : ByteArray} {k : Nat} {w w' : World} {e : Ending} (h : TextPost b s k w none e w') : e = .returned (.tuple #[.string ⟨#[]⟩, .bool false]) ∧ Kp b w w' := ⟨h.2, h.1⟩

set_option maxHeartbeats 2000000 in
theorem bracketed_any (b : Nat) (s : ByteArray) (k : Nat) (w : World) (h : Rd w b s k) (hp : 0 < opn (sfx s k)) : Calls Tryz.prog 34 #[.pointer (some ⟨b, 0, none⟩)] w (TextPost b s k w (brk (sfx s k))) := by
  have htop := h.top
  have hle := h.le
  have HR := Lib.hid h
  clear h
  obtain ⟨n, hn⟩ : ∃ n : Nat, n = opn (sfx s k) := ⟨_, rfl⟩
  have hnl := opn_le (sfx s k)
  rw [← hn, sfx_len] at hnl
  rw [← hn] at hp
  have C1 := Lib.hid (fun W => opening_any (s.extract k s.size) W (by rw [rest_size s k hle]; omega))
  rw [sfx_rest, ← hn] at C1
  obtain ⟨cl, hcl⟩ : ∃ cl : ByteArray, cl = ⟨(clo (s.extract k (k + n)).data.toList).toArray⟩ := ⟨_, rfl⟩
  have C2 := Lib.hid (fun W hW => repl_call (s.extract k (k + n)) W (by rw [ByteArray.size_extract]; omega) hW)
  rw [← hcl] at C2
  have hb : brk (sfx s k) = if (Lib.cut (sfx s (k + n)) cl.data.toList).2.2 then some (Lib.trimPrefix (Lib.cut (sfx s (k + n)) cl.data.toList).1 [10], (Lib.cut (sfx s (k + n)) cl.data.toList).2.1) else none := by
    unfold brk
    rw [← hn, hcl, mk_list, sfx_take, sfx_drop]
  have C3 := Lib.hid (fun W hW => cut_call (s.extract (k + n) s.size) cl W (by rw [rest_size s _ (by omega)]; omega) hW)
  rw [sfx_rest] at C3
  obtain ⟨a, r, o, hq⟩ : ∃ a r o, Lib.cut (sfx s (k + n)) cl.data.toList = (a, r, o) := ⟨_, _, _, rfl⟩
  rw [hq] at C3 hb
  obtain ⟨A, hA⟩ : ∃ A : ByteArray, A = ⟨a.toArray⟩ := ⟨_, rfl⟩
  obtain ⟨R, hR⟩ : ∃ R : ByteArray, R = ⟨r.toArray⟩ := ⟨_, rfl⟩
  simp only [← hA, ← hR] at C3
  cases o
  · have HB := Lib.hid hb
    clear hn hcl hq hA hR hb
    go_enter Tryz.func34, Tryz.ntmps34
    go_wp2_with fail
    refine (rest_any _ _ _ _ HR.out).mono ?_; rintro e w1 ⟨rfl, r1, k1⟩
    have R1 := Lib.hid r1
    have K1 := Lib.hid k1
    clear r1 k1
    go_wp2_with fail
    refine (C1.out _).mono ?_; rintro e w1' ⟨rfl, rfl⟩
    go_wp2_with fail
    refine (take_any _ _ _ _ _ R1.out (by omega)).mono ?_; rintro e w2 ⟨rfl, r2, k2⟩
    have R2 := Lib.hid r2
    have K2 := Lib.hid (K1.out.trans k2)
    clear r2 k2
    go_wp2_with fail
    refine (C2.out _ R2.out.mx).mono ?_; rintro e w3 ⟨rfl, b3⟩
    have R3 := Lib.hid (R2.out.below b3)
    have K3 := Lib.hid (K2.out.trans (Kp.of_below b3))
    clear b3
    go_wp2_with fail
    refine (rest_any _ _ _ _ R3.out).mono ?_; rintro e w4 ⟨rfl, r4, k4⟩
    have R4 := Lib.hid r4
    have K4 := Lib.hid (K3.out.trans k4)
    clear r4 k4
    go_wp2_with fail
    refine (C3.out _ R4.out.mx).mono ?_; rintro e w5 ⟨rfl, n5, rfl⟩
    go_wp2_with fail
    go_ret2
    refine ⟨K4.out.draws _, ?_⟩
    rw [HB.out]
    rfl
  · obtain ⟨hroom, hr⟩ := cut_room hq
    rw [sfx_len, ← Lib.size_eq] at hroom
    rw [sfx_drop, ← Lib.size_eq] at hr
    have hAs : A.size = a.length := by rw [hA, mk_size]
    have C4 := Lib.hid (fun W => trimP_nl A W)
    rw [hA, mk_list, ← hA] at C4
    obtain ⟨T, hT⟩ : ∃ T : ByteArray, T = ⟨(Lib.trimPrefix a [10]).toArray⟩ := ⟨_, rfl⟩
    rw [← hT] at C4
    rw [← hAs] at hroom hr
    have HB := Lib.hid hb
    have HE := Lib.hid hr
    have HT := Lib.hid hT
    clear hn hcl hq hA hR hb hr hAs hT
    go_enter Tryz.func34, Tryz.ntmps34
    go_wp2_with fail
    refine (rest_any _ _ _ _ HR.out).mono ?_; rintro e w1 ⟨rfl, r1, k1⟩
    have R1 := Lib.hid r1
    have K1 := Lib.hid k1
    clear r1 k1
    go_wp2_with fail
    refine (C1.out _).mono ?_; rintro e w1' ⟨rfl, rfl⟩
    go_wp2_with fail
    refine (take_any _ _ _ _ _ R1.out (by omega)).mono ?_; rintro e w2 ⟨rfl, r2, k2⟩
    have R2 := Lib.hid r2
    have K2 := Lib.hid (K1.out.trans k2)
    clear r2 k2
    go_wp2_with fail
    refine (C2.out _ R2.out.mx).mono ?_; rintro e w3 ⟨rfl, b3⟩
    have R3 := Lib.hid (R2.out.below b3)
    have K3 := Lib.hid (K2.out.trans (Kp.of_below b3))
    clear b3
    go_wp2_with fail
    refine (rest_any _ _ _ _ R3.out).mono ?_; rintro e w4 ⟨rfl, r4, k4⟩
    have R4 := Lib.hid r4
    have K4 := Lib.hid (K3.out.trans k4)
    clear r4 k4
    go_wp2_with fail
    refine (C3.out _ R4.out.mx).mono ?_; rintro e w5 ⟨rfl, n5, rfl⟩
    have R5 := Lib.hid (R4.out.draws n5)
    have K5 := Lib.hid (K4.out.draws n5)
    generalize w4.drewN n5 = w5 at *
    have htake := fun W h => take_any b s (k + n) (A.size + cl.size) W h (by omega)
    rw [show ((A.size + cl.size : Nat) : Int) = (A.size : Int) + (cl.size : Int) by omega] at htake
    have C6 := Lib.hid htake
    clear htake
    go_wp2_with fail
    refine (C6.out _ R5.out).mono ?_; rintro e w6 ⟨rfl, r6, k6⟩
    have R6 := Lib.hid r6
    have K6 := Lib.hid (K5.out.trans k6)
    clear r6 k6
    go_wp2_with fail
    refine (C4.out _).mono ?_; rintro e w6' ⟨rfl, rfl⟩
    go_wp2_with fail
    go_ret2
    refine ⟨K6.out, ?_⟩
    rw [HB.out]
    exact ⟨_, by rw [HT.out]; rfl, R6.out, HE.out.symm, by omega⟩
end Go.Proofs.YtbeckfamnhfaeaaGreatDoor
