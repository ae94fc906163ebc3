/- (*reader).comment and (*reader).skip: blanks and comments. -/
import Derived.Test.YtbeckfamnhfaeaaGreatDoorBk
import Derived.Test.YtbeckfamnhfaeaaGreatDoorRu
import Derived.Deep.LoopGhost
namespace Go.Proofs.YtbeckfamnhfaeaaGreatDoor
open Go.RowKit

theorem hid_kp {b : Nat} {w u v : World} (h : Hid (Kp b w u)) (k : Kp b u v) : Hid (Kp b w v) := Lib.hid (h.out.trans k)
def CommPost (b : Nat) (s : ByteArray) (k : Nat) (w : World) (o : Option (List UInt8)) (e : Ending) (w' : World) : Prop :=
  Kp b w w' ∧ match o with
    | some r => ∃ k', e = .returned (.bool true) ∧ Rd w' b s k' ∧ sfx s k' = r ∧ k < k'
    | none => e = .returned (.bool false)
theorem CommPost.some_of {b : Nat} {s : ByteArray} {k : Nat} {w w' : World} {r : List UInt8} {e : Ending} (h : CommPost b s k w (some r) e w') : ∃ k', e = .returned (.bool true) ∧ Rd w' b s k' ∧ sfx s k' = r ∧ k < k' ∧ Kp b w w' := by
  obtain ⟨h0, k', h1, h2, h3, h4⟩ := h
  exact ⟨k', h1, h2, h3, h4, h0⟩
theorem CommPost.none_of {b : Nat} {s : ByteArray} {k : Nat} {w w' : World} {e : Ending} (h : CommPost b s k w none e w') : e = .returned (.bool false) ∧ Kp b w w' := ⟨h.2, h.1⟩

set_option maxHeartbeats 2000000 in
theorem comment_any (b : Nat) (s : ByteArray) (k : Nat) (w : World) (h : Rd w b s k) (hk : k + 2 ≤ s.size) : Calls Tryz.prog 25 #[.pointer (some ⟨b, 0, none⟩)] w (CommPost b s k w (comm (sfx s (k + 2)))) := by
  have htop := h.top
  have HR := Lib.hid h
  clear h
  have T1 := Lib.hid (fun W h => take_any b s k 2 W h hk)
  by_cases hp : 0 < opn (sfx s (k + 2))
  · have B1 := Lib.hid (fun W => begins_is (s.extract (k + 2) s.size) true W (by rw [rest_size s _ hk]; omega) (by rw [sfx_rest]; exact decide_eq_true hp))
    have K1 := Lib.hid (fun W h => bracketed_any b s (k + 2) W h hp)
    have hc : comm (sfx s (k + 2)) = (brk (sfx s (k + 2))).map (·.2) := by unfold comm; rw [if_pos hp]
    cases hb : brk (sfx s (k + 2)) with
    | none =>
      rw [hb] at hc
      have HC := Lib.hid hc
      rw [hb] at K1
      clear hb hc hp
      go_enter Tryz.func25, Tryz.ntmps25
      go_wp2_with fail
      refine (T1.out _ HR.out).mono ?_; rintro e w1 ⟨rfl, r1, k1⟩
      have R1 := Lib.hid r1
      have KK1 := Lib.hid k1
      clear r1 k1
      go_wp2_with fail
      refine (rest_any _ _ _ _ R1.out).mono ?_; rintro e w2 ⟨rfl, r2, k2⟩
      have R2 := Lib.hid r2
      have KK2 := hid_kp KK1 k2
      clear r2 k2
      go_wp2_with fail
      refine (B1.out _).mono ?_; rintro e w2' ⟨rfl, rfl⟩
      go_wp2_with fail
      refine (K1.out _ R2.out).mono ?_; intro e w3 hp3
      obtain ⟨rfl, k3⟩ := hp3.none_of
      clear hp3
      have KK3 := hid_kp KK2 k3
      clear k3
      go_wp2_with fail
      go_ret
      refine ⟨KK3.out, ?_⟩
      rw [HC.out]
      rfl
    | some z =>
      obtain ⟨t, r⟩ := z
      rw [hb] at hc
      have HC := Lib.hid hc
      rw [hb] at K1
      clear hb hc hp
      go_enter Tryz.func25, Tryz.ntmps25
      go_wp2_with fail
      refine (T1.out _ HR.out).mono ?_; rintro e w1 ⟨rfl, r1, k1⟩
      have R1 := Lib.hid r1
      have KK1 := Lib.hid k1
      clear r1 k1
      go_wp2_with fail
      refine (rest_any _ _ _ _ R1.out).mono ?_; rintro e w2 ⟨rfl, r2, k2⟩
      have R2 := Lib.hid r2
      have KK2 := hid_kp KK1 k2
      clear r2 k2
      go_wp2_with fail
      refine (B1.out _).mono ?_; rintro e w2' ⟨rfl, rfl⟩
      go_wp2_with fail
      refine (K1.out _ R2.out).mono ?_; intro e w3 hp3
      obtain ⟨k', rfl, r3, hr3, hlt, k3⟩ := hp3.some_of
      clear hp3
      have R3 := Lib.hid r3
      have KK3 := hid_kp KK2 k3
      have HE := Lib.hid hr3
      clear r3 k3 hr3
      go_wp2_with fail
      go_ret
      refine ⟨KK3.out, ?_⟩
      rw [HC.out]
      exact ⟨k', rfl, R3.out, HE.out, by omega⟩
  · have B1 := Lib.hid (fun W => begins_is (s.extract (k + 2) s.size) false W (by rw [rest_size s _ hk]; omega) (by rw [sfx_rest]; exact decide_eq_false hp))
    obtain ⟨A, hA⟩ : ∃ A : ByteArray, A = ⟨(Lib.cut (sfx s (k + 2)) [10]).1.toArray⟩ := ⟨_, rfl⟩
    obtain ⟨R, hR⟩ : ∃ R : ByteArray, R = ⟨(Lib.cut (sfx s (k + 2)) [10]).2.1.toArray⟩ := ⟨_, rfl⟩
    obtain ⟨o, ho⟩ : ∃ o : Bool, o = (Lib.cut (sfx s (k + 2)) [10]).2.2 := ⟨_, rfl⟩
    have C1 := Lib.hid (fun W hW => cut_call (s.extract (k + 2) s.size) ⟨#[10]⟩ W (by rw [rest_size s _ hk]; omega) hW)
    rw [sfx_rest, show (⟨#[10]⟩ : ByteArray).data.toList = [10] from rfl, ← hA, ← hR, ← ho] at C1
    have hAs : A.size = (Lib.cut (sfx s (k + 2)) [10]).1.length := by rw [hA, mk_size]
    have hc : comm (sfx s (k + 2)) = some (sfx s (k + 2 + A.size)) := by unfold comm; rw [if_neg hp, ← hAs, sfx_drop]
    have hAl : k + 2 + A.size ≤ s.size := by
      rw [hAs, cut_nl]
      have := run_le (fun c => c != 10) (sfx s (k + 2))
      rw [sfx_len] at this
      unfold runN at this
      omega
    have HC := Lib.hid hc
    have T2 := Lib.hid (fun W h => take_any b s (k + 2) A.size W h hAl)
    clear hA hR ho hAs hc hp
    go_enter Tryz.func25, Tryz.ntmps25
    go_wp2_with fail
    refine (T1.out _ HR.out).mono ?_; rintro e w1 ⟨rfl, r1, k1⟩
    have R1 := Lib.hid r1
    have KK1 := Lib.hid k1
    clear r1 k1
    go_wp2_with fail
    refine (rest_any _ _ _ _ R1.out).mono ?_; rintro e w2 ⟨rfl, r2, k2⟩
    have R2 := Lib.hid r2
    have KK2 := hid_kp KK1 k2
    clear r2 k2
    go_wp2_with fail
    refine (B1.out _).mono ?_; rintro e w2' ⟨rfl, rfl⟩
    go_wp2_with fail
    refine (rest_any _ _ _ _ R2.out).mono ?_; rintro e w3 ⟨rfl, r3, k3⟩
    have R3 := Lib.hid r3
    have KK3 := hid_kp KK2 k3
    clear r3 k3
    go_wp2_with fail
    refine (C1.out _ R3.out.mx).mono ?_; rintro e w4 ⟨rfl, n4, rfl⟩
    have R4 := Lib.hid (R3.out.draws n4)
    have KK4 := Lib.hid (KK3.out.draws n4)
    generalize w3.drewN n4 = w4 at *
    go_wp2_with fail
    refine (T2.out _ R4.out).mono ?_; rintro e w5 ⟨rfl, r5, k5⟩
    have R5 := Lib.hid r5
    have KK5 := hid_kp KK4 k5
    clear r5 k5
    go_wp2_with fail
    go_ret
    refine ⟨KK5.out, ?_⟩
    rw [HC.out]
    exact ⟨_, rfl, R5.out, rfl, by omega⟩

/-- An error in memory: a Fault of a line, that is ErrLex. -/
def Flt (W : World) (v : Value) (n : Int) : Prop := ∃ g, v = .iface 49 (.pointer (some ⟨g, 0, none⟩)) ∧ W.heap[g]? = some (.cells #[.int .i64 n, .iface 42 (.int .i64 5)] 54 (0, 0))
set_option maxHeartbeats 1000000 in
theorem fault_any (n : Int) (w : World) : Calls Tryz.prog 14 #[.int .i64 n, .int .i64 5] w fun e w' => e = .returned (.iface 49 (.pointer (some ⟨w.heap.size, 0, none⟩))) ∧ w' = w.alloc (.cells #[.int .i64 n, .iface 42 (.int .i64 5)] 54) := by
  go_enter Tryz.func14, Tryz.ntmps14
  go_wp2
  go_ret
  exact ⟨rfl, rfl⟩
theorem Flt.new (w : World) (n : Int) : Flt (w.alloc (.cells #[.int .i64 n, .iface 42 (.int .i64 5)] 54)) (.iface 49 (.pointer (some ⟨w.heap.size, 0, none⟩))) n := ⟨_, rfl, World.alloc_heap_new w _⟩

/-- The last line of a source. -/
def lastL (s : ByteArray) : Int := 1 + (nl s.data.toList : Int)
theorem line_at (s : ByteArray) (k : Nat) : ((1 + nl (s.data.toList.take k) : Nat) : Int) = lastL s - nl (sfx s k) := by
  unfold lastL sfx
  have := nl_cut s.data.toList k
  omega
/-- What skip answers. -/
def SkipPost (b : Nat) (s : ByteArray) (k : Nat) (w : World) (e : Ending) (w' : World) : Prop :=
  Kp b w w' ∧ ((∃ k', e = .returned .nilIface ∧ Rd w' b s k' ∧ k ≤ k' ∧ Skip (sfx s k) (.ok (sfx s k'))) ∨
    (∃ r v, e = .returned v ∧ Flt w' v (lastL s - nl r) ∧ Skip (sfx s k) (.error r)))
theorem two_dash {l : List UInt8} (h : Lib.hasPrefix l [45, 45] = true) : l = 45 :: 45 :: l.drop 2 := by
  match l with
  | [] => simp [Lib.hasPrefix] at h
  | [a] => simp [Lib.hasPrefix] at h
  | a :: b :: t =>
    simp [Lib.hasPrefix, List.isPrefixOf] at h
    simp [← h.1, ← h.2]

set_option maxHeartbeats 4000000 in
theorem skip_any (b : Nat) (s : ByteArray) (k : Nat) (w : World) (h : Rd w b s k) : Calls Tryz.prog 15 #[.pointer (some ⟨b, 0, none⟩)] w (SkipPost b s k w) := by
  have htop := h.top
  have hle := h.le
  have HR := Lib.hid h
  clear h
  go_enter Tryz.func15, Tryz.ntmps15
  go_wp2_with fail
  go_loopg [] s.size (fun z wr => ∃ k1, Rd wr b s k1 ∧ s.size - k1 ≤ z ∧ Kp b w wr ∧ k ≤ k1 ∧ ∀ o, Skip (sfx s k1) o → Skip (sfx s k) o)
  case atStart => exact ⟨k, HR.out, by omega, Kp.refl _ _, Nat.le_refl _, fun _ h => h⟩
  case round =>
    obtain ⟨k1, hr, hz, hkp, hkk, hsk⟩ := hrel
    have hle1 := hr.le
    have R0 := Lib.hid hr
    have K0 := Lib.hid hkp
    have HS := Lib.hid hsk
    clear hr hkp hsk
    obtain ⟨m, hm⟩ : ∃ m : Nat, m = runN blB (sfx s k1) := ⟨_, rfl⟩
    have C1 := Lib.hid (fun W => run_blank (s.extract k1 s.size) W (by rw [rest_size s _ hle1]; omega))
    rw [sfx_rest, ← hm] at C1
    have hml := run_le blB (sfx s k1)
    rw [sfx_len, ← hm] at hml
    have hdw : (sfx s k1).dropWhile blB = sfx s (k1 + m) := by rw [← drop_run, ← hm, sfx_drop]
    have HD := Lib.hid hdw
    clear hm hdw
    cases hpre : Lib.hasPrefix (sfx s (k1 + m)) [45, 45]
    · have P1 := Lib.hid (fun W => hasP_is (s.extract (k1 + m) s.size) ⟨#[45, 45]⟩ W false (by rw [sfx_rest]; exact hpre))
      have HP := Lib.hid hpre
      clear hpre
      go_wp2_with fail
      refine (rest_any _ _ _ _ R0.out).mono ?_; rintro e w1 ⟨rfl, r1, k1'⟩
      have R1 := Lib.hid r1
      have K1 := hid_kp K0 k1'
      clear r1 k1'
      go_wp2_with fail
      refine (C1.out _).mono ?_; rintro e w1' ⟨rfl, rfl⟩
      go_wp2_with fail
      refine (take_any _ _ _ _ _ R1.out (by omega)).mono ?_; rintro e w2 ⟨rfl, r2, k2⟩
      have R2 := Lib.hid r2
      have K2 := hid_kp K1 k2
      clear r2 k2
      go_wp2_with fail
      refine (rest_any _ _ _ _ R2.out).mono ?_; rintro e w3 ⟨rfl, r3, k3⟩
      have R3 := Lib.hid r3
      have K3 := hid_kp K2 k3
      clear r3 k3
      go_wp2_with fail
      refine (P1.out _).mono ?_; rintro e w3' ⟨rfl, rfl⟩
      go_wp2_with fail
      go_ret
      exact ⟨K3.out, .inl ⟨_, rfl, R3.out, by omega, HS.out _ (.done HD.out HP.out)⟩⟩
    · have P1 := Lib.hid (fun W => hasP_is (s.extract (k1 + m) s.size) ⟨#[45, 45]⟩ W true (by rw [sfx_rest]; exact hpre))
      have h2 := two_dash hpre
      rw [sfx_drop] at h2
      have hroom : k1 + m + 2 ≤ s.size := by
        have := congrArg List.length h2
        rw [sfx_len, List.length_cons, List.length_cons] at this
        omega
      have HP := Lib.hid h2
      clear hpre h2
      have CM := Lib.hid (fun W h => comment_any b s (k1 + m) W h hroom)
      cases hcm : comm (sfx s (k1 + m + 2)) with
      | none =>
        rw [hcm] at CM
        have HCM := Lib.hid hcm
        clear hcm
        go_wp2_with fail
        refine (rest_any _ _ _ _ R0.out).mono ?_; rintro e w1 ⟨rfl, r1, k1'⟩
        have R1 := Lib.hid r1
        have K1 := hid_kp K0 k1'
        clear r1 k1'
        go_wp2_with fail
        refine (C1.out _).mono ?_; rintro e w1' ⟨rfl, rfl⟩
        go_wp2_with fail
        refine (take_any _ _ _ _ _ R1.out (by omega)).mono ?_; rintro e w2 ⟨rfl, r2, k2⟩
        have R2 := Lib.hid r2
        have K2 := hid_kp K1 k2
        clear r2 k2
        go_wp2_with fail
        refine (rest_any _ _ _ _ R2.out).mono ?_; rintro e w3 ⟨rfl, r3, k3⟩
        have R3 := Lib.hid r3
        have K3 := hid_kp K2 k3
        clear r3 k3
        go_wp2_with fail
        refine (P1.out _).mono ?_; rintro e w3' ⟨rfl, rfl⟩
        have c2 := R3.out.c2
        rw [line_at] at c2
        generalize hline : lastL s - (nl (sfx s (k1 + m)) : Int) = line at c2
        have HL := Lib.hid hline
        clear hline
        go_wp2_with fail
        clear c2
        refine (CM.out _ R3.out).mono ?_; intro e w4 hp4
        obtain ⟨rfl, k4⟩ := hp4.none_of
        have K4 := hid_kp K3 k4
        clear hp4 k4
        go_wp2_with fail
        refine (fault_any _ _).mono ?_; rintro e w5 ⟨rfl, rfl⟩
        go_wp2_with fail
        go_ret
        refine ⟨K4.out.alloc _, .inr ⟨_, _, rfl, ?_, HS.out _ (.bad (HD.out.trans HP.out) HCM.out)⟩⟩
        rw [← HP.out, HL.out]
        exact Flt.new _ _
      | some r' =>
        rw [hcm] at CM
        have HCM := Lib.hid hcm
        clear hcm
        go_wp2_with fail
        refine (rest_any _ _ _ _ R0.out).mono ?_; rintro e w1 ⟨rfl, r1, k1'⟩
        have R1 := Lib.hid r1
        have K1 := hid_kp K0 k1'
        clear r1 k1'
        go_wp2_with fail
        refine (C1.out _).mono ?_; rintro e w1' ⟨rfl, rfl⟩
        go_wp2_with fail
        refine (take_any _ _ _ _ _ R1.out (by omega)).mono ?_; rintro e w2 ⟨rfl, r2, k2⟩
        have R2 := Lib.hid r2
        have K2 := hid_kp K1 k2
        clear r2 k2
        go_wp2_with fail
        refine (rest_any _ _ _ _ R2.out).mono ?_; rintro e w3 ⟨rfl, r3, k3⟩
        have R3 := Lib.hid r3
        have K3 := hid_kp K2 k3
        clear r3 k3
        go_wp2_with fail
        refine (P1.out _).mono ?_; rintro e w3' ⟨rfl, rfl⟩
        have c2 := R3.out.c2
        rw [line_at] at c2
        generalize hline : lastL s - (nl (sfx s (k1 + m)) : Int) = line at c2
        clear hline
        go_wp2_with fail
        clear c2
        refine (CM.out _ R3.out).mono ?_; intro e w4 hp4
        obtain ⟨k', rfl, r4, hr4, hlt, k4⟩ := hp4.some_of
        have R4 := Lib.hid r4
        have K4 := hid_kp K3 k4
        have HE := Lib.hid hr4
        clear hp4 k4 r4 hr4
        go_wp2_with fail
        go_roundg (s.size - k')
        case measure => have := R4.out.le; omega
        case rel => exact ⟨k', R4.out, Nat.le_refl _, K4.out, by omega, fun o ho => HS.out o (.more (HD.out.trans HP.out) HCM.out (HE.out ▸ ho))⟩
end Go.Proofs.YtbeckfamnhfaeaaGreatDoor
