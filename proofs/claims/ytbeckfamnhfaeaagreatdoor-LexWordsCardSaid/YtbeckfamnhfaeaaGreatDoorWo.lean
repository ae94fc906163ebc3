/- selkielaw05.LexWords answers true at any text. -/
import Derived.Test.YtbeckfamnhfaeaaGreatDoorEq
import Derived.Test.YtbeckfamnhfaeaaGreatDoorWr
import Derived.Test.YtbeckfamnhfaeaaGreatDoorLexW
import Derived.Test.YtbeckfamnhfaeaaGreatDoorRw
namespace Go.Proofs.YtbeckfamnhfaeaaGreatDoor
open Go.RowKit

set_option maxHeartbeats 2000000 in
set_option maxRecDepth 100000 in
theorem words_far (s : ByteArray) (w : World) (h : Env w) (hf : 1000 < s.size) : Calls Tryz.prog 3 #[.string s] w fun e w' => e = .returned (.bool true) ∧ Below w.heap.size w w' := by
  have A1 := Lib.hid (alive_any w h)
  clear h
  go_enter Tryz.func3, Tryz.ntmps3
  go_wp2_with fail
  refine A1.out.mono ?_; rintro e w1 ⟨rfl, b1⟩
  go_wp2_with fail
  go_ret
  exact ⟨rfl, b1⟩

/-- So far it is a name. -/
def NmT (l : List UInt8) : Prop := (∀ c ∈ l, nmB c = true) ∧ ∀ c, l[0]? = some c → ltB c = true
theorem NmT.snoc {l : List UInt8} (h : NmT l) (c : UInt8) (hc : ltB c = true ∨ (0 < l.length ∧ dgB c = true)) : NmT (l ++ [c]) := by
  refine ⟨fun x hx => ?_, fun x hx => ?_⟩
  · rcases List.mem_append.1 hx with hx | hx
    · exact h.1 x hx
    · obtain rfl := List.mem_singleton.1 hx
      unfold nmB
      rcases hc with hc | hc
      · rw [hc]; rfl
      · rw [hc.2]; simp
  · cases l with
    | nil =>
      obtain rfl : c = x := by simpa using hx
      rcases hc with hc | hc
      · exact hc
      · simp at hc
    | cons a t => exact h.2 x (by simpa using hx)

set_option maxHeartbeats 8000000 in
set_option maxRecDepth 100000 in
theorem words_near (s : ByteArray) (w : World) (h : Env w) (hs : s.size ≤ 1000) : Calls Tryz.prog 3 #[.string s] w fun e w' => e = .returned (.bool true) ∧ Below w.heap.size w w' := by
  have A1 := Lib.hid (alive_any w h)
  have HE := Lib.hid h
  have g1 : decide ((1000 : Int) < (s.size : Int)) = false := decide_eq_false (by omega)
  obtain ⟨o, ho⟩ : ∃ o : Bool, o = wordB s.data.toList := ⟨_, rfl⟩
  have P1 := Lib.hid (fun W => word_any s W)
  have P2 := Lib.hid (fun W => rword_any s W)
  rw [← ho] at P1 P2
  have HO := Lib.hid ho
  clear h ho
  have key : ∀ w3 : World, Below w.heap.size w w3 → Env w3 → 0 < s.size → NmT s.data.toList → LexR (lastL s) s.data.toList (.ok [(if o then 2 else 1, 1, 0, s.data.toList), (0, 1, 0, [])]) := fun w3 _ _ h0 hn => by
    have hl : lastL s = 1 := by rw [lastL_eq, nm_no10 hn.1]; rfl
    rw [hl, HO.out]
    cases e : s.data.toList with
    | nil => rw [Lib.size_eq, e] at h0; simp at h0
    | cons c t =>
      rw [e] at hn
      exact words_pure (hn.2 c rfl) hn.1
  have KEY := Lib.hid key
  clear key
  go_enter Tryz.func3, Tryz.ntmps3
  go_wp2_with fail
  refine A1.out.mono ?_; rintro e w1 ⟨rfl, b1⟩
  have E1 := Lib.hid (HE.out.below b1)
  have B1 := Lib.hid b1
  clear b1
  go_wp2_with fail
  refine (P1.out _).mono ?_; rintro e w1' ⟨rfl, rfl⟩
  go_wp2_with fail
  refine (P2.out _).mono ?_; rintro e w2 ⟨rfl, b2⟩
  have E2 := Lib.hid (E1.out.below b2)
  have B2 := Lib.hid (then_below B1.out (Nat.le_refl _) b2)
  clear b2
  go_wp2_with fail
  go_loop [20] (fun ii => ∃ k : Nat, k ≤ s.size ∧ ii = .int .i64 k ∧ NmT (s.data.toList.take k)) (fun ii => s.size - (intOf ii).toNat)
  case atStart => exact ⟨0, Nat.zero_le _, rfl, fun c hc => by simp at hc, fun c hc => by simp at hc⟩
  case round =>
    obtain ⟨k, hk, rfl, hnm⟩ := hrel
    have HNM := Lib.hid hnm
    clear hnm
    by_cases hlt : k < s.size
    · obtain ⟨c, hc⟩ : ∃ c : UInt8, c = s[k] := ⟨_, rfl⟩
      have htake := take_snoc s k hlt
      rw [← hc] at htake
      have HTK := Lib.hid htake
      have hsk : s[k] = c := hc.symm
      have hcl := c.toNat_lt
      have htl : (s.data.toList.take k).length = k := by rw [List.length_take, ← Lib.size_eq]; omega
      have HTL := Lib.hid htl
      clear htake hc htl
      rcases (show c.toNat < 48 ∨ (48 ≤ c.toNat ∧ c.toNat ≤ 57) ∨ (58 ≤ c.toNat ∧ c.toNat ≤ 64) ∨ (65 ≤ c.toNat ∧ c.toNat ≤ 90) ∨ (91 ≤ c.toNat ∧ c.toNat ≤ 94) ∨ c.toNat = 95 ∨ c.toNat = 96 ∨ (97 ≤ c.toNat ∧ c.toNat ≤ 122) ∨ 123 ≤ c.toNat by omega) with hr | ⟨hr1, hr2⟩ | ⟨hr1, hr2⟩ | ⟨hr1, hr2⟩ | ⟨hr1, hr2⟩ | hr | hr | ⟨hr1, hr2⟩ | hr
      · have q95 : ((c.toNat : Int) == 95) = false := beq_eq_false_iff_ne.2 (by omega)
        rcases Nat.eq_zero_or_pos k with hk0 | hk0
        · subst hk0
          go_wp2_with fail
          go_ret
          exact ⟨rfl, B2.out⟩
        · have qk : decide ((0 : Int) < (k : Int)) = true := decide_eq_true (by omega)
          go_wp2_with fail
          go_ret
          exact ⟨rfl, B2.out⟩
      · have q95 : ((c.toNat : Int) == 95) = false := beq_eq_false_iff_ne.2 (by omega)
        rcases Nat.eq_zero_or_pos k with hk0 | hk0
        · subst hk0
          go_wp2_with fail
          go_ret
          exact ⟨rfl, B2.out⟩
        · have qk : decide ((0 : Int) < (k : Int)) = true := decide_eq_true (by omega)
          have t57 : decide ((c.toNat : Int) ≤ 57) = true := decide_eq_true (by omega)
          go_wp2_with fail
          go_round
          case rel => exact ⟨k + 1, by omega, by go_num, by rw [HTK.out]; exact HNM.out.snoc c (.inr ⟨by rw [HTL.out]; exact hk0, by unfold dgB; exact decide_eq_true ⟨hr1, hr2⟩⟩)⟩
          case measure => simp [intOf]; omega
      · have q95 : ((c.toNat : Int) == 95) = false := beq_eq_false_iff_ne.2 (by omega)
        have t57 : decide ((c.toNat : Int) ≤ 57) = false := decide_eq_false (by omega)
        rcases Nat.eq_zero_or_pos k with hk0 | hk0
        · subst hk0
          go_wp2_with fail
          go_ret
          exact ⟨rfl, B2.out⟩
        · have qk : decide ((0 : Int) < (k : Int)) = true := decide_eq_true (by omega)
          go_wp2_with fail
          go_ret
          exact ⟨rfl, B2.out⟩
      · have t90 : decide ((c.toNat : Int) ≤ 90) = true := decide_eq_true (by omega)
        go_wp2_with fail
        go_round
        case rel => exact ⟨k + 1, by omega, by go_num, by rw [HTK.out]; exact HNM.out.snoc c (.inl (by unfold ltB; rw [Bool.or_eq_true, Bool.or_eq_true, decide_eq_true_eq, decide_eq_true_eq, decide_eq_true_eq]; omega))⟩
        case measure => simp [intOf]; omega
      · have q95 : ((c.toNat : Int) == 95) = false := beq_eq_false_iff_ne.2 (by omega)
        have t57 : decide ((c.toNat : Int) ≤ 57) = false := decide_eq_false (by omega)
        have t90 : decide ((c.toNat : Int) ≤ 90) = false := decide_eq_false (by omega)
        rcases Nat.eq_zero_or_pos k with hk0 | hk0
        · subst hk0
          go_wp2_with fail
          go_ret
          exact ⟨rfl, B2.out⟩
        · have qk : decide ((0 : Int) < (k : Int)) = true := decide_eq_true (by omega)
          go_wp2_with fail
          go_ret
          exact ⟨rfl, B2.out⟩
      · obtain rfl : c = 95 := UInt8.toNat_inj.1 hr
        go_wp2_with fail
        go_round
        case rel => exact ⟨k + 1, by omega, by go_num, by rw [HTK.out]; exact HNM.out.snoc 95 (.inl (by decide))⟩
        case measure => simp [intOf]; omega
      · obtain rfl : c = 96 := UInt8.toNat_inj.1 hr
        rcases Nat.eq_zero_or_pos k with hk0 | hk0
        · subst hk0
          go_wp2_with fail
          go_ret
          exact ⟨rfl, B2.out⟩
        · have qk : decide ((0 : Int) < (k : Int)) = true := decide_eq_true (by omega)
          go_wp2_with fail
          go_ret
          exact ⟨rfl, B2.out⟩
      · have t122 : decide ((c.toNat : Int) ≤ 122) = true := decide_eq_true (by omega)
        go_wp2_with fail
        go_round
        case rel => exact ⟨k + 1, by omega, by go_num, by rw [HTK.out]; exact HNM.out.snoc c (.inl (by unfold ltB; rw [Bool.or_eq_true, Bool.or_eq_true, decide_eq_true_eq, decide_eq_true_eq, decide_eq_true_eq]; omega))⟩
        case measure => simp [intOf]; omega
      · have q95 : ((c.toNat : Int) == 95) = false := beq_eq_false_iff_ne.2 (by omega)
        have t57 : decide ((c.toNat : Int) ≤ 57) = false := decide_eq_false (by omega)
        have t90 : decide ((c.toNat : Int) ≤ 90) = false := decide_eq_false (by omega)
        have t122 : decide ((c.toNat : Int) ≤ 122) = false := decide_eq_false (by omega)
        rcases Nat.eq_zero_or_pos k with hk0 | hk0
        · subst hk0
          go_wp2_with fail
          go_ret
          exact ⟨rfl, B2.out⟩
        · have qk : decide ((0 : Int) < (k : Int)) = true := decide_eq_true (by omega)
          go_wp2_with fail
          go_ret
          exact ⟨rfl, B2.out⟩
    · have hka : s.data.toList.take k = s.data.toList := List.take_of_length_le (by rw [← Lib.size_eq]; omega)
      have hnm' := HNM.out
      rw [hka] at hnm'
      have HNM2 := Lib.hid hnm'
      clear hka hnm'
      rcases Nat.eq_zero_or_pos s.size with hz | hz
      · have hse := empB_yes s hz
        go_wp2_with fail
        go_ret
        exact ⟨rfl, B2.out⟩
      · have hse := empB_no s hz
        have L3 := Lib.hid (lex_ok s w2 (by omega) E2.out (KEY.out w2 B2.out E2.out hz HNM2.out))
        go_wp2_with fail
        refine L3.out.mono ?_; rintro e w3 ⟨v3, rfl, hv3, b3⟩
        obtain ⟨g3, cap3, rfl, hcap3, hgl3, hce3⟩ := hv3.ex
        obtain ⟨p0, p1, p2, p3⟩ := hce3 0 _ rfl
        obtain ⟨q0, q1, q2, q3⟩ := hce3 1 _ rfl
        have p3' : w3.cell? ⟨g3, 3, none⟩ = some (.string s) := p3
        have p0' : w3.cell? ⟨g3, 0, none⟩ = some (.int .i64 (if o then 2 else 1)) := p0
        have p1' : w3.cell? ⟨g3, 1, none⟩ = some (.int .i64 1) := p1
        have p2' : w3.cell? ⟨g3, 2, none⟩ = some (.int .i64 0) := p2
        have q0' : w3.cell? ⟨g3, 4, none⟩ = some (.int .i64 0) := q0
        have q1' : w3.cell? ⟨g3, 5, none⟩ = some (.int .i64 1) := q1
        have q2' : w3.cell? ⟨g3, 6, none⟩ = some (.int .i64 0) := q2
        have q3' : w3.cell? ⟨g3, 7, none⟩ = some (.string ⟨#[]⟩) := q3
        have B3 := Lib.hid (then_below B2.out (Nat.le_refl _) b3)
        clear hce3 hv3 b3 hcap3 hgl3 p0 p1 p2 p3 q0 q1 q2 q3
        have eq2 := eql_same 0 1 0 ⟨#[]⟩
        have egd := tok_guard .eql
        cases o
        · have p0 : w3.cell? ⟨g3, 0, none⟩ = some (.int .i64 1) := p0'
          have eq1 := eql_same 1 1 0 s
          clear p0'
          go_wp2_with fail
          refine (P1.out _).mono ?_; rintro e w3' ⟨rfl, rfl⟩
          go_wp2_with fail
          go_ret
          exact ⟨rfl, B3.out⟩
        · have p0 : w3.cell? ⟨g3, 0, none⟩ = some (.int .i64 2) := p0'
          have eq1 := eql_same 2 1 0 s
          clear p0'
          go_wp2_with fail
          refine (P1.out _).mono ?_; rintro e w3' ⟨rfl, rfl⟩
          go_wp2_with fail
          go_ret
          exact ⟨rfl, B3.out⟩
theorem wordl_any (s : ByteArray) (w : World) (h : Env w) : Calls Tryz.prog 3 #[.string s] w fun e w' => e = .returned (.bool true) ∧ Below w.heap.size w w' := by
  by_cases hf : 1000 < s.size
  · exact words_far s w h hf
  · exact words_near s w h (by omega)
end Go.Proofs.YtbeckfamnhfaeaaGreatDoor
