/- The document's Great: a tree that is no more than is looked at has small parts. -/
import Derived.Test.YtjlpklhibdkmeaaGreatDoorFl3
namespace Go.Proofs.YtjlpklhibdkmeaaGreatDoor
open Go.RowKit

/-- What a call's reading says of a tree's parts. -/
structure Rd (T : List Nd) : Prop where
  nl : ∀ x ∈ T, x.names.length ≤ 140737488355328
  kl : ∀ x ∈ T, x.kids.length ≤ 140737488355328
/-- What a tree that isn't great has. -/
def Ng (x : Nd) : Prop := x.s.size ≤ 20000 ∧ x.names.length ≤ 4000 ∧ x.kids.length ≤ 4000
def GreatPost (T : List Nd) (w : World) (e : Ending) (w' : World) : Prop := ∃ b, e = .returned (.bool b) ∧ (b = false → T.length ≤ 4000 ∧ ∀ x ∈ T, Ng x) ∧ Below w.heap.size w w'
set_option maxHeartbeats 4000000 in
set_option maxRecDepth 20000 in
theorem great_any (v : Value) (T : List Nd) (r : Int) (w : World) (h : TreeV w v T r) (hr : Rd T) : Calls Tryz.prog 7 #[v] w (GreatPost T w) := by
  obtain ⟨nv, rfl, A, c, rfl, hc, hn⟩ := h
  have HN := Lib.hid hn
  have HR := Lib.hid hr
  clear hn hr
  go_enter Tryz.func7, Tryz.ntmps7
  go_wp2_with fail
  go_loopw [3, 11] (fun n i wr => ∃ (k : Nat) (N : Int), k ≤ T.length ∧ i = .int .i64 (k : Int) ∧ n = .int .i64 N ∧ (k : Int) ≤ N ∧ N ≤ 4000 ∧ (∀ x ∈ T.take k, Ng x) ∧ Below w.heap.size w wr) (fun _ i _ => T.length - (intOf i).toNat)
  case atStart => exact ⟨0, 0, Nat.zero_le _, rfl, rfl, by decide, by decide, fun x hx => by simp at hx, b_alloc _ _⟩
  case round =>
    obtain ⟨k, N, hk, rfl, rfl, hkN, hN, hng, hbl⟩ := hrel
    have HNG := Lib.hid hng
    have HB := Lib.hid hbl
    clear hng hbl
    by_cases hlt : k < T.length
    · obtain ⟨x, hxk⟩ : ∃ x, T[k]? = some x := ⟨T[k], List.getElem?_eq_getElem hlt⟩
      have hxm := List.mem_of_getElem? hxk
      rcases HN.out with h0 | ⟨b, o, rfl, hb, hx⟩
      · rw [h0] at hlt; exact absurd hlt (Nat.not_lt_zero _)
      obtain ⟨nvk, kvk, hna, hst, hnu⟩ := hx k x hxk
      obtain ⟨c0, c1, c2, c3, c4, c5, c6⟩ := hna.below HB.out hb
      have hnl := HR.out.nl x hxm
      have hkl := HR.out.kl x hxm
      have HTK : Hid (T.take (k + 1) = T.take k ++ [x]) := Lib.hid (take_snoc' T k x hxk)
      obtain ⟨SA, sc, rfl, _, hsa⟩ := hst
      obtain ⟨UA, uc, rfl, _, _⟩ := hnu
      have HSA := Lib.hid hsa
      have HWN := Lib.hid (b_alloc wr (.cells #[.int .i64 x.kind, .int .i64 x.line, .int .i64 x.op, .int .i64 x.num, .string x.s, .slice SA x.names.length sc, .slice UA x.kids.length uc] 32))
      have hsz := HB.out.size
      have HBN := Lib.hid (HB.out.trans (HWN.out.mono hsz))
      have HKK := Lib.hid hlt
      clear hx hxk hna hsa hxm
      by_cases hsl : 20000 < x.s.size
      · have g : decide ((20000 : Int) < (x.s.size : Int)) = true := decide_eq_true (by omega)
        go_wp2_with fail
        go_ret
        exact ⟨true, rfl, (fun h => absurd h (by decide)), HBN.out⟩
      · have g : decide ((20000 : Int) < (x.s.size : Int)) = false := decide_eq_false (by omega)
        go_wp2_with fail
        clear c0 c1 c2 c3 c4 c5 c6
        go_loop [3, 38] (fun n j => ∃ (q : Nat) (M : Int), q ≤ x.names.length ∧ j = .int .i64 (q : Int) ∧ n = .int .i64 M ∧ N + (1 + (x.kids.length : Int) + x.names.length) ≤ M ∧ M ≤ N + (1 + (x.kids.length : Int) + (x.names.length : Int) + (x.s.size : Int) / 50) + 2000 * q) (fun _ j => x.names.length - (intOf j).toNat)
        case atStart => exact ⟨0, _, Nat.zero_le _, rfl, rfl, by omega, by omega⟩
        case round =>
          obtain ⟨q, M, hq, rfl, rfl, hM0, hM1⟩ := hrel
          by_cases hqn : q < x.names.length
          · obtain ⟨y, hy⟩ : ∃ y, x.names[q]? = some y := ⟨x.names[q], List.getElem?_eq_getElem hqn⟩
            rcases HSA.out with h0 | ⟨b2, o2, rfl, hb2, hc2⟩
            · rw [h0] at hqn; exact absurd hqn (Nat.not_lt_zero _)
            have ck := (HBN.out.cell (p := ⟨b2, o2 + q, none⟩) hb2).trans (hc2 q y hy)
            have HQ := Lib.hid hqn
            clear hc2 hy
            by_cases hyl : y.size ≤ 100000
            · go_wp2_with fail
              exact ⟨⟨q + 1, _, by have := HQ.out; omega, by go_num, rfl, by omega, by omega⟩, by have := HQ.out; simp [intOf]; omega⟩
            · go_wp2_with fail
              exact ⟨⟨q + 1, _, by have := HQ.out; omega, by go_num, rfl, by omega, by omega⟩, by have := HQ.out; simp [intOf]; omega⟩
          · by_cases hbig : 4000 < M
            · have g4 : decide ((4000 : Int) < M) = true := decide_eq_true hbig
              go_wp2_with fail
              go_ret
              exact ⟨true, rfl, (fun h => absurd h (by decide)), HBN.out⟩
            · have g4 : decide ((4000 : Int) < M) = false := decide_eq_false hbig
              go_wp2_with fail
              go_roundw
              case rel => exact ⟨k + 1, M, by have := HKK.out; omega, by go_num, rfl, by omega, by omega, by
                rw [HTK.out]
                intro z hz
                rcases List.mem_append.1 hz with hz | hz
                · exact HNG.out z hz
                · obtain rfl := List.mem_singleton.1 hz
                  exact ⟨by omega, by omega, by omega⟩, HBN.out⟩
              case measure => have := HKK.out; simp [intOf]; omega
    · have hall : T.take k = T := List.take_of_length_le (by omega)
      go_wp2_with fail
      go_ret
      exact ⟨false, rfl, fun _ => ⟨by omega, by rw [← hall]; exact HNG.out⟩, HB.out⟩
end Go.Proofs.YtjlpklhibdkmeaaGreatDoor
