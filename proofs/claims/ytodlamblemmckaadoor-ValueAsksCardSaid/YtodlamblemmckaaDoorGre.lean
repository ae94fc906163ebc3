/- selkielaw01.great: whether one of at most three values holds a long text. -/
import Derived.Test.YtodlamblemmckaaDoorRaw
import Derived.LoopTactic
namespace Go.Proofs.YtodlamblemmckaaDoor
open Go.RowKit Go.Sort

/-- In the world W the block b holds L values, one behind the other. -/
def Row (W : World) (b L : Nat) (K N : Nat → Int) (S : Nat → ByteArray) : Prop :=
  ∀ i, i < L → W.cell? ⟨b, i * 3, none⟩ = some (.int .i64 (K i)) ∧ W.cell? ⟨b, i * 3 + 1, none⟩ = some (.int .i64 (N i)) ∧ W.cell? ⟨b, i * 3 + 2, none⟩ = some (.string (S i))
theorem Row.below {W W' : World} {b L : Nat} {K N : Nat → Int} {S : Nat → ByteArray} (h : Row W b L K N S) (hb : Below W.heap.size W W') : Row W' b L K N S := fun i hi =>
  have lt := block_lt_of_cell (h i hi).1
  ⟨(hb.cell (p := ⟨b, i * 3, none⟩) lt).trans (h i hi).1, (hb.cell (p := ⟨b, i * 3 + 1, none⟩) lt).trans (h i hi).2.1, (hb.cell (p := ⟨b, i * 3 + 2, none⟩) lt).trans (h i hi).2.2⟩

def someBig (L : Nat) (S : Nat → ByteArray) : Prop := ∃ i, i < L ∧ 100000 < (S i).size

def Bool1 (p : Prop) (w : World) (e : Ending) (w' : World) : Prop := ∃ r : Bool, (r = true ↔ p) ∧ e = .returned (.bool r) ∧ Below w.heap.size w w'

set_option maxHeartbeats 400000 in
theorem great_any (b L : Nat) (K N : Nat → Int) (S : Nat → ByteArray) (w : World) (hL : L ≤ 3) (hR : Row w b L K N S) :
    Calls Tryd.prog 9 #[.slice (some ⟨b, 0, none⟩) L L] w (Bool1 (someBig L S) w) := by
  have HR := Lib.hid hR
  clear hR
  go_enter Tryd.func9, Tryd.ntmps9
  go_wp2
  go_loopw [7] (fun i wr => ∃ k : Nat, k ≤ L ∧ i = .int .i64 k ∧ Hid (∀ j, j < k → (S j).size ≤ 100000) ∧ Hid (Below w.heap.size w wr)) (fun i _ => L - (intOf i).toNat)
  case atStart => exact ⟨0, Nat.zero_le _, rfl, fun j hj => absurd hj (by omega), Below.refl _ _⟩
  case round =>
    obtain ⟨k, hk, rfl, hsm, hB⟩ := hrel
    by_cases hlt : k < L
    · have hlt' : (k : Int) < (L : Int) := by omega
      obtain ⟨c0, c1, c2⟩ := (HR.out.below hB.out) k hlt
      by_cases hs : 100000 < (S k).size
      · have hs' : (100000 : Int) < ((S k).size : Int) := by omega
        go_wp2
        go_ret
        exact ⟨true, ⟨fun _ => ⟨k, hlt, hs⟩, fun _ => rfl⟩, rfl, hB.out.alloc hB.out.size _⟩
      · have hs' : ((S k).size : Int) ≤ 100000 := by omega
        go_wp2
        go_roundw
        case rel => exact ⟨k + 1, by omega, by go_num, fun j hj => by
          by_cases e : j = k
          · subst e; omega
          · exact hsm.out j (by omega), hB.out.alloc hB.out.size _⟩
        case measure => simp [intOf]; omega
    · have : k = L := by omega
      subst this
      go_wp2
      go_ret
      exact ⟨false, ⟨fun h => (Bool.noConfusion h), fun ⟨i, hi, h⟩ => absurd (hsm.out i hi) (by omega)⟩, rfl, hB.out⟩
end Go.Proofs.YtodlamblemmckaaDoor
