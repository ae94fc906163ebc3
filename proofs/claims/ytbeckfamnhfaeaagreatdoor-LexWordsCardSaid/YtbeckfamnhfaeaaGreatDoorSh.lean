/- What the library's functions answer, in the forms that the walks of this seat take. -/
import Derived.Test.YtbeckfamnhfaeaaGreatDoorLexX
import Derived.Test.YtbeckfamnhfaeaaGreatDoorLConv
import Derived.WalkKit
import Derived.WalkSpells
import Derived.Lib.QuietBelow
import Derived.BigQuiet
import Derived.IntWalk
import Derived.WalkLawsBesides
import Derived.Lib.Hide
import Derived.Lib.SplitLaws
import Derived.Below
namespace Go.Proofs.YtbeckfamnhfaeaaGreatDoor
open Go.RowKit

/-- internal/bytealg.MaxLen holds a number. -/
def Mx (w : World) : Prop := ∃ m : Int, w.cell? ⟨2, 0, none⟩ = some (.int .i64 m)
theorem count_nl (s : ByteArray) (w : World) : Calls Tryz.prog 43 #[.string s, .string ⟨#[10]⟩] w fun e w' => e = .returned (.int .i64 (nl s.data.toList : Int)) ∧ w = w' :=
  (Tryz.strings_Count_one s 10 w).mono fun _ _ ⟨a, b⟩ => ⟨a, b.symm⟩
theorem cut_call (f p : ByteArray) (w : World) (hs : f.size ≤ 1000000) (h : Mx w) : Calls Tryz.prog 45 #[.string f, .string p] w fun e w' =>
    e = .returned (.tuple #[.string ⟨(Lib.cut f.data.toList p.data.toList).1.toArray⟩, .string ⟨(Lib.cut f.data.toList p.data.toList).2.1.toArray⟩, .bool (Lib.cut f.data.toList p.data.toList).2.2]) ∧ ∃ n, w' = w.drewN n := by
  obtain ⟨m, hm⟩ := h
  exact Tryz.strings_Cut f p m w (by omega) hm
theorem cutP_call (t p : ByteArray) (w : World) : Calls Tryz.prog 68 #[.string t, .string p] w fun e w' => e = .returned (.tuple #[.string ⟨(Lib.trimPrefix t.data.toList p.data.toList).toArray⟩, .bool (Lib.hasPrefix t.data.toList p.data.toList)]) ∧ w = w' :=
  (Tryz.strings_CutPrefix t p w).mono fun _ _ ⟨a, b⟩ => ⟨a, b.symm⟩
theorem trimL_eq (s : ByteArray) (w : World) : Calls Tryz.prog 69 #[.string s, .string ⟨#[61]⟩] w fun e w' => e = .returned (.string ⟨(Lib.trimLeftB s.data.toList 61).toArray⟩) ∧ w = w' :=
  (Tryz.strings_TrimLeft_one s 61 (by decide) w).mono fun _ _ ⟨a, b⟩ => ⟨a, b.symm⟩
theorem repl_call (s : ByteArray) (w : World) (hs : s.size ≤ 1000000) (h : Mx w) : Calls Tryz.prog 50 #[.string s, .string ⟨#[91]⟩, .string ⟨#[93]⟩] w fun e w' => e = .returned (.string ⟨(clo s.data.toList).toArray⟩) ∧ Below w.heap.size w w' := by
  obtain ⟨m, hm⟩ := h
  have h1 := Lib.countB_le (⟨#[91]⟩ : ByteArray) (by decide) s.size s (Nat.le_refl _)
  have h2 : (⟨#[93]⟩ : ByteArray).size = 1 := rfl
  exact Tryz.strings_ReplaceAll s ⟨#[91]⟩ ⟨#[93]⟩ m w (by omega) hm (by decide) (by rw [h2]; omega)
theorem trimP_nl (t : ByteArray) (w : World) : Calls Tryz.prog 51 #[.string t, .string ⟨#[10]⟩] w fun e w' => e = .returned (.string ⟨(Lib.trimPrefix t.data.toList [10]).toArray⟩) ∧ w = w' :=
  (Tryz.strings_TrimPrefix t ⟨#[10]⟩ w).mono fun _ _ ⟨a, b⟩ => ⟨a, b.symm⟩
theorem indexB_call (s : ByteArray) (c : UInt8) (w : World) : Calls Tryz.prog 65 #[.string s, .int .u8 (c.toNat : Int)] w fun e w' => e = .returned (.int .i64 (Lib.indexByte s.data.toList c)) ∧ w = w' :=
  (Tryz.strings_IndexByte s (c.toNat : Int) w).mono fun _ _ ⟨a, b⟩ => ⟨by rw [a]; congr 3; simp, b.symm⟩
end Go.Proofs.YtbeckfamnhfaeaaGreatDoor
