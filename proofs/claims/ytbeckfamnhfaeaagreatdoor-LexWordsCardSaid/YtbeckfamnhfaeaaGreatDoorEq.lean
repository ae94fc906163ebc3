/- Tokens held against each other; a slice's tokens read in a loop; sums of texts. -/
import Derived.Test.YtbeckfamnhfaeaaGreatDoorAl
import Derived.Test.YtbeckfamnhfaeaaGreatDoorLexS
import Derived.Laws.StructEq
namespace Go.Proofs.YtbeckfamnhfaeaaGreatDoor
open Go.RowKit

theorem tok_un : Tryz.prog.underlying 30 = some (.struct (Tryz.prog.fieldsOf 30)) := by kernel_rfl
theorem tok_st : Tryz.prog.stoodInHeld 30 = false := by kernel_rfl
theorem neq_same (x y z : Int) (S : ByteArray) (w : World) : (binOp .neq 30 (.agg #[.int .i64 x, .int .i64 y, .int .i64 z, .string S]) (.agg #[.int .i64 x, .int .i64 y, .int .i64 z, .string S])).run Tryz.prog w = .ok (.bool false) w := by
  rw [run_neq_struct, run_equalIn_agg w 9999 30 _ _ tok_un tok_st]
  simp [Program.fieldsOf, Tryz.underlying30, Op.eqFields, go_sem]
theorem eql_same (x y z : Int) (S : ByteArray) (w : World) : (binOp .eql 30 (.agg #[.int .i64 x, .int .i64 y, .int .i64 z, .string S]) (.agg #[.int .i64 x, .int .i64 y, .int .i64 z, .string S])).run Tryz.prog w = .ok (.bool true) w := by
  rw [run_eql_struct, run_equalIn_agg w 9999 30 _ _ tok_un tok_st]
  simp [Program.fieldsOf, Tryz.underlying30, Op.eqFields, go_sem]
theorem tok_guard (op : BinOp) (x y : Operand) (xs ys : Array Value) (w : World) : (eqGuard op 30 x y (.agg xs) (.agg ys)).run Tryz.prog w = .ok () w := run_eqGuard_agg w op 30 x y xs ys (by kernel_rfl)

/-- A token's cells, written out. -/
structure TkAt (W : World) (g o : Nat) (kd ln n : Int) (S : ByteArray) : Prop where
  c0 : W.cell? ⟨g, o, none⟩ = some (.int .i64 kd)
  c1 : W.cell? ⟨g, o + 1, none⟩ = some (.int .i64 ln)
  c2 : W.cell? ⟨g, o + 2, none⟩ = some (.int .i64 n)
  c3 : W.cell? ⟨g, o + 3, none⟩ = some (.string S)
theorem nl_append (a b : ByteArray) : (a ++ b).data.toList = a.data.toList ++ b.data.toList := by rw [ByteArray.data_append]; simp
theorem lastL_eq (s : ByteArray) : lastL s = 1 + (nl s.data.toList : Int) := rfl

/-- Two sources, a blank line between. -/
theorem rows_pure {a b : List UInt8} {l m : List Tk} (ha : LexR (1 + (nl a : Int)) a (.ok l)) (hb : LexR (1 + (nl b : Int)) b (.ok m)) :
    ∃ T, l = T ++ [(0, 1 + (nl a : Int), 0, [])] ∧ LexR (1 + (nl (a ++ [10, 10] ++ b) : Int)) (a ++ [10, 10] ++ b) (.ok (T ++ m.map (onL ((nl a : Int) + 2)))) := by
  obtain ⟨T, h1, h2⟩ := ha.app rfl
  refine ⟨T, h1, ?_⟩
  have e1 : a ++ [10, 10] ++ b = a ++ 10 :: (10 :: b) := by simp
  have e2 : nl (10 :: 10 :: b) = nl b + 2 := by
    unfold nl Lib.countByte
    simp
  have e3 : (1 + (nl (a ++ 10 :: 10 :: b) : Int)) = 1 + (nl a : Int) + (nl (10 :: 10 :: b) : Int) := by rw [nl_app]; omega
  rw [e1, e3]
  have hm := hb.onL ((nl a : Int) + 2) rfl
  rw [show (1 : Int) + (nl b : Int) + ((nl a : Int) + 2) = 1 + (nl a : Int) + (nl (10 :: 10 :: b) : Int) by rw [e2]; omega] at hm
  refine h2 (10 :: b) (.ok (m.map (onL ((nl a : Int) + 2)))) (hm.of_skip fun h => h.of_dw ?_)
  simp [blB, blkB]
end Go.Proofs.YtbeckfamnhfaeaaGreatDoor
