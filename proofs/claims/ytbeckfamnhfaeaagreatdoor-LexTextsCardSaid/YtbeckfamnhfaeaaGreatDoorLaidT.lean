/- The table of the powers of ten is one of the listed variables. -/
import Derived.Test.YtbeckfamnhfaeaaGreatDoorLaid
import Derived.Test.YtbeckfamnhfaeaaGreatDoorPx
namespace Go.Proofs.YtbeckfamnhfaeaaGreatDoor
open Go.ChangeShapes Go.WideShapes Go.ChangeAt Go.WideMaps Go.WideElems Go.RowKit Go.ChangeMaps

theorem pow10_data : (Rows.laid_internal_strconv_uint64pow10 : DataW Unit) = Lib.tabData .u64 Lib.pow10Tab := by kernel_rfl
theorem tab_of {W : World} (h : laidMetH Tryz.prog laid6 W) : Tab W := by
  have h' : laidMet Tryz.prog plain6 W ∧ handlesMet Tryz.prog [("errors.errorType", Rows.laid_errors_errorType)] W := h
  have h3 := h'.1.tail.tail
  rw [pow10_data] at h3
  exact Lib.tabIs_of_head (g := 1) (by kernel_rfl) (by kernel_rfl) (t := 118) (e := 83) (n := 20) (by kernel_rfl) (by kernel_rfl) (by kernel_rfl) (by kernel_rfl) h3
end Go.Proofs.YtbeckfamnhfaeaaGreatDoor
