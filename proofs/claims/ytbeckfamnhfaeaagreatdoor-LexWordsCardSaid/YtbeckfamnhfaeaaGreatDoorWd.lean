/- lex.Word: whether a name is a keyword; lex.isSign: whether a text is a sign. -/
import Derived.Test.YtbeckfamnhfaeaaGreatDoorKd
namespace Go.Proofs.YtbeckfamnhfaeaaGreatDoor
open Go.RowKit
set_option maxHeartbeats 4000000 in
theorem word_any (s : ByteArray) (w : World) : Calls Tryz.prog 8 #[.string s] w fun e w' => e = .returned (.bool (wordB s.data.toList)) ∧ w = w' := by
  rw [← Lib.toList_data]
  go_enter Tryz.func8, Tryz.ntmps8
  go_wp2
  all_goals first
    | (go_ret; rename_i ha hb; rw [ha] at hb; cases hb; done)
    | (go_ret; exact ⟨ret_bool (by simp only [wordB, keys, List.contains_cons, List.contains_nil, Bool.or_false, Bool.true_or, Bool.or_true, *]), rfl⟩)
set_option maxHeartbeats 4000000 in
theorem isSign_any (s : ByteArray) (w : World) : Calls Tryz.prog 52 #[.string s] w fun e w' => e = .returned (.bool (sgnB s.data.toList)) ∧ w = w' := by
  rw [← Lib.toList_data]
  go_enter Tryz.func52, Tryz.ntmps52
  go_wp2
  all_goals first
    | (go_ret; rename_i ha hb; rw [ha] at hb; cases hb; done)
    | (go_ret; exact ⟨ret_bool (by simp only [sgnB, signs, List.contains_cons, List.contains_nil, Bool.or_false, Bool.true_or, Bool.or_true, *]), rfl⟩)
end Go.Proofs.YtbeckfamnhfaeaaGreatDoor
