/- selkielaw01.ValueMade answers true at every number, text and truth, wherever the table of powers lies as the program's text lays it. -/
import Derived.Test.YtodlamblemmckaaDoorAli
namespace Go.Proofs.YtodlamblemmckaaDoor
open Go.RowKit Go.Sort

theorem truth_is (k n : Int) (s : ByteArray) (r : Bool) (w : World) (h : truB k n = r) : Calls Tryd.prog 12 #[V k n s] w fun e w' => e = .returned (.bool r) ∧ Below w.heap.size w w' := h ▸ truth_any k n s w
theorem type_is (k n : Int) (s t : ByteArray) (w : World) (h : typB k = t) : Calls Tryd.prog 14 #[V k n s] w fun e w' => e = .returned (.string t) ∧ Below w.heap.size w w' := h ▸ type_any k n s w
theorem own_is (k n : Int) (s : ByteArray) (k' n' : Int) (s' : ByteArray) (w : World) (h : ownK k = k' ∧ ownN k n = n' ∧ ownS k s = s') : Calls Tryd.prog 18 #[V k n s] w fun e w' => e = .returned (V k' n' s') ∧ Below w.heap.size w w' := by
  obtain ⟨rfl, rfl, rfl⟩ := h
  exact own_any k n s w

theorem md_print (s : ByteArray) (w : World) (hT : Tab w) : Calls Tryd.prog 16 #[V 3 0 s] w fun e w' => e = .returned (.string s) ∧ Below w.heap.size w w' := by
  have h := print_any 3 0 s w hT (by omega) (by omega)
  have e : prnB 3 0 s = s := by simp [prnB]
  rw [e] at h
  exact h

theorem tru2 (n : Int) : truB 2 n = true := rfl
theorem tru3 (n : Int) : truB 3 n = true := rfl
theorem typ2 : typB 2 = ⟨#[110, 117, 109, 98, 101, 114]⟩ := rfl
theorem typ3 : typB 3 = ⟨#[115, 116, 114, 105, 110, 103]⟩ := rfl

theorem tru10 : truB 1 0 = false := rfl
theorem tru11 : truB 1 1 = true := rfl
theorem at_new2 (w : World) (o o' : Obj) (k n : Int) (s : ByteArray) : At (((w.alloc o).alloc o').alloc (vcells k n s)) (w.heap.size + 1 + 1) k n s := by
  have h := at_new ((w.alloc o).alloc o') k n s
  simpa using h

set_option maxHeartbeats 1600000 in
theorem made_false (n : Int) (s : ByteArray) (w : World) (hT : Tab w) (hs : ¬ 100000 < s.size) :
    Calls Tryd.prog 7 #[.int .i64 n, .string s, .bool false] w fun e w' => e = .returned (.bool true) ∧ Below w.heap.size w w' := by
  have HT := Lib.hid hT
  have hs' : (s.size : Int) ≤ 100000 := by omega
  clear hT hs
  go_enter Tryd.func7, Tryd.ntmps7
  go_wp2_with fail
  refine (alive_any _ HT.out).mono ?_; rintro e w1 ⟨rfl, b1⟩
  go_wp2_with fail
  refine (ofInt_any _ _).mono ?_; rintro e w2 ⟨rfl, b2⟩
  replace b2 := thenB b1 b2; clear b1
  go_wp2_with fail
  refine (ofStr_any _ _).mono ?_; rintro e w3 ⟨rfl, b3⟩
  replace b3 := thenB b2 b3; clear b2
  go_wp2_with fail
  refine (al_false _).mono ?_; rintro e w4 ⟨rfl, b4⟩
  replace b4 := thenB b3 b4; clear b3
  go_wp2_with fail
  generalize hW : (((w4.alloc (vcells 2 n noS)).alloc (vcells 3 0 s)).alloc (vcells 1 0 noS)) = W
  have hX : At W w4.heap.size 2 n noS := by subst hW; exact ((at_new w4 2 n noS).alloc _).alloc _
  have hY : At W (w4.heap.size + 1) 3 0 s := by subst hW; exact (at_new1 w4 (vcells 2 n noS) 3 0 s).alloc _
  have hZ : At W (w4.heap.size + 1 + 1) 1 0 noS := by subst hW; exact at_new2 w4 (vcells 2 n noS) (vcells 3 0 s) 1 0 noS
  have HB : Hid (Below w.heap.size w W) := by subst hW; exact thenB b4 (below3 _ _ _ _)
  clear hW b4
  have x0 := cell_regrown hX.c0; have x1 := cell_regrown hX.c1; have x2 := cell_regrown hX.c2
  have y0 := cell_regrown hY.c0; have y1 := cell_regrown hY.c1; have y2 := cell_regrown hY.c2
  have z0 := cell_regrown hZ.c0; have z1 := cell_regrown hZ.c1; have z2 := cell_regrown hZ.c2
  clear hX hY hZ
  refine wp_region_quiet_below (by kernel_rfl) (by kernel_rfl) ?_
  repeat (first | go_big_quiet_step (first
      | (go_at_call 16; exact Calls.regrown_of (md_print s _ ((HT.out.below HB.out).below (below_regrown _ _ _))))
      | (go_at_call 12; exact Calls.regrown_of (truth_is _ _ _ _ _ (by first | exact tru2 _ | exact tru3 _ | exact tru10)))
      | (go_at_call 14; exact Calls.regrown_of (type_is _ _ _ _ _ (by first | exact typ2 | exact typ3)))
      | (go_at_call 18; exact Calls.regrown_of (own_is 1 0 noS 1 0 noS _ ⟨rfl, rfl, rfl⟩))))
  refine wpQuiet_nil ?_
  intro _ hw'
  obtain ⟨⟨dq, osq⟩, hw''⟩ := hw'
  subst hw''
  go_wp2
  go_ret
  exact ⟨rfl, HB.out.trans ((below_regrown W dq osq).mono HB.out.size)⟩

set_option maxHeartbeats 1600000 in
theorem made_true (n : Int) (s : ByteArray) (w : World) (hT : Tab w) (hs : ¬ 100000 < s.size) :
    Calls Tryd.prog 7 #[.int .i64 n, .string s, .bool true] w fun e w' => e = .returned (.bool true) ∧ Below w.heap.size w w' := by
  have HT := Lib.hid hT
  have hs' : (s.size : Int) ≤ 100000 := by omega
  clear hT hs
  go_enter Tryd.func7, Tryd.ntmps7
  go_wp2_with fail
  refine (alive_any _ HT.out).mono ?_; rintro e w1 ⟨rfl, b1⟩
  go_wp2_with fail
  refine (ofInt_any _ _).mono ?_; rintro e w2 ⟨rfl, b2⟩
  replace b2 := thenB b1 b2; clear b1
  go_wp2_with fail
  refine (ofStr_any _ _).mono ?_; rintro e w3 ⟨rfl, b3⟩
  replace b3 := thenB b2 b3; clear b2
  go_wp2_with fail
  refine (al_true _).mono ?_; rintro e w4 ⟨rfl, b4⟩
  replace b4 := thenB b3 b4; clear b3
  go_wp2_with fail
  generalize hW : (((w4.alloc (vcells 2 n noS)).alloc (vcells 3 0 s)).alloc (vcells 1 1 noS)) = W
  have hX : At W w4.heap.size 2 n noS := by subst hW; exact ((at_new w4 2 n noS).alloc _).alloc _
  have hY : At W (w4.heap.size + 1) 3 0 s := by subst hW; exact (at_new1 w4 (vcells 2 n noS) 3 0 s).alloc _
  have hZ : At W (w4.heap.size + 1 + 1) 1 1 noS := by subst hW; exact at_new2 w4 (vcells 2 n noS) (vcells 3 0 s) 1 1 noS
  have HB : Hid (Below w.heap.size w W) := by subst hW; exact thenB b4 (below3 _ _ _ _)
  clear hW b4
  have x0 := cell_regrown hX.c0; have x1 := cell_regrown hX.c1; have x2 := cell_regrown hX.c2
  have y0 := cell_regrown hY.c0; have y1 := cell_regrown hY.c1; have y2 := cell_regrown hY.c2
  have z0 := cell_regrown hZ.c0; have z1 := cell_regrown hZ.c1; have z2 := cell_regrown hZ.c2
  clear hX hY hZ
  refine wp_region_quiet_below (by kernel_rfl) (by kernel_rfl) ?_
  repeat (first | go_big_quiet_step (first
      | (go_at_call 16; exact Calls.regrown_of (md_print s _ ((HT.out.below HB.out).below (below_regrown _ _ _))))
      | (go_at_call 12; exact Calls.regrown_of (truth_is _ _ _ _ _ (by first | exact tru2 _ | exact tru3 _ | exact tru11)))
      | (go_at_call 14; exact Calls.regrown_of (type_is _ _ _ _ _ (by first | exact typ2 | exact typ3)))
      | (go_at_call 18; exact Calls.regrown_of (own_is 1 1 noS 1 1 noS _ ⟨rfl, rfl, rfl⟩))))
  refine wpQuiet_nil ?_
  intro _ hw'
  obtain ⟨⟨dq, osq⟩, hw''⟩ := hw'
  subst hw''
  go_wp2
  go_ret
  exact ⟨rfl, HB.out.trans ((below_regrown W dq osq).mono HB.out.size)⟩

set_option maxHeartbeats 800000 in
theorem made_any (n : Int) (s : ByteArray) (b : Bool) (w : World) (hT : Tab w) :
    Calls Tryd.prog 7 #[.int .i64 n, .string s, .bool b] w fun e w' => e = .returned (.bool true) ∧ Below w.heap.size w w' := by
  by_cases hs : 100000 < s.size
  · have HT := Lib.hid hT
    have hs' : (100000 : Int) < (s.size : Int) := by omega
    clear hT hs
    go_enter Tryd.func7, Tryd.ntmps7
    go_wp2_with fail
    refine (alive_any _ HT.out).mono ?_; rintro e w1 ⟨rfl, b1⟩
    go_wp2_with fail
    go_ret
    exact ⟨rfl, b1⟩
  · cases b
    · exact made_false n s w hT hs
    · exact made_true n s w hT hs
end Go.Proofs.YtodlamblemmckaaDoor
