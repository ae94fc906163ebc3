/- The document's Word: whether a name is a keyword. -/
import Derived.Test.YtbeckfamnhfaeaaGreatDoorAl
import Derived.Laws.Rows
namespace Go.Proofs.YtbeckfamnhfaeaaGreatDoor
open Go.RowKit

/-- The keywords as one array. -/
def kwA : Array Value := #[.string ⟨#[97, 110, 100]⟩, .string ⟨#[98, 114, 101, 97, 107]⟩, .string ⟨#[100, 111]⟩, .string ⟨#[101, 108, 115, 101]⟩, .string ⟨#[101, 108, 115, 101, 105, 102]⟩, .string ⟨#[101, 110, 100]⟩, .string ⟨#[102, 97, 108, 115, 101]⟩, .string ⟨#[102, 111, 114]⟩, .string ⟨#[102, 117, 110, 99, 116, 105, 111, 110]⟩, .string ⟨#[103, 111, 116, 111]⟩, .string ⟨#[105, 102]⟩, .string ⟨#[105, 110]⟩, .string ⟨#[108, 111, 99, 97, 108]⟩, .string ⟨#[110, 105, 108]⟩, .string ⟨#[110, 111, 116]⟩, .string ⟨#[111, 114]⟩, .string ⟨#[114, 101, 112, 101, 97, 116]⟩, .string ⟨#[114, 101, 116, 117, 114, 110]⟩, .string ⟨#[116, 104, 101, 110]⟩, .string ⟨#[116, 114, 117, 101]⟩, .string ⟨#[117, 110, 116, 105, 108]⟩, .string ⟨#[119, 104, 105, 108, 101]⟩]
set_option maxHeartbeats 2000000 in
set_option maxRecDepth 100000 in
theorem words_any (w : World) : Calls Tryz.prog 13 #[] w fun e w' => e = .returned (.agg kwA) ∧ Below w.heap.size w w' := by
  go_enter Tryz.func13, Tryz.ntmps13
  go_upto_region 1 with (fail)
  refine wp_region_lit ?_
  refine wpList_build rfl 39 _ rfl (by kernel_rfl) ?_
  rename_i K hK
  generalize hb : (Tryz.prog.built 39 _).getD #[] = cs
  have hcs : cs = kwA := by rw [← hb]; kernel_rfl
  clear hb
  subst hcs
  refine wpList_store_row rfl 39 _ _ rfl w.heap.size kwA rfl rfl 39 _ (World.alloc_heap_new w _) (by kernel_rfl) (by kernel_rfl) (by kernel_rfl) ?_
  refine wpList_nil (hK _ _ ?_)
  generalize hW : (World.setRow _ w.heap.size kwA) = W
  have hblk : W.heap[w.heap.size]? = some (.cells kwA 39 (0, 0)) := by rw [← hW]; exact setRow_heap _ _ _ _ _ _ (World.alloc_heap_new w _)
  have hbel : Below w.heap.size w W := by
    rw [← hW]
    exact ((Below.refl _ _).alloc (Nat.le_refl _) _).trans ⟨rfl, rfl, rfl, by simp [World.setRow], fun k hk => setRow_other _ _ _ _ (by omega)⟩
  have HLV := Lib.hid (run_loadVar_row (P := Tryz.prog) W w.heap.size 39 39 kwA (0, 0) _ hblk Tryz.underlying39 rfl (by kernel_rfl))
  clear hW hblk
  go_wp2_with fail
  refine bodyPost_ret (v := .agg kwA) ?_ rfl ⟨rfl, hbel⟩
  have hlv := HLV.out
  generalize kwA = kk at *
  simp [results, Tryz.results13, asAddr, hlv]
/-- The k-th keyword. -/
def kwK (k : Nat) : ByteArray := ⟨(keys.getD k []).toArray⟩
theorem kw0 (w : World) : (Instr.index 39 (.agg kwA) (.int .i64 0)).run Tryz.prog w = .ok (.string (kwK 0)) w := by kernel_rfl
theorem kw1 (w : World) : (Instr.index 39 (.agg kwA) (.int .i64 1)).run Tryz.prog w = .ok (.string (kwK 1)) w := by kernel_rfl
theorem kw2 (w : World) : (Instr.index 39 (.agg kwA) (.int .i64 2)).run Tryz.prog w = .ok (.string (kwK 2)) w := by kernel_rfl
theorem kw3 (w : World) : (Instr.index 39 (.agg kwA) (.int .i64 3)).run Tryz.prog w = .ok (.string (kwK 3)) w := by kernel_rfl
theorem kw4 (w : World) : (Instr.index 39 (.agg kwA) (.int .i64 4)).run Tryz.prog w = .ok (.string (kwK 4)) w := by kernel_rfl
theorem kw5 (w : World) : (Instr.index 39 (.agg kwA) (.int .i64 5)).run Tryz.prog w = .ok (.string (kwK 5)) w := by kernel_rfl
theorem kw6 (w : World) : (Instr.index 39 (.agg kwA) (.int .i64 6)).run Tryz.prog w = .ok (.string (kwK 6)) w := by kernel_rfl
theorem kw7 (w : World) : (Instr.index 39 (.agg kwA) (.int .i64 7)).run Tryz.prog w = .ok (.string (kwK 7)) w := by kernel_rfl
theorem kw8 (w : World) : (Instr.index 39 (.agg kwA) (.int .i64 8)).run Tryz.prog w = .ok (.string (kwK 8)) w := by kernel_rfl
theorem kw9 (w : World) : (Instr.index 39 (.agg kwA) (.int .i64 9)).run Tryz.prog w = .ok (.string (kwK 9)) w := by kernel_rfl
theorem kw10 (w : World) : (Instr.index 39 (.agg kwA) (.int .i64 10)).run Tryz.prog w = .ok (.string (kwK 10)) w := by kernel_rfl
theorem kw11 (w : World) : (Instr.index 39 (.agg kwA) (.int .i64 11)).run Tryz.prog w = .ok (.string (kwK 11)) w := by kernel_rfl
theorem kw12 (w : World) : (Instr.index 39 (.agg kwA) (.int .i64 12)).run Tryz.prog w = .ok (.string (kwK 12)) w := by kernel_rfl
theorem kw13 (w : World) : (Instr.index 39 (.agg kwA) (.int .i64 13)).run Tryz.prog w = .ok (.string (kwK 13)) w := by kernel_rfl
theorem kw14 (w : World) : (Instr.index 39 (.agg kwA) (.int .i64 14)).run Tryz.prog w = .ok (.string (kwK 14)) w := by kernel_rfl
theorem kw15 (w : World) : (Instr.index 39 (.agg kwA) (.int .i64 15)).run Tryz.prog w = .ok (.string (kwK 15)) w := by kernel_rfl
theorem kw16 (w : World) : (Instr.index 39 (.agg kwA) (.int .i64 16)).run Tryz.prog w = .ok (.string (kwK 16)) w := by kernel_rfl
theorem kw17 (w : World) : (Instr.index 39 (.agg kwA) (.int .i64 17)).run Tryz.prog w = .ok (.string (kwK 17)) w := by kernel_rfl
theorem kw18 (w : World) : (Instr.index 39 (.agg kwA) (.int .i64 18)).run Tryz.prog w = .ok (.string (kwK 18)) w := by kernel_rfl
theorem kw19 (w : World) : (Instr.index 39 (.agg kwA) (.int .i64 19)).run Tryz.prog w = .ok (.string (kwK 19)) w := by kernel_rfl
theorem kw20 (w : World) : (Instr.index 39 (.agg kwA) (.int .i64 20)).run Tryz.prog w = .ok (.string (kwK 20)) w := by kernel_rfl
theorem kw21 (w : World) : (Instr.index 39 (.agg kwA) (.int .i64 21)).run Tryz.prog w = .ok (.string (kwK 21)) w := by kernel_rfl
theorem kw_run (k : Nat) (hk : k < 22) (w : World) : (Instr.index 39 (.agg kwA) (.int .i64 (k : Int))).run Tryz.prog w = .ok (.string (kwK k)) w := by
  rcases (show k = 0 ∨ k = 1 ∨ k = 2 ∨ k = 3 ∨ k = 4 ∨ k = 5 ∨ k = 6 ∨ k = 7 ∨ k = 8 ∨ k = 9 ∨ k = 10 ∨ k = 11 ∨ k = 12 ∨ k = 13 ∨ k = 14 ∨ k = 15 ∨ k = 16 ∨ k = 17 ∨ k = 18 ∨ k = 19 ∨ k = 20 ∨ k = 21 by omega) with rfl | rfl | rfl | rfl | rfl | rfl | rfl | rfl | rfl | rfl | rfl | rfl | rfl | rfl | rfl | rfl | rfl | rfl | rfl | rfl | rfl | rfl
  · exact kw0 w
  · exact kw1 w
  · exact kw2 w
  · exact kw3 w
  · exact kw4 w
  · exact kw5 w
  · exact kw6 w
  · exact kw7 w
  · exact kw8 w
  · exact kw9 w
  · exact kw10 w
  · exact kw11 w
  · exact kw12 w
  · exact kw13 w
  · exact kw14 w
  · exact kw15 w
  · exact kw16 w
  · exact kw17 w
  · exact kw18 w
  · exact kw19 w
  · exact kw20 w
  · exact kw21 w
theorem kw_list (k : Nat) : (kwK k).toList = keys.getD k [] := by rw [Lib.toList_data]; rfl
set_option maxHeartbeats 2000000 in
set_option maxRecDepth 100000 in
theorem rword_any (s : ByteArray) (w : World) : Calls Tryz.prog 9 #[.string s] w fun e w' => e = .returned (.bool (wordB s.data.toList)) ∧ Below w.heap.size w w' := by
  have W1 := Lib.hid (words_any w)
  obtain ⟨kk, hkk⟩ : ∃ kk : Array Value, kk = kwA := ⟨_, rfl⟩
  have KR := Lib.hid (fun k hk w => kw_run k hk w)
  rw [← hkk] at W1 KR
  clear hkk
  rw [← Lib.toList_data]
  go_enter Tryz.func9, Tryz.ntmps9
  go_wp2_with fail
  refine W1.out.mono ?_; rintro e w1 ⟨rfl, b1⟩
  have B1 := Lib.hid b1
  clear b1
  go_wp2_with fail
  go_loop [6] (fun ii => ∃ k : Nat, k ≤ 22 ∧ ii = .int .i64 k ∧ ∀ j, j < k → (keys.getD j [] == s.toList) = false) (fun ii => 22 - (intOf ii).toNat)
  case atStart => exact ⟨0, by omega, rfl, fun j h => by omega⟩
  case round =>
    obtain ⟨k, hk, rfl, hall⟩ := hrel
    have HA := Lib.hid hall
    clear hall
    by_cases hlt : k < 22
    · have hrun := KR.out k hlt
      have hkl := kw_list k
      obtain ⟨K, hK⟩ : ∃ K : ByteArray, K = kwK k := ⟨_, rfl⟩
      rw [← hK] at hrun hkl
      have HK := Lib.hid hkl
      clear hK hkl
      cases e : K.toList == s.toList
      · have HE := Lib.hid e
        go_wp2_with fail
        go_round
        case rel => exact ⟨k + 1, by omega, by go_num, fun j hj => by
          by_cases hjk : j = k
          · rw [hjk, ← HK.out]; exact HE.out
          · exact HA.out j (by omega)⟩
        case measure => simp [intOf]; omega
      · have HE := Lib.hid e
        go_wp2_with fail
        go_ret
        refine ⟨ret_bool ?_, B1.out⟩
        have h1 : s.toList = keys.getD k [] := by rw [← HK.out]; exact (beq_iff_eq.1 HE.out).symm
        unfold wordB
        rw [h1]
        have hkl : k < keys.length := hlt
        rw [List.getD_eq_getElem?_getD, List.getElem?_eq_getElem hkl]
        exact (List.contains_iff_mem.2 (List.getElem_mem hkl)).symm
    · go_wp2_with fail
      go_ret
      refine ⟨ret_bool ?_, B1.out⟩
      symm
      unfold wordB
      rw [Bool.eq_false_iff]
      intro hc
      obtain ⟨j, hj, he⟩ := List.getElem_of_mem (List.contains_iff_mem.1 hc)
      have hj22 : j < 22 := hj
      have := HA.out j (by omega)
      rw [List.getD_eq_getElem?_getD, List.getElem?_eq_getElem hj, ← he] at this
      simp at this
end Go.Proofs.YtbeckfamnhfaeaaGreatDoor
