/- tree.word: the word that stands for a Kind. -/
import Derived.Test.YtjlpklhibdkmeaaGreatDoorMem
import Derived.Laws.Rows
import Derived.RangeFuncBox
import Derived.Maps.AppendAt
import Derived.Great.Walk
import Derived.Deep.Cut
namespace Go.Proofs.YtjlpklhibdkmeaaGreatDoor
open Go.RowKit

/-- The words as one array. -/
def kwA : Array Value := #[.string ⟨#[]⟩, .string ⟨#[110, 105, 108]⟩, .string ⟨#[116, 114, 117, 101]⟩, .string ⟨#[102, 97, 108, 115, 101]⟩, .string ⟨#[105, 110, 116]⟩, .string ⟨#[115, 116, 114]⟩, .string ⟨#[109, 97, 110, 121]⟩, .string ⟨#[110, 97, 109, 101]⟩, .string ⟨#[105, 110, 100, 101, 120]⟩, .string ⟨#[99, 97, 108, 108]⟩, .string ⟨#[109, 101, 116, 104, 111, 100]⟩, .string ⟨#[102, 117, 110, 99]⟩, .string ⟨#[98, 105, 110, 97, 114, 121]⟩, .string ⟨#[117, 110, 97, 114, 121]⟩, .string ⟨#[112, 97, 114, 101, 110]⟩, .string ⟨#[116, 97, 98, 108, 101]⟩, .string ⟨#[112, 111, 115]⟩, .string ⟨#[107, 101, 121]⟩, .string ⟨#[98, 108, 111, 99, 107]⟩, .string ⟨#[108, 111, 99, 97, 108]⟩, .string ⟨#[97, 115, 115, 105, 103, 110]⟩, .string ⟨#[100, 111, 45, 99, 97, 108, 108]⟩, .string ⟨#[100, 111]⟩, .string ⟨#[119, 104, 105, 108, 101]⟩, .string ⟨#[114, 101, 112, 101, 97, 116]⟩, .string ⟨#[105, 102]⟩, .string ⟨#[102, 111, 114]⟩, .string ⟨#[101, 97, 99, 104]⟩, .string ⟨#[108, 111, 99, 97, 108, 45, 102, 117, 110, 99]⟩, .string ⟨#[114, 101, 116, 117, 114, 110]⟩, .string ⟨#[98, 114, 101, 97, 107]⟩, .string ⟨#[103, 111, 116, 111]⟩, .string ⟨#[108, 97, 98, 101, 108]⟩]
def kwL : List ByteArray := [⟨#[]⟩, ⟨#[110, 105, 108]⟩, ⟨#[116, 114, 117, 101]⟩, ⟨#[102, 97, 108, 115, 101]⟩, ⟨#[105, 110, 116]⟩, ⟨#[115, 116, 114]⟩, ⟨#[109, 97, 110, 121]⟩, ⟨#[110, 97, 109, 101]⟩, ⟨#[105, 110, 100, 101, 120]⟩, ⟨#[99, 97, 108, 108]⟩, ⟨#[109, 101, 116, 104, 111, 100]⟩, ⟨#[102, 117, 110, 99]⟩, ⟨#[98, 105, 110, 97, 114, 121]⟩, ⟨#[117, 110, 97, 114, 121]⟩, ⟨#[112, 97, 114, 101, 110]⟩, ⟨#[116, 97, 98, 108, 101]⟩, ⟨#[112, 111, 115]⟩, ⟨#[107, 101, 121]⟩, ⟨#[98, 108, 111, 99, 107]⟩, ⟨#[108, 111, 99, 97, 108]⟩, ⟨#[97, 115, 115, 105, 103, 110]⟩, ⟨#[100, 111, 45, 99, 97, 108, 108]⟩, ⟨#[100, 111]⟩, ⟨#[119, 104, 105, 108, 101]⟩, ⟨#[114, 101, 112, 101, 97, 116]⟩, ⟨#[105, 102]⟩, ⟨#[102, 111, 114]⟩, ⟨#[101, 97, 99, 104]⟩, ⟨#[108, 111, 99, 97, 108, 45, 102, 117, 110, 99]⟩, ⟨#[114, 101, 116, 117, 114, 110]⟩, ⟨#[98, 114, 101, 97, 107]⟩, ⟨#[103, 111, 116, 111]⟩, ⟨#[108, 97, 98, 101, 108]⟩]
def wordK (k : Nat) : ByteArray := kwL.getD k ⟨#[]⟩
theorem kwA_is : kwA = (kwL.map Value.string).toArray := by kernel_rfl
theorem kwA_at {k : Nat} (h : k ≤ 32) : kwA[k]? = some (.string (wordK k)) := by
  rw [kwA_is, List.getElem?_toArray, List.getElem?_map]
  have hl : k < kwL.length := by show k < 33; omega
  unfold wordK
  rw [List.getD_eq_getElem?_getD, List.getElem?_eq_getElem hl]
  rfl
theorem kwL_len : kwL.all (fun s => decide (s.size ≤ 10)) = true := by decide +kernel
theorem wordK_len (k : Nat) : (wordK k).size ≤ 10 := by
  unfold wordK
  rw [List.getD_eq_getElem?_getD]
  cases h : kwL[k]? with
  | none => exact Nat.zero_le _
  | some s => exact of_decide_eq_true (List.all_eq_true.1 kwL_len s (List.mem_of_getElem? h))
set_option maxHeartbeats 2000000 in
set_option maxRecDepth 100000 in
theorem word_k (k : Nat) (hk : k ≤ 32) (w : World) : Calls Tryz.prog 26 #[.int .i64 (k : Int)] w fun e w' => e = .returned (.string (wordK k)) ∧ Below w.heap.size w w' := by
  go_enter Tryz.func26, Tryz.ntmps26
  go_upto_region 1 with (fail)
  refine wp_region_lit ?_
  refine wpList_build rfl 72 _ rfl (by kernel_rfl) ?_
  rename_i K hK
  generalize hb : (Tryz.prog.built 72 _).getD #[] = cs
  have hcs : cs = kwA := by rw [← hb]; kernel_rfl
  clear hb
  subst hcs
  refine Great.wpList_allocTo rfl _ rfl (.pointer (some ⟨w.heap.size, 0, none⟩)) (.cells (kwA.map fun _ => .string ⟨#[]⟩) 72) (by kernel_rfl) ?_
  refine wpList_store_row rfl 72 _ _ rfl w.heap.size kwA rfl rfl 72 _ (heap_alloc_new w _) (by kernel_rfl) (by kernel_rfl) (by kernel_rfl) ?_
  refine wpList_nil (hK _ _ ?_)
  generalize hW : (World.setRow _ w.heap.size kwA) = W
  have hblk : W.heap[w.heap.size]? = some (.cells kwA 72 (0, 0)) := by rw [← hW]; exact setRow_heap _ _ _ _ _ _ (heap_alloc_new w _)
  have hbel : Below w.heap.size w W := by
    rw [← hW]
    exact ((Below.refl _ _).alloc (Nat.le_refl _) _).trans ⟨rfl, rfl, rfl, by simp [World.setRow], fun k hk => setRow_other _ _ _ _ (by omega)⟩
  have hc : W.cell? ⟨w.heap.size, k, none⟩ = some (.string (wordK k)) := (cell_of_row W w.heap.size k _ 72 (0, 0) hblk).trans (kwA_at hk)
  have HBEL := Lib.hid hbel
  clear hW hblk hbel hK
  generalize kwA = kk at *
  go_wp2_with fail
  go_ret
  exact ⟨rfl, HBEL.out⟩
end Go.Proofs.YtjlpklhibdkmeaaGreatDoor
