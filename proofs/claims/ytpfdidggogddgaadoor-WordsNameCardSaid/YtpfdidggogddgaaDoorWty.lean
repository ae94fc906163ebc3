/- A value's word (value.Type and the document's own Type), told as a plain function of the kind; no condition. -/
import Derived.Test.YtpfdidggogddgaaDoorCPrt
namespace Go.Proofs.YtpfdidggogddgaaDoor
open Go.RowKit Go.Sort

/-- The ten ways a kind can lie. -/
theorem kinds (k : Int) : k = 0 ∨ k = 1 ∨ k = 2 ∨ k = 3 ∨ k = 4 ∨ k = 5 ∨ k = 6 ∨ k = 7 ∨ k < 0 ∨ 7 < k := by omega

def strB (k : Int) : Bool := decide (k < 0) || decide (7 < k)
def typB (k : Int) : ByteArray :=
  if k = 0 then ⟨#[110, 105, 108]⟩ else if k = 1 then ⟨#[98, 111, 111, 108, 101, 97, 110]⟩ else if k = 2 then ⟨#[110, 117, 109, 98, 101, 114]⟩ else
  if k = 3 then ⟨#[115, 116, 114, 105, 110, 103]⟩ else if k = 4 then ⟨#[116, 97, 98, 108, 101]⟩ else if k = 5 then ⟨#[102, 117, 110, 99, 116, 105, 111, 110]⟩ else
  if k = 6 then ⟨#[102, 117, 110, 99, 116, 105, 111, 110]⟩ else if k = 7 then ⟨#[116, 104, 114, 101, 97, 100]⟩ else noS

theorem below2 (w : World) (a b : Obj) : Below w.heap.size w ((w.alloc a).alloc b) := (below1 w a).alloc (by simp) _
theorem below3 (w : World) (a b c : Obj) : Below w.heap.size w (((w.alloc a).alloc b).alloc c) := (below2 w a b).alloc (by simp; omega) _
theorem at_new1 (w : World) (o : Obj) (k n : Int) (s : ByteArray) : At ((w.alloc o).alloc (vcells k n s)) (w.heap.size + 1) k n s := by
  have h := at_new (w.alloc o) k n s
  simpa using h
theorem At.alloc {W : World} {b : Nat} {k n : Int} {s : ByteArray} (h : At W b k n s) (o : Obj) : At (W.alloc o) b k n s := h.below (below1 W o)

set_option maxHeartbeats 400000 in
theorem type_any (k n : Int) (s : ByteArray) (w : World) :
    Calls Tryd.prog 29 #[V k n s] w fun e w' => e = .returned (.string (typB k)) ∧ Below w.heap.size w w' := by
  rcases kinds k with rfl | rfl | rfl | rfl | rfl | rfl | rfl | rfl | h | h
  iterate 8
    · go_enter Tryd.func29, Tryd.ntmps29
      go_wp2
      go_ret
      exact ⟨rfl, below1 _ _⟩
  all_goals
    have e : typB k = noS := by unfold typB; repeat rw [if_neg (by omega)]
    rw [e]
    have g0 : (k == 0) = false := by simp; omega
    have g1 : (k == 1) = false := by simp; omega
    have g2 : (k == 2) = false := by simp; omega
    have g3 : (k == 3) = false := by simp; omega
    have g4 : (k == 4) = false := by simp; omega
    have g5 : (k == 5) = false := by simp; omega
    have g6 : (k == 6) = false := by simp; omega
    have g7 : (k == 7) = false := by simp; omega
    clear e
    go_enter Tryd.func29, Tryd.ntmps29
    go_wp2
    go_ret
    exact ⟨rfl, below1 _ _⟩

theorem word0 (w : World) (a b c d e f g h : ByteArray) : (Instr.index 41 (.agg #[.string a, .string b, .string c, .string d, .string e, .string f, .string g, .string h]) (.int .i64 0)).run Tryd.prog w = .ok (.string a) w := by kernel_rfl
theorem word1 (w : World) (a b c d e f g h : ByteArray) : (Instr.index 41 (.agg #[.string a, .string b, .string c, .string d, .string e, .string f, .string g, .string h]) (.int .i64 1)).run Tryd.prog w = .ok (.string b) w := by kernel_rfl
theorem word2 (w : World) (a b c d e f g h : ByteArray) : (Instr.index 41 (.agg #[.string a, .string b, .string c, .string d, .string e, .string f, .string g, .string h]) (.int .i64 2)).run Tryd.prog w = .ok (.string c) w := by kernel_rfl
theorem word3 (w : World) (a b c d e f g h : ByteArray) : (Instr.index 41 (.agg #[.string a, .string b, .string c, .string d, .string e, .string f, .string g, .string h]) (.int .i64 3)).run Tryd.prog w = .ok (.string d) w := by kernel_rfl
theorem word4 (w : World) (a b c d e f g h : ByteArray) : (Instr.index 41 (.agg #[.string a, .string b, .string c, .string d, .string e, .string f, .string g, .string h]) (.int .i64 4)).run Tryd.prog w = .ok (.string e) w := by kernel_rfl
theorem word5 (w : World) (a b c d e f g h : ByteArray) : (Instr.index 41 (.agg #[.string a, .string b, .string c, .string d, .string e, .string f, .string g, .string h]) (.int .i64 5)).run Tryd.prog w = .ok (.string f) w := by kernel_rfl
theorem word6 (w : World) (a b c d e f g h : ByteArray) : (Instr.index 41 (.agg #[.string a, .string b, .string c, .string d, .string e, .string f, .string g, .string h]) (.int .i64 6)).run Tryd.prog w = .ok (.string g) w := by kernel_rfl
theorem word7 (w : World) (a b c d e f g h : ByteArray) : (Instr.index 41 (.agg #[.string a, .string b, .string c, .string d, .string e, .string f, .string g, .string h]) (.int .i64 7)).run Tryd.prog w = .ok (.string h) w := by kernel_rfl

set_option maxHeartbeats 400000 in
theorem rtype_any (k n : Int) (s : ByteArray) (w : World) :
    Calls Tryd.prog 33 #[V k n s] w fun e w' => e = .returned (.string (typB k)) ∧ Below w.heap.size w w' := by
  have i0 := word0; have i1 := word1; have i2 := word2; have i3 := word3; have i4 := word4; have i5 := word5; have i6 := word6; have i7 := word7
  rcases kinds k with rfl | rfl | rfl | rfl | rfl | rfl | rfl | rfl | h | h
  iterate 8
    · go_enter Tryd.func33, Tryd.ntmps33
      go_wp2
      go_ret
      exact ⟨rfl, below2 _ _ _⟩
  all_goals
    have e : typB k = noS := by unfold typB; repeat rw [if_neg (by omega)]
    rw [e]
    clear e
  · go_enter Tryd.func33, Tryd.ntmps33
    go_wp2
    go_ret
    exact ⟨rfl, below2 _ _ _⟩
  · have g : decide (k < 0) = false := by simp; omega
    go_enter Tryd.func33, Tryd.ntmps33
    go_wp2
    go_ret
    exact ⟨rfl, below2 _ _ _⟩
end Go.Proofs.YtpfdidggogddgaaDoor
