/- The reader in memory; what (*reader).rest and (*reader).take do. -/
import Derived.Test.YtbeckfamnhfaeaaGreatDoorSh
import Derived.Deep.QuietTactic
import Derived.BigQuiet
import Derived.Deep.RegionWith
import Derived.RangeFuncBox
import Derived.Maps.AppendAt
namespace Go.Proofs.YtbeckfamnhfaeaaGreatDoor
open Go.RowKit

/-- All but block b is as it was; new blocks may be there. -/
def Kp (b : Nat) (w w' : World) : Prop := w.grownBy w' (some b)
theorem Kp.refl (b : Nat) (w : World) : Kp b w w := World.grownBy.refl _ _
theorem Kp.trans {b : Nat} {u v w : World} (h : Kp b u v) (k : Kp b v w) : Kp b u w := World.grownBy.trans h k
theorem Kp.draws {b : Nat} {w w' : World} (h : Kp b w w') (n : Nat) : Kp b w (w'.drewN n) := ⟨h.os, h.tape, h.output, h.size, h.block⟩
theorem Kp.of_below {b : Nat} {w w' : World} (h : Below w.heap.size w w') : Kp b w w' := ⟨h.os, h.tape, h.output, h.size, fun k hk _ => h.block k hk⟩
theorem Kp.set {b : Nat} {w w' : World} (h : Kp b w w') (o : Nat) (v : Value) : Kp b w (w'.setCell ⟨b, o, none⟩ v) :=
  h.trans ⟨rfl, rfl, rfl, by simp [World.setCell], fun k _ hk => Below.heap_setCell _ _ _ k (fun e => hk (by rw [e]))⟩
theorem Kp.alloc {b : Nat} {w w' : World} (h : Kp b w w') (o : Obj) : Kp b w (w'.alloc o) := h.trans (World.grownBy_alloc _ _ _)

/-- The reader lies in block b: its source is s, k bytes of it are read. -/
structure Rd (W : World) (b : Nat) (s : ByteArray) (k : Nat) : Prop where
  blk : W.heap[b]? = some (.cells #[.string s, .int .i64 (k : Int), .int .i64 ((1 + nl (s.data.toList.take k) : Nat) : Int)] 44 (0, 0))
  le : k ≤ s.size
  top : s.size ≤ 100000
  far : 7 ≤ b
  mx : Mx W
theorem Rd.lt {W : World} {b : Nat} {s : ByteArray} {k : Nat} (h : Rd W b s k) : b < W.heap.size := (Array.getElem?_eq_some_iff.1 h.blk).1
theorem Rd.c0 {W : World} {b : Nat} {s : ByteArray} {k : Nat} (h : Rd W b s k) : W.cell? ⟨b, 0, none⟩ = some (.string s) := by simp [World.cell?, h.blk]
theorem Rd.c1 {W : World} {b : Nat} {s : ByteArray} {k : Nat} (h : Rd W b s k) : W.cell? ⟨b, 1, none⟩ = some (.int .i64 (k : Int)) := by simp [World.cell?, h.blk]
theorem Rd.c2 {W : World} {b : Nat} {s : ByteArray} {k : Nat} (h : Rd W b s k) : W.cell? ⟨b, 2, none⟩ = some (.int .i64 ((1 + nl (s.data.toList.take k) : Nat) : Int)) := by simp [World.cell?, h.blk]
theorem Rd.f1 {W : World} {b : Nat} {s : ByteArray} {k : Nat} (h : Rd W b s k) : W.frozen? ⟨b, 1, none⟩ = false := by simp [World.frozen?, h.blk]
theorem Rd.f2 {W : World} {b : Nat} {s : ByteArray} {k : Nat} (h : Rd W b s k) : W.frozen? ⟨b, 2, none⟩ = false := by simp [World.frozen?, h.blk]
theorem Mx.kp {b : Nat} {w w' : World} (h : Mx w) (hb : 7 ≤ b) (hk : Kp b w w') : Mx w' := by
  obtain ⟨m, hm⟩ := h
  exact ⟨m, World.grownBy.cell hk hm (by simp; omega)⟩
theorem Mx.below {w w' : World} (h : Mx w) (hb : Below w.heap.size w w') : Mx w' := by
  obtain ⟨m, hm⟩ := h
  exact ⟨m, (hb.cell (p := ⟨2, 0, none⟩) (World.block_lt_of_cell? w _ hm)).trans hm⟩
theorem Rd.below {W W' : World} {b : Nat} {s : ByteArray} {k : Nat} (h : Rd W b s k) (hb : Below W.heap.size W W') : Rd W' b s k :=
  ⟨(hb.block b h.lt).trans h.blk, h.le, h.top, h.far, h.mx.below hb⟩
theorem Rd.draws {W : World} {b : Nat} {s : ByteArray} {k : Nat} (h : Rd W b s k) (n : Nat) : Rd (W.drewN n) b s k := ⟨h.blk, h.le, h.top, h.far, h.mx⟩
theorem Rd.alloc {W : World} {b : Nat} {s : ByteArray} {k : Nat} (h : Rd W b s k) (o : Obj) : Rd (W.alloc o) b s k := h.below ((Below.refl _ _).alloc (Nat.le_refl _) _)

set_option maxHeartbeats 1000000 in
theorem rest_any (b : Nat) (s : ByteArray) (k : Nat) (w : World) (h : Rd w b s k) :
    Calls Tryz.prog 22 #[.pointer (some ⟨b, 0, none⟩)] w fun e w' => e = .returned (.string (s.extract k s.size)) ∧ Rd w' b s k ∧ Kp b w w' := by
  have HR := Lib.hid h
  have c0 := h.c0
  have c1 := h.c1
  have hle := h.le
  have htop := h.top
  clear h
  go_enter Tryz.func22, Tryz.ntmps22
  go_wp2
  go_quiet (fail)
  go_wp2
  go_ret
  exact ⟨rfl, HR.out.draws _, (Kp.refl _ _).draws _⟩
theorem drop_extract (s : ByteArray) (k : Nat) : (s.extract k s.size).data.toList = s.data.toList.drop k := by
  rw [ByteArray.data_extract]
  simp only [Array.toList_extract, List.extract_eq_take_drop]
  exact List.take_of_length_le (by rw [List.length_drop]; exact Nat.le_refl _)
theorem piece_list (s : ByteArray) (k c : Nat) : (s.extract k (k + c)).data.toList = (s.data.toList.drop k).take c := by
  rw [ByteArray.data_extract]
  simp
theorem nl_piece (s : ByteArray) (k c : Nat) : 1 + nl (s.data.toList.take k) + nl (s.extract k (k + c)).data.toList = 1 + nl (s.data.toList.take (k + c)) := by
  rw [piece_list, List.take_add, nl_app]
  omega
theorem set_blk {W : World} {b : Nat} {a0 a1 a2 : Value} {t : TypeId} (h : W.heap[b]? = some (.cells #[a0, a1, a2] t (0, 0))) (v : Value) :
    (W.setCell ⟨b, 1, none⟩ v).heap[b]? = some (.cells #[a0, v, a2] t (0, 0)) ∧ (W.setCell ⟨b, 2, none⟩ v).heap[b]? = some (.cells #[a0, a1, v] t (0, 0)) := by
  obtain ⟨hlt, hk⟩ := Array.getElem?_eq_some_iff.1 h
  constructor
  · show (W.heap.modify b _)[b]? = _
    rw [Array.getElem?_eq_getElem (by rw [Array.size_modify]; exact hlt), Array.getElem_modify_self, hk]
    rfl
  · show (W.heap.modify b _)[b]? = _
    rw [Array.getElem?_eq_getElem (by rw [Array.size_modify]; exact hlt), Array.getElem_modify_self, hk]
    rfl
theorem Kp.drew {b : Nat} {w w' : World} (h : Kp b w w') : Kp b w w'.drew := ⟨h.os, h.tape, h.output, h.size, h.block⟩
theorem Rd.moved {w : World} {b : Nat} {s : ByteArray} {k : Nat} (h : Rd w b s k) (c : Nat) (hc : k + c ≤ s.size) (nq : Nat) (x y : Int) (hx : x = ((k + c : Nat) : Int)) (hy : y = ((1 + nl (s.data.toList.take (k + c)) : Nat) : Int)) :
    Rd (((w.drewN nq).setCell ⟨b, 1, none⟩ (.int .i64 x)).setCell ⟨b, 2, none⟩ (.int .i64 y)).drew b s (k + c) := by
  have h0 : (w.drewN nq).heap[b]? = some (.cells #[.string s, .int .i64 (k : Int), .int .i64 ((1 + nl (s.data.toList.take k) : Nat) : Int)] 44 (0, 0)) := h.blk
  have h2 := (set_blk (set_blk h0 (.int .i64 x)).1 (.int .i64 y)).2
  refine ⟨?_, hc, h.top, h.far, ?_⟩
  · rw [hx, hy] at h2 ⊢
    exact h2
  · exact h.mx.kp h.far ((((Kp.refl b w).draws nq).set 1 _).set 2 _).drew
theorem kp_moved (w : World) (b nq : Nat) (x y : Value) : Kp b w (((w.drewN nq).setCell ⟨b, 1, none⟩ x).setCell ⟨b, 2, none⟩ y).drew := ((((Kp.refl b w).draws nq).set 1 _).set 2 _).drew

set_option maxHeartbeats 1000000 in
theorem take_any (b : Nat) (s : ByteArray) (k c : Nat) (w : World) (h : Rd w b s k) (hc : k + c ≤ s.size) :
    Calls Tryz.prog 20 #[.pointer (some ⟨b, 0, none⟩), .int .i64 (c : Int)] w fun e w' => e = .returned (.string (s.extract k (k + c))) ∧ Rd w' b s (k + c) ∧ Kp b w w' := by
  have HR := Lib.hid h
  have c0 := h.c0
  have c1 := h.c1
  have hle := h.le
  have htop := h.top
  clear h
  go_enter Tryz.func20, Tryz.ntmps20
  go_wp2
  have w1 : IntKind.i64.wrap ((k : Int) + (c : Int)) = (k : Int) + (c : Int) := IntWalk.i64_in _ (by omega)
  go_quiet (fail)
  clear w1
  have f1 := HR.out.f1
  go_wp2_with fail
  have c2 := HR.out.c2
  have f2 := HR.out.f2
  obtain ⟨n, hn⟩ : ∃ n : Nat, n = nl (s.data.toList.take k) := ⟨_, rfl⟩
  obtain ⟨m, hm⟩ : ∃ m : Nat, m = nl (s.extract k (k + c)).data.toList := ⟨_, rfl⟩
  rw [← hn] at c2
  have HC := Lib.hid (fun W => hm ▸ count_nl (s.extract k (k + c)) W)
  have hn1 : n ≤ 100000 := by
    have := nl_le (s.data.toList.take k)
    rw [List.length_take] at this
    omega
  have hm1 : m ≤ 100000 := by
    have := nl_le (s.extract k (k + c)).data.toList
    rw [piece_list, List.length_take] at this
    rw [piece_list] at hm
    omega
  have HN := Lib.hid hn
  have HM := Lib.hid hm
  clear hn hm
  have w2 : IntKind.i64.wrap (((1 + n : Nat) : Int) + (m : Int)) = ((1 + n + m : Nat) : Int) := by rw [IntWalk.i64_in _ (by omega)]; omega
  go_region_with ((go_at_call 43; refine (HC.out _).mono ?_; rintro e w' ⟨rfl, rfl⟩))
  all_goals go_wp2
  all_goals go_ret
  all_goals exact ⟨rfl, HR.out.moved c hc _ _ _ (by omega) (by rw [IntWalk.i64_in _ (by omega), ← nl_piece, ← HN.out, ← HM.out]; omega), kp_moved _ _ _ _ _⟩
end Go.Proofs.YtbeckfamnhfaeaaGreatDoor
