/- (*reader).token: the token that stands ahead. -/
import Derived.Test.YtbeckfamnhfaeaaGreatDoorQt
import Derived.Test.YtbeckfamnhfaeaaGreatDoorSg
namespace Go.Proofs.YtbeckfamnhfaeaaGreatDoor
open Go.RowKit

/-- A token lies in block g. -/
def Tb (W : World) (g : Nat) (a b c d : Value) : Prop := W.heap[g]? = some (.cells #[a, b, c, d] 30 (0, 0))
theorem Tb.kp {W W' : World} {g b : Nat} {x y z u : Value} (h : Tb W g x y z u) (hk : Kp b W W') (hne : g ≠ b) : Tb W' g x y z u :=
  (hk.block g (Array.getElem?_eq_some_iff.1 h).1 (by simpa using hne)).trans h
theorem Tb.new (w : World) (x y z u : Value) : Tb (w.alloc (.cells #[x, y, z, u] 30)) w.heap.size x y z u := World.alloc_heap_new w _
theorem Tb.alloc {W : World} {g : Nat} {x y z u : Value} (h : Tb W g x y z u) (o : Obj) : Tb (W.alloc o) g x y z u := (Below.heap_alloc W o g (Array.getElem?_eq_some_iff.1 h).1).trans h
theorem Tb.cells {W : World} {g : Nat} {x y z u : Value} (h : Tb W g x y z u) : W.cell? ⟨g, 0, none⟩ = some x ∧ W.cell? ⟨g, 1, none⟩ = some y ∧ W.cell? ⟨g, 2, none⟩ = some z ∧ W.cell? ⟨g, 3, none⟩ = some u := by
  have h' : W.heap[g]? = some (.cells #[x, y, z, u] 30 (0, 0)) := h
  refine ⟨?_, ?_, ?_, ?_⟩ <;> simp [World.cell?, h']
theorem Tb.frozen {W : World} {g : Nat} {x y z u : Value} (h : Tb W g x y z u) : W.frozen? ⟨g, 0, none⟩ = false ∧ W.frozen? ⟨g, 1, none⟩ = false ∧ W.frozen? ⟨g, 2, none⟩ = false ∧ W.frozen? ⟨g, 3, none⟩ = false := by
  have h' : W.heap[g]? = some (.cells #[x, y, z, u] 30 (0, 0)) := h
  refine ⟨?_, ?_, ?_, ?_⟩ <;> simp [World.frozen?, h']
def TokPost (b : Nat) (s : ByteArray) (k : Nat) (w : World) (e : Ending) (w' : World) : Prop :=
  Kp b w w' ∧ ((∃ (kd n : Int) (t : List UInt8) (k' : Nat), e = .returned (.tuple #[.agg #[.int .i64 kd, .int .i64 (lastL s - nl (sfx s k)), .int .i64 n, .string ⟨t.toArray⟩], .nilIface]) ∧ Rd w' b s k' ∧ k ≤ k' ∧ (kd ≠ 0 → k < k') ∧ (kd = 0 → sfx s k = []) ∧ Tok (sfx s k) (some (kd, n, t, sfx s k'))) ∨
    (∃ v, e = .returned (.tuple #[.agg #[.int .i64 0, .int .i64 0, .int .i64 0, .string ⟨#[]⟩], v]) ∧ Flt w' v (lastL s - nl (sfx s k)) ∧ Tok (sfx s k) none))

theorem Kp.setNew {b : Nat} {w W : World} (h : Kp b w W) {g : Nat} (hg : w.heap.size ≤ g) (o : Nat) (v : Value) : Kp b w (W.setCell ⟨g, o, none⟩ v) :=
  h.below ((Below.refl _ _).setCell (p := ⟨g, o, none⟩) hg v)
theorem Rd.setNew {W : World} {b : Nat} {s : ByteArray} {k : Nat} (h : Rd W b s k) {g : Nat} (hg : b < g) (o : Nat) (v : Value) : Rd (W.setCell ⟨g, o, none⟩ v) b s k :=
  h.belowB ((Below.refl g _).setCell (p := ⟨g, o, none⟩) (Nat.le_refl _) v) hg
theorem Flt.setNew {W : World} {v : Value} {n : Int} (h : Flt W v n) {g : Nat} (hg : ∀ g', v = .iface 49 (.pointer (some ⟨g', 0, none⟩)) → g' ≠ g) (o : Nat) (u : Value) : Flt (W.setCell ⟨g, o, none⟩ u) v n := by
  obtain ⟨g', h1, h2⟩ := h
  exact ⟨g', h1, (Below.heap_setCell _ _ _ g' (hg g' h1)).trans h2⟩
abbrev tok0 : Obj := .cells #[.int .i64 0, .int .i64 0, .int .i64 0, .string ⟨#[]⟩] 30
abbrev tokN (n : Int) : Obj := .cells #[.int .i64 0, .int .i64 n, .int .i64 0, .string ⟨#[]⟩] 30
/-- What holds once the two tokens are laid. -/
theorem tok_laid (b : Nat) (s : ByteArray) (k : Nat) (w : World) (n : Int) (h : Rd w b s k) : Rd ((w.alloc tok0).alloc (tokN n)) b s k ∧ Kp b w ((w.alloc tok0).alloc (tokN n)) ∧
    Tb ((w.alloc tok0).alloc (tokN n)) w.heap.size (.int .i64 0) (.int .i64 0) (.int .i64 0) (.string ⟨#[]⟩) ∧ Tb ((w.alloc tok0).alloc (tokN n)) (w.heap.size + 1) (.int .i64 0) (.int .i64 n) (.int .i64 0) (.string ⟨#[]⟩) := by
  refine ⟨(h.alloc _).alloc _, ((Kp.refl _ _).alloc _).alloc _, (Tb.new w _ _ _ _).alloc _, ?_⟩
  have := Tb.new (w.alloc tok0) (.int .i64 0) (.int .i64 n) (.int .i64 0) (.string ⟨#[]⟩)
  rwa [show (w.alloc tok0).heap.size = w.heap.size + 1 by simp] at this

theorem Kp.set4 {b : Nat} {w W : World} (h : Kp b w W) {g : Nat} (hg : w.heap.size ≤ g) (x y z u : Value) : Kp b w ((((W.setCell ⟨g, 0, none⟩ x).setCell ⟨g, 1, none⟩ y).setCell ⟨g, 2, none⟩ z).setCell ⟨g, 3, none⟩ u) :=
  (((h.setNew hg 0 x).setNew hg 1 y).setNew hg 2 z).setNew hg 3 u
theorem Rd.set4 {W : World} {b : Nat} {s : ByteArray} {k : Nat} (h : Rd W b s k) {g : Nat} (hg : b < g) (x y z u : Value) : Rd ((((W.setCell ⟨g, 0, none⟩ x).setCell ⟨g, 1, none⟩ y).setCell ⟨g, 2, none⟩ z).setCell ⟨g, 3, none⟩ u) b s k :=
  (((h.setNew hg 0 x).setNew hg 1 y).setNew hg 2 z).setNew hg 3 u
theorem Flt.set4 {W : World} {n : Int} {g' : Nat} (h : Flt W (.iface 49 (.pointer (some ⟨g', 0, none⟩))) n) {g : Nat} (hg : g' ≠ g) (x y z u : Value) : Flt ((((W.setCell ⟨g, 0, none⟩ x).setCell ⟨g, 1, none⟩ y).setCell ⟨g, 2, none⟩ z).setCell ⟨g, 3, none⟩ u) (.iface 49 (.pointer (some ⟨g', 0, none⟩))) n := by
  have k : ∀ q, (Value.iface 49 (.pointer (some ⟨g', 0, none⟩))) = .iface 49 (.pointer (some ⟨q, 0, none⟩)) → q ≠ g := fun q e => by
    simp only [Value.iface.injEq, Value.pointer.injEq, Option.some.injEq, Addr.mk.injEq, and_true, true_and] at e
    omega
  exact (((h.setNew k 0 x).setNew k 1 y).setNew k 2 z).setNew k 3 u

theorem Tb.setOther {W : World} {g : Nat} {x y z u : Value} (h : Tb W g x y z u) {g' : Nat} (hne : g ≠ g') (o : Nat) (v : Value) : Tb (W.setCell ⟨g', o, none⟩ v) g x y z u :=
  (Below.heap_setCell _ _ _ g hne).trans h
theorem Tb.set4 {W : World} {g : Nat} {x y z u : Value} (h : Tb W g x y z u) (x' y' z' u' : Value) : Tb ((((W.setCell ⟨g, 0, none⟩ x').setCell ⟨g, 1, none⟩ y').setCell ⟨g, 2, none⟩ z').setCell ⟨g, 3, none⟩ u') g x' y' z' u' := by
  have key : ∀ (W : World) (a b c d v : Value) (o : Nat), W.heap[g]? = some (.cells #[a, b, c, d] 30 (0, 0)) → (W.setCell ⟨g, o, none⟩ v).heap[g]? = some (.cells (#[a, b, c, d].setIfInBounds o v) 30 (0, 0)) := by
    intro W a b c d v o h
    obtain ⟨hlt, hk⟩ := Array.getElem?_eq_some_iff.1 h
    show (W.heap.modify g _)[g]? = _
    rw [Array.getElem?_eq_getElem (by rw [Array.size_modify]; exact hlt), Array.getElem_modify_self, hk]
    rfl
  have h0 := key W x y z u x' 0 h
  have h1 := key _ x' y z u y' 1 h0
  have h2 := key _ x' y' z u z' 2 h1
  exact key _ x' y' z' u u' 3 h2

theorem Flt.new' (w : World) (n : Int) (g : Nat) (hg : g = w.heap.size) : Flt (w.alloc (.cells #[.int .i64 n, .iface 42 (.int .i64 5)] 54)) (.iface 49 (.pointer (some ⟨g, 0, none⟩))) n := by
  subst hg
  exact Flt.new w n
theorem Tb.lt {W : World} {g : Nat} {x y z u : Value} (h : Tb W g x y z u) : g < W.heap.size := (Array.getElem?_eq_some_iff.1 (show W.heap[g]? = _ from h)).1
theorem Tb.set0 {W : World} {g : Nat} {x y z u : Value} (h : Tb W g x y z u) (v : Value) : Tb (W.setCell ⟨g, 0, none⟩ v) g v y z u := by
  obtain ⟨hlt, hk⟩ := Array.getElem?_eq_some_iff.1 (show W.heap[g]? = _ from h)
  show (W.heap.modify g _)[g]? = _
  rw [Array.getElem?_eq_getElem (by rw [Array.size_modify]; exact hlt), Array.getElem_modify_self, hk]
  rfl
theorem Tb.set2 {W : World} {g : Nat} {x y z u : Value} (h : Tb W g x y z u) (v : Value) : Tb (W.setCell ⟨g, 2, none⟩ v) g x y v u := by
  obtain ⟨hlt, hk⟩ := Array.getElem?_eq_some_iff.1 (show W.heap[g]? = _ from h)
  show (W.heap.modify g _)[g]? = _
  rw [Array.getElem?_eq_getElem (by rw [Array.size_modify]; exact hlt), Array.getElem_modify_self, hk]
  rfl
theorem Tb.set3 {W : World} {g : Nat} {x y z u : Value} (h : Tb W g x y z u) (v : Value) : Tb (W.setCell ⟨g, 3, none⟩ v) g x y z v := by
  obtain ⟨hlt, hk⟩ := Array.getElem?_eq_some_iff.1 (show W.heap[g]? = _ from h)
  show (W.heap.modify g _)[g]? = _
  rw [Array.getElem?_eq_getElem (by rw [Array.size_modify]; exact hlt), Array.getElem_modify_self, hk]
  rfl

set_option maxHeartbeats 2000000 in
theorem token_eof (b : Nat) (s : ByteArray) (k : Nat) (w : World) (h : Rd w b s k) (hk : k = s.size) : Calls Tryz.prog 16 #[.pointer (some ⟨b, 0, none⟩)] w (TokPost b s k w) := by
  have hblt := h.lt
  have htop := h.top
  have c2 := (h.alloc (.cells #[.int .i64 0, .int .i64 0, .int .i64 0, .string ⟨#[]⟩] 30)).c2
  rw [line_at] at c2
  obtain ⟨n, hn⟩ : ∃ n : Int, n = lastL s - nl (sfx s k) := ⟨_, rfl⟩
  rw [← hn] at c2
  obtain ⟨Y, hY⟩ : ∃ Y : ByteArray, Y = s.extract k s.size := ⟨_, rfl⟩
  have C1 := Lib.hid (fun W h => rest_any b s k W h)
  rw [← hY] at C1
  have hYe := empB_yes Y (by rw [hY, rest_size s k (by omega)]; omega)
  have HR := Lib.hid h
  have HN := Lib.hid hn
  clear hY h hn
  have HL := Lib.hid (tok_laid b s k w n HR.out)
  go_enter Tryz.func16, Tryz.ntmps16
  go_wp2_with fail
  refine (C1.out _ HL.out.1).mono ?_; rintro e w1 ⟨rfl, r1, k1⟩
  have R1 := Lib.hid r1
  have K1 := Lib.hid (HL.out.2.1.trans k1)
  have T0 := Lib.hid (HL.out.2.2.1.kp k1 (by omega))
  have T1 := Lib.hid (HL.out.2.2.2.kp k1 (by omega))
  clear r1 k1 c2
  obtain ⟨a0, a1, a2, a3⟩ := T0.out.cells
  obtain ⟨f0, f1, f2, f3⟩ := T0.out.frozen
  obtain ⟨b0, b1, b2, b3⟩ := T1.out.cells
  obtain ⟨g0, g1, g2, g3⟩ := T1.out.frozen
  go_wp2_with fail
  clear a0 a1 a2 a3 f0 f1 f2 f3 b0 b1 b2 b3 g0 g1 g2 g3
  obtain ⟨d0, d1, d2, d3⟩ := ((T0.out.setOther (g' := w.heap.size + 1) (by omega) 0 (.int .i64 0)).set4 (.int .i64 0) (.int .i64 n) (.int .i64 0) (.string ⟨#[]⟩)).cells
  refine bodyPost_ret (v := .tuple #[.agg #[.int .i64 0, .int .i64 n, .int .i64 0, .string ⟨#[]⟩], .nilIface]) (by simp [results, Tryz.results16, go_sem, d0, d1, d2, d3]) rfl ?_
  refine ⟨(K1.out.setNew (by omega) _ _).set4 (Nat.le_refl _) _ _ _ _, .inl ⟨0, 0, [], k, by rw [← HN.out], (R1.out.setNew (by omega) _ _).set4 hblt _ _ _ _, Nat.le_refl _, fun h => absurd rfl h, fun _ => sfx_end s k (by omega), ?_⟩⟩
  rw [sfx_end s k (by omega)]
  exact .eof
set_option maxHeartbeats 2000000 in
theorem token_name (b : Nat) (s : ByteArray) (k : Nat) (w : World) (h : Rd w b s k) (hk : k < s.size) (c : UInt8) (hc : s[k] = c) (hl : ltB c = true) : Calls Tryz.prog 16 #[.pointer (some ⟨b, 0, none⟩)] w (TokPost b s k w) := by
  have hblt := h.lt
  have htop := h.top
  have c2 := (h.alloc (.cells #[.int .i64 0, .int .i64 0, .int .i64 0, .string ⟨#[]⟩] 30)).c2
  rw [line_at] at c2
  obtain ⟨n, hn⟩ : ∃ n : Int, n = lastL s - nl (sfx s k) := ⟨_, rfl⟩
  rw [← hn] at c2
  obtain ⟨Y, hY⟩ : ∃ Y : ByteArray, Y = s.extract k s.size := ⟨_, rfl⟩
  have C1 := Lib.hid (fun W h => rest_any b s k W h)
  rw [← hY] at C1
  have hYs : 0 < Y.size := by rw [hY, rest_size s k (by omega)]; omega
  have hY0 : Y[0] = c := by subst hY; rw [rest_head s k hk hYs]; exact hc
  have hYe := empB_no Y hYs
  have hcons := sfx_cons s k hk
  rw [hc] at hcons
  have HC := Lib.hid hcons
  have L1 := Lib.hid (fun W => letter_is c true W hl)
  have N1 := Lib.hid (fun W h => name_any b s k W h)
  have hrun : 1 ≤ runN nmB (sfx s k) := by
    rw [hcons]
    unfold runN
    rw [List.takeWhile_cons_of_pos (by unfold nmB; rw [hl]; rfl), List.length_cons]
    omega
  have hT := Tok.name (c := c) (r := sfx s (k + 1)) hl
  rw [← hcons, ← drop_run, sfx_drop] at hT
  have hkd : (if wordB ((sfx s k).takeWhile nmB) then (2 : Int) else 1) ≠ 0 := by split <;> decide
  generalize (if wordB ((sfx s k).takeWhile nmB) then (2 : Int) else 1) = kd at *
  obtain ⟨X, hX⟩ : ∃ X : ByteArray, X = ⟨((sfx s k).takeWhile nmB).toArray⟩ := ⟨_, rfl⟩
  rw [← hX] at N1
  have HX := Lib.hid hX
  have HT := Lib.hid hT
  clear hX hT hcons hl hc
  have HR := Lib.hid h
  have HN := Lib.hid hn
  clear hY h hn
  have HL := Lib.hid (tok_laid b s k w n HR.out)
  go_enter Tryz.func16, Tryz.ntmps16
  go_wp2_with fail
  refine (C1.out _ HL.out.1).mono ?_; rintro e w1 ⟨rfl, r1, k1⟩
  have R1 := Lib.hid r1
  have K1 := Lib.hid (HL.out.2.1.trans k1)
  have T0 := Lib.hid (HL.out.2.2.1.kp k1 (by omega))
  have T1 := Lib.hid (HL.out.2.2.2.kp k1 (by omega))
  clear r1 k1 c2
  obtain ⟨a0, a1, a2, a3⟩ := T0.out.cells
  obtain ⟨f0, f1, f2, f3⟩ := T0.out.frozen
  obtain ⟨b0, b1, b2, b3⟩ := T1.out.cells
  obtain ⟨g0, g1, g2, g3⟩ := T1.out.frozen
  go_wp2_with (go_at_call 26; refine (L1.out _).mono ?_; rintro e w' ⟨rfl, rfl⟩)
  clear a0 a1 a2 a3 f0 f1 f2 f3 b0 b1 b2 b3 g0 g1 g2 g3
  refine (N1.out _ R1.out).mono ?_; rintro e w2 ⟨rfl, r2, k2⟩
  have R2 := Lib.hid r2
  have K2 := hid_kp K1 k2
  have T20 := Lib.hid (T0.out.kp k2 (by omega))
  have T21 := Lib.hid (T1.out.kp k2 (by omega))
  clear r2 k2
  obtain ⟨a0, a1, a2, a3⟩ := T20.out.cells
  obtain ⟨f0, f1, f2, f3⟩ := T20.out.frozen
  obtain ⟨b0, b1, b2, b3⟩ := T21.out.cells
  obtain ⟨g0, g1, g2, g3⟩ := T21.out.frozen
  go_wp2_with fail
  clear a0 a1 a2 a3 f0 f1 f2 f3 b0 b1 b2 b3 g0 g1 g2 g3
  obtain ⟨d0, d1, d2, d3⟩ := (((T20.out.setOther (g' := w.heap.size + 1) (by omega) 0 (.int .i64 kd)).setOther (g' := w.heap.size + 1) (by omega) 3 (.string X)).set4 (.int .i64 kd) (.int .i64 n) (.int .i64 0) (.string X)).cells
  refine bodyPost_ret (v := .tuple #[.agg #[.int .i64 kd, .int .i64 n, .int .i64 0, .string X], .nilIface]) (by simp [results, Tryz.results16, go_sem, d0, d1, d2, d3]) rfl ?_
  exact ⟨((K2.out.setNew (by omega) _ _).setNew (by omega) _ _).set4 (Nat.le_refl _) _ _ _ _, .inl ⟨kd, 0, _, _, by rw [← HN.out, HX.out], ((R2.out.setNew (by omega) _ _).setNew (by omega) _ _).set4 hblt _ _ _ _, by omega, fun _ => by omega, fun e => absurd e hkd, HT.out⟩⟩
set_option maxHeartbeats 2000000 in
theorem token_num (b : Nat) (s : ByteArray) (k : Nat) (w : World) (h : Rd w b s k) (hk : k < s.size) (c : UInt8) (hc : s[k] = c) (hl : ltB c = false) (hd : dgB c = true) (hno : numO 9223372036854775807 ((sfx s k).takeWhile nuB) = true) : Calls Tryz.prog 16 #[.pointer (some ⟨b, 0, none⟩)] w (TokPost b s k w) := by
  have hblt := h.lt
  have htop := h.top
  have c2 := (h.alloc (.cells #[.int .i64 0, .int .i64 0, .int .i64 0, .string ⟨#[]⟩] 30)).c2
  rw [line_at] at c2
  obtain ⟨n, hn⟩ : ∃ n : Int, n = lastL s - nl (sfx s k) := ⟨_, rfl⟩
  rw [← hn] at c2
  obtain ⟨Y, hY⟩ : ∃ Y : ByteArray, Y = s.extract k s.size := ⟨_, rfl⟩
  have C1 := Lib.hid (fun W h => rest_any b s k W h)
  rw [← hY] at C1
  have hYs : 0 < Y.size := by rw [hY, rest_size s k (by omega)]; omega
  have hY0 : Y[0] = c := by subst hY; rw [rest_head s k hk hYs]; exact hc
  have hYe := empB_no Y hYs
  have hcons := sfx_cons s k hk
  rw [hc] at hcons
  have HC := Lib.hid hcons
  have L1 := Lib.hid (fun W => letter_is c false W hl)
  have L2 := Lib.hid (fun W => digit_is c true W hd)
  obtain ⟨m, hm⟩ : ∃ m : Nat, m = runN nuB (sfx s k) := ⟨_, rfl⟩
  have U1 := Lib.hid (fun W => run_number Y W (by rw [hY, rest_size s _ (by omega)]; omega))
  rw [show Y.data.toList = sfx s k by rw [hY, sfx_rest], ← hm] at U1
  have hml := run_le nuB (sfx s k)
  rw [sfx_len, ← hm] at hml
  have hrun : 1 ≤ m := by
    rw [hm, hcons]
    unfold runN
    rw [List.takeWhile_cons_of_pos (by unfold nuB nmB; rw [hd]; simp), List.length_cons]
    omega
  obtain ⟨X, hX⟩ : ∃ X : ByteArray, X = s.extract k (k + m) := ⟨_, rfl⟩
  have hXl : X.data.toList = (sfx s k).takeWhile nuB := by rw [hX, sfx_take, hm, take_run]
  have hXs : X.size ≤ 100000 := by rw [hX, ByteArray.size_extract]; omega
  have V1 := Lib.hid (fun W h => take_any b s k m W h (by omega))
  rw [← hX] at V1
  have M1 := Lib.hid (fun W => cNumeral X W (by omega))
  rw [hXl] at M1
  rw [hno] at M1
  have hT := Tok.num (c := c) (r := sfx s (k + 1)) hl hd (by rw [← hcons]; exact hno)
  rw [← hcons, ← drop_run, sfx_drop, ← hm] at hT
  obtain ⟨N, hN⟩ : ∃ N : Int, N = sgn (numN 9223372036854775807 ((sfx s k).takeWhile nuB) : Int) := ⟨_, rfl⟩
  rw [← hN] at M1 hT
  have HT := Lib.hid hT
  clear hm hX hXl hT hcons hl hd hno hc hN
  have HR := Lib.hid h
  have HN := Lib.hid hn
  clear hY h hn
  have HL := Lib.hid (tok_laid b s k w n HR.out)
  go_enter Tryz.func16, Tryz.ntmps16
  go_wp2_with fail
  refine (C1.out _ HL.out.1).mono ?_; rintro e w1 ⟨rfl, r1, k1⟩
  have R1 := Lib.hid r1
  have K1 := Lib.hid (HL.out.2.1.trans k1)
  have T0 := Lib.hid (HL.out.2.2.1.kp k1 (by omega))
  have T1 := Lib.hid (HL.out.2.2.2.kp k1 (by omega))
  clear r1 k1 c2
  obtain ⟨a0, a1, a2, a3⟩ := T0.out.cells
  obtain ⟨f0, f1, f2, f3⟩ := T0.out.frozen
  obtain ⟨b0, b1, b2, b3⟩ := T1.out.cells
  obtain ⟨g0, g1, g2, g3⟩ := T1.out.frozen
  go_wp2_with (first
    | (go_at_call 26; refine (L1.out _).mono ?_; rintro e w' ⟨rfl, rfl⟩)
    | (go_at_call 28; refine (L2.out _).mono ?_; rintro e w' ⟨rfl, rfl⟩))
  clear a0 a1 a2 a3 f0 f1 f2 f3 b0 b1 b2 b3 g0 g1 g2 g3
  have R1b := Lib.hid (R1.out.setNew (g := w.heap.size + 1) (by omega) 0 (.int .i64 3))
  have K1b := Lib.hid (K1.out.setNew (g := w.heap.size + 1) (by omega) 0 (.int .i64 3))
  have T0b := Lib.hid (T0.out.setOther (g' := w.heap.size + 1) (by omega) 0 (.int .i64 3))
  have T1b := Lib.hid (T1.out.set0 (.int .i64 3))
  generalize w1.setCell ⟨w.heap.size + 1, 0, none⟩ (.int .i64 3) = w1b at *
  refine (U1.out _).mono ?_; rintro e w1' ⟨rfl, rfl⟩
  go_wp2_with fail
  refine (V1.out _ R1b.out).mono ?_; rintro e w2 ⟨rfl, r2, k2⟩
  have R2 := Lib.hid r2
  have K2 := hid_kp K1b k2
  have T20 := Lib.hid (T0b.out.kp k2 (by omega))
  have T21 := Lib.hid (T1b.out.kp k2 (by omega))
  clear r2 k2
  go_wp2_with fail
  refine (M1.out _).mono ?_; rintro e w2' ⟨rfl, rfl⟩
  obtain ⟨a0, a1, a2, a3⟩ := T20.out.cells
  obtain ⟨f0, f1, f2, f3⟩ := T20.out.frozen
  obtain ⟨b0, b1, b2, b3⟩ := T21.out.cells
  obtain ⟨g0, g1, g2, g3⟩ := T21.out.frozen
  go_wp2_with fail
  clear a0 a1 a2 a3 f0 f1 f2 f3 b0 b1 b2 b3 g0 g1 g2 g3
  obtain ⟨d0, d1, d2, d3⟩ := ((T20.out.setOther (g' := w.heap.size + 1) (by omega) 2 (.int .i64 N)).set4 (.int .i64 3) (.int .i64 n) (.int .i64 N) (.string ⟨#[]⟩)).cells
  refine bodyPost_ret (v := .tuple #[.agg #[.int .i64 3, .int .i64 n, .int .i64 N, .string ⟨#[]⟩], .nilIface]) (by simp [results, Tryz.results16, go_sem, d0, d1, d2, d3]) rfl ?_
  exact ⟨(K2.out.setNew (by omega) _ _).set4 (Nat.le_refl _) _ _ _ _, .inl ⟨3, N, _, _, by rw [← HN.out], (R2.out.setNew (by omega) _ _).set4 hblt _ _ _ _, by omega, fun _ => by omega, fun e => absurd e (by decide), HT.out⟩⟩
set_option maxHeartbeats 2000000 in
theorem token_num_bad (b : Nat) (s : ByteArray) (k : Nat) (w : World) (h : Rd w b s k) (hk : k < s.size) (c : UInt8) (hc : s[k] = c) (hl : ltB c = false) (hd : dgB c = true) (hno : numO 9223372036854775807 ((sfx s k).takeWhile nuB) = false) : Calls Tryz.prog 16 #[.pointer (some ⟨b, 0, none⟩)] w (TokPost b s k w) := by
  have hblt := h.lt
  have htop := h.top
  have c2 := (h.alloc (.cells #[.int .i64 0, .int .i64 0, .int .i64 0, .string ⟨#[]⟩] 30)).c2
  rw [line_at] at c2
  obtain ⟨n, hn⟩ : ∃ n : Int, n = lastL s - nl (sfx s k) := ⟨_, rfl⟩
  rw [← hn] at c2
  obtain ⟨Y, hY⟩ : ∃ Y : ByteArray, Y = s.extract k s.size := ⟨_, rfl⟩
  have C1 := Lib.hid (fun W h => rest_any b s k W h)
  rw [← hY] at C1
  have hYs : 0 < Y.size := by rw [hY, rest_size s k (by omega)]; omega
  have hY0 : Y[0] = c := by subst hY; rw [rest_head s k hk hYs]; exact hc
  have hYe := empB_no Y hYs
  have hcons := sfx_cons s k hk
  rw [hc] at hcons
  have HC := Lib.hid hcons
  have L1 := Lib.hid (fun W => letter_is c false W hl)
  have L2 := Lib.hid (fun W => digit_is c true W hd)
  obtain ⟨m, hm⟩ : ∃ m : Nat, m = runN nuB (sfx s k) := ⟨_, rfl⟩
  have U1 := Lib.hid (fun W => run_number Y W (by rw [hY, rest_size s _ (by omega)]; omega))
  rw [show Y.data.toList = sfx s k by rw [hY, sfx_rest], ← hm] at U1
  have hml := run_le nuB (sfx s k)
  rw [sfx_len, ← hm] at hml
  have hrun : 1 ≤ m := by
    rw [hm, hcons]
    unfold runN
    rw [List.takeWhile_cons_of_pos (by unfold nuB nmB; rw [hd]; simp), List.length_cons]
    omega
  obtain ⟨X, hX⟩ : ∃ X : ByteArray, X = s.extract k (k + m) := ⟨_, rfl⟩
  have hXl : X.data.toList = (sfx s k).takeWhile nuB := by rw [hX, sfx_take, hm, take_run]
  have hXs : X.size ≤ 100000 := by rw [hX, ByteArray.size_extract]; omega
  have V1 := Lib.hid (fun W h => take_any b s k m W h (by omega))
  rw [← hX] at V1
  have M1 := Lib.hid (fun W => cNumeral X W (by omega))
  rw [hXl] at M1
  rw [hno] at M1
  have hT := Tok.numBad (c := c) (r := sfx s (k + 1)) hl hd (by rw [← hcons]; exact hno)
  rw [← hcons] at hT
  obtain ⟨N, hN⟩ : ∃ N : Int, N = sgn (numN 9223372036854775807 ((sfx s k).takeWhile nuB) : Int) := ⟨_, rfl⟩
  rw [← hN] at M1
  have HT := Lib.hid hT
  clear hm hX hXl hT hcons hl hd hno hc hN
  have HR := Lib.hid h
  have HN := Lib.hid hn
  clear hY h hn
  have HL := Lib.hid (tok_laid b s k w n HR.out)
  go_enter Tryz.func16, Tryz.ntmps16
  go_wp2_with fail
  refine (C1.out _ HL.out.1).mono ?_; rintro e w1 ⟨rfl, r1, k1⟩
  have R1 := Lib.hid r1
  have K1 := Lib.hid (HL.out.2.1.trans k1)
  have T0 := Lib.hid (HL.out.2.2.1.kp k1 (by omega))
  have T1 := Lib.hid (HL.out.2.2.2.kp k1 (by omega))
  clear r1 k1 c2
  obtain ⟨a0, a1, a2, a3⟩ := T0.out.cells
  obtain ⟨f0, f1, f2, f3⟩ := T0.out.frozen
  obtain ⟨b0, b1, b2, b3⟩ := T1.out.cells
  obtain ⟨g0, g1, g2, g3⟩ := T1.out.frozen
  go_wp2_with (first
    | (go_at_call 26; refine (L1.out _).mono ?_; rintro e w' ⟨rfl, rfl⟩)
    | (go_at_call 28; refine (L2.out _).mono ?_; rintro e w' ⟨rfl, rfl⟩))
  clear a0 a1 a2 a3 f0 f1 f2 f3 b0 b1 b2 b3 g0 g1 g2 g3
  have R1b := Lib.hid (R1.out.setNew (g := w.heap.size + 1) (by omega) 0 (.int .i64 3))
  have K1b := Lib.hid (K1.out.setNew (g := w.heap.size + 1) (by omega) 0 (.int .i64 3))
  have T0b := Lib.hid (T0.out.setOther (g' := w.heap.size + 1) (by omega) 0 (.int .i64 3))
  have T1b := Lib.hid (T1.out.set0 (.int .i64 3))
  generalize w1.setCell ⟨w.heap.size + 1, 0, none⟩ (.int .i64 3) = w1b at *
  refine (U1.out _).mono ?_; rintro e w1' ⟨rfl, rfl⟩
  go_wp2_with fail
  refine (V1.out _ R1b.out).mono ?_; rintro e w2 ⟨rfl, r2, k2⟩
  have R2 := Lib.hid r2
  have K2 := hid_kp K1b k2
  have T20 := Lib.hid (T0b.out.kp k2 (by omega))
  have T21 := Lib.hid (T1b.out.kp k2 (by omega))
  clear r2 k2
  go_wp2_with fail
  refine (M1.out _).mono ?_; rintro e w2' ⟨rfl, rfl⟩
  obtain ⟨a0, a1, a2, a3⟩ := T20.out.cells
  obtain ⟨f0, f1, f2, f3⟩ := T20.out.frozen
  obtain ⟨b0, b1, b2, b3⟩ := T21.out.cells
  obtain ⟨g0, g1, g2, g3⟩ := T21.out.frozen
  go_wp2_with fail
  clear a0 a1 a2 a3 f0 f1 f2 f3 b0 b1 b2 b3 g0 g1 g2 g3
  refine (fault_any _ _).mono ?_; rintro e w9 ⟨rfl, rfl⟩
  have K8 := Lib.hid (K2.out.setNew (g := w.heap.size + 1) (by omega) 2 (.int .i64 N))
  have T8 := Lib.hid (T20.out.setOther (g' := w.heap.size + 1) (by omega) 2 (.int .i64 N))
  generalize w2.setCell ⟨w.heap.size + 1, 2, none⟩ (.int .i64 N) = w8 at *
  have hsz8 := T8.out.lt
  obtain ⟨a0, a1, a2, a3⟩ := T8.out.cells
  obtain ⟨f0, f1, f2, f3⟩ := T8.out.frozen
  go_wp2_with fail
  clear a0 a1 a2 a3 f0 f1 f2 f3
  obtain ⟨d0, d1, d2, d3⟩ := ((T8.out.set4 (.int .i64 0) (.int .i64 0) (.int .i64 0) (.string ⟨#[]⟩)).alloc (.cells #[.int .i64 n, .iface 42 (.int .i64 5)] 54)).cells
  refine bodyPost_ret (v := .tuple #[.agg #[.int .i64 0, .int .i64 0, .int .i64 0, .string ⟨#[]⟩], .iface 49 (.pointer (some ⟨w8.heap.size, 0, none⟩))]) (by simp [results, Tryz.results16, go_sem, d0, d1, d2, d3]) rfl ?_
  exact ⟨(K8.out.set4 (Nat.le_refl _) _ _ _ _).alloc _, .inr ⟨_, rfl, by rw [← HN.out]; exact Flt.new' _ _ _ (by simp [World.setCell]), HT.out⟩⟩
set_option maxHeartbeats 2000000 in
theorem token_quo (b : Nat) (s : ByteArray) (k : Nat) (w : World) (h : Rd w b s k) (hk : k < s.size) (c : UInt8) (hc : s[k] = c) (hl : ltB c = false) (hd : dgB c = false) (hq : quB c = true) : Calls Tryz.prog 16 #[.pointer (some ⟨b, 0, none⟩)] w (TokPost b s k w) := by
  have hblt := h.lt
  have htop := h.top
  have c2 := (h.alloc (.cells #[.int .i64 0, .int .i64 0, .int .i64 0, .string ⟨#[]⟩] 30)).c2
  rw [line_at] at c2
  obtain ⟨n, hn⟩ : ∃ n : Int, n = lastL s - nl (sfx s k) := ⟨_, rfl⟩
  rw [← hn] at c2
  obtain ⟨Y, hY⟩ : ∃ Y : ByteArray, Y = s.extract k s.size := ⟨_, rfl⟩
  have C1 := Lib.hid (fun W h => rest_any b s k W h)
  rw [← hY] at C1
  have hYs : 0 < Y.size := by rw [hY, rest_size s k (by omega)]; omega
  have hY0 : Y[0] = c := by subst hY; rw [rest_head s k hk hYs]; exact hc
  have hYe := empB_no Y hYs
  have hcons := sfx_cons s k hk
  rw [hc] at hcons
  have HC := Lib.hid hcons
  have L1 := Lib.hid (fun W => letter_is c false W hl)
  have L2 := Lib.hid (fun W => digit_is c false W hd)
  have L3 := Lib.hid (fun W => quote_is c true W hq)
  have hq' : c.toNat = 39 ∨ c.toNat = 34 := by unfold quB at hq; simpa using hq
  have Q1 := Lib.hid (fun W h => quoted_any b s k W h hk c hc (by rintro rfl; revert hq'; decide) (by rintro rfl; revert hq'; decide))
  have HT := Lib.hid (fun o (ho : Quo c (sfx s (k + 1)) o) => hcons ▸ Tok.text hl hd hq ho)
  clear hcons hl hd hq hc hq'
  have HR := Lib.hid h
  have HN := Lib.hid hn
  clear hY h hn
  have HL := Lib.hid (tok_laid b s k w n HR.out)
  go_enter Tryz.func16, Tryz.ntmps16
  go_wp2_with fail
  refine (C1.out _ HL.out.1).mono ?_; rintro e w1 ⟨rfl, r1, k1⟩
  have R1 := Lib.hid r1
  have K1 := Lib.hid (HL.out.2.1.trans k1)
  have T0 := Lib.hid (HL.out.2.2.1.kp k1 (by omega))
  have T1 := Lib.hid (HL.out.2.2.2.kp k1 (by omega))
  clear r1 k1 c2
  obtain ⟨a0, a1, a2, a3⟩ := T0.out.cells
  obtain ⟨f0, f1, f2, f3⟩ := T0.out.frozen
  obtain ⟨b0, b1, b2, b3⟩ := T1.out.cells
  obtain ⟨g0, g1, g2, g3⟩ := T1.out.frozen
  go_wp2_with (first
    | (go_at_call 26; refine (L1.out _).mono ?_; rintro e w' ⟨rfl, rfl⟩)
    | (go_at_call 28; refine (L2.out _).mono ?_; rintro e w' ⟨rfl, rfl⟩)
    | (go_at_call 31; refine (L3.out _).mono ?_; rintro e w' ⟨rfl, rfl⟩))
  clear a0 a1 a2 a3 f0 f1 f2 f3 b0 b1 b2 b3 g0 g1 g2 g3
  have R1b := Lib.hid (R1.out.setNew (g := w.heap.size + 1) (by omega) 0 (.int .i64 4))
  have K1b := Lib.hid (K1.out.setNew (g := w.heap.size + 1) (by omega) 0 (.int .i64 4))
  have T0b := Lib.hid (T0.out.setOther (g' := w.heap.size + 1) (by omega) 0 (.int .i64 4))
  have T1b := Lib.hid (T1.out.set0 (.int .i64 4))
  generalize w1.setCell ⟨w.heap.size + 1, 0, none⟩ (.int .i64 4) = w1b at *
  refine (Q1.out _ R1b.out).mono ?_; rintro e w2 ⟨o, ho, hpo⟩
  have HO := Lib.hid (HT.out o ho)
  clear ho
  rcases o with _ | ⟨t, r⟩
  · obtain ⟨rfl, k2⟩ := hpo.none_of
    have K2 := hid_kp K1b k2
    have T20 := Lib.hid (T0b.out.kp k2 (by omega))
    have T21 := Lib.hid (T1b.out.kp k2 (by omega))
    clear hpo k2
    obtain ⟨a0, a1, a2, a3⟩ := T20.out.cells
    obtain ⟨f0, f1, f2, f3⟩ := T20.out.frozen
    obtain ⟨b0, b1, b2, b3⟩ := T21.out.cells
    obtain ⟨g0, g1, g2, g3⟩ := T21.out.frozen
    go_wp2_with fail
    clear a0 a1 a2 a3 f0 f1 f2 f3 b0 b1 b2 b3 g0 g1 g2 g3
    refine (fault_any _ _).mono ?_; rintro e w9 ⟨rfl, rfl⟩
    have K8 := Lib.hid (K2.out.setNew (g := w.heap.size + 1) (by omega) 3 (.string ⟨#[]⟩))
    have T8 := Lib.hid (T20.out.setOther (g' := w.heap.size + 1) (by omega) 3 (.string ⟨#[]⟩))
    generalize w2.setCell ⟨w.heap.size + 1, 3, none⟩ (.string ⟨#[]⟩) = w8 at *
    have hsz8 := T8.out.lt
    obtain ⟨a0, a1, a2, a3⟩ := T8.out.cells
    obtain ⟨f0, f1, f2, f3⟩ := T8.out.frozen
    go_wp2_with fail
    clear a0 a1 a2 a3 f0 f1 f2 f3
    obtain ⟨d0, d1, d2, d3⟩ := ((T8.out.set4 (.int .i64 0) (.int .i64 0) (.int .i64 0) (.string ⟨#[]⟩)).alloc (.cells #[.int .i64 n, .iface 42 (.int .i64 5)] 54)).cells
    refine bodyPost_ret (v := .tuple #[.agg #[.int .i64 0, .int .i64 0, .int .i64 0, .string ⟨#[]⟩], .iface 49 (.pointer (some ⟨w8.heap.size, 0, none⟩))]) (by simp [results, Tryz.results16, go_sem, d0, d1, d2, d3]) rfl ?_
    exact ⟨(K8.out.set4 (Nat.le_refl _) _ _ _ _).alloc _, .inr ⟨_, rfl, by rw [← HN.out]; exact Flt.new' _ _ _ (by simp [World.setCell]), HO.out⟩⟩
  · obtain ⟨k', rfl, r2, hr2, hlt2, k2⟩ := hpo.some_of
    have R2 := Lib.hid r2
    have K2 := hid_kp K1b k2
    have T20 := Lib.hid (T0b.out.kp k2 (by omega))
    have T21 := Lib.hid (T1b.out.kp k2 (by omega))
    have HE := Lib.hid hr2
    obtain ⟨X, hX⟩ : ∃ X : ByteArray, X = ⟨t.toArray⟩ := ⟨_, rfl⟩
    rw [← hX]
    have HX := Lib.hid hX
    clear hpo r2 k2 hr2 hX
    obtain ⟨a0, a1, a2, a3⟩ := T20.out.cells
    obtain ⟨f0, f1, f2, f3⟩ := T20.out.frozen
    obtain ⟨b0, b1, b2, b3⟩ := T21.out.cells
    obtain ⟨g0, g1, g2, g3⟩ := T21.out.frozen
    go_wp2_with fail
    clear a0 a1 a2 a3 f0 f1 f2 f3 b0 b1 b2 b3 g0 g1 g2 g3
    obtain ⟨d0, d1, d2, d3⟩ := ((T20.out.setOther (g' := w.heap.size + 1) (by omega) 3 (.string X)).set4 (.int .i64 4) (.int .i64 n) (.int .i64 0) (.string X)).cells
    refine bodyPost_ret (v := .tuple #[.agg #[.int .i64 4, .int .i64 n, .int .i64 0, .string X], .nilIface]) (by simp [results, Tryz.results16, go_sem, d0, d1, d2, d3]) rfl ?_
    exact ⟨(K2.out.setNew (by omega) _ _).set4 (Nat.le_refl _) _ _ _ _, .inl ⟨4, 0, _, _, by rw [← HN.out, HX.out], (R2.out.setNew (by omega) _ _).set4 hblt _ _ _ _, by omega, fun _ => by omega, fun e => absurd e (by decide), by rw [HE.out]; exact HO.out⟩⟩
set_option maxHeartbeats 2000000 in
theorem token_brk (b : Nat) (s : ByteArray) (k : Nat) (w : World) (h : Rd w b s k) (hk : k < s.size) (c : UInt8) (hc : s[k] = c) (hl : ltB c = false) (hd : dgB c = false) (hq : quB c = false) (hop : 0 < opn (sfx s k)) : Calls Tryz.prog 16 #[.pointer (some ⟨b, 0, none⟩)] w (TokPost b s k w) := by
  have hblt := h.lt
  have htop := h.top
  have c2 := (h.alloc (.cells #[.int .i64 0, .int .i64 0, .int .i64 0, .string ⟨#[]⟩] 30)).c2
  rw [line_at] at c2
  obtain ⟨n, hn⟩ : ∃ n : Int, n = lastL s - nl (sfx s k) := ⟨_, rfl⟩
  rw [← hn] at c2
  obtain ⟨Y, hY⟩ : ∃ Y : ByteArray, Y = s.extract k s.size := ⟨_, rfl⟩
  have C1 := Lib.hid (fun W h => rest_any b s k W h)
  rw [← hY] at C1
  have hYs : 0 < Y.size := by rw [hY, rest_size s k (by omega)]; omega
  have hY0 : Y[0] = c := by subst hY; rw [rest_head s k hk hYs]; exact hc
  have hYe := empB_no Y hYs
  have hcons := sfx_cons s k hk
  rw [hc] at hcons
  have HC := Lib.hid hcons
  have L1 := Lib.hid (fun W => letter_is c false W hl)
  have L2 := Lib.hid (fun W => digit_is c false W hd)
  have L3 := Lib.hid (fun W => quote_is c false W hq)
  have hYl : Y.data.toList = sfx s k := by rw [hY, sfx_rest]
  have hYz : Y.size ≤ 100000 := by rw [hY, rest_size s _ (by omega)]; omega
  have L4 := Lib.hid (fun W => begins_is Y true W hYz (by rw [hYl]; exact decide_eq_true hop))
  have Q1 := Lib.hid (fun W h => bracketed_any b s k W h hop)
  have HO := Lib.hid (hcons ▸ Tok.long hl hd hq (hcons ▸ hop))
  clear hYl hYz hop
  clear hcons hl hd hq hc
  have HR := Lib.hid h
  have HN := Lib.hid hn
  clear hY h hn
  have HL := Lib.hid (tok_laid b s k w n HR.out)
  go_enter Tryz.func16, Tryz.ntmps16
  go_wp2_with fail
  refine (C1.out _ HL.out.1).mono ?_; rintro e w1 ⟨rfl, r1, k1⟩
  have R1 := Lib.hid r1
  have K1 := Lib.hid (HL.out.2.1.trans k1)
  have T0 := Lib.hid (HL.out.2.2.1.kp k1 (by omega))
  have T1 := Lib.hid (HL.out.2.2.2.kp k1 (by omega))
  clear r1 k1 c2
  obtain ⟨a0, a1, a2, a3⟩ := T0.out.cells
  obtain ⟨f0, f1, f2, f3⟩ := T0.out.frozen
  obtain ⟨b0, b1, b2, b3⟩ := T1.out.cells
  obtain ⟨g0, g1, g2, g3⟩ := T1.out.frozen
  go_wp2_with (first
    | (go_at_call 26; refine (L1.out _).mono ?_; rintro e w' ⟨rfl, rfl⟩)
    | (go_at_call 28; refine (L2.out _).mono ?_; rintro e w' ⟨rfl, rfl⟩)
    | (go_at_call 31; refine (L3.out _).mono ?_; rintro e w' ⟨rfl, rfl⟩)
    | (go_at_call 33; refine (L4.out _).mono ?_; rintro e w' ⟨rfl, rfl⟩))
  clear a0 a1 a2 a3 f0 f1 f2 f3 b0 b1 b2 b3 g0 g1 g2 g3
  have R1b := Lib.hid (R1.out.setNew (g := w.heap.size + 1) (by omega) 0 (.int .i64 4))
  have K1b := Lib.hid (K1.out.setNew (g := w.heap.size + 1) (by omega) 0 (.int .i64 4))
  have T0b := Lib.hid (T0.out.setOther (g' := w.heap.size + 1) (by omega) 0 (.int .i64 4))
  have T1b := Lib.hid (T1.out.set0 (.int .i64 4))
  generalize w1.setCell ⟨w.heap.size + 1, 0, none⟩ (.int .i64 4) = w1b at *
  refine (Q1.out _ R1b.out).mono ?_; intro e w2 hpo
  generalize brk (sfx s k) = o at *
  rcases o with _ | ⟨t, r⟩
  · obtain ⟨rfl, k2⟩ := hpo.none_of
    have K2 := hid_kp K1b k2
    have T20 := Lib.hid (T0b.out.kp k2 (by omega))
    have T21 := Lib.hid (T1b.out.kp k2 (by omega))
    clear hpo k2
    obtain ⟨a0, a1, a2, a3⟩ := T20.out.cells
    obtain ⟨f0, f1, f2, f3⟩ := T20.out.frozen
    obtain ⟨b0, b1, b2, b3⟩ := T21.out.cells
    obtain ⟨g0, g1, g2, g3⟩ := T21.out.frozen
    go_wp2_with fail
    clear a0 a1 a2 a3 f0 f1 f2 f3 b0 b1 b2 b3 g0 g1 g2 g3
    refine (fault_any _ _).mono ?_; rintro e w9 ⟨rfl, rfl⟩
    have K8 := Lib.hid (K2.out.setNew (g := w.heap.size + 1) (by omega) 3 (.string ⟨#[]⟩))
    have T8 := Lib.hid (T20.out.setOther (g' := w.heap.size + 1) (by omega) 3 (.string ⟨#[]⟩))
    generalize w2.setCell ⟨w.heap.size + 1, 3, none⟩ (.string ⟨#[]⟩) = w8 at *
    have hsz8 := T8.out.lt
    obtain ⟨a0, a1, a2, a3⟩ := T8.out.cells
    obtain ⟨f0, f1, f2, f3⟩ := T8.out.frozen
    go_wp2_with fail
    clear a0 a1 a2 a3 f0 f1 f2 f3
    obtain ⟨d0, d1, d2, d3⟩ := ((T8.out.set4 (.int .i64 0) (.int .i64 0) (.int .i64 0) (.string ⟨#[]⟩)).alloc (.cells #[.int .i64 n, .iface 42 (.int .i64 5)] 54)).cells
    refine bodyPost_ret (v := .tuple #[.agg #[.int .i64 0, .int .i64 0, .int .i64 0, .string ⟨#[]⟩], .iface 49 (.pointer (some ⟨w8.heap.size, 0, none⟩))]) (by simp [results, Tryz.results16, go_sem, d0, d1, d2, d3]) rfl ?_
    exact ⟨(K8.out.set4 (Nat.le_refl _) _ _ _ _).alloc _, .inr ⟨_, rfl, by rw [← HN.out]; exact Flt.new' _ _ _ (by simp [World.setCell]), HO.out⟩⟩
  · obtain ⟨k', rfl, r2, hr2, hlt2, k2⟩ := hpo.some_of
    have R2 := Lib.hid r2
    have K2 := hid_kp K1b k2
    have T20 := Lib.hid (T0b.out.kp k2 (by omega))
    have T21 := Lib.hid (T1b.out.kp k2 (by omega))
    have HE := Lib.hid hr2
    obtain ⟨X, hX⟩ : ∃ X : ByteArray, X = ⟨t.toArray⟩ := ⟨_, rfl⟩
    rw [← hX]
    have HX := Lib.hid hX
    clear hpo r2 k2 hr2 hX
    obtain ⟨a0, a1, a2, a3⟩ := T20.out.cells
    obtain ⟨f0, f1, f2, f3⟩ := T20.out.frozen
    obtain ⟨b0, b1, b2, b3⟩ := T21.out.cells
    obtain ⟨g0, g1, g2, g3⟩ := T21.out.frozen
    go_wp2_with fail
    clear a0 a1 a2 a3 f0 f1 f2 f3 b0 b1 b2 b3 g0 g1 g2 g3
    obtain ⟨d0, d1, d2, d3⟩ := ((T20.out.setOther (g' := w.heap.size + 1) (by omega) 3 (.string X)).set4 (.int .i64 4) (.int .i64 n) (.int .i64 0) (.string X)).cells
    refine bodyPost_ret (v := .tuple #[.agg #[.int .i64 4, .int .i64 n, .int .i64 0, .string X], .nilIface]) (by simp [results, Tryz.results16, go_sem, d0, d1, d2, d3]) rfl ?_
    exact ⟨(K2.out.setNew (by omega) _ _).set4 (Nat.le_refl _) _ _ _ _, .inl ⟨4, 0, _, _, by rw [← HN.out, HX.out], (R2.out.setNew (by omega) _ _).set4 hblt _ _ _ _, by omega, fun _ => by omega, fun e => absurd e (by decide), by rw [HE.out]; exact HO.out⟩⟩
set_option maxHeartbeats 2000000 in
theorem token_sgn (b : Nat) (s : ByteArray) (k : Nat) (w : World) (h : Rd w b s k) (hk : k < s.size) (c : UInt8) (hc : s[k] = c) (hl : ltB c = false) (hd : dgB c = false) (hq : quB c = false) (hop : ¬ 0 < opn (sfx s k)) : Calls Tryz.prog 16 #[.pointer (some ⟨b, 0, none⟩)] w (TokPost b s k w) := by
  have hblt := h.lt
  have htop := h.top
  have c2 := (h.alloc (.cells #[.int .i64 0, .int .i64 0, .int .i64 0, .string ⟨#[]⟩] 30)).c2
  rw [line_at] at c2
  obtain ⟨n, hn⟩ : ∃ n : Int, n = lastL s - nl (sfx s k) := ⟨_, rfl⟩
  rw [← hn] at c2
  obtain ⟨Y, hY⟩ : ∃ Y : ByteArray, Y = s.extract k s.size := ⟨_, rfl⟩
  have C1 := Lib.hid (fun W h => rest_any b s k W h)
  rw [← hY] at C1
  have hYs : 0 < Y.size := by rw [hY, rest_size s k (by omega)]; omega
  have hY0 : Y[0] = c := by subst hY; rw [rest_head s k hk hYs]; exact hc
  have hYe := empB_no Y hYs
  have hcons := sfx_cons s k hk
  rw [hc] at hcons
  have HC := Lib.hid hcons
  have L1 := Lib.hid (fun W => letter_is c false W hl)
  have L2 := Lib.hid (fun W => digit_is c false W hd)
  have L3 := Lib.hid (fun W => quote_is c false W hq)
  have hYl : Y.data.toList = sfx s k := by rw [hY, sfx_rest]
  have hYz : Y.size ≤ 100000 := by rw [hY, rest_size s _ (by omega)]; omega
  have L4 := Lib.hid (fun W => begins_is Y false W hYz (by rw [hYl]; exact decide_eq_false hop))
  have Q1 := Lib.hid (fun W h => sign_any b s k W h)
  have HO := Lib.hid (hcons ▸ Tok.sign hl hd hq (hcons ▸ hop))
  clear hYl hYz hop
  clear hcons hl hd hq hc
  have HR := Lib.hid h
  have HN := Lib.hid hn
  clear hY h hn
  have HL := Lib.hid (tok_laid b s k w n HR.out)
  go_enter Tryz.func16, Tryz.ntmps16
  go_wp2_with fail
  refine (C1.out _ HL.out.1).mono ?_; rintro e w1 ⟨rfl, r1, k1⟩
  have R1 := Lib.hid r1
  have K1 := Lib.hid (HL.out.2.1.trans k1)
  have T0 := Lib.hid (HL.out.2.2.1.kp k1 (by omega))
  have T1 := Lib.hid (HL.out.2.2.2.kp k1 (by omega))
  clear r1 k1 c2
  obtain ⟨a0, a1, a2, a3⟩ := T0.out.cells
  obtain ⟨f0, f1, f2, f3⟩ := T0.out.frozen
  obtain ⟨b0, b1, b2, b3⟩ := T1.out.cells
  obtain ⟨g0, g1, g2, g3⟩ := T1.out.frozen
  go_wp2_with (first
    | (go_at_call 26; refine (L1.out _).mono ?_; rintro e w' ⟨rfl, rfl⟩)
    | (go_at_call 28; refine (L2.out _).mono ?_; rintro e w' ⟨rfl, rfl⟩)
    | (go_at_call 31; refine (L3.out _).mono ?_; rintro e w' ⟨rfl, rfl⟩)
    | (go_at_call 33; refine (L4.out _).mono ?_; rintro e w' ⟨rfl, rfl⟩))
  clear a0 a1 a2 a3 f0 f1 f2 f3 b0 b1 b2 b3 g0 g1 g2 g3
  have R1b := Lib.hid (R1.out.setNew (g := w.heap.size + 1) (by omega) 0 (.int .i64 5))
  have K1b := Lib.hid (K1.out.setNew (g := w.heap.size + 1) (by omega) 0 (.int .i64 5))
  have T0b := Lib.hid (T0.out.setOther (g' := w.heap.size + 1) (by omega) 0 (.int .i64 5))
  have T1b := Lib.hid (T1.out.set0 (.int .i64 5))
  generalize w1.setCell ⟨w.heap.size + 1, 0, none⟩ (.int .i64 5) = w1b at *
  refine (Q1.out _ R1b.out).mono ?_; intro e w2 hpo
  generalize sign (sfx s k) = o at *
  rcases o with _ | ⟨t, r⟩
  · obtain ⟨rfl, k2⟩ := hpo.none_of
    have K2 := hid_kp K1b k2
    have T20 := Lib.hid (T0b.out.kp k2 (by omega))
    have T21 := Lib.hid (T1b.out.kp k2 (by omega))
    clear hpo k2
    obtain ⟨a0, a1, a2, a3⟩ := T20.out.cells
    obtain ⟨f0, f1, f2, f3⟩ := T20.out.frozen
    obtain ⟨b0, b1, b2, b3⟩ := T21.out.cells
    obtain ⟨g0, g1, g2, g3⟩ := T21.out.frozen
    go_wp2_with fail
    clear a0 a1 a2 a3 f0 f1 f2 f3 b0 b1 b2 b3 g0 g1 g2 g3
    refine (fault_any _ _).mono ?_; rintro e w9 ⟨rfl, rfl⟩
    have K8 := Lib.hid (K2.out.setNew (g := w.heap.size + 1) (by omega) 3 (.string ⟨#[]⟩))
    have T8 := Lib.hid (T20.out.setOther (g' := w.heap.size + 1) (by omega) 3 (.string ⟨#[]⟩))
    generalize w2.setCell ⟨w.heap.size + 1, 3, none⟩ (.string ⟨#[]⟩) = w8 at *
    have hsz8 := T8.out.lt
    obtain ⟨a0, a1, a2, a3⟩ := T8.out.cells
    obtain ⟨f0, f1, f2, f3⟩ := T8.out.frozen
    go_wp2_with fail
    clear a0 a1 a2 a3 f0 f1 f2 f3
    obtain ⟨d0, d1, d2, d3⟩ := ((T8.out.set4 (.int .i64 0) (.int .i64 0) (.int .i64 0) (.string ⟨#[]⟩)).alloc (.cells #[.int .i64 n, .iface 42 (.int .i64 5)] 54)).cells
    refine bodyPost_ret (v := .tuple #[.agg #[.int .i64 0, .int .i64 0, .int .i64 0, .string ⟨#[]⟩], .iface 49 (.pointer (some ⟨w8.heap.size, 0, none⟩))]) (by simp [results, Tryz.results16, go_sem, d0, d1, d2, d3]) rfl ?_
    exact ⟨(K8.out.set4 (Nat.le_refl _) _ _ _ _).alloc _, .inr ⟨_, rfl, by rw [← HN.out]; exact Flt.new' _ _ _ (by simp [World.setCell]), HO.out⟩⟩
  · obtain ⟨k', rfl, r2, hr2, hlt2, k2⟩ := hpo.some_of
    have R2 := Lib.hid r2
    have K2 := hid_kp K1b k2
    have T20 := Lib.hid (T0b.out.kp k2 (by omega))
    have T21 := Lib.hid (T1b.out.kp k2 (by omega))
    have HE := Lib.hid hr2
    obtain ⟨X, hX⟩ : ∃ X : ByteArray, X = ⟨t.toArray⟩ := ⟨_, rfl⟩
    rw [← hX]
    have HX := Lib.hid hX
    clear hpo r2 k2 hr2 hX
    obtain ⟨a0, a1, a2, a3⟩ := T20.out.cells
    obtain ⟨f0, f1, f2, f3⟩ := T20.out.frozen
    obtain ⟨b0, b1, b2, b3⟩ := T21.out.cells
    obtain ⟨g0, g1, g2, g3⟩ := T21.out.frozen
    go_wp2_with fail
    clear a0 a1 a2 a3 f0 f1 f2 f3 b0 b1 b2 b3 g0 g1 g2 g3
    obtain ⟨d0, d1, d2, d3⟩ := ((T20.out.setOther (g' := w.heap.size + 1) (by omega) 3 (.string X)).set4 (.int .i64 5) (.int .i64 n) (.int .i64 0) (.string X)).cells
    refine bodyPost_ret (v := .tuple #[.agg #[.int .i64 5, .int .i64 n, .int .i64 0, .string X], .nilIface]) (by simp [results, Tryz.results16, go_sem, d0, d1, d2, d3]) rfl ?_
    exact ⟨(K2.out.setNew (by omega) _ _).set4 (Nat.le_refl _) _ _ _ _, .inl ⟨5, 0, _, _, by rw [← HN.out, HX.out], (R2.out.setNew (by omega) _ _).set4 hblt _ _ _ _, by omega, fun _ => by omega, fun e => absurd e (by decide), by rw [HE.out]; exact HO.out⟩⟩
theorem token_any (b : Nat) (s : ByteArray) (k : Nat) (w : World) (h : Rd w b s k) : Calls Tryz.prog 16 #[.pointer (some ⟨b, 0, none⟩)] w (TokPost b s k w) := by
  by_cases hk : k = s.size
  · exact token_eof b s k w h hk
  · have hk : k < s.size := by have := h.le; omega
    cases hl : ltB s[k]
    · cases hd : dgB s[k]
      · cases hq : quB s[k]
        · by_cases hop : 0 < opn (sfx s k)
          · exact token_brk b s k w h hk _ rfl hl hd hq hop
          · exact token_sgn b s k w h hk _ rfl hl hd hq hop
        · exact token_quo b s k w h hk _ rfl hl hd hq
      · cases hno : numO 9223372036854775807 ((sfx s k).takeWhile nuB)
        · exact token_num_bad b s k w h hk _ rfl hl hd hno
        · exact token_num b s k w h hk _ rfl hl hd hno
    · exact token_name b s k w h hk _ rfl hl
end Go.Proofs.YtbeckfamnhfaeaaGreatDoor
