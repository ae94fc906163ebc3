/- str.Format, where each of a format's pieces comes out: the pieces one behind the other. -/
import Derived.Test.YtnpmnielknmboaaGreatDoorSPut
import Derived.Deep.LoopGhost
namespace Go.Proofs.YtnpmnielknmboaaGreatDoor
open Go.RowKit Go.Sort

/-- A format's pieces: what comes out, what stands behind, how many values; from the t-th value on. -/
def Steps (W : World) (bk o n c : Nat) : ByteArray → Nat → List (ByteArray × ByteArray × Nat) → Prop
  | f, _, [] => f.size = 0
  | f, t, (piece, rest, m) :: r =>
    0 < f.size ∧ (∀ w, Below W.heap.size W w → (c ≠ t → NextIs f (.slice (some ⟨bk, o + t * 3, none⟩) (n - t) (c - t)) piece rest m w) ∧ (c = t → ∀ v, NextIs f v piece rest m w)) ∧ Steps W bk o n c rest (t + m) r
/-- All that comes out, and all values. -/
def outs (r : List (ByteArray × ByteArray × Nat)) : List UInt8 := r.flatMap fun p => p.1.data.toList
def takes (r : List (ByteArray × ByteArray × Nat)) : Nat := (r.map fun p => p.2.2).sum
theorem ret_sii {a a' : ByteArray} {n n' m m' : Int} (h : a = a') (h' : n = n') (h'' : m = m') : Ending.returned (.tuple #[.string a, .int .i64 n, .int .i64 m]) = .returned (.tuple #[.string a', .int .i64 n', .int .i64 m']) := by rw [h, h', h'']

theorem emp_no {s : ByteArray} (h : 0 < s.size) : s.toList.isEmpty = false := by
  rw [Lib.toList_data]
  cases e : s.data.toList with
  | nil =>
    have := Lib.size_eq s
    rw [e, List.length_nil] at this
    omega
  | cons => rfl
theorem emp_yes {s : ByteArray} (h : s.size = 0) : s.toList.isEmpty = true := by
  rw [Lib.toList_data, List.eq_nil_of_length_eq_zero (l := s.data.toList) (by rw [← Lib.size_eq]; exact h)]
  rfl

set_option maxHeartbeats 4000000 in
set_option maxRecDepth 100000 in
theorem fmt_any (f : ByteArray) (bk o n c : Nat) (r : List (ByteArray × ByteArray × Nat)) (most : Int) (w : World) (hn : n ≤ c) (hc : c ≤ maxLen) (hm : most ≤ 2147483647) (hst : Steps w bk o n c f 0 r)
    (hlen : ((outs r).length : Int) ≤ max 0 most) (hll : (outs r).length ≤ 500000) (htk : takes r ≤ n) :
    Calls Tryz.prog 19 #[.string f, .slice (some ⟨bk, o, none⟩) n c, .int .i64 most] w fun e w' => e = .returned (.tuple #[.string ⟨(outs r).toArray⟩, .int .i64 (takes r : Int), .int .i64 0]) ∧ Below w.heap.size w w' := by
  unfold maxLen at hc
  obtain ⟨M, hM, hM0, hM1⟩ : ∃ M : Int, M = max 0 most ∧ 0 ≤ M ∧ M ≤ 2147483647 := ⟨_, rfl, by omega, by omega⟩
  have HBd := Lib.hid (fun W => hM ▸ bound_any most W hm)
  rw [← hM] at hlen
  have HS := Lib.hid hst
  clear hM hst
  go_enter Tryz.func19, Tryz.ntmps19
  go_wp2_with (go_at_call 29; refine (HBd.out _).mono ?_; rintro e w' ⟨rfl, rfl⟩)
  go_loopg [0, 9, 10] r.length (fun z g b t wr => ∃ (x : ByteArray) (k : Nat) (q : List (ByteArray × ByteArray × Nat)) (out : List UInt8), q.length ≤ z ∧ g = .string x ∧ t = .int .i64 k ∧ BBuf wr w.heap.size b out ∧ Below w.heap.size w wr ∧ Steps w bk o n c x k q ∧ out ++ outs q = outs r ∧ k + takes q = takes r)
  case atStart => exact ⟨f, 0, r, [], Nat.le_refl _, rfl, rfl, BBuf.nil _ _, below2 _ _, HS.out, rfl, by omega⟩
  case round =>
    obtain ⟨x, k, q, out, hz, rfl, rfl, hbuf, hbel, hq, ho, hk⟩ := hrel
    have HB := Lib.hid hbuf
    have HW := Lib.hid hbel
    have hsz := hbel.size
    have HO := Lib.hid ho
    have HK := Lib.hid hk
    have hlo := congrArg List.length ho
    rw [List.length_append] at hlo
    cases q with
    | nil =>
      have hx0 : x.size = 0 := hq
      have hxl := emp_yes hx0
      have hcv := buf_string HB.out
      clear hbuf hbel hq ho hk hlo
      go_wp2
      go_ret3
      exact ⟨ret_sii (by rw [← HO.out]; simp [outs]) (by rw [← HK.out]; simp [takes]) rfl, HW.out⟩
    | cons p q =>
      obtain ⟨piece, rest, m⟩ := p
      obtain ⟨hx0, hnx, hq'⟩ := hq
      obtain ⟨hn1, hn2⟩ := hnx _ hbel
      have HQ := Lib.hid hq'
      have ht1 : takes ((piece, rest, m) :: q) = m + takes q := by simp [takes]
      have ho1 : outs ((piece, rest, m) :: q) = piece.data.toList ++ outs q := by simp [outs]
      have hol := congrArg List.length ho1
      rw [List.length_append, ← Lib.size_eq] at hol
      have HO1 := Lib.hid ho1
      have HT1 := Lib.hid ht1
      have hkn : k + m ≤ n := by omega
      have hfit : (piece.size : Int) ≤ M - (out.length : Int) := by omega
      have hfit2 : out.length + piece.size ≤ 500000 := by omega
      have hxb := emp_no hx0
      rw [List.length_cons] at hz
      clear hbuf hbel hq' ho hk hlo hol ho1 ht1 hnx
      obtain ⟨A1, c1, rfl⟩ := HB.out.form
      by_cases hck : c = k
      · have HN := Lib.hid (hn2 hck)
        clear hn1 hn2
        subst hck
        go_wp2_with fail
        refine (HN.out _).mono ?_; rintro e w1 ⟨rfl, b1⟩
        have HB1 : Hid (BBuf w1 w.heap.size (.slice A1 out.length c1) out) := Lib.hid (HB.out.kept (row := none) ⟨b1.os, b1.tape, b1.output, b1.size, fun i hi _ => b1.block i hi⟩ (by
          rcases HB.out.2 with ⟨h, _⟩ | ⟨g, _, _, h, _⟩
          · left; rw [h]; rfl
          · right; rw [h]; simp [Value.ownBlock]))
        have hsz1 := Nat.le_trans hsz b1.size
        have B1 := Lib.hid b1
        clear b1
        go_wp2_with (at_builtin; refine at_append _ rfl _ _ rfl w.heap.size _ _ rfl HB1.out piece rfl (by omega) hsz1 ?_; intro v2 w2 hb2 hw2)
        go_roundg q.length
        case measure => omega
        case rel => exact ⟨rest, c + m, q, out ++ piece.data.toList, Nat.le_refl _, rfl, by go_num, hb2, (thenB' HW.out (Nat.le_refl _) B1.out).trans hw2, HQ.out, by rw [List.append_assoc, ← HO1.out]; exact HO.out, by rw [← HK.out, HT1.out]; omega⟩
      · have HN := Lib.hid (hn1 hck)
        clear hn1 hn2
        go_wp2_with fail
        refine HN.out.mono ?_; rintro e w1 ⟨rfl, b1⟩
        have HB1 : Hid (BBuf w1 w.heap.size (.slice A1 out.length c1) out) := Lib.hid (HB.out.kept (row := none) ⟨b1.os, b1.tape, b1.output, b1.size, fun i hi _ => b1.block i hi⟩ (by
          rcases HB.out.2 with ⟨h, _⟩ | ⟨g, _, _, h, _⟩
          · left; rw [h]; rfl
          · right; rw [h]; simp [Value.ownBlock]))
        have hsz1 := Nat.le_trans hsz b1.size
        have B1 := Lib.hid b1
        clear b1
        go_wp2_with (at_builtin; refine at_append _ rfl _ _ rfl w.heap.size _ _ rfl HB1.out piece rfl (by omega) hsz1 ?_; intro v2 w2 hb2 hw2)
        go_roundg q.length
        case measure => omega
        case rel => exact ⟨rest, k + m, q, out ++ piece.data.toList, Nat.le_refl _, rfl, by go_num, hb2, (thenB' HW.out (Nat.le_refl _) B1.out).trans hw2, HQ.out, by rw [List.append_assoc, ← HO1.out]; exact HO.out, by rw [← HK.out, HT1.out]; omega⟩
end Go.Proofs.YtnpmnielknmboaaGreatDoor
