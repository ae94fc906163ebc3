/- str.put at the values that the laws hand in: a string and a bool by s, a small number by d; and str.next, a format's next piece. -/
import Derived.Test.YtnpmnielknmboaaGreatDoorSFin
import Derived.Deep.QuietTactic
namespace Go.Proofs.YtnpmnielknmboaaGreatDoor
open Go.RowKit Go.Sort

theorem below_draws {B : Nat} {a w : World} (h : Below B a w) (n : Nat) : Below B a (w.drewN n) := ⟨h.os, h.tape, h.output, h.size, h.block⟩
theorem belowA (w : World) (o : Obj) : Below w.heap.size w (w.alloc o) := (Below.refl _ _).alloc (Nat.le_refl _) _

set_option maxHeartbeats 1000000 in
theorem vprint_str (n : Int) (s : ByteArray) (w : World) : Calls Tryz.prog 47 #[.agg #[.int .i64 3, .int .i64 n, .string s]] w fun e w' => e = .returned (.string s) ∧ Below w.heap.size w w' := by
  go_enter Tryz.func47, Tryz.ntmps47
  go_wp2
  go_ret
  exact ⟨rfl, belowA _ _⟩
set_option maxHeartbeats 1000000 in
theorem vprint_bool (s : ByteArray) (w : World) : Calls Tryz.prog 47 #[.agg #[.int .i64 1, .int .i64 1, .string s]] w fun e w' => e = .returned (.string ⟨#[116, 114, 117, 101]⟩) ∧ Below w.heap.size w w' := by
  go_enter Tryz.func47, Tryz.ntmps47
  go_wp2_with fail
  refine (Tryz.strconv_FormatBool _ _).mono ?_; rintro e w' ⟨rfl, rfl⟩
  go_wp2_with fail
  go_ret
  exact ⟨rfl, belowA _ _⟩
set_option maxHeartbeats 1000000 in
theorem number_int (n : Int) (s : ByteArray) (w : World) : Calls Tryz.prog 49 #[.agg #[.int .i64 2, .int .i64 n, .string s]] w fun e w' => e = .returned (.tuple #[.int .i64 n, .bool true]) ∧ Below w.heap.size w w' := by
  go_enter Tryz.func49, Tryz.ntmps49
  go_wp2
  go_ret2
  exact ⟨rfl, belowA _ _⟩
set_option maxHeartbeats 1000000 in
theorem cprint_seven (w : World) : Calls Tryz.prog 63 #[.int .i64 7] w fun e w' => e = .returned (.string ⟨#[55]⟩) ∧ w = w' := by
  have h := Lib.hid (fun W => Tryz.strconv_FormatInt_10_small 7 (by omega) W)
  go_enter Tryz.func63, Tryz.ntmps63
  go_wp2_with fail
  refine (h.out _).mono ?_; rintro e w' ⟨rfl, rfl⟩
  go_wp2_with fail
  go_ret
  exact ⟨ret_str (by rw [show Lib.decDigits 7 = [55] from by decide +kernel]), rfl⟩
set_option maxHeartbeats 1000000 in
theorem shown_seven (w : World) : Calls Tryz.prog 50 #[.int .u8 100, .int .i64 7] w fun e w' => e = .returned (.string ⟨#[55]⟩) ∧ w = w' := by
  go_enter Tryz.func50, Tryz.ntmps50
  go_wp2_with (go_at_call 63; refine (cprint_seven _).mono ?_; rintro e w' ⟨rfl, rfl⟩)
  go_ret
  exact ⟨rfl, rfl⟩

/-- What put makes of a value by a sign. -/
def PutIs (c : UInt8) (k n : Int) (s out : ByteArray) : Prop :=
  ∀ w : World, Calls Tryz.prog 35 #[.int .u8 (c.toNat : Int), .agg #[.int .i64 k, .int .i64 n, .string s]] w fun e w' => e = .returned (.tuple #[.string out, .bool true]) ∧ Below w.heap.size w w'

set_option maxHeartbeats 1000000 in
theorem put_str (n : Int) (s : ByteArray) : PutIs 115 3 n s s := by
  intro w
  show Calls Tryz.prog 35 #[.int .u8 115, _] w _
  go_enter Tryz.func35, Tryz.ntmps35
  go_wp2_with (go_at_call 47; refine (vprint_str _ _ _).mono ?_; rintro e w1 ⟨rfl, b1⟩)
  go_ret2
  exact ⟨rfl, thenB (belowA _ _) b1⟩
set_option maxHeartbeats 1000000 in
theorem put_bool (s : ByteArray) : PutIs 115 1 1 s ⟨#[116, 114, 117, 101]⟩ := by
  intro w
  show Calls Tryz.prog 35 #[.int .u8 115, _] w _
  go_enter Tryz.func35, Tryz.ntmps35
  go_wp2_with (go_at_call 47; refine (vprint_bool _ _).mono ?_; rintro e w1 ⟨rfl, b1⟩)
  go_ret2
  exact ⟨rfl, thenB (belowA _ _) b1⟩
set_option maxHeartbeats 1000000 in
theorem put_seven (s : ByteArray) : PutIs 100 2 7 s ⟨#[55]⟩ := by
  intro w
  show Calls Tryz.prog 35 #[.int .u8 100, _] w _
  go_enter Tryz.func35, Tryz.ntmps35
  go_wp2_with (first
    | (go_at_call 49; refine (number_int _ _ _).mono ?_; rintro e w1 ⟨rfl, b1⟩)
    | (go_at_call 50; refine (shown_seven _).mono ?_; rintro e w2 ⟨rfl, rfl⟩))
  go_ret2
  exact ⟨rfl, thenB (belowA _ _) b1⟩

set_option maxHeartbeats 1000000 in
theorem asks_s (w : World) : Calls Tryz.prog 34 #[.int .u8 115] w fun e w' => e = .returned (.tuple #[.int .i64 1, .bool true]) ∧ w = w' := by
  go_enter Tryz.func34, Tryz.ntmps34
  go_wp2
  go_ret2
  exact ⟨rfl, rfl⟩
set_option maxHeartbeats 1000000 in
theorem asks_d (w : World) : Calls Tryz.prog 34 #[.int .u8 100] w fun e w' => e = .returned (.tuple #[.int .i64 1, .bool true]) ∧ w = w' := by
  go_enter Tryz.func34, Tryz.ntmps34
  go_wp2
  go_ret2
  exact ⟨rfl, rfl⟩
set_option maxHeartbeats 1000000 in
theorem asks_p (w : World) : Calls Tryz.prog 34 #[.int .u8 37] w fun e w' => e = .returned (.tuple #[.int .i64 0, .bool true]) ∧ w = w' := by
  go_enter Tryz.func34, Tryz.ntmps34
  go_wp2
  go_ret2
  exact ⟨rfl, rfl⟩

/-- What next answers of a format and a slice of values. -/
def NextIs (f : ByteArray) (v : Value) (piece rest : ByteArray) (n : Int) (w : World) : Prop :=
  Calls Tryz.prog 30 #[.string f, v] w fun e w' => e = .returned (.tuple #[.string piece, .string rest, .int .i64 n, .int .i64 0]) ∧ Below w.heap.size w w'

set_option maxHeartbeats 2000000 in
theorem next_pct (f : ByteArray) (v : Value) (w : World) (hs : 2 ≤ f.size) (hl : f.size ≤ 1000000) (e0 : f[0] = 37) (e1 : f[1] = 37) : NextIs f v (f.extract 1 2) (f.extract 2 f.size) 0 w := by
  unfold NextIs
  have h2 : decide (f.size < 2) = false := decide_eq_false (by omega)
  go_enter Tryz.func30, Tryz.ntmps30
  go_wp2_with fail
  go_quiet (fail)
  go_wp2_with (go_at_call 34; refine (asks_p _).mono ?_; rintro e w' ⟨rfl, rfl⟩)
  exact bodyPost_ret (v := .tuple #[.string (f.extract 1 2), .string (f.extract 2 f.size), .int .i64 0, .int .i64 0]) (by simp [results, Tryz.results30, go_sem]) rfl ⟨rfl, below_draws (Below.refl _ _) _⟩

set_option maxHeartbeats 2000000 in
theorem next_s (f : ByteArray) (bk o n c : Nat) (k m : Int) (s out : ByteArray) (w : World) (hs : 2 ≤ f.size) (hl : f.size ≤ 1000000) (e0 : f[0] = 37) (e1 : f[1] = 115) (hn : 0 < n) (hp : PutIs 115 k m s out)
    (c0 : w.cell? ⟨bk, o, none⟩ = some (.int .i64 k)) (c1 : w.cell? ⟨bk, o + 1, none⟩ = some (.int .i64 m)) (c2 : w.cell? ⟨bk, o + 2, none⟩ = some (.string s)) :
    NextIs f (.slice (some ⟨bk, o, none⟩) n c) out (f.extract 2 f.size) 1 w := by
  unfold NextIs
  have HP : Hid (∀ W : World, Calls Tryz.prog 35 #[.int .u8 115, .agg #[.int .i64 k, .int .i64 m, .string s]] W fun e w' => e = .returned (.tuple #[.string out, .bool true]) ∧ Below W.heap.size W w') := hp
  clear hp
  have h2 : decide (f.size < 2) = false := decide_eq_false (by omega)
  have hn0 : decide (n = 0) = false := decide_eq_false (by omega)
  have hn1 : ((n : Int) == 0) = false := beq_eq_false_iff_ne.2 (by omega)
  go_enter Tryz.func30, Tryz.ntmps30
  go_wp2_with fail
  go_quiet (fail)
  go_wp2_with (first
    | (go_at_call 34; refine (asks_s _).mono ?_; rintro e w' ⟨rfl, rfl⟩)
    | (go_at_call 35; refine (HP.out _).mono ?_; rintro e w1 ⟨rfl, b1⟩))
  exact bodyPost_ret (v := .tuple #[.string out, .string (f.extract 2 f.size), .int .i64 1, .int .i64 0]) (by simp [results, Tryz.results30, go_sem]) rfl ⟨rfl, (below_draws (Below.refl _ _) _).trans b1⟩

set_option maxHeartbeats 2000000 in
theorem next_d (f : ByteArray) (bk o n c : Nat) (k m : Int) (s out : ByteArray) (w : World) (hs : 2 ≤ f.size) (hl : f.size ≤ 1000000) (e0 : f[0] = 37) (e1 : f[1] = 100) (hn : 0 < n) (hp : PutIs 100 k m s out)
    (c0 : w.cell? ⟨bk, o, none⟩ = some (.int .i64 k)) (c1 : w.cell? ⟨bk, o + 1, none⟩ = some (.int .i64 m)) (c2 : w.cell? ⟨bk, o + 2, none⟩ = some (.string s)) :
    NextIs f (.slice (some ⟨bk, o, none⟩) n c) out (f.extract 2 f.size) 1 w := by
  unfold NextIs
  have HP : Hid (∀ W : World, Calls Tryz.prog 35 #[.int .u8 100, .agg #[.int .i64 k, .int .i64 m, .string s]] W fun e w' => e = .returned (.tuple #[.string out, .bool true]) ∧ Below W.heap.size W w') := hp
  clear hp
  have h2 : decide (f.size < 2) = false := decide_eq_false (by omega)
  have hn0 : decide (n = 0) = false := decide_eq_false (by omega)
  have hn1 : ((n : Int) == 0) = false := beq_eq_false_iff_ne.2 (by omega)
  go_enter Tryz.func30, Tryz.ntmps30
  go_wp2_with fail
  go_quiet (fail)
  go_wp2_with (first
    | (go_at_call 34; refine (asks_d _).mono ?_; rintro e w' ⟨rfl, rfl⟩)
    | (go_at_call 35; refine (HP.out _).mono ?_; rintro e w1 ⟨rfl, b1⟩))
  exact bodyPost_ret (v := .tuple #[.string out, .string (f.extract 2 f.size), .int .i64 1, .int .i64 0]) (by simp [results, Tryz.results30, go_sem]) rfl ⟨rfl, (below_draws (Below.refl _ _) _).trans b1⟩

theorem cut_call (f : ByteArray) (w : World) (hs : f.size ≤ 1000000) (h : Mx w) : Calls Tryz.prog 33 #[.string f, .string ⟨#[37]⟩] w fun e w' =>
    e = .returned (.tuple #[.string ⟨(Lib.cut f.data.toList [37]).1.toArray⟩, .string ⟨(Lib.cut f.data.toList [37]).2.1.toArray⟩, .bool (Lib.cut f.data.toList [37]).2.2]) ∧ ∃ n, w' = w.drewN n := by
  obtain ⟨m, hm⟩ := h
  exact Tryz.strings_Cut f ⟨#[37]⟩ m w (by omega) hm
set_option maxHeartbeats 2000000 in
theorem next_plain (f piece : ByteArray) (v : Value) (w : World) (hs : 1 ≤ f.size) (hl : f.size ≤ 1000000) (e0 : f[0].toNat ≠ 37) (hM : Mx w) (hp : piece = ⟨(Lib.cut f.data.toList [37]).1.toArray⟩) (hpl : piece.size ≤ f.size) :
    NextIs f v piece (f.extract piece.size f.size) 0 w := by
  unfold NextIs
  have h2 : ((f[0].toNat : Int) == 37) = false := beq_eq_false_iff_ne.2 (by omega)
  have h3 : ((f[0].toNat : Int) != 37) = true := by rw [bne, h2]; rfl
  obtain ⟨p2, hp2⟩ : ∃ p2 : ByteArray, p2 = ⟨(Lib.cut f.data.toList [37]).2.1.toArray⟩ := ⟨_, rfl⟩
  obtain ⟨p3, hp3⟩ : ∃ p3 : Bool, p3 = (Lib.cut f.data.toList [37]).2.2 := ⟨_, rfl⟩
  have HC := Lib.hid (cut_call f w hl hM)
  rw [← hp, ← hp2, ← hp3] at HC
  clear hp hp2 hp3 hM e0
  go_enter Tryz.func30, Tryz.ntmps30
  go_wp2_with (go_at_call 33; refine HC.out.mono ?_; rintro e w' ⟨rfl, n, rfl⟩)
  go_quiet (fail)
  go_wp2
  exact bodyPost_ret (v := .tuple #[.string piece, .string (f.extract piece.size f.size), .int .i64 0, .int .i64 0]) (by simp [results, Tryz.results30, go_sem]) rfl ⟨rfl, by first | exact below_draws (Below.refl _ _) _ | exact below_draws (below_draws (Below.refl _ _) _) _⟩
end Go.Proofs.YtnpmnielknmboaaGreatDoor
