/- Parts of the proof: LBf, LQt, LWd, LSg, LTk, LLx, RMem. -/
import Derived.Laws.IdiomStrings
import Derived.Laws.OwnMore
import Derived.Laws.AppendOwn
import Derived.OwnWalk
import Derived.Test.YtfpeecjafccfjaaGreatDoorProg
import Derived.WalkKit
import Derived.WalkSpells
import Derived.Lib.QuietBelow
import Derived.BigQuiet
import Derived.IntWalk
import Derived.WalkLawsBesides
import Derived.Deep.RegionWith
import Derived.Deep.LoopGhost
import Derived.Deep.QuietTactic
import Derived.Lib.Hide
import Derived.Lib.AppendStr
import Derived.Laws.Append
import Derived.Laws.MakeOwn
import Derived.OneCell
import Derived.Below
import Derived.Test.YtfpeecjafccfjaaGreatDoorK03
namespace Go.Proofs.YtfpeecjafccfjaaGreatDoor
open Go.RowKit
theorem esc_cons (c : UInt8) (r : List UInt8) : esc (c :: r) = escC c r := rfl
theorem escaped_any (b : Nat) (s : ByteArray) (k : Nat) (w : World) (h : Rd w b s k) : Calls Tryz.prog 110 #[.pointer (some ⟨b, 0, none⟩)] w (EscPost b s k w (esc (sfx s k))) := by
  by_cases hk : k = s.size
  · exact esc_none b s k w h hk
  · have hk : k < s.size := by have := h.le; omega
    have hs := sfx_cons s k hk
    have at97 := esc_97 b s k w h hk
    have at98 := esc_98 b s k w h hk
    have at102 := esc_102 b s k w h hk
    have at110 := esc_110 b s k w h hk
    have at114 := esc_114 b s k w h hk
    have at116 := esc_116 b s k w h hk
    have at118 := esc_118 b s k w h hk
    have at92 := esc_92 b s k w h hk
    have at39 := esc_39 b s k w h hk
    have at34 := esc_34 b s k w h hk
    have at10 := esc_10 b s k w h hk
    have at122 := esc_122 b s k w h hk
    have at120 := esc_120 b s k w h hk
    have at48 := esc_48 b s k w h hk
    have at49 := esc_49 b s k w h hk
    have at50 := esc_50 b s k w h hk
    have at51 := esc_51 b s k w h hk
    have at52 := esc_52 b s k w h hk
    have at53 := esc_53 b s k w h hk
    have at54 := esc_54 b s k w h hk
    have at55 := esc_55 b s k w h hk
    have at56 := esc_56 b s k w h hk
    have at57 := esc_57 b s k w h hk
    have other := esc_other b s k w h hk s[k] rfl
    generalize s[k] = c at *
    have code1 : ∀ c' : UInt8, lett c' = none → selfB c' = false → c'.toNat ≠ 122 → c'.toNat ≠ 120 → dgB c' = true → c = c' → esc (sfx s k) = code 10 dgB 1 3 (sfx s k) := fun c' a1 a2 a3 a4 a5 e => by
      rw [hs, e]; exact (esc_cons _ _).trans (escC_d _ a1 a2 a3 a4 a5)
    have eqn : ∀ v : UInt8, c.toNat = v.toNat → c = v := fun v h => UInt8.toNat_inj.1 h
    by_cases e : c.toNat = 97
    · rw [hs, eqn 97 e, show esc (97 :: sfx s (k + 1)) = some ([7], sfx s (k + 1)) from (esc_cons _ _).trans (escC_lett _ (by decide))]; exact at97 (eqn 97 e)
    by_cases e : c.toNat = 98
    · rw [hs, eqn 98 e, show esc (98 :: sfx s (k + 1)) = some ([8], sfx s (k + 1)) from (esc_cons _ _).trans (escC_lett _ (by decide))]; exact at98 (eqn 98 e)
    by_cases e : c.toNat = 102
    · rw [hs, eqn 102 e, show esc (102 :: sfx s (k + 1)) = some ([12], sfx s (k + 1)) from (esc_cons _ _).trans (escC_lett _ (by decide))]; exact at102 (eqn 102 e)
    by_cases e : c.toNat = 110
    · rw [hs, eqn 110 e, show esc (110 :: sfx s (k + 1)) = some ([10], sfx s (k + 1)) from (esc_cons _ _).trans (escC_lett _ (by decide))]; exact at110 (eqn 110 e)
    by_cases e : c.toNat = 114
    · rw [hs, eqn 114 e, show esc (114 :: sfx s (k + 1)) = some ([13], sfx s (k + 1)) from (esc_cons _ _).trans (escC_lett _ (by decide))]; exact at114 (eqn 114 e)
    by_cases e : c.toNat = 116
    · rw [hs, eqn 116 e, show esc (116 :: sfx s (k + 1)) = some ([9], sfx s (k + 1)) from (esc_cons _ _).trans (escC_lett _ (by decide))]; exact at116 (eqn 116 e)
    by_cases e : c.toNat = 118
    · rw [hs, eqn 118 e, show esc (118 :: sfx s (k + 1)) = some ([11], sfx s (k + 1)) from (esc_cons _ _).trans (escC_lett _ (by decide))]; exact at118 (eqn 118 e)
    by_cases e : c.toNat = 92
    · rw [hs, eqn 92 e, show esc (92 :: sfx s (k + 1)) = some ([92], sfx s (k + 1)) from (esc_cons _ _).trans (escC_self _ (by decide) (by decide))]; exact at92 (eqn 92 e)
    by_cases e : c.toNat = 39
    · rw [hs, eqn 39 e, show esc (39 :: sfx s (k + 1)) = some ([39], sfx s (k + 1)) from (esc_cons _ _).trans (escC_self _ (by decide) (by decide))]; exact at39 (eqn 39 e)
    by_cases e : c.toNat = 34
    · rw [hs, eqn 34 e, show esc (34 :: sfx s (k + 1)) = some ([34], sfx s (k + 1)) from (esc_cons _ _).trans (escC_self _ (by decide) (by decide))]; exact at34 (eqn 34 e)
    by_cases e : c.toNat = 10
    · rw [hs, eqn 10 e, show esc (10 :: sfx s (k + 1)) = some ([10], sfx s (k + 1)) from (esc_cons _ _).trans (escC_self _ (by decide) (by decide))]; exact at10 (eqn 10 e)
    by_cases e : c.toNat = 122
    · rw [hs, eqn 122 e, show esc (122 :: sfx s (k + 1)) = some ([], (sfx s (k + 1)).dropWhile blB) from (esc_cons _ _).trans (escC_z _ (by decide) (by decide) (by decide))]; exact at122 (eqn 122 e)
    by_cases e : c.toNat = 120
    · rw [hs, eqn 120 e, show esc (120 :: sfx s (k + 1)) = code 16 hxB 2 2 (sfx s (k + 1)) from (esc_cons _ _).trans (escC_x _ (by decide) (by decide) (by decide))]; exact at120 (eqn 120 e)
    by_cases e : c.toNat = 48
    · rw [code1 48 (by decide) (by decide) (by decide) (by decide) (by decide) (eqn 48 e)]; exact at48 (eqn 48 e)
    by_cases e : c.toNat = 49
    · rw [code1 49 (by decide) (by decide) (by decide) (by decide) (by decide) (eqn 49 e)]; exact at49 (eqn 49 e)
    by_cases e : c.toNat = 50
    · rw [code1 50 (by decide) (by decide) (by decide) (by decide) (by decide) (eqn 50 e)]; exact at50 (eqn 50 e)
    by_cases e : c.toNat = 51
    · rw [code1 51 (by decide) (by decide) (by decide) (by decide) (by decide) (eqn 51 e)]; exact at51 (eqn 51 e)
    by_cases e : c.toNat = 52
    · rw [code1 52 (by decide) (by decide) (by decide) (by decide) (by decide) (eqn 52 e)]; exact at52 (eqn 52 e)
    by_cases e : c.toNat = 53
    · rw [code1 53 (by decide) (by decide) (by decide) (by decide) (by decide) (eqn 53 e)]; exact at53 (eqn 53 e)
    by_cases e : c.toNat = 54
    · rw [code1 54 (by decide) (by decide) (by decide) (by decide) (by decide) (eqn 54 e)]; exact at54 (eqn 54 e)
    by_cases e : c.toNat = 55
    · rw [code1 55 (by decide) (by decide) (by decide) (by decide) (by decide) (eqn 55 e)]; exact at55 (eqn 55 e)
    by_cases e : c.toNat = 56
    · rw [code1 56 (by decide) (by decide) (by decide) (by decide) (by decide) (eqn 56 e)]; exact at56 (eqn 56 e)
    by_cases e : c.toNat = 57
    · rw [code1 57 (by decide) (by decide) (by decide) (by decide) (by decide) (eqn 57 e)]; exact at57 (eqn 57 e)
    have hno : esc (sfx s k) = none := by
      rw [hs, esc_cons]
      refine escC_no _ ?_ ?_ (by assumption) (by assumption) ?_
      · unfold lett; simp [*]
      · unfold selfB; simp [*]
      · unfold dgB; rw [decide_eq_false_iff_not]; omega
    rw [hno]
    refine other ?_
    intro v hv
    simp only [List.mem_cons, List.not_mem_nil, or_false] at hv
    rcases hv with rfl | rfl | rfl | rfl | rfl | rfl | rfl | rfl | rfl | rfl | rfl | rfl | rfl | rfl | rfl | rfl | rfl | rfl | rfl | rfl | rfl | rfl | rfl <;> assumption
def bcells (l : List UInt8) : List Value := l.map fun b => Value.int .u8 (b.toNat : Int)
theorem bcells_app (a b : List UInt8) : bcells (a ++ b) = bcells a ++ bcells b := by simp [bcells]
def BBuf (W : World) (B : Nat) (v : Value) (l : List UInt8) : Prop := W.ownsRow B 5 1 v l.length (bcells l)
theorem BBuf.nil (W : World) (B : Nat) : BBuf W B (.slice none 0 0) [] := World.ownsRow_nil W B 5 1
theorem own_row {W : World} {B e n size : Nat} {v : Value} {xs : List Value} (h : W.ownsRow B e size v n xs) : ∀ k, v.ownBlock = some k → B ≤ k := fun k hk => (h.lt k hk).1
theorem BBuf.kp {b B : Nat} {W W' : World} {v : Value} {l : List UInt8} (h : BBuf W B v l) (hk : Kp b W W') (hb : b < B) : BBuf W' B v l := by
  refine World.ownsRow.kept h hk ?_
  rcases h.2 with ⟨rfl, _⟩ | ⟨g, _, _, rfl, hg, _⟩
  · left; rfl
  · right
    intro e
    have : g = b := by simpa [Value.ownBlock] using e
    omega
theorem info5 : (Tryz.prog.info? 5).map (fun i => (i.zero, i.size, i.bytes)) = some (some (.int .u8 0), 1, 1) := by kernel_rfl
theorem at_bts {ops : Array Oper} {rest : List Oper} {o : Oper} {a : Act} {Q : Exit → Act → World → Prop} (w : World) (hgd : o.guard = none) (sl x : Operand)
    (ho : o.op = .call { callee := .builtin .append, args := #[sl, x], argTypes := #[72, 72] }) (B : Nat) (v : Value) (l : List UInt8) (hs : a.eval sl = v) (hown : BBuf w B v l) (y : Value) (hx : a.eval x = y) (m : List UInt8) (hm : Bts w y m)
    (hlen : l.length ≤ 1000000) (hB : B ≤ w.heap.size)
    (h : ∀ v' w', BBuf w' B v' (l ++ m) → Below B w w' → wpList Tryz.prog ops Q rest (a.put o.dst v') w') : wpList Tryz.prog ops Q (o :: rest) a w := by
  obtain ⟨i0, hi0, hz0, hz1, hz2⟩ := info_parts info5
  rcases hm with ⟨rfl, rfl⟩ | ⟨g, u, rfl, rfl, hc⟩
  · refine wpList_plain hgd fun _ hK => ?_
    have hr := run_append_owned_none (P := Tryz.prog) (w := w) B 72 o.type 5 i0 1 Tryz.underlying72 hi0 v l.length (bcells l) hown
    unfold Oper.wp execOp
    simp only [ho, resolve, invoke, builtin, Sem.run_bind, Sem.run_pure, Result.andThen_ok, List.map_toArray, List.map_cons, List.map_nil, hs, hx, hr]
    exact hK _ _ (h v w (by rw [List.append_nil]; exact hown) (Below.refl _ _))
  · refine wpList_append_own (P := Tryz.prog) _ hgd sl x 72 ho B 5 i0 (.int .u8 0) 1 1 Tryz.underlying72 hi0 hz0 hz1 hz2 rfl (by omega) v l.length (bcells l) hs hown ⟨g, 0, none⟩ 1 1 [.int .u8 (u.toNat : Int)] hx rfl
      (fun j q hj => by
        cases j with
        | zero => obtain rfl := Option.some.inj hj; exact hc
        | succ j => simp at hj) (fun q hq => by obtain rfl := List.mem_singleton.1 hq; rfl) (by unfold maxLen; omega) (by omega) hB ?_
    intro v' w' h1 h2 _
    refine h v' w' ?_ ((Below.refl _ _).grown h2 hB (own_row hown))
    unfold BBuf
    rw [List.length_append, bcells_app]
    exact h1
theorem buf_string {W : World} {B : Nat} {v : Value} {l : List UInt8} (h : BBuf W B v l) : (convert 72 9 v).run Tryz.prog W = .ok (.string ⟨l.toArray⟩) W := by
  rcases h.2 with ⟨rfl, h0⟩ | ⟨g, cap, cur, rfl, _⟩
  · obtain rfl : l = [] := List.eq_nil_of_length_eq_zero h0
    exact run_convert_bytes_nil W 72 5 Tryz.underlying72 Tryz.underlying5 0 0 9 Tryz.underlying9
  · exact run_convert_bytes_back (P := Tryz.prog) W 72 9 5 ⟨g, 0, none⟩ cap l Tryz.underlying72 Tryz.underlying5 Tryz.underlying9 (fun j hj => by
      have hc := World.ownsRow.cells h (g := g) rfl j (.int .u8 (l[j].toNat : Int)) (by simp [bcells, hj])
      exact hc)
theorem Kp.below {b : Nat} {w0 w w' : World} (h : Kp b w0 w) (k : Below w0.heap.size w w') : Kp b w0 w' :=
  ⟨k.os.trans h.os, k.tape.trans h.tape, k.output.trans h.output, Nat.le_trans h.size k.size, fun i hi hne => (k.block i hi).trans (h.block i hi hne)⟩
theorem Rd.belowB {W W' : World} {B b : Nat} {s : ByteArray} {k : Nat} (h : Rd W b s k) (hb : Below B W W') (hB : b < B) : Rd W' b s k := by
  have hf := h.far
  obtain ⟨m, hm⟩ := h.mx
  exact ⟨(hb.block b hB).trans h.blk, h.le, h.top, h.far, m, (hb.cell (p := ⟨1, 0, none⟩) (by show 1 < B; omega)).trans hm⟩
end Go.Proofs.YtfpeecjafccfjaaGreatDoor
namespace Go.Proofs.YtfpeecjafccfjaaGreatDoor
open Go.RowKit
def QuoPost (q : UInt8) (b : Nat) (s : ByteArray) (k : Nat) (w : World) (e : Ending) (w' : World) : Prop := ∃ o, Quo q (sfx s (k + 1)) o ∧ TextPost b s k w o e w'
theorem map_nil (o : Option (List UInt8 × List UInt8)) : o.map (fun x => ([] ++ x.1, x.2)) = o := by cases o <;> rfl
theorem map_app (o : Option (List UInt8 × List UInt8)) (out m : List UInt8) : (o.map fun x => (m ++ x.1, x.2)).map (fun x => (out ++ x.1, x.2)) = o.map fun x => ((out ++ m) ++ x.1, x.2) := by
  cases o <;> simp
theorem one_head (s : ByteArray) (k : Nat) (h : k < s.size) (X : ByteArray) (hX : X = s.extract k (k + 1)) (h' : 0 < X.size) : X[0] = s[k] := by
  subst hX
  rw [ByteArray.getElem_extract]
  simp
theorem one_size (s : ByteArray) (k : Nat) (h : k < s.size) : (s.extract k (k + 1)).size = 1 := by rw [ByteArray.size_extract]; omega
theorem take_one (b : Nat) (s : ByteArray) (k : Nat) (hk : k < s.size) : ∃ X : ByteArray, ∃ hX : 0 < X.size, X[0] = s[k] ∧ ∀ W, Rd W b s k → Calls Tryz.prog 63 #[.pointer (some ⟨b, 0, none⟩), .int .i64 1] W fun e w' => e = .returned (.string X) ∧ Rd w' b s (k + 1) ∧ Kp b W w' := by
  have hs := one_size s k hk
  exact ⟨s.extract k (k + 1), by omega, one_head s k hk _ rfl (by omega), fun W h => take_any b s k 1 W h (by omega)⟩
theorem BBuf.form {W : World} {B : Nat} {v : Value} {l : List UInt8} (h : BBuf W B v l) : ∃ A c, v = .slice A l.length c := by
  rcases h.2 with ⟨rfl, h0⟩ | ⟨g, cap, _, rfl, _⟩
  · exact ⟨none, 0, by rw [h0]⟩
  · exact ⟨_, _, rfl⟩
set_option maxHeartbeats 4000000 in
theorem quoted_any (b : Nat) (s : ByteArray) (k : Nat) (w : World) (h : Rd w b s k) (hk : k < s.size) (q : UInt8) (hq : s[k] = q) (hq10 : q ≠ 10) (hq92 : q ≠ 92) :
    Calls Tryz.prog 75 #[.pointer (some ⟨b, 0, none⟩)] w (QuoPost q b s k w) := by
  have htop := h.top
  have hblt := h.lt
  have HR := Lib.hid h
  obtain ⟨X, hXs, hX0, hT⟩ := take_one b s k hk
  rw [hq] at hX0
  have T1 := Lib.hid hT
  clear h hT hq
  go_enter Tryz.func75, Tryz.ntmps75
  go_wp2_with fail
  refine (T1.out _ HR.out).mono ?_; rintro e w1 ⟨rfl, r1, k1⟩
  have R1 := Lib.hid r1
  have K1 := Lib.hid k1
  clear r1 k1
  go_wp2_with fail
  clear hX0 hXs
  go_loopg [5] s.size (fun z tv wr => ∃ (k1 : Nat) (out : List UInt8), Rd wr b s k1 ∧ k < k1 ∧ s.size - k1 ≤ z ∧ Kp b w wr ∧ BBuf wr w.heap.size tv out ∧ out.length + k ≤ k1 ∧ ∀ o, Quo q (sfx s k1) o → Quo q (sfx s (k + 1)) (o.map fun x => (out ++ x.1, x.2)))
  case atStart => exact ⟨k + 1, [], R1.out, by omega, by omega, K1.out, BBuf.nil _ _, by simp, fun o h => by rw [map_nil]; exact h⟩
  case round =>
    obtain ⟨k1, out, hr, hlt, hz, hkp, hbuf, hol, hquo⟩ := hrel
    have hle1 := hr.le
    have R0 := Lib.hid hr
    have K0 := Lib.hid hkp
    have HB := Lib.hid hbuf
    have HQ := Lib.hid hquo
    have hsz0 := hkp.size
    clear hr hkp hbuf hquo
    obtain ⟨Y, hY⟩ : ∃ Y : ByteArray, Y = s.extract k1 s.size := ⟨_, rfl⟩
    have C1 := Lib.hid (fun W h => rest_any b s k1 W h)
    rw [← hY] at C1
    have hYs : Y.size = s.size - k1 := by rw [hY, rest_size s k1 hle1]
    clear hY
    by_cases hend : k1 = s.size
    · have hYe := empB_yes Y (by omega)
      have hs0 := sfx_end s k1 (by omega)
      have HE := Lib.hid hs0
      clear hs0 hYs
      go_wp2_with fail
      refine (C1.out _ R0.out).mono ?_; rintro e w2 ⟨rfl, r2, k2⟩
      have K2 := hid_kp K0 k2
      clear r2 k2
      go_wp2_with fail
      go_ret2
      exact ⟨none, HQ.out none (by rw [HE.out]; exact .none), K2.out, rfl⟩
    · have hk1 : k1 < s.size := by omega
      have hYe := empB_no Y (by omega)
      have hcons := sfx_cons s k1 hk1
      obtain ⟨Z, hZs, hZ0, hT⟩ := take_one b s k1 hk1
      have T2 := Lib.hid hT
      obtain ⟨c, hc⟩ : ∃ c : UInt8, c = s[k1] := ⟨_, rfl⟩
      rw [← hc] at hZ0 hcons
      have HC := Lib.hid hcons
      clear hYs hT hc hcons
      have hcl := c.toNat_lt
      have hql := q.toNat_lt
      obtain ⟨A1, c1, rfl⟩ := HB.out.form
      by_cases hcq : c = q
      · subst hcq
        go_wp2_with fail
        refine (C1.out _ R0.out).mono ?_; rintro e w2 ⟨rfl, r2, k2⟩
        have R2 := Lib.hid r2
        have K2 := hid_kp K0 k2
        have B2 := Lib.hid (HB.out.kp k2 hblt)
        clear r2 k2
        go_wp2_with fail
        refine (T2.out _ R2.out).mono ?_; rintro e w3 ⟨rfl, r3, k3⟩
        have R3 := Lib.hid r3
        have K3 := hid_kp K2 k3
        have B3 := Lib.hid (B2.out.kp k3 hblt)
        clear r3 k3
        have hcv := buf_string B3.out
        go_wp2_with fail
        go_ret2
        refine ⟨some (out, sfx s (k1 + 1)), ?_, K3.out, _, rfl, R3.out, rfl, by omega⟩
        have := HQ.out (some ([], sfx s (k1 + 1))) (by rw [HC.out]; exact .shut)
        simpa using this
      · have hcqn : c.toNat ≠ q.toNat := fun e => hcq (UInt8.toNat_inj.1 e)
        by_cases hc10 : c = 10
        · subst hc10
          have g1 : ((10 : Int) == (q.toNat : Int)) = false := beq_eq_false_iff_ne.2 (by have : (10 : UInt8).toNat = 10 := rfl; omega)
          go_wp2_with fail
          refine (C1.out _ R0.out).mono ?_; rintro e w2 ⟨rfl, r2, k2⟩
          have R2 := Lib.hid r2
          have K2 := hid_kp K0 k2
          have B2 := Lib.hid (HB.out.kp k2 hblt)
          clear r2 k2
          go_wp2_with fail
          refine (T2.out _ R2.out).mono ?_; rintro e w3 ⟨rfl, r3, k3⟩
          have R3 := Lib.hid r3
          have K3 := hid_kp K2 k3
          have B3 := Lib.hid (B2.out.kp k3 hblt)
          clear r3 k3
          go_wp2_with fail
          go_ret2
          exact ⟨none, HQ.out none (by rw [HC.out]; exact .line hq10), K3.out, rfl⟩
        · by_cases hc92 : c = 92
          · subst hc92
            have g1 : ((92 : Int) == (q.toNat : Int)) = false := beq_eq_false_iff_ne.2 (by have : (92 : UInt8).toNat = 92 := rfl; omega)
            have E1 := Lib.hid (fun W h => escaped_any b s (k1 + 1) W h)
            cases hes : esc (sfx s (k1 + 1)) with
            | none =>
              rw [hes] at E1
              have HES := Lib.hid hes
              clear hes
              go_wp2_with fail
              refine (C1.out _ R0.out).mono ?_; rintro e w2 ⟨rfl, r2, k2⟩
              have R2 := Lib.hid r2
              have K2 := hid_kp K0 k2
              have B2 := Lib.hid (HB.out.kp k2 hblt)
              clear r2 k2
              go_wp2_with fail
              refine (T2.out _ R2.out).mono ?_; rintro e w3 ⟨rfl, r3, k3⟩
              have R3 := Lib.hid r3
              have K3 := hid_kp K2 k3
              have B3 := Lib.hid (B2.out.kp k3 hblt)
              clear r3 k3
              go_wp2_with fail
              refine (E1.out _ R3.out).mono ?_; intro e w4 hp4
              obtain ⟨k4, rfl⟩ := hp4
              have K4 := hid_kp K3 k4
              clear k4
              go_wp2_with fail
              go_ret2
              exact ⟨none, HQ.out none (by rw [HC.out]; exact .bad hq92 HES.out), K4.out, rfl⟩
            | some z =>
              obtain ⟨m, r⟩ := z
              rw [hes] at E1
              have HES := Lib.hid hes
              clear hes
              go_wp2_with fail
              refine (C1.out _ R0.out).mono ?_; rintro e w2 ⟨rfl, r2, k2⟩
              have R2 := Lib.hid r2
              have K2 := hid_kp K0 k2
              have B2 := Lib.hid (HB.out.kp k2 hblt)
              clear r2 k2
              go_wp2_with fail
              refine (T2.out _ R2.out).mono ?_; rintro e w3 ⟨rfl, r3, k3⟩
              have R3 := Lib.hid r3
              have K3 := hid_kp K2 k3
              have B3 := Lib.hid (B2.out.kp k3 hblt)
              clear r3 k3
              go_wp2_with fail
              refine (E1.out _ R3.out).mono ?_; intro e w4 hp4
              obtain ⟨k4, k', v, rfl, hb4, r4, hr4, hl4⟩ := hp4
              have K4 := hid_kp K3 k4
              have R4 := Lib.hid r4
              have B4 := Lib.hid (B3.out.kp k4 hblt)
              have HE := Lib.hid hr4
              have hml : m.length ≤ 1 := by
                rcases hb4 with ⟨_, rfl⟩ | ⟨_, _, rfl, _⟩ <;> simp
              have HBT := Lib.hid hb4
              have hsz4 := K4.out.size
              clear k4 r4 hb4 hr4
              have hk'le := R4.out.le
              go_wp2_with (at_builtin; refine at_bts _ rfl _ _ rfl w.heap.size _ out rfl B4.out _ rfl m HBT.out (by omega) hsz4 ?_; intro v5 w5 hb5 hw5)
              go_roundg (s.size - k')
              case measure => omega
              case rel => exact ⟨k', out ++ m, R4.out.belowB hw5 hblt, by omega, Nat.le_refl _, K4.out.below hw5, hb5, by rw [List.length_append]; omega, fun o ho => by
                have := HQ.out _ (by rw [HC.out]; exact .esc hq92 HES.out (HE.out ▸ ho))
                rwa [map_app] at this⟩
          · have g1 : ((c.toNat : Int) == (q.toNat : Int)) = false := beq_eq_false_iff_ne.2 (by omega)
            have g2 : ((c.toNat : Int) == 10) = false := beq_eq_false_iff_ne.2 (fun e => hc10 (UInt8.toNat_inj.1 (by show c.toNat = 10; omega)))
            have g3 : ((c.toNat : Int) == 92) = false := beq_eq_false_iff_ne.2 (fun e => hc92 (UInt8.toNat_inj.1 (by show c.toNat = 92; omega)))
            go_wp2_with fail
            refine (C1.out _ R0.out).mono ?_; rintro e w2 ⟨rfl, r2, k2⟩
            have R2 := Lib.hid r2
            have K2 := hid_kp K0 k2
            have B2 := Lib.hid (HB.out.kp k2 hblt)
            clear r2 k2
            go_wp2_with fail
            refine (T2.out _ R2.out).mono ?_; rintro e w3 ⟨rfl, r3, k3⟩
            have R3 := Lib.hid r3
            have K3 := hid_kp K2 k3
            have B3 := Lib.hid (B2.out.kp k3 hblt)
            clear r3 k3
            have hsz3 := K3.out.size
            go_wp2_with (at_builtin; refine at_bts _ rfl _ _ rfl w.heap.size _ out rfl (World.ownsRow.alloc B3.out _) _ rfl [c] (byte_new _ _ _ rfl) (by omega) (by simp; omega) ?_; intro v5 w5 hb5 hw5)
            go_roundg (s.size - (k1 + 1))
            case measure => omega
            case rel => exact ⟨k1 + 1, out ++ [c], (R3.out.alloc _).belowB hw5 hblt, by omega, Nat.le_refl _, (K3.out.alloc _).below hw5, hb5, by rw [List.length_append]; simp; omega, fun o ho => by
              have := HQ.out _ (by rw [HC.out]; exact .byte hcq hc10 hc92 ho)
              rw [show (o.map fun x => (c :: x.1, x.2)) = o.map fun x => ([c] ++ x.1, x.2) from rfl, map_app] at this
              exact this⟩
end Go.Proofs.YtfpeecjafccfjaaGreatDoor
namespace Go.Proofs.YtfpeecjafccfjaaGreatDoor
open Go.RowKit
set_option maxHeartbeats 4000000 in
theorem word_any (s : ByteArray) (w : World) : Calls Tryz.prog 15 #[.string s] w fun e w' => e = .returned (.bool (wordB s.data.toList)) ∧ w = w' := by
  rw [← Lib.toList_data]
  go_enter Tryz.func15, Tryz.ntmps15
  go_wp2
  all_goals first
    | (go_ret; rename_i ha hb; rw [ha] at hb; cases hb; done)
    | (go_ret; exact ⟨ret_bool (by simp only [wordB, keys, List.contains_cons, List.contains_nil, Bool.or_false, Bool.true_or, Bool.or_true, *]), rfl⟩)
set_option maxHeartbeats 4000000 in
theorem isSign_any (s : ByteArray) (w : World) : Calls Tryz.prog 114 #[.string s] w fun e w' => e = .returned (.bool (sgnB s.data.toList)) ∧ w = w' := by
  rw [← Lib.toList_data]
  go_enter Tryz.func114, Tryz.ntmps114
  go_wp2
  all_goals first
    | (go_ret; rename_i ha hb; rw [ha] at hb; cases hb; done)
    | (go_ret; exact ⟨ret_bool (by simp only [sgnB, signs, List.contains_cons, List.contains_nil, Bool.or_false, Bool.true_or, Bool.or_true, *]), rfl⟩)
end Go.Proofs.YtfpeecjafccfjaaGreatDoor
namespace Go.Proofs.YtfpeecjafccfjaaGreatDoor
open Go.RowKit
theorem take_min (l : List UInt8) (i : Nat) : l.take i = l.take (min i l.length) := by
  by_cases h : i ≤ l.length
  · rw [Nat.min_eq_left h]
  · rw [Nat.min_eq_right (by omega), List.take_of_length_le (by omega), List.take_of_length_le (Nat.le_refl _)]
theorem sgn_zero : sgnB [] = false := by decide
theorem sgn_no {l : List UInt8} {j i : Nat} (h : ∀ m, j < m → m ≤ min 3 l.length → sgnB (l.take m) = false) (hi : i ≤ 3) (hj : j < min i l.length) : sgnB (l.take i) = false := by
  rw [take_min]
  exact h _ hj (by omega)
theorem sign_none {l : List UInt8} (h : ∀ m, 0 < m → m ≤ min 3 l.length → sgnB (l.take m) = false) : sign l = none := by
  have h' : ∀ i, i ≤ 3 → sgnB (l.take i) = false := fun i hi => by
    by_cases h0 : 0 < min i l.length
    · exact sgn_no h hi h0
    · rw [take_min, show min i l.length = 0 by omega]
      exact sgn_zero
  unfold sign
  rw [h' 3 (by omega), h' 2 (by omega), h' 1 (by omega)]
  rfl
theorem sign_some {l : List UInt8} {j : Nat} (h : ∀ m, j < m → m ≤ min 3 l.length → sgnB (l.take m) = false) (h0 : 0 < j) (hj : j ≤ min 3 l.length) (hs : sgnB (l.take j) = true) : sign l = some (l.take j, l.drop j) := by
  have big : ∀ i, j < i → i ≤ 3 → sgnB (l.take i) = true → l.take i = l.take j ∧ l.drop i = l.drop j := fun i h1 h2 h3 => by
    by_cases hl : j < l.length
    · rw [sgn_no h h2 (by omega)] at h3
      cases h3
    · have e : l.length = j := by omega
      rw [List.take_of_length_le (by omega), List.take_of_length_le (by omega), List.drop_eq_nil_of_le (by omega), List.drop_eq_nil_of_le (by omega)]
      exact ⟨rfl, rfl⟩
  unfold sign
  cases e3 : sgnB (l.take 3)
  · cases e2 : sgnB (l.take 2)
    · have : j = 1 := by
        rcases (show j = 1 ∨ j = 2 ∨ j = 3 by omega) with rfl | rfl | rfl
        · rfl
        · rw [hs] at e2; cases e2
        · rw [hs] at e3; cases e3
      subst this
      rw [hs]
      rfl
    · by_cases h2 : j = 2
      · subst h2; rfl
      · by_cases h3 : j = 3
        · subst h3; rw [hs] at e3; cases e3
        · obtain ⟨a, b⟩ := big 2 (by omega) (by omega) e2
          simp only [Bool.false_eq_true, if_false, if_true]
          rw [a, b]
  · by_cases h3 : j = 3
    · subst h3; rfl
    · obtain ⟨a, b⟩ := big 3 (by omega) (by omega) e3
      simp only [if_true]
      rw [a, b]
set_option maxHeartbeats 2000000 in
theorem sign_any (b : Nat) (s : ByteArray) (k : Nat) (w : World) (h : Rd w b s k) : Calls Tryz.prog 78 #[.pointer (some ⟨b, 0, none⟩)] w (TextPost b s k w (sign (sfx s k))) := by
  have htop := h.top
  have hle := h.le
  have HR := Lib.hid h
  clear h
  obtain ⟨Y, hY⟩ : ∃ Y : ByteArray, Y = s.extract k s.size := ⟨_, rfl⟩
  have C1 := Lib.hid (fun W h => rest_any b s k W h)
  rw [← hY] at C1
  have hYs : Y.size = s.size - k := by rw [hY, rest_size s k hle]
  have hYl : Y.data.toList = sfx s k := by rw [hY, sfx_rest]
  have HYl := Lib.hid hYl
  have S1 := Lib.hid (fun (n : Nat) W => isSign_any (Y.extract 0 n) W)
  obtain ⟨M, hM⟩ : ∃ M : Nat, M = min 3 Y.size := ⟨_, rfl⟩
  have hMi : min (3 : Int) (Y.size : Int) = (M : Int) := by omega
  have hMl : M ≤ Y.size := by omega
  have hM3 : M ≤ 3 := by omega
  have hMeq : M = min 3 (sfx s k).length := by rw [hM, ← hYl, ← Lib.size_eq]
  have HMeq := Lib.hid hMeq
  have hYk : k + Y.size ≤ s.size := by omega
  clear hY hYs hYl hM hMeq
  go_enter Tryz.func78, Tryz.ntmps78
  go_wp2_with fail
  refine (C1.out _ HR.out).mono ?_; rintro e w1 ⟨rfl, r1, k1⟩
  have R1 := Lib.hid r1
  have K1 := Lib.hid k1
  clear r1 k1
  go_wp2_with fail
  clear hMi
  go_loop [5] (fun i => ∃ n : Nat, n ≤ M ∧ i = .int .i64 n ∧ ∀ m, n < m → m ≤ M → sgnB ((sfx s k).take m) = false) (fun i => (intOf i).toNat)
  case atStart => exact ⟨M, Nat.le_refl _, rfl, fun m h1 h2 => by omega⟩
  case round =>
    obtain ⟨n, hn, rfl, hall⟩ := hrel
    have HA := Lib.hid hall
    clear hall
    by_cases hpos : 0 < n
    · have hlist : (Y.extract 0 n).data.toList = (sfx s k).take n := by
        rw [← HYl.out, ByteArray.data_extract]
        simp
      have S2 := Lib.hid (fun W => S1.out n W)
      cases e : sgnB ((sfx s k).take n)
      · rw [hlist, e] at S2
        have HE := Lib.hid e
        clear e hlist
        go_wp2_with (go_at_call 114; refine (S2.out _).mono ?_; rintro e w' ⟨rfl, rfl⟩)
        go_round
        case rel => exact ⟨n - 1, by omega, by go_num, fun m h1 h2 => by
          by_cases hm : m = n
          · rw [hm]; exact HE.out
          · exact HA.out m (by omega) h2⟩
        case measure => simp [intOf]; omega
      · rw [hlist, e] at S2
        have HS := Lib.hid (sign_some (l := sfx s k) (j := n) (by rw [← HMeq.out]; exact HA.out) hpos (by rw [← HMeq.out]; exact hn) e)
        have T1 := Lib.hid (fun W h => take_any b s k n W h (by omega))
        clear e hlist
        go_wp2_with (first
          | (go_at_call 114; refine (S2.out _).mono ?_; rintro e w' ⟨rfl, rfl⟩)
          | (go_at_call 63; refine (T1.out _ R1.out).mono ?_; rintro e w2 ⟨rfl, r2, k2⟩))
        go_ret2
        refine ⟨K1.out.trans k2, ?_⟩
        rw [HS.out]
        exact ⟨k + n, by rw [← sfx_take]; rfl, r2, by rw [sfx_drop], by omega⟩
    · have hn0 : n = 0 := by omega
      have HS := Lib.hid (sign_none (l := sfx s k) (by rw [← HMeq.out, ← hn0]; exact HA.out))
      subst hn0
      go_wp2_with fail
      go_ret2
      refine ⟨K1.out, ?_⟩
      rw [HS.out]
      rfl
set_option maxHeartbeats 2000000 in
theorem name_any (b : Nat) (s : ByteArray) (k : Nat) (w : World) (h : Rd w b s k) : Calls Tryz.prog 70 #[.pointer (some ⟨b, 0, none⟩)] w fun e w' =>
    e = .returned (.tuple #[.int .i64 (if wordB ((sfx s k).takeWhile nmB) then 2 else 1), .string ⟨((sfx s k).takeWhile nmB).toArray⟩]) ∧ Rd w' b s (k + runN nmB (sfx s k)) ∧ Kp b w w' := by
  have htop := h.top
  have hle := h.le
  have HR := Lib.hid h
  clear h
  obtain ⟨m, hm⟩ : ∃ m : Nat, m = runN nmB (sfx s k) := ⟨_, rfl⟩
  have C1 := Lib.hid (fun W => run_name (s.extract k s.size) W (by rw [rest_size s _ hle]; omega))
  rw [sfx_rest, ← hm] at C1
  have hml := run_le nmB (sfx s k)
  rw [sfx_len, ← hm] at hml
  rw [← hm]
  obtain ⟨X, hX⟩ : ∃ X : ByteArray, X = ⟨((sfx s k).takeWhile nmB).toArray⟩ := ⟨_, rfl⟩
  have hXe : s.extract k (k + m) = X := by
    rw [hX]
    apply of_list
    rw [sfx_take, hm, take_run]
  have T1 := Lib.hid (fun W h => take_any b s k m W h (by omega))
  rw [hXe] at T1
  have W1 := Lib.hid (fun W => word_any X W)
  rw [show X.data.toList = (sfx s k).takeWhile nmB by rw [hX]] at W1
  rw [← hX]
  obtain ⟨o, ho⟩ : ∃ o : Bool, o = wordB ((sfx s k).takeWhile nmB) := ⟨_, rfl⟩
  rw [← ho] at W1 ⊢
  clear hm hX hXe ho
  cases o
  · go_enter Tryz.func70, Tryz.ntmps70
    go_wp2_with fail
    refine (rest_any _ _ _ _ HR.out).mono ?_; rintro e w1 ⟨rfl, r1, k1⟩
    have R1 := Lib.hid r1
    have K1 := Lib.hid k1
    clear r1 k1
    go_wp2_with fail
    refine (C1.out _).mono ?_; rintro e w1' ⟨rfl, rfl⟩
    go_wp2_with fail
    refine (T1.out _ R1.out).mono ?_; rintro e w2 ⟨rfl, r2, k2⟩
    have R2 := Lib.hid r2
    have K2 := hid_kp K1 k2
    clear r2 k2
    go_wp2_with (go_at_call 15; refine (W1.out _).mono ?_; rintro e w' ⟨rfl, rfl⟩)
    go_ret2
    exact ⟨rfl, R2.out, K2.out⟩
  · go_enter Tryz.func70, Tryz.ntmps70
    go_wp2_with fail
    refine (rest_any _ _ _ _ HR.out).mono ?_; rintro e w1 ⟨rfl, r1, k1⟩
    have R1 := Lib.hid r1
    have K1 := Lib.hid k1
    clear r1 k1
    go_wp2_with fail
    refine (C1.out _).mono ?_; rintro e w1' ⟨rfl, rfl⟩
    go_wp2_with fail
    refine (T1.out _ R1.out).mono ?_; rintro e w2 ⟨rfl, r2, k2⟩
    have R2 := Lib.hid r2
    have K2 := hid_kp K1 k2
    clear r2 k2
    go_wp2_with (go_at_call 15; refine (W1.out _).mono ?_; rintro e w' ⟨rfl, rfl⟩)
    go_ret2
    exact ⟨rfl, R2.out, K2.out⟩
end Go.Proofs.YtfpeecjafccfjaaGreatDoor
namespace Go.Proofs.YtfpeecjafccfjaaGreatDoor
open Go.RowKit
def Tb (W : World) (g : Nat) (a b c d : Value) : Prop := W.heap[g]? = some (.cells #[a, b, c, d] 81 (0, 0))
theorem Tb.kp {W W' : World} {g b : Nat} {x y z u : Value} (h : Tb W g x y z u) (hk : Kp b W W') (hne : g ≠ b) : Tb W' g x y z u :=
  (hk.block g (Array.getElem?_eq_some_iff.1 h).1 (by simpa using hne)).trans h
theorem Tb.new (w : World) (x y z u : Value) : Tb (w.alloc (.cells #[x, y, z, u] 81)) w.heap.size x y z u := World.alloc_heap_new w _
theorem Tb.alloc {W : World} {g : Nat} {x y z u : Value} (h : Tb W g x y z u) (o : Obj) : Tb (W.alloc o) g x y z u := (Below.heap_alloc W o g (Array.getElem?_eq_some_iff.1 h).1).trans h
theorem Tb.cells {W : World} {g : Nat} {x y z u : Value} (h : Tb W g x y z u) : W.cell? ⟨g, 0, none⟩ = some x ∧ W.cell? ⟨g, 1, none⟩ = some y ∧ W.cell? ⟨g, 2, none⟩ = some z ∧ W.cell? ⟨g, 3, none⟩ = some u := by
  have h' : W.heap[g]? = some (.cells #[x, y, z, u] 81 (0, 0)) := h
  refine ⟨?_, ?_, ?_, ?_⟩ <;> simp [World.cell?, h']
theorem Tb.frozen {W : World} {g : Nat} {x y z u : Value} (h : Tb W g x y z u) : W.frozen? ⟨g, 0, none⟩ = false ∧ W.frozen? ⟨g, 1, none⟩ = false ∧ W.frozen? ⟨g, 2, none⟩ = false ∧ W.frozen? ⟨g, 3, none⟩ = false := by
  have h' : W.heap[g]? = some (.cells #[x, y, z, u] 81 (0, 0)) := h
  refine ⟨?_, ?_, ?_, ?_⟩ <;> simp [World.frozen?, h']
def TokPost (b : Nat) (s : ByteArray) (k : Nat) (w : World) (e : Ending) (w' : World) : Prop :=
  Kp b w w' ∧ ((∃ (kd n : Int) (t : List UInt8) (k' : Nat), e = .returned (.tuple #[.agg #[.int .i64 kd, .int .i64 (lastL s - nl (sfx s k)), .int .i64 n, .string ⟨t.toArray⟩], .nilIface]) ∧ Rd w' b s k' ∧ k ≤ k' ∧ (kd ≠ 0 → k < k') ∧ (kd = 0 → sfx s k = []) ∧ Tok (sfx s k) (some (kd, n, t, sfx s k'))) ∨
    (∃ v, e = .returned (.tuple #[.agg #[.int .i64 0, .int .i64 0, .int .i64 0, .string ⟨#[]⟩], v]) ∧ Flt w' v (lastL s - nl (sfx s k)) ∧ Tok (sfx s k) none))
theorem Kp.setNew {b : Nat} {w W : World} (h : Kp b w W) {g : Nat} (hg : w.heap.size ≤ g) (o : Nat) (v : Value) : Kp b w (W.setCell ⟨g, o, none⟩ v) :=
  h.below ((Below.refl _ _).setCell (p := ⟨g, o, none⟩) hg v)
theorem Rd.setNew {W : World} {b : Nat} {s : ByteArray} {k : Nat} (h : Rd W b s k) {g : Nat} (hg : b < g) (o : Nat) (v : Value) : Rd (W.setCell ⟨g, o, none⟩ v) b s k :=
  h.belowB ((Below.refl g _).setCell (p := ⟨g, o, none⟩) (Nat.le_refl _) v) hg
theorem Flt.setNew {W : World} {v : Value} {n : Int} (h : Flt W v n) {g : Nat} (hg : ∀ g', v = .iface 64 (.pointer (some ⟨g', 0, none⟩)) → g' ≠ g) (o : Nat) (u : Value) : Flt (W.setCell ⟨g, o, none⟩ u) v n := by
  obtain ⟨g', h1, h2⟩ := h
  exact ⟨g', h1, (Below.heap_setCell _ _ _ g' (hg g' h1)).trans h2⟩
abbrev tok0 : Obj := .cells #[.int .i64 0, .int .i64 0, .int .i64 0, .string ⟨#[]⟩] 81
abbrev tokN (n : Int) : Obj := .cells #[.int .i64 0, .int .i64 n, .int .i64 0, .string ⟨#[]⟩] 81
theorem tok_laid (b : Nat) (s : ByteArray) (k : Nat) (w : World) (n : Int) (h : Rd w b s k) : Rd ((w.alloc tok0).alloc (tokN n)) b s k ∧ Kp b w ((w.alloc tok0).alloc (tokN n)) ∧
    Tb ((w.alloc tok0).alloc (tokN n)) w.heap.size (.int .i64 0) (.int .i64 0) (.int .i64 0) (.string ⟨#[]⟩) ∧ Tb ((w.alloc tok0).alloc (tokN n)) (w.heap.size + 1) (.int .i64 0) (.int .i64 n) (.int .i64 0) (.string ⟨#[]⟩) := by
  refine ⟨(h.alloc _).alloc _, ((Kp.refl _ _).alloc _).alloc _, (Tb.new w _ _ _ _).alloc _, ?_⟩
  have := Tb.new (w.alloc tok0) (.int .i64 0) (.int .i64 n) (.int .i64 0) (.string ⟨#[]⟩)
  rwa [show (w.alloc tok0).heap.size = w.heap.size + 1 by simp] at this
theorem Kp.set4 {b : Nat} {w W : World} (h : Kp b w W) {g : Nat} (hg : w.heap.size ≤ g) (x y z u : Value) : Kp b w ((((W.setCell ⟨g, 0, none⟩ x).setCell ⟨g, 1, none⟩ y).setCell ⟨g, 2, none⟩ z).setCell ⟨g, 3, none⟩ u) :=
  (((h.setNew hg 0 x).setNew hg 1 y).setNew hg 2 z).setNew hg 3 u
theorem Rd.set4 {W : World} {b : Nat} {s : ByteArray} {k : Nat} (h : Rd W b s k) {g : Nat} (hg : b < g) (x y z u : Value) : Rd ((((W.setCell ⟨g, 0, none⟩ x).setCell ⟨g, 1, none⟩ y).setCell ⟨g, 2, none⟩ z).setCell ⟨g, 3, none⟩ u) b s k :=
  (((h.setNew hg 0 x).setNew hg 1 y).setNew hg 2 z).setNew hg 3 u
theorem Flt.set4 {W : World} {n : Int} {g' : Nat} (h : Flt W (.iface 64 (.pointer (some ⟨g', 0, none⟩))) n) {g : Nat} (hg : g' ≠ g) (x y z u : Value) : Flt ((((W.setCell ⟨g, 0, none⟩ x).setCell ⟨g, 1, none⟩ y).setCell ⟨g, 2, none⟩ z).setCell ⟨g, 3, none⟩ u) (.iface 64 (.pointer (some ⟨g', 0, none⟩))) n := by
  have k : ∀ q, (Value.iface 64 (.pointer (some ⟨g', 0, none⟩))) = .iface 64 (.pointer (some ⟨q, 0, none⟩)) → q ≠ g := fun q e => by
    simp only [Value.iface.injEq, Value.pointer.injEq, Option.some.injEq, Addr.mk.injEq, and_true, true_and] at e
    omega
  exact (((h.setNew k 0 x).setNew k 1 y).setNew k 2 z).setNew k 3 u
theorem Tb.setOther {W : World} {g : Nat} {x y z u : Value} (h : Tb W g x y z u) {g' : Nat} (hne : g ≠ g') (o : Nat) (v : Value) : Tb (W.setCell ⟨g', o, none⟩ v) g x y z u :=
  (Below.heap_setCell _ _ _ g hne).trans h
theorem Tb.set4 {W : World} {g : Nat} {x y z u : Value} (h : Tb W g x y z u) (x' y' z' u' : Value) : Tb ((((W.setCell ⟨g, 0, none⟩ x').setCell ⟨g, 1, none⟩ y').setCell ⟨g, 2, none⟩ z').setCell ⟨g, 3, none⟩ u') g x' y' z' u' := by
  have key : ∀ (W : World) (a b c d v : Value) (o : Nat), W.heap[g]? = some (.cells #[a, b, c, d] 81 (0, 0)) → (W.setCell ⟨g, o, none⟩ v).heap[g]? = some (.cells (#[a, b, c, d].setIfInBounds o v) 81 (0, 0)) := by
    intro W a b c d v o h
    obtain ⟨hlt, hk⟩ := Array.getElem?_eq_some_iff.1 h
    show (W.heap.modify g _)[g]? = _
    rw [Array.getElem?_eq_getElem (by rw [Array.size_modify]; exact hlt), Array.getElem_modify_self, hk]
    rfl
  have h0 := key W x y z u x' 0 h
  have h1 := key _ x' y z u y' 1 h0
  have h2 := key _ x' y' z u z' 2 h1
  exact key _ x' y' z' u u' 3 h2
theorem Flt.new' (w : World) (n : Int) (g : Nat) (hg : g = w.heap.size) : Flt (w.alloc (.cells #[.int .i64 n, .iface 60 (.int .i64 5)] 68)) (.iface 64 (.pointer (some ⟨g, 0, none⟩))) n := by
  subst hg
  exact Flt.new w n
theorem Tb.lt {W : World} {g : Nat} {x y z u : Value} (h : Tb W g x y z u) : g < W.heap.size := (Array.getElem?_eq_some_iff.1 (show W.heap[g]? = _ from h)).1
theorem Tb.set0 {W : World} {g : Nat} {x y z u : Value} (h : Tb W g x y z u) (v : Value) : Tb (W.setCell ⟨g, 0, none⟩ v) g v y z u := by
  obtain ⟨hlt, hk⟩ := Array.getElem?_eq_some_iff.1 (show W.heap[g]? = _ from h)
  show (W.heap.modify g _)[g]? = _
  rw [Array.getElem?_eq_getElem (by rw [Array.size_modify]; exact hlt), Array.getElem_modify_self, hk]
  rfl
set_option maxHeartbeats 2000000 in
theorem token_eof (b : Nat) (s : ByteArray) (k : Nat) (w : World) (h : Rd w b s k) (hk : k = s.size) : Calls Tryz.prog 30 #[.pointer (some ⟨b, 0, none⟩)] w (TokPost b s k w) := by
  have hblt := h.lt
  have htop := h.top
  have c2 := (h.alloc (.cells #[.int .i64 0, .int .i64 0, .int .i64 0, .string ⟨#[]⟩] 81)).c2
  rw [line_at] at c2
  obtain ⟨n, hn⟩ : ∃ n : Int, n = lastL s - nl (sfx s k) := ⟨_, rfl⟩
  rw [← hn] at c2
  obtain ⟨Y, hY⟩ : ∃ Y : ByteArray, Y = s.extract k s.size := ⟨_, rfl⟩
  have C1 := Lib.hid (fun W h => rest_any b s k W h)
  rw [← hY] at C1
  have hYe := empB_yes Y (by rw [hY, rest_size s k (by omega)]; omega)
  have HR := Lib.hid h
  have HN := Lib.hid hn
  clear hY h hn
  have HL := Lib.hid (tok_laid b s k w n HR.out)
  go_enter Tryz.func30, Tryz.ntmps30
  go_wp2_with fail
  refine (C1.out _ HL.out.1).mono ?_; rintro e w1 ⟨rfl, r1, k1⟩
  have R1 := Lib.hid r1
  have K1 := Lib.hid (HL.out.2.1.trans k1)
  have T0 := Lib.hid (HL.out.2.2.1.kp k1 (by omega))
  have T1 := Lib.hid (HL.out.2.2.2.kp k1 (by omega))
  clear r1 k1 c2
  obtain ⟨a0, a1, a2, a3⟩ := T0.out.cells
  obtain ⟨f0, f1, f2, f3⟩ := T0.out.frozen
  obtain ⟨b0, b1, b2, b3⟩ := T1.out.cells
  obtain ⟨g0, g1, g2, g3⟩ := T1.out.frozen
  go_wp2_with fail
  clear a0 a1 a2 a3 f0 f1 f2 f3 b0 b1 b2 b3 g0 g1 g2 g3
  obtain ⟨d0, d1, d2, d3⟩ := ((T0.out.setOther (g' := w.heap.size + 1) (by omega) 0 (.int .i64 0)).set4 (.int .i64 0) (.int .i64 n) (.int .i64 0) (.string ⟨#[]⟩)).cells
  refine bodyPost_ret (v := .tuple #[.agg #[.int .i64 0, .int .i64 n, .int .i64 0, .string ⟨#[]⟩], .nilIface]) (by simp [results, Tryz.results30, go_sem, d0, d1, d2, d3]) rfl ?_
  refine ⟨(K1.out.setNew (by omega) _ _).set4 (Nat.le_refl _) _ _ _ _, .inl ⟨0, 0, [], k, by rw [← HN.out], (R1.out.setNew (by omega) _ _).set4 hblt _ _ _ _, Nat.le_refl _, fun h => absurd rfl h, fun _ => sfx_end s k (by omega), ?_⟩⟩
  rw [sfx_end s k (by omega)]
  exact .eof
set_option maxHeartbeats 2000000 in
theorem token_name (b : Nat) (s : ByteArray) (k : Nat) (w : World) (h : Rd w b s k) (hk : k < s.size) (c : UInt8) (hc : s[k] = c) (hl : ltB c = true) : Calls Tryz.prog 30 #[.pointer (some ⟨b, 0, none⟩)] w (TokPost b s k w) := by
  have hblt := h.lt
  have htop := h.top
  have c2 := (h.alloc (.cells #[.int .i64 0, .int .i64 0, .int .i64 0, .string ⟨#[]⟩] 81)).c2
  rw [line_at] at c2
  obtain ⟨n, hn⟩ : ∃ n : Int, n = lastL s - nl (sfx s k) := ⟨_, rfl⟩
  rw [← hn] at c2
  obtain ⟨Y, hY⟩ : ∃ Y : ByteArray, Y = s.extract k s.size := ⟨_, rfl⟩
  have C1 := Lib.hid (fun W h => rest_any b s k W h)
  rw [← hY] at C1
  have hYs : 0 < Y.size := by rw [hY, rest_size s k (by omega)]; omega
  have hY0 : Y[0] = c := by subst hY; rw [rest_head s k hk hYs]; exact hc
  have hYe := empB_no Y hYs
  have hcons := sfx_cons s k hk
  rw [hc] at hcons
  have HC := Lib.hid hcons
  have L1 := Lib.hid (fun W => letter_is c true W hl)
  have N1 := Lib.hid (fun W h => name_any b s k W h)
  have hrun : 1 ≤ runN nmB (sfx s k) := by
    rw [hcons]
    unfold runN
    rw [List.takeWhile_cons_of_pos (by unfold nmB; rw [hl]; rfl), List.length_cons]
    omega
  have hT := Tok.name (c := c) (r := sfx s (k + 1)) hl
  rw [← hcons, ← drop_run, sfx_drop] at hT
  have hkd : (if wordB ((sfx s k).takeWhile nmB) then (2 : Int) else 1) ≠ 0 := by split <;> decide
  generalize (if wordB ((sfx s k).takeWhile nmB) then (2 : Int) else 1) = kd at *
  obtain ⟨X, hX⟩ : ∃ X : ByteArray, X = ⟨((sfx s k).takeWhile nmB).toArray⟩ := ⟨_, rfl⟩
  rw [← hX] at N1
  have HX := Lib.hid hX
  have HT := Lib.hid hT
  clear hX hT hcons hl hc
  have HR := Lib.hid h
  have HN := Lib.hid hn
  clear hY h hn
  have HL := Lib.hid (tok_laid b s k w n HR.out)
  go_enter Tryz.func30, Tryz.ntmps30
  go_wp2_with fail
  refine (C1.out _ HL.out.1).mono ?_; rintro e w1 ⟨rfl, r1, k1⟩
  have R1 := Lib.hid r1
  have K1 := Lib.hid (HL.out.2.1.trans k1)
  have T0 := Lib.hid (HL.out.2.2.1.kp k1 (by omega))
  have T1 := Lib.hid (HL.out.2.2.2.kp k1 (by omega))
  clear r1 k1 c2
  obtain ⟨a0, a1, a2, a3⟩ := T0.out.cells
  obtain ⟨f0, f1, f2, f3⟩ := T0.out.frozen
  obtain ⟨b0, b1, b2, b3⟩ := T1.out.cells
  obtain ⟨g0, g1, g2, g3⟩ := T1.out.frozen
  go_wp2_with (go_at_call 69; refine (L1.out _).mono ?_; rintro e w' ⟨rfl, rfl⟩)
  clear a0 a1 a2 a3 f0 f1 f2 f3 b0 b1 b2 b3 g0 g1 g2 g3
  refine (N1.out _ R1.out).mono ?_; rintro e w2 ⟨rfl, r2, k2⟩
  have R2 := Lib.hid r2
  have K2 := hid_kp K1 k2
  have T20 := Lib.hid (T0.out.kp k2 (by omega))
  have T21 := Lib.hid (T1.out.kp k2 (by omega))
  clear r2 k2
  obtain ⟨a0, a1, a2, a3⟩ := T20.out.cells
  obtain ⟨f0, f1, f2, f3⟩ := T20.out.frozen
  obtain ⟨b0, b1, b2, b3⟩ := T21.out.cells
  obtain ⟨g0, g1, g2, g3⟩ := T21.out.frozen
  go_wp2_with fail
  clear a0 a1 a2 a3 f0 f1 f2 f3 b0 b1 b2 b3 g0 g1 g2 g3
  obtain ⟨d0, d1, d2, d3⟩ := (((T20.out.setOther (g' := w.heap.size + 1) (by omega) 0 (.int .i64 kd)).setOther (g' := w.heap.size + 1) (by omega) 3 (.string X)).set4 (.int .i64 kd) (.int .i64 n) (.int .i64 0) (.string X)).cells
  refine bodyPost_ret (v := .tuple #[.agg #[.int .i64 kd, .int .i64 n, .int .i64 0, .string X], .nilIface]) (by simp [results, Tryz.results30, go_sem, d0, d1, d2, d3]) rfl ?_
  exact ⟨((K2.out.setNew (by omega) _ _).setNew (by omega) _ _).set4 (Nat.le_refl _) _ _ _ _, .inl ⟨kd, 0, _, _, by rw [← HN.out, HX.out], ((R2.out.setNew (by omega) _ _).setNew (by omega) _ _).set4 hblt _ _ _ _, by omega, fun _ => by omega, fun e => absurd e hkd, HT.out⟩⟩
set_option maxHeartbeats 2000000 in
theorem token_num (b : Nat) (s : ByteArray) (k : Nat) (w : World) (h : Rd w b s k) (hk : k < s.size) (c : UInt8) (hc : s[k] = c) (hl : ltB c = false) (hd : dgB c = true) (hno : numO 9223372036854775807 ((sfx s k).takeWhile nuB) = true) : Calls Tryz.prog 30 #[.pointer (some ⟨b, 0, none⟩)] w (TokPost b s k w) := by
  have hblt := h.lt
  have htop := h.top
  have c2 := (h.alloc (.cells #[.int .i64 0, .int .i64 0, .int .i64 0, .string ⟨#[]⟩] 81)).c2
  rw [line_at] at c2
  obtain ⟨n, hn⟩ : ∃ n : Int, n = lastL s - nl (sfx s k) := ⟨_, rfl⟩
  rw [← hn] at c2
  obtain ⟨Y, hY⟩ : ∃ Y : ByteArray, Y = s.extract k s.size := ⟨_, rfl⟩
  have C1 := Lib.hid (fun W h => rest_any b s k W h)
  rw [← hY] at C1
  have hYs : 0 < Y.size := by rw [hY, rest_size s k (by omega)]; omega
  have hY0 : Y[0] = c := by subst hY; rw [rest_head s k hk hYs]; exact hc
  have hYe := empB_no Y hYs
  have hcons := sfx_cons s k hk
  rw [hc] at hcons
  have HC := Lib.hid hcons
  have L1 := Lib.hid (fun W => letter_is c false W hl)
  have L2 := Lib.hid (fun W => digit_is c true W hd)
  obtain ⟨m, hm⟩ : ∃ m : Nat, m = runN nuB (sfx s k) := ⟨_, rfl⟩
  have U1 := Lib.hid (fun W => run_number Y W (by rw [hY, rest_size s _ (by omega)]; omega))
  rw [show Y.data.toList = sfx s k by rw [hY, sfx_rest], ← hm] at U1
  have hml := run_le nuB (sfx s k)
  rw [sfx_len, ← hm] at hml
  have hrun : 1 ≤ m := by
    rw [hm, hcons]
    unfold runN
    rw [List.takeWhile_cons_of_pos (by unfold nuB nmB; rw [hd]; simp), List.length_cons]
    omega
  obtain ⟨X, hX⟩ : ∃ X : ByteArray, X = s.extract k (k + m) := ⟨_, rfl⟩
  have hXl : X.data.toList = (sfx s k).takeWhile nuB := by rw [hX, sfx_take, hm, take_run]
  have hXs : X.size ≤ 100000 := by rw [hX, ByteArray.size_extract]; omega
  have V1 := Lib.hid (fun W h => take_any b s k m W h (by omega))
  rw [← hX] at V1
  have M1 := Lib.hid (fun W => cNumeral X W (by omega))
  rw [hXl] at M1
  rw [hno] at M1
  have hT := Tok.num (c := c) (r := sfx s (k + 1)) hl hd (by rw [← hcons]; exact hno)
  rw [← hcons, ← drop_run, sfx_drop, ← hm] at hT
  obtain ⟨N, hN⟩ : ∃ N : Int, N = sgn (numN 9223372036854775807 ((sfx s k).takeWhile nuB) : Int) := ⟨_, rfl⟩
  rw [← hN] at M1 hT
  have HT := Lib.hid hT
  clear hm hX hXl hT hcons hl hd hno hc hN
  have HR := Lib.hid h
  have HN := Lib.hid hn
  clear hY h hn
  have HL := Lib.hid (tok_laid b s k w n HR.out)
  go_enter Tryz.func30, Tryz.ntmps30
  go_wp2_with fail
  refine (C1.out _ HL.out.1).mono ?_; rintro e w1 ⟨rfl, r1, k1⟩
  have R1 := Lib.hid r1
  have K1 := Lib.hid (HL.out.2.1.trans k1)
  have T0 := Lib.hid (HL.out.2.2.1.kp k1 (by omega))
  have T1 := Lib.hid (HL.out.2.2.2.kp k1 (by omega))
  clear r1 k1 c2
  obtain ⟨a0, a1, a2, a3⟩ := T0.out.cells
  obtain ⟨f0, f1, f2, f3⟩ := T0.out.frozen
  obtain ⟨b0, b1, b2, b3⟩ := T1.out.cells
  obtain ⟨g0, g1, g2, g3⟩ := T1.out.frozen
  go_wp2_with (first
    | (go_at_call 69; refine (L1.out _).mono ?_; rintro e w' ⟨rfl, rfl⟩)
    | (go_at_call 71; refine (L2.out _).mono ?_; rintro e w' ⟨rfl, rfl⟩))
  clear a0 a1 a2 a3 f0 f1 f2 f3 b0 b1 b2 b3 g0 g1 g2 g3
  have R1b := Lib.hid (R1.out.setNew (g := w.heap.size + 1) (by omega) 0 (.int .i64 3))
  have K1b := Lib.hid (K1.out.setNew (g := w.heap.size + 1) (by omega) 0 (.int .i64 3))
  have T0b := Lib.hid (T0.out.setOther (g' := w.heap.size + 1) (by omega) 0 (.int .i64 3))
  have T1b := Lib.hid (T1.out.set0 (.int .i64 3))
  generalize w1.setCell ⟨w.heap.size + 1, 0, none⟩ (.int .i64 3) = w1b at *
  refine (U1.out _).mono ?_; rintro e w1' ⟨rfl, rfl⟩
  go_wp2_with fail
  refine (V1.out _ R1b.out).mono ?_; rintro e w2 ⟨rfl, r2, k2⟩
  have R2 := Lib.hid r2
  have K2 := hid_kp K1b k2
  have T20 := Lib.hid (T0b.out.kp k2 (by omega))
  have T21 := Lib.hid (T1b.out.kp k2 (by omega))
  clear r2 k2
  go_wp2_with fail
  refine (M1.out _).mono ?_; rintro e w2' ⟨rfl, rfl⟩
  obtain ⟨a0, a1, a2, a3⟩ := T20.out.cells
  obtain ⟨f0, f1, f2, f3⟩ := T20.out.frozen
  obtain ⟨b0, b1, b2, b3⟩ := T21.out.cells
  obtain ⟨g0, g1, g2, g3⟩ := T21.out.frozen
  go_wp2_with fail
  clear a0 a1 a2 a3 f0 f1 f2 f3 b0 b1 b2 b3 g0 g1 g2 g3
  obtain ⟨d0, d1, d2, d3⟩ := ((T20.out.setOther (g' := w.heap.size + 1) (by omega) 2 (.int .i64 N)).set4 (.int .i64 3) (.int .i64 n) (.int .i64 N) (.string ⟨#[]⟩)).cells
  refine bodyPost_ret (v := .tuple #[.agg #[.int .i64 3, .int .i64 n, .int .i64 N, .string ⟨#[]⟩], .nilIface]) (by simp [results, Tryz.results30, go_sem, d0, d1, d2, d3]) rfl ?_
  exact ⟨(K2.out.setNew (by omega) _ _).set4 (Nat.le_refl _) _ _ _ _, .inl ⟨3, N, _, _, by rw [← HN.out], (R2.out.setNew (by omega) _ _).set4 hblt _ _ _ _, by omega, fun _ => by omega, fun e => absurd e (by decide), HT.out⟩⟩
set_option maxHeartbeats 2000000 in
theorem token_num_bad (b : Nat) (s : ByteArray) (k : Nat) (w : World) (h : Rd w b s k) (hk : k < s.size) (c : UInt8) (hc : s[k] = c) (hl : ltB c = false) (hd : dgB c = true) (hno : numO 9223372036854775807 ((sfx s k).takeWhile nuB) = false) : Calls Tryz.prog 30 #[.pointer (some ⟨b, 0, none⟩)] w (TokPost b s k w) := by
  have hblt := h.lt
  have htop := h.top
  have c2 := (h.alloc (.cells #[.int .i64 0, .int .i64 0, .int .i64 0, .string ⟨#[]⟩] 81)).c2
  rw [line_at] at c2
  obtain ⟨n, hn⟩ : ∃ n : Int, n = lastL s - nl (sfx s k) := ⟨_, rfl⟩
  rw [← hn] at c2
  obtain ⟨Y, hY⟩ : ∃ Y : ByteArray, Y = s.extract k s.size := ⟨_, rfl⟩
  have C1 := Lib.hid (fun W h => rest_any b s k W h)
  rw [← hY] at C1
  have hYs : 0 < Y.size := by rw [hY, rest_size s k (by omega)]; omega
  have hY0 : Y[0] = c := by subst hY; rw [rest_head s k hk hYs]; exact hc
  have hYe := empB_no Y hYs
  have hcons := sfx_cons s k hk
  rw [hc] at hcons
  have HC := Lib.hid hcons
  have L1 := Lib.hid (fun W => letter_is c false W hl)
  have L2 := Lib.hid (fun W => digit_is c true W hd)
  obtain ⟨m, hm⟩ : ∃ m : Nat, m = runN nuB (sfx s k) := ⟨_, rfl⟩
  have U1 := Lib.hid (fun W => run_number Y W (by rw [hY, rest_size s _ (by omega)]; omega))
  rw [show Y.data.toList = sfx s k by rw [hY, sfx_rest], ← hm] at U1
  have hml := run_le nuB (sfx s k)
  rw [sfx_len, ← hm] at hml
  have hrun : 1 ≤ m := by
    rw [hm, hcons]
    unfold runN
    rw [List.takeWhile_cons_of_pos (by unfold nuB nmB; rw [hd]; simp), List.length_cons]
    omega
  obtain ⟨X, hX⟩ : ∃ X : ByteArray, X = s.extract k (k + m) := ⟨_, rfl⟩
  have hXl : X.data.toList = (sfx s k).takeWhile nuB := by rw [hX, sfx_take, hm, take_run]
  have hXs : X.size ≤ 100000 := by rw [hX, ByteArray.size_extract]; omega
  have V1 := Lib.hid (fun W h => take_any b s k m W h (by omega))
  rw [← hX] at V1
  have M1 := Lib.hid (fun W => cNumeral X W (by omega))
  rw [hXl] at M1
  rw [hno] at M1
  have hT := Tok.numBad (c := c) (r := sfx s (k + 1)) hl hd (by rw [← hcons]; exact hno)
  rw [← hcons] at hT
  obtain ⟨N, hN⟩ : ∃ N : Int, N = sgn (numN 9223372036854775807 ((sfx s k).takeWhile nuB) : Int) := ⟨_, rfl⟩
  rw [← hN] at M1
  have HT := Lib.hid hT
  clear hm hX hXl hT hcons hl hd hno hc hN
  have HR := Lib.hid h
  have HN := Lib.hid hn
  clear hY h hn
  have HL := Lib.hid (tok_laid b s k w n HR.out)
  go_enter Tryz.func30, Tryz.ntmps30
  go_wp2_with fail
  refine (C1.out _ HL.out.1).mono ?_; rintro e w1 ⟨rfl, r1, k1⟩
  have R1 := Lib.hid r1
  have K1 := Lib.hid (HL.out.2.1.trans k1)
  have T0 := Lib.hid (HL.out.2.2.1.kp k1 (by omega))
  have T1 := Lib.hid (HL.out.2.2.2.kp k1 (by omega))
  clear r1 k1 c2
  obtain ⟨a0, a1, a2, a3⟩ := T0.out.cells
  obtain ⟨f0, f1, f2, f3⟩ := T0.out.frozen
  obtain ⟨b0, b1, b2, b3⟩ := T1.out.cells
  obtain ⟨g0, g1, g2, g3⟩ := T1.out.frozen
  go_wp2_with (first
    | (go_at_call 69; refine (L1.out _).mono ?_; rintro e w' ⟨rfl, rfl⟩)
    | (go_at_call 71; refine (L2.out _).mono ?_; rintro e w' ⟨rfl, rfl⟩))
  clear a0 a1 a2 a3 f0 f1 f2 f3 b0 b1 b2 b3 g0 g1 g2 g3
  have R1b := Lib.hid (R1.out.setNew (g := w.heap.size + 1) (by omega) 0 (.int .i64 3))
  have K1b := Lib.hid (K1.out.setNew (g := w.heap.size + 1) (by omega) 0 (.int .i64 3))
  have T0b := Lib.hid (T0.out.setOther (g' := w.heap.size + 1) (by omega) 0 (.int .i64 3))
  have T1b := Lib.hid (T1.out.set0 (.int .i64 3))
  generalize w1.setCell ⟨w.heap.size + 1, 0, none⟩ (.int .i64 3) = w1b at *
  refine (U1.out _).mono ?_; rintro e w1' ⟨rfl, rfl⟩
  go_wp2_with fail
  refine (V1.out _ R1b.out).mono ?_; rintro e w2 ⟨rfl, r2, k2⟩
  have R2 := Lib.hid r2
  have K2 := hid_kp K1b k2
  have T20 := Lib.hid (T0b.out.kp k2 (by omega))
  have T21 := Lib.hid (T1b.out.kp k2 (by omega))
  clear r2 k2
  go_wp2_with fail
  refine (M1.out _).mono ?_; rintro e w2' ⟨rfl, rfl⟩
  obtain ⟨a0, a1, a2, a3⟩ := T20.out.cells
  obtain ⟨f0, f1, f2, f3⟩ := T20.out.frozen
  obtain ⟨b0, b1, b2, b3⟩ := T21.out.cells
  obtain ⟨g0, g1, g2, g3⟩ := T21.out.frozen
  go_wp2_with fail
  clear a0 a1 a2 a3 f0 f1 f2 f3 b0 b1 b2 b3 g0 g1 g2 g3
  refine (fault_any _ _).mono ?_; rintro e w9 ⟨rfl, rfl⟩
  have K8 := Lib.hid (K2.out.setNew (g := w.heap.size + 1) (by omega) 2 (.int .i64 N))
  have T8 := Lib.hid (T20.out.setOther (g' := w.heap.size + 1) (by omega) 2 (.int .i64 N))
  generalize w2.setCell ⟨w.heap.size + 1, 2, none⟩ (.int .i64 N) = w8 at *
  have hsz8 := T8.out.lt
  obtain ⟨a0, a1, a2, a3⟩ := T8.out.cells
  obtain ⟨f0, f1, f2, f3⟩ := T8.out.frozen
  go_wp2_with fail
  clear a0 a1 a2 a3 f0 f1 f2 f3
  obtain ⟨d0, d1, d2, d3⟩ := ((T8.out.set4 (.int .i64 0) (.int .i64 0) (.int .i64 0) (.string ⟨#[]⟩)).alloc (.cells #[.int .i64 n, .iface 60 (.int .i64 5)] 68)).cells
  refine bodyPost_ret (v := .tuple #[.agg #[.int .i64 0, .int .i64 0, .int .i64 0, .string ⟨#[]⟩], .iface 64 (.pointer (some ⟨w8.heap.size, 0, none⟩))]) (by simp [results, Tryz.results30, go_sem, d0, d1, d2, d3]) rfl ?_
  exact ⟨(K8.out.set4 (Nat.le_refl _) _ _ _ _).alloc _, .inr ⟨_, rfl, by rw [← HN.out]; exact Flt.new' _ _ _ (by simp [World.setCell]), HT.out⟩⟩
set_option maxHeartbeats 2000000 in
theorem token_quo (b : Nat) (s : ByteArray) (k : Nat) (w : World) (h : Rd w b s k) (hk : k < s.size) (c : UInt8) (hc : s[k] = c) (hl : ltB c = false) (hd : dgB c = false) (hq : quB c = true) : Calls Tryz.prog 30 #[.pointer (some ⟨b, 0, none⟩)] w (TokPost b s k w) := by
  have hblt := h.lt
  have htop := h.top
  have c2 := (h.alloc (.cells #[.int .i64 0, .int .i64 0, .int .i64 0, .string ⟨#[]⟩] 81)).c2
  rw [line_at] at c2
  obtain ⟨n, hn⟩ : ∃ n : Int, n = lastL s - nl (sfx s k) := ⟨_, rfl⟩
  rw [← hn] at c2
  obtain ⟨Y, hY⟩ : ∃ Y : ByteArray, Y = s.extract k s.size := ⟨_, rfl⟩
  have C1 := Lib.hid (fun W h => rest_any b s k W h)
  rw [← hY] at C1
  have hYs : 0 < Y.size := by rw [hY, rest_size s k (by omega)]; omega
  have hY0 : Y[0] = c := by subst hY; rw [rest_head s k hk hYs]; exact hc
  have hYe := empB_no Y hYs
  have hcons := sfx_cons s k hk
  rw [hc] at hcons
  have HC := Lib.hid hcons
  have L1 := Lib.hid (fun W => letter_is c false W hl)
  have L2 := Lib.hid (fun W => digit_is c false W hd)
  have L3 := Lib.hid (fun W => quote_is c true W hq)
  have hq' : c.toNat = 39 ∨ c.toNat = 34 := by unfold quB at hq; simpa using hq
  have Q1 := Lib.hid (fun W h => quoted_any b s k W h hk c hc (by rintro rfl; revert hq'; decide) (by rintro rfl; revert hq'; decide))
  have HT := Lib.hid (fun o (ho : Quo c (sfx s (k + 1)) o) => hcons ▸ Tok.text hl hd hq ho)
  clear hcons hl hd hq hc hq'
  have HR := Lib.hid h
  have HN := Lib.hid hn
  clear hY h hn
  have HL := Lib.hid (tok_laid b s k w n HR.out)
  go_enter Tryz.func30, Tryz.ntmps30
  go_wp2_with fail
  refine (C1.out _ HL.out.1).mono ?_; rintro e w1 ⟨rfl, r1, k1⟩
  have R1 := Lib.hid r1
  have K1 := Lib.hid (HL.out.2.1.trans k1)
  have T0 := Lib.hid (HL.out.2.2.1.kp k1 (by omega))
  have T1 := Lib.hid (HL.out.2.2.2.kp k1 (by omega))
  clear r1 k1 c2
  obtain ⟨a0, a1, a2, a3⟩ := T0.out.cells
  obtain ⟨f0, f1, f2, f3⟩ := T0.out.frozen
  obtain ⟨b0, b1, b2, b3⟩ := T1.out.cells
  obtain ⟨g0, g1, g2, g3⟩ := T1.out.frozen
  go_wp2_with (first
    | (go_at_call 69; refine (L1.out _).mono ?_; rintro e w' ⟨rfl, rfl⟩)
    | (go_at_call 71; refine (L2.out _).mono ?_; rintro e w' ⟨rfl, rfl⟩)
    | (go_at_call 74; refine (L3.out _).mono ?_; rintro e w' ⟨rfl, rfl⟩))
  clear a0 a1 a2 a3 f0 f1 f2 f3 b0 b1 b2 b3 g0 g1 g2 g3
  have R1b := Lib.hid (R1.out.setNew (g := w.heap.size + 1) (by omega) 0 (.int .i64 4))
  have K1b := Lib.hid (K1.out.setNew (g := w.heap.size + 1) (by omega) 0 (.int .i64 4))
  have T0b := Lib.hid (T0.out.setOther (g' := w.heap.size + 1) (by omega) 0 (.int .i64 4))
  have T1b := Lib.hid (T1.out.set0 (.int .i64 4))
  generalize w1.setCell ⟨w.heap.size + 1, 0, none⟩ (.int .i64 4) = w1b at *
  refine (Q1.out _ R1b.out).mono ?_; rintro e w2 ⟨o, ho, hpo⟩
  have HO := Lib.hid (HT.out o ho)
  clear ho
  rcases o with _ | ⟨t, r⟩
  · obtain ⟨rfl, k2⟩ := hpo.none_of
    have K2 := hid_kp K1b k2
    have T20 := Lib.hid (T0b.out.kp k2 (by omega))
    have T21 := Lib.hid (T1b.out.kp k2 (by omega))
    clear hpo k2
    obtain ⟨a0, a1, a2, a3⟩ := T20.out.cells
    obtain ⟨f0, f1, f2, f3⟩ := T20.out.frozen
    obtain ⟨b0, b1, b2, b3⟩ := T21.out.cells
    obtain ⟨g0, g1, g2, g3⟩ := T21.out.frozen
    go_wp2_with fail
    clear a0 a1 a2 a3 f0 f1 f2 f3 b0 b1 b2 b3 g0 g1 g2 g3
    refine (fault_any _ _).mono ?_; rintro e w9 ⟨rfl, rfl⟩
    have K8 := Lib.hid (K2.out.setNew (g := w.heap.size + 1) (by omega) 3 (.string ⟨#[]⟩))
    have T8 := Lib.hid (T20.out.setOther (g' := w.heap.size + 1) (by omega) 3 (.string ⟨#[]⟩))
    generalize w2.setCell ⟨w.heap.size + 1, 3, none⟩ (.string ⟨#[]⟩) = w8 at *
    have hsz8 := T8.out.lt
    obtain ⟨a0, a1, a2, a3⟩ := T8.out.cells
    obtain ⟨f0, f1, f2, f3⟩ := T8.out.frozen
    go_wp2_with fail
    clear a0 a1 a2 a3 f0 f1 f2 f3
    obtain ⟨d0, d1, d2, d3⟩ := ((T8.out.set4 (.int .i64 0) (.int .i64 0) (.int .i64 0) (.string ⟨#[]⟩)).alloc (.cells #[.int .i64 n, .iface 60 (.int .i64 5)] 68)).cells
    refine bodyPost_ret (v := .tuple #[.agg #[.int .i64 0, .int .i64 0, .int .i64 0, .string ⟨#[]⟩], .iface 64 (.pointer (some ⟨w8.heap.size, 0, none⟩))]) (by simp [results, Tryz.results30, go_sem, d0, d1, d2, d3]) rfl ?_
    exact ⟨(K8.out.set4 (Nat.le_refl _) _ _ _ _).alloc _, .inr ⟨_, rfl, by rw [← HN.out]; exact Flt.new' _ _ _ (by simp [World.setCell]), HO.out⟩⟩
  · obtain ⟨k', rfl, r2, hr2, hlt2, k2⟩ := hpo.some_of
    have R2 := Lib.hid r2
    have K2 := hid_kp K1b k2
    have T20 := Lib.hid (T0b.out.kp k2 (by omega))
    have T21 := Lib.hid (T1b.out.kp k2 (by omega))
    have HE := Lib.hid hr2
    obtain ⟨X, hX⟩ : ∃ X : ByteArray, X = ⟨t.toArray⟩ := ⟨_, rfl⟩
    rw [← hX]
    have HX := Lib.hid hX
    clear hpo r2 k2 hr2 hX
    obtain ⟨a0, a1, a2, a3⟩ := T20.out.cells
    obtain ⟨f0, f1, f2, f3⟩ := T20.out.frozen
    obtain ⟨b0, b1, b2, b3⟩ := T21.out.cells
    obtain ⟨g0, g1, g2, g3⟩ := T21.out.frozen
    go_wp2_with fail
    clear a0 a1 a2 a3 f0 f1 f2 f3 b0 b1 b2 b3 g0 g1 g2 g3
    obtain ⟨d0, d1, d2, d3⟩ := ((T20.out.setOther (g' := w.heap.size + 1) (by omega) 3 (.string X)).set4 (.int .i64 4) (.int .i64 n) (.int .i64 0) (.string X)).cells
    refine bodyPost_ret (v := .tuple #[.agg #[.int .i64 4, .int .i64 n, .int .i64 0, .string X], .nilIface]) (by simp [results, Tryz.results30, go_sem, d0, d1, d2, d3]) rfl ?_
    exact ⟨(K2.out.setNew (by omega) _ _).set4 (Nat.le_refl _) _ _ _ _, .inl ⟨4, 0, _, _, by rw [← HN.out, HX.out], (R2.out.setNew (by omega) _ _).set4 hblt _ _ _ _, by omega, fun _ => by omega, fun e => absurd e (by decide), by rw [HE.out]; exact HO.out⟩⟩
set_option maxHeartbeats 2000000 in
theorem token_brk (b : Nat) (s : ByteArray) (k : Nat) (w : World) (h : Rd w b s k) (hk : k < s.size) (c : UInt8) (hc : s[k] = c) (hl : ltB c = false) (hd : dgB c = false) (hq : quB c = false) (hop : 0 < opn (sfx s k)) : Calls Tryz.prog 30 #[.pointer (some ⟨b, 0, none⟩)] w (TokPost b s k w) := by
  have hblt := h.lt
  have htop := h.top
  have c2 := (h.alloc (.cells #[.int .i64 0, .int .i64 0, .int .i64 0, .string ⟨#[]⟩] 81)).c2
  rw [line_at] at c2
  obtain ⟨n, hn⟩ : ∃ n : Int, n = lastL s - nl (sfx s k) := ⟨_, rfl⟩
  rw [← hn] at c2
  obtain ⟨Y, hY⟩ : ∃ Y : ByteArray, Y = s.extract k s.size := ⟨_, rfl⟩
  have C1 := Lib.hid (fun W h => rest_any b s k W h)
  rw [← hY] at C1
  have hYs : 0 < Y.size := by rw [hY, rest_size s k (by omega)]; omega
  have hY0 : Y[0] = c := by subst hY; rw [rest_head s k hk hYs]; exact hc
  have hYe := empB_no Y hYs
  have hcons := sfx_cons s k hk
  rw [hc] at hcons
  have HC := Lib.hid hcons
  have L1 := Lib.hid (fun W => letter_is c false W hl)
  have L2 := Lib.hid (fun W => digit_is c false W hd)
  have L3 := Lib.hid (fun W => quote_is c false W hq)
  have hYl : Y.data.toList = sfx s k := by rw [hY, sfx_rest]
  have hYz : Y.size ≤ 100000 := by rw [hY, rest_size s _ (by omega)]; omega
  have L4 := Lib.hid (fun W => begins_is Y true W hYz (by rw [hYl]; exact decide_eq_true hop))
  have Q1 := Lib.hid (fun W h => bracketed_any b s k W h hop)
  have HO := Lib.hid (hcons ▸ Tok.long hl hd hq (hcons ▸ hop))
  clear hYl hYz hop
  clear hcons hl hd hq hc
  have HR := Lib.hid h
  have HN := Lib.hid hn
  clear hY h hn
  have HL := Lib.hid (tok_laid b s k w n HR.out)
  go_enter Tryz.func30, Tryz.ntmps30
  go_wp2_with fail
  refine (C1.out _ HL.out.1).mono ?_; rintro e w1 ⟨rfl, r1, k1⟩
  have R1 := Lib.hid r1
  have K1 := Lib.hid (HL.out.2.1.trans k1)
  have T0 := Lib.hid (HL.out.2.2.1.kp k1 (by omega))
  have T1 := Lib.hid (HL.out.2.2.2.kp k1 (by omega))
  clear r1 k1 c2
  obtain ⟨a0, a1, a2, a3⟩ := T0.out.cells
  obtain ⟨f0, f1, f2, f3⟩ := T0.out.frozen
  obtain ⟨b0, b1, b2, b3⟩ := T1.out.cells
  obtain ⟨g0, g1, g2, g3⟩ := T1.out.frozen
  go_wp2_with (first
    | (go_at_call 69; refine (L1.out _).mono ?_; rintro e w' ⟨rfl, rfl⟩)
    | (go_at_call 71; refine (L2.out _).mono ?_; rintro e w' ⟨rfl, rfl⟩)
    | (go_at_call 74; refine (L3.out _).mono ?_; rintro e w' ⟨rfl, rfl⟩)
    | (go_at_call 76; refine (L4.out _).mono ?_; rintro e w' ⟨rfl, rfl⟩))
  clear a0 a1 a2 a3 f0 f1 f2 f3 b0 b1 b2 b3 g0 g1 g2 g3
  have R1b := Lib.hid (R1.out.setNew (g := w.heap.size + 1) (by omega) 0 (.int .i64 4))
  have K1b := Lib.hid (K1.out.setNew (g := w.heap.size + 1) (by omega) 0 (.int .i64 4))
  have T0b := Lib.hid (T0.out.setOther (g' := w.heap.size + 1) (by omega) 0 (.int .i64 4))
  have T1b := Lib.hid (T1.out.set0 (.int .i64 4))
  generalize w1.setCell ⟨w.heap.size + 1, 0, none⟩ (.int .i64 4) = w1b at *
  refine (Q1.out _ R1b.out).mono ?_; intro e w2 hpo
  generalize brk (sfx s k) = o at *
  rcases o with _ | ⟨t, r⟩
  · obtain ⟨rfl, k2⟩ := hpo.none_of
    have K2 := hid_kp K1b k2
    have T20 := Lib.hid (T0b.out.kp k2 (by omega))
    have T21 := Lib.hid (T1b.out.kp k2 (by omega))
    clear hpo k2
    obtain ⟨a0, a1, a2, a3⟩ := T20.out.cells
    obtain ⟨f0, f1, f2, f3⟩ := T20.out.frozen
    obtain ⟨b0, b1, b2, b3⟩ := T21.out.cells
    obtain ⟨g0, g1, g2, g3⟩ := T21.out.frozen
    go_wp2_with fail
    clear a0 a1 a2 a3 f0 f1 f2 f3 b0 b1 b2 b3 g0 g1 g2 g3
    refine (fault_any _ _).mono ?_; rintro e w9 ⟨rfl, rfl⟩
    have K8 := Lib.hid (K2.out.setNew (g := w.heap.size + 1) (by omega) 3 (.string ⟨#[]⟩))
    have T8 := Lib.hid (T20.out.setOther (g' := w.heap.size + 1) (by omega) 3 (.string ⟨#[]⟩))
    generalize w2.setCell ⟨w.heap.size + 1, 3, none⟩ (.string ⟨#[]⟩) = w8 at *
    have hsz8 := T8.out.lt
    obtain ⟨a0, a1, a2, a3⟩ := T8.out.cells
    obtain ⟨f0, f1, f2, f3⟩ := T8.out.frozen
    go_wp2_with fail
    clear a0 a1 a2 a3 f0 f1 f2 f3
    obtain ⟨d0, d1, d2, d3⟩ := ((T8.out.set4 (.int .i64 0) (.int .i64 0) (.int .i64 0) (.string ⟨#[]⟩)).alloc (.cells #[.int .i64 n, .iface 60 (.int .i64 5)] 68)).cells
    refine bodyPost_ret (v := .tuple #[.agg #[.int .i64 0, .int .i64 0, .int .i64 0, .string ⟨#[]⟩], .iface 64 (.pointer (some ⟨w8.heap.size, 0, none⟩))]) (by simp [results, Tryz.results30, go_sem, d0, d1, d2, d3]) rfl ?_
    exact ⟨(K8.out.set4 (Nat.le_refl _) _ _ _ _).alloc _, .inr ⟨_, rfl, by rw [← HN.out]; exact Flt.new' _ _ _ (by simp [World.setCell]), HO.out⟩⟩
  · obtain ⟨k', rfl, r2, hr2, hlt2, k2⟩ := hpo.some_of
    have R2 := Lib.hid r2
    have K2 := hid_kp K1b k2
    have T20 := Lib.hid (T0b.out.kp k2 (by omega))
    have T21 := Lib.hid (T1b.out.kp k2 (by omega))
    have HE := Lib.hid hr2
    obtain ⟨X, hX⟩ : ∃ X : ByteArray, X = ⟨t.toArray⟩ := ⟨_, rfl⟩
    rw [← hX]
    have HX := Lib.hid hX
    clear hpo r2 k2 hr2 hX
    obtain ⟨a0, a1, a2, a3⟩ := T20.out.cells
    obtain ⟨f0, f1, f2, f3⟩ := T20.out.frozen
    obtain ⟨b0, b1, b2, b3⟩ := T21.out.cells
    obtain ⟨g0, g1, g2, g3⟩ := T21.out.frozen
    go_wp2_with fail
    clear a0 a1 a2 a3 f0 f1 f2 f3 b0 b1 b2 b3 g0 g1 g2 g3
    obtain ⟨d0, d1, d2, d3⟩ := ((T20.out.setOther (g' := w.heap.size + 1) (by omega) 3 (.string X)).set4 (.int .i64 4) (.int .i64 n) (.int .i64 0) (.string X)).cells
    refine bodyPost_ret (v := .tuple #[.agg #[.int .i64 4, .int .i64 n, .int .i64 0, .string X], .nilIface]) (by simp [results, Tryz.results30, go_sem, d0, d1, d2, d3]) rfl ?_
    exact ⟨(K2.out.setNew (by omega) _ _).set4 (Nat.le_refl _) _ _ _ _, .inl ⟨4, 0, _, _, by rw [← HN.out, HX.out], (R2.out.setNew (by omega) _ _).set4 hblt _ _ _ _, by omega, fun _ => by omega, fun e => absurd e (by decide), by rw [HE.out]; exact HO.out⟩⟩
set_option maxHeartbeats 2000000 in
theorem token_sgn (b : Nat) (s : ByteArray) (k : Nat) (w : World) (h : Rd w b s k) (hk : k < s.size) (c : UInt8) (hc : s[k] = c) (hl : ltB c = false) (hd : dgB c = false) (hq : quB c = false) (hop : ¬ 0 < opn (sfx s k)) : Calls Tryz.prog 30 #[.pointer (some ⟨b, 0, none⟩)] w (TokPost b s k w) := by
  have hblt := h.lt
  have htop := h.top
  have c2 := (h.alloc (.cells #[.int .i64 0, .int .i64 0, .int .i64 0, .string ⟨#[]⟩] 81)).c2
  rw [line_at] at c2
  obtain ⟨n, hn⟩ : ∃ n : Int, n = lastL s - nl (sfx s k) := ⟨_, rfl⟩
  rw [← hn] at c2
  obtain ⟨Y, hY⟩ : ∃ Y : ByteArray, Y = s.extract k s.size := ⟨_, rfl⟩
  have C1 := Lib.hid (fun W h => rest_any b s k W h)
  rw [← hY] at C1
  have hYs : 0 < Y.size := by rw [hY, rest_size s k (by omega)]; omega
  have hY0 : Y[0] = c := by subst hY; rw [rest_head s k hk hYs]; exact hc
  have hYe := empB_no Y hYs
  have hcons := sfx_cons s k hk
  rw [hc] at hcons
  have HC := Lib.hid hcons
  have L1 := Lib.hid (fun W => letter_is c false W hl)
  have L2 := Lib.hid (fun W => digit_is c false W hd)
  have L3 := Lib.hid (fun W => quote_is c false W hq)
  have hYl : Y.data.toList = sfx s k := by rw [hY, sfx_rest]
  have hYz : Y.size ≤ 100000 := by rw [hY, rest_size s _ (by omega)]; omega
  have L4 := Lib.hid (fun W => begins_is Y false W hYz (by rw [hYl]; exact decide_eq_false hop))
  have Q1 := Lib.hid (fun W h => sign_any b s k W h)
  have HO := Lib.hid (hcons ▸ Tok.sign hl hd hq (hcons ▸ hop))
  clear hYl hYz hop
  clear hcons hl hd hq hc
  have HR := Lib.hid h
  have HN := Lib.hid hn
  clear hY h hn
  have HL := Lib.hid (tok_laid b s k w n HR.out)
  go_enter Tryz.func30, Tryz.ntmps30
  go_wp2_with fail
  refine (C1.out _ HL.out.1).mono ?_; rintro e w1 ⟨rfl, r1, k1⟩
  have R1 := Lib.hid r1
  have K1 := Lib.hid (HL.out.2.1.trans k1)
  have T0 := Lib.hid (HL.out.2.2.1.kp k1 (by omega))
  have T1 := Lib.hid (HL.out.2.2.2.kp k1 (by omega))
  clear r1 k1 c2
  obtain ⟨a0, a1, a2, a3⟩ := T0.out.cells
  obtain ⟨f0, f1, f2, f3⟩ := T0.out.frozen
  obtain ⟨b0, b1, b2, b3⟩ := T1.out.cells
  obtain ⟨g0, g1, g2, g3⟩ := T1.out.frozen
  go_wp2_with (first
    | (go_at_call 69; refine (L1.out _).mono ?_; rintro e w' ⟨rfl, rfl⟩)
    | (go_at_call 71; refine (L2.out _).mono ?_; rintro e w' ⟨rfl, rfl⟩)
    | (go_at_call 74; refine (L3.out _).mono ?_; rintro e w' ⟨rfl, rfl⟩)
    | (go_at_call 76; refine (L4.out _).mono ?_; rintro e w' ⟨rfl, rfl⟩))
  clear a0 a1 a2 a3 f0 f1 f2 f3 b0 b1 b2 b3 g0 g1 g2 g3
  have R1b := Lib.hid (R1.out.setNew (g := w.heap.size + 1) (by omega) 0 (.int .i64 5))
  have K1b := Lib.hid (K1.out.setNew (g := w.heap.size + 1) (by omega) 0 (.int .i64 5))
  have T0b := Lib.hid (T0.out.setOther (g' := w.heap.size + 1) (by omega) 0 (.int .i64 5))
  have T1b := Lib.hid (T1.out.set0 (.int .i64 5))
  generalize w1.setCell ⟨w.heap.size + 1, 0, none⟩ (.int .i64 5) = w1b at *
  refine (Q1.out _ R1b.out).mono ?_; intro e w2 hpo
  generalize sign (sfx s k) = o at *
  rcases o with _ | ⟨t, r⟩
  · obtain ⟨rfl, k2⟩ := hpo.none_of
    have K2 := hid_kp K1b k2
    have T20 := Lib.hid (T0b.out.kp k2 (by omega))
    have T21 := Lib.hid (T1b.out.kp k2 (by omega))
    clear hpo k2
    obtain ⟨a0, a1, a2, a3⟩ := T20.out.cells
    obtain ⟨f0, f1, f2, f3⟩ := T20.out.frozen
    obtain ⟨b0, b1, b2, b3⟩ := T21.out.cells
    obtain ⟨g0, g1, g2, g3⟩ := T21.out.frozen
    go_wp2_with fail
    clear a0 a1 a2 a3 f0 f1 f2 f3 b0 b1 b2 b3 g0 g1 g2 g3
    refine (fault_any _ _).mono ?_; rintro e w9 ⟨rfl, rfl⟩
    have K8 := Lib.hid (K2.out.setNew (g := w.heap.size + 1) (by omega) 3 (.string ⟨#[]⟩))
    have T8 := Lib.hid (T20.out.setOther (g' := w.heap.size + 1) (by omega) 3 (.string ⟨#[]⟩))
    generalize w2.setCell ⟨w.heap.size + 1, 3, none⟩ (.string ⟨#[]⟩) = w8 at *
    have hsz8 := T8.out.lt
    obtain ⟨a0, a1, a2, a3⟩ := T8.out.cells
    obtain ⟨f0, f1, f2, f3⟩ := T8.out.frozen
    go_wp2_with fail
    clear a0 a1 a2 a3 f0 f1 f2 f3
    obtain ⟨d0, d1, d2, d3⟩ := ((T8.out.set4 (.int .i64 0) (.int .i64 0) (.int .i64 0) (.string ⟨#[]⟩)).alloc (.cells #[.int .i64 n, .iface 60 (.int .i64 5)] 68)).cells
    refine bodyPost_ret (v := .tuple #[.agg #[.int .i64 0, .int .i64 0, .int .i64 0, .string ⟨#[]⟩], .iface 64 (.pointer (some ⟨w8.heap.size, 0, none⟩))]) (by simp [results, Tryz.results30, go_sem, d0, d1, d2, d3]) rfl ?_
    exact ⟨(K8.out.set4 (Nat.le_refl _) _ _ _ _).alloc _, .inr ⟨_, rfl, by rw [← HN.out]; exact Flt.new' _ _ _ (by simp [World.setCell]), HO.out⟩⟩
  · obtain ⟨k', rfl, r2, hr2, hlt2, k2⟩ := hpo.some_of
    have R2 := Lib.hid r2
    have K2 := hid_kp K1b k2
    have T20 := Lib.hid (T0b.out.kp k2 (by omega))
    have T21 := Lib.hid (T1b.out.kp k2 (by omega))
    have HE := Lib.hid hr2
    obtain ⟨X, hX⟩ : ∃ X : ByteArray, X = ⟨t.toArray⟩ := ⟨_, rfl⟩
    rw [← hX]
    have HX := Lib.hid hX
    clear hpo r2 k2 hr2 hX
    obtain ⟨a0, a1, a2, a3⟩ := T20.out.cells
    obtain ⟨f0, f1, f2, f3⟩ := T20.out.frozen
    obtain ⟨b0, b1, b2, b3⟩ := T21.out.cells
    obtain ⟨g0, g1, g2, g3⟩ := T21.out.frozen
    go_wp2_with fail
    clear a0 a1 a2 a3 f0 f1 f2 f3 b0 b1 b2 b3 g0 g1 g2 g3
    obtain ⟨d0, d1, d2, d3⟩ := ((T20.out.setOther (g' := w.heap.size + 1) (by omega) 3 (.string X)).set4 (.int .i64 5) (.int .i64 n) (.int .i64 0) (.string X)).cells
    refine bodyPost_ret (v := .tuple #[.agg #[.int .i64 5, .int .i64 n, .int .i64 0, .string X], .nilIface]) (by simp [results, Tryz.results30, go_sem, d0, d1, d2, d3]) rfl ?_
    exact ⟨(K2.out.setNew (by omega) _ _).set4 (Nat.le_refl _) _ _ _ _, .inl ⟨5, 0, _, _, by rw [← HN.out, HX.out], (R2.out.setNew (by omega) _ _).set4 hblt _ _ _ _, by omega, fun _ => by omega, fun e => absurd e (by decide), by rw [HE.out]; exact HO.out⟩⟩
theorem token_any (b : Nat) (s : ByteArray) (k : Nat) (w : World) (h : Rd w b s k) : Calls Tryz.prog 30 #[.pointer (some ⟨b, 0, none⟩)] w (TokPost b s k w) := by
  by_cases hk : k = s.size
  · exact token_eof b s k w h hk
  · have hk : k < s.size := by have := h.le; omega
    cases hl : ltB s[k]
    · cases hd : dgB s[k]
      · cases hq : quB s[k]
        · by_cases hop : 0 < opn (sfx s k)
          · exact token_brk b s k w h hk _ rfl hl hd hq hop
          · exact token_sgn b s k w h hk _ rfl hl hd hq hop
        · exact token_quo b s k w h hk _ rfl hl hd hq
      · cases hno : numO 9223372036854775807 ((sfx s k).takeWhile nuB)
        · exact token_num_bad b s k w h hk _ rfl hl hd hno
        · exact token_num b s k w h hk _ rfl hl hd hno
    · exact token_name b s k w h hk _ rfl hl
end Go.Proofs.YtfpeecjafccfjaaGreatDoor
namespace Go.Proofs.YtfpeecjafccfjaaGreatDoor
open Go.RowKit
def tcells (ts : List Tk) : List Value := ts.flatMap fun t => [.int .i64 t.1, .int .i64 t.2.1, .int .i64 t.2.2.1, .string ⟨t.2.2.2.toArray⟩]
theorem tcells_app (a b : List Tk) : tcells (a ++ b) = tcells a ++ tcells b := by simp [tcells]
def TRow (W : World) (B : Nat) (v : Value) (ts : List Tk) : Prop := W.ownsRow B 81 4 v ts.length (tcells ts)
theorem TRow.nil (W : World) (B : Nat) : TRow W B (.slice none 0 0) [] := World.ownsRow_nil W B 81 4
theorem TRow.form {W : World} {B : Nat} {v : Value} {ts : List Tk} (h : TRow W B v ts) : ∃ A c, v = .slice A ts.length c := by
  rcases h.2 with ⟨rfl, h0⟩ | ⟨g, cap, _, rfl, _⟩
  · exact ⟨none, 0, by rw [h0]⟩
  · exact ⟨_, _, rfl⟩
theorem TRow.kp {b B : Nat} {W W' : World} {v : Value} {ts : List Tk} (h : TRow W B v ts) (hk : Kp b W W') (hb : b < B) : TRow W' B v ts := by
  refine World.ownsRow.kept h hk ?_
  rcases h.2 with ⟨rfl, _⟩ | ⟨g, _, _, rfl, hg, _⟩
  · left; rfl
  · right
    intro e
    have : g = b := by simpa [Value.ownBlock] using e
    omega
theorem info30 : (Tryz.prog.info? 81).map (fun i => (i.zero, i.size, i.bytes)) = some (some (.agg #[.int .i64 0, .int .i64 0, .int .i64 0, .string ⟨#[]⟩]), 4, 40) := by kernel_rfl
theorem at_tok {ops : Array Oper} {rest : List Oper} {o : Oper} {a : Act} {Q : Exit → Act → World → Prop} (w : World) (kd ln n : Int) (X : ByteArray) (t : List UInt8) (hX : X = ⟨t.toArray⟩) (hgd : o.guard = none) (sl y : Operand)
    (ho : o.op = .call { callee := .builtin .append, args := #[sl, y], argTypes := #[48, 48] }) (B : Nat) (v : Value) (ts : List Tk) (hs : a.eval sl = v) (hown : TRow w B v ts) (g : Nat) (hg : g = w.heap.size) (hy : a.eval y = .slice (some ⟨g, 0, none⟩) 1 1)
    (hlen : ts.length ≤ 20000) (hB : B ≤ w.heap.size)
    (h : ∀ v' w', TRow w' B v' (ts ++ [(kd, ln, n, t)]) → Below B w w' → (∀ i o, w.heap[i]? = some o → some i ≠ v.ownBlock → w'.heap[i]? = some o) → wpList Tryz.prog ops Q rest (a.put o.dst v') w') : wpList Tryz.prog ops Q (o :: rest) a (w.alloc (.cells #[.int .i64 kd, .int .i64 ln, .int .i64 n, .string X] 81)) := by
  subst hX
  subst hg
  obtain ⟨i0, hi0, hz0, hz1, hz2⟩ := info_parts info30
  have hc := fun j => cell_of_row (w.alloc (.cells #[.int .i64 kd, .int .i64 ln, .int .i64 n, .string ⟨t.toArray⟩] 81)) w.heap.size j _ 81 (0, 0) (heap_alloc_new w _)
  have hpl : ∀ j : Nat, (⟨w.heap.size, 0, none⟩ : Addr).add j = ⟨w.heap.size, j, none⟩ := fun j => by unfold Addr.add; split <;> simp_all
  refine wpList_append_own (P := Tryz.prog) _ hgd sl y 48 ho B 81 i0 (.agg #[.int .i64 0, .int .i64 0, .int .i64 0, .string ⟨#[]⟩]) 4 40 Tryz.underlying48 hi0 hz0 hz1 hz2 rfl (by omega) v ts.length (tcells ts) hs (hown.alloc _) ⟨w.heap.size, 0, none⟩ 1 1 [.int .i64 kd, .int .i64 ln, .int .i64 n, .string ⟨t.toArray⟩] hy rfl
    (fun j u hj => by
      rw [hpl, hc j]
      match j, hj with
      | 0, hj => exact hj
      | 1, hj => exact hj
      | 2, hj => exact hj
      | 3, hj => exact hj
      | j + 4, hj => simp at hj) (fun u hu => by
        rcases List.mem_cons.1 hu with rfl | hu
        · rfl
        · rcases List.mem_cons.1 hu with rfl | hu
          · rfl
          · rcases List.mem_cons.1 hu with rfl | hu
            · rfl
            · obtain rfl := List.mem_singleton.1 hu
              rfl) (by unfold maxLen; omega) (by omega) (by simp; omega) ?_
  intro v' w' h1 h2 _
  refine h v' w' ?_ (((Below.refl _ _).alloc hB _).grown h2 (by simp; omega) (fun k hk => (hown.lt k hk).1)) (fun i ob hi hne => by
    have hlt := (Array.getElem?_eq_some_iff.1 hi).1
    exact (h2.block i (by simp; omega) hne).trans ((Below.heap_alloc w _ i hlt).trans hi))
  unfold TRow
  rw [List.length_append, tcells_app]
  exact h1
structure Toks (W : World) (v : Value) (ts : List Tk) : Prop where
  ex : ∃ g cap, v = .slice (some ⟨g, 0, none⟩) ts.length cap ∧ ts.length ≤ cap ∧ g < W.heap.size ∧ ∀ (j : Nat) (t : Tk), ts[j]? = some t →
    W.cell? ⟨g, j * 4, none⟩ = some (.int .i64 t.1) ∧ W.cell? ⟨g, j * 4 + 1, none⟩ = some (.int .i64 t.2.1) ∧ W.cell? ⟨g, j * 4 + 2, none⟩ = some (.int .i64 t.2.2.1) ∧ W.cell? ⟨g, j * 4 + 3, none⟩ = some (.string ⟨t.2.2.2.toArray⟩)
theorem tcells_get : ∀ (ts : List Tk) (j : Nat) (t : Tk), ts[j]? = some t → (tcells ts)[j * 4]? = some (.int .i64 t.1) ∧ (tcells ts)[j * 4 + 1]? = some (.int .i64 t.2.1) ∧ (tcells ts)[j * 4 + 2]? = some (.int .i64 t.2.2.1) ∧ (tcells ts)[j * 4 + 3]? = some (.string ⟨t.2.2.2.toArray⟩) := by
  intro ts
  induction ts with
  | nil => intro j t h; simp at h
  | cons a r ih =>
    intro j t h
    cases j with
    | zero =>
      obtain rfl : a = t := by simpa using h
      exact ⟨rfl, rfl, rfl, rfl⟩
    | succ j =>
      obtain ⟨h0, h1, h2, h3⟩ := ih j t (by simpa using h)
      have e : ∀ i, (tcells (a :: r))[i + 4]? = (tcells r)[i]? := fun i => rfl
      rw [show (j + 1) * 4 = j * 4 + 4 by omega, show j * 4 + 4 + 1 = j * 4 + 1 + 4 by omega, show j * 4 + 4 + 2 = j * 4 + 2 + 4 by omega, show j * 4 + 4 + 3 = j * 4 + 3 + 4 by omega, e, e, e, e]
      exact ⟨h0, h1, h2, h3⟩
theorem TRow.toks {W : World} {B : Nat} {v : Value} {ts : List Tk} (h : TRow W B v ts) (h0 : 0 < ts.length) : Toks W v ts := by
  have hh := h
  rcases h.2 with ⟨rfl, h1⟩ | ⟨g, cap, cur, rfl, _, _, hc, _⟩
  · omega
  · refine ⟨g, cap, rfl, hc, (World.ownsRow.lt hh g rfl).2, fun j t hj => ?_⟩
    have hj' : j < ts.length := (List.getElem?_eq_some_iff.1 hj).1
    obtain ⟨e0, e1, e2, e3⟩ := tcells_get ts j t hj
    have c := fun i hi => World.ownsRow.cellAt hh i hi
    exact ⟨(c _ (by omega)).trans e0, (c _ (by omega)).trans e1, (c _ (by omega)).trans e2, (c _ (by omega)).trans e3⟩
theorem Toks.below {W W' : World} {v : Value} {ts : List Tk} (h : Toks W v ts) (hb : Below W.heap.size W W') : Toks W' v ts := by
  obtain ⟨g, cap, h1, h2, h3, h4⟩ := h.ex
  refine ⟨g, cap, h1, h2, Nat.lt_of_lt_of_le h3 hb.size, fun j t hj => ?_⟩
  obtain ⟨e0, e1, e2, e3⟩ := h4 j t hj
  exact ⟨(hb.cell (p := ⟨g, _, none⟩) h3).trans e0, (hb.cell (p := ⟨g, _, none⟩) h3).trans e1, (hb.cell (p := ⟨g, _, none⟩) h3).trans e2, (hb.cell (p := ⟨g, _, none⟩) h3).trans e3⟩
theorem Flt.below {W W' : World} {v : Value} {n : Int} (h : Flt W v n) (hb : Below W.heap.size W W') : Flt W' v n := by
  obtain ⟨g, h1, h2⟩ := h
  exact ⟨g, h1, (hb.block g (Array.getElem?_eq_some_iff.1 h2).1).trans h2⟩
def LexPost (s : ByteArray) (w : World) (e : Ending) (w' : World) : Prop :=
  Below w.heap.size w w' ∧ ∃ o, LexR (lastL s) s.data.toList o ∧ match o with
    | .ok ts => ts.length ≤ s.size + 1 ∧ ∃ v, e = .returned (.tuple #[v, .nilIface]) ∧ Toks w' v ts
    | .error n => ∃ v, e = .returned (.tuple #[.slice none 0 0, v]) ∧ Flt w' v n
theorem exc_nil (o : Except Int (List Tk)) : o.map (([] : List Tk) ++ ·) = o := by cases o <;> rfl
theorem exc_app (o : Except Int (List Tk)) (T : List Tk) (t : Tk) : (o.map (t :: ·)).map (T ++ ·) = o.map ((T ++ [t]) ++ ·) := by
  cases o
  · rfl
  · simp [Except.map]
theorem rd_new (w : World) (s : ByteArray) (hs : s.size ≤ 10000) (h7 : 7 ≤ w.heap.size) (hM : Mx w) : Rd (w.alloc (.cells #[.string s, .int .i64 0, .int .i64 1] 78)) w.heap.size s 0 :=
  ⟨World.alloc_heap_new w _, Nat.zero_le _, by omega, h7, hM.below ((Below.refl _ _).alloc (Nat.le_refl _) _)⟩
theorem below_of_kp {w W : World} {o : Obj} (h : Kp w.heap.size (w.alloc o) W) : Below w.heap.size w W := by
  have h1 := (Below.refl w.heap.size w).alloc (Nat.le_refl _) o
  exact h1.trans ⟨h.os, h.tape, h.output, h.size, fun k hk => h.block k (by simp; omega) (by simp; omega)⟩
theorem tok_nil {kd n : Int} {t r : List UInt8} (h : Tok [] (some (kd, n, t, r))) : n = 0 ∧ t = [] := by
  cases h
  exact ⟨rfl, rfl⟩
set_option maxHeartbeats 4000000 in
theorem lex_any (s : ByteArray) (w : World) (hs : s.size ≤ 10000) (h7 : 7 ≤ w.heap.size) (hM : Mx w) : Calls Tryz.prog 16 #[.string s] w (LexPost s w) := by
  have g0 : decide (65536 < s.size) = false := decide_eq_false (by omega)
  have HR := Lib.hid (rd_new w s hs h7 hM)
  clear hM
  go_enter Tryz.func16, Tryz.ntmps16
  go_wp2_with fail
  have hls : s.data.toList = sfx s 0 := rfl
  go_loopg [5] s.size (fun z tv wr => ∃ (k1 : Nat) (ts : List Tk), Rd wr w.heap.size s k1 ∧ s.size - k1 ≤ z ∧ Kp w.heap.size (w.alloc (.cells #[.string s, .int .i64 0, .int .i64 1] 78)) wr ∧ TRow wr (w.heap.size + 1) tv ts ∧ ts.length ≤ k1 ∧ ∀ o, LexR (lastL s) (sfx s k1) o → LexR (lastL s) s.data.toList (o.map (ts ++ ·)))
  case atStart => exact ⟨0, [], HR.out, by omega, Kp.refl _ _, TRow.nil _ _, Nat.le_refl _, fun o h => by rw [exc_nil]; exact h⟩
  case round =>
    clear hls
    obtain ⟨k1, ts, hr, hz, hkp, hrow, hlen, hlex⟩ := hrel
    have hle1 := hr.le
    have R0 := Lib.hid hr
    have K0 := Lib.hid hkp
    have W0 := Lib.hid hrow
    have HL := Lib.hid hlex
    clear hr hkp hrow hlex
    obtain ⟨A1, c1, rfl⟩ := W0.out.form
    have gfull : ((ts.length : Int) == 16384) = false := beq_eq_false_iff_ne.2 (by omega)
    go_wp2_with fail
    refine (skip_any _ _ _ _ R0.out).mono ?_; rintro e w1 ⟨kp1, ⟨k2, rfl, r1, hk12, hsk⟩ | ⟨r, v, rfl, hf, hsk⟩⟩
    · have hle2 := r1.le
      have R1 := Lib.hid r1
      have K1 := hid_kp K0 kp1
      have W1 := Lib.hid (W0.out.kp kp1 (by omega))
      have HS := Lib.hid hsk
      clear r1 kp1 hsk
      go_wp2_with fail
      refine (token_any _ _ _ _ R1.out).mono ?_; rintro e w2 ⟨kp2, ⟨kd, n, t, k3, rfl, r2, hk23, hpos, hzero, htok⟩ | ⟨v, rfl, hf, htok⟩⟩
      · have hle3 := r2.le
        have R2 := Lib.hid r2
        have K2 := hid_kp K1 kp2
        have W2 := Lib.hid (W1.out.kp kp2 (by omega))
        have HT := Lib.hid htok
        have HZ := Lib.hid hzero
        obtain ⟨X, hX⟩ : ∃ X : ByteArray, X = ⟨t.toArray⟩ := ⟨_, rfl⟩
        rw [← hX]
        have HX := Lib.hid hX
        obtain ⟨ln, hln⟩ : ∃ ln : Int, ln = lastL s - nl (sfx s k2) := ⟨_, rfl⟩
        rw [← hln]
        have HLN := Lib.hid hln
        have hsz2 := K2.out.size
        simp at hsz2
        clear r2 kp2 htok hzero hX hln
        have W3 := Lib.hid (World.ownsRow.alloc W2.out (.cells #[.int .i64 kd, .int .i64 ln, .int .i64 n, .string X] 81))
        by_cases hkd : kd = 0
        · subst hkd
          have key : ∀ w4 : World, (∀ i o, (w2.alloc (.cells #[.int .i64 0, .int .i64 ln, .int .i64 n, .string X] 81)).heap[i]? = some o → some i ≠ (Value.slice A1 ts.length c1).ownBlock → w4.heap[i]? = some o) → w4.cell? ⟨w2.heap.size, 0, none⟩ = some (.int .i64 0) := fun w4 h4 => by
            have hb := h4 w2.heap.size _ (World.alloc_heap_new w2 _) (fun e => by have := (World.ownsRow.lt W2.out _ e.symm).2; omega)
            simp [World.cell?, hb]
          have KEY := Lib.hid key
          clear key
          go_wp2_with (at_builtin; refine at_tok _ 0 ln n X t HX.out rfl _ _ rfl (w.heap.size + 1) _ ts rfl W3.out _ (by simp) rfl (by omega) (by simp; omega) ?_; intro v4 w4 h4 b4 i4; have hc4 := KEY.out w4 i4; have H4 := Lib.hid h4; clear h4 i4)
          go_ret2
          have hs0 : sfx s k2 = [] := HZ.out (by trivial)
          have ht := HT.out
          rw [hs0] at ht
          have hsk' := HS.out
          rw [hs0] at hsk'
          have hl := HL.out _ (.eof hsk')
          have hnt := tok_nil ht
          have hln : ln = lastL s := by rw [HLN.out, hs0, nl_nil]; omega
          refine ⟨(below_of_kp K2.out).trans (((Below.refl _ _).alloc (by omega) _).trans (b4.mono (by omega))), .ok (ts ++ [(0, ln, n, t)]), ?_, by rw [List.length_append]; simp; omega, v4, rfl, H4.out.toks (by simp)⟩
          rw [hln, hnt.1, hnt.2]
          exact hl
        · have key : ∀ w4 : World, (∀ i o, (w2.alloc (.cells #[.int .i64 kd, .int .i64 ln, .int .i64 n, .string X] 81)).heap[i]? = some o → some i ≠ (Value.slice A1 ts.length c1).ownBlock → w4.heap[i]? = some o) → w4.cell? ⟨w2.heap.size, 0, none⟩ = some (.int .i64 kd) := fun w4 h4 => by
            have hb := h4 w2.heap.size _ (World.alloc_heap_new w2 _) (fun e => by have := (World.ownsRow.lt W2.out _ e.symm).2; omega)
            simp [World.cell?, hb]
          have KEY := Lib.hid key
          clear key
          have gk : (kd == 0) = false := beq_eq_false_iff_ne.2 hkd
          have hk3 := hpos hkd
          go_wp2_with (at_builtin; refine at_tok _ kd ln n X t HX.out rfl _ _ rfl (w.heap.size + 1) _ ts rfl W3.out _ (by simp) rfl (by omega) (by simp; omega) ?_; intro v4 w4 h4 b4 i4; have hc4 := KEY.out w4 i4; have H4 := Lib.hid h4; have B4 := Lib.hid b4; clear h4 i4 b4)
          go_roundg (s.size - k3)
          case measure => omega
          case rel => exact ⟨k3, ts ++ [(kd, ln, n, t)], (R2.out.alloc _).belowB B4.out (by omega), Nat.le_refl _, (K2.out.alloc _).below (by simpa using B4.out), H4.out, by rw [List.length_append]; simp; omega, fun o ho => by
            have hne : sfx s k2 ≠ [] := fun e => by
              have := congrArg List.length e
              rw [sfx_len, List.length_nil] at this
              omega
            have := HL.out _ (.step HS.out hne HT.out ho)
            rw [exc_app, ← HLN.out] at this
            exact this⟩
      · obtain ⟨g, rfl, hg⟩ := hf
        have K2 := hid_kp K1 kp2
        have HT := Lib.hid htok
        have HG := Lib.hid hg
        clear kp2 htok hg
        go_wp2_with fail
        go_ret2
        have hf' : Flt w2 (.iface 64 (.pointer (some ⟨g, 0, none⟩))) (lastL s - nl (sfx s k2)) := ⟨g, rfl, HG.out⟩
        have hb2 := (Below.refl w2.heap.size w2).alloc (Nat.le_refl _) (.cells #[.int .i64 0, .int .i64 0, .int .i64 0, .string ⟨#[]⟩] 81)
        exact ⟨(below_of_kp K2.out).trans (hb2.mono (by have := K2.out.size; simp at this; omega)), .error _, HL.out _ (.tokBad HS.out HT.out), _, rfl, hf'.below hb2⟩
    · obtain ⟨g, rfl, hg⟩ := hf
      have K1 := hid_kp K0 kp1
      have HS := Lib.hid hsk
      have HG := Lib.hid hg
      clear kp1 hsk hg
      go_wp2_with fail
      go_ret2
      exact ⟨below_of_kp K1.out, .error _, HL.out _ (.skipBad HS.out), _, rfl, g, rfl, HG.out⟩
end Go.Proofs.YtfpeecjafccfjaaGreatDoor
namespace Go.Proofs.YtfpeecjafccfjaaGreatDoor
open Go.RowKit
theorem thenBR {a b c : World} (h : Below a.heap.size a b) (k : Below b.heap.size b c) : Below a.heap.size a c := h.trans (k.mono h.size)
theorem thenB'R {B : Nat} {a b c : World} (h : Below B a b) (hB : B ≤ a.heap.size) (k : Below b.heap.size b c) : Below B a c := h.trans (k.mono (Nat.le_trans hB h.size))
theorem own_rowR {W : World} {B e n s : Nat} {v : Value} {xs : List Value} (h : W.ownsRow B e s v n xs) : ∀ k, v.ownBlock = some k → B ≤ k := fun k hk => (h.lt k hk).1
theorem asize (w : World) (o : Obj) : (w.alloc o).heap.size = w.heap.size + 1 := by simp
theorem acell (w : World) (cs : Array Value) (t : TypeId) (j : Nat) : (w.alloc (.cells cs t)).cell? ⟨w.heap.size, j, none⟩ = cs[j]? := cell_of_row (w.alloc (.cells cs t)) w.heap.size j _ t (0, 0) (heap_alloc_new w _)
def FamR (W : World) (b n : Nat) (f : Nat → Value) : Prop := ∀ j, j < n → W.cell? ⟨b, j, none⟩ = some (f j) ∧ W.frozen? ⟨b, j, none⟩ = false
theorem FamR.eq_ {W : World} {b n : Nat} {f g : Nat → Value} (h : FamR W b n f) (he : ∀ j, j < n → f j = g j) : FamR W b n g := fun j hj => by rw [← he j hj]; exact h j hj
theorem FamR.set_ {W : World} {b n k : Nat} {f : Nat → Value} (h : FamR W b n f) (hk : k < n) (u : Value) : FamR (W.setCell ⟨b, k, none⟩ u) b n (fun j => if j = k then u else f j) := by
  intro j hj
  rw [World.frozen?_setCell]
  show _ = some (if j = k then u else f j) ∧ _
  by_cases e : j = k
  · subst e
    rw [if_pos rfl]
    exact ⟨World.cell?_setCell_same W _ _ (h j hj).1, (h j hj).2⟩
  · rw [if_neg e, World.cell?_setCell_other W _ _ _ (by intro e'; injection e' with _ e2 _; omega)]
    exact h j hj
theorem FamR.below {W W' : World} {B b n : Nat} {f : Nat → Value} (h : FamR W b n f) (hb : Below B W W') (hB : b < B) : FamR W' b n f := fun j hj => by
  rw [hb.cell (p := ⟨b, j, none⟩) hB, hb.frozen (p := ⟨b, j, none⟩) hB]
  exact h j hj
def NumsR (W : World) (v : Value) (zs : List Int) : Prop :=
  ∃ A c, v = .slice A zs.length c ∧ zs.length ≤ c ∧ (zs = [] ∨ ∃ bk o, A = some ⟨bk, o, none⟩ ∧ bk < W.heap.size ∧ ∀ (j : Nat) z, zs[j]? = some z → W.cell? ⟨bk, o + j, none⟩ = some (.int .i64 z))
theorem NumsR.below {W W' : World} {v : Value} {zs : List Int} (h : NumsR W v zs) (hb : Below W.heap.size W W') : NumsR W' v zs := by
  obtain ⟨A, c, rfl, hc, h | ⟨bk, o, rfl, hbk, hx⟩⟩ := h
  · exact ⟨A, c, rfl, hc, .inl h⟩
  · exact ⟨_, c, rfl, hc, .inr ⟨bk, o, rfl, Nat.lt_of_lt_of_le hbk hb.size, fun j x hj => (hb.cell (p := ⟨bk, o + j, none⟩) hbk).trans (hx j x hj)⟩⟩
def StrsR (W : World) (v : Value) (xs : List ByteArray) : Prop :=
  ∃ A c, v = .slice A xs.length c ∧ xs.length ≤ c ∧ (xs = [] ∨ ∃ bk o, A = some ⟨bk, o, none⟩ ∧ bk < W.heap.size ∧ ∀ (j : Nat) x, xs[j]? = some x → W.cell? ⟨bk, o + j, none⟩ = some (.string x))
theorem StrsR.below {W W' : World} {v : Value} {xs : List ByteArray} (h : StrsR W v xs) (hb : Below W.heap.size W W') : StrsR W' v xs := by
  obtain ⟨A, c, rfl, hc, h | ⟨bk, o, rfl, hbk, hx⟩⟩ := h
  · exact ⟨A, c, rfl, hc, .inl h⟩
  · exact ⟨_, c, rfl, hc, .inr ⟨bk, o, rfl, Nat.lt_of_lt_of_le hbk hb.size, fun j x hj => (hb.cell (p := ⟨bk, o + j, none⟩) hbk).trans (hx j x hj)⟩⟩
def nodeV (x : Nd) (nv kv : Value) : Value := .agg #[.int .i64 x.kind, .int .i64 x.line, .int .i64 x.op, .int .i64 x.num, .string x.s, nv, kv]
structure NodeAt (W : World) (b p : Nat) (x : Nd) (nv kv : Value) : Prop where
  c0 : W.cell? ⟨b, p, none⟩ = some (.int .i64 x.kind)
  c1 : W.cell? ⟨b, p + 1, none⟩ = some (.int .i64 x.line)
  c2 : W.cell? ⟨b, p + 2, none⟩ = some (.int .i64 x.op)
  c3 : W.cell? ⟨b, p + 3, none⟩ = some (.int .i64 x.num)
  c4 : W.cell? ⟨b, p + 4, none⟩ = some (.string x.s)
  c5 : W.cell? ⟨b, p + 5, none⟩ = some nv
  c6 : W.cell? ⟨b, p + 6, none⟩ = some kv
theorem NodeAt.below {W W' : World} {B b p : Nat} {x : Nd} {nv kv : Value} (h : NodeAt W b p x nv kv) (hb : Below B W W') (hB : b < B) : NodeAt W' b p x nv kv :=
  ⟨(hb.cell (p := ⟨b, _, none⟩) hB).trans h.c0, (hb.cell (p := ⟨b, _, none⟩) hB).trans h.c1, (hb.cell (p := ⟨b, _, none⟩) hB).trans h.c2, (hb.cell (p := ⟨b, _, none⟩) hB).trans h.c3, (hb.cell (p := ⟨b, _, none⟩) hB).trans h.c4, (hb.cell (p := ⟨b, _, none⟩) hB).trans h.c5, (hb.cell (p := ⟨b, _, none⟩) hB).trans h.c6⟩
def Nodes (W : World) (v : Value) (T : List Nd) : Prop :=
  ∃ A c, v = .slice A T.length c ∧ T.length ≤ c ∧ (T = [] ∨ ∃ bk o, A = some ⟨bk, o, none⟩ ∧ bk < W.heap.size ∧ ∀ (i : Nat) x, T[i]? = some x → ∃ nv kv, NodeAt W bk (o + i * 7) x nv kv ∧ StrsR W nv x.names ∧ NumsR W kv x.kids)
theorem Nodes.below {W W' : World} {v : Value} {T : List Nd} (h : Nodes W v T) (hb : Below W.heap.size W W') : Nodes W' v T := by
  obtain ⟨A, c, rfl, hc, h | ⟨bk, o, rfl, hbk, hx⟩⟩ := h
  · exact ⟨A, c, rfl, hc, .inl h⟩
  · exact ⟨_, c, rfl, hc, .inr ⟨bk, o, rfl, Nat.lt_of_lt_of_le hbk hb.size, fun j x hj => by
      obtain ⟨nv, kv, h1, h2, h3⟩ := hx j x hj
      exact ⟨nv, kv, h1.below hb hbk, h2.below hb, h3.below hb⟩⟩⟩
theorem info3 : (Tryz.prog.info? 3).map (fun i => (i.zero, i.size, i.bytes)) = some (some (.int .i64 0), 1, 8) := by kernel_rfl
theorem info53 : (Tryz.prog.info? 113).map (fun i => (i.zero, i.size, i.bytes)) = some (some (.int .i64 0), 1, 8) := by kernel_rfl
theorem below_grownR {w w' : World} (h : w.grownBy w' none) : Below w.heap.size w w' := ⟨h.os, h.tape, h.output, h.size, fun i hi => h.block i hi (by simp)⟩
theorem make_ints (n : Nat) (hn : n ≤ 1000000) (w : World) : ∃ W, (Instr.makeSlice 33 (.int .i64 (n : Int)) (.int .i64 (n : Int))).run Tryz.prog w = .ok (.slice (some ⟨w.heap.size, 0, none⟩) n n) W ∧ Below w.heap.size w W ∧ w.heap.size < W.heap.size ∧ FamR W w.heap.size n (fun _ => .int .i64 0) := by
  obtain ⟨i0, hi0, hz0, hz1, hz2⟩ := info_parts info3
  obtain ⟨W, h1, h2, h3⟩ := run_make_full (P := Tryz.prog) w w.heap.size 33 3 i0 (.int .i64 0) 1 Tryz.underlying33 hi0 hz0 hz1 .i64 .i64 n (by rw [hz2]; omega) (by unfold maxLen; omega) (Nat.le_refl _)
  refine ⟨W, h1, below_grownR h3, (h2.lt _ rfl).2, fun j hj => ⟨?_, h2.frozenAt j⟩⟩
  rw [h2.cellAt j (by omega)]
  show (madeCells #[.int .i64 0] (n * 1)).toList[j]? = _
  rw [toList_madeCells_one, List.getElem?_replicate, if_pos (by omega)]
theorem make_sorts (n : Nat) (hn : n ≤ 1000000) (w : World) : ∃ W, (Instr.makeSlice 112 (.int .i64 (n : Int)) (.int .i64 (n : Int))).run Tryz.prog w = .ok (.slice (some ⟨w.heap.size, 0, none⟩) n n) W ∧ Below w.heap.size w W ∧ w.heap.size < W.heap.size ∧ FamR W w.heap.size n (fun _ => .int .i64 0) := by
  obtain ⟨i0, hi0, hz0, hz1, hz2⟩ := info_parts info53
  obtain ⟨W, h1, h2, h3⟩ := run_make_full (P := Tryz.prog) w w.heap.size 112 113 i0 (.int .i64 0) 1 Tryz.underlying112 hi0 hz0 hz1 .i64 .i64 n (by rw [hz2]; omega) (by unfold maxLen; omega) (Nat.le_refl _)
  refine ⟨W, h1, below_grownR h3, (h2.lt _ rfl).2, fun j hj => ⟨?_, h2.frozenAt j⟩⟩
  rw [h2.cellAt j (by omega)]
  show (madeCells #[.int .i64 0] (n * 1)).toList[j]? = _
  rw [toList_madeCells_one, List.getElem?_replicate, if_pos (by omega)]
def NRow (W : World) (B : Nat) (v : Value) (zs : List Int) : Prop := W.ownsRow B 3 1 v zs.length (zs.map (Value.int .i64))
theorem NRow.form {W : World} {B : Nat} {v : Value} {zs : List Int} (h : NRow W B v zs) (h0 : 0 < zs.length) : ∃ g cap, v = .slice (some ⟨g, 0, none⟩) zs.length cap ∧ B ≤ g ∧ g < W.heap.size ∧ ∀ (j : Nat) z, zs[j]? = some z → W.cell? ⟨g, j, none⟩ = some (.int .i64 z) := by
  have hh := h
  rcases h.2 with ⟨rfl, h1⟩ | ⟨g, cap, cur, rfl, hg, _, hc, _⟩
  · omega
  · refine ⟨g, cap, rfl, hg, (World.ownsRow.lt hh g rfl).2, fun j z hj => ?_⟩
    have hj' : j < zs.length := (List.getElem?_eq_some_iff.1 hj).1
    rw [World.ownsRow.cellAt hh j (by omega), List.getElem?_map, hj]
    rfl
theorem at_num {ops : Array Oper} {rest : List Oper} {o : Oper} {a : Act} {Q : Exit → Act → World → Prop} (w : World) (z : Int) (hgd : o.guard = none) (sl y : Operand)
    (ho : o.op = .call { callee := .builtin .append, args := #[sl, y], argTypes := #[33, 33] }) (B : Nat) (v : Value) (zs : List Int) (hs : a.eval sl = v) (hown : NRow w B v zs) (g : Nat) (hg : g = w.heap.size) (hy : a.eval y = .slice (some ⟨g, 0, none⟩) 1 1)
    (hlen : zs.length ≤ 1000000) (hB : B ≤ w.heap.size)
    (h : ∀ v' w', NRow w' B v' (zs ++ [z]) → Below B w w' → wpList Tryz.prog ops Q rest (a.put o.dst v') w') : wpList Tryz.prog ops Q (o :: rest) a (w.alloc (.cells #[.int .i64 z] 3)) := by
  subst hg
  obtain ⟨i0, hi0, hz0, hz1, hz2⟩ := info_parts info3
  have hc := cell_of_row (w.alloc (.cells #[.int .i64 z] 3)) w.heap.size 0 _ 3 (0, 0) (heap_alloc_new w _)
  refine wpList_append_own (P := Tryz.prog) _ hgd sl y 33 ho B 3 i0 (.int .i64 0) 1 8 Tryz.underlying33 hi0 hz0 hz1 hz2 rfl (by omega) v zs.length (zs.map (Value.int .i64)) hs (hown.alloc _) ⟨w.heap.size, 0, none⟩ 1 1 [.int .i64 z] hy rfl
    (fun j u hj => by
      cases j with
      | zero => obtain rfl := Option.some.inj hj; exact hc
      | succ j => simp at hj) (fun u hu => by obtain rfl := List.mem_singleton.1 hu; rfl) (by unfold maxLen; omega) (by omega) (by simp; omega) ?_
  intro v' w' h1 h2 _
  refine h v' w' ?_ (((Below.refl _ _).alloc hB _).grown h2 (by simp; omega) (own_rowR hown))
  unfold NRow
  rw [List.length_append, List.map_append]
  exact h1
end Go.Proofs.YtfpeecjafccfjaaGreatDoor
