/- A row of bytes of the call's own: append of no byte or of one; as a string. And (*reader).escaped as a whole. -/
import Derived.Test.YtbeckfamnhfaeaaGreatDoorEd
import Derived.Laws.IdiomStrings
import Derived.Laws.OwnMore
import Derived.Laws.AppendOwn
import Derived.OwnWalk
namespace Go.Proofs.YtbeckfamnhfaeaaGreatDoor
open Go.RowKit

theorem esc_cons (c : UInt8) (r : List UInt8) : esc (c :: r) = escC c r := rfl
theorem escaped_any (b : Nat) (s : ByteArray) (k : Nat) (w : World) (h : Rd w b s k) : Calls Tryz.prog 48 #[.pointer (some ⟨b, 0, none⟩)] w (EscPost b s k w (esc (sfx s k))) := by
  by_cases hk : k = s.size
  · exact esc_none b s k w h hk
  · have hk : k < s.size := by have := h.le; omega
    have hs := sfx_cons s k hk
    have at97 := esc_97 b s k w h hk
    have at98 := esc_98 b s k w h hk
    have at102 := esc_102 b s k w h hk
    have at110 := esc_110 b s k w h hk
    have at114 := esc_114 b s k w h hk
    have at116 := esc_116 b s k w h hk
    have at118 := esc_118 b s k w h hk
    have at92 := esc_92 b s k w h hk
    have at39 := esc_39 b s k w h hk
    have at34 := esc_34 b s k w h hk
    have at10 := esc_10 b s k w h hk
    have at122 := esc_122 b s k w h hk
    have at120 := esc_120 b s k w h hk
    have at48 := esc_48 b s k w h hk
    have at49 := esc_49 b s k w h hk
    have at50 := esc_50 b s k w h hk
    have at51 := esc_51 b s k w h hk
    have at52 := esc_52 b s k w h hk
    have at53 := esc_53 b s k w h hk
    have at54 := esc_54 b s k w h hk
    have at55 := esc_55 b s k w h hk
    have at56 := esc_56 b s k w h hk
    have at57 := esc_57 b s k w h hk
    have other := esc_other b s k w h hk s[k] rfl
    generalize s[k] = c at *
    have code1 : ∀ c' : UInt8, lett c' = none → selfB c' = false → c'.toNat ≠ 122 → c'.toNat ≠ 120 → dgB c' = true → c = c' → esc (sfx s k) = code 10 dgB 1 3 (sfx s k) := fun c' a1 a2 a3 a4 a5 e => by
      rw [hs, e]; exact (esc_cons _ _).trans (escC_d _ a1 a2 a3 a4 a5)
    have eqn : ∀ v : UInt8, c.toNat = v.toNat → c = v := fun v h => UInt8.toNat_inj.1 h
    by_cases e : c.toNat = 97
    · rw [hs, eqn 97 e, show esc (97 :: sfx s (k + 1)) = some ([7], sfx s (k + 1)) from (esc_cons _ _).trans (escC_lett _ (by decide))]; exact at97 (eqn 97 e)
    by_cases e : c.toNat = 98
    · rw [hs, eqn 98 e, show esc (98 :: sfx s (k + 1)) = some ([8], sfx s (k + 1)) from (esc_cons _ _).trans (escC_lett _ (by decide))]; exact at98 (eqn 98 e)
    by_cases e : c.toNat = 102
    · rw [hs, eqn 102 e, show esc (102 :: sfx s (k + 1)) = some ([12], sfx s (k + 1)) from (esc_cons _ _).trans (escC_lett _ (by decide))]; exact at102 (eqn 102 e)
    by_cases e : c.toNat = 110
    · rw [hs, eqn 110 e, show esc (110 :: sfx s (k + 1)) = some ([10], sfx s (k + 1)) from (esc_cons _ _).trans (escC_lett _ (by decide))]; exact at110 (eqn 110 e)
    by_cases e : c.toNat = 114
    · rw [hs, eqn 114 e, show esc (114 :: sfx s (k + 1)) = some ([13], sfx s (k + 1)) from (esc_cons _ _).trans (escC_lett _ (by decide))]; exact at114 (eqn 114 e)
    by_cases e : c.toNat = 116
    · rw [hs, eqn 116 e, show esc (116 :: sfx s (k + 1)) = some ([9], sfx s (k + 1)) from (esc_cons _ _).trans (escC_lett _ (by decide))]; exact at116 (eqn 116 e)
    by_cases e : c.toNat = 118
    · rw [hs, eqn 118 e, show esc (118 :: sfx s (k + 1)) = some ([11], sfx s (k + 1)) from (esc_cons _ _).trans (escC_lett _ (by decide))]; exact at118 (eqn 118 e)
    by_cases e : c.toNat = 92
    · rw [hs, eqn 92 e, show esc (92 :: sfx s (k + 1)) = some ([92], sfx s (k + 1)) from (esc_cons _ _).trans (escC_self _ (by decide) (by decide))]; exact at92 (eqn 92 e)
    by_cases e : c.toNat = 39
    · rw [hs, eqn 39 e, show esc (39 :: sfx s (k + 1)) = some ([39], sfx s (k + 1)) from (esc_cons _ _).trans (escC_self _ (by decide) (by decide))]; exact at39 (eqn 39 e)
    by_cases e : c.toNat = 34
    · rw [hs, eqn 34 e, show esc (34 :: sfx s (k + 1)) = some ([34], sfx s (k + 1)) from (esc_cons _ _).trans (escC_self _ (by decide) (by decide))]; exact at34 (eqn 34 e)
    by_cases e : c.toNat = 10
    · rw [hs, eqn 10 e, show esc (10 :: sfx s (k + 1)) = some ([10], sfx s (k + 1)) from (esc_cons _ _).trans (escC_self _ (by decide) (by decide))]; exact at10 (eqn 10 e)
    by_cases e : c.toNat = 122
    · rw [hs, eqn 122 e, show esc (122 :: sfx s (k + 1)) = some ([], (sfx s (k + 1)).dropWhile blB) from (esc_cons _ _).trans (escC_z _ (by decide) (by decide) (by decide))]; exact at122 (eqn 122 e)
    by_cases e : c.toNat = 120
    · rw [hs, eqn 120 e, show esc (120 :: sfx s (k + 1)) = code 16 hxB 2 2 (sfx s (k + 1)) from (esc_cons _ _).trans (escC_x _ (by decide) (by decide) (by decide))]; exact at120 (eqn 120 e)
    by_cases e : c.toNat = 48
    · rw [code1 48 (by decide) (by decide) (by decide) (by decide) (by decide) (eqn 48 e)]; exact at48 (eqn 48 e)
    by_cases e : c.toNat = 49
    · rw [code1 49 (by decide) (by decide) (by decide) (by decide) (by decide) (eqn 49 e)]; exact at49 (eqn 49 e)
    by_cases e : c.toNat = 50
    · rw [code1 50 (by decide) (by decide) (by decide) (by decide) (by decide) (eqn 50 e)]; exact at50 (eqn 50 e)
    by_cases e : c.toNat = 51
    · rw [code1 51 (by decide) (by decide) (by decide) (by decide) (by decide) (eqn 51 e)]; exact at51 (eqn 51 e)
    by_cases e : c.toNat = 52
    · rw [code1 52 (by decide) (by decide) (by decide) (by decide) (by decide) (eqn 52 e)]; exact at52 (eqn 52 e)
    by_cases e : c.toNat = 53
    · rw [code1 53 (by decide) (by decide) (by decide) (by decide) (by decide) (eqn 53 e)]; exact at53 (eqn 53 e)
    by_cases e : c.toNat = 54
    · rw [code1 54 (by decide) (by decide) (by decide) (by decide) (by decide) (eqn 54 e)]; exact at54 (eqn 54 e)
    by_cases e : c.toNat = 55
    · rw [code1 55 (by decide) (by decide) (by decide) (by decide) (by decide) (eqn 55 e)]; exact at55 (eqn 55 e)
    by_cases e : c.toNat = 56
    · rw [code1 56 (by decide) (by decide) (by decide) (by decide) (by decide) (eqn 56 e)]; exact at56 (eqn 56 e)
    by_cases e : c.toNat = 57
    · rw [code1 57 (by decide) (by decide) (by decide) (by decide) (by decide) (eqn 57 e)]; exact at57 (eqn 57 e)
    have hno : esc (sfx s k) = none := by
      rw [hs, esc_cons]
      refine escC_no _ ?_ ?_ (by assumption) (by assumption) ?_
      · unfold lett; simp [*]
      · unfold selfB; simp [*]
      · unfold dgB; rw [decide_eq_false_iff_not]; omega
    rw [hno]
    refine other ?_
    intro v hv
    simp only [List.mem_cons, List.not_mem_nil, or_false] at hv
    rcases hv with rfl | rfl | rfl | rfl | rfl | rfl | rfl | rfl | rfl | rfl | rfl | rfl | rfl | rfl | rfl | rfl | rfl | rfl | rfl | rfl | rfl | rfl | rfl <;> assumption

/-- The bytes of a list as cells. -/
def bcells (l : List UInt8) : List Value := l.map fun b => Value.int .u8 (b.toNat : Int)
theorem bcells_app (a b : List UInt8) : bcells (a ++ b) = bcells a ++ bcells b := by simp [bcells]
/-- A slice of the call's own (made above B) that holds the bytes l. -/
def BBuf (W : World) (B : Nat) (v : Value) (l : List UInt8) : Prop := W.ownsRow B 5 1 v l.length (bcells l)
theorem BBuf.nil (W : World) (B : Nat) : BBuf W B (.slice none 0 0) [] := World.ownsRow_nil W B 5 1
theorem own_row {W : World} {B e n size : Nat} {v : Value} {xs : List Value} (h : W.ownsRow B e size v n xs) : ∀ k, v.ownBlock = some k → B ≤ k := fun k hk => (h.lt k hk).1
theorem BBuf.kp {b B : Nat} {W W' : World} {v : Value} {l : List UInt8} (h : BBuf W B v l) (hk : Kp b W W') (hb : b < B) : BBuf W' B v l := by
  refine World.ownsRow.kept h hk ?_
  rcases h.2 with ⟨rfl, _⟩ | ⟨g, _, _, rfl, hg, _⟩
  · left; rfl
  · right
    intro e
    have : g = b := by simpa [Value.ownBlock] using e
    omega
theorem info5 : (Tryz.prog.info? 5).map (fun i => (i.zero, i.size, i.bytes)) = some (some (.int .u8 0), 1, 1) := by kernel_rfl
/-- append(b, v...), v of no byte or of one. -/
theorem at_bts {ops : Array Oper} {rest : List Oper} {o : Oper} {a : Act} {Q : Exit → Act → World → Prop} (w : World) (hgd : o.guard = none) (sl x : Operand)
    (ho : o.op = .call { callee := .builtin .append, args := #[sl, x], argTypes := #[86, 86] }) (B : Nat) (v : Value) (l : List UInt8) (hs : a.eval sl = v) (hown : BBuf w B v l) (y : Value) (hx : a.eval x = y) (m : List UInt8) (hm : Bts w y m)
    (hlen : l.length ≤ 1000000) (hB : B ≤ w.heap.size)
    (h : ∀ v' w', BBuf w' B v' (l ++ m) → Below B w w' → wpList Tryz.prog ops Q rest (a.put o.dst v') w') : wpList Tryz.prog ops Q (o :: rest) a w := by
  obtain ⟨i0, hi0, hz0, hz1, hz2⟩ := info_parts info5
  rcases hm with ⟨rfl, rfl⟩ | ⟨g, u, rfl, rfl, hc⟩
  · refine wpList_plain hgd fun _ hK => ?_
    have hr := run_append_owned_none (P := Tryz.prog) (w := w) B 86 o.type 5 i0 1 Tryz.underlying86 hi0 v l.length (bcells l) hown
    unfold Oper.wp execOp
    simp only [ho, resolve, invoke, builtin, Sem.run_bind, Sem.run_pure, Result.andThen_ok, List.map_toArray, List.map_cons, List.map_nil, hs, hx, hr]
    exact hK _ _ (h v w (by rw [List.append_nil]; exact hown) (Below.refl _ _))
  · refine wpList_append_own (P := Tryz.prog) _ hgd sl x 86 ho B 5 i0 (.int .u8 0) 1 1 Tryz.underlying86 hi0 hz0 hz1 hz2 rfl (by omega) v l.length (bcells l) hs hown ⟨g, 0, none⟩ 1 1 [.int .u8 (u.toNat : Int)] hx rfl
      (fun j q hj => by
        cases j with
        | zero => obtain rfl := Option.some.inj hj; exact hc
        | succ j => simp at hj) (fun q hq => by obtain rfl := List.mem_singleton.1 hq; rfl) (by unfold maxLen; omega) (by omega) hB ?_
    intro v' w' h1 h2 _
    refine h v' w' ?_ ((Below.refl _ _).grown h2 hB (own_row hown))
    unfold BBuf
    rw [List.length_append, bcells_app]
    exact h1
/-- string(b). -/
theorem buf_string {W : World} {B : Nat} {v : Value} {l : List UInt8} (h : BBuf W B v l) : (convert 86 9 v).run Tryz.prog W = .ok (.string ⟨l.toArray⟩) W := by
  rcases h.2 with ⟨rfl, h0⟩ | ⟨g, cap, cur, rfl, _⟩
  · obtain rfl : l = [] := List.eq_nil_of_length_eq_zero h0
    exact run_convert_bytes_nil W 86 5 Tryz.underlying86 Tryz.underlying5 0 0 9 Tryz.underlying9
  · exact run_convert_bytes_back (P := Tryz.prog) W 86 9 5 ⟨g, 0, none⟩ cap l Tryz.underlying86 Tryz.underlying5 Tryz.underlying9 (fun j hj => by
      have hc := World.ownsRow.cells h (g := g) rfl j (.int .u8 (l[j].toNat : Int)) (by simp [bcells, hj])
      exact hc)
theorem Kp.below {b : Nat} {w0 w w' : World} (h : Kp b w0 w) (k : Below w0.heap.size w w') : Kp b w0 w' :=
  ⟨k.os.trans h.os, k.tape.trans h.tape, k.output.trans h.output, Nat.le_trans h.size k.size, fun i hi hne => (k.block i hi).trans (h.block i hi hne)⟩
theorem Rd.belowB {W W' : World} {B b : Nat} {s : ByteArray} {k : Nat} (h : Rd W b s k) (hb : Below B W W') (hB : b < B) : Rd W' b s k := by
  have hf := h.far
  obtain ⟨m, hm⟩ := h.mx
  exact ⟨(hb.block b hB).trans h.blk, h.le, h.top, h.far, m, (hb.cell (p := ⟨2, 0, none⟩) (by show 2 < B; omega)).trans hm⟩
end Go.Proofs.YtbeckfamnhfaeaaGreatDoor
