/- str.quoted; str.Format by q; tree.quoted: a string as it is written in a program. -/
import Derived.Test.YtjlpklhibdkmeaaGreatDoorBld
import Derived.Lib.Strings
namespace Go.Proofs.YtjlpklhibdkmeaaGreatDoor
open Go.RowKit

theorem b_alloc' (w : World) (o : Obj) : Below w.heap.size w (w.alloc o) := (Below.refl _ _).alloc (Nat.le_refl _) _
def bcells (l : List UInt8) : List Value := l.map fun b => Value.int .u8 (b.toNat : Int)
theorem bcells_app (a b : List UInt8) : bcells (a ++ b) = bcells a ++ bcells b := by simp [bcells]
theorem bcells_str (s : ByteArray) : Lib.strCells s = bcells s.data.toList := rfl
theorem bcells_byte (l : List UInt8) : Lib.byteCells l = bcells l := rfl
/-- A slice of the call's own that holds the bytes l. -/
def BBuf (W : World) (B : Nat) (v : Value) (l : List UInt8) : Prop := W.ownsRow B 5 1 v l.length (bcells l)
theorem BBuf.form {W : World} {B : Nat} {v : Value} {l : List UInt8} (h : BBuf W B v l) : ∃ A c, v = .slice A l.length c := by
  rcases h.2 with ⟨rfl, h0⟩ | ⟨g, cap, _, rfl, _⟩
  · exact ⟨none, 0, by rw [h0]⟩
  · exact ⟨_, _, rfl⟩
theorem BBuf.nil (W : World) (B : Nat) : BBuf W B (.slice none 0 0) [] := World.ownsRow_nil W B 5 1
theorem at_append {ops : Array Oper} {rest : List Oper} {o : Oper} {a : Act} {Q : Exit → Act → World → Prop} (w : World) (hgd : o.guard = none) (sl x : Operand)
    (ho : o.op = .call { callee := .builtin .append, args := #[sl, x], argTypes := #[43, 9] }) (B : Nat) (v : Value) (l : List UInt8) (hs : a.eval sl = v) (hown : BBuf w B v l) (s : ByteArray) (hx : a.eval x = .string s)
    (hlen : l.length + s.size ≤ 1000000) (hB : B ≤ w.heap.size)
    (h : ∀ v' w', BBuf w' B v' (l ++ s.data.toList) → Below B w w' → wpList Tryz.prog ops Q rest (a.put o.dst v') w') : wpList Tryz.prog ops Q (o :: rest) a w := by
  obtain ⟨i0, hi0, hz0, hz1, hz2⟩ := info_parts info5
  refine Lib.wpList_append_own_string w hgd sl x 43 9 ho B 5 i0 Tryz.underlying43 Tryz.underlying9 hi0 hz0 hz1 hz2 v l.length (bcells l) hs hown s hx (by unfold maxLen; omega) (by omega) hB ?_
  intro v' w' h1 h2 _
  refine h v' w' ?_ ((Below.refl _ _).grown h2 hB (own_row hown))
  unfold BBuf
  rw [List.length_append, bcells_app, ← bcells_str, ← Lib.size_eq]
  exact h1
theorem buf_string {W : World} {B : Nat} {v : Value} {l : List UInt8} (h : BBuf W B v l) : (convert 43 9 v).run Tryz.prog W = .ok (.string ⟨l.toArray⟩) W := by
  rcases h.2 with ⟨rfl, h0⟩ | ⟨g, cap, cur, rfl, _⟩
  · obtain rfl : l = [] := List.eq_nil_of_length_eq_zero h0
    exact run_convert_bytes_nil W 43 5 Tryz.underlying43 Tryz.underlying5 0 0 9 Tryz.underlying9
  · exact run_convert_bytes_back (P := Tryz.prog) W 43 9 5 ⟨g, 0, none⟩ cap l Tryz.underlying43 Tryz.underlying5 Tryz.underlying9 (fun j hj => by
      have hc := h.cells (g := g) rfl j (.int .u8 (l[j].toNat : Int)) (by simp [bcells, hj])
      exact hc)
/-- append(b, c..): bytes that were just laid. -/
theorem at_bytes {ops : Array Oper} {rest : List Oper} {o : Oper} {a : Act} {Q : Exit → Act → World → Prop} (w : World) (arr : Array Value) (cs : List UInt8) (harr : arr.toList = bcells cs) (hgd : o.guard = none) (sl y : Operand)
    (ho : o.op = .call { callee := .builtin .append, args := #[sl, y], argTypes := #[43, 43] }) (B : Nat) (v : Value) (l : List UInt8) (hs : a.eval sl = v) (hown : BBuf w B v l) (g : Nat) (hg : g = w.heap.size) (hy : a.eval y = .slice (some ⟨g, 0, none⟩) cs.length cs.length)
    (hlen : l.length + cs.length ≤ 1000000) (hB : B ≤ w.heap.size)
    (h : ∀ v' w', BBuf w' B v' (l ++ cs) → Below B w w' → wpList Tryz.prog ops Q rest (a.put o.dst v') w') : wpList Tryz.prog ops Q (o :: rest) a (w.alloc (.cells arr 5)) := by
  subst hg
  obtain ⟨i0, hi0, hz0, hz1, hz2⟩ := info_parts info5
  have hc := fun j => acell w arr 5 j
  have hbl : (bcells cs).length = cs.length := by simp [bcells]
  refine wpList_append_own (P := Tryz.prog) _ hgd sl y 43 ho B 5 i0 (.int .u8 0) 1 1 Tryz.underlying43 hi0 hz0 hz1 hz2 rfl (by omega) v l.length (bcells l) hs (hown.alloc _) ⟨w.heap.size, 0, none⟩ cs.length cs.length (bcells cs) hy (by rw [hbl]; omega)
    (fun j u hj => by
      have : (⟨w.heap.size, 0, none⟩ : Addr).add j = ⟨w.heap.size, j, none⟩ := by unfold Addr.add; split <;> simp_all
      rw [this, hc j, ← Array.getElem?_toList, harr]; exact hj) (fun u hu => by
      obtain ⟨b, _, rfl⟩ := List.mem_map.1 hu; rfl) (by unfold maxLen; omega) (by omega) (by simp; omega) ?_
  intro v' w' h1 h2 _
  refine h v' w' ?_ (((Below.refl _ _).alloc hB _).grown h2 (by simp; omega) (own_row hown))
  unfold BBuf
  rw [List.length_append, bcells_app]
  exact h1
def esc (c : UInt8) : List UInt8 := if c = 34 ∨ c = 92 then [92, c] else if c = 10 then [92, 110] else if c = 13 then [92, 114] else if c = 0 then [92, 120, 48, 48] else [c]
def quoL (l : List UInt8) : List UInt8 := 34 :: l.flatMap esc ++ [34]
theorem esc_len (c : UInt8) : (esc c).length ≤ 4 := by
  unfold esc
  repeat' split
  all_goals (simp only [List.length_cons, List.length_nil]; omega)
theorem escs_len (l : List UInt8) : (l.flatMap esc).length ≤ 4 * l.length := by
  induction l with
  | nil => exact Nat.le_refl _
  | cons a t ih =>
    rw [List.flatMap_cons, List.length_append, List.length_cons]
    have := esc_len a
    omega
theorem quoL_len (l : List UInt8) : (quoL l).length ≤ 4 * l.length + 2 := by
  have := escs_len l
  unfold quoL
  simp only [List.length_append, List.length_cons, List.length_nil]
  omega
theorem take_esc {l : List UInt8} {k : Nat} {c : UInt8} (h : l[k]? = some c) : (l.take (k + 1)).flatMap esc = (l.take k).flatMap esc ++ esc c := by
  rw [take_snoc' l k c h, List.flatMap_append, List.flatMap_cons, List.flatMap_nil, List.append_nil]
theorem bat {s : ByteArray} {k : Nat} (h : k < s.size) : s.data.toList[k]? = some s[k] := by
  rw [Array.getElem?_toList]
  exact Array.getElem?_eq_getElem h
set_option maxHeartbeats 4000000 in
theorem quoted_any (s : ByteArray) (w : World) (hs : s.size ≤ 100000) : Calls Tryz.prog 64 #[.string s] w fun e w' => e = .returned (.string ⟨(quoL s.data.toList).toArray⟩) ∧ Below w.heap.size w w' := by
  have hstart : BBuf (w.alloc (.cells #[.int .u8 34] 5)) w.heap.size (.slice (some ⟨w.heap.size, 0, none⟩) 1 1) [34] := World.ownsRow_lit (base := w.heap.size) (e := 5) (size := 1) w #[.int .u8 34] 1 (Nat.le_refl _) (by decide) rfl
  have HSt := Lib.hid hstart
  clear hstart
  have hsl := Lib.size_eq s
  have HSL := Lib.hid hsl
  clear hsl
  go_enter Tryz.func64, Tryz.ntmps64
  go_wp2_with fail
  go_loopw [3, 9] (fun b i wr => ∃ k : Nat, k ≤ s.size ∧ i = .int .i64 (k : Int) ∧ BBuf wr w.heap.size b (34 :: (s.data.toList.take k).flatMap esc) ∧ Below w.heap.size w wr) (fun _ i _ => s.size - (intOf i).toNat)
  case atStart => exact ⟨0, Nat.zero_le _, rfl, HSt.out, b_alloc' _ _⟩
  case round =>
    clear HSt
    obtain ⟨k, hk, rfl, hbuf, hbel⟩ := hrel
    have HB := Lib.hid hbuf
    have HW := Lib.hid hbel
    have hsz := hbel.size
    obtain ⟨l, hl⟩ : ∃ l, l = 34 :: (s.data.toList.take k).flatMap esc := ⟨_, rfl⟩
    rw [← hl] at HB
    have hbl : l.length ≤ 400001 := by
      have := escs_len (s.data.toList.take k)
      rw [List.length_take] at this
      rw [hl, List.length_cons]
      omega
    have HLL := Lib.hid hl
    obtain ⟨A, c, rfl⟩ := HB.out.form
    clear hbuf hbel hl
    by_cases hlt : k < s.size
    · have HT := Lib.hid (take_esc (bat hlt))
      have hle : s[k].toNat ≤ 255 := by have := s[k].toNat_lt; omega
      obtain ⟨ch, hch⟩ : ∃ ch, ch = s[k] := ⟨_, rfl⟩
      have HCH := Lib.hid hch
      clear hch
      have fin : ∀ (cs : List UInt8) (v' : Value) (w' : World), esc s[k] = cs → BBuf w' w.heap.size v' (l ++ cs) → Below w.heap.size wr w' → (∃ k' : Nat, k' ≤ s.size ∧ Value.int .i64 ((k : Int) + 1) = .int .i64 (k' : Int) ∧ BBuf w' w.heap.size v' (34 :: (s.data.toList.take k').flatMap esc) ∧ Below w.heap.size w w') := fun cs v' w' he hb hl => by
        refine ⟨k + 1, by omega, by go_num, ?_, HW.out.trans hl⟩
        rw [HT.out, he]
        have := HLL.out
        rw [this] at hb
        exact hb
      have FIN := Lib.hid fin
      clear fin
      by_cases h34 : s[k].toNat = 34
      · have he : esc s[k] = [92, 34] := by
          have : s[k] = 34 := UInt8.toNat_inj.1 h34
          rw [this]; rfl
        have HE := Lib.hid he
        clear he
        go_wp2_with (at_builtin; refine at_bytes _ _ [92, 34] rfl rfl _ _ rfl w.heap.size _ l rfl HB.out _ rfl rfl (by simp; omega) hsz ?_; intro v' w' hb' hl')
        go_roundw
        case rel => exact FIN.out _ _ _ HE.out hb' hl'
        case measure => simp [intOf]; omega
      have q34 : ((s[k].toNat : Int) == 34) = false := beq_eq_false_iff_ne.2 (by omega)
      by_cases h92 : s[k].toNat = 92
      · have he : esc s[k] = [92, 92] := by
          have : s[k] = 92 := UInt8.toNat_inj.1 h92
          rw [this]; rfl
        have HE := Lib.hid he
        clear he
        go_wp2_with (at_builtin; refine at_bytes _ _ [92, 92] rfl rfl _ _ rfl w.heap.size _ l rfl HB.out _ rfl rfl (by simp; omega) hsz ?_; intro v' w' hb' hl')
        go_roundw
        case rel => exact FIN.out _ _ _ HE.out hb' hl'
        case measure => simp [intOf]; omega
      have q92 : ((s[k].toNat : Int) == 92) = false := beq_eq_false_iff_ne.2 (by omega)
      by_cases h10 : s[k].toNat = 10
      · have he : esc s[k] = [92, 110] := by
          have : s[k] = 10 := UInt8.toNat_inj.1 h10
          rw [this]; rfl
        have HE := Lib.hid he
        clear he
        go_wp2_with (at_builtin; refine at_append _ rfl _ _ rfl w.heap.size _ l rfl HB.out ⟨#[92, 110]⟩ rfl (by show _ + 2 ≤ _; omega) hsz ?_; intro v' w' hb' hl')
        go_roundw
        case rel => exact FIN.out _ _ _ HE.out hb' hl'
        case measure => simp [intOf]; omega
      have q10 : ((s[k].toNat : Int) == 10) = false := beq_eq_false_iff_ne.2 (by omega)
      by_cases h13 : s[k].toNat = 13
      · have he : esc s[k] = [92, 114] := by
          have : s[k] = 13 := UInt8.toNat_inj.1 h13
          rw [this]; rfl
        have HE := Lib.hid he
        clear he
        go_wp2_with (at_builtin; refine at_append _ rfl _ _ rfl w.heap.size _ l rfl HB.out ⟨#[92, 114]⟩ rfl (by show _ + 2 ≤ _; omega) hsz ?_; intro v' w' hb' hl')
        go_roundw
        case rel => exact FIN.out _ _ _ HE.out hb' hl'
        case measure => simp [intOf]; omega
      have q13 : ((s[k].toNat : Int) == 13) = false := beq_eq_false_iff_ne.2 (by omega)
      by_cases h00 : s[k].toNat = 0
      · have he : esc s[k] = [92, 120, 48, 48] := by
          have : s[k] = 0 := UInt8.toNat_inj.1 h00
          rw [this]; rfl
        have HE := Lib.hid he
        clear he
        go_wp2_with (at_builtin; refine at_append _ rfl _ _ rfl w.heap.size _ l rfl HB.out ⟨#[92, 120, 48, 48]⟩ rfl (by show _ + 4 ≤ _; omega) hsz ?_; intro v' w' hb' hl')
        go_roundw
        case rel => exact FIN.out _ _ _ HE.out hb' hl'
        case measure => simp [intOf]; omega
      have q00 : ((s[k].toNat : Int) == 0) = false := beq_eq_false_iff_ne.2 (by omega)
      have he : esc s[k] = [s[k]] := by
        unfold esc
        rw [if_neg (by rintro (h | h) <;> rw [h] at h34 h92 <;> first | exact h34 rfl | exact h92 rfl), if_neg (fun h => h10 (by rw [h]; rfl)), if_neg (fun h => h13 (by rw [h]; rfl)), if_neg (fun h => h00 (by rw [h]; rfl))]
      have HE := Lib.hid he
      clear he h34 h92 h10 h13 h00
      go_wp2_with (at_builtin; refine at_bytes _ _ [s[k]] rfl rfl _ _ rfl w.heap.size _ l rfl HB.out _ rfl rfl (by simp; omega) hsz ?_; intro v' w' hb' hl')
      go_roundw
      case rel => exact FIN.out _ _ _ HE.out hb' hl'
      case measure => simp [intOf]; omega
    · have hall : s.data.toList.take k = s.data.toList := List.take_of_length_le (by rw [← HSL.out]; omega)
      have hq : l ++ [34] = quoL s.data.toList := by
        rw [HLL.out, hall]; rfl
      have HQ := Lib.hid hq
      clear hall hq
      have hb2 : ∀ (v' : Value) (w' : World), BBuf w' w.heap.size v' (l ++ [34]) → (convert 43 9 v').run Tryz.prog w' = .ok (.string ⟨(l ++ [34]).toArray⟩) w' := fun v' w' h => buf_string h
      have HB2 := Lib.hid hb2
      clear hb2
      go_wp2_with (at_builtin; refine at_bytes _ _ [34] rfl rfl _ _ rfl w.heap.size _ l rfl HB.out _ rfl rfl (by simp; omega) hsz ?_; intro v' w' hb' hl'; have hcv := HB2.out v' w' hb')
      go_ret
      exact ⟨by rw [HQ.out]; rfl, HW.out.trans hl'⟩
theorem below_draws {B : Nat} {a w : World} (h : Below B a w) (n : Nat) : Below B a (w.drewN n) := ⟨h.os, h.tape, h.output, h.size, h.block⟩
theorem asks_q (w : World) : Calls Tryz.prog 58 #[.int .u8 113] w fun e w' => e = .returned (.tuple #[.int .i64 1, .bool true]) ∧ w = w' := by
  go_enter Tryz.func58, Tryz.ntmps58
  go_wp2_with fail
  go_ret2
  exact ⟨rfl, rfl⟩
theorem bound_q (w : World) : Calls Tryz.prog 50 #[.int .i64 2147483647] w fun e w' => e = .returned (.int .i64 2147483647) ∧ w = w' := by
  go_enter Tryz.func50, Tryz.ntmps50
  go_wp2_with fail
  go_ret
  exact ⟨rfl, rfl⟩
theorem put_q (s : ByteArray) (w : World) (hs : s.size ≤ 100000) : Calls Tryz.prog 59 #[.int .u8 113, .agg #[.int .i64 3, .int .i64 0, .string s]] w fun e w' => e = .returned (.tuple #[.string ⟨(quoL s.data.toList).toArray⟩, .bool true]) ∧ Below w.heap.size w w' := by
  have H := Lib.hid (fun W => quoted_any s W hs)
  go_enter Tryz.func59, Tryz.ntmps59
  go_wp2_with fail
  refine (H.out _).mono ?_; rintro e w1 ⟨rfl, b1⟩
  have B1 := Lib.hid (thenB (b_alloc' _ _) b1)
  clear b1
  go_wp2_with fail
  go_ret2
  exact ⟨rfl, B1.out⟩
set_option maxHeartbeats 2000000 in
theorem next_q (bk o n c : Nat) (s : ByteArray) (w : World) (hn : 0 < n) (hs : s.size ≤ 100000)
    (c0 : w.cell? ⟨bk, o, none⟩ = some (.int .i64 3)) (c1 : w.cell? ⟨bk, o + 1, none⟩ = some (.int .i64 0)) (c2 : w.cell? ⟨bk, o + 2, none⟩ = some (.string s)) :
    Calls Tryz.prog 51 #[.string ⟨#[37, 113]⟩, .slice (some ⟨bk, o, none⟩) n c] w fun e w' => e = .returned (.tuple #[.string ⟨(quoL s.data.toList).toArray⟩, .string ⟨#[]⟩, .int .i64 1, .int .i64 0]) ∧ Below w.heap.size w w' := by
  have HP := Lib.hid (fun W => put_q s W hs)
  obtain ⟨Q, hQ⟩ : ∃ Q : ByteArray, Q = ⟨(quoL s.data.toList).toArray⟩ := ⟨_, rfl⟩
  rw [← hQ] at HP ⊢
  clear hQ
  have hn0 : decide (n = 0) = false := decide_eq_false (by omega)
  have hn1 : ((n : Int) == 0) = false := beq_eq_false_iff_ne.2 (by omega)
  go_enter Tryz.func51, Tryz.ntmps51
  go_wp2_with fail
  go_quiet (fail)
  go_wp2_with (first
    | (go_at_call 58; refine (asks_q _).mono ?_; rintro e w' ⟨rfl, rfl⟩)
    | (go_at_call 59; refine (HP.out _).mono ?_; rintro e w1 ⟨rfl, b1⟩))
  exact bodyPost_ret (v := .tuple #[.string Q, .string ByteArray.empty, .int .i64 1, .int .i64 0]) (by simp [results, Tryz.results51, go_sem]) rfl ⟨rfl, (below_draws (Below.refl _ _) _).trans b1⟩
set_option maxHeartbeats 4000000 in
set_option maxRecDepth 20000 in
theorem fmt_q (bk : Nat) (s : ByteArray) (w : World) (hs : s.size ≤ 100000) (hbk : bk < w.heap.size)
    (c0 : w.cell? ⟨bk, 0, none⟩ = some (.int .i64 3)) (c1 : w.cell? ⟨bk, 1, none⟩ = some (.int .i64 0)) (c2 : w.cell? ⟨bk, 2, none⟩ = some (.string s)) :
    Calls Tryz.prog 45 #[.string ⟨#[37, 113]⟩, .slice (some ⟨bk, 0, none⟩) 1 1, .int .i64 2147483647] w fun e w' => e = .returned (.tuple #[.string ⟨(quoL s.data.toList).toArray⟩, .int .i64 1, .int .i64 0]) ∧ Below w.heap.size w w' := by
  have HN := Lib.hid (next_q bk 0 1 1 s w (by decide) hs c0 c1 c2)
  obtain ⟨Q, hQ⟩ : ∃ Q : ByteArray, Q = ⟨(quoL s.data.toList).toArray⟩ := ⟨_, rfl⟩
  have hQs : Q.size ≤ 400002 := by
    rw [hQ, Lib.size_eq]
    have := quoL_len s.data.toList
    rw [← Lib.size_eq] at this
    show (quoL s.data.toList).length ≤ _
    omega
  rw [← hQ] at HN ⊢
  clear hQ c0 c1 c2
  go_enter Tryz.func45, Tryz.ntmps45
  go_wp2_with (go_at_call 50; refine (bound_q _).mono ?_; rintro e w' ⟨rfl, rfl⟩)
  go_loopw [0, 9, 10] (fun f b t wr => (f = .string ⟨#[37, 113]⟩ ∧ b = .slice none 0 0 ∧ t = .int .i64 0 ∧ wr = w) ∨ (f = .string ⟨#[]⟩ ∧ t = .int .i64 1 ∧ BBuf wr w.heap.size b Q.data.toList ∧ Below w.heap.size w wr)) (fun _ _ t _ => 1 - (intOf t).toNat)
  case atStart => exact .inl ⟨rfl, rfl, rfl, rfl⟩
  case round =>
    rcases hrel with ⟨rfl, rfl, rfl, rfl⟩ | ⟨rfl, rfl, hb, hl⟩
    · go_wp2_with fail
      refine HN.out.mono ?_; rintro e w1 ⟨rfl, b1⟩
      have hsz := b1.size
      have B1 := Lib.hid b1
      have hfit : (Q.size : Int) ≤ 2147483647 := by omega
      clear b1
      go_wp2_with (at_builtin; refine at_append _ rfl _ _ rfl wr.heap.size _ [] rfl (BBuf.nil _ _) Q rfl (by show 0 + _ ≤ _; omega) hsz ?_; intro v' w' hb' hl')
      exact ⟨.inr ⟨rfl, rfl, hb', B1.out.trans hl'⟩, by decide⟩
    · have hcv := buf_string hb
      have HW := Lib.hid hl
      clear hb hl
      go_wp2_with fail
      go_ret3
      exact ⟨rfl, HW.out⟩
theorem tquoted_any (s : ByteArray) (w : World) (hs : s.size ≤ 100000) : Calls Tryz.prog 39 #[.string s] w fun e w' => e = .returned (.string ⟨(quoL s.data.toList).toArray⟩) ∧ Below w.heap.size w w' := by
  have b1 := b_alloc' w (.cells #[.int .i64 3, .int .i64 0, .string s] 84)
  have H := Lib.hid (fmt_q w.heap.size s (w.alloc (.cells #[.int .i64 3, .int .i64 0, .string s] 84)) hs (by rw [asize]; exact Nat.lt_succ_self _) (acell w _ _ _) (acell w _ _ _) (acell w _ _ _))
  have B1 := Lib.hid b1
  clear b1
  go_enter Tryz.func39, Tryz.ntmps39
  go_wp2_with fail
  refine H.out.mono ?_; rintro e w1 ⟨rfl, b2⟩
  have B2 := Lib.hid (thenB B1.out b2)
  clear b2
  go_wp2_with fail
  go_ret
  exact ⟨rfl, B2.out⟩
end Go.Proofs.YtjlpklhibdkmeaaGreatDoor
