/- lex.Lex: a source's tokens, or the line of what is wrong. -/
import Derived.Test.YtbeckfamnhfaeaaGreatDoorTk
namespace Go.Proofs.YtbeckfamnhfaeaaGreatDoor
open Go.RowKit

/-- Tokens as cells. -/
def tcells (ts : List Tk) : List Value := ts.flatMap fun t => [.int .i64 t.1, .int .i64 t.2.1, .int .i64 t.2.2.1, .string ⟨t.2.2.2.toArray⟩]
theorem tcells_app (a b : List Tk) : tcells (a ++ b) = tcells a ++ tcells b := by simp [tcells]
/-- A slice of the call's own that holds the tokens ts. -/
def TRow (W : World) (B : Nat) (v : Value) (ts : List Tk) : Prop := W.ownsRow B 30 4 v ts.length (tcells ts)
theorem TRow.nil (W : World) (B : Nat) : TRow W B (.slice none 0 0) [] := World.ownsRow_nil W B 30 4
theorem TRow.form {W : World} {B : Nat} {v : Value} {ts : List Tk} (h : TRow W B v ts) : ∃ A c, v = .slice A ts.length c := by
  rcases h.2 with ⟨rfl, h0⟩ | ⟨g, cap, _, rfl, _⟩
  · exact ⟨none, 0, by rw [h0]⟩
  · exact ⟨_, _, rfl⟩
theorem TRow.kp {b B : Nat} {W W' : World} {v : Value} {ts : List Tk} (h : TRow W B v ts) (hk : Kp b W W') (hb : b < B) : TRow W' B v ts := by
  refine World.ownsRow.kept h hk ?_
  rcases h.2 with ⟨rfl, _⟩ | ⟨g, _, _, rfl, hg, _⟩
  · left; rfl
  · right
    intro e
    have : g = b := by simpa [Value.ownBlock] using e
    omega
theorem info30 : (Tryz.prog.info? 30).map (fun i => (i.zero, i.size, i.bytes)) = some (some (.agg #[.int .i64 0, .int .i64 0, .int .i64 0, .string ⟨#[]⟩]), 4, 40) := by kernel_rfl
/-- append(l, t): one token more. -/
theorem at_tok {ops : Array Oper} {rest : List Oper} {o : Oper} {a : Act} {Q : Exit → Act → World → Prop} (w : World) (kd ln n : Int) (X : ByteArray) (t : List UInt8) (hX : X = ⟨t.toArray⟩) (hgd : o.guard = none) (sl y : Operand)
    (ho : o.op = .call { callee := .builtin .append, args := #[sl, y], argTypes := #[24, 24] }) (B : Nat) (v : Value) (ts : List Tk) (hs : a.eval sl = v) (hown : TRow w B v ts) (g : Nat) (hg : g = w.heap.size) (hy : a.eval y = .slice (some ⟨g, 0, none⟩) 1 1)
    (hlen : ts.length ≤ 20000) (hB : B ≤ w.heap.size)
    (h : ∀ v' w', TRow w' B v' (ts ++ [(kd, ln, n, t)]) → Below B w w' → (∀ i o, w.heap[i]? = some o → some i ≠ v.ownBlock → w'.heap[i]? = some o) → wpList Tryz.prog ops Q rest (a.put o.dst v') w') : wpList Tryz.prog ops Q (o :: rest) a (w.alloc (.cells #[.int .i64 kd, .int .i64 ln, .int .i64 n, .string X] 30)) := by
  subst hX
  subst hg
  obtain ⟨i0, hi0, hz0, hz1, hz2⟩ := info_parts info30
  have hc := fun j => cell_of_row (w.alloc (.cells #[.int .i64 kd, .int .i64 ln, .int .i64 n, .string ⟨t.toArray⟩] 30)) w.heap.size j _ 30 (0, 0) (heap_alloc_new w _)
  have hpl : ∀ j : Nat, (⟨w.heap.size, 0, none⟩ : Addr).add j = ⟨w.heap.size, j, none⟩ := fun j => by unfold Addr.add; split <;> simp_all
  refine wpList_append_own (P := Tryz.prog) _ hgd sl y 24 ho B 30 i0 (.agg #[.int .i64 0, .int .i64 0, .int .i64 0, .string ⟨#[]⟩]) 4 40 Tryz.underlying24 hi0 hz0 hz1 hz2 rfl (by omega) v ts.length (tcells ts) hs (hown.alloc _) ⟨w.heap.size, 0, none⟩ 1 1 [.int .i64 kd, .int .i64 ln, .int .i64 n, .string ⟨t.toArray⟩] hy rfl
    (fun j u hj => by
      rw [hpl, hc j]
      match j, hj with
      | 0, hj => exact hj
      | 1, hj => exact hj
      | 2, hj => exact hj
      | 3, hj => exact hj
      | j + 4, hj => simp at hj) (fun u hu => by
        rcases List.mem_cons.1 hu with rfl | hu
        · rfl
        · rcases List.mem_cons.1 hu with rfl | hu
          · rfl
          · rcases List.mem_cons.1 hu with rfl | hu
            · rfl
            · obtain rfl := List.mem_singleton.1 hu
              rfl) (by unfold maxLen; omega) (by omega) (by simp; omega) ?_
  intro v' w' h1 h2 _
  refine h v' w' ?_ (((Below.refl _ _).alloc hB _).grown h2 (by simp; omega) (fun k hk => (hown.lt k hk).1)) (fun i ob hi hne => by
    have hlt := (Array.getElem?_eq_some_iff.1 hi).1
    exact (h2.block i (by simp; omega) hne).trans ((Below.heap_alloc w _ i hlt).trans hi))
  unfold TRow
  rw [List.length_append, tcells_app]
  exact h1
/-- A slice in memory that holds the tokens ts, one at least. -/
structure Toks (W : World) (v : Value) (ts : List Tk) : Prop where
  ex : ∃ g cap, v = .slice (some ⟨g, 0, none⟩) ts.length cap ∧ ts.length ≤ cap ∧ g < W.heap.size ∧ ∀ (j : Nat) (t : Tk), ts[j]? = some t →
    W.cell? ⟨g, j * 4, none⟩ = some (.int .i64 t.1) ∧ W.cell? ⟨g, j * 4 + 1, none⟩ = some (.int .i64 t.2.1) ∧ W.cell? ⟨g, j * 4 + 2, none⟩ = some (.int .i64 t.2.2.1) ∧ W.cell? ⟨g, j * 4 + 3, none⟩ = some (.string ⟨t.2.2.2.toArray⟩)
theorem tcells_get : ∀ (ts : List Tk) (j : Nat) (t : Tk), ts[j]? = some t → (tcells ts)[j * 4]? = some (.int .i64 t.1) ∧ (tcells ts)[j * 4 + 1]? = some (.int .i64 t.2.1) ∧ (tcells ts)[j * 4 + 2]? = some (.int .i64 t.2.2.1) ∧ (tcells ts)[j * 4 + 3]? = some (.string ⟨t.2.2.2.toArray⟩) := by
  intro ts
  induction ts with
  | nil => intro j t h; simp at h
  | cons a r ih =>
    intro j t h
    cases j with
    | zero =>
      obtain rfl : a = t := by simpa using h
      exact ⟨rfl, rfl, rfl, rfl⟩
    | succ j =>
      obtain ⟨h0, h1, h2, h3⟩ := ih j t (by simpa using h)
      have e : ∀ i, (tcells (a :: r))[i + 4]? = (tcells r)[i]? := fun i => rfl
      rw [show (j + 1) * 4 = j * 4 + 4 by omega, show j * 4 + 4 + 1 = j * 4 + 1 + 4 by omega, show j * 4 + 4 + 2 = j * 4 + 2 + 4 by omega, show j * 4 + 4 + 3 = j * 4 + 3 + 4 by omega, e, e, e, e]
      exact ⟨h0, h1, h2, h3⟩
theorem TRow.toks {W : World} {B : Nat} {v : Value} {ts : List Tk} (h : TRow W B v ts) (h0 : 0 < ts.length) : Toks W v ts := by
  have hh := h
  rcases h.2 with ⟨rfl, h1⟩ | ⟨g, cap, cur, rfl, _, _, hc, _⟩
  · omega
  · refine ⟨g, cap, rfl, hc, (World.ownsRow.lt hh g rfl).2, fun j t hj => ?_⟩
    have hj' : j < ts.length := (List.getElem?_eq_some_iff.1 hj).1
    obtain ⟨e0, e1, e2, e3⟩ := tcells_get ts j t hj
    have c := fun i hi => World.ownsRow.cellAt hh i hi
    exact ⟨(c _ (by omega)).trans e0, (c _ (by omega)).trans e1, (c _ (by omega)).trans e2, (c _ (by omega)).trans e3⟩
theorem Toks.below {W W' : World} {v : Value} {ts : List Tk} (h : Toks W v ts) (hb : Below W.heap.size W W') : Toks W' v ts := by
  obtain ⟨g, cap, h1, h2, h3, h4⟩ := h.ex
  refine ⟨g, cap, h1, h2, Nat.lt_of_lt_of_le h3 hb.size, fun j t hj => ?_⟩
  obtain ⟨e0, e1, e2, e3⟩ := h4 j t hj
  exact ⟨(hb.cell (p := ⟨g, _, none⟩) h3).trans e0, (hb.cell (p := ⟨g, _, none⟩) h3).trans e1, (hb.cell (p := ⟨g, _, none⟩) h3).trans e2, (hb.cell (p := ⟨g, _, none⟩) h3).trans e3⟩
theorem Flt.below {W W' : World} {v : Value} {n : Int} (h : Flt W v n) (hb : Below W.heap.size W W') : Flt W' v n := by
  obtain ⟨g, h1, h2⟩ := h
  exact ⟨g, h1, (hb.block g (Array.getElem?_eq_some_iff.1 h2).1).trans h2⟩

/-- What Lex answers. -/
def LexPost (s : ByteArray) (w : World) (e : Ending) (w' : World) : Prop :=
  Below w.heap.size w w' ∧ ∃ o, LexR (lastL s) s.data.toList o ∧ match o with
    | .ok ts => ts.length ≤ s.size + 1 ∧ ∃ v, e = .returned (.tuple #[v, .nilIface]) ∧ Toks w' v ts
    | .error n => ∃ v, e = .returned (.tuple #[.slice none 0 0, v]) ∧ Flt w' v n
theorem exc_nil (o : Except Int (List Tk)) : o.map (([] : List Tk) ++ ·) = o := by cases o <;> rfl
theorem exc_app (o : Except Int (List Tk)) (T : List Tk) (t : Tk) : (o.map (t :: ·)).map (T ++ ·) = o.map ((T ++ [t]) ++ ·) := by
  cases o
  · rfl
  · simp [Except.map]
theorem rd_new (w : World) (s : ByteArray) (hs : s.size ≤ 10000) (h7 : 7 ≤ w.heap.size) (hM : Mx w) : Rd (w.alloc (.cells #[.string s, .int .i64 0, .int .i64 1] 44)) w.heap.size s 0 :=
  ⟨World.alloc_heap_new w _, Nat.zero_le _, by omega, h7, hM.below ((Below.refl _ _).alloc (Nat.le_refl _) _)⟩
theorem below_of_kp {w W : World} {o : Obj} (h : Kp w.heap.size (w.alloc o) W) : Below w.heap.size w W := by
  have h1 := (Below.refl w.heap.size w).alloc (Nat.le_refl _) o
  exact h1.trans ⟨h.os, h.tape, h.output, h.size, fun k hk => h.block k (by simp; omega) (by simp; omega)⟩

theorem tok_nil {kd n : Int} {t r : List UInt8} (h : Tok [] (some (kd, n, t, r))) : n = 0 ∧ t = [] := by
  cases h
  exact ⟨rfl, rfl⟩
set_option maxHeartbeats 4000000 in
theorem lex_any (s : ByteArray) (w : World) (hs : s.size ≤ 10000) (h7 : 7 ≤ w.heap.size) (hM : Mx w) : Calls Tryz.prog 10 #[.string s] w (LexPost s w) := by
  have g0 : decide (65536 < s.size) = false := decide_eq_false (by omega)
  have HR := Lib.hid (rd_new w s hs h7 hM)
  clear hM
  go_enter Tryz.func10, Tryz.ntmps10
  go_wp2_with fail
  have hls : s.data.toList = sfx s 0 := rfl
  go_loopg [5] s.size (fun z tv wr => ∃ (k1 : Nat) (ts : List Tk), Rd wr w.heap.size s k1 ∧ s.size - k1 ≤ z ∧ Kp w.heap.size (w.alloc (.cells #[.string s, .int .i64 0, .int .i64 1] 44)) wr ∧ TRow wr (w.heap.size + 1) tv ts ∧ ts.length ≤ k1 ∧ ∀ o, LexR (lastL s) (sfx s k1) o → LexR (lastL s) s.data.toList (o.map (ts ++ ·)))
  case atStart => exact ⟨0, [], HR.out, by omega, Kp.refl _ _, TRow.nil _ _, Nat.le_refl _, fun o h => by rw [exc_nil]; exact h⟩
  case round =>
    clear hls
    obtain ⟨k1, ts, hr, hz, hkp, hrow, hlen, hlex⟩ := hrel
    have hle1 := hr.le
    have R0 := Lib.hid hr
    have K0 := Lib.hid hkp
    have W0 := Lib.hid hrow
    have HL := Lib.hid hlex
    clear hr hkp hrow hlex
    obtain ⟨A1, c1, rfl⟩ := W0.out.form
    have gfull : ((ts.length : Int) == 16384) = false := beq_eq_false_iff_ne.2 (by omega)
    go_wp2_with fail
    refine (skip_any _ _ _ _ R0.out).mono ?_; rintro e w1 ⟨kp1, ⟨k2, rfl, r1, hk12, hsk⟩ | ⟨r, v, rfl, hf, hsk⟩⟩
    · have hle2 := r1.le
      have R1 := Lib.hid r1
      have K1 := hid_kp K0 kp1
      have W1 := Lib.hid (W0.out.kp kp1 (by omega))
      have HS := Lib.hid hsk
      clear r1 kp1 hsk
      go_wp2_with fail
      refine (token_any _ _ _ _ R1.out).mono ?_; rintro e w2 ⟨kp2, ⟨kd, n, t, k3, rfl, r2, hk23, hpos, hzero, htok⟩ | ⟨v, rfl, hf, htok⟩⟩
      · have hle3 := r2.le
        have R2 := Lib.hid r2
        have K2 := hid_kp K1 kp2
        have W2 := Lib.hid (W1.out.kp kp2 (by omega))
        have HT := Lib.hid htok
        have HZ := Lib.hid hzero
        obtain ⟨X, hX⟩ : ∃ X : ByteArray, X = ⟨t.toArray⟩ := ⟨_, rfl⟩
        rw [← hX]
        have HX := Lib.hid hX
        obtain ⟨ln, hln⟩ : ∃ ln : Int, ln = lastL s - nl (sfx s k2) := ⟨_, rfl⟩
        rw [← hln]
        have HLN := Lib.hid hln
        have hsz2 := K2.out.size
        simp at hsz2
        clear r2 kp2 htok hzero hX hln
        have W3 := Lib.hid (World.ownsRow.alloc W2.out (.cells #[.int .i64 kd, .int .i64 ln, .int .i64 n, .string X] 30))
        by_cases hkd : kd = 0
        · subst hkd
          have key : ∀ w4 : World, (∀ i o, (w2.alloc (.cells #[.int .i64 0, .int .i64 ln, .int .i64 n, .string X] 30)).heap[i]? = some o → some i ≠ (Value.slice A1 ts.length c1).ownBlock → w4.heap[i]? = some o) → w4.cell? ⟨w2.heap.size, 0, none⟩ = some (.int .i64 0) := fun w4 h4 => by
            have hb := h4 w2.heap.size _ (World.alloc_heap_new w2 _) (fun e => by have := (World.ownsRow.lt W2.out _ e.symm).2; omega)
            simp [World.cell?, hb]
          have KEY := Lib.hid key
          clear key
          go_wp2_with (at_builtin; refine at_tok _ 0 ln n X t HX.out rfl _ _ rfl (w.heap.size + 1) _ ts rfl W3.out _ (by simp) rfl (by omega) (by simp; omega) ?_; intro v4 w4 h4 b4 i4; have hc4 := KEY.out w4 i4; have H4 := Lib.hid h4; clear h4 i4)
          go_ret2
          have hs0 : sfx s k2 = [] := HZ.out (by trivial)
          have ht := HT.out
          rw [hs0] at ht
          have hsk' := HS.out
          rw [hs0] at hsk'
          have hl := HL.out _ (.eof hsk')
          have hnt := tok_nil ht
          have hln : ln = lastL s := by rw [HLN.out, hs0, nl_nil]; omega
          refine ⟨(below_of_kp K2.out).trans (((Below.refl _ _).alloc (by omega) _).trans (b4.mono (by omega))), .ok (ts ++ [(0, ln, n, t)]), ?_, by rw [List.length_append]; simp; omega, v4, rfl, H4.out.toks (by simp)⟩
          rw [hln, hnt.1, hnt.2]
          exact hl
        · have key : ∀ w4 : World, (∀ i o, (w2.alloc (.cells #[.int .i64 kd, .int .i64 ln, .int .i64 n, .string X] 30)).heap[i]? = some o → some i ≠ (Value.slice A1 ts.length c1).ownBlock → w4.heap[i]? = some o) → w4.cell? ⟨w2.heap.size, 0, none⟩ = some (.int .i64 kd) := fun w4 h4 => by
            have hb := h4 w2.heap.size _ (World.alloc_heap_new w2 _) (fun e => by have := (World.ownsRow.lt W2.out _ e.symm).2; omega)
            simp [World.cell?, hb]
          have KEY := Lib.hid key
          clear key
          have gk : (kd == 0) = false := beq_eq_false_iff_ne.2 hkd
          have hk3 := hpos hkd
          go_wp2_with (at_builtin; refine at_tok _ kd ln n X t HX.out rfl _ _ rfl (w.heap.size + 1) _ ts rfl W3.out _ (by simp) rfl (by omega) (by simp; omega) ?_; intro v4 w4 h4 b4 i4; have hc4 := KEY.out w4 i4; have H4 := Lib.hid h4; have B4 := Lib.hid b4; clear h4 i4 b4)
          go_roundg (s.size - k3)
          case measure => omega
          case rel => exact ⟨k3, ts ++ [(kd, ln, n, t)], (R2.out.alloc _).belowB B4.out (by omega), Nat.le_refl _, (K2.out.alloc _).below (by simpa using B4.out), H4.out, by rw [List.length_append]; simp; omega, fun o ho => by
            have hne : sfx s k2 ≠ [] := fun e => by
              have := congrArg List.length e
              rw [sfx_len, List.length_nil] at this
              omega
            have := HL.out _ (.step HS.out hne HT.out ho)
            rw [exc_app, ← HLN.out] at this
            exact this⟩
      · obtain ⟨g, rfl, hg⟩ := hf
        have K2 := hid_kp K1 kp2
        have HT := Lib.hid htok
        have HG := Lib.hid hg
        clear kp2 htok hg
        go_wp2_with fail
        go_ret2
        have hf' : Flt w2 (.iface 49 (.pointer (some ⟨g, 0, none⟩))) (lastL s - nl (sfx s k2)) := ⟨g, rfl, HG.out⟩
        have hb2 := (Below.refl w2.heap.size w2).alloc (Nat.le_refl _) (.cells #[.int .i64 0, .int .i64 0, .int .i64 0, .string ⟨#[]⟩] 30)
        exact ⟨(below_of_kp K2.out).trans (hb2.mono (by have := K2.out.size; simp at this; omega)), .error _, HL.out _ (.tokBad HS.out HT.out), _, rfl, hf'.below hb2⟩
    · obtain ⟨g, rfl, hg⟩ := hf
      have K1 := hid_kp K0 kp1
      have HS := Lib.hid hsk
      have HG := Lib.hid hg
      clear kp1 hsk hg
      go_wp2_with fail
      go_ret2
      exact ⟨below_of_kp K1.out, .error _, HL.out _ (.skipBad HS.out), _, rfl, g, rfl, HG.out⟩
end Go.Proofs.YtbeckfamnhfaeaaGreatDoor
