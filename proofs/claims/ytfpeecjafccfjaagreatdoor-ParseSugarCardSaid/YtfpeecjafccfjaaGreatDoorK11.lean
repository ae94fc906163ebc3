/- Parts of the proof: Qm, RLuaS, Ge, Gx, Qn, Qp, Qq, Qr, Qt, Qu, Qv. -/
import Derived.Laws.EntriesVeiled
import Derived.Test.YtfpeecjafccfjaaGreatDoorK10
namespace Go.Proofs.YtfpeecjafccfjaaGreatDoor
open Go.RowKit
theorem node1_pv {b : Nat} {O : Nat → Prop} {t : TkP} {ts : List TkP} {T0 T : List Nd} {K : Ast → List TkP → Prop} {E : Int → Prop} (w2 : World) (g p : Nat) (a : Ast) (hp : PS w2 b O (t :: ts) T) (hg : w2.heap[g]? = some (.cells #[.int .i64 (p : Int)] 3 (0, 0))) (hgO : ¬ O g) (hgb : b + 1 ≤ g) (hli : Lies T0 T [a] [(p : Int)])
    (x : Nd) (hx : x = ⟨x.kind, 0, x.op, x.num, x.s, [], []⟩) (pv : Value) (wps : List Wp1) (hpt : RdParts w2 b (fun k => O k ∨ k = g) pv wps)
    (hk : WpSeq wps ⟨{ x with line := t.2.1 }, [a], t :: ts, T0.length + a.size⟩ (FinK K) E) :
    Calls Tryz.prog 17 #[.pointer (some ⟨b, 0, none⟩), nodeV x (.slice none 0 0) (.slice (some ⟨g, 0, none⟩) 1 1), pv] w2 (PlacePost b (fun k => O k ∨ k = g) T0 (RK K E) w2) := by
  have h1 : x.line = 0 := by rw [hx]
  have h2 : x.names = [] := by rw [hx]
  have hgl : g < w2.heap.size := (Array.getElem?_eq_some_iff.1 hg).1
  have hz : T.length = T0.length + a.size := by rw [hli.len, Ast.sizeL, Ast.sizeL]; omega
  rw [← hz] at hk
  have hrow : w2.ownsRow (b + 1) 3 1 (.slice (some ⟨g, 0, none⟩) 1 1) 1 [.int .i64 (p : Int)] := ⟨rfl, .inr ⟨g, 1, #[.int .i64 (p : Int)], rfl, hgb, hg, Nat.le_refl _, by unfold maxLen; omega, rfl, rfl⟩⟩
  have hnd : NdIn w2 b (· = g) { x with kids := [(p : Int)] } (.slice none 0 0) (.slice (some ⟨g, 0, none⟩) 1 1) := by
    refine ⟨?_, hrow, fun g hg => by simp [Value.ownBlock] at hg, fun g hg => by simp [Value.ownBlock] at hg, fun k hk => by simpa [Value.ownBlock] using hk.symm⟩
    rw [show ({ x with kids := [(p : Int)] } : Nd).names = [] from h2]
    exact World.ownsRow_nil _ _ _ _
  exact node_p b O (· = g) t ts T0 T x t.2.1 [a] [(p : Int)] (.slice none 0 0) (.slice (some ⟨g, 0, none⟩) 1 1) pv wps (RK K E) w2 hp hnd (fun k hk e => hgO (e ▸ hk)) (fun k hk => ⟨by omega, by omega⟩) hli hpt (.inl ⟨h1, rfl⟩) hk
def sfxKind (t : TkP) : Int := if isW [46] t = true then 8 else if isW [91] t = true then 8 else if isW [58] t = true then 10 else if isW [40] t = true then 9 else if isW [123] t = true then 9 else if t.1 = 4 then 9 else 0
def sfxPs (ex ar : Wp1) (t : TkP) : List Wp1 := if isW [46] t = true then [wpSkip, keyP] else if isW [91] t = true then [wpSkip, ex, wpWords [[93]]] else if isW [58] t = true then [wpSkip, wpLabel, ar] else if isW [40] t = true then [ar] else if isW [123] t = true then [ar] else if t.1 = 4 then [ar] else []
theorem suffix_p {ex ar : Wp1} (hE : RdN 87 ex) (hG : RdN 178 ar) (b : Nat) (O : Nat → Prop) (t : TkP) (ts : List TkP) (T : List Nd) (w : World) (hp : PS w b O (t :: ts) T) : Calls Tryz.prog 152 #[.pointer (some ⟨b, 0, none⟩)] w (SfxPost b O (sfxKind t) (sfxPs ex ar t) w) := by
  unfold sfxKind sfxPs
  by_cases h1 : isW [46] t = true
  · rw [if_pos h1, if_pos h1]; exact sfx_dot b O t ts T w hp h1
  rw [if_neg h1, if_neg h1]
  by_cases h2 : isW [91] t = true
  · rw [if_pos h2, if_pos h2]; exact sfx_sq hE b O t ts T w hp h2
  rw [if_neg h2, if_neg h2]
  by_cases h3 : isW [58] t = true
  · rw [if_pos h3, if_pos h3]; exact sfx_colon hG b O t ts T w hp h3
  rw [if_neg h3, if_neg h3]
  by_cases h4 : isW [40] t = true
  · rw [if_pos h4, if_pos h4]; exact sfx_paren hG b O t ts T w hp h4
  rw [if_neg h4, if_neg h4]
  by_cases h5 : isW [123] t = true
  · rw [if_pos h5, if_pos h5]; exact sfx_brace hG b O t ts T w hp h5
  rw [if_neg h5, if_neg h5]
  have hn : NoSfx t := ⟨by simpa using h1, by simpa using h2, by simpa using h3, by simpa using h4, by simpa using h5⟩
  by_cases h6 : t.1 = 4
  · rw [if_pos h6, if_pos h6]; exact sfx_txt hG b O t ts T w hp hn h6
  · rw [if_neg h6, if_neg h6]; exact sfx_none b O t ts T w hp hn h6
def wpSfx (ex ar : Wp1) : Nat → Ast → List TkP → Nat → (Ast → List TkP → Prop) → (Int → Prop) → Prop
  | 0, _, _, _, _, _ => False
  | k + 1, a, ts, n, K, E => ∃ t r, ts = t :: r ∧ (sfxKind t = 0 → K a ts) ∧ (sfxKind t ≠ 0 → WpSeq (sfxPs ex ar t) ⟨hdL (sfxKind t) t.2.1, [a], ts, n + a.size⟩ (FinK fun a' ts' => wpSfx ex ar k a' ts' n K E) E)
def sufC (ex ar : Wp1) : WpA := fun ts n K E => ∃ t r, ts = t :: r ∧ plainP ex t r n (fun a ts1 => ∃ m, wpSfx ex ar m a ts1 n K E) E
set_option maxHeartbeats 8000000 in
theorem suffixed_p {ex ar : Wp1} (hE : RdN 87 ex) (hG : RdN 178 ar) : Rds 126 (sufC ex ar) := by
  rintro b O ts T0 K E w hp ⟨t, r, rfl, hk⟩
  have HA := Lib.hid (plain_p hE b O t r T0 _ E w hp hk)
  have HSF := Lib.hid (fun (O : Nat → Prop) (t : TkP) (ts : List TkP) (T : List Nd) (W : World) hW => suffix_p hE hG b O t ts T W hW)
  clear hp hk hE hG
  go_enter Tryz.func126, Tryz.ntmps126
  go_wp2_with fail
  refine HA.out.mono ?_; intro e w1 h1
  have F1 := Lib.hid h1.1
  rcases h1.2 with ⟨p, a, ts1, O1, T1, rfl, p1, x1, l1, k1⟩ | ⟨le, v, er, rfl, ⟨g', rfl, m2, m3⟩, k1⟩
  · obtain ⟨m, k1⟩ := k1
    have P1 := Lib.hid p1
    have X1 := Lib.hid x1
    have L1 := Lib.hid l1
    have K1 := Lib.hid k1
    clear h1 p1 x1 l1 k1
    go_wp2_with fail
    go_loopg [4, 5] (m + 1) (fun z lv ev wr => (∃ (p : Nat) (a : Ast) (tr : List TkP) (Or : Nat → Prop) (Tr : List Nd) (k : Nat), lv = .int .i64 (p : Int) ∧ ev = .nilIface ∧ z = k + 1 ∧ PS wr b Or tr Tr ∧ Fr O w wr ∧ Ext O Or w ∧ Lies T0 Tr [a] [(p : Int)] ∧ wpSfx ex ar k a tr T0.length K E) ∨
      (∃ (le : Int) (g' : Nat), ev = .iface 56 (.pointer (some ⟨g', 0, none⟩)) ∧ w.heap.size ≤ g' ∧ wr.heap[g']? = some (.cells #[.int .i64 6, .int .i64 le] 62 (0, 0)) ∧ Fr O w wr ∧ E le))
    case atStart => exact .inl ⟨p, a, ts1, O1, T1, m, rfl, rfl, rfl, P1.out, F1.out, X1.out, L1.out, K1.out⟩
    case round =>
      rcases hrel with ⟨p, a, tr, Or, Tr, k, rfl, rfl, rfl, pr, fr, xr, lr, kr⟩ | ⟨le, g', rfl, hg, m3, fr, ke⟩
      · cases k with
        | zero => exact kr.elim
        | succ k =>
          obtain ⟨t, r, rfl, hle, hgt⟩ := kr
          have PR := Lib.hid pr
          have FR := Lib.hid fr
          have XR := Lib.hid xr
          have LR := Lib.hid lr
          have HSX := Lib.hid (HSF.out Or t r Tr wr pr)
          have HLE := Lib.hid hle
          have HGT := Lib.hid hgt
          clear pr fr xr lr hle hgt F1 P1 X1 L1 K1 HA
          generalize hkd : sfxKind t = kd at *
          clear hkd
          go_wp2_with fail
          refine HSX.out.mono ?_; rintro e w2 ⟨Av, mv, rfl, b2, hpv⟩
          have B2 := Lib.hid b2
          have HPV := Lib.hid hpv
          clear b2 hpv
          by_cases hc : kd = 0
          · subst hc
            go_wp2_with fail
            go_ret2
            exact ⟨FR.out.trans (Fr.of_below (O := Or) B2.out) XR.out, .inl ⟨p, a, t :: r, Or, Tr, rfl, PR.out.below B2.out, XR.out, LR.out, HLE.out (by trivial)⟩⟩
          · have g1 : (kd == 0) = false := beq_eq_false_iff_ne.2 hc
            have HC := Lib.hid hc
            clear hc
            have p2 := PR.out.below B2.out
            have P2 := Lib.hid p2
            have hown2 : ∀ k, Or k → k < w2.heap.size := fun k hk => (p2.own k hk).2
            have hb2 : b < w2.heap.size := (p2.own b p2.at_).2
            have HN := Lib.hid (node1_pv (w2.alloc (.cells #[.int .i64 (p : Int)] 3)) w2.heap.size p a (p2.below (allocB w2 _)) (World.alloc_heap_new w2 _) (fun h => by have := hown2 _ h; omega) (by omega) LR.out ⟨kd, 0, 0, 0, ⟨#[]⟩, [], []⟩ rfl (.slice Av mv mv) _ (HPV.out.later ((Fr.refl _ _).alloc _) (fun k hk => hk.imp id fun h => by omega)) (HGT.out HC.out))
            have F4 := Lib.hid ((FR.out.trans (Fr.of_below (O := Or) B2.out) XR.out).trans (Fr.of_below (O := Or) (allocB w2 (.cells #[.int .i64 (p : Int)] 3))) XR.out)
            have X4 : Hid (Ext O (fun k => Or k ∨ k = w2.heap.size) w) := Lib.hid fun k hk => by
              rcases hk with hk | rfl
              · exact XR.out k hk
              · exact .inr (Nat.le_trans FR.out.size B2.out.size)
            clear p2 hown2
            go_wp2_with fail
            refine HN.out.mono ?_; intro e w5 h5
            have F5 := Lib.hid (F4.out.trans h5.1 X4.out)
            rcases h5.2 with ⟨p5, a5, ts5, O5, T5, rfl, q5, x5, l5, k5⟩ | ⟨le, v, er, rfl, ⟨g', rfl, m2, m3⟩, k5⟩
            · have Q5 := Lib.hid q5
              have X5 := Lib.hid (X4.out.trans x5 F4.out.size)
              have L5 := Lib.hid l5
              have K5 := Lib.hid k5
              clear h5 q5 x5 l5 k5
              go_wp2_with fail
              go_roundg (k + 1)
              case measure => omega
              case rel => exact .inl ⟨p5, a5, ts5, O5, T5, k, rfl, rfl, rfl, Q5.out, F5.out, X5.out, L5.out, K5.out⟩
            · have M3 := Lib.hid m3
              have M2 := Lib.hid (Nat.le_trans F4.out.size m2)
              have K5 := Lib.hid k5
              clear h5 m2 m3 k5
              go_wp2_with fail
              go_roundg (k + 1)
              case measure => omega
              case rel => exact .inr ⟨le, g', rfl, M2.out, M3.out, F5.out, K5.out⟩
      · have M3 := Lib.hid m3
        have HG := Lib.hid hg
        have FR := Lib.hid fr
        have KE := Lib.hid ke
        clear m3 hg fr ke
        go_wp2_with fail
        go_ret2
        exact ⟨FR.out, .inr ⟨le, _, _, rfl, ⟨g', rfl, HG.out, M3.out⟩, KE.out⟩⟩
  · have M3 := Lib.hid m3
    have M2 := Lib.hid m2
    have K1 := Lib.hid k1
    clear h1 m2 m3 k1
    go_wp2_with fail
    go_loopg [4, 5] 1 (fun _ lv ev wr => lv = v ∧ ev = .iface 56 (.pointer (some ⟨g', 0, none⟩)) ∧ wr = w1)
    case atStart => exact ⟨rfl, rfl, rfl⟩
    case round =>
      obtain ⟨rfl, rfl, rfl⟩ := hrel
      go_wp2_with fail
      go_ret2
      exact ⟨F1.out, .inr ⟨le, _, _, rfl, ⟨g', rfl, M2.out, M3.out⟩, K1.out⟩⟩
end Go.Proofs.YtfpeecjafccfjaaGreatDoor
namespace Go.Proofs.YtfpeecjafccfjaaGreatDoor
theorem lvm_weak {t : TkP} {o : Int × Nat × Nat} (h : binO t = some o) {s : Nat} (hs : ¬ s ≤ o.2.1) (x : Ast) (ts : List TkP) : PL (bodyL (.lvm s x)) (t :: ts) (.ok (x, t :: ts)) := by
  refine .look ?_
  rw [h]
  show PL (if s ≤ o.2.1 then _ else _) _ _
  rw [if_neg hs]
  exact .ret
variable {t1 t2 : TkP} {o1 o2 : Int × Nat × Nat}
end Go.Proofs.YtfpeecjafccfjaaGreatDoor
namespace Go.Proofs.YtfpeecjafccfjaaGreatDoor
open Go.RowKit
abbrev gUna : GL Ast := bodyL .una
abbrev gItm : GL Ast := bodyL .itm
def itemsP (N : Nat) : Wp1 := wpKids (wpG N gItm) itemsF
section
variable {K : Ast → List TkP → Prop} {E : Int → Prop} {K' : St → Prop} {N k n : Nat} {h : Nd} {xs : List Ast} {t : TkP} {ts : List TkP}
theorem row_tbl (K2 : List Ast → List TkP → Prop) (B : Nat) (C : List Ast → List TkP → Prop) (hC : ∀ xs ts', Ast.sizeL xs + 2 * ts'.length ≤ B → Wf ts' → ts'.length < N → (∃ u us, ts' = u :: us ∧ (isW [125] u = true → K2 xs us) ∧ (isW [125] u = false → E u.2.1)) → C xs ts') :
    ∀ (m : Nat) (ts : List TkP) (n : Nat) (acc : List Ast) (t : TkP) (r : List TkP), ts = t :: r → isW [125] t = false → ts.length < m → ts.length < N → n + 2 * ts.length ≤ 60000 → Ast.sizeL acc + 2 * ts.length ≤ B → Wf ts → Gw (bodyL (.tbl acc) : GL (List Ast)) ts K2 E → wpRow (wpG N gItm) itemsF m ts n acc C E := by
  intro m
  induction m with
  | zero => intro ts n acc t r _ _ h; omega
  | succ m ih =>
    rintro ts n acc t r rfl hb h1 h2 h3 hB hf H
    have G := (Gw.look H).neg (by simp [hb])
    refine ⟨h2, h3, hf.lin, (Gw.call G).mono fun (e : Ast) ts' p hq => ?_⟩
    have hz : e.size + 2 * ts'.length ≤ 2 * (t :: r).length := hq.1
    have hf' := p.wf hf
    have he := size_pos e
    obtain ⟨u, us, rfl⟩ := hf'.fin.cons
    have hg := hq.2.look
    have hsz : Ast.sizeL (acc ++ [e]) + 2 * (u :: us).length ≤ B := by rw [sizeL_app, sz1]; omega
    simp only [List.length_cons] at h1 h2 h3 hz hsz
    rcases Bool.eq_false_or_eq_true (isW [44] u || isW [59] u) with hc | hc
    · have hnz : u.1 ≠ 0 := fun e0 => by simp [isW, e0] at hc
      have hf2 := hf'.tail hnz
      obtain ⟨v, vs, rfl⟩ := hf2.fin.cons
      have e1 : itemsF (u :: v :: vs) = (!isW [125] v, v :: vs) := itemsF_yes hc
      show (_ → _) ∧ (_ → _)
      rw [e1]
      have G2 := (Gw.call (hg.pos hc).tok).mono (K' := K2) fun l ts2 _ hl => hl.2.ret
      simp only [List.length_cons] at hz hsz
      refine ⟨fun hv => ih (v :: vs) (n + e.size) (acc ++ [e]) v vs rfl (by simpa using hv) (by simp only [List.length_cons]; omega) (by simp only [List.length_cons]; omega) (by simp only [List.length_cons]; omega) (by simp only [List.length_cons]; omega) hf2 G2, fun hv => ?_⟩
      have hv' : isW [125] v = true := by simpa using hv
      exact hC _ _ (by simp only [List.length_cons]; omega) hf2 (by simp only [List.length_cons]; omega) ⟨v, vs, rfl, fun _ => ((Gw.look G2).pos hv').tok.ret, fun hx => by rw [hv'] at hx; exact (Bool.false_ne_true hx.symm).elim⟩
    · have e1 : itemsF (u :: us) = (false, u :: us) := itemsF_no hc
      show (_ → _) ∧ (_ → _)
      rw [e1]
      have G2 := hg.neg (by simp [hc])
      exact ⟨fun hb => (Bool.false_ne_true hb).elim, fun _ => hC _ _ (by simp only [List.length_cons]; omega) hf' (by simp only [List.length_cons]; omega) ⟨u, us, rfl, fun hw => (G2.want.1 hw).ret, G2.want.2⟩⟩
theorem tbl_mk {at_ : Int} (hI : Rm N k ⟨hdL 15 at_, [], ts, n⟩) (H : Gw (.call (.tbl []) fun (l : List Ast) => .ret (nd 15 at_ l) : GL Ast) ts K E) : WpSeq [wpUnless [125] (itemsP N), wpWords [[125]]] ⟨hdL 15 at_, [], ts, n⟩ (FinK K) E := by
  obtain ⟨t, r, hts⟩ := hI.cons
  dsimp only at hts
  subst hts
  have hn := hI.n
  have hx := hI.xs
  have hl := hI.len
  dsimp only at hn hx hl
  have G := (Gw.call H).mono (K' := fun (l : List Ast) ts' => K (nd 15 at_ l) ts') fun l ts' _ hq => hq.2.ret
  refine ⟨t, r, rfl, fun hw => ?_, fun hw => ?_⟩
  · have G2 := ((Gw.look G).pos hw).tok.ret
    refine ⟨t, r, rfl, fun _ => fin_mk (hI.tok (h' := hdL 15 at_) (isW_nz hw)) G2, fun hw2 => ?_⟩
    rw [hw] at hw2
    exact (Bool.false_ne_true hw2.symm).elim
  · refine ⟨by simp, (t :: r).length + 1, by omega, ?_⟩
    refine row_tbl _ (2 * (t :: r).length) _ (fun xs ts' h1 h2 h3 h4 => ?_) ((t :: r).length + 1) (t :: r) n [] t r rfl hw (Nat.lt_succ_self _) hl (by omega) (by rw [sizeL_nil]; omega) hI.wf G
    obtain ⟨u, us, rfl, h5, h6⟩ := h4
    refine ⟨u, us, rfl, fun hu => ?_, h6⟩
    exact ⟨by show n + Ast.sizeL xs ≤ _; omega, h5 hu⟩
end
def kd7 (ts : List TkP) (v : Ast) (ts' : List TkP) : Prop := v.hd.kind = 7 → ∃ t, ts = t :: ts' ∧ t.1 = 1
def PostN : (n : NT) → List TkP → VT n → List TkP → Prop
  | .sfx x, ts, v, ts' => (Ast.hd v).kind = 7 → v = x ∧ ts' = ts
  | .lvm _ x, ts, v, ts' => (Ast.hd v).kind = 7 → v = x ∧ ts' = ts
  | .suf, ts, v, ts' => kd7 ts v ts'
  | .lef, ts, v, ts' => kd7 ts v ts'
  | .una, ts, v, ts' => kd7 ts v ts'
  | .exp _, ts, v, ts' => kd7 ts v ts'
  | .bdy _ _, _, v, _ => (Ast.hd v).kind = 11
  | _, _, _, _ => True
section
variable {α : Type} {Q : α → List TkP → Prop}
abbrev Np (g : GL α) (ts : List TkP) (Q : α → List TkP → Prop) : Prop := Wp PostN g ts Q
theorem n_look {f : TkP → GL α} {ts : List TkP} (h : ∀ t ts', ts = t :: ts' → Np (f t) (t :: ts') Q) : Np (.look f) ts Q := fun t ts' e => by
  subst e
  exact h t ts' rfl
theorem n_tok {f : TkP → GL α} {t : TkP} {ts : List TkP} (h : Np (f t) ts Q) : Np (.tok f) (t :: ts) Q := fun u us e => by
  injection e with e1 e2
  subst e1 e2
  exact h
theorem n_call {n : NT} {k : VT n → GL α} {ts : List TkP} (h : ∀ v ts', PostN n ts v ts' → Np (k v) ts' Q) : Np (.call n k) ts Q := h
theorem n_ite {c : Prop} [Decidable c] {g g' : GL α} {ts : List TkP} (h1 : c → Np g ts Q) (h2 : ¬ c → Np g' ts Q) : Np (if c then g else g') ts Q := by
  by_cases h : c
  · rw [if_pos h]; exact h1 h
  · rw [if_neg h]; exact h2 h
theorem n_want {s : List UInt8} {k : TkP → GL α} {ts : List TkP} (h : ∀ t ts', Np (k t) ts' Q) : Np (want s k) ts Q := n_look fun t ts' _ => n_ite (fun _ => n_tok (h t ts')) fun _ => trivial
theorem n_name {k : TkP → GL α} {ts : List TkP} (h : ∀ t ts', Np (k t) ts' Q) : Np (name k) ts Q := n_look fun t ts' _ => n_ite (fun _ => n_tok (h t ts')) fun _ => trivial
end
theorem ne7 {k : Int} {P : Prop} {l : Int} {o nn : Int} {s : ByteArray} {ns : List ByteArray} {ks : List Int} {as_ : List Ast} (hk : k ≠ 7) : (Ast.hd (.mk ⟨k, l, o, nn, s, ns, ks⟩ as_)).kind = 7 → P := fun h => absurd h hk
theorem n_all (n : NT) (ts : List TkP) : Np (bodyL n) ts (PostN n ts) := by
  cases n with
  | sfx x =>
    refine n_look fun t ts' e => ?_
    subst e
    have key : ∀ (y : Ast) (ts2 : List TkP), (∀ P : Prop, y.hd.kind = 7 → P) → Np (.call (.sfx y) fun (v : Ast) => .ret v : GL Ast) ts2 (PostN (.sfx x) (t :: ts')) := fun y ts2 hy => n_call fun (v : Ast) ts3 (h : v.hd.kind = 7 → v = y ∧ ts3 = ts2) => fun (hv : v.hd.kind = 7) => by
      have := (h hv).1
      subst this
      exact hy _ hv
    refine n_ite (fun _ => n_tok (n_name fun u us => key _ _ fun P => ne7 (by decide))) fun _ => n_ite (fun _ => n_tok (n_call fun (e : Ast) us _ => n_want fun _ us2 => key _ _ fun P => ne7 (by decide))) fun _ =>
      n_ite (fun _ => n_tok (n_name fun u us => n_call fun (l : List Ast) us2 _ => key _ _ fun P => ne7 (by decide))) fun _ => n_ite (fun _ => n_call fun (l : List Ast) us2 _ => key _ _ fun P => ne7 (by decide)) fun _ => ?_
    exact fun _ => ⟨rfl, rfl⟩
  | lvm s x =>
    refine n_look fun t ts' e => ?_
    subst e
    cases ho : binO t with
    | none => exact fun _ => ⟨rfl, rfl⟩
    | some o =>
      refine n_ite (fun _ => n_tok (n_call fun (y : Ast) us _ => n_call fun (v : Ast) us2 (h : v.hd.kind = 7 → v = ndO 12 t.2.1 o.1 [x, y] ∧ us2 = us) => fun (hv : v.hd.kind = 7) => ?_)) fun _ => fun _ => ⟨rfl, rfl⟩
      have := (h hv).1
      subst this
      exact absurd hv (by show (12 : Int) ≠ 7; decide)
  | suf =>
    refine n_look fun t ts' e => ?_
    subst e
    refine n_ite (fun ht => n_tok (n_call fun (v : Ast) us (h : v.hd.kind = 7 → v = ndS 7 t.2.1 (bts t.2.2.2) [] ∧ us = ts') => fun (hv : v.hd.kind = 7) => ⟨t, by rw [(h hv).2], ht⟩)) fun _ =>
      n_ite (fun _ => n_tok (n_call fun (e : Ast) us _ => n_want fun _ us2 => n_call fun (v : Ast) us3 (h : v.hd.kind = 7 → v = nd 14 t.2.1 [e] ∧ us3 = us2) => fun (hv : v.hd.kind = 7) => ?_)) fun _ => trivial
    have := (h hv).1
    subst this
    exact absurd hv (by show (14 : Int) ≠ 7; decide)
  | exp s =>
    refine n_call fun (x : Ast) us (h1 : kd7 ts x us) => n_call fun (y : Ast) us2 (h2 : y.hd.kind = 7 → y = x ∧ us2 = us) => fun (hv : y.hd.kind = 7) => ?_
    obtain ⟨rfl, rfl⟩ := h2 hv
    exact h1 hv
  | una =>
    refine n_look fun t ts' e => ?_
    subst e
    cases ho : unaO t with
    | none => exact n_call fun (v : Ast) us (h : kd7 (t :: ts') v us) => h
    | some o => exact n_tok (n_call fun (v : Ast) us _ => fun hv => absurd hv (by show (13 : Int) ≠ 7; decide))
  | lef =>
    refine n_look fun t ts' e => ?_
    subst e
    refine n_ite (fun _ => n_tok ?_) fun _ => n_ite (fun _ => n_tok ?_) fun _ => n_ite (fun _ => n_tok ?_) fun _ => n_ite (fun _ => n_tok ?_) fun _ => n_ite (fun _ => n_tok (n_call fun (f : Ast) us (h : f.hd.kind = 11) => ?_)) fun _ => n_ite (fun _ => n_tok (n_call fun (l : List Ast) us _ => ?_)) fun _ => n_ite (fun _ => n_tok ?_) fun _ => n_ite (fun _ => n_tok ?_) fun _ => n_call fun (v : Ast) us (h : kd7 (t :: ts') v us) => h
    · exact ne7 (by decide)
    · exact ne7 (by decide)
    · exact ne7 (by decide)
    · exact ne7 (by decide)
    · exact fun (hv : f.hd.kind = 7) => absurd (h.symm.trans hv) (by decide)
    · exact ne7 (by decide)
    · exact ne7 (by decide)
    · exact ne7 (by decide)
  | bdy at_ self =>
    refine n_want fun _ us => n_look fun t ts' e => ?_
    subst e
    exact n_ite (fun _ => n_tok (n_call fun (b : Ast) us2 _ => n_want fun _ _ => rfl)) fun _ => n_call fun (p : List ByteArray × Int) us2 _ => n_want fun _ _ => n_call fun (b : Ast) _ _ => n_want fun _ _ => rfl
  | _ => exact Wp.always _ _ _ fun _ _ => trivial
end Go.Proofs.YtfpeecjafccfjaaGreatDoor
namespace Go.Proofs.YtfpeecjafccfjaaGreatDoor
open Go.RowKit
section
variable {K : Ast → List TkP → Prop} {E : Int → Prop} {K' : St → Prop} {N k n : Nat} {h : Nd} {xs : List Ast} {t : TkP} {ts : List TkP}
theorem skip_same {t : TkP} (hI : Rm N k ⟨h, xs, t :: ts, n⟩) (ht : t.1 ≠ 0) (hk : Rm N (k + 2) ⟨h, xs, ts, n⟩ → K' ⟨h, xs, ts, n⟩) : wpSkip ⟨h, xs, t :: ts, n⟩ K' E := ⟨t, ts, rfl, ht, hk (hI.tok ht)⟩
theorem Rm.hd {h' : Nd} (hI : Rm N k ⟨h, xs, ts, n⟩) : Rm N k ⟨h', xs, ts, n⟩ := ⟨hI.len, hI.n, hI.xs, hI.wf⟩
theorem no_kind {t : TkP} (h : t.1 = 1) (s : List UInt8) : isW s t = false := by simp [isW, h]
theorem una_none {t : TkP} (h : t.1 ≠ 2) (h5 : t.1 ≠ 5) : unaO t = none := by simp [unaO, isW, h, h5]
theorem name_exp {t u : TkP} {us : List TkP} (ht : t.1 = 1) (hu : isW [61] u = true) : PL (gExp 1) (t :: u :: us) (.ok (ndS 7 t.2.1 (bts t.2.2.2) [], u :: us)) := by
  have hq : ∀ s : List UInt8, s ≠ [61] → ¬ isW s u = true := fun s hs => isW_no hu hs
  have hk : u.1 = 2 ∨ u.1 = 5 := by rcases isW_cases hu with ⟨l, m, rfl⟩ | ⟨l, m, rfl⟩ <;> simp
  have hsfx : PL (bodyL (.sfx (ndS 7 t.2.1 (bts t.2.2.2) []))) (u :: us) (.ok (ndS 7 t.2.1 (bts t.2.2.2) [], u :: us)) := by
    refine .look ?_
    have e1 : ¬ ((isW [40] u || isW [123] u || decide (u.1 = 4)) = true) := by
      have h1 := hq [40] (by decide)
      have h2 := hq [123] (by decide)
      have h4 : ¬ u.1 = 4 := by omega
      simp [h1, h2, h4]
    rw [if_neg (hq [46] (by decide)), if_neg (hq [91] (by decide)), if_neg (hq [58] (by decide)), if_neg e1]
    exact .ret
  have hbin : binO u = none := by
    have : ∀ s : List UInt8, s ≠ [61] → isW s u = false := fun s hs => isW_diff' hu hs
    unfold binO
    rw [this _ (by decide), this _ (by decide), this _ (by decide), this _ (by decide), this _ (by decide), this _ (by decide), this _ (by decide), this _ (by decide), this _ (by decide), this _ (by decide), this _ (by decide), this _ (by decide), this _ (by decide), this _ (by decide), this _ (by decide), this _ (by decide), this _ (by decide), this _ (by decide), this _ (by decide)]
    rfl
  have hlvm : PL (bodyL (.lvm 1 (ndS 7 t.2.1 (bts t.2.2.2) []))) (u :: us) (.ok (ndS 7 t.2.1 (bts t.2.2.2) [], u :: us)) := by
    refine .look ?_
    rw [hbin]
    exact .ret
  refine .call (n := NT.una) (.look ?_) (.call hlvm .ret)
  rw [una_none (by omega) (by omega)]
  refine .call (n := NT.lef) (.look ?_) .ret
  have hn : ∀ s : List UInt8, ¬ isW s t = true := fun s => by rw [no_kind ht]; decide
  rw [if_neg (hn _), if_neg (hn _), if_neg (hn _), if_neg (hn _), if_neg (hn _), if_neg (hn _), if_neg (by omega), if_neg (by omega)]
  refine .call (n := NT.suf) (.look ?_) .ret
  rw [if_pos ht]
  exact .tok (.call hsfx .ret)
theorem item_mk (hI : Rm N k ⟨h, [], t :: ts, n⟩) (H : Gw gItm (t :: ts) K E) : itemC (expP N) t ts n K E := by
  have G := Gw.look H
  have hn := hI.n
  have hx := hI.xs
  have hlen := hI.len
  dsimp only at hn hx hlen
  refine ⟨fun hw => ?_, fun hw => ⟨fun hf => ?_, fun hf => ?_⟩⟩
  · exact skip_same (hI.hd (h' := hdL 17 t.2.1)) (isW_nz hw) fun hI => exp_kid hI (G.pos hw).tok fun e _ hI _ G => want2_mk hI G fun _ _ hI _ G => exp_kid hI G fun v _ hI _ G => fin_mk hI G.ret
  · have G := Gw.call (G.neg (by simp [hw]))
    cases ts with
    | nil => simp [fieldT] at hf
    | cons u us =>
      have hf' : t.1 = 1 ∧ u.1 = 5 ∧ u.2.2.2 = [61] := by simpa [fieldT, fieldB] using hf
      have hu : isW [61] u = true := by simp [isW, hf'.2.1, hf'.2.2]
      have G2 := (G.1 _ _ (name_exp (us := us) hf'.1 hu)).2
      have G3 := (Gw.look G2).pos ⟨hu, rfl⟩
      show wpKid (wpHang (hdZ 5) [wpLabel]) _ (fun s' => WpSeq [wpSkip, expP N] s' (FinK K) E) E
      refine kid_mk (by simp) ⟨t, u :: us, t.2.1, rfl, .inl ⟨rfl, rfl⟩, ⟨t, u :: us, rfl, fun _ => ⟨by dsimp only; omega, KidK.mk ?_⟩, fun h => absurd hf'.1 h⟩⟩
      have hz : Ast.sizeL [ndS 5 t.2.1 (bts t.2.2.2) []] = 1 := by rw [sz1, size_ndS, sizeL_nil]
      have hI2 : Rm N k ⟨hdL 17 t.2.1, [ndS 5 t.2.1 (bts t.2.2.2) []], u :: us, n + Ast.sizeL [ndS 5 t.2.1 (bts t.2.2.2) []]⟩ := ⟨by show (u :: us).length < N; rw [List.length_cons] at hlen; omega, by show n + Ast.sizeL _ + 2 * (u :: us).length + k ≤ 60000; rw [hz]; rw [List.length_cons] at hn; omega, by show 1 + 2 * (u :: us).length + k ≤ 60000; rw [List.length_cons, List.length_nil] at hx; omega, hI.wf.tail (by rw [hf'.1]; decide)⟩
      exact skip_same hI2 (isW_nz hu) fun hI => exp_kid hI G3.tok fun v _ hI _ G => fin_mk hI G.ret
  · have G := Gw.call (G.neg (by simp [hw]))
    refine kid_mk (by simp) ⟨hlen, by show n + 2 * (t :: ts).length ≤ 60000; omega, hI.wf.lin, G.mono fun (e : Ast) ts' p hq => KidK.mk ?_⟩
    have hz : e.size + 2 * ts'.length + 1 ≤ 2 * (t :: ts).length := hq.1
    have hwf := p.wf hI.wf
    obtain ⟨u, us, rfl⟩ := hwf.fin.cons
    have hno : ¬ (isW [61] u = true ∧ e.hd.kind = 7) := fun ⟨h1, h2⟩ => by
      have h3 : kd7 (t :: ts) e (u :: us) := p.holds n_all
      obtain ⟨t', e1, e2⟩ := h3 h2
      injection e1 with e3 e4
      subst e3 e4
      have h5 : u.1 = 5 ∧ u.2.2.2 = [61] := by
        have hl := (hwf.lin u (List.mem_cons_self ..)).2
        rcases isW_cases h1 with ⟨l, m, rfl⟩ | ⟨l, m, rfl⟩
        · exact absurd rfl (hl rfl)
        · exact ⟨rfl, rfl⟩
      simp [fieldT, fieldB, e2, h5.1, h5.2] at hf
    refine ⟨by show n + Ast.sizeL [e] ≤ _; rw [sz1]; omega, ?_⟩
    exact ((Gw.look hq.2).neg hno).ret
def rtP (N : Nat) (op : Int) : WpA := wpG N (gExp (opB op + 1).toNat)
theorem exp_kidS {α : Type} {K : α → List TkP → Prop} {s : Nat} {kk : Ast → GL α} (hI : Rm N k ⟨h, xs, ts, n⟩) (H : Gw (.call (.exp s) kk) ts K E)
    (hk : ∀ (e : Ast) (ts' : List TkP), Rm N (k + 1) ⟨h, xs ++ [e], ts', n + Ast.sizeL [e]⟩ → ts'.length < ts.length → Gw (kk e) ts' K E → K' ⟨h, xs ++ [e], ts', n + Ast.sizeL [e]⟩) : wpKid (wpG N (gExp s)) ⟨h, xs, ts, n⟩ K' E := by
  refine kid_mk (by have := hI.xs; dsimp only at *; omega) ⟨hI.len, by have := hI.n; dsimp only at *; omega, hI.wf.lin, ?_⟩
  refine (Gw.call H).mono fun (e : Ast) ts' p hq => ?_
  have hz : e.size + 2 * ts'.length + 1 ≤ 2 * ts.length := hq.1
  exact KidK.mk (hk e ts' (hI.kids (by rw [sz1]; omega) (PL.short p) (p.wf hI.wf)) (by omega) hq.2)
theorem lvm_mk {s : Nat} {l : Int} (hs : l + 1 = (s : Int)) (hl0 : 0 ≤ l) : ∀ (m : Nat) (ts : List TkP) (a : Ast) (k : Nat), ts.length < m → Rm N k ⟨hdL 0 0, [a], ts, n + a.size⟩ → Gw (bodyL (.lvm s a) : GL Ast) ts K E → wpLvm (rtP N) l m a ts n K E := by
  intro m
  induction m with
  | zero => intro ts a k h; omega
  | succ m ih =>
    intro ts a k h1 hI H
    obtain ⟨t, r, rfl⟩ := hI.wf.fin.cons
    have G := Gw.look H
    refine ⟨t, r, rfl, fun hle => ?_, fun hgt => ?_⟩
    · cases ho : binO t with
      | none => rw [ho] at G; exact G.ret
      | some o =>
        rw [ho] at G
        have hb := binO_facts ho
        rw [hb.1] at hle
        exact (G.neg (by show ¬ s ≤ o.2.1; omega)).ret
    · cases ho : binO t with
      | none =>
        rw [binN_none ho] at hgt
        exact absurd (show opS 0 ≤ l from hl0) hgt
      | some o =>
        rw [ho] at G
        have hb := binO_facts ho
        rw [hb.1] at hgt ⊢
        have G2 := (G.pos (show s ≤ o.2.1 by omega)).tok
        have he : (opB o.1 + 1).toNat = o.2.2 := by rw [hb.2.2.1]; rfl
        have hI2 : Rm N k ⟨⟨12, t.2.1, o.1, 0, ⟨#[]⟩, [], []⟩, [a], t :: r, n + a.size⟩ := ⟨hI.len, hI.n, hI.xs, hI.wf⟩
        refine skip_same hI2 (binO_nz ho) fun hI => ?_
        show wpKid (wpG N (gExp (opB o.1 + 1).toNat)) _ _ _
        rw [he]
        refine exp_kidS hI G2 fun y r2 hI hlt G => ⟨by have := hI.n; dsimp only at *; omega, ?_⟩
        have G3 := (Gw.call G).mono (K' := K) fun v ts2 _ hv => hv.2.ret
        refine ih r2 _ 0 (by simp at h1; omega) ⟨hI.len, ?_, ?_, hI.wf⟩ G3
        · have h1 := hI.n
          rw [sz1] at h1
          show n + Ast.size (ndO 12 t.2.1 o.1 [a, y]) + 2 * r2.length + 0 ≤ 60000
          rw [size_ndO, sizeL_cons, sz1]
          dsimp only at h1
          omega
        · have h1 := hI.xs
          show 1 + 2 * r2.length + 0 ≤ 60000
          dsimp only at h1
          omega
theorem lvm12 {x : Ast} {ts : List TkP} {r : Except Int (Ast × List TkP)} (h : PL (bodyL (.lvm 12 x) : GL Ast) ts r) : r = .ok (x, ts) := by
  cases ts with
  | nil => cases h
  | cons t ts =>
    cases ho : binO t with
    | none => exact P.one h (.look (by rw [ho]; exact .ret))
    | some o =>
      have hb := binO_facts ho
      have hno : ¬ 12 ≤ o.2.1 := by
        have : opS o.1 ≤ 10 := by
          obtain ⟨_, _, _, h7, h8⟩ := hb
          have h9 : o.1 = 1 ∨ o.1 = 2 ∨ o.1 = 3 ∨ o.1 = 4 ∨ o.1 = 5 ∨ o.1 = 6 ∨ o.1 = 7 ∨ o.1 = 8 ∨ o.1 = 9 ∨ o.1 = 10 ∨ o.1 = 11 ∨ o.1 = 12 ∨ o.1 = 13 ∨ o.1 = 14 ∨ o.1 = 15 ∨ o.1 = 16 ∨ o.1 = 17 ∨ o.1 = 18 ∨ o.1 = 19 := by omega
          rcases h9 with h | h | h | h | h | h | h | h | h | h | h | h | h | h | h | h | h | h | h <;> (rw [h]; decide)
        omega
      exact P.one h (lvm_weak ho hno x ts)
theorem exp12 {ts : List TkP} {r : Except Int (Ast × List TkP)} (h : PL (gExp 12) ts r) : PL gUna ts r := by
  cases h with
  | @call _ n k ts ts1 v r h1 h2 =>
    cases h2 with
    | @call _ n2 k2 ts ts2 v2 r h3 h4 =>
      have h5 := lvm12 (x := v) h3
      injection h5 with h5
      injection h5 with h6 h7
      cases h4
      have h8 : PL gUna ts (.ok ((v : Ast), ts1)) := h1
      have e6 : (v2 : Ast) = v := h6
      show PL gUna ts (.ok ((v2 : Ast), ts2))
      rw [e6, h7]
      exact h8
    | callBad h3 =>
      have h5 := lvm12 (x := v) h3
      cases h5
  | callBad h1 => exact h1
end
end Go.Proofs.YtfpeecjafccfjaaGreatDoor
namespace Go.Proofs.YtfpeecjafccfjaaGreatDoor
open Go.RowKit
theorem nd_at : ∀ (L : List NdV) (p : Nat) (t : NdV), L[p]? = some t → (L.flatMap ndCells)[p * 7]? = some (.int .i64 t.1.kind)
  | [], p, t, h => by simp at h
  | u :: L, 0, t, h => by
    obtain rfl : u = t := by simpa using h
    rfl
  | u :: L, p + 1, t, h => by
    have := nd_at L p t (by simpa using h)
    rw [List.flatMap_cons, List.getElem?_append_right (by rw [ndCells_len]; omega), ndCells_len, show (p + 1) * 7 - 7 = p * 7 by omega]
    exact this
theorem addr_pl (g j : Nat) : (⟨g, 0, none⟩ : Addr).add j = ⟨g, j, none⟩ := by unfold Addr.add; split <;> simp_all
theorem PS.kind {W : World} {b : Nat} {O : Nat → Prop} {ts : List TkP} {T0 T : List Nd} {a : Ast} {p : Nat} (h : PS W b O ts T) (hl : Lies T0 T [a] [(p : Int)]) :
    ∃ g c, W.cell? ⟨b, 2, none⟩ = some (.slice (some ⟨g, 0, none⟩) T.length c) ∧ T.length ≤ c ∧ p < T.length ∧ W.cell? ⟨g, p * 7, none⟩ = some (.int .i64 a.hd.kind) ∧ O g := by
  obtain ⟨TS, i, g0, c0, nv, L, a1, a2, a3, a4, a5, a6, a7⟩ := h.ex
  obtain ⟨_, js, hr, _⟩ := hl
  unfold Reps at hr
  obtain ⟨k, ks', j1, j2, e1, hr, _, _⟩ := hr
  have hk : k = p := by
    injection e1 with e1 _
    omega
  subst hk
  obtain ⟨hd, kids0⟩ := a
  unfold Rep at hr
  obtain ⟨x, js', hx, hxe, _, _⟩ := hr
  have hlt := (List.getElem?_eq_some_iff.1 hx).1
  have hL : L.length = T.length := by rw [← a7, List.length_map]
  have hrow := a6.row
  obtain ⟨g, c, rfl, _, _⟩ := hrow.form (by omega)
  obtain ⟨A, c1, e2, hc⟩ := row_form hrow
  have hcc : c = c1 := by injection e2
  have hLp : ∃ t, L[k]? = some t ∧ t.1 = x := by
    rw [← a7, List.getElem?_map] at hx
    cases hq : L[k]? with
    | none => rw [hq] at hx; simp at hx
    | some t => rw [hq] at hx; exact ⟨t, rfl, by simpa using hx⟩
  obtain ⟨t, ht, htx⟩ := hLp
  have hcell := hrow.cells (g := g) rfl (k * 7) _ (nd_at L k t ht)
  refine ⟨g, c, by rw [← hL]; simp [World.cell?, a1], by rw [← hL, hcc]; exact hc, hlt, ?_⟩
  have hkind : t.1.kind = hd.kind := by rw [htx, hxe]
  have hplus : (⟨g, 0, none⟩ : Addr).add (k * 7) = ⟨g, k * 7, none⟩ := addr_pl g (k * 7)
  rw [hplus, hkind] at hcell
  exact ⟨hcell, a6.own g rfl⟩
theorem Real.kind {W : World} {b n : Nat} {O : Nat → Prop} {T0 : List Nd} {s : St} (h : Real W b n O T0 s) (k : Int) : (∃ v, W.cell? ⟨n, 0, none⟩ = some (.int .i64 v)) ∧ W.frozen? ⟨n, 0, none⟩ = false ∧ n < W.heap.size ∧ Fr O W (W.setCell ⟨n, 0, none⟩ (.int .i64 k)) ∧
    Real (W.setCell ⟨n, 0, none⟩ (.int .i64 k)) b n O T0 { s with h := { s.h with kind := k } } := by
  obtain ⟨Op, On, T, ks, hO, hd, hp, hn, hl, hc⟩ := h.ex
  obtain ⟨nv, kv, hcs, _, hz⟩ := hn.cells
  have hf := hn.fr 0 (.int .i64 k)
  refine ⟨⟨_, hcs.c0⟩, hz 0, (hn.own n hn.at_).2, hf.mono fun j hj => (hO j).2 (.inr (hj ▸ hn.at_)), ⟨Op, On, T, ks, hO, hd, ?_, hn.putHead 0 _ rfl rfl fun _ _ => rfl, hl, hc⟩⟩
  exact hp.kept (O1 := (· = n)) hf (fun j hj e => hd j hj (e ▸ hn.at_)) fun j e => by have := (hn.own n hn.at_).1; omega
theorem place_into {w1 : World} {b n p : Nat} {Op1 On : Nat → Prop} {h : Nd} {a : Ast} {ks0 : List Int} {ts1 : List TkP} {T0 T1 : List Nd} (hp : PS w1 b Op1 ts1 T1) (hn : NU w1 b n On { h with kids := ks0 }) (hd : ∀ k, Op1 k → ¬ On k) (hl : Lies T0 T1 [a] [(p : Int)]) :
    ∃ v, (w1.alloc (.cells #[.int .i64 (p : Int)] 3)).cell? ⟨n, 6, none⟩ = some v ∧ (w1.alloc (.cells #[.int .i64 (p : Int)] 3)).frozen? ⟨n, 6, none⟩ = false ∧ n < w1.heap.size ∧
      Fr On w1 ((w1.alloc (.cells #[.int .i64 (p : Int)] 3)).setCell ⟨n, 6, none⟩ (.slice (some ⟨w1.heap.size, 0, none⟩) 1 1)) ∧
      PS ((w1.alloc (.cells #[.int .i64 (p : Int)] 3)).setCell ⟨n, 6, none⟩ (.slice (some ⟨w1.heap.size, 0, none⟩) 1 1)) b Op1 ts1 T1 ∧
      Real ((w1.alloc (.cells #[.int .i64 (p : Int)] 3)).setCell ⟨n, 6, none⟩ (.slice (some ⟨w1.heap.size, 0, none⟩) 1 1)) b n (fun k => Op1 k ∨ (On k ∨ k = w1.heap.size)) T0 ⟨h, [a], ts1, T1.length⟩ := by
  obtain ⟨nv, kv, ha, hi⟩ := hn.ex
  have hnl := (hn.own n hn.at_).2
  have hbn := (hn.own n hn.at_).1
  have hf : Fr (fun k => kv.ownBlock = some k) w1 (w1.alloc (.cells #[.int .i64 (p : Int)] 3)) := (Fr.refl _ _).alloc _
  obtain ⟨c6, z6, hn4, hfr, hnu⟩ := nu_kids ha hi hn.at_ hn.own hf
  have hb1 : b + 1 ≤ w1.heap.size := (hp.own b hp.at_).2
  have hrow : IRow (w1.alloc (.cells #[.int .i64 (p : Int)] 3)) b (.slice (some ⟨w1.heap.size, 0, none⟩) 1 1) [(p : Int)] := ⟨rfl, .inr ⟨w1.heap.size, 1, #[.int .i64 (p : Int)], rfl, hb1, World.alloc_heap_new w1 _, Nat.le_refl _, by unfold maxLen; omega, rfl, rfl⟩⟩
  have hfn := hfr (.slice (some ⟨w1.heap.size, 0, none⟩) 1 1)
  have hpA := hp.below (allocB w1 (.cells #[.int .i64 (p : Int)] 3))
  have hp2 : PS ((w1.alloc (.cells #[.int .i64 (p : Int)] 3)).setCell ⟨n, 6, none⟩ (.slice (some ⟨w1.heap.size, 0, none⟩) 1 1)) b Op1 ts1 T1 := hpA.kept (O1 := (· = n)) hfn (fun k hk e => hd k hk (e ▸ hn.at_)) fun k e => by omega
  refine ⟨kv, c6, z6, hnl, ((Fr.refl On w1).alloc _).trans hfn (fun k e => .inl (e ▸ hn.at_)), hp2, ⟨Op1, fun k => On k ∨ k = w1.heap.size, T1, [(p : Int)], fun _ => Iff.rfl, fun k hk e => ?_, hp2, ?_, hl, rfl⟩⟩
  · rcases e with e | e
    · exact hd k hk e
    · have := (hp.own k hk).2; omega
  · exact hnu w1.heap.size 1 1 [(p : Int)] hrow (.inr (Nat.le_refl _))
theorem Lies.same {T0 T : List Nd} {ks : List Int} (h : Lies T0 T [] ks) : T = T0 ∧ ks = [] := by
  have h1 := h.len
  have h2 := h.num
  obtain ⟨p1, _⟩ := h
  rw [Ast.sizeL] at h1
  exact ⟨(List.IsPrefix.eq_of_length p1 (by omega)).symm, List.eq_nil_of_length_eq_zero (by simpa using h2)⟩
def tgC (sf : WpA) : WpA := fun ts n K E => sf ts n (fun a ts1 => (isVar a → K a ts1) ∧ (¬ isVar a → ∃ t r, ts1 = t :: r ∧ E t.2.1)) E
set_option maxHeartbeats 4000000 in
theorem target_p {sf : WpA} (hS : Rds 126 sf) : Rds 153 (tgC sf) := by
  intro b O ts T0 K E w hp hk
  have HA := Lib.hid (hS b O ts T0 _ E w hp hk)
  clear hp hk hS
  go_enter Tryz.func153, Tryz.ntmps153
  go_wp2_with fail
  refine HA.out.mono ?_; intro e w1 h1
  have F1 := Lib.hid h1.1
  rcases h1.2 with ⟨p, a, ts1, O1, T1, rfl, p1, x1, l1, k1⟩ | ⟨le, v, er, rfl, ⟨g', rfl, m2, m3⟩, k1⟩
  · obtain ⟨g, c, c2, hc, hpl, ck, _⟩ := p1.kind l1
    have hb : b < w1.heap.size := World.block_lt_of_cell? w1 _ c2
    have P1 := Lib.hid p1
    have X1 := Lib.hid x1
    have L1 := Lib.hid l1
    have K1 := Lib.hid k1
    clear h1 p1 x1 l1 k1 HA
    obtain ⟨kd, hkd⟩ : ∃ kd, kd = a.hd.kind := ⟨_, rfl⟩
    rw [← hkd] at ck
    by_cases hv : isVar a
    · have HV := Lib.hid hv
      unfold isVar at hv
      rw [← hkd] at hv
      clear hkd
      rcases hv with rfl | rfl <;>
      · go_wp2_with fail
        go_ret2
        exact ⟨F1.out, .inl ⟨p, a, ts1, O1, T1, rfl, P1.out, X1.out, L1.out, K1.out.1 HV.out⟩⟩
    · obtain ⟨t, r, rfl, hE⟩ := K1.out.2 hv
      have HX := Lib.hid (wrong_p b O1 t r T1 w1 P1.out)
      unfold isVar at hv
      rw [← hkd] at hv
      have g1 : (kd == 7) = false := beq_eq_false_iff_ne.2 fun e => hv (.inl e)
      have g2 : (kd == 8) = false := beq_eq_false_iff_ne.2 fun e => hv (.inr e)
      have g1' : (kd != 7) = true := bne_iff_ne.2 fun e => hv (.inl e)
      have g2' : (kd != 8) = true := bne_iff_ne.2 fun e => hv (.inr e)
      have HE := Lib.hid hE
      clear hkd hv hE
      go_wp2_with fail
      refine HX.out.mono ?_; rintro e w3 ⟨v, rfl, m, b3⟩
      have M := Lib.hid m
      have B3 := Lib.hid b3
      clear m b3
      go_wp2_with fail
      go_ret2
      obtain ⟨g', e1, e2, e3⟩ := M.out
      exact ⟨F1.out.trans (Fr.of_below (O := O1) B3.out) X1.out, .inr ⟨_, _, _, rfl, ⟨g', e1, Nat.le_trans F1.out.size e2, e3⟩, HE.out⟩⟩
  · have M3 := Lib.hid m3
    have M2 := Lib.hid m2
    have K1 := Lib.hid k1
    clear h1 m2 m3 k1
    go_wp2_with fail
    go_ret2
    exact ⟨F1.out, .inr ⟨le, _, _, rfl, ⟨g', rfl, M2.out, M3.out⟩, K1.out⟩⟩
end Go.Proofs.YtfpeecjafccfjaaGreatDoor
namespace Go.Proofs.YtfpeecjafccfjaaGreatDoor
open Go.RowKit
def begunC (sf : WpA) (tg li : Wp1) : Wp1 := fun s K E => s.xs = [] ∧ sf s.ts s.n (fun a ts1 => (a.hd.kind = 9 ∨ a.hd.kind = 10 → K ⟨{ s.h with kind := 21 }, [a], ts1, s.n + Ast.sizeL [a]⟩) ∧
  (isVar a → WpSeq [wpPerhaps [44] [tg], wpCount, wpWords [[61]], li] ⟨{ s.h with kind := 20 }, [a], ts1, s.n + Ast.sizeL [a]⟩ K E) ∧ (¬ (a.hd.kind = 9 ∨ a.hd.kind = 10) → ¬ isVar a → ∃ t r, ts1 = t :: r ∧ E t.2.1)) E
theorem perhaps_at' (w : World) (g : Nat) (hg : g = w.heap.size) (b : Nat) (O : Nat → Prop) (hO : ∀ k, O k → k < w.heap.size) (vs : List Value) (wps : List Wp1) (hl : vs.length ≤ 100) (h : Alls w b O vs wps) (x : List UInt8) (hx : x ≠ []) (X : ByteArray) (hX : X = bts x) :
    Calls Tryz.prog 39 #[.pointer (some ⟨b, 0, none⟩), .string X, .slice (some ⟨g, 0, none⟩) vs.length vs.length] (w.alloc (.cells vs.toArray 89)) (NewPart b O (wpPerhaps x wps) w) := by
  subst hg
  exact perhaps_at w b O hO vs wps hl h x hx X hX
set_option maxRecDepth 20000 in
set_option maxHeartbeats 8000000 in
theorem begun_p {sf : WpA} {tg li : Wp1} (hS : Rds 126 sf) (hTg : RdN 127 tg) (hL : RdN 80 li) : RdN 93 (begunC sf tg li) := by
  rintro b n O T0 ⟨sh, sxs, sts, sn⟩ K E w hr ⟨hx, hk⟩
  obtain ⟨Op, On, T, ks, hO, hd, hp, hn, hl, hc⟩ := hr.ex
  dsimp only at hx hk hp hn hl hc
  subst hx
  obtain ⟨rfl, rfl⟩ := hl.same
  subst hc
  have HA := Lib.hid (hS b Op sts T _ E w hp hk)
  have HN := Lib.hid hn
  have HO := Lib.hid hO
  have HD := Lib.hid hd
  have hat := hn.at_
  have HOn : Hid (∀ k, On k → k < w.heap.size) := Lib.hid fun k hk => (hn.own k hk).2
  have hbn : b < n := (hn.own n hat).1
  have HAT := Lib.hid hat
  clear hp hk hr hn hO hd hl hS hat
  go_enter Tryz.func93, Tryz.ntmps93
  go_wp2_with fail
  refine HA.out.mono ?_; intro e w1 h1
  have F1 := Lib.hid h1.1
  have N1 := Lib.hid (HN.out.kept h1.1 fun k hk h => HD.out k h hk)
  rcases h1.2 with ⟨p, a, ts1, O1, T1, rfl, p1, x1, l1, k1⟩ | ⟨le, v, er, rfl, ⟨g', rfl, m2, m3⟩, k1⟩
  · have hd1 : ∀ k, O1 k → ¬ On k := fun k hk h => by
      rcases x1 k hk with h2 | h2
      · exact HD.out k h2 h
      · have := HOn.out k h; omega
    obtain ⟨v6, c6, z6, hnl, f2, p2, r2⟩ := place_into p1 N1.out hd1 l1
    obtain ⟨g, c, c2, hc, hpl, ck, hOg⟩ := p1.kind l1
    have hgn : g ≠ n := fun e => hd1 g hOg (e ▸ HAT.out)
    have hbn' : b ≠ n := by omega
    have hbl : b < w1.heap.size := by omega
    have hgl : g < w1.heap.size := (p1.own g hOg).2
    have hz2 : T1.length = T.length + Ast.sizeL [a] := l1.len
    rw [hz2] at r2
    obtain ⟨O2, hO2⟩ : ∃ O2 : Nat → Prop, O2 = fun k => O1 k ∨ (On k ∨ k = w1.heap.size) := ⟨_, rfl⟩
    rw [← hO2] at r2
    have X2 : Hid (Ext O O2 w) := Lib.hid fun k hk => by
      rw [hO2] at hk
      rcases hk with hk | hk | rfl
      · rcases x1 k hk with h | h
        · exact .inl ((HO.out k).2 (.inl h))
        · exact .inr h
      · exact .inl ((HO.out k).2 (.inr hk))
      · exact .inr h1.1.size
    have f3 : Fr O w ((w1.alloc (.cells #[.int .i64 (p : Int)] 3)).setCell ⟨n, 6, none⟩ (.slice (some ⟨w1.heap.size, 0, none⟩) 1 1)) := (h1.1.mono fun k hk => (HO.out k).2 (.inl hk)).trans f2 fun k hk => .inl ((HO.out k).2 (.inr hk))
    rw [World.setCell_alloc_past _ _ _ _ hnl] at r2 f3 p2
    have F2 := Lib.hid f3
    have P2 := Lib.hid p2
    have R2 := Lib.hid r2
    obtain ⟨nv1, kv1, hcs1, _, hz1⟩ := N1.out.cells
    have d0 := hcs1.c0
    have d6 := hcs1.c6
    have y0 := hz1 0
    have y6 := hz1 6
    clear hcs1 hz1
    have X1 := Lib.hid x1
    have K1 := Lib.hid k1
    clear h1 p1 x1 l1 k1 HA hd1 f2 f3 p2 r2 hz2 hOg c6 z6 hO2
    have hkK := K1.out
    obtain ⟨kd, hkd⟩ : ∃ kd, kd = a.hd.kind := ⟨_, rfl⟩
    rw [← hkd] at ck
    have hW6 : n < (w1.setCell ⟨n, 6, none⟩ (.slice (some ⟨w1.heap.size, 0, none⟩) 1 1)).heap.size := by simpa using hnl
    by_cases h9 : a.hd.kind = 9 ∨ a.hd.kind = 10
    · have HK := Lib.hid (hkK.1 h9)
      obtain ⟨_, _, _, f4, r4⟩ := R2.out.kind 21
      rw [World.setCell_alloc_past _ _ _ _ hW6] at f4 r4
      have F4 := Lib.hid (F2.out.trans f4 X2.out)
      have R4 := Lib.hid r4
      clear f4 r4 hkK K1 hW6
      rw [← hkd] at h9
      clear hkd
      rcases h9 with rfl | rfl <;>
      · go_wp2_with fail
        go_ret
        exact ⟨F4.out, .inl ⟨_, O2, rfl, R4.out, X2.out, HK.out⟩⟩
    · by_cases hv : isVar a
      · have HK := Lib.hid (hkK.2.1 hv)
        obtain ⟨_, _, _, f4, r4⟩ := R2.out.kind 20
        rw [World.setCell_alloc_past _ _ _ _ hW6] at f4 r4
        have F0 := Lib.hid (F2.out.trans f4 X2.out)
        have P0 := Lib.hid r4
        have V0 := Lib.hid (perhaps_at' _ (w1.heap.size + 1) (by simp) b O2 r4.lt [mval 127 b] [tg] (by simp) ⟨hTg.part (enters_of Tryz.func127 (by kernel_rfl) rfl) _ b O2, trivial⟩ [44] (by decide) ⟨#[44]⟩ rfl)
        clear f4 r4 hkK K1 hW6 h9
        unfold isVar at hv
        rw [← hkd] at hv
        clear hkd
        rcases hv with rfl | rfl <;>
        · go_wp2_with fail
          refine V0.out.mono ?_; rintro e w2 ⟨f2, a2, c2', rfl, b2, h2⟩
          have F2 := Lib.hid (F0.out.trans (Fr.of_below (O := O2) b2) X2.out)
          have P2 := Lib.hid (P0.out.below b2)
          have H2 := Lib.hid h2
          clear b2 h2 V0 c2 ck d0 d6 y0 y6
          have hOO : ∀ k, O2 k → k < w2.heap.size := P2.out.lt
          have V3 := Lib.hid (words_at w2 b O2 hOO [61] (by decide) ⟨#[61]⟩ rfl)
          clear hOO
          go_wp2_with fail
          refine V3.out.mono ?_; rintro e w3 ⟨f3, a3, c3, rfl, b3, h3⟩
          have F3 := Lib.hid (F2.out.trans (Fr.of_below (O := O2) b3) X2.out)
          have P3 := Lib.hid (P2.out.below b3)
          have L2 := Lib.hid (H2.out.later (Fr.of_below (O := O2) b3) (Ext.refl _ _))
          clear H2
          have H2 := L2
          clear L2
          have H3 := Lib.hid h3
          clear b3 h3 V3
          have HN := Lib.hid (fill_at w w3 P3.out F3.out X2.out [.func (.func f2) a2 c2', .func (.func 123) #[] #[], .func (.func f3) a3 c3, mval 80 b] [wpPerhaps [44] [tg], wpCount, wpWords [[61]], li] (by simp) ⟨H2.out, count_part w3 b O2, H3.out, hL.part (enters_of Tryz.func80 (by kernel_rfl) rfl) w3 b O2, trivial⟩ HK.out)
          go_wp2_with fail
          refine HN.out.mono ?_; intro e wz hz
          obtain ⟨v, rfl⟩ := hz.ret
          have HZ := Lib.hid hz
          clear hz
          go_wp2_with fail
          go_ret
          exact HZ.out
      · obtain ⟨t, r, rfl, hE⟩ := hkK.2.2 h9 hv
        have HX := Lib.hid (wrong_p b O1 t r T1 _ P2.out)
        unfold isVar at hv
        rw [← hkd] at h9 hv
        have q9 : (kd == 9) = false := beq_eq_false_iff_ne.2 fun e => h9 (.inl e)
        have q10 : (kd == 10) = false := beq_eq_false_iff_ne.2 fun e => h9 (.inr e)
        have q7 : (kd == 7) = false := beq_eq_false_iff_ne.2 fun e => hv (.inl e)
        have q8 : (kd == 8) = false := beq_eq_false_iff_ne.2 fun e => hv (.inr e)
        have HE := Lib.hid hE
        clear hkd h9 hv hE hkK K1 hW6
        go_wp2_with fail
        refine HX.out.mono ?_; rintro e w3 ⟨v, rfl, m, b3⟩
        have M := Lib.hid m
        have B3 := Lib.hid b3
        clear m b3
        go_wp2_with fail
        go_ret
        obtain ⟨g', e1, e2, e3⟩ := M.out
        exact ⟨F2.out.trans (Fr.of_below (O := O2) B3.out) X2.out, .inr ⟨_, _, rfl, ⟨g', e1, Nat.le_trans F2.out.size e2, e3⟩, HE.out⟩⟩
  · have M3 := Lib.hid m3
    have M2 := Lib.hid m2
    have K1 := Lib.hid k1
    clear h1 m2 m3 k1
    go_wp2_with fail
    go_ret
    exact ⟨F1.out.mono fun k hk => (HO.out k).2 (.inl hk), .inr ⟨le, _, rfl, ⟨g', rfl, M2.out, M3.out⟩, K1.out⟩⟩
end Go.Proofs.YtfpeecjafccfjaaGreatDoor
namespace Go.Proofs.YtfpeecjafccfjaaGreatDoor
open Go.RowKit
def retC (li : Wp1) : Wp1 := fun s K E => ∃ t r, s.ts = t :: r ∧ ((endB t = true ∨ isW [59] t = true) → K s) ∧ (endB t = false → isW [59] t = false → li s K E)
theorem real_over {W : World} {b n : Nat} {O : Nat → Prop} {T0 : List Nd} {s : St} (h : Real W b n O T0 s) {t : TkP} {ts : List TkP} (hs : s.ts = t :: ts) : Calls Tryz.prog 33 #[.pointer (some ⟨b, 0, none⟩)] W (OverPost W (endB t)) := by
  obtain ⟨Op, On, T, ks, hO, hd, hp, hn, hl, hc⟩ := h.ex
  rw [hs] at hp
  exact over_p b Op t ts T W hp
set_option maxHeartbeats 4000000 in
theorem returned_p {li : Wp1} (hL : RdN 80 li) : RdN 38 (retC li) := by
  rintro b n O T0 s K E w hr ⟨t, r, hs, h1, h2⟩
  have HV := Lib.hid (real_over hr hs)
  have HW := Lib.hid (fun W hW => real_word hr hs W hW)
  have HR := Lib.hid hr
  have HLi := Lib.hid (fun (W : World) (hW : Real W b n O T0 s) (hk : li s K E) => hL b n O T0 s K E W hW hk)
  have H1 := Lib.hid h1
  have H2 := Lib.hid h2
  clear hr hs h1 h2 hL
  cases he : endB t with
  | true =>
    rw [he] at HV
    have HE := Lib.hid he
    clear he HW
    go_enter Tryz.func38, Tryz.ntmps38
    go_wp2_with fail
    refine HV.out.mono ?_; rintro e w1 ⟨rfl, b1⟩
    have B1 := Lib.hid b1
    clear b1
    go_wp2_with fail
    go_ret
    exact ⟨Fr.of_below B1.out, .inl ⟨s, O, rfl, HR.out.below B1.out, Ext.refl _ _, H1.out (.inl HE.out)⟩⟩
  | false =>
    rw [he] at HV
    cases hq : isW [59] t with
    | true =>
      have g1 : ((wordS t).toList == [59]) = true := word_is (s := [59]) (by decide) t hq
      have HK := Lib.hid (H1.out (.inr hq))
      generalize wordS t = Y at *
      clear he hq
      go_enter Tryz.func38, Tryz.ntmps38
      go_wp2_with fail
      refine HV.out.mono ?_; rintro e w1 ⟨rfl, b1⟩
      have B1 := Lib.hid b1
      have HW1 := Lib.hid (HW.out w1 b1)
      clear b1
      go_wp2_with fail
      refine HW1.out.mono ?_; rintro e w2 ⟨rfl, b2⟩
      have B2 := Lib.hid (thenBR B1.out b2)
      clear b2
      go_wp2_with fail
      go_ret
      exact ⟨Fr.of_below B2.out, .inl ⟨s, O, rfl, HR.out.below B2.out, Ext.refl _ _, HK.out⟩⟩
    | false =>
      have g1 : ((wordS t).toList == [59]) = false := word_is (s := [59]) (by decide) t hq
      have HK := Lib.hid (H2.out he hq)
      generalize wordS t = Y at *
      clear he hq
      go_enter Tryz.func38, Tryz.ntmps38
      go_wp2_with fail
      refine HV.out.mono ?_; rintro e w1 ⟨rfl, b1⟩
      have B1 := Lib.hid b1
      have HW1 := Lib.hid (HW.out w1 b1)
      clear b1
      go_wp2_with fail
      refine HW1.out.mono ?_; rintro e w2 ⟨rfl, b2⟩
      have B2 := Lib.hid (thenBR B1.out b2)
      have HN := Lib.hid (HLi.out w2 (HR.out.below B2.out) HK.out)
      clear b2
      go_wp2_with fail
      refine HN.out.mono ?_; intro e wz hz
      obtain ⟨v, rfl⟩ := hz.ret
      have HZ := Lib.hid (hz.after (Fr.of_below B2.out))
      clear hz
      go_wp2_with fail
      go_ret
      exact HZ.out
theorem post_ext {b n : Nat} {O O1 : Nat → Prop} {T0 : List Nd} {K : St → Prop} {E : Int → Prop} {w w1 w' : World} {e : Ending} (h : PartPost b n O1 T0 K E w1 e w') (hf : Fr O w w1) (he : Ext O O1 w) : PartPost b n O T0 K E w e w' := by
  obtain ⟨h1, h2⟩ := h
  refine ⟨hf.trans h1 he, h2.imp ?_ ?_⟩
  · rintro ⟨s', O', e1, r1, x1, k1⟩
    exact ⟨s', O', e1, r1, he.trans x1 hf.size, k1⟩
  · rintro ⟨l, v, e1, ⟨g, m1, m2, m3⟩, k⟩
    exact ⟨l, v, e1, ⟨g, m1, Nat.le_trans hf.size m2, m3⟩, k⟩
def wpStm (sta : WpA) (li : Wp1) : Nat → Wp1
  | 0 => fun _ _ _ => False
  | k + 1 => fun s K E => ∃ t r, s.ts = t :: r ∧ (endB t = true → K s) ∧ (endB t = false → (isW [59] t = true → wpStm sta li k { s with ts := r } K E) ∧
    (isW [59] t = false → (isW wReturn t = true → wpKid (wpHang (hdZ 29) [wpSkip, retC li, wpPerhaps [59] []]) s K E) ∧ (isW wReturn t = false → wpKid sta s (fun s' => wpStm sta li k s' K E) E)))
def stmC (sta : WpA) (li : Wp1) : Wp1 := fun s K E => ∃ m, wpStm sta li m s K E
set_option maxRecDepth 20000 in
set_option maxHeartbeats 8000000 in
theorem statements_p {sta : WpA} {li : Wp1} (hS : Rds 41 sta) (hL : RdN 80 li) : RdN 18 (stmC sta li) := by
  rintro b n O T0 s K E w hr ⟨m, hk⟩
  have HR := Lib.hid hr
  have HK := Lib.hid hk
  have HSt := Lib.hid (fun (W : World) (b : Nat) (O : Nat → Prop) => hS.one (enters_of Tryz.func41 (by kernel_rfl) rfl) W b O)
  have HRt := Lib.hid (fun (W : World) (b : Nat) (O : Nat → Prop) => (returned_p hL).part (enters_of Tryz.func38 (by kernel_rfl) rfl) W b O)
  clear hr hk hS hL
  go_enter Tryz.func18, Tryz.ntmps18
  go_wp2_with fail
  go_loopg [] m (fun z wr => ∃ (O1 : Nat → Prop) (s1 : St), Real wr b n O1 T0 s1 ∧ Fr O w wr ∧ Ext O O1 w ∧ wpStm sta li z s1 K E)
  case atStart => exact ⟨O, s, HR.out, Fr.refl _ _, Ext.refl _ _, HK.out⟩
  case round =>
    obtain ⟨O1, s1, hr1, hf1, he1, hk1⟩ := hrel
    have HR1 := Lib.hid hr1
    have HF1 := Lib.hid hf1
    have HE1 := Lib.hid he1
    cases gk with
    | zero => exact hk1.elim
    | succ z =>
      obtain ⟨t, r, hs, hy, hn⟩ := hk1
      have HV := Lib.hid (real_over hr1 hs)
      have HS1 := Lib.hid hs
      clear hr1 hf1 he1
      cases he : endB t with
      | true =>
        rw [he] at HV
        have HKK := Lib.hid (hy he)
        clear hy hn hs he
        go_wp2_with fail
        refine HV.out.mono ?_; rintro e w1 ⟨rfl, b1⟩
        have B1 := Lib.hid b1
        clear b1
        go_wp2_with fail
        go_ret
        exact ⟨HF1.out.trans (Fr.of_below (O := O1) B1.out) HE1.out, .inl ⟨s1, O1, rfl, HR1.out.below B1.out, HE1.out, HKK.out⟩⟩
      | false =>
        rw [he] at HV
        have hn1 := hn he
        clear hy hn he
        cases hq : isW [59] t with
        | true =>
          have HTk := Lib.hid (fun (W : World) (hW : Real W b n O1 T0 s1) => real_yes hW hs [59] ⟨#[59]⟩ rfl (by decide) hq)
          have HKK := Lib.hid (hn1.1 hq)
          clear hn1 hs hq
          go_wp2_with fail
          refine HV.out.mono ?_; rintro e w1 ⟨rfl, b1⟩
          have F2 := Lib.hid (HF1.out.trans (Fr.of_below (O := O1) b1) HE1.out)
          have HT := Lib.hid (HTk.out w1 (HR1.out.below b1))
          clear b1
          go_wp2_with fail
          refine HT.out.mono ?_; rintro e w2 ⟨rfl, r2, f2⟩
          have F3 := Lib.hid (F2.out.trans f2 HE1.out)
          have R2 := Lib.hid r2
          clear r2 f2
          go_wp2_with fail
          go_roundg z
          case measure => omega
          case rel => exact ⟨O1, _, R2.out, F3.out, HE1.out, HKK.out⟩
        | false =>
          have HTk := Lib.hid (fun (W : World) (hW : Real W b n O1 T0 s1) => real_no hW hs [59] ⟨#[59]⟩ rfl (by decide) hq)
          have hn2 := hn1.2 hq
          clear hn1 hq
          cases hq2 : isW wReturn t with
          | true =>
            have g1 : ((wordS t).toList == [114, 101, 116, 117, 114, 110]) = true := word_is (s := wReturn) (by decide) t hq2
            have HKK := Lib.hid (hn2.1 hq2)
            have HWd := Lib.hid (fun (W : World) (hW : Real W b n O1 T0 s1) => real_word hW hs W (Below.refl _ _))
            clear hn2 hs hq2
            generalize wordS t = Y at *
            go_wp2_with fail
            refine HV.out.mono ?_; rintro e w1 ⟨rfl, b1⟩
            have F2 := Lib.hid (HF1.out.trans (Fr.of_below (O := O1) b1) HE1.out)
            have HT := Lib.hid (HTk.out w1 (HR1.out.below b1))
            clear b1
            go_wp2_with fail
            refine HT.out.mono ?_; rintro e w2 ⟨rfl, r2, f2⟩
            have F3 := Lib.hid (F2.out.trans f2 HE1.out)
            have HW2 := Lib.hid (HWd.out w2 r2)
            have R2 := Lib.hid r2
            clear r2 f2 HTk HWd HT
            go_wp2_with fail
            refine HW2.out.mono ?_; rintro e w3 ⟨rfl, b3⟩
            have F4 := Lib.hid (F3.out.trans (Fr.of_below (O := O1) b3) HE1.out)
            have R3 := Lib.hid (R2.out.below b3)
            have HP := Lib.hid (perhaps_p b O1 [59] ⟨#[59]⟩ rfl (by decide) (.slice none 0 0) [] w3 (RdParts.nil _ _ _) R3.out.lt)
            clear b3
            go_wp2_with fail
            refine HP.out.mono ?_; rintro e w4 ⟨v, rfl, b4, h4, fi, fa, fc, rfl⟩
            have R4 := Lib.hid (R3.out.below b4)
            have F5 := Lib.hid (F4.out.trans (Fr.of_below (O := O1) b4) HE1.out)
            have HH := Lib.hid (hang_p b O1 (hdZ 29) (.slice none 0 0) _ _ (w4.alloc (.cells #[mval 37 b, mval 38 b, .func (.func fi) fa fc] 89)) (Nam.nil _ b) (RdParts.new (w := w4) (b := b) (O := O1) R4.out.lt [mval 37 b, mval 38 b, .func (.func fi) fa fc] [wpSkip, retC li, wpPerhaps [59] []] (by simp) ⟨skip_part w4 b O1, HRt.out w4 b O1, h4, trivial⟩) (fun k hk => by have := R4.out.lt k hk; simp; omega))
            clear b4 h4 HP
            go_wp2_with fail
            refine HH.out.mono ?_; rintro e w5 ⟨v, rfl, b5, h5⟩
            obtain ⟨f, first, cap, rfl, ent, hcall⟩ := h5.1.call R4.out (thenBR (allocB w4 _) b5) HKK.out
            have HCall := Lib.hid hcall
            clear h5 hcall b5
            unfold Enters at ent
            go_wp2_with fail
            refine HCall.out.mono ?_; intro e w6 h6
            obtain ⟨v, rfl⟩ := h6.ret
            have H6 := Lib.hid h6
            clear h6
            go_wp2_with fail
            go_ret
            exact post_ext H6.out F5.out HE1.out
          | false =>
            have g1 : ((wordS t).toList == [114, 101, 116, 117, 114, 110]) = false := word_is (s := wReturn) (by decide) t hq2
            have HKK := Lib.hid (hn2.2 hq2)
            have HWd := Lib.hid (fun (W : World) (hW : Real W b n O1 T0 s1) => real_word hW hs W (Below.refl _ _))
            clear hn2 hs hq2
            generalize wordS t = Y at *
            go_wp2_with fail
            refine HV.out.mono ?_; rintro e w1 ⟨rfl, b1⟩
            have F2 := Lib.hid (HF1.out.trans (Fr.of_below (O := O1) b1) HE1.out)
            have HT := Lib.hid (HTk.out w1 (HR1.out.below b1))
            clear b1
            go_wp2_with fail
            refine HT.out.mono ?_; rintro e w2 ⟨rfl, r2, f2⟩
            have F3 := Lib.hid (F2.out.trans f2 HE1.out)
            have HW2 := Lib.hid (HWd.out w2 r2)
            have R2 := Lib.hid r2
            clear r2 f2 HTk HWd HT
            go_wp2_with fail
            refine HW2.out.mono ?_; rintro e w3 ⟨rfl, b3⟩
            have F4 := Lib.hid (F3.out.trans (Fr.of_below (O := O1) b3) HE1.out)
            have R3 := Lib.hid (R2.out.below b3)
            have HP := Lib.hid (kid_p b O1 41 _ _ sta w3 (HSt.out w3 b O1) R3.out.lt)
            clear b3
            go_wp2_with fail
            refine HP.out.mono ?_; rintro e w4 ⟨v, rfl, b4, h4⟩
            obtain ⟨f, first, cap, rfl, ent, hcall⟩ := h4.1.call R3.out b4 HKK.out
            have HCall := Lib.hid hcall
            clear h4 hcall b4
            unfold Enters at ent
            go_wp2_with fail
            refine HCall.out.mono ?_; intro e w6 h6
            have F6 := Lib.hid (F4.out.trans h6.1 HE1.out)
            rcases h6.2 with ⟨s7, O7, rfl, r7, x7, k7⟩ | ⟨l, v, rfl, ⟨g', rfl, hg1, hg2⟩, k7⟩
            · have R7 := Lib.hid r7
              have X7 := Lib.hid (HE1.out.trans x7 F4.out.size)
              have K7 := Lib.hid k7
              clear h6 r7 x7 k7
              go_wp2_with fail
              go_roundg z
              case measure => omega
              case rel => exact ⟨O7, s7, R7.out, F6.out, X7.out, K7.out⟩
            · have M3 := Lib.hid hg2
              have HG := Lib.hid (Nat.le_trans F4.out.size hg1)
              have K7 := Lib.hid k7
              clear h6 hg1 hg2 k7
              go_wp2_with fail
              go_ret
              exact ⟨F6.out, .inr ⟨l, _, rfl, ⟨g', rfl, HG.out, M3.out⟩, K7.out⟩⟩
end Go.Proofs.YtfpeecjafccfjaaGreatDoor
namespace Go.Proofs.YtfpeecjafccfjaaGreatDoor
open Go.RowKit
theorem nu_names {W : World} {b n : Nat} {On : Nat → Prop} {x : Nd} (hn : NU W b n On x) (v : Value) (xs : List ByteArray) (hr : SRow W b v xs) (hne : xs ≠ []) : NU (W.setCell ⟨n, 5, none⟩ v) b n (fun k => On k ∨ v.ownBlock = some k) { x with names := xs } := by
  obtain ⟨nv, kv, ha, hi⟩ := hn.ex
  have hnd : NdIn W b (fun k => On k ∨ v.ownBlock = some k) { x with names := xs } v kv := ⟨hr, hi.kids, fun g hg => .inl (.inr hg), fun g _ => hne, fun g hg => .inl (hi.ok g hg)⟩
  refine ⟨⟨v, kv, set_cells ha _, hnd.set ha 5 v⟩, .inl hn.at_, fun k hk => ?_⟩
  have hsz : (W.setCell ⟨n, 5, none⟩ v).heap.size = W.heap.size := by simp [World.setCell]
  rw [hsz]
  rcases hk with hk | hk
  · exact hn.own k hk
  · have := hr.lt k hk; omega
theorem comma_moreN (W : World) (b n : Nat) (Op On : Nat → Prop) (hd : ∀ k, Op k → ¬ On k) : MoreN W b n Op On (mval 116 b) comF := by
  intro W1 x ts T _ hp hn
  obtain ⟨t, r, rfl⟩ := hp.fin.cons
  refine ⟨116, _, _, rfl, enters_of Tryz.func116 (by kernel_rfl) rfl, ?_⟩
  have hkeep : ∀ w', Fr (· = b) W1 w' → NU w' b n On x := fun w' hf => hn.kept hf fun k hk e => hd b hp.at_ (e ▸ hk)
  cases hc : isW [44] t with
  | true =>
    have e1 : comF (x.num, t :: r) = (true, x.num, r) := by simp [comF, commaF, hc]
    rw [e1]
    refine (comma_yes_p b Op t r T W1 hp hc).mono ?_
    rintro e w' ⟨rfl, h1, h2⟩
    exact ⟨rfl, h1, hkeep w' h2, h2.mono fun k hk => .inl hk⟩
  | false =>
    have e1 : comF (x.num, t :: r) = (false, x.num, t :: r) := by simp [comF, commaF, hc]
    rw [e1]
    refine (comma_no_p b Op t r T W1 hp hc).mono ?_
    rintro e w' ⟨rfl, h1, h2⟩
    exact ⟨rfl, h1, hkeep w' h2, h2.mono fun k hk => .inl hk⟩
set_option maxHeartbeats 4000000 in
theorem names_p : RdN 89 wpNames := by
  rintro b n O T0 ⟨sh, sxs, sts, sn⟩ K E w hr ⟨m, hm, hk⟩
  obtain ⟨Op, On, T, ks, hO, hd, hp, hn, hl, hc⟩ := hr.ex
  dsimp only at hk hp hn hl hc
  have HA := Lib.hid (names_row b n Op On { sh with kids := ks } sts T (mval 116 b) comF _ E m hm w hp hn hd (comma_moreN w b n Op On hd) hk)
  have HO := Lib.hid hO
  have HD := Lib.hid hd
  have HL := Lib.hid hl
  have HC := Lib.hid hc
  have HAT := Lib.hid hn.at_
  have HPB := Lib.hid hp.at_
  have HOW := Lib.hid hp.own
  have hnw : n < w.heap.size := (hn.own n hn.at_).2
  clear hr hp hn hl hc hk hO hd
  go_enter Tryz.func89, Tryz.ntmps89
  go_wp2_with fail
  refine HA.out.mono ?_; rintro e w1 ⟨f1, mm, n1, h1⟩
  have F1 := Lib.hid (f1.mono (O1 := O) fun k hk => (HO.out k).2 (hk.elim (fun e => .inl (e ▸ HPB.out)) (fun e => .inr (e ▸ HAT.out))))
  obtain ⟨nv, kv, hcs, _, hz⟩ := n1.cells
  have c5 := hcs.c5
  have z5 := hz 5
  have hnl : n < w1.heap.size := (n1.own n n1.at_).2
  have hbn : b < n := (n1.own n n1.at_).1
  have N1 := Lib.hid n1
  clear hcs hz n1
  rcases h1 with ⟨v, xs, ts, rfl, p1, r1, o1, ne1, len1, k1⟩ | ⟨l, er, rfl, ⟨g', rfl, m1, m2⟩, k1⟩
  · have P1 := Lib.hid p1
    have R1 := Lib.hid r1
    have O1 := Lib.hid o1
    have NE := Lib.hid ne1
    have K1 := Lib.hid k1
    obtain ⟨A, c, rfl, _⟩ := row_form r1
    clear p1 r1 o1 ne1 k1 f1
    go_wp2_with fail
    go_ret
    have f2 := N1.out.fr 5 (.slice A xs.length c)
    have hop : ∀ k, Op k → k ≠ n := fun k hk e => HD.out k hk (e ▸ HAT.out)
    refine ⟨F1.out.trans f2 (fun k hk => .inl (hk ▸ (HO.out n).2 (.inr HAT.out))), .inl ⟨_, fun k => Op k ∨ (On k ∨ (Value.slice A xs.length c).ownBlock = some k), rfl, ⟨Op, fun k => On k ∨ (Value.slice A xs.length c).ownBlock = some k, T, ks, fun _ => Iff.rfl, fun k hk h => ?_, P1.out.kept (O1 := (· = n)) f2 hop (fun k e => by omega), nu_names N1.out _ xs R1.out NE.out, HL.out, HC.out⟩, fun k hk => ?_, K1.out⟩⟩
    · rcases h with h | h
      · exact HD.out k hk h
      · have := O1.out k h; have := (HOW.out k hk).2; omega
    · rcases hk with hk | hk | hk
      · exact .inl ((HO.out k).2 (.inl hk))
      · exact .inl ((HO.out k).2 (.inr hk))
      · exact .inr (O1.out k hk)
  · have M2 := Lib.hid m2
    have K1 := Lib.hid k1
    have hgn : g' ≠ n := by omega
    clear m2 k1 f1
    go_wp2_with fail
    go_ret
    exact ⟨F1.out.trans (N1.out.fr 5 _) (fun k hk => .inl (hk ▸ (HO.out n).2 (.inr HAT.out))), .inr ⟨l, _, rfl, ⟨g', rfl, m1, (Below.heap_setCell _ _ _ g' hgn).trans M2.out⟩, K1.out⟩⟩
end Go.Proofs.YtfpeecjafccfjaaGreatDoor
namespace Go.Proofs.YtfpeecjafccfjaaGreatDoor
open Go.RowKit
def manyF : NmF := fun p => match p.2 with
  | [] => (false, p.1, [])
  | t :: r => if isW [46, 46, 46] t = true then (true, 1, r) else (decide (p.1 = 1), p.1, t :: r)
def NmPost (b n : Nat) (Op On : Nat → Prop) (x : Nd) (T : List Nd) (o : Bool × Int × List TkP) (w : World) (e : Ending) (w' : World) : Prop :=
  e = .returned (.bool o.1) ∧ PS w' b Op o.2.2 T ∧ NU w' b n On { x with num := o.2.1 } ∧ Fr (fun k => k = b ∨ k = n) w w'
set_option maxHeartbeats 4000000 in
theorem many_p (b n g1 g2 : Nat) (Op On O : Nat → Prop) (x : Nd) (t : TkP) (ts : List TkP) (T : List Nd) (w : World) (hp : PS w b Op (t :: ts) T) (hn : NU w b n On x) (hd : ∀ k, Op k → ¬ On k) (hO : ∀ k, k = b ∨ k = n → O k)
    (b1 : Box w O g1 #[.pointer (some ⟨b, 0, none⟩)] 84) (b2 : Box w O g2 #[.pointer (some ⟨n, 0, none⟩)] 88) : Calls Tryz.prog 176 #[.pointer (some ⟨g1, 0, none⟩), .pointer (some ⟨g2, 0, none⟩)] w (NmPost b n Op On x T (manyF (x.num, t :: ts)) w) := by
  have c1 := b1.cell 0
  have B2 := Lib.hid b2
  have HN := Lib.hid hn
  have hkeep : ∀ w', Fr (· = b) w w' → NU w' b n On x := fun w' hf => hn.kept hf fun k hk e => hd b hp.at_ (e ▸ hk)
  have HK := Lib.hid hkeep
  have HOO := Lib.hid hO
  have hbn : b < n := (hn.own n hn.at_).1
  have HD := Lib.hid hd
  have hg2 : g2 ≠ n := fun e => b2.2 (e ▸ hO n (.inr rfl))
  by_cases h1 : isW [46, 46, 46] t = true
  · have e1 : manyF (x.num, t :: ts) = (true, 1, ts) := by simp [manyF, h1]
    rw [e1]
    have HT := Lib.hid (take_yes_p b Op t ts T [46, 46, 46] ⟨#[46, 46, 46]⟩ rfl w hp (by decide) h1)
    clear hp hn hd hO b1 b2 hkeep h1 e1
    go_enter Tryz.func176, Tryz.ntmps176
    go_wp2_with fail
    refine HT.out.mono ?_; rintro e w1 ⟨rfl, p1, f1⟩
    have n1 := HK.out w1 f1
    obtain ⟨nv, kv, hcs, _, hz⟩ := n1.cells
    have c3 := hcs.c3
    have z3 := hz 3
    have c2 := (B2.out.later (f1.mono fun k hk => HOO.out k (.inl hk)) (Ext.refl _ _)).cell 0
    have hnl : n < w1.heap.size := (n1.own n n1.at_).2
    have N1 := Lib.hid n1
    have P1 := Lib.hid p1
    have F1 := Lib.hid f1
    clear n1 p1 f1 hcs hz c1
    go_wp2_with fail
    go_ret
    have f2 := N1.out.fr 3 (.int .i64 1)
    exact ⟨rfl, P1.out.kept (O1 := (· = n)) f2 (fun k hk e => HD.out k hk (e ▸ N1.out.at_)) (fun k e => by omega), N1.out.putHead 3 _ rfl rfl fun _ _ => rfl, (F1.out.mono fun k hk => .inl hk).trans f2 (fun k hk => .inl (.inr hk))⟩
  · have h1f : isW [46, 46, 46] t = false := by simpa using h1
    have e1 : manyF (x.num, t :: ts) = (decide (x.num = 1), x.num, t :: ts) := by simp [manyF, h1]
    rw [e1]
    have HT := Lib.hid (take_no_p b Op t ts T [46, 46, 46] ⟨#[46, 46, 46]⟩ rfl w hp (by decide) h1f)
    clear hp hn hd hO b1 b2 hkeep h1 h1f e1
    go_enter Tryz.func176, Tryz.ntmps176
    go_wp2_with fail
    refine HT.out.mono ?_; rintro e w1 ⟨rfl, p1, f1⟩
    have n1 := HK.out w1 f1
    obtain ⟨nv, kv, hcs, _, hz⟩ := n1.cells
    have c3 := hcs.c3
    have c2 := (B2.out.later (f1.mono fun k hk => HOO.out k (.inl hk)) (Ext.refl _ _)).cell 0
    have hnl : n < w1.heap.size := (n1.own n n1.at_).2
    have N1 := Lib.hid n1
    have P1 := Lib.hid p1
    have F1 := Lib.hid f1
    clear n1 p1 f1 hcs hz c1
    go_wp2_with fail
    go_ret
    exact ⟨by congr 2 , P1.out, N1.out, F1.out.mono fun k hk => .inl hk⟩
theorem parF_no {m : Int} {t : TkP} {r : List TkP} (h : isW [44] t = false) : parF (m, t :: r) = (false, m, t :: r) := by simp [parF, h]
theorem parF_yes {m : Int} {t u : TkP} {r : List TkP} (h : isW [44] t = true) : parF (m, t :: u :: r) = (!(manyF (m, u :: r)).1, (manyF (m, u :: r)).2.1, (manyF (m, u :: r)).2.2) := by
  cases h2 : isW [46, 46, 46] u <;> simp [parF, manyF, h, h2]
set_option maxHeartbeats 4000000 in
theorem par2_p (b n g1 g2 g3 : Nat) (Op On O : Nat → Prop) (x : Nd) (t : TkP) (ts : List TkP) (T : List Nd) (w : World) (hp : PS w b Op (t :: ts) T) (hn : NU w b n On x) (hd : ∀ k, Op k → ¬ On k) (hO : ∀ k, k = b ∨ k = n → O k)
    (b1 : Box w O g1 #[.pointer (some ⟨b, 0, none⟩)] 84) (b2 : Box w O g2 #[.pointer (some ⟨n, 0, none⟩)] 88) (b3 : Box w O g3 #[.func (.func 176) #[] #[.pointer (some ⟨g1, 0, none⟩), .pointer (some ⟨g2, 0, none⟩)]] 22) :
    Calls Tryz.prog 177 #[.pointer (some ⟨g1, 0, none⟩), .pointer (some ⟨g3, 0, none⟩)] w (NmPost b n Op On x T (parF (x.num, t :: ts)) w) := by
  have c1 := b1.cell 0
  have B1 := Lib.hid b1
  have B2 := Lib.hid b2
  have B3 := Lib.hid b3
  have hkeep : ∀ w', Fr (· = b) w w' → NU w' b n On x := fun w' hf => hn.kept hf fun k hk e => hd b hp.at_ (e ▸ hk)
  have HK := Lib.hid hkeep
  have HOO := Lib.hid hO
  have HD := Lib.hid hd
  by_cases h1 : isW [44] t = true
  · obtain ⟨u, us, rfl⟩ := (hp.fin.tail (isW_pos h1)).cons
    rw [parF_yes h1]
    have HT := Lib.hid (comma_yes_p b Op t (u :: us) T w hp h1)
    have ent := enters_of Tryz.func176 (by kernel_rfl) rfl
    unfold Enters at ent
    clear hp hn hd hO b1 b2 b3 hkeep h1
    go_enter Tryz.func177, Tryz.ntmps177
    go_wp2_with fail
    refine HT.out.mono ?_; rintro e w1 ⟨rfl, p1, f1⟩
    have fO := f1.mono (O1 := O) fun k hk => HOO.out k (.inl hk)
    have c3 := (B3.out.later fO (Ext.refl _ _)).cell 0
    have HM := Lib.hid (many_p b n g1 g2 Op On O x u us T w1 p1 (HK.out w1 f1) HD.out HOO.out (B1.out.later fO (Ext.refl _ _)) (B2.out.later fO (Ext.refl _ _)))
    generalize manyF (x.num, u :: us) = o at *
    obtain ⟨o1, o2, o3⟩ := o
    have F1 := Lib.hid f1
    clear p1 f1 fO c1
    go_wp2_with fail
    refine HM.out.mono ?_; rintro e w2 ⟨rfl, p2, n2, f2⟩
    have P2 := Lib.hid p2
    have N2 := Lib.hid n2
    have F2 := Lib.hid f2
    clear p2 n2 f2 c3
    go_wp2_with fail
    go_ret
    exact ⟨rfl, P2.out, N2.out, (F1.out.mono fun k hk => .inl hk).trans F2.out (Ext.refl _ _)⟩
  · have h1f : isW [44] t = false := by simpa using h1
    rw [parF_no h1f]
    have HT := Lib.hid (comma_no_p b Op t ts T w hp h1f)
    clear hp hn hd hO b1 b2 b3 hkeep h1 h1f
    go_enter Tryz.func177, Tryz.ntmps177
    go_wp2_with fail
    refine HT.out.mono ?_; rintro e w1 ⟨rfl, p1, f1⟩
    have N1 := Lib.hid (HK.out w1 f1)
    have P1 := Lib.hid p1
    have F1 := Lib.hid f1
    clear p1 f1 c1
    go_wp2_with fail
    go_ret
    exact ⟨rfl, P1.out, N1.out, F1.out.mono fun k hk => .inl hk⟩
theorem par_moreN {W : World} {b n g1 g2 g3 : Nat} {Op On O : Nat → Prop} (hd : ∀ k, Op k → ¬ On k) (hO : ∀ k, k = b ∨ k = n → O k)
    (b1 : Box W O g1 #[.pointer (some ⟨b, 0, none⟩)] 84) (b2 : Box W O g2 #[.pointer (some ⟨n, 0, none⟩)] 88) (b3 : Box W O g3 #[.func (.func 176) #[] #[.pointer (some ⟨g1, 0, none⟩), .pointer (some ⟨g2, 0, none⟩)]] 22) :
    MoreN W b n Op On (.func (.func 177) #[] #[.pointer (some ⟨g1, 0, none⟩), .pointer (some ⟨g3, 0, none⟩)]) parF := by
  intro W1 x ts T hf hp hn
  obtain ⟨t, r, rfl⟩ := hp.fin.cons
  have hf' := hf.mono (O1 := O) hO
  exact ⟨177, _, _, rfl, enters_of Tryz.func177 (by kernel_rfl) rfl, par2_p b n g1 g2 g3 Op On O x t r T W1 hp hn hd hO (b1.later hf' (Ext.refl _ _)) (b2.later hf' (Ext.refl _ _)) (b3.later hf' (Ext.refl _ _))⟩
end Go.Proofs.YtfpeecjafccfjaaGreatDoor
namespace Go.Proofs.YtfpeecjafccfjaaGreatDoor
open Go.RowKit
theorem nu_strs {W W4 : World} {b n : Nat} {On : Nat → Prop} {x : Nd} {nv kv : Value} (ha : W.heap[n]? = some (.cells (ndCells (x, nv, kv)).toArray 35 (0, 0))) (hi : NdIn W b On x nv kv) (hat : On n) (hown : ∀ k, On k → b < k ∧ k < W.heap.size)
    (hf : Fr (fun k => nv.ownBlock = some k) W W4) :
    Fr On W W4 ∧ W4.cell? ⟨n, 5, none⟩ = some nv ∧ W4.frozen? ⟨n, 5, none⟩ = false ∧ n < W4.heap.size ∧ (∀ v, Fr (· = n) W4 (W4.setCell ⟨n, 5, none⟩ v)) ∧ ∀ (g m c : Nat) (xs : List ByteArray), SRow W4 b (.slice (some ⟨g, 0, none⟩) m c) xs → xs ≠ [] →
      NU (W4.setCell ⟨n, 5, none⟩ (.slice (some ⟨g, 0, none⟩) m c)) b n (fun k => On k ∨ k = g) { x with names := xs } := by
  have hne : ¬ nv.ownBlock = some n := fun e => by
    obtain ⟨cur, hc⟩ := row_type hi.names e
    rw [ha] at hc
    simp at hc
  have hfo : Fr On W W4 := ⟨hf.os, hf.tape, hf.output, hf.size, fun k hk hn => by
    by_cases e : nv.ownBlock = some k
    · rcases hi.on k e with h | h
      · exact (hn h).elim
      · exact hf.str k h
    · exact hf.block k hk e, hf.str⟩
  have hn4 : W4.heap[n]? = some (.cells (ndCells (x, nv, kv)).toArray 35 (0, 0)) := (hf.block n (hown n hat).2 hne).trans ha
  refine ⟨hfo, by simp [World.cell?, hn4, ndCells], by simp [World.frozen?, hn4], (Array.getElem?_eq_some_iff.1 hn4).1, fun v => Fr.set1 hn4 (by decide) 5 v, fun g m c xs hr hx => ?_⟩
  have hnd : NdIn W4 b (fun k => On k ∨ k = g) { x with names := xs } (.slice (some ⟨g, 0, none⟩) m c) kv := ⟨hr, row_kept hi.kids fun k hk => (hf.block k (hi.kids.lt k hk).2 (fun e => by
    obtain ⟨c1, h1⟩ := row_type hi.names e
    obtain ⟨c2, h2⟩ := row_type hi.kids hk
    rw [h1] at h2
    simp at h2)), fun k hk => .inl (.inr (by simpa [Value.ownBlock] using hk.symm)), fun k _ => hx, fun k hk => .inl (hi.ok k hk)⟩
  have hgl := hr.lt g rfl
  refine ⟨⟨_, kv, set_cells hn4 _, hnd.set hn4 5 _⟩, .inl hat, fun k hk => ?_⟩
  rcases hk with hk | rfl
  · exact ⟨(hown k hk).1, by have := (hown k hk).2; have := hf.size; simp [World.setCell]; omega⟩
  · exact ⟨by omega, by simp [World.setCell]; omega⟩
theorem three_new (w : World) (A B : Obj) (v u : Value) (ty : TypeId) : (((w.alloc A).alloc B).alloc (.cells #[v] ty)).cell? ⟨w.heap.size + 1 + 1, 0, none⟩ = some v ∧ (((w.alloc A).alloc B).alloc (.cells #[v] ty)).frozen? ⟨w.heap.size + 1 + 1, 0, none⟩ = false ∧
    (((w.alloc A).alloc B).alloc (.cells #[v] ty)).setCell ⟨w.heap.size + 1 + 1, 0, none⟩ u = ((w.alloc A).alloc B).alloc (.cells #[u] ty) := by
  have hz : w.heap.size + 1 + 1 = ((w.alloc A).alloc B).heap.size := by rw [asize, asize]
  rw [hz]
  have hn := World.alloc_heap_new ((w.alloc A).alloc B) (.cells #[v] ty)
  refine ⟨by simp only [World.cell?, hn]; rfl, by simp only [World.frozen?, hn]; rfl, ?_⟩
  rw [World.setCell_alloc_at _ _ _ _ _ rfl]
  rfl
theorem step_none {ops : Array Oper} {o : Oper} {a : Act} {K : Act → World → Prop} {Q : Exit → Act → World → Prop} {E : Prop} (w : World) (hgd : o.guard = none) (s x : Operand)
    (ho : o.op = .call { callee := .builtin .append, args := #[s, x], argTypes := #[32, 32] }) (b : Nat) (v : Value) (ls : List ByteArray) (hs : a.eval s = v) (hown : SRow w b v ls) (hx : a.eval x = .slice none 0 0) (h : K (a.put o.dst v) w) :
    if Region.wanted o (yielded ops a.tmps) = true then Oper.wp Tryz.prog o a w K Q else E := by
  have hw : Region.wanted o (yielded ops a.tmps) = true := by simp [Region.wanted, hgd]
  rw [if_pos hw]
  have hrun := run_append_owned_none (P := Tryz.prog) (w := w) (b + 1) 32 o.type 9 _ 1 Tryz.underlying32 (info_parts info9p).choose_spec.1 v ls.length (ls.map Value.string) hown
  unfold Oper.wp
  simp [execOp, ho, resolve, invoke, builtin, hs, hx, hrun, Result.andThen]
  exact h
set_option maxRecDepth 20000 in
set_option maxHeartbeats 8000000 in
theorem parameters_p : RdN 150 wpParams := by
  rintro b n O T0 ⟨sh, sxs, sts, sn⟩ K E w hr ⟨t, ts, hts, hnum, hyes, hno⟩
  obtain ⟨Op, On, T, ks, hO, hd, hp, hn, hl, hc⟩ := hr.ex
  dsimp only at hts hnum hyes hno hp hn hl hc
  subst hts
  have hOlt := hr.lt
  obtain ⟨w1, hw1⟩ : ∃ w1, w1 = w.alloc (.cells #[.pointer (some ⟨b, 0, none⟩)] 84) := ⟨_, rfl⟩
  obtain ⟨w2, hw2⟩ : ∃ w2, w2 = w1.alloc (.cells #[.pointer (some ⟨n, 0, none⟩)] 88) := ⟨_, rfl⟩
  obtain ⟨w3, hw3⟩ : ∃ w3, w3 = w2.alloc (.cells #[.func (.func 176) #[] #[.pointer (some ⟨w.heap.size, 0, none⟩), .pointer (some ⟨w.heap.size + 1, 0, none⟩)]] 22) := ⟨_, rfl⟩
  have f1 : Fr O w w1 := by rw [hw1]; exact (Fr.refl _ _).alloc _
  have f2 : Fr O w1 w2 := by rw [hw2]; exact (Fr.refl _ _).alloc _
  have f3 : Fr O w2 w3 := by rw [hw3]; exact (Fr.refl _ _).alloc _
  have z1 : w1.heap.size = w.heap.size + 1 := by rw [hw1, asize]
  have z2 : w2.heap.size = w.heap.size + 1 + 1 := by rw [hw2, asize, z1]
  have b1 : Box w1 O w.heap.size #[.pointer (some ⟨b, 0, none⟩)] 84 := by rw [hw1]; exact Box.new w O hOlt _ _
  have b2 : Box w2 O (w.heap.size + 1) #[.pointer (some ⟨n, 0, none⟩)] 88 := by rw [hw2, ← z1]; exact Box.new w1 O (fun k hk => by have := hOlt k hk; omega) _ _
  have b3 : Box w3 O (w.heap.size + 1 + 1) #[.func (.func 176) #[] #[.pointer (some ⟨w.heap.size, 0, none⟩), .pointer (some ⟨w.heap.size + 1, 0, none⟩)]] 22 := by rw [hw3, ← z2]; exact Box.new w2 O (fun k hk => by have := hOlt k hk; omega) _ _
  have f13 := (f1.trans f2 (Ext.refl _ _)).trans f3 (Ext.refl _ _)
  have hB3 : Below w.heap.size w w3 := by
    rw [hw3, hw2, hw1]
    exact (((Below.refl _ _).alloc (Nat.le_refl _) _).alloc (by simp) _).alloc (by simp; omega) _
  have b13 := (b1.later f2 (Ext.refl _ _)).later f3 (Ext.refl _ _)
  have b23 := b2.later f3 (Ext.refl _ _)
  have hbO : ∀ k, k = b ∨ k = n → O k := fun k hk => (hO k).2 (hk.elim (fun e => .inl (e ▸ hp.at_)) (fun e => .inr (e ▸ hn.at_)))
  have HM := Lib.hid (many_p b n w.heap.size (w.heap.size + 1) Op On O { sh with kids := ks } t ts T w3 (hp.below hB3) (hn.below hB3) hd hbO b13 b23)
  have c23 := b23.cell 0
  have c33 := b3.cell 0
  have BX1 := Lib.hid b13
  have BX2 := Lib.hid b23
  have BX3 := Lib.hid b3
  have F3 := Lib.hid f13
  have HO := Lib.hid hO
  have HD := Lib.hid hd
  have HL := Lib.hid hl
  have HC := Lib.hid hc
  have HBO := Lib.hid hbO
  have HAT := Lib.hid hn.at_
  have HPW := Lib.hid hp.own
  have HNW := Lib.hid hn.own
  have hnw : n < w.heap.size := (hn.own n hn.at_).2
  have hbn : b < n := (hn.own n hn.at_).1
  have HWS : Hid (w.heap.size ≤ w3.heap.size) := Lib.hid f13.size
  have ent := enters_of Tryz.func176 (by kernel_rfl) rfl
  unfold Enters at ent
  dsimp only [show ({ sh with kids := ks } : Nd).num = sh.num from rfl] at HM
  rw [hnum] at HM
  cases h3 : isW [46, 46, 46] t with
  | true =>
    rw [show manyF (0, t :: ts) = (true, 1, ts) from by simp [manyF, h3]] at HM
    have HK := Lib.hid (hyes h3)
    rw [hw3, hw2, hw1] at HM
    obtain ⟨q1, q2, q3⟩ := three_new w (.cells #[.pointer (some ⟨b, 0, none⟩)] 84) (.cells #[.pointer (some ⟨n, 0, none⟩)] 88) .nilFunc (.func (.func 176) #[] #[.pointer (some ⟨w.heap.size, 0, none⟩), .pointer (some ⟨w.heap.size + 1, 0, none⟩)]) 22
    clear hr hp hn hl hc hyes hno hnum h3 c23 c33 BX1 BX2 BX3 f1 f2 f3 f13 z1 z2 b1 b2 b3 b13 b23 hbO hB3 hO hd hOlt
    go_enter Tryz.func150, Tryz.ntmps150
    go_wp2_with fail
    refine HM.out.mono ?_; rintro e w4 ⟨rfl, p4, n4, f4⟩
    rw [← hw1, ← hw2, ← hw3] at f4
    have P4 := Lib.hid p4
    have N4 := Lib.hid n4
    have F4 := Lib.hid (F3.out.trans (f4.mono HBO.out) (Ext.refl _ _))
    clear p4 n4 f4 hw1 hw2 hw3
    go_wp2_with fail
    go_ret
    exact ⟨F4.out, .inl ⟨_, O, rfl, ⟨Op, On, T, ks, HO.out, HD.out, P4.out, N4.out, HL.out, HC.out⟩, Ext.refl _ _, HK.out⟩⟩
  | false =>
    rw [show manyF (0, t :: ts) = (false, 0, t :: ts) from by simp [manyF, h3]] at HM
    obtain ⟨hnl, m, hm, hk⟩ := hno h3
    have HK := Lib.hid hk
    have HNL := Lib.hid hnl
    rw [hw3, hw2, hw1] at HM
    obtain ⟨q1, q2, q3⟩ := three_new w (.cells #[.pointer (some ⟨b, 0, none⟩)] 84) (.cells #[.pointer (some ⟨n, 0, none⟩)] 88) .nilFunc (.func (.func 176) #[] #[.pointer (some ⟨w.heap.size, 0, none⟩), .pointer (some ⟨w.heap.size + 1, 0, none⟩)]) 22
    clear hr hp hn hl hc hyes hno hnum h3 c23 c33 f1 f2 f3 f13 z1 z2 b1 b2 b3 b13 b23 hbO hB3 hO hd hOlt hk hnl
    have HMD := Lib.hid hm
    go_enter Tryz.func150, Tryz.ntmps150
    go_wp2_with fail
    refine HM.out.mono ?_; rintro e w4 ⟨rfl, p4, n4, f4⟩
    rw [← hw1, ← hw2, ← hw3] at f4
    have fO := f4.mono HBO.out
    have bx1 := BX1.out.later fO (Ext.refl _ _)
    have bx2 := BX2.out.later fO (Ext.refl _ _)
    have bx3 := BX3.out.later fO (Ext.refl _ _)
    have c14 := bx1.cell 0
    have HRW := Lib.hid (names_row b n Op On _ (t :: ts) T (.func (.func 177) #[] #[.pointer (some ⟨w.heap.size, 0, none⟩), .pointer (some ⟨w.heap.size + 1 + 1, 0, none⟩)]) parF _ E m HMD.out w4 p4 n4 HD.out (par_moreN HD.out HBO.out bx1 bx2 bx3) HK.out)
    have BX2' := Lib.hid bx2
    have F4 := Lib.hid (F3.out.trans fO (Ext.refl _ _))
    have hw4s : w.heap.size + 1 + 1 < w4.heap.size := (Array.getElem?_eq_some_iff.1 bx3.1).1
    clear p4 n4 f4 fO bx1 bx2 bx3 hw1 hw2 hw3 q1 q2 q3 HM BX1 BX2 BX3
    go_wp2_with fail
    refine HRW.out.mono ?_; rintro e w5 ⟨f5, mm, n5, h5⟩
    have fO5 := f5.mono HBO.out
    have F5 := Lib.hid (F4.out.trans fO5 (Ext.refl _ _))
    have c25 := (BX2'.out.later fO5 (Ext.refl _ _)).cell 0
    have N5 := Lib.hid n5
    obtain ⟨nv, kv, ha, hi⟩ := n5.ex
    obtain ⟨nv', kv', hcs, _, hz⟩ := n5.cells
    have hat5 := n5.at_
    have hown5 := n5.own
    have hnl5 : n < w5.heap.size := (n5.own n n5.at_).2
    obtain ⟨A5, k5, rfl, _⟩ := row_form hi.names
    have c55 : w5.cell? ⟨n, 5, none⟩ = some (.slice A5 sh.names.length k5) := by simp [World.cell?, ha, ndCells]
    have z55 : w5.frozen? ⟨n, 5, none⟩ = false := by simp [World.frozen?, ha]
    have hgx : w.heap.size + 1 ≠ n := by omega
    have hg2l : w.heap.size + 1 < w5.heap.size := by have := f5.size; omega
    have hnl100 : sh.names.length ≤ 100000 := HNL.out
    have BX3' := Lib.hid (BX2'.out.later fO5 (Ext.refl _ _))
    have HOO : Hid (∀ k, On k → O k) := Lib.hid fun k hk => (HO.out k).2 (.inr hk)
    have HI := Lib.hid hi
    have HST := Lib.hid (fun W4 hf => nu_strs (W4 := W4) ha hi hat5 hown5 hf)
    have c25n : (w5.cell? ⟨w.heap.size + 1, 0, none⟩) = some (.pointer (some ⟨n, 0, none⟩)) := c25
    clear c25 hcs hz n5 f5 fO5 c14 ha hi hown5
    rcases h5 with ⟨v, xs, ts5, rfl, p5, r5, o5, ne5, len5, k5'⟩ | ⟨l, er, rfl, ⟨g', rfl, m1, m2⟩, k5'⟩
    · obtain ⟨Av, cv, rfl, _⟩ := row_form r5
      have P5 := Lib.hid p5
      have R5 := Lib.hid r5
      have O5 := Lib.hid o5
      have NE := Lib.hid ne5
      have K5 := Lib.hid k5'
      have hB5 : b + 1 ≤ w5.heap.size := by omega
      clear p5 r5 o5 ne5 k5'
      go_wp2_with fail
      go_region_law ((refine step_strs _ (by rfl) _ _ (by rfl) b (.slice A5 sh.names.length k5) (.slice Av xs.length cv) sh.names xs (by rfl) HI.out.names HI.out.nz (by rfl) R5.out NE.out (by omega) (by omega) hB5 ?_; intro g6 c6 w6 r6 f6 o6 l6; have f6' : Fr (fun k => (Value.slice A5 sh.names.length k5).ownBlock = some k) w5 w6 := Fr.trans (Fr.of_below (O := fun k => (Value.slice A5 sh.names.length k5).ownBlock = some k) (by exact ⟨rfl, rfl, rfl, Nat.le_refl _, fun _ _ => rfl⟩)) f6 (Ext.refl _ _); obtain ⟨fo, c56, z56, hn6, fr6, hnu⟩ := HST.out w6 f6'; have c26 := (BX3'.out.later (fo.mono HOO.out) (Ext.refl _ _)).cell 0; have FO := Lib.hid fo; have FR6 := Lib.hid (fr6 (.slice (some ⟨g6, 0, none⟩) (sh.names.length + xs.length) c6)); have HU := Lib.hid (hnu g6 _ c6 _ r6 (fun e => NE.out (List.append_eq_nil_iff.1 e).2)); have O6 := Lib.hid o6; have L6 := Lib.hid l6; clear r6 f6 f6' o6 l6 fo fr6 hnu))
      all_goals
        go_wp2
        go_ret
        have hOn : ∀ k, On k → O k := fun k hk => (HO.out k).2 (.inr hk)
        have hg6 : On g6 ∨ w5.heap.size ≤ g6 := by
          rcases O6.out with ⟨h1, h2⟩ | h1
          · rcases HI.out.on g6 h1 with h | h
            · exact .inl h
            · exact (h2 h).elim
          · exact .inr h1
        have p6 : PS w6 b Op ts5 T := P5.out.kept FO.out HD.out (fun k hk => Nat.le_of_lt (HNW.out k hk).1)
        refine ⟨(F5.out.trans (FO.out.mono hOn) (Ext.refl _ _)).trans FR6.out (fun k hk => .inl (hk ▸ (HO.out n).2 (.inr HAT.out))), .inl ⟨_, fun k => Op k ∨ (On k ∨ k = g6), rfl, ⟨Op, fun k => On k ∨ k = g6, T, ks, fun _ => Iff.rfl, fun k hk h => ?_, ?_, HU.out, HL.out, HC.out⟩, fun k hk => ?_, K5.out⟩⟩
        · rcases h with h | rfl
          · exact HD.out k hk h
          · rcases hg6 with h | h
            · exact HD.out _ hk h
            · have := (P5.out.own _ hk).2; omega
        · exact p6.kept (O1 := (· = n)) FR6.out (fun k hk e => HD.out k hk (e ▸ HAT.out)) fun k e => by omega
        · rcases hk with hk | hk | rfl
          · exact .inl ((HO.out k).2 (.inl hk))
          · exact .inl (hOn k hk)
          · rcases hg6 with h | h
            · exact .inl (hOn _ h)
            · exact .inr (by have := F5.out.size; omega)
    · have M2 := Lib.hid m2
      have K5 := Lib.hid k5'
      have hgn : g' ≠ n := by have := F4.out.size; omega
      clear m2 k5'
      go_wp2_with fail
      go_region_law (refine step_none _ (by rfl) _ _ (by rfl) b (.slice A5 sh.names.length k5) sh.names (by rfl) HI.out.names (by rfl) ?_)
      all_goals
        go_wp2
        go_ret
        exact ⟨F5.out.trans (N5.out.fr 5 (.slice A5 sh.names.length k5)).drew (fun k hk => .inl (hk ▸ (HO.out n).2 (.inr HAT.out))), .inr ⟨l, _, rfl, ⟨g', rfl, by have := F4.out.size; omega, (Below.heap_setCell _ _ _ g' hgn).trans M2.out⟩, K5.out⟩⟩
end Go.Proofs.YtfpeecjafccfjaaGreatDoor
namespace Go.Proofs.YtfpeecjafccfjaaGreatDoor
open Go.RowKit
theorem words_at' (w : World) (g : Nat) (hg : g = w.heap.size) (b : Nat) (O : Nat → Prop) (hO : ∀ k, O k → k < w.heap.size) (x : List UInt8) (hx : x ≠ []) (X : ByteArray) (hX : X = bts x) :
    Calls Tryz.prog 85 #[.pointer (some ⟨b, 0, none⟩), .slice (some ⟨g, 0, none⟩) 1 1] (w.alloc (.cells #[.string X] 9)) (NewPart b O (wpWords [x]) w) := by
  subst hg
  exact words_at w b O hO x hx X hX
theorem Real.nms {W : World} {b n : Nat} {O : Nat → Prop} {T0 : List Nd} {s : St} (h : Real W b n O T0 s) : n < W.heap.size ∧ ∃ A c, W.cell? ⟨n, 5, none⟩ = some (.slice A s.h.names.length c) := by
  obtain ⟨Op, On, T, ks, hO, hd, hp, hn, hl, hc⟩ := h.ex
  obtain ⟨nv, kv, hcs, hi, hz⟩ := hn.cells
  obtain ⟨A, c, rfl, _⟩ := row_form hi.names
  exact ⟨(hn.own n hn.at_).2, A, c, hcs.c5⟩
def eachC (li : Wp1) : Wp1 := fun s K E => WpSeq [wpWords [wIn], li, wpCount] { s with h := { s.h with kind := 27 } } K E
def roundsC (ex li : Wp1) : Wp1 := fun s K E => (s.h.names.length = 1 → ∃ t ts, s.ts = t :: ts ∧ (isW [61] t = true → WpSeq [ex, wpWords [[44]], ex, wpPerhaps [44] [ex]] { s with h := { s.h with kind := 26 }, ts := ts } K E) ∧ (isW [61] t = false → eachC li s K E)) ∧ (s.h.names.length ≠ 1 → eachC li s K E)
set_option maxRecDepth 20000 in
set_option maxHeartbeats 8000000 in
theorem rounds_eq {ex : Wp1} (hE : RdN 87 ex) (b n : Nat) (O : Nat → Prop) (T0 : List Nd) (s : St) (K : St → Prop) (E : Int → Prop) (w : World) (hr : Real w b n O T0 s) (hl : s.h.names.length = 1) (t : TkP) (ts : List TkP) (hs : s.ts = t :: ts) (hq : isW [61] t = true) (hk : WpSeq [ex, wpWords [[44]], ex, wpPerhaps [44] [ex]] { s with h := { s.h with kind := 26 }, ts := ts } K E):
    Calls Tryz.prog 90 #[.pointer (some ⟨b, 0, none⟩), .pointer (some ⟨n, 0, none⟩)] w (PartPost b n O T0 K E w) := by
  obtain ⟨hnw, A5, c5', c5⟩ := hr.nms
  rw [hl] at c5
  have HT := Lib.hid (real_yes hr hs [61] ⟨#[61]⟩ rfl (by decide) hq)
  have HK := Lib.hid hk
  clear hr hk hs hq hl
  go_enter Tryz.func90, Tryz.ntmps90
  go_wp2_with fail
  refine HT.out.mono ?_; rintro e wx ⟨rfl, r2, f2⟩
  have FF := Lib.hid f2
  have R := Lib.hid r2
  clear r2 f2 c5
  obtain ⟨⟨v0, k0⟩, y0, hnl, f4, r4⟩ := R.out.kind 26
  have F0 := Lib.hid (FF.out.trans f4 (Ext.refl _ _))
  have P0 := Lib.hid r4
  have V1 := Lib.hid (words_at' _ wx.heap.size (by simp) b O r4.lt [44] (by decide) ⟨#[44]⟩ rfl)
  clear f4 r4
  go_wp2_with fail
  refine V1.out.mono ?_; rintro e w1 ⟨f1, a1, c1, rfl, b1, h1⟩
  have F1 := Lib.hid (F0.out.trans (Fr.of_below (O := O) b1) (Ext.refl _ _))
  have P1 := Lib.hid (P0.out.below b1)
  have H1 := Lib.hid h1
  clear b1 h1 V1 k0 y0
  have hO1 : ∀ k, O k → k < w1.heap.size := P1.out.lt
  have V2 := Lib.hid (perhaps_at w1 b O hO1 [mval 87 b] [ex] (by simp) ⟨hE.part (enters_of Tryz.func87 (by kernel_rfl) rfl) w1 b O, trivial⟩ [44] (by decide) ⟨#[44]⟩ rfl)
  clear hO1
  go_wp2_with fail
  refine V2.out.mono ?_; rintro e w2 ⟨f2, a2, c2, rfl, b2, h2⟩
  have F2 := Lib.hid (F1.out.trans (Fr.of_below (O := O) b2) (Ext.refl _ _))
  have P2 := Lib.hid (P1.out.below b2)
  have L1 := Lib.hid (H1.out.later (Fr.of_below (O := O) b2) (Ext.refl _ _))
  clear H1
  have H1 := L1
  clear L1
  have H2 := Lib.hid h2
  clear b2 h2 V2
  have HN := Lib.hid (fill_at w w2 P2.out F2.out (Ext.refl _ _) [mval 87 b, .func (.func f1) a1 c1, mval 87 b, .func (.func f2) a2 c2] [ex, wpWords [[44]], ex, wpPerhaps [44] [ex]] (by simp) ⟨hE.part (enters_of Tryz.func87 (by kernel_rfl) rfl) w2 b O, H1.out, hE.part (enters_of Tryz.func87 (by kernel_rfl) rfl) w2 b O, H2.out, trivial⟩ HK.out)
  go_wp2_with fail
  refine HN.out.mono ?_; intro e wz hz
  obtain ⟨v, rfl⟩ := hz.ret
  have HZ := Lib.hid hz
  clear hz
  go_wp2_with fail
  go_ret
  exact HZ.out
set_option maxRecDepth 20000 in
set_option maxHeartbeats 8000000 in
theorem rounds_in1 {li : Wp1} (hL : RdN 80 li) (b n : Nat) (O : Nat → Prop) (T0 : List Nd) (s : St) (K : St → Prop) (E : Int → Prop) (w : World) (hr : Real w b n O T0 s) (hl : s.h.names.length = 1) (t : TkP) (ts : List TkP) (hs : s.ts = t :: ts) (hq : isW [61] t = false) (hk : eachC li s K E):
    Calls Tryz.prog 90 #[.pointer (some ⟨b, 0, none⟩), .pointer (some ⟨n, 0, none⟩)] w (PartPost b n O T0 K E w) := by
  obtain ⟨hnw, A5, c5', c5⟩ := hr.nms
  rw [hl] at c5
  have HT := Lib.hid (real_no hr hs [61] ⟨#[61]⟩ rfl (by decide) hq)
  unfold eachC at hk
  have HK := Lib.hid hk
  clear hr hk hs hq hl
  go_enter Tryz.func90, Tryz.ntmps90
  go_wp2_with fail
  refine HT.out.mono ?_; rintro e wx ⟨rfl, r2, f2⟩
  have FF := Lib.hid f2
  have R := Lib.hid r2
  clear r2 f2 c5
  obtain ⟨⟨v0, k0⟩, y0, hnl, f4, r4⟩ := R.out.kind 27
  have F0 := Lib.hid (FF.out.trans f4 (Ext.refl _ _))
  have P0 := Lib.hid r4
  have V1 := Lib.hid (words_at' _ wx.heap.size (by simp) b O r4.lt [105, 110] (by decide) ⟨#[105, 110]⟩ rfl)
  clear f4 r4
  go_wp2_with fail
  refine V1.out.mono ?_; rintro e w1 ⟨f1, a1, c1, rfl, b1, h1⟩
  have F1 := Lib.hid (F0.out.trans (Fr.of_below (O := O) b1) (Ext.refl _ _))
  have P1 := Lib.hid (P0.out.below b1)
  have H1 := Lib.hid h1
  clear b1 h1 V1 k0 y0
  have HN := Lib.hid (fill_at w w1 P1.out F1.out (Ext.refl _ _) [.func (.func f1) a1 c1, mval 80 b, .func (.func 123) #[] #[]] [wpWords [[105, 110]], li, wpCount] (by simp) ⟨H1.out, hL.part (enters_of Tryz.func80 (by kernel_rfl) rfl) w1 b O, count_part w1 b O, trivial⟩ HK.out)
  go_wp2_with fail
  refine HN.out.mono ?_; intro e wz hz
  obtain ⟨v, rfl⟩ := hz.ret
  have HZ := Lib.hid hz
  clear hz
  go_wp2_with fail
  go_ret
  exact HZ.out
set_option maxRecDepth 20000 in
set_option maxHeartbeats 8000000 in
theorem rounds_in2 {li : Wp1} (hL : RdN 80 li) (b n : Nat) (O : Nat → Prop) (T0 : List Nd) (s : St) (K : St → Prop) (E : Int → Prop) (w : World) (hr : Real w b n O T0 s) (hl : s.h.names.length ≠ 1) (hk : eachC li s K E):
    Calls Tryz.prog 90 #[.pointer (some ⟨b, 0, none⟩), .pointer (some ⟨n, 0, none⟩)] w (PartPost b n O T0 K E w) := by
  obtain ⟨hnw, A5, c5', c5⟩ := hr.nms
  have q1 : ((s.h.names.length : Int) == 1) = false := beq_eq_false_iff_ne.2 (by omega)
  unfold eachC at hk
  have HK := Lib.hid hk
  have R := Lib.hid hr
  have FF := Lib.hid (Fr.refl O w)
  clear hr hk hl
  go_enter Tryz.func90, Tryz.ntmps90
  obtain ⟨⟨v0, k0⟩, y0, hnl, f4, r4⟩ := R.out.kind 27
  have F0 := Lib.hid (FF.out.trans f4 (Ext.refl _ _))
  have P0 := Lib.hid r4
  have V1 := Lib.hid (words_at' _ w.heap.size (by simp) b O r4.lt [105, 110] (by decide) ⟨#[105, 110]⟩ rfl)
  clear f4 r4
  go_wp2_with fail
  refine V1.out.mono ?_; rintro e w1 ⟨f1, a1, c1, rfl, b1, h1⟩
  have F1 := Lib.hid (F0.out.trans (Fr.of_below (O := O) b1) (Ext.refl _ _))
  have P1 := Lib.hid (P0.out.below b1)
  have H1 := Lib.hid h1
  clear b1 h1 V1 k0 y0
  have HN := Lib.hid (fill_at w w1 P1.out F1.out (Ext.refl _ _) [.func (.func f1) a1 c1, mval 80 b, .func (.func 123) #[] #[]] [wpWords [[105, 110]], li, wpCount] (by simp) ⟨H1.out, hL.part (enters_of Tryz.func80 (by kernel_rfl) rfl) w1 b O, count_part w1 b O, trivial⟩ HK.out)
  go_wp2_with fail
  refine HN.out.mono ?_; intro e wz hz
  obtain ⟨v, rfl⟩ := hz.ret
  have HZ := Lib.hid hz
  clear hz
  go_wp2_with fail
  go_ret
  exact HZ.out
theorem rounds_p {ex li : Wp1} (hE : RdN 87 ex) (hL : RdN 80 li) : RdN 90 (roundsC ex li) := by
  rintro b n O T0 s K E w hr ⟨h1, h2⟩
  by_cases hl : s.h.names.length = 1
  · obtain ⟨t, ts, hs, hy, hn⟩ := h1 hl
    cases hq : isW [61] t with
    | true => exact rounds_eq hE b n O T0 s K E w hr hl t ts hs hq (hy hq)
    | false => exact rounds_in1 hL b n O T0 s K E w hr hl t ts hs hq (hn hq)
  · exact rounds_in2 hL b n O T0 s K E w hr hl (h2 hl)
end Go.Proofs.YtfpeecjafccfjaaGreatDoor
