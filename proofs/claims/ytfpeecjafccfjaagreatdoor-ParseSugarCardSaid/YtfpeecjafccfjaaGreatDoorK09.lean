/- Parts of the proof: Gs, Gt, Qa, Qb, Qc, Qd, Qe, Qf, Qg, Qh. -/
import Derived.Test.YtfpeecjafccfjaaGreatDoorK08
namespace Go.Proofs.YtfpeecjafccfjaaGreatDoor
open Go.RowKit
theorem isW_no {s s' : List UInt8} {t : TkP} (h : isW s t = true) (hne : s' ≠ s) : ¬ isW s' t = true := by rw [isW_diff' h hne]; decide
abbrev gSta : GL Ast := bodyL .sta
abbrev gBdy (at_ : Int) (self : List ByteArray) : GL Ast := bodyL (.bdy at_ self)
def FinK (K : Ast → List TkP → Prop) : St → Prop := fun s => s.n ≤ 200000 ∧ K (.mk s.h s.xs) s.ts
theorem fin_mk {N k : Nat} {s : St} {K : Ast → List TkP → Prop} (hI : Rm N k s) (h : K (.mk s.h s.xs) s.ts) : FinK K s := ⟨by have := hI.n; omega, h⟩
def comF : NmF := fun p => ((commaF p.2).1, p.1, (commaF p.2).2)
def wpNames : Wp1 := fun s K E => ∃ m, m ≤ 100000 ∧ wpNms comF m s.h.num s.ts [] (fun nu xs ts => K { s with h := { s.h with num := nu, names := xs }, ts := ts }) E
section
variable {α : Type} {K : α → List TkP → Prop} {E : Int → Prop} {K' : St → Prop} {N k n : Nat} {h : Nd} {xs : List Ast} {ts : List TkP}
theorem row_nmm (nu : Int) (K2 : Int → List ByteArray → List TkP → Prop) : ∀ (m : Nat) (ts : List TkP) (acc : List ByteArray), ts.length < m → Wf ts → Gw (name fun n => .call (.nmm (acc ++ [bts n.2.2.2])) fun (l : List ByteArray) => .ret l) ts (K2 nu) E → wpNms comF m nu ts acc K2 E := by
  intro m
  induction m with
  | zero => intro ts acc h; omega
  | succ m ih =>
    intro ts acc h1 hf H
    obtain ⟨t, r, rfl⟩ := hf.fin.cons
    refine ⟨t, r, rfl, H.name.2, fun ht => ?_⟩
    have hf1 := hf.tail (show t.1 ≠ 0 by rw [ht]; decide)
    obtain ⟨u, us, rfl⟩ := hf1.fin.cons
    have hg := (Gw.call (H.name.1 ht)).look
    cases hc : isW [44] u with
    | true =>
      have e1 : comF (nu, u :: us) = (true, nu, us) := by unfold comF commaF; simp [hc]
      rw [e1]
      exact ⟨fun _ => ih us (acc ++ [bts t.2.2.2]) (by simp at h1; omega) (hf1.tail (isW_nz hc)) ((hg.pos hc).tok.mono fun l ts2 _ hl => hl.2.ret), fun hb => (Bool.false_ne_true hb.symm).elim⟩
    | false =>
      have e1 : comF (nu, u :: us) = (false, nu, u :: us) := by unfold comF commaF; simp [hc]
      rw [e1]
      exact ⟨fun hb => (Bool.false_ne_true hb).elim, fun _ => (hg.neg (by simp [hc])).ret.2.ret⟩
theorem nam_mk {kk : List ByteArray → GL α} (hI : Rm N k ⟨h, xs, ts, n⟩) (H : Gw (.call .nam kk) ts K E)
    (hk : ∀ (l : List ByteArray) (ts' : List TkP), Rm N k ⟨{ h with names := l }, xs, ts', n⟩ → Gw (kk l) ts' K E → K' ⟨{ h with names := l }, xs, ts', n⟩) : wpNames ⟨h, xs, ts, n⟩ K' E := by
  have hn := hI.n
  dsimp only at hn
  refine ⟨ts.length + 1, by omega, row_nmm h.num _ (ts.length + 1) ts [] (by omega) hI.wf ((Gw.call H).mono fun (l : List ByteArray) ts' p hq => ?_)⟩
  have hs := PL.short (n := .nam) p
  exact hk l ts' ⟨by have := hI.len; dsimp only at *; omega, by dsimp only; omega, by have := hI.xs; dsimp only at *; omega, PL.wf (n := .nam) p hI.wf⟩ hq.2
end
def parF : NmF := fun p => match p.2 with
  | [] => (false, p.1, [])
  | t :: r => if isW [44] t then (match r with
    | [] => (decide (p.1 ≠ 1), p.1, [])
    | u :: r' => if isW [46, 46, 46] u then (false, 1, r') else (decide (p.1 ≠ 1), p.1, u :: r')) else (false, p.1, t :: r)
def wpParams : Wp1 := fun s K E => ∃ t ts, s.ts = t :: ts ∧ s.h.num = 0 ∧ (isW [46, 46, 46] t = true → K { s with h := { s.h with num := 1 }, ts := ts }) ∧
  (isW [46, 46, 46] t = false → s.h.names.length ≤ 100000 ∧ ∃ m, m ≤ 100000 ∧ wpNms parF m 0 s.ts [] (fun nu xs ts' => K { s with h := { s.h with num := nu, names := s.h.names ++ xs }, ts := ts' }) E)
def bodyS (N : Nat) : List Wp1 := [wpWords [[40]], wpUnless [41] wpParams, wpWords [[41]], blkP N, wpWords [wEnd]]
def bodyP (N : Nat) : Wp1 := fun s K E => WpSeq (bodyS N) s K E
section
variable {α : Type} {K : α → List TkP → Prop} {E : Int → Prop} {K' : St → Prop} {N k n : Nat} {h : Nd} {xs : List Ast} {ts : List TkP}
theorem row_prm (l0 : List ByteArray) (K2 : Int → List ByteArray → List TkP → Prop) : ∀ (m : Nat) (ts : List TkP) (acc : List ByteArray), ts.length < m → Wf ts →
    Gw (name fun n => .look fun t => if isW [44] t then .tok fun _ => .call (.prm (l0 ++ acc ++ [bts n.2.2.2])) fun (p : List ByteArray × Int) => .ret p else .ret ((l0 ++ acc ++ [bts n.2.2.2], 0) : List ByteArray × Int)) ts (fun p ts' => ∀ l, p.1 = l0 ++ l → K2 p.2 l ts') E → wpNms parF m 0 ts acc K2 E := by
  intro m
  induction m with
  | zero => intro ts acc h; omega
  | succ m ih =>
    intro ts acc h1 hf H
    obtain ⟨t, r, rfl⟩ := hf.fin.cons
    refine ⟨t, r, rfl, H.name.2, fun ht => ?_⟩
    have hf1 := hf.tail (show t.1 ≠ 0 by rw [ht]; decide)
    obtain ⟨u, us, rfl⟩ := hf1.fin.cons
    have hg := (H.name.1 ht).look
    cases hc : isW [44] u with
    | true =>
      have hf2 := hf1.tail (isW_nz hc)
      obtain ⟨v, vs, rfl⟩ := hf2.fin.cons
      have hg2 := (Gw.call (hg.pos hc).tok).look
      cases hd : isW [46, 46, 46] v with
      | true =>
        have e1 : parF (0, u :: v :: vs) = (false, 1, vs) := by unfold parF; simp [hc, hd]
        rw [e1]
        refine ⟨fun hb => (Bool.false_ne_true hb).elim, fun _ => ?_⟩
        exact (hg2.pos hd).tok.ret.2.ret (acc ++ [bts t.2.2.2]) (by rw [List.append_assoc])
      | false =>
        have e1 : parF (0, u :: v :: vs) = (true, 0, v :: vs) := by unfold parF; simp [hc, hd]
        rw [e1]
        refine ⟨fun _ => ih (v :: vs) (acc ++ [bts t.2.2.2]) (by simp at h1 ⊢; omega) hf2 ?_, fun hb => (Bool.false_ne_true hb.symm).elim⟩
        have := hg2.neg (by simp [hd])
        rw [List.append_assoc] at this
        exact this.mono fun p ts2 _ hl => hl.2.ret
    | false =>
      have e1 : parF (0, u :: us) = (false, 0, u :: us) := by unfold parF; simp [hc]
      rw [e1]
      exact ⟨fun hb => (Bool.false_ne_true hb).elim, fun _ => (hg.neg (by simp [hc])).ret (acc ++ [bts t.2.2.2]) (by rw [List.append_assoc])⟩
theorem bdy_mk {at_ : Int} {self : List ByteArray} {K : Ast → List TkP → Prop} (hI : Rm N k ⟨⟨11, at_, 0, 0, ⟨#[]⟩, self, []⟩, [], ts, n⟩) (hs : self.length ≤ 100000) (H : Gw (gBdy at_ self) ts K E) :
    WpSeq (bodyS N) ⟨⟨11, at_, 0, 0, ⟨#[]⟩, self, []⟩, [], ts, n⟩ (FinK K) E := by
  refine want_mk hI H fun _ r hI _ G => ?_
  obtain ⟨t, us, rfl⟩ := hI.wf.fin.cons
  have G := G.look
  refine ⟨t, us, rfl, fun hw => ?_, fun hw => ?_⟩
  · refine ⟨t, us, rfl, fun hw => ?_, fun hw2 => ?_⟩
    · exact (show WpSeq [blkP N, wpWords [wEnd]] _ _ _ from blk_kid (hI.tok (isW_nz hw)) (G.pos hw).tok fun b r2 hI _ G => want_mk hI G fun _ r3 hI _ G => fin_mk hI G.ret)
    · rw [hw] at hw2
      exact (Bool.false_ne_true hw2.symm).elim
  · have G := Gw.call (G.neg (by simp [hw]))
    have G1 := Gw.look G
    have hn := hI.n
    dsimp only [List.length_cons] at hn
    refine ⟨t, us, rfl, rfl, fun hd => ?_, fun hd => ⟨hs, us.length + 2, by omega, row_prm self _ (us.length + 2) (t :: us) [] (by simp) hI.wf ?_⟩⟩
    · have G2 := (G1.pos hd).tok.ret.2
      exact want_mk (hI.tok (isW_nz hd)) G2 fun _ r2 hI _ G => blk_kid hI G fun b r3 hI _ G => want_mk hI G fun _ r4 hI _ G => fin_mk hI G.ret
    · have G2 := G1.neg (by simp [hd])
      rw [List.append_nil]
      refine ⟨fun p ts' hp l hl => ?_, fun l hl => G2.2 l hl⟩
      have hq := G2.1 p ts' hp
      have hpp : PL (bodyL (.prm self)) (t :: us) (.ok (p, ts')) := .look (by rw [if_neg (by simp [hd])]; exact hp)
      have hz := PL.short hpp
      have hI2 : Rm N (k + 2) ⟨⟨11, at_, 0, p.2, ⟨#[]⟩, self ++ l, []⟩, [], ts', n⟩ := ⟨by have := hI.len; dsimp only at *; omega, by dsimp only [List.length_cons] at *; omega, by have := hI.xs; dsimp only [List.length_cons] at *; omega, hpp.wf hI.wf⟩
      refine want_mk hI2 hq.2 fun _ r2 hI _ G => blk_kid hI G fun b r3 hI _ G => want_mk hI G fun _ r4 hI _ G => fin_mk hI ?_
      have := G.ret
      rw [hl] at this
      exact this
end
section
variable {K : Ast → List TkP → Prop} {E : Int → Prop} {K' : St → Prop} {N k n : Nat} {h : Nd} {xs : List Ast} {t : TkP} {ts : List TkP}
theorem w_label (hI : Rm (N + 1) k ⟨hdL 32 t.2.1, [], t :: ts, n⟩) (H : Gw gSta (t :: ts) K E) (hw : isW [58, 58] t = true) : WpSeq [wpSkip, wpLabel, wpWords [[58, 58]]] ⟨hdL 32 t.2.1, [], t :: ts, n⟩ (FinK K) E :=
  skip_mk hI (isW_nz hw) fun hI => name_mk hI ((Gw.look H).pos hw).tok fun _ _ hI _ G => want_mk hI G fun _ _ hI _ G => fin_mk hI G.ret
theorem w_break (hI : Rm (N + 1) k ⟨hdL 30 t.2.1, [], t :: ts, n⟩) (H : Gw gSta (t :: ts) K E) (hw : isW wBreak t = true) : WpSeq [wpSkip] ⟨hdL 30 t.2.1, [], t :: ts, n⟩ (FinK K) E :=
  skip_mk hI (isW_nz hw) fun hI => fin_mk hI (((Gw.look H).neg (isW_no hw (by decide))).pos hw).tok.ret
theorem w_goto (hI : Rm (N + 1) k ⟨hdL 31 t.2.1, [], t :: ts, n⟩) (H : Gw gSta (t :: ts) K E) (hw : isW wGoto t = true) : WpSeq [wpSkip, wpLabel] ⟨hdL 31 t.2.1, [], t :: ts, n⟩ (FinK K) E :=
  skip_mk hI (isW_nz hw) fun hI => name_mk hI ((((Gw.look H).neg (isW_no hw (by decide))).neg (isW_no hw (by decide))).pos hw).tok fun _ _ hI _ G => fin_mk hI G.ret
theorem w_do (hI : Rm (N + 1) k ⟨hdL 22 t.2.1, [], t :: ts, n⟩) (H : Gw gSta (t :: ts) K E) (hw : isW wDo t = true) : WpSeq [wpSkip, blkP N, wpWords [wEnd]] ⟨hdL 22 t.2.1, [], t :: ts, n⟩ (FinK K) E :=
  skip_mk hI (isW_nz hw) fun hI => blk_kid hI (((((Gw.look H).neg (isW_no hw (by decide))).neg (isW_no hw (by decide))).neg (isW_no hw (by decide))).pos hw).tok fun _ _ hI _ G => want_mk hI G fun _ _ hI _ G => fin_mk hI G.ret
theorem w_while (hI : Rm (N + 1) k ⟨hdL 23 t.2.1, [], t :: ts, n⟩) (H : Gw gSta (t :: ts) K E) (hw : isW wWhile t = true) : WpSeq [wpSkip, expP N, wpWords [wDo], blkP N, wpWords [wEnd]] ⟨hdL 23 t.2.1, [], t :: ts, n⟩ (FinK K) E :=
  skip_mk hI (isW_nz hw) fun hI => exp_kid hI ((((((Gw.look H).neg (isW_no hw (by decide))).neg (isW_no hw (by decide))).neg (isW_no hw (by decide))).neg (isW_no hw (by decide))).pos hw).tok fun _ _ hI _ G => want_mk hI G fun _ _ hI _ G =>
    blk_kid hI G fun _ _ hI _ G => want_mk hI G fun _ _ hI _ G => fin_mk hI G.ret
theorem w_repeat (hI : Rm (N + 1) k ⟨hdL 24 t.2.1, [], t :: ts, n⟩) (H : Gw gSta (t :: ts) K E) (hw : isW wRepeat t = true) : WpSeq [wpSkip, blkP N, wpWords [wUntil], expP N] ⟨hdL 24 t.2.1, [], t :: ts, n⟩ (FinK K) E :=
  skip_mk hI (isW_nz hw) fun hI => blk_kid hI (((((((Gw.look H).neg (isW_no hw (by decide))).neg (isW_no hw (by decide))).neg (isW_no hw (by decide))).neg (isW_no hw (by decide))).neg (isW_no hw (by decide))).pos hw).tok fun _ _ hI _ G => want_mk hI G fun _ _ hI _ G =>
    exp_kid hI G fun _ _ hI _ G => fin_mk hI G.ret
theorem els_mk {K2 : List Ast → List TkP → Prop} : ∀ (m : Nat) (ts : List TkP) (xs : List Ast) (n k : Nat), ts.length < m → Rm N (k + 1) ⟨h, xs, ts, n⟩ → Gw (bodyL (.els xs) : GL (List Ast)) ts K2 E → (∀ xs' ts' n', Rm N 0 ⟨h, xs', ts', n'⟩ → K2 xs' ts' → K' ⟨h, xs', ts', n'⟩) →
    wpWhile wElseif [expP N, wpWords [wThen], blkP N] m ⟨h, xs, ts, n⟩ (fun s' => WpSeq [wpPerhaps wElse [blkP N], wpWords [wEnd]] s' K' E) E := by
  intro m
  induction m with
  | zero => intro ts xs n k h; omega
  | succ m ih =>
    intro ts xs n k h1 hI H hk
    obtain ⟨t, r, rfl⟩ := hI.wf.fin.cons
    have G := Gw.look H
    refine ⟨t, r, rfl, fun hw => ?_, fun hw => ?_⟩
    · refine exp_kid (hI.tok (isW_nz hw)) (G.pos hw).tok fun e ts1 hI hl G => want_mk hI G fun _ r2 hI hl2 G => blk_kid hI G fun b ts3 hI hl3 G => ?_
      have G3 := (Gw.call G).mono (K' := K2) fun l ts' _ hl => hl.2.ret
      refine ih ts3 _ _ _ (by simp at h1; omega) hI ?_ hk
      have e1 : xs ++ [e, b] = xs ++ [e] ++ [b] := by simp
      rw [← e1]
      exact G3
    · have G := G.neg (by simp [hw])
      exact ⟨t, r, rfl, fun hw2 => blk_kid (hI.tok (isW_nz hw2)) (G.pos hw2).tok fun b ts1 hI _ G => want_mk hI G fun _ r2 hI _ G => hk _ _ _ (hI.less (Nat.zero_le _)) G.ret, fun hw2 => want_mk hI (G.neg (by simp [hw2])) fun _ r2 hI _ G => hk _ _ _ (hI.less (Nat.zero_le _)) G.ret⟩
theorem w_if (hI : Rm (N + 1) k ⟨hdL 25 t.2.1, [], t :: ts, n⟩) (H : Gw gSta (t :: ts) K E) (hw : isW wIf t = true) : WpSeq [wpSkip, expP N, wpWords [wThen], blkP N, wpWhen wElseif [expP N, wpWords [wThen], blkP N], wpPerhaps wElse [blkP N], wpWords [wEnd]] ⟨hdL 25 t.2.1, [], t :: ts, n⟩ (FinK K) E :=
  skip_mk hI (isW_nz hw) fun hI => exp_kid hI ((((((((Gw.look H).neg (isW_no hw (by decide))).neg (isW_no hw (by decide))).neg (isW_no hw (by decide))).neg (isW_no hw (by decide))).neg (isW_no hw (by decide))).neg (isW_no hw (by decide))).pos hw).tok fun e _ hI _ G => want_mk hI G fun _ _ hI _ G =>
    blk_kid hI G fun b r hI _ G => ⟨r.length + 1, els_mk (r.length + 1) r [e, b] _ _ (Nat.lt_succ_self _) hI (Gw.call G) fun xs' ts' n' hI hq => fin_mk hI hq.2.ret⟩
def eachP (N : Nat) : Wp1 := fun s K E => WpSeq [wpWords [wIn], listP N, wpCount] { s with h := { s.h with kind := 27 } } K E
def roundsP (N : Nat) : Wp1 := fun s K E => (s.h.names.length = 1 → ∃ t ts, s.ts = t :: ts ∧ (isW [61] t = true → WpSeq [expP N, wpWords [[44]], expP N, wpPerhaps [44] [expP N]] { s with h := { s.h with kind := 26 }, ts := ts } K E) ∧ (isW [61] t = false → eachP N s K E)) ∧ (s.h.names.length ≠ 1 → eachP N s K E)
theorem each_mk {at_ : Int} {ns : List ByteArray} (hI : Rm N k ⟨⟨0, at_, 0, 0, ⟨#[]⟩, ns, []⟩, [], ts, n⟩)
    (H : Gw (want wIn fun _ => .call .lst fun (l : List Ast) => want wDo fun _ => .call .blk fun (d : Ast) => want wEnd fun _ => .ret (ndA 27 at_ (l.length : Int) ns (l ++ [d]))) ts K E) :
    eachP N ⟨⟨0, at_, 0, 0, ⟨#[]⟩, ns, []⟩, [], ts, n⟩ (fun s => WpSeq [wpWords [wDo], blkP N, wpWords [wEnd]] s (FinK K) E) E := by
  have hI2 : Rm N k ⟨⟨27, at_, 0, 0, ⟨#[]⟩, ns, []⟩, [], ts, n⟩ := ⟨hI.len, hI.n, hI.xs, hI.wf⟩
  refine want_mk hI2 H fun _ r hI _ G => list_mk hI G fun l r2 hI _ G => ?_
  have hI3 : Rm N _ ⟨⟨27, at_, 0, (l.length : Int), ⟨#[]⟩, ns, []⟩, [] ++ l, r2, _⟩ := ⟨hI.len, hI.n, hI.xs, hI.wf⟩
  exact want_mk hI3 G fun _ r3 hI _ G => blk_kid hI G fun d r4 hI _ G => want_mk hI G fun _ r5 hI _ G => fin_mk hI G.ret
theorem w_for (hI : Rm (N + 1) k ⟨hdL 0 t.2.1, [], t :: ts, n⟩) (H : Gw gSta (t :: ts) K E) (hw : isW wFor t = true) : WpSeq [wpSkip, wpNames, roundsP N, wpWords [wDo], blkP N, wpWords [wEnd]] ⟨hdL 0 t.2.1, [], t :: ts, n⟩ (FinK K) E := by
  refine skip_mk hI (isW_nz hw) fun hI => ?_
  have G := Gw.call (((((((((Gw.look H).neg (isW_no hw (by decide))).neg (isW_no hw (by decide))).neg (isW_no hw (by decide))).neg (isW_no hw (by decide))).neg (isW_no hw (by decide))).neg (isW_no hw (by decide))).neg (isW_no hw (by decide))).pos hw).tok
  have G1 : Gw (bodyL (.loo t.2.1) : GL Ast) ts K E := G.mono fun l ts' _ hl => hl.2.ret
  refine nam_mk hI G1 fun ns r hI G => ?_
  obtain ⟨u, us, rfl⟩ := hI.wf.fin.cons
  have G := G.look
  refine ⟨fun hl => ⟨u, us, rfl, fun hw => ?_, fun hw => ?_⟩, fun hl => ?_⟩
  · have hI2 : Rm N _ ⟨⟨26, t.2.1, 0, 0, ⟨#[]⟩, ns, []⟩, [], us, n⟩ := hI.tok (isW_nz hw)
    refine exp_kid hI2 (G.pos ⟨hw, hl⟩).tok fun a r2 hI _ G => want_mk hI G fun _ r3 hI _ G => exp_kid hI G fun b r4 hI _ G => ?_
    obtain ⟨v, vs, rfl⟩ := hI.wf.fin.cons
    have G := G.look
    refine ⟨v, vs, rfl, fun hw => ?_, fun hw => ?_⟩
    · exact exp_kid (hI.tok (isW_nz hw)) (G.pos hw).tok fun c r5 hI _ G => want_mk hI G fun _ r6 hI _ G => blk_kid hI G fun d r7 hI _ G => want_mk hI G fun _ r8 hI _ G => fin_mk hI G.ret
    · exact want_mk hI (G.neg (by simp [hw])) fun _ r6 hI _ G => blk_kid hI G fun d r7 hI _ G => want_mk hI G fun _ r8 hI _ G => fin_mk hI G.ret
  · exact each_mk hI (G.neg (by simp [hw]))
  · exact each_mk hI (G.neg (by simp [hl]))
end
end Go.Proofs.YtfpeecjafccfjaaGreatDoor
namespace Go.Proofs.YtfpeecjafccfjaaGreatDoor
open Go.RowKit
abbrev gSuf : GL Ast := bodyL .suf
def keyP : Wp1 := wpKid (wpHang (hdZ 5) [wpLabel])
section
variable {α : Type} {K : α → List TkP → Prop} {E : Int → Prop} {K' : St → Prop} {N k n : Nat} {h : Nd} {xs : List Ast} {ts : List TkP}
theorem key_mk {kk : TkP → GL α} (hI : Rm N k ⟨h, xs, ts, n⟩) (H : Gw (name kk) ts K E)
    (hk : ∀ (t : TkP) (r : List TkP), Rm N (k + 1) ⟨h, xs ++ [ndS 5 t.2.1 (bts t.2.2.2) []], r, n + Ast.sizeL [ndS 5 t.2.1 (bts t.2.2.2) []]⟩ → r.length < ts.length → Gw (kk t) r K E → K' ⟨h, xs ++ [ndS 5 t.2.1 (bts t.2.2.2) []], r, n + Ast.sizeL [ndS 5 t.2.1 (bts t.2.2.2) []]⟩) : keyP ⟨h, xs, ts, n⟩ K' E := by
  obtain ⟨t, r, hts⟩ := hI.cons
  dsimp only at hts
  subst hts
  have hn := hI.n
  have hx := hI.xs
  dsimp only [List.length_cons] at hn hx
  refine kid_mk (by dsimp only; omega) ⟨t, r, t.2.1, rfl, .inl ⟨rfl, rfl⟩, ⟨t, r, rfl, fun ht => ⟨by dsimp only; omega, KidK.mk (hk t r ?_ (by simp) (H.name.1 ht))⟩, H.name.2⟩⟩
  have hz : Ast.sizeL [ndS 5 t.2.1 (bts t.2.2.2) []] = 1 := by rw [sz1, size_ndS, sizeL_nil]
  have hl := hI.len
  dsimp only [List.length_cons] at hl
  exact ⟨by dsimp only; omega, by rw [hz]; dsimp only; omega, by simp; omega, hI.wf.tail (by rw [ht]; decide)⟩
theorem bdy_kid {kk : Ast → GL α} {at_ : Int} {self : List ByteArray} (hI : Rm N k ⟨h, xs, ts, n⟩) (hat : at_ ≠ 0) (hs : self.length ≤ 100000) (H : Gw (.call (.bdy at_ self) kk) ts K E)
    (hk : ∀ (b : Ast) (ts' : List TkP), Rm N k ⟨h, xs ++ [b], ts', n + Ast.sizeL [b]⟩ → ts'.length < ts.length → Gw (kk b) ts' K E → K' ⟨h, xs ++ [b], ts', n + Ast.sizeL [b]⟩) : wpKid (wpHang ⟨11, at_, 0, 0, ⟨#[]⟩, self, []⟩ [bodyP N]) ⟨h, xs, ts, n⟩ K' E := by
  obtain ⟨t, r, hts⟩ := hI.cons
  dsimp only at hts
  subst hts
  have hn := hI.n
  have hx := hI.xs
  dsimp only at hn hx
  refine kid_mk (by dsimp only; omega) ⟨t, r, at_, rfl, .inr ⟨hat, rfl⟩, ?_⟩
  refine bdy_mk (k := k) ⟨hI.len, hn, by dsimp only [List.length_nil]; omega, hI.wf⟩ hs ((Gw.call H).mono fun (b : Ast) ts' p hq => KidK.mk (hk b ts' (hI.kids (by rw [sz1]; have hz : b.size + 2 * ts'.length ≤ 2 * (t :: r).length := hq.1; omega) (PL.short p) (p.wf hI.wf)) ?_ hq.2))
  have hz : b.size + 2 * ts'.length ≤ 2 * (t :: r).length := hq.1
  have := size_pos b
  omega
end
def wpFnx : Nat → Ast → List TkP → Nat → (Ast → List ByteArray → List TkP → Prop) → (Int → Prop) → Prop
  | 0, _, _, _, _, _ => False
  | k + 1, a, ts, n, K, E => ∃ t r, ts = t :: r ∧ (isW [46] t = true → WpSeq [wpSkip, keyP] ⟨hdL 8 t.2.1, [a], ts, n + a.size⟩ (FinK fun a' ts' => wpFnx k a' ts' n K E) E) ∧
    (isW [46] t = false → (isW [58] t = true → WpSeq [wpSkip, keyP] ⟨hdL 8 t.2.1, [a], ts, n + a.size⟩ (FinK fun a' ts' => K a' [bts wSelf] ts') E) ∧ (isW [58] t = false → K a [] ts))
def assignedP (N : Nat) : Wp1 := fun s K E => s.xs = [] ∧ ∃ t ts, s.ts = t :: ts ∧ t.1 ≠ 0 ∧ wpHang (hdZ 7) [wpLabel] ts s.n (fun a ts1 => ∃ m, wpFnx m a ts1 s.n (fun a2 self ts2 =>
  WpSeq [wpCount, wpKid (wpHang ⟨11, t.2.1, 0, 0, ⟨#[]⟩, self, []⟩ [bodyP N])] ⟨s.h, [a2], ts2, s.n + Ast.sizeL [a2]⟩ K E) E) E
def declaredP (N : Nat) : Wp1 := fun s K E => ∃ t ts, s.ts = t :: ts ∧ (isW wFunction t = false → WpSeq [wpNames, wpPerhaps [61] [listP N]] { s with h := { s.h with kind := 19 } } K E) ∧
  (isW wFunction t = true → ∃ u us, ts = u :: us ∧ (u.1 ≠ 1 → E u.2.1) ∧ (u.1 = 1 → wpKid (wpHang ⟨11, t.2.1, 0, 0, ⟨#[]⟩, [], []⟩ [bodyP N]) { s with h := { s.h with kind := 28, names := [bts u.2.2.2] }, ts := us } K E))
def isVar (a : Ast) : Prop := a.hd.kind = 7 ∨ a.hd.kind = 8
def wpTgt (N : Nat) : WpA := fun ts n K E => wpG N gSuf ts n (fun a ts1 => (isVar a → K a ts1) ∧ (¬ isVar a → ∃ t r, ts1 = t :: r ∧ E t.2.1)) E
def tgtsP (N : Nat) : Wp1 := wpKids (wpTgt N) commaF
def begunP (M N : Nat) : Wp1 := fun s K E => s.xs = [] ∧ wpG M gSuf s.ts s.n (fun a ts1 => (a.hd.kind = 9 ∨ a.hd.kind = 10 → K ⟨{ s.h with kind := 21 }, [a], ts1, s.n + Ast.sizeL [a]⟩) ∧
  (isVar a → WpSeq [wpPerhaps [44] [tgtsP N], wpCount, wpWords [[61]], listP N] ⟨{ s.h with kind := 20 }, [a], ts1, s.n + Ast.sizeL [a]⟩ K E) ∧ (¬ (a.hd.kind = 9 ∨ a.hd.kind = 10) → ¬ isVar a → ∃ t r, ts1 = t :: r ∧ E t.2.1)) E
section
variable {K : Ast → List TkP → Prop} {E : Int → Prop} {K' : St → Prop} {N k n : Nat} {h : Nd} {xs : List Ast} {t : TkP} {ts : List TkP}
theorem fnx_mk (at_ : Int) (n : Nat) (C : Ast → List ByteArray → List TkP → Prop) (hC : ∀ a self ts k, Rm N k ⟨hdL 20 at_, [a], ts, n + Ast.sizeL [a]⟩ → self.length ≤ 1 → Gw (.call (.bdy at_ self) fun (f : Ast) => .ret (ndN 20 at_ 1 [a, f])) ts K E → C a self ts) : ∀ (m : Nat) (ts : List TkP) (a : Ast) (k : Nat), ts.length < m → Rm N k ⟨hdL 20 at_, [a], ts, n + Ast.sizeL [a]⟩ → Gw (bodyL (.fnx at_ a) : GL Ast) ts K E → wpFnx m a ts n C E := by
  intro m
  induction m with
  | zero => intro ts a k h; omega
  | succ m ih =>
    intro ts a k h1 hI H
    obtain ⟨t, r, rfl⟩ := hI.wf.fin.cons
    have G := Gw.look H
    have step : ∀ (j : Nat) (x y : Ast) (ts' : List TkP), Rm N (j + 1) ⟨hdL 8 t.2.1, [a] ++ [x], ts', n + a.size + Ast.sizeL [x]⟩ → y.size = Ast.sizeL ([a] ++ [x]) + 1 → Rm N j ⟨hdL 20 at_, [y], ts', n + Ast.sizeL [y]⟩ := fun j x y ts' hI hy => by
      have h1 := hI.n
      have h2 := hI.xs
      rw [sizeL_app, sz1, sz1] at hy
      rw [sz1] at h1
      exact ⟨hI.len, by rw [sz1]; dsimp only at *; omega, by simp at h2 ⊢; omega, hI.wf⟩
    have hI8 : Rm N k ⟨hdL 8 t.2.1, [a], t :: r, n + a.size⟩ := ⟨hI.len, by have := hI.n; rw [sz1] at this; exact this, hI.xs, hI.wf⟩
    have sk : ∀ {K3 : St → Prop}, t.1 ≠ 0 → (Rm N (k + 2) ⟨hdL 8 t.2.1, [a], r, n + a.size⟩ → K3 ⟨hdL 8 t.2.1, [a], r, n + a.size⟩) → wpSkip ⟨hdL 8 t.2.1, [a], t :: r, n + a.size⟩ K3 E := fun ht hk => ⟨t, r, rfl, ht, hk (hI8.tok ht)⟩
    refine ⟨t, r, rfl, fun hw => ?_, fun hw => ⟨fun hw2 => ?_, fun hw2 => ?_⟩⟩
    · refine sk (isW_nz hw) fun hI => key_mk hI (G.pos hw).tok fun u r2 hI hl G => fin_mk hI ?_
      have G2 := (Gw.call G).mono (K' := K) fun l ts' _ hl => hl.2.ret
      exact ih r2 _ (k + 2) (by simp at h1; omega) (step _ _ _ _ hI (by rw [Ast.size])) G2
    · refine sk (isW_nz hw2) fun hI => key_mk hI ((G.neg (by simp [hw])).pos hw2).tok fun u r2 hI hl G => fin_mk hI ?_
      exact hC _ _ _ (k + 2) (step _ _ _ _ hI (by rw [Ast.size])) (by simp) G
    · exact hC _ _ _ k hI (by simp) ((G.neg (by simp [hw])).neg (by simp [hw2]))
theorem w_function (hI : Rm (N + 1) k ⟨hdL 20 t.2.1, [], t :: ts, n⟩) (H : Gw gSta (t :: ts) K E) (hw : isW wFunction t = true) : WpSeq [assignedP N] ⟨hdL 20 t.2.1, [], t :: ts, n⟩ (FinK K) E := by
  have G := Gw.call ((((((((((Gw.look H).neg (isW_no hw (by decide))).neg (isW_no hw (by decide))).neg (isW_no hw (by decide))).neg (isW_no hw (by decide))).neg (isW_no hw (by decide))).neg (isW_no hw (by decide))).neg (isW_no hw (by decide))).neg (isW_no hw (by decide))).pos hw).tok
  have G1 : Gw (bodyL (.fnm t.2.1) : GL Ast) ts K E := G.mono fun l ts' _ hl => hl.2.ret
  have hat : t.2.1 ≠ 0 := (hI.wf.lin t (List.mem_cons_self ..)).1
  have hI2 := hI.tok' (h' := hdL 20 t.2.1) (isW_nz hw)
  obtain ⟨u, us, rfl⟩ := hI2.wf.fin.cons
  refine ⟨rfl, t, u :: us, rfl, isW_nz hw, u, us, u.2.1, rfl, .inl ⟨rfl, rfl⟩, ⟨u, us, rfl, fun hu => ?_, G1.name.2⟩⟩
  have hI := hI2.tok (h' := hdL 20 t.2.1) (show u.1 ≠ 0 by rw [hu]; decide)
  refine ⟨by have := hI.n; dsimp only at *; omega, us.length + 1, ?_⟩
  have G2 := (Gw.call (G1.name.1 hu)).mono (K' := K) fun l ts' _ hl => hl.2.ret
  refine fnx_mk (N := N) t.2.1 n _ (fun a self ts3 k hI hs G => ?_) (us.length + 1) us _ (k + 3) (Nat.lt_succ_self _) ?_ G2
  · have hI3 : Rm N k ⟨⟨20, t.2.1, 0, 1, ⟨#[]⟩, [], []⟩, [a], ts3, n + Ast.sizeL [a]⟩ := ⟨hI.len, hI.n, hI.xs, hI.wf⟩
    exact bdy_kid hI3 hat (by omega) G fun b r4 hI _ G => fin_mk hI G.ret
  · have h1 := hI.n
    have h2 := hI.xs
    refine ⟨hI.len, ?_, by simp at h2 ⊢; omega, hI.wf⟩
    rw [sz1]
    show n + Ast.size (ndS 7 u.2.1 (bts u.2.2.2) []) + _ + _ ≤ _
    rw [size_ndS, sizeL_nil]
    dsimp only at *
    omega
theorem w_local (hI : Rm (N + 1) k ⟨hdL 0 t.2.1, [], t :: ts, n⟩) (H : Gw gSta (t :: ts) K E) (hw : isW wLocal t = true) : WpSeq [wpSkip, declaredP N] ⟨hdL 0 t.2.1, [], t :: ts, n⟩ (FinK K) E := by
  refine skip_mk hI (isW_nz hw) fun hI => ?_
  have G := Gw.call (((((((((((Gw.look H).neg (isW_no hw (by decide))).neg (isW_no hw (by decide))).neg (isW_no hw (by decide))).neg (isW_no hw (by decide))).neg (isW_no hw (by decide))).neg (isW_no hw (by decide))).neg (isW_no hw (by decide))).neg (isW_no hw (by decide))).neg (isW_no hw (by decide))).pos hw).tok
  have G1 : Gw (bodyL (.loc t.2.1) : GL Ast) ts K E := G.mono fun l ts' _ hl => hl.2.ret
  obtain ⟨u, us, rfl⟩ := hI.wf.fin.cons
  have G := Gw.look G1
  refine ⟨u, us, rfl, fun hw => ?_, fun hw => ?_⟩
  · have hI2 : Rm N (k + 2) ⟨hdL 19 t.2.1, [], u :: us, n⟩ := ⟨hI.len, hI.n, hI.xs, hI.wf⟩
    refine nam_mk hI2 (G.neg (by simp [hw])) fun ns r hI G => ?_
    obtain ⟨v, vs, rfl⟩ := hI.wf.fin.cons
    have G := G.look
    exact ⟨v, vs, rfl, fun hw => list_mk (hI.tok (isW_nz hw)) (G.pos hw).tok fun l r2 hI _ G => fin_mk hI G.ret, fun hw => fin_mk hI (G.neg (by simp [hw])).ret⟩
  · have hat : u.2.1 ≠ 0 := (hI.wf.lin u (List.mem_cons_self ..)).1
    have hI2 := hI.tok (h' := hdL 28 t.2.1) (isW_nz hw)
    obtain ⟨v, vs, rfl⟩ := hI2.wf.fin.cons
    have G := (G.pos hw).tok
    refine ⟨v, vs, rfl, G.name.2, fun hv => ?_⟩
    have hI3 : Rm N (k + 6) ⟨⟨28, t.2.1, 0, 0, ⟨#[]⟩, [bts v.2.2.2], []⟩, [], vs, n⟩ := hI2.tok (by rw [hv]; decide)
    exact bdy_kid hI3 hat (by simp) (G.name.1 hv) fun b r hI _ G => fin_mk hI G.ret
theorem last_app (l : List Ast) (x d : Ast) : (l ++ [x]).getLastD d = x := by simp
theorem row_tgs (at_ : Int) (l0 : List Ast) (K2 : Ast → List TkP → Prop) (B : Nat) (C : List Ast → List TkP → Prop) (hC : ∀ xs ts', Ast.sizeL xs + 2 * ts'.length ≤ B → Wf ts' → ts'.length < N → Gw (want [61] fun _ => .call .lst fun (m : List Ast) => .ret (ndN 20 at_ ((l0 ++ xs).length : Int) (l0 ++ xs ++ m))) ts' K2 E → C xs ts') :
    ∀ (m : Nat) (ts : List TkP) (n : Nat) (acc : List Ast), ts.length < m → ts.length < N → n + 2 * ts.length ≤ 60000 → Ast.sizeL acc + 2 * ts.length ≤ B → Wf ts → Gw (.call .suf fun (x : Ast) => .call (.tgs at_ (l0 ++ acc ++ [x])) fun (y : Ast) => .ret y) ts K2 E → wpRow (wpTgt N) commaF m ts n acc C E := by
  intro m
  induction m with
  | zero => intro ts n acc h; omega
  | succ m ih =>
    intro ts n acc h1 h2 h3 hB hf H
    refine ⟨h2, h3, hf.lin, (Gw.call H).mono fun (e : Ast) ts' p hq => ?_⟩
    have hz : e.size + 2 * ts'.length + 1 ≤ 2 * ts.length := hq.1
    have hf' := p.wf hf
    obtain ⟨t, r, rfl⟩ := hf'.fin.cons
    have hg := (Gw.call hq.2).look
    rw [last_app] at hg
    have hsz : Ast.sizeL (acc ++ [e]) + 2 * (t :: r).length ≤ B := by rw [sizeL_app, sz1]; omega
    refine ⟨fun hv => ?_, fun hv => ⟨t, r, rfl, (hg.neg hv).bad⟩⟩
    have hg := hg.pos hv
    cases hc : isW [44] t with
    | true =>
      have e1 : commaF (t :: r) = (true, r) := by simp [commaF, hc]
      show (_ → _) ∧ (_ → _)
      rw [e1]
      refine ⟨fun _ => ih r (n + e.size) (acc ++ [e]) (by simp at hz; omega) (by simp at hz; omega) (by simp at hz; omega) (by simp at hsz ⊢; omega) (hf'.tail (isW_nz hc)) ?_, fun hb => (Bool.false_ne_true hb.symm).elim⟩
      rw [← List.append_assoc]
      exact (hg.pos hc).tok.mono fun y ts3 _ hy => hy.2.ret
    | false =>
      have e1 : commaF (t :: r) = (false, t :: r) := by simp [commaF, hc]
      show (_ → _) ∧ (_ → _)
      rw [e1]
      refine ⟨fun hb => (Bool.false_ne_true hb).elim, fun _ => hC (acc ++ [e]) (t :: r) hsz hf' (by omega) ?_⟩
      have G := hg.neg (by simp [hc])
      rw [← List.append_assoc]
      exact G.mono fun y ts3 _ hy => hy.2.ret
structure NoSta (t : TkP) : Prop where
  a : isW [58, 58] t = false
  b : isW wBreak t = false
  c : isW wGoto t = false
  d : isW wDo t = false
  e : isW wWhile t = false
  f : isW wRepeat t = false
  g : isW wIf t = false
  h : isW wFor t = false
  i : isW wFunction t = false
  j : isW wLocal t = false
theorem w_begun (hI : Rm (N + 1) k ⟨hdL 0 t.2.1, [], t :: ts, n⟩) (H : Gw gSta (t :: ts) K E) (hw : NoSta t) : WpSeq [begunP (N + 1) N] ⟨hdL 0 t.2.1, [], t :: ts, n⟩ (FinK K) E := by
  have G := ((((((((((Gw.look H).neg (by simp [hw.a])).neg (by simp [hw.b])).neg (by simp [hw.c])).neg (by simp [hw.d])).neg (by simp [hw.e])).neg (by simp [hw.f])).neg (by simp [hw.g])).neg (by simp [hw.h])).neg (by simp [hw.i])).neg (by simp [hw.j])
  have hn := hI.n
  have hx := hI.xs
  have hl := hI.len
  dsimp only at hn hx hl
  refine ⟨rfl, hI.len, by dsimp only; omega, hI.wf.lin, (Gw.call G).mono fun (x : Ast) ts' p hq => ?_⟩
  have hz : x.size + 2 * ts'.length + 1 ≤ 2 * (t :: ts).length := hq.1
  have hwf := p.wf hI.wf
  have hlt : ts'.length < N := by have := size_pos x; simp only [List.length_cons] at *; omega
  have hI2 : ∀ h', Rm N 0 ⟨h', [x], ts', n + Ast.sizeL [x]⟩ := fun h' => ⟨hlt, by rw [sz1]; dsimp only; omega, by have := size_pos x; simp only [List.length_cons, List.length_nil] at *; omega, hwf⟩
  refine ⟨fun hk => fin_mk (hI2 _) (hq.2.pos hk).ret, fun hv => ?_, fun h1 h2 => ?_⟩
  · have h9 : ¬ (x.hd.kind = 9 ∨ x.hd.kind = 10) := by unfold isVar at hv; omega
    have G := (Gw.call (hq.2.neg h9)).mono (K' := K) fun y ts3 _ hy => hy.2.ret
    obtain ⟨u, us, rfl⟩ := hwf.fin.cons
    have G := (Gw.look G).pos hv
    have hend : ∀ (ys : List Ast) (ts3 : List TkP), Rm N 0 ⟨hdL 20 t.2.1, [x] ++ ys, ts3, n + Ast.sizeL ([x] ++ ys)⟩ → Gw (want [61] fun _ => .call .lst fun (m : List Ast) => .ret (ndN 20 t.2.1 (([x] ++ ys).length : Int) ([x] ++ ys ++ m))) ts3 K E → WpSeq [wpCount, wpWords [[61]], listP N] ⟨hdL 20 t.2.1, [x] ++ ys, ts3, n + Ast.sizeL ([x] ++ ys)⟩ (FinK K) E := fun ys ts3 hI G => by
      have hI3 : Rm N 0 ⟨⟨20, t.2.1, 0, (([x] ++ ys).length : Int), ⟨#[]⟩, [], []⟩, [x] ++ ys, ts3, n + Ast.sizeL ([x] ++ ys)⟩ := ⟨hI.len, hI.n, hI.xs, hI.wf⟩
      exact want_mk hI3 G fun _ r2 hI _ G => list_mk hI G fun m r3 hI _ G => fin_mk hI G.ret
    refine ⟨u, us, rfl, fun hc => ?_, fun hc => ?_⟩
    · have hIt := (hI2 (hdL 20 t.2.1)).tok (h' := hdL 20 t.2.1) (isW_nz hc)
      have htn := hIt.n
      have htx := hIt.xs
      dsimp only at htn htx
      refine ⟨by dsimp only; omega, us.length + 1, by omega, ?_⟩
      refine row_tgs t.2.1 [x] K (2 * us.length) _ (fun ys ts3 hs hw3 hl3 G => ?_) (us.length + 1) us _ [] (Nat.lt_succ_self _) hIt.len (by dsimp only; omega) (by rw [sizeL_nil]; omega) hIt.wf ((G.pos hc).tok)
      have := hend ys ts3 ⟨hl3, ?_, ?_, hw3⟩ G
      · rw [sizeL_app, ← Nat.add_assoc] at this
        exact this
      · rw [sizeL_app]; dsimp only; omega
      · have := len_size ys
        simp only [List.length_append] at *
        omega
    · have := hend [] (u :: us) (by rw [List.append_nil]; exact hI2 _) (by rw [List.append_nil]; exact G.neg (by simp [hc]))
      rw [List.append_nil] at this
      exact this
  · have h9 := hq.2.neg h1
    obtain ⟨u, us, rfl⟩ := hwf.fin.cons
    have G := (Gw.call h9).look
    exact ⟨u, us, rfl, (G.neg h2).bad⟩
end
end Go.Proofs.YtfpeecjafccfjaaGreatDoor
namespace Go.Proofs.YtfpeecjafccfjaaGreatDoor
open Go.RowKit
def Rds (f : FuncId) (wp : WpA) : Prop := ∀ (b : Nat) (O : Nat → Prop) (ts : List TkP) (T : List Nd) (K : Ast → List TkP → Prop) (E : Int → Prop) (W : World), PS W b O ts T → wp ts T.length K E → Calls Tryz.prog f #[.pointer (some ⟨b, 0, none⟩)] W (PlacePost b O T (RK K E) W)
theorem Rds.one {f : FuncId} {wp : WpA} (h : Rds f wp) (hf : Enters Tryz.prog f) (W : World) (b : Nat) (O : Nat → Prop) : One W b O (mval f b) wp := by
  intro W1 O1 T ts K E _ _ hp hk
  exact ⟨f, _, _, rfl, hf, h b O1 ts T K E W1 hp hk⟩
def RdN (f : FuncId) (wp : Wp1) : Prop := ∀ (b n : Nat) (O : Nat → Prop) (T0 : List Nd) (s : St) (K : St → Prop) (E : Int → Prop) (W : World), Real W b n O T0 s → wp s K E → Calls Tryz.prog f #[.pointer (some ⟨b, 0, none⟩), .pointer (some ⟨n, 0, none⟩)] W (PartPost b n O T0 K E W)
theorem RdN.part {f : FuncId} {wp : Wp1} (h : RdN f wp) (hf : Enters Tryz.prog f) (W : World) (b : Nat) (O : Nat → Prop) : RdPart W b O (mval f b) wp := by
  intro W1 O1 T0 s n K E _ _ hr hk
  exact ⟨f, _, _, rfl, hf, h b n O1 T0 s K E W1 hr hk⟩
theorem Real.lt {W : World} {b n : Nat} {O : Nat → Prop} {T0 : List Nd} {s : St} (h : Real W b n O T0 s) : ∀ k, O k → k < W.heap.size := fun k hk => (h.own k hk).2
theorem RdPart.call {W W1 : World} {b n : Nat} {O : Nat → Prop} {T0 : List Nd} {s : St} {K : St → Prop} {E : Int → Prop} {v : Value} {wp : Wp1} (h : RdPart W1 b O v wp) (hr : Real W b n O T0 s) (hb : Below W.heap.size W W1) (hk : wp s K E) :
    ∃ f first cap, v = .func (.func f) first cap ∧ Enters Tryz.prog f ∧ Calls Tryz.prog f (first.push (.pointer (some ⟨n, 0, none⟩)) ++ cap) W1 (PartPost b n O T0 K E W) := by
  obtain ⟨f, first, cap, e, h1, h2⟩ := h W1 O T0 s n K E (Fr.refl _ _) (Ext.refl _ _) (hr.below hb) hk
  refine ⟨f, first, cap, e, h1, ?_⟩
  rw [show first ++ #[Value.pointer (some ⟨n, 0, none⟩)] = first.push (.pointer (some ⟨n, 0, none⟩)) from by simp] at h2
  exact h2.mono fun e w' hp => hp.after (Fr.of_below hb)
set_option maxHeartbeats 1000000 in
theorem exp_p {wp : WpA} (hE : Rds 115 wp) : RdN 87 (wpKid wp) := by
  intro b n O T0 s K E w hr hk
  have HC := Lib.hid (kid_p b O 115 _ _ wp w (hE.one (enters_of Tryz.func115 (by kernel_rfl) rfl) w b O) hr.lt)
  have HR := Lib.hid hr
  have HK := Lib.hid hk
  clear hr hk
  go_enter Tryz.func87, Tryz.ntmps87
  go_wp2_with fail
  refine HC.out.mono ?_; rintro e w1 ⟨v, rfl, b1, h2⟩
  obtain ⟨f, first, cap, rfl, ent, hcall⟩ := h2.1.call HR.out b1 HK.out
  have HCall := Lib.hid hcall
  clear h2 hcall b1
  unfold Enters at ent
  go_wp2_with fail
  refine HCall.out.mono ?_; intro e w2 h3
  obtain ⟨v, rfl⟩ := h3.ret
  have H3 := Lib.hid h3
  clear h3
  go_wp2_with fail
  go_ret
  exact H3.out
theorem comma_more (W : World) (b : Nat) (O : Nat → Prop) : More W b O (mval 116 b) commaF := by
  intro W1 O1 T ts _ _ hp
  obtain ⟨t, r, rfl⟩ := hp.fin.cons
  refine ⟨116, _, _, rfl, enters_of Tryz.func116 (by kernel_rfl) rfl, ?_⟩
  cases hc : isW [44] t with
  | true =>
    have e1 : commaF (t :: r) = (true, r) := by simp [commaF, hc]
    rw [e1]
    exact comma_yes_p b O1 t r T W1 hp hc
  | false =>
    have e1 : commaF (t :: r) = (false, t :: r) := by simp [commaF, hc]
    rw [e1]
    exact comma_no_p b O1 t r T W1 hp hc
set_option maxHeartbeats 1000000 in
theorem list_p {wp : WpA} (hE : Rds 115 wp) : RdN 80 (wpKids wp commaF) := by
  intro b n O T0 s K E w hr hk
  have HC := Lib.hid (kids_p b O 115 116 _ _ _ _ wp commaF w (hE.one (enters_of Tryz.func115 (by kernel_rfl) rfl) w b O) (comma_more w b O) hr.lt)
  have HR := Lib.hid hr
  have HK := Lib.hid hk
  clear hr hk
  go_enter Tryz.func80, Tryz.ntmps80
  go_wp2_with fail
  refine HC.out.mono ?_; rintro e w1 ⟨v, rfl, b1, h2⟩
  obtain ⟨f, first, cap, rfl, ent, hcall⟩ := h2.1.call HR.out b1 HK.out
  have HCall := Lib.hid hcall
  clear h2 hcall b1
  unfold Enters at ent
  go_wp2_with fail
  refine HCall.out.mono ?_; intro e w2 h3
  obtain ⟨v, rfl⟩ := h3.ret
  have H3 := Lib.hid h3
  clear h3
  go_wp2_with fail
  go_ret
  exact H3.out
set_option maxHeartbeats 1000000 in
theorem targets_p {wp : WpA} (hE : Rds 153 wp) : RdN 127 (wpKids wp commaF) := by
  intro b n O T0 s K E w hr hk
  have HC := Lib.hid (kids_p b O 153 116 _ _ _ _ wp commaF w (hE.one (enters_of Tryz.func153 (by kernel_rfl) rfl) w b O) (comma_more w b O) hr.lt)
  have HR := Lib.hid hr
  have HK := Lib.hid hk
  clear hr hk
  go_enter Tryz.func127, Tryz.ntmps127
  go_wp2_with fail
  refine HC.out.mono ?_; rintro e w1 ⟨v, rfl, b1, h2⟩
  obtain ⟨f, first, cap, rfl, ent, hcall⟩ := h2.1.call HR.out b1 HK.out
  have HCall := Lib.hid hcall
  clear h2 hcall b1
  unfold Enters at ent
  go_wp2_with fail
  refine HCall.out.mono ?_; intro e w2 h3
  obtain ⟨v, rfl⟩ := h3.ret
  have H3 := Lib.hid h3
  clear h3
  go_wp2_with fail
  go_ret
  exact H3.out
theorem RdParts.new {w : World} {b : Nat} {O : Nat → Prop} (hO : ∀ k, O k → k < w.heap.size) (vs : List Value) (wps : List Wp1) (hl : vs.length ≤ 100) (h : Alls w b O vs wps) : RdParts (w.alloc (.cells vs.toArray 89)) b O (.slice (some ⟨w.heap.size, 0, none⟩) vs.length vs.length) wps :=
  ⟨vs, .inr ⟨w.heap.size, rfl, World.alloc_heap_new w _, fun h => by have := hO _ h; omega, hl⟩, h.later ((Fr.refl _ _).alloc _) (Ext.refl _ _)⟩
theorem allocB (w : World) (o : Obj) : Below w.heap.size w (w.alloc o) := (Below.refl _ _).alloc (Nat.le_refl _) o
set_option maxHeartbeats 1000000 in
theorem block_p {wp : Wp1} (hS : RdN 18 wp) : RdN 86 (wpKid (wpHang (hdZ 18) [wp])) := by
  intro b n O T0 s K E w hr hk
  have hO := hr.lt
  have HP : RdParts (w.alloc (.cells #[mval 18 b] 89)) b O (.slice (some ⟨w.heap.size, 0, none⟩) 1 1) [wp] := RdParts.new hO [mval 18 b] [wp] (by simp) ⟨hS.part (enters_of Tryz.func18 (by kernel_rfl) rfl) w b O, trivial⟩
  have HC := Lib.hid (hang_p b O (hdZ 18) (.slice none 0 0) _ [wp] _ (Nam.nil _ b) HP (fun k hk => by have := hO k hk; simp; omega))
  have HR := Lib.hid hr
  have HK := Lib.hid hk
  clear hr hk HP hO
  go_enter Tryz.func86, Tryz.ntmps86
  go_wp2_with fail
  refine HC.out.mono ?_; rintro e w1 ⟨v, rfl, b1, h2⟩
  obtain ⟨f, first, cap, rfl, ent, hcall⟩ := h2.1.call HR.out (thenBR (allocB w _) b1) HK.out
  have HCall := Lib.hid hcall
  clear h2 hcall b1
  unfold Enters at ent
  go_wp2_with fail
  refine HCall.out.mono ?_; intro e w2 h3
  obtain ⟨v, rfl⟩ := h3.ret
  have H3 := Lib.hid h3
  clear h3
  go_wp2_with fail
  go_ret
  exact H3.out
set_option maxHeartbeats 1000000 in
theorem key_p : RdN 148 keyP := by
  intro b n O T0 s K E w hr hk
  have hO := hr.lt
  have HP : RdParts (w.alloc (.cells #[mval 84 b] 89)) b O (.slice (some ⟨w.heap.size, 0, none⟩) 1 1) [wpLabel] := RdParts.new hO [mval 84 b] [wpLabel] (by simp) ⟨label_part w b O, trivial⟩
  have HC := Lib.hid (hang_p b O (hdZ 5) (.slice none 0 0) _ [wpLabel] _ (Nam.nil _ b) HP (fun k hk => by have := hO k hk; simp; omega))
  have HR := Lib.hid hr
  have HK := Lib.hid hk
  clear hr hk HP hO
  go_enter Tryz.func148, Tryz.ntmps148
  go_wp2_with fail
  refine HC.out.mono ?_; rintro e w1 ⟨v, rfl, b1, h2⟩
  obtain ⟨f, first, cap, rfl, ent, hcall⟩ := h2.1.call HR.out (thenBR (allocB w _) b1) HK.out
  have HCall := Lib.hid hcall
  clear h2 hcall b1
  unfold Enters at ent
  go_wp2_with fail
  refine HCall.out.mono ?_; intro e w2 h3
  obtain ⟨v, rfl⟩ := h3.ret
  have H3 := Lib.hid h3
  clear h3
  go_wp2_with fail
  go_ret
  exact H3.out
end Go.Proofs.YtfpeecjafccfjaaGreatDoor
namespace Go.Proofs.YtfpeecjafccfjaaGreatDoor
open Go.RowKit
theorem node0 (b : Nat) (O : Nat → Prop) (t : TkP) (ts : List TkP) (T : List Nd) (x : Nd) (pv : Value) (wps : List Wp1) (K : Ast → List TkP → Prop) (E : Int → Prop) (w : World) (hp : PS w b O (t :: ts) T) (hx : x = ⟨x.kind, 0, x.op, x.num, x.s, [], []⟩) (hpt : RdParts w b O pv wps)
    (hk : WpSeq wps ⟨{ x with line := t.2.1 }, [], t :: ts, T.length⟩ (FinK K) E) : Calls Tryz.prog 17 #[.pointer (some ⟨b, 0, none⟩), nodeV x (.slice none 0 0) (.slice none 0 0), pv] w (PlacePost b O T (RK K E) w) := by
  have h1 : x.line = 0 := by rw [hx]
  have h2 : x.names = [] := by rw [hx]
  refine (node_p b O (fun _ => False) t ts T T x t.2.1 [] [] (.slice none 0 0) (.slice none 0 0) pv wps (RK K E) w hp ⟨?_, World.ownsRow_nil _ _ _ _, fun g hg => by simp [Value.ownBlock] at hg, fun g hg => by simp [Value.ownBlock] at hg, fun g hg => by simp [Value.ownBlock] at hg⟩ (fun _ _ h => h) (fun _ h => h.elim) (Lies.nil T) (hpt.later (Fr.refl _ _) (fun k hk => .inl (hk.elim id False.elim))) (.inl ⟨h1, rfl⟩) hk).mono fun e w' h => h.sub fun k hk => hk.elim id False.elim
  rw [show ({ x with kids := [] } : Nd).names = [] from h2]
  exact World.ownsRow_nil _ _ _ _
theorem node_at {b : Nat} {O : Nat → Prop} {t : TkP} {ts : List TkP} {T : List Nd} {K : Ast → List TkP → Prop} {E : Int → Prop} (w w2 : World) (hp : PS w2 b O (t :: ts) T) (hf : Fr O w w2) (x : Nd) (hx : x = ⟨x.kind, 0, x.op, x.num, x.s, [], []⟩) (vs : List Value) (wps : List Wp1) (hl : vs.length ≤ 100) (hall : Alls w2 b O vs wps)
    (hk : WpSeq wps ⟨{ x with line := t.2.1 }, [], t :: ts, T.length⟩ (FinK K) E) : Calls Tryz.prog 17 #[.pointer (some ⟨b, 0, none⟩), nodeV x (.slice none 0 0) (.slice none 0 0), .slice (some ⟨w2.heap.size, 0, none⟩) vs.length vs.length] (w2.alloc (.cells vs.toArray 89)) (PlacePost b O T (RK K E) w) :=
  (node0 b O t ts T x _ wps K E _ (hp.below (allocB w2 _)) hx (RdParts.new (fun k hk => (hp.own k hk).2) vs wps hl hall) hk).mono fun _ _ h => h.after (hf.alloc _)
def NewPart (b : Nat) (O : Nat → Prop) (wp : Wp1) (w : World) (e : Ending) (w' : World) : Prop := ∃ f first cap, e = .returned (.func (.func f) first cap) ∧ Below w.heap.size w w' ∧ RdPart w' b O (.func (.func f) first cap) wp
theorem words_at (w : World) (b : Nat) (O : Nat → Prop) (hO : ∀ k, O k → k < w.heap.size) (x : List UInt8) (hx : x ≠ []) (X : ByteArray) (hX : X = bts x) :
    Calls Tryz.prog 85 #[.pointer (some ⟨b, 0, none⟩), .slice (some ⟨w.heap.size, 0, none⟩) 1 1] (w.alloc (.cells #[.string X] 9)) (NewPart b O (wpWords [x]) w) := by
  subst hX
  refine (words_p b w.heap.size O [x] (w.alloc (.cells #[.string (bts x)] 9)) (fun y hy => by rw [List.mem_singleton.1 hy]; exact hx) (by simp) (Box.new w O hO _ 9) (fun k hk => by have := hO k hk; simp; omega) 1 rfl).mono ?_
  rintro e w' ⟨v, rfl, hb, hp, f, first, cap, rfl⟩
  exact ⟨f, first, cap, rfl, thenBR (allocB w _) hb, hp⟩
theorem PlacePost.form {b : Nat} {O : Nat → Prop} {T0 : List Nd} {R : Except Int (Ast × List TkP) → Prop} {w : World} {e : Ending} {w' : World} (h : PlacePost b O T0 R w e w') : ∃ v er, e = .returned (.tuple #[v, er]) := h.ret
def plainP (ex : Wp1) (t : TkP) (ts : List TkP) (n : Nat) (K : Ast → List TkP → Prop) (E : Int → Prop) : Prop :=
  (isW [40] t = true → WpSeq [wpSkip, ex, wpWords [[41]]] ⟨hdL 14 t.2.1, [], t :: ts, n⟩ (FinK K) E) ∧ (isW [40] t = false → WpSeq [wpLabel] ⟨hdL 7 t.2.1, [], t :: ts, n⟩ (FinK K) E)
set_option maxHeartbeats 2000000 in
theorem plain_p {ex : Wp1} (hE : RdN 87 ex) (b : Nat) (O : Nat → Prop) (t : TkP) (ts : List TkP) (T : List Nd) (K : Ast → List TkP → Prop) (E : Int → Prop) (w : World) (hp : PS w b O (t :: ts) T) (hk : plainP ex t ts T.length K E) :
    Calls Tryz.prog 151 #[.pointer (some ⟨b, 0, none⟩)] w (PlacePost b O T (RK K E) w) := by
  have HW := Lib.hid (word_p b O t ts T w hp)
  cases hq : isW [40] t with
  | true =>
    have g1 : ((wordS t).toList == [40]) = true := word_is (s := [40]) (by decide) t hq
    have HK := Lib.hid (hk.1 hq)
    generalize hY : wordS t = Y at *
    have HP := Lib.hid hp
    clear hp hk hY hq
    go_enter Tryz.func151, Tryz.ntmps151
    go_wp2_with fail
    refine HW.out.mono ?_; rintro e w1 ⟨rfl, b1⟩
    have hp1 := HP.out.below b1
    have hO1 : ∀ k, O k → k < w1.heap.size := fun k hk => (hp1.own k hk).2
    have B1 := Lib.hid b1
    have P1 := Lib.hid hp1
    have HV := Lib.hid (words_at w1 b O hO1 [41] (by decide) ⟨#[41]⟩ rfl)
    clear b1 hp1 hO1
    go_wp2_with fail
    refine HV.out.mono ?_; rintro e w2 ⟨fi, f1, f2, rfl, b2, h2⟩
    have HN := Lib.hid (node_at w w2 (P1.out.below b2) (Fr.of_below (thenBR B1.out b2)) (hdZ 14) rfl [mval 37 b, mval 87 b, .func (.func fi) f1 f2] [wpSkip, ex, wpWords [[41]]] (by simp) ⟨skip_part w2 b O, hE.part (enters_of Tryz.func87 (by kernel_rfl) rfl) w2 b O, h2, trivial⟩ HK.out)
    clear b2 h2
    go_wp2_with fail
    refine HN.out.mono ?_; intro e w3 h3
    obtain ⟨v, er, rfl⟩ := h3.ret
    have H3 := Lib.hid h3
    clear h3
    go_wp2_with fail
    go_ret2
    exact H3.out
  | false =>
    have g1 : ((wordS t).toList == [40]) = false := word_is (s := [40]) (by decide) t hq
    have HK := Lib.hid (hk.2 hq)
    generalize hY : wordS t = Y at *
    have HP := Lib.hid hp
    clear hp hk hY hq
    go_enter Tryz.func151, Tryz.ntmps151
    go_wp2_with fail
    refine HW.out.mono ?_; rintro e w1 ⟨rfl, b1⟩
    have HN := Lib.hid (node_at w w1 (HP.out.below b1) (Fr.of_below b1) (hdZ 7) rfl [mval 84 b] [wpLabel] (by simp) ⟨label_part w1 b O, trivial⟩ HK.out)
    clear b1
    go_wp2_with fail
    refine HN.out.mono ?_; intro e w3 h3
    obtain ⟨v, er, rfl⟩ := h3.ret
    have H3 := Lib.hid h3
    clear h3
    go_wp2_with fail
    go_ret2
    exact H3.out
end Go.Proofs.YtfpeecjafccfjaaGreatDoor
namespace Go.Proofs.YtfpeecjafccfjaaGreatDoor
open Go.RowKit
theorem words2_at (w : World) (b : Nat) (O : Nat → Prop) (hO : ∀ k, O k → k < w.heap.size) (x y : List UInt8) (hx : x ≠ []) (hy : y ≠ []) (X Y : ByteArray) (hX : X = bts x) (hY : Y = bts y) :
    Calls Tryz.prog 85 #[.pointer (some ⟨b, 0, none⟩), .slice (some ⟨w.heap.size, 0, none⟩) 2 2] (w.alloc (.cells #[.string X, .string Y] 9)) (NewPart b O (wpWords [x, y]) w) := by
  subst hX hY
  refine (words_p b w.heap.size O [x, y] (w.alloc (.cells #[.string (bts x), .string (bts y)] 9)) (fun z hz => by rcases List.mem_cons.1 hz with rfl | hz; exact hx; rw [List.mem_singleton.1 hz]; exact hy) (by simp) (Box.new w O hO _ 9) (fun k hk => by have := hO k hk; simp; omega) 2 rfl).mono ?_
  rintro e w' ⟨v, rfl, hb, hp, f, first, cap, rfl⟩
  exact ⟨f, first, cap, rfl, thenBR (allocB w _) hb, hp⟩
theorem perhaps_at (w : World) (b : Nat) (O : Nat → Prop) (hO : ∀ k, O k → k < w.heap.size) (vs : List Value) (wps : List Wp1) (hl : vs.length ≤ 100) (h : Alls w b O vs wps) (x : List UInt8) (hx : x ≠ []) (X : ByteArray) (hX : X = bts x) :
    Calls Tryz.prog 39 #[.pointer (some ⟨b, 0, none⟩), .string X, .slice (some ⟨w.heap.size, 0, none⟩) vs.length vs.length] (w.alloc (.cells vs.toArray 89)) (NewPart b O (wpPerhaps x wps) w) := by
  refine (perhaps_p b O x X hX hx _ wps _ (RdParts.new hO vs wps hl h) (fun k hk => by have := hO k hk; simp; omega)).mono ?_
  rintro e w' ⟨v, rfl, hb, hp, f, first, cap, rfl⟩
  exact ⟨f, first, cap, rfl, thenBR (allocB w _) hb, hp⟩
theorem when_at (w : World) (b : Nat) (O : Nat → Prop) (hO : ∀ k, O k → k < w.heap.size) (vs : List Value) (wps : List Wp1) (hl : vs.length ≤ 100) (h : Alls w b O vs wps) (x : List UInt8) (hx : x ≠ []) (X : ByteArray) (hX : X = bts x) :
    Calls Tryz.prog 88 #[.pointer (some ⟨b, 0, none⟩), .string X, .slice (some ⟨w.heap.size, 0, none⟩) vs.length vs.length] (w.alloc (.cells vs.toArray 89)) (NewPart b O (wpWhen x wps) w) := by
  refine (whenever_p b O x X hX hx _ wps _ (RdParts.new hO vs wps hl h) (fun k hk => by have := hO k hk; simp; omega)).mono ?_
  rintro e w' ⟨v, rfl, hb, hp, f, first, cap, rfl⟩
  exact ⟨f, first, cap, rfl, thenBR (allocB w _) hb, hp⟩
theorem unless_at (w : World) (b : Nat) (O : Nat → Prop) (hO : ∀ k, O k → k < w.heap.size) (x : List UInt8) (hx : x ≠ []) (X : ByteArray) (hX : X = bts x) (f : FuncId) (first cap : Array Value) (wp : Wp1) (h : RdPart w b O (.func (.func f) first cap) wp) :
    Calls Tryz.prog 149 #[.pointer (some ⟨b, 0, none⟩), .string X, .func (.func f) first cap] w (NewPart b O (wpUnless x wp) w) := by
  refine (unless_p b O x X hX hx f first cap wp w h hO).mono ?_
  rintro e w' ⟨v, rfl, hb, hp, f, first, cap, rfl⟩
  exact ⟨f, first, cap, rfl, hb, hp⟩
theorem fill_at {b n : Nat} {O O2 : Nat → Prop} {T0 : List Nd} {s : St} {K : St → Prop} {E : Int → Prop} (w w2 : World) (hr : Real w2 b n O2 T0 s) (hf : Fr O w w2) (he : Ext O O2 w) (vs : List Value) (wps : List Wp1) (hl : vs.length ≤ 100) (hall : Alls w2 b O2 vs wps) (hk : WpSeq wps s K E) :
    Calls Tryz.prog 32 #[.pointer (some ⟨n, 0, none⟩), .slice (some ⟨w2.heap.size, 0, none⟩) vs.length vs.length] (w2.alloc (.cells vs.toArray 89)) (PartPost b n O T0 K E w) :=
  (fill_p b n O2 T0 s K E _ wps _ (hr.below (allocB w2 _)) (RdParts.new hr.lt vs wps hl hall) hk).mono fun e w' h => by
    obtain ⟨h1, h2⟩ := h
    have hf2 : Fr O2 w2 w' := ((Fr.refl O2 w2).alloc _).trans h1 (Ext.refl _ _)
    refine ⟨hf.trans hf2 he, h2.imp ?_ ?_⟩
    · rintro ⟨s', O', e1, r1, x1, k1⟩
      exact ⟨s', O', e1, r1, he.trans (fun k hk => (x1 k hk).imp id fun h => by simp at h; omega) hf.size, k1⟩
    · rintro ⟨l, v, e1, ⟨g, m1, m2, m3⟩, k⟩
      exact ⟨l, v, e1, ⟨g, m1, by have := hf.size; simp at m2; omega, m3⟩, k⟩
end Go.Proofs.YtfpeecjafccfjaaGreatDoor
namespace Go.Proofs.YtfpeecjafccfjaaGreatDoor
open Go.RowKit
set_option maxHeartbeats 4000000 in
theorem body_p {pa bl : Wp1} (hPar : RdN 150 pa) (hB : RdN 86 bl) : RdN 125 (fun s K E => WpSeq [wpWords [[40]], wpUnless [41] pa, wpWords [[41]], bl, wpWords [wEnd]] s K E) := by
  intro b n O T0 s K E w0 hr hk
  have HK := Lib.hid hk
  have P0 := Lib.hid hr
  have F0 := Lib.hid (Fr.refl O w0)
  clear hr hk
  go_enter Tryz.func125, Tryz.ntmps125
  have hO0 : ∀ k, O k → k < w0.heap.size := P0.out.lt
  have V1 := Lib.hid (words_at w0 b O hO0 [40] (by decide) ⟨#[40]⟩ rfl)
  clear hO0
  go_wp2_with fail
  refine V1.out.mono ?_; rintro e w1 ⟨f1, a1, c1, rfl, b1, h1⟩
  have F1 := Lib.hid (F0.out.trans (Fr.of_below (O := O) b1) (Ext.refl _ _))
  have P1 := Lib.hid (P0.out.below b1)
  have H1 := Lib.hid h1
  clear b1 h1 V1
  have hO1 : ∀ k, O k → k < w1.heap.size := P1.out.lt
  have V2 := Lib.hid (unless_at w1 b O hO1 [41] (by decide) ⟨#[41]⟩ rfl 150 _ _ (pa) (hPar.part (enters_of Tryz.func150 (by kernel_rfl) rfl) w1 b O))
  clear hO1
  go_wp2_with fail
  refine V2.out.mono ?_; rintro e w2 ⟨f2, a2, c2, rfl, b2, h2⟩
  have F2 := Lib.hid (F1.out.trans (Fr.of_below (O := O) b2) (Ext.refl _ _))
  have P2 := Lib.hid (P1.out.below b2)
  have L1 := Lib.hid (H1.out.later (Fr.of_below (O := O) b2) (Ext.refl _ _))
  clear H1
  have H1 := L1
  clear L1
  have H2 := Lib.hid h2
  clear b2 h2 V2
  have hO2 : ∀ k, O k → k < w2.heap.size := P2.out.lt
  have V3 := Lib.hid (words_at w2 b O hO2 [41] (by decide) ⟨#[41]⟩ rfl)
  clear hO2
  go_wp2_with fail
  refine V3.out.mono ?_; rintro e w3 ⟨f3, a3, c3, rfl, b3, h3⟩
  have F3 := Lib.hid (F2.out.trans (Fr.of_below (O := O) b3) (Ext.refl _ _))
  have P3 := Lib.hid (P2.out.below b3)
  have L1 := Lib.hid (H1.out.later (Fr.of_below (O := O) b3) (Ext.refl _ _))
  clear H1
  have H1 := L1
  clear L1
  have L2 := Lib.hid (H2.out.later (Fr.of_below (O := O) b3) (Ext.refl _ _))
  clear H2
  have H2 := L2
  clear L2
  have H3 := Lib.hid h3
  clear b3 h3 V3
  have hO3 : ∀ k, O k → k < w3.heap.size := P3.out.lt
  have V4 := Lib.hid (words_at w3 b O hO3 [101, 110, 100] (by decide) ⟨#[101, 110, 100]⟩ rfl)
  clear hO3
  go_wp2_with fail
  refine V4.out.mono ?_; rintro e w4 ⟨f4, a4, c4, rfl, b4, h4⟩
  have F4 := Lib.hid (F3.out.trans (Fr.of_below (O := O) b4) (Ext.refl _ _))
  have P4 := Lib.hid (P3.out.below b4)
  have L1 := Lib.hid (H1.out.later (Fr.of_below (O := O) b4) (Ext.refl _ _))
  clear H1
  have H1 := L1
  clear L1
  have L2 := Lib.hid (H2.out.later (Fr.of_below (O := O) b4) (Ext.refl _ _))
  clear H2
  have H2 := L2
  clear L2
  have L3 := Lib.hid (H3.out.later (Fr.of_below (O := O) b4) (Ext.refl _ _))
  clear H3
  have H3 := L3
  clear L3
  have H4 := Lib.hid h4
  clear b4 h4 V4
  have HN := Lib.hid (fill_at w0 w4 P4.out F4.out (Ext.refl _ _) [.func (.func f1) a1 c1, .func (.func f2) a2 c2, .func (.func f3) a3 c3, mval 86 b, .func (.func f4) a4 c4] [wpWords [[40]], wpUnless [41] (pa), wpWords [[41]], bl, wpWords [[101, 110, 100]]] (by simp) ⟨H1.out, H2.out, H3.out, hB.part (enters_of Tryz.func86 (by kernel_rfl) rfl) w4 b O, H4.out, trivial⟩ HK.out)
  go_wp2_with fail
  refine HN.out.mono ?_; intro e wz hz
  obtain ⟨v, rfl⟩ := hz.ret
  have HZ := Lib.hid hz
  clear hz
  go_wp2_with fail
  go_ret
  exact HZ.out
set_option maxHeartbeats 4000000 in
theorem table_p {it : Wp1} (hIt : RdN 212 it) (b : Nat) (O : Nat → Prop) (t : TkP) (ts : List TkP) (T : List Nd) (K : Ast → List TkP → Prop) (E : Int → Prop) (w0 : World) (hp : PS w0 b O (t :: ts) T)
    (hk : WpSeq [wpSkip, wpUnless [125] it, wpWords [[125]]] ⟨hdL 15 t.2.1, [], t :: ts, T.length⟩ (FinK K) E) :
    Calls Tryz.prog 196 #[.pointer (some ⟨b, 0, none⟩)] w0 (PlacePost b O T (RK K E) w0) := by
  have HK := Lib.hid hk
  have P0 := Lib.hid hp
  have F0 := Lib.hid (Fr.refl O w0)
  clear hp hk
  go_enter Tryz.func196, Tryz.ntmps196
  have hO0 : ∀ k, O k → k < w0.heap.size := fun k hk => (P0.out.own k hk).2
  have V1 := Lib.hid (unless_at w0 b O hO0 [125] (by decide) ⟨#[125]⟩ rfl 212 _ _ (it) (hIt.part (enters_of Tryz.func212 (by kernel_rfl) rfl) w0 b O))
  clear hO0
  go_wp2_with fail
  refine V1.out.mono ?_; rintro e w1 ⟨f1, a1, c1, rfl, b1, h1⟩
  have F1 := Lib.hid (F0.out.trans (Fr.of_below (O := O) b1) (Ext.refl _ _))
  have P1 := Lib.hid (P0.out.below b1)
  have H1 := Lib.hid h1
  clear b1 h1 V1
  have hO1 : ∀ k, O k → k < w1.heap.size := fun k hk => (P1.out.own k hk).2
  have V2 := Lib.hid (words_at w1 b O hO1 [125] (by decide) ⟨#[125]⟩ rfl)
  clear hO1
  go_wp2_with fail
  refine V2.out.mono ?_; rintro e w2 ⟨f2, a2, c2, rfl, b2, h2⟩
  have F2 := Lib.hid (F1.out.trans (Fr.of_below (O := O) b2) (Ext.refl _ _))
  have P2 := Lib.hid (P1.out.below b2)
  have L1 := Lib.hid (H1.out.later (Fr.of_below (O := O) b2) (Ext.refl _ _))
  clear H1
  have H1 := L1
  clear L1
  have H2 := Lib.hid h2
  clear b2 h2 V2
  have HN := Lib.hid (node_at w0 w2 P2.out F2.out (hdZ 15) rfl [mval 37 b, .func (.func f1) a1 c1, .func (.func f2) a2 c2] [wpSkip, wpUnless [125] (it), wpWords [[125]]] (by simp) ⟨skip_part w2 b O, H1.out, H2.out, trivial⟩ HK.out)
  go_wp2_with fail
  refine HN.out.mono ?_; intro e wz hz
  obtain ⟨v, er, rfl⟩ := hz.ret
  have HZ := Lib.hid hz
  clear hz
  go_wp2_with fail
  go_ret2
  exact HZ.out
end Go.Proofs.YtfpeecjafccfjaaGreatDoor
namespace Go.Proofs.YtfpeecjafccfjaaGreatDoor
open Go.RowKit
theorem PS.next {W : World} {b : Nat} {O : Nat → Prop} {t u : TkP} {ts : List TkP} {T : List Nd} (h : PS W b O (t :: u :: ts) T) :
    ∃ (i g n c : Nat), W.cell? ⟨b, 0, none⟩ = some (.slice (some ⟨g, 0, none⟩) n c) ∧ W.cell? ⟨b, 1, none⟩ = some (.int .i64 (i : Int)) ∧ i + 1 < n ∧ n ≤ 20000 ∧ n ≤ c ∧
      W.cell? ⟨g, (i + 1) * 4, none⟩ = some (.int .i64 u.1) ∧ W.cell? ⟨g, (i + 1) * 4 + 1, none⟩ = some (.int .i64 u.2.1) ∧ W.cell? ⟨g, (i + 1) * 4 + 2, none⟩ = some (.int .i64 u.2.2.1) ∧ W.cell? ⟨g, (i + 1) * 4 + 3, none⟩ = some (.string (bts u.2.2.2)) := by
  obtain ⟨TS, i, g, c, nv, L, a1, a2, a3, a4, a5, a6, a7⟩ := h.ex
  obtain ⟨g', cap, e, h1, h2, h3⟩ := a2.ex
  have hg : g = g' ∧ c = cap := by injection e with e1 _ e3; injection e1 with e1; injection e1 with e1; exact ⟨e1, e3⟩
  obtain ⟨rfl, rfl⟩ := hg
  have hi : TS[i + 1]? = some u := by
    have := congrArg (·[1]?) a4
    simpa [List.getElem?_drop] using this
  have hlt := (List.getElem?_eq_some_iff.1 hi).1
  obtain ⟨b0, b1, b2, b3⟩ := h3 (i + 1) u hi
  exact ⟨i, g, TS.length, c, by simp [World.cell?, a1], by simp [World.cell?, a1], hlt, a5, h1, b0, b1, b2, b3⟩
def fieldB (t u : TkP) : Bool := decide (t.1 = 1) && (decide (u.1 = 5) && decide (u.2.2.2 = [61]))
theorem bts_is (l s : List UInt8) : ((bts l).toList == s) = decide (l = s) := by
  rw [Lib.toList_data]
  show ((bts l).data.toList == s) = _
  by_cases h : l = s <;> simp [bts, h]
set_option maxHeartbeats 4000000 in
theorem field_no_p (b : Nat) (O : Nat → Prop) (t : TkP) (ts : List TkP) (T : List Nd) (w : World) (h : PS w b O (t :: ts) T) (ht : t.1 ≠ 1) : Calls Tryz.prog 225 #[.pointer (some ⟨b, 0, none⟩)] w (OverPost w false) := by
  obtain ⟨t0, t1, t2, t3⟩ := t
  have HA := Lib.hid (ahead_p b O (t0, t1, t2, t3) ts T w h)
  unfold tokV at HA
  dsimp only at HA ht
  have F0 := fld0 t0 t1 t2 (bts t3)
  have g1 : (t0 == 1) = false := beq_eq_false_iff_ne.2 ht
  have g1' : (t0 != 1) = true := bne_iff_ne.2 ht
  clear h ht
  go_enter Tryz.func225, Tryz.ntmps225
  go_wp2_with fail
  refine HA.out.mono ?_; rintro e w1 ⟨rfl, b1⟩
  have B1 := Lib.hid b1
  clear b1
  go_wp2_with fail
  go_ret
  exact ⟨rfl, B1.out⟩
set_option maxHeartbeats 4000000 in
theorem field_p (b : Nat) (O : Nat → Prop) (t u : TkP) (ts : List TkP) (T : List Nd) (w : World) (h : PS w b O (t :: u :: ts) T) (ht : t.1 = 1) (r : Bool) (hr : (decide (u.1 = 5) && decide (u.2.2.2 = [61])) = r) : Calls Tryz.prog 225 #[.pointer (some ⟨b, 0, none⟩)] w (OverPost w r) := by
  obtain ⟨t0, t1, t2, t3⟩ := t
  have HA := Lib.hid (ahead_p b O (t0, t1, t2, t3) (u :: ts) T w h)
  unfold tokV at HA
  dsimp only at HA ht
  subst ht
  have F0 := fld0 1 t1 t2 (bts t3)
  have HP := Lib.hid h
  clear h
  go_enter Tryz.func225, Tryz.ntmps225
  go_wp2_with fail
  refine HA.out.mono ?_; rintro e w1 ⟨rfl, b1⟩
  obtain ⟨i, g, n, c, c0, c1, hi, hn, hc, d0, d1, d2, d3⟩ := (HP.out.below b1).next
  have hb : b < w1.heap.size := World.block_lt_of_cell? w1 _ c1
  have hg : g < w1.heap.size := World.block_lt_of_cell? w1 _ d0
  have B1 := Lib.hid b1
  obtain ⟨u0, u1, u2, u3⟩ := u
  dsimp only at *
  clear b1
  have hbt : ((bts u3).toList == [61]) = decide (u3 = [61]) := bts_is u3 [61]
  generalize bts u3 = S at *
  by_cases h5 : u0 = 5
  · subst h5
    have hr2 : decide (u3 = [61]) = r := by simpa using hr
    rw [hr2] at hbt
    clear hr hr2
    cases r <;>
    · go_wp2_with fail
      go_region
      all_goals go_wp2
      all_goals go_ret
      all_goals exact ⟨rfl, thenBR B1.out (allocB w1 _).drew⟩
  · have g5 : (u0 == 5) = false := beq_eq_false_iff_ne.2 h5
    have hd : false = r := by simpa [h5] using hr
    subst hd
    clear h5 hr hbt
    go_wp2_with fail
    go_region
    all_goals go_wp2
    all_goals go_ret
    all_goals exact ⟨rfl, thenBR B1.out (allocB w1 _).drew⟩
end Go.Proofs.YtfpeecjafccfjaaGreatDoor
namespace Go.Proofs.YtfpeecjafccfjaaGreatDoor
open Go.RowKit
def itemsF : List TkP → Bool × List TkP
  | [] => (false, [])
  | t :: r => if (isW [44] t || isW [59] t) = true then (match r with
    | [] => true
    | u :: _ => !isW [125] u, r) else (false, t :: r)
theorem itemsF_yes {t u : TkP} {us : List TkP} (h : (isW [44] t || isW [59] t) = true) : itemsF (t :: u :: us) = (!isW [125] u, u :: us) := by simp only [itemsF, h, if_true]
theorem itemsF_no {t : TkP} {us : List TkP} (h : (isW [44] t || isW [59] t) = false) : itemsF (t :: us) = (false, t :: us) := by simp [itemsF, h]
set_option maxHeartbeats 2000000 in
theorem items1_p (b g : Nat) (O : Nat → Prop) (t : TkP) (ts : List TkP) (T : List Nd) (w : World) (h : PS w b O (t :: ts) T) (b0 : Box w O g #[.pointer (some ⟨b, 0, none⟩)] 84) (r : Bool) (tr : List TkP) (hr : itemsF (t :: ts) = (r, tr)) : Calls Tryz.prog 221 #[.pointer (some ⟨g, 0, none⟩)] w (TakePost b O tr T r w) := by
  have c0 := b0.cell 0
  have HB := Lib.hid b0
  have hone : ∀ k, k = b → O k := fun k hk => hk ▸ h.at_
  have HO := Lib.hid hone
  clear b0 hone
  by_cases h1 : isW [44] t = true
  · have h1' : (isW [44] t || isW [59] t) = true := by rw [h1]; rfl
    have hts := (h.fin.tail (isW_pos h1)).cons
    obtain ⟨u, us, rfl⟩ := hts
    have hr' : (!isW [125] u) = r ∧ u :: us = tr := by
      rw [itemsF_yes h1'] at hr
      injection hr with e1 e2
      exact ⟨e1, e2⟩
    obtain ⟨hr1, rfl⟩ := hr'
    have HC := Lib.hid (comma_yes_p b O t (u :: us) T w h h1)
    clear h h1 h1' hr
    have g1 : ((wordS u).toList == [125]) = (!r) := word_is (s := [125]) (by decide) u (by rw [← hr1]; simp)
    clear hr1
    go_enter Tryz.func221, Tryz.ntmps221
    go_wp2_with fail
    refine HC.out.mono ?_; rintro e w1 ⟨rfl, p1, f1⟩
    have c1 := (HB.out.later (f1.mono HO.out) (Ext.refl _ _)).cell 0
    have HW := Lib.hid (word_p b O u us T w1 p1)
    generalize wordS u = Y at *
    have P1 := Lib.hid p1
    have F1 := Lib.hid f1
    clear p1 f1 c0
    cases r <;>
    · go_wp2_with fail
      refine HW.out.mono ?_; rintro e w2 ⟨rfl, b2⟩
      have B2 := Lib.hid b2
      clear b2
      go_wp2_with fail
      go_ret
      exact ⟨rfl, P1.out.below B2.out, F1.out.trans (Fr.of_below (O := (· = b)) B2.out) (Ext.refl _ _)⟩
  · have h1f : isW [44] t = false := by simpa using h1
    have HC := Lib.hid (comma_no_p b O t ts T w h h1f)
    by_cases h2 : isW [59] t = true
    · have h1' : (isW [44] t || isW [59] t) = true := by rw [h2]; simp
      have hts := (h.fin.tail (isW_pos h2)).cons
      obtain ⟨u, us, rfl⟩ := hts
      have hr' : (!isW [125] u) = r ∧ u :: us = tr := by
        rw [itemsF_yes h1'] at hr
        injection hr with e1 e2
        exact ⟨e1, e2⟩
      obtain ⟨hr1, rfl⟩ := hr'
      have HT := Lib.hid (fun (W : World) hW => take_yes_p b O t (u :: us) T [59] ⟨#[59]⟩ rfl W hW (by decide) h2)
      clear h h1 h1f h2 h1' hr
      have g1 : ((wordS u).toList == [125]) = (!r) := word_is (s := [125]) (by decide) u (by rw [← hr1]; simp)
      clear hr1
      go_enter Tryz.func221, Tryz.ntmps221
      go_wp2_with fail
      refine HC.out.mono ?_; rintro e w1 ⟨rfl, p1, f1⟩
      have c1 := (HB.out.later (f1.mono HO.out) (Ext.refl _ _)).cell 0
      have F1 := Lib.hid f1
      have HT1 := Lib.hid (HT.out w1 p1)
      clear p1 f1 c0
      go_wp2_with fail
      refine HT1.out.mono ?_; rintro e w2 ⟨rfl, p2, f2⟩
      have F2 := Lib.hid (F1.out.trans f2 (Ext.refl _ _))
      have c2 := (HB.out.later (F2.out.mono HO.out) (Ext.refl _ _)).cell 0
      have HW := Lib.hid (word_p b O u us T w2 p2)
      generalize wordS u = Y at *
      have P2 := Lib.hid p2
      clear p2 f2 c1
      cases r <;>
      · go_wp2_with fail
        refine HW.out.mono ?_; rintro e w3 ⟨rfl, b2⟩
        have B2 := Lib.hid b2
        clear b2
        go_wp2_with fail
        go_ret
        exact ⟨rfl, P2.out.below B2.out, F2.out.trans (Fr.of_below (O := (· = b)) B2.out) (Ext.refl _ _)⟩
    · have h2f : isW [59] t = false := by simpa using h2
      have HT := Lib.hid (fun (W : World) hW => take_no_p b O t ts T [59] ⟨#[59]⟩ rfl W hW (by decide) h2f)
      have hr' : false = r ∧ t :: ts = tr := by
        rw [itemsF_no (by rw [h1f, h2f]; rfl)] at hr
        injection hr with e1 e2
        exact ⟨e1, e2⟩
      obtain ⟨rfl, rfl⟩ := hr'
      clear h h1 h1f h2 h2f hr
      go_enter Tryz.func221, Tryz.ntmps221
      go_wp2_with fail
      refine HC.out.mono ?_; rintro e w1 ⟨rfl, p1, f1⟩
      have c1 := (HB.out.later (f1.mono HO.out) (Ext.refl _ _)).cell 0
      have F1 := Lib.hid f1
      have HT1 := Lib.hid (HT.out w1 p1)
      clear p1 f1 c0
      go_wp2_with fail
      refine HT1.out.mono ?_; rintro e w2 ⟨rfl, p2, f2⟩
      have F2 := Lib.hid (F1.out.trans f2 (Ext.refl _ _))
      have P2 := Lib.hid p2
      clear p2 f2 c1
      go_wp2_with fail
      go_ret
      exact ⟨rfl, P2.out, F2.out⟩
theorem items_more {W : World} {b g : Nat} {O : Nat → Prop} (b0 : Box W O g #[.pointer (some ⟨b, 0, none⟩)] 84) : More W b O (.func (.func 221) #[] #[.pointer (some ⟨g, 0, none⟩)]) itemsF := by
  intro W1 O1 T ts hf he hp
  obtain ⟨t, r, rfl⟩ := hp.fin.cons
  exact ⟨221, _, _, rfl, enters_of Tryz.func221 (by kernel_rfl) rfl, items1_p b g O1 t r T W1 hp (b0.later hf he) _ _ rfl⟩
set_option maxHeartbeats 1000000 in
theorem items_p {wp : WpA} (hE : Rds 220 wp) : RdN 212 (wpKids wp itemsF) := by
  intro b n O T0 s K E w hr hk
  have hO := hr.lt
  have h1 := Box.new w O hO #[.pointer (some ⟨b, 0, none⟩)] 84
  have HC := Lib.hid (kids_p b O 220 221 _ _ _ _ wp itemsF (w.alloc (.cells #[.pointer (some ⟨b, 0, none⟩)] 84)) (hE.one (enters_of Tryz.func220 (by kernel_rfl) rfl) _ b O) (items_more h1) (fun k hk => by have := hO k hk; simp; omega))
  have HR := Lib.hid hr
  have HK := Lib.hid hk
  clear hr hk h1 hO
  go_enter Tryz.func212, Tryz.ntmps212
  go_wp2_with fail
  refine HC.out.mono ?_; rintro e w1 ⟨v, rfl, b1, h2⟩
  obtain ⟨f, first, cap, rfl, ent, hcall⟩ := h2.1.call HR.out (thenBR (allocB w _) b1) HK.out
  have HCall := Lib.hid hcall
  clear h2 hcall b1
  unfold Enters at ent
  go_wp2_with fail
  refine HCall.out.mono ?_; intro e w2 h3
  obtain ⟨v, rfl⟩ := h3.ret
  have H3 := Lib.hid h3
  clear h3
  go_wp2_with fail
  go_ret
  exact H3.out
end Go.Proofs.YtfpeecjafccfjaaGreatDoor
namespace Go.Proofs.YtfpeecjafccfjaaGreatDoor
open Go.RowKit
def fieldT (t : TkP) : List TkP → Bool
  | [] => false
  | u :: _ => fieldB t u
theorem field_any (b : Nat) (O : Nat → Prop) (t : TkP) (ts : List TkP) (T : List Nd) (w : World) (h : PS w b O (t :: ts) T) (r : Bool) (hr : fieldT t ts = r) : Calls Tryz.prog 225 #[.pointer (some ⟨b, 0, none⟩)] w (OverPost w r) := by
  by_cases h1 : t.1 = 1
  · obtain ⟨u, us, rfl⟩ := (h.fin.tail (by rw [h1]; decide)).cons
    refine field_p b O t u us T w h h1 r ?_
    rw [← hr]
    simp [fieldT, fieldB, h1]
  · have hf : false = r := by
      rw [← hr]
      cases ts <;> simp [fieldT, fieldB, h1]
    rw [← hf]
    exact field_no_p b O t ts T w h h1
def itemC (ex : Wp1) (t : TkP) (ts : List TkP) (n : Nat) (K : Ast → List TkP → Prop) (E : Int → Prop) : Prop :=
  (isW [91] t = true → WpSeq [wpSkip, ex, wpWords [[93], [61]], ex] ⟨hdL 17 t.2.1, [], t :: ts, n⟩ (FinK K) E) ∧ (isW [91] t = false → (fieldT t ts = true → WpSeq [keyP, wpSkip, ex] ⟨hdL 17 t.2.1, [], t :: ts, n⟩ (FinK K) E) ∧ (fieldT t ts = false → WpSeq [ex] ⟨hdL 16 t.2.1, [], t :: ts, n⟩ (FinK K) E))
set_option maxHeartbeats 4000000 in
theorem item_p {ex : Wp1} (hE : RdN 87 ex) (b : Nat) (O : Nat → Prop) (t : TkP) (ts : List TkP) (T : List Nd) (K : Ast → List TkP → Prop) (E : Int → Prop) (w : World) (hp : PS w b O (t :: ts) T) (hk : itemC ex t ts T.length K E) :
    Calls Tryz.prog 220 #[.pointer (some ⟨b, 0, none⟩)] w (PlacePost b O T (RK K E) w) := by
  have HW := Lib.hid (word_p b O t ts T w hp)
  have HF := Lib.hid (fun W hW => field_any b O t ts T W hW)
  cases hq : isW [91] t with
  | true =>
    · have g1 : ((wordS t).toList == [91]) = true := word_is (s := [91]) (by decide) t hq
      have HK := Lib.hid (hk.1 hq)
      generalize hY : wordS t = Y at *
      have P := Lib.hid hp
      clear hp hk hY hq HF
      go_enter Tryz.func220, Tryz.ntmps220
      go_wp2_with fail
      refine HW.out.mono ?_; rintro e w0 ⟨rfl, b0⟩
      have F0 := Lib.hid (Fr.of_below (O := O) b0)
      have P0 := Lib.hid (P.out.below b0)
      clear b0
      have hO0 : ∀ k, O k → k < w0.heap.size := fun k hk => (P0.out.own k hk).2
      have V1 := Lib.hid (words2_at w0 b O hO0 [93] [61] (by decide) (by decide) ⟨#[93]⟩ ⟨#[61]⟩ rfl rfl)
      clear hO0
      go_wp2_with fail
      refine V1.out.mono ?_; rintro e w1 ⟨f1, a1, c1, rfl, b1, h1⟩
      have F1 := Lib.hid (F0.out.trans (Fr.of_below (O := O) b1) (Ext.refl _ _))
      have P1 := Lib.hid (P0.out.below b1)
      have H1 := Lib.hid h1
      clear b1 h1 V1
      have HN := Lib.hid (node_at w w1 P1.out F1.out (hdZ 17) rfl [mval 37 b, mval 87 b, .func (.func f1) a1 c1, mval 87 b] [wpSkip, ex, wpWords [[93], [61]], ex] (by simp) ⟨skip_part w1 b O, hE.part (enters_of Tryz.func87 (by kernel_rfl) rfl) w1 b O, H1.out, hE.part (enters_of Tryz.func87 (by kernel_rfl) rfl) w1 b O, trivial⟩ HK.out)
      go_wp2_with fail
      refine HN.out.mono ?_; intro e wz hz
      obtain ⟨v, er, rfl⟩ := hz.ret
      have HZ := Lib.hid hz
      clear hz
      go_wp2_with fail
      go_ret2
      exact HZ.out
  | false =>
    cases hf : fieldT t ts with
    | true =>
      · have g1 : ((wordS t).toList == [91]) = false := word_is (s := [91]) (by decide) t hq
        have HK := Lib.hid ((hk.2 hq).1 hf)
        have HF2 := Lib.hid (fun W hW => HF.out W hW true hf)
        generalize hY : wordS t = Y at *
        have P := Lib.hid hp
        clear hp hk hY hq HF hf
        go_enter Tryz.func220, Tryz.ntmps220
        go_wp2_with fail
        refine HW.out.mono ?_; rintro e w0 ⟨rfl, b0⟩
        have F0 := Lib.hid (Fr.of_below (O := O) b0)
        have P0 := Lib.hid (P.out.below b0)
        clear b0
        have HF3 := Lib.hid (HF2.out w0 P0.out)
        clear HF2
        go_wp2_with fail
        refine HF3.out.mono ?_; rintro e w1 ⟨rfl, b1⟩
        have F1 := Lib.hid (F0.out.trans (Fr.of_below (O := O) b1) (Ext.refl _ _))
        have P1 := Lib.hid (P0.out.below b1)
        clear b1
        have HN := Lib.hid (node_at w w1 P1.out F1.out (hdZ 17) rfl [mval 148 b, mval 37 b, mval 87 b] [keyP, wpSkip, ex] (by simp) ⟨key_p.part (enters_of Tryz.func148 (by kernel_rfl) rfl) w1 b O, skip_part w1 b O, hE.part (enters_of Tryz.func87 (by kernel_rfl) rfl) w1 b O, trivial⟩ HK.out)
        go_wp2_with fail
        refine HN.out.mono ?_; intro e wz hz
        obtain ⟨v, er, rfl⟩ := hz.ret
        have HZ := Lib.hid hz
        clear hz
        go_wp2_with fail
        go_ret2
        exact HZ.out
    | false =>
      · have g1 : ((wordS t).toList == [91]) = false := word_is (s := [91]) (by decide) t hq
        have HK := Lib.hid ((hk.2 hq).2 hf)
        have HF2 := Lib.hid (fun W hW => HF.out W hW false hf)
        generalize hY : wordS t = Y at *
        have P := Lib.hid hp
        clear hp hk hY hq HF hf
        go_enter Tryz.func220, Tryz.ntmps220
        go_wp2_with fail
        refine HW.out.mono ?_; rintro e w0 ⟨rfl, b0⟩
        have F0 := Lib.hid (Fr.of_below (O := O) b0)
        have P0 := Lib.hid (P.out.below b0)
        clear b0
        have HF3 := Lib.hid (HF2.out w0 P0.out)
        clear HF2
        go_wp2_with fail
        refine HF3.out.mono ?_; rintro e w1 ⟨rfl, b1⟩
        have F1 := Lib.hid (F0.out.trans (Fr.of_below (O := O) b1) (Ext.refl _ _))
        have P1 := Lib.hid (P0.out.below b1)
        clear b1
        have HN := Lib.hid (node_at w w1 P1.out F1.out (hdZ 16) rfl [mval 87 b] [ex] (by simp) ⟨hE.part (enters_of Tryz.func87 (by kernel_rfl) rfl) w1 b O, trivial⟩ HK.out)
        go_wp2_with fail
        refine HN.out.mono ?_; intro e wz hz
        obtain ⟨v, er, rfl⟩ := hz.ret
        have HZ := Lib.hid hz
        clear hz
        go_wp2_with fail
        go_ret2
        exact HZ.out
end Go.Proofs.YtfpeecjafccfjaaGreatDoor
namespace Go.Proofs.YtfpeecjafccfjaaGreatDoor
open Go.RowKit
theorem node1_at {b : Nat} {O : Nat → Prop} {t : TkP} {ts : List TkP} {T0 T : List Nd} {K : Ast → List TkP → Prop} {E : Int → Prop} (w2 : World) (g p : Nat) (a : Ast) (hp : PS w2 b O (t :: ts) T) (hg : w2.heap[g]? = some (.cells #[.int .i64 (p : Int)] 3 (0, 0))) (hgO : ¬ O g) (hgb : b + 1 ≤ g) (hli : Lies T0 T [a] [(p : Int)])
    (x : Nd) (hx : x = ⟨x.kind, 0, x.op, x.num, x.s, [], []⟩) (vs : List Value) (wps : List Wp1) (hl : vs.length ≤ 100) (hall : Alls w2 b (fun k => O k ∨ k = g) vs wps)
    (hk : WpSeq wps ⟨{ x with line := t.2.1 }, [a], t :: ts, T0.length + a.size⟩ (FinK K) E) :
    Calls Tryz.prog 17 #[.pointer (some ⟨b, 0, none⟩), nodeV x (.slice none 0 0) (.slice (some ⟨g, 0, none⟩) 1 1), .slice (some ⟨w2.heap.size, 0, none⟩) vs.length vs.length] (w2.alloc (.cells vs.toArray 89)) (PlacePost b (fun k => O k ∨ k = g) T0 (RK K E) w2) := by
  have h1 : x.line = 0 := by rw [hx]
  have h2 : x.names = [] := by rw [hx]
  have hgl : g < w2.heap.size := (Array.getElem?_eq_some_iff.1 hg).1
  have hO : ∀ k, (O k ∨ k = g) → k < w2.heap.size := fun k hk => hk.elim (fun h => (hp.own k h).2) (fun h => h ▸ hgl)
  have hz : T.length = T0.length + a.size := by rw [hli.len, Ast.sizeL, Ast.sizeL]; omega
  rw [← hz] at hk
  have hrow : w2.ownsRow (b + 1) 3 1 (.slice (some ⟨g, 0, none⟩) 1 1) 1 [.int .i64 (p : Int)] := ⟨rfl, .inr ⟨g, 1, #[.int .i64 (p : Int)], rfl, hgb, hg, Nat.le_refl _, by unfold maxLen; omega, rfl, rfl⟩⟩
  have hnd : NdIn w2 b (· = g) { x with kids := [(p : Int)] } (.slice none 0 0) (.slice (some ⟨g, 0, none⟩) 1 1) := by
    refine ⟨?_, hrow, fun g hg => by simp [Value.ownBlock] at hg, fun g hg => by simp [Value.ownBlock] at hg, fun k hk => by simpa [Value.ownBlock] using hk.symm⟩
    rw [show ({ x with kids := [(p : Int)] } : Nd).names = [] from h2]
    exact World.ownsRow_nil _ _ _ _
  refine (node_p b O (· = g) t ts T0 T x t.2.1 [a] [(p : Int)] (.slice none 0 0) (.slice (some ⟨g, 0, none⟩) 1 1) _ wps (RK K E) _ (hp.below (allocB w2 _)) ?_ (fun k hk e => hgO (e ▸ hk)) (fun k hk => ⟨by omega, by simp; omega⟩) hli (RdParts.new hO vs wps hl hall) (.inl ⟨h1, rfl⟩) hk).mono fun e w' h => h.after ((Fr.refl _ _).alloc _)
  exact hnd.kept (O1 := fun _ => False) ((Fr.refl _ w2).alloc _) (fun _ _ h => h) (fun _ h => h)
def Rds2 (f : FuncId) (l : Int) (wp : WpA) : Prop := ∀ (b : Nat) (O : Nat → Prop) (ts : List TkP) (T : List Nd) (K : Ast → List TkP → Prop) (E : Int → Prop) (W : World), PS W b O ts T → wp ts T.length K E → Calls Tryz.prog f #[.pointer (some ⟨b, 0, none⟩), .int .i64 l] W (PlacePost b O T (RK K E) W)
end Go.Proofs.YtfpeecjafccfjaaGreatDoor
