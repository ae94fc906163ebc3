/- Parts of the proof: RLuaZ, Gf, Pa, Pb, Pc, Pd. -/
import Derived.RegionTactic
import Derived.ChangeAlike
import Derived.Deep.LoopGhost
import Derived.Test.YtfpeecjafccfjaaGreatDoorK06
namespace Go.Proofs.YtfpeecjafccfjaaGreatDoor
theorem size_nd (k l : Int) (ks : List Ast) : (nd k l ks).size = Ast.sizeL ks + 1 := by unfold nd; rw [Ast.size]
theorem size_ndS (k l : Int) (s : ByteArray) (ks : List Ast) : (ndS k l s ks).size = Ast.sizeL ks + 1 := by unfold ndS; rw [Ast.size]
theorem size_ndO (k l o : Int) (ks : List Ast) : (ndO k l o ks).size = Ast.sizeL ks + 1 := by unfold ndO; rw [Ast.size]
theorem size_ndN (k l n : Int) (ks : List Ast) : (ndN k l n ks).size = Ast.sizeL ks + 1 := by unfold ndN; rw [Ast.size]
theorem size_ndA (k l n : Int) (ns : List ByteArray) (ks : List Ast) : (ndA k l n ns ks).size = Ast.sizeL ks + 1 := by unfold ndA; rw [Ast.size]
theorem sizeL_nil : Ast.sizeL [] = 0 := by rw [Ast.sizeL]
theorem sizeL_cons (a : Ast) (l : List Ast) : Ast.sizeL (a :: l) = a.size + Ast.sizeL l := by rw [Ast.sizeL]
theorem sizeL_app : ∀ a b : List Ast, Ast.sizeL (a ++ b) = Ast.sizeL a + Ast.sizeL b := by
  intro a
  induction a with
  | nil => intro b; rw [List.nil_append, sizeL_nil, Nat.zero_add]
  | cons x a ih => intro b; rw [List.cons_append, sizeL_cons, sizeL_cons, ih, Nat.add_assoc]
def ZlR (l : List Ast) (L : Nat) (v : List Ast) (L' : Nat) : Prop := Ast.sizeL v + 2 * L' ≤ Ast.sizeL l + 2 * L
def ZaR (L : Nat) (v : List Ast) (L' : Nat) : Prop := Ast.sizeL v + 2 * L' + 1 ≤ 2 * L
def ZResOf : (n : NT) → Nat → VT n → Nat → Prop
  | .blk, L, v, L' => Ast.size v + 2 * L' ≤ 2 * L + 1
  | .sts l, L, v, L' => ZlR l L v L'
  | .ret _, L, v, L' => Ast.size v + 2 * L' ≤ 2 * L + 1
  | .sta, L, v, L' => Ast.size v + 2 * L' ≤ 2 * L
  | .els l, L, v, L' => ZlR l L v L'
  | .loo _, L, v, L' => Ast.size v + 2 * L' ≤ 2 * L + 2
  | .fnm _, L, v, L' => Ast.size v + 2 * L' ≤ 2 * L
  | .fnx _ x, L, v, L' => Ast.size v + 2 * L' ≤ x.size + 2 * L + 1
  | .loc _, L, v, L' => Ast.size v + 2 * L' ≤ 2 * L + 2
  | .bdy _ _, L, v, L' => Ast.size v + 2 * L' ≤ 2 * L
  | .prm _, L, _, L' => L' ≤ L
  | .nam, L, _, L' => L' ≤ L
  | .nmm _, L, _, L' => L' ≤ L
  | .lst, L, v, L' => ZaR L v L'
  | .lsm l, L, v, L' => ZlR l L v L'
  | .tgs _ l, L, v, L' => Ast.size v + 2 * L' ≤ Ast.sizeL l + 2 * L
  | .suf, L, v, L' => Ast.size v + 2 * L' + 1 ≤ 2 * L
  | .sfx x, L, v, L' => Ast.size v + 2 * L' ≤ x.size + 2 * L
  | .arg, L, v, L' => ZaR L v L'
  | .tbl l, L, v, L' => ZlR l L v L'
  | .itm, L, v, L' => Ast.size v + 2 * L' ≤ 2 * L
  | .exp _, L, v, L' => Ast.size v + 2 * L' + 1 ≤ 2 * L
  | .lvm _ x, L, v, L' => Ast.size v + 2 * L' ≤ x.size + 2 * L
  | .una, L, v, L' => Ast.size v + 2 * L' + 1 ≤ 2 * L
  | .lef, L, v, L' => Ast.size v + 2 * L' + 1 ≤ 2 * L
def PostZ (n : NT) (ts : List TkP) (v : VT n) (ts' : List TkP) : Prop := ZResOf n ts.length v ts'.length
abbrev Zp {α : Type} (g : GL α) (ts : List TkP) (Q : α → List TkP → Prop) : Prop := Wp PostZ g ts Q
theorem z_look {α : Type} {f : TkP → GL α} {ts : List TkP} {Q : α → List TkP → Prop} (h : ∀ t ts', ts = t :: ts' → Zp (f t) (t :: ts') Q) : Zp (.look f) ts Q := fun t ts' e => by
  subst e
  exact h t ts' rfl
theorem z_tok {α : Type} {f : TkP → GL α} {t : TkP} {ts : List TkP} {Q : α → List TkP → Prop} (h : Zp (f t) ts Q) : Zp (.tok f) (t :: ts) Q := fun u us e => by
  injection e with e1 e2
  subst e1 e2
  exact h
theorem z_call {α : Type} {n : NT} {k : VT n → GL α} {ts : List TkP} {Q : α → List TkP → Prop} (h : ∀ v ts', ZResOf n ts.length v ts'.length → Zp (k v) ts' Q) : Zp (.call n k) ts Q := h
theorem z_ite {α : Type} {c : Prop} [Decidable c] {g g' : GL α} {ts : List TkP} {Q : α → List TkP → Prop} (h1 : c → Zp g ts Q) (h2 : ¬ c → Zp g' ts Q) : Zp (if c then g else g') ts Q := by
  by_cases h : c
  · rw [if_pos h]; exact h1 h
  · rw [if_neg h]; exact h2 h
theorem z_want {α : Type} {s : List UInt8} {k : TkP → GL α} {ts : List TkP} {Q : α → List TkP → Prop} (h : ∀ t ts', ts = t :: ts' → Zp (k t) ts' Q) : Zp (want s k) ts Q := z_look fun t ts' e => z_ite (fun _ => z_tok (h t ts' e)) fun _ => trivial
theorem z_name {α : Type} {k : TkP → GL α} {ts : List TkP} {Q : α → List TkP → Prop} (h : ∀ t ts', ts = t :: ts' → Zp (k t) ts' Q) : Zp (name k) ts Q := z_look fun t ts' e => z_ite (fun _ => z_tok (h t ts' e)) fun _ => trivial
theorem z_all (n : NT) (ts : List TkP) : Zp (bodyL n) ts (PostZ n ts) := by
  cases n with
  | blk =>
    refine z_look fun t ts' e => ?_
    subst e
    refine z_call fun (l : List Ast) ts1 h => ?_
    have h : Ast.sizeL l + 2 * ts1.length ≤ Ast.sizeL [] + 2 * (t :: ts').length := h
    rw [sizeL_nil] at h
    show Ast.size (nd 18 t.2.1 l) + 2 * ts1.length ≤ 2 * (t :: ts').length + 1
    rw [size_nd]
    omega
  | sts l =>
    refine z_look fun t ts' e => ?_
    subst e
    refine z_ite (fun _ => ?_) fun _ => z_ite (fun _ => ?_) fun _ => z_ite (fun _ => ?_) fun _ => ?_
    · exact Nat.le_refl _
    · refine z_tok (z_call fun (x : Ast) ts1 h => ?_)
      have h : x.size + 2 * ts1.length ≤ 2 * ts'.length + 1 := h
      show Ast.sizeL (l ++ [x]) + 2 * ts1.length ≤ Ast.sizeL l + 2 * (t :: ts').length
      rw [sizeL_app, sizeL_cons, sizeL_nil, List.length_cons]
      omega
    · refine z_tok (z_call fun (m : List Ast) ts1 h => ?_)
      have h : Ast.sizeL m + 2 * ts1.length ≤ Ast.sizeL l + 2 * ts'.length := h
      show Ast.sizeL m + 2 * ts1.length ≤ Ast.sizeL l + 2 * (t :: ts').length
      rw [List.length_cons]
      omega
    · refine z_call fun (x : Ast) ts1 h => z_call fun (m : List Ast) ts2 h2 => ?_
      have h : x.size + 2 * ts1.length ≤ 2 * (t :: ts').length := h
      have h2 : Ast.sizeL m + 2 * ts2.length ≤ Ast.sizeL (l ++ [x]) + 2 * ts1.length := h2
      rw [sizeL_app, sizeL_cons, sizeL_nil] at h2
      show Ast.sizeL m + 2 * ts2.length ≤ Ast.sizeL l + 2 * (t :: ts').length
      omega
  | ret at_ =>
    refine z_look fun t ts' e => ?_
    subst e
    refine z_ite (fun _ => ?_) fun _ => z_ite (fun _ => z_tok ?_) fun _ => z_call fun (l : List Ast) ts1 h => z_look fun u us e => ?_
    · show Ast.size (nd 29 at_ []) + 2 * (t :: ts').length ≤ 2 * (t :: ts').length + 1
      rw [size_nd, sizeL_nil]; omega
    · show Ast.size (nd 29 at_ []) + 2 * ts'.length ≤ 2 * (t :: ts').length + 1
      rw [size_nd, sizeL_nil, List.length_cons]; omega
    · subst e
      have h : Ast.sizeL l + 2 * (u :: us).length + 1 ≤ 2 * (t :: ts').length := h
      refine z_ite (fun _ => z_tok ?_) fun _ => ?_
      · show Ast.size (nd 29 at_ l) + 2 * us.length ≤ 2 * (t :: ts').length + 1
        rw [size_nd]
        rw [List.length_cons] at h
        omega
      · show Ast.size (nd 29 at_ l) + 2 * (u :: us).length ≤ 2 * (t :: ts').length + 1
        rw [size_nd]
        omega
  | sta =>
    refine z_look fun t ts' e => ?_
    subst e
    refine z_ite (fun _ => z_tok (z_name fun n ts1 e => z_want fun c ts2 e2 => ?_)) fun _ => z_ite (fun _ => z_tok ?_) fun _ => z_ite (fun _ => z_tok (z_name fun n ts1 e => ?_)) fun _ => z_ite (fun _ => z_tok (z_call fun (b : Ast) ts1 h1 => z_want fun c ts2 e2 => ?_)) fun _ =>
      z_ite (fun _ => z_tok (z_call fun (x : Ast) ts1 h1 => z_want fun c ts2 e2 => z_call fun (b : Ast) ts3 h3 => z_want fun c ts4 e4 => ?_)) fun _ => z_ite (fun _ => z_tok (z_call fun (b : Ast) ts1 h1 => z_want fun c ts2 e2 => z_call fun (x : Ast) ts3 h3 => ?_)) fun _ =>
      z_ite (fun _ => z_tok (z_call fun (x : Ast) ts1 h1 => z_want fun c ts2 e2 => z_call fun (b : Ast) ts3 h3 => z_call fun (l : List Ast) ts4 h4 => ?_)) fun _ => z_ite (fun _ => z_tok (z_call fun (x : Ast) ts1 h1 => ?_)) fun _ => z_ite (fun _ => z_tok (z_call fun (x : Ast) ts1 h1 => ?_)) fun _ =>
      z_ite (fun _ => z_tok (z_call fun (x : Ast) ts1 h1 => ?_)) fun _ => z_call fun (x : Ast) ts1 h1 => z_ite (fun _ => ?_) fun _ => z_call fun (y : Ast) ts2 h2 => ?_
    · subst e e2
      show Ast.size (ndS 32 _ _ []) + 2 * ts2.length ≤ 2 * (t :: n :: c :: ts2).length
      rw [size_ndS, sizeL_nil]; simp only [List.length_cons]; omega
    · show Ast.size (nd 30 _ []) + 2 * ts'.length ≤ 2 * (t :: ts').length
      rw [size_nd, sizeL_nil, List.length_cons]; omega
    · subst e
      show Ast.size (ndS 31 _ _ []) + 2 * ts1.length ≤ 2 * (t :: n :: ts1).length
      rw [size_ndS, sizeL_nil]; simp only [List.length_cons]; omega
    · subst e2
      have h1 : b.size + 2 * (c :: ts2).length ≤ 2 * ts'.length + 1 := h1
      show Ast.size (nd 22 _ [b]) + 2 * ts2.length ≤ 2 * (t :: ts').length
      rw [size_nd, sizeL_cons, sizeL_nil]; simp only [List.length_cons] at h1 ⊢; omega
    · subst e2 e4
      have h1 : x.size + 2 * (_ :: ts2).length + 1 ≤ 2 * ts'.length := h1
      have h3 : b.size + 2 * (c :: ts4).length ≤ 2 * ts2.length + 1 := h3
      show Ast.size (nd 23 _ [x, b]) + 2 * ts4.length ≤ 2 * (t :: ts').length
      rw [size_nd, sizeL_cons, sizeL_cons, sizeL_nil]; simp only [List.length_cons] at h1 h3 ⊢; omega
    · subst e2
      have h1 : b.size + 2 * (c :: ts2).length ≤ 2 * ts'.length + 1 := h1
      have h3 : x.size + 2 * ts3.length + 1 ≤ 2 * ts2.length := h3
      show Ast.size (nd 24 _ [b, x]) + 2 * ts3.length ≤ 2 * (t :: ts').length
      rw [size_nd, sizeL_cons, sizeL_cons, sizeL_nil]; simp only [List.length_cons] at h1 ⊢; omega
    · subst e2
      have h1 : x.size + 2 * (c :: ts2).length + 1 ≤ 2 * ts'.length := h1
      have h3 : b.size + 2 * ts3.length ≤ 2 * ts2.length + 1 := h3
      have h4 : Ast.sizeL l + 2 * ts4.length ≤ Ast.sizeL [x, b] + 2 * ts3.length := h4
      show Ast.size (nd 25 _ l) + 2 * ts4.length ≤ 2 * (t :: ts').length
      rw [sizeL_cons, sizeL_cons, sizeL_nil] at h4
      rw [size_nd]; simp only [List.length_cons] at h1 ⊢; omega
    · have h1 : x.size + 2 * ts1.length ≤ 2 * ts'.length + 2 := h1
      show x.size + 2 * ts1.length ≤ 2 * (t :: ts').length
      rw [List.length_cons]; omega
    · have h1 : x.size + 2 * ts1.length ≤ 2 * ts'.length := h1
      show x.size + 2 * ts1.length ≤ 2 * (t :: ts').length
      rw [List.length_cons]; omega
    · have h1 : x.size + 2 * ts1.length ≤ 2 * ts'.length + 2 := h1
      show x.size + 2 * ts1.length ≤ 2 * (t :: ts').length
      rw [List.length_cons]; omega
    · have h1 : x.size + 2 * ts1.length + 1 ≤ 2 * (t :: ts').length := h1
      show Ast.size (nd 21 _ [x]) + 2 * ts1.length ≤ 2 * (t :: ts').length
      rw [size_nd, sizeL_cons, sizeL_nil]; omega
    · have h1 : x.size + 2 * ts1.length + 1 ≤ 2 * (t :: ts').length := h1
      have h2 : y.size + 2 * ts2.length ≤ Ast.sizeL [x] + 2 * ts1.length := h2
      rw [sizeL_cons, sizeL_nil] at h2
      show y.size + 2 * ts2.length ≤ 2 * (t :: ts').length
      omega
  | els l =>
    refine z_look fun t ts' e => ?_
    subst e
    refine z_ite (fun _ => z_tok (z_call fun (x : Ast) ts1 h1 => z_want fun c ts2 e2 => z_call fun (b : Ast) ts3 h3 => z_call fun (m : List Ast) ts4 h4 => ?_)) fun _ => z_ite (fun _ => z_tok (z_call fun (b : Ast) ts1 h1 => z_want fun c ts2 e2 => ?_)) fun _ => z_want fun c ts1 e => ?_
    · subst e2
      have h1 : x.size + 2 * (c :: ts2).length + 1 ≤ 2 * ts'.length := h1
      have h3 : b.size + 2 * ts3.length ≤ 2 * ts2.length + 1 := h3
      have h4 : Ast.sizeL m + 2 * ts4.length ≤ Ast.sizeL (l ++ [x, b]) + 2 * ts3.length := h4
      show Ast.sizeL m + 2 * ts4.length ≤ Ast.sizeL l + 2 * (t :: ts').length
      rw [sizeL_app, sizeL_cons, sizeL_cons, sizeL_nil] at h4
      simp only [List.length_cons] at h1 ⊢; omega
    · subst e2
      have h1 : b.size + 2 * (c :: ts2).length ≤ 2 * ts'.length + 1 := h1
      show Ast.sizeL (l ++ [b]) + 2 * ts2.length ≤ Ast.sizeL l + 2 * (t :: ts').length
      rw [sizeL_app, sizeL_cons, sizeL_nil]; simp only [List.length_cons] at h1 ⊢; omega
    · injection e with _ e
      subst e
      show Ast.sizeL l + 2 * ts'.length ≤ Ast.sizeL l + 2 * (t :: ts').length
      rw [List.length_cons]; omega
  | loo at_ =>
    refine z_call fun (ns : List ByteArray) ts1 h1 => z_look fun t ts' e => ?_
    subst e
    have h1 : (t :: ts').length ≤ ts.length := h1
    rw [List.length_cons] at h1
    refine z_ite (fun _ => z_tok (z_call fun (a : Ast) ts3 h3 => z_want fun c ts4 e4 => z_call fun (b : Ast) ts5 h5 => z_look fun u ts6 e6 => ?_)) fun _ => z_want fun c ts3 e3 => z_call fun (l : List Ast) ts4 h4 => z_want fun c ts5 e5 => z_call fun (f : Ast) ts6 h6 => z_want fun c ts7 e7 => ?_
    · subst e4 e6
      have h3 : a.size + 2 * (c :: ts4).length + 1 ≤ 2 * ts'.length := h3
      have h5 : b.size + 2 * (u :: ts6).length + 1 ≤ 2 * ts4.length := h5
      refine z_ite (fun _ => z_tok (z_call fun (d : Ast) ts7 h7 => z_want fun c ts8 e8 => z_call fun (f : Ast) ts9 h9 => z_want fun c ts0 e0 => ?_)) fun _ => z_want fun c ts8 e8 => z_call fun (f : Ast) ts9 h9 => z_want fun c ts0 e0 => ?_
      · subst e8 e0
        have h7 : d.size + 2 * (_ :: ts8).length + 1 ≤ 2 * ts6.length := h7
        have h9 : f.size + 2 * (_ :: ts0).length ≤ 2 * ts8.length + 1 := h9
        show Ast.size (ndA 26 _ _ _ [a, b, d, f]) + 2 * ts0.length ≤ 2 * ts.length + 2
        rw [size_ndA, sizeL_cons, sizeL_cons, sizeL_cons, sizeL_cons, sizeL_nil]; simp only [List.length_cons] at h3 h5 h7 h9 ⊢; omega
      · injection e8 with _ e8
        subst e8 e0
        have h9 : f.size + 2 * (_ :: ts0).length ≤ 2 * ts6.length + 1 := h9
        show Ast.size (ndA 26 _ _ _ [a, b, f]) + 2 * ts0.length ≤ 2 * ts.length + 2
        rw [size_ndA, sizeL_cons, sizeL_cons, sizeL_cons, sizeL_nil]; simp only [List.length_cons] at h3 h5 h9 ⊢; omega
    · injection e3 with _ e3
      subst e3 e5 e7
      have h4 : Ast.sizeL l + 2 * (_ :: ts5).length + 1 ≤ 2 * ts'.length := h4
      have h6 : f.size + 2 * (_ :: ts7).length ≤ 2 * ts5.length + 1 := h6
      show Ast.size (ndA 27 _ _ _ (l ++ [f])) + 2 * ts7.length ≤ 2 * ts.length + 2
      rw [size_ndA, sizeL_app, sizeL_cons, sizeL_nil]; simp only [List.length_cons] at h4 h6 ⊢; omega
  | fnm at_ =>
    refine z_name fun n ts1 e => z_call fun (y : Ast) ts2 h2 => ?_
    subst e
    have h2 : y.size + 2 * ts2.length ≤ Ast.size (ndS 7 n.2.1 (bts n.2.2.2) []) + 2 * ts1.length + 1 := h2
    show y.size + 2 * ts2.length ≤ 2 * (n :: ts1).length
    rw [size_ndS, sizeL_nil] at h2; rw [List.length_cons]; omega
  | fnx at_ x =>
    refine z_look fun t ts' e => ?_
    subst e
    refine z_ite (fun _ => z_tok (z_name fun n ts1 e => z_call fun (y : Ast) ts2 h2 => ?_)) fun _ => z_ite (fun _ => z_tok (z_name fun n ts1 e => z_call fun (f : Ast) ts2 h2 => ?_)) fun _ => z_call fun (f : Ast) ts2 h2 => ?_
    · subst e
      have h2 : y.size + 2 * ts2.length ≤ Ast.size (nd 8 t.2.1 [x, ndS 5 n.2.1 (bts n.2.2.2) []]) + 2 * ts1.length + 1 := h2
      show y.size + 2 * ts2.length ≤ x.size + 2 * (t :: n :: ts1).length + 1
      rw [size_nd, sizeL_cons, sizeL_cons, sizeL_nil, size_ndS, sizeL_nil] at h2; simp only [List.length_cons]; omega
    · subst e
      have h2 : f.size + 2 * ts2.length ≤ 2 * ts1.length := h2
      show Ast.size (ndN 20 _ _ [nd 8 _ [x, ndS 5 _ _ []], f]) + 2 * ts2.length ≤ x.size + 2 * (t :: n :: ts1).length + 1
      rw [size_ndN, sizeL_cons, sizeL_cons, sizeL_nil, size_nd, sizeL_cons, sizeL_cons, sizeL_nil, size_ndS, sizeL_nil]; simp only [List.length_cons]; omega
    · have h2 : f.size + 2 * ts2.length ≤ 2 * (t :: ts').length := h2
      show Ast.size (ndN 20 _ _ [x, f]) + 2 * ts2.length ≤ x.size + 2 * (t :: ts').length + 1
      rw [size_ndN, sizeL_cons, sizeL_cons, sizeL_nil]; omega
  | loc at_ =>
    refine z_look fun t ts' e => ?_
    subst e
    refine z_ite (fun _ => z_tok (z_name fun n ts1 e => z_call fun (f : Ast) ts2 h2 => ?_)) fun _ => z_call fun (ns : List ByteArray) ts1 h1 => z_look fun u us e => ?_
    · subst e
      have h2 : f.size + 2 * ts2.length ≤ 2 * ts1.length := h2
      show Ast.size (ndA 28 _ _ _ [f]) + 2 * ts2.length ≤ 2 * (t :: n :: ts1).length + 2
      rw [size_ndA, sizeL_cons, sizeL_nil]; simp only [List.length_cons]; omega
    · subst e
      have h1 : (u :: us).length ≤ (t :: ts').length := h1
      refine z_ite (fun _ => z_tok (z_call fun (l : List Ast) ts2 h2 => ?_)) fun _ => ?_
      · have h2 : Ast.sizeL l + 2 * ts2.length + 1 ≤ 2 * us.length := h2
        show Ast.size (ndA 19 _ _ _ l) + 2 * ts2.length ≤ 2 * (t :: ts').length + 2
        rw [size_ndA]; simp only [List.length_cons] at h1 ⊢; omega
      · show Ast.size (ndA 19 _ _ _ []) + 2 * (u :: us).length ≤ 2 * (t :: ts').length + 2
        rw [size_ndA, sizeL_nil]; omega
  | bdy at_ s =>
    refine z_want fun c ts1 e => z_look fun t ts' e1 => ?_
    subst e e1
    refine z_ite (fun _ => z_tok (z_call fun (b : Ast) ts2 h2 => z_want fun c ts3 e3 => ?_)) fun _ => z_call fun (p : List ByteArray × Int) ts2 h2 => z_want fun c ts3 e3 => z_call fun (b : Ast) ts4 h4 => z_want fun c ts5 e5 => ?_
    · subst e3
      have h2 : b.size + 2 * (_ :: ts3).length ≤ 2 * ts'.length + 1 := h2
      show Ast.size (ndA 11 _ _ _ [b]) + 2 * ts3.length ≤ 2 * (_ :: t :: ts').length
      rw [size_ndA, sizeL_cons, sizeL_nil]; simp only [List.length_cons] at h2 ⊢; omega
    · subst e3 e5
      have h2 : (_ :: ts3).length ≤ (t :: ts').length := h2
      have h4 : b.size + 2 * (_ :: ts5).length ≤ 2 * ts3.length + 1 := h4
      show Ast.size (ndA 11 _ _ _ [b]) + 2 * ts5.length ≤ 2 * (_ :: t :: ts').length
      rw [size_ndA, sizeL_cons, sizeL_nil]; simp only [List.length_cons] at h2 h4 ⊢; omega
  | prm l =>
    refine z_look fun t ts' e => ?_
    subst e
    refine z_ite (fun _ => z_tok ?_) fun _ => z_name fun n ts1 e => z_look fun u us e1 => ?_
    · show ts'.length ≤ (t :: ts').length
      rw [List.length_cons]; omega
    · injection e with _ e
      subst e e1
      refine z_ite (fun _ => z_tok (z_call fun (p : List ByteArray × Int) ts2 h2 => ?_)) fun _ => ?_
      · have h2 : ts2.length ≤ us.length := h2
        show ts2.length ≤ (t :: u :: us).length
        simp only [List.length_cons]; omega
      · show (u :: us).length ≤ (t :: u :: us).length
        simp only [List.length_cons]; omega
  | nam =>
    refine z_name fun n ts1 e => z_call fun (l : List ByteArray) ts2 h2 => ?_
    subst e
    have h2 : ts2.length ≤ ts1.length := h2
    show ts2.length ≤ (n :: ts1).length
    rw [List.length_cons]; omega
  | nmm l =>
    refine z_look fun t ts' e => ?_
    subst e
    refine z_ite (fun _ => z_tok (z_name fun n ts1 e => z_call fun (m : List ByteArray) ts2 h2 => ?_)) fun _ => Nat.le_refl _
    subst e
    have h2 : ts2.length ≤ ts1.length := h2
    show ts2.length ≤ (t :: n :: ts1).length
    simp only [List.length_cons]; omega
  | lst =>
    refine z_call fun (x : Ast) ts1 h1 => z_call fun (l : List Ast) ts2 h2 => ?_
    have h1 : x.size + 2 * ts1.length + 1 ≤ 2 * ts.length := h1
    have h2 : Ast.sizeL l + 2 * ts2.length ≤ Ast.sizeL [x] + 2 * ts1.length := h2
    rw [sizeL_cons, sizeL_nil] at h2
    show Ast.sizeL l + 2 * ts2.length + 1 ≤ 2 * ts.length
    omega
  | lsm l =>
    refine z_look fun t ts' e => ?_
    subst e
    refine z_ite (fun _ => z_tok (z_call fun (x : Ast) ts1 h1 => z_call fun (m : List Ast) ts2 h2 => ?_)) fun _ => Nat.le_refl _
    have h1 : x.size + 2 * ts1.length + 1 ≤ 2 * ts'.length := h1
    have h2 : Ast.sizeL m + 2 * ts2.length ≤ Ast.sizeL (l ++ [x]) + 2 * ts1.length := h2
    rw [sizeL_app, sizeL_cons, sizeL_nil] at h2
    show Ast.sizeL m + 2 * ts2.length ≤ Ast.sizeL l + 2 * (t :: ts').length
    rw [List.length_cons]; omega
  | tgs at_ l =>
    refine z_look fun t ts' e => ?_
    subst e
    refine z_ite (fun _ => z_ite (fun _ => z_tok (z_call fun (x : Ast) ts1 h1 => z_call fun (y : Ast) ts2 h2 => ?_)) fun _ => z_want fun c ts1 e => z_call fun (m : List Ast) ts2 h2 => ?_) fun _ => trivial
    · have h1 : x.size + 2 * ts1.length + 1 ≤ 2 * ts'.length := h1
      have h2 : y.size + 2 * ts2.length ≤ Ast.sizeL (l ++ [x]) + 2 * ts1.length := h2
      rw [sizeL_app, sizeL_cons, sizeL_nil] at h2
      show y.size + 2 * ts2.length ≤ Ast.sizeL l + 2 * (t :: ts').length
      rw [List.length_cons]; omega
    · injection e with _ e
      subst e
      have h2 : Ast.sizeL m + 2 * ts2.length + 1 ≤ 2 * ts'.length := h2
      show Ast.size (ndN 20 _ _ (l ++ m)) + 2 * ts2.length ≤ Ast.sizeL l + 2 * (t :: ts').length
      rw [size_ndN, sizeL_app, List.length_cons]; omega
  | suf =>
    refine z_look fun t ts' e => ?_
    subst e
    refine z_ite (fun _ => z_tok (z_call fun (y : Ast) ts1 h1 => ?_)) fun _ => z_ite (fun _ => z_tok (z_call fun (x : Ast) ts1 h1 => z_want fun c ts2 e2 => z_call fun (y : Ast) ts3 h3 => ?_)) fun _ => trivial
    · have h1 : y.size + 2 * ts1.length ≤ Ast.size (ndS 7 t.2.1 (bts t.2.2.2) []) + 2 * ts'.length := h1
      rw [size_ndS, sizeL_nil] at h1
      show y.size + 2 * ts1.length + 1 ≤ 2 * (t :: ts').length
      rw [List.length_cons]; omega
    · subst e2
      have h1 : x.size + 2 * (c :: ts2).length + 1 ≤ 2 * ts'.length := h1
      have h3 : y.size + 2 * ts3.length ≤ Ast.size (nd 14 t.2.1 [x]) + 2 * ts2.length := h3
      rw [size_nd, sizeL_cons, sizeL_nil] at h3
      show y.size + 2 * ts3.length + 1 ≤ 2 * (t :: ts').length
      simp only [List.length_cons] at h1 ⊢; omega
  | sfx x =>
    refine z_look fun t ts' e => ?_
    subst e
    refine z_ite (fun _ => z_tok (z_name fun n ts1 e => z_call fun (y : Ast) ts2 h2 => ?_)) fun _ => z_ite (fun _ => z_tok (z_call fun (k : Ast) ts1 h1 => z_want fun c ts2 e2 => z_call fun (y : Ast) ts3 h3 => ?_)) fun _ =>
      z_ite (fun _ => z_tok (z_name fun n ts1 e => z_call fun (l : List Ast) ts2 h2 => z_call fun (y : Ast) ts3 h3 => ?_)) fun _ => z_ite (fun _ => z_call fun (l : List Ast) ts2 h2 => z_call fun (y : Ast) ts3 h3 => ?_) fun _ => Nat.le_refl _
    · subst e
      have h2 : y.size + 2 * ts2.length ≤ Ast.size (nd 8 t.2.1 [x, ndS 5 n.2.1 (bts n.2.2.2) []]) + 2 * ts1.length := h2
      rw [size_nd, sizeL_cons, sizeL_cons, sizeL_nil, size_ndS, sizeL_nil] at h2
      show y.size + 2 * ts2.length ≤ x.size + 2 * (t :: n :: ts1).length
      simp only [List.length_cons]; omega
    · subst e2
      have h1 : k.size + 2 * (c :: ts2).length + 1 ≤ 2 * ts'.length := h1
      have h3 : y.size + 2 * ts3.length ≤ Ast.size (nd 8 t.2.1 [x, k]) + 2 * ts2.length := h3
      rw [size_nd, sizeL_cons, sizeL_cons, sizeL_nil] at h3
      show y.size + 2 * ts3.length ≤ x.size + 2 * (t :: ts').length
      simp only [List.length_cons] at h1 ⊢; omega
    · subst e
      have h2 : Ast.sizeL l + 2 * ts2.length + 1 ≤ 2 * ts1.length := h2
      have h3 : y.size + 2 * ts3.length ≤ Ast.size (ndS 10 t.2.1 (bts n.2.2.2) (x :: l)) + 2 * ts2.length := h3
      rw [size_ndS, sizeL_cons] at h3
      show y.size + 2 * ts3.length ≤ x.size + 2 * (t :: n :: ts1).length
      simp only [List.length_cons]; omega
    · have h2 : Ast.sizeL l + 2 * ts2.length + 1 ≤ 2 * (t :: ts').length := h2
      have h3 : y.size + 2 * ts3.length ≤ Ast.size (nd 9 t.2.1 (x :: l)) + 2 * ts2.length := h3
      rw [size_nd, sizeL_cons] at h3
      show y.size + 2 * ts3.length ≤ x.size + 2 * (t :: ts').length
      omega
  | arg =>
    refine z_look fun t ts' e => ?_
    subst e
    refine z_ite (fun _ => z_tok ?_) fun _ => z_ite (fun _ => z_tok (z_call fun (l : List Ast) ts1 h1 => ?_)) fun _ => z_want fun c ts1 e => z_look fun u us e1 => ?_
    · show Ast.sizeL [ndS 5 _ _ []] + 2 * ts'.length + 1 ≤ 2 * (t :: ts').length
      rw [sizeL_cons, sizeL_nil, size_ndS, sizeL_nil, List.length_cons]; omega
    · have h1 : Ast.sizeL l + 2 * ts1.length ≤ Ast.sizeL [] + 2 * ts'.length := h1
      rw [sizeL_nil] at h1
      show Ast.sizeL [nd 15 _ l] + 2 * ts1.length + 1 ≤ 2 * (t :: ts').length
      rw [sizeL_cons, sizeL_nil, size_nd, List.length_cons]; omega
    · injection e with _ e
      subst e e1
      refine z_ite (fun _ => z_tok ?_) fun _ => z_call fun (l : List Ast) ts2 h2 => z_want fun c ts3 e3 => ?_
      · show Ast.sizeL [] + 2 * us.length + 1 ≤ 2 * (t :: u :: us).length
        rw [sizeL_nil]; simp only [List.length_cons]; omega
      · subst e3
        have h2 : Ast.sizeL l + 2 * (_ :: ts3).length + 1 ≤ 2 * (u :: us).length := h2
        show Ast.sizeL l + 2 * ts3.length + 1 ≤ 2 * (t :: u :: us).length
        simp only [List.length_cons] at h2 ⊢; omega
  | tbl l =>
    refine z_look fun t ts' e => ?_
    subst e
    refine z_ite (fun _ => z_tok ?_) fun _ => z_call fun (x : Ast) ts1 h1 => z_look fun u us e => ?_
    · show Ast.sizeL l + 2 * ts'.length ≤ Ast.sizeL l + 2 * (t :: ts').length
      rw [List.length_cons]; omega
    · subst e
      have h1 : x.size + 2 * (u :: us).length ≤ 2 * (t :: ts').length := h1
      refine z_ite (fun _ => z_tok (z_call fun (m : List Ast) ts2 h2 => ?_)) fun _ => z_want fun c ts2 e2 => ?_
      · have h2 : Ast.sizeL m + 2 * ts2.length ≤ Ast.sizeL (l ++ [x]) + 2 * us.length := h2
        rw [sizeL_app, sizeL_cons, sizeL_nil] at h2
        show Ast.sizeL m + 2 * ts2.length ≤ Ast.sizeL l + 2 * (t :: ts').length
        simp only [List.length_cons] at h1 ⊢; omega
      · injection e2 with _ e2
        subst e2
        show Ast.sizeL (l ++ [x]) + 2 * us.length ≤ Ast.sizeL l + 2 * (t :: ts').length
        rw [sizeL_app, sizeL_cons, sizeL_nil]; simp only [List.length_cons] at h1 ⊢; omega
  | itm =>
    refine z_look fun t ts' e => ?_
    subst e
    refine z_ite (fun _ => z_tok (z_call fun (k : Ast) ts1 h1 => z_want fun c ts2 e2 => z_want fun d ts3 e3 => z_call fun (v : Ast) ts4 h4 => ?_)) fun _ => z_call fun (x : Ast) ts1 h1 => z_look fun u us e => ?_
    · subst e2 e3
      have h1 : k.size + 2 * (c :: d :: ts3).length + 1 ≤ 2 * ts'.length := h1
      have h4 : v.size + 2 * ts4.length + 1 ≤ 2 * ts3.length := h4
      show Ast.size (nd 17 _ [k, v]) + 2 * ts4.length ≤ 2 * (t :: ts').length
      rw [size_nd, sizeL_cons, sizeL_cons, sizeL_nil]; simp only [List.length_cons] at h1 ⊢; omega
    · subst e
      have h1 : x.size + 2 * (u :: us).length + 1 ≤ 2 * (t :: ts').length := h1
      refine z_ite (fun _ => z_tok (z_call fun (v : Ast) ts2 h2 => ?_)) fun _ => ?_
      · have h2 : v.size + 2 * ts2.length + 1 ≤ 2 * us.length := h2
        show Ast.size (nd 17 _ [ndS 5 _ _ [], v]) + 2 * ts2.length ≤ 2 * (t :: ts').length
        rw [size_nd, sizeL_cons, sizeL_cons, sizeL_nil, size_ndS, sizeL_nil]; simp only [List.length_cons] at h1 ⊢; omega
      · show Ast.size (nd 16 _ [x]) + 2 * (u :: us).length ≤ 2 * (t :: ts').length
        rw [size_nd, sizeL_cons, sizeL_nil]; omega
  | exp s =>
    refine z_call fun (x : Ast) ts1 h1 => z_call fun (y : Ast) ts2 h2 => ?_
    have h1 : x.size + 2 * ts1.length + 1 ≤ 2 * ts.length := h1
    have h2 : y.size + 2 * ts2.length ≤ x.size + 2 * ts1.length := h2
    show y.size + 2 * ts2.length + 1 ≤ 2 * ts.length
    omega
  | lvm s x =>
    refine z_look fun t ts' e => ?_
    subst e
    show Zp (match binO t with | some o => _ | none => _) _ _
    cases binO t with
    | none => exact Nat.le_refl _
    | some o =>
      refine z_ite (fun _ => z_tok (z_call fun (y : Ast) ts1 h1 => z_call fun (z : Ast) ts2 h2 => ?_)) fun _ => Nat.le_refl _
      have h1 : y.size + 2 * ts1.length + 1 ≤ 2 * ts'.length := h1
      have h2 : z.size + 2 * ts2.length ≤ Ast.size (ndO 12 t.2.1 o.1 [x, y]) + 2 * ts1.length := h2
      rw [size_ndO, sizeL_cons, sizeL_cons, sizeL_nil] at h2
      show z.size + 2 * ts2.length ≤ x.size + 2 * (t :: ts').length
      rw [List.length_cons]; omega
  | una =>
    refine z_look fun t ts' e => ?_
    subst e
    show Zp (match unaO t with | some o => _ | none => _) _ _
    cases unaO t with
    | none => exact z_call fun (x : Ast) ts1 h1 => h1
    | some o =>
      refine z_tok (z_call fun (x : Ast) ts1 h1 => ?_)
      have h1 : x.size + 2 * ts1.length + 1 ≤ 2 * ts'.length := h1
      show Ast.size (ndO 13 _ _ [x]) + 2 * ts1.length + 1 ≤ 2 * (t :: ts').length
      rw [size_ndO, sizeL_cons, sizeL_nil, List.length_cons]; omega
  | lef =>
    refine z_look fun t ts' e => ?_
    subst e
    refine z_ite (fun _ => z_tok ?_) fun _ => z_ite (fun _ => z_tok ?_) fun _ => z_ite (fun _ => z_tok ?_) fun _ => z_ite (fun _ => z_tok ?_) fun _ => z_ite (fun _ => z_tok (z_call fun (f : Ast) ts1 h1 => ?_)) fun _ => z_ite (fun _ => z_tok (z_call fun (l : List Ast) ts1 h1 => ?_)) fun _ =>
      z_ite (fun _ => z_tok ?_) fun _ => z_ite (fun _ => z_tok ?_) fun _ => z_call fun (x : Ast) ts1 h1 => h1
    · show Ast.size (nd 1 _ []) + 2 * ts'.length + 1 ≤ 2 * (t :: ts').length
      rw [size_nd, sizeL_nil, List.length_cons]; omega
    · show Ast.size (nd 2 _ []) + 2 * ts'.length + 1 ≤ 2 * (t :: ts').length
      rw [size_nd, sizeL_nil, List.length_cons]; omega
    · show Ast.size (nd 3 _ []) + 2 * ts'.length + 1 ≤ 2 * (t :: ts').length
      rw [size_nd, sizeL_nil, List.length_cons]; omega
    · show Ast.size (nd 6 _ []) + 2 * ts'.length + 1 ≤ 2 * (t :: ts').length
      rw [size_nd, sizeL_nil, List.length_cons]; omega
    · have h1 : f.size + 2 * ts1.length ≤ 2 * ts'.length := h1
      show f.size + 2 * ts1.length + 1 ≤ 2 * (t :: ts').length
      rw [List.length_cons]; omega
    · have h1 : Ast.sizeL l + 2 * ts1.length ≤ Ast.sizeL [] + 2 * ts'.length := h1
      rw [sizeL_nil] at h1
      show Ast.size (nd 15 _ l) + 2 * ts1.length + 1 ≤ 2 * (t :: ts').length
      rw [size_nd, List.length_cons]; omega
    · show Ast.size (ndN 4 _ _ []) + 2 * ts'.length + 1 ≤ 2 * (t :: ts').length
      rw [size_ndN, sizeL_nil, List.length_cons]; omega
    · show Ast.size (ndS 5 _ _ []) + 2 * ts'.length + 1 ≤ 2 * (t :: ts').length
      rw [size_ndS, sizeL_nil, List.length_cons]; omega
theorem src_size {ts ts' : List TkP} {a : Ast} (h : PL srcL ts (.ok (a, ts'))) : a.size + 2 * ts'.length ≤ 2 * ts.length + 1 := by
  obtain ⟨(b : Ast), ts1, h1, h2⟩ := inv_call (n := .blk) h
  have h3 : b.size + 2 * ts1.length ≤ 2 * ts.length + 1 := h1.holds z_all
  obtain ⟨c, hc⟩ := h2.tail _ _ rfl
  have hl := congrArg List.length hc
  rw [List.length_append] at hl
  cases ts1 with
  | nil => cases h2
  | cons u us =>
    have h2 := inv_look h2
    by_cases hk : u.1 = 0
    · rw [if_pos hk] at h2
      obtain ⟨e1, _⟩ := inv_ret h2
      subst e1
      omega
    · rw [if_neg hk] at h2
      exact (inv_bad h2).elim
end Go.Proofs.YtfpeecjafccfjaaGreatDoor
namespace Go.Proofs.YtfpeecjafccfjaaGreatDoor
theorem Fin.cons {ts : List TkP} (h : Fin ts) : ∃ t r, ts = t :: r := by
  cases ts with
  | nil => exact absurd rfl h.ne
  | cons t r => exact ⟨t, r, rfl⟩
def PostF (n : NT) (ts : List TkP) (_ : VT n) (ts' : List TkP) : Prop := Fin ts → Fin ts'
def Ff {α : Type} (g : GL α) (ts : List TkP) : Prop := Fin ts → Wp PostF g ts (fun _ ts' => Fin ts')
theorem ff_ret {α : Type} {a : α} {ts : List TkP} : Ff (.ret a) ts := fun h => h
theorem ff_bad {α : Type} {ts : List TkP} : Ff (.bad : GL α) ts := fun _ => trivial
theorem ff_look {α : Type} {f : TkP → GL α} {ts : List TkP} (h : ∀ t ts', Ff (f t) (t :: ts')) : Ff (.look f) ts := fun hf t ts' e => by
  subst e
  exact h t ts' hf
theorem ff_tok {α : Type} {f : TkP → GL α} {t : TkP} {ts : List TkP} (ht : t.1 ≠ 0) (h : Ff (f t) ts) : Ff (.tok f) (t :: ts) := fun hf u us e => by
  injection e with e1 e2
  subst e1 e2
  exact h (hf.tail ht)
theorem ff_call {α : Type} {n : NT} {k : VT n → GL α} {ts : List TkP} (h : ∀ v ts', Ff (k v) ts') : Ff (.call n k) ts := fun hf v ts' hp => h v ts' (hp hf)
theorem ff_ite {α : Type} {c : Prop} [Decidable c] {g g' : GL α} {ts : List TkP} (h1 : c → Ff g ts) (h2 : ¬ c → Ff g' ts) : Ff (if c then g else g') ts := by
  by_cases h : c
  · rw [if_pos h]; exact h1 h
  · rw [if_neg h]; exact h2 h
theorem isW_nz {s : List UInt8} {t : TkP} (h : isW s t = true) : t.1 ≠ 0 := fun e => by simp [isW, e] at h
theorem ff_want {α : Type} {s : List UInt8} {k : TkP → GL α} {ts : List TkP} (h : ∀ t ts', Ff (k t) ts') : Ff (want s k) ts := ff_look fun t ts' => ff_ite (fun hc => ff_tok (isW_nz hc) (h t ts')) fun _ => ff_bad
theorem ff_name {α : Type} {k : TkP → GL α} {ts : List TkP} (h : ∀ t ts', Ff (k t) ts') : Ff (name k) ts := ff_look fun t ts' => ff_ite (fun hc => ff_tok (by rw [hc]; decide) (h t ts')) fun _ => ff_bad
theorem ff_take {α : Type} {s : List UInt8} {a b : GL α} {ts : List TkP} (h1 : ∀ ts', Ff a ts') (h2 : ∀ ts', Ff b ts') : Ff (take s a b) ts := ff_look fun _ ts' => ff_ite (fun hc => ff_tok (isW_nz hc) (h1 ts')) fun _ => h2 _
theorem binO_nz {t : TkP} {o : Int × Nat × Nat} (h : binO t = some o) : t.1 ≠ 0 := fun e => by simp [binO, isW, e] at h
theorem unaO_nz {t : TkP} {o : Int} (h : unaO t = some o) : t.1 ≠ 0 := fun e => by simp [unaO, isW, e] at h
set_option maxHeartbeats 4000000 in
theorem ff_all (n : NT) (ts : List TkP) : Ff (bodyL n) ts := by
  cases n <;> unfold bodyL
  case lvm s x =>
    refine ff_look fun t ts' => ?_
    cases h : binO t with
    | none => exact ff_ret
    | some o => exact ff_ite (fun _ => ff_tok (binO_nz h) (ff_call fun _ _ => ff_call fun _ _ => ff_ret)) fun _ => ff_ret
  case una =>
    refine ff_look fun t ts' => ?_
    cases h : unaO t with
    | none => exact ff_call fun _ _ => ff_ret
    | some o => exact ff_tok (unaO_nz h) (ff_call fun _ _ => ff_ret)
  all_goals
    repeat' first
      | exact ff_ret
      | exact ff_bad
      | (refine ff_want fun _ _ => ?_)
      | (refine ff_name fun _ _ => ?_)
      | (refine ff_take (fun _ => ?_) (fun _ => ?_))
      | (refine ff_look fun _ _ => ?_)
      | (refine ff_call fun _ _ => ?_)
      | (refine ff_ite (fun hc => ?_) (fun _ => ?_))
      | (refine ff_tok (by first | exact isW_nz hc | (intro e; simp [isW, e] at hc)) ?_)
theorem Wp.always {N : Type} {V : N → Type} {Post : ∀ n, List TkP → V n → List TkP → Prop} {α : Type} (g : G N V α) : ∀ (ts : List TkP) (Q : α → List TkP → Prop), (∀ a ts', Q a ts') → Wp Post g ts Q := by
  induction g with
  | ret a => intro ts Q h; exact h a ts
  | bad => intro ts Q h; trivial
  | tok f ih => intro ts Q h t ts' e; exact ih t ts' Q h
  | look f ih => intro ts Q h t ts' e; exact ih t ts Q h
  | call n k ih => intro ts Q h v ts' hp; exact ih v ts' Q h
theorem Wp.weak {N : Type} {V : N → Type} {Post : ∀ n, List TkP → V n → List TkP → Prop} {α : Type} (g : G N V α) : ∀ (ts : List TkP) (Q Q' : α → List TkP → Prop), (∀ a ts', Q a ts' → Q' a ts') → Wp Post g ts Q → Wp Post g ts Q' := by
  induction g with
  | ret a => intro ts Q Q' h hw; exact h a ts hw
  | bad => intro ts Q Q' h hw; trivial
  | tok f ih => intro ts Q Q' h hw t ts' e; exact ih t ts' Q Q' h (hw t ts' e)
  | look f ih => intro ts Q Q' h hw t ts' e; exact ih t ts Q Q' h (hw t ts' e)
  | call n k ih => intro ts Q Q' h hw v ts' hp; exact ih v ts' Q Q' h (hw v ts' hp)
theorem PL.fin {n : NT} {ts ts' : List TkP} {v : VT n} (h : PL (bodyL n) ts (.ok (v, ts'))) (hf : Fin ts) : Fin ts' :=
  P.holds (Post := PostF) (fun n ts => by
    by_cases hf : Fin ts
    · exact Wp.weak _ _ _ _ (fun _ _ h _ => h) (ff_all n ts hf)
    · exact Wp.always _ _ _ fun _ _ h => (hf h).elim) h hf
end Go.Proofs.YtfpeecjafccfjaaGreatDoor
namespace Go.Proofs.YtfpeecjafccfjaaGreatDoor
open Go.RowKit
def tokV (t : TkP) : Value := .agg #[.int .i64 t.1, .int .i64 t.2.1, .int .i64 t.2.2.1, .string (bts t.2.2.2)]
theorem PS.look {W : World} {b : Nat} {O : Nat → Prop} {t : TkP} {ts : List TkP} {T : List Nd} (h : PS W b O (t :: ts) T) :
    ∃ (i g n c : Nat), W.cell? ⟨b, 0, none⟩ = some (.slice (some ⟨g, 0, none⟩) n c) ∧ W.cell? ⟨b, 1, none⟩ = some (.int .i64 (i : Int)) ∧ i < n ∧ n ≤ 20000 ∧ n ≤ c ∧
      W.cell? ⟨g, i * 4, none⟩ = some (.int .i64 t.1) ∧ W.cell? ⟨g, i * 4 + 1, none⟩ = some (.int .i64 t.2.1) ∧ W.cell? ⟨g, i * 4 + 2, none⟩ = some (.int .i64 t.2.2.1) ∧ W.cell? ⟨g, i * 4 + 3, none⟩ = some (.string (bts t.2.2.2)) := by
  obtain ⟨TS, i, g, c, nv, L, a1, a2, a3, a4, a5, a6, a7⟩ := h.ex
  obtain ⟨g', cap, e, h1, h2, h3⟩ := a2.ex
  have hg : g = g' ∧ c = cap := by injection e with e1 _ e3; injection e1 with e1; injection e1 with e1; exact ⟨e1, e3⟩
  obtain ⟨rfl, rfl⟩ := hg
  have hi : TS[i]? = some t := by
    have := congrArg (·[0]?) a4
    simpa [List.getElem?_drop] using this
  have hlt := (List.getElem?_eq_some_iff.1 hi).1
  obtain ⟨b0, b1, b2, b3⟩ := h3 i t hi
  exact ⟨i, g, TS.length, c, by simp [World.cell?, a1], by simp [World.cell?, a1], hlt, a5, h1, b0, b1, b2, b3⟩
set_option maxHeartbeats 1000000 in
theorem ahead_p (b : Nat) (O : Nat → Prop) (t : TkP) (ts : List TkP) (T : List Nd) (w : World) (h : PS w b O (t :: ts) T) :
    Calls Tryz.prog 31 #[.pointer (some ⟨b, 0, none⟩)] w fun e w' => e = .returned (tokV t) ∧ Below w.heap.size w w' := by
  obtain ⟨i, g, n, c, c0, c1, hi, hn, hc, d0, d1, d2, d3⟩ := h.look
  obtain ⟨t0, t1, t2, t3⟩ := t
  have hb : b < w.heap.size := World.block_lt_of_cell? w _ c1
  have hg : g < w.heap.size := World.block_lt_of_cell? w _ d0
  clear h
  go_enter Tryz.func31, Tryz.ntmps31
  go_wp2_with fail
  go_region
  all_goals go_wp2
  all_goals exact bodyPost_ret (v := tokV (t0, t1, t2, t3)) (by simp [results, Tryz.results31, go_sem, tokV]) rfl ⟨rfl, ((Below.refl _ _).alloc (Nat.le_refl _) _).drew⟩
def wordS (t : TkP) : ByteArray := if t.1 = 2 ∨ t.1 = 5 then bts t.2.2.2 else ⟨#[]⟩
set_option maxHeartbeats 1000000 in
theorem word_p (b : Nat) (O : Nat → Prop) (t : TkP) (ts : List TkP) (T : List Nd) (w : World) (h : PS w b O (t :: ts) T) :
    Calls Tryz.prog 35 #[.pointer (some ⟨b, 0, none⟩)] w fun e w' => e = .returned (.string (wordS t)) ∧ Below w.heap.size w w' := by
  obtain ⟨t0, t1, t2, t3⟩ := t
  have HA := Lib.hid (ahead_p b O (t0, t1, t2, t3) ts T w h)
  unfold tokV at HA
  obtain ⟨S, hS⟩ : ∃ S, S = bts t3 := ⟨_, rfl⟩
  dsimp only at HA
  rw [← hS] at HA
  by_cases h2 : t0 = 2
  · subst h2
    have hw : wordS (2, t1, t2, t3) = S := by subst hS; rfl
    have HW := Lib.hid hw
    clear hw h hS
    go_enter Tryz.func35, Tryz.ntmps35
    go_wp2_with fail
    refine HA.out.mono ?_; rintro e w1 ⟨rfl, b1⟩
    have B1 := Lib.hid b1
    clear b1
    go_wp2_with fail
    go_ret
    exact ⟨(by rw [HW.out]; rfl), thenBR B1.out ((Below.refl _ _).alloc (Nat.le_refl _) _)⟩
  · have g2 : (t0 == 2) = false := beq_eq_false_iff_ne.2 h2
    have g2' : (t0 != 2) = true := bne_iff_ne.2 h2
    by_cases h5 : t0 = 5
    · subst h5
      have hw : wordS (5, t1, t2, t3) = S := by subst hS; rfl
      have HW := Lib.hid hw
      clear hw h hS
      go_enter Tryz.func35, Tryz.ntmps35
      go_wp2_with fail
      refine HA.out.mono ?_; rintro e w1 ⟨rfl, b1⟩
      have B1 := Lib.hid b1
      clear b1
      go_wp2_with fail
      go_ret
      exact ⟨(by rw [HW.out]; rfl), thenBR B1.out ((Below.refl _ _).alloc (Nat.le_refl _) _)⟩
    · have g5 : (t0 == 5) = false := beq_eq_false_iff_ne.2 h5
      have g5' : (t0 != 5) = true := bne_iff_ne.2 h5
      have hw : wordS (t0, t1, t2, t3) = ⟨#[]⟩ := if_neg (by rintro (h | h) <;> contradiction)
      have HW := Lib.hid hw
      clear hw h h2 h5 hS
      go_enter Tryz.func35, Tryz.ntmps35
      go_wp2_with fail
      refine HA.out.mono ?_; rintro e w1 ⟨rfl, b1⟩
      have B1 := Lib.hid b1
      clear b1
      go_wp2_with fail
      go_ret
      exact ⟨(by rw [HW.out]; rfl), thenBR B1.out ((Below.refl _ _).alloc (Nat.le_refl _) _)⟩
theorem PS.step {W : World} {b : Nat} {O : Nat → Prop} {t : TkP} {ts : List TkP} {T : List Nd} (h : PS W b O (t :: ts) T) (ht : t.1 ≠ 0) {i : Nat} (hi : W.cell? ⟨b, 1, none⟩ = some (.int .i64 (i : Int))) :
    PS (W.setCell ⟨b, 1, none⟩ (.int .i64 ((i : Int) + 1))) b O ts T := by
  obtain ⟨TS, i', g, c, nv, L, a1, a2, a3, a4, a5, a6, a7⟩ := h.ex
  have hi' : i' = i := by
    simp [World.cell?, a1] at hi
    omega
  subst hi'
  have hlt : b < W.heap.size := (Array.getElem?_eq_some_iff.1 a1).1
  have hne : ∀ k, k ≠ b → (W.setCell ⟨b, 1, none⟩ (.int .i64 ((i' : Int) + 1))).heap[k]? = W.heap[k]? := fun k hk => Below.heap_setCell _ _ _ k hk
  have hnew := (set_blk a1 (.int .i64 ((i' : Int) + 1))).1
  have hrow : ∀ {B e s n : Nat} {v : Value} {xs : List Value}, W.ownsRow B e s v n xs → B = b + 1 → (W.setCell ⟨b, 1, none⟩ (.int .i64 ((i' : Int) + 1))).ownsRow B e s v n xs := fun h hB => row_kept h fun k hk => hne k (by have := (h.lt k hk).1; omega)
  refine ⟨⟨TS, i' + 1, g, c, nv, L, hnew, ?_, a3, ?_, a5, ⟨hrow a6.row rfl, a6.own, fun t ht => ?_⟩, a7⟩, h.fin.tail ht, h.at_, fun k hk => ⟨(h.own k hk).1, by simpa [World.setCell] using (h.own k hk).2⟩⟩
  · exact a2.kept (hne g (by omega)) (by simp [World.setCell])
  · rw [← List.drop_drop, a4]; rfl
  · have hn := a6.each t ht
    exact ⟨hrow hn.names rfl, hrow hn.kids rfl, fun g hg => (hn.on g hg).imp id (h.fr 1 _).keeps, hn.nz, hn.ok⟩
theorem PS.place {W : World} {b : Nat} {O : Nat → Prop} {ts : List TkP} {T : List Nd} (h : PS W b O ts T) : ∃ i : Nat, i ≤ 20000 ∧ W.cell? ⟨b, 1, none⟩ = some (.int .i64 (i : Int)) ∧ W.frozen? ⟨b, 1, none⟩ = false ∧ b < W.heap.size := by
  obtain ⟨TS, i, g, c, nv, L, a1, a2, a3, a4, a5, a6, a7⟩ := h.ex
  refine ⟨i, ?_, by simp [World.cell?, a1], by simp [World.frozen?, a1], (Array.getElem?_eq_some_iff.1 a1).1⟩
  rcases Nat.lt_or_ge TS.length i with hi | hi
  · exact absurd (by rw [← a4]; exact List.drop_of_length_le (by omega)) h.fin.ne
  · omega
theorem isW_iff {s : List UInt8} (hs : s ≠ []) (t : TkP) : ((wordS t).data.toList == s) = isW s t := by
  rw [Bool.eq_iff_iff]
  unfold wordS isW
  by_cases h : t.1 = 2 ∨ t.1 = 5
  · rw [if_pos h]
    simp [h, bts]
  · rw [if_neg h]
    simp [h]
    exact hs
theorem isW_pos {s : List UInt8} {t : TkP} (h : isW s t = true) : t.1 ≠ 0 := by
  unfold isW at h
  intro h0
  simp [h0] at h
def TakePost (b : Nat) (O : Nat → Prop) (ts' : List TkP) (T : List Nd) (r : Bool) (w : World) (e : Ending) (w' : World) : Prop := e = .returned (.bool r) ∧ PS w' b O ts' T ∧ Fr (· = b) w w'
set_option maxHeartbeats 1000000 in
theorem take_yes_p (b : Nat) (O : Nat → Prop) (t : TkP) (ts : List TkP) (T : List Nd) (s : List UInt8) (X : ByteArray) (hX : X = bts s) (w : World) (h : PS w b O (t :: ts) T) (hs : s ≠ []) (ht : isW s t = true) :
    Calls Tryz.prog 34 #[.pointer (some ⟨b, 0, none⟩), .string X] w (TakePost b O ts T true w) := by
  have HA := Lib.hid (word_p b O t ts T w h)
  have hw := isW_iff hs t
  have he : (wordS t).data.toList = X.data.toList := by
    rw [ht] at hw
    rw [hX]
    exact eq_of_beq hw
  have he : wordS t = X := by
    cases h1 : wordS t with
    | mk d =>
      cases X with
      | mk d' =>
        rw [h1] at he
        congr 1
        exact Array.ext' he
  rw [he] at HA
  have HH := Lib.hid h
  have HT := Lib.hid (isW_pos ht)
  clear hw he hX h hs ht
  go_enter Tryz.func34, Tryz.ntmps34
  go_wp2_with fail
  refine HA.out.mono ?_; rintro e w1 ⟨rfl, b1⟩
  have h1 := HH.out.below b1
  have B1 := Lib.hid b1
  obtain ⟨i, hi, c1, f1, hb⟩ := h1.place
  have H1 := Lib.hid h1
  have C1 := Lib.hid c1
  clear b1 h1
  go_wp2_with fail
  go_ret
  exact ⟨rfl, H1.out.step HT.out C1.out, (Fr.of_below (O := (· = b)) B1.out).trans (H1.out.fr 1 _) (Ext.refl _ _)⟩
set_option maxHeartbeats 1000000 in
theorem take_no_p (b : Nat) (O : Nat → Prop) (t : TkP) (ts : List TkP) (T : List Nd) (s : List UInt8) (X : ByteArray) (hX : X = bts s) (w : World) (h : PS w b O (t :: ts) T) (hs : s ≠ []) (ht : isW s t = false) :
    Calls Tryz.prog 34 #[.pointer (some ⟨b, 0, none⟩), .string X] w (TakePost b O (t :: ts) T false w) := by
  have HA := Lib.hid (word_p b O t ts T w h)
  have hw := isW_iff hs t
  rw [ht] at hw
  generalize wordS t = Y at *
  have hq : (Y.toList == X.toList) = false := by rw [Lib.toList_data, Lib.toList_data, hX]; exact hw
  have HH := Lib.hid h
  clear hw hX h hs ht
  go_enter Tryz.func34, Tryz.ntmps34
  go_wp2_with fail
  refine HA.out.mono ?_; rintro e w1 ⟨rfl, b1⟩
  have h1 := HH.out.below b1
  have B1 := Lib.hid b1
  have H1 := Lib.hid h1
  clear b1 h1
  go_wp2_with fail
  go_ret
  exact ⟨rfl, H1.out, Fr.of_below B1.out⟩
def MisPost (w : World) (l : Int) (e : Ending) (w' : World) : Prop := ∃ v, e = .returned v ∧ Mis w.heap.size w' v l ∧ Below w.heap.size w w'
theorem fld0 (t0 t1 t2 : Int) (S : ByteArray) (W : World) : (Instr.field 81 (.agg #[.int .i64 t0, .int .i64 t1, .int .i64 t2, .string S]) 0).run Tryz.prog W = .ok (.int .i64 t0) W := by kernel_rfl
theorem fld1 (t0 t1 t2 : Int) (S : ByteArray) (W : World) : (Instr.field 81 (.agg #[.int .i64 t0, .int .i64 t1, .int .i64 t2, .string S]) 1).run Tryz.prog W = .ok (.int .i64 t1) W := by kernel_rfl
set_option maxHeartbeats 1000000 in
theorem wrong_p (b : Nat) (O : Nat → Prop) (t : TkP) (ts : List TkP) (T : List Nd) (w : World) (h : PS w b O (t :: ts) T) :
    Calls Tryz.prog 42 #[.pointer (some ⟨b, 0, none⟩)] w (MisPost w t.2.1) := by
  obtain ⟨t0, t1, t2, t3⟩ := t
  have HA := Lib.hid (ahead_p b O (t0, t1, t2, t3) ts T w h)
  unfold tokV at HA
  dsimp only at HA ⊢
  have F1 := fld1 t0 t1 t2 (bts t3)
  clear h
  go_enter Tryz.func42, Tryz.ntmps42
  go_wp2_with fail
  refine HA.out.mono ?_; rintro e w1 ⟨rfl, b1⟩
  have B1 := Lib.hid b1
  clear b1
  go_wp2_with fail
  go_ret
  exact ⟨_, rfl, ⟨w1.heap.size, rfl, B1.out.size, World.alloc_heap_new w1 _⟩, thenBR B1.out ((Below.refl _ _).alloc (Nat.le_refl _) _)⟩
theorem word_is {s : List UInt8} (hs : s ≠ []) (t : TkP) {r : Bool} (h : isW s t = r) : ((wordS t).toList == s) = r := by rw [Lib.toList_data, isW_iff hs, h]
theorem isW_diff' {s s' : List UInt8} {t : TkP} (h : isW s t = true) (hne : s' ≠ s) : isW s' t = false := by
  unfold isW at h ⊢
  rw [Bool.and_eq_true, decide_eq_true_eq] at h
  rw [h.2, Bool.and_eq_false_iff]
  exact .inr (decide_eq_false (fun e => hne e.symm))
def OverPost (w : World) (r : Bool) (e : Ending) (w' : World) : Prop := e = .returned (.bool r) ∧ Below w.heap.size w w'
set_option maxHeartbeats 2000000 in
theorem over_p (b : Nat) (O : Nat → Prop) (t : TkP) (ts : List TkP) (T : List Nd) (w : World) (h : PS w b O (t :: ts) T) :
    Calls Tryz.prog 33 #[.pointer (some ⟨b, 0, none⟩)] w (OverPost w (endB t)) := by
  have HW := Lib.hid (word_p b O t ts T w h)
  have HA := Lib.hid (fun W hW => ahead_p b O t ts T W hW)
  have HP := Lib.hid h
  have hr : ∀ r, endB t = r → endB t = r := fun _ h => h
  by_cases k1 : isW wEnd t = true
  · have g1 : ((wordS t).toList == [101, 110, 100]) = true := word_is (s := wEnd) (by decide) t k1
    have HE := Lib.hid (show endB t = true by unfold endB; simp [k1])
    clear h hr k1
    generalize wordS t = Y at *
    go_enter Tryz.func33, Tryz.ntmps33
    go_wp2_with fail
    refine HW.out.mono ?_; rintro e w1 ⟨rfl, b1⟩
    have B1 := Lib.hid b1
    clear b1
    go_wp2_with fail
    go_ret
    exact ⟨by rw [HE.out]; rfl, B1.out⟩
  · have g1 : ((wordS t).toList == [101, 110, 100]) = false := word_is (s := wEnd) (by decide) t (by simpa using k1)
    by_cases k2 : isW wElse t = true
    · have g2 : ((wordS t).toList == [101, 108, 115, 101]) = true := word_is (s := wElse) (by decide) t k2
      have HE := Lib.hid (show endB t = true by unfold endB; simp [k2])
      clear h hr k1 k2
      generalize wordS t = Y at *
      go_enter Tryz.func33, Tryz.ntmps33
      go_wp2_with fail
      refine HW.out.mono ?_; rintro e w1 ⟨rfl, b1⟩
      have B1 := Lib.hid b1
      clear b1
      go_wp2_with fail
      go_ret
      exact ⟨by rw [HE.out]; rfl, B1.out⟩
    · have g2 : ((wordS t).toList == [101, 108, 115, 101]) = false := word_is (s := wElse) (by decide) t (by simpa using k2)
      by_cases k3 : isW wElseif t = true
      · have g3 : ((wordS t).toList == [101, 108, 115, 101, 105, 102]) = true := word_is (s := wElseif) (by decide) t k3
        have HE := Lib.hid (show endB t = true by unfold endB; simp [k3])
        clear h hr k1 k2 k3
        generalize wordS t = Y at *
        go_enter Tryz.func33, Tryz.ntmps33
        go_wp2_with fail
        refine HW.out.mono ?_; rintro e w1 ⟨rfl, b1⟩
        have B1 := Lib.hid b1
        clear b1
        go_wp2_with fail
        go_ret
        exact ⟨by rw [HE.out]; rfl, B1.out⟩
      · have g3 : ((wordS t).toList == [101, 108, 115, 101, 105, 102]) = false := word_is (s := wElseif) (by decide) t (by simpa using k3)
        by_cases k4 : isW wUntil t = true
        · have g4 : ((wordS t).toList == [117, 110, 116, 105, 108]) = true := word_is (s := wUntil) (by decide) t k4
          have HE := Lib.hid (show endB t = true by unfold endB; simp [k4])
          clear h hr k1 k2 k3 k4
          generalize wordS t = Y at *
          go_enter Tryz.func33, Tryz.ntmps33
          go_wp2_with fail
          refine HW.out.mono ?_; rintro e w1 ⟨rfl, b1⟩
          have B1 := Lib.hid b1
          clear b1
          go_wp2_with fail
          go_ret
          exact ⟨by rw [HE.out]; rfl, B1.out⟩
        · have g4 : ((wordS t).toList == [117, 110, 116, 105, 108]) = false := word_is (s := wUntil) (by decide) t (by simpa using k4)
          obtain ⟨t0, t1, t2, t3⟩ := t
          have HE := Lib.hid (show endB (t0, t1, t2, t3) = decide (t0 = 0) by
            unfold endB
            simp only [Bool.not_eq_true] at k1 k2 k3 k4
            simp [k1, k2, k3, k4])
          unfold tokV at HA
          dsimp only at HA
          have F0 := fld0 t0 t1 t2 (bts t3)
          clear h hr k1 k2 k3 k4
          generalize wordS (t0, t1, t2, t3) = Y at *
          generalize bts t3 = S at *
          by_cases h0 : t0 = 0
          · subst h0
            go_enter Tryz.func33, Tryz.ntmps33
            go_wp2_with fail
            refine HW.out.mono ?_; rintro e w1 ⟨rfl, b1⟩
            have B1 := Lib.hid b1
            have P1 := Lib.hid (HP.out.below b1)
            clear b1
            go_wp2_with fail
            refine (HA.out _ P1.out).mono ?_; rintro e w2 ⟨rfl, b2⟩
            have B2 := Lib.hid (thenBR B1.out b2)
            clear b2
            go_wp2_with fail
            go_ret
            exact ⟨by rw [HE.out]; rfl, B2.out⟩
          · have g0 : (t0 == 0) = false := beq_eq_false_iff_ne.2 h0
            have HN := Lib.hid h0
            clear h0
            go_enter Tryz.func33, Tryz.ntmps33
            go_wp2_with fail
            refine HW.out.mono ?_; rintro e w1 ⟨rfl, b1⟩
            have B1 := Lib.hid b1
            have P1 := Lib.hid (HP.out.below b1)
            clear b1
            go_wp2_with fail
            refine (HA.out _ P1.out).mono ?_; rintro e w2 ⟨rfl, b2⟩
            have B2 := Lib.hid (thenBR B1.out b2)
            clear b2
            go_wp2_with fail
            go_ret
            exact ⟨by rw [HE.out, decide_eq_false HN.out]; rfl, B2.out⟩
end Go.Proofs.YtfpeecjafccfjaaGreatDoor
namespace Go.Proofs.YtfpeecjafccfjaaGreatDoor
open Go.RowKit
set_option maxHeartbeats 1000000 in
theorem skip_p (b : Nat) (O : Nat → Prop) (t : TkP) (ts : List TkP) (T : List Nd) (n : Value) (w : World) (h : PS w b O (t :: ts) T) (ht : t.1 ≠ 0) :
    Calls Tryz.prog 37 #[.pointer (some ⟨b, 0, none⟩), n] w fun e w' => e = .returned .nilIface ∧ PS w' b O ts T ∧ Fr (· = b) w w' := by
  obtain ⟨i, hi, c1, f1, hb⟩ := h.place
  have HH := Lib.hid h
  have HT := Lib.hid ht
  have C1 := Lib.hid c1
  clear h ht
  go_enter Tryz.func37, Tryz.ntmps37
  go_wp2_with fail
  go_ret
  exact ⟨rfl, HH.out.step HT.out C1.out, HH.out.fr 1 _⟩
set_option maxHeartbeats 1000000 in
theorem comma_yes_p (b : Nat) (O : Nat → Prop) (t : TkP) (ts : List TkP) (T : List Nd) (w : World) (h : PS w b O (t :: ts) T) (ht : isW [44] t = true) :
    Calls Tryz.prog 116 #[.pointer (some ⟨b, 0, none⟩)] w (TakePost b O ts T true w) := by
  have HC := Lib.hid (take_yes_p b O t ts T [44] ⟨#[44]⟩ rfl w h (by decide) ht)
  clear h ht
  go_enter Tryz.func116, Tryz.ntmps116
  go_wp2_with fail
  refine HC.out.mono ?_; rintro e w1 ⟨rfl, h1, h2⟩
  have H1 := Lib.hid h1
  have H2 := Lib.hid h2
  clear h1 h2
  go_wp2_with fail
  go_ret
  exact ⟨rfl, H1.out, H2.out⟩
set_option maxHeartbeats 1000000 in
theorem comma_no_p (b : Nat) (O : Nat → Prop) (t : TkP) (ts : List TkP) (T : List Nd) (w : World) (h : PS w b O (t :: ts) T) (ht : isW [44] t = false) :
    Calls Tryz.prog 116 #[.pointer (some ⟨b, 0, none⟩)] w (TakePost b O (t :: ts) T false w) := by
  have HC := Lib.hid (take_no_p b O t ts T [44] ⟨#[44]⟩ rfl w h (by decide) ht)
  clear h ht
  go_enter Tryz.func116, Tryz.ntmps116
  go_wp2_with fail
  refine HC.out.mono ?_; rintro e w1 ⟨rfl, h1, h2⟩
  have H1 := Lib.hid h1
  have H2 := Lib.hid h2
  clear h1 h2
  go_wp2_with fail
  go_ret
  exact ⟨rfl, H1.out, H2.out⟩
def NamePost (b : Nat) (O : Nat → Prop) (t : TkP) (ts : List TkP) (T : List Nd) (w : World) (e : Ending) (w' : World) : Prop :=
  Fr (· = b) w w' ∧ ((t.1 = 1 ∧ e = .returned (.tuple #[.string (bts t.2.2.2), .nilIface]) ∧ PS w' b O ts T) ∨ (t.1 ≠ 1 ∧ ∃ er, e = .returned (.tuple #[.string ⟨#[]⟩, er]) ∧ Mis w.heap.size w' er t.2.1))
set_option maxHeartbeats 2000000 in
theorem name_p (b : Nat) (O : Nat → Prop) (t : TkP) (ts : List TkP) (T : List Nd) (w : World) (h : PS w b O (t :: ts) T) :
    Calls Tryz.prog 119 #[.pointer (some ⟨b, 0, none⟩)] w (NamePost b O t ts T w) := by
  obtain ⟨t0, t1, t2, t3⟩ := t
  have HA := Lib.hid (ahead_p b O (t0, t1, t2, t3) ts T w h)
  have HW := Lib.hid (fun W hW => wrong_p b O (t0, t1, t2, t3) ts T W hW)
  unfold tokV at HA
  dsimp only at HA HW
  have HP := Lib.hid h
  clear h
  obtain ⟨S, hS⟩ : ∃ S, S = bts t3 := ⟨_, rfl⟩
  rw [← hS] at HA
  have HS := Lib.hid hS
  clear hS
  by_cases h1 : t0 = 1
  · subst h1
    go_enter Tryz.func119, Tryz.ntmps119
    go_wp2_with fail
    refine HA.out.mono ?_; rintro e w1 ⟨rfl, b1⟩
    have B1 := Lib.hid b1
    have h2 := HP.out.below b1
    obtain ⟨i, hi, c1, f1, hb⟩ := h2.place
    have H2 := Lib.hid h2
    have C1 := Lib.hid c1
    clear h2 b1
    go_wp2_with fail
    go_ret2
    have hB := fun W : World => (Below.refl W.heap.size W).alloc (Nat.le_refl _) (.cells #[.int .i64 1, .int .i64 t1, .int .i64 t2, .string S] 81)
    refine ⟨?_, .inl ⟨rfl, by rw [← HS.out]; rfl, (H2.out.step (show (1 : Int) ≠ 0 by decide) C1.out).below (hB _)⟩⟩
    exact ((Fr.of_below (O := (· = b)) B1.out).trans (H2.out.fr 1 _) (Ext.refl _ _)).alloc _
  · have g1 : (t0 == 1) = false := beq_eq_false_iff_ne.2 h1
    have g1' : (t0 != 1) = true := bne_iff_ne.2 h1
    have HN := Lib.hid h1
    clear h1
    go_enter Tryz.func119, Tryz.ntmps119
    go_wp2_with fail
    refine HA.out.mono ?_; rintro e w1 ⟨rfl, b1⟩
    have B2 := Lib.hid (thenBR b1 ((Below.refl w1.heap.size w1).alloc (Nat.le_refl _) (.cells #[.int .i64 t0, .int .i64 t1, .int .i64 t2, .string S] 81)))
    have H2 := Lib.hid (HP.out.below B2.out)
    clear b1
    go_wp2_with fail
    refine (HW.out _ H2.out).mono ?_; rintro e w3 ⟨er, rfl, m, b3⟩
    have M := Lib.hid m
    have B3 := Lib.hid (thenBR B2.out b3)
    clear m b3
    go_wp2_with fail
    go_ret2
    refine ⟨Fr.of_below B3.out, .inr ⟨HN.out, _, rfl, ?_⟩⟩
    obtain ⟨g, e1, e2, e3⟩ := M.out
    exact ⟨g, e1, Nat.le_trans B2.out.size e2, e3⟩
theorem set_cells {W : World} {n k : Nat} {a : Array Value} {ty : TypeId} (h : W.heap[n]? = some (.cells a ty (0, 0))) (v : Value) : (W.setCell ⟨n, k, none⟩ v).heap[n]? = some (.cells (a.setIfInBounds k v) ty (0, 0)) := by
  obtain ⟨hlt, hk⟩ := Array.getElem?_eq_some_iff.1 h
  show (W.heap.modify n _)[n]? = _
  rw [Array.getElem?_eq_getElem (by rw [Array.size_modify]; exact hlt), Array.getElem_modify_self, hk]
  rfl
theorem NU.cells {W : World} {b n : Nat} {O : Nat → Prop} {x : Nd} (h : NU W b n O x) : ∃ nv kv, NodeAt W n 0 x nv kv ∧ NdIn W b O x nv kv ∧ (∀ j, W.frozen? ⟨n, j, none⟩ = false) := by
  obtain ⟨nv, kv, a1, a2⟩ := h.ex
  have hc : ∀ j, W.cell? ⟨n, j, none⟩ = (ndCells (x, nv, kv))[j]? := fun j => by simp [World.cell?, a1]
  exact ⟨nv, kv, ⟨hc 0, hc 1, hc 2, hc 3, hc 4, hc 5, hc 6⟩, a2, fun j => by simp [World.frozen?, a1]⟩
theorem NdIn.set {W : World} {b : Nat} {O : Nat → Prop} {x : Nd} {nv kv : Value} (h : NdIn W b O x nv kv) {n : Nat} {a : Array Value} (hn : W.heap[n]? = some (.cells a 35 (0, 0))) (k : Nat) (v : Value) : NdIn (W.setCell ⟨n, k, none⟩ v) b O x nv kv := by
  have hne : ∀ g, g ≠ n → (W.setCell ⟨n, k, none⟩ v).heap[g]? = W.heap[g]? := fun g hg => Below.heap_setCell _ _ _ g hg
  have hf := Fr.set1 hn (show (35 : Nat) ≠ 9 by decide) k v
  refine ⟨row_kept h.names fun g hg => hne g (fun e => ?_), row_kept h.kids fun g hg => hne g (fun e => ?_), fun g hg => (h.on g hg).imp id hf.keeps, h.nz, h.ok⟩
  · obtain ⟨cur, hc⟩ := row_type h.names hg
    rw [e, hn] at hc
    simp at hc
  · obtain ⟨cur, hc⟩ := row_type h.kids hg
    rw [e, hn] at hc
    simp at hc
theorem NdIn.head {W : World} {b : Nat} {O : Nat → Prop} {x y : Nd} {nv kv : Value} (h : NdIn W b O x nv kv) (h1 : y.names = x.names) (h2 : y.kids = x.kids) : NdIn W b O y nv kv := ⟨h1 ▸ h.names, h2 ▸ h.kids, h.on, by rw [h1]; exact h.nz, h.ok⟩
theorem NU.putHead {W : World} {b n : Nat} {O : Nat → Prop} {x y : Nd} (h : NU W b n O x) (k : Nat) (v : Value) (h1 : y.names = x.names) (h2 : y.kids = x.kids)
    (hc : ∀ nv kv, (ndCells (x, nv, kv)).toArray.setIfInBounds k v = (ndCells (y, nv, kv)).toArray) : NU (W.setCell ⟨n, k, none⟩ v) b n O y := by
  obtain ⟨nv, kv, a1, a2⟩ := h.ex
  refine ⟨⟨nv, kv, ?_, (a2.set a1 k v).head h1 h2⟩, h.at_, fun i hi => ⟨(h.own i hi).1, by simpa [World.setCell] using (h.own i hi).2⟩⟩
  rw [set_cells a1, hc]
def mval (f b : Nat) : Value := .func (.func f) #[.pointer (some ⟨b, 0, none⟩)] #[]
def wpSkip : Wp1 := fun s K _ => ∃ t ts, s.ts = t :: ts ∧ t.1 ≠ 0 ∧ K { s with ts := ts }
def wpEof : Wp1 := fun s K E => ∃ t ts, s.ts = t :: ts ∧ (t.1 = 0 → K s) ∧ (t.1 ≠ 0 → E t.2.1)
def wpLabel : Wp1 := fun s K E => ∃ t ts, s.ts = t :: ts ∧ (t.1 = 1 → K { s with h := { s.h with s := bts t.2.2.2 }, ts := ts }) ∧ (t.1 ≠ 1 → E t.2.1)
def wpCount : Wp1 := fun s K _ => K { s with h := { s.h with num := (s.xs.length : Int) } }
theorem Real.own {W : World} {b n : Nat} {O : Nat → Prop} {T0 : List Nd} {s : St} (h : Real W b n O T0 s) : ∀ k, O k → b ≤ k ∧ k < W.heap.size := by
  obtain ⟨Op, On, T, ks, hO, hd, hp, hn, hl, hc⟩ := h.ex
  intro k hk
  rcases (hO k).1 hk with hk | hk
  · exact hp.own k hk
  · exact ⟨Nat.le_of_lt (hn.own k hk).1, (hn.own k hk).2⟩
theorem skip_part (W : World) (b : Nat) (O : Nat → Prop) : RdPart W b O (mval 37 b) wpSkip := by
  rintro W1 O1 T0 s n K E _ _ hr ⟨t, ts, hs, h0, hk⟩
  obtain ⟨Op, On, T, ks, hO, hd, hp, hn, hl, hc⟩ := hr.ex
  rw [hs] at hp
  refine ⟨37, _, _, rfl, enters_of Tryz.func37 (by kernel_rfl) rfl, (skip_p b Op t ts T _ W1 hp h0).mono ?_⟩
  rintro e w ⟨rfl, hp', hf⟩
  refine ⟨hf.mono fun k hk => (hO k).2 (.inl (hk ▸ hp.at_)), .inl ⟨{ s with ts := ts }, O1, rfl, ⟨Op, On, T, ks, hO, hd, hp', ?_, hl, hc⟩, Ext.refl _ _, hk⟩⟩
  exact hn.kept hf fun k hk e => hd b hp.at_ (e ▸ hk)
def EofPost (t : TkP) (w : World) (e : Ending) (w' : World) : Prop := Below w.heap.size w w' ∧ ((t.1 = 0 ∧ e = .returned .nilIface) ∨ (t.1 ≠ 0 ∧ ∃ v, e = .returned v ∧ Mis w.heap.size w' v t.2.1))
set_option maxHeartbeats 1000000 in
theorem eof_p (b : Nat) (O : Nat → Prop) (t : TkP) (ts : List TkP) (T : List Nd) (n : Value) (w : World) (h : PS w b O (t :: ts) T) :
    Calls Tryz.prog 19 #[.pointer (some ⟨b, 0, none⟩), n] w (EofPost t w) := by
  obtain ⟨t0, t1, t2, t3⟩ := t
  have HA := Lib.hid (ahead_p b O (t0, t1, t2, t3) ts T w h)
  have HW := Lib.hid (fun W hW => wrong_p b O (t0, t1, t2, t3) ts T W hW)
  unfold tokV at HA
  dsimp only at HA HW
  have F0 := fld0 t0 t1 t2 (bts t3)
  generalize bts t3 = S at *
  have HP := Lib.hid h
  clear h
  by_cases h0 : t0 = 0
  · subst h0
    go_enter Tryz.func19, Tryz.ntmps19
    go_wp2_with fail
    refine HA.out.mono ?_; rintro e w1 ⟨rfl, b1⟩
    have B1 := Lib.hid b1
    clear b1
    go_wp2_with fail
    go_ret
    exact ⟨B1.out, .inl ⟨rfl, rfl⟩⟩
  · have g1 : (t0 == 0) = false := beq_eq_false_iff_ne.2 h0
    have g1' : (t0 != 0) = true := bne_iff_ne.2 h0
    have HN := Lib.hid h0
    clear h0
    go_enter Tryz.func19, Tryz.ntmps19
    go_wp2_with fail
    refine HA.out.mono ?_; rintro e w1 ⟨rfl, b1⟩
    have B1 := Lib.hid b1
    have P1 := Lib.hid (HP.out.below b1)
    clear b1
    go_wp2_with fail
    refine (HW.out _ P1.out).mono ?_; rintro e w2 ⟨v, rfl, m, b2⟩
    have M := Lib.hid m
    have B2 := Lib.hid (thenBR B1.out b2)
    clear m b2
    go_wp2_with fail
    go_ret
    obtain ⟨g, e1, e2, e3⟩ := M.out
    exact ⟨B2.out, .inr ⟨HN.out, _, rfl, g, e1, Nat.le_trans B1.out.size e2, e3⟩⟩
theorem eof_part (W : World) (b : Nat) (O : Nat → Prop) : RdPart W b O (mval 19 b) wpEof := by
  rintro W1 O1 T0 s n K E _ _ hr ⟨t, ts, hs, hk, he⟩
  obtain ⟨Op, On, T, ks, hO, hd, hp, hn, hl, hc⟩ := hr.ex
  have hp1 := hp
  rw [hs] at hp1
  refine ⟨19, _, _, rfl, enters_of Tryz.func19 (by kernel_rfl) rfl, (eof_p b Op t ts T _ W1 hp1).mono ?_⟩
  rintro e w ⟨hb, ⟨h0, rfl⟩ | ⟨h0, v, rfl, hm⟩⟩
  · exact ⟨Fr.of_below hb, .inl ⟨s, O1, rfl, ⟨Op, On, T, ks, hO, hd, hp.below hb, hn.below hb, hl, hc⟩, Ext.refl _ _, hk h0⟩⟩
  · exact ⟨Fr.of_below hb, .inr ⟨_, v, rfl, hm, he h0⟩⟩
def LabelPost (b n : Nat) (Op On : Nat → Prop) (x : Nd) (t : TkP) (ts : List TkP) (T : List Nd) (w : World) (e : Ending) (w' : World) : Prop :=
  Fr (fun k => k = b ∨ k = n) w w' ∧ ((t.1 = 1 ∧ e = .returned .nilIface ∧ PS w' b Op ts T ∧ NU w' b n On { x with s := bts t.2.2.2 }) ∨ (t.1 ≠ 1 ∧ ∃ v, e = .returned v ∧ Mis w.heap.size w' v t.2.1))
set_option maxHeartbeats 2000000 in
theorem label_p (b n : Nat) (Op On : Nat → Prop) (x : Nd) (t : TkP) (ts : List TkP) (T : List Nd) (w : World) (h : PS w b Op (t :: ts) T) (hn : NU w b n On x) (hd : ∀ k, Op k → ¬ On k) :
    Calls Tryz.prog 84 #[.pointer (some ⟨b, 0, none⟩), .pointer (some ⟨n, 0, none⟩)] w (LabelPost b n Op On x t ts T w) := by
  have HA := Lib.hid (name_p b Op t ts T w h)
  have HN := Lib.hid hn
  have HP := Lib.hid h
  have hne : ∀ k, On k → ¬ k = b := fun k hk e => hd b h.at_ (e ▸ hk)
  have hnb := (hn.own n hn.at_)
  have HNE := Lib.hid hne
  have HD := Lib.hid hd
  clear h hn hne hd
  go_enter Tryz.func84, Tryz.ntmps84
  go_wp2_with fail
  refine HA.out.mono ?_; rintro e w1 ⟨f1, h1⟩
  have F1 := Lib.hid f1
  have n1 := HN.out.kept f1 HNE.out
  have N1 := Lib.hid n1
  obtain ⟨nv, kv, hc, _, hz⟩ := n1.cells
  have c4 := hc.c4
  have z4 := hz 4
  have hnl : n < w1.heap.size := (n1.own n n1.at_).2
  clear hc hz n1
  rcases h1 with ⟨g0, rfl, p1⟩ | ⟨g0, er, rfl, m⟩
  · have P1 := Lib.hid p1
    clear p1 f1
    go_wp2_with fail
    go_ret
    refine ⟨(F1.out.mono fun k hk => .inl hk).trans (N1.out.fr 4 _) (fun k hk => .inl (.inr hk)), .inl ⟨g0, rfl, ?_, N1.out.putHead 4 _ rfl rfl fun _ _ => rfl⟩⟩
    exact P1.out.kept (O1 := (· = n)) (N1.out.fr 4 _) (fun k hk e => HD.out k hk (e ▸ HN.out.at_)) fun k e => by omega
  · have M := Lib.hid m
    clear m f1
    go_wp2_with fail
    go_ret
    refine ⟨(F1.out.mono fun k hk => .inl hk).trans (N1.out.fr 4 _) (fun k hk => .inl (.inr hk)), .inr ⟨g0, _, rfl, ?_⟩⟩
    obtain ⟨g, e1, e2, e3⟩ := M.out
    exact ⟨g, e1, e2, (Below.heap_setCell _ _ _ g (by show g ≠ n; omega)).trans e3⟩
theorem label_part (W : World) (b : Nat) (O : Nat → Prop) : RdPart W b O (mval 84 b) wpLabel := by
  rintro W1 O1 T0 s n K E _ _ hr ⟨t, ts, hs, hk, he⟩
  obtain ⟨Op, On, T, ks, hO, hd, hp, hn, hl, hc⟩ := hr.ex
  have hp1 := hp
  rw [hs] at hp1
  refine ⟨84, _, _, rfl, enters_of Tryz.func84 (by kernel_rfl) rfl, (label_p b n Op On _ t ts T W1 hp1 hn hd).mono ?_⟩
  rintro e w ⟨hf, ⟨h0, rfl, p1, n1⟩ | ⟨h0, v, rfl, hm⟩⟩
  · exact ⟨hf.mono fun k hk => (hO k).2 (hk.elim (fun e => .inl (e ▸ hp.at_)) fun e => .inr (e ▸ hn.at_)), .inl ⟨{ s with h := { s.h with s := bts t.2.2.2 }, ts := ts }, O1, rfl, ⟨Op, On, T, ks, hO, hd, p1, n1, hl, hc⟩, Ext.refl _ _, hk h0⟩⟩
  · exact ⟨hf.mono fun k hk => (hO k).2 (hk.elim (fun e => .inl (e ▸ hp.at_)) fun e => .inr (e ▸ hn.at_)), .inr ⟨_, v, rfl, hm, he h0⟩⟩
theorem Reps.count {T : List Nd} : ∀ (xs : List Ast) (ks : List Int) (js : List Nat), Reps T xs ks js → ks.length = xs.length
  | [], ks, js, h => by
    unfold Reps at h
    rw [h.1]; rfl
  | a :: xs, ks, js, h => by
    unfold Reps at h
    obtain ⟨k, ks', j1, j2, rfl, _, h2, _⟩ := h
    rw [List.length_cons, List.length_cons, Reps.count xs ks' j2 h2]
theorem row_form {W : World} {B e s n : Nat} {v : Value} {xs : List Value} (h : W.ownsRow B e s v n xs) : ∃ A c, v = .slice A n c ∧ n ≤ c := by
  rcases h.2 with ⟨rfl, rfl⟩ | ⟨g, cap, cur, rfl, _, _, hc, _⟩
  · exact ⟨none, 0, rfl, Nat.le_refl _⟩
  · exact ⟨_, _, rfl, hc⟩
set_option maxHeartbeats 1000000 in
theorem count_p (b n : Nat) (On : Nat → Prop) (x : Nd) (w : World) (hn : NU w b n On x) :
    Calls Tryz.prog 123 #[.pointer (some ⟨n, 0, none⟩)] w fun e w' => e = .returned .nilIface ∧ NU w' b n On { x with num := (x.kids.length : Int) } ∧ Fr (· = n) w w' := by
  obtain ⟨nv, kv, hc, hi, hz⟩ := hn.cells
  obtain ⟨A, c, rfl, hlc⟩ := row_form hi.kids
  have c3 := hc.c3
  have c6 := hc.c6
  have z3 := hz 3
  have hnl : n < w.heap.size := (hn.own n hn.at_).2
  have HN := Lib.hid hn
  clear hn hi hc hz
  go_enter Tryz.func123, Tryz.ntmps123
  go_wp2_with fail
  go_ret
  exact ⟨rfl, HN.out.putHead 3 _ rfl rfl fun _ _ => rfl, HN.out.fr 3 _⟩
theorem count_part (W : World) (b : Nat) (O : Nat → Prop) : RdPart W b O (.func (.func 123) #[] #[]) wpCount := by
  rintro W1 O1 T0 s n K E _ _ hr hk
  obtain ⟨Op, On, T, ks, hO, hd, hp, hn, hl, hc⟩ := hr.ex
  refine ⟨123, _, _, rfl, enters_of Tryz.func123 (by kernel_rfl) rfl, (count_p b n On _ W1 hn).mono ?_⟩
  rintro e w ⟨rfl, n1, hf⟩
  have hks : ks.length = s.xs.length := by
    obtain ⟨_, js, hj, _⟩ := hl
    exact hj.count
  refine ⟨hf.mono fun k hk => (hO k).2 (.inr (hk ▸ hn.at_)), .inl ⟨{ s with h := { s.h with num := (s.xs.length : Int) } }, O1, rfl, ⟨Op, On, T, ks, hO, hd, ?_, ?_, hl, hc⟩, Ext.refl _ _, hk⟩⟩
  · exact hp.kept hf (fun k hk e => hd k hk (e ▸ hn.at_)) fun k e => by have := (hn.own n hn.at_).1; omega
  · rw [← hks]
    exact n1
end Go.Proofs.YtfpeecjafccfjaaGreatDoor
namespace Go.Proofs.YtfpeecjafccfjaaGreatDoor
open Go.RowKit
def Alls (W : World) (b : Nat) (O : Nat → Prop) : List Value → List Wp1 → Prop
  | [], [] => True
  | v :: vs, wp :: wps => RdPart W b O v wp ∧ Alls W b O vs wps
  | _, _ => False
theorem Alls.later {W W' : World} {b : Nat} {O O' : Nat → Prop} (hf : Fr O W W') (he : Ext O O' W) : ∀ {vs : List Value} {wps : List Wp1}, Alls W b O vs wps → Alls W' b O' vs wps
  | [], [], _ => trivial
  | _ :: _, _ :: _, h => ⟨h.1.later hf he, Alls.later hf he h.2⟩
theorem Alls.get {W : World} {b : Nat} {O : Nat → Prop} : ∀ {vs : List Value} {wps : List Wp1}, Alls W b O vs wps → ∀ (j : Nat) (x : Value), vs[j]? = some x → ∃ y, wps[j]? = some y ∧ RdPart W b O x y
  | [], [], _, j, x, h => by simp at h
  | a :: _, c :: _, h, j, x, hj => by
    cases j with
    | zero =>
      obtain rfl : a = x := by simpa using hj
      exact ⟨c, rfl, h.1⟩
    | succ j => exact Alls.get h.2 j x (by simpa using hj)
theorem Alls.len {W : World} {b : Nat} {O : Nat → Prop} : ∀ {vs : List Value} {wps : List Wp1}, Alls W b O vs wps → vs.length = wps.length
  | [], [], _ => rfl
  | _ :: _, _ :: _, h => by rw [List.length_cons, List.length_cons, Alls.len h.2]
structure RdParts (W : World) (b : Nat) (O : Nat → Prop) (v : Value) (wps : List Wp1) : Prop where
  ex : ∃ vs, Funs W O v vs ∧ Alls W b O vs wps
theorem RdParts.later {W W' : World} {b : Nat} {O O' : Nat → Prop} {v : Value} {wps : List Wp1} (h : RdParts W b O v wps) (hf : Fr O W W') (he : Ext O O' W) : RdParts W' b O' v wps := by
  obtain ⟨vs, h1, h2⟩ := h.ex
  exact ⟨vs, h1.later hf he, h2.later hf he⟩
theorem RdParts.at_ {W W1 : World} {b n : Nat} {O O1 : Nat → Prop} {vs : List Value} {wps : List Wp1} {T0 : List Nd} {s : St} {K : St → Prop} {E : Int → Prop} (h : Alls W b O vs wps) {j : Nat} (hj : j < vs.length)
    (hf : Fr O W W1) (he : Ext O O1 W) (hr : Real W1 b n O1 T0 s) (hk : WpSeq (wps.drop j) s K E) :
    ∃ f first cap, vs[j]? = some (.func (.func f) first cap) ∧ Enters Tryz.prog f ∧ Calls Tryz.prog f (first ++ #[.pointer (some ⟨n, 0, none⟩)] ++ cap) W1 (PartPost b n O1 T0 (fun s' => WpSeq (wps.drop (j + 1)) s' K E) E W1) := by
  obtain ⟨wp, hw, hp⟩ := Alls.get h j vs[j] (List.getElem?_eq_getElem hj)
  have hd : wps.drop j = wp :: wps.drop (j + 1) := by
    obtain ⟨hl, e⟩ := List.getElem?_eq_some_iff.1 hw
    rw [List.drop_eq_getElem_cons hl, e]
  rw [hd] at hk
  obtain ⟨f, first, cap, e, h1, h2⟩ := hp W1 O1 T0 s n _ E hf he hr hk
  exact ⟨f, first, cap, by rw [List.getElem?_eq_getElem hj, e], h1, h2⟩
set_option maxHeartbeats 2000000 in
theorem fill_p (b n : Nat) (O : Nat → Prop) (T0 : List Nd) (s : St) (K : St → Prop) (E : Int → Prop) (pv : Value) (wps : List Wp1) (w : World) (hr : Real w b n O T0 s) (hp : RdParts w b O pv wps) (hk : WpSeq wps s K E) :
    Calls Tryz.prog 32 #[.pointer (some ⟨n, 0, none⟩), pv] w (PartPost b n O T0 K E w) := by
  obtain ⟨vs, hfn, hall⟩ := hp.ex
  have hlen := hall.len
  have hP : ∃ A, pv = .slice A vs.length vs.length ∧ vs.length ≤ 100 ∧ ∀ (W1 : World) (O1 : Nat → Prop), Fr O w W1 → Ext O O1 w → ∀ (j : Nat) v, vs[j]? = some v → ∃ g, A = some ⟨g, 0, none⟩ ∧ W1.cell? ⟨g, j, none⟩ = some v := by
    rcases hfn with ⟨rfl, rfl⟩ | ⟨g, rfl, h2, h3, h4⟩
    · exact ⟨none, rfl, by simp, fun W1 O1 _ _ j v h => by simp at h⟩
    · refine ⟨_, rfl, h4, fun W1 O1 hf he j v hj => ⟨g, rfl, ?_⟩⟩
      have := hf.block g (Array.getElem?_eq_some_iff.1 h2).1 h3
      rw [h2] at this
      simp [World.cell?, this, hj]
  obtain ⟨A, rfl, h100, hcell⟩ := hP
  have HC := Lib.hid hcell
  have HA := Lib.hid hall
  have HR := Lib.hid hr
  have HK := Lib.hid hk
  have HL := Lib.hid hlen
  clear hfn hp hcell hall hr hk hlen
  go_enter Tryz.func32, Tryz.ntmps32
  go_wp2_with fail
  go_loopg [10] vs.length (fun z jv wr => ∃ (j : Nat) (O1 : Nat → Prop) (s1 : St), jv = .int .i64 (j : Int) ∧ j ≤ vs.length ∧ vs.length - j ≤ z ∧ Real wr b n O1 T0 s1 ∧ Fr O w wr ∧ Ext O O1 w ∧ WpSeq (wps.drop j) s1 K E)
  case atStart => exact ⟨0, O, s, rfl, Nat.zero_le _, Nat.le_refl _, HR.out, Fr.refl _ _, Ext.refl _ _, HK.out⟩
  case round =>
    obtain ⟨j, O1, s1, rfl, hj, hz, hr1, hf1, he1, hk1⟩ := hrel
    have HR1 := Lib.hid hr1
    have HF1 := Lib.hid hf1
    have HE1 := Lib.hid he1
    have HK1 := Lib.hid hk1
    clear hr1 hf1 he1 hk1
    by_cases hlt : j < vs.length
    · obtain ⟨f, first, cap, hv, ent, hcall⟩ := RdParts.at_ HA.out hlt HF1.out HE1.out HR1.out HK1.out
      obtain ⟨g, rfl, hc⟩ := HC.out wr O1 HF1.out HE1.out j _ hv
      rw [show first ++ #[Value.pointer (some ⟨n, 0, none⟩)] = first.push (.pointer (some ⟨n, 0, none⟩)) from by simp] at hcall
      have HCall := Lib.hid hcall
      clear hcall hv
      unfold Enters at ent
      go_wp2_with fail
      refine HCall.out.mono ?_; rintro e w2 ⟨f2, hs⟩
      have F2 := Lib.hid (HF1.out.trans f2 HE1.out)
      rcases hs with ⟨s2, O2, rfl, r2, x2, k2⟩ | ⟨l, v, rfl, m2, e2⟩
      · have R2 := Lib.hid r2
        have X2 := Lib.hid (HE1.out.trans x2 HF1.out.size)
        have K2 := Lib.hid k2
        clear f2 r2 x2 k2
        go_wp2_with fail
        go_roundg (vs.length - (j + 1))
        case measure => omega
        case rel => exact ⟨j + 1, O2, s2, by go_num, by omega, Nat.le_refl _, R2.out, F2.out, X2.out, K2.out⟩
      · obtain ⟨g', rfl, hg1, hg2⟩ := m2
        have M2 := Lib.hid hg2
        have HG := Lib.hid (Nat.le_trans HF1.out.size hg1)
        have E2 := Lib.hid e2
        clear f2 hg1 hg2 e2
        go_wp2_with fail
        go_ret
        exact ⟨F2.out, .inr ⟨l, _, rfl, ⟨g', rfl, HG.out, M2.out⟩, E2.out⟩⟩
    · obtain rfl : j = vs.length := by omega
      go_wp2_with fail
      go_ret
      have hk := HK1.out
      rw [List.drop_of_length_le (by rw [HL.out]; exact Nat.le_refl _)] at hk
      exact ⟨HF1.out, .inl ⟨s1, O1, rfl, HR1.out, HE1.out, hk⟩⟩
end Go.Proofs.YtfpeecjafccfjaaGreatDoor
namespace Go.Proofs.YtfpeecjafccfjaaGreatDoor
open Go.RowKit
def Box (W : World) (O : Nat → Prop) (g : Nat) (a : Array Value) (ty : TypeId) : Prop := W.heap[g]? = some (.cells a ty (0, 0)) ∧ ¬ O g
theorem Box.later {W W' : World} {O O' : Nat → Prop} {g : Nat} {a : Array Value} {ty : TypeId} (h : Box W O g a ty) (hf : Fr O W W') (he : Ext O O' W) : Box W' O' g a ty := by
  have hlt : g < W.heap.size := (Array.getElem?_eq_some_iff.1 h.1).1
  refine ⟨(hf.block g hlt h.2).trans h.1, fun h5 => ?_⟩
  rcases he g h5 with h6 | h6
  · exact h.2 h6
  · omega
theorem Box.cell {W : World} {O : Nat → Prop} {g : Nat} {a : Array Value} {ty : TypeId} (h : Box W O g a ty) (j : Nat) : W.cell? ⟨g, j, none⟩ = a[j]? := by simp [World.cell?, h.1]
theorem Box.new (w : World) (O : Nat → Prop) (hO : ∀ k, O k → k < w.heap.size) (a : Array Value) (ty : TypeId) : Box (w.alloc (.cells a ty)) O w.heap.size a ty :=
  ⟨World.alloc_heap_new w _, fun h => by have := hO _ h; omega⟩
theorem real_yes {W : World} {b n : Nat} {O : Nat → Prop} {T0 : List Nd} {s : St} (h : Real W b n O T0 s) {t : TkP} {ts : List TkP} (hs : s.ts = t :: ts) (x : List UInt8) (X : ByteArray) (hX : X = bts x) (hx : x ≠ []) (hw : isW x t = true) :
    Calls Tryz.prog 34 #[.pointer (some ⟨b, 0, none⟩), .string X] W fun e w' => e = .returned (.bool true) ∧ Real w' b n O T0 { s with ts := ts } ∧ Fr O W w' := by
  obtain ⟨Op, On, T, ks, hO, hd, hp, hn, hl, hc⟩ := h.ex
  rw [hs] at hp
  refine (take_yes_p b Op t ts T x X hX W hp hx hw).mono ?_
  rintro e w ⟨rfl, hp', hf⟩
  exact ⟨rfl, ⟨Op, On, T, ks, hO, hd, hp', hn.kept hf fun k hk e => hd b hp.at_ (e ▸ hk), hl, hc⟩, hf.mono fun k hk => (hO k).2 (.inl (hk ▸ hp.at_))⟩
theorem real_no {W : World} {b n : Nat} {O : Nat → Prop} {T0 : List Nd} {s : St} (h : Real W b n O T0 s) {t : TkP} {ts : List TkP} (hs : s.ts = t :: ts) (x : List UInt8) (X : ByteArray) (hX : X = bts x) (hx : x ≠ []) (hw : isW x t = false) :
    Calls Tryz.prog 34 #[.pointer (some ⟨b, 0, none⟩), .string X] W fun e w' => e = .returned (.bool false) ∧ Real w' b n O T0 s ∧ Fr O W w' := by
  obtain ⟨Op, On, T, ks, hO, hd, hp, hn, hl, hc⟩ := h.ex
  have hp0 := hp
  rw [hs] at hp
  refine (take_no_p b Op t ts T x X hX W hp hx hw).mono ?_
  rintro e w ⟨rfl, hp', hf⟩
  rw [← hs] at hp'
  exact ⟨rfl, ⟨Op, On, T, ks, hO, hd, hp', hn.kept hf fun k hk e => hd b hp.at_ (e ▸ hk), hl, hc⟩, hf.mono fun k hk => (hO k).2 (.inl (hk ▸ hp.at_))⟩
theorem real_wrong {W : World} {b n : Nat} {O : Nat → Prop} {T0 : List Nd} {s : St} (h : Real W b n O T0 s) {t : TkP} {ts : List TkP} (hs : s.ts = t :: ts) :
    Calls Tryz.prog 42 #[.pointer (some ⟨b, 0, none⟩)] W (MisPost W t.2.1) := by
  obtain ⟨Op, On, T, ks, hO, hd, hp, hn, hl, hc⟩ := h.ex
  rw [hs] at hp
  exact wrong_p b Op t ts T W hp
def wpWords : List (List UInt8) → Wp1
  | [], s, K, _ => K s
  | x :: r, s, K, E => ∃ t ts, s.ts = t :: ts ∧ (isW x t = true → wpWords r { s with ts := ts } K E) ∧ (isW x t = false → E t.2.1)
set_option maxHeartbeats 2000000 in
theorem words1_p (b n g g1 g2 : Nat) (O : Nat → Prop) (T0 : List Nd) (s : St) (K : St → Prop) (E : Int → Prop) (ws : List (List UInt8)) (w : World) (hr : Real w b n O T0 s) (hw : ∀ x ∈ ws, x ≠ []) (hl : ws.length ≤ 100)
    (b0 : Box w O g (ws.map fun x => Value.string (bts x)).toArray 9) (b1 : Box w O g1 #[.slice (some ⟨g, 0, none⟩) ws.length ws.length] 32) (b2 : Box w O g2 #[.pointer (some ⟨b, 0, none⟩)] 84) (hk : wpWords ws s K E) :
    Calls Tryz.prog 120 #[.pointer (some ⟨n, 0, none⟩), .pointer (some ⟨g1, 0, none⟩), .pointer (some ⟨g2, 0, none⟩)] w (PartPost b n O T0 K E w) := by
  have B0 := Lib.hid b0
  have c1 := b1.cell 0
  have B2 := Lib.hid b2
  have HR := Lib.hid hr
  have HK := Lib.hid hk
  have HW := Lib.hid hw
  clear b0 b1 b2 hr hk hw
  go_enter Tryz.func120, Tryz.ntmps120
  go_wp2_with fail
  clear c1
  go_loopg [9] ws.length (fun z jv wr => ∃ (j : Nat) (s1 : St), jv = .int .i64 (j : Int) ∧ j ≤ ws.length ∧ ws.length - j ≤ z ∧ Real wr b n O T0 s1 ∧ Fr O w wr ∧ wpWords (ws.drop j) s1 K E)
  case atStart => exact ⟨0, s, rfl, Nat.zero_le _, Nat.le_refl _, HR.out, Fr.refl _ _, HK.out⟩
  case round =>
    obtain ⟨j, s1, rfl, hj, hz, hr1, hf1, hk1⟩ := hrel
    have HR1 := Lib.hid hr1
    have HF1 := Lib.hid hf1
    have c2 := (B2.out.later hf1 (Ext.refl _ _)).cell 0
    have c0 := (B0.out.later hf1 (Ext.refl _ _)).cell j
    by_cases hlt : j < ws.length
    · have hd : ws.drop j = ws[j] :: ws.drop (j + 1) := List.drop_eq_getElem_cons hlt
      rw [hd] at hk1
      obtain ⟨t, ts, hs, hy, hn⟩ := hk1
      obtain ⟨X, hX⟩ : ∃ X, X = bts ws[j] := ⟨_, rfl⟩
      have c0' : wr.cell? ⟨g, j, none⟩ = some (.string X) := by rw [c0, hX]; simp [hlt]
      have hne : ws[j] ≠ [] := HW.out _ (List.getElem_mem hlt)
      clear c0 hr1 hf1 hd
      cases hq : isW ws[j] t with
      | true =>
        have HC := Lib.hid (real_yes HR1.out hs ws[j] X hX hne hq)
        have HK1 := Lib.hid (hy hq)
        clear hy hn hX hne hs hq
        go_wp2_with fail
        refine HC.out.mono ?_; rintro e w2 ⟨rfl, r2, f2⟩
        have R2 := Lib.hid r2
        have F2 := Lib.hid (HF1.out.trans f2 (Ext.refl _ _))
        clear r2 f2 c2 c0'
        go_wp2_with fail
        go_roundg (ws.length - (j + 1))
        case measure => omega
        case rel => exact ⟨j + 1, _, by go_num, by omega, Nat.le_refl _, R2.out, F2.out, HK1.out⟩
      | false =>
        have HC := Lib.hid (real_no HR1.out hs ws[j] X hX hne hq)
        have HE := Lib.hid (hn hq)
        have HS := Lib.hid hs
        clear hy hn hX hne hs hq
        go_wp2_with fail
        refine HC.out.mono ?_; rintro e w2 ⟨rfl, r2, f2⟩
        have R2 := Lib.hid r2
        have F2 := Lib.hid (HF1.out.trans f2 (Ext.refl _ _))
        clear c2 c0'
        have c2' := (B2.out.later F2.out (Ext.refl _ _)).cell 0
        have HX := Lib.hid (real_wrong r2 HS.out)
        clear r2 f2
        go_wp2_with fail
        refine HX.out.mono ?_; rintro e w3 ⟨v, rfl, m, b3⟩
        have M := Lib.hid m
        have F3 := Lib.hid (F2.out.trans (Fr.of_below (O := O) b3) (Ext.refl _ _))
        clear m b3 c2'
        go_wp2_with fail
        go_ret
        obtain ⟨g', e1, e2, e3⟩ := M.out
        exact ⟨F3.out, .inr ⟨_, _, rfl, ⟨g', e1, Nat.le_trans F2.out.size e2, e3⟩, HE.out⟩⟩
    · obtain rfl : j = ws.length := by omega
      have HK1 := Lib.hid hk1
      clear hr1 hf1 hk1 c0 c2
      go_wp2_with fail
      go_ret
      have hk := HK1.out
      rw [List.drop_of_length_le (Nat.le_refl _)] at hk
      exact ⟨HF1.out, .inl ⟨s1, O, rfl, HR1.out, Ext.refl _ _, hk⟩⟩
theorem words_part {W : World} {b g g1 g2 : Nat} {O : Nat → Prop} {ws : List (List UInt8)} (hw : ∀ x ∈ ws, x ≠ []) (hl : ws.length ≤ 100)
    (b0 : Box W O g (ws.map fun x => Value.string (bts x)).toArray 9) (b1 : Box W O g1 #[.slice (some ⟨g, 0, none⟩) ws.length ws.length] 32) (b2 : Box W O g2 #[.pointer (some ⟨b, 0, none⟩)] 84) :
    RdPart W b O (.func (.func 120) #[] #[.pointer (some ⟨g1, 0, none⟩), .pointer (some ⟨g2, 0, none⟩)]) (wpWords ws) := by
  intro W1 O1 T0 s n K E hf he hr hk
  exact ⟨120, _, _, rfl, enters_of Tryz.func120 (by kernel_rfl) rfl, words1_p b n g g1 g2 O1 T0 s K E ws W1 hr hw hl (b0.later hf he) (b1.later hf he) (b2.later hf he) hk⟩
def IsFn (v : Value) : Prop := ∃ f first cap, v = .func (.func f) first cap
def MakesPart (b : Nat) (O : Nat → Prop) (wp : Wp1) (w : World) (e : Ending) (w' : World) : Prop := ∃ v, e = .returned v ∧ Below w.heap.size w w' ∧ RdPart w' b O v wp ∧ IsFn v
set_option maxHeartbeats 1000000 in
theorem words_p (b g : Nat) (O : Nat → Prop) (ws : List (List UInt8)) (w : World) (hw : ∀ x ∈ ws, x ≠ []) (hl : ws.length ≤ 100) (b0 : Box w O g (ws.map fun x => Value.string (bts x)).toArray 9) (hO : ∀ k, O k → k < w.heap.size) (m : Nat) (hm : m = ws.length) :
    Calls Tryz.prog 85 #[.pointer (some ⟨b, 0, none⟩), .slice (some ⟨g, 0, none⟩) m m] w (MakesPart b O (wpWords ws) w) := by
  have B0 := Lib.hid b0
  have HO := Lib.hid hO
  have HW := Lib.hid hw
  have HM := Lib.hid hm
  clear b0 hO hw hm
  go_enter Tryz.func85, Tryz.ntmps85
  go_wp2
  go_ret
  have hm := HM.out
  subst hm
  have h2 := Box.new w O HO.out #[.pointer (some ⟨b, 0, none⟩)] 84
  have h1 := Box.new (w.alloc (.cells #[.pointer (some ⟨b, 0, none⟩)] 84)) O (fun k hk => by have := HO.out k hk; simp; omega) #[.slice (some ⟨g, 0, none⟩) ws.length ws.length] 32
  have f1 : Fr O w (w.alloc (.cells #[.pointer (some ⟨b, 0, none⟩)] 84)) := (Fr.refl _ _).alloc _
  have f2 : Fr O (w.alloc (.cells #[.pointer (some ⟨b, 0, none⟩)] 84)) ((w.alloc (.cells #[.pointer (some ⟨b, 0, none⟩)] 84)).alloc (.cells #[.slice (some ⟨g, 0, none⟩) ws.length ws.length] 32)) := (Fr.refl _ _).alloc _
  rw [asize] at h1
  exact ⟨_, rfl, ((Below.refl _ _).alloc (Nat.le_refl _) _).alloc (by simp) _, words_part HW.out hl ((B0.out.later f1 (Ext.refl _ _)).later f2 (Ext.refl _ _)) h1 (h2.later f2 (Ext.refl _ _)), _, _, _, rfl⟩
theorem RdParts.form {W : World} {b : Nat} {O : Nat → Prop} {v : Value} {wps : List Wp1} (h : RdParts W b O v wps) : ∃ A m, v = .slice A m m := by
  obtain ⟨vs, ⟨rfl, _⟩ | ⟨g, rfl, _⟩, _⟩ := h.ex
  · exact ⟨none, 0, rfl⟩
  · exact ⟨_, _, rfl⟩
def wpPerhaps (x : List UInt8) (wps : List Wp1) : Wp1 := fun s K E => ∃ t ts, s.ts = t :: ts ∧ (isW x t = true → WpSeq wps { s with ts := ts } K E) ∧ (isW x t = false → K s)
theorem PartPost.after {b n : Nat} {O : Nat → Prop} {T0 : List Nd} {K : St → Prop} {E : Int → Prop} {w w1 : World} {e : Ending} {w' : World} (h : PartPost b n O T0 K E w1 e w') (hf : Fr O w w1) : PartPost b n O T0 K E w e w' := by
  obtain ⟨h1, h2⟩ := h
  refine ⟨hf.trans h1 (Ext.refl _ _), ?_⟩
  rcases h2 with ⟨s', O', e1, r, x, k⟩ | ⟨l, v, e1, ⟨g, m1, m2, m3⟩, k⟩
  · exact .inl ⟨s', O', e1, r, (Ext.refl O w).trans x hf.size, k⟩
  · exact .inr ⟨l, v, e1, ⟨g, m1, Nat.le_trans hf.size m2, m3⟩, k⟩
theorem PartPost.ret {b n : Nat} {O : Nat → Prop} {T0 : List Nd} {K : St → Prop} {E : Int → Prop} {w : World} {e : Ending} {w' : World} (h : PartPost b n O T0 K E w e w') : ∃ v, e = .returned v := by
  rcases h.2 with ⟨_, _, e1, _⟩ | ⟨_, v, e1, _⟩
  · exact ⟨_, e1⟩
  · exact ⟨v, e1⟩
set_option maxHeartbeats 2000000 in
theorem perhaps1_p (b n g1 g2 g3 : Nat) (O : Nat → Prop) (T0 : List Nd) (s : St) (K : St → Prop) (E : Int → Prop) (x : List UInt8) (pv : Value) (wps : List Wp1) (w : World) (hr : Real w b n O T0 s) (hx : x ≠ [])
    (b1 : Box w O g1 #[.pointer (some ⟨b, 0, none⟩)] 84) (b2 : Box w O g2 #[.string (bts x)] 9) (b3 : Box w O g3 #[pv] 85) (hp : RdParts w b O pv wps) (hk : wpPerhaps x wps s K E) :
    Calls Tryz.prog 81 #[.pointer (some ⟨n, 0, none⟩), .pointer (some ⟨g1, 0, none⟩), .pointer (some ⟨g2, 0, none⟩), .pointer (some ⟨g3, 0, none⟩)] w (PartPost b n O T0 K E w) := by
  have c1 := b1.cell 0
  obtain ⟨X, hX⟩ : ∃ X, X = bts x := ⟨_, rfl⟩
  rw [← hX] at b2
  have c2 := b2.cell 0
  have B3 := Lib.hid b3
  have HR := Lib.hid hr
  have HP := Lib.hid hp
  obtain ⟨t, ts, hs, hy, hn⟩ := hk
  clear b1 b2 b3 hr hp
  cases hq : isW x t with
  | true =>
    have HC := Lib.hid (real_yes HR.out hs x X hX hx hq)
    have HK := Lib.hid (hy hq)
    clear hy hn hs hq hX hx
    go_enter Tryz.func81, Tryz.ntmps81
    go_wp2_with fail
    refine HC.out.mono ?_; rintro e w2 ⟨rfl, r2, f2⟩
    have F2 := Lib.hid f2
    have c3 := (B3.out.later f2 (Ext.refl _ _)).cell 0
    have HF := Lib.hid (fill_p b n O T0 _ K E pv wps w2 r2 (HP.out.later f2 (Ext.refl _ _)) HK.out)
    clear r2 f2 c1 c2
    go_wp2_with fail
    refine HF.out.mono ?_; intro e w3 h3
    obtain ⟨v, rfl⟩ := h3.ret
    have H3 := Lib.hid (h3.after F2.out)
    clear h3 c3
    go_wp2_with fail
    go_ret
    exact H3.out
  | false =>
    have HC := Lib.hid (real_no HR.out hs x X hX hx hq)
    have HK := Lib.hid (hn hq)
    clear hy hn hs hq hX hx
    go_enter Tryz.func81, Tryz.ntmps81
    go_wp2_with fail
    refine HC.out.mono ?_; rintro e w2 ⟨rfl, r2, f2⟩
    have F2 := Lib.hid f2
    have R2 := Lib.hid r2
    clear r2 f2 c1 c2
    go_wp2_with fail
    go_ret
    exact ⟨F2.out, .inl ⟨s, O, rfl, R2.out, Ext.refl _ _, HK.out⟩⟩
set_option maxHeartbeats 1000000 in
theorem perhaps_p (b : Nat) (O : Nat → Prop) (x : List UInt8) (X : ByteArray) (hX : X = bts x) (hx : x ≠ []) (pv : Value) (wps : List Wp1) (w : World) (hp : RdParts w b O pv wps) (hO : ∀ k, O k → k < w.heap.size) :
    Calls Tryz.prog 39 #[.pointer (some ⟨b, 0, none⟩), .string X, pv] w (MakesPart b O (wpPerhaps x wps) w) := by
  subst hX
  obtain ⟨A, m, rfl⟩ := hp.form
  have HP := Lib.hid hp
  have HO := Lib.hid hO
  have HX := Lib.hid hx
  clear hp hO hx
  go_enter Tryz.func39, Tryz.ntmps39
  go_wp2
  go_ret
  refine ⟨_, rfl, (((Below.refl _ _).alloc (Nat.le_refl _) _).alloc (by simp) _).alloc (by simp; omega) _, ?_, _, _, _, rfl⟩
  intro W1 O1 T0 s n K E hf he hr hk
  have f1 : Fr O w (w.alloc (.cells #[.pointer (some ⟨b, 0, none⟩)] 84)) := (Fr.refl _ _).alloc _
  have f2 := (Fr.refl O (w.alloc (.cells #[.pointer (some ⟨b, 0, none⟩)] 84))).alloc (.cells #[.string (bts x)] 9)
  have f3 := (Fr.refl O ((w.alloc (.cells #[.pointer (some ⟨b, 0, none⟩)] 84)).alloc (.cells #[.string (bts x)] 9))).alloc (.cells #[.slice A m m] 85)
  have h1 := Box.new w O HO.out #[.pointer (some ⟨b, 0, none⟩)] 84
  have h2 := Box.new (w.alloc (.cells #[.pointer (some ⟨b, 0, none⟩)] 84)) O (fun k hk => by have := HO.out k hk; simp; omega) #[.string (bts x)] 9
  have h3 := Box.new ((w.alloc (.cells #[.pointer (some ⟨b, 0, none⟩)] 84)).alloc (.cells #[.string (bts x)] 9)) O (fun k hk => by have := HO.out k hk; simp; omega) #[.slice A m m] 85
  rw [asize] at h2 h3
  rw [asize] at h3
  have hp3 := ((HP.out.later f1 (Ext.refl _ _)).later f2 (Ext.refl _ _)).later f3 (Ext.refl _ _)
  exact ⟨81, _, _, rfl, enters_of Tryz.func81 (by kernel_rfl) rfl, perhaps1_p b n _ _ _ O1 T0 s K E x _ wps W1 hr HX.out (((h1.later f2 (Ext.refl _ _)).later f3 (Ext.refl _ _)).later hf he) ((h2.later f3 (Ext.refl _ _)).later hf he) (h3.later hf he) (hp3.later hf he) hk⟩
end Go.Proofs.YtfpeecjafccfjaaGreatDoor
