/- Parts of the proof: Pe, Pf, Pg, Ph, Pi, Pj, Gk. -/
import Derived.Deep.RegionHeld3
import Derived.Deep.AppendLies
import Derived.Laws.AppendOwnNone
import Derived.ArgAppend
import Derived.Test.YtfpeecjafccfjaaGreatDoorK07
namespace Go.Proofs.YtfpeecjafccfjaaGreatDoor
open Go.RowKit
def wpUnless (x : List UInt8) (wp : Wp1) : Wp1 := fun s K E => ∃ t ts, s.ts = t :: ts ∧ (isW x t = true → K s) ∧ (isW x t = false → wp s K E)
theorem drewB_p (w : World) : Below w.heap.size w w.drew := ⟨rfl, rfl, rfl, Nat.le_refl _, fun _ _ => rfl⟩
theorem undrew_p {w w' : World} (h : Below w.drew.heap.size w.drew w') : Below w.heap.size w w' := ⟨h.os, h.tape, h.output, h.size, h.block⟩
theorem real_word {W : World} {b n : Nat} {O : Nat → Prop} {T0 : List Nd} {s : St} (h : Real W b n O T0 s) {t : TkP} {ts : List TkP} (hs : s.ts = t :: ts) (W1 : World) (hb : Below W.heap.size W W1) :
    Calls Tryz.prog 35 #[.pointer (some ⟨b, 0, none⟩)] W1 fun e w' => e = .returned (.string (wordS t)) ∧ Below W1.heap.size W1 w' := by
  obtain ⟨Op, On, T, ks, hO, hd, hp, hn, hl, hc⟩ := h.ex
  rw [hs] at hp
  exact word_p b Op t ts T W1 (hp.below hb)
theorem Real.below {W W' : World} {b n : Nat} {O : Nat → Prop} {T0 : List Nd} {s : St} (h : Real W b n O T0 s) (hb : Below W.heap.size W W') : Real W' b n O T0 s := by
  obtain ⟨Op, On, T, ks, hO, hd, hp, hn, hl, hc⟩ := h.ex
  exact ⟨Op, On, T, ks, hO, hd, hp.below hb, hn.below hb, hl, hc⟩
set_option maxHeartbeats 2000000 in
theorem unless1_p (b n g1 g2 g3 : Nat) (O : Nat → Prop) (T0 : List Nd) (s : St) (K : St → Prop) (E : Int → Prop) (x : List UInt8) (v : Value) (wp : Wp1) (w : World) (hr : Real w b n O T0 s) (hx : x ≠ [])
    (b1 : Box w O g1 #[.pointer (some ⟨b, 0, none⟩)] 84) (b2 : Box w O g2 #[.string (bts x)] 9) (b3 : Box w O g3 #[v] 89) (hp : RdPart w b O v wp) (hk : wpUnless x wp s K E) :
    Calls Tryz.prog 175 #[.pointer (some ⟨n, 0, none⟩), .pointer (some ⟨g1, 0, none⟩), .pointer (some ⟨g2, 0, none⟩), .pointer (some ⟨g3, 0, none⟩)] w (PartPost b n O T0 K E w) := by
  obtain ⟨X, hX⟩ : ∃ X, X = bts x := ⟨_, rfl⟩
  rw [← hX] at b2
  obtain ⟨t, ts, hs, hy, hn⟩ := hk
  have HW := Lib.hid (real_word hr hs)
  have hq : ∀ q, isW x t = q → ((wordS t).toList == X.toList) = q := fun q h => by rw [Lib.toList_data, Lib.toList_data, hX, ← h]; exact isW_iff hx t
  generalize wordS t = Y at *
  have HK : Hid (∀ W, Below w.heap.size w W → W.cell? ⟨g1, 0, none⟩ = some (.pointer (some ⟨b, 0, none⟩)) ∧ W.cell? ⟨g2, 0, none⟩ = some (.string X)) := Lib.hid fun W hW => by
    have f : Fr O w W := Fr.of_below hW
    exact ⟨(b1.later f (Ext.refl _ _)).cell 0, (b2.later f (Ext.refl _ _)).cell 0⟩
  have B3 := Lib.hid b3
  have HR := Lib.hid hr
  have HP := Lib.hid hp
  obtain ⟨c1, c2⟩ := HK.out w (Below.refl _ _)
  have cur := Lib.hid (drewB_p w)
  clear b1 b2 b3 hr hp hX hs
  have k0 := Lib.hid (HK.out w (Below.refl _ _))
  cases hz : isW x t with
  | true =>
    have gq := hq true hz
    have HY := Lib.hid (hy hz)
    clear hy hn hz hq hx
    go_enter Tryz.func175, Tryz.ntmps175
    go_wp2_with fail
    go_region_held3 (fun w' => w'.cell? ⟨g1, 0, none⟩ = some (.pointer (some ⟨b, 0, none⟩)) ∧ w'.cell? ⟨g2, 0, none⟩ = some (.string X))
      (first | exact kk.out | exact k0.out)
      ((go_at_call 35; with_reducible refine (HW.out _ cur.out).mono ?_; rintro e w2 ⟨rfl, b'⟩; have cur := Lib.hid (undrew_p b'); have kk := Lib.hid (HK.out _ cur.out); clear b'))
    all_goals go_wp2
    all_goals go_ret
    all_goals exact ⟨Fr.of_below cur.out, .inl ⟨s, O, rfl, HR.out.below cur.out, Ext.refl _ _, HY.out⟩⟩
  | false =>
    have gq := hq false hz
    have HN := Lib.hid (hn hz)
    clear hy hn hz hq hx
    have HC : Hid (∀ W, Below w.heap.size w W → ∃ f first cap, v = .func (.func f) first cap ∧ Enters Tryz.prog f ∧ Calls Tryz.prog f (first.push (.pointer (some ⟨n, 0, none⟩)) ++ cap) W (PartPost b n O T0 K E W)) := Lib.hid fun W hW => by
      obtain ⟨f, first, cap, h1, h2, h3⟩ := HP.out W O T0 s n K E (Fr.of_below hW) (Ext.refl _ _) (HR.out.below hW) HN.out
      exact ⟨f, first, cap, h1, h2, by simpa using h3⟩
    have HB3 : Hid (∀ W, Below w.heap.size w W → W.cell? ⟨g3, 0, none⟩ = some v) := Lib.hid fun W hW => (B3.out.later (O' := O) (Fr.of_below hW) (Ext.refl _ _)).cell 0
    go_enter Tryz.func175, Tryz.ntmps175
    go_wp2_with fail
    go_region_held3 (fun w' => w'.cell? ⟨g1, 0, none⟩ = some (.pointer (some ⟨b, 0, none⟩)) ∧ w'.cell? ⟨g2, 0, none⟩ = some (.string X))
      (first | exact kk.out | exact k0.out)
      ((go_at_call 35; with_reducible refine (HW.out _ cur.out).mono ?_; rintro e w2 ⟨rfl, b'⟩; have cur := Lib.hid (undrew_p b'); have kk := Lib.hid (HK.out _ cur.out); clear b'))
    all_goals
      have c3 := HB3.out _ cur.out
      obtain ⟨f, first, cap, rfl, ent, hcall⟩ := HC.out _ cur.out
      have HCall := Lib.hid hcall
      clear hcall
      unfold Enters at ent
      go_wp2_with fail
      refine HCall.out.mono ?_; intro e w3 h3
      obtain ⟨v', rfl⟩ := h3.ret
      have H3 := Lib.hid (h3.after (Fr.of_below cur.out))
      clear h3
      go_wp2_with fail
      go_ret
      exact H3.out
set_option maxHeartbeats 1000000 in
theorem unless_p (b : Nat) (O : Nat → Prop) (x : List UInt8) (X : ByteArray) (hX : X = bts x) (hx : x ≠ []) (f : FuncId) (first cap : Array Value) (wp : Wp1) (w : World) (hp : RdPart w b O (.func (.func f) first cap) wp) (hO : ∀ k, O k → k < w.heap.size) :
    Calls Tryz.prog 149 #[.pointer (some ⟨b, 0, none⟩), .string X, .func (.func f) first cap] w (MakesPart b O (wpUnless x wp) w) := by
  subst hX
  have HP := Lib.hid hp
  have HO := Lib.hid hO
  have HX := Lib.hid hx
  clear hp hO hx
  go_enter Tryz.func149, Tryz.ntmps149
  go_wp2
  go_ret
  refine ⟨_, rfl, (((Below.refl _ _).alloc (Nat.le_refl _) _).alloc (by simp) _).alloc (by simp; omega) _, ?_, _, _, _, rfl⟩
  intro W1 O1 T0 s n K E hf he hr hk
  have f1 : Fr O w (w.alloc (.cells #[.pointer (some ⟨b, 0, none⟩)] 84)) := (Fr.refl _ _).alloc _
  have f2 := (Fr.refl O (w.alloc (.cells #[.pointer (some ⟨b, 0, none⟩)] 84))).alloc (.cells #[.string (bts x)] 9)
  have f3 := (Fr.refl O ((w.alloc (.cells #[.pointer (some ⟨b, 0, none⟩)] 84)).alloc (.cells #[.string (bts x)] 9))).alloc (.cells #[.func (.func f) first cap] 89)
  have h1 := Box.new w O HO.out #[.pointer (some ⟨b, 0, none⟩)] 84
  have h2 := Box.new (w.alloc (.cells #[.pointer (some ⟨b, 0, none⟩)] 84)) O (fun k hk => by have := HO.out k hk; simp; omega) #[.string (bts x)] 9
  have h3 := Box.new ((w.alloc (.cells #[.pointer (some ⟨b, 0, none⟩)] 84)).alloc (.cells #[.string (bts x)] 9)) O (fun k hk => by have := HO.out k hk; simp; omega) #[.func (.func f) first cap] 89
  rw [asize] at h2 h3
  rw [asize] at h3
  have hp3 := ((HP.out.later f1 (Ext.refl _ _)).later f2 (Ext.refl _ _)).later f3 (Ext.refl _ _)
  exact ⟨175, _, _, rfl, enters_of Tryz.func175 (by kernel_rfl) rfl, unless1_p b n _ _ _ O1 T0 s K E x _ wp W1 hr HX.out (((h1.later f2 (Ext.refl _ _)).later f3 (Ext.refl _ _)).later hf he) ((h2.later f3 (Ext.refl _ _)).later hf he) (h3.later hf he) (hp3.later hf he) hk⟩
def wpWhile (x : List UInt8) (wps : List Wp1) : Nat → Wp1
  | 0, _, _, _ => False
  | k + 1, s, K, E => ∃ t ts, s.ts = t :: ts ∧ (isW x t = true → WpSeq wps { s with ts := ts } (fun s' => wpWhile x wps k s' K E) E) ∧ (isW x t = false → K s)
def wpWhen (x : List UInt8) (wps : List Wp1) : Wp1 := fun s K E => ∃ k, wpWhile x wps k s K E
set_option maxHeartbeats 2000000 in
theorem whenever1_p (b n g1 g2 g3 : Nat) (O : Nat → Prop) (T0 : List Nd) (s : St) (K : St → Prop) (E : Int → Prop) (x : List UInt8) (pv : Value) (wps : List Wp1) (w : World) (hr : Real w b n O T0 s) (hx : x ≠ [])
    (b1 : Box w O g1 #[.pointer (some ⟨b, 0, none⟩)] 84) (b2 : Box w O g2 #[.string (bts x)] 9) (b3 : Box w O g3 #[pv] 85) (hp : RdParts w b O pv wps) (hk : wpWhen x wps s K E) :
    Calls Tryz.prog 121 #[.pointer (some ⟨n, 0, none⟩), .pointer (some ⟨g1, 0, none⟩), .pointer (some ⟨g2, 0, none⟩), .pointer (some ⟨g3, 0, none⟩)] w (PartPost b n O T0 K E w) := by
  obtain ⟨X, hX⟩ : ∃ X, X = bts x := ⟨_, rfl⟩
  rw [← hX] at b2
  have B1 := Lib.hid b1
  have B2 := Lib.hid b2
  have B3 := Lib.hid b3
  have HR := Lib.hid hr
  have HP := Lib.hid hp
  have HX := Lib.hid hX
  have HN := Lib.hid hx
  obtain ⟨m, hm⟩ := hk
  have HM := Lib.hid hm
  clear b1 b2 b3 hr hp hX hx hm
  go_enter Tryz.func121, Tryz.ntmps121
  go_wp2_with fail
  go_loopg [] m (fun z wr => ∃ (O1 : Nat → Prop) (s1 : St), Real wr b n O1 T0 s1 ∧ Fr O w wr ∧ Ext O O1 w ∧ wpWhile x wps z s1 K E)
  case atStart => exact ⟨O, s, HR.out, Fr.refl _ _, Ext.refl _ _, HM.out⟩
  case round =>
    obtain ⟨O1, s1, hr1, hf1, he1, hk1⟩ := hrel
    have HR1 := Lib.hid hr1
    have HF1 := Lib.hid hf1
    have HE1 := Lib.hid he1
    have c1 := (B1.out.later hf1 he1).cell 0
    have c2 := (B2.out.later hf1 he1).cell 0
    cases gk with
    | zero => exact hk1.elim
    | succ z =>
      obtain ⟨t, ts, hs, hy, hn⟩ := hk1
      clear hr1 hf1 he1
      cases hq : isW x t with
      | true =>
        have HC := Lib.hid (real_yes HR1.out hs x X HX.out HN.out hq)
        have HK := Lib.hid (hy hq)
        clear hy hn hs hq
        go_wp2_with fail
        refine HC.out.mono ?_; rintro e w2 ⟨rfl, r2, f2⟩
        have f2' := HF1.out.trans f2 HE1.out
        have F2 := Lib.hid f2'
        have c3 := (B3.out.later f2' HE1.out).cell 0
        have HF := Lib.hid (fill_p b n O1 T0 _ (fun s' => wpWhile x wps z s' K E) E pv wps w2 r2 (HP.out.later f2' HE1.out) HK.out)
        clear r2 f2 f2' c1 c2
        go_wp2_with fail
        refine HF.out.mono ?_; rintro e w3 ⟨f3, h3⟩
        have F3 := Lib.hid (F2.out.trans f3 HE1.out)
        rcases h3 with ⟨s3, O3, rfl, r3, x3, k3⟩ | ⟨l, v, rfl, m3, k3⟩
        · have R3 := Lib.hid r3
          have X3 := Lib.hid (HE1.out.trans x3 F2.out.size)
          have K3 := Lib.hid k3
          clear f3 r3 x3 k3 c3
          go_wp2_with fail
          go_roundg z
          case measure => omega
          case rel => exact ⟨O3, s3, R3.out, F3.out, X3.out, K3.out⟩
        · obtain ⟨g', rfl, hg1, hg2⟩ := m3
          have M3 := Lib.hid hg2
          have HG := Lib.hid (Nat.le_trans F2.out.size hg1)
          have K3 := Lib.hid k3
          clear f3 hg1 hg2 k3 c3
          go_wp2_with fail
          go_ret
          exact ⟨F3.out, .inr ⟨l, _, rfl, ⟨g', rfl, HG.out, M3.out⟩, K3.out⟩⟩
      | false =>
        have HC := Lib.hid (real_no HR1.out hs x X HX.out HN.out hq)
        have HK := Lib.hid (hn hq)
        clear hy hn hs hq
        go_wp2_with fail
        refine HC.out.mono ?_; rintro e w2 ⟨rfl, r2, f2⟩
        have F2 := Lib.hid (HF1.out.trans f2 HE1.out)
        have R2 := Lib.hid r2
        clear r2 f2 c1 c2
        go_wp2_with fail
        go_ret
        exact ⟨F2.out, .inl ⟨s1, O1, rfl, R2.out, HE1.out, HK.out⟩⟩
set_option maxHeartbeats 1000000 in
theorem whenever_p (b : Nat) (O : Nat → Prop) (x : List UInt8) (X : ByteArray) (hX : X = bts x) (hx : x ≠ []) (pv : Value) (wps : List Wp1) (w : World) (hp : RdParts w b O pv wps) (hO : ∀ k, O k → k < w.heap.size) :
    Calls Tryz.prog 88 #[.pointer (some ⟨b, 0, none⟩), .string X, pv] w (MakesPart b O (wpWhen x wps) w) := by
  subst hX
  obtain ⟨A, m, rfl⟩ := hp.form
  have HP := Lib.hid hp
  have HO := Lib.hid hO
  have HX := Lib.hid hx
  clear hp hO hx
  go_enter Tryz.func88, Tryz.ntmps88
  go_wp2
  go_ret
  refine ⟨_, rfl, (((Below.refl _ _).alloc (Nat.le_refl _) _).alloc (by simp) _).alloc (by simp; omega) _, ?_, _, _, _, rfl⟩
  intro W1 O1 T0 s n K E hf he hr hk
  have f1 : Fr O w (w.alloc (.cells #[.pointer (some ⟨b, 0, none⟩)] 84)) := (Fr.refl _ _).alloc _
  have f2 := (Fr.refl O (w.alloc (.cells #[.pointer (some ⟨b, 0, none⟩)] 84))).alloc (.cells #[.string (bts x)] 9)
  have f3 := (Fr.refl O ((w.alloc (.cells #[.pointer (some ⟨b, 0, none⟩)] 84)).alloc (.cells #[.string (bts x)] 9))).alloc (.cells #[.slice A m m] 85)
  have h1 := Box.new w O HO.out #[.pointer (some ⟨b, 0, none⟩)] 84
  have h2 := Box.new (w.alloc (.cells #[.pointer (some ⟨b, 0, none⟩)] 84)) O (fun k hk => by have := HO.out k hk; simp; omega) #[.string (bts x)] 9
  have h3 := Box.new ((w.alloc (.cells #[.pointer (some ⟨b, 0, none⟩)] 84)).alloc (.cells #[.string (bts x)] 9)) O (fun k hk => by have := HO.out k hk; simp; omega) #[.slice A m m] 85
  rw [asize] at h2 h3
  rw [asize] at h3
  have hp3 := ((HP.out.later f1 (Ext.refl _ _)).later f2 (Ext.refl _ _)).later f3 (Ext.refl _ _)
  exact ⟨121, _, _, rfl, enters_of Tryz.func121 (by kernel_rfl) rfl, whenever1_p b n _ _ _ O1 T0 s K E x _ wps W1 hr HX.out (((h1.later f2 (Ext.refl _ _)).later f3 (Ext.refl _ _)).later hf he) ((h2.later f3 (Ext.refl _ _)).later hf he) (h3.later hf he) (hp3.later hf he) hk⟩
end Go.Proofs.YtfpeecjafccfjaaGreatDoor
namespace Go.Proofs.YtfpeecjafccfjaaGreatDoor
open Go.RowKit
theorem Reps.app {T : List Nd} : ∀ {xs ys : List Ast} {ks ls : List Int} {js is : List Nat}, Reps T xs ks js → Reps T ys ls is → Reps T (xs ++ ys) (ks ++ ls) (js ++ is)
  | [], ys, ks, ls, js, is, h1, h2 => by
    unfold Reps at h1
    obtain ⟨rfl, rfl⟩ := h1
    exact h2
  | a :: xs, ys, ks, ls, js, is, h1, h2 => by
    unfold Reps at h1
    obtain ⟨k, ks', j1, j2, rfl, e1, e2, rfl⟩ := h1
    show Reps T (a :: (xs ++ ys)) (k :: (ks' ++ ls)) (j1 ++ j2 ++ is)
    unfold Reps
    exact ⟨k, ks' ++ ls, j1, j2 ++ is, rfl, e1, Reps.app e2 h2, by rw [List.append_assoc]⟩
theorem range_split (a b c : Nat) (h1 : a ≤ b) (h2 : b ≤ c) : List.range' a (c - a) = List.range' a (b - a) ++ List.range' b (c - b) := by
  rw [show c - a = (b - a) + (c - b) by omega, ← List.range'_append_1, show a + (b - a) = b by omega]
theorem Lies.nil (T : List Nd) : Lies T T [] [] := ⟨List.prefix_refl _, [], by unfold Reps; exact ⟨rfl, rfl⟩, by simp⟩
theorem prefix_get {T T' : List Nd} (h : T <+: T') : ∀ (i : Nat) x, T[i]? = some x → T'[i]? = some x := by
  obtain ⟨r, rfl⟩ := h
  intro i x hi
  rw [List.getElem?_append_left (List.getElem?_eq_some_iff.1 hi).1]
  exact hi
theorem Lies.app {T0 T T' : List Nd} {xs ys : List Ast} {ks ls : List Int} (h : Lies T0 T xs ks) (k : Lies T T' ys ls) : Lies T0 T' (xs ++ ys) (ks ++ ls) := by
  obtain ⟨p1, js, r1, q1⟩ := h
  obtain ⟨p2, is, r2, q2⟩ := k
  refine ⟨p1.trans p2, js ++ is, (Reps.more (prefix_get p2) xs ks js r1).app r2, ?_⟩
  rw [range_split T0.length T.length T'.length p1.length_le p2.length_le]
  exact q1.append q2
theorem Lies.len {T0 T : List Nd} {xs : List Ast} {ks : List Int} (h : Lies T0 T xs ks) : T.length = T0.length + Ast.sizeL xs := by
  obtain ⟨p1, js, r1, q1⟩ := h
  have h1 := Reps.len xs ks js r1
  have h2 := q1.length_eq
  rw [List.length_range'] at h2
  have := p1.length_le
  omega
theorem Lies.num {T0 T : List Nd} {xs : List Ast} {ks : List Int} (h : Lies T0 T xs ks) : ks.length = xs.length := by
  obtain ⟨_, js, r1, _⟩ := h
  exact r1.count
def RK (K : Ast → List TkP → Prop) (E : Int → Prop) : Except Int (Ast × List TkP) → Prop
  | .ok (a, ts) => K a ts
  | .error l => E l
abbrev WpA := List TkP → Nat → (Ast → List TkP → Prop) → (Int → Prop) → Prop
def One (W : World) (b : Nat) (O : Nat → Prop) (v : Value) (wp : WpA) : Prop :=
  ∀ W1 O1 T ts K E, Fr O W W1 → Ext O O1 W → PS W1 b O1 ts T → wp ts T.length K E → CallV v #[] W1 (PlacePost b O1 T (RK K E) W1)
theorem One.later {W W' : World} {b : Nat} {O O' : Nat → Prop} {v : Value} {wp : WpA} (h : One W b O v wp) (hf : Fr O W W') (he : Ext O O' W) : One W' b O' v wp :=
  fun W1 O1 T ts K E h1 h2 h3 h4 => h W1 O1 T ts K E (hf.trans h1 he) (he.trans h2 hf.size) h3 h4
def More (W : World) (b : Nat) (O : Nat → Prop) (v : Value) (mf : List TkP → Bool × List TkP) : Prop :=
  ∀ W1 O1 T ts, Fr O W W1 → Ext O O1 W → PS W1 b O1 ts T → CallV v #[] W1 (TakePost b O1 (mf ts).2 T (mf ts).1 W1)
theorem More.later {W W' : World} {b : Nat} {O O' : Nat → Prop} {v : Value} {mf : List TkP → Bool × List TkP} (h : More W b O v mf) (hf : Fr O W W') (he : Ext O O' W) : More W' b O' v mf :=
  fun W1 O1 T ts h1 h2 h3 => h W1 O1 T ts (hf.trans h1 he) (he.trans h2 hf.size) h3
def wpRow (wp : WpA) (mf : List TkP → Bool × List TkP) : Nat → List TkP → Nat → List Ast → (List Ast → List TkP → Prop) → (Int → Prop) → Prop
  | 0, _, _, _, _, _ => False
  | k + 1, ts, n, acc, K, E => wp ts n (fun a ts1 => ((mf ts1).1 = true → wpRow wp mf k (mf ts1).2 (n + a.size) (acc ++ [a]) K E) ∧ ((mf ts1).1 = false → K (acc ++ [a]) (mf ts1).2)) E
abbrev IRow (W : World) (b : Nat) (v : Value) (ks : List Int) : Prop := W.ownsRow (b + 1) 3 1 v ks.length (ks.map (Value.int .i64))
def RowPost (b : Nat) (O : Nat → Prop) (T0 : List Nd) (K : List Ast → List TkP → Prop) (E : Int → Prop) (w : World) (e : Ending) (w' : World) : Prop :=
  Fr O w w' ∧ ((∃ v xs ks ts O' T, e = .returned (.tuple #[v, .nilIface]) ∧ PS w' b O' ts T ∧ Ext O O' w ∧ Lies T0 T xs ks ∧ IRow w' b v ks ∧ (∀ g, v.ownBlock = some g → ¬ O' g ∧ w.heap.size ≤ g) ∧ ks ≠ [] ∧ ks.length ≤ 100000 ∧ K xs ts) ∨
    (∃ l er, e = .returned (.tuple #[.slice none 0 0, er]) ∧ Mis w.heap.size w' er l ∧ E l))
theorem info3p : (Tryz.prog.info? 3).map (fun i => (i.zero, i.size, i.bytes)) = some (some (.int .i64 0), 1, 8) := by kernel_rfl
theorem Fr.of_grown {w w' : World} {v : Value} {B e s n : Nat} {xs : List Value} (h : w.grownBy w' v.ownBlock) (hown : w.ownsRow B e s v n xs) (he : e ≠ 9) : Fr (fun k => v.ownBlock = some k) w w' :=
  ⟨h.os, h.tape, h.output, h.size, fun k hk hO => h.block k hk (fun e => hO e.symm), fun k hk => h.block k hk.lt (fun e1 => by
    obtain ⟨c1, f1, h1⟩ := hk
    obtain ⟨c2, h2⟩ := row_type hown e1.symm
    rw [h1] at h2
    injection h2 with h2
    injection h2 with _ h2
    exact he h2.symm)⟩
theorem at_kid {ops : Array Oper} {rest : List Oper} {o : Oper} {a : Act} {Q : Exit → Act → World → Prop} (w : World) (p : Int) (hgd : o.guard = none) (sl y : Operand)
    (ho : o.op = .call { callee := .builtin .append, args := #[sl, y], argTypes := #[33, 33] }) (b : Nat) (v : Value) (ks : List Int) (hs : a.eval sl = v) (hown : IRow w b v ks) (hy : a.eval y = .slice (some ⟨w.heap.size, 0, none⟩) 1 1)
    (hlen : ks.length ≤ 1000000) (hB : b + 1 ≤ w.heap.size)
    (h : ∀ v' w', IRow w' b v' (ks ++ [p]) → Fr (fun k => v.ownBlock = some k) w w' → (∀ g, v'.ownBlock = some g → v.ownBlock = some g ∨ w.heap.size ≤ g) → wpList Tryz.prog ops Q rest (a.put o.dst v') w') : wpList Tryz.prog ops Q (o :: rest) a (w.alloc (.cells #[.int .i64 p] 3)) := by
  obtain ⟨i0, hi0, hz0, hz1, hz2⟩ := info_parts info3p
  have hc := cell_of_row (w.alloc (.cells #[.int .i64 p] 3)) w.heap.size 0 _ 3 (0, 0) (heap_alloc_new w _)
  refine wpList_append_lies (P := Tryz.prog) _ hgd sl y 33 ho (b + 1) 3 i0 (.int .i64 0) 1 8 Tryz.underlying33 hi0 hz0 hz1 hz2 rfl (by omega) v ks.length (ks.map (Value.int .i64)) hs (World.ownsRow.alloc hown _) ⟨w.heap.size, 0, none⟩ 1 1 [.int .i64 p] hy rfl
    (fun j u hj => by
      cases j with
      | zero => obtain rfl := Option.some.inj hj; exact hc
      | succ j => simp at hj) (fun u hu => by obtain rfl := List.mem_singleton.1 hu; rfl) (by omega) (by unfold maxLen; omega) (by omega) (by simp; omega) (w.heap.size + 1) (by simp) ?_
  intro g cap w' h1 h2 h3 _
  refine h _ w' ?_ ?_ ?_
  · unfold IRow
    rw [List.length_append, List.map_append]
    exact h1
  · exact ((Fr.refl (fun k => v.ownBlock = some k) w).alloc _).trans (Fr.of_grown h2 (World.ownsRow.alloc hown _) (by decide)) (Ext.refl _ _)
  · intro g' hg'
    simp [Value.ownBlock] at hg'
    subst hg'
    rcases h3 with h3 | h3
    · exact .inl h3
    · exact .inr (by omega)
set_option maxHeartbeats 4000000 in
theorem row_p (b : Nat) (O : Nat → Prop) (ts : List TkP) (T0 : List Nd) (one more : Value) (wp : WpA) (mf : List TkP → Bool × List TkP) (K : List Ast → List TkP → Prop) (E : Int → Prop) (m : Nat) (hm : m ≤ 100000) (w : World) (hp : PS w b O ts T0) (h1 : One w b O one wp) (h2 : More w b O more mf) (hk : wpRow wp mf m ts T0.length [] K E) :
    Calls Tryz.prog 118 #[one, more] w (RowPost b O T0 K E w) := by
  have HP := Lib.hid hp
  have H1 := Lib.hid h1
  have H2 := Lib.hid h2
  have HK := Lib.hid hk
  have hbw := (hp.own b hp.at_).2
  clear hp h1 h2 hk
  go_enter Tryz.func118, Tryz.ntmps118
  go_wp2_with fail
  go_loopg [6] m (fun z tv wr => ∃ (O1 : Nat → Prop) (T : List Nd) (xs : List Ast) (ks : List Int) (tr : List TkP), PS wr b O1 tr T ∧ Fr O w wr ∧ Ext O O1 w ∧ Lies T0 T xs ks ∧ IRow wr b tv ks ∧ (∀ g, tv.ownBlock = some g → ¬ O1 g ∧ w.heap.size ≤ g) ∧ ks.length + z ≤ m ∧ wpRow wp mf z tr T.length xs K E)
  case atStart => exact ⟨O, T0, [], [], ts, HP.out, Fr.refl _ _, Ext.refl _ _, Lies.nil T0, World.ownsRow_nil _ _ _ _, fun g hg => by simp [Value.ownBlock] at hg, by simp, HK.out⟩
  case round =>
    obtain ⟨O1, T, xs, ks, tr, hp1, hf1, he1, hl1, hr1, hn1, hz, hk1⟩ := hrel
    have HP1 := Lib.hid hp1
    have HF1 := Lib.hid hf1
    have HE1 := Lib.hid he1
    have HL1 := Lib.hid hl1
    have HR1 := Lib.hid hr1
    have HN1 := Lib.hid hn1
    cases gk with
    | zero => exact hk1.elim
    | succ z =>
      obtain ⟨f, first, cap, rfl, ent, hcall⟩ := H1.out wr O1 T tr _ E hf1 he1 hp1 hk1
      rw [show first ++ (#[] : Array Value) = first by simp] at hcall
      have HCall := Lib.hid hcall
      obtain ⟨f2, first2, cap2, rfl, ent2, _⟩ := H2.out wr O1 T tr hf1 he1 hp1
      clear hp1 hf1 he1 hl1 hr1 hn1 hk1 hcall
      unfold Enters at ent ent2
      go_wp2_with fail
      refine HCall.out.mono ?_; rintro e w2 ⟨fr2, h2⟩
      have F2 := Lib.hid (HF1.out.trans fr2 HE1.out)
      rcases h2 with ⟨p, a, ts2, O2, T2, rfl, p2, x2, l2, k2⟩ | ⟨l, v, er, rfl, m2, k2⟩
      · have hrow2 : IRow w2 b u6 ks := row_kept HR1.out fun g hg => fr2.block g (HR1.out.lt g hg).2 (HN1.out g hg).1
        have hn2 : ∀ g, u6.ownBlock = some g → ¬ O2 g ∧ w.heap.size ≤ g := fun g hg => ⟨fun h => by
          rcases x2 g h with h | h
          · exact (HN1.out g hg).1 h
          · have := (HR1.out.lt g hg).2
            omega, (HN1.out g hg).2⟩
        have HR2 := Lib.hid hrow2
        have HN2 := Lib.hid hn2
        have P2 := Lib.hid p2
        have X2 := Lib.hid (HE1.out.trans x2 HF1.out.size)
        have L2 := Lib.hid (HL1.out.app l2)
        have LA := Lib.hid l2.len
        have K2 := Lib.hid k2
        have hsz2 : b + 1 ≤ w2.heap.size := by have := (p2.own b p2.at_).2; omega
        have hsw : w.heap.size ≤ w2.heap.size := F2.out.size
        clear fr2 hrow2 hn2 p2 x2 l2 k2
        go_wp2_with (at_builtin; refine at_kid _ (p : Int) rfl _ _ rfl b _ ks rfl HR2.out rfl (by omega) hsz2 ?_; intro v4 w4 h4 f4 o4; have H4 := Lib.hid h4; have F4 := Lib.hid f4; have O4 := Lib.hid o4; clear h4 f4 o4)
        have p4 : PS w4 b O2 ts2 T2 := P2.out.kept F4.out (fun k hk e => (HN2.out k e).1 hk) fun k e => by have := (HR2.out.lt k e).1; omega
        have F5 := Lib.hid (F2.out.trans (F4.out.mono (O1 := fun k => u6.ownBlock = some k) fun _ h => h) (fun k hk => .inr (HN2.out k hk).2))
        have P4 := Lib.hid p4
        obtain ⟨_, _, _, e2, _, hcall2⟩ := H2.out w4 O2 T2 ts2 F5.out X2.out p4
        injection e2 with e3 e4 e5
        injection e3 with e3
        subst e3 e4 e5
        rw [show first2 ++ (#[] : Array Value) = first2 by simp] at hcall2
        have HCall2 := Lib.hid hcall2
        obtain ⟨br, hbr⟩ : ∃ br, br = (mf ts2).1 := ⟨_, rfl⟩
        rw [← hbr] at HCall2
        have HBR := Lib.hid hbr
        clear p4 hcall2 hbr
        refine HCall2.out.mono ?_; rintro e w5 ⟨rfl, p5, fr5⟩
        have hn5 : ∀ g, v4.ownBlock = some g → ¬ O2 g ∧ w.heap.size ≤ g := fun g hg => by
          rcases O4.out g hg with h | h
          · exact HN2.out g h
          · exact ⟨fun h' => by have := (P2.out.own g h').2; omega, by omega⟩
        have hb5 : ∀ g, v4.ownBlock = some g → g ≠ b := fun g hg e => (hn5 g hg).1 (e ▸ P4.out.at_)
        have HR5 := Lib.hid (show IRow w5 b v4 (ks ++ [(p : Int)]) from row_kept H4.out fun g hg => fr5.block g (H4.out.lt g hg).2 (hb5 g hg))
        have HN5 := Lib.hid hn5
        have P5 := Lib.hid p5
        have F6 := Lib.hid (F5.out.trans fr5 (fun k hk => X2.out k (hk ▸ P4.out.at_)))
        clear p5 fr5 hn5 hb5
        cases br with
        | true =>
          go_wp2_with fail
          go_roundg z
          case measure => omega
          case rel => exact ⟨O2, T2, xs ++ [a], ks ++ [(p : Int)], _, P5.out, F6.out, X2.out, L2.out, HR5.out, HN5.out, by simp; omega, by
            have := K2.out.1 HBR.out.symm
            rw [LA.out, Ast.sizeL, Ast.sizeL]
            exact this⟩
        | false =>
          go_wp2_with fail
          go_ret2
          exact ⟨F6.out, .inl ⟨_, xs ++ [a], ks ++ [(p : Int)], _, O2, T2, rfl, P5.out, X2.out, L2.out, HR5.out, HN5.out, by simp, by simp; omega, K2.out.2 HBR.out.symm⟩⟩
      · obtain ⟨g', rfl, hg1, hg2⟩ := m2
        have M2 := Lib.hid hg2
        have HG := Lib.hid (Nat.le_trans HF1.out.size hg1)
        have K2 := Lib.hid k2
        clear fr2 hg1 hg2 k2
        go_wp2_with fail
        go_ret2
        exact ⟨F2.out, .inr ⟨l, _, rfl, ⟨g', rfl, HG.out, M2.out⟩, K2.out⟩⟩
end Go.Proofs.YtfpeecjafccfjaaGreatDoor
namespace Go.Proofs.YtfpeecjafccfjaaGreatDoor
open Go.RowKit
def wpKids (wp : WpA) (mf : List TkP → Bool × List TkP) : Wp1 := fun s K E => s.xs.length ≤ 100000 ∧ ∃ m, m ≤ 100000 ∧ wpRow wp mf m s.ts s.n [] (fun xs ts => K { s with xs := s.xs ++ xs, ts := ts, n := s.n + Ast.sizeL xs }) E
theorem at_kids {ops : Array Oper} {rest : List Oper} {o : Oper} {a : Act} {Q : Exit → Act → World → Prop} (w : World) (hgd : o.guard = none) (sl y : Operand)
    (ho : o.op = .call { callee := .builtin .append, args := #[sl, y], argTypes := #[33, 33] }) (b : Nat) (kv v : Value) (ks ls : List Int) (hs : a.eval sl = kv) (hown : IRow w b kv ks) (hy : a.eval y = v) (hl : IRow w b v ls) (hne : ls ≠ [])
    (h1 : ks.length ≤ 1000000) (h2 : ls.length ≤ 1000000) (hB : b + 1 ≤ w.heap.size)
    (h : ∀ g c w', IRow w' b (.slice (some ⟨g, 0, none⟩) (ks.length + ls.length) c) (ks ++ ls) → Fr (fun k => kv.ownBlock = some k) w w' → (kv.ownBlock = some g ∨ w.heap.size ≤ g) → g < w'.heap.size → wpList Tryz.prog ops Q rest (a.put o.dst (.slice (some ⟨g, 0, none⟩) (ks.length + ls.length) c)) w') : wpList Tryz.prog ops Q (o :: rest) a w := by
  obtain ⟨i0, hi0, hz0, hz1, hz2⟩ := info_parts info3p
  have h0 : 0 < ls.length := List.length_pos_iff.2 hne
  obtain ⟨g, cap, rfl, _, _⟩ := hl.form h0
  refine wpList_append_lies (P := Tryz.prog) _ hgd sl y 33 ho (b + 1) 3 i0 (.int .i64 0) 1 8 Tryz.underlying33 hi0 hz0 hz1 hz2 rfl (by omega) kv ks.length (ks.map (Value.int .i64)) hs hown ⟨g, 0, none⟩ ls.length cap (ls.map (Value.int .i64)) hy (by simp)
    (fun j u hj => hl.cells (g := g) rfl j u hj) (fun u hu => by obtain ⟨z, _, rfl⟩ := List.mem_map.1 hu; rfl) h0 (by unfold maxLen; omega) (by omega) hB w.heap.size rfl ?_
  intro g cap w' h1 h2 h3 h5
  refine h g cap w' ?_ ?_ (h3.imp id fun e => by omega) h5
  · unfold IRow
    rw [List.length_append, List.map_append]
    exact h1
  · exact Fr.of_grown h2 hown (by decide)
theorem nu_kids {W W4 : World} {b n : Nat} {On : Nat → Prop} {x : Nd} {nv kv : Value} (ha : W.heap[n]? = some (.cells (ndCells (x, nv, kv)).toArray 35 (0, 0))) (hi : NdIn W b On x nv kv) (hat : On n) (hown : ∀ k, On k → b < k ∧ k < W.heap.size)
    (hf : Fr (fun k => kv.ownBlock = some k) W W4) :
    W4.cell? ⟨n, 6, none⟩ = some kv ∧ W4.frozen? ⟨n, 6, none⟩ = false ∧ n < W4.heap.size ∧ (∀ v, Fr (· = n) W4 (W4.setCell ⟨n, 6, none⟩ v)) ∧ ∀ (g m c : Nat) (ks : List Int), IRow W4 b (.slice (some ⟨g, 0, none⟩) m c) ks → kv.ownBlock = some g ∨ W.heap.size ≤ g →
      NU (W4.setCell ⟨n, 6, none⟩ (.slice (some ⟨g, 0, none⟩) m c)) b n (fun k => On k ∨ k = g) { x with kids := ks } := by
  have hne : ¬ kv.ownBlock = some n := fun e => by
    obtain ⟨cur, hc⟩ := row_type hi.kids e
    rw [ha] at hc
    simp at hc
  have hn4 : W4.heap[n]? = some (.cells (ndCells (x, nv, kv)).toArray 35 (0, 0)) := (hf.block n (hown n hat).2 hne).trans ha
  refine ⟨by simp [World.cell?, hn4, ndCells], by simp [World.frozen?, hn4], (Array.getElem?_eq_some_iff.1 hn4).1, fun v => Fr.set1 hn4 (by decide) 6 v, fun g m c ks hr hg => ?_⟩
  have hnd : NdIn W4 b (fun k => On k ∨ k = g) { x with kids := ks } nv (.slice (some ⟨g, 0, none⟩) m c) := ⟨row_kept hi.names fun k hk => (hf.block k (hi.names.lt k hk).2 (fun e => by
    obtain ⟨c1, h1⟩ := row_type hi.names hk
    obtain ⟨c2, h2⟩ := row_type hi.kids e
    rw [h1] at h2
    simp at h2)), hr, fun k hk => (hi.on k hk).imp .inl hf.keeps, hi.nz, fun k hk => .inr (by simpa [Value.ownBlock] using hk.symm)⟩
  have hgl := hr.lt g rfl
  refine ⟨⟨nv, _, set_cells hn4 _, hnd.set hn4 6 _⟩, .inl hat, fun k hk => ?_⟩
  rcases hk with hk | rfl
  · exact ⟨(hown k hk).1, by have := (hown k hk).2; have := hf.size; simp [World.setCell]; omega⟩
  · exact ⟨by omega, by simp [World.setCell]; omega⟩
set_option maxHeartbeats 4000000 in
theorem kids1_p (b n g1 g2 : Nat) (O : Nat → Prop) (T0 : List Nd) (s : St) (K : St → Prop) (E : Int → Prop) (one more : Value) (wp : WpA) (mf : List TkP → Bool × List TkP) (w : World) (hr : Real w b n O T0 s)
    (b1 : Box w O g1 #[one] 93) (b2 : Box w O g2 #[more] 22) (h1 : One w b O one wp) (h2 : More w b O more mf) (hk : wpKids wp mf s K E) :
    Calls Tryz.prog 117 #[.pointer (some ⟨n, 0, none⟩), .pointer (some ⟨g1, 0, none⟩), .pointer (some ⟨g2, 0, none⟩)] w (PartPost b n O T0 K E w) := by
  obtain ⟨Op, On, T, ks, hO, hd, hp, hn, hl, hc⟩ := hr.ex
  have c1 := b1.cell 0
  have c2 := b2.cell 0
  obtain ⟨hx, m, hm, hk⟩ := hk
  have eOp : Ext O Op w := fun k hk => .inl ((hO k).2 (.inl hk))
  rw [← hc] at hk
  have HR := Lib.hid (row_p b Op s.ts T one more wp mf _ E m hm w hp (h1.later (Fr.refl _ _) eOp) (h2.later (Fr.refl _ _) eOp) hk)
  have hks : ks.length = s.xs.length := hl.num
  have HO := Lib.hid hO
  have HD := Lib.hid hd
  have HP := Lib.hid hp
  have HN := Lib.hid hn
  have HL := Lib.hid hl
  have HKS := Lib.hid hks
  have HC := Lib.hid hc
  have hkl : ks.length ≤ 100000 := by omega
  clear hr hO hd hp hn hl hc b1 b2 h1 h2 hk eOp hks hx
  go_enter Tryz.func117, Tryz.ntmps117
  go_wp2_with fail
  refine HR.out.mono ?_; rintro e w1 ⟨f1, h1⟩
  have F1 := Lib.hid f1
  have n1 := HN.out.kept f1 fun k hk h => HD.out k h hk
  have N1 := Lib.hid n1
  have hnl := n1.own n n1.at_
  have hnown := n1.own
  have HAT := Lib.hid n1.at_
  obtain ⟨nv, kv, ha, hin⟩ := n1.ex
  obtain ⟨A6, k6, rfl, _⟩ := row_form hin.kids
  have c6 : w1.cell? ⟨n, 6, none⟩ = some (.slice A6 ks.length k6) := by simp [World.cell?, ha, ndCells]
  have z6 : w1.frozen? ⟨n, 6, none⟩ = false := by simp [World.frozen?, ha]
  have HI := Lib.hid hin
  have HK := Lib.hid (fun W4 hf => nu_kids (W4 := W4) ha hin n1.at_ hnown hf)
  have N1 := Lib.hid n1
  clear hnown ha hin n1 c1 c2
  rcases h1 with ⟨v, ys, ls, ts', Op', T', rfl, p1, x1, l1, r1, o1, ne1, len1, k1⟩ | ⟨l, er, rfl, m1, k1⟩
  · have P1 := Lib.hid p1
    have X1 := Lib.hid x1
    have L1 := Lib.hid l1
    have R1 := Lib.hid r1
    have O1 := Lib.hid o1
    have NE := Lib.hid ne1
    have K1 := Lib.hid k1
    obtain ⟨Av, cv, rfl, _⟩ := row_form r1
    clear p1 x1 l1 r1 o1 ne1 k1 f1
    go_wp2_with (at_builtin; refine at_kids _ rfl _ _ rfl b (.slice A6 ks.length k6) (.slice Av ls.length cv) ks ls rfl HI.out.kids rfl R1.out NE.out (by omega) (by omega) (by omega) ?_; intro g4 c4 w4 h4 f4 o4 l4; obtain ⟨c64, z64, hn4, hfr4, hnu⟩ := HK.out w4 f4; have FR4 := Lib.hid hfr4; have HU := Lib.hid (hnu g4 _ c4 _ h4 o4); have F4 := Lib.hid f4; have O4 := Lib.hid o4; have L4 := Lib.hid l4; clear h4 f4 o4 l4 hnu hfr4)
    go_ret
    have hkO : ∀ k, (Value.slice A6 ks.length k6).ownBlock = some k → On k := fun k hk => HI.out.ok k hk
    have f4' : Fr On w1 w4 := F4.out.mono hkO
    have fO : Fr O w w1 := F1.out.mono fun k hk => (HO.out k).2 (.inl hk)
    have hOn : ∀ k, On k → k < w.heap.size := fun k hk => (HN.out.own k hk).2
    have hg4 : On g4 ∨ w1.heap.size ≤ g4 := O4.out.imp (fun h => hkO g4 h) id
    have hsz : w.heap.size ≤ w1.heap.size := F1.out.size
    have f5 : Fr O w w4 := fO.trans f4' fun k hk => .inl ((HO.out k).2 (.inr hk))
    have hOp : ∀ k, Op' k → ¬ On k := fun k hk h => by
      rcases X1.out k hk with h1 | h1
      · exact HD.out k h1 h
      · have := hOn k h; omega
    have p5 : PS w4 b Op' ts' T' := P1.out.kept f4' hOp fun k hk => Nat.le_of_lt (HN.out.own k hk).1
    have hg5 : ¬ Op' g4 := fun h => by
      rcases hg4 with h1 | h1
      · exact hOp g4 h h1
      · have := (P1.out.own g4 h).2; omega
    refine ⟨f5.trans (FR4.out _) (fun k hk => .inl (hk ▸ (HO.out n).2 (.inr HAT.out))), .inl ⟨{ s with xs := s.xs ++ ys, ts := ts', n := T.length + Ast.sizeL ys }, fun k => Op' k ∨ (On k ∨ k = g4), rfl, ⟨Op', fun k => On k ∨ k = g4, T', ks ++ ls, fun k => Iff.rfl, fun k hk h => ?_, ?_, HU.out, HL.out.app L1.out, ?_⟩, fun k hk => ?_, K1.out⟩⟩
    · rcases h with h | rfl
      · exact hOp k hk h
      · exact hg5 hk
    · exact p5.kept (O1 := (· = n)) (FR4.out _) (fun k hk e => hOp k hk (e ▸ HAT.out)) fun k e => by omega
    · exact L1.out.len
    · rcases hk with hk | hk | rfl
      · rcases X1.out k hk with h1 | h1
        · exact .inl ((HO.out k).2 (.inl h1))
        · exact .inr h1
      · exact .inl ((HO.out k).2 (.inr hk))
      · rcases hg4 with h1 | h1
        · exact .inl ((HO.out k).2 (.inr h1))
        · exact .inr (by omega)
  · obtain ⟨g', rfl, hg1, hg2⟩ := m1
    have M2 := Lib.hid hg2
    have K2 := Lib.hid k1
    have hgn : g' ≠ n := by have := (HN.out.own n HAT.out).2; omega
    clear f1 hg2 k1
    go_wp2_with (at_builtin; refine wpList_append_own_none rfl _ _ 33 rfl (b + 1) 3 _ 1 Tryz.underlying33 (info_parts info3p).choose_spec.1 _ ks.length _ rfl HI.out.kids rfl ?_)
    go_ret
    refine ⟨(F1.out.mono (O1 := O) fun k hk => (HO.out k).2 (.inl hk)).trans (N1.out.fr 6 _) (fun k hk => .inl (hk ▸ (HO.out n).2 (.inr HAT.out))), .inr ⟨l, _, rfl, ⟨g', rfl, hg1, ?_⟩, K2.out⟩⟩
    exact (Below.heap_setCell _ _ _ g' hgn).trans M2.out
end Go.Proofs.YtfpeecjafccfjaaGreatDoor
namespace Go.Proofs.YtfpeecjafccfjaaGreatDoor
open Go.RowKit
theorem info35p : (Tryz.prog.info? 35).map (fun i => (i.zero, i.size, i.bytes)) = some (some (.agg #[.int .i64 0, .int .i64 0, .int .i64 0, .int .i64 0, .string ⟨#[]⟩, .slice none 0 0, .slice none 0 0]), 7, 96) := by kernel_rfl
theorem ndCells_len (t : NdV) : (ndCells t).length = 7 := rfl
theorem step_node {ops : Array Oper} {o : Oper} {a : Act} {K : Act → World → Prop} {Q : Exit → Act → World → Prop} {E : Prop} (w0 w1 : World) (t : NdV) (hgd : o.guard = none) (sl y : Operand)
    (ho : o.op = .call { callee := .builtin .append, args := #[sl, y], argTypes := #[23, 23] }) (b : Nat) (v : Value) (L : List NdV) (hs : a.eval sl = v) (hown : w0.ownsRow (b + 1) 35 7 v L.length (L.flatMap ndCells)) (hw1 : ∀ (i : Nat), i < w0.heap.size → w1.heap[i]? = w0.heap[i]?) (g : Nat) (hg : g = w0.heap.size) (hy : a.eval y = .slice (some ⟨g, 0, none⟩) 1 1)
    (hz : w1.heap[g]? = some (.cells (ndCells t).toArray 35 (0, 0))) (h1c : ∀ u ∈ ndCells t, u.oneCell' = true)
    (hlen : L.length ≤ 1000000) (hB : b + 1 ≤ w0.heap.size) (hb1 : Below w0.heap.size w0 w1)
    (h : ∀ g' c' w', w'.ownsRow (b + 1) 35 7 (.slice (some ⟨g', 0, none⟩) (L.length + 1) c') (L.length + 1) ((L ++ [t]).flatMap ndCells) → Fr (fun k => v.ownBlock = some k) w0 w' → (v.ownBlock = some g' ∨ w0.heap.size ≤ g') → g' < w'.heap.size → K (a.put o.dst (.slice (some ⟨g', 0, none⟩) (L.length + 1) c')) w') :
    if Region.wanted o (yielded ops a.tmps) = true then Oper.wp Tryz.prog o a w1 K Q else E := by
  subst hg
  obtain ⟨i0, hi0, hz0, hz1, hz2⟩ := info_parts info35p
  have hown1 : w1.ownsRow (b + 1) 35 7 v L.length (L.flatMap ndCells) := row_kept hown fun k hk => hw1 k (hown.lt k hk).2
  have hpl : ∀ j : Nat, (⟨w0.heap.size, 0, none⟩ : Addr).add j = ⟨w0.heap.size, j, none⟩ := fun j => by unfold Addr.add; split <;> simp_all
  refine step_append_lies (P := Tryz.prog) w1 hgd sl y 23 ho (b + 1) 35 i0 _ 7 96 Tryz.underlying23 hi0 hz0 hz1 hz2 rfl (by omega) v L.length (L.flatMap ndCells) hs hown1 ⟨w0.heap.size, 0, none⟩ 1 1 (ndCells t) hy (ndCells_len t)
    (fun j u hj => by rw [hpl]; simpa [World.cell?, hz] using hj) h1c (by omega) (by unfold maxLen; omega) (by omega) (by have := hb1.size; omega) w1.heap.size rfl ?_
  intro g' c' w' r1 r2 r3 r4
  refine h g' c' w' ?_ ?_ (r3.imp id fun e => by have := hb1.size; omega) r4
  · rw [List.flatMap_append]
    simpa using r1
  · exact (Fr.of_below (O := fun k => v.ownBlock = some k) hb1).trans (Fr.of_grown r2 hown1 (by decide)) (Ext.refl _ _)
theorem Lies.node {T0 T : List Nd} {xs : List Ast} {ks : List Int} (h : Lies T0 T xs ks) (x : Nd) : Lies T0 (T ++ [{ x with kids := ks }]) [.mk x xs] [(T.length : Int)] := by
  obtain ⟨p1, js, r1, q1⟩ := h
  refine ⟨p1.trans (List.prefix_append _ _), T.length :: js, ?_, ?_⟩
  · unfold Reps
    refine ⟨T.length, [], T.length :: js, [], rfl, ?_, by unfold Reps; exact ⟨rfl, rfl⟩, by simp⟩
    unfold Rep
    exact ⟨{ x with kids := ks }, js, by simp, rfl, Reps.more (prefix_get (List.prefix_append _ _)) xs ks js r1, rfl⟩
  · have h1 := p1.length_le
    rw [List.length_append, List.length_singleton, range_split T0.length T.length (T.length + 1) h1 (by omega), show T.length + 1 - T.length = 1 by omega]
    exact (List.Perm.cons _ q1).trans (List.perm_append_comm (l₁ := [T.length]))
theorem PS.more {W : World} {b : Nat} {O On : Nat → Prop} {ts : List TkP} {T : List Nd} {x : Nd} {nv kv : Value} (h : PS W b O ts T) (hi : NdIn W b On x nv kv) (hOn : ∀ k, On k → b < k ∧ k < W.heap.size) :
    ∃ (v : Value) (L : List NdV), L.length = T.length ∧ W.cell? ⟨b, 2, none⟩ = some v ∧ W.frozen? ⟨b, 2, none⟩ = false ∧ W.ownsRow (b + 1) 35 7 v L.length (L.flatMap ndCells) ∧ (∀ k, v.ownBlock = some k → O k ∧ k ≠ b) ∧ b + 1 ≤ W.heap.size ∧
      ∀ (W6 : World) (g c : Nat), W6.ownsRow (b + 1) 35 7 (.slice (some ⟨g, 0, none⟩) (L.length + 1) c) (L.length + 1) ((L ++ [(x, nv, kv)]).flatMap ndCells) → Fr (fun k => v.ownBlock = some k) W W6 → (v.ownBlock = some g ∨ W.heap.size ≤ g) → g < W6.heap.size →
        W6.cell? ⟨b, 2, none⟩ = some v ∧ W6.frozen? ⟨b, 2, none⟩ = false ∧ Fr (· = b) W6 (W6.setCell ⟨b, 2, none⟩ (.slice (some ⟨g, 0, none⟩) (L.length + 1) c)) ∧ PS (W6.setCell ⟨b, 2, none⟩ (.slice (some ⟨g, 0, none⟩) (L.length + 1) c)) b (fun k => O k ∨ On k ∨ k = g) ts (T ++ [x]) := by
  obtain ⟨TS, i, g0, c0, v, L, a1, a2, a3, a4, a5, a6, a7⟩ := h.ex
  have hlt := (Array.getElem?_eq_some_iff.1 a1).1
  have hvb : ∀ k, v.ownBlock = some k → k ≠ b := fun k hk e => by have := (a6.row.lt k hk).1; omega
  refine ⟨v, L, by rw [← a7, List.length_map], by simp [World.cell?, a1], by simp [World.frozen?, a1], a6.row, fun k hk => ⟨a6.own k hk, hvb k hk⟩, hlt, fun W6 g c hr hf hg hgl => ?_⟩
  have hb6 : W6.heap[b]? = some (.cells #[.slice (some ⟨g0, 0, none⟩) TS.length c0, .int .i64 (i : Int), v] 52 (0, 0)) := (hf.block b hlt (fun e => hvb b e rfl)).trans a1
  have hgb : g ≠ b := by
    rcases hg with hg | hg
    · exact hvb g hg
    · omega
  have hne : ∀ k, k ≠ b → (W6.setCell ⟨b, 2, none⟩ (.slice (some ⟨g, 0, none⟩) (L.length + 1) c)).heap[k]? = W6.heap[k]? := fun k hk => Below.heap_setCell _ _ _ k hk
  have hst : ∀ {k}, Str W k → Str (W6.setCell ⟨b, 2, none⟩ (.slice (some ⟨g, 0, none⟩) (L.length + 1) c)) k := fun hk => (Fr.set1 hb6 (show (52 : Nat) ≠ 9 by decide) 2 (.slice (some ⟨g, 0, none⟩) (L.length + 1) c)).keeps (hf.keeps hk)
  have hsz : (W6.setCell ⟨b, 2, none⟩ (.slice (some ⟨g, 0, none⟩) (L.length + 1) c)).heap.size = W6.heap.size := by simp [World.setCell]
  have hty : ∀ k, v.ownBlock = some k → ∃ cur, W.heap[k]? = some (.cells cur 35 (0, 0)) := fun k hk => row_type a6.row hk
  have hrow : ∀ {e : TypeId} {s n : Nat} {u : Value} {xs : List Value}, W.ownsRow (b + 1) e s u n xs → e ≠ 35 → (W6.setCell ⟨b, 2, none⟩ (.slice (some ⟨g, 0, none⟩) (L.length + 1) c)).ownsRow (b + 1) e s u n xs := fun {e s n u xs} h he => row_kept h fun k hk => by
    rw [hne k (by have := (h.lt k hk).1; omega)]
    refine hf.block k (h.lt k hk).2 (fun e' => ?_)
    obtain ⟨c1, h1⟩ := hty k e'
    obtain ⟨c2, h2⟩ := row_type h hk
    rw [h1] at h2
    injection h2 with h2
    injection h2 with _ h2
    exact he h2.symm
  refine ⟨by simp [World.cell?, hb6], by simp [World.frozen?, hb6], Fr.set1 hb6 (by decide) 2 _, ⟨⟨TS, i, g0, c0, _, L ++ [(x, nv, kv)], (set_cells hb6 _), ?_, a3, a4, a5, ⟨?_, fun k hk => .inr (.inr (by simpa [Value.ownBlock] using hk.symm)), fun t ht => ?_⟩, by rw [List.map_append, a7]; rfl⟩, h.fin, .inl h.at_, fun k hk => ?_⟩⟩
  · exact a2.kept ((hne g0 (by omega)).trans (hf.block g0 (by omega) (fun e => by have := (a6.row.lt g0 e).1; omega))) (by rw [hsz]; exact hf.size)
  · have : (L ++ [(x, nv, kv)]).length = L.length + 1 := by simp
    rw [this]
    exact row_kept hr fun k hk => hne k (by
      have : k = g := by simpa [Value.ownBlock] using hk.symm
      rw [this]; exact hgb)
  · rcases List.mem_append.1 ht with ht | ht
    · have hn := a6.each t ht
      exact ⟨hrow hn.names (by decide), hrow hn.kids (by decide), fun k hk => (hn.on k hk).imp .inl hst, hn.nz, fun k hk => .inl (hn.ok k hk)⟩
    · obtain rfl := List.mem_singleton.1 ht
      exact ⟨hrow hi.names (by decide), hrow hi.kids (by decide), fun k hk => (hi.on k hk).imp (fun h => .inr (.inl h)) hst, hi.nz, fun k hk => .inr (.inl (hi.ok k hk))⟩
  · rw [hsz]
    have := hf.size
    rcases hk with hk | hk | rfl
    · have := h.own k hk; omega
    · have := hOn k hk; omega
    · have := (hr.lt k rfl).1; omega
theorem box_nu {w : World} {b : Nat} {On : Nat → Prop} {x : Nd} {nv kv : Value} (hi : NdIn w b On x nv kv) (hOn : ∀ k, On k → b < k ∧ k < w.heap.size) (hb : b < w.heap.size) :
    NU (w.alloc (.cells (ndCells (x, nv, kv)).toArray 35)) b w.heap.size (fun k => On k ∨ k = w.heap.size) x :=
  ⟨⟨nv, kv, World.alloc_heap_new w _, hi.kept (O1 := fun _ => False) ((Fr.refl _ _).alloc _) (fun _ _ h => h) (fun g hg => .inl hg)⟩, .inr rfl, fun k hk => by
    rcases hk with hk | rfl
    · have := hOn k hk; simp; omega
    · simp; exact hb⟩
theorem real_of {W : World} {b n : Nat} {Op On : Nat → Prop} {T0 T : List Nd} {h : Nd} {xs : List Ast} {ks : List Int} {ts : List TkP} (hp : PS W b Op ts T) (hn : NU W b n On { h with kids := ks }) (hd : ∀ k, Op k → ¬ On k) (hl : Lies T0 T xs ks) : Real W b n (fun k => Op k ∨ On k) T0 ⟨h, xs, ts, T.length⟩ :=
  ⟨Op, On, T, ks, fun _ => Iff.rfl, hd, hp, hn, hl, rfl⟩
theorem ret_place {a b : Int} {v : Value} (h : a = b) : Ending.returned (.tuple #[.int .i64 a, v]) = .returned (.tuple #[.int .i64 b, v]) := by rw [h]
set_option maxHeartbeats 4000000 in
theorem node_p (b : Nat) (Op On : Nat → Prop) (t : TkP) (ts : List TkP) (T0 T : List Nd) (x : Nd) (l : Int) (xs : List Ast) (ks : List Int) (nv kv pv : Value) (wps : List Wp1) (R : Except Int (Ast × List TkP) → Prop) (w : World)
    (hp : PS w b Op (t :: ts) T) (hi : NdIn w b On { x with kids := ks } nv kv) (hd : ∀ k, Op k → ¬ On k) (hOn : ∀ k, On k → b < k ∧ k < w.heap.size) (hl : Lies T0 T xs ks) (hpt : RdParts w b (fun k => Op k ∨ On k) pv wps) (h0 : (x.line = 0 ∧ l = t.2.1) ∨ (x.line ≠ 0 ∧ l = x.line))
    (hk : WpSeq wps ⟨{ x with line := l }, xs, t :: ts, T.length⟩ (fun s => s.n ≤ 200000 ∧ R (.ok (.mk s.h s.xs, s.ts))) (fun l => R (.error l))) :
    Calls Tryz.prog 17 #[.pointer (some ⟨b, 0, none⟩), nodeV x nv kv, pv] w (PlacePost b (fun k => Op k ∨ On k) T0 R w) := by
  obtain ⟨Av, mv, rfl⟩ := hpt.form
  obtain ⟨An, cn, rfl, _⟩ := row_form hi.names
  obtain ⟨Ak, ck, rfl, _⟩ := row_form hi.kids
  obtain ⟨t0, t1, t2, t3⟩ := t
  obtain ⟨x0, x1, x2, x3, x4, x5, x6⟩ := x
  have HP := Lib.hid hp
  have HI := Lib.hid hi
  have hbl : b < w.heap.size := (hp.own b hp.at_).2
  have HU := Lib.hid (box_nu (x := ⟨x0, x1, x2, x3, x4, x5, ks⟩) hi hOn hbl)
  have HA := Lib.hid (fun W hW => ahead_p b Op (t0, t1, t2, t3) ts T W hW)
  unfold tokV at HA
  dsimp only at HA
  have F1 := fld1 t0 t1 t2 (bts t3)
  generalize bts t3 = S at *
  have HPT := Lib.hid hpt
  have HK := Lib.hid hk
  have HL := Lib.hid hl
  have HD := Lib.hid hd
  have HON := Lib.hid hOn
  have hO1 : ∀ k, Op k → k < w.heap.size := fun k hk => (hp.own k hk).2
  have HO1 := Lib.hid hO1
  have hEx : Ext (fun k => Op k ∨ On k) (fun k => Op k ∨ (On k ∨ k = w.heap.size)) w := fun k hk => by
    rcases hk with hk | hk | rfl
    · exact .inl (.inl hk)
    · exact .inl (.inr hk)
    · exact .inr (Nat.le_refl _)
  have HEX := Lib.hid hEx
  have hd3 : ∀ k, Op k → ¬ (On k ∨ k = w.heap.size) := fun k hk h => by
    rcases h with h | rfl
    · exact hd k hk h
    · have := hO1 _ hk; omega
  have HD3 := Lib.hid hd3
  clear hp hi hpt hk hl hd hOn hO1 hEx hd3
  unfold nodeV
  dsimp only at h0 ⊢
  rcases h0 with ⟨h1, h2⟩ | ⟨h1, h2⟩
  · subst h1 h2
    have fa : Fr (fun k => Op k ∨ On k) w (w.alloc (.cells #[.int .i64 x0, .int .i64 0, .int .i64 x2, .int .i64 x3, .string x4, .slice An x5.length cn, .slice Ak ks.length ck] 35)) := (Fr.refl _ _).alloc _
    have HFA := Lib.hid fa
    have P1 := Lib.hid (HP.out.below ((Below.refl _ _).alloc (Nat.le_refl _) (.cells #[.int .i64 x0, .int .i64 0, .int .i64 x2, .int .i64 x3, .string x4, .slice An x5.length cn, .slice Ak ks.length ck] 35)))
    clear fa
    go_enter Tryz.func17, Tryz.ntmps17
    go_wp2_with fail
    refine (HA.out _ P1.out).mono ?_; rintro e w2 ⟨rfl, b2⟩
    have U2 := Lib.hid (HU.out.below b2)
    have P2 := Lib.hid (P1.out.below b2)
    obtain ⟨nv2, kv2, hc2, _, hz2⟩ := U2.out.cells
    have c1 := hc2.c1
    have z1 := hz2 1
    have FR2 := Lib.hid (HFA.out.trans (Fr.of_below (O := fun k => Op k ∨ On k) b2) (Ext.refl _ _))
    have hnl : w.heap.size < w2.heap.size := by have := b2.size; simp at this; omega
    clear b2 hc2 hz2
    go_wp2_with fail
    have RL := Lib.hid (real_of (h := ⟨x0, l, x2, x3, x4, x5, x6⟩) (P2.out.kept (O1 := (· = w.heap.size)) (U2.out.fr 1 (.int .i64 l)) (fun k hk e => by have := HO1.out k hk; omega) fun k e => by omega)
      (U2.out.putHead (y := ⟨x0, l, x2, x3, x4, x5, ks⟩) 1 (.int .i64 l) rfl rfl fun _ _ => rfl) HD3.out HL.out)
    have FR3 := Lib.hid (FR2.out.trans (U2.out.fr 1 (.int .i64 l)) (fun k hk => .inr (Nat.le_of_eq hk.symm)))
    clear P2 U2 FR2 c1 z1
    generalize w2.setCell ⟨w.heap.size, 1, none⟩ (.int .i64 l) = w3 at *
    refine (fill_p b w.heap.size _ T0 _ _ _ _ wps w3 RL.out (HPT.out.later FR3.out HEX.out) HK.out).mono ?_; rintro e w4 ⟨f4, h4⟩
    have FR4 := Lib.hid (FR3.out.trans f4 HEX.out)
    rcases h4 with ⟨s4, O4, rfl, r4, e4, k4, kR⟩ | ⟨l4, v4, rfl, ⟨g', rfl, hg1, hg2⟩, k4⟩
    · obtain ⟨Op4, On4, T4, ks4, hO4, hd4, hp4, hn4, hl4, hc4⟩ := r4.ex
      have E4 := Lib.hid (HEX.out.trans e4 FR3.out.size)
      obtain ⟨nv4, kv4, ha4, hi4⟩ := hn4.ex
      obtain ⟨An4, cn4, rfl, _⟩ := row_form hi4.names
      obtain ⟨Ak4, ck4, rfl, _⟩ := row_form hi4.kids
      obtain ⟨s0, s1, s2, s3⟩ := s4
      obtain ⟨y0, y1, y2, y3, y4, y5, y6⟩ := s0
      dsimp only at hp4 hn4 ha4 hi4 hl4 hc4 kR k4 An4 cn4
      have hnl4 : w.heap.size < w4.heap.size := (hn4.own _ hn4.at_).2
      have q0 : w4.cell? ⟨w.heap.size, 0, none⟩ = some (.int .i64 y0) := by simp [World.cell?, ha4, ndCells]
      have q1 : w4.cell? ⟨w.heap.size, 1, none⟩ = some (.int .i64 y1) := by simp [World.cell?, ha4, ndCells]
      have q2 : w4.cell? ⟨w.heap.size, 2, none⟩ = some (.int .i64 y2) := by simp [World.cell?, ha4, ndCells]
      have q3 : w4.cell? ⟨w.heap.size, 3, none⟩ = some (.int .i64 y3) := by simp [World.cell?, ha4, ndCells]
      have q4 : w4.cell? ⟨w.heap.size, 4, none⟩ = some (.string y4) := by simp [World.cell?, ha4, ndCells]
      have q5 : w4.cell? ⟨w.heap.size, 5, none⟩ = some (.slice An4 y5.length cn4) := by simp [World.cell?, ha4, ndCells]
      have q6 : w4.cell? ⟨w.heap.size, 6, none⟩ = some (.slice Ak4 ks4.length ck4) := by simp [World.cell?, ha4, ndCells]
      obtain ⟨v5, L5, hLl, cb2, fb2, hrow, hvo, hB, hmore⟩ := hp4.more hi4 hn4.own
      obtain ⟨Av5, cv5, rfl, _⟩ := row_form hrow
      have hbl4 : b < w4.heap.size := by omega
      have HR5 := Lib.hid hrow
      have HV5 := Lib.hid hvo
      have HM5 := Lib.hid hmore
      have HLL := Lib.hid hLl
      have HL4 := Lib.hid hl4
      have HO4 := Lib.hid hO4
      have OB := Lib.hid hp4.at_
      have KR := Lib.hid kR
      have hL5 : L5.length ≤ 200000 := by omega
      clear f4 r4 e4 hO4 hd4 hp4 hn4 hl4 ha4 hi4 hrow hvo hmore hLl kR k4 hc4
      go_wp2_with fail
      have HZ : Hid ((w4.alloc (.cells #[.int .i64 y0, .int .i64 y1, .int .i64 y2, .int .i64 y3, .string y4, .slice An4 y5.length cn4, .slice Ak4 ks4.length ck4] 35)).drew.heap[w4.heap.size]? = some (.cells #[.int .i64 y0, .int .i64 y1, .int .i64 y2, .int .i64 y3, .string y4, .slice An4 y5.length cn4, .slice Ak4 ks4.length ck4] 35 (0, 0))) := Lib.hid (World.alloc_heap_new w4 _)
      go_region_law ((refine step_node w4 _ (⟨y0, y1, y2, y3, y4, y5, ks4⟩, .slice An4 y5.length cn4, .slice Ak4 ks4.length ck4) (by rfl) _ _ (by rfl) b (.slice Av5 L5.length cv5) L5 (by rfl) HR5.out (fun i hi => Below.heap_alloc w4 _ i hi) w4.heap.size rfl (by rfl) HZ.out (by intro u hu; simp [ndCells] at hu; rcases hu with rfl | rfl | rfl | rfl | rfl | rfl | rfl <;> rfl) (by omega) hB ⟨rfl, rfl, rfl, by simp [World.drew], fun k hk => Below.heap_alloc w4 _ k hk⟩ ?_; intro g6 c6 w6 r6 f6 o6 l6; have hq6 := HM5.out w6 g6 c6 r6 f6 o6 l6; have cb6 := hq6.1; have fb6 := hq6.2.1; have R6 := Lib.hid hq6.2.2.1; have P6 := Lib.hid hq6.2.2.2; have F6 := Lib.hid f6; have O6 := Lib.hid o6; clear r6 f6 o6 l6 hq6))
      all_goals
        have hs6 : w4.heap.size ≤ w6.heap.size := F6.out.size
        have hbl6 : b < w6.heap.size := by omega
        go_wp2
        go_ret2
        have hop : ∀ k, Op4 k → O4 k := fun k hk => (HO4.out k).2 (.inl hk)
        have hon : ∀ k, On4 k → O4 k := fun k hk => (HO4.out k).2 (.inr hk)
        have f7 : Fr O4 w4 (w6.setCell ⟨b, 2, none⟩ (.slice (some ⟨g6, 0, none⟩) (L5.length + 1) c6)) := (F6.out.mono (O1 := O4) fun k hk => hop k (HV5.out k hk).1).trans R6.out (fun k hk => .inl (hk ▸ hop b OB.out))
        refine ⟨FR4.out.trans f7 E4.out, .inl ⟨T4.length, .mk ⟨y0, y1, y2, y3, y4, y5, y6⟩ s1, s2, fun k => Op4 k ∨ On4 k ∨ k = g6, T4 ++ [⟨y0, y1, y2, y3, y4, y5, ks4⟩], ret_place (by have := HLL.out; omega), P6.out, fun k hk => ?_, HL4.out.node ⟨y0, y1, y2, y3, y4, y5, y6⟩, KR.out⟩⟩
        rcases hk with hk | hk | rfl
        · exact E4.out k (hop k hk)
        · exact E4.out k (hon k hk)
        · rcases O6.out with h | h
          · exact E4.out _ (hop _ (HV5.out _ h).1)
          · exact .inr (by have := FR4.out.size; omega)
    · have M2 := Lib.hid hg2
      have HG := Lib.hid (Nat.le_trans FR3.out.size hg1)
      have K4 := Lib.hid k4
      clear f4 hg1 hg2 k4
      go_wp2_with fail
      go_ret2
      exact ⟨FR4.out, .inr ⟨l4, _, _, rfl, ⟨g', rfl, HG.out, M2.out⟩, K4.out⟩⟩
  · subst h2
    have g1 : (l == 0) = false := beq_eq_false_iff_ne.2 h1
    have fa : Fr (fun k => Op k ∨ On k) w (w.alloc (.cells #[.int .i64 x0, .int .i64 l, .int .i64 x2, .int .i64 x3, .string x4, .slice An x5.length cn, .slice Ak ks.length ck] 35)) := (Fr.refl _ _).alloc _
    have FR3 := Lib.hid fa
    have P1 := Lib.hid (HP.out.below ((Below.refl _ _).alloc (Nat.le_refl _) (.cells #[.int .i64 x0, .int .i64 l, .int .i64 x2, .int .i64 x3, .string x4, .slice An x5.length cn, .slice Ak ks.length ck] 35)))
    have RL := Lib.hid (real_of (h := ⟨x0, l, x2, x3, x4, x5, x6⟩) P1.out HU.out HD3.out HL.out)
    clear fa h1 P1 HU
    go_enter Tryz.func17, Tryz.ntmps17
    go_wp2_with fail
    generalize w.alloc (.cells #[.int .i64 x0, .int .i64 l, .int .i64 x2, .int .i64 x3, .string x4, .slice An x5.length cn, .slice Ak ks.length ck] 35) = w3 at *
    refine (fill_p b w.heap.size _ T0 _ _ _ _ wps w3 RL.out (HPT.out.later FR3.out HEX.out) HK.out).mono ?_; rintro e w4 ⟨f4, h4⟩
    have FR4 := Lib.hid (FR3.out.trans f4 HEX.out)
    rcases h4 with ⟨s4, O4, rfl, r4, e4, k4, kR⟩ | ⟨l4, v4, rfl, ⟨g', rfl, hg1, hg2⟩, k4⟩
    · obtain ⟨Op4, On4, T4, ks4, hO4, hd4, hp4, hn4, hl4, hc4⟩ := r4.ex
      have E4 := Lib.hid (HEX.out.trans e4 FR3.out.size)
      obtain ⟨nv4, kv4, ha4, hi4⟩ := hn4.ex
      obtain ⟨An4, cn4, rfl, _⟩ := row_form hi4.names
      obtain ⟨Ak4, ck4, rfl, _⟩ := row_form hi4.kids
      obtain ⟨s0, s1, s2, s3⟩ := s4
      obtain ⟨y0, y1, y2, y3, y4, y5, y6⟩ := s0
      dsimp only at hp4 hn4 ha4 hi4 hl4 hc4 kR k4 An4 cn4
      have hnl4 : w.heap.size < w4.heap.size := (hn4.own _ hn4.at_).2
      have q0 : w4.cell? ⟨w.heap.size, 0, none⟩ = some (.int .i64 y0) := by simp [World.cell?, ha4, ndCells]
      have q1 : w4.cell? ⟨w.heap.size, 1, none⟩ = some (.int .i64 y1) := by simp [World.cell?, ha4, ndCells]
      have q2 : w4.cell? ⟨w.heap.size, 2, none⟩ = some (.int .i64 y2) := by simp [World.cell?, ha4, ndCells]
      have q3 : w4.cell? ⟨w.heap.size, 3, none⟩ = some (.int .i64 y3) := by simp [World.cell?, ha4, ndCells]
      have q4 : w4.cell? ⟨w.heap.size, 4, none⟩ = some (.string y4) := by simp [World.cell?, ha4, ndCells]
      have q5 : w4.cell? ⟨w.heap.size, 5, none⟩ = some (.slice An4 y5.length cn4) := by simp [World.cell?, ha4, ndCells]
      have q6 : w4.cell? ⟨w.heap.size, 6, none⟩ = some (.slice Ak4 ks4.length ck4) := by simp [World.cell?, ha4, ndCells]
      obtain ⟨v5, L5, hLl, cb2, fb2, hrow, hvo, hB, hmore⟩ := hp4.more hi4 hn4.own
      obtain ⟨Av5, cv5, rfl, _⟩ := row_form hrow
      have hbl4 : b < w4.heap.size := by omega
      have HR5 := Lib.hid hrow
      have HV5 := Lib.hid hvo
      have HM5 := Lib.hid hmore
      have HLL := Lib.hid hLl
      have HL4 := Lib.hid hl4
      have HO4 := Lib.hid hO4
      have OB := Lib.hid hp4.at_
      have KR := Lib.hid kR
      have hL5 : L5.length ≤ 200000 := by omega
      clear f4 r4 e4 hO4 hd4 hp4 hn4 hl4 ha4 hi4 hrow hvo hmore hLl kR k4 hc4
      go_wp2_with fail
      have HZ : Hid ((w4.alloc (.cells #[.int .i64 y0, .int .i64 y1, .int .i64 y2, .int .i64 y3, .string y4, .slice An4 y5.length cn4, .slice Ak4 ks4.length ck4] 35)).drew.heap[w4.heap.size]? = some (.cells #[.int .i64 y0, .int .i64 y1, .int .i64 y2, .int .i64 y3, .string y4, .slice An4 y5.length cn4, .slice Ak4 ks4.length ck4] 35 (0, 0))) := Lib.hid (World.alloc_heap_new w4 _)
      go_region_law ((refine step_node w4 _ (⟨y0, y1, y2, y3, y4, y5, ks4⟩, .slice An4 y5.length cn4, .slice Ak4 ks4.length ck4) (by rfl) _ _ (by rfl) b (.slice Av5 L5.length cv5) L5 (by rfl) HR5.out (fun i hi => Below.heap_alloc w4 _ i hi) w4.heap.size rfl (by rfl) HZ.out (by intro u hu; simp [ndCells] at hu; rcases hu with rfl | rfl | rfl | rfl | rfl | rfl | rfl <;> rfl) (by omega) hB ⟨rfl, rfl, rfl, by simp [World.drew], fun k hk => Below.heap_alloc w4 _ k hk⟩ ?_; intro g6 c6 w6 r6 f6 o6 l6; have hq6 := HM5.out w6 g6 c6 r6 f6 o6 l6; have cb6 := hq6.1; have fb6 := hq6.2.1; have R6 := Lib.hid hq6.2.2.1; have P6 := Lib.hid hq6.2.2.2; have F6 := Lib.hid f6; have O6 := Lib.hid o6; clear r6 f6 o6 l6 hq6))
      all_goals
        have hs6 : w4.heap.size ≤ w6.heap.size := F6.out.size
        have hbl6 : b < w6.heap.size := by omega
        go_wp2
        go_ret2
        have hop : ∀ k, Op4 k → O4 k := fun k hk => (HO4.out k).2 (.inl hk)
        have hon : ∀ k, On4 k → O4 k := fun k hk => (HO4.out k).2 (.inr hk)
        have f7 : Fr O4 w4 (w6.setCell ⟨b, 2, none⟩ (.slice (some ⟨g6, 0, none⟩) (L5.length + 1) c6)) := (F6.out.mono (O1 := O4) fun k hk => hop k (HV5.out k hk).1).trans R6.out (fun k hk => .inl (hk ▸ hop b OB.out))
        refine ⟨FR4.out.trans f7 E4.out, .inl ⟨T4.length, .mk ⟨y0, y1, y2, y3, y4, y5, y6⟩ s1, s2, fun k => Op4 k ∨ On4 k ∨ k = g6, T4 ++ [⟨y0, y1, y2, y3, y4, y5, ks4⟩], ret_place (by have := HLL.out; omega), P6.out, fun k hk => ?_, HL4.out.node ⟨y0, y1, y2, y3, y4, y5, y6⟩, KR.out⟩⟩
        rcases hk with hk | hk | rfl
        · exact E4.out k (hop k hk)
        · exact E4.out k (hon k hk)
        · rcases O6.out with h | h
          · exact E4.out _ (hop _ (HV5.out _ h).1)
          · exact .inr (by have := FR4.out.size; omega)
    · have M2 := Lib.hid hg2
      have HG := Lib.hid (Nat.le_trans FR3.out.size hg1)
      have K4 := Lib.hid k4
      clear f4 hg1 hg2 k4
      go_wp2_with fail
      go_ret2
      exact ⟨FR4.out, .inr ⟨l4, _, _, rfl, ⟨g', rfl, HG.out, M2.out⟩, K4.out⟩⟩
end Go.Proofs.YtfpeecjafccfjaaGreatDoor
namespace Go.Proofs.YtfpeecjafccfjaaGreatDoor
open Go.RowKit
theorem PlacePost.sub {b : Nat} {O O' : Nat → Prop} {T0 : List Nd} {R : Except Int (Ast × List TkP) → Prop} {w : World} {e : Ending} {w' : World} (h : PlacePost b O T0 R w e w') (hO : ∀ k, O k → O' k) : PlacePost b O' T0 R w e w' := by
  obtain ⟨h1, h2⟩ := h
  refine ⟨h1.mono hO, h2.imp ?_ id⟩
  rintro ⟨p, a, ts, O2, T, e1, p1, x1, l1, k1⟩
  exact ⟨p, a, ts, O2, T, e1, p1, fun k hk => (x1 k hk).imp (hO k) id, l1, k1⟩
theorem PlacePost.after {b : Nat} {O : Nat → Prop} {T0 : List Nd} {R : Except Int (Ast × List TkP) → Prop} {w w1 : World} {e : Ending} {w' : World} (h : PlacePost b O T0 R w1 e w') (hf : Fr O w w1) : PlacePost b O T0 R w e w' := by
  obtain ⟨h1, h2⟩ := h
  refine ⟨hf.trans h1 (Ext.refl _ _), h2.imp ?_ ?_⟩
  · rintro ⟨p, a, ts, O2, T, e1, p1, x1, l1, k1⟩
    exact ⟨p, a, ts, O2, T, e1, p1, (Ext.refl O w).trans x1 hf.size, l1, k1⟩
  · rintro ⟨l, v, er, e1, ⟨g, m1, m2, m3⟩, k⟩
    exact ⟨l, v, er, e1, ⟨g, m1, Nat.le_trans hf.size m2, m3⟩, k⟩
theorem PlacePost.ret {b : Nat} {O : Nat → Prop} {T0 : List Nd} {R : Except Int (Ast × List TkP) → Prop} {w : World} {e : Ending} {w' : World} (h : PlacePost b O T0 R w e w') : ∃ v er, e = .returned (.tuple #[v, er]) := by
  rcases h.2 with ⟨p, _, _, _, _, e1, _⟩ | ⟨_, v, er, e1, _⟩
  · exact ⟨_, _, e1⟩
  · exact ⟨v, er, e1⟩
set_option maxHeartbeats 1000000 in
theorem kids_p (b : Nat) (O : Nat → Prop) (f1 f2 : FuncId) (first1 cap1 first2 cap2 : Array Value) (wp : WpA) (mf : List TkP → Bool × List TkP) (w : World) (h1 : One w b O (.func (.func f1) first1 cap1) wp) (h2 : More w b O (.func (.func f2) first2 cap2) mf) (hO : ∀ k, O k → k < w.heap.size) :
    Calls Tryz.prog 82 #[.func (.func f1) first1 cap1, .func (.func f2) first2 cap2] w (MakesPart b O (wpKids wp mf) w) := by
  have H1 := Lib.hid h1
  have H2 := Lib.hid h2
  have HO := Lib.hid hO
  clear h1 h2 hO
  go_enter Tryz.func82, Tryz.ntmps82
  go_wp2
  go_ret
  refine ⟨_, rfl, ((Below.refl _ _).alloc (Nat.le_refl _) _).alloc (by simp) _, ?_, _, _, _, rfl⟩
  intro W1 O1 T0 s n K E hf he hr hk
  have fa : Fr O w (w.alloc (.cells #[.func (.func f1) first1 cap1] 93)) := (Fr.refl _ _).alloc _
  have fb := (Fr.refl O (w.alloc (.cells #[.func (.func f1) first1 cap1] 93))).alloc (.cells #[.func (.func f2) first2 cap2] 22)
  have e1 := Box.new w O HO.out #[.func (.func f1) first1 cap1] 93
  have e2 := Box.new (w.alloc (.cells #[.func (.func f1) first1 cap1] 93)) O (fun k hk => by have := HO.out k hk; simp; omega) #[.func (.func f2) first2 cap2] 22
  rw [asize] at e2
  have o1 := (H1.out.later fa (Ext.refl _ _)).later fb (Ext.refl _ _)
  have o2 := (H2.out.later fa (Ext.refl _ _)).later fb (Ext.refl _ _)
  exact ⟨117, _, _, rfl, enters_of Tryz.func117 (by kernel_rfl) rfl, kids1_p b n _ _ O1 T0 s K E _ _ wp mf W1 hr ((e1.later fb (Ext.refl _ _)).later hf he) (e2.later hf he) (o1.later hf he) (o2.later hf he) hk⟩
def noMore : List TkP → Bool × List TkP := fun ts => (false, ts)
def wpKid (wp : WpA) : Wp1 := wpKids wp noMore
theorem no_more (w : World) (b : Nat) (O : Nat → Prop) : More w b O (.func (.func 83) #[] #[]) noMore := by
  intro W1 O1 T ts _ _ hp
  refine ⟨83, _, _, rfl, enters_of Tryz.func83 (by kernel_rfl) rfl, ?_⟩
  show Calls Tryz.prog 83 #[] W1 _
  have HP := Lib.hid hp
  clear hp
  go_enter Tryz.func83, Tryz.ntmps83
  go_wp2
  go_ret
  exact ⟨rfl, HP.out, Fr.refl _ _⟩
set_option maxHeartbeats 1000000 in
theorem kid_p (b : Nat) (O : Nat → Prop) (f1 : FuncId) (first1 cap1 : Array Value) (wp : WpA) (w : World) (h1 : One w b O (.func (.func f1) first1 cap1) wp) (hO : ∀ k, O k → k < w.heap.size) :
    Calls Tryz.prog 40 #[.func (.func f1) first1 cap1] w (MakesPart b O (wpKid wp) w) := by
  have HC := Lib.hid (kids_p b O f1 83 first1 cap1 #[] #[] wp noMore w h1 (no_more w b O) hO)
  clear h1 hO
  go_enter Tryz.func40, Tryz.ntmps40
  go_wp2_with fail
  refine HC.out.mono ?_; rintro e w1 ⟨v, rfl, h2⟩
  have H2 := Lib.hid h2
  clear h2
  go_wp2_with fail
  go_ret
  exact ⟨_, rfl, H2.out⟩
def wpHang (x : Nd) (wps : List Wp1) : WpA := fun ts n K E => ∃ t r l, ts = t :: r ∧ ((x.line = 0 ∧ l = t.2.1) ∨ (x.line ≠ 0 ∧ l = x.line)) ∧ WpSeq wps ⟨{ x with line := l }, [], ts, n⟩ (fun s => s.n ≤ 200000 ∧ K (.mk s.h s.xs) s.ts) E
def Nam (W : World) (b : Nat) (xs : List ByteArray) (nv : Value) : Prop := W.ownsRow (b + 1) 9 1 nv xs.length (xs.map Value.string) ∧ ∀ g, nv.ownBlock = some g → Str W g ∧ xs ≠ []
theorem Nam.later {W W' : World} {b : Nat} {O : Nat → Prop} {xs : List ByteArray} {nv : Value} (h : Nam W b xs nv) (hf : Fr O W W') : Nam W' b xs nv := ⟨row_kept h.1 fun g hg => hf.str g (h.2 g hg).1, fun g hg => ⟨hf.keeps (h.2 g hg).1, (h.2 g hg).2⟩⟩
theorem Nam.nil (W : World) (b : Nat) : Nam W b [] (.slice none 0 0) := ⟨World.ownsRow_nil _ _ _ _, fun g hg => by simp [Value.ownBlock] at hg⟩
theorem Nam.nd {W : World} {b : Nat} {x : Nd} {nv : Value} (h : Nam W b x.names nv) : NdIn W b (fun _ => False) { x with kids := [] } nv (.slice none 0 0) := ⟨h.1, World.ownsRow_nil _ _ _ _, fun g hg => .inr (h.2 g hg).1, fun g hg => (h.2 g hg).2, fun g hg => by simp [Value.ownBlock] at hg⟩
set_option maxHeartbeats 2000000 in
theorem hang1_p (b g1 g2 g3 : Nat) (O : Nat → Prop) (ts : List TkP) (T : List Nd) (x : Nd) (nv pv : Value) (wps : List Wp1) (K : Ast → List TkP → Prop) (E : Int → Prop) (w : World) (hp : PS w b O ts T) (hn : Nam w b x.names nv)
    (b1 : Box w O g1 #[.pointer (some ⟨b, 0, none⟩)] 84) (b2 : Box w O g2 (ndCells (x, nv, .slice none 0 0)).toArray 35) (b3 : Box w O g3 #[pv] 85) (hpt : RdParts w b O pv wps) (hk : wpHang x wps ts T.length K E) :
    Calls Tryz.prog 79 #[.pointer (some ⟨g1, 0, none⟩), .pointer (some ⟨g2, 0, none⟩), .pointer (some ⟨g3, 0, none⟩)] w (PlacePost b O T (RK K E) w) := by
  obtain ⟨t, r, l, rfl, hl, hk⟩ := hk
  obtain ⟨An, cn, rfl, _⟩ := row_form hn.1
  have HN := Lib.hid (node_p b O (fun _ => False) t r T T x l [] [] _ (.slice none 0 0) pv wps (RK K E) w hp hn.nd (fun _ _ h => h) (fun _ h => h.elim) (Lies.nil T) (hpt.later (Fr.refl _ _) (fun k hk => .inl (hk.elim id False.elim))) hl hk)
  have c1 := b1.cell 0
  have c3 := b3.cell 0
  obtain ⟨x0, x1, x2, x3, x4, x5, x6⟩ := x
  have q0 : w.cell? ⟨g2, 0, none⟩ = some (.int .i64 x0) := b2.cell 0
  have q1 : w.cell? ⟨g2, 1, none⟩ = some (.int .i64 x1) := b2.cell 1
  have q2 : w.cell? ⟨g2, 2, none⟩ = some (.int .i64 x2) := b2.cell 2
  have q3 : w.cell? ⟨g2, 3, none⟩ = some (.int .i64 x3) := b2.cell 3
  have q4 : w.cell? ⟨g2, 4, none⟩ = some (.string x4) := b2.cell 4
  have q5 : w.cell? ⟨g2, 5, none⟩ = some (.slice An x5.length cn) := b2.cell 5
  have q6 : w.cell? ⟨g2, 6, none⟩ = some (.slice none 0 0) := b2.cell 6
  unfold nodeV at HN
  dsimp only at HN
  clear hp hn b1 b2 b3 hpt hl hk
  go_enter Tryz.func79, Tryz.ntmps79
  go_wp2_with fail
  refine HN.out.mono ?_; intro e w1 h1
  obtain ⟨v, er, rfl⟩ := h1.ret
  have H1 := Lib.hid (h1.sub (O' := O) fun k hk => hk.elim id False.elim)
  clear h1 c1 c3 q0 q1 q2 q3 q4 q5 q6
  go_wp2_with fail
  go_ret2
  exact H1.out
set_option maxHeartbeats 2000000 in
theorem hang_p (b : Nat) (O : Nat → Prop) (x : Nd) (nv pv : Value) (wps : List Wp1) (w : World) (hn : Nam w b x.names nv) (hpt : RdParts w b O pv wps) (hO : ∀ k, O k → k < w.heap.size) :
    Calls Tryz.prog 36 #[.pointer (some ⟨b, 0, none⟩), nodeV x nv (.slice none 0 0), pv] w (MakesPart b O (wpKid (wpHang x wps)) w) := by
  obtain ⟨An, cn, rfl, _⟩ := row_form hn.1
  obtain ⟨A, m, rfl⟩ := hpt.form
  obtain ⟨x0, x1, x2, x3, x4, x5, x6⟩ := x
  dsimp only at hn ⊢
  obtain ⟨NV, hNV⟩ : ∃ NV, NV = (.slice An x5.length cn : Value) := ⟨_, rfl⟩
  obtain ⟨w1, hw1⟩ : ∃ w1, w1 = w.alloc (.cells #[.pointer (some ⟨b, 0, none⟩)] 84) := ⟨_, rfl⟩
  obtain ⟨w2, hw2⟩ : ∃ w2, w2 = w1.alloc (.cells #[.int .i64 x0, .int .i64 x1, .int .i64 x2, .int .i64 x3, .string x4, .slice An x5.length cn, .slice none 0 0] 35) := ⟨_, rfl⟩
  obtain ⟨w3, hw3⟩ : ∃ w3, w3 = w2.alloc (.cells #[.slice A m m] 85) := ⟨_, rfl⟩
  have f1 : Fr O w w1 := by rw [hw1]; exact (Fr.refl _ _).alloc _
  have f2 : Fr O w1 w2 := by rw [hw2]; exact (Fr.refl _ _).alloc _
  have f3 : Fr O w2 w3 := by rw [hw3]; exact (Fr.refl _ _).alloc _
  have z1 : w1.heap.size = w.heap.size + 1 := by rw [hw1, asize]
  have z2 : w2.heap.size = w.heap.size + 1 + 1 := by rw [hw2, asize, z1]
  have b1 : Box w1 O w.heap.size #[.pointer (some ⟨b, 0, none⟩)] 84 := by rw [hw1]; exact Box.new w O hO _ _
  have b2 : Box w2 O (w.heap.size + 1) #[.int .i64 x0, .int .i64 x1, .int .i64 x2, .int .i64 x3, .string x4, .slice An x5.length cn, .slice none 0 0] 35 := by rw [hw2, ← z1]; exact Box.new w1 O (fun k hk => by have := hO k hk; omega) _ _
  have b3 : Box w3 O (w.heap.size + 1 + 1) #[.slice A m m] 85 := by rw [hw3, ← z2]; exact Box.new w2 O (fun k hk => by have := hO k hk; omega) _ _
  have f12 := f1.trans f2 (Ext.refl _ _)
  have f13 := f12.trans f3 (Ext.refl _ _)
  have hone : One w3 b O (.func (.func 79) #[] #[.pointer (some ⟨w.heap.size, 0, none⟩), .pointer (some ⟨w.heap.size + 1, 0, none⟩), .pointer (some ⟨w.heap.size + 1 + 1, 0, none⟩)]) (wpHang ⟨x0, x1, x2, x3, x4, x5, x6⟩ wps) := by
    intro W1 O1 T ts K E hf he hp hk
    refine ⟨79, _, _, rfl, enters_of Tryz.func79 (by kernel_rfl) rfl, ?_⟩
    exact hang1_p b _ _ _ O1 ts T ⟨x0, x1, x2, x3, x4, x5, x6⟩ _ _ wps K E W1 hp ((hn.later f13).later hf) (((b1.later f2 (Ext.refl _ _)).later f3 (Ext.refl _ _)).later hf he) ((b2.later f3 (Ext.refl _ _)).later hf he) (b3.later hf he) ((hpt.later f13 (Ext.refl _ _)).later hf he) hk
  have HK := Lib.hid (kid_p b O 79 _ _ _ w3 hone fun k hk => by have := hO k hk; have := f13.size; omega)
  have HF := Lib.hid f13
  have HB : Hid (Below w.heap.size w w3) := Lib.hid (by
    rw [hw3, hw2, hw1]
    exact (((Below.refl _ _).alloc (Nat.le_refl _) _).alloc (by simp) _).alloc (by simp; omega) _)
  rw [hw3, hw2, hw1] at HK HB
  clear hn hpt hO hNV hw1 hw2 hw3 f1 f2 f3 z1 z2 b1 b2 b3 f12 f13 hone HF
  unfold nodeV
  dsimp only
  go_enter Tryz.func36, Tryz.ntmps36
  go_wp2_with fail
  refine HK.out.mono ?_; rintro e w1 ⟨v, rfl, b1, h2⟩
  have H2 := Lib.hid h2
  have B1 := Lib.hid (thenBR HB.out b1)
  clear h2 b1
  go_wp2_with fail
  go_ret
  exact ⟨_, rfl, B1.out, H2.out⟩
end Go.Proofs.YtfpeecjafccfjaaGreatDoor
namespace Go.Proofs.YtfpeecjafccfjaaGreatDoor
open Go.RowKit
abbrev SRow (W : World) (b : Nat) (v : Value) (xs : List ByteArray) : Prop := W.ownsRow (b + 1) 9 1 v xs.length (xs.map Value.string)
theorem info9p : (Tryz.prog.info? 9).map (fun i => (i.zero, i.size, i.bytes)) = some (some (.string ⟨#[]⟩), 1, 16) := by kernel_rfl
theorem row_base {W : World} {B B' e s n : Nat} {v : Value} {xs : List Value} (h : W.ownsRow B e s v n xs) (hB : B' ≤ B) : W.ownsRow B' e s v n xs := by
  refine ⟨h.1, ?_⟩
  rcases h.2 with h2 | ⟨g, cap, cur, e1, h2, rest⟩
  · exact .inl h2
  · exact .inr ⟨g, cap, cur, e1, Nat.le_trans hB h2, rest⟩
theorem Fr.of_none {O : Nat → Prop} {w w' : World} (h : w.grownBy w' none) : Fr O w w' := Fr.of_below ⟨h.os, h.tape, h.output, h.size, fun k hk => h.block k hk (by simp)⟩
theorem run_strs (ty : TypeId) (w : World) (b : Nat) (v xv : Value) (ls ns : List ByteArray) (hown : SRow w b v ls) (hnz : ∀ g, v.ownBlock = some g → ls ≠ []) (hx : SRow w b xv ns) (hne : ns ≠ []) (h1 : ls.length ≤ 1000000) (h2 : ns.length ≤ 1000000) (hB : b + 1 ≤ w.heap.size) :
    ∃ g c w', (Builtin.append_ #[32, 32] ty #[v, xv]).run Tryz.prog w = .ok (.slice (some ⟨g, 0, none⟩) (ls.length + ns.length) c) w' ∧ SRow w' b (.slice (some ⟨g, 0, none⟩) (ls.length + ns.length) c) (ls ++ ns) ∧ Fr (fun k => v.ownBlock = some k) w w' ∧ ((v.ownBlock = some g ∧ ¬ Str w g) ∨ w.heap.size ≤ g) ∧ g < w'.heap.size := by
  obtain ⟨i0, hi0, hz0, hz1, hz2⟩ := info_parts info9p
  have hm : 0 < ns.length := List.length_pos_iff.2 hne
  obtain ⟨gx, cx, rfl, _, _⟩ := hx.form hm
  have hcx : ∀ j u, (ns.map Value.string)[j]? = some u → w.cell? ((⟨gx, 0, none⟩ : Addr).add j) = some u := fun j u hj => hx.cells (g := gx) rfl j u hj
  have hoc : ∀ u ∈ ns.map Value.string, u.oneCell' = true := fun u hu => by obtain ⟨z, _, rfl⟩ := List.mem_map.1 hu; rfl
  have key : ∀ v' w', w'.ownsRow w.heap.size 9 1 v' (ls.length + ns.length) (ls.map Value.string ++ ns.map Value.string) → w.grownBy w' none → ∃ g c, v' = .slice (some ⟨g, 0, none⟩) (ls.length + ns.length) c ∧ SRow w' b (.slice (some ⟨g, 0, none⟩) (ls.length + ns.length) c) (ls ++ ns) ∧ w.heap.size ≤ g ∧ g < w'.heap.size := fun v' w' r1 r2 => by
    obtain ⟨g, c, rfl, h3, h4⟩ := r1.form (by omega)
    refine ⟨g, c, rfl, ?_, h3, h4⟩
    unfold SRow
    rw [List.length_append, List.map_append]
    exact row_base r1 (by omega)
  rcases hown.2 with ⟨rfl, hn⟩ | ⟨g0, cap, cur, rfl, hg0, hh, hnc, _, hcs, _⟩
  · have hls : ls = [] := List.eq_nil_of_length_eq_zero hn
    subst hls
    obtain ⟨v', w', hrun, r1, r2, _⟩ := run_append_own (P := Tryz.prog) w w.heap.size 32 ty 9 i0 (.string ⟨#[]⟩) 1 16 Tryz.underlying32 hi0 hz0 hz1 hz2 rfl (by omega) (.slice none 0 0) 0 [] (World.ownsRow_nil w _ 9 1) ⟨gx, 0, none⟩ ns.length cx (ns.map Value.string) (by simp) hcx hoc (by unfold maxLen; omega) (by omega) (Nat.le_refl _)
    obtain ⟨g, c, rfl, h3, h4, h5⟩ := key v' w' (by simpa using r1) (by simpa [Value.ownBlock] using r2)
    exact ⟨g, c, w', hrun, h3, Fr.of_none (by simpa [Value.ownBlock] using r2), .inr h4, h5⟩
  · by_cases hroom : ls.length + ns.length ≤ cap
    · have hl0 : 0 < ls.length := List.length_pos_iff.2 (hnz g0 rfl)
      have hns : ¬ Str w g0 := fun ⟨s, f, hs⟩ => by
        rw [hh] at hs
        injection hs with hs
        injection hs with hs
        rw [hs] at hcs
        simp at hcs
        omega
      obtain ⟨g, c, w', hrun, r1, r2, r3, r4⟩ := run_append_lies (P := Tryz.prog) w 32 ty (b + 1) 9 i0 (.string ⟨#[]⟩) 1 16 Tryz.underlying32 hi0 hz0 hz1 hz2 rfl (by omega) _ ls.length (ls.map Value.string) hown ⟨gx, 0, none⟩ ns.length cx (ns.map Value.string) (by simp) hcx hoc hm (by unfold maxLen; omega) (by omega) hB w.heap.size rfl
      refine ⟨g, c, w', hrun, ?_, ⟨r2.os, r2.tape, r2.output, r2.size, fun k hk hO => r2.block k hk (fun e => hO e.symm), fun k hk => r2.block k hk.lt (fun e => by
        have : k = g0 := by simpa [Value.ownBlock] using e
        exact hns (this ▸ hk))⟩, ?_, r4⟩
      · unfold SRow
        rw [List.length_append, List.map_append]
        exact r1
      · rcases r3 with r3 | r3
        · have : g0 = g := by simpa [Value.ownBlock] using r3
          exact .inl ⟨r3, this ▸ hns⟩
        · exact .inr (by omega)
    · obtain ⟨v', w', hrun, r1, r2⟩ := run_append_arg_grows (P := Tryz.prog) w 32 ty 9 i0 (.string ⟨#[]⟩) 1 16 Tryz.underlying32 hi0 hz0 hz1 hz2 rfl (by omega) ⟨g0, 0, none⟩ ls.length cap (ls.map Value.string) (by simp) (fun j u hj => hown.cells (g := g0) rfl j u hj) ⟨gx, 0, none⟩ ns.length cx (ns.map Value.string) (by simp) hcx (by omega) (by unfold maxLen; omega) (by omega)
      obtain ⟨g, c, rfl, h3, h4, h5⟩ := key v' w' r1 r2
      exact ⟨g, c, w', hrun, h3, Fr.of_none r2, .inr h4, h5⟩
theorem wp_strs {o : Oper} {a : Act} {K : Act → World → Prop} {Q : Exit → Act → World → Prop} (w : World) (s x : Operand)
    (ho : o.op = .call { callee := .builtin .append, args := #[s, x], argTypes := #[32, 32] }) (b : Nat) (v xv : Value) (ls ns : List ByteArray) (hs : a.eval s = v) (hown : SRow w b v ls) (hnz : ∀ g, v.ownBlock = some g → ls ≠ []) (hx : a.eval x = xv) (hxr : SRow w b xv ns) (hne : ns ≠ []) (h1 : ls.length ≤ 1000000) (h2 : ns.length ≤ 1000000) (hB : b + 1 ≤ w.heap.size)
    (h : ∀ g c w', SRow w' b (.slice (some ⟨g, 0, none⟩) (ls.length + ns.length) c) (ls ++ ns) → Fr (fun k => v.ownBlock = some k) w w' → ((v.ownBlock = some g ∧ ¬ Str w g) ∨ w.heap.size ≤ g) → g < w'.heap.size → K (a.put o.dst (.slice (some ⟨g, 0, none⟩) (ls.length + ns.length) c)) w') : o.wp Tryz.prog a w K Q := by
  obtain ⟨g, c, w', hr, r1, r2, r3, r4⟩ := run_strs o.type w b v xv ls ns hown hnz hxr hne h1 h2 hB
  unfold Oper.wp execOp
  simp only [ho, resolve, invoke, builtin, Sem.run_bind, Sem.run_pure, Result.andThen_ok, List.map_toArray, List.map_cons, List.map_nil, hs, hx, hr]
  exact h g c w' r1 r2 r3 r4
theorem wpList_strs {ops : Array Oper} {rest : List Oper} {o : Oper} {a : Act} {Q : Exit → Act → World → Prop} (w : World) (hgd : o.guard = none) (s x : Operand)
    (ho : o.op = .call { callee := .builtin .append, args := #[s, x], argTypes := #[32, 32] }) (b : Nat) (v xv : Value) (ls ns : List ByteArray) (hs : a.eval s = v) (hown : SRow w b v ls) (hnz : ∀ g, v.ownBlock = some g → ls ≠ []) (hx : a.eval x = xv) (hxr : SRow w b xv ns) (hne : ns ≠ []) (h1 : ls.length ≤ 1000000) (h2 : ns.length ≤ 1000000) (hB : b + 1 ≤ w.heap.size)
    (h : ∀ g c w', SRow w' b (.slice (some ⟨g, 0, none⟩) (ls.length + ns.length) c) (ls ++ ns) → Fr (fun k => v.ownBlock = some k) w w' → ((v.ownBlock = some g ∧ ¬ Str w g) ∨ w.heap.size ≤ g) → g < w'.heap.size → wpList Tryz.prog ops Q rest (a.put o.dst (.slice (some ⟨g, 0, none⟩) (ls.length + ns.length) c)) w') : wpList Tryz.prog ops Q (o :: rest) a w :=
  wpList_plain hgd fun _ hK => wp_strs w s x ho b v xv ls ns hs hown hnz hx hxr hne h1 h2 hB fun g c w' r1 r2 r3 r4 => hK _ _ (h g c w' r1 r2 r3 r4)
theorem step_strs {ops : Array Oper} {o : Oper} {a : Act} {K : Act → World → Prop} {Q : Exit → Act → World → Prop} {E : Prop} (w : World) (hgd : o.guard = none) (s x : Operand)
    (ho : o.op = .call { callee := .builtin .append, args := #[s, x], argTypes := #[32, 32] }) (b : Nat) (v xv : Value) (ls ns : List ByteArray) (hs : a.eval s = v) (hown : SRow w b v ls) (hnz : ∀ g, v.ownBlock = some g → ls ≠ []) (hx : a.eval x = xv) (hxr : SRow w b xv ns) (hne : ns ≠ []) (h1 : ls.length ≤ 1000000) (h2 : ns.length ≤ 1000000) (hB : b + 1 ≤ w.heap.size)
    (h : ∀ g c w', SRow w' b (.slice (some ⟨g, 0, none⟩) (ls.length + ns.length) c) (ls ++ ns) → Fr (fun k => v.ownBlock = some k) w w' → ((v.ownBlock = some g ∧ ¬ Str w g) ∨ w.heap.size ≤ g) → g < w'.heap.size → K (a.put o.dst (.slice (some ⟨g, 0, none⟩) (ls.length + ns.length) c)) w') :
    if Region.wanted o (yielded ops a.tmps) = true then Oper.wp Tryz.prog o a w K Q else E := by
  have hw : Region.wanted o (yielded ops a.tmps) = true := by simp [Region.wanted, hgd]
  rw [if_pos hw]
  exact wp_strs w s x ho b v xv ls ns hs hown hnz hx hxr hne h1 h2 hB h
abbrev NmF := Int × List TkP → Bool × Int × List TkP
def MoreN (W : World) (b n : Nat) (Op On : Nat → Prop) (v : Value) (mf : NmF) : Prop :=
  ∀ W1 x ts T, Fr (fun k => k = b ∨ k = n) W W1 → PS W1 b Op ts T → NU W1 b n On x →
    CallV v #[] W1 fun e w' => e = .returned (.bool (mf (x.num, ts)).1) ∧ PS w' b Op (mf (x.num, ts)).2.2 T ∧ NU w' b n On { x with num := (mf (x.num, ts)).2.1 } ∧ Fr (fun k => k = b ∨ k = n) W1 w'
def wpNms (mf : NmF) : Nat → Int → List TkP → List ByteArray → (Int → List ByteArray → List TkP → Prop) → (Int → Prop) → Prop
  | 0, _, _, _, _, _ => False
  | k + 1, m, ts, acc, K, E => ∃ t r, ts = t :: r ∧ (t.1 ≠ 1 → E t.2.1) ∧ (t.1 = 1 → ((mf (m, r)).1 = true → wpNms mf k (mf (m, r)).2.1 (mf (m, r)).2.2 (acc ++ [bts t.2.2.2]) K E) ∧ ((mf (m, r)).1 = false → K (mf (m, r)).2.1 (acc ++ [bts t.2.2.2]) (mf (m, r)).2.2))
def NmsPost (b n : Nat) (Op On : Nat → Prop) (x : Nd) (T : List Nd) (K : Int → List ByteArray → List TkP → Prop) (E : Int → Prop) (w : World) (e : Ending) (w' : World) : Prop :=
  Fr (fun k => k = b ∨ k = n) w w' ∧ ∃ m, NU w' b n On { x with num := m } ∧ ((∃ v xs ts, e = .returned (.tuple #[v, .nilIface]) ∧ PS w' b Op ts T ∧ SRow w' b v xs ∧ (∀ g, v.ownBlock = some g → w.heap.size ≤ g) ∧ xs ≠ [] ∧ xs.length ≤ 100000 ∧ K m xs ts) ∨
    (∃ l er, e = .returned (.tuple #[.slice none 0 0, er]) ∧ Mis w.heap.size w' er l ∧ E l))
set_option maxHeartbeats 4000000 in
theorem names_row (b n : Nat) (Op On : Nat → Prop) (x : Nd) (ts : List TkP) (T : List Nd) (more : Value) (mf : NmF) (K : Int → List ByteArray → List TkP → Prop) (E : Int → Prop) (m : Nat) (hm : m ≤ 100000) (w : World) (hp : PS w b Op ts T) (hn : NU w b n On x) (hd : ∀ k, Op k → ¬ On k) (h2 : MoreN w b n Op On more mf) (hk : wpNms mf m x.num ts [] K E) :
    Calls Tryz.prog 122 #[.func (.func 119) #[.pointer (some ⟨b, 0, none⟩)] #[], more] w (NmsPost b n Op On x T K E w) := by
  have HP := Lib.hid hp
  have HN := Lib.hid hn
  have H2 := Lib.hid h2
  have HK := Lib.hid hk
  have HD := Lib.hid hd
  have hbw := (hp.own b hp.at_).2
  have hbn := hn.own n hn.at_
  clear hp hn h2 hk hd
  go_enter Tryz.func122, Tryz.ntmps122
  go_wp2_with fail
  go_loopg [6] m (fun z tv wr => ∃ (nu : Int) (xs : List ByteArray) (tr : List TkP), PS wr b Op tr T ∧ NU wr b n On { x with num := nu } ∧ Fr (fun k => k = b ∨ k = n) w wr ∧ SRow wr b tv xs ∧ (∀ g, tv.ownBlock = some g → w.heap.size ≤ g ∧ ¬ Op g ∧ ¬ On g ∧ xs ≠ []) ∧ xs.length + z ≤ m ∧ wpNms mf z nu tr xs K E)
  case atStart => exact ⟨x.num, [], ts, HP.out, HN.out, Fr.refl _ _, World.ownsRow_nil _ _ _ _, fun g hg => by simp [Value.ownBlock] at hg, by simp, HK.out⟩
  case round =>
    obtain ⟨nu, xs, tr, hp1, hn1, hf1, hr1, ho1, hz, hk1⟩ := hrel
    have HN1 := Lib.hid hn1
    have HF1 := Lib.hid hf1
    have HR1 := Lib.hid hr1
    have HO1 := Lib.hid ho1
    cases gk with
    | zero => exact hk1.elim
    | succ z =>
      obtain ⟨t, r, rfl, hbad, hok⟩ := hk1
      have HC := Lib.hid (name_p b Op t r T wr hp1)
      obtain ⟨f2, first2, cap2, rfl, ent2, _⟩ := H2.out wr _ _ T hf1 hp1 hn1
      have HBAD := Lib.hid hbad
      have HOK := Lib.hid hok
      have hbo : ∀ g, u6.ownBlock = some g → g ≠ b := fun g hg e => by have := (hr1.lt g hg).1; omega
      have HP1 := Lib.hid hp1
      clear hp1 hn1 hf1 hr1 ho1 hbad hok
      unfold Enters at ent2
      go_wp2_with fail
      refine HC.out.mono ?_; rintro e w2 ⟨f2', h2⟩
      have hfr2 : Fr (fun k => k = b ∨ k = n) w w2 := HF1.out.trans f2' (fun k hk => .inl (.inl hk))
      have F2 := Lib.hid hfr2
      have N2 := Lib.hid (HN1.out.kept f2' fun k hk e => HD.out b HP.out.at_ (e ▸ hk))
      rcases h2 with ⟨g1, rfl, p2⟩ | ⟨g1, er, rfl, mis⟩
      · have hrow2 : SRow w2 b u6 xs := row_kept HR1.out fun g hg => f2'.block g (HR1.out.lt g hg).2 (hbo g hg)
        have HR2 := Lib.hid hrow2
        have P2 := Lib.hid p2
        have hok := HOK.out g1
        have HOK2 := Lib.hid hok
        have hsz2 : b + 1 ≤ w2.heap.size := by have := (p2.own b p2.at_).2; omega
        have hsw : w.heap.size ≤ w2.heap.size := hfr2.size
        obtain ⟨S, hS⟩ : ∃ S, S = bts t.2.2.2 := ⟨_, rfl⟩
        rw [← hS]
        have HS := Lib.hid hS
        clear f2' hrow2 p2 hok hfr2 hS hbo
        go_wp2_with (at_builtin; refine wpList_strs _ rfl _ _ rfl b u6 (.slice (some ⟨w2.heap.size, 0, none⟩) 1 1) xs [S] rfl (HR2.out.alloc _) (fun g hg => (HO1.out g hg).2.2.2) rfl ⟨rfl, .inr ⟨w2.heap.size, 1, #[.string S], rfl, hsz2, World.alloc_heap_new w2 _, by simp, by unfold maxLen; omega, rfl, rfl⟩⟩ (by simp) (by omega) (by simp) (by simp; omega) ?_; intro g4 c4 w4 h4 f4 o4 l4; have H4 := Lib.hid h4; have F4 := Lib.hid f4; have O4 := Lib.hid o4; have L4 := Lib.hid l4; clear h4 f4 o4 l4)
        have fw4 : Fr (fun k => u6.ownBlock = some k) w2 w4 := ((Fr.refl _ w2).alloc (.cells #[.string S] 9)).trans F4.out (Ext.refl _ _)
        have p4 : PS w4 b Op r T := P2.out.kept fw4 (fun k hk e => (HO1.out k e).2.1 hk) fun k e => by have := (HR2.out.lt k e).1; omega
        have n4 : NU w4 b n On { x with num := nu } := N2.out.kept fw4 fun k hk e => (HO1.out k e).2.2.1 hk
        have f5 : Fr (fun k => k = b ∨ k = n) w w4 := F2.out.trans (O1 := fun k => u6.ownBlock = some k) fw4 fun k hk => .inr (HO1.out k hk).1
        have P4 := Lib.hid p4
        have N4 := Lib.hid n4
        have F5 := Lib.hid f5
        obtain ⟨_, _, _, e2, _, hcall2⟩ := H2.out w4 _ _ T f5 p4 n4
        injection e2 with e3 e4 e5
        injection e3 with e3
        subst e3 e4 e5
        rw [show first2 ++ (#[] : Array Value) = first2 by simp] at hcall2
        have HCall2 := Lib.hid hcall2
        obtain ⟨br, hbr⟩ : ∃ br, br = (mf (nu, r)).1 := ⟨_, rfl⟩
        dsimp only at HCall2
        rw [← hbr] at HCall2
        have HBR := Lib.hid hbr
        clear p4 n4 f5 hcall2 hbr fw4
        refine HCall2.out.mono ?_; rintro e w5 ⟨rfl, p5, n5, fr5⟩
        have ho5 : w.heap.size ≤ g4 ∧ ¬ Op g4 ∧ ¬ On g4 := by
          rcases O4.out with ⟨h, _⟩ | h
          · exact ⟨(HO1.out g4 h).1, (HO1.out g4 h).2.1, (HO1.out g4 h).2.2.1⟩
          · have h' : w2.heap.size ≤ g4 := by simp at h; omega
            exact ⟨by omega, fun h2 => by have := (P2.out.own g4 h2).2; omega, fun h2 => by have := (N2.out.own g4 h2).2; omega⟩
        have HO5 := Lib.hid ho5
        have HR5 := Lib.hid (show SRow w5 b (.slice (some ⟨g4, 0, none⟩) (xs.length + 1) c4) (xs ++ [S]) from row_kept H4.out fun g hg => by
          have hg' : g = g4 := by simpa [Value.ownBlock] using hg.symm
          subst hg'
          refine fr5.block g L4.out (fun e => ?_)
          rcases e with e | e
          · exact ho5.2.1 (e ▸ HP.out.at_)
          · exact ho5.2.2 (e ▸ HN.out.at_))
        have P5 := Lib.hid p5
        have N5 := Lib.hid n5
        have F6 := Lib.hid (F5.out.trans fr5 (Ext.refl _ _))
        clear p5 n5 fr5 ho5
        cases br with
        | true =>
          go_wp2_with fail
          go_roundg z
          case measure => omega
          case rel => exact ⟨_, xs ++ [S], _, P5.out, N5.out, F6.out, HR5.out, fun g hg => by
            have hg' : g = g4 := by simpa [Value.ownBlock] using hg.symm
            subst hg'
            exact ⟨HO5.out.1, HO5.out.2.1, HO5.out.2.2, by simp⟩, by simp; omega, by
            have := HOK2.out.1 HBR.out.symm
            rw [← HS.out] at this
            exact this⟩
        | false =>
          go_wp2_with fail
          go_ret2
          refine ⟨F6.out, _, N5.out, .inl ⟨_, xs ++ [S], _, rfl, P5.out, HR5.out, fun g hg => ?_, by simp, by simp; omega, ?_⟩⟩
          · have hg' : g = g4 := by simpa [Value.ownBlock] using hg.symm
            subst hg'
            exact HO5.out.1
          · have := HOK2.out.2 HBR.out.symm
            rw [← HS.out] at this
            exact this
      · obtain ⟨g', rfl, hg1, hg2⟩ := mis
        have M2 := Lib.hid hg2
        have HG := Lib.hid (Nat.le_trans HF1.out.size hg1)
        have HE := Lib.hid (HBAD.out g1)
        clear f2' hg1 hg2 hfr2 hbo
        go_wp2_with fail
        go_ret2
        exact ⟨F2.out, nu, N2.out, .inr ⟨_, _, rfl, ⟨g', rfl, HG.out, M2.out⟩, HE.out⟩⟩
end Go.Proofs.YtfpeecjafccfjaaGreatDoor
namespace Go.Proofs.YtfpeecjafccfjaaGreatDoor
open Go.RowKit
def Gw {α : Type} (g : GL α) (ts : List TkP) (K : α → List TkP → Prop) (E : Int → Prop) : Prop := (∀ a ts', PL g ts (.ok (a, ts')) → K a ts') ∧ (∀ l, PL g ts (.error l) → E l)
section
variable {α : Type} {K : α → List TkP → Prop} {E : Int → Prop}
theorem Gw.tok {f : TkP → GL α} {t : TkP} {ts : List TkP} (h : Gw (.tok f) (t :: ts) K E) : Gw (f t) ts K E := ⟨fun a ts' p => h.1 a ts' (.tok p), fun l p => h.2 l (.tok p)⟩
theorem Gw.look {f : TkP → GL α} {t : TkP} {ts : List TkP} (h : Gw (.look f) (t :: ts) K E) : Gw (f t) (t :: ts) K E := ⟨fun a ts' p => h.1 a ts' (.look p), fun l p => h.2 l (.look p)⟩
theorem Gw.ret {a : α} {ts : List TkP} (h : Gw (.ret a) ts K E) : K a ts := h.1 a ts .ret
theorem Gw.bad {t : TkP} {ts : List TkP} (h : Gw (.bad : GL α) (t :: ts) K E) : E t.2.1 := h.2 _ .bad
theorem Gw.call {n : NT} {k : VT n → GL α} {ts : List TkP} (h : Gw (.call n k) ts K E) : Gw (bodyL n) ts (fun v ts' => ZResOf n ts.length v ts'.length ∧ Gw (k v) ts' K E) E :=
  ⟨fun _ _ p => ⟨p.holds z_all, fun a ts2 q => h.1 a ts2 (.call p q), fun l q => h.2 l (.call p q)⟩, fun l p => h.2 l (.callBad p)⟩
theorem Gw.mono {g : GL α} {ts : List TkP} {K' : α → List TkP → Prop} (h : Gw g ts K E) (hk : ∀ a ts', PL g ts (.ok (a, ts')) → K a ts' → K' a ts') : Gw g ts K' E := ⟨fun a ts' p => hk a ts' p (h.1 a ts' p), h.2⟩
theorem Gw.pos {c : Prop} [Decidable c] {g g' : GL α} {ts : List TkP} (h : Gw (if c then g else g') ts K E) (hc : c) : Gw g ts K E := by rwa [if_pos hc] at h
theorem Gw.neg {c : Prop} [Decidable c] {g g' : GL α} {ts : List TkP} (h : Gw (if c then g else g') ts K E) (hc : ¬ c) : Gw g' ts K E := by rwa [if_neg hc] at h
theorem Gw.want {x : List UInt8} {k : TkP → GL α} {t : TkP} {ts : List TkP} (h : Gw (want x k) (t :: ts) K E) : (isW x t = true → Gw (k t) ts K E) ∧ (isW x t = false → E t.2.1) :=
  ⟨fun hw => (h.look.pos hw).tok, fun hw => (h.look.neg (by simp [hw])).bad⟩
theorem Gw.name {k : TkP → GL α} {t : TkP} {ts : List TkP} (h : Gw (name k) (t :: ts) K E) : (t.1 = 1 → Gw (k t) ts K E) ∧ (t.1 ≠ 1 → E t.2.1) :=
  ⟨fun hw => (h.look.pos hw).tok, fun hw => (h.look.neg hw).bad⟩
theorem Gw.take {x : List UInt8} {a b : GL α} {t : TkP} {ts : List TkP} (h : Gw (take x a b) (t :: ts) K E) : (isW x t = true → Gw a ts K E) ∧ (isW x t = false → Gw b (t :: ts) K E) :=
  ⟨fun hw => (h.look.pos hw).tok, fun hw => h.look.neg (by simp [hw])⟩
theorem Gw.self (g : GL α) (ts : List TkP) : Gw g ts (fun a ts' => PL g ts (.ok (a, ts'))) (fun l => PL g ts (.error l)) := ⟨fun _ _ h => h, fun _ h => h⟩
end
def Lin (ts : List TkP) : Prop := ∀ t ∈ ts, t.2.1 ≠ 0 ∧ (t.1 = 2 → t.2.2.2 ≠ [61])
structure Wf (ts : List TkP) : Prop where
  fin : Fin ts
  lin : Lin ts
theorem Wf.tail {t : TkP} {ts : List TkP} (h : Wf (t :: ts)) (ht : t.1 ≠ 0) : Wf ts := ⟨h.fin.tail ht, fun u hu => h.lin u (List.mem_cons_of_mem _ hu)⟩
theorem PL.wf {n : NT} {ts ts' : List TkP} {v : VT n} (h : PL (bodyL n) ts (.ok (v, ts'))) (hf : Wf ts) : Wf ts' := by
  refine ⟨h.fin hf.fin, ?_⟩
  obtain ⟨c, rfl⟩ := h.tail v ts' rfl
  exact fun u hu => hf.lin u (List.mem_append_right _ hu)
def wpG (N : Nat) (g : GL Ast) : WpA := fun ts n K E => ts.length < N ∧ n + 2 * ts.length ≤ 60000 ∧ Lin ts ∧ Gw g ts K E
def commaF : List TkP → Bool × List TkP
  | [] => (false, [])
  | t :: r => if isW [44] t then (true, r) else (false, t :: r)
def hdZ (k : Int) : Nd := ⟨k, 0, 0, 0, ⟨#[]⟩, [], []⟩
def hdL (k l : Int) : Nd := ⟨k, l, 0, 0, ⟨#[]⟩, [], []⟩
abbrev gExp (s : Nat) : GL Ast := bodyL (.exp s)
def expP (N : Nat) : Wp1 := wpKid (wpG N (gExp 1))
def listP (N : Nat) : Wp1 := wpKids (wpG N (gExp 1)) commaF
abbrev gSts (l : List Ast) : GL (List Ast) := bodyL (.sts l)
def stsP (N : Nat) : Wp1 := fun s K E => s.ts.length < N ∧ s.n + 2 * s.ts.length ≤ 60000 ∧ s.xs.length + 2 * s.ts.length ≤ 60000 ∧ Lin s.ts ∧
  Gw (gSts s.xs) s.ts (fun l ts' => ∀ n', n' + Ast.sizeL s.xs = s.n + Ast.sizeL l → K ⟨s.h, l, ts', n'⟩) E
def blkP (N : Nat) : Wp1 := wpKid (wpHang (hdZ 18) [stsP N])
structure Rm (N k : Nat) (s : St) : Prop where
  len : s.ts.length < N
  n : s.n + 2 * s.ts.length + k ≤ 60000
  xs : s.xs.length + 2 * s.ts.length + k ≤ 60000
  wf : Wf s.ts
theorem Rm.less {N k j : Nat} {s : St} (h : Rm N k s) (hj : j ≤ k) : Rm N j s := ⟨h.len, by have := h.n; omega, by have := h.xs; omega, h.wf⟩
theorem sz1 (a : Ast) : Ast.sizeL [a] = a.size := by rw [sizeL_cons, sizeL_nil, Nat.add_zero]
theorem size_pos : ∀ a : Ast, 1 ≤ a.size
  | .mk h ks => by rw [Ast.size]; omega
theorem len_size : ∀ l : List Ast, l.length ≤ Ast.sizeL l
  | [] => Nat.zero_le _
  | a :: l => by have := len_size l; have := size_pos a; rw [sizeL_cons, List.length_cons]; omega
theorem Rm.tok {N k : Nat} {h h' : Nd} {xs : List Ast} {t : TkP} {ts : List TkP} {n : Nat} (hI : Rm N k ⟨h, xs, t :: ts, n⟩) (ht : t.1 ≠ 0) : Rm N (k + 2) ⟨h', xs, ts, n⟩ :=
  ⟨by have := hI.len; simp at this ⊢; omega, by have := hI.n; simp at this ⊢; omega, by have := hI.xs; simp at this ⊢; omega, hI.wf.tail ht⟩
theorem Rm.tok' {N k : Nat} {h h' : Nd} {xs : List Ast} {t : TkP} {ts : List TkP} {n : Nat} (hI : Rm (N + 1) k ⟨h, xs, t :: ts, n⟩) (ht : t.1 ≠ 0) : Rm N (k + 2) ⟨h', xs, ts, n⟩ :=
  ⟨by have := hI.len; simp at this ⊢; omega, by have := hI.n; simp at this ⊢; omega, by have := hI.xs; simp at this ⊢; omega, hI.wf.tail ht⟩
theorem Rm.cons {N k : Nat} {s : St} (hI : Rm N k s) : ∃ t ts, s.ts = t :: ts := hI.wf.fin.cons
theorem Rm.kids {N k j : Nat} {h h' : Nd} {xs ys : List Ast} {ts ts' : List TkP} {n : Nat} (hI : Rm N k ⟨h, xs, ts, n⟩) (hz : Ast.sizeL ys + 2 * ts'.length + j ≤ 2 * ts.length + k) (hl : ts'.length ≤ ts.length) (hf : Wf ts') : Rm N j ⟨h', xs ++ ys, ts', n + Ast.sizeL ys⟩ :=
  ⟨by have := hI.len; dsimp only at this ⊢; omega, by have := hI.n; dsimp only at this ⊢; omega, by have := hI.xs; have := len_size ys; rw [List.length_append]; dsimp only at *; omega, hf⟩
theorem PL.short {n : NT} {ts ts' : List TkP} {v : VT n} (h : PL (bodyL n) ts (.ok (v, ts'))) : ts'.length ≤ ts.length := by
  obtain ⟨c, rfl⟩ := h.tail v ts' rfl
  rw [List.length_append]
  omega
def KidK (wp : WpA) (s : St) (K : St → Prop) (E : Int → Prop) (a : Ast) (ts1 : List TkP) : Prop :=
  ((noMore ts1).1 = true → wpRow wp noMore 0 (noMore ts1).2 (s.n + a.size) ([] ++ [a]) (fun xs ts => K { s with xs := s.xs ++ xs, ts := ts, n := s.n + Ast.sizeL xs }) E) ∧ ((noMore ts1).1 = false → (fun xs ts => K { s with xs := s.xs ++ xs, ts := ts, n := s.n + Ast.sizeL xs }) ([] ++ [a]) (noMore ts1).2)
theorem kid_mk {wp : WpA} {s : St} {K : St → Prop} {E : Int → Prop} (hx : s.xs.length ≤ 100000) (h : wp s.ts s.n (KidK wp s K E) E) : wpKid wp s K E := ⟨hx, 1, by omega, h⟩
theorem KidK.mk {wp : WpA} {s : St} {K : St → Prop} {E : Int → Prop} {a : Ast} {ts1 : List TkP} (h : K ⟨s.h, s.xs ++ [a], ts1, s.n + Ast.sizeL [a]⟩) : KidK wp s K E a ts1 := ⟨fun h => (Bool.false_ne_true h).elim, fun _ => h⟩
section
variable {α : Type} {K : α → List TkP → Prop} {E : Int → Prop} {K' : St → Prop} {N k n : Nat} {h : Nd} {xs : List Ast} {ts : List TkP}
theorem exp_kid {kk : Ast → GL α} (hI : Rm N k ⟨h, xs, ts, n⟩) (H : Gw (.call (.exp 1) kk) ts K E)
    (hk : ∀ (e : Ast) (ts' : List TkP), Rm N (k + 1) ⟨h, xs ++ [e], ts', n + Ast.sizeL [e]⟩ → ts'.length < ts.length → Gw (kk e) ts' K E → K' ⟨h, xs ++ [e], ts', n + Ast.sizeL [e]⟩) : expP N ⟨h, xs, ts, n⟩ K' E := by
  refine kid_mk (by have := hI.xs; dsimp only at *; omega) ⟨hI.len, by have := hI.n; dsimp only at *; omega, hI.wf.lin, ?_⟩
  refine (Gw.call H).mono fun (e : Ast) ts' p hq => ?_
  have hz : e.size + 2 * ts'.length + 1 ≤ 2 * ts.length := hq.1
  exact KidK.mk (hk e ts' (hI.kids (by rw [sz1]; omega) (PL.short p) (p.wf hI.wf)) (by omega) hq.2)
theorem blk_kid {kk : Ast → GL α} (hI : Rm N (k + 1) ⟨h, xs, ts, n⟩) (H : Gw (.call .blk kk) ts K E)
    (hk : ∀ (e : Ast) (ts' : List TkP), Rm N k ⟨h, xs ++ [e], ts', n + Ast.sizeL [e]⟩ → ts'.length ≤ ts.length → Gw (kk e) ts' K E → K' ⟨h, xs ++ [e], ts', n + Ast.sizeL [e]⟩) : blkP N ⟨h, xs, ts, n⟩ K' E := by
  obtain ⟨t, r, hts⟩ := hI.cons
  dsimp only at hts
  subst hts
  refine kid_mk (by have := hI.xs; dsimp only at *; omega) ⟨t, r, t.2.1, rfl, .inl ⟨rfl, rfl⟩, ⟨hI.len, by have := hI.n; dsimp only at *; omega, by have := hI.n; dsimp only [List.length_nil] at *; omega, hI.wf.lin, ?_⟩⟩
  refine (Gw.call (Gw.look (Gw.call H))).mono fun (l : List Ast) ts' p hq n' hn' => ?_
  have hz : Ast.sizeL l + 2 * ts'.length ≤ Ast.sizeL [] + 2 * (t :: r).length := hq.1
  have hq2 := hq.2.ret
  have hn := hI.n
  dsimp only at hn hn'
  rw [sizeL_nil] at hz hn'
  refine ⟨by dsimp only; omega, KidK.mk (hk _ ts' (hI.kids (by rw [sz1]; show Ast.size (nd 18 t.2.1 l) + _ + _ ≤ _; rw [size_nd]; omega) (PL.short p) (p.wf hI.wf)) (PL.short p) hq2.2)⟩
theorem skip_mk {t : TkP} (hI : Rm (N + 1) k ⟨h, xs, t :: ts, n⟩) (ht : t.1 ≠ 0) (hk : Rm N (k + 2) ⟨h, xs, ts, n⟩ → K' ⟨h, xs, ts, n⟩) : wpSkip ⟨h, xs, t :: ts, n⟩ K' E := ⟨t, ts, rfl, ht, hk (hI.tok' ht)⟩
theorem want_mk {x : List UInt8} {kk : TkP → GL α} (hI : Rm N k ⟨h, xs, ts, n⟩) (H : Gw (want x kk) ts K E) (hk : ∀ (t : TkP) (r : List TkP), Rm N (k + 2) ⟨h, xs, r, n⟩ → r.length < ts.length → Gw (kk t) r K E → K' ⟨h, xs, r, n⟩) : wpWords [x] ⟨h, xs, ts, n⟩ K' E := by
  obtain ⟨t, r, hts⟩ := hI.cons
  dsimp only at hts
  subst hts
  exact ⟨t, r, rfl, fun hw => hk t r (hI.tok (isW_nz hw)) (by simp) (H.want.1 hw), H.want.2⟩
theorem want2_mk {x y : List UInt8} {kk : TkP → GL α} (hI : Rm N k ⟨h, xs, ts, n⟩) (H : Gw (want x fun _ => want y kk) ts K E) (hk : ∀ (t : TkP) (r : List TkP), Rm N (k + 4) ⟨h, xs, r, n⟩ → r.length < ts.length → Gw (kk t) r K E → K' ⟨h, xs, r, n⟩) : wpWords [x, y] ⟨h, xs, ts, n⟩ K' E := by
  obtain ⟨t, r, hts⟩ := hI.cons
  dsimp only at hts
  subst hts
  refine ⟨t, r, rfl, fun hw => ?_, H.want.2⟩
  have hI2 := hI.tok (h' := h) (isW_nz hw)
  obtain ⟨t2, r2, hts⟩ := hI2.cons
  dsimp only at hts
  subst hts
  exact ⟨t2, r2, rfl, fun hw2 => hk t2 r2 (hI2.tok (isW_nz hw2)) (by simp; omega) ((H.want.1 hw).want.1 hw2), (H.want.1 hw).want.2⟩
theorem name_mk {kk : TkP → GL α} (hI : Rm N k ⟨h, xs, ts, n⟩) (H : Gw (name kk) ts K E) (hk : ∀ (t : TkP) (r : List TkP), Rm N (k + 2) ⟨{ h with s := bts t.2.2.2 }, xs, r, n⟩ → r.length < ts.length → Gw (kk t) r K E → K' ⟨{ h with s := bts t.2.2.2 }, xs, r, n⟩) : wpLabel ⟨h, xs, ts, n⟩ K' E := by
  obtain ⟨t, r, hts⟩ := hI.cons
  dsimp only at hts
  subst hts
  exact ⟨t, r, rfl, fun hw => hk t r (hI.tok (by rw [hw]; decide)) (by simp) (H.name.1 hw), H.name.2⟩
theorem row_lsm (K2 : List Ast → List TkP → Prop) : ∀ (m : Nat) (ts : List TkP) (n : Nat) (acc : List Ast), ts.length < m → ts.length < N → n + 2 * ts.length ≤ 60000 → Wf ts → Gw (.call (.exp 1) fun (e : Ast) => .call (.lsm (acc ++ [e])) fun (l : List Ast) => .ret l) ts K2 E → wpRow (wpG N (gExp 1)) commaF m ts n acc K2 E := by
  intro m
  induction m with
  | zero => intro ts n acc h; omega
  | succ m ih =>
    intro ts n acc h1 h2 h3 hf H
    refine ⟨h2, h3, hf.lin, ?_⟩
    refine (Gw.call H).mono fun (e : Ast) ts' p hq => ?_
    have hz : e.size + 2 * ts'.length + 1 ≤ 2 * ts.length := hq.1
    have hf' := p.wf hf
    obtain ⟨t, r, rfl⟩ := hf'.fin.cons
    have hg := (Gw.call hq.2).look
    cases hc : isW [44] t with
    | true =>
      have e1 : commaF (t :: r) = (true, r) := by simp [commaF, hc]
      rw [e1]
      refine ⟨fun _ => ih r (n + e.size) (acc ++ [e]) (by simp at hz; omega) (by simp at hz; omega) (by simp at hz; omega) (hf'.tail (isW_nz hc)) ((hg.pos hc).tok.mono fun l ts2 _ hl => hl.2.ret), fun hb => (Bool.false_ne_true hb.symm).elim⟩
    | false =>
      have e1 : commaF (t :: r) = (false, t :: r) := by simp [commaF, hc]
      rw [e1]
      exact ⟨fun hb => (Bool.false_ne_true hb).elim, fun _ => (hg.neg (by simp [hc])).ret.2.ret⟩
theorem list_mk {kk : List Ast → GL α} (hI : Rm N k ⟨h, xs, ts, n⟩) (H : Gw (.call .lst kk) ts K E)
    (hk : ∀ (l : List Ast) (ts' : List TkP), Rm N (k + 1) ⟨h, xs ++ l, ts', n + Ast.sizeL l⟩ → ts'.length < ts.length → Gw (kk l) ts' K E → K' ⟨h, xs ++ l, ts', n + Ast.sizeL l⟩) : listP N ⟨h, xs, ts, n⟩ K' E := by
  have hn := hI.n
  have hx := hI.xs
  dsimp only at hn hx
  refine ⟨by dsimp only; omega, ts.length + 1, by omega, ?_⟩
  refine row_lsm _ (ts.length + 1) ts n [] (by omega) hI.len (by omega) hI.wf ((Gw.call H).mono fun (l : List Ast) ts' p hq => ?_)
  have hz : Ast.sizeL l + 2 * ts'.length + 1 ≤ 2 * ts.length := hq.1
  exact hk l ts' (hI.kids (by omega) (PL.short (n := .lst) p) (PL.wf (n := .lst) p hI.wf)) (by omega) hq.2
end
end Go.Proofs.YtfpeecjafccfjaaGreatDoor
