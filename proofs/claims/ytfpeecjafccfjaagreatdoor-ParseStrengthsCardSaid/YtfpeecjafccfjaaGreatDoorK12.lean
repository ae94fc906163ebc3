/- Parts of the proof: Qw, Qx, Gy, Gz, Qs, Lv. -/
import Derived.Test.YtfpeecjafccfjaaGreatDoorK11
namespace Go.Proofs.YtfpeecjafccfjaaGreatDoor
open Go.RowKit
theorem RdParts.new' {w : World} {b : Nat} {O : Nat → Prop} (g : Nat) (hg : g = w.heap.size) (hO : ∀ k, O k → k < w.heap.size) (vs : List Value) (wps : List Wp1) (hl : vs.length ≤ 100) (h : Alls w b O vs wps) : RdParts (w.alloc (.cells vs.toArray 89)) b O (.slice (some ⟨g, 0, none⟩) vs.length vs.length) wps := by
  subst hg
  exact RdParts.new hO vs wps hl h
def declaredC (li bd : Wp1) : Wp1 := fun s K E => ∃ t ts, s.ts = t :: ts ∧ (isW wFunction t = false → WpSeq [wpNames, wpPerhaps [61] [li]] { s with h := { s.h with kind := 19 } } K E) ∧
  (isW wFunction t = true → ∃ u us, ts = u :: us ∧ (u.1 ≠ 1 → E u.2.1) ∧ (u.1 = 1 → wpKid (wpHang ⟨11, t.2.1, 0, 0, ⟨#[]⟩, [], []⟩ [bd]) { s with h := { s.h with kind := 28, names := [bts u.2.2.2] }, ts := us } K E))
theorem real_ahead {W : World} {b n : Nat} {O : Nat → Prop} {T0 : List Nd} {s : St} (h : Real W b n O T0 s) {t : TkP} {ts : List TkP} (hs : s.ts = t :: ts) : Calls Tryz.prog 31 #[.pointer (some ⟨b, 0, none⟩)] W fun e w' => e = .returned (tokV t) ∧ Below W.heap.size W w' := by
  obtain ⟨Op, T, hp⟩ := h.ps
  rw [hs] at hp
  exact ahead_p b Op t ts T W hp
set_option maxRecDepth 20000 in
set_option maxHeartbeats 8000000 in
theorem decl_local {li : Wp1} (hL : RdN 80 li) (b n : Nat) (O : Nat → Prop) (T0 : List Nd) (s : St) (K : St → Prop) (E : Int → Prop) (w : World) (hr : Real w b n O T0 s) (t : TkP) (ts : List TkP) (hs : s.ts = t :: ts) (hq : isW wFunction t = false) (hk : WpSeq [wpNames, wpPerhaps [61] [li]] { s with h := { s.h with kind := 19 } } K E) :
    Calls Tryz.prog 92 #[.pointer (some ⟨b, 0, none⟩), .pointer (some ⟨n, 0, none⟩)] w (PartPost b n O T0 K E w) := by
  have HA := Lib.hid (real_ahead hr hs)
  have HT := Lib.hid (fun (W : World) (hW : Real W b n O T0 s) => real_no hW hs wFunction ⟨#[102, 117, 110, 99, 116, 105, 111, 110]⟩ rfl (by decide) hq)
  have HK := Lib.hid hk
  have HR := Lib.hid hr
  obtain ⟨t0, t1, t2, t3⟩ := t
  unfold tokV at HA
  dsimp only at HA
  have F9 := fld1 t0 t1 t2 (bts t3)
  generalize bts t3 = S at *
  clear hr hk hs hq
  go_enter Tryz.func92, Tryz.ntmps92
  go_wp2_with fail
  refine HA.out.mono ?_; rintro e wa ⟨rfl, b1⟩
  have B1 := Lib.hid b1
  have HT1 := Lib.hid (HT.out wa (HR.out.below b1))
  clear b1 HT
  go_wp2_with fail
  refine HT1.out.mono ?_; rintro e wx ⟨rfl, r2, f2⟩
  obtain ⟨⟨v0, k0⟩, y0, hnl, f4, r4⟩ := r2.kind 19
  have F0 := Lib.hid ((Fr.of_below (O := O) B1.out).trans (f2.trans f4 (Ext.refl _ _)) (Ext.refl _ _))
  have P0 := Lib.hid r4
  have V1 := Lib.hid (perhaps_at' _ wx.heap.size (by simp) b O r4.lt [mval 80 b] [li] (by simp) ⟨hL.part (enters_of Tryz.func80 (by kernel_rfl) rfl) _ b O, trivial⟩ [61] (by decide) ⟨#[61]⟩ rfl)
  clear f2 r2 f4 r4
  go_wp2_with fail
  refine V1.out.mono ?_; rintro e w1 ⟨f1, a1, c1, rfl, b1, h1⟩
  have F1 := Lib.hid (F0.out.trans (Fr.of_below (O := O) b1) (Ext.refl _ _))
  have P1 := Lib.hid (P0.out.below b1)
  have HN := Lib.hid (fill_at w w1 P1.out F1.out (Ext.refl _ _) [mval 89 b, .func (.func f1) a1 c1] [wpNames, wpPerhaps [61] [li]] (by simp) ⟨names_p.part (enters_of Tryz.func89 (by kernel_rfl) rfl) w1 b O, h1, trivial⟩ HK.out)
  clear b1 h1 V1 k0 y0
  go_wp2_with fail
  refine HN.out.mono ?_; intro e wz hz
  obtain ⟨v, rfl⟩ := hz.ret
  have HZ := Lib.hid hz
  clear hz
  go_wp2_with fail
  go_ret
  exact HZ.out
theorem Real.one_name {W : World} {b n : Nat} {O : Nat → Prop} {T0 : List Nd} {s : St} (h : Real W b n O T0 s) (S : ByteArray) : n < W.heap.size ∧ (∃ v, W.cell? ⟨n, 5, none⟩ = some v) ∧ W.frozen? ⟨n, 5, none⟩ = false ∧
    Fr O W ((W.setCell ⟨n, 5, none⟩ (.slice (some ⟨W.heap.size, 0, none⟩) 1 1)).alloc (.cells #[.string S] 9)) ∧ ∃ O2, Ext O O2 W ∧ Real ((W.setCell ⟨n, 5, none⟩ (.slice (some ⟨W.heap.size, 0, none⟩) 1 1)).alloc (.cells #[.string S] 9)) b n O2 T0 { s with h := { s.h with names := [S] } } := by
  have hlt := h.lt
  obtain ⟨Op, On, T, ks, hO, hd, hp, hn, hl, hc⟩ := h.ex
  obtain ⟨nv, kv, hcs, _, hz⟩ := hn.cells
  have hnl := (hn.own n hn.at_).2
  have hbn := (hn.own n hn.at_).1
  have hpA := hp.below (allocB W (.cells #[.string S] 9))
  have hnA := hn.below (allocB W (.cells #[.string S] 9))
  have hb1 : b + 1 ≤ W.heap.size := (hp.own b hp.at_).2
  have hrow : SRow (W.alloc (.cells #[.string S] 9)) b (.slice (some ⟨W.heap.size, 0, none⟩) 1 1) [S] := ⟨rfl, .inr ⟨W.heap.size, 1, #[.string S], rfl, hb1, World.alloc_heap_new W _, Nat.le_refl _, by unfold maxLen; omega, rfl, rfl⟩⟩
  have hnu := nu_names hnA _ [S] hrow (by simp)
  have hfr := hnA.fr 5 (.slice (some ⟨W.heap.size, 0, none⟩) 1 1)
  have hp2 := hpA.kept (O1 := (· = n)) hfr (fun k hk e => hd k hk (e ▸ hn.at_)) fun k e => by omega
  rw [World.setCell_alloc_past _ _ _ _ hnl] at hnu hfr hp2
  refine ⟨hnl, ⟨_, hcs.c5⟩, hz 5, ((Fr.refl O W).alloc _).trans hfr (fun k e => .inl ((hO k).2 (.inr (e ▸ hn.at_)))), fun k => Op k ∨ (On k ∨ (Value.slice (some ⟨W.heap.size, 0, none⟩) 1 1).ownBlock = some k), fun k hk => ?_, Op, _, T, ks, fun _ => Iff.rfl, fun k hk e => ?_, hp2, hnu, hl, hc⟩
  · rcases hk with hk | hk | hk
    · exact .inl ((hO k).2 (.inl hk))
    · exact .inl ((hO k).2 (.inr hk))
    · exact .inr (by simp [Value.ownBlock] at hk; omega)
  · rcases e with e | e
    · exact hd k hk e
    · have := (hp.own k hk).2
      simp [Value.ownBlock] at e
      omega
theorem real_name {W : World} {b n : Nat} {O : Nat → Prop} {T0 : List Nd} {s : St} (h : Real W b n O T0 s) {t : TkP} {ts : List TkP} (hs : s.ts = t :: ts) : Calls Tryz.prog 119 #[.pointer (some ⟨b, 0, none⟩)] W fun e w' => Fr O W w' ∧
    ((t.1 = 1 ∧ e = .returned (.tuple #[.string (bts t.2.2.2), .nilIface]) ∧ Real w' b n O T0 { s with ts := ts }) ∨ (t.1 ≠ 1 ∧ ∃ er, e = .returned (.tuple #[.string ⟨#[]⟩, er]) ∧ Mis W.heap.size w' er t.2.1)) := by
  obtain ⟨Op, On, T, ks, hO, hd, hp, hn, hl, hc⟩ := h.ex
  rw [hs] at hp
  refine (name_p b Op t ts T W hp).mono ?_
  rintro e w' ⟨hf, h1⟩
  refine ⟨hf.mono fun k hk => (hO k).2 (.inl (hk ▸ hp.at_)), h1.imp ?_ id⟩
  rintro ⟨a1, a2, a3⟩
  exact ⟨a1, a2, ⟨Op, On, T, ks, hO, hd, a3, hn.kept hf fun k hk e => hd b hp.at_ (e ▸ hk), hl, hc⟩⟩
set_option maxRecDepth 20000 in
set_option maxHeartbeats 8000000 in
theorem decl_func {bd : Wp1} (hBd : RdN 125 bd) (b n : Nat) (O : Nat → Prop) (T0 : List Nd) (s : St) (K : St → Prop) (E : Int → Prop) (w : World) (hr : Real w b n O T0 s) (t u : TkP) (us : List TkP) (hs : s.ts = t :: u :: us) (hq : isW wFunction t = true) (hbad : u.1 ≠ 1 → E u.2.1)
    (hk : u.1 = 1 → wpKid (wpHang ⟨11, t.2.1, 0, 0, ⟨#[]⟩, [], []⟩ [bd]) { s with h := { s.h with kind := 28, names := [bts u.2.2.2] }, ts := us } K E) :
    Calls Tryz.prog 92 #[.pointer (some ⟨b, 0, none⟩), .pointer (some ⟨n, 0, none⟩)] w (PartPost b n O T0 K E w) := by
  have HA := Lib.hid (real_ahead hr hs)
  have HT := Lib.hid (fun (W : World) (hW : Real W b n O T0 s) => real_yes hW hs wFunction ⟨#[102, 117, 110, 99, 116, 105, 111, 110]⟩ rfl (by decide) hq)
  have HK := Lib.hid hk
  have HB := Lib.hid hbad
  have HR := Lib.hid hr
  obtain ⟨t0, t1, t2, t3⟩ := t
  unfold tokV at HA
  dsimp only at HA HK
  have F9 := fld1 t0 t1 t2 (bts t3)
  generalize bts t3 = S at *
  clear hr hk hs hq hbad
  go_enter Tryz.func92, Tryz.ntmps92
  go_wp2_with fail
  refine HA.out.mono ?_; rintro e wa ⟨rfl, b1⟩
  have B1 := Lib.hid b1
  have HT1 := Lib.hid (HT.out wa (HR.out.below b1))
  clear b1 HT
  go_wp2_with fail
  refine HT1.out.mono ?_; rintro e wx ⟨rfl, r2, f2⟩
  obtain ⟨⟨v0, k0⟩, y0, hnl, f4, r4⟩ := r2.kind 28
  have F0 := Lib.hid ((Fr.of_below (O := O) B1.out).trans (f2.trans f4 (Ext.refl _ _)) (Ext.refl _ _))
  have HNm := Lib.hid (real_name r4 rfl)
  clear f2 r2 f4 r4
  go_wp2_with fail
  refine HNm.out.mono ?_; rintro e w1 ⟨f5, h5⟩
  have F1 := Lib.hid (F0.out.trans f5 (Ext.refl _ _))
  rcases h5 with ⟨g1, rfl, r5⟩ | ⟨g1, er, rfl, ⟨g', rfl, m1, m2⟩⟩
  · obtain ⟨S2, hS2⟩ : ∃ S2, S2 = bts u.2.2.2 := ⟨_, rfl⟩
    rw [← hS2]
    have HK1 := HK.out g1
    rw [← hS2] at HK1
    have HKK := Lib.hid HK1
    obtain ⟨hn1, ⟨v5, k5⟩, y5, f6, O2, x2, r6⟩ := r5.one_name S2
    have X2 : Hid (Ext O O2 w) := Lib.hid ((Ext.refl O w).trans x2 F1.out.size)
    have F6 := Lib.hid (F1.out.trans f6 (Ext.refl _ _))
    have HP := RdParts.new' (w := (w1.setCell ⟨n, 5, none⟩ (.slice (some ⟨w1.heap.size, 0, none⟩) 1 1)).alloc (.cells #[.string S2] 9)) (b := b) (O := O2) (w1.heap.size + 1) (by simp) r6.lt [mval 125 b] [bd] (by simp) ⟨hBd.part (enters_of Tryz.func125 (by kernel_rfl) rfl) _ b O2, trivial⟩
    have HH := Lib.hid (hang_p b O2 ⟨11, t1, 0, 0, ⟨#[]⟩, [], []⟩ (.slice none 0 0) _ [bd] _ (Nam.nil _ b) HP (fun k hk => by have := r6.lt k hk; simp at this ⊢; omega))
    have R6 := Lib.hid r6
    clear HP r6 f6 r5 f5 HK1 hS2 k0 y0 x2
    go_wp2_with fail
    refine HH.out.mono ?_; rintro e w7 ⟨v, rfl, b7, h7⟩
    obtain ⟨f, first, cap, rfl, ent, hcall⟩ := h7.1.call R6.out (thenBR (allocB _ _) b7) HKK.out
    have HCall := Lib.hid hcall
    clear h7 hcall b7
    unfold Enters at ent
    go_wp2_with fail
    refine HCall.out.mono ?_; intro e w8 h8
    obtain ⟨v, rfl⟩ := h8.ret
    have H8 := Lib.hid h8
    clear h8
    go_wp2_with fail
    go_ret
    exact post_ext H8.out F6.out X2.out
  · have M2 := Lib.hid m2
    have M1 := Lib.hid m1
    have KB := Lib.hid (HB.out g1)
    clear m1 m2 f5 k0 y0
    go_wp2_with fail
    go_ret
    exact ⟨F1.out, .inr ⟨_, _, rfl, ⟨g', rfl, Nat.le_trans F0.out.size M1.out, M2.out⟩, KB.out⟩⟩
theorem declared_p {li bd : Wp1} (hL : RdN 80 li) (hBd : RdN 125 bd) : RdN 92 (declaredC li bd) := by
  rintro b n O T0 s K E w hr ⟨t, ts, hs, h1, h2⟩
  cases hq : isW wFunction t with
  | true =>
    obtain ⟨u, us, rfl, h3, h4⟩ := h2 hq
    exact decl_func hBd b n O T0 s K E w hr t u us hs hq h3 h4
  | false => exact decl_local hL b n O T0 s K E w hr t ts hs hq (h1 hq)
end Go.Proofs.YtfpeecjafccfjaaGreatDoor
namespace Go.Proofs.YtfpeecjafccfjaaGreatDoor
open Go.RowKit
theorem place_ext {b : Nat} {O O1 : Nat → Prop} {T0 : List Nd} {R : Except Int (Ast × List TkP) → Prop} {w w1 w' : World} {e : Ending} (h : PlacePost b O1 T0 R w1 e w') (hf : Fr O w w1) (he : Ext O O1 w) : PlacePost b O T0 R w e w' := by
  obtain ⟨h1, h2⟩ := h
  refine ⟨hf.trans h1 he, h2.imp ?_ ?_⟩
  · rintro ⟨p, a, ts, O2, T, e1, p1, x1, l1, k1⟩
    exact ⟨p, a, ts, O2, T, e1, p1, he.trans x1 hf.size, l1, k1⟩
  · rintro ⟨l, v, er, e1, ⟨g, m1, m2, m3⟩, k⟩
    exact ⟨l, v, er, e1, ⟨g, m1, Nat.le_trans hf.size m2, m3⟩, k⟩
set_option maxHeartbeats 4000000 in
theorem within_p (b : Nat) (O : Nat → Prop) (t : TkP) (ts : List TkP) (T0 T : List Nd) (p : Nat) (a : Ast) (K : Ast → List TkP → Prop) (E : Int → Prop) (w : World) (hp : PS w b O (t :: ts) T) (hl : Lies T0 T [a] [(p : Int)]) (hk : WpSeq [wpSkip, keyP] ⟨hdL 8 t.2.1, [a], t :: ts, T0.length + a.size⟩ (FinK K) E) :
    Calls Tryz.prog 124 #[.pointer (some ⟨b, 0, none⟩), .int .i64 (p : Int)] w (PlacePost b O T0 (RK K E) w) := by
  have hO : ∀ k, O k → k < w.heap.size := fun k hk => (hp.own k hk).2
  have hbw : b < w.heap.size := hO b hp.at_
  have hpA := hp.below (allocB w (.cells #[.int .i64 (p : Int)] 3))
  have HPV : RdParts ((w.alloc (.cells #[.int .i64 (p : Int)] 3)).alloc (.cells #[mval 37 b, mval 148 b] 89)) b (fun k => O k ∨ k = w.heap.size) (.slice (some ⟨w.heap.size + 1, 0, none⟩) 2 2) [wpSkip, keyP] :=
    RdParts.new' (w.heap.size + 1) (by simp) (fun k hk => by rcases hk with hk | rfl; have := hO k hk; simp; omega; simp) [mval 37 b, mval 148 b] [wpSkip, keyP] (by simp) ⟨skip_part _ b _, key_p.part (enters_of Tryz.func148 (by kernel_rfl) rfl) _ b _, trivial⟩
  have hg2 : ((w.alloc (.cells #[.int .i64 (p : Int)] 3)).alloc (.cells #[mval 37 b, mval 148 b] 89)).heap[w.heap.size]? = some (.cells #[.int .i64 (p : Int)] 3 (0, 0)) := ((allocB _ _).block w.heap.size (by simp)).trans (World.alloc_heap_new w _)
  have HN := Lib.hid (node1_pv _ w.heap.size p a (hpA.below (allocB _ (.cells #[mval 37 b, mval 148 b] 89))) hg2 (fun h => by have := hO _ h; omega) (by omega) hl (hdZ 8) rfl _ _ HPV hk)
  have HF : Hid (Fr O w ((w.alloc (.cells #[.int .i64 (p : Int)] 3)).alloc (.cells #[mval 37 b, mval 148 b] 89))) := Lib.hid (((Fr.refl O w).alloc _).alloc _)
  clear hp hl hk hpA HPV hg2 hO
  go_enter Tryz.func124, Tryz.ntmps124
  go_wp2_with fail
  refine HN.out.mono ?_; intro e wz hz
  obtain ⟨v, er, rfl⟩ := hz.ret
  have HZ := Lib.hid hz
  clear hz
  go_wp2_with fail
  go_ret2
  exact place_ext HZ.out HF.out fun k hk => hk.imp id fun h => by omega
def assignedC (bd : Wp1) : Wp1 := fun s K E => s.xs = [] ∧ ∃ t ts, s.ts = t :: ts ∧ t.1 ≠ 0 ∧ wpHang (hdZ 7) [wpLabel] ts s.n (fun a ts1 => ∃ m, wpFnx m a ts1 s.n (fun a2 self ts2 =>
  WpSeq [wpCount, wpKid (wpHang ⟨11, t.2.1, 0, 0, ⟨#[]⟩, self, []⟩ [bd])] ⟨s.h, [a2], ts2, s.n + Ast.sizeL [a2]⟩ K E) E) E
set_option maxRecDepth 40000 in
set_option maxHeartbeats 16000000 in
theorem assigned_p {bd : Wp1} (hBd : RdN 125 bd) : RdN 91 (assignedC bd) := by
  rintro b n O T0 ⟨sh, sxs, sts, sn⟩ K E w hr ⟨hx, t, ts, hts, ht0, u, us, lu, hus, hlu, hk⟩
  obtain ⟨Op, On, T, ks, hO, hd, hp, hn, hl, hc⟩ := hr.ex
  dsimp only at hx hts hk hp hn hl hc hus hlu
  subst hx hts hus
  obtain rfl : lu = u.2.1 := hlu.elim (fun h => h.2) (fun h => absurd rfl h.1)
  obtain ⟨rfl, rfl⟩ := hl.same
  subst hc
  obtain ⟨t0, t1, t2, t3⟩ := t
  have HA := Lib.hid (ahead_p b Op (t0, t1, t2, t3) (u :: us) T w hp)
  unfold tokV at HA
  dsimp only at HA hk ht0
  have F9 := fld1 t0 t1 t2 (bts t3)
  have hbw : b < w.heap.size := (hp.own b hp.at_).2
  have hnw : n < w.heap.size := (hn.own n hn.at_).2
  have hbn : b < n := (hn.own n hn.at_).1
  have HN0 := Lib.hid hn
  have HP0 := Lib.hid hp
  have HO := Lib.hid hO
  have HD := Lib.hid hd
  have HAT := Lib.hid hn.at_
  have HK := Lib.hid hk
  have HT0 := Lib.hid ht0
  clear hp hk hr hn hO hd hl hlu ht0
  go_enter Tryz.func91, Tryz.ntmps91
  go_wp2_with fail
  refine HA.out.mono ?_; rintro e wa ⟨rfl, b1⟩
  have p1 := HP0.out.below b1
  obtain ⟨i, hi, ci, fi, _⟩ := p1.place
  have hbwa : b < wa.heap.size := Nat.lt_of_lt_of_le hbw b1.size
  have hnwa : n < wa.heap.size := Nat.lt_of_lt_of_le hnw b1.size
  have p2 := p1.step HT0.out ci
  have f2 := p1.fr 1 (.int .i64 ((i + 1 : Nat) : Int))
  obtain ⟨wf, hwf⟩ : ∃ wf, wf = (wa.setCell ⟨b, 1, none⟩ (.int .i64 ((i : Int) + 1))).alloc (.cells #[.int .i64 11, .int .i64 t1, .int .i64 0, .int .i64 0, .string ⟨#[]⟩, .slice none 0 0, .slice none 0 0] 35) := ⟨_, rfl⟩
  have pf : PS wf b Op (u :: us) T := by rw [hwf]; exact p2.below (allocB _ _)
  have hzf : wa.heap.size + 1 = wf.heap.size := by rw [hwf]; simp
  have fp : Fr Op w wf := by
    rw [hwf]
    exact ((Fr.of_below (O := Op) b1).trans (p1.fr 1 (.int .i64 ((i : Int) + 1))) (fun k hk => .inl (hk ▸ p1.at_))).alloc _
  have hOp : ∀ k, Op k → O k := fun k hk => (HO.out k).2 (.inl hk)
  have bf : Box wf Op wa.heap.size #[.int .i64 11, .int .i64 t1, .int .i64 0, .int .i64 0, .string ⟨#[]⟩, .slice none 0 0, .slice none 0 0] 35 := by
    rw [hwf, show wa.heap.size = (wa.setCell ⟨b, 1, none⟩ (.int .i64 ((i : Int) + 1))).heap.size by simp]
    exact Box.new _ Op (fun k hk => (p2.own k hk).2) _ 35
  have nf := HN0.out.kept fp (fun k hk h => HD.out k h hk)
  have HKF : WpSeq [wpLabel] ⟨{ hdZ 7 with line := u.2.1 }, [], u :: us, T.length⟩ (FinK fun a ts1 => ∃ m, wpFnx m a ts1 T.length (fun a2 self ts2 => WpSeq [wpCount, wpKid (wpHang ⟨11, t1, 0, 0, ⟨#[]⟩, self, []⟩ [bd])] ⟨sh, [a2], ts2, T.length + Ast.sizeL [a2]⟩ K E) E) E := HK.out
  have HN1 := Lib.hid (node_at' wf wf (wa.heap.size + 1) hzf pf (Fr.refl Op wf) (hdZ 7) rfl [mval 84 b] [wpLabel] (by simp) ⟨label_part wf b Op, trivial⟩ HKF)
  have FP := Lib.hid fp
  have BF := Lib.hid bf
  have NF := Lib.hid nf
  have HOp := Lib.hid hOp
  have HZF := Lib.hid hzf
  have HNW := Lib.hid HN0.out.own
  have HWA : Hid (w.heap.size ≤ wa.heap.size) := Lib.hid b1.size
  rw [hwf] at HN1
  have HWF := Lib.hid hwf
  clear hwf hzf
  clear pf fp bf nf hOp p1 p2 f2 b1 HKF
  have hne1 : wa.heap.size ≠ n := by omega
  have hne2 : wa.heap.size ≠ b := by omega
  go_wp2_with fail
  refine HN1.out.mono ?_; intro e w3 h3
  rw [← HWF.out] at h3
  clear HN1
  have F3 := Lib.hid h3.1
  rcases h3.2 with ⟨p, a, ts1, O1, T1, rfl, p1, x1, l1, k1⟩ | ⟨le, v, er, rfl, ⟨g', rfl, m2, m3⟩, k1⟩
  · obtain ⟨m, k1⟩ := k1
    have P1 := Lib.hid p1
    have X1 := Lib.hid x1
    have L1 := Lib.hid l1
    have K1 := Lib.hid k1
    clear h3 p1 x1 l1 k1
    go_wp2_with fail
    go_loopg [6, 7] (m + 1) (fun z lv ev wr => (∃ (p : Nat) (a : Ast) (tr : List TkP) (Or : Nat → Prop) (Tr : List Nd) (k : Nat), lv = .int .i64 (p : Int) ∧ ev = .nilIface ∧ z = k + 1 ∧ PS wr b Or tr Tr ∧ Fr Op wf wr ∧ Ext Op Or wf ∧ Lies T Tr [a] [(p : Int)] ∧ wpFnx k a tr T.length (fun a2 self ts2 => WpSeq [wpCount, wpKid (wpHang ⟨11, t1, 0, 0, ⟨#[]⟩, self, []⟩ [bd])] ⟨sh, [a2], ts2, T.length + Ast.sizeL [a2]⟩ K E) E) ∨
      (∃ (le : Int) (g' : Nat), ev = .iface 56 (.pointer (some ⟨g', 0, none⟩)) ∧ wf.heap.size ≤ g' ∧ wr.heap[g']? = some (.cells #[.int .i64 6, .int .i64 le] 62 (0, 0)) ∧ Fr Op wf wr ∧ E le))
    case atStart => exact .inl ⟨p, a, ts1, O1, T1, m, rfl, rfl, rfl, P1.out, F3.out, X1.out, L1.out, K1.out⟩
    case round =>
      rcases hrel with ⟨p, a, tr, Or, Tr, k, rfl, rfl, rfl, pr, fr, xr, lr, kr⟩ | ⟨le, g', rfl, hg, m3, fr, ke⟩
      · cases k with
        | zero => exact kr.elim
        | succ k =>
          obtain ⟨t9, r, rfl, hdot, hnd⟩ := kr
          have PR := Lib.hid pr
          have FR := Lib.hid fr
          have XR := Lib.hid xr
          have LR := Lib.hid lr
          have HW := Lib.hid (fun (W : World) hW => word_p b Or t9 r Tr W hW)
          have HW1 := Lib.hid (HW.out wr pr)
          clear pr fr xr lr F3 P1 X1 L1 K1
          cases hq : isW [46] t9 with
          | true =>
            have g1 : ((wordS t9).toList == [46]) = true := word_is (s := [46]) (by decide) t9 hq
            have HKK := Lib.hid (hdot hq)
            clear hdot hnd hq HW
            generalize wordS t9 = Y at *
            go_wp2_with fail
            refine HW1.out.mono ?_; rintro e w4 ⟨rfl, b4⟩
            have F4 := Lib.hid (FR.out.trans (Fr.of_below (O := Or) b4) XR.out)
            have HWI := Lib.hid (within_p b Or t9 r T Tr p a _ E w4 (PR.out.below b4) LR.out HKK.out)
            clear b4
            go_wp2_with fail
            refine HWI.out.mono ?_; intro e w5 h5
            have F5 := Lib.hid (F4.out.trans h5.1 XR.out)
            rcases h5.2 with ⟨p5, a5, ts5, O5, T5, rfl, q5, x5, l5, k5⟩ | ⟨le, v, er, rfl, ⟨g', rfl, m2, m3⟩, k5⟩
            · have Q5 := Lib.hid q5
              have X5 := Lib.hid (XR.out.trans x5 F4.out.size)
              have L5 := Lib.hid l5
              have K5 := Lib.hid k5
              clear h5 q5 x5 l5 k5
              go_wp2_with fail
              go_roundg (k + 1)
              case measure => omega
              case rel => exact .inl ⟨p5, a5, ts5, O5, T5, k, rfl, rfl, rfl, Q5.out, F5.out, X5.out, L5.out, K5.out⟩
            · have M3 := Lib.hid m3
              have M2 := Lib.hid (Nat.le_trans F4.out.size m2)
              have K5 := Lib.hid k5
              clear h5 m2 m3 k5
              go_wp2_with fail
              go_roundg (k + 1)
              case measure => omega
              case rel => exact .inr ⟨le, g', rfl, M2.out, M3.out, F5.out, K5.out⟩
          | false =>
            have g1 : ((wordS t9).toList == [46]) = false := word_is (s := [46]) (by decide) t9 hq
            have hnd := hnd hq
            have HDr : Hid (∀ k, Or k → ¬ On k) := Lib.hid fun k hk h => by
              rcases XR.out k hk with h1 | h1
              · exact HD.out k h1 h
              · have := (HNW.out k h).2; have := FP.out.size; omega
            have XW : Hid (Ext Op Or w) := Lib.hid ((Ext.refl Op w).trans XR.out FP.out.size)
            cases hq2 : isW [58] t9 with
            | true =>
              have g2 : ((wordS t9).toList == [58]) = true := word_is (s := [58]) (by decide) t9 hq2
              have HKK := Lib.hid (hnd.1 hq2)
              clear hdot hnd hq hq2
              generalize wordS t9 = Y at *
              go_wp2_with fail
              refine HW1.out.mono ?_; rintro e w4 ⟨rfl, b4⟩
              have F4 := Lib.hid (FR.out.trans (Fr.of_below (O := Or) b4) XR.out)
              have P4 := Lib.hid (PR.out.below b4)
              have HW2 := Lib.hid (HW.out w4 P4.out)
              clear b4 HW HW1
              go_wp2_with fail
              refine HW2.out.mono ?_; rintro e w5 ⟨rfl, b5⟩
              have f5 := F4.out.trans (Fr.of_below (O := Or) b5) XR.out
              have bx5 := BF.out.later f5 (Ext.refl _ _)
              have q5 : w5.cell? ⟨wa.heap.size, 5, none⟩ = some (.slice none 0 0) := bx5.cell 5
              have y5 : w5.frozen? ⟨wa.heap.size, 5, none⟩ = false := by simp [World.frozen?, bx5.1]
              have hl5 : wa.heap.size < w5.heap.size := (Array.getElem?_eq_some_iff.1 bx5.1).1
              have f6 : Fr (fun k => k = wa.heap.size) w5 ((w5.alloc (.cells #[.string ⟨#[115, 101, 108, 102]⟩] 9)).setCell ⟨wa.heap.size, 5, none⟩ (.slice (some ⟨w5.heap.size, 0, none⟩) 1 1)) := ((Fr.refl _ w5).alloc _).trans (Fr.set1 ((allocB w5 _).block _ hl5 |>.trans bx5.1) (by decide) 5 _) (Ext.refl _ _)
              have hb6 := set_cells ((allocB w5 (.cells #[.string ⟨#[115, 101, 108, 102]⟩] 9)).block _ hl5 |>.trans bx5.1) (k := 5) (.slice (some ⟨w5.heap.size, 0, none⟩) 1 1)
              have hs6 : ((w5.alloc (.cells #[.string ⟨#[115, 101, 108, 102]⟩] 9)).setCell ⟨wa.heap.size, 5, none⟩ (.slice (some ⟨w5.heap.size, 0, none⟩) 1 1)).heap[w5.heap.size]? = some (.cells #[.string ⟨#[115, 101, 108, 102]⟩] 9 (0, 0)) := (Below.heap_setCell _ _ _ _ (by show w5.heap.size ≠ wa.heap.size; omega)).trans (World.alloc_heap_new w5 _)
              rw [World.setCell_alloc_past _ _ _ _ hl5] at f6 hb6 hs6
              obtain ⟨w6, hw6⟩ : ∃ w6, w6 = (w5.setCell ⟨wa.heap.size, 5, none⟩ (.slice (some ⟨w5.heap.size, 0, none⟩) 1 1)).alloc (.cells #[.string ⟨#[115, 101, 108, 102]⟩] 9) := ⟨_, rfl⟩
              rw [← hw6] at f6 hb6 hs6
              have hfb : ¬ Or wa.heap.size := fun h => by
                rcases XR.out _ h with h1 | h1
                · exact bx5.2 (by exact h1)
                · have := HZF.out; omega
              have p6 : PS w6 b Or (t9 :: r) Tr := (P4.out.below b5).kept f6 (fun k hk e => hfb (e ▸ hk)) (fun k e => by omega)
              have hbw5 : b + 1 ≤ w5.heap.size := by omega
              have nam6 : Nam w6 b [bts wSelf] (.slice (some ⟨w5.heap.size, 0, none⟩) 1 1) := ⟨⟨rfl, .inr ⟨w5.heap.size, 1, #[.string ⟨#[115, 101, 108, 102]⟩], rfl, hbw5, hs6, Nat.le_refl _, by unfold maxLen; omega, rfl, rfl⟩⟩, fun g hg => ⟨by
                have e1 : g = w5.heap.size := by simpa [Value.ownBlock] using hg.symm
                rw [e1]
                exact ⟨_, _, hs6⟩, by simp⟩⟩
              have P6 := Lib.hid p6
              have F6s := Lib.hid f6
              have HB6 := Lib.hid hb6
              have NM6 := Lib.hid nam6
              have F5 := Lib.hid f5
              have HFB := Lib.hid hfb
              have F6 := Lib.hid (((FP.out.trans f5 (Ext.refl _ _)).mono HOp.out).trans f6 (fun k (e : k = wa.heap.size) => .inr (by have := HWA.out; omega)))
              have N6 := Lib.hid ((NF.out.kept f5 fun k hk h => HD.out k h hk).kept f6 (fun k hk (e : k = wa.heap.size) => by have := (HNW.out k hk).2; have := HWA.out; omega))
              have HWI := Lib.hid (within_p b Or t9 r T Tr p a _ E w6 p6 LR.out HKK.out)
              rw [hw6] at HWI
              have HW6 := Lib.hid hw6
              clear b5 p6 f6 hb6 hs6 nam6 f5 bx5 hfb hw6
              go_wp2_with fail
              refine HWI.out.mono ?_; intro e w7 h7
              rw [← HW6.out] at h7
              have F7 := Lib.hid (F6.out.trans (h7.1.mono (O1 := Or) fun _ h => h) (fun k hk => (XW.out k hk).imp (HOp.out k) id))
              have N7 := Lib.hid (N6.out.kept h7.1 fun k hk h => HDr.out k h hk)
              have BX7 : Hid (Box w7 Or wa.heap.size #[.int .i64 11, .int .i64 t1, .int .i64 0, .int .i64 0, .string ⟨#[]⟩, .slice (some ⟨w5.heap.size, 0, none⟩) 1 1, .slice none 0 0] 35) := Lib.hid ⟨(h7.1.block _ (Array.getElem?_eq_some_iff.1 HB6.out).1 HFB.out).trans HB6.out, HFB.out⟩
              have NM7 := Lib.hid (NM6.out.later h7.1)
              rcases h7.2 with ⟨p8, a8, ts8, O8, T8, rfl, q8, x8, l8, k8⟩ | ⟨le, v, er, rfl, ⟨g', rfl, m2, m3⟩, k8⟩
              · have P8 := Lib.hid q8
                have L8 := Lib.hid l8
                have K8 := Lib.hid k8
                have X8 : Hid (Ext Op O8 w) := Lib.hid (XW.out.trans x8 F6.out.size)
                have HD8 : Hid (∀ k, O8 k → ¬ On k) := Lib.hid fun k hk h => by
                  rcases X8.out k hk with h1 | h1
                  · exact HD.out k h1 h
                  · have := (HNW.out k h).2; omega
                clear h7 q8 x8 l8 k8 q5 y5
                obtain ⟨v6, c6, z6, hnl, f6, p6, r6⟩ := place_into P8.out N7.out HD8.out L8.out
                have hz6 : T8.length = T.length + Ast.sizeL [a8] := L8.out.len
                rw [hz6] at r6
                obtain ⟨O3, hO3⟩ : ∃ O3 : Nat → Prop, O3 = fun k => O8 k ∨ (On k ∨ k = w7.heap.size) := ⟨_, rfl⟩
                rw [← hO3] at r6
                have X3 : Hid (Ext O O3 w) := Lib.hid fun k hk => by
                  rw [hO3] at hk
                  rcases hk with hk | hk | rfl
                  · exact (X8.out k hk).imp (fun h => (HO.out k).2 (.inl h)) id
                  · exact .inl ((HO.out k).2 (.inr hk))
                  · exact .inr F7.out.size
                have f7 : Fr O w ((w7.alloc (.cells #[.int .i64 (p8 : Int)] 3)).setCell ⟨n, 6, none⟩ (.slice (some ⟨w7.heap.size, 0, none⟩) 1 1)) := F7.out.trans f6 fun k hk => .inl ((HO.out k).2 (.inr hk))
                rw [World.setCell_alloc_past _ _ _ _ hnl] at r6 f7
                obtain ⟨nv1, kv1, hcs1, _, hz1⟩ := N7.out.cells
                have d6 := hcs1.c6
                have y6 := hz1 6
                have hfbn : wa.heap.size ≠ n := by omega
                have hfbl : wa.heap.size < w7.heap.size := (Array.getElem?_eq_some_iff.1 BX7.out.1).1
                have e0 := BX7.out.cell 0
                have e1 := BX7.out.cell 1
                have e2 := BX7.out.cell 2
                have e3 := BX7.out.cell 3
                have e4 := BX7.out.cell 4
                have e5 := BX7.out.cell 5
                have e6 := BX7.out.cell 6
                have HP7 := RdParts.new' (w := (w7.setCell ⟨n, 6, none⟩ (.slice (some ⟨w7.heap.size, 0, none⟩) 1 1)).alloc (.cells #[.int .i64 (p8 : Int)] 3)) (b := b) (O := O3) (w7.heap.size + 1) (by simp) r6.lt [mval 125 b] [bd] (by simp) ⟨hBd.part (enters_of Tryz.func125 (by kernel_rfl) rfl) _ b O3, trivial⟩
                have hnam : Nam (((w7.setCell ⟨n, 6, none⟩ (.slice (some ⟨w7.heap.size, 0, none⟩) 1 1)).alloc (.cells #[.int .i64 (p8 : Int)] 3)).alloc (.cells #[mval 125 b] 89)) b [bts wSelf] (.slice (some ⟨w5.heap.size, 0, none⟩) 1 1) := (NM7.out.later (O := On) (by rw [← World.setCell_alloc_past _ _ _ _ hnl]; exact f6)).later ((Fr.refl On _).alloc _)
                have HH := Lib.hid (hang_p b O3 ⟨11, t1, 0, 0, ⟨#[]⟩, [bts wSelf], []⟩ (.slice (some ⟨w5.heap.size, 0, none⟩) 1 1) _ [bd] _ hnam HP7 (fun k hk => by have := r6.lt k hk; simp at this ⊢; omega))
                have R6 := Lib.hid r6
                have F7 := Lib.hid f7
                clear f6 p6 r6 f7 hcs1 hz1 c6 z6 HP7 hnam hO3 hz6
                go_wp2_with fail
                refine HH.out.mono ?_; rintro e w8 ⟨v, rfl, b8, h8, fi, fa, fc, rfl⟩
                have B8 := Lib.hid (thenBR (allocB _ _) b8)
                have HN := Lib.hid (fill_at w w8 (R6.out.below B8.out) (F7.out.trans (Fr.of_below (O := O3) B8.out) X3.out) X3.out [.func (.func 123) #[] #[], .func (.func fi) fa fc] [wpCount, wpKid (wpHang ⟨11, t1, 0, 0, ⟨#[]⟩, [bts wSelf], []⟩ [bd])] (by simp) ⟨count_part w8 b O3, h8, trivial⟩ K8.out)
                clear b8 h8
                go_wp2_with fail
                refine HN.out.mono ?_; intro e wz hz
                obtain ⟨v, rfl⟩ := hz.ret
                have HZ := Lib.hid hz
                clear hz
                go_wp2_with fail
                go_ret
                exact HZ.out
              · have M3 := Lib.hid m3
                have M2 := Lib.hid (Nat.le_trans F6.out.size m2)
                have K8 := Lib.hid k8
                clear h7 m2 m3 k8 q5 y5
                go_wp2_with fail
                go_ret
                exact ⟨F7.out, .inr ⟨le, _, rfl, ⟨g', rfl, M2.out, M3.out⟩, K8.out⟩⟩
            | false =>
              have g2 : ((wordS t9).toList == [58]) = false := word_is (s := [58]) (by decide) t9 hq2
              have HKK := Lib.hid (hnd.2 hq2)
              clear hdot hnd hq hq2
              generalize wordS t9 = Y at *
              go_wp2_with fail
              refine HW1.out.mono ?_; rintro e w4 ⟨rfl, b4⟩
              have F4 := Lib.hid (FR.out.trans (Fr.of_below (O := Or) b4) XR.out)
              have P4 := Lib.hid (PR.out.below b4)
              have HW2 := Lib.hid (HW.out w4 P4.out)
              clear b4 HW HW1
              go_wp2_with fail
              refine HW2.out.mono ?_; rintro e w5 ⟨rfl, b5⟩
              have f5 := F4.out.trans (Fr.of_below (O := Or) b5) XR.out
              have P5 := Lib.hid (P4.out.below b5)
              have F5 := Lib.hid (FP.out.trans f5 (Ext.refl _ _) |>.mono HOp.out)
              have N5 := Lib.hid (NF.out.kept f5 fun k hk h => HD.out k h hk)
              have BX5 := Lib.hid (BF.out.later f5 (Ext.refl _ _))
              have NM5 : Hid (Nam w5 b [] (.slice none 0 0)) := Lib.hid (Nam.nil w5 b)
              clear b5 f5
              obtain ⟨v6, c6, z6, hnl, f6, p6, r6⟩ := place_into P5.out N5.out HDr.out LR.out
              have hz6 : Tr.length = T.length + Ast.sizeL [a] := LR.out.len
              rw [hz6] at r6
              obtain ⟨O3, hO3⟩ : ∃ O3 : Nat → Prop, O3 = fun k => Or k ∨ (On k ∨ k = w5.heap.size) := ⟨_, rfl⟩
              rw [← hO3] at r6
              have X3 : Hid (Ext O O3 w) := Lib.hid fun k hk => by
                rw [hO3] at hk
                rcases hk with hk | hk | rfl
                · exact (XW.out k hk).imp (fun h => (HO.out k).2 (.inl h)) id
                · exact .inl ((HO.out k).2 (.inr hk))
                · exact .inr F5.out.size
              have f7 : Fr O w ((w5.alloc (.cells #[.int .i64 (p : Int)] 3)).setCell ⟨n, 6, none⟩ (.slice (some ⟨w5.heap.size, 0, none⟩) 1 1)) := F5.out.trans f6 fun k hk => .inl ((HO.out k).2 (.inr hk))
              rw [World.setCell_alloc_past _ _ _ _ hnl] at r6 f7
              obtain ⟨nv1, kv1, hcs1, _, hz1⟩ := N5.out.cells
              have d6 := hcs1.c6
              have y6 := hz1 6
              have hfbn : wa.heap.size ≠ n := by omega
              have hfbl : wa.heap.size < w5.heap.size := (Array.getElem?_eq_some_iff.1 BX5.out.1).1
              have e0 := BX5.out.cell 0
              have e1 := BX5.out.cell 1
              have e2 := BX5.out.cell 2
              have e3 := BX5.out.cell 3
              have e4 := BX5.out.cell 4
              have e5 := BX5.out.cell 5
              have e6 := BX5.out.cell 6
              have HP7 := RdParts.new' (w := (w5.setCell ⟨n, 6, none⟩ (.slice (some ⟨w5.heap.size, 0, none⟩) 1 1)).alloc (.cells #[.int .i64 (p : Int)] 3)) (b := b) (O := O3) (w5.heap.size + 1) (by simp) r6.lt [mval 125 b] [bd] (by simp) ⟨hBd.part (enters_of Tryz.func125 (by kernel_rfl) rfl) _ b O3, trivial⟩
              have hnam : Nam (((w5.setCell ⟨n, 6, none⟩ (.slice (some ⟨w5.heap.size, 0, none⟩) 1 1)).alloc (.cells #[.int .i64 (p : Int)] 3)).alloc (.cells #[mval 125 b] 89)) b [] (.slice none 0 0) := (NM5.out.later (O := On) (by rw [← World.setCell_alloc_past _ _ _ _ hnl]; exact f6)).later ((Fr.refl On _).alloc _)
              have HH := Lib.hid (hang_p b O3 ⟨11, t1, 0, 0, ⟨#[]⟩, [], []⟩ (.slice none 0 0) _ [bd] _ hnam HP7 (fun k hk => by have := r6.lt k hk; simp at this ⊢; omega))
              have R6 := Lib.hid r6
              have F7 := Lib.hid f7
              clear f6 p6 r6 f7 hcs1 hz1 c6 z6 HP7 hnam hO3 hz6
              go_wp2_with fail
              refine HH.out.mono ?_; rintro e w8 ⟨v, rfl, b8, h8, fi, fa, fc, rfl⟩
              have B8 := Lib.hid (thenBR (allocB _ _) b8)
              have HN := Lib.hid (fill_at w w8 (R6.out.below B8.out) (F7.out.trans (Fr.of_below (O := O3) B8.out) X3.out) X3.out [.func (.func 123) #[] #[], .func (.func fi) fa fc] [wpCount, wpKid (wpHang ⟨11, t1, 0, 0, ⟨#[]⟩, [], []⟩ [bd])] (by simp) ⟨count_part w8 b O3, h8, trivial⟩ HKK.out)
              clear b8 h8
              go_wp2_with fail
              refine HN.out.mono ?_; intro e wz hz
              obtain ⟨v, rfl⟩ := hz.ret
              have HZ := Lib.hid hz
              clear hz
              go_wp2_with fail
              go_ret
              exact HZ.out
      · have M3 := Lib.hid m3
        have HG := Lib.hid hg
        have FR := Lib.hid fr
        have KE := Lib.hid ke
        clear m3 hg fr ke
        go_wp2_with fail
        go_ret
        exact ⟨(FP.out.trans FR.out (Ext.refl _ _)).mono HOp.out, .inr ⟨le, _, rfl, ⟨g', rfl, Nat.le_trans FP.out.size HG.out, M3.out⟩, KE.out⟩⟩
  · have M3 := Lib.hid m3
    have M2 := Lib.hid m2
    have K1 := Lib.hid k1
    clear h3 m2 m3 k1
    go_wp2_with fail
    go_loopg [6, 7] 1 (fun _ lv ev wr => lv = v ∧ ev = .iface 56 (.pointer (some ⟨g', 0, none⟩)) ∧ wr = w3)
    case atStart => exact ⟨rfl, rfl, rfl⟩
    case round =>
      obtain ⟨rfl, rfl, rfl⟩ := hrel
      go_wp2_with fail
      go_ret
      exact ⟨(FP.out.trans F3.out (Ext.refl _ _)).mono HOp.out, .inr ⟨le, _, rfl, ⟨g', rfl, Nat.le_trans FP.out.size M2.out, M3.out⟩, K1.out⟩⟩
end Go.Proofs.YtfpeecjafccfjaaGreatDoor
namespace Go.Proofs.YtfpeecjafccfjaaGreatDoor
open Go.RowKit
section
variable {α : Type} {K : α → List TkP → Prop} {E : Int → Prop}
theorem Gw.call_mk {n : NT} {k : VT n → GL α} {ts : List TkP} (H : Gw (bodyL n) ts (fun v ts' => Gw (k v) ts' K E) E) : Gw (.call n k) ts K E :=
  ⟨fun a ts2 p => by
    cases p with
    | call h1 h2 => exact (H.1 _ _ h1).1 _ _ h2, fun l p => by
    cases p with
    | call h1 h2 => exact (H.1 _ _ h1).2 _ h2
    | callBad h1 => exact H.2 _ h1⟩
theorem Gw.ret_mk {a : α} {ts : List TkP} (h : K a ts) : Gw (.ret a) ts K E := ⟨fun a' ts' p => by cases p; exact h, fun l p => by cases p⟩
end
theorem Rm.up {N k : Nat} {s : St} (h : Rm N k s) : Rm (N + 1) k s := ⟨by have := h.len; omega, h.n, h.xs, h.wf⟩
theorem RdN.of {f : FuncId} {wp wp' : Wp1} (h : RdN f wp) (hc : ∀ s K E, Fin s.ts → wp' s K E → wp s K E) : RdN f wp' := fun b n O T0 s K E W hr hk => h b n O T0 s K E W hr (hc s K E (by
  obtain ⟨Op, T, hp⟩ := hr.ps
  exact hp.fin) hk)
theorem Rds.of {f : FuncId} {wp wp' : WpA} (h : Rds f wp) (hc : ∀ ts n K E, Fin ts → wp' ts n K E → wp ts n K E) : Rds f wp' := fun b O ts T K E W hp hk => h b O ts T K E W hp (hc ts _ K E hp.fin hk)
theorem Rds2.of {f : FuncId} {l : Int} {wp wp' : WpA} (h : Rds2 f l wp) (hc : ∀ ts n K E, Fin ts → wp' ts n K E → wp ts n K E) : Rds2 f l wp' := fun b O ts T K E W hp hk => h b O ts T K E W hp (hc ts _ K E hp.fin hk)
def wpNo : WpA := fun _ _ _ _ => False
def wpNo1 : Wp1 := fun _ _ _ => False
theorem rds_no (f : FuncId) : Rds f wpNo := fun _ _ _ _ _ _ _ _ h => h.elim
theorem rds2_no (f : FuncId) (l : Int) : Rds2 f l wpNo := fun _ _ _ _ _ _ _ _ h => h.elim
theorem rdn_no (f : FuncId) : RdN f wpNo1 := fun _ _ _ _ _ _ _ _ _ h => h.elim
def opdC (rt : Int → WpA) (bd it : Wp1) (sf : WpA) : WpA := fun ts n K E => ∃ t r, ts = t :: r ∧ (t.1 = 3 → WpSeq [wpSkip] ⟨⟨4, t.2.1, 0, t.2.2.1, ⟨#[]⟩, [], []⟩, [], t :: r, n⟩ (FinK K) E) ∧
  (t.1 ≠ 3 → t.1 = 4 → WpSeq [wpSkip] ⟨⟨5, t.2.1, 0, 0, bts t.2.2.2, [], []⟩, [], t :: r, n⟩ (FinK K) E) ∧
  (t.1 ≠ 3 → t.1 ≠ 4 → unaN t ≠ 0 → WpSeq [wpSkip, wpKid (rt (unaN t))] ⟨⟨13, t.2.1, unaN t, 0, ⟨#[]⟩, [], []⟩, [], t :: r, n⟩ (FinK K) E) ∧
  (isW wNil t = true → WpSeq [wpSkip] ⟨hdL 1 t.2.1, [], t :: r, n⟩ (FinK K) E) ∧ (isW wTrue t = true → WpSeq [wpSkip] ⟨hdL 2 t.2.1, [], t :: r, n⟩ (FinK K) E) ∧
  (isW wFalse t = true → WpSeq [wpSkip] ⟨hdL 3 t.2.1, [], t :: r, n⟩ (FinK K) E) ∧ (isW [46, 46, 46] t = true → WpSeq [wpSkip] ⟨hdL 6 t.2.1, [], t :: r, n⟩ (FinK K) E) ∧
  (isW wFunction t = true → WpSeq [wpSkip, bd] ⟨hdL 11 t.2.1, [], t :: r, n⟩ (FinK K) E) ∧ (isW [123] t = true → WpSeq [wpSkip, wpUnless [125] it, wpWords [[125]]] ⟨hdL 15 t.2.1, [], t :: r, n⟩ (FinK K) E) ∧
  (NoOpd t → sf (t :: r) n K E)
theorem operand_p {rt : Int → WpA} {bd it : Wp1} {sf : WpA} (hR : ∀ op, 20 ≤ op → op ≤ 23 → Rds2 147 (opB op) (rt op)) (hBd : RdN 125 bd) (hIt : RdN 212 it) (hS : Rds 126 sf) : Rds 171 (opdC rt bd it sf) := by
  rintro b O ts T K E w hp ⟨t, r, rfl, h1, h2, h3, h4, h5, h6, h7, h8, h9, h10⟩
  by_cases a1 : t.1 = 3
  · exact opd_num b O t r T K E w hp a1 (h1 a1)
  by_cases a2 : t.1 = 4
  · exact opd_txt b O t r T K E w hp a1 a2 (h2 a1 a2)
  by_cases a3 : unaN t ≠ 0
  · exact opd_una hR b O t r T K E w hp a1 a2 a3 (h3 a1 a2 a3)
  cases a4 : isW wNil t with
  | true => exact opd_nil b O t r T K E w hp a4 (h4 a4)
  | false =>
  cases a5 : isW wTrue t with
  | true => exact opd_true b O t r T K E w hp a5 (h5 a5)
  | false =>
  cases a6 : isW wFalse t with
  | true => exact opd_false b O t r T K E w hp a6 (h6 a6)
  | false =>
  cases a7 : isW [46, 46, 46] t with
  | true => exact opd_dots b O t r T K E w hp a7 (h7 a7)
  | false =>
  cases a8 : isW wFunction t with
  | true => exact opd_function hBd b O t r T K E w hp a8 (h8 a8)
  | false =>
  cases a9 : isW [123] t with
  | true => exact opd_tab hIt b O t r T K E w hp a9 (h9 a9)
  | false =>
    have hq : NoOpd t := ⟨a1, a2, by simpa using a3, a4, a5, a6, a7, a8, a9⟩
    exact opd_suf hS b O t r T K E w hp hq (h10 hq)
section
variable {K : Ast → List TkP → Prop} {E : Int → Prop} {K' : St → Prop} {N k n : Nat} {h : Nd} {xs : List Ast} {t : TkP} {ts : List TkP}
theorem unaO_word {s : List UInt8} (hs : s ≠ [45] ∧ s ≠ [126] ∧ s ≠ wNot ∧ s ≠ [35]) (h : isW s t = true) : unaO t = none := by
  unfold unaO
  rw [isW_diff' h (Ne.symm hs.1), isW_diff' h (Ne.symm hs.2.1), isW_diff' h (Ne.symm hs.2.2.1), isW_diff' h (Ne.symm hs.2.2.2)]
  rfl
theorem w_opd (hI : Rm (N + 1) k ⟨h, [], t :: ts, n⟩) (H : Gw gUna (t :: ts) K E) : opdC (rtP N) (bodyP N) (itemsP N) (wpG (N + 1) gSuf) (t :: ts) n K E := by
  have G0 := Gw.look H
  have GN : unaO t = none → Gw (bodyL .lef : GL Ast) (t :: ts) K E := fun ho => by
    rw [ho] at G0
    exact (Gw.call G0).mono fun v ts' _ hv => hv.2.ret
  have no : ∀ {s s' : List UInt8}, isW s t = true → s' ≠ s → ¬ isW s' t = true := fun h1 h2 => isW_no h1 h2
  have nk : t.1 ≠ 2 → t.1 ≠ 5 → ∀ s : List UInt8, ¬ isW s t = true := fun h1 h2 s => by simp [isW, h1, h2]
  refine ⟨t, ts, rfl, fun ht => ?_, fun _ ht => ?_, fun h3 h4 hu => ?_, fun hw => ?_, fun hw => ?_, fun hw => ?_, fun hw => ?_, fun hw => ?_, fun hw => ?_, fun hq => ?_⟩
  · have G := Gw.look (GN (una_none (by omega) (by omega)))
    have nn := nk (by omega) (by omega)
    have G2 := ((((((G.neg (nn _)).neg (nn _)).neg (nn _)).neg (nn _)).neg (nn _)).neg (nn _)).pos ht
    exact skip_mk hI.hd (by omega) fun hI => fin_mk hI G2.tok.ret
  · have G := Gw.look (GN (una_none (by omega) (by omega)))
    have nn := nk (by omega) (by omega)
    have G2 := (((((((G.neg (nn _)).neg (nn _)).neg (nn _)).neg (nn _)).neg (nn _)).neg (nn _)).neg (by omega)).pos ht
    exact skip_mk hI.hd (by omega) fun hI => fin_mk hI G2.tok.ret
  · cases ho : unaO t with
    | none => exact absurd (by unfold unaN; rw [ho]) hu
    | some o =>
      rw [ho] at G0
      have hun : unaN t = o := by unfold unaN; rw [ho]
      have hr := unaO_op ho
      have hb : opB o = 11 := by
        have h9 : o = 20 ∨ o = 21 ∨ o = 22 ∨ o = 23 := by omega
        rcases h9 with h | h | h | h <;> (rw [h]; decide)
      rw [hun]
      refine skip_mk hI.hd (unaO_nz ho) fun hI => ?_
      show wpKid (wpG N (gExp (opB o + 1).toNat)) _ _ _
      rw [hb]
      have G1 := Gw.call (Gw.tok G0)
      refine kid_mk (by simp) ⟨hI.len, by have := hI.n; dsimp only at *; omega, hI.wf.lin, ⟨fun (a : Ast) ts' p => KidK.mk ?_, fun l p => G1.2 l (exp12 p)⟩⟩
      have hq := G1.1 a ts' (exp12 p)
      have hz : a.size + 2 * ts'.length + 1 ≤ 2 * ts.length := hq.1
      exact ⟨by have := hI.n; show n + Ast.sizeL [a] ≤ _; rw [sz1]; dsimp only at this; omega, hq.2.ret⟩
  · have G := Gw.look (GN (unaO_word (by decide) hw))
    exact skip_mk hI.hd (isW_nz hw) fun hI => fin_mk hI (G.pos hw).tok.ret
  · have G := Gw.look (GN (unaO_word (by decide) hw))
    exact skip_mk hI.hd (isW_nz hw) fun hI => fin_mk hI ((G.neg (no hw (by decide))).pos hw).tok.ret
  · have G := Gw.look (GN (unaO_word (by decide) hw))
    exact skip_mk hI.hd (isW_nz hw) fun hI => fin_mk hI (((G.neg (no hw (by decide))).neg (no hw (by decide))).pos hw).tok.ret
  · have G := Gw.look (GN (unaO_word (by decide) hw))
    exact skip_mk hI.hd (isW_nz hw) fun hI => fin_mk hI ((((G.neg (no hw (by decide))).neg (no hw (by decide))).neg (no hw (by decide))).pos hw).tok.ret
  · have G := Gw.look (GN (unaO_word (by decide) hw))
    have G2 := (Gw.call (((((G.neg (no hw (by decide))).neg (no hw (by decide))).neg (no hw (by decide))).neg (no hw (by decide))).pos hw).tok).mono (K' := K) fun v ts' _ hv => hv.2.ret
    exact skip_mk (hI.hd (h' := hdL 11 t.2.1)) (isW_nz hw) fun hI => bdy_mk hI (by simp) G2
  · have G := Gw.look (GN (unaO_word (by decide) hw))
    have G2 := ((((((G.neg (no hw (by decide))).neg (no hw (by decide))).neg (no hw (by decide))).neg (no hw (by decide))).neg (no hw (by decide))).pos hw).tok
    exact skip_mk (hI.hd (h' := hdL 15 t.2.1)) (isW_nz hw) fun hI => tbl_mk hI G2
  · have ho : unaO t = none := by
      cases ho : unaO t with
      | none => rfl
      | some o =>
        have h1 := hq.un
        have h2 := unaO_op ho
        unfold unaN at h1
        rw [ho] at h1
        dsimp only at h1
        omega
    have G := Gw.look (GN ho)
    have G2 := (((((((G.neg (by simp [hq.a])).neg (by simp [hq.b])).neg (by simp [hq.c])).neg (by simp [hq.d])).neg (by simp [hq.e])).neg (by simp [hq.f])).neg hq.n3).neg hq.n4
    exact ⟨hI.len, by have := hI.n; dsimp only at *; omega, hI.wf.lin, (Gw.call G2).mono fun v ts' _ hv => hv.2.ret⟩
theorem w_exp {s : Nat} {l : Int} (hs : l + 1 = (s : Int)) (hl0 : 0 ≤ l) (hf : Fin ts) (H : wpG (N + 1) (gExp s) ts n K E) : wpG (N + 1) gUna ts n (fun a ts1 => ∃ m, wpLvm (rtP N) l m a ts1 n K E) E := by
  obtain ⟨h1, h2, h3, h4⟩ := H
  refine ⟨h1, h2, h3, (Gw.call h4).mono fun (a : Ast) ts1 p hq => ⟨ts1.length + 1, ?_⟩⟩
  have hz : a.size + 2 * ts1.length + 1 ≤ 2 * ts.length := hq.1
  have ha := size_pos a
  exact lvm_mk hs hl0 (ts1.length + 1) ts1 a 0 (Nat.lt_succ_self _) ⟨by dsimp only; omega, by dsimp only; omega, by simp only [List.length_cons, List.length_nil]; omega, p.wf ⟨hf, h3⟩⟩ ((Gw.call hq.2).mono fun v ts' _ hv => hv.2.ret)
end
end Go.Proofs.YtfpeecjafccfjaaGreatDoor
namespace Go.Proofs.YtfpeecjafccfjaaGreatDoor
open Go.RowKit
def txtP (N : Nat) : WpA := opdC (fun _ => wpNo) wpNo1 (itemsP N) wpNo
def argP (N : Nat) : Wp1 := argC (txtP N) (listP N)
abbrev gArg : GL (List Ast) := bodyL .arg
section
variable {K : Ast → List TkP → Prop} {E : Int → Prop} {K' : St → Prop} {N k n : Nat} {h : Nd} {xs : List Ast} {t : TkP} {ts : List TkP}
theorem arg_mk {kk : List Ast → GL Ast} (hI : Rm (N + 1) k ⟨h, xs, ts, n⟩) (H : Gw (.call .arg kk) ts K E)
    (hk : ∀ (l : List Ast) (ts' : List TkP), Rm (N + 1) (k + 1) ⟨h, xs ++ l, ts', n + Ast.sizeL l⟩ → ts'.length < ts.length → Gw (kk l) ts' K E → K' ⟨h, xs ++ l, ts', n + Ast.sizeL l⟩) : argP N ⟨h, xs, ts, n⟩ K' E := by
  obtain ⟨t, r, hts⟩ := hI.cons
  dsimp only at hts
  subst hts
  have hn := hI.n
  have hx := hI.xs
  dsimp only at hn hx
  have G0 := Gw.call H
  have hfin : ∀ (l : List Ast) (ts' : List TkP), PL gArg (t :: r) (.ok (l, ts')) → ZResOf .arg (t :: r).length l ts'.length ∧ Gw (kk l) ts' K E → K' ⟨h, xs ++ l, ts', n + Ast.sizeL l⟩ := fun l ts' p hq => by
    have hz : Ast.sizeL l + 2 * ts'.length + 1 ≤ 2 * (t :: r).length := hq.1
    exact hk l ts' (hI.kids (by omega) (PL.short (n := .arg) p) (PL.wf (n := .arg) p hI.wf)) (by omega) hq.2
  have G1 : Gw gArg (t :: r) (fun l ts' => K' ⟨h, xs ++ l, ts', n + Ast.sizeL l⟩ ∧ Ast.sizeL l + 2 * ts'.length + 1 ≤ 2 * (t :: r).length) E := G0.mono fun l ts' p hq => ⟨hfin l ts' p hq, hq.1⟩
  have G2 := Gw.look G1
  refine ⟨t, r, rfl, fun hc => ?_, fun h4 hw => ?_⟩
  · refine kid_mk (by dsimp only; omega) ⟨t, r, rfl, fun ht => ?_, fun _ ht => ?_, fun h3 h4 hu => ?_, fun hw => ?_, fun hw => ?_, fun hw => ?_, fun hw => ?_, fun hw => ?_, fun hw => ?_, fun hq => ?_⟩
    · exact hc.elim (fun h => absurd h (by omega)) fun h => absurd ht (isW_n3 h)
    · have G3 := (G2.pos ht).tok.ret
      refine ⟨t, r, rfl, by omega, ⟨?_, KidK.mk G3.1⟩⟩
      dsimp only
      omega
    · exact absurd (hc.elim (fun h => absurd h h4) fun h => by unfold unaN; rw [unaO_word (by decide) h]) hu
    · exact hc.elim (fun h => absurd h (isW_n4 hw)) fun h => absurd hw (isW_no h (by decide))
    · exact hc.elim (fun h => absurd h (isW_n4 hw)) fun h => absurd hw (isW_no h (by decide))
    · exact hc.elim (fun h => absurd h (isW_n4 hw)) fun h => absurd hw (isW_no h (by decide))
    · exact hc.elim (fun h => absurd h (isW_n4 hw)) fun h => absurd hw (isW_no h (by decide))
    · exact hc.elim (fun h => absurd h (isW_n4 hw)) fun h => absurd hw (isW_no h (by decide))
    · have G3 := ((G2.neg (isW_n4 hw)).pos hw).tok
      have hI15 : Rm (N + 1) k ⟨hdL 15 t.2.1, [], t :: r, n⟩ := ⟨hI.len, hI.n, by have := hI.xs; simp only [List.length_nil]; dsimp only at this; omega, hI.wf⟩
      refine skip_mk hI15 (isW_nz hw) fun hI => tbl_mk hI (Gw.call_mk ((Gw.call G3).mono fun (l : List Ast) ts' _ hq => Gw.ret_mk (KidK.mk hq.2.ret.1)))
    · exact hc.elim (fun h => (hq.n4 h).elim) fun h => by rw [hq.f] at h; exact (Bool.false_ne_true h).elim
  · have G3 := (G2.neg h4).neg (by simp [hw])
    refine ⟨t, r, rfl, fun hp => ?_, G3.want.2⟩
    have hI2 : Rm N (k + 2) ⟨h, xs, r, n⟩ := hI.tok' (isW_nz hp)
    have G4 := G3.want.1 hp
    obtain ⟨u, us, hts⟩ := hI2.cons
    dsimp only at hts
    subst hts
    have G5 := G4.look
    refine (show WpSeq [wpUnless [41] (listP N), wpWords [[41]]] ⟨h, xs, u :: us, n⟩ K' E from ⟨u, us, rfl, fun hr => ?_, fun hr => ?_⟩)
    · have G6 := (G5.pos hr).tok.ret
      rw [List.append_nil, sizeL_nil, Nat.add_zero] at G6
      exact (show wpWords [[41]] _ _ _ from ⟨u, us, rfl, fun _ => G6.1, fun hr2 => by rw [hr] at hr2; exact (Bool.false_ne_true hr2.symm).elim⟩)
    · have G6 := G5.neg (by simp [hr])
      have G7 := Gw.call G6
      have hn2 := hI2.n
      have hx2 := hI2.xs
      dsimp only at hn2 hx2
      refine ⟨by dsimp only; omega, (u :: us).length + 1, by omega, ?_⟩
      refine row_lsm _ ((u :: us).length + 1) (u :: us) n [] (Nat.lt_succ_self _) hI2.len (by omega) hI2.wf (G7.mono fun (l : List Ast) ts' p hq => ?_)
      obtain ⟨v, vs, rfl⟩ := (PL.wf (n := .lst) p hI2.wf).fin.cons
      have hq2 := hq.2.want
      exact (show wpWords [[41]] _ _ _ from ⟨v, vs, rfl, fun hr => (hq2.1 hr).ret.1, hq2.2⟩)
theorem sfx_mk : ∀ (m : Nat) (ts : List TkP) (a : Ast) (k : Nat), ts.length < m → Rm (N + 1) k ⟨hdL 0 0, [a], ts, n + a.size⟩ → Gw (bodyL (.sfx a) : GL Ast) ts K E → wpSfx (expP N) (argP N) m a ts n K E := by
  intro m
  induction m with
  | zero => intro ts a k h; omega
  | succ m ih =>
    intro ts a k h1 hI H
    obtain ⟨t, r, rfl⟩ := hI.wf.fin.cons
    have G := Gw.look H
    have fin : ∀ {j : Nat} (h0 : Nd) (ys : List Ast) (ts2 : List TkP) (y : Ast), Rm (N + 1) j ⟨h0, [a] ++ ys, ts2, n + a.size + Ast.sizeL ys⟩ → 1 ≤ j → ts2.length ≤ r.length → y.size = Ast.sizeL ([a] ++ ys) + 1 → Gw (.call (.sfx y) fun (z : Ast) => .ret z : GL Ast) ts2 K E → y = .mk h0 ([a] ++ ys) → (FinK fun a' ts' => wpSfx (expP N) (argP N) m a' ts' n K E) ⟨h0, [a] ++ ys, ts2, n + a.size + Ast.sizeL ys⟩ := fun {j} h0 ys ts2 y hI hj hl hy G e => by
      have hn := hI.n
      have hx := hI.xs
      dsimp only at hn hx
      refine ⟨by dsimp only; omega, ?_⟩
      have G3 := (Gw.call G).mono (K' := K) fun v ts2 _ hv => hv.2.ret
      rw [sizeL_app, sz1] at hy
      have := ih ts2 y 0 (by simp at h1; omega) ⟨hI.len, by dsimp only; omega, by simp only [List.length_append, List.length_cons, List.length_nil] at *; omega, hI.wf⟩ G3
      rw [e] at this
      exact this
    have hI8 : ∀ h', Rm (N + 1) k ⟨h', [a], t :: r, n + a.size⟩ := fun h' => ⟨hI.len, hI.n, hI.xs, hI.wf⟩
    refine ⟨t, r, rfl, fun h0 => ?_, fun h0 => ?_⟩
    · unfold sfxKind at h0
      by_cases a1 : isW [46] t = true
      · rw [if_pos a1] at h0; exact absurd h0 (by decide)
      rw [if_neg a1] at h0
      by_cases a2 : isW [91] t = true
      · rw [if_pos a2] at h0; exact absurd h0 (by decide)
      rw [if_neg a2] at h0
      by_cases a3 : isW [58] t = true
      · rw [if_pos a3] at h0; exact absurd h0 (by decide)
      rw [if_neg a3] at h0
      by_cases a4 : isW [40] t = true
      · rw [if_pos a4] at h0; exact absurd h0 (by decide)
      rw [if_neg a4] at h0
      by_cases a5 : isW [123] t = true
      · rw [if_pos a5] at h0; exact absurd h0 (by decide)
      rw [if_neg a5] at h0
      by_cases a6 : t.1 = 4
      · rw [if_pos a6] at h0; exact absurd h0 (by decide)
      exact ((((G.neg a1).neg a2).neg a3).neg (by simp [a4, a5, a6])).ret
    · have hargs : (isW [40] t || isW [123] t || decide (t.1 = 4)) = true → isW [46] t = false → isW [91] t = false → isW [58] t = false → WpSeq [argP N] ⟨hdL 9 t.2.1, [a], t :: r, n + a.size⟩ (FinK fun a' ts' => wpSfx (expP N) (argP N) m a' ts' n K E) E := fun hc a1 a2 a3 => by
        have G2 := (((G.neg (by simp [a1])).neg (by simp [a2])).neg (by simp [a3])).pos hc
        exact arg_mk (hI8 _) G2 fun l ts2 hI hl G3 => fin (hdL 9 t.2.1) l ts2 _ hI (by omega) (by simp at hl; omega) (by show Ast.size (nd 9 t.2.1 (a :: l)) = _; rw [size_nd]; rfl) G3 rfl
      unfold sfxKind sfxPs
      by_cases a1 : isW [46] t = true
      · rw [if_pos a1, if_pos a1]
        exact skip_same (hI8 _) (isW_nz a1) fun hI => key_mk hI (G.pos a1).tok fun u r2 hI hl G3 => fin (hdL 8 t.2.1) _ r2 _ hI (by omega) (by omega) (by show Ast.size (nd 8 t.2.1 _) = _; rw [size_nd]; rfl) G3 rfl
      rw [if_neg a1, if_neg a1]
      by_cases a2 : isW [91] t = true
      · rw [if_pos a2, if_pos a2]
        exact skip_mk (hI8 _) (isW_nz a2) fun hI => exp_kid hI ((G.neg a1).pos a2).tok fun e r2 hI hl G3 => want_mk hI G3 fun _ r3 hI hl3 G3 => fin (hdL 8 t.2.1) [e] r3 _ hI.up (by omega) (by omega) (by show Ast.size (nd 8 t.2.1 [a, e]) = _; rw [size_nd]; rfl) G3 rfl
      rw [if_neg a2, if_neg a2]
      by_cases a3 : isW [58] t = true
      · rw [if_pos a3, if_pos a3]
        exact skip_same (hI8 (hdL 10 t.2.1)) (isW_nz a3) fun hI => name_mk hI (((G.neg a1).neg a2).pos a3).tok fun u r2 hI hl G3 => arg_mk hI G3 fun l r3 hI hl3 G3 => fin ⟨10, t.2.1, 0, 0, bts u.2.2.2, [], []⟩ l r3 _ hI (by omega) (by omega) (by show Ast.size (ndS 10 t.2.1 _ (a :: l)) = _; rw [size_ndS]; rfl) G3 rfl
      rw [if_neg a3, if_neg a3]
      have b1 : isW [46] t = false := by simpa using a1
      have b2 : isW [91] t = false := by simpa using a2
      have b3 : isW [58] t = false := by simpa using a3
      by_cases a4 : isW [40] t = true
      · rw [if_pos a4, if_pos a4]; exact hargs (by simp [a4]) b1 b2 b3
      rw [if_neg a4, if_neg a4]
      by_cases a5 : isW [123] t = true
      · rw [if_pos a5, if_pos a5]; exact hargs (by simp [a5]) b1 b2 b3
      rw [if_neg a5, if_neg a5]
      by_cases a6 : t.1 = 4
      · rw [if_pos a6, if_pos a6]; exact hargs (by simp [a6]) b1 b2 b3
      · exfalso
        apply h0
        unfold sfxKind
        rw [if_neg a1, if_neg a2, if_neg a3, if_neg a4, if_neg a5, if_neg a6]
theorem w_suf (hf : Fin ts) (H : wpG (N + 1) gSuf ts n K E) : sufC (expP N) (argP N) ts n K E := by
  obtain ⟨h1, h2, h3, h4⟩ := H
  obtain ⟨t, r, rfl⟩ := hf.cons
  have hI : ∀ h', Rm (N + 1) 0 ⟨h', [], t :: r, n⟩ := fun h' => ⟨h1, h2, by simp only [List.length_nil]; omega, ⟨hf, h3⟩⟩
  have G := Gw.look h4
  have go : ∀ {j : Nat} (h0 : Nd) (ys : List Ast) (ts2 : List TkP) (y : Ast), Rm (N + 1) j ⟨h0, ys, ts2, n + Ast.sizeL ys⟩ → 1 ≤ j → y.size = Ast.sizeL ys + 1 → Gw (.call (.sfx y) fun (z : Ast) => .ret z : GL Ast) ts2 K E → y = .mk h0 ys → (FinK fun a ts1 => ∃ m, wpSfx (expP N) (argP N) m a ts1 n K E) ⟨h0, ys, ts2, n + Ast.sizeL ys⟩ := fun {j} h0 ys ts2 y hI hj hy G e => by
    have hn := hI.n
    dsimp only at hn
    refine ⟨by dsimp only; omega, ts2.length + 1, ?_⟩
    have := sfx_mk (n := n) (ts2.length + 1) ts2 y 0 (Nat.lt_succ_self _) ⟨hI.len, by dsimp only; omega, by simp only [List.length_cons, List.length_nil]; omega, hI.wf⟩ ((Gw.call G).mono (K' := K) fun v ts2 _ hv => hv.2.ret)
    rw [e] at this
    exact this
  refine ⟨t, r, rfl, fun hw => ?_, fun hw => ?_⟩
  · have G2 := ((G.neg (show ¬ t.1 = 1 from fun e => by rcases isW_cases hw with ⟨l, m, rfl⟩ | ⟨l, m, rfl⟩ <;> simp at e)).pos hw).tok
    exact skip_mk (hI (hdL 14 t.2.1)) (isW_nz hw) fun hI => exp_kid hI G2 fun e r2 hI hl G3 => want_mk hI G3 fun _ r3 hI hl3 G3 => go (hdL 14 t.2.1) [e] r3 _ hI.up (by omega) (by show Ast.size (nd 14 t.2.1 [e]) = _; rw [size_nd]) G3 rfl
  · refine ⟨t, r, rfl, fun ht => ?_, fun ht => ((G.neg ht).neg (by simp [hw])).bad⟩
    have hI2 : Rm (N + 1) (0 + 2) ⟨⟨7, t.2.1, 0, 0, bts t.2.2.2, [], []⟩, [], r, n + Ast.sizeL []⟩ := by rw [sizeL_nil]; exact (hI (hdL 7 t.2.1)).tok (by omega)
    have := go ⟨7, t.2.1, 0, 0, bts t.2.2.2, [], []⟩ [] r (ndS 7 t.2.1 (bts t.2.2.2) []) hI2 (by omega) (by rw [size_ndS]) (G.pos ht).tok rfl
    rw [sizeL_nil] at this
    exact this
end
end Go.Proofs.YtfpeecjafccfjaaGreatDoor
namespace Go.Proofs.YtfpeecjafccfjaaGreatDoor
open Go.RowKit
set_option maxRecDepth 40000 in
set_option maxHeartbeats 8000000 in
theorem sta_break  (b : Nat) (O : Nat → Prop) (t : TkP) (ts : List TkP) (T : List Nd) (K : Ast → List TkP → Prop) (E : Int → Prop) (w : World) (hp : PS w b O (t :: ts) T) (hq : isW wBreak t = true)
    (hk : WpSeq [wpSkip] ⟨hdL 30 t.2.1, [], t :: ts, T.length⟩ (FinK K) E) :
    Calls Tryz.prog 41 #[.pointer (some ⟨b, 0, none⟩)] w (PlacePost b O T (RK K E) w) := by
  have HW := Lib.hid (word_p b O t ts T w hp)
  have g1 : ((wordS t).toList == [98, 114, 101, 97, 107]) = true := word_is (s := wBreak) (by decide) t hq
  have HK := Lib.hid hk
  generalize hY : wordS t = Y at *
  have P := Lib.hid hp
  clear hp hk hY hq
  go_enter Tryz.func41, Tryz.ntmps41
  go_wp2_with fail
  refine HW.out.mono ?_; rintro e w0 ⟨rfl, b0⟩
  have F0 := Lib.hid (Fr.of_below (O := O) b0)
  have P0 := Lib.hid (P.out.below b0)
  clear b0
  have HN := Lib.hid (node_at w w0 P0.out F0.out (hdZ 30) rfl [mval 37 b] [wpSkip] (by simp) ⟨skip_part w0 b O, trivial⟩ HK.out)
  go_wp2_with fail
  refine HN.out.mono ?_; intro e wz hz
  obtain ⟨v, er, rfl⟩ := hz.ret
  have HZ := Lib.hid hz
  clear hz
  go_wp2_with fail
  go_ret2
  exact HZ.out
set_option maxRecDepth 40000 in
set_option maxHeartbeats 8000000 in
theorem sta_goto  (b : Nat) (O : Nat → Prop) (t : TkP) (ts : List TkP) (T : List Nd) (K : Ast → List TkP → Prop) (E : Int → Prop) (w : World) (hp : PS w b O (t :: ts) T) (hq : isW wGoto t = true)
    (hk : WpSeq [wpSkip, wpLabel] ⟨hdL 31 t.2.1, [], t :: ts, T.length⟩ (FinK K) E) :
    Calls Tryz.prog 41 #[.pointer (some ⟨b, 0, none⟩)] w (PlacePost b O T (RK K E) w) := by
  have HW := Lib.hid (word_p b O t ts T w hp)
  have g1 : ((wordS t).toList == [98, 114, 101, 97, 107]) = false := word_is (s := wBreak) (by decide) t (isW_diff' hq (by decide))
  have g2 : ((wordS t).toList == [103, 111, 116, 111]) = true := word_is (s := wGoto) (by decide) t hq
  have HK := Lib.hid hk
  generalize hY : wordS t = Y at *
  have P := Lib.hid hp
  clear hp hk hY hq
  go_enter Tryz.func41, Tryz.ntmps41
  go_wp2_with fail
  refine HW.out.mono ?_; rintro e w0 ⟨rfl, b0⟩
  have F0 := Lib.hid (Fr.of_below (O := O) b0)
  have P0 := Lib.hid (P.out.below b0)
  clear b0
  have HN := Lib.hid (node_at w w0 P0.out F0.out (hdZ 31) rfl [mval 37 b, mval 84 b] [wpSkip, wpLabel] (by simp) ⟨skip_part w0 b O, label_part w0 b O, trivial⟩ HK.out)
  go_wp2_with fail
  refine HN.out.mono ?_; intro e wz hz
  obtain ⟨v, er, rfl⟩ := hz.ret
  have HZ := Lib.hid hz
  clear hz
  go_wp2_with fail
  go_ret2
  exact HZ.out
set_option maxRecDepth 40000 in
set_option maxHeartbeats 8000000 in
theorem sta_label  (b : Nat) (O : Nat → Prop) (t : TkP) (ts : List TkP) (T : List Nd) (K : Ast → List TkP → Prop) (E : Int → Prop) (w : World) (hp : PS w b O (t :: ts) T) (hq : isW [58, 58] t = true)
    (hk : WpSeq [wpSkip, wpLabel, wpWords [[58, 58]]] ⟨hdL 32 t.2.1, [], t :: ts, T.length⟩ (FinK K) E) :
    Calls Tryz.prog 41 #[.pointer (some ⟨b, 0, none⟩)] w (PlacePost b O T (RK K E) w) := by
  have HW := Lib.hid (word_p b O t ts T w hp)
  have g1 : ((wordS t).toList == [98, 114, 101, 97, 107]) = false := word_is (s := wBreak) (by decide) t (isW_diff' hq (by decide))
  have g2 : ((wordS t).toList == [103, 111, 116, 111]) = false := word_is (s := wGoto) (by decide) t (isW_diff' hq (by decide))
  have g3 : ((wordS t).toList == [58, 58]) = true := word_is (s := [58, 58]) (by decide) t hq
  have HK := Lib.hid hk
  generalize hY : wordS t = Y at *
  have P := Lib.hid hp
  clear hp hk hY hq
  go_enter Tryz.func41, Tryz.ntmps41
  go_wp2_with fail
  refine HW.out.mono ?_; rintro e w0 ⟨rfl, b0⟩
  have F0 := Lib.hid (Fr.of_below (O := O) b0)
  have P0 := Lib.hid (P.out.below b0)
  clear b0
  have hO0 : ∀ k, O k → k < w0.heap.size := fun k hk => (P0.out.own k hk).2
  have V1 := Lib.hid (words_at w0 b O hO0 [58, 58] (by decide) ⟨#[58, 58]⟩ rfl)
  clear hO0
  go_wp2_with fail
  refine V1.out.mono ?_; rintro e w1 ⟨f1, a1, c1, rfl, b1, h1⟩
  have F1 := Lib.hid (F0.out.trans (Fr.of_below (O := O) b1) (Ext.refl _ _))
  have P1 := Lib.hid (P0.out.below b1)
  have H1 := Lib.hid h1
  clear b1 h1 V1
  have HN := Lib.hid (node_at w w1 P1.out F1.out (hdZ 32) rfl [mval 37 b, mval 84 b, .func (.func f1) a1 c1] [wpSkip, wpLabel, wpWords [[58, 58]]] (by simp) ⟨skip_part w1 b O, label_part w1 b O, H1.out, trivial⟩ HK.out)
  go_wp2_with fail
  refine HN.out.mono ?_; intro e wz hz
  obtain ⟨v, er, rfl⟩ := hz.ret
  have HZ := Lib.hid hz
  clear hz
  go_wp2_with fail
  go_ret2
  exact HZ.out
set_option maxRecDepth 40000 in
set_option maxHeartbeats 8000000 in
theorem sta_do {bl : Wp1} (hB : RdN 86 bl) (b : Nat) (O : Nat → Prop) (t : TkP) (ts : List TkP) (T : List Nd) (K : Ast → List TkP → Prop) (E : Int → Prop) (w : World) (hp : PS w b O (t :: ts) T) (hq : isW wDo t = true)
    (hk : WpSeq [wpSkip, bl, wpWords [[101, 110, 100]]] ⟨hdL 22 t.2.1, [], t :: ts, T.length⟩ (FinK K) E) :
    Calls Tryz.prog 41 #[.pointer (some ⟨b, 0, none⟩)] w (PlacePost b O T (RK K E) w) := by
  have HW := Lib.hid (word_p b O t ts T w hp)
  have g1 : ((wordS t).toList == [98, 114, 101, 97, 107]) = false := word_is (s := wBreak) (by decide) t (isW_diff' hq (by decide))
  have g2 : ((wordS t).toList == [103, 111, 116, 111]) = false := word_is (s := wGoto) (by decide) t (isW_diff' hq (by decide))
  have g3 : ((wordS t).toList == [58, 58]) = false := word_is (s := [58, 58]) (by decide) t (isW_diff' hq (by decide))
  have g4 : ((wordS t).toList == [100, 111]) = true := word_is (s := wDo) (by decide) t hq
  have HK := Lib.hid hk
  generalize hY : wordS t = Y at *
  have P := Lib.hid hp
  clear hp hk hY hq
  go_enter Tryz.func41, Tryz.ntmps41
  go_wp2_with fail
  refine HW.out.mono ?_; rintro e w0 ⟨rfl, b0⟩
  have F0 := Lib.hid (Fr.of_below (O := O) b0)
  have P0 := Lib.hid (P.out.below b0)
  clear b0
  have hO0 : ∀ k, O k → k < w0.heap.size := fun k hk => (P0.out.own k hk).2
  have V1 := Lib.hid (words_at w0 b O hO0 [101, 110, 100] (by decide) ⟨#[101, 110, 100]⟩ rfl)
  clear hO0
  go_wp2_with fail
  refine V1.out.mono ?_; rintro e w1 ⟨f1, a1, c1, rfl, b1, h1⟩
  have F1 := Lib.hid (F0.out.trans (Fr.of_below (O := O) b1) (Ext.refl _ _))
  have P1 := Lib.hid (P0.out.below b1)
  have H1 := Lib.hid h1
  clear b1 h1 V1
  have HN := Lib.hid (node_at w w1 P1.out F1.out (hdZ 22) rfl [mval 37 b, mval 86 b, .func (.func f1) a1 c1] [wpSkip, bl, wpWords [[101, 110, 100]]] (by simp) ⟨skip_part w1 b O, hB.part (enters_of Tryz.func86 (by kernel_rfl) rfl) w1 b O, H1.out, trivial⟩ HK.out)
  go_wp2_with fail
  refine HN.out.mono ?_; intro e wz hz
  obtain ⟨v, er, rfl⟩ := hz.ret
  have HZ := Lib.hid hz
  clear hz
  go_wp2_with fail
  go_ret2
  exact HZ.out
set_option maxRecDepth 40000 in
set_option maxHeartbeats 8000000 in
theorem sta_while {ex bl : Wp1} (hE : RdN 87 ex) (hB : RdN 86 bl) (b : Nat) (O : Nat → Prop) (t : TkP) (ts : List TkP) (T : List Nd) (K : Ast → List TkP → Prop) (E : Int → Prop) (w : World) (hp : PS w b O (t :: ts) T) (hq : isW wWhile t = true)
    (hk : WpSeq [wpSkip, ex, wpWords [[100, 111]], bl, wpWords [[101, 110, 100]]] ⟨hdL 23 t.2.1, [], t :: ts, T.length⟩ (FinK K) E) :
    Calls Tryz.prog 41 #[.pointer (some ⟨b, 0, none⟩)] w (PlacePost b O T (RK K E) w) := by
  have HW := Lib.hid (word_p b O t ts T w hp)
  have g1 : ((wordS t).toList == [98, 114, 101, 97, 107]) = false := word_is (s := wBreak) (by decide) t (isW_diff' hq (by decide))
  have g2 : ((wordS t).toList == [103, 111, 116, 111]) = false := word_is (s := wGoto) (by decide) t (isW_diff' hq (by decide))
  have g3 : ((wordS t).toList == [58, 58]) = false := word_is (s := [58, 58]) (by decide) t (isW_diff' hq (by decide))
  have g4 : ((wordS t).toList == [100, 111]) = false := word_is (s := wDo) (by decide) t (isW_diff' hq (by decide))
  have g5 : ((wordS t).toList == [119, 104, 105, 108, 101]) = true := word_is (s := wWhile) (by decide) t hq
  have HK := Lib.hid hk
  generalize hY : wordS t = Y at *
  have P := Lib.hid hp
  clear hp hk hY hq
  go_enter Tryz.func41, Tryz.ntmps41
  go_wp2_with fail
  refine HW.out.mono ?_; rintro e w0 ⟨rfl, b0⟩
  have F0 := Lib.hid (Fr.of_below (O := O) b0)
  have P0 := Lib.hid (P.out.below b0)
  clear b0
  have hO0 : ∀ k, O k → k < w0.heap.size := fun k hk => (P0.out.own k hk).2
  have V1 := Lib.hid (words_at w0 b O hO0 [100, 111] (by decide) ⟨#[100, 111]⟩ rfl)
  clear hO0
  go_wp2_with fail
  refine V1.out.mono ?_; rintro e w1 ⟨f1, a1, c1, rfl, b1, h1⟩
  have F1 := Lib.hid (F0.out.trans (Fr.of_below (O := O) b1) (Ext.refl _ _))
  have P1 := Lib.hid (P0.out.below b1)
  have H1 := Lib.hid h1
  clear b1 h1 V1
  have hO1 : ∀ k, O k → k < w1.heap.size := fun k hk => (P1.out.own k hk).2
  have V2 := Lib.hid (words_at w1 b O hO1 [101, 110, 100] (by decide) ⟨#[101, 110, 100]⟩ rfl)
  clear hO1
  go_wp2_with fail
  refine V2.out.mono ?_; rintro e w2 ⟨f2, a2, c2, rfl, b2, h2⟩
  have F2 := Lib.hid (F1.out.trans (Fr.of_below (O := O) b2) (Ext.refl _ _))
  have P2 := Lib.hid (P1.out.below b2)
  have L1 := Lib.hid (H1.out.later (Fr.of_below (O := O) b2) (Ext.refl _ _))
  clear H1
  have H1 := L1
  clear L1
  have H2 := Lib.hid h2
  clear b2 h2 V2
  have HN := Lib.hid (node_at w w2 P2.out F2.out (hdZ 23) rfl [mval 37 b, mval 87 b, .func (.func f1) a1 c1, mval 86 b, .func (.func f2) a2 c2] [wpSkip, ex, wpWords [[100, 111]], bl, wpWords [[101, 110, 100]]] (by simp) ⟨skip_part w2 b O, hE.part (enters_of Tryz.func87 (by kernel_rfl) rfl) w2 b O, H1.out, hB.part (enters_of Tryz.func86 (by kernel_rfl) rfl) w2 b O, H2.out, trivial⟩ HK.out)
  go_wp2_with fail
  refine HN.out.mono ?_; intro e wz hz
  obtain ⟨v, er, rfl⟩ := hz.ret
  have HZ := Lib.hid hz
  clear hz
  go_wp2_with fail
  go_ret2
  exact HZ.out
set_option maxRecDepth 40000 in
set_option maxHeartbeats 8000000 in
theorem sta_repeat {bl ex : Wp1} (hB : RdN 86 bl) (hE : RdN 87 ex) (b : Nat) (O : Nat → Prop) (t : TkP) (ts : List TkP) (T : List Nd) (K : Ast → List TkP → Prop) (E : Int → Prop) (w : World) (hp : PS w b O (t :: ts) T) (hq : isW wRepeat t = true)
    (hk : WpSeq [wpSkip, bl, wpWords [[117, 110, 116, 105, 108]], ex] ⟨hdL 24 t.2.1, [], t :: ts, T.length⟩ (FinK K) E) :
    Calls Tryz.prog 41 #[.pointer (some ⟨b, 0, none⟩)] w (PlacePost b O T (RK K E) w) := by
  have HW := Lib.hid (word_p b O t ts T w hp)
  have g1 : ((wordS t).toList == [98, 114, 101, 97, 107]) = false := word_is (s := wBreak) (by decide) t (isW_diff' hq (by decide))
  have g2 : ((wordS t).toList == [103, 111, 116, 111]) = false := word_is (s := wGoto) (by decide) t (isW_diff' hq (by decide))
  have g3 : ((wordS t).toList == [58, 58]) = false := word_is (s := [58, 58]) (by decide) t (isW_diff' hq (by decide))
  have g4 : ((wordS t).toList == [100, 111]) = false := word_is (s := wDo) (by decide) t (isW_diff' hq (by decide))
  have g5 : ((wordS t).toList == [119, 104, 105, 108, 101]) = false := word_is (s := wWhile) (by decide) t (isW_diff' hq (by decide))
  have g6 : ((wordS t).toList == [114, 101, 112, 101, 97, 116]) = true := word_is (s := wRepeat) (by decide) t hq
  have HK := Lib.hid hk
  generalize hY : wordS t = Y at *
  have P := Lib.hid hp
  clear hp hk hY hq
  go_enter Tryz.func41, Tryz.ntmps41
  go_wp2_with fail
  refine HW.out.mono ?_; rintro e w0 ⟨rfl, b0⟩
  have F0 := Lib.hid (Fr.of_below (O := O) b0)
  have P0 := Lib.hid (P.out.below b0)
  clear b0
  have hO0 : ∀ k, O k → k < w0.heap.size := fun k hk => (P0.out.own k hk).2
  have V1 := Lib.hid (words_at w0 b O hO0 [117, 110, 116, 105, 108] (by decide) ⟨#[117, 110, 116, 105, 108]⟩ rfl)
  clear hO0
  go_wp2_with fail
  refine V1.out.mono ?_; rintro e w1 ⟨f1, a1, c1, rfl, b1, h1⟩
  have F1 := Lib.hid (F0.out.trans (Fr.of_below (O := O) b1) (Ext.refl _ _))
  have P1 := Lib.hid (P0.out.below b1)
  have H1 := Lib.hid h1
  clear b1 h1 V1
  have HN := Lib.hid (node_at w w1 P1.out F1.out (hdZ 24) rfl [mval 37 b, mval 86 b, .func (.func f1) a1 c1, mval 87 b] [wpSkip, bl, wpWords [[117, 110, 116, 105, 108]], ex] (by simp) ⟨skip_part w1 b O, hB.part (enters_of Tryz.func86 (by kernel_rfl) rfl) w1 b O, H1.out, hE.part (enters_of Tryz.func87 (by kernel_rfl) rfl) w1 b O, trivial⟩ HK.out)
  go_wp2_with fail
  refine HN.out.mono ?_; intro e wz hz
  obtain ⟨v, er, rfl⟩ := hz.ret
  have HZ := Lib.hid hz
  clear hz
  go_wp2_with fail
  go_ret2
  exact HZ.out
set_option maxRecDepth 40000 in
set_option maxHeartbeats 8000000 in
theorem sta_if {ex bl : Wp1} (hE : RdN 87 ex) (hB : RdN 86 bl) (b : Nat) (O : Nat → Prop) (t : TkP) (ts : List TkP) (T : List Nd) (K : Ast → List TkP → Prop) (E : Int → Prop) (w : World) (hp : PS w b O (t :: ts) T) (hq : isW wIf t = true)
    (hk : WpSeq [wpSkip, ex, wpWords [[116, 104, 101, 110]], bl, wpWhen [101, 108, 115, 101, 105, 102] [ex, wpWords [[116, 104, 101, 110]], bl], wpPerhaps [101, 108, 115, 101] [bl], wpWords [[101, 110, 100]]] ⟨hdL 25 t.2.1, [], t :: ts, T.length⟩ (FinK K) E) :
    Calls Tryz.prog 41 #[.pointer (some ⟨b, 0, none⟩)] w (PlacePost b O T (RK K E) w) := by
  have HW := Lib.hid (word_p b O t ts T w hp)
  have g1 : ((wordS t).toList == [98, 114, 101, 97, 107]) = false := word_is (s := wBreak) (by decide) t (isW_diff' hq (by decide))
  have g2 : ((wordS t).toList == [103, 111, 116, 111]) = false := word_is (s := wGoto) (by decide) t (isW_diff' hq (by decide))
  have g3 : ((wordS t).toList == [58, 58]) = false := word_is (s := [58, 58]) (by decide) t (isW_diff' hq (by decide))
  have g4 : ((wordS t).toList == [100, 111]) = false := word_is (s := wDo) (by decide) t (isW_diff' hq (by decide))
  have g5 : ((wordS t).toList == [119, 104, 105, 108, 101]) = false := word_is (s := wWhile) (by decide) t (isW_diff' hq (by decide))
  have g6 : ((wordS t).toList == [114, 101, 112, 101, 97, 116]) = false := word_is (s := wRepeat) (by decide) t (isW_diff' hq (by decide))
  have g7 : ((wordS t).toList == [105, 102]) = true := word_is (s := wIf) (by decide) t hq
  have HK := Lib.hid hk
  generalize hY : wordS t = Y at *
  have P := Lib.hid hp
  clear hp hk hY hq
  go_enter Tryz.func41, Tryz.ntmps41
  go_wp2_with fail
  refine HW.out.mono ?_; rintro e w0 ⟨rfl, b0⟩
  have F0 := Lib.hid (Fr.of_below (O := O) b0)
  have P0 := Lib.hid (P.out.below b0)
  clear b0
  have hO0 : ∀ k, O k → k < w0.heap.size := fun k hk => (P0.out.own k hk).2
  have V1 := Lib.hid (words_at w0 b O hO0 [116, 104, 101, 110] (by decide) ⟨#[116, 104, 101, 110]⟩ rfl)
  clear hO0
  go_wp2_with fail
  refine V1.out.mono ?_; rintro e w1 ⟨f1, a1, c1, rfl, b1, h1⟩
  have F1 := Lib.hid (F0.out.trans (Fr.of_below (O := O) b1) (Ext.refl _ _))
  have P1 := Lib.hid (P0.out.below b1)
  have H1 := Lib.hid h1
  clear b1 h1 V1
  have hO1 : ∀ k, O k → k < w1.heap.size := fun k hk => (P1.out.own k hk).2
  have V2 := Lib.hid (words_at w1 b O hO1 [116, 104, 101, 110] (by decide) ⟨#[116, 104, 101, 110]⟩ rfl)
  clear hO1
  go_wp2_with fail
  refine V2.out.mono ?_; rintro e w2 ⟨f2, a2, c2, rfl, b2, h2⟩
  have F2 := Lib.hid (F1.out.trans (Fr.of_below (O := O) b2) (Ext.refl _ _))
  have P2 := Lib.hid (P1.out.below b2)
  have L1 := Lib.hid (H1.out.later (Fr.of_below (O := O) b2) (Ext.refl _ _))
  clear H1
  have H1 := L1
  clear L1
  have H2 := Lib.hid h2
  clear b2 h2 V2
  have hO2 : ∀ k, O k → k < w2.heap.size := fun k hk => (P2.out.own k hk).2
  have V3 := Lib.hid (when_at w2 b O hO2 [mval 87 b, .func (.func f2) a2 c2, mval 86 b] [ex, wpWords [[116, 104, 101, 110]], bl] (by simp) ⟨hE.part (enters_of Tryz.func87 (by kernel_rfl) rfl) w2 b O, H2.out, hB.part (enters_of Tryz.func86 (by kernel_rfl) rfl) w2 b O, trivial⟩ [101, 108, 115, 101, 105, 102] (by decide) ⟨#[101, 108, 115, 101, 105, 102]⟩ rfl)
  clear hO2
  go_wp2_with fail
  refine V3.out.mono ?_; rintro e w3 ⟨f3, a3, c3, rfl, b3, h3⟩
  have F3 := Lib.hid (F2.out.trans (Fr.of_below (O := O) b3) (Ext.refl _ _))
  have P3 := Lib.hid (P2.out.below b3)
  have L1 := Lib.hid (H1.out.later (Fr.of_below (O := O) b3) (Ext.refl _ _))
  clear H1
  have H1 := L1
  clear L1
  have H3 := Lib.hid h3
  clear b3 h3 V3
  have hO3 : ∀ k, O k → k < w3.heap.size := fun k hk => (P3.out.own k hk).2
  have V4 := Lib.hid (perhaps_at w3 b O hO3 [mval 86 b] [bl] (by simp) ⟨hB.part (enters_of Tryz.func86 (by kernel_rfl) rfl) w3 b O, trivial⟩ [101, 108, 115, 101] (by decide) ⟨#[101, 108, 115, 101]⟩ rfl)
  clear hO3
  go_wp2_with fail
  refine V4.out.mono ?_; rintro e w4 ⟨f4, a4, c4, rfl, b4, h4⟩
  have F4 := Lib.hid (F3.out.trans (Fr.of_below (O := O) b4) (Ext.refl _ _))
  have P4 := Lib.hid (P3.out.below b4)
  have L1 := Lib.hid (H1.out.later (Fr.of_below (O := O) b4) (Ext.refl _ _))
  clear H1
  have H1 := L1
  clear L1
  have L3 := Lib.hid (H3.out.later (Fr.of_below (O := O) b4) (Ext.refl _ _))
  clear H3
  have H3 := L3
  clear L3
  have H4 := Lib.hid h4
  clear b4 h4 V4
  have hO4 : ∀ k, O k → k < w4.heap.size := fun k hk => (P4.out.own k hk).2
  have V5 := Lib.hid (words_at w4 b O hO4 [101, 110, 100] (by decide) ⟨#[101, 110, 100]⟩ rfl)
  clear hO4
  go_wp2_with fail
  refine V5.out.mono ?_; rintro e w5 ⟨f5, a5, c5, rfl, b5, h5⟩
  have F5 := Lib.hid (F4.out.trans (Fr.of_below (O := O) b5) (Ext.refl _ _))
  have P5 := Lib.hid (P4.out.below b5)
  have L1 := Lib.hid (H1.out.later (Fr.of_below (O := O) b5) (Ext.refl _ _))
  clear H1
  have H1 := L1
  clear L1
  have L3 := Lib.hid (H3.out.later (Fr.of_below (O := O) b5) (Ext.refl _ _))
  clear H3
  have H3 := L3
  clear L3
  have L4 := Lib.hid (H4.out.later (Fr.of_below (O := O) b5) (Ext.refl _ _))
  clear H4
  have H4 := L4
  clear L4
  have H5 := Lib.hid h5
  clear b5 h5 V5
  have HN := Lib.hid (node_at w w5 P5.out F5.out (hdZ 25) rfl [mval 37 b, mval 87 b, .func (.func f1) a1 c1, mval 86 b, .func (.func f3) a3 c3, .func (.func f4) a4 c4, .func (.func f5) a5 c5] [wpSkip, ex, wpWords [[116, 104, 101, 110]], bl, wpWhen [101, 108, 115, 101, 105, 102] [ex, wpWords [[116, 104, 101, 110]], bl], wpPerhaps [101, 108, 115, 101] [bl], wpWords [[101, 110, 100]]] (by simp) ⟨skip_part w5 b O, hE.part (enters_of Tryz.func87 (by kernel_rfl) rfl) w5 b O, H1.out, hB.part (enters_of Tryz.func86 (by kernel_rfl) rfl) w5 b O, H3.out, H4.out, H5.out, trivial⟩ HK.out)
  go_wp2_with fail
  refine HN.out.mono ?_; intro e wz hz
  obtain ⟨v, er, rfl⟩ := hz.ret
  have HZ := Lib.hid hz
  clear hz
  go_wp2_with fail
  go_ret2
  exact HZ.out
set_option maxRecDepth 40000 in
set_option maxHeartbeats 8000000 in
theorem sta_for {ro bl : Wp1} (hN : RdN 89 wpNames) (hR : RdN 90 ro) (hB : RdN 86 bl) (b : Nat) (O : Nat → Prop) (t : TkP) (ts : List TkP) (T : List Nd) (K : Ast → List TkP → Prop) (E : Int → Prop) (w : World) (hp : PS w b O (t :: ts) T) (hq : isW wFor t = true)
    (hk : WpSeq [wpSkip, wpNames, ro, wpWords [[100, 111]], bl, wpWords [[101, 110, 100]]] ⟨hdL 0 t.2.1, [], t :: ts, T.length⟩ (FinK K) E) :
    Calls Tryz.prog 41 #[.pointer (some ⟨b, 0, none⟩)] w (PlacePost b O T (RK K E) w) := by
  have HW := Lib.hid (word_p b O t ts T w hp)
  have g1 : ((wordS t).toList == [98, 114, 101, 97, 107]) = false := word_is (s := wBreak) (by decide) t (isW_diff' hq (by decide))
  have g2 : ((wordS t).toList == [103, 111, 116, 111]) = false := word_is (s := wGoto) (by decide) t (isW_diff' hq (by decide))
  have g3 : ((wordS t).toList == [58, 58]) = false := word_is (s := [58, 58]) (by decide) t (isW_diff' hq (by decide))
  have g4 : ((wordS t).toList == [100, 111]) = false := word_is (s := wDo) (by decide) t (isW_diff' hq (by decide))
  have g5 : ((wordS t).toList == [119, 104, 105, 108, 101]) = false := word_is (s := wWhile) (by decide) t (isW_diff' hq (by decide))
  have g6 : ((wordS t).toList == [114, 101, 112, 101, 97, 116]) = false := word_is (s := wRepeat) (by decide) t (isW_diff' hq (by decide))
  have g7 : ((wordS t).toList == [105, 102]) = false := word_is (s := wIf) (by decide) t (isW_diff' hq (by decide))
  have g8 : ((wordS t).toList == [102, 111, 114]) = true := word_is (s := wFor) (by decide) t hq
  have HK := Lib.hid hk
  generalize hY : wordS t = Y at *
  have P := Lib.hid hp
  clear hp hk hY hq
  go_enter Tryz.func41, Tryz.ntmps41
  go_wp2_with fail
  refine HW.out.mono ?_; rintro e w0 ⟨rfl, b0⟩
  have F0 := Lib.hid (Fr.of_below (O := O) b0)
  have P0 := Lib.hid (P.out.below b0)
  clear b0
  have hO0 : ∀ k, O k → k < w0.heap.size := fun k hk => (P0.out.own k hk).2
  have V1 := Lib.hid (words_at w0 b O hO0 [100, 111] (by decide) ⟨#[100, 111]⟩ rfl)
  clear hO0
  go_wp2_with fail
  refine V1.out.mono ?_; rintro e w1 ⟨f1, a1, c1, rfl, b1, h1⟩
  have F1 := Lib.hid (F0.out.trans (Fr.of_below (O := O) b1) (Ext.refl _ _))
  have P1 := Lib.hid (P0.out.below b1)
  have H1 := Lib.hid h1
  clear b1 h1 V1
  have hO1 : ∀ k, O k → k < w1.heap.size := fun k hk => (P1.out.own k hk).2
  have V2 := Lib.hid (words_at w1 b O hO1 [101, 110, 100] (by decide) ⟨#[101, 110, 100]⟩ rfl)
  clear hO1
  go_wp2_with fail
  refine V2.out.mono ?_; rintro e w2 ⟨f2, a2, c2, rfl, b2, h2⟩
  have F2 := Lib.hid (F1.out.trans (Fr.of_below (O := O) b2) (Ext.refl _ _))
  have P2 := Lib.hid (P1.out.below b2)
  have L1 := Lib.hid (H1.out.later (Fr.of_below (O := O) b2) (Ext.refl _ _))
  clear H1
  have H1 := L1
  clear L1
  have H2 := Lib.hid h2
  clear b2 h2 V2
  have HN := Lib.hid (node_at w w2 P2.out F2.out (hdZ 0) rfl [mval 37 b, mval 89 b, mval 90 b, .func (.func f1) a1 c1, mval 86 b, .func (.func f2) a2 c2] [wpSkip, wpNames, ro, wpWords [[100, 111]], bl, wpWords [[101, 110, 100]]] (by simp) ⟨skip_part w2 b O, hN.part (enters_of Tryz.func89 (by kernel_rfl) rfl) w2 b O, hR.part (enters_of Tryz.func90 (by kernel_rfl) rfl) w2 b O, H1.out, hB.part (enters_of Tryz.func86 (by kernel_rfl) rfl) w2 b O, H2.out, trivial⟩ HK.out)
  go_wp2_with fail
  refine HN.out.mono ?_; intro e wz hz
  obtain ⟨v, er, rfl⟩ := hz.ret
  have HZ := Lib.hid hz
  clear hz
  go_wp2_with fail
  go_ret2
  exact HZ.out
set_option maxRecDepth 40000 in
set_option maxHeartbeats 8000000 in
theorem sta_function {as_ : Wp1} (hA : RdN 91 as_) (b : Nat) (O : Nat → Prop) (t : TkP) (ts : List TkP) (T : List Nd) (K : Ast → List TkP → Prop) (E : Int → Prop) (w : World) (hp : PS w b O (t :: ts) T) (hq : isW wFunction t = true)
    (hk : WpSeq [as_] ⟨hdL 20 t.2.1, [], t :: ts, T.length⟩ (FinK K) E) :
    Calls Tryz.prog 41 #[.pointer (some ⟨b, 0, none⟩)] w (PlacePost b O T (RK K E) w) := by
  have HW := Lib.hid (word_p b O t ts T w hp)
  have g1 : ((wordS t).toList == [98, 114, 101, 97, 107]) = false := word_is (s := wBreak) (by decide) t (isW_diff' hq (by decide))
  have g2 : ((wordS t).toList == [103, 111, 116, 111]) = false := word_is (s := wGoto) (by decide) t (isW_diff' hq (by decide))
  have g3 : ((wordS t).toList == [58, 58]) = false := word_is (s := [58, 58]) (by decide) t (isW_diff' hq (by decide))
  have g4 : ((wordS t).toList == [100, 111]) = false := word_is (s := wDo) (by decide) t (isW_diff' hq (by decide))
  have g5 : ((wordS t).toList == [119, 104, 105, 108, 101]) = false := word_is (s := wWhile) (by decide) t (isW_diff' hq (by decide))
  have g6 : ((wordS t).toList == [114, 101, 112, 101, 97, 116]) = false := word_is (s := wRepeat) (by decide) t (isW_diff' hq (by decide))
  have g7 : ((wordS t).toList == [105, 102]) = false := word_is (s := wIf) (by decide) t (isW_diff' hq (by decide))
  have g8 : ((wordS t).toList == [102, 111, 114]) = false := word_is (s := wFor) (by decide) t (isW_diff' hq (by decide))
  have g9 : ((wordS t).toList == [102, 117, 110, 99, 116, 105, 111, 110]) = true := word_is (s := wFunction) (by decide) t hq
  have HK := Lib.hid hk
  generalize hY : wordS t = Y at *
  have P := Lib.hid hp
  clear hp hk hY hq
  go_enter Tryz.func41, Tryz.ntmps41
  go_wp2_with fail
  refine HW.out.mono ?_; rintro e w0 ⟨rfl, b0⟩
  have F0 := Lib.hid (Fr.of_below (O := O) b0)
  have P0 := Lib.hid (P.out.below b0)
  clear b0
  have HN := Lib.hid (node_at w w0 P0.out F0.out (hdZ 20) rfl [mval 91 b] [as_] (by simp) ⟨hA.part (enters_of Tryz.func91 (by kernel_rfl) rfl) w0 b O, trivial⟩ HK.out)
  go_wp2_with fail
  refine HN.out.mono ?_; intro e wz hz
  obtain ⟨v, er, rfl⟩ := hz.ret
  have HZ := Lib.hid hz
  clear hz
  go_wp2_with fail
  go_ret2
  exact HZ.out
set_option maxRecDepth 40000 in
set_option maxHeartbeats 8000000 in
theorem sta_local {de : Wp1} (hD : RdN 92 de) (b : Nat) (O : Nat → Prop) (t : TkP) (ts : List TkP) (T : List Nd) (K : Ast → List TkP → Prop) (E : Int → Prop) (w : World) (hp : PS w b O (t :: ts) T) (hq : isW wLocal t = true)
    (hk : WpSeq [wpSkip, de] ⟨hdL 0 t.2.1, [], t :: ts, T.length⟩ (FinK K) E) :
    Calls Tryz.prog 41 #[.pointer (some ⟨b, 0, none⟩)] w (PlacePost b O T (RK K E) w) := by
  have HW := Lib.hid (word_p b O t ts T w hp)
  have g1 : ((wordS t).toList == [98, 114, 101, 97, 107]) = false := word_is (s := wBreak) (by decide) t (isW_diff' hq (by decide))
  have g2 : ((wordS t).toList == [103, 111, 116, 111]) = false := word_is (s := wGoto) (by decide) t (isW_diff' hq (by decide))
  have g3 : ((wordS t).toList == [58, 58]) = false := word_is (s := [58, 58]) (by decide) t (isW_diff' hq (by decide))
  have g4 : ((wordS t).toList == [100, 111]) = false := word_is (s := wDo) (by decide) t (isW_diff' hq (by decide))
  have g5 : ((wordS t).toList == [119, 104, 105, 108, 101]) = false := word_is (s := wWhile) (by decide) t (isW_diff' hq (by decide))
  have g6 : ((wordS t).toList == [114, 101, 112, 101, 97, 116]) = false := word_is (s := wRepeat) (by decide) t (isW_diff' hq (by decide))
  have g7 : ((wordS t).toList == [105, 102]) = false := word_is (s := wIf) (by decide) t (isW_diff' hq (by decide))
  have g8 : ((wordS t).toList == [102, 111, 114]) = false := word_is (s := wFor) (by decide) t (isW_diff' hq (by decide))
  have g9 : ((wordS t).toList == [102, 117, 110, 99, 116, 105, 111, 110]) = false := word_is (s := wFunction) (by decide) t (isW_diff' hq (by decide))
  have g10 : ((wordS t).toList == [108, 111, 99, 97, 108]) = true := word_is (s := wLocal) (by decide) t hq
  have HK := Lib.hid hk
  generalize hY : wordS t = Y at *
  have P := Lib.hid hp
  clear hp hk hY hq
  go_enter Tryz.func41, Tryz.ntmps41
  go_wp2_with fail
  refine HW.out.mono ?_; rintro e w0 ⟨rfl, b0⟩
  have F0 := Lib.hid (Fr.of_below (O := O) b0)
  have P0 := Lib.hid (P.out.below b0)
  clear b0
  have HN := Lib.hid (node_at w w0 P0.out F0.out (hdZ 0) rfl [mval 37 b, mval 92 b] [wpSkip, de] (by simp) ⟨skip_part w0 b O, hD.part (enters_of Tryz.func92 (by kernel_rfl) rfl) w0 b O, trivial⟩ HK.out)
  go_wp2_with fail
  refine HN.out.mono ?_; intro e wz hz
  obtain ⟨v, er, rfl⟩ := hz.ret
  have HZ := Lib.hid hz
  clear hz
  go_wp2_with fail
  go_ret2
  exact HZ.out
set_option maxRecDepth 40000 in
set_option maxHeartbeats 8000000 in
theorem sta_begun {be : Wp1} (hG : RdN 93 be) (b : Nat) (O : Nat → Prop) (t : TkP) (ts : List TkP) (T : List Nd) (K : Ast → List TkP → Prop) (E : Int → Prop) (w : World) (hp : PS w b O (t :: ts) T) (hq : NoSta t)
    (hk : WpSeq [be] ⟨hdL 0 t.2.1, [], t :: ts, T.length⟩ (FinK K) E) :
    Calls Tryz.prog 41 #[.pointer (some ⟨b, 0, none⟩)] w (PlacePost b O T (RK K E) w) := by
  have HW := Lib.hid (word_p b O t ts T w hp)
  have g1 : ((wordS t).toList == [98, 114, 101, 97, 107]) = false := word_is (s := wBreak) (by decide) t hq.b
  have g2 : ((wordS t).toList == [103, 111, 116, 111]) = false := word_is (s := wGoto) (by decide) t hq.c
  have g3 : ((wordS t).toList == [58, 58]) = false := word_is (s := [58, 58]) (by decide) t hq.a
  have g4 : ((wordS t).toList == [100, 111]) = false := word_is (s := wDo) (by decide) t hq.d
  have g5 : ((wordS t).toList == [119, 104, 105, 108, 101]) = false := word_is (s := wWhile) (by decide) t hq.e
  have g6 : ((wordS t).toList == [114, 101, 112, 101, 97, 116]) = false := word_is (s := wRepeat) (by decide) t hq.f
  have g7 : ((wordS t).toList == [105, 102]) = false := word_is (s := wIf) (by decide) t hq.g
  have g8 : ((wordS t).toList == [102, 111, 114]) = false := word_is (s := wFor) (by decide) t hq.h
  have g9 : ((wordS t).toList == [102, 117, 110, 99, 116, 105, 111, 110]) = false := word_is (s := wFunction) (by decide) t hq.i
  have g10 : ((wordS t).toList == [108, 111, 99, 97, 108]) = false := word_is (s := wLocal) (by decide) t hq.j
  have HK := Lib.hid hk
  generalize hY : wordS t = Y at *
  have P := Lib.hid hp
  clear hp hk hY hq
  go_enter Tryz.func41, Tryz.ntmps41
  go_wp2_with fail
  refine HW.out.mono ?_; rintro e w0 ⟨rfl, b0⟩
  have F0 := Lib.hid (Fr.of_below (O := O) b0)
  have P0 := Lib.hid (P.out.below b0)
  clear b0
  have HN := Lib.hid (node_at w w0 P0.out F0.out (hdZ 0) rfl [mval 93 b] [be] (by simp) ⟨hG.part (enters_of Tryz.func93 (by kernel_rfl) rfl) w0 b O, trivial⟩ HK.out)
  go_wp2_with fail
  refine HN.out.mono ?_; intro e wz hz
  obtain ⟨v, er, rfl⟩ := hz.ret
  have HZ := Lib.hid hz
  clear hz
  go_wp2_with fail
  go_ret2
  exact HZ.out
end Go.Proofs.YtfpeecjafccfjaaGreatDoor
namespace Go.Proofs.YtfpeecjafccfjaaGreatDoor
open Go.RowKit
section
variable {K : Ast → List TkP → Prop} {E : Int → Prop} {K' : St → Prop} {N k n : Nat} {h : Nd} {xs : List Ast} {t : TkP} {ts : List TkP}
theorem end_semi {t : TkP} (h : endB t = true) : isW [59] t = false := by
  cases hs : isW [59] t with
  | false => rfl
  | true =>
    exfalso
    unfold endB at h
    rw [isW_diff' hs (show wEnd ≠ [59] by decide), isW_diff' hs (show wElse ≠ [59] by decide), isW_diff' hs (show wElseif ≠ [59] by decide), isW_diff' hs (show wUntil ≠ [59] by decide)] at h
    have := isW_nz hs
    simp at h
    exact this h
theorem sts_mk (K2 : List Ast → List TkP → Prop) (c1 c2 : Nat) (hK : ∀ l ts' n', K2 l ts' → n' + c1 = c2 + Ast.sizeL l → K' ⟨h, l, ts', n'⟩) : ∀ (m : Nat) (ts : List TkP) (xs : List Ast) (n k : Nat), ts.length < m → n + c1 = c2 + Ast.sizeL xs → Rm (N + 1) k ⟨h, xs, ts, n⟩ → Gw (gSts xs) ts K2 E → wpStm (wpG (N + 1) gSta) (listP N) m ⟨h, xs, ts, n⟩ K' E := by
  intro m
  induction m with
  | zero => intro ts xs n k h; omega
  | succ m ih =>
    intro ts xs n k h1 hc hI H
    obtain ⟨t, r, rfl⟩ := hI.wf.fin.cons
    have G := Gw.look H
    have hn := hI.n
    have hx := hI.xs
    dsimp only at hn hx
    refine ⟨t, r, rfl, fun he => hK _ _ _ (G.pos he).ret hc, fun he => ?_⟩
    have G := G.neg (by simp [he])
    refine ⟨fun hw => ?_, fun hw => ⟨fun hr => ?_, fun hr => ?_⟩⟩
    · have G2 := ((G.neg (isW_no hw (by decide))).pos hw).tok
      exact ih r xs n (k + 2) (by simp at h1; omega) hc (hI.tok (isW_nz hw)) ((Gw.call G2).mono fun v ts' _ hv => hv.2.ret)
    · have G2 := Gw.call (G.pos hr).tok
      have hI29 : Rm (N + 1) k ⟨hdL 29 t.2.1, [], t :: r, n⟩ := ⟨hI.len, hI.n, by simp only [List.length_nil]; omega, hI.wf⟩
      refine kid_mk (by dsimp only; omega) ⟨t, r, t.2.1, rfl, .inl ⟨rfl, rfl⟩, ?_⟩
      refine (show WpSeq [wpSkip, retC (listP N), wpPerhaps [59] []] ⟨hdL 29 t.2.1, [], t :: r, n⟩ (FinK (KidK _ _ K' E)) E from ?_)
      refine skip_mk hI29 (isW_nz hr) fun hI => ?_
      obtain ⟨u, us, rfl⟩ := hI.wf.fin.cons
      have G3 := Gw.look G2
      have done : ∀ (l : List Ast) (ts2 : List TkP) (j : Nat), Rm N j ⟨hdL 29 t.2.1, l, ts2, n + Ast.sizeL l⟩ → K2 (xs ++ [nd 29 t.2.1 l]) ts2 → FinK (KidK (wpHang (hdZ 29) [wpSkip, retC (listP N), wpPerhaps [59] []]) ⟨h, xs, t :: u :: us, n⟩ K' E) ⟨hdL 29 t.2.1, l, ts2, n + Ast.sizeL l⟩ := fun l ts2 j hI hk => fin_mk hI (KidK.mk (hK _ _ _ hk (by show n + Ast.sizeL [nd 29 t.2.1 l] + c1 = c2 + Ast.sizeL (xs ++ [nd 29 t.2.1 l]); rw [sizeL_app]; omega)))
      refine ⟨u, us, rfl, fun hcase => ?_, fun hnu hns => ?_⟩
      · cases hu : endB u with
        | true =>
          have G4 := (G3.pos hu).ret.2.ret
          have hd := done [] (u :: us) (k + 2) (by rw [sizeL_nil]; exact hI) G4
          rw [sizeL_nil] at hd
          exact ⟨u, us, rfl, fun hs => by rw [end_semi hu] at hs; exact (Bool.false_ne_true hs).elim, fun _ => hd⟩
        | false =>
          have hs : isW [59] u = true := hcase.elim (fun h => by rw [hu] at h; exact (Bool.false_ne_true h).elim) id
          have G4 := ((G3.neg (by simp [hu])).pos hs).tok.ret.2.ret
          have hI3 := hI.tok (h' := hdL 29 t.2.1) (isW_nz hs)
          have hd := done [] us (k + 4) (by rw [sizeL_nil]; exact hI3) G4
          rw [sizeL_nil] at hd
          exact ⟨u, us, rfl, fun _ => hd, fun h => by rw [hs] at h; exact (Bool.false_ne_true h.symm).elim⟩
      · have G4 := (G3.neg (by simp [hnu])).neg (by simp [hns])
        refine list_mk hI G4 fun l r2 hI _ G5 => ?_
        obtain ⟨v, vs, rfl⟩ := hI.wf.fin.cons
        have G6 := G5.take
        exact ⟨v, vs, rfl, fun hs => done l vs _ (hI.tok (isW_nz hs)) (G6.1 hs).ret.2.ret, fun hs => done l (v :: vs) _ hI (G6.2 hs).ret.2.ret⟩
    · have G2 := (G.neg (by simp [hr])).neg (by simp [hw])
      refine kid_mk (by dsimp only; omega) ⟨hI.len, by dsimp only; omega, hI.wf.lin, (Gw.call G2).mono fun (x : Ast) ts' p hq => KidK.mk ?_⟩
      have hz : x.size + 2 * ts'.length ≤ 2 * (t :: r).length := hq.1
      have hxp := size_pos x
      exact ih ts' (xs ++ [x]) _ k (by simp only [List.length_cons] at *; omega) (by show n + Ast.sizeL [x] + c1 = c2 + Ast.sizeL (xs ++ [x]); rw [sizeL_app]; omega) (Rm.kids (j := k) hI (by rw [sz1]; omega) (PL.short p) (p.wf hI.wf)) ((Gw.call hq.2).mono fun v ts' _ hv => hv.2.ret)
theorem w_sts {s : St} (hf : Fin s.ts) (H : stsP (N + 1) s K' E) : stmC (wpG (N + 1) gSta) (listP N) s K' E := by
  obtain ⟨sh, sxs, sts, sn⟩ := s
  obtain ⟨h1, h2, h3, h4, h5⟩ := H
  dsimp only at h1 h2 h3 h4 h5 hf
  exact ⟨sts.length + 1, sts_mk _ (Ast.sizeL sxs) sn (fun l ts' n' hk hn => hk n' hn) (sts.length + 1) sts sxs sn 0 (Nat.lt_succ_self _) rfl ⟨h1, h2, h3, ⟨hf, h4⟩⟩ h5⟩
end
structure All (N : Nat) : Prop where
  exp : Rds 115 (wpG N (gExp 1))
  bnd : ∀ op, 1 ≤ op → op ≤ 23 → Rds2 147 (opB op) (rtP N op)
  itm : Rds 220 (wpG N gItm)
  suf : Rds 126 (wpG N gSuf)
  sts : RdN 18 (stsP N)
theorem all_zero : All 0 :=
  ⟨fun _ _ _ _ _ _ _ _ h => absurd h.1 (Nat.not_lt_zero _), fun _ _ _ _ _ _ _ _ _ _ _ h => absurd h.1 (Nat.not_lt_zero _), fun _ _ _ _ _ _ _ _ h => absurd h.1 (Nat.not_lt_zero _), fun _ _ _ _ _ _ _ _ h => absurd h.1 (Nat.not_lt_zero _), fun _ _ _ _ _ _ _ _ _ h => absurd h.1 (Nat.not_lt_zero _)⟩
theorem opB_nat {op : Int} (h0 : 1 ≤ op) (h1 : op ≤ 23) : 0 ≤ opB op ∧ opB op + 1 = ((opB op + 1).toNat : Int) := by
  have h9 : op = 1 ∨ op = 2 ∨ op = 3 ∨ op = 4 ∨ op = 5 ∨ op = 6 ∨ op = 7 ∨ op = 8 ∨ op = 9 ∨ op = 10 ∨ op = 11 ∨ op = 12 ∨ op = 13 ∨ op = 14 ∨ op = 15 ∨ op = 16 ∨ op = 17 ∨ op = 18 ∨ op = 19 ∨ op = 20 ∨ op = 21 ∨ op = 22 ∨ op = 23 := by omega
  rcases h9 with h | h | h | h | h | h | h | h | h | h | h | h | h | h | h | h | h | h | h | h | h | h | h <;> (rw [h]; decide)
theorem sta_all {N : Nat} (A : All N) (hS : Rds 126 (wpG (N + 1) gSuf)) : Rds 41 (wpG (N + 1) gSta) := by
  rintro b O ts T K E w hp ⟨h1, h2, h3, h4⟩
  obtain ⟨t, r, rfl⟩ := hp.fin.cons
  have hI : ∀ h', Rm (N + 1) 0 ⟨h', [], t :: r, T.length⟩ := fun h' => ⟨h1, h2, by simp only [List.length_nil]; omega, ⟨hp.fin, h3⟩⟩
  have hE := exp_p A.exp
  have hL := list_p A.exp
  have hB : RdN 86 (blkP N) := block_p A.sts
  have hBd : RdN 125 (bodyP N) := body_p parameters_p hB
  cases c1 : isW [58, 58] t with
  | true => exact sta_label b O t r T K E w hp c1 (w_label (hI _) h4 c1)
  | false =>
  cases c2 : isW wBreak t with
  | true => exact sta_break b O t r T K E w hp c2 (w_break (hI _) h4 c2)
  | false =>
  cases c3 : isW wGoto t with
  | true => exact sta_goto b O t r T K E w hp c3 (w_goto (hI _) h4 c3)
  | false =>
  cases c4 : isW wDo t with
  | true => exact sta_do hB b O t r T K E w hp c4 (w_do (hI _) h4 c4)
  | false =>
  cases c5 : isW wWhile t with
  | true => exact sta_while hE hB b O t r T K E w hp c5 (w_while (hI _) h4 c5)
  | false =>
  cases c6 : isW wRepeat t with
  | true => exact sta_repeat hB hE b O t r T K E w hp c6 (w_repeat (hI _) h4 c6)
  | false =>
  cases c7 : isW wIf t with
  | true => exact sta_if hE hB b O t r T K E w hp c7 (w_if (hI _) h4 c7)
  | false =>
  cases c8 : isW wFor t with
  | true => exact sta_for names_p (rounds_p hE hL) hB b O t r T K E w hp c8 (w_for (hI _) h4 c8)
  | false =>
  cases c9 : isW wFunction t with
  | true => exact sta_function (assigned_p hBd) b O t r T K E w hp c9 (w_function (hI _) h4 c9)
  | false =>
  cases c10 : isW wLocal t with
  | true => exact sta_local (declared_p hL hBd) b O t r T K E w hp c10 (w_local (hI _) h4 c10)
  | false =>
    have hq : NoSta t := ⟨c1, c2, c3, c4, c5, c6, c7, c8, c9, c10⟩
    have hTg : RdN 127 (tgtsP N) := targets_p (target_p A.suf)
    exact sta_begun (begun_p hS hTg hL) b O t r T K E w hp hq (w_begun (hI _) h4 hq)
theorem all_succ {N : Nat} (A : All N) : All (N + 1) := by
  have hE := exp_p A.exp
  have hL := list_p A.exp
  have hB : RdN 86 (blkP N) := block_p A.sts
  have hBd : RdN 125 (bodyP N) := body_p parameters_p hB
  have hIt : RdN 212 (itemsP N) := items_p A.itm
  have hTx : Rds 171 (txtP N) := operand_p (fun op _ _ => rds2_no 147 (opB op)) (rdn_no 125) hIt (rds_no 126)
  have hAr : RdN 178 (argP N) := arg_p hTx hL
  have hS : Rds 126 (wpG (N + 1) gSuf) := (suffixed_p hE hAr).of fun ts n K E hf h => w_suf hf h
  have hO : Rds 171 (wpG (N + 1) gUna) := (operand_p (fun op h0 h1 => A.bnd op (by omega) h1) hBd hIt hS).of fun ts n K E hf h => by
    obtain ⟨h1, h2, h3, h4⟩ := h
    obtain ⟨t, r, rfl⟩ := hf.cons
    exact w_opd (h := hdL 0 0) (k := 0) ⟨h1, h2, by simp only [List.length_nil]; omega, ⟨hf, h3⟩⟩ h4
  have hBn : ∀ (l : Int) (s : Nat), 0 ≤ l → l + 1 = (s : Int) → Rds2 147 l (wpG (N + 1) (gExp s)) := fun l s h0 hs => (bound_p hO l (fun op h1 h2 => A.bnd op h1 (by omega)) h0).of fun ts n K E hf h => w_exp hs h0 hf h
  have hX : Rds 115 (wpG (N + 1) (gExp 1)) := expression_p (hBn 0 1 (by decide) (by decide))
  have hSt := sta_all A hS
  refine ⟨hX, fun op h1 h2 => hBn _ _ (opB_nat h1 h2).1 (opB_nat h1 h2).2, ?_, hS, (statements_p hSt hL).of fun s K E hf h => w_sts hf h⟩
  rintro b O ts T K E w hp ⟨h1, h2, h3, h4⟩
  obtain ⟨t, r, rfl⟩ := hp.fin.cons
  exact item_p (exp_p hX) b O t r T K E w hp (item_mk (h := hdL 0 0) (k := 0) ⟨h1, h2, by simp only [List.length_nil]; omega, ⟨hp.fin, h3⟩⟩ h4)
theorem all_read : ∀ N, All N
  | 0 => all_zero
  | N + 1 => all_succ (all_read N)
end Go.Proofs.YtfpeecjafccfjaaGreatDoor
