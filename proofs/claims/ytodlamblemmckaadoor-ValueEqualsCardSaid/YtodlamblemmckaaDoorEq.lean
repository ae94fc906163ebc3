/- selkielaw01.ValueEquals answers true at any three values, wherever the table of powers lies as the program's text lays it. -/
import Derived.Test.YtodlamblemmckaaDoorTri
namespace Go.Proofs.YtodlamblemmckaaDoor
open Go.RowKit Go.Sort

theorem typ_empty (k : Int) : (typB k).toList.isEmpty = strB k := by
  rcases kinds k with rfl | rfl | rfl | rfl | rfl | rfl | rfl | rfl | h | h
  iterate 8 · decide +kernel
  all_goals
    have e : typB k = noS := by unfold typB; repeat rw [if_neg (by omega)]
    have e0 : strB k = true := by simp [strB]; omega
    rw [e, e0]; decide +kernel

/-- What Key answers of a value: its parts, and the error's number. -/
def KeyIs (k n : Int) (s : ByteArray) (xk xn : Int) (xs : ByteArray) (xe : Int) : Prop :=
  ∀ w : World, Calls Tryd.prog 10 #[V k n s] w fun e w' => e = .returned (.tuple #[V xk xn xs, .int .i64 xe]) ∧ Below w.heap.size w w'

/-- How two keys' parts compare, as Go compares them, field by field. -/
def Cmp (xk xn : Int) (xs : ByteArray) (yk yn : Int) (ys : ByteArray) (r : Bool) : Prop :=
  (r = false ∧ ¬ xk = yk) ∨ (r = false ∧ xk = yk ∧ ¬ xn = yn) ∨ (r = false ∧ xk = yk ∧ xn = yn ∧ ¬ xs.toList = ys.toList) ∨ (r = true ∧ xk = yk ∧ xn = yn ∧ xs.toList = ys.toList)

set_option maxHeartbeats 8000000 in
theorem equals_core (ka na kb nb kc nc : Int) (sa sb sc : ByteArray) (ab bc ac aa : Bool) (xk xn yk yn : Int) (xs ys : ByteArray) (xe ye : Int) (w : World)
    (hT : Tab w) (hs : bigB sa sb sc = false) (hab : rawB ka na sa kb nb sb = ab) (hba : rawB kb nb sb ka na sa = ab) (hbc : rawB kb nb sb kc nc sc = bc) (hac : rawB ka na sa kc nc sc = ac)
    (haa : rawB ka na sa ka na sa = aa) (hty : (typB ka).toList.isEmpty = !aa) (hX : KeyIs ka na sa xk xn xs xe) (hY : KeyIs kb nb sb yk yn ys ye)
    (h1 : ab = true → bc = true → ac = true) (h2 : xe = 15 ∨ xe = 0 ∧ ye = 15 ∨ xe = 0 ∧ ye = 0 ∧ Cmp xk xn xs yk yn ys ab) :
    Calls Tryd.prog 5 #[V ka na sa, V kb nb sb, V kc nc sc] w fun e w' => e = .returned (.bool true) ∧ Below w.heap.size w w' := by
  have HT := Lib.hid hT
  have Hs := Lib.hid hs
  have Hab := Lib.hid hab; have Hbc := Lib.hid hbc; have Hac := Lib.hid hac; have Hba := Lib.hid hba; have Haa := Lib.hid haa
  have HX := Lib.hid hX; have HY := Lib.hid hY
  clear hT hs hab hba hbc hac haa hX hY
  have hw : (ab = false) ∨ (ab = true ∧ bc = false) ∨ (ab = true ∧ bc = true ∧ ac = true) := by
    cases ab <;> cases bc <;> simp_all
  clear h1
  rcases hw with rfl | ⟨rfl, rfl⟩ | ⟨rfl, rfl, rfl⟩ <;> rcases h2 with rfl | ⟨rfl, rfl⟩ | ⟨rfl, rfl, ⟨e, h⟩ | ⟨e, h, h'⟩ | ⟨e, h, h', h''⟩ | ⟨e, h, h', h''⟩⟩
  all_goals try cases e
  all_goals
    try subst h
    try subst h'
    go_enter Tryd.func5, Tryd.ntmps5
    go_wp2_with fail
    refine (alive_any _ (HT.out.below (below3 _ _ _ _))).mono ?_; rintro e w1 ⟨rfl, b1⟩
    have hA : At w1 w.heap.size ka na sa := (((at_new w ka na sa).alloc _).alloc _).below b1
    have hB : At w1 (w.heap.size + 1) kb nb sb := ((at_new1 w (vcells ka na sa) kb nb sb).alloc _).below b1
    have hC : At w1 (w.heap.size + 1 + 1) kc nc sc := (at_new_2 w (vcells ka na sa) (vcells kb nb sb) kc nc sc).below b1
    have B1 := Lib.hid (thenB (below3 _ _ _ _) b1)
    have HA := Lib.hid hA; have HB := Lib.hid hB; have HC := Lib.hid hC
    clear b1
    have a0 := hA.c0; have a1 := hA.c1; have a2 := hA.c2
    have b0 := hB.c0; have b1 := hB.c1; have b2 := hB.c2
    have c0 := hC.c0; have c1 := hC.c1; have c2 := hC.c2
    clear hA hB hC
    go_wp2_with fail
    refine (great3 _ _ _ _ _ _ _ _ _ _ _ Hs.out).mono ?_; rintro e w2 ⟨rfl, bb⟩
    have B2 := Lib.hid (thenB B1.out bb)
    have HA2 := Lib.hid (HA.out.below bb); have HB2 := Lib.hid (HB.out.below bb); have HC2 := Lib.hid (HC.out.below bb)
    clear a0 a1 a2 b0 b1 b2 c0 c1 c2 HA HB HC B1 bb
    have a0 := cell_regrown HA2.out.c0; have a1 := cell_regrown HA2.out.c1; have a2 := cell_regrown HA2.out.c2
    have b0 := cell_regrown HB2.out.c0; have b1 := cell_regrown HB2.out.c1; have b2 := cell_regrown HB2.out.c2
    have c0 := cell_regrown HC2.out.c0; have c1 := cell_regrown HC2.out.c1; have c2 := cell_regrown HC2.out.c2
    go_wp2_with fail
    refine wp_region_quiet_below (by kernel_rfl) (by kernel_rfl) ?_
    repeat (go_big_quiet_step ((go_at_call 22; exact Calls.regrown_of (raw_is _ _ _ _ _ _ _ _ (by first | exact Hab.out | exact Hbc.out | exact Hac.out | exact Hba.out | exact Haa.out | rfl)))))
    refine wpQuiet_nil ?_
    intro _ hw'
    obtain ⟨⟨dq, osq⟩, hw''⟩ := hw'
    have bb := below_regrown w2 dq osq
    rw [← hw''] at bb
    clear hw'' a0 a1 a2 b0 b1 b2 c0 c1 c2
    rename_i w3
    have B3 := Lib.hid (thenB B2.out bb)
    have HA3 := Lib.hid (HA2.out.below bb); have HB3 := Lib.hid (HB2.out.below bb)
    clear bb B2 HA2 HB2 HC2
    have a0 := cell_regrown HA3.out.c0; have a1 := cell_regrown HA3.out.c1; have a2 := cell_regrown HA3.out.c2
    have b0 := cell_regrown HB3.out.c0; have b1 := cell_regrown HB3.out.c1; have b2 := cell_regrown HB3.out.c2
    go_wp2_with fail
    refine wp_region_quiet_below (by kernel_rfl) (by kernel_rfl) ?_
    repeat (go_big_quiet_step (first | (go_at_call 22; exact Calls.regrown_of (raw_is _ _ _ _ _ _ _ _ (by first | exact Hab.out | exact Hbc.out | exact Hac.out | exact Hba.out | exact Haa.out | rfl))) | (go_at_call 14; exact Calls.regrown_of (type_any _ _ _ _))))
    refine wpQuiet_nil ?_
    intro _ hw'
    obtain ⟨⟨dq, osq⟩, hw''⟩ := hw'
    have bb := below_regrown w3 dq osq
    rw [← hw''] at bb
    clear hw'' a0 a1 a2 b0 b1 b2
    rename_i w4
    have B4 := Lib.hid (thenB B3.out bb)
    have HA4 := Lib.hid (HA3.out.below bb); have HB4 := Lib.hid (HB3.out.below bb)
    clear bb B3 HA3 HB3
    have a0 := HA4.out.c0; have a1 := HA4.out.c1; have a2 := HA4.out.c2
    go_wp2_with fail
    refine (HX.out _).mono ?_; rintro e w5 ⟨rfl, bb⟩
    have B5 := Lib.hid (thenB B4.out bb)
    have HB5 := Lib.hid (HB4.out.below bb)
    clear a0 a1 a2 B4 HA4 HB4 bb
    have b0 := fun o => (HB5.out.alloc o).c0; have b1 := fun o => (HB5.out.alloc o).c1; have b2 := fun o => (HB5.out.alloc o).c2
    go_wp2_with fail
    refine (HY.out _).mono ?_; rintro e w6 ⟨rfl, bb⟩
    have B6 := Lib.hid (thenB (thenB B5.out (below1 _ _)) bb)
    have HX6 := Lib.hid ((at_new w5 xk xn xs).below bb)
    clear b0 b1 b2 B5 HB5 bb
    have x0 := fun o => (HX6.out.alloc o).c0; have x1 := fun o => (HX6.out.alloc o).c1; have x2 := fun o => (HX6.out.alloc o).c2
    go_wp2_with fail
    go_ret
    exact ⟨rfl, thenB B6.out (below1 _ _)⟩


theorem ownK_good {k : Int} (h : strB k = false) : ownK k = k := by simp [ownK, h]

theorem keyIs_bad {k : Int} (n : Int) (s : ByteArray) (h : k = 0 ∨ strB k = true) : KeyIs k n s 0 0 noS 15 := fun w => by
  refine key_no k n s w ?_
  rcases h with h | h
  · exact .inl h
  · simp [strB] at h
    exact .inr h
theorem keyIs_good {k : Int} (n : Int) (s : ByteArray) (h0 : ¬ k = 0) (h : strB k = false) : KeyIs k n s (ownK k) (ownN k n) (ownS k s) 0 := fun w => by
  simp [strB] at h
  exact key_yes k n s w (by omega) (by omega)

theorem cmp_raw (ka na kb nb : Int) (sa sb : ByteArray) (ha : strB ka = false) (hb : strB kb = false) :
    Cmp (ownK ka) (ownN ka na) (ownS ka sa) (ownK kb) (ownN kb nb) (ownS kb sb) (rawB ka na sa kb nb sb) := by
  rw [ownK_good ha, ownK_good hb]
  by_cases h1 : ka = kb
  · by_cases h2 : ownN ka na = ownN kb nb
    · by_cases h3 : (ownS ka sa).toList = (ownS kb sb).toList
      · have e : rawB ka na sa kb nb sb = true := by unfold rawB; exact decide_eq_true ⟨h1, ha, h2, h3⟩
        rw [e]; exact .inr (.inr (.inr ⟨rfl, h1, h2, h3⟩))
      · have e : rawB ka na sa kb nb sb = false := by unfold rawB; exact decide_eq_false fun h => h3 h.2.2.2
        rw [e]; exact .inr (.inr (.inl ⟨rfl, h1, h2, h3⟩))
    · have e : rawB ka na sa kb nb sb = false := by unfold rawB; exact decide_eq_false fun h => h2 h.2.2.1
      rw [e]; exact .inr (.inl ⟨rfl, h1, h2⟩)
  · have e : rawB ka na sa kb nb sb = false := by unfold rawB; exact decide_eq_false fun h => h1 h.1
    rw [e]; exact .inl ⟨rfl, h1⟩

set_option maxHeartbeats 800000 in
theorem equals_any (ka na kb nb kc nc : Int) (sa sb sc : ByteArray) (w : World) (hT : Tab w) :
    Calls Tryd.prog 5 #[V ka na sa, V kb nb sb, V kc nc sc] w fun e w' => e = .returned (.bool true) ∧ Below w.heap.size w w' := by
  cases hs : bigB sa sb sc
  · have hty : (typB ka).toList.isEmpty = !(!strB ka) := by rw [typ_empty, Bool.not_not]
    have sym := raw_symm ka na sa kb nb sb
    have tr : rawB ka na sa kb nb sb = true → rawB kb nb sb kc nc sc = true → rawB ka na sa kc nc sc = true := fun h h' => raw_trans h h'
    by_cases ha : ka = 0 ∨ strB ka = true
    · by_cases hb : kb = 0 ∨ strB kb = true
      · exact equals_core ka na kb nb kc nc sa sb sc _ _ _ _ _ _ _ _ _ _ _ _ w hT hs rfl sym rfl rfl (raw_self ka na sa) hty (keyIs_bad na sa ha) (keyIs_bad nb sb hb) tr (.inl rfl)
      · exact equals_core ka na kb nb kc nc sa sb sc _ _ _ _ _ _ _ _ _ _ _ _ w hT hs rfl sym rfl rfl (raw_self ka na sa) hty (keyIs_bad na sa ha) (keyIs_good nb sb (fun h => hb (.inl h)) (by simpa using fun h => hb (.inr h))) tr (.inl rfl)
    · have ha0 : ¬ ka = 0 := fun h => ha (.inl h)
      have has : strB ka = false := by simpa using fun h => ha (.inr h)
      by_cases hb : kb = 0 ∨ strB kb = true
      · exact equals_core ka na kb nb kc nc sa sb sc _ _ _ _ _ _ _ _ _ _ _ _ w hT hs rfl sym rfl rfl (raw_self ka na sa) hty (keyIs_good na sa ha0 has) (keyIs_bad nb sb hb) tr (.inr (.inl ⟨rfl, rfl⟩))
      · have hb0 : ¬ kb = 0 := fun h => hb (.inl h)
        have hbs : strB kb = false := by simpa using fun h => hb (.inr h)
        exact equals_core ka na kb nb kc nc sa sb sc _ _ _ _ _ _ _ _ _ _ _ _ w hT hs rfl sym rfl rfl (raw_self ka na sa) hty (keyIs_good na sa ha0 has) (keyIs_good nb sb hb0 hbs) tr (.inr (.inr ⟨rfl, rfl, cmp_raw ka na kb nb sa sb has hbs⟩))
  · have HT := Lib.hid hT
    have Hs := Lib.hid hs
    clear hT hs
    go_enter Tryd.func5, Tryd.ntmps5
    go_wp2_with fail
    refine (alive_any _ (HT.out.below (below3 _ _ _ _))).mono ?_; rintro e w1 ⟨rfl, b1⟩
    have hA : At w1 w.heap.size ka na sa := (((at_new w ka na sa).alloc _).alloc _).below b1
    have hB : At w1 (w.heap.size + 1) kb nb sb := ((at_new1 w (vcells ka na sa) kb nb sb).alloc _).below b1
    have hC : At w1 (w.heap.size + 1 + 1) kc nc sc := (at_new_2 w (vcells ka na sa) (vcells kb nb sb) kc nc sc).below b1
    have B1 := Lib.hid (thenB (below3 _ _ _ _) b1)
    clear b1
    have a0 := hA.c0; have a1 := hA.c1; have a2 := hA.c2
    have b0 := hB.c0; have b1 := hB.c1; have b2 := hB.c2
    have c0 := hC.c0; have c1 := hC.c1; have c2 := hC.c2
    clear hA hB hC
    go_wp2_with fail
    refine (great3 _ _ _ _ _ _ _ _ _ _ _ Hs.out).mono ?_; rintro e w2 ⟨rfl, bb⟩
    have B2 := Lib.hid (thenB B1.out bb)
    clear bb
    go_wp2_with fail
    go_ret
    exact ⟨rfl, B2.out⟩
end Go.Proofs.YtodlamblemmckaaDoor
