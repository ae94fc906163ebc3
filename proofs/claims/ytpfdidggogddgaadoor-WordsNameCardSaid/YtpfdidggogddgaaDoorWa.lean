/- What words' functions and the document's answer of layer 10 say of values: one and the same text, told as a plain function of the kind; of numbers' digits: the number must be an int64 and the table of powers lie as the program's text lays it. -/
import Derived.Test.YtpfdidggogddgaaDoorWty
import Derived.Test.YtpfdidggogddgaaDoorWrf
namespace Go.Proofs.YtpfdidggogddgaaDoor
open Go.RowKit Go.Sort
abbrev cA : ByteArray := ⟨#[97, 116, 116, 101, 109, 112, 116, 32, 116, 111, 32]⟩
abbrev cB : ByteArray := ⟨#[32, 97, 32]⟩
abbrev cV : ByteArray := ⟨#[32, 118, 97, 108, 117, 101]⟩
/-- What is said of a value of kind k behind the words p. -/
def att (p : ByteArray) (k : Int) : ByteArray := p ++ typB k ++ cV
theorem att_join (q p : ByteArray) (k : Int) (h : cA ++ q ++ cB = p) : cA ++ q ++ cB ++ typB k ++ cV = att p k := by unfold att; rw [h]
theorem typ_size (k : Int) : (typB k).size ≤ 8 := by
  unfold typB
  repeat' split
  all_goals decide
theorem type_is (k n : Int) (s t : ByteArray) (w : World) (h : typB k = t) : Calls Tryd.prog 29 #[V k n s] w fun e w' => e = .returned (.string t) ∧ Below w.heap.size w w' := h ▸ type_any k n s w
theorem rtype_is (k n : Int) (s t : ByteArray) (w : World) (h : typB k = t) : Calls Tryd.prog 33 #[V k n s] w fun e w' => e = .returned (.string t) ∧ Below w.heap.size w w' := h ▸ rtype_any k n s w

set_option maxHeartbeats 400000 in
theorem attempt_any (q : ByteArray) (k n : Int) (s : ByteArray) (w : World) (hq : q.size ≤ 100) :
    Calls Tryd.prog 32 #[.string q, V k n s] w fun e w' => e = .returned (.string (cA ++ q ++ cB ++ typB k ++ cV)) ∧ Below w.heap.size w w' := by
  obtain ⟨T, hT⟩ : ∃ T, typB k = T := ⟨_, rfl⟩
  have hs : T.size ≤ 8 := hT ▸ typ_size k
  rw [hT]
  have HT := Lib.hid hT
  clear hT
  have h1 : (⟨#[97, 116, 116, 101, 109, 112, 116, 32, 116, 111, 32]⟩ : ByteArray).size = 11 := rfl
  have h2 : (⟨#[32, 97, 32]⟩ : ByteArray).size = 3 := rfl
  have h3 : (⟨#[32, 118, 97, 108, 117, 101]⟩ : ByteArray).size = 6 := rfl
  go_enter Tryd.func32, Tryd.ntmps32
  go_wp2_with fail
  refine (type_is _ _ _ _ _ HT.out).mono ?_; rintro e w1 ⟨rfl, b1⟩
  go_wp2_with fail
  go_ret
  exact ⟨rfl, thenB (below1 _ _) b1⟩

abbrev pIndex : ByteArray := ⟨#[97, 116, 116, 101, 109, 112, 116, 32, 116, 111, 32, 105, 110, 100, 101, 120, 32, 97, 32]⟩
theorem index_any (k n : Int) (s : ByteArray) (w : World) :
    Calls Tryd.prog 7 #[V k n s] w fun e w' => e = .returned (.string (att pIndex k)) ∧ Below w.heap.size w w' := by
  rw [← att_join ⟨#[105, 110, 100, 101, 120]⟩ pIndex k (by decide +kernel)]
  go_enter Tryd.func7, Tryd.ntmps7
  go_wp2_with fail
  refine (attempt_any _ _ _ _ _ (by decide)).mono ?_; rintro e w1 ⟨rfl, b1⟩
  go_wp2_with fail
  go_ret
  exact ⟨rfl, thenB (below1 _ _) b1⟩
theorem rindex_any (k n : Int) (s : ByteArray) (w : World) :
    Calls Tryd.prog 8 #[V k n s] w fun e w' => e = .returned (.string (att pIndex k)) ∧ Below w.heap.size w w' := by
  obtain ⟨T, hT⟩ : ∃ T, typB k = T := ⟨_, rfl⟩
  have hs : T.size ≤ 8 := hT ▸ typ_size k
  unfold att
  rw [hT]
  have HT := Lib.hid hT
  clear hT
  have h1 : (⟨#[97, 116, 116, 101, 109, 112, 116, 32, 116, 111, 32, 105, 110, 100, 101, 120, 32, 97, 32]⟩ : ByteArray).size = 19 := rfl
  have h3 : (⟨#[32, 118, 97, 108, 117, 101]⟩ : ByteArray).size = 6 := rfl
  go_enter Tryd.func8, Tryd.ntmps8
  go_wp2_with fail
  refine (rtype_is _ _ _ _ _ HT.out).mono ?_; rintro e w1 ⟨rfl, b1⟩
  go_wp2_with fail
  go_ret
  exact ⟨rfl, thenB (below1 _ _) b1⟩

abbrev pCall : ByteArray := ⟨#[97, 116, 116, 101, 109, 112, 116, 32, 116, 111, 32, 99, 97, 108, 108, 32, 97, 32]⟩
theorem call_any (k n : Int) (s : ByteArray) (w : World) :
    Calls Tryd.prog 9 #[V k n s] w fun e w' => e = .returned (.string (att pCall k)) ∧ Below w.heap.size w w' := by
  rw [← att_join ⟨#[99, 97, 108, 108]⟩ pCall k (by decide +kernel)]
  go_enter Tryd.func9, Tryd.ntmps9
  go_wp2_with fail
  refine (attempt_any _ _ _ _ _ (by decide)).mono ?_; rintro e w1 ⟨rfl, b1⟩
  go_wp2_with fail
  go_ret
  exact ⟨rfl, thenB (below1 _ _) b1⟩
theorem rcall_any (k n : Int) (s : ByteArray) (w : World) :
    Calls Tryd.prog 10 #[V k n s] w fun e w' => e = .returned (.string (att pCall k)) ∧ Below w.heap.size w w' := by
  obtain ⟨T, hT⟩ : ∃ T, typB k = T := ⟨_, rfl⟩
  have hs : T.size ≤ 8 := hT ▸ typ_size k
  unfold att
  rw [hT]
  have HT := Lib.hid hT
  clear hT
  have h1 : (⟨#[97, 116, 116, 101, 109, 112, 116, 32, 116, 111, 32, 99, 97, 108, 108, 32, 97, 32]⟩ : ByteArray).size = 18 := rfl
  have h3 : (⟨#[32, 118, 97, 108, 117, 101]⟩ : ByteArray).size = 6 := rfl
  go_enter Tryd.func10, Tryd.ntmps10
  go_wp2_with fail
  refine (rtype_is _ _ _ _ _ HT.out).mono ?_; rintro e w1 ⟨rfl, b1⟩
  go_wp2_with fail
  go_ret
  exact ⟨rfl, thenB (below1 _ _) b1⟩

abbrev pLen : ByteArray := ⟨#[97, 116, 116, 101, 109, 112, 116, 32, 116, 111, 32, 103, 101, 116, 32, 108, 101, 110, 103, 116, 104, 32, 111, 102, 32, 97, 32]⟩
theorem len_any (k n : Int) (s : ByteArray) (w : World) :
    Calls Tryd.prog 11 #[V k n s] w fun e w' => e = .returned (.string (att pLen k)) ∧ Below w.heap.size w w' := by
  rw [← att_join ⟨#[103, 101, 116, 32, 108, 101, 110, 103, 116, 104, 32, 111, 102]⟩ pLen k (by decide +kernel)]
  go_enter Tryd.func11, Tryd.ntmps11
  go_wp2_with fail
  refine (attempt_any _ _ _ _ _ (by decide)).mono ?_; rintro e w1 ⟨rfl, b1⟩
  go_wp2_with fail
  go_ret
  exact ⟨rfl, thenB (below1 _ _) b1⟩
theorem rlen_any (k n : Int) (s : ByteArray) (w : World) :
    Calls Tryd.prog 12 #[V k n s] w fun e w' => e = .returned (.string (att pLen k)) ∧ Below w.heap.size w w' := by
  obtain ⟨T, hT⟩ : ∃ T, typB k = T := ⟨_, rfl⟩
  have hs : T.size ≤ 8 := hT ▸ typ_size k
  unfold att
  rw [hT]
  have HT := Lib.hid hT
  clear hT
  have h1 : (⟨#[97, 116, 116, 101, 109, 112, 116, 32, 116, 111, 32, 103, 101, 116, 32, 108, 101, 110, 103, 116, 104, 32, 111, 102, 32, 97, 32]⟩ : ByteArray).size = 27 := rfl
  have h3 : (⟨#[32, 118, 97, 108, 117, 101]⟩ : ByteArray).size = 6 := rfl
  go_enter Tryd.func12, Tryd.ntmps12
  go_wp2_with fail
  refine (rtype_is _ _ _ _ _ HT.out).mono ?_; rintro e w1 ⟨rfl, b1⟩
  go_wp2_with fail
  go_ret
  exact ⟨rfl, thenB (below1 _ _) b1⟩

theorem number_is (k n : Int) (s : ByteArray) (w : World) (r : Bool) (hs : s.size ≤ 9223372036854775807) (h : nmO k s = r) :
    Calls Tryd.prog 34 #[V k n s] w fun e w' => e = .returned (.tuple #[.int .i64 (nmN k n s), .bool r]) ∧ Below w.heap.size w w' := h ▸ cNumber k n s w hs
theorem rnumber_is (k n : Int) (s : ByteArray) (w : World) (r : Bool) (hs : s.size ≤ 9223372036854775807) (h : nmO k s = r) :
    Calls Tryd.prog 35 #[V k n s] w fun e w' => e = .returned (.tuple #[.int .i64 (nmN k n s), .bool r]) ∧ Below w.heap.size w w' := h ▸ rNumber k n s w hs
theorem string_is (k n : Int) (s : ByteArray) (w : World) (r : Bool) (hT : Tab w) (hn0 : -9223372036854775808 ≤ n) (hn1 : n ≤ 9223372036854775807) (h : stO k = r) :
    Calls Tryd.prog 36 #[V k n s] w fun e w' => e = .returned (.tuple #[.string (stS k n s), .bool r]) ∧ Below w.heap.size w w' := h ▸ cString k n s w hT hn0 hn1
theorem rstring_is (k n : Int) (s : ByteArray) (w : World) (r : Bool) (hn0 : -9223372036854775808 ≤ n) (hn1 : n ≤ 9223372036854775807) (h : stO k = r) :
    Calls Tryd.prog 37 #[V k n s] w fun e w' => e = .returned (.tuple #[.string (stS k n s), .bool r]) ∧ Below w.heap.size w w' := h ▸ rString k n s w hn0 hn1
theorem fz0 {w w1 : World} {k n : Int} {s : ByteArray} (o : Obj) (b1 : Below ((w.alloc (vcells k n s)).alloc o).heap.size ((w.alloc (vcells k n s)).alloc o) w1) : ∀ i, w1.frozen? ⟨w.heap.size, i, none⟩ = false := fun i => by
  rw [b1.frozen (p := ⟨w.heap.size, i, none⟩) (by simp; omega)]
  simp [go_sem]
/-- A value laid over another one, in a block of one's own. -/
def lay3 (W : World) (b : Nat) (k n : Int) (s : ByteArray) : World := ((W.setCell ⟨b, 0, none⟩ (.int .i64 k)).setCell ⟨b, 1, none⟩ (.int .i64 n)).setCell ⟨b, 2, none⟩ (.string s)
theorem below_lay3 {B : Nat} {w W : World} {b : Nat} {k n : Int} {s : ByteArray} (h : Below B w W) (hb : B ≤ b) : Below B w (lay3 W b k n s) :=
  ((h.setCell (p := ⟨b, 0, none⟩) hb _).setCell (p := ⟨b, 1, none⟩) hb _).setCell (p := ⟨b, 2, none⟩) hb _

abbrev pArith : ByteArray := ⟨#[97, 116, 116, 101, 109, 112, 116, 32, 116, 111, 32, 112, 101, 114, 102, 111, 114, 109, 32, 97, 114, 105, 116, 104, 109, 101, 116, 105, 99, 32, 111, 110, 32, 97, 32]⟩
def arithK (ka kb : Int) (o : Bool) : Int := if o then kb else ka
set_option maxHeartbeats 400000 in
theorem arith_any (ka na : Int) (sa : ByteArray) (kb nb : Int) (sb : ByteArray) (w : World)  (hs : sa.size ≤ 9223372036854775807) :
    Calls Tryd.prog 13 #[V ka na sa, V kb nb sb] w fun e w' => e = .returned (.string (att pArith (arithK ka kb (nmO ka sa)))) ∧ Below w.heap.size w w' := by
  rw [← att_join ⟨#[112, 101, 114, 102, 111, 114, 109, 32, 97, 114, 105, 116, 104, 109, 101, 116, 105, 99, 32, 111, 110]⟩ pArith _ (by decide +kernel)]
  cases ho : nmO ka sa
  · have HO := Lib.hid ho
    have H0 := Lib.hid hs
    clear hs
    clear ho
    go_enter Tryd.func13, Tryd.ntmps13
    go_wp2_with fail
    refine (number_is _ _ _ _ _ H0.out HO.out).mono ?_; rintro e w1 ⟨rfl, b1⟩
    have HA := Lib.hid (((at_new w ka na sa).alloc (vcells kb nb sb)).below b1)
    have B1 := Lib.hid (thenB (below2 w (vcells ka na sa) (vcells kb nb sb)) b1)
    clear b1
    have a0 := HA.out.c0; have a1 := HA.out.c1; have a2 := HA.out.c2
    go_wp2_with fail
    refine (attempt_any _ _ _ _ _ (by decide)).mono ?_; rintro e w2 ⟨rfl, b2⟩
    go_wp2_with fail
    go_ret
    exact ⟨rfl, thenB B1.out b2⟩
  · have HO := Lib.hid ho
    have H0 := Lib.hid hs
    clear hs
    clear ho
    go_enter Tryd.func13, Tryd.ntmps13
    go_wp2_with fail
    refine (number_is _ _ _ _ _ H0.out HO.out).mono ?_; rintro e w1 ⟨rfl, b1⟩
    have HA := Lib.hid (((at_new w ka na sa).alloc (vcells kb nb sb)).below b1)
    have HB := Lib.hid ((at_new1 w (vcells ka na sa) kb nb sb).below b1)
    have fz := fz0 (vcells kb nb sb) b1
    have B1 := Lib.hid (thenB (below2 w (vcells ka na sa) (vcells kb nb sb)) b1)
    clear b1
    have a0 := HA.out.c0; have a1 := HA.out.c1; have a2 := HA.out.c2
    have b0 := HB.out.c0; have b1 := HB.out.c1; have b2 := HB.out.c2
    go_wp2_with fail
    refine (attempt_any _ _ _ _ _ (by decide)).mono ?_; rintro e w2 ⟨rfl, b2⟩
    have B2 := Lib.hid (thenB (below_lay3 (b := w.heap.size) (k := kb) (n := nb) (s := sb) B1.out (Nat.le_refl _)) b2)
    go_wp2_with fail
    go_ret
    exact ⟨rfl, B2.out⟩
set_option maxHeartbeats 400000 in
theorem rarith_any (ka na : Int) (sa : ByteArray) (kb nb : Int) (sb : ByteArray) (w : World) (hs : sa.size ≤ 9223372036854775807) :
    Calls Tryd.prog 14 #[V ka na sa, V kb nb sb] w fun e w' => e = .returned (.string (att pArith (arithK ka kb (nmO ka sa)))) ∧ Below w.heap.size w w' := by
  have c1 : (⟨#[97, 116, 116, 101, 109, 112, 116, 32, 116, 111, 32, 112, 101, 114, 102, 111, 114, 109, 32, 97, 114, 105, 116, 104, 109, 101, 116, 105, 99, 32, 111, 110, 32, 97, 32]⟩ : ByteArray).size = 35 := rfl
  have c3 : (⟨#[32, 118, 97, 108, 117, 101]⟩ : ByteArray).size = 6 := rfl
  cases ho : nmO ka sa
  · obtain ⟨T, hT⟩ : ∃ T, typB ka = T := ⟨_, rfl⟩
    have ht : T.size ≤ 8 := hT ▸ typ_size ka
    rw [show att pArith (arithK ka kb false) = pArith ++ T ++ cV from by rw [← hT]; rfl]
    have HT' := Lib.hid hT
    have HO := Lib.hid ho
    have H0 := Lib.hid hs
    clear hs
    clear ho hT
    go_enter Tryd.func14, Tryd.ntmps14
    go_wp2_with fail
    refine (rnumber_is _ _ _ _ _ H0.out HO.out).mono ?_; rintro e w1 ⟨rfl, b1⟩
    have HA := Lib.hid (((at_new w ka na sa).alloc (vcells kb nb sb)).below b1)
    have B1 := Lib.hid (thenB (below2 w (vcells ka na sa) (vcells kb nb sb)) b1)
    clear b1
    have a0 := HA.out.c0; have a1 := HA.out.c1; have a2 := HA.out.c2
    go_wp2_with fail
    refine (rtype_is _ _ _ _ _ HT'.out).mono ?_; rintro e w2 ⟨rfl, b2⟩
    go_wp2_with fail
    go_ret
    exact ⟨rfl, thenB B1.out b2⟩
  · obtain ⟨T, hT⟩ : ∃ T, typB kb = T := ⟨_, rfl⟩
    have ht : T.size ≤ 8 := hT ▸ typ_size kb
    rw [show att pArith (arithK ka kb true) = pArith ++ T ++ cV from by rw [← hT]; rfl]
    have HT' := Lib.hid hT
    have HO := Lib.hid ho
    have H0 := Lib.hid hs
    clear hs
    clear ho hT
    go_enter Tryd.func14, Tryd.ntmps14
    go_wp2_with fail
    refine (rnumber_is _ _ _ _ _ H0.out HO.out).mono ?_; rintro e w1 ⟨rfl, b1⟩
    have HA := Lib.hid (((at_new w ka na sa).alloc (vcells kb nb sb)).below b1)
    have HB := Lib.hid ((at_new1 w (vcells ka na sa) kb nb sb).below b1)
    have fz := fz0 (vcells kb nb sb) b1
    have B1 := Lib.hid (thenB (below2 w (vcells ka na sa) (vcells kb nb sb)) b1)
    clear b1
    have a0 := HA.out.c0; have a1 := HA.out.c1; have a2 := HA.out.c2
    have b0 := HB.out.c0; have b1 := HB.out.c1; have b2 := HB.out.c2
    go_wp2_with fail
    refine (rtype_is _ _ _ _ _ HT'.out).mono ?_; rintro e w2 ⟨rfl, b2⟩
    have B2 := Lib.hid (thenB (below_lay3 (b := w.heap.size) (k := kb) (n := nb) (s := sb) B1.out (Nat.le_refl _)) b2)
    go_wp2_with fail
    go_ret
    exact ⟨rfl, B2.out⟩

abbrev pConcat : ByteArray := ⟨#[97, 116, 116, 101, 109, 112, 116, 32, 116, 111, 32, 99, 111, 110, 99, 97, 116, 101, 110, 97, 116, 101, 32, 97, 32]⟩
def concatK (ka kb : Int) (o : Bool) : Int := if o then kb else ka
set_option maxHeartbeats 400000 in
theorem concat_any (ka na : Int) (sa : ByteArray) (kb nb : Int) (sb : ByteArray) (w : World) (hT : Tab w) (h0 : -9223372036854775808 ≤ na) (h1 : na ≤ 9223372036854775807) :
    Calls Tryd.prog 15 #[V ka na sa, V kb nb sb] w fun e w' => e = .returned (.string (att pConcat (concatK ka kb (stO ka)))) ∧ Below w.heap.size w w' := by
  rw [← att_join ⟨#[99, 111, 110, 99, 97, 116, 101, 110, 97, 116, 101]⟩ pConcat _ (by decide +kernel)]
  cases ho : stO ka
  · have HO := Lib.hid ho
    have H0 := Lib.hid h0; have H1 := Lib.hid h1; have HT := Lib.hid hT
    clear h0 h1 hT
    clear ho
    go_enter Tryd.func15, Tryd.ntmps15
    go_wp2_with fail
    refine (string_is _ _ _ _ _ (HT.out.below (below2 _ _ _)) H0.out H1.out HO.out).mono ?_; rintro e w1 ⟨rfl, b1⟩
    have HA := Lib.hid (((at_new w ka na sa).alloc (vcells kb nb sb)).below b1)
    have B1 := Lib.hid (thenB (below2 w (vcells ka na sa) (vcells kb nb sb)) b1)
    clear b1
    have a0 := HA.out.c0; have a1 := HA.out.c1; have a2 := HA.out.c2
    go_wp2_with fail
    refine (attempt_any _ _ _ _ _ (by decide)).mono ?_; rintro e w2 ⟨rfl, b2⟩
    go_wp2_with fail
    go_ret
    exact ⟨rfl, thenB B1.out b2⟩
  · have HO := Lib.hid ho
    have H0 := Lib.hid h0; have H1 := Lib.hid h1; have HT := Lib.hid hT
    clear h0 h1 hT
    clear ho
    go_enter Tryd.func15, Tryd.ntmps15
    go_wp2_with fail
    refine (string_is _ _ _ _ _ (HT.out.below (below2 _ _ _)) H0.out H1.out HO.out).mono ?_; rintro e w1 ⟨rfl, b1⟩
    have HA := Lib.hid (((at_new w ka na sa).alloc (vcells kb nb sb)).below b1)
    have HB := Lib.hid ((at_new1 w (vcells ka na sa) kb nb sb).below b1)
    have fz := fz0 (vcells kb nb sb) b1
    have B1 := Lib.hid (thenB (below2 w (vcells ka na sa) (vcells kb nb sb)) b1)
    clear b1
    have a0 := HA.out.c0; have a1 := HA.out.c1; have a2 := HA.out.c2
    have b0 := HB.out.c0; have b1 := HB.out.c1; have b2 := HB.out.c2
    go_wp2_with fail
    refine (attempt_any _ _ _ _ _ (by decide)).mono ?_; rintro e w2 ⟨rfl, b2⟩
    have B2 := Lib.hid (thenB (below_lay3 (b := w.heap.size) (k := kb) (n := nb) (s := sb) B1.out (Nat.le_refl _)) b2)
    go_wp2_with fail
    go_ret
    exact ⟨rfl, B2.out⟩
set_option maxHeartbeats 400000 in
theorem rconcat_any (ka na : Int) (sa : ByteArray) (kb nb : Int) (sb : ByteArray) (w : World) (h0 : -9223372036854775808 ≤ na) (h1 : na ≤ 9223372036854775807) :
    Calls Tryd.prog 16 #[V ka na sa, V kb nb sb] w fun e w' => e = .returned (.string (att pConcat (concatK ka kb (stO ka)))) ∧ Below w.heap.size w w' := by
  have c1 : (⟨#[97, 116, 116, 101, 109, 112, 116, 32, 116, 111, 32, 99, 111, 110, 99, 97, 116, 101, 110, 97, 116, 101, 32, 97, 32]⟩ : ByteArray).size = 25 := rfl
  have c3 : (⟨#[32, 118, 97, 108, 117, 101]⟩ : ByteArray).size = 6 := rfl
  cases ho : stO ka
  · obtain ⟨T, hT⟩ : ∃ T, typB ka = T := ⟨_, rfl⟩
    have ht : T.size ≤ 8 := hT ▸ typ_size ka
    rw [show att pConcat (concatK ka kb false) = pConcat ++ T ++ cV from by rw [← hT]; rfl]
    have HT' := Lib.hid hT
    have HO := Lib.hid ho
    have H0 := Lib.hid h0; have H1 := Lib.hid h1
    clear h0 h1
    clear ho hT
    go_enter Tryd.func16, Tryd.ntmps16
    go_wp2_with fail
    refine (rstring_is _ _ _ _ _ H0.out H1.out HO.out).mono ?_; rintro e w1 ⟨rfl, b1⟩
    have HA := Lib.hid (((at_new w ka na sa).alloc (vcells kb nb sb)).below b1)
    have B1 := Lib.hid (thenB (below2 w (vcells ka na sa) (vcells kb nb sb)) b1)
    clear b1
    have a0 := HA.out.c0; have a1 := HA.out.c1; have a2 := HA.out.c2
    go_wp2_with fail
    refine (rtype_is _ _ _ _ _ HT'.out).mono ?_; rintro e w2 ⟨rfl, b2⟩
    go_wp2_with fail
    go_ret
    exact ⟨rfl, thenB B1.out b2⟩
  · obtain ⟨T, hT⟩ : ∃ T, typB kb = T := ⟨_, rfl⟩
    have ht : T.size ≤ 8 := hT ▸ typ_size kb
    rw [show att pConcat (concatK ka kb true) = pConcat ++ T ++ cV from by rw [← hT]; rfl]
    have HT' := Lib.hid hT
    have HO := Lib.hid ho
    have H0 := Lib.hid h0; have H1 := Lib.hid h1
    clear h0 h1
    clear ho hT
    go_enter Tryd.func16, Tryd.ntmps16
    go_wp2_with fail
    refine (rstring_is _ _ _ _ _ H0.out H1.out HO.out).mono ?_; rintro e w1 ⟨rfl, b1⟩
    have HA := Lib.hid (((at_new w ka na sa).alloc (vcells kb nb sb)).below b1)
    have HB := Lib.hid ((at_new1 w (vcells ka na sa) kb nb sb).below b1)
    have fz := fz0 (vcells kb nb sb) b1
    have B1 := Lib.hid (thenB (below2 w (vcells ka na sa) (vcells kb nb sb)) b1)
    clear b1
    have a0 := HA.out.c0; have a1 := HA.out.c1; have a2 := HA.out.c2
    have b0 := HB.out.c0; have b1 := HB.out.c1; have b2 := HB.out.c2
    go_wp2_with fail
    refine (rtype_is _ _ _ _ _ HT'.out).mono ?_; rintro e w2 ⟨rfl, b2⟩
    have B2 := Lib.hid (thenB (below_lay3 (b := w.heap.size) (k := kb) (n := nb) (s := sb) B1.out (Nat.le_refl _)) b2)
    go_wp2_with fail
    go_ret
    exact ⟨rfl, B2.out⟩
end Go.Proofs.YtpfdidggogddgaaDoor
