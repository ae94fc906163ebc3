/- selkielaw05.LexRows answers true at any two texts. -/
import Derived.Test.YtbeckfamnhfaeaaGreatDoorEq
namespace Go.Proofs.YtbeckfamnhfaeaaGreatDoor
open Go.RowKit

theorem then_below {B : Nat} {a b c : World} (h : Below B a b) (hB : B ≤ a.heap.size) (k : Below b.heap.size b c) : Below B a c := h.trans (k.mono (Nat.le_trans hB h.size))
set_option maxHeartbeats 2000000 in
set_option maxRecDepth 100000 in
theorem rows_far (a b : ByteArray) (w : World) (h : Env w) (hf : 2000 < a.size ∨ 2000 < b.size) : Calls Tryz.prog 6 #[.string a, .string b] w fun e w' => e = .returned (.bool true) ∧ Below w.heap.size w w' := by
  have A1 := Lib.hid (alive_any w h)
  clear h
  by_cases h1 : 2000 < a.size
  · clear hf
    go_enter Tryz.func6, Tryz.ntmps6
    go_wp2_with fail
    refine A1.out.mono ?_; rintro e w1 ⟨rfl, b1⟩
    go_wp2_with fail
    go_ret
    exact ⟨rfl, b1⟩
  · have g1 : decide ((2000 : Int) < (a.size : Int)) = false := decide_eq_false (by omega)
    have g2 : decide ((2000 : Int) < (b.size : Int)) = true := decide_eq_true (by omega)
    clear hf h1
    go_enter Tryz.func6, Tryz.ntmps6
    go_wp2_with fail
    refine A1.out.mono ?_; rintro e w1 ⟨rfl, b1⟩
    go_wp2_with fail
    go_ret
    exact ⟨rfl, b1⟩

set_option maxHeartbeats 8000000 in
set_option maxRecDepth 100000 in
theorem rows_near (a b : ByteArray) (w : World) (h : Env w) (h1 : a.size ≤ 2000) (h2 : b.size ≤ 2000) : Calls Tryz.prog 6 #[.string a, .string b] w fun e w' => e = .returned (.bool true) ∧ Below w.heap.size w w' := by
  have A1 := Lib.hid (alive_any w h)
  have HE := Lib.hid h
  have g1 : decide ((2000 : Int) < (a.size : Int)) = false := decide_eq_false (by omega)
  have g2 : decide ((2000 : Int) < (b.size : Int)) = false := decide_eq_false (by omega)
  clear h
  go_enter Tryz.func6, Tryz.ntmps6
  go_wp2_with fail
  refine A1.out.mono ?_; rintro e w1 ⟨rfl, b1⟩
  have E1 := Lib.hid (HE.out.below b1)
  have B1 := Lib.hid b1
  clear b1
  go_wp2_with fail
  refine (lex_any a _ (by omega) E1.out.big E1.out.mx).mono ?_; rintro e w2 ⟨b2, o, ho, hm⟩
  have E2 := Lib.hid (E1.out.below b2)
  have B2 := Lib.hid (then_below B1.out (Nat.le_refl _) b2)
  clear b2
  have HO := Lib.hid ho
  clear ho
  rcases o with n | l
  · obtain ⟨v, rfl, hf⟩ := hm
    obtain ⟨g, rfl, _⟩ := hf
    go_wp2_with fail
    refine (lex_any b _ (by omega) E2.out.big E2.out.mx).mono ?_; rintro e w3 ⟨b3, o3, _, hm3⟩
    have B3 := Lib.hid (then_below B2.out (Nat.le_refl _) b3)
    clear b3
    rcases o3 with n3 | m
    · obtain ⟨v3, rfl, hf3⟩ := hm3
      obtain ⟨g3, rfl, _⟩ := hf3
      go_wp2_with fail
      go_ret
      exact ⟨rfl, B3.out⟩
    · obtain ⟨_, v3, rfl, hf3⟩ := hm3
      obtain ⟨g3, c3, rfl, _⟩ := hf3.ex
      go_wp2_with fail
      go_ret
      exact ⟨rfl, B3.out⟩
  · obtain ⟨hlb, v, rfl, ht2⟩ := hm
    have T2 := Lib.hid ht2
    obtain ⟨g, cap, rfl, _⟩ := ht2.ex
    clear ht2
    go_wp2_with fail
    refine (lex_any b _ (by omega) E2.out.big E2.out.mx).mono ?_; rintro e w3 ⟨b3, o3, ho3, hm3⟩
    have E3 := Lib.hid (E2.out.below b3)
    have B3 := Lib.hid (then_below B2.out (Nat.le_refl _) b3)
    have T3 := Lib.hid (T2.out.below b3)
    have HO3 := Lib.hid ho3
    clear b3 ho3
    rcases o3 with n3 | m
    · obtain ⟨v3, rfl, hf3⟩ := hm3
      obtain ⟨g3, rfl, _⟩ := hf3
      go_wp2_with fail
      go_ret
      exact ⟨rfl, B3.out⟩
    · obtain ⟨hmb, v3, rfl, hu3⟩ := hm3
      have U3 := Lib.hid hu3
      obtain ⟨g3, cap3, rfl, _⟩ := hu3.ex
      clear hu3
      go_wp2_with fail
      obtain ⟨T, hl, hall⟩ := rows_pure HO.out HO3.out
      have hl1 : l.length = T.length + 1 := by rw [hl, List.length_append]; rfl
      have HL := Lib.hid hl
      have HALL := Lib.hid hall
      clear hl hall
      go_loop [9, 45] (fun n i => ∃ k : Nat, k ≤ a.size ∧ i = .int .i64 k ∧ n = .int .i64 ((2 + nl (a.data.toList.take k) : Nat) : Int)) (fun _ i => a.size - (intOf i).toNat)
      case atStart => exact ⟨0, Nat.zero_le _, rfl, rfl⟩
      case round =>
        obtain ⟨k, hk, rfl, rfl⟩ := hrel
        have hn1 := nl_le (a.data.toList.take k)
        rw [List.length_take] at hn1
        by_cases hlt : k < a.size
        · have hsn := nl_app (a.data.toList.take k) [a[k]]
          rw [← take_snoc a k hlt] at hsn
          have HSN := Lib.hid hsn
          clear hsn
          by_cases hc : a[k] = 10
          · go_wp2_with fail
            go_round
            case rel => exact ⟨k + 1, by omega, by go_num, by rw [HSN.out, hc, show nl [10] = 1 from rfl]; go_num⟩
            case measure => simp [intOf]; omega
          · have hcn : a[k].toNat ≠ 10 := fun e => hc (UInt8.toNat_inj.1 e)
            have gc : ((a[k].toNat : Int) == 10) = false := beq_eq_false_iff_ne.2 (by omega)
            have h0 : nl [a[k]] = 0 := by unfold nl Lib.countByte; simp [hc]
            have H0 := Lib.hid h0
            clear h0
            go_wp2_with fail
            go_round
            case rel => exact ⟨k + 1, by omega, by go_num, by rw [HSN.out, H0.out]; rfl⟩
            case measure => simp [intOf]; omega
        · have hka : a.data.toList.take k = a.data.toList := List.take_of_length_le (by rw [← Lib.size_eq]; omega)
          rw [hka] at hn1 ⊢
          obtain ⟨N, hN⟩ : ∃ N : Nat, N = nl a.data.toList := ⟨_, rfl⟩
          rw [← hN] at hn1 ⊢
          rw [← hN] at HALL
          have hNb : N ≤ 2000 := by have := nl_le a.data.toList; rw [← hN, ← Lib.size_eq] at this; omega
          clear hka hN hk
          have hsum : (a ++ (⟨#[10, 10]⟩ : ByteArray) ++ b).data.toList = a.data.toList ++ [10, 10] ++ b.data.toList := by rw [nl_append, nl_append]
          have h10 : (⟨#[10, 10]⟩ : ByteArray).size = 2 := rfl
          obtain ⟨S, hS⟩ : ∃ S : ByteArray, S = a ++ (⟨#[10, 10]⟩ : ByteArray) ++ b := ⟨_, rfl⟩
          have hSs : S.size ≤ 10000 := by rw [hS, ByteArray.size_append, ByteArray.size_append, h10]; omega
          obtain ⟨al, hal⟩ : ∃ al : List Tk, al = T ++ m.map (onL ((N : Int) + 2)) := ⟨_, rfl⟩
          have hall' : LexR (lastL S) S.data.toList (.ok al) := by
            rw [lastL_eq, hS, hsum, hal]
            exact HALL.out
          have L4 := Lib.hid (fun W (hW : Env W) => lex_ok S W hSs hW hall')
          rw [hS] at L4
          have hal1 : al.length = T.length + m.length := by rw [hal, List.length_append, List.length_map]
          have HAL := Lib.hid hal
          clear hsum hS hSs hal hall' HALL
          go_wp2_with fail
          refine (L4.out _ E3.out).mono ?_; rintro e w4 ⟨v4, rfl, hv4, b4⟩
          have E4 := Lib.hid (E3.out.below b4)
          have B4 := Lib.hid (then_below B3.out (Nat.le_refl _) b4)
          have T4 := Lib.hid (T3.out.below b4)
          have U4 := Lib.hid (U3.out.below b4)
          have V4 := Lib.hid hv4
          clear b4 hv4
          obtain ⟨g4, cap4, rfl, hcap4, hgl4, hce4⟩ := V4.out.ex
          obtain ⟨g', cap', he, hcapT, hglT, hceT⟩ := T4.out.ex
          obtain ⟨rfl, rfl⟩ : g = g' ∧ cap = cap' := by
            simp only [Value.slice.injEq, Option.some.injEq, Addr.mk.injEq, and_true, true_and] at he
            exact he
          obtain ⟨g'', cap'', he'', hcapU, hglU, hceU⟩ := U4.out.ex
          obtain ⟨rfl, rfl⟩ : g3 = g'' ∧ cap3 = cap'' := by
            simp only [Value.slice.injEq, Option.some.injEq, Addr.mk.injEq, and_true, true_and] at he''
            exact he''
          have HCE4 := Lib.hid hce4
          have HCET := Lib.hid hceT
          have HCEU := Lib.hid hceU
          clear he he'' hce4 hceT hceU
          have gneq : ((al.length : Int) != (l.length : Int) - 1 + (m.length : Int)) = false := by simp; omega
          go_wp2_with fail
          go_loopg [82] T.length (fun z i wr => ∃ k : Nat, k ≤ T.length ∧ T.length - k ≤ z ∧ i = .int .i64 k ∧ Below w4.heap.size w4 wr)
          case atStart => exact ⟨0, Nat.zero_le _, by omega, rfl, Below.refl _ _⟩
          case round =>
            obtain ⟨j, hj, hz, rfl, hbr⟩ := hrel
            have HBR := Lib.hid hbr
            clear hbr
            by_cases hjt : j < T.length
            · obtain ⟨tk, htk⟩ : ∃ tk, T[j]? = some tk := ⟨T[j], List.getElem?_eq_getElem hjt⟩
              obtain ⟨p0, p1, p2, p3⟩ := HCET.out j tk (by rw [HL.out, List.getElem?_append_left hjt]; exact htk)
              obtain ⟨q0, q1, q2, q3⟩ := HCE4.out j tk (by rw [HAL.out, List.getElem?_append_left hjt]; exact htk)
              rw [← HBR.out.cell (p := ⟨g, _, none⟩) hglT] at p0 p1 p2 p3
              rw [← HBR.out.cell (p := ⟨g4, _, none⟩) hgl4] at q0 q1 q2 q3
              have hgr : g < wr.heap.size := Nat.lt_of_lt_of_le hglT HBR.out.size
              have hgr4 : g4 < wr.heap.size := Nat.lt_of_lt_of_le hgl4 HBR.out.size
              obtain ⟨kd, ln, n, s⟩ := tk
              obtain ⟨X, hX⟩ : ∃ X : ByteArray, X = ⟨s.toArray⟩ := ⟨_, rfl⟩
              simp only [← hX] at p3 q3
              clear htk hX
              have eqs := neq_same kd ln n X
              have egd := tok_guard .neq
              go_wp2_with fail
              go_quiet (fail)
              go_wp2_with fail
              go_roundg (T.length - (j + 1))
              case measure => omega
              case rel => exact ⟨j + 1, by omega, Nat.le_refl _, by go_num, HBR.out.trans (((Below.refl _ _).alloc HBR.out.size _).trans ⟨rfl, rfl, rfl, Nat.le_refl _, fun _ _ => rfl⟩)⟩
            · go_wp2_with fail
              go_loopg [96] m.length (fun z i wr' => ∃ k : Nat, k ≤ m.length ∧ m.length - k ≤ z ∧ i = .int .i64 k ∧ Below w4.heap.size w4 wr')
              case atStart => exact ⟨0, Nat.zero_le _, by omega, rfl, HBR.out⟩
              case round =>
                clear HBR
                obtain ⟨i, hi, hz', rfl, hbr⟩ := hrel
                have HBR := Lib.hid hbr
                clear hbr
                by_cases him : i < m.length
                · obtain ⟨tk, htk⟩ : ∃ tk, m[i]? = some tk := ⟨m[i], List.getElem?_eq_getElem him⟩
                  obtain ⟨p0, p1, p2, p3⟩ := HCEU.out i tk htk
                  obtain ⟨q0, q1, q2, q3⟩ := HCE4.out (T.length + i) (onL ((N : Int) + 2) tk) (by rw [HAL.out, List.getElem?_append_right (by omega), show T.length + i - T.length = i by omega, List.getElem?_map, htk]; rfl)
                  rw [← HBR.out.cell (p := ⟨g3, _, none⟩) hglU] at p0 p1 p2 p3
                  rw [← HBR.out.cell (p := ⟨g4, _, none⟩) hgl4] at q0 q1 q2 q3
                  have hgr : g3 < wr.heap.size := Nat.lt_of_lt_of_le hglU HBR.out.size
                  have hgr4 : g4 < wr.heap.size := Nat.lt_of_lt_of_le hgl4 HBR.out.size
                  obtain ⟨kd, ln, n, s⟩ := tk
                  obtain ⟨X, hX⟩ : ∃ X : ByteArray, X = ⟨s.toArray⟩ := ⟨_, rfl⟩
                  simp only [onL, ← hX] at p3 q0 q1 q2 q3
                  have hlnb := (HO3.out.rising rfl).mem _ (List.mem_of_getElem? htk)
                  rw [lastL_eq] at hlnb
                  have hnb := nl_le b.data.toList
                  rw [← Lib.size_eq] at hnb
                  obtain ⟨hln0, hln1⟩ : 0 ≤ ln ∧ ln ≤ 10000 := ⟨by have := hlnb.1; show 0 ≤ ln; simp only at this; omega, by have := hlnb.2; simp only at this; omega⟩
                  clear hlnb hnb
                  clear htk hX
                  have eqs := neq_same kd (ln + ((N : Int) + 2)) n X
                  have egd := tok_guard .neq
                  rw [show ln + ((N : Int) + 2) = ln + (2 + (N : Int)) by omega] at q1 eqs
                  go_wp2_with fail
                  have ws0 : IntKind.i64.wrap (T.length : Int) = (T.length : Int) := IntWalk.i64_in _ (by omega)
                  have ws1 : IntKind.i64.wrap ((T.length : Int) + (i : Int)) = (T.length : Int) + (i : Int) := IntWalk.i64_in _ (by omega)
                  have ws2 : (0 : Int) ≤ (T.length : Int) + (i : Int) := by omega
                  have ws3 : (T.length : Int) + (i : Int) < ((T.length + m.length : Nat) : Int) := by omega
                  have ws4 : ((T.length : Int) + (i : Int)).toNat = T.length + i := by omega
                  go_quiet (fail)
                  go_wp2_with fail
                  clear ws0 ws1 ws2 ws3 ws4
                  go_roundg (m.length - (i + 1))
                  case measure => omega
                  case rel => exact ⟨i + 1, by omega, Nat.le_refl _, by go_num, HBR.out.trans (((Below.refl _ _).alloc HBR.out.size _).trans ⟨rfl, rfl, rfl, Nat.le_refl _, fun _ _ => rfl⟩)⟩
                · go_wp2_with fail
                  go_ret
                  exact ⟨rfl, B4.out.trans (HBR.out.mono B4.out.size)⟩
theorem rows_any (a b : ByteArray) (w : World) (h : Env w) : Calls Tryz.prog 6 #[.string a, .string b] w fun e w' => e = .returned (.bool true) ∧ Below w.heap.size w w' := by
  by_cases hf : 2000 < a.size ∨ 2000 < b.size
  · exact rows_far a b w h hf
  · exact rows_near a b w h (by omega) (by omega)
end Go.Proofs.YtbeckfamnhfaeaaGreatDoor
