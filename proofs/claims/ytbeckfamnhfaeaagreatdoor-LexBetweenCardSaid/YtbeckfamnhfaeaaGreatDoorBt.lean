/- selkielaw05.LexBetween answers true at any text and any two numbers. -/
import Derived.Test.YtbeckfamnhfaeaaGreatDoorEq
import Derived.Test.YtbeckfamnhfaeaaGreatDoorLexB
import Derived.Test.YtbeckfamnhfaeaaGreatDoorRw
import Derived.RegionTactic
namespace Go.Proofs.YtbeckfamnhfaeaaGreatDoor
open Go.RowKit

set_option maxHeartbeats 2000000 in
set_option maxRecDepth 100000 in
theorem between_far (s : ByteArray) (a b : Int) (w : World) (h : Env w) (hf : 3000 < s.size) : Calls Tryz.prog 5 #[.string s, .int .u8 a, .int .u8 b] w fun e w' => e = .returned (.bool true) ∧ Below w.heap.size w w' := by
  have A1 := Lib.hid (alive_any w h)
  clear h
  go_enter Tryz.func5, Tryz.ntmps5
  go_wp2_with fail
  refine A1.out.mono ?_; rintro e w1 ⟨rfl, b1⟩
  go_wp2_with fail
  go_ret
  exact ⟨rfl, b1⟩

set_option maxHeartbeats 8000000 in
set_option maxRecDepth 100000 in
theorem between_near (s : ByteArray) (A B i j : Nat) (w : World) (h : Env w) (hs : s.size ≤ 3000) (hA : A ≤ 255) (hB : B ≤ 255) (hi : i < 4) (hj : j < 4) (hAi : (A : Int) % 4 = (i : Int)) (hBj : (B : Int) % 4 = (j : Int)) :
    Calls Tryz.prog 5 #[.string s, .int .u8 (A : Int), .int .u8 (B : Int)] w fun e w' => e = .returned (.bool true) ∧ Below w.heap.size w w' := by
  have A1 := Lib.hid (alive_any w h)
  have HE := Lib.hid h
  have g1 : decide ((3000 : Int) < (s.size : Int)) = false := decide_eq_false (by omega)
  have HAi := Lib.hid hAi
  have HBj := Lib.hid hBj
  clear h hAi hBj
  go_enter Tryz.func5, Tryz.ntmps5
  go_wp2_with fail
  refine A1.out.mono ?_; rintro e w1 ⟨rfl, b1⟩
  have E1 := Lib.hid (HE.out.below b1)
  have B1 := Lib.hid b1
  clear b1
  go_wp2_with fail
  refine (lex_any s _ (by omega) E1.out.big E1.out.mx).mono ?_; rintro e w2 ⟨b2, o, ho, hm⟩
  have E2 := Lib.hid (E1.out.below b2)
  have B2 := Lib.hid (then_below B1.out (Nat.le_refl _) b2)
  clear b2
  have HO := Lib.hid ho
  clear ho
  rcases o with n | l
  · obtain ⟨v, rfl, hf⟩ := hm
    obtain ⟨g, rfl, _⟩ := hf
    go_wp2_with fail
    go_ret
    exact ⟨rfl, B2.out⟩
  · obtain ⟨hlb, v, rfl, ht2⟩ := hm
    have T2 := Lib.hid ht2
    obtain ⟨g, cap, rfl, hcap, hgl, hce⟩ := ht2.ex
    have HCE := Lib.hid hce
    clear ht2 hce
    obtain ⟨T, hl, hall⟩ := between_pure HO.out i j
    have hl1 : l.length = T.length + 1 := by rw [hl, List.length_append]; rfl
    have HL := Lib.hid hl
    have HALL := Lib.hid hall
    have HRI := Lib.hid (HO.out.rising rfl)
    have hM : lastL s ≤ (s.size : Int) + 1 := by
      have := nl_le s.data.toList
      rw [← Lib.size_eq] at this
      rw [lastL_eq]
      omega
    obtain ⟨M, hMe⟩ : ∃ M : Int, M = lastL s := ⟨_, rfl⟩
    have HR1 : Hid (Rising M 1 l) := Lib.hid (by rw [hMe]; exact HRI.out.weak (by rw [lastL_eq]; omega))
    rw [← hMe] at hM
    clear hl hall hMe HRI
    go_wp2_with fail
    go_loopg [9, 37] l.length (fun z la ii wr => ∃ (k : Nat) (n : Int), k ≤ l.length ∧ l.length - k ≤ z ∧ ii = .int .i64 k ∧ la = .int .i64 n ∧ Rising M n (l.drop k) ∧ Below w2.heap.size w2 wr)
    case atStart => exact ⟨0, 1, Nat.zero_le _, by omega, rfl, rfl, HR1.out, Below.refl _ _⟩
    case round =>
      obtain ⟨k, n, hk, hz, rfl, rfl, hri, hbr⟩ := hrel
      have HBR := Lib.hid hbr
      have HRI := Lib.hid hri
      clear hbr hri
      by_cases hkl : k < l.length
      · obtain ⟨tk, htk⟩ : ∃ tk, l[k]? = some tk := ⟨l[k], List.getElem?_eq_getElem hkl⟩
        obtain ⟨p0, p1, p2, p3⟩ := HCE.out k tk htk
        rw [← HBR.out.cell (p := ⟨g, _, none⟩) hgl] at p0 p1 p2 p3
        have hgr : g < wr.heap.size := Nat.lt_of_lt_of_le hgl HBR.out.size
        have hdrop : l.drop k = tk :: l.drop (k + 1) := by
          rw [List.drop_eq_getElem_cons hkl]
          congr 1
          rw [List.getElem?_eq_getElem hkl] at htk
          exact Option.some.inj htk
        have hr2 := HRI.out
        rw [hdrop] at hr2
        obtain ⟨q1, q2, q3⟩ := hr2
        have HQ3 := Lib.hid q3
        obtain ⟨kd, ln, m, sx⟩ := tk
        obtain ⟨X, hX⟩ : ∃ X : ByteArray, X = ⟨sx.toArray⟩ := ⟨_, rfl⟩
        simp only [← hX] at p3
        simp only at q1 q2
        clear htk hX hdrop q3
        have t1 : decide (ln < n) = false := decide_eq_false (by omega)
        have t2 : decide ((s.size : Int) + 1 < ln) = false := decide_eq_false (by omega)
        go_wp2_with fail
        go_roundg (l.length - (k + 1))
        case measure => omega
        case rel => exact ⟨k + 1, ln, by omega, Nat.le_refl _, by go_num, rfl, HQ3.out, HBR.out.trans ((Below.refl _ _).alloc HBR.out.size _)⟩
      · have hgw : ∀ r, r < 4 → ((#[.string ⟨#[32, 9]⟩, .string ⟨#[45, 45, 120, 10]⟩, .string ⟨#[45, 45, 91, 91, 97, 10, 98, 93, 93]⟩, .string ⟨#[10, 45, 45, 91, 61, 61, 91, 32, 93, 93, 32, 93, 61, 61, 93, 10]⟩] : Array Value)[r]? = some (.string ⟨(gap r).toArray⟩)) := fun r hr => by
          rcases (show r = 0 ∨ r = 1 ∨ r = 2 ∨ r = 3 by omega) with rfl | rfl | rfl | rfl <;> rfl
        have hlw : ∀ r, r < 4 → ((#[.int .i64 0, .int .i64 1, .int .i64 1, .int .i64 2] : Array Value)[r]? = some (.int .i64 (gapL r : Int))) := fun r hr => by
          rcases (show r = 0 ∨ r = 1 ∨ r = 2 ∨ r = 3 by omega) with rfl | rfl | rfl | rfl <;> rfl
        have hAi := HAi.out
        have hBj := HBj.out
        have hkd : decide ((k : Int) < (T.length : Int) + 1) = false := decide_eq_false (by omega)
        go_wp2_with fail
        have hca : ((wr.alloc (.cells #[.string ⟨#[32, 9]⟩, .string ⟨#[45, 45, 120, 10]⟩, .string ⟨#[45, 45, 91, 91, 97, 10, 98, 93, 93]⟩, .string ⟨#[10, 45, 45, 91, 61, 61, 91, 32, 93, 93, 32, 93, 61, 61, 93, 10]⟩] 33)).alloc (.cells #[.int .i64 0, .int .i64 1, .int .i64 1, .int .i64 2] 34)).heap[wr.heap.size]? = some (.cells #[.string ⟨#[32, 9]⟩, .string ⟨#[45, 45, 120, 10]⟩, .string ⟨#[45, 45, 91, 91, 97, 10, 98, 93, 93]⟩, .string ⟨#[10, 45, 45, 91, 61, 61, 91, 32, 93, 93, 32, 93, 61, 61, 93, 10]⟩] 33 (0, 0)) :=
          (Below.heap_alloc _ _ _ (by simp)).trans (World.alloc_heap_new wr _)
        have hcl : ((wr.alloc (.cells #[.string ⟨#[32, 9]⟩, .string ⟨#[45, 45, 120, 10]⟩, .string ⟨#[45, 45, 91, 91, 97, 10, 98, 93, 93]⟩, .string ⟨#[10, 45, 45, 91, 61, 61, 91, 32, 93, 93, 32, 93, 61, 61, 93, 10]⟩] 33)).alloc (.cells #[.int .i64 0, .int .i64 1, .int .i64 1, .int .i64 2] 34)).heap[wr.heap.size + 1]? = some (.cells #[.int .i64 0, .int .i64 1, .int .i64 1, .int .i64 2] 34 (0, 0)) := by
          have := World.alloc_heap_new (wr.alloc (.cells #[.string ⟨#[32, 9]⟩, .string ⟨#[45, 45, 120, 10]⟩, .string ⟨#[45, 45, 91, 91, 97, 10, 98, 93, 93]⟩, .string ⟨#[10, 45, 45, 91, 61, 61, 91, 32, 93, 93, 32, 93, 61, 61, 93, 10]⟩] 33)) (.cells #[.int .i64 0, .int .i64 1, .int .i64 1, .int .i64 2] 34)
          rwa [show (wr.alloc (.cells #[.string ⟨#[32, 9]⟩, .string ⟨#[45, 45, 120, 10]⟩, .string ⟨#[45, 45, 91, 91, 97, 10, 98, 93, 93]⟩, .string ⟨#[10, 45, 45, 91, 61, 61, 91, 32, 93, 93, 32, 93, 61, 61, 93, 10]⟩] 33)).heap.size = wr.heap.size + 1 by simp] at this
        have hb5 := ((Below.refl w2.heap.size wr).alloc HBR.out.size (.cells #[.string ⟨#[32, 9]⟩, .string ⟨#[45, 45, 120, 10]⟩, .string ⟨#[45, 45, 91, 91, 97, 10, 98, 93, 93]⟩, .string ⟨#[10, 45, 45, 91, 61, 61, 91, 32, 93, 93, 32, 93, 61, 61, 93, 10]⟩] 33)).alloc (by simp; have := HBR.out.size; omega) (.cells #[.int .i64 0, .int .i64 1, .int .i64 1, .int .i64 2] 34)
        generalize hW5 : (wr.alloc (.cells #[.string ⟨#[32, 9]⟩, .string ⟨#[45, 45, 120, 10]⟩, .string ⟨#[45, 45, 91, 91, 97, 10, 98, 93, 93]⟩, .string ⟨#[10, 45, 45, 91, 61, 61, 91, 32, 93, 93, 32, 93, 61, 61, 93, 10]⟩] 33)).alloc (.cells #[.int .i64 0, .int .i64 1, .int .i64 1, .int .i64 2] 34) = w5 at *
        obtain ⟨Ga, hGa⟩ : ∃ G : ByteArray, G = ⟨(gap i).toArray⟩ := ⟨_, rfl⟩
        obtain ⟨Gb, hGb⟩ : ∃ G : ByteArray, G = ⟨(gap j).toArray⟩ := ⟨_, rfl⟩
        have ca : w5.cell? ⟨wr.heap.size, i, none⟩ = some (.string Ga) := by rw [cell_of_row w5 _ i _ 33 (0, 0) hca, hGa]; exact hgw i hi
        have cb : w5.cell? ⟨wr.heap.size, j, none⟩ = some (.string Gb) := by rw [cell_of_row w5 _ j _ 33 (0, 0) hca, hGb]; exact hgw j hj
        have cl : w5.cell? ⟨wr.heap.size + 1, i, none⟩ = some (.int .i64 (gapL i : Int)) := by rw [cell_of_row w5 _ i _ 34 (0, 0) hcl]; exact hlw i hi
        have HB5 := Lib.hid (HBR.out.trans hb5)
        have CL := Lib.hid cl
        have hcl5 : wr.heap.size + 1 < w5.heap.size := (Array.getElem?_eq_some_iff.1 hcl).1
        have hGas : Ga.size ≤ 16 := by rw [hGa, mk_size]; exact gap_len i
        have hGbs : Gb.size ≤ 16 := by rw [hGb, mk_size]; exact gap_len j
        have h10 : (⟨#[10]⟩ : ByteArray).size = 1 := rfl
        have hsum : (Ga ++ s ++ (⟨#[10]⟩ : ByteArray) ++ Gb).data.toList = gap i ++ s.data.toList ++ [10] ++ gap j := by rw [nl_append, nl_append, nl_append, hGa, hGb]
        obtain ⟨S, hS⟩ : ∃ S : ByteArray, S = Ga ++ s ++ (⟨#[10]⟩ : ByteArray) ++ Gb := ⟨_, rfl⟩
        have hSs : S.size ≤ 10000 := by rw [hS, ByteArray.size_append, ByteArray.size_append, ByteArray.size_append, h10]; omega
        obtain ⟨LL, hLL⟩ : ∃ LL : Int, LL = 1 + (nl (gap i ++ s.data.toList ++ [10] ++ gap j) : Int) := ⟨_, rfl⟩
        obtain ⟨al, hal⟩ : ∃ al : List Tk, al = T.map (onL (gapL i : Int)) ++ [(0, LL, 0, [])] := ⟨_, rfl⟩
        have hall' : LexR (lastL S) S.data.toList (.ok al) := by
          rw [lastL_eq, hS, hsum, hal, hLL]
          exact HALL.out
        have L4 := Lib.hid (fun W (hW : Env W) => lex_ok S W hSs hW hall')
        rw [hS] at L4
        have hal1 : al.length = T.length + 1 := by rw [hal, List.length_append, List.length_map]; rfl
        have HAL := Lib.hid hal
        have hgL : gapL i ≤ 2 := by
          rcases (show i = 0 ∨ i = 1 ∨ i = 2 ∨ i = 3 by omega) with rfl | rfl | rfl | rfl <;> decide
        clear hsum hS hSs hal hall' HALL hGa hGb hgw hlw hca hcl hb5 hW5 HBR cl hLL
        go_quiet (fail)
        go_wp2_with fail
        have HB6 := Lib.hid (show Below w2.heap.size w2 (w5.drewN nq) from ⟨HB5.out.os, HB5.out.tape, HB5.out.output, HB5.out.size, HB5.out.block⟩)
        have CL6 := Lib.hid (show (w5.drewN nq).cell? ⟨wr.heap.size + 1, i, none⟩ = _ from CL.out)
        have hcl6 : wr.heap.size + 1 < (w5.drewN nq).heap.size := hcl5
        clear HB5 CL hcl5 ca cb
        generalize w5.drewN nq = w6 at *
        refine (L4.out _ (E2.out.below HB6.out)).mono ?_; rintro e w7 ⟨v7, rfl, hv7, b7⟩
        have HB7 := Lib.hid (HB6.out.trans (b7.mono HB6.out.size))
        have T7 := Lib.hid (T2.out.below HB7.out)
        have V7 := Lib.hid hv7
        have CL7 := Lib.hid ((b7.cell (p := ⟨wr.heap.size + 1, i, none⟩) hcl6).trans CL6.out)
        have hcl7 : wr.heap.size + 1 < w7.heap.size := Nat.lt_of_lt_of_le hcl6 b7.size
        clear b7 hv7 CL6 HB6
        obtain ⟨g4, cap4, rfl, hcap4, hgl4, hce4⟩ := V7.out.ex
        obtain ⟨g', cap', he, hcapT, hglT, hceT⟩ := T7.out.ex
        obtain ⟨rfl, rfl⟩ : g = g' ∧ cap = cap' := by
          simp only [Value.slice.injEq, Option.some.injEq, Addr.mk.injEq, and_true, true_and] at he
          exact he
        have HCE4 := Lib.hid hce4
        have HCET := Lib.hid hceT
        clear he hce4 hceT
        generalize wr.heap.size = gw at *
        go_wp2_with fail
        go_loopg [91] T.length (fun z ii wr' => ∃ k : Nat, k ≤ T.length ∧ T.length - k ≤ z ∧ ii = .int .i64 k ∧ Below w7.heap.size w7 wr')
        case atStart => exact ⟨0, Nat.zero_le _, by omega, rfl, Below.refl _ _⟩
        case round =>
          obtain ⟨q, hq, hzq, rfl, hbr⟩ := hrel
          have HBR := Lib.hid hbr
          clear hbr
          by_cases hqt : q < T.length
          · obtain ⟨tk, htk⟩ : ∃ tk, T[q]? = some tk := ⟨T[q], List.getElem?_eq_getElem hqt⟩
            obtain ⟨p0, p1, p2, p3⟩ := HCET.out q tk (by rw [HL.out, List.getElem?_append_left hqt]; exact htk)
            obtain ⟨q0, q1, q2, q3⟩ := HCE4.out q (onL (gapL i : Int) tk) (by rw [HAL.out, List.getElem?_append_left (by rw [List.length_map]; exact hqt), List.getElem?_map, htk]; rfl)
            have cl := HBR.out.cell (p := ⟨gw + 1, i, none⟩) hcl7 |>.trans CL7.out
            rw [← HBR.out.cell (p := ⟨g, _, none⟩) hglT] at p0 p1 p2 p3
            rw [← HBR.out.cell (p := ⟨g4, _, none⟩) hgl4] at q0 q1 q2 q3
            have hgr : g < wr.heap.size := Nat.lt_of_lt_of_le hglT HBR.out.size
            have hgr4 : g4 < wr.heap.size := Nat.lt_of_lt_of_le hgl4 HBR.out.size
            have hgrw : gw + 1 < wr.heap.size := Nat.lt_of_lt_of_le hcl7 HBR.out.size
            have hlnb := (HO.out.rising rfl).mem tk (by rw [HL.out]; exact List.mem_append_left _ (List.mem_of_getElem? htk))
            rw [lastL_eq] at hlnb
            have hnb := nl_le s.data.toList
            rw [← Lib.size_eq] at hnb
            obtain ⟨kd, ln, n', sx⟩ := tk
            obtain ⟨hln0, hln1⟩ : 0 ≤ ln ∧ ln ≤ 10000 := ⟨by have := hlnb.1; simp only at this; omega, by have := hlnb.2; simp only at this; omega⟩
            obtain ⟨X, hX⟩ : ∃ X : ByteArray, X = ⟨sx.toArray⟩ := ⟨_, rfl⟩
            simp only [onL, ← hX] at p3 q0 q1 q2 q3
            clear htk hX hlnb hnb
            have eqs := neq_same kd (ln + (gapL i : Int)) n' X
            have egd := tok_guard .neq
            go_wp2_with fail
            have wsm : IntKind.i64.wrap (ln + (gapL i : Int)) = ln + (gapL i : Int) := IntWalk.i64_in _ (by omega)
            go_region
            clear wsm
            go_wp2_with fail
            go_quiet (fail)
            go_wp2_with fail
            go_roundg (T.length - (q + 1))
            case measure => omega
            case rel => exact ⟨q + 1, by omega, Nat.le_refl _, by go_num, HBR.out.trans (((Below.refl _ _).alloc HBR.out.size _).trans ⟨rfl, rfl, rfl, Nat.le_refl _, fun _ _ => rfl⟩)⟩
          · obtain ⟨q0, _, _, _⟩ := HCE4.out T.length (0, LL, 0, []) (by rw [HAL.out, List.getElem?_append_right (by rw [List.length_map]; exact Nat.le_refl _), List.length_map, Nat.sub_self]; rfl)
            rw [← HBR.out.cell (p := ⟨g4, _, none⟩) hgl4] at q0
            have hB2 := B2.out
            go_wp2_with fail
            go_ret
            exact ⟨rfl, then_below (then_below hB2 (Nat.le_refl _) HB7.out) (Nat.le_refl _) HBR.out⟩
theorem between_any (s : ByteArray) (a b : Int) (w : World) (h : Env w) (ha0 : 0 ≤ a) (ha1 : a ≤ 255) (hb0 : 0 ≤ b) (hb1 : b ≤ 255) : Calls Tryz.prog 5 #[.string s, .int .u8 a, .int .u8 b] w fun e w' => e = .returned (.bool true) ∧ Below w.heap.size w w' := by
  by_cases hf : 3000 < s.size
  · exact between_far s a b w h hf
  · have := between_near s a.toNat b.toNat (a.toNat % 4) (b.toNat % 4) w h (by omega) (by omega) (by omega) (by omega) (by omega) (by omega) (by omega)
    rwa [show ((a.toNat : Nat) : Int) = a by omega, show ((b.toNat : Nat) : Int) = b by omega] at this
end Go.Proofs.YtbeckfamnhfaeaaGreatDoor
