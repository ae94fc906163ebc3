/- tree.writeFields: a node's fields as text. -/
import Derived.Test.YtjlpklhibdkmeaaGreatDoorFl3
import Derived.Test.YtjlpklhibdkmeaaGreatDoorQuo
import Derived.Test.YtjlpklhibdkmeaaGreatDoorWrd
import Derived.Lib.LaidTab
import Derived.Lib.ItoaLen
namespace Go.Proofs.YtjlpklhibdkmeaaGreatDoor
open Go.RowKit Go.Sort

/-- The table of the powers of ten lies as the program's text lays it. -/
def Tab (w : World) : Prop := Lib.TabIs Tryz.prog w "internal/strconv.uint64pow10" .u64 Lib.pow10Tab
theorem Tab.below {w w' : World} (h : Tab w) (hb : Below w.heap.size w w') : Tab w' := by
  have hgn : Tryz.prog.globalNamed "internal/strconv.uint64pow10" = some 0 := by kernel_rfl
  unfold Tab Lib.TabIs World.var? at h ⊢
  rw [hgn] at h ⊢
  simp only [Option.bind_some] at h ⊢
  have hlt : 0 < w.heap.size := by
    rcases Nat.lt_or_ge 0 w.heap.size with h' | h'
    · exact h'
    · rw [Array.getElem?_eq_none h'] at h; cases h
  rw [hb.block 0 hlt]
  exact h
theorem Tab.pos {w : World} (h : Tab w) : 0 < w.heap.size := by
  have hgn : Tryz.prog.globalNamed "internal/strconv.uint64pow10" = some 0 := by kernel_rfl
  unfold Tab Lib.TabIs World.var? at h
  rw [hgn] at h
  simp only [Option.bind_some] at h
  rcases Nat.lt_or_ge 0 w.heap.size with h' | h'
  · exact h'
  · rw [Array.getElem?_eq_none h'] at h; cases h
theorem Tab.belowB {w w' : World} {B : Nat} (h : Tab w) (hB : 0 < B) (hb : Below B w w') : Tab w' := by
  have hgn : Tryz.prog.globalNamed "internal/strconv.uint64pow10" = some 0 := by kernel_rfl
  unfold Tab Lib.TabIs World.var? at h ⊢
  rw [hgn] at h ⊢
  simp only [Option.bind_some] at h ⊢
  rw [hb.block 0 hB]
  exact h
theorem below_grow (w : World) (k : Nat) (os : Array Obj) : Below w.heap.size w (grow (w.drewN k) os) :=
  ⟨rfl, rfl, rfl, by simp [World.drewN], fun i hi => by rw [heap_grow_old (w.drewN k) os hi]; rfl⟩
/-- A number's digits as a string. -/
def dig (n : Int) : ByteArray := ⟨(Lib.itoa n).toArray⟩
theorem dig_list (n : Int) : (dig n).data.toList = Lib.itoa n := rfl
theorem dig_len {n : Int} (h0 : -9223372036854775808 ≤ n) (h1 : n ≤ 9223372036854775807) : (dig n).size ≤ 21 := Lib.itoa_length_le n h0 h1
theorem itoa_any (n : Int) (w : World) (hT : Tab w) (h0 : -9223372036854775808 ≤ n) (h1 : n ≤ 9223372036854775807) : Calls Tryz.prog 27 #[.int .i64 n] w fun e w' => e = .returned (.string (dig n)) ∧ Below w.heap.size w w' :=
  (Tryz.strconv_Itoa n h0 h1 w hT).mono fun e w' h => ⟨h.1, by obtain ⟨k, os, e⟩ := h.2; rw [e]; exact below_grow w k os⟩
theorem fint_any (n : Int) (w : World) (hT : Tab w) (h0 : -9223372036854775808 ≤ n) (h1 : n ≤ 9223372036854775807) : Calls Tryz.prog 38 #[.int .i64 n, .int .i64 10] w fun e w' => e = .returned (.string (dig n)) ∧ Below w.heap.size w w' :=
  (Tryz.strconv_FormatInt_10 n h0 h1 w hT).mono fun e w' h => ⟨h.1, by obtain ⟨k, os, e⟩ := h.2; rw [e]; exact below_grow w k os⟩

/-- A builder that holds the bytes l. -/
def Bd (w : World) (B b : Nat) (l : List UInt8) : Prop := Lib.IsBuilder 45 5 B b (bcells l) w
theorem BuilderAt_below {w w' : World} {B b : Nat} {p : Value} {bs : List Value} (h : Lib.BuilderAt 45 5 B b p bs w) (hb : Below w.heap.size w w') : Lib.BuilderAt 45 5 B b p bs w' := by
  obtain ⟨hB, v, hbk, hown, hne⟩ := h
  refine ⟨hB, v, (hb.block b (Array.getElem?_eq_some_iff.1 hbk).1).trans hbk, ?_, hne⟩
  refine World.ownsRow.kept hown (row := none) ⟨hb.os, hb.tape, hb.output, hb.size, fun i hi _ => hb.block i hi⟩ ?_
  rcases hown.2 with ⟨rfl, _⟩ | ⟨g, _, _, rfl, _⟩
  · left; rfl
  · right; simp [Value.ownBlock]
theorem Bd.below {w w' : World} {B b : Nat} {l : List UInt8} (h : Bd w B b l) (hb : Below w.heap.size w w') : Bd w' B b l := by
  rcases h with h | h
  · exact .inl (BuilderAt_below h hb)
  · exact .inr (BuilderAt_below h hb)
theorem Bd.le {w : World} {B b : Nat} {l : List UInt8} (h : Bd w B b l) : B ≤ b ∧ b < w.heap.size := by
  rcases h with h | h
  · exact ⟨h.1, h.lt⟩
  · exact ⟨h.1, h.lt⟩
/-- What a writer leaves as it was. -/
structure Wr (B b : Nat) (w w' : World) : Prop where
  below : Below B w w'
  others : Lib.OthersKept 5 (some b) w w'
theorem Wr.refl (B b : Nat) (w : World) : Wr B b w w := ⟨Below.refl _ _, Lib.OthersKept.refl _ _ _⟩
theorem Wr.trans {B b : Nat} {u v w : World} (h : Wr B b u v) (k : Wr B b v w) : Wr B b u w := ⟨h.below.trans k.below, h.others.trans k.others⟩
theorem Wr.of {B b : Nat} {w w' : World} (hB : B ≤ w.heap.size) (h : Below w.heap.size w w') : Wr B b w w' := ⟨h.mono hB, fun k _ hk _ _ => (h.block k (Array.getElem?_eq_some_iff.1 hk).1).trans hk⟩
theorem Wr.more {B b : Nat} {u w w' : World} (k : Wr B b u w) (hB : B ≤ w.heap.size) (h : Below w.heap.size w w') : Wr B b u w' := k.trans (Wr.of hB h)
theorem Wr.size {B b : Nat} {u w : World} (k : Wr B b u w) : u.heap.size ≤ w.heap.size := k.below.size
theorem bcells_len (l : List UInt8) : (bcells l).length = l.length := by simp [bcells]
/-- WriteString. -/
theorem ws_any (B b : Nat) (l : List UInt8) (s : ByteArray) (w : World) (h : Bd w B b l) (hlen : l.length + s.size ≤ 140737488355328) : Calls Tryz.prog 25 #[.pointer (some ⟨b, 0, none⟩), .string s] w fun e w' => e = .returned (.tuple #[.int .i64 s.size, .nilIface]) ∧ Bd w' B b (l ++ s.data.toList) ∧ Wr B b w w' :=
  (wstring_any B b (bcells l) s w h (by rw [bcells_len]; exact hlen) (by have := h.le; omega)).mono fun e w' hh => ⟨hh.1, by
    have h2 := hh.2.1
    rw [bcells_str, ← bcells_app] at h2
    exact .inr h2, hh.2.2.1, hh.2.2.2⟩
/-- WriteByte. -/
theorem wb_any (B b : Nat) (l : List UInt8) (c : UInt8) (n : Int) (hc : n = (c.toNat : Int)) (w : World) (h : Bd w B b l) (hlen : l.length + 1 ≤ 140737488355328) : Calls Tryz.prog 29 #[.pointer (some ⟨b, 0, none⟩), .int .u8 n] w fun e w' => e = .returned .nilIface ∧ Bd w' B b (l ++ [c]) ∧ Wr B b w w' := by
  subst hc
  exact (wbyte_any B b (bcells l) (c.toNat : Int) w h (by rw [bcells_len]; exact hlen) (by have := h.le; omega)).mono fun e w' hh => ⟨hh.1, by
    have h2 := hh.2.1
    have : bcells l ++ [Value.int .u8 (c.toNat : Int)] = bcells (l ++ [c]) := by rw [bcells_app]; rfl
    rw [this] at h2
    exact .inr h2, hh.2.2.1, hh.2.2.2⟩

def hasB (F m : Int) : Bool := bits .and .i64 F m != 0
def fldText (x : Nd) : List UInt8 :=
  (if hasB (fldK x.kind) 1 then 32 :: Lib.itoa x.op else []) ++ (if hasB (fldK x.kind) 2 then 32 :: Lib.itoa x.num else []) ++ (if hasB (fldK x.kind) 4 then 32 :: quoL x.s.data.toList else [])
def nmsText (l : List ByteArray) : List UInt8 := l.flatMap fun y => 32 :: y.data.toList
def hasP (F : Int) : Prop := (hasB F 1 = true ∧ hasB F 2 = false ∧ hasB F 4 = false) ∨ (hasB F 1 = false ∧ hasB F 2 = true ∧ hasB F 4 = false) ∨ (hasB F 1 = false ∧ hasB F 2 = false ∧ hasB F 4 = true) ∨ (hasB F 1 = false ∧ hasB F 2 = false ∧ hasB F 4 = false)
theorem has_all (k : Int) : hasP (fldK k) := by
  unfold fldK
  refine ite_prop hasP (.inl ?_) <| ite_prop hasP (.inr (.inl ?_)) <| ite_prop hasP (.inr (.inl ?_)) <| ite_prop hasP (.inr (.inr (.inr ?_))) <| ite_prop hasP (.inr (.inr (.inl ?_))) <| ite_prop hasP (.inr (.inr (.inl ?_))) (.inr (.inr (.inr ?_)))
  all_goals decide +kernel
theorem take_nms {l : List ByteArray} {k : Nat} {y : ByteArray} (h : l[k]? = some y) : nmsText (l.take (k + 1)) = nmsText (l.take k) ++ (32 :: y.data.toList) := by
  unfold nmsText
  rw [take_snoc' l k y h, List.flatMap_append, List.flatMap_cons, List.flatMap_nil, List.append_nil]
theorem add_list (y : ByteArray) : ((⟨#[32]⟩ : ByteArray) ++ y).data.toList = 32 :: y.data.toList := by
  rw [ByteArray.data_append, Array.toList_append]; rfl
/-- How great a node's parts may be. -/
structure NdW (x : Nd) : Prop where
  l0 : -9223372036854775808 ≤ x.line
  l1 : x.line ≤ 9223372036854775807
  o0 : -9223372036854775808 ≤ x.op
  o1 : x.op ≤ 9223372036854775807
  n0 : -9223372036854775808 ≤ x.num
  n1 : x.num ≤ 9223372036854775807
  s1 : x.s.size ≤ 100000
  nl : x.names.length ≤ 4000
  nm : ∀ y ∈ x.names, y.size ≤ 65536
  k0 : 1 ≤ x.kind
  k1 : x.kind ≤ 32
theorem nms_len (l : List ByteArray) (h : ∀ y ∈ l, y.size ≤ 65536) : (nmsText l).length ≤ l.length * 65537 := by
  unfold nmsText
  induction l with
  | nil => exact Nat.zero_le _
  | cons a t ih =>
    rw [List.flatMap_cons, List.length_append, List.length_cons, List.length_cons, ← Lib.size_eq]
    have := h a (List.mem_cons_self ..)
    have := ih (fun y hy => h y (List.mem_cons_of_mem _ hy))
    omega
theorem node_box {W : World} {k : Nat} {x : Nd} {nv kv : Value} (h : W.heap[k]? = some (.cells #[.int .i64 x.kind, .int .i64 x.line, .int .i64 x.op, .int .i64 x.num, .string x.s, nv, kv] 32 (0, 0))) : NodeAt W k 0 x nv kv := by
  have hc := fun j => cell_of_row W k j _ 32 (0, 0) h
  exact ⟨hc 0, hc 1, hc 2, hc 3, hc 4, hc 5, hc 6⟩
theorem box_wr {W W' : World} {B b k : Nat} {cs : Array Value} (h : W.heap[k]? = some (.cells cs 32 (0, 0))) (hw : Wr B b W W') (hk : k ≠ b) : W'.heap[k]? = some (.cells cs 32 (0, 0)) :=
  hw.others k _ h (fun e => hk (Option.some.inj e)) (fun c fz e => by injection e with _ e2 _; exact absurd e2 (by decide))
theorem box_below {W W' : World} {k : Nat} {cs : Array Value} (h : W.heap[k]? = some (.cells cs 32 (0, 0))) (hb : Below W.heap.size W W') : W'.heap[k]? = some (.cells cs 32 (0, 0)) :=
  (hb.block k (Array.getElem?_eq_some_iff.1 h).1).trans h
end Go.Proofs.YtjlpklhibdkmeaaGreatDoor
