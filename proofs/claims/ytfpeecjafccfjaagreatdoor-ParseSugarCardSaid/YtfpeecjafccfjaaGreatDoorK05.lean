/- Parts of the proof: Pm, RDeep, RKM, RKid, RRul, RKOf, RKRt, RFld, RFl2, RFl3. -/
import Derived.Lib.Strings
import Derived.Test.YtfpeecjafccfjaaGreatDoorK04
namespace Go.Proofs.YtfpeecjafccfjaaGreatDoor
open Go.RowKit
def Str (w : World) (k : Nat) : Prop := ∃ s fz, w.heap[k]? = some (.cells #[.string s] 9 fz)
structure Fr (O : Nat → Prop) (w w' : World) : Prop where
  os : w'.os = w.os
  tape : w'.tape = w.tape
  output : w'.output = w.output
  size : w.heap.size ≤ w'.heap.size
  block : ∀ k, k < w.heap.size → ¬ O k → w'.heap[k]? = w.heap[k]?
  str : ∀ k, Str w k → w'.heap[k]? = w.heap[k]?
def Ext (O O' : Nat → Prop) (w : World) : Prop := ∀ k, O' k → O k ∨ w.heap.size ≤ k
theorem Ext.refl (O : Nat → Prop) (w : World) : Ext O O w := fun _ h => .inl h
theorem Ext.trans {O O1 O2 : Nat → Prop} {a b : World} (h : Ext O O1 a) (k : Ext O1 O2 b) (hs : a.heap.size ≤ b.heap.size) : Ext O O2 a := fun i hi => by
  rcases k i hi with k | k
  · exact h i k
  · exact .inr (Nat.le_trans hs k)
theorem Str.lt {w : World} {k : Nat} (h : Str w k) : k < w.heap.size := by
  obtain ⟨_, _, h⟩ := h
  exact (Array.getElem?_eq_some_iff.1 h).1
theorem Fr.refl (O : Nat → Prop) (w : World) : Fr O w w := ⟨rfl, rfl, rfl, Nat.le_refl _, fun _ _ _ => rfl, fun _ _ => rfl⟩
theorem Fr.trans {O O1 : Nat → Prop} {a b c : World} (h : Fr O a b) (k : Fr O1 b c) (e : Ext O O1 a) : Fr O a c :=
  ⟨k.os.trans h.os, k.tape.trans h.tape, k.output.trans h.output, Nat.le_trans h.size k.size, fun i hi hO => by
    refine (k.block i (Nat.lt_of_lt_of_le hi h.size) (fun h1 => ?_)).trans (h.block i hi hO)
    rcases e i h1 with h2 | h2
    · exact hO h2
    · omega, fun i hi => (k.str i (by obtain ⟨c1, f1, h1⟩ := hi; exact ⟨c1, f1, (h.str i ⟨c1, f1, h1⟩).trans h1⟩)).trans (h.str i hi)⟩
theorem Fr.keeps {O : Nat → Prop} {a b : World} (h : Fr O a b) {k : Nat} (hk : Str a k) : Str b k := by
  have := h.str k hk
  obtain ⟨s, f, h1⟩ := hk
  exact ⟨s, f, this.trans h1⟩
theorem Fr.mono {O O1 : Nat → Prop} {a b : World} (h : Fr O a b) (hO : ∀ k, O k → O1 k) : Fr O1 a b := ⟨h.os, h.tape, h.output, h.size, fun i hi hn => h.block i hi (fun h1 => hn (hO i h1)), h.str⟩
theorem Fr.of_below {O : Nat → Prop} {a b : World} (h : Below a.heap.size a b) : Fr O a b := ⟨h.os, h.tape, h.output, h.size, fun k hk _ => h.block k hk, fun k hk => h.block k hk.lt⟩
theorem Fr.drew {O : Nat → Prop} {a b : World} (h : Fr O a b) : Fr O a b.drew := ⟨h.os, h.tape, h.output, h.size, h.block, h.str⟩
theorem Fr.alloc {O : Nat → Prop} {a b : World} (h : Fr O a b) (o : Obj) : Fr O a (b.alloc o) :=
  h.trans (O1 := O) (.of_below ((Below.refl _ _).alloc (Nat.le_refl _) _)) (Ext.refl _ _)
theorem Fr.set1 {a : World} {n : Nat} {cs : Array Value} {ty : TypeId} (h : a.heap[n]? = some (.cells cs ty (0, 0))) (hty : ty ≠ 9) (j : Nat) (v : Value) : Fr (· = n) a (a.setCell ⟨n, j, none⟩ v) :=
  ⟨rfl, rfl, rfl, by simp [World.setCell], fun k _ hk => Below.heap_setCell _ _ _ k hk, fun k hk => Below.heap_setCell _ _ _ k (fun e => by
    obtain ⟨c1, f1, h1⟩ := hk
    have e' : k = n := e
    rw [e', h] at h1
    injection h1 with h1
    injection h1 with _ h1
    exact hty h1)⟩
theorem Fr.below {O : Nat → Prop} {a b : World} {B : Nat} (h : Fr O a b) (hO : ∀ k, O k → B ≤ k) (hB : B ≤ a.heap.size) : Below B a b :=
  ⟨h.os, h.tape, h.output, h.size, fun k hk => h.block k (by omega) (fun h1 => by have := hO k h1; omega)⟩
theorem row_kept {W W' : World} {B e s n : Nat} {v : Value} {xs : List Value} (h : W.ownsRow B e s v n xs) (hb : ∀ g, v.ownBlock = some g → W'.heap[g]? = W.heap[g]?) : W'.ownsRow B e s v n xs := by
  refine ⟨h.1, ?_⟩
  rcases h.2 with hn | ⟨g, cap, cur, rfl, hB, hg, rest⟩
  · exact .inl hn
  · exact .inr ⟨g, cap, cur, rfl, hB, (hb g rfl).trans hg, rest⟩
theorem row_type {W : World} {B e s n : Nat} {v : Value} {xs : List Value} (h : W.ownsRow B e s v n xs) {g : Nat} (hg : v.ownBlock = some g) : ∃ cur, W.heap[g]? = some (.cells cur e (0, 0)) := by
  rcases h.2 with ⟨rfl, _⟩ | ⟨g', cap, cur, rfl, hB, hh, rest⟩
  · simp [Value.ownBlock] at hg
  · simp [Value.ownBlock] at hg
    subst hg
    exact ⟨cur, hh⟩
structure NdIn (W : World) (b : Nat) (O : Nat → Prop) (x : Nd) (nv kv : Value) : Prop where
  names : W.ownsRow (b + 1) 9 1 nv x.names.length (x.names.map Value.string)
  kids : W.ownsRow (b + 1) 3 1 kv x.kids.length (x.kids.map (Value.int .i64))
  on : ∀ g, nv.ownBlock = some g → O g ∨ Str W g
  nz : ∀ g, nv.ownBlock = some g → x.names ≠ []
  ok : ∀ g, kv.ownBlock = some g → O g
theorem NdIn.kept {W W' : World} {b : Nat} {O O' O1 : Nat → Prop} {x : Nd} {nv kv : Value} (h : NdIn W b O x nv kv) (hf : Fr O1 W W') (hd : ∀ g, O g → ¬ O1 g) (hO : ∀ g, O g → O' g) : NdIn W' b O' x nv kv :=
  ⟨row_kept h.names fun g hg => (h.on g hg).elim (fun h1 => hf.block g (h.names.lt g hg).2 (hd g h1)) (hf.str g), row_kept h.kids fun g hg => hf.block g (h.kids.lt g hg).2 (hd g (h.ok g hg)), fun g hg => (h.on g hg).imp (hO g) hf.keeps, h.nz, fun g hg => hO g (h.ok g hg)⟩
theorem NdIn.lt {W : World} {b : Nat} {O : Nat → Prop} {x : Nd} {nv kv : Value} (h : NdIn W b O x nv kv) : (∀ g, nv.ownBlock = some g → b + 1 ≤ g ∧ g < W.heap.size) ∧ (∀ g, kv.ownBlock = some g → b + 1 ≤ g ∧ g < W.heap.size) := ⟨h.names.lt, h.kids.lt⟩
abbrev NdV := Nd × Value × Value
def ndCells (t : NdV) : List Value := [.int .i64 t.1.kind, .int .i64 t.1.line, .int .i64 t.1.op, .int .i64 t.1.num, .string t.1.s, t.2.1, t.2.2]
structure NsIn (W : World) (b : Nat) (O : Nat → Prop) (v : Value) (L : List NdV) : Prop where
  row : W.ownsRow (b + 1) 35 7 v L.length (L.flatMap ndCells)
  own : ∀ g, v.ownBlock = some g → O g
  each : ∀ t ∈ L, NdIn W b O t.1 t.2.1 t.2.2
def Fin (ts : List TkP) : Prop := ∃ us e, ts = us ++ [e] ∧ e.1 = 0 ∧ ∀ u ∈ us, u.1 ≠ 0
theorem Fin.tail {t : TkP} {ts : List TkP} (h : Fin (t :: ts)) (ht : t.1 ≠ 0) : Fin ts := by
  obtain ⟨us, e, h1, h2, h3⟩ := h
  cases us with
  | nil =>
    simp at h1
    exact absurd (h1.1 ▸ h2) ht
  | cons u us =>
    injection h1 with e1 e2
    exact ⟨us, e, e2, h2, fun x hx => h3 x (List.mem_cons_of_mem _ hx)⟩
theorem Fin.ne {ts : List TkP} (h : Fin ts) : ts ≠ [] := by
  obtain ⟨us, e, h1, _⟩ := h
  rw [h1]
  simp
structure PS (W : World) (b : Nat) (O : Nat → Prop) (ts : List TkP) (T : List Nd) : Prop where
  ex : ∃ (TS : List TkP) (i g c : Nat) (nv : Value) (L : List NdV), W.heap[b]? = some (.cells #[.slice (some ⟨g, 0, none⟩) TS.length c, .int .i64 (i : Int), nv] 52 (0, 0)) ∧ Toks W (.slice (some ⟨g, 0, none⟩) TS.length c) TS ∧ g < b ∧ TS.drop i = ts ∧ TS.length ≤ 20000 ∧ NsIn W b O nv L ∧ L.map (·.1) = T
  fin : Fin ts
  at_ : O b
  own : ∀ k, O k → b ≤ k ∧ k < W.heap.size
structure NU (W : World) (b n : Nat) (O : Nat → Prop) (x : Nd) : Prop where
  ex : ∃ nv kv, W.heap[n]? = some (.cells (ndCells (x, nv, kv)).toArray 35 (0, 0)) ∧ NdIn W b O x nv kv
  at_ : O n
  own : ∀ k, O k → b < k ∧ k < W.heap.size
theorem Toks.kept {W W' : World} {g n c : Nat} {ts : List Tk} (h : Toks W (.slice (some ⟨g, 0, none⟩) n c) ts) (hb : W'.heap[g]? = W.heap[g]?) (hs : W.heap.size ≤ W'.heap.size) : Toks W' (.slice (some ⟨g, 0, none⟩) n c) ts := by
  obtain ⟨g', cap, e, h1, h2, h3⟩ := h.ex
  have hg : g = g' := by injection e with e1 _ _; injection e1 with e1; injection e1
  subst hg
  refine ⟨g, cap, e, h1, by omega, fun j t hj => ?_⟩
  have := h3 j t hj
  simpa [World.cell?, hb] using this
theorem PS.kept {W W' : World} {b : Nat} {O O1 : Nat → Prop} {ts : List TkP} {T : List Nd} (h : PS W b O ts T) (hf : Fr O1 W W') (hd : ∀ k, O k → ¬ O1 k) (h1 : ∀ k, O1 k → b ≤ k) : PS W' b O ts T := by
  obtain ⟨TS, i, g, c, nv, L, a1, a2, a3, a4, a5, a6, a7⟩ := h.ex
  have hb : ∀ k, O k → W'.heap[k]? = W.heap[k]? := fun k hk => hf.block k (h.own k hk).2 (hd k hk)
  have hlt : b < W.heap.size := (Array.getElem?_eq_some_iff.1 a1).1
  refine ⟨⟨TS, i, g, c, nv, L, (hb b h.at_).trans a1, a2.kept (hf.block g (by omega) (fun h2 => by have := h1 g h2; omega)) hf.size, a3, a4, a5, ⟨row_kept a6.row fun k hk => hb k (a6.own k hk), a6.own, fun t ht => (a6.each t ht).kept hf hd (fun _ h => h)⟩, a7⟩, h.fin, h.at_, fun k hk => ⟨(h.own k hk).1, Nat.lt_of_lt_of_le (h.own k hk).2 hf.size⟩⟩
theorem PS.below {W W' : World} {b : Nat} {O : Nat → Prop} {ts : List TkP} {T : List Nd} (h : PS W b O ts T) (hf : Below W.heap.size W W') : PS W' b O ts T :=
  h.kept (O1 := fun _ => False) (Fr.of_below hf) (fun _ _ h => h) (fun _ h => h.elim)
theorem PS.fr {W : World} {b : Nat} {O : Nat → Prop} {ts : List TkP} {T : List Nd} (h : PS W b O ts T) (j : Nat) (v : Value) : Fr (· = b) W (W.setCell ⟨b, j, none⟩ v) := by
  obtain ⟨TS, i, g, c, nv, L, a1, _⟩ := h.ex
  exact Fr.set1 a1 (by decide) j v
theorem NU.fr {W : World} {b n : Nat} {O : Nat → Prop} {x : Nd} (h : NU W b n O x) (j : Nat) (v : Value) : Fr (· = n) W (W.setCell ⟨n, j, none⟩ v) := by
  obtain ⟨nv, kv, a1, _⟩ := h.ex
  exact Fr.set1 a1 (by decide) j v
theorem NU.kept {W W' : World} {b n : Nat} {O O1 : Nat → Prop} {x : Nd} (h : NU W b n O x) (hf : Fr O1 W W') (hd : ∀ k, O k → ¬ O1 k) : NU W' b n O x := by
  obtain ⟨nv, kv, a1, a2⟩ := h.ex
  exact ⟨⟨nv, kv, (hf.block n (h.own n h.at_).2 (hd n h.at_)).trans a1, a2.kept hf hd (fun _ h => h)⟩, h.at_, fun k hk => ⟨(h.own k hk).1, Nat.lt_of_lt_of_le (h.own k hk).2 hf.size⟩⟩
theorem NU.below {W W' : World} {b n : Nat} {O : Nat → Prop} {x : Nd} (h : NU W b n O x) (hf : Below W.heap.size W W') : NU W' b n O x := h.kept (O1 := fun _ => False) (Fr.of_below hf) (fun _ _ h => h)
structure St where
  h : Nd
  xs : List Ast
  ts : List TkP
  n : Nat
def Lies (T0 T : List Nd) (xs : List Ast) (ks : List Int) : Prop := T0 <+: T ∧ ∃ js, Reps T xs ks js ∧ js.Perm (List.range' T0.length (T.length - T0.length))
structure Real (W : World) (b n : Nat) (O : Nat → Prop) (T0 : List Nd) (s : St) : Prop where
  ex : ∃ (Op On : Nat → Prop) (T : List Nd) (ks : List Int), (∀ k, O k ↔ Op k ∨ On k) ∧ (∀ k, Op k → ¬ On k) ∧ PS W b Op s.ts T ∧ NU W b n On { s.h with kids := ks } ∧ Lies T0 T s.xs ks ∧ T.length = s.n
def Mis (B : Nat) (W : World) (v : Value) (l : Int) : Prop := ∃ g, v = .iface 56 (.pointer (some ⟨g, 0, none⟩)) ∧ B ≤ g ∧ W.heap[g]? = some (.cells #[.int .i64 6, .int .i64 l] 62 (0, 0))
def PartPost (b n : Nat) (O : Nat → Prop) (T0 : List Nd) (K : St → Prop) (E : Int → Prop) (w : World) (e : Ending) (w' : World) : Prop :=
  Fr O w w' ∧ ((∃ s' O', e = .returned .nilIface ∧ Real w' b n O' T0 s' ∧ Ext O O' w ∧ K s') ∨ (∃ l v, e = .returned v ∧ Mis w.heap.size w' v l ∧ E l))
def CallV (v : Value) (args : Array Value) (w : World) (Q : Ending → World → Prop) : Prop :=
  ∃ f first cap, v = .func (.func f) first cap ∧ Enters Tryz.prog f ∧ Calls Tryz.prog f (first ++ args ++ cap) w Q
abbrev Wp1 := St → (St → Prop) → (Int → Prop) → Prop
def RdPart (W : World) (b : Nat) (O : Nat → Prop) (v : Value) (wp : Wp1) : Prop :=
  ∀ W1 O1 T0 s n K E, Fr O W W1 → Ext O O1 W → Real W1 b n O1 T0 s → wp s K E → CallV v #[.pointer (some ⟨n, 0, none⟩)] W1 (PartPost b n O1 T0 K E W1)
theorem RdPart.later {W W' : World} {b : Nat} {O O' : Nat → Prop} {v : Value} {wp : Wp1} (h : RdPart W b O v wp) (hf : Fr O W W') (he : Ext O O' W) : RdPart W' b O' v wp :=
  fun W1 O1 T0 s n K E h1 h2 h3 h4 => h W1 O1 T0 s n K E (hf.trans h1 he) (he.trans h2 hf.size) h3 h4
def WpSeq : List Wp1 → Wp1
  | [], s, K, _ => K s
  | wp :: r, s, K, E => wp s (fun s' => WpSeq r s' K E) E
def Funs (W : World) (O : Nat → Prop) (v : Value) (vs : List Value) : Prop := (v = .slice none 0 0 ∧ vs = []) ∨ ∃ g, v = .slice (some ⟨g, 0, none⟩) vs.length vs.length ∧ W.heap[g]? = some (.cells vs.toArray 89 (0, 0)) ∧ ¬ O g ∧ vs.length ≤ 100
theorem Funs.later {W W' : World} {O O' : Nat → Prop} {v : Value} {vs : List Value} (h : Funs W O v vs) (hf : Fr O W W') (he : Ext O O' W) : Funs W' O' v vs := by
  rcases h with h | ⟨g, h1, h2, h3, h4⟩
  · exact .inl h
  · have hlt : g < W.heap.size := (Array.getElem?_eq_some_iff.1 h2).1
    refine .inr ⟨g, h1, (hf.block g hlt h3).trans h2, fun h5 => ?_, h4⟩
    rcases he g h5 with h6 | h6
    · exact h3 h6
    · omega
def PlacePost (b : Nat) (O : Nat → Prop) (T0 : List Nd) (R : Except Int (Ast × List TkP) → Prop) (w : World) (e : Ending) (w' : World) : Prop :=
  Fr O w w' ∧ ((∃ (p : Nat) (a : Ast) (ts : List TkP) (O' : Nat → Prop) (T : List Nd), e = .returned (.tuple #[.int .i64 (p : Int), .nilIface]) ∧ PS w' b O' ts T ∧ Ext O O' w ∧ Lies T0 T [a] [(p : Int)] ∧ R (.ok (a, ts))) ∨
    (∃ l v er, e = .returned (.tuple #[v, er]) ∧ Mis w.heap.size w' er l ∧ R (.error l)))
end Go.Proofs.YtfpeecjafccfjaaGreatDoor
namespace Go.Proofs.YtfpeecjafccfjaaGreatDoor
open Go.RowKit
def NodesIn (W : World) (b o : Nat) (T : List Nd) : Prop := ∀ (i : Nat) x, T[i]? = some x → ∃ nv kv, NodeAt W b (o + i * 7) x nv kv ∧ StrsR W nv x.names ∧ NumsR W kv x.kids
theorem NodesIn.below {W W' : World} {b o : Nat} {T : List Nd} (h : NodesIn W b o T) (hb : Below W.heap.size W W') (hbk : b < W.heap.size) : NodesIn W' b o T := fun j x hj => by
  obtain ⟨nv, kv, h1, h2, h3⟩ := h j x hj
  exact ⟨nv, kv, h1.below hb hbk, h2.below hb, h3.below hb⟩
def ints (m : List Nat) : List Int := m.map fun (j : Nat) => (j : Int)
theorem ints_len (m : List Nat) : (ints m).length = m.length := by simp [ints]
theorem ints_at {m : List Nat} {a i : Nat} (h : m[a]? = some i) : (ints m)[a]? = some (i : Int) := by simp [ints, h]
theorem ints_app (m : List Nat) (j : Nat) : ints (m ++ [j]) = ints m ++ [(j : Int)] := by simp [ints]
structure Srch (w : World) (T : List Nd) (nv : Value) (r : Nat) (a : Nat) (d : Nat → Nat) (m : List Nat) (metv : Value) (wr : World) : Prop where
  below : Below w.heap.size w wr
  size : w.heap.size + 2 ≤ wr.heap.size
  box0 : wr.cell? ⟨w.heap.size, 0, none⟩ = some nv
  box1 : wr.cell? ⟨w.heap.size, 1, none⟩ = some (.int .i64 (r : Int))
  fam : FamR wr (w.heap.size + 1) T.length (fun j => .int .i64 (d j : Int))
  row : NRow wr (w.heap.size + 2) metv (ints m)
theorem Srch.store {w wr : World} {T : List Nd} {nv : Value} {r a : Nat} {d : Nat → Nat} {m : List Nat} {metv : Value} (h : Srch w T nv r a d m metv wr) {k v : Nat} (hk : k < T.length) {x : Int} (hx : x = (v : Int)) : Srch w T nv r a (upd d k v) m metv (wr.setCell ⟨w.heap.size + 1, k, none⟩ (.int .i64 x)) := by
  subst hx
  exact
  ⟨h.below.setCell (Nat.le_succ _) _, by have := h.size; simpa using this,
   (World.cell?_setCell_other wr _ _ _ (by intro e; injection e with e1 _ _; omega)).trans h.box0, (World.cell?_setCell_other wr _ _ _ (by intro e; injection e with e1 _ _; omega)).trans h.box1,
   (h.fam.set_ hk _).eq_ (fun j _ => by
    unfold upd
    by_cases e : j = k
    · rw [if_pos e, if_pos e]
    · rw [if_neg e, if_neg e]), ownsRow_setCell_below h.row (by show w.heap.size + 1 < w.heap.size + 2; omega) _⟩
theorem Srch.grow {w wr w' : World} {T : List Nd} {nv : Value} {r a : Nat} {d : Nat → Nat} {m : List Nat} {metv v' : Value} (h : Srch w T nv r a d m metv wr) {k : Nat} (hr : NRow w' (w.heap.size + 2) v' (ints m ++ [(k : Int)])) (hb : Below (w.heap.size + 2) wr w') : Srch w T nv r a d (m ++ [k]) v' w' :=
  ⟨h.below.trans (hb.mono (by omega)), Nat.le_trans h.size hb.size, (hb.cell (p := ⟨_, 0, none⟩) (by show w.heap.size < _; omega)).trans h.box0, (hb.cell (p := ⟨_, 1, none⟩) (by show w.heap.size < _; omega)).trans h.box1, h.fam.below hb (by omega), by rw [ints_app]; exact hr⟩
theorem srch_start (T : List Nd) (nv : Value) (r : Nat) (w w1 : World) (hr : r < T.length) (hb1 : Below (w.alloc (.cells #[nv, .int .i64 (r : Int)] 25)).heap.size (w.alloc (.cells #[nv, .int .i64 (r : Int)] 25)) w1) (hs1 : w.heap.size + 1 < w1.heap.size)
    (h0 : w1.cell? ⟨w.heap.size, 0, none⟩ = some nv) (h1 : w1.cell? ⟨w.heap.size, 1, none⟩ = some (.int .i64 (r : Int))) (hf : FamR w1 (w.alloc (.cells #[nv, .int .i64 (r : Int)] 25)).heap.size T.length (fun _ => .int .i64 0)) :
    Srch w T nv r 0 (upd (fun _ => 0) r 1) [r] (.slice (some ⟨w1.heap.size, 0, none⟩) 1 1) ((w1.setCell ⟨w.heap.size + 1, r, none⟩ (.int .i64 1)).alloc (.cells #[.int .i64 (r : Int)] 3)) := by
  rw [asize] at hf hb1
  have hA : Below w.heap.size w w1 := ((Below.refl _ _).alloc (Nat.le_refl _) _).trans (hb1.mono (by omega))
  have hB : Below (w.heap.size + 2) (w1.setCell ⟨w.heap.size + 1, r, none⟩ (.int .i64 1)) ((w1.setCell ⟨w.heap.size + 1, r, none⟩ (.int .i64 1)).alloc (.cells #[.int .i64 (r : Int)] 3)) := (Below.refl _ _).alloc (by simp; omega) _
  have e1 : ∀ j : Nat, (⟨w.heap.size + 1, r, none⟩ : Addr) ≠ ⟨w.heap.size, j, none⟩ := fun j e => by injection e with e1 _ _; omega
  refine ⟨(hA.setCell (Nat.le_succ _) _).trans (hB.mono (by omega)), by simp; omega, ?_, ?_, ?_, ?_⟩
  · exact (hB.cell (p := ⟨_, 0, none⟩) (by show w.heap.size < _; omega)).trans ((World.cell?_setCell_other w1 _ _ _ (e1 0)).trans h0)
  · exact (hB.cell (p := ⟨_, 1, none⟩) (by show w.heap.size < _; omega)).trans ((World.cell?_setCell_other w1 _ _ _ (e1 1)).trans h1)
  · refine ((hf.set_ hr (.int .i64 1)).eq_ (fun j _ => ?_)).below hB (by omega)
    unfold upd
    by_cases e : j = r
    · rw [if_pos e, if_pos e]; rfl
    · rw [if_neg e, if_neg e]; rfl
  · have := World.ownsRow_lit (base := w.heap.size + 2) (e := 3) (size := 1) (w1.setCell ⟨w.heap.size + 1, r, none⟩ (.int .i64 1)) #[.int .i64 (r : Int)] 1 (by simp; omega) (by decide) rfl
    simpa [NRow, ints] using this
theorem drop_cons' {α : Type} {l : List α} {k : Nat} {x : α} (h : l[k]? = some x) : l.drop k = x :: l.drop (k + 1) := by
  obtain ⟨hk, rfl⟩ := List.getElem?_eq_some_iff.1 h
  exact List.drop_eq_getElem_cons hk
theorem Srch.drew {w wr : World} {T : List Nd} {nv : Value} {r a : Nat} {d : Nat → Nat} {m : List Nat} {metv : Value} (h : Srch w T nv r a d m metv wr) : Srch w T nv r a d m metv wr.drew :=
  ⟨h.below.drew, h.size, h.box0, h.box1, h.fam, h.row⟩
theorem bfs_none {T : List Nd} {a i : Nat} {d : Nat → Nat} {m : List Nat} (hi : m[a]? = some i) (ha : a ≤ T.length) (h : kidsGo T.length (d i + 1) (kidsAt T i) d m = none) : bfs T (T.length + 1 - a) a d m = none := by
  rw [show T.length + 1 - a = (T.length - a) + 1 by omega]
  simp only [bfs, hi, h]
theorem bfs_next {T : List Nd} {a i : Nat} {d d' : Nat → Nat} {m m' : List Nat} (hi : m[a]? = some i) (ha : a ≤ T.length) (h : kidsGo T.length (d i + 1) (kidsAt T i) d m = some (d', m')) : bfs T (T.length + 1 - a) a d m = bfs T (T.length + 1 - (a + 1)) (a + 1) d' m' := by
  rw [show T.length + 1 - a = (T.length - a) + 1 by omega, show T.length + 1 - (a + 1) = T.length - a by omega]
  simp only [bfs, hi, h]
theorem bfs_end {T : List Nd} {a : Nat} {d : Nat → Nat} {m : List Nat} (hi : m.length ≤ a) : bfs T (T.length + 1 - a) a d m = some (d, m) := by
  cases e : T.length + 1 - a with
  | zero => rfl
  | succ f => simp only [bfs, List.getElem?_eq_none hi]
theorem place_any (p : Int) (A : Option Addr) (n c : Nat) (w : World) : Calls Tryz.prog 47 #[.int .i64 p, .slice A n c] w fun e w' => e = .returned (.bool (decide (0 ≤ p) && decide (p < (n : Int)))) ∧ w = w' := by
  go_enter Tryz.func47, Tryz.ntmps47
  by_cases h : 0 ≤ p
  · have g : decide (0 ≤ p) = true := decide_eq_true h
    go_wp2_with fail
    go_ret
    exact ⟨by simp [g], rfl⟩
  · have g : decide (0 ≤ p) = false := decide_eq_false h
    go_wp2_with fail
    go_ret
    exact ⟨by simp, rfl⟩
theorem place_yes (p : Int) (A : Option Addr) (n c : Nat) (w : World) (h : 0 ≤ p ∧ p < (n : Int)) : Calls Tryz.prog 47 #[.int .i64 p, .slice A n c] w fun e w' => e = .returned (.bool true) ∧ w = w' :=
  (place_any p A n c w).mono fun e w' hh => ⟨by rw [hh.1, decide_eq_true h.1, decide_eq_true h.2]; rfl, hh.2⟩
theorem place_no (p : Int) (A : Option Addr) (n c : Nat) (w : World) (h : ¬ (0 ≤ p ∧ p < (n : Int))) : Calls Tryz.prog 47 #[.int .i64 p, .slice A n c] w fun e w' => e = .returned (.bool false) ∧ w = w' :=
  (place_any p A n c w).mono fun e w' hh => ⟨by
    rw [hh.1]
    by_cases h0 : 0 ≤ p
    · rw [decide_eq_false (fun h1 => h ⟨h0, h1⟩), Bool.and_false]
    · rw [decide_eq_false h0, Bool.false_and], hh.2⟩
set_option maxHeartbeats 4000000 in
theorem deep_main (T : List Nd) (b o c r : Nat) (w : World) (hb : b < w.heap.size) (hN : T.length ≤ 16384) (hr : r < T.length) (hn : NodesIn w b o T) :
    Calls Tryz.prog 22 #[.agg #[.slice (some ⟨b, o, none⟩) T.length c, .int .i64 (r : Int)]] w fun e w' => e = .returned (.int .i64 (deepT T (r : Int) : Int)) ∧ Below w.heap.size w w' := by
  have HT := Lib.hid hn
  have hdeep : deepT T (r : Int) = deepEnd T.length (bfs T (T.length + 1) 0 (upd (fun _ => 0) r 1) [r]) := by
    unfold deepT; rw [if_pos ⟨hN, by omega, by omega⟩, Int.toNat_natCast]
  rw [hdeep]
  obtain ⟨B, hB⟩ : ∃ B, B = bfs T (T.length + 1) 0 (upd (fun _ => 0) r 1) [r] := ⟨_, rfl⟩
  rw [← hB]
  have HB := Lib.hid hB
  have g1 : decide ((16384 : Int) < (T.length : Int)) = false := decide_eq_false (by omega)
  have g2 : decide ((0 : Int) ≤ (r : Int)) = true := decide_eq_true (by omega)
  have g3 : decide ((r : Int) < (T.length : Int)) = true := decide_eq_true (by omega)
  obtain ⟨w1, hmk, hb1, hs1, hf1⟩ := make_ints T.length (by omega) (w.alloc (.cells #[.slice (some ⟨b, o, none⟩) T.length c, .int .i64 (r : Int)] 25))
  have hbox0 : w1.cell? ⟨w.heap.size, 0, none⟩ = some (.slice (some ⟨b, o, none⟩) T.length c) := (hb1.cell (p := ⟨w.heap.size, 0, none⟩) (by simp)).trans (acell w _ _ _)
  have hbox1 : w1.cell? ⟨w.heap.size, 1, none⟩ = some (.int .i64 (r : Int)) := (hb1.cell (p := ⟨w.heap.size, 1, none⟩) (by simp)).trans (acell w _ _ _)
  have hd0 := hf1 r hr
  have HF := Lib.hid hf1
  have HB1 := Lib.hid hb1
  rw [asize] at hs1 hd0 hmk
  clear hn hdeep hB hb1 hf1
  go_enter Tryz.func22, Tryz.ntmps22
  go_wp2_with (go_at_call 47; refine (place_any _ _ _ _ _).mono ?_; rintro e w' ⟨rfl, rfl⟩)
  clear hmk
  have HS := Lib.hid (srch_start T (.slice (some ⟨b, o, none⟩) T.length c) r w w1 hr HB1.out hs1 hbox0 hbox1 HF.out)
  clear HB1 HF hd0 hbox0 hbox1 g2 g3
  go_loopg [4, 5] T.length (fun z metv atv wr => ∃ (a : Nat) (d : Nat → Nat) (m : List Nat), atv = .int .i64 (a : Int) ∧ Srch w T (.slice (some ⟨b, o, none⟩) T.length c) r a d m metv wr ∧ Half T r a d m ∧ T.length - a ≤ z ∧ bfs T (T.length + 1 - a) a d m = B)
  case atStart => exact ⟨0, _, [r], rfl, HS.out, Half.start hr, by omega, HB.out.symm⟩
  case round =>
    clear HS HB
    obtain ⟨a, d, m, rfl, hs, hh, hz, hbf⟩ := hrel
    have hml := hh.inv.len
    have hal := hh.le
    have hm1 : 1 ≤ m.length := by rw [hh.eq]; simp
    obtain ⟨g, cap, rfl, hg, hgl, hgc⟩ := hs.row.form (by rw [ints_len]; omega)
    rw [ints_len] at hs ⊢
    have b0 := hs.box0
    have b1 := hs.box1
    have HS := Lib.hid hs
    have HH := Lib.hid hh
    have HGC := Lib.hid hgc
    have HBF := Lib.hid hbf
    clear hs hh hgc hbf
    by_cases hlt : a < m.length
    · obtain ⟨i, hi⟩ : ∃ i, m[a]? = some i := ⟨m[a], List.getElem?_eq_getElem hlt⟩
      have hiN : i < T.length := HH.out.inv.lt i (List.mem_of_getElem? hi)
      have hx := List.getElem?_eq_getElem hiN
      obtain ⟨nv, kv, hna, _, hks⟩ := HT.out i _ hx
      have c6 := (HS.out.below.cell (p := ⟨b, o + i * 7 + 6, none⟩) hb).trans hna.c6
      have cm := HGC.out a _ (ints_at hi)
      obtain ⟨ks, hksd⟩ : ∃ ks, ks = T[i].kids := ⟨_, rfl⟩
      rw [← hksd] at hks
      have HKS := Lib.hid hksd
      clear hksd
      obtain ⟨KA, kc, rfl, hkc, hka⟩ := hks
      have HX := Lib.hid hx
      have hal' : a ≤ T.length := by omega
      clear hx
      go_wp2_with fail
      go_region
      go_wp2_with fail
      go_loopg [4, 47] ks.length (fun z metv kvv wr2 => ∃ (k : Nat) (d2 : Nat → Nat) (m2 : List Nat), kvv = .int .i64 (k : Int) ∧ k ≤ ks.length ∧ ks.length - k ≤ z ∧ Srch w T (.slice (some ⟨b, o, none⟩) T.length c) r a d2 m2 metv wr2 ∧ Inv T.length d2 m2 ∧ m2.length = m.length + k ∧ m2[a]? = some i ∧ d2 i = d i ∧ (∀ j, d2 j ≤ a + 2) ∧
        kidsGo T.length (d i + 1) (ks.drop k) d2 m2 = kidsGo T.length (d i + 1) ks d m)
      case atStart => exact ⟨0, d, m, rfl, Nat.zero_le _, Nat.le_refl _, HS.out.drew, HH.out.inv, rfl, hi, rfl, fun j => by have := HH.out.bound j; omega, rfl⟩
      case round =>
        obtain ⟨k, d2, m2, rfl, hk, hz2, hs2, hinv2, hlen2, hi2, hdi, hbd2, hgo⟩ := hrel
        have hml2 := hinv2.len
        clear cm hgl b0 b1 HGC
        obtain ⟨g2, cap2, rfl, hg2, hgl2, hgc2⟩ := hs2.row.form (by rw [ints_len]; omega)
        rw [ints_len] at hs2 ⊢
        have b0 := hs2.box0
        have b1 := hs2.box1
        have HS2 := Lib.hid hs2
        have HI2 := Lib.hid hinv2
        have HGO := Lib.hid hgo
        have HBD := Lib.hid hbd2
        have cm2 := hgc2 a _ (ints_at hi2)
        have HI := Lib.hid hi2
        have HDI := Lib.hid hdi
        have HLEN := Lib.hid hlen2
        have hm2a : a < m2.length := (List.getElem?_eq_some_iff.1 HI.out).1
        have hkN : k ≤ 20000 := by omega
        clear hlen2 hs2 hinv2 hgo hbd2 hgc2 hi2 hdi
        by_cases hkl : k < ks.length
        · obtain ⟨z, hzk⟩ : ∃ z, ks[k]? = some z := ⟨ks[k], List.getElem?_eq_getElem hkl⟩
          have hdr := drop_cons' hzk
          rcases hka with hnil | ⟨bk, ok, rfl, hbk, hcell⟩
          · rw [hnil] at hkl; exact absurd hkl (Nat.not_lt_zero _)
          have ck := (HS2.out.below.cell (p := ⟨bk, ok + k, none⟩) hbk).trans (hcell k z hzk)
          have HC := Lib.hid hcell
          have HZ := Lib.hid hzk
          have HDR := Lib.hid hdr
          clear hcell hzk hdr
          by_cases hp : 0 ≤ z ∧ z < (T.length : Int)
          · obtain ⟨q, rfl⟩ : ∃ q : Nat, z = (q : Int) := ⟨z.toNat, by omega⟩
            have hq : q < T.length := by omega
            obtain ⟨cq, fq⟩ := HS2.out.fam q hq
            replace cq : wr.cell? ⟨w.heap.size + 1, q, none⟩ = some (.int .i64 (d2 q : Int)) := cq
            by_cases h0 : d2 q = 0
            · rw [h0] at cq
              have hiN2 := hiN
              obtain ⟨ci, fi⟩ := HS2.out.fam i hiN
              replace ci : wr.cell? ⟨w.heap.size + 1, i, none⟩ = some (.int .i64 (d i : Int)) := by rw [ci]; show some (Value.int .i64 (d2 i : Int)) = _; rw [HDI.out]
              have hdb := HH.out.bound i
              have hsz2 := HS2.out.size
              have hm2N : (ints m2).length ≤ 1000000 := by rw [ints_len]; omega
              have HST := Lib.hid (HS2.out.store (k := q) (v := d i + 1) hq (x := (d i : Int) + 1) (by omega))
              go_wp2_with (first | (go_at_call 47; refine (place_yes _ _ _ _ _ hp).mono ?_; rintro e w' ⟨rfl, rfl⟩) | (at_builtin; refine at_num _ (q : Int) rfl _ _ rfl (w.heap.size + 2) _ (ints m2) rfl HST.out.row _ (by simp) rfl hm2N (by simpa using hsz2) ?_; intro v' w' hr' hb'))
              go_roundg (ks.length - (k + 1))
              case measure => omega
              case rel => exact ⟨k + 1, upd d2 q (d i + 1), m2 ++ [q], by go_num, by omega, Nat.le_refl _, HST.out.grow hr' hb', HI2.out.add hq h0 (by omega), by rw [List.length_append, HLEN.out]; rfl, by rw [List.getElem?_append_left hm2a]; exact HI.out, by
                rw [upd_other _ _ (fun e => by subst e; have := (HH.out.inv.iff i).2 (List.mem_of_getElem? hi); have := HDI.out; omega)]; exact HDI.out, fun j => by
                have := HBD.out j
                by_cases e : j = q
                · subst e; rw [upd_same]; omega
                · rw [upd_other _ _ e]; exact this, by
                rw [← HGO.out, HDR.out, kidsGo, if_pos ⟨by omega, by omega, by simpa using h0⟩, Int.toNat_natCast]⟩
            · have hne : ((d2 q : Int) == 0) = false := beq_eq_false_iff_ne.2 (by omega)
              go_wp2_with (go_at_call 47; refine (place_yes _ _ _ _ _ hp).mono ?_; rintro e w' ⟨rfl, rfl⟩)
              go_ret
              have hg0 : kidsGo T.length (d i + 1) ks d m = none := by
                rw [← HGO.out, HDR.out, kidsGo, if_neg (fun hh => h0 (by simpa using hh.2.2))]
              exact ⟨by rw [← HBF.out, bfs_none hi hal' (by rw [kids_of HX.out, ← HKS.out]; exact hg0)]; rfl, HS2.out.below⟩
          · go_wp2_with (go_at_call 47; refine (place_no _ _ _ _ _ hp).mono ?_; rintro e w' ⟨rfl, rfl⟩)
            go_ret
            have hg0 : kidsGo T.length (d i + 1) ks d m = none := by
              rw [← HGO.out, HDR.out, kidsGo, if_neg (fun hh => hp ⟨hh.1, hh.2.1⟩)]
            exact ⟨by rw [← HBF.out, bfs_none hi hal' (by rw [kids_of HX.out, ← HKS.out]; exact hg0)]; rfl, HS2.out.below⟩
        · have hke : k = ks.length := by omega
          have hg1 : kidsGo T.length (d i + 1) ks d m = some (d2, m2) := by
            rw [← HGO.out, hke, List.drop_length]; rfl
          have hgk : kidsGo T.length (d i + 1) (kidsAt T i) d m = some (d2, m2) := by rw [kids_of HX.out, ← HKS.out]; exact hg1
          have HHn := Lib.hid (HH.out.step hi hgk)
          have HBn := Lib.hid ((bfs_next hi hal' hgk).symm.trans HBF.out)
          clear hg1 hgk hke
          go_wp2_with fail
          go_roundg (T.length - (a + 1))
          case measure => omega
          case rel => exact ⟨a + 1, d2, m2, by go_num, (have h := HS2.out; ⟨h.below, h.size, h.box0, h.box1, h.fam, h.row⟩), HHn.out, Nat.le_refl _, HBn.out⟩
    · have hae : a = m.length := by omega
      have hB : B = some (d, m) := by rw [← HBF.out, bfs_end (by omega)]
      have HBB := Lib.hid hB
      clear hB HBF
      by_cases hfull : m.length < T.length
      · have g5 : decide ((m.length : Int) < (T.length : Int)) = true := decide_eq_true (by omega)
        go_wp2_with fail
        go_ret
        exact ⟨by rw [HBB.out]; exact congrArg (fun x : Nat => Ending.returned (.int .i64 (x : Int))) (if_pos hfull).symm, HS.out.below⟩
      · have g5 : decide ((m.length : Int) < (T.length : Int)) = false := decide_eq_false (by omega)
        obtain ⟨l, hl⟩ : ∃ l, m[m.length - 1]? = some l := ⟨m[m.length - 1], List.getElem?_eq_getElem (by omega)⟩
        have hlN : l < T.length := HH.out.inv.lt l (List.mem_of_getElem? hl)
        have cl := HGC.out (m.length - 1) _ (ints_at hl)
        have cd : wr.cell? ⟨w.heap.size + 1, l, none⟩ = some (.int .i64 (d l : Int)) := (HS.out.fam l hlN).1
        have hlast : m.getLastD 0 = l := by
          rw [List.getLastD_eq_getLast?, List.getLast?_eq_getElem?, hl]; rfl
        have HL := Lib.hid hlast
        clear hlast hl hae
        go_wp2_with fail
        go_ret
        exact ⟨by rw [HBB.out]; exact congrArg (fun x : Nat => Ending.returned (.int .i64 (x : Int))) (by rw [← HL.out]; exact (if_neg hfull).symm), HS.out.below⟩
theorem deep_none (T : List Nd) (A : Option Addr) (c : Nat) (r : Int) (w : World) (h : ¬ (T.length ≤ 16384 ∧ 0 ≤ r ∧ r < (T.length : Int))) :
    Calls Tryz.prog 22 #[.agg #[.slice A T.length c, .int .i64 r]] w fun e w' => e = .returned (.int .i64 (deepT T r : Int)) ∧ Below w.heap.size w w' := by
  have hd : deepT T r = 0 := by unfold deepT; rw [if_neg h]
  rw [hd]
  have b1 := (Below.refl w.heap.size w).alloc (Nat.le_refl _) (.cells #[.slice A T.length c, .int .i64 r] 25)
  by_cases hN : T.length ≤ 16384
  · have g1 : decide ((16384 : Int) < (T.length : Int)) = false := decide_eq_false (by omega)
    have hp : ¬ (0 ≤ r ∧ r < (T.length : Int)) := fun hh => h ⟨hN, hh⟩
    clear h hd
    go_enter Tryz.func22, Tryz.ntmps22
    go_wp2_with (go_at_call 47; refine (place_no _ _ _ _ _ hp).mono ?_; rintro e w' ⟨rfl, rfl⟩)
    go_ret
    exact ⟨rfl, b1⟩
  · have g1 : decide ((16384 : Int) < (T.length : Int)) = true := decide_eq_true (by omega)
    clear h hd
    go_enter Tryz.func22, Tryz.ntmps22
    go_wp2_with fail
    go_ret
    exact ⟨rfl, b1⟩
def TreeV (W : World) (v : Value) (T : List Nd) (r : Int) : Prop := ∃ nv, v = .agg #[nv, .int .i64 r] ∧ Nodes W nv T
theorem TreeV.below {W W' : World} {v : Value} {T : List Nd} {r : Int} (h : TreeV W v T r) (hb : Below W.heap.size W W') : TreeV W' v T r := by
  obtain ⟨nv, e, hn⟩ := h
  exact ⟨nv, e, hn.below hb⟩
theorem deep_any (v : Value) (T : List Nd) (r : Int) (w : World) (h : TreeV w v T r) : Calls Tryz.prog 22 #[v] w fun e w' => e = .returned (.int .i64 (deepT T r : Int)) ∧ Below w.heap.size w w' := by
  obtain ⟨nv, rfl, A, c, rfl, hc, hn⟩ := h
  by_cases hh : T.length ≤ 16384 ∧ 0 ≤ r ∧ r < (T.length : Int)
  · rcases hn with rfl | ⟨b, o, rfl, hb, hx⟩
    · exfalso
      have := hh.2.2
      simp at this
      omega
    · obtain ⟨q, rfl⟩ : ∃ q : Nat, r = (q : Int) := ⟨r.toNat, by omega⟩
      exact deep_main T b o c q w hb hh.1 (by omega) hx
  · exact deep_none T A c r w hh
end Go.Proofs.YtfpeecjafccfjaaGreatDoor
namespace Go.Proofs.YtfpeecjafccfjaaGreatDoor
open Go.RowKit
def soK (k : Int) : Int :=
  if k = 7 ∨ k = 8 then 3 else if k = 9 ∨ k = 10 then 5 else if k = 11 then 9 else if 1 ≤ k ∧ k ≤ 15 then 1 else if k = 16 ∨ k = 17 then 16 else
  if k = 18 then 32 else if k = 29 then 128 else if 19 ≤ k ∧ k ≤ 32 then 64 else 0
def hitB (a b : Int) : Bool := !(bits .and .i64 a b == 0)
def begB : List Int → List Int → Bool
  | _, [] => true
  | [], _ :: _ => false
  | k :: ks, r :: rs => hitB k r && begB ks rs
theorem begB_len : ∀ {ks row : List Int}, begB ks row = true → row.length ≤ ks.length := by
  intro ks row
  induction row generalizing ks with
  | nil => intro _; exact Nat.zero_le _
  | cons r rs ih =>
    intro h
    cases ks with
    | nil => cases h
    | cons k ks =>
      rw [begB, Bool.and_eq_true] at h
      have := ih h.2
      simp only [List.length_cons]
      omega
theorem begB_short : ∀ {ks row : List Int}, ks.length < row.length → begB ks row = false := by
  intro ks row h
  cases e : begB ks row with
  | false => rfl
  | true => have := begB_len e; omega
def eat (row : List Int) (most : Int) : Nat → Int → List Int → Int × List Int
  | 0, t, ks => (t, ks)
  | f + 1, t, ks => if t < most ∧ begB ks row = true then eat row most f (t + 1) (ks.drop row.length) else (t, ks)
theorem eat_fuel {row : List Int} {most : Int} (h0 : 0 < row.length) : ∀ (n f : Nat) (t : Int) (ks : List Int), ks.length ≤ n → ks.length < f → eat row most f t ks = eat row most (ks.length + 1) t ks := by
  intro n
  induction n with
  | zero =>
    intro f t ks hn hf
    obtain ⟨f, rfl⟩ : ∃ g, f = g + 1 := ⟨f - 1, by omega⟩
    have hb : begB ks row = false := begB_short (by omega)
    rw [eat, eat, if_neg (by rw [hb]; simp), if_neg (by rw [hb]; simp)]
  | succ n ih =>
    intro f t ks hn hf
    obtain ⟨f, rfl⟩ : ∃ g, f = g + 1 := ⟨f - 1, by omega⟩
    rw [eat, eat]
    by_cases hc : t < most ∧ begB ks row = true
    · have hl := begB_len hc.2
      have hd : (ks.drop row.length).length = ks.length - row.length := List.length_drop
      rw [if_pos hc, if_pos hc, ih f _ _ (by omega) (by omega), ih ks.length _ _ (by omega) (by omega)]
    · rw [if_neg hc, if_neg hc]
theorem eat_step {row : List Int} {most t : Int} {ks : List Int} (h0 : 0 < row.length) (ht : t < most) (hb : begB ks row = true) : eat row most (ks.length + 1) t ks = eat row most ((ks.drop row.length).length + 1) (t + 1) (ks.drop row.length) := by
  have hl := begB_len hb
  have hd : (ks.drop row.length).length = ks.length - row.length := List.length_drop
  rw [eat, if_pos ⟨ht, hb⟩, eat_fuel h0 _ ks.length _ _ (Nat.le_refl _) (by omega)]
theorem eat_end {row : List Int} {most t : Int} {ks : List Int} (h : ¬ (t < most ∧ begB ks row = true)) : eat row most (ks.length + 1) t ks = (t, ks) := by
  rw [eat, if_neg h]
theorem eat_le {row : List Int} {most : Int} : ∀ (f : Nat) (t : Int) (ks : List Int), (eat row most f t ks).2.length ≤ ks.length := by
  intro f
  induction f with
  | zero => intro t ks; exact Nat.le_refl _
  | succ f ih =>
    intro t ks
    rw [eat]
    split
    · exact Nat.le_trans (ih _ _) (by rw [List.length_drop]; omega)
    · exact Nat.le_refl _
abbrev Prt := Int × Int × List Int
def allLR : List Prt → List Int → Bool
  | [], ks => ks.isEmpty
  | p :: ps, ks => decide (p.1 ≤ (eat p.2.2 p.2.1 (ks.length + 1) 0 ks).1) && allLR ps (eat p.2.2 p.2.1 (ks.length + 1) 0 ks).2
def big : Int := 9223372036854775807
def partsK (k n : Int) : List Prt :=
  if k = 13 ∨ k = 14 ∨ k = 16 then [(1, 1, [1])]
  else if k = 8 ∨ k = 12 ∨ k = 17 then [(1, 1, [1, 1])]
  else if k = 9 ∨ k = 10 then [(1, big, [1])]
  else if k = 19 ∨ k = 29 then [(0, big, [1])]
  else if k = 11 ∨ k = 22 then [(1, 1, [32])]
  else if k = 21 then [(1, 1, [4])]
  else if k = 28 then [(1, 1, [8])]
  else if k = 23 then [(1, 1, [1, 32])]
  else if k = 24 then [(1, 1, [32, 1])]
  else if k = 15 then [(0, big, [16])]
  else if k = 18 then [(0, big, [64]), (0, 1, [128])]
  else if k = 25 then [(1, big, [1, 32]), (0, 1, [32])]
  else if k = 26 then [(2, 3, [1]), (1, 1, [32])]
  else if k = 27 then [(n, n, [1]), (1, 1, [32])]
  else if k = 20 then [(n, n, [2]), (1, big, [1])]
  else []
def koK (k n : Int) (ss : List Int) : Bool := allLR (partsK k n) ss
theorem and_zero (b : Int) : bits .and .i64 0 b = 0 := by
  show IntKind.i64.wrap (((BitVec.ofInt 64 0) &&& (BitVec.ofInt 64 b)).toNat : Int) = 0
  rw [show BitVec.ofInt 64 0 = 0#64 from rfl, BitVec.zero_and]
  rfl
theorem hit_zero (b : Int) : hitB 0 b = false := by
  unfold hitB
  rw [and_zero]
  rfl
theorem begB_zero : ∀ {ks row : List Int}, begB ks row = true → (0 : Int) ∉ ks.take row.length := by
  intro ks row
  induction row generalizing ks with
  | nil => intro _; simp
  | cons r rs ih =>
    intro h
    cases ks with
    | nil => cases h
    | cons k ks =>
      rw [begB, Bool.and_eq_true] at h
      rw [List.length_cons, List.take_succ_cons, List.mem_cons]
      rintro (e | e)
      · rw [← e, hit_zero] at h; cases h.1
      · exact ih h.2 e
theorem eat_zero {row : List Int} {most : Int} : ∀ (f : Nat) (t : Int) (ks : List Int), (0 : Int) ∈ ks → (0 : Int) ∈ (eat row most f t ks).2 := by
  intro f
  induction f with
  | zero => intro t ks h; exact h
  | succ f ih =>
    intro t ks h
    rw [eat]
    split
    · rename_i hc
      refine ih _ _ ?_
      rw [← List.take_append_drop row.length ks] at h
      exact (List.mem_append.1 h).resolve_left (begB_zero hc.2)
    · exact h
theorem allL_zero : ∀ (ps : List Prt) (ks : List Int), allLR ps ks = true → (0 : Int) ∉ ks := by
  intro ps
  induction ps with
  | nil =>
    intro ks h hm
    cases ks with
    | nil => cases hm
    | cons a t => cases h
  | cons p ps ih =>
    intro ks h hm
    rw [allLR, Bool.and_eq_true] at h
    exact ih _ h.2 (eat_zero _ _ _ hm)
theorem ko_zero (k n : Int) (ss : List Int) (h : koK k n ss = true) : (0 : Int) ∉ ss := allL_zero _ _ h
end Go.Proofs.YtfpeecjafccfjaaGreatDoor
namespace Go.Proofs.YtfpeecjafccfjaaGreatDoor
open Go.RowKit
theorem ret_boolR {a b : Bool} (h : a = b) : Ending.returned (.bool a) = .returned (.bool b) := by rw [h]
theorem ret_i64R {a b : Int} (h : a = b) : Ending.returned (.int .i64 a) = .returned (.int .i64 b) := by rw [h]
set_option maxHeartbeats 2000000 in
theorem sorts_any (k : Int) (w : World) : Calls Tryz.prog 56 #[.int .i64 k] w fun e w' => e = .returned (.int .i64 (soK k)) ∧ w = w' := by
  go_enter Tryz.func56, Tryz.ntmps56
  go_wp2_with fail
  all_goals
    go_ret
    refine ⟨ret_i64R ?_, rfl⟩
    simp only [soK]
    simp_all
    try omega
theorem begB_take {ks row : List Int} {i : Nat} {k r : Int} (hk : ks[i]? = some k) (hr : row[i]? = some r) : begB (ks.drop i) (row.drop i) = (hitB k r && begB (ks.drop (i + 1)) (row.drop (i + 1))) := by
  rw [drop_cons' hk, drop_cons' hr, begB]
set_option maxHeartbeats 2000000 in
theorem begins_any (kv rv : Value) (ks row : List Int) (w : World) (hk : NumsR w kv ks) (hr : NumsR w rv row) (hl : ks.length ≤ 1000000) : Calls Tryz.prog 130 #[kv, rv] w fun e w' => e = .returned (.bool (begB ks row)) ∧ w = w' := by
  obtain ⟨KA, kc, rfl, hkc, hka⟩ := hk
  obtain ⟨RA, rc, rfl, hrc, hra⟩ := hr
  by_cases hlt : ks.length < row.length
  · have hb := begB_short hlt
    rw [hb]
    have g : decide ((ks.length : Int) < (row.length : Int)) = true := decide_eq_true (by omega)
    clear hka hra hb
    go_enter Tryz.func130, Tryz.ntmps130
    go_wp2_with fail
    go_ret
    exact ⟨rfl, rfl⟩
  · have g : decide ((ks.length : Int) < (row.length : Int)) = false := decide_eq_false (by omega)
    have HK := Lib.hid hka
    have HR := Lib.hid hra
    clear hka hra
    go_enter Tryz.func130, Tryz.ntmps130
    go_wp2_with fail
    go_loop [14] (fun i => ∃ n : Nat, n ≤ row.length ∧ i = .int .i64 (n : Int) ∧ begB (ks.drop n) (row.drop n) = begB ks row) (fun i => row.length - (intOf i).toNat)
    case atStart => exact ⟨0, Nat.zero_le _, rfl, rfl⟩
    case round =>
      obtain ⟨n, hn, rfl, hb⟩ := hrel
      have HB := Lib.hid hb
      clear hb
      by_cases hnl : n < row.length
      · have hx := List.getElem?_eq_getElem hnl
        have hy := List.getElem?_eq_getElem (show n < ks.length by omega)
        obtain ⟨x, hxe⟩ : ∃ x, x = row[n] := ⟨_, rfl⟩
        obtain ⟨y, hye⟩ : ∃ y, y = ks[n]'(by omega) := ⟨_, rfl⟩
        rw [← hxe] at hx
        rw [← hye] at hy
        clear hxe hye
        rcases HK.out with h0 | ⟨b1, o1, rfl, _, hc1⟩
        · rw [h0] at hy; simp at hy
        rcases HR.out with h0 | ⟨b2, o2, rfl, _, hc2⟩
        · rw [h0] at hx; simp at hx
        have c1 := hc1 n _ hy
        have c2 := hc2 n _ hx
        have hstep := begB_take hy hx
        have HS := Lib.hid hstep
        clear hc1 hc2 hstep hx hy HK HR
        by_cases hh : bits .and .i64 y x = 0
        · go_wp2_with fail
          go_ret
          exact ⟨ret_boolR (by rw [← HB.out, HS.out]; simp [hitB, hh]), rfl⟩
        · have hhb : (bits .and .i64 y x == 0) = false := beq_eq_false_iff_ne.2 hh
          go_wp2_with fail
          go_round
          case rel => exact ⟨n + 1, by omega, by go_num, by rw [← HB.out, HS.out]; simp [hitB, hh]⟩
          case measure => simp [intOf]; omega
      · have he : begB (ks.drop n) (row.drop n) = true := by
          rw [List.drop_of_length_le (show row.length ≤ n by omega)]
          cases ks.drop n <;> rfl
        have HE := Lib.hid he
        clear he
        go_wp2_with fail
        go_ret
        exact ⟨ret_boolR (by rw [← HB.out, HE.out]), rfl⟩
end Go.Proofs.YtfpeecjafccfjaaGreatDoor
namespace Go.Proofs.YtfpeecjafccfjaaGreatDoor
open Go.RowKit
def Part (W : World) (v : Value) (p : Prt) : Prop :=
  ∃ bm br bl rv, v = .func (.func 129) #[] #[.pointer (some ⟨bm, 0, none⟩), .pointer (some ⟨br, 0, none⟩), .pointer (some ⟨bl, 0, none⟩)] ∧ bm < W.heap.size ∧ br < W.heap.size ∧ bl < W.heap.size ∧
    W.cell? ⟨bm, 0, none⟩ = some (.int .i64 p.2.1) ∧ W.cell? ⟨br, 0, none⟩ = some rv ∧ W.cell? ⟨bl, 0, none⟩ = some (.int .i64 p.1) ∧ NumsR W rv p.2.2
theorem Part.below {W W' : World} {v : Value} {p : Prt} (h : Part W v p) (hb : Below W.heap.size W W') : Part W' v p := by
  obtain ⟨bm, br, bl, rv, rfl, h1, h2, h3, c1, c2, c3, hn⟩ := h
  have := hb.size
  exact ⟨bm, br, bl, rv, rfl, by omega, by omega, by omega, (hb.cell (p := ⟨bm, 0, none⟩) h1).trans c1, (hb.cell (p := ⟨br, 0, none⟩) h2).trans c2, (hb.cell (p := ⟨bl, 0, none⟩) h3).trans c3, hn.below hb⟩
theorem acell' (w w' : World) (cs : Array Value) (t : TypeId) (j : Nat) (hb : Below (w.heap.size + 1) (w.alloc (.cells cs t)) w') : w'.cell? ⟨w.heap.size, j, none⟩ = cs[j]? := (hb.cell (p := ⟨w.heap.size, j, none⟩) (Nat.lt_succ_self _)).trans (acell w cs t j)
theorem some_any (l m : Int) (rv : Value) (row : List Int) (w : World) (h : NumsR w rv row) : Calls Tryz.prog 100 #[.int .i64 l, .int .i64 m, rv] w fun e w' => ∃ v, e = .returned v ∧ Part w' v (l, m, row) ∧ Below w.heap.size w w' := by
  have HN := Lib.hid h
  obtain ⟨A, c, rfl, hc, _⟩ := h
  go_enter Tryz.func100, Tryz.ntmps100
  go_wp2_with fail
  go_ret
  have b1 := (Below.refl w.heap.size w).alloc (Nat.le_refl _) (.cells #[.int .i64 l] 2)
  have b2 := (Below.refl (w.heap.size + 1) (w.alloc (.cells #[.int .i64 l] 2))).alloc (by rw [asize]; exact Nat.le_refl _) (.cells #[.int .i64 m] 2)
  have b3 := (Below.refl (w.heap.size + 1 + 1) ((w.alloc (.cells #[.int .i64 l] 2)).alloc (.cells #[.int .i64 m] 2))).alloc (by rw [asize, asize]; exact Nat.le_refl _) (.cells #[.slice A row.length c] 112)
  have hb := b1.trans ((b2.trans (b3.mono (by omega))).mono (Nat.le_succ _))
  refine ⟨_, rfl, ⟨_, _, _, _, rfl, by rw [asize, asize, asize]; omega, by rw [asize, asize, asize]; omega, by rw [asize, asize, asize]; omega, ?_, ?_, ?_, HN.out.below hb⟩, hb⟩
  · have := acell' (w.alloc (.cells #[.int .i64 l] 2)) _ #[.int .i64 m] 2 0 (by rw [asize]; exact b3)
    rw [asize] at this
    exact this
  · have := acell ((w.alloc (.cells #[.int .i64 l] 2)).alloc (.cells #[.int .i64 m] 2)) #[.slice A row.length c] 112 0
    rw [asize, asize] at this
    exact this
  · exact acell' w _ #[.int .i64 l] 2 0 (b2.trans (b3.mono (by omega)))
theorem addr_add (b o j : Nat) : (⟨b, o, none⟩ : Addr).add j = ⟨b, o + j, none⟩ := by unfold Addr.add; split <;> simp_all
theorem nums_drop {W : World} {A : Option Addr} {ks : List Int} {c L : Nat} (h : NumsR W (.slice A ks.length c) ks) (hl : L ≤ ks.length) (v : Value) (hv : v = .slice (if c = L then A else A.map fun a => a.add L) (ks.length - L) (c - L)) : NumsR W v (ks.drop L) := by
  obtain ⟨A', c', e, hc, hh⟩ := h
  injection e with e1 e2 e3
  subst e1 e3 hv
  refine ⟨_, _, by rw [List.length_drop], by rw [List.length_drop]; omega, ?_⟩
  rcases hh with rfl | ⟨bk, o, rfl, hbk, hx⟩
  · left; simp
  · by_cases hL : c = L
    · left
      exact List.drop_of_length_le (by omega)
    · right
      refine ⟨bk, o + L, by rw [if_neg hL, Option.map_some, addr_add], hbk, fun j z hj => ?_⟩
      rw [List.getElem?_drop] at hj
      have := hx (L + j) z hj
      rw [show o + L + j = o + (L + j) by omega]
      exact this
theorem ret_sb {v : Value} {a b : Bool} (h : a = b) : Ending.returned (.tuple #[v, .bool a]) = .returned (.tuple #[v, .bool b]) := by rw [h]
set_option maxHeartbeats 2000000 in
theorem part_any (kv : Value) (p : Prt) (ks : List Int) (bm br bl : Nat) (rv : Value) (w : World) (hbm : w.cell? ⟨bm, 0, none⟩ = some (.int .i64 p.2.1)) (hbr : w.cell? ⟨br, 0, none⟩ = some rv) (hbl : w.cell? ⟨bl, 0, none⟩ = some (.int .i64 p.1)) (hr : NumsR w rv p.2.2)
    (hk : NumsR w kv ks) (hl : ks.length ≤ 1000000) (h0 : 0 < p.2.2.length) :
    Calls Tryz.prog 129 #[kv, .pointer (some ⟨bm, 0, none⟩), .pointer (some ⟨br, 0, none⟩), .pointer (some ⟨bl, 0, none⟩)] w fun e w' => ∃ kv', e = .returned (.tuple #[kv', .bool (decide (p.1 ≤ (eat p.2.2 p.2.1 (ks.length + 1) 0 ks).1))]) ∧ NumsR w' kv' (eat p.2.2 p.2.1 (ks.length + 1) 0 ks).2 ∧ Below w.heap.size w w' := by
  obtain ⟨least, most, row⟩ := p
  simp only at hbm hbr hbl hr h0 ⊢
  have HR := Lib.hid hr
  obtain ⟨RA, rc, rfl, hrc, _⟩ := hr
  go_enter Tryz.func129, Tryz.ntmps129
  go_wp2_with fail
  go_loop [0, 7] (fun kv t => ∃ (ks' : List Int) (n : Nat), t = .int .i64 (n : Int) ∧ NumsR w kv ks' ∧ ks'.length + n ≤ ks.length ∧ eat row most (ks'.length + 1) (n : Int) ks' = eat row most (ks.length + 1) 0 ks) (fun _ t => ks.length - (intOf t).toNat)
  case atStart => exact ⟨ks, 0, rfl, hk, Nat.le_refl _, rfl⟩
  case round =>
    clear hk
    obtain ⟨ks', n, rfl, hk, hn, he⟩ := hrel
    have HK := Lib.hid hk
    obtain ⟨KA, kc, rfl, hkc, _⟩ := hk
    have HE := Lib.hid he
    clear he
    have HB := Lib.hid (begins_any _ _ ks' row w HK.out HR.out (by omega))
    by_cases hm : (n : Int) < most
    · have g : decide ((n : Int) < most) = true := decide_eq_true hm
      cases hb : begB ks' row with
      | true =>
        have hbl' := begB_len hb
        have HS := Lib.hid (eat_step h0 hm hb)
        have HBB := Lib.hid hb
        clear hb
        go_wp2_with (go_at_call 130; refine HB.out.mono ?_; rintro e w' ⟨rfl, rfl⟩; rw [HBB.out])
        refine ⟨⟨ks'.drop row.length, n + 1, by go_num, nums_drop HK.out hbl' _ rfl, by rw [List.length_drop]; omega, ?_⟩, by simp [intOf]; omega⟩
        rw [← HE.out, HS.out]
        rfl
      | false =>
        have HS := Lib.hid (eat_end (row := row) (most := most) (t := (n : Int)) (ks := ks') (by rw [hb]; simp))
        have HBB := Lib.hid hb
        clear hb
        go_wp2_with (go_at_call 130; refine HB.out.mono ?_; rintro e w' ⟨rfl, rfl⟩; rw [HBB.out])
        go_region
        go_wp2_with fail
        go_ret2
        exact ⟨_, ret_sb (by rw [← HE.out, HS.out]), by rw [← HE.out, HS.out]; exact HK.out.below (Below.refl _ _).drew, (Below.refl _ _).drew⟩
    · have g : decide ((n : Int) < most) = false := decide_eq_false hm
      have HS := Lib.hid (eat_end (row := row) (most := most) (t := (n : Int)) (ks := ks') (fun hh => hm hh.1))
      go_wp2_with fail
      go_region
      go_wp2_with fail
      go_ret2
      exact ⟨_, ret_sb (by rw [← HE.out, HS.out]), by rw [← HE.out, HS.out]; exact HK.out.below (Below.refl _ _).drew, (Below.refl _ _).drew⟩
def Parts (W : World) (v : Value) (ps : List Prt) : Prop :=
  ∃ A c, v = .slice A ps.length c ∧ (ps = [] ∨ ∃ bk o, A = some ⟨bk, o, none⟩ ∧ bk < W.heap.size ∧ ∀ (j : Nat) p, ps[j]? = some p → ∃ u, W.cell? ⟨bk, o + j, none⟩ = some u ∧ Part W u p)
theorem Parts.below {W W' : World} {v : Value} {ps : List Prt} (h : Parts W v ps) (hb : Below W.heap.size W W') : Parts W' v ps := by
  obtain ⟨A, c, rfl, h | ⟨bk, o, rfl, hbk, hx⟩⟩ := h
  · exact ⟨A, c, rfl, .inl h⟩
  · exact ⟨_, c, rfl, .inr ⟨bk, o, rfl, Nat.lt_of_lt_of_le hbk hb.size, fun j p hj => by
      obtain ⟨u, h1, h2⟩ := hx j p hj
      exact ⟨u, (hb.cell (p := ⟨bk, o + j, none⟩) hbk).trans h1, h2.below hb⟩⟩⟩
def Rule (W : World) (v : Value) (ps : List Prt) : Prop := ∃ bp pv, v = .func (.func 128) #[] #[.pointer (some ⟨bp, 0, none⟩)] ∧ bp < W.heap.size ∧ W.cell? ⟨bp, 0, none⟩ = some pv ∧ Parts W pv ps
theorem all_any (pv : Value) (ps : List Prt) (w : World) (h : Parts w pv ps) : Calls Tryz.prog 99 #[pv] w fun e w' => ∃ v, e = .returned v ∧ Rule w' v ps ∧ Below w.heap.size w w' := by
  have HN := Lib.hid h
  obtain ⟨A, c, rfl, _⟩ := h
  go_enter Tryz.func99, Tryz.ntmps99
  go_wp2_with fail
  go_ret
  have b1 := (Below.refl w.heap.size w).alloc (Nat.le_refl _) (.cells #[.slice A ps.length c] 174)
  exact ⟨_, rfl, ⟨_, _, rfl, by rw [asize]; exact Nat.lt_succ_self _, acell w _ _ _, HN.out.below b1⟩, b1⟩
theorem parts_one {W : World} {b : Nat} {u : Value} {p : Prt} (hb : b < W.heap.size) (h : W.cell? ⟨b, 0, none⟩ = some u) (hp : Part W u p) : Parts W (.slice (some ⟨b, 0, none⟩) 1 1) [p] :=
  ⟨_, 1, rfl, .inr ⟨b, 0, rfl, hb, fun j q hj => by
    cases j with
    | zero => obtain rfl := Option.some.inj hj; exact ⟨u, h, hp⟩
    | succ j => simp at hj⟩⟩
theorem parts_two {W : World} {b : Nat} {u1 u2 : Value} {p1 p2 : Prt} (hb : b < W.heap.size) (h1 : W.cell? ⟨b, 0, none⟩ = some u1) (h2 : W.cell? ⟨b, 1, none⟩ = some u2) (hp1 : Part W u1 p1) (hp2 : Part W u2 p2) : Parts W (.slice (some ⟨b, 0, none⟩) 2 2) [p1, p2] :=
  ⟨_, 2, rfl, .inr ⟨b, 0, rfl, hb, fun j q hj => by
    match j, hj with
    | 0, hj => obtain rfl := Option.some.inj hj; exact ⟨u1, h1, hp1⟩
    | 1, hj => obtain rfl := Option.some.inj hj; exact ⟨u2, h2, hp2⟩
    | j + 2, hj => simp at hj⟩⟩
theorem nums_one (w : World) (z : Int) (t : TypeId) (g : Nat) (hg : g = w.heap.size) : NumsR (w.alloc (.cells #[.int .i64 z] t)) (.slice (some ⟨g, 0, none⟩) 1 1) [z] := by
  subst hg
  exact ⟨_, 1, rfl, Nat.le_refl _, .inr ⟨w.heap.size, 0, rfl, by rw [asize]; exact Nat.lt_succ_self _, fun j q hj => by
    cases j with
    | zero => obtain rfl := Option.some.inj hj; exact acell w _ _ _
    | succ j => simp at hj⟩⟩
theorem nums_two (w : World) (y z : Int) (t : TypeId) (g : Nat) (hg : g = w.heap.size) : NumsR (w.alloc (.cells #[.int .i64 y, .int .i64 z] t)) (.slice (some ⟨g, 0, none⟩) 2 2) [y, z] := by
  subst hg
  exact ⟨_, 2, rfl, Nat.le_refl _, .inr ⟨w.heap.size, 0, rfl, by rw [asize]; exact Nat.lt_succ_self _, fun j q hj => by
    match j, hj with
    | 0, hj => obtain rfl := Option.some.inj hj; exact acell w _ _ _
    | 1, hj => obtain rfl := Option.some.inj hj; exact acell w _ _ _
    | j + 2, hj => simp at hj⟩⟩
theorem just_any (rv : Value) (row : List Int) (w : World) (h : NumsR w rv row) : Calls Tryz.prog 98 #[rv] w fun e w' => ∃ v, e = .returned v ∧ Rule w' v [(1, 1, row)] ∧ Below w.heap.size w w' := by
  have HN := Lib.hid (some_any 1 1 rv row w h)
  obtain ⟨A, c, rfl, _⟩ := h
  go_enter Tryz.func98, Tryz.ntmps98
  go_wp2_with fail
  refine HN.out.mono ?_; rintro e w1 ⟨u, rfl, hp, b1⟩
  have HP := Lib.hid hp
  have B1 := Lib.hid b1
  obtain ⟨bm, br, bl, rv', rfl, _⟩ := hp
  clear b1
  go_wp2_with fail
  have b2 := (Below.refl w1.heap.size w1).alloc (Nat.le_refl _) (.cells #[.func (.func 129) #[] #[.pointer (some ⟨bm, 0, none⟩), .pointer (some ⟨br, 0, none⟩), .pointer (some ⟨bl, 0, none⟩)]] 152)
  refine (all_any _ [(1, 1, row)] _ (parts_one (b := w1.heap.size) (by rw [asize]; exact Nat.lt_succ_self _) (acell w1 _ _ _) (HP.out.below b2))).mono ?_
  rintro e w2 ⟨v, rfl, hr, b3⟩
  have HR := Lib.hid hr
  have B3 := Lib.hid (thenBR B1.out (thenBR b2 b3))
  obtain ⟨bp, pv, rfl, _⟩ := hr
  clear b2 b3
  go_wp2_with fail
  go_ret
  exact ⟨_, rfl, HR.out, B3.out⟩
set_option maxHeartbeats 2000000 in
theorem rule_any (pv kv : Value) (ps : List Prt) (ks : List Int) (bp : Nat) (w : World) (hbp : w.cell? ⟨bp, 0, none⟩ = some pv) (hp : Parts w pv ps) (hk : NumsR w kv ks) (hl : ks.length ≤ 1000000) (h0 : ∀ p ∈ ps, 0 < p.2.2.length) (hps : ps.length ≤ 1000) :
    Calls Tryz.prog 128 #[kv, .pointer (some ⟨bp, 0, none⟩)] w fun e w' => e = .returned (.bool (allLR ps ks)) ∧ Below w.heap.size w w' := by
  have HP := Lib.hid hp
  obtain ⟨PA, pc, rfl, hpa⟩ := hp
  have HPA := Lib.hid hpa
  have H0 := Lib.hid h0
  clear hpa h0
  go_enter Tryz.func128, Tryz.ntmps128
  go_wp2_with fail
  go_loopw [0, 10] (fun kv i wr => ∃ (ks' : List Int) (n : Nat), i = .int .i64 (n : Int) ∧ n ≤ ps.length ∧ NumsR wr kv ks' ∧ ks'.length ≤ 1000000 ∧ allLR (ps.drop n) ks' = allLR ps ks ∧ Below w.heap.size w wr) (fun _ i _ => ps.length - (intOf i).toNat)
  case atStart => exact ⟨ks, 0, rfl, Nat.zero_le _, hk, hl, rfl, Below.refl _ _⟩
  case round =>
    clear hk hl
    obtain ⟨ks', n, rfl, hn, hk, hl, he, hbl⟩ := hrel
    have HK := Lib.hid hk
    obtain ⟨KA, kc, rfl, hkc, _⟩ := hk
    have HE := Lib.hid he
    have HB := Lib.hid hbl
    clear he hbl
    by_cases hnl : n < ps.length
    · obtain ⟨p, hpn⟩ : ∃ p, ps[n]? = some p := ⟨ps[n], List.getElem?_eq_getElem hnl⟩
      have hdr := drop_cons' hpn
      rcases HPA.out with hnil | ⟨b1, o1, rfl, hb1, hc1⟩
      · rw [hnil] at hnl; exact absurd hnl (Nat.not_lt_zero _)
      obtain ⟨u, hcu, hpu⟩ := hc1 n p hpn
      have hpu' := hpu.below HB.out
      have hcu' := (HB.out.cell (p := ⟨b1, o1 + n, none⟩) hb1).trans hcu
      obtain ⟨bm, br, bl, rv, rfl, _, _, _, d1, d2, d3, dn⟩ := hpu'
      have HCALL := Lib.hid (part_any _ p ks' bm br bl rv wr d1 d2 d3 dn HK.out hl (H0.out p (List.mem_of_getElem? hpn)))
      have HDR := Lib.hid hdr
      obtain ⟨q, hq⟩ : ∃ q, q = eat p.2.2 p.2.1 (ks'.length + 1) 0 ks' := ⟨_, rfl⟩
      rw [← hq] at HCALL
      have HQ := Lib.hid hq
      have hqlen : q.2.length ≤ ks'.length := by rw [hq]; exact eat_le _ _ _
      clear hc1 hcu hpu d1 d2 d3 dn hdr hpn hq
      go_wp2_with fail
      refine HCALL.out.mono ?_; rintro e w2 ⟨kv', rfl, hk2, b2⟩
      have HK2 := Lib.hid hk2
      obtain ⟨KA2, kc2, rfl, hkc2, _⟩ := hk2
      have B2 := Lib.hid (thenB'R HB.out (Nat.le_refl _) b2)
      clear b2
      by_cases hle : p.1 ≤ q.1
      · have g : decide (p.1 ≤ q.1) = true := decide_eq_true hle
        rw [g]
        go_wp2_with fail
        go_roundw
        case rel => exact ⟨q.2, n + 1, by go_num, by omega, HK2.out, by omega, by rw [← HE.out, HDR.out, allLR, ← HQ.out, g, Bool.true_and], B2.out⟩
        case measure => simp [intOf]; omega
      · have g : decide (p.1 ≤ q.1) = false := decide_eq_false hle
        rw [g]
        go_wp2_with fail
        go_ret
        exact ⟨ret_boolR (by rw [← HE.out, HDR.out, allLR, ← HQ.out, g, Bool.false_and]), B2.out⟩
    · have hdr : ps.drop n = [] := List.drop_of_length_le (by omega)
      have HDR := Lib.hid hdr
      clear hdr
      go_wp2_with fail
      go_ret
      refine ⟨ret_boolR ?_, HB.out⟩
      rw [← HE.out, HDR.out, allLR]
      cases ks' with
      | nil => rfl
      | cons a t => simp; omega
end Go.Proofs.YtfpeecjafccfjaaGreatDoor
namespace Go.Proofs.YtfpeecjafccfjaaGreatDoor
open Go.RowKit
def OfPost (k n : Int) (w : World) (e : Ending) (w' : World) : Prop := ∃ v, e = .returned v ∧ Rule w' v (partsK k n) ∧ Below w.heap.size w w'
theorem of_rule {k n : Int} {ps : List Prt} (h : partsK k n = ps) {w w' : World} {v : Value} (hr : Rule w' v ps) (hb : Below w.heap.size w w') : OfPost k n w (.returned v) w' := ⟨v, rfl, by rw [h]; exact hr, hb⟩
theorem b_alloc (w : World) (o : Obj) : Below w.heap.size w (w.alloc o) := (Below.refl _ _).alloc (Nat.le_refl _) _
set_option maxHeartbeats 2000000 in
theorem kof_just1 (x : Nd) (A B : Option Addr) (a c b d : Nat) (w : World) (h : x.kind = 13 ∨ x.kind = 14 ∨ x.kind = 16 ∨ x.kind = 11 ∨ x.kind = 22 ∨ x.kind = 21 ∨ x.kind = 28) : Calls Tryz.prog 57 #[nodeV x (.slice A a c) (.slice B b d)] w (OfPost x.kind x.num w) := by
  obtain ⟨kind, line, op, num, s, names, kids⟩ := x
  unfold nodeV
  simp only at h ⊢
  have b1 := b_alloc w (.cells #[.int .i64 kind, .int .i64 line, .int .i64 op, .int .i64 num, .string s, .slice A a c, .slice B b d] 35)
  rcases h with rfl | rfl | rfl | rfl | rfl | rfl | rfl
  all_goals
    have B1 := Lib.hid b1
    clear b1
    go_enter Tryz.func57, Tryz.ntmps57
    go_wp2_with fail
    refine (just_any _ _ _ (nums_one _ _ 113 _ (by simp))).mono ?_
    rintro e w2 ⟨v, rfl, hr, b2⟩
    have HR := Lib.hid hr
    have B2 := Lib.hid (thenBR B1.out (thenBR (b_alloc _ _) b2))
    obtain ⟨bp, pv, rfl, _⟩ := hr
    clear b2
    go_wp2_with fail
    go_ret
    exact of_rule (by simp [partsK]) HR.out B2.out
set_option maxHeartbeats 2000000 in
theorem kof_just2 (x : Nd) (A B : Option Addr) (a c b d : Nat) (w : World) (h : x.kind = 8 ∨ x.kind = 12 ∨ x.kind = 17 ∨ x.kind = 23 ∨ x.kind = 24) : Calls Tryz.prog 57 #[nodeV x (.slice A a c) (.slice B b d)] w (OfPost x.kind x.num w) := by
  obtain ⟨kind, line, op, num, s, names, kids⟩ := x
  unfold nodeV
  simp only at h ⊢
  have b1 := b_alloc w (.cells #[.int .i64 kind, .int .i64 line, .int .i64 op, .int .i64 num, .string s, .slice A a c, .slice B b d] 35)
  rcases h with rfl | rfl | rfl | rfl | rfl
  all_goals
    have B1 := Lib.hid b1
    clear b1
    go_enter Tryz.func57, Tryz.ntmps57
    go_wp2_with fail
    refine (just_any _ _ _ (nums_two _ _ _ 113 _ (by simp))).mono ?_
    rintro e w2 ⟨v, rfl, hr, b2⟩
    have HR := Lib.hid hr
    have B2 := Lib.hid (thenBR B1.out (thenBR (b_alloc _ _) b2))
    obtain ⟨bp, pv, rfl, _⟩ := hr
    clear b2
    go_wp2_with fail
    go_ret
    exact of_rule (by simp [partsK]) HR.out B2.out
set_option maxHeartbeats 2000000 in
theorem kof_one (x : Nd) (A B : Option Addr) (a c b d : Nat) (w : World) (h : x.kind = 9 ∨ x.kind = 10 ∨ x.kind = 19 ∨ x.kind = 29 ∨ x.kind = 15) : Calls Tryz.prog 57 #[nodeV x (.slice A a c) (.slice B b d)] w (OfPost x.kind x.num w) := by
  obtain ⟨kind, line, op, num, s, names, kids⟩ := x
  unfold nodeV
  simp only at h ⊢
  have b1 := b_alloc w (.cells #[.int .i64 kind, .int .i64 line, .int .i64 op, .int .i64 num, .string s, .slice A a c, .slice B b d] 35)
  rcases h with rfl | rfl | rfl | rfl | rfl
  all_goals
    have B1 := Lib.hid b1
    clear b1
    go_enter Tryz.func57, Tryz.ntmps57
    go_wp2_with fail
    refine (some_any _ _ _ _ _ (nums_one _ _ 113 _ (by simp))).mono ?_
    rintro e w2 ⟨v, rfl, hp, b2⟩
    have HP := Lib.hid hp
    have B2 := Lib.hid (thenBR B1.out (thenBR (b_alloc _ _) b2))
    obtain ⟨bm, br, bl, rv, rfl, _⟩ := hp
    clear b2
    go_wp2_with fail
    refine (all_any _ _ _ (parts_one (b := w2.heap.size) (by rw [asize]; exact Nat.lt_succ_self _) (acell w2 _ _ _) (HP.out.below (b_alloc w2 _)))).mono ?_
    rintro e w3 ⟨v3, rfl, hr, b3⟩
    have HR := Lib.hid hr
    have B3 := Lib.hid (thenBR B2.out (thenBR (b_alloc _ _) b3))
    obtain ⟨bp, pv, rfl, _⟩ := hr
    clear b3
    go_wp2_with fail
    go_ret
    exact of_rule (by simp [partsK, big]) HR.out B3.out
set_option maxHeartbeats 2000000 in
theorem kof_two1 (x : Nd) (A B : Option Addr) (a c b d : Nat) (w : World) (h : x.kind = 18 ∨ x.kind = 26 ∨ x.kind = 27 ∨ x.kind = 20) : Calls Tryz.prog 57 #[nodeV x (.slice A a c) (.slice B b d)] w (OfPost x.kind x.num w) := by
  obtain ⟨kind, line, op, num, s, names, kids⟩ := x
  unfold nodeV
  simp only at h ⊢
  have b1 := b_alloc w (.cells #[.int .i64 kind, .int .i64 line, .int .i64 op, .int .i64 num, .string s, .slice A a c, .slice B b d] 35)
  rcases h with rfl | rfl | rfl | rfl
  all_goals
    have B1 := Lib.hid b1
    clear b1
    go_enter Tryz.func57, Tryz.ntmps57
    go_wp2_with fail
    refine (some_any _ _ _ _ _ (nums_one _ _ 113 _ (by simp))).mono ?_
    rintro e w2 ⟨v, rfl, hp, b2⟩
    have HP := Lib.hid hp
    have B2 := Lib.hid (thenBR B1.out (thenBR (b_alloc _ _) b2))
    obtain ⟨bm, br, bl, rv, rfl, _⟩ := hp
    clear b2
    go_wp2_with fail
    refine (some_any _ _ _ _ _ (nums_one w2 _ 113 _ rfl)).mono ?_
    rintro e w3 ⟨v, rfl, hp3, b3⟩
    have HP2 := Lib.hid (HP.out.below (thenBR (b_alloc w2 _) b3))
    have HP3 := Lib.hid hp3
    have B3 := Lib.hid (thenBR B2.out (thenBR (b_alloc _ _) b3))
    obtain ⟨bm3, br3, bl3, rv3, rfl, _⟩ := hp3
    clear b3 HP
    go_wp2_with fail
    refine (all_any _ _ _ (parts_two (b := w3.heap.size) (by rw [asize]; exact Nat.lt_succ_self _) (acell w3 _ _ _) (acell w3 _ _ _) (HP2.out.below (b_alloc w3 _)) (HP3.out.below (b_alloc w3 _)))).mono ?_
    rintro e w4 ⟨v4, rfl, hr, b4⟩
    have HR := Lib.hid hr
    have B4 := Lib.hid (thenBR B3.out (thenBR (b_alloc _ _) b4))
    obtain ⟨bp, pv, rfl, _⟩ := hr
    clear b4
    go_wp2_with fail
    go_ret
    exact of_rule (by simp [partsK, big]) HR.out B4.out
set_option maxHeartbeats 2000000 in
theorem kof_two2 (x : Nd) (A B : Option Addr) (a c b d : Nat) (w : World) (h : x.kind = 25) : Calls Tryz.prog 57 #[nodeV x (.slice A a c) (.slice B b d)] w (OfPost x.kind x.num w) := by
  obtain ⟨kind, line, op, num, s, names, kids⟩ := x
  unfold nodeV
  simp only at h ⊢
  have b1 := b_alloc w (.cells #[.int .i64 kind, .int .i64 line, .int .i64 op, .int .i64 num, .string s, .slice A a c, .slice B b d] 35)
  subst h
  have B1 := Lib.hid b1
  clear b1
  go_enter Tryz.func57, Tryz.ntmps57
  go_wp2_with fail
  refine (some_any _ _ _ _ _ (nums_two _ _ _ 113 _ (by simp))).mono ?_
  rintro e w2 ⟨v, rfl, hp, b2⟩
  have HP := Lib.hid hp
  have B2 := Lib.hid (thenBR B1.out (thenBR (b_alloc _ _) b2))
  obtain ⟨bm, br, bl, rv, rfl, _⟩ := hp
  clear b2
  go_wp2_with fail
  refine (some_any _ _ _ _ _ (nums_one w2 _ 113 _ rfl)).mono ?_
  rintro e w3 ⟨v, rfl, hp3, b3⟩
  have HP2 := Lib.hid (HP.out.below (thenBR (b_alloc w2 _) b3))
  have HP3 := Lib.hid hp3
  have B3 := Lib.hid (thenBR B2.out (thenBR (b_alloc _ _) b3))
  obtain ⟨bm3, br3, bl3, rv3, rfl, _⟩ := hp3
  clear b3 HP
  go_wp2_with fail
  refine (all_any _ _ _ (parts_two (b := w3.heap.size) (by rw [asize]; exact Nat.lt_succ_self _) (acell w3 _ _ _) (acell w3 _ _ _) (HP2.out.below (b_alloc w3 _)) (HP3.out.below (b_alloc w3 _)))).mono ?_
  rintro e w4 ⟨v4, rfl, hr, b4⟩
  have HR := Lib.hid hr
  have B4 := Lib.hid (thenBR B3.out (thenBR (b_alloc _ _) b4))
  obtain ⟨bp, pv, rfl, _⟩ := hr
  clear b4
  go_wp2_with fail
  go_ret
  exact of_rule (by simp [partsK, big]) HR.out B4.out
set_option maxHeartbeats 2000000 in
theorem kof_none (x : Nd) (A B : Option Addr) (a c b d : Nat) (w : World) (h : ∀ k ∈ [13, 14, 16, 8, 12, 17, 9, 10, 19, 29, 11, 22, 21, 28, 23, 24, 15, 18, 25, 26, 27, (20 : Int)], x.kind ≠ k) : Calls Tryz.prog 57 #[nodeV x (.slice A a c) (.slice B b d)] w (OfPost x.kind x.num w) := by
  obtain ⟨kind, line, op, num, s, names, kids⟩ := x
  unfold nodeV
  simp only at h ⊢
  simp only [List.mem_cons, List.not_mem_nil, or_false, forall_eq_or_imp, forall_eq] at h
  obtain ⟨h1, h2, h3, h4, h5, h6, h7, h8, h9, h10, h11, h12, h13, h14, h15, h16, h17, h18, h19, h20, h21, h22⟩ := h
  have hp : partsK kind num = [] := by simp only [partsK]; simp [*]
  have b1 := b_alloc w (.cells #[.int .i64 kind, .int .i64 line, .int .i64 op, .int .i64 num, .string s, .slice A a c, .slice B b d] 35)
  have B1 := Lib.hid b1
  have HP := Lib.hid hp
  clear b1 hp
  go_enter Tryz.func57, Tryz.ntmps57
  go_wp2_with fail
  refine (all_any _ [] _ ⟨none, 0, rfl, .inl rfl⟩).mono ?_
  rintro e w2 ⟨v, rfl, hr, b2⟩
  have HR := Lib.hid hr
  have B2 := Lib.hid (thenBR B1.out b2)
  obtain ⟨bp, pv, rfl, _⟩ := hr
  clear b2
  go_wp2_with fail
  go_ret
  exact of_rule HP.out HR.out B2.out
theorem kof_any (x : Nd) (A B : Option Addr) (a c b d : Nat) (w : World) : Calls Tryz.prog 57 #[nodeV x (.slice A a c) (.slice B b d)] w (OfPost x.kind x.num w) := by
  by_cases h1 : x.kind = 13 ∨ x.kind = 14 ∨ x.kind = 16 ∨ x.kind = 11 ∨ x.kind = 22 ∨ x.kind = 21 ∨ x.kind = 28
  · exact kof_just1 x A B a c b d w h1
  by_cases h2 : x.kind = 8 ∨ x.kind = 12 ∨ x.kind = 17 ∨ x.kind = 23 ∨ x.kind = 24
  · exact kof_just2 x A B a c b d w h2
  by_cases h3 : x.kind = 9 ∨ x.kind = 10 ∨ x.kind = 19 ∨ x.kind = 29 ∨ x.kind = 15
  · exact kof_one x A B a c b d w h3
  by_cases h4 : x.kind = 18 ∨ x.kind = 26 ∨ x.kind = 27 ∨ x.kind = 20
  · exact kof_two1 x A B a c b d w h4
  by_cases h5 : x.kind = 25
  · exact kof_two2 x A B a c b d w h5
  refine kof_none x A B a c b d w fun k hk => ?_
  simp only [List.mem_cons, List.not_mem_nil, or_false] at hk
  omega
theorem ite_prop {α : Type} {p : Prop} [Decidable p] {a b : α} (P : α → Prop) (ha : P a) (hb : P b) : P (if p then a else b) := by
  by_cases h : p
  · rw [if_pos h]; exact ha
  · rw [if_neg h]; exact hb
def posP (ps : List Prt) : Prop := ps.all (fun p => decide (0 < p.2.2.length)) = true ∧ ps.length ≤ 1000
theorem posP_one (a b : Int) (r : Int) (l : List Int) : posP [(a, b, r :: l)] := ⟨rfl, Nat.le_of_ble_eq_true rfl⟩
theorem posP_two (a b a' b' : Int) (r r' : Int) (l l' : List Int) : posP [(a, b, r :: l), (a', b', r' :: l')] := ⟨rfl, Nat.le_of_ble_eq_true rfl⟩
theorem posP_all (k n : Int) : posP (partsK k n) := by
  unfold partsK
  refine ite_prop posP (posP_one ..) <| ite_prop posP (posP_one ..) <| ite_prop posP (posP_one ..) <| ite_prop posP (posP_one ..) <| ite_prop posP (posP_one ..) <| ite_prop posP (posP_one ..) <| ite_prop posP (posP_one ..) <| ite_prop posP (posP_one ..) <| ite_prop posP (posP_one ..) <| ite_prop posP (posP_one ..) <| ite_prop posP (posP_two ..) <| ite_prop posP (posP_two ..) <| ite_prop posP (posP_two ..) <| ite_prop posP (posP_two ..) <| ite_prop posP (posP_two ..) ⟨rfl, Nat.zero_le _⟩
theorem parts_pos (k n : Int) : ∀ p ∈ partsK k n, 0 < p.2.2.length := fun p hp => of_decide_eq_true (List.all_eq_true.1 (posP_all k n).1 p hp)
theorem parts_len (k n : Int) : (partsK k n).length ≤ 1000 := (posP_all k n).2
end Go.Proofs.YtfpeecjafccfjaaGreatDoor
namespace Go.Proofs.YtfpeecjafccfjaaGreatDoor
open Go.RowKit
def sortsL (T : List Nd) (x : Nd) : List Int := x.kids.map fun k => soK (kindAt T k.toNat)
theorem sortsL_len (T : List Nd) (x : Nd) : (sortsL T x).length = x.kids.length := by simp [sortsL]
theorem sortsL_at {T : List Nd} {x : Nd} {j : Nat} {k : Int} (h : x.kids[j]? = some k) : (sortsL T x)[j]? = some (soK (kindAt T k.toNat)) := by simp [sortsL, h]
theorem fam_nums {W : World} {b : Nat} {l : List Int} (h : FamR W b l.length (fun j => .int .i64 (l.getD j 0))) (hb : b < W.heap.size) : NumsR W (.slice (some ⟨b, 0, none⟩) l.length l.length) l :=
  ⟨_, _, rfl, Nat.le_refl _, .inr ⟨b, 0, rfl, hb, fun j z hj => by
    have hl := (List.getElem?_eq_some_iff.1 hj).1
    rw [Nat.zero_add, (h j hl).1]
    show some (Value.int .i64 (l.getD j 0)) = _
    rw [List.getD_eq_getElem?_getD, hj]; rfl⟩⟩
set_option maxHeartbeats 2000000 in
set_option maxRecDepth 20000 in
theorem kids_any (x : Nd) (nv kv tv : Value) (T : List Nd) (w : World) (hnv : StrsR w nv x.names) (hkv : NumsR w kv x.kids) (ht : Nodes w tv T) (hv : ∀ k ∈ x.kids, 0 ≤ k ∧ k < (T.length : Int)) (hl : x.kids.length ≤ 20000) :
    Calls Tryz.prog 25 #[nodeV x nv kv, tv] w fun e w' => e = .returned (.bool (koK x.kind x.num (sortsL T x))) ∧ Below w.heap.size w w' := by
  have HK := Lib.hid hkv
  have HNV := Lib.hid hnv
  obtain ⟨NA, nc, rfl, _, _⟩ := hnv
  obtain ⟨KA, kc, rfl, hkc, hka⟩ := hkv
  obtain ⟨TA, tc, rfl, htc, hta⟩ := ht
  have HOF := Lib.hid (fun W => kof_any x NA KA x.names.length nc x.kids.length kc W)
  have HV := Lib.hid hv
  have HKA := Lib.hid hka
  have HTA := Lib.hid hta
  have hW0 := b_alloc w (.cells #[.int .i64 x.kind, .int .i64 x.line, .int .i64 x.op, .int .i64 x.num, .string x.s, .slice NA x.names.length nc, .slice KA x.kids.length kc] 35)
  obtain ⟨w1, hmk, hb1, hs1, hf1⟩ := make_sorts x.kids.length (by omega) (w.alloc (.cells #[.int .i64 x.kind, .int .i64 x.line, .int .i64 x.op, .int .i64 x.num, .string x.s, .slice NA x.names.length nc, .slice KA x.kids.length kc] 35))
  rw [asize] at hmk hb1 hs1 hf1
  have hbx : ∀ j : Nat, w1.cell? ⟨w.heap.size, j, none⟩ = (#[.int .i64 x.kind, .int .i64 x.line, .int .i64 x.op, .int .i64 x.num, .string x.s, .slice NA x.names.length nc, .slice KA x.kids.length kc] : Array Value)[j]? := fun j => (hb1.cell (p := ⟨w.heap.size, j, none⟩) (Nat.lt_succ_self _)).trans (acell w _ _ _)
  have c6 : w1.cell? ⟨w.heap.size, 6, none⟩ = some (.slice KA x.kids.length kc) := hbx 6
  have HBX := Lib.hid hbx
  have HB1 := Lib.hid (hW0.trans (hb1.mono (Nat.le_succ _)))
  have HF1 := Lib.hid hf1
  clear hv hka hta hW0 hb1 hf1 hbx
  unfold nodeV at HOF ⊢
  go_enter Tryz.func25, Tryz.ntmps25
  go_wp2_with fail
  clear hmk c6
  have hsl : (sortsL T x).length = x.kids.length := sortsL_len T x
  have HSL := Lib.hid hsl
  clear hsl
  go_loopw [15] (fun i wr => ∃ k : Nat, k ≤ x.kids.length ∧ i = .int .i64 (k : Int) ∧ Below (w.heap.size + 1) w1 wr ∧ FamR wr (w.heap.size + 1) x.kids.length (fun j => if j < k then .int .i64 ((sortsL T x).getD j 0) else .int .i64 0)) (fun i _ => x.kids.length - (intOf i).toNat)
  case atStart => exact ⟨0, Nat.zero_le _, rfl, Below.refl _ _, HF1.out.eq_ fun j _ => by rw [if_neg (by omega)]⟩
  case round =>
    obtain ⟨k, hk, rfl, hbr, hfr⟩ := hrel
    have HB := Lib.hid hbr
    have HF := Lib.hid hfr
    have hsz := hbr.size
    have HBW := Lib.hid (HB1.out.trans (hbr.mono (Nat.le_succ _)))
    clear hbr
    by_cases hlt : k < x.kids.length
    · obtain ⟨z, hz⟩ : ∃ z, x.kids[k]? = some z := ⟨x.kids[k], List.getElem?_eq_getElem hlt⟩
      obtain ⟨z0, z1⟩ := HV.out z (List.mem_of_getElem? hz)
      obtain ⟨q, rfl⟩ : ∃ q : Nat, z = (q : Int) := ⟨z.toNat, by omega⟩
      have hq : q < T.length := by omega
      have hx := List.getElem?_eq_getElem hq
      rcases HKA.out with h0 | ⟨b1, o1, rfl, hb1, hc1⟩
      · rw [h0] at hlt; exact absurd hlt (Nat.not_lt_zero _)
      rcases HTA.out with h0 | ⟨b2, o2, rfl, hb2, hc2⟩
      · rw [h0] at hq; exact absurd hq (Nat.not_lt_zero _)
      have ck := (HBW.out.cell (p := ⟨b1, o1 + k, none⟩) hb1).trans (hc1 k _ hz)
      obtain ⟨nv', kv', hna, _, _⟩ := hc2 q _ hx
      have ct := (HBW.out.cell (p := ⟨b2, o2 + q * 7, none⟩) hb2).trans hna.c0
      obtain ⟨fc, ff⟩ := hfr k hlt
      obtain ⟨kd, hkd⟩ : ∃ kd, kd = T[q].kind := ⟨_, rfl⟩
      rw [← hkd] at ct
      have hsk : (sortsL T x).getD k 0 = soK kd := by
        rw [List.getD_eq_getElem?_getD, sortsL_at hz, Int.toNat_natCast, kind_of hx, ← hkd]; rfl
      have HSK := Lib.hid hsk
      replace fc : wr.cell? ⟨w.heap.size + 1, k, none⟩ = some (.int .i64 0) := fc.trans (by
        show some (if k < k then _ else _) = _
        rw [if_neg (by omega)])
      clear hc1 hc2 hna hz hx hsk hkd hfr
      go_wp2_with (go_at_call 56; refine (sorts_any kd _).mono ?_; rintro e w' ⟨rfl, rfl⟩)
      refine ⟨⟨k + 1, by omega, by go_num, HB.out.setCell (Nat.le_refl _) _, (HF.out.set_ hlt _).eq_ fun j hj => ?_⟩, by simp [intOf]; omega⟩
      by_cases e : j = k
      · subst e
        rw [if_pos rfl, if_pos (by omega), HSK.out]
      · rw [if_neg e]
        by_cases h : j < k
        · rw [if_pos h, if_pos (by omega)]
        · rw [if_neg h, if_neg (by omega)]
    · have hfam : FamR wr (w.heap.size + 1) (sortsL T x).length (fun j => .int .i64 ((sortsL T x).getD j 0)) := by
        rw [HSL.out]
        exact HF.out.eq_ fun j hj => by rw [if_pos (by omega)]
      have HN := Lib.hid (fam_nums hfam (by omega))
      clear hfam hfr
      have HC := HBX.out
      have c0 := (HB.out.cell (p := ⟨w.heap.size, 0, none⟩) (Nat.lt_succ_self _)).trans (HC 0)
      have c1 := (HB.out.cell (p := ⟨w.heap.size, 1, none⟩) (Nat.lt_succ_self _)).trans (HC 1)
      have c2 := (HB.out.cell (p := ⟨w.heap.size, 2, none⟩) (Nat.lt_succ_self _)).trans (HC 2)
      have c3 := (HB.out.cell (p := ⟨w.heap.size, 3, none⟩) (Nat.lt_succ_self _)).trans (HC 3)
      have c4 := (HB.out.cell (p := ⟨w.heap.size, 4, none⟩) (Nat.lt_succ_self _)).trans (HC 4)
      have c5 := (HB.out.cell (p := ⟨w.heap.size, 5, none⟩) (Nat.lt_succ_self _)).trans (HC 5)
      have c6 := (HB.out.cell (p := ⟨w.heap.size, 6, none⟩) (Nat.lt_succ_self _)).trans (HC 6)
      clear HC
      go_wp2_with fail
      refine (HOF.out wr).mono ?_; rintro e w2 ⟨v, rfl, hr, b2⟩
      obtain ⟨bp, pv, rfl, hbp, hcp, hpp⟩ := hr
      have HRL := Lib.hid (rule_any _ _ (partsK x.kind x.num) (sortsL T x) bp w2 hcp hpp (HN.out.below b2) (by rw [HSL.out]; omega) (parts_pos _ _) (parts_len _ _))
      have B2 := Lib.hid (thenB'R HBW.out (Nat.le_refl _) b2)
      clear hcp hpp b2
      rw [HSL.out] at HRL
      go_wp2_with fail
      refine HRL.out.mono ?_; rintro e w3 ⟨rfl, b3⟩
      have B3 := Lib.hid (thenB'R B2.out (Nat.le_refl _) b3)
      clear b3
      go_wp2_with fail
      go_ret
      exact ⟨rfl, B3.out⟩
end Go.Proofs.YtfpeecjafccfjaaGreatDoor
namespace Go.Proofs.YtfpeecjafccfjaaGreatDoor
open Go.RowKit
def keysR : List (List UInt8) := [[97, 110, 100], [98, 114, 101, 97, 107], [100, 111], [101, 108, 115, 101], [101, 108, 115, 101, 105, 102], [101, 110, 100], [102, 97, 108, 115, 101], [102, 111, 114], [102, 117, 110, 99, 116, 105, 111, 110], [103, 111, 116, 111], [105, 102], [105, 110], [108, 111, 99, 97, 108], [110, 105, 108], [110, 111, 116], [111, 114], [114, 101, 112, 101, 97, 116], [114, 101, 116, 117, 114, 110], [116, 104, 101, 110], [116, 114, 117, 101], [117, 110, 116, 105, 108], [119, 104, 105, 108, 101]]
def wordBR (l : List UInt8) : Bool := keysR.contains l
def ltBR (c : UInt8) : Bool := decide (97 ≤ c.toNat ∧ c.toNat ≤ 122) || decide (65 ≤ c.toNat ∧ c.toNat ≤ 90) || decide (c.toNat = 95)
def dgBR (c : UInt8) : Bool := decide (48 ≤ c.toNat ∧ c.toNat ≤ 57)
def nmBR (c : UInt8) : Bool := ltBR c || dgBR c
def firstB (l : List UInt8) : Bool := match l with | [] => false | c :: _ => dgBR c
def nameB (s : ByteArray) : Bool := decide (s.size ≠ 0) && decide (s.size ≤ 65536) && !firstB s.data.toList && !wordBR s.data.toList && s.data.toList.all nmBR
set_option maxHeartbeats 4000000 in
theorem word_anyR (s : ByteArray) (w : World) : Calls Tryz.prog 15 #[.string s] w fun e w' => e = .returned (.bool (wordBR s.data.toList)) ∧ w = w' := by
  rw [← Lib.toList_data]
  go_enter Tryz.func15, Tryz.ntmps15
  go_wp2_with fail
  all_goals first
    | (go_ret; rename_i ha hb; rw [ha] at hb; cases hb; done)
    | (go_ret; exact ⟨ret_boolR (by simp only [wordBR, keysR, List.contains_cons, List.contains_nil, Bool.or_false, Bool.true_or, Bool.or_true, *]), rfl⟩)
theorem letter_isR (c : UInt8) (w : World) : Calls Tryz.prog 97 #[.int .u8 (c.toNat : Int)] w fun e w' => e = .returned (.bool (ltBR c)) ∧ w = w' := by
  unfold ltBR
  have hc := c.toNat_lt
  generalize c.toNat = n at *
  go_enter Tryz.func97, Tryz.ntmps97
  go_wp2_with fail
  all_goals go_ret
  all_goals exact ⟨ret_boolR (by rw [Bool.eq_iff_iff]; simp; omega), rfl⟩
theorem digit_isR (c : UInt8) (w : World) : Calls Tryz.prog 96 #[.int .u8 (c.toNat : Int)] w fun e w' => e = .returned (.bool (dgBR c)) ∧ w = w' := by
  unfold dgBR
  have hc := c.toNat_lt
  generalize c.toNat = n at *
  go_enter Tryz.func96, Tryz.ntmps96
  go_wp2_with fail
  all_goals go_ret
  all_goals exact ⟨ret_boolR (by rw [Bool.eq_iff_iff]; simp; omega), rfl⟩
theorem all_drop {p : UInt8 → Bool} {l : List UInt8} {k : Nat} {c : UInt8} (h : l[k]? = some c) : (l.drop k).all p = (p c && (l.drop (k + 1)).all p) := by
  rw [drop_cons' h, List.all_cons]
theorem byte_at {s : ByteArray} {k : Nat} (h : k < s.size) : s.data.toList[k]? = some s[k] := by
  rw [Array.getElem?_toList]
  exact Array.getElem?_eq_getElem h
set_option maxHeartbeats 4000000 in
theorem name_anyR (s : ByteArray) (w : World) : Calls Tryz.prog 52 #[.string s] w fun e w' => e = .returned (.bool (nameB s)) ∧ w = w' := by
  by_cases h0 : s.size = 0
  · obtain rfl : s = ⟨#[]⟩ := by
      have : s.data = #[] := Array.eq_empty_of_size_eq_zero h0
      cases s; simp_all
    go_enter Tryz.func52, Tryz.ntmps52
    go_wp2_with fail
    go_ret
    exact ⟨rfl, rfl⟩
  · have h00 : 0 < s.size := by omega
    have hne : s.toList.isEmpty = false := by
      rw [Lib.toList_data]
      cases e : s.data.toList with
      | nil => exact absurd (by rw [Lib.size_eq, e]; rfl) h0
      | cons a t => rfl
    have hne2 : ¬ s.toList = [] := fun e => by rw [e] at hne; cases hne
    by_cases h1 : s.size ≤ 65536
    · have g1 : decide ((65536 : Int) < (s.size : Int)) = false := decide_eq_false (by omega)
      have hb0 := byte_at (s := s) (k := 0) (by omega)
      have hf : firstB s.data.toList = dgBR s[0] := by
        cases e : s.data.toList with
        | nil => rw [e] at hb0; simp at hb0
        | cons a t => rw [e] at hb0; obtain rfl := Option.some.inj hb0; rfl
      have hnb : nameB s = (!dgBR s[0] && !wordBR s.data.toList && s.data.toList.all nmBR) := by
        unfold nameB
        rw [hf, decide_eq_true (show s.size ≠ 0 from h0), decide_eq_true h1]
        rfl
      rw [hnb]
      have HW := Lib.hid (word_anyR s w)
      have HD := Lib.hid (digit_isR s[0] w)
      obtain ⟨D, hD⟩ : ∃ D, D = dgBR s[0] := ⟨_, rfl⟩
      obtain ⟨K, hK⟩ : ∃ K, K = wordBR s.data.toList := ⟨_, rfl⟩
      rw [← hD] at HD ⊢
      rw [← hK] at HW ⊢
      obtain ⟨AL, hAL⟩ : ∃ AL, AL = s.data.toList.all nmBR := ⟨_, rfl⟩
      rw [← hAL]
      have HAL := Lib.hid hAL
      clear hD hK hf hnb hb0 hAL
      cases D with
      | true =>
        go_enter Tryz.func52, Tryz.ntmps52
        go_wp2_with (go_at_call 96; refine HD.out.mono ?_; rintro e w' ⟨rfl, rfl⟩)
        go_ret
        exact ⟨rfl, rfl⟩
      | false =>
        cases K with
        | true =>
          go_enter Tryz.func52, Tryz.ntmps52
          go_wp2_with (first | (go_at_call 96; refine HD.out.mono ?_; rintro e w' ⟨rfl, rfl⟩) | (go_at_call 15; refine HW.out.mono ?_; rintro e w' ⟨rfl, rfl⟩))
          go_ret
          exact ⟨rfl, rfl⟩
        | false =>
          go_enter Tryz.func52, Tryz.ntmps52
          go_wp2_with (first | (go_at_call 96; refine HD.out.mono ?_; rintro e w' ⟨rfl, rfl⟩) | (go_at_call 15; refine HW.out.mono ?_; rintro e w' ⟨rfl, rfl⟩))
          clear HD HW
          go_loop [22] (fun i => ∃ k : Nat, k ≤ s.size ∧ i = .int .i64 (k : Int) ∧ (s.data.toList.drop k).all nmBR = AL) (fun i => s.size - (intOf i).toNat)
          case atStart => exact ⟨0, Nat.zero_le _, rfl, HAL.out.symm⟩
          case round =>
            obtain ⟨k, hk, rfl, ha⟩ := hrel
            have HA := Lib.hid ha
            clear ha
            by_cases hlt : k < s.size
            · have hst := all_drop (p := nmBR) (byte_at hlt)
              have HST := Lib.hid hst
              have HL := Lib.hid (letter_isR s[k] w)
              have HG := Lib.hid (digit_isR s[k] w)
              clear hst
              cases e1 : ltBR s[k] with
              | true =>
                have hn : nmBR s[k] = true := by unfold nmBR; rw [e1]; rfl
                rw [e1] at HL
                rw [hn, Bool.true_and] at HST
                clear e1 hn
                go_wp2_with (go_at_call 97; refine HL.out.mono ?_; rintro e w' ⟨rfl, rfl⟩)
                go_round
                case rel => exact ⟨k + 1, by omega, by go_num, by rw [← HST.out]; exact HA.out⟩
                case measure => simp [intOf]; omega
              | false =>
                rw [e1] at HL
                cases e2 : dgBR s[k] with
                | true =>
                  have hn : nmBR s[k] = true := by unfold nmBR; rw [e1, e2]; rfl
                  rw [e2] at HG
                  rw [hn, Bool.true_and] at HST
                  clear e1 e2 hn
                  go_wp2_with (first | (go_at_call 97; refine HL.out.mono ?_; rintro e w' ⟨rfl, rfl⟩) | (go_at_call 96; refine HG.out.mono ?_; rintro e w' ⟨rfl, rfl⟩))
                  go_round
                  case rel => exact ⟨k + 1, by omega, by go_num, by rw [← HST.out]; exact HA.out⟩
                  case measure => simp [intOf]; omega
                | false =>
                  have hn : nmBR s[k] = false := by unfold nmBR; rw [e1, e2]; rfl
                  rw [e2] at HG
                  rw [hn, Bool.false_and] at HST
                  clear e1 e2 hn
                  go_wp2_with (first | (go_at_call 97; refine HL.out.mono ?_; rintro e w' ⟨rfl, rfl⟩) | (go_at_call 96; refine HG.out.mono ?_; rintro e w' ⟨rfl, rfl⟩))
                  go_ret
                  exact ⟨ret_boolR (by rw [← HA.out, HST.out]; rfl), rfl⟩
            · have hd : (s.data.toList.drop k).all nmBR = true := by
                rw [List.drop_of_length_le (by rw [← Lib.size_eq]; omega)]; rfl
              have HD := Lib.hid hd
              clear hd
              go_wp2_with fail
              go_ret
              exact ⟨ret_boolR (by rw [← HA.out, HD.out]), rfl⟩
    · have g1 : decide ((65536 : Int) < (s.size : Int)) = true := decide_eq_true (by omega)
      have hnb : nameB s = false := by
        unfold nameB
        rw [decide_eq_false h1]; simp
      rw [hnb]
      clear hnb
      go_enter Tryz.func52, Tryz.ntmps52
      go_wp2_with fail
      go_ret
      exact ⟨rfl, rfl⟩
def fldK (k : Int) : Int :=
  if k = 12 ∨ k = 13 then 1 else if k = 4 ∨ k = 20 then 2 else if k = 11 ∨ k = 27 then 10 else if k = 19 ∨ k = 26 ∨ k = 28 then 8 else if k = 7 ∨ k = 10 ∨ k = 31 ∨ k = 32 then 20 else if k = 5 then 4 else 0
theorem or_1 : bits .or .i64 2 8 = 10 := by kernel_rfl
theorem or_2 : bits .or .i64 0 8 = 8 := by kernel_rfl
theorem or_3 : bits .or .i64 16 4 = 20 := by kernel_rfl
theorem or_4 : bits .or .i64 0 4 = 4 := by kernel_rfl
set_option maxHeartbeats 2000000 in
theorem fieldsOf_any (k : Int) (w : World) : Calls Tryz.prog 50 #[.int .i64 k] w fun e w' => e = .returned (.int .i64 (fldK k)) ∧ w = w' := by
  go_enter Tryz.func50, Tryz.ntmps50
  go_wp2_with fail
  all_goals
    go_ret
    refine ⟨ret_i64R ?_, rfl⟩
    simp only [fldK]
    simp_all [or_1, or_2, or_3, or_4]
    try omega
end Go.Proofs.YtfpeecjafccfjaaGreatDoor
namespace Go.Proofs.YtfpeecjafccfjaaGreatDoor
open Go.RowKit
def opK (k op : Int) : Bool := if k = 12 then decide (1 ≤ op) && decide (op ≤ 19) else if k = 13 then decide (20 ≤ op) && decide (op ≤ 23) else true
def countK (k n : Int) : Bool := if k = 11 then n == 0 || n == 1 else if k = 20 ∨ k = 27 then decide (1 ≤ n) else true
def namesK (k : Int) (n : Nat) : Bool := if k = 19 ∨ k = 27 then decide (1 ≤ n) else if k = 26 ∨ k = 28 then decide (n = 1) else true
def giv4 (a b c d : Bool) : Int :=
  let x := if a then bits .or .i64 0 1 else 0
  let y := if b then bits .or .i64 x 2 else x
  let z := if c then bits .or .i64 y 4 else y
  if d then bits .or .i64 z 8 else z
def givK (x : Nd) : Int := giv4 (x.op != 0) (x.num != 0) (!x.s.toList.isEmpty) (decide (0 < x.names.length))
set_option maxHeartbeats 2000000 in
theorem opR_any (x : Nd) (A B : Option Addr) (a c b d : Nat) (w : World) : Calls Tryz.prog 53 #[nodeV x (.slice A a c) (.slice B b d)] w fun e w' => e = .returned (.bool (opK x.kind x.op)) ∧ Below w.heap.size w w' := by
  obtain ⟨kind, line, op, num, s, names, kids⟩ := x
  unfold nodeV
  simp only
  go_enter Tryz.func53, Tryz.ntmps53
  go_wp2_with fail
  all_goals
    go_ret
    refine ⟨ret_boolR ?_, b_alloc w _⟩
    simp only [opK]
    simp_all
    try omega
set_option maxHeartbeats 2000000 in
theorem countR_any (x : Nd) (A B : Option Addr) (a c b d : Nat) (w : World) : Calls Tryz.prog 54 #[nodeV x (.slice A a c) (.slice B b d)] w fun e w' => e = .returned (.bool (countK x.kind x.num)) ∧ Below w.heap.size w w' := by
  obtain ⟨kind, line, op, num, s, names, kids⟩ := x
  unfold nodeV
  simp only
  go_enter Tryz.func54, Tryz.ntmps54
  go_wp2_with fail
  all_goals
    go_ret
    refine ⟨ret_boolR ?_, b_alloc w _⟩
    simp only [countK]
    simp_all
    try omega
set_option maxHeartbeats 2000000 in
theorem namesR_any (x : Nd) (A B : Option Addr) (c b d : Nat) (w : World) : Calls Tryz.prog 55 #[nodeV x (.slice A x.names.length c) (.slice B b d)] w fun e w' => e = .returned (.bool (namesK x.kind x.names.length)) ∧ Below w.heap.size w w' := by
  obtain ⟨kind, line, op, num, s, names, kids⟩ := x
  unfold nodeV
  simp only
  generalize names.length = a
  go_enter Tryz.func55, Tryz.ntmps55
  go_wp2_with fail
  all_goals
    go_ret
    refine ⟨ret_boolR ?_, b_alloc w _⟩
    simp only [namesK]
    first
      | (simp_all; done)
      | (simp_all; omega)
      | (simp_all; rw [Bool.eq_iff_iff]; simp; omega)
set_option maxHeartbeats 4000000 in
theorem given_any (x : Nd) (A B : Option Addr) (c b d : Nat) (w : World) : Calls Tryz.prog 51 #[nodeV x (.slice A x.names.length c) (.slice B b d)] w fun e w' => e = .returned (.int .i64 (givK x)) ∧ Below w.heap.size w w' := by
  obtain ⟨kind, line, op, num, s, names, kids⟩ := x
  unfold nodeV
  unfold givK
  simp only
  generalize names.length = a
  cases e1 : (op != 0) <;> cases e2 : (num != 0) <;> cases e3 : s.toList.isEmpty <;> by_cases e4 : 0 < a
  all_goals
    first
      | rw [decide_eq_true e4]
      | rw [decide_eq_false e4]
    simp only [giv4, Bool.not_true, Bool.not_false, if_true, Bool.false_eq_true, if_false]
    go_enter Tryz.func51, Tryz.ntmps51
    go_wp2_with fail
    go_ret
    exact ⟨rfl, b_alloc w _⟩
end Go.Proofs.YtfpeecjafccfjaaGreatDoor
namespace Go.Proofs.YtfpeecjafccfjaaGreatDoor
open Go.RowKit
def fieldsK (x : Nd) : Bool :=
  !(bits .andNot .i64 (givK x) (fldK x.kind) != 0) && (!(bits .and .i64 (fldK x.kind) 16 != 0) || nameB x.s) && x.names.all nameB && (opK x.kind x.op && countK x.kind x.num && namesK x.kind x.names.length)
theorem all_drop' {α : Type} {p : α → Bool} {l : List α} {k : Nat} {c : α} (h : l[k]? = some c) : (l.drop k).all p = (p c && (l.drop (k + 1)).all p) := by
  rw [drop_cons' h, List.all_cons]
theorem box_cells {w w' : World} {B : Nat} {x : Nd} {nv kv : Value} (hB : w.heap.size < B) (hb : Below B (w.alloc (.cells #[.int .i64 x.kind, .int .i64 x.line, .int .i64 x.op, .int .i64 x.num, .string x.s, nv, kv] 35)) w') : NodeAt w' w.heap.size 0 x nv kv := by
  have h : ∀ j : Nat, w'.cell? ⟨w.heap.size, j, none⟩ = (#[.int .i64 x.kind, .int .i64 x.line, .int .i64 x.op, .int .i64 x.num, .string x.s, nv, kv] : Array Value)[j]? := fun j => (hb.cell (p := ⟨w.heap.size, j, none⟩) hB).trans (acell w _ _ _)
  exact ⟨h 0, h 1, h 2, h 3, h 4, h 5, h 6⟩
set_option maxHeartbeats 4000000 in
set_option maxRecDepth 20000 in
theorem fields_any (x : Nd) (nv kv : Value) (w : World) (hnv : StrsR w nv x.names) (hkv : ∃ A n c, kv = .slice A n c) (hl : x.names.length ≤ 140737488355328) :
    Calls Tryz.prog 24 #[nodeV x nv kv] w fun e w' => e = .returned (.bool (fieldsK x)) ∧ Below w.heap.size w w' := by
  have HS := Lib.hid hnv
  obtain ⟨NA, nc, rfl, _, hna⟩ := hnv
  obtain ⟨KA, kn, kc, rfl⟩ := hkv
  have HNA := Lib.hid hna
  clear hna
  obtain ⟨F, hF⟩ : ∃ F, F = fldK x.kind := ⟨_, rfl⟩
  obtain ⟨G, hG⟩ : ∃ G, G = givK x := ⟨_, rfl⟩
  obtain ⟨O, hO⟩ : ∃ O, O = opK x.kind x.op := ⟨_, rfl⟩
  obtain ⟨C, hC⟩ : ∃ C, C = countK x.kind x.num := ⟨_, rfl⟩
  obtain ⟨M, hM⟩ : ∃ M, M = namesK x.kind x.names.length := ⟨_, rfl⟩
  obtain ⟨S, hS⟩ : ∃ S, S = nameB x.s := ⟨_, rfl⟩
  obtain ⟨AL, hAL⟩ : ∃ AL, AL = x.names.all nameB := ⟨_, rfl⟩
  have HFo := Lib.hid (fun W => hF ▸ fieldsOf_any x.kind W)
  have HGi := Lib.hid (fun W => hG ▸ given_any x NA KA nc kn kc W)
  have HOp := Lib.hid (fun W => hO ▸ opR_any x NA KA x.names.length nc kn kc W)
  have HCo := Lib.hid (fun W => hC ▸ countR_any x NA KA x.names.length nc kn kc W)
  have HNm := Lib.hid (fun W => hM ▸ namesR_any x NA KA nc kn kc W)
  have HSn := Lib.hid (fun W => hS ▸ name_anyR x.s W)
  have hfk : fieldsK x = (!(bits .andNot .i64 G F != 0) && (!(bits .and .i64 F 16 != 0) || S) && AL && (O && C && M)) := by
    unfold fieldsK; rw [hF, hG, hO, hC, hM, hS, hAL]
  rw [hfk]
  have HAL := Lib.hid hAL
  clear hF hG hO hC hM hS hAL hfk
  unfold nodeV at HGi HOp HCo HNm ⊢
  have HBX := Lib.hid (fun W (h : Below (w.heap.size + 1) (w.alloc (.cells #[.int .i64 x.kind, .int .i64 x.line, .int .i64 x.op, .int .i64 x.num, .string x.s, .slice NA x.names.length nc, .slice KA kn kc] 35)) W) => box_cells (Nat.lt_succ_self _) h)
  have B0 := Lib.hid (b_alloc w (.cells #[.int .i64 x.kind, .int .i64 x.line, .int .i64 x.op, .int .i64 x.num, .string x.s, .slice NA x.names.length nc, .slice KA kn kc] 35))
  cases e1 : (bits .andNot .i64 G F != 0) with
  | true =>
    go_enter Tryz.func24, Tryz.ntmps24
    go_wp2_with (go_at_call 50; refine (HFo.out _).mono ?_; rintro e w' ⟨rfl, rfl⟩)
    refine (HGi.out _).mono ?_; rintro e w1 ⟨rfl, b1⟩
    rw [asize] at b1
    have B1 := Lib.hid (B0.out.trans (b1.mono (Nat.le_succ _)))
    obtain ⟨c0, c1, c2, c3, c4, c5, c6⟩ := HBX.out _ b1
    clear b1
    go_wp2_with fail
    go_ret
    exact ⟨rfl, B1.out⟩
  | false =>
    have key : ((bits .and .i64 F 16 != 0) = true ∧ S = false) ∨ ((bits .and .i64 F 16 != 0) = true ∧ S = true) ∨ (bits .and .i64 F 16 != 0) = false := by
      cases (bits .and .i64 F 16 != 0) <;> cases S <;> simp
    rcases key with ⟨e2, rfl⟩ | hh
    · rw [e2]
      go_enter Tryz.func24, Tryz.ntmps24
      go_wp2_with (go_at_call 50; refine (HFo.out _).mono ?_; rintro e w' ⟨rfl, rfl⟩)
      refine (HGi.out _).mono ?_; rintro e w1 ⟨rfl, b1⟩
      rw [asize] at b1
      have B1 := Lib.hid (B0.out.trans (b1.mono (Nat.le_succ _)))
      obtain ⟨c0, c1, c2, c3, c4, c5, c6⟩ := HBX.out _ b1
      clear b1
      go_wp2_with (go_at_call 52; refine (HSn.out _).mono ?_; rintro e w' ⟨rfl, rfl⟩)
      go_ret
      exact ⟨rfl, B1.out⟩
    · have hval : (!(bits .and .i64 F 16 != 0) || S) = true := by
        rcases hh with ⟨h1, rfl⟩ | h1 <;> rw [h1] <;> simp
      rw [hval]
      clear hval
      simp only [Bool.not_false, Bool.true_and]
      rcases hh with ⟨e2, rfl⟩ | e2
      all_goals
        go_enter Tryz.func24, Tryz.ntmps24
        go_wp2_with (go_at_call 50; refine (HFo.out _).mono ?_; rintro e w' ⟨rfl, rfl⟩)
        refine (HGi.out _).mono ?_; rintro e w1 ⟨rfl, b1⟩
        rw [asize] at b1
        have BW := Lib.hid b1
        have B1 := Lib.hid (B0.out.trans (b1.mono (Nat.le_succ _)))
        have hsz1 := b1.size
        rw [asize] at hsz1
        obtain ⟨c0, c1, c2, c3, c4, c5, c6⟩ := HBX.out _ b1
        clear b1
        go_wp2_with (go_at_call 52; refine (HSn.out _).mono ?_; rintro e w' ⟨rfl, rfl⟩)
        clear c0 c1 c2 c3 c4 c5 c6
        go_loop [28] (fun i => ∃ k : Nat, k ≤ x.names.length ∧ i = .int .i64 (k : Int) ∧ (x.names.drop k).all nameB = AL) (fun i => x.names.length - (intOf i).toNat)
        case atStart => exact ⟨0, Nat.zero_le _, rfl, HAL.out.symm⟩
        case round =>
          obtain ⟨k, hk, rfl, ha⟩ := hrel
          have HA := Lib.hid ha
          clear ha
          by_cases hlt : k < x.names.length
          · obtain ⟨y, hy⟩ : ∃ y, x.names[k]? = some y := ⟨x.names[k], List.getElem?_eq_getElem hlt⟩
            rcases HNA.out with h0 | ⟨b2, o2, rfl, hb2, hc2⟩
            · rw [h0] at hlt; exact absurd hlt (Nat.not_lt_zero _)
            have ck := (B1.out.cell (p := ⟨b2, o2 + k, none⟩) hb2).trans (hc2 k _ hy)
            have HST := Lib.hid (all_drop' (p := nameB) hy)
            have HN := Lib.hid (name_anyR y w1)
            cases hb : nameB y with
            | true =>
              rw [hb] at HN HST
              rw [Bool.true_and] at HST
              clear hc2 hy hb
              go_wp2_with (go_at_call 52; refine HN.out.mono ?_; rintro e w' ⟨rfl, rfl⟩)
              go_round
              case rel => exact ⟨k + 1, by omega, by go_num, by rw [← HST.out]; exact HA.out⟩
              case measure => simp [intOf]; omega
            | false =>
              rw [hb] at HN HST
              rw [Bool.false_and] at HST
              clear hc2 hy hb
              go_wp2_with (go_at_call 52; refine HN.out.mono ?_; rintro e w' ⟨rfl, rfl⟩)
              go_ret
              exact ⟨ret_boolR (by rw [← HA.out, HST.out]; rfl), B1.out⟩
          · have hd : (x.names.drop k).all nameB = true := by
              rw [List.drop_of_length_le (by omega)]; rfl
            have hal : AL = true := by rw [← HA.out, hd]
            subst hal
            clear hd
            obtain ⟨c0, c1, c2, c3, c4, c5, c6⟩ := HBX.out _ BW.out
            go_wp2_with fail
            refine (HOp.out _).mono ?_; rintro e w2 ⟨rfl, b2⟩
            have HW2 := Lib.hid (thenB'R BW.out (by rw [asize]; exact Nat.le_refl _) b2)
            have B2 := Lib.hid (thenB'R B1.out (Nat.le_refl _) b2)
            clear c0 c1 c2 c3 c4 c5 c6 b2
            cases O with
            | false =>
              go_wp2_with fail
              go_ret
              exact ⟨rfl, B2.out⟩
            | true =>
              obtain ⟨c0, c1, c2, c3, c4, c5, c6⟩ := HBX.out _ HW2.out
              go_wp2_with fail
              refine (HCo.out _).mono ?_; rintro e w3 ⟨rfl, b3⟩
              have HW3 := Lib.hid (thenB'R HW2.out (by rw [asize]; exact Nat.le_refl _) b3)
              have B3 := Lib.hid (thenB'R B2.out (Nat.le_refl _) b3)
              clear c0 c1 c2 c3 c4 c5 c6 b3
              cases C with
              | false =>
                go_wp2_with fail
                go_ret
                exact ⟨rfl, B3.out⟩
              | true =>
                obtain ⟨c0, c1, c2, c3, c4, c5, c6⟩ := HBX.out _ HW3.out
                go_wp2_with fail
                refine (HNm.out _).mono ?_; rintro e w4 ⟨rfl, b4⟩
                have B4 := Lib.hid (thenB'R B3.out (Nat.le_refl _) b4)
                clear c0 c1 c2 c3 c4 c5 c6 b4
                go_wp2_with fail
                go_ret
                exact ⟨by simp, B4.out⟩
end Go.Proofs.YtfpeecjafccfjaaGreatDoor
