/- Parts of the proof. -/
import Derived.Lib.OthersKept
import Derived.Lib.OwnKind
import Derived.Deep.RegionLaw
import Derived.Maps.Own
import Derived.Maps.OwnSet
import Derived.StringKeys
import Derived.Test.YteflkdlaoiijbaaGreatDoorB09
set_option maxHeartbeats 16000000
set_option maxRecDepth 20000
namespace Go.Proofs.YteflkdlaoiijbaaGreatDoor
open Go.RowKit
def Kr (ty:TypeId) (W W':World):Prop:=W.heap.size≤W'.heap.size∧∀(k:Nat) c e fz,W.heap[k]? = some (.cells c e fz)→e≠ty→W'.heap[k]? = some (.cells c e fz)
theorem Kr.set {ty:TypeId} {W:World} {g:Nat} {cs:Array Value} {fz:Nat×Nat} (h:W.heap[g]? = some (.cells cs ty fz)) (j:Nat) (v:Value):Kr ty W (W.setCell ⟨g,j,none⟩ v) :=
 ⟨by simp[World.setCell],fun k c e f hk he=>(Below.heap_setCell W ⟨g,j,none⟩ v k (fun(e':k=g)=>by
  subst e';rw[h] at hk;injection hk with hk;injection hk with _ hk;exact he hk.symm)).trans hk⟩
theorem cS {W W':World} {B e s n:Nat} {ty:TypeId} {v:Value} {xs:List Value} (h:W.ownsRow B e s v n xs) (ho:Kr ty W W') (he:e≠ty):W'.ownsRow B e s v n xs:=by
 refine⟨h.1,?_⟩;rcases h.2 with hn | ⟨g,cap,cur,rfl,hB,hg,rest⟩
 ·exact .inl hn
 ·exact .inr ⟨g,cap,cur,rfl,hB,ho.2 g _ _ _ hg he,rest⟩
def ti (v:lq):List Value:=[.string v.name,.int .i64 (v.node:Int),.bool v.cap]
def Gf (u:sQ):List Value:=[.bool u.loc,.int .i64 (u.idx:Int)]
abbrev mP:=cR×Value×Value
def OS (t:mP):List Value:=[.int .i64 (t.1.node:Int),.int .i64 t.1.parent,.int .i64 (t.1.params:Int),.bool t.1.many,t.2.1,t.2.2]
def fG (W:World) (B:Nat) (ty:TypeId) (s b n:Nat) (f:Nat→Value):Prop:=W.ownsRow B ty s (.slice (some ⟨b,0,none⟩) n n) n ((List.range (n*s)).map f)
def wm (u:Nat→Int×Int):Nat→Value:=fun j=>if j % 2=0 then .int .i64 (u (j / 2)).1 else .int .i64 (u (j / 2)).2
def Ro (o:Nat→Int):Nat→Value:=fun j=>.int .i64 (o j)
def BB (W:World) (B:Nat) (v:Value) (xs:List ByteArray):Prop :=
 ∃A c,v=.slice A xs.length c∧xs.length≤c∧(xs=[]∨∃bk o,A=some ⟨bk,o,none⟩∧bk<B∧∀(j:Nat) x,xs[j]? = some x→W.cell? ⟨bk,o+j,none⟩=some (.string x))
def gM (W:World) (B:Nat) (v:Value) (xs:List Int):Prop :=
 ∃A c,v=.slice A xs.length c∧xs.length≤c∧(xs=[]∨∃bk o,A=some ⟨bk,o,none⟩∧bk<B∧∀(j:Nat) x,xs[j]? = some x→W.cell? ⟨bk,o+j,none⟩=some (.int .i64 x))
theorem BB.below {W W':World} {B:Nat} {v:Value} {xs:List ByteArray} (h:BB W B v xs) (hb:Below B W W'):BB W' B v xs:=by
 obtain⟨A,c,e,hc,h | ⟨bk,o,e2,hk,hx⟩⟩:=h
 ·exact⟨A,c,e,hc,.inl h⟩
 ·exact⟨A,c,e,hc,.inr ⟨bk,o,e2,hk,fun j x hj=>(hb.cell (p:=⟨bk,o+j,none⟩) hk).trans (hx j x hj)⟩⟩
theorem gM.below {W W':World} {B:Nat} {v:Value} {xs:List Int} (h:gM W B v xs) (hb:Below B W W'):gM W' B v xs:=by
 obtain⟨A,c,e,hc,h | ⟨bk,o,e2,hk,hx⟩⟩:=h
 ·exact⟨A,c,e,hc,.inl h⟩
 ·exact⟨A,c,e,hc,.inr ⟨bk,o,e2,hk,fun j x hj=>(hb.cell (p:=⟨bk,o+j,none⟩) hk).trans (hx j x hj)⟩⟩
structure wo (W:World) (B:Nat) (nv:Value) (T:List Nd):Prop where
 ex :∃W0 bk o c,nv=.slice (some ⟨bk,o,none⟩) T.length c∧bk<B∧W0.heap.size=B∧tC W0 bk o T∧Below B W0 W
 few:T.length≤20000
 small :∀x∈T,x.kids.length≤20000∧x.names.length≤20000
theorem wo.nodes {W:World} {B:Nat} {nv:Value} {T:List Nd} (h:wo W B nv T) :∃bk o c,nv=.slice (some ⟨bk,o,none⟩) T.length c∧bk<B∧B≤W.heap.size∧∀(i:Nat) x,T[i]? = some x→∃nv kv,lV W bk (o+i*7) x nv kv∧BB W B nv x.names∧gM W B kv x.kids:=by
 obtain⟨W0,bk,o,c,e,hb,hs,hn,hbl⟩:=h.ex;refine⟨bk,o,c,e,hb,by have:=hbl.size;omega,fun i x hx=>?_⟩
 obtain⟨nv,kv,h1,⟨A,c1,e1,hc1,h2⟩,⟨A',c2,e2,hc2,h3⟩⟩:=hn i x hx;refine⟨nv,kv,h1.below hbl hb,BB.below (B:=B) ⟨A,c1,e1,hc1,?_⟩ hbl,gM.below (B:=B) ⟨A',c2,e2,hc2,?_⟩ hbl⟩
 ·rcases h2 with h2 | ⟨x1,x2,x3,x4,x5⟩
  ·exact .inl h2
  ·exact .inr ⟨x1,x2,x3,by omega,x5⟩
 ·rcases h3 with h3 | ⟨x1,x2,x3,x4,x5⟩
  ·exact .inl h3
  ·exact .inr ⟨x1,x2,x3,by omega,x5⟩
theorem wo.below {W W':World} {B:Nat} {nv:Value} {T:List Nd} (h:wo W B nv T) (hb:Below B W W'):wo W' B nv T:=by
 obtain⟨W0,bk,o,c,e,h1,hs,hn,hbl⟩:=h.ex;exact⟨⟨W0,bk,o,c,e,h1,hs,hn,hbl.trans hb⟩,h.few,h.small⟩
theorem da {W:World} {B:Nat} {ty:TypeId} {s b n:Nat} {f:Nat→Value} (h:fG W B ty s b n f) {j:Nat} (hj:j<n*s):W.cell? ⟨b,j,none⟩=some (f j)∧W.frozen? ⟨b,j,none⟩=false:=by
 refine⟨?_,World.ownsRow.frozenAt h j⟩;rw[World.ownsRow.cellAt h j hj,gE,KP hj];rfl
theorem Gg {W:World} {B:Nat} {ty:TypeId} {s b n:Nat} {f g:Nat→Value} (h:fG W B ty s b n f) (he :∀j,j<n*s→f j=g j):fG W B ty s b n g:=by
 unfold fG at h ⊢;rw[show(List.range (n*s)).map g=(List.range (n*s)).map f from List.map_congr_left fun j hj=>(he j (EO.1 hj)).symm]
 exact h
theorem qC {W:World} {B:Nat} {ty:TypeId} {s b n:Nat} {f:Nat→Value} (h:fG W B ty s b n f) (j:Nat) (v:Value):fG (W.setCell ⟨b,j,none⟩ v) B ty s b n (fun i=>if i=j then v else f i):=by
 have h1:=(World.ownsRow.stored h j v).1;unfold fG;rw[show(List.range (n*s)).map (fun i=>if i=j then v else f i)=((List.range (n*s)).map f).set j v from ?_]
 ·exact h1
 ·refine KY fun i=>?_
  rw[gE,List.getElem?_set];by_cases hi:j=i
  ·subst hi
   rw[ak rfl,dm,List.length_range];by_cases hl:j<n*s
   ·rw[ak hl,KP hl];simp
   ·rw[af hl,wH (by simpa using hl)];rfl
  ·rw[af hi,gE]
   by_cases hl:i<n*s
   ·rw[KP hl]
    simp only[fK];rw[af fun e=>hi e.symm]
   ·rw[wH (by simpa using hl)];rfl
theorem lA {W:World} {B:Nat} {ty:TypeId} {s b n:Nat} {f:Nat→Value} (h:fG W B ty s b n f) :∃cs,W.heap[b]? = some (.cells cs ty (0,0)):=by
 rcases h.2 with ⟨e,_⟩ | ⟨g,cap,cur,e,_,hg,_⟩
 ·cases e
 ·injection e with e
  injection e with e;injection e with e _;subst e;exact⟨cur,hg⟩
theorem OT {W:World} {B b n:Nat} {ty:TypeId} {u:Nat→Int×Int} (h:fG W B ty 2 b n (wm u)) (i:Nat) (x:Int×Int) :
  fG ((W.setCell ⟨b,i*2,none⟩ (.int .i64 x.1)).setCell ⟨b,i*2+1,none⟩ (.int .i64 x.2)) B ty 2 b n (wm fun j=>if j=i then x else u j):=by
 refine Gg (qC (qC h (i*2) (.int .i64 x.1)) (i*2+1) (.int .i64 x.2)) fun j _=>?_
 unfold wm;by_cases h1:j=i*2+1
 ·subst h1
  rw[ak rfl,af (by omega)]
  dsimp only
  rw[ak (by omega)]
 ·rw[af h1]
  by_cases h2:j=i*2
  ·subst h2
   rw[ak rfl,ak (by omega)]
   dsimp only
   rw[ak (by omega)]
  ·rw[af h2]
   by_cases h3:j % 2=0
   ·rw[ak h3,ak h3]
    dsimp only
    rw[af (by omega)]
   ·rw[af h3,af h3]
    dsimp only
    rw[af (by omega)]
theorem Zt {W:World} {B b n:Nat} {ty:TypeId} {o:Nat→Int} (h:fG W B ty 1 b n (Ro o)) (i:Nat) (x:Int):fG (W.setCell ⟨b,i,none⟩ (.int .i64 x)) B ty 1 b n (Ro fun j=>if j=i then x else o j):=by
 refine Gg (qC h i (.int .i64 x)) fun j _=>?_
 unfold Ro;by_cases h1:j=i
 ·rw[ak h1]
  dsimp only
  rw[ak h1]
 ·rw[af h1]
  dsimp only
  rw[af h1]
theorem lB {W W':World} {B:Nat} {ty ty':TypeId} {s g n:Nat} {f:Nat→Value} (h:fG W B ty s g n f) (ho:Kr ty' W W') (he:ty≠ty'):fG W' B ty s g n f:=cS h ho he
theorem fU {α:Type} {f:α→List Value} {s:Nat} (hs :∀a,(f a).length=s) :∀(l:List α) (i j:Nat) (a:α),l[i]? = some a→j<s→(l.flatMap f)[i*s+j]? = (f a)[j]?
 | [],i,j,a,h,_=>by simp at h
 | x::l,0,j,a,h,hj=>by
  injection h with h;subst h;rw[jd,Nat.zero_mul,jB,kS (by rw[hs];exact hj)]
 | x::l,i+1,j,a,h,hj=>by
  rw[jd,zM (by rw[hs,EU];omega),hs,show(i+1)*s+j-s=i*s+j by rw[EU];omega]
  exact fU hs l i j a h hj
theorem qD (x:mP):(OS x).length=6:=rfl
theorem qE (x:lq):(ti x).length=3:=rfl
theorem Gh (x:sQ):(Gf x).length=2:=rfl
theorem vm {T:List Nd} {ks:List Lt} (mH:Lt.u9 T ks) {k:Nat} {x:Lt} (hx:ks[k]? = some x):Lt.In T x∧T[x.loc]? = some x.hd:=by
 have h:=Ga mH x (ba hx);exact⟨h,(D0 h).2.1⟩
theorem ab {W:World} {g:Nat} {cs:Array Value} {ty:TypeId} (h:W.heap[g]? = some (.cells cs ty (0,0))) (j:Nat):W.cell? ⟨g,j,none⟩=cs[j]?:=cell_of_row W g j cs ty (0,0) h
theorem aw {W:World} {g:Nat} {cs:Array Value} {ty:TypeId} (h:W.heap[g]? = some (.cells cs ty (0,0))) (j:Nat):W.frozen? ⟨g,j,none⟩=false:=frozen_of_row W g j cs ty h
theorem bn {W:World} {g:Nat} {cs:Array Value} {ty:TypeId} (h:W.heap[g]? = some (.cells cs ty (0,0))) (j:Nat) (v:Value):(W.setCell ⟨g,j,none⟩ v).heap[g]? = some (.cells (cs.setIfInBounds j v) ty (0,0)):=by
 simp[World.setCell,Array.getElem?_modify,h]
theorem dy {W:World} {B e s n:Nat} {v:Value} {xs:List Value} (h:W.ownsRow B e s v n xs) :∃A c,v=.slice A n c∧n≤c∧(n=0∨∃g,A=some ⟨g,0,none⟩∧B≤g∧g<W.heap.size∧∀j,j<n*s→W.cell? ⟨g,j,none⟩=xs[j]?):=by
 rcases h.2 with ⟨rfl,h0⟩ | ⟨g,cap,cur,rfl,hB,hg,hn,hc,hs,ht⟩
 ·exact⟨none,0,by rw[h0],by omega,.inl h0⟩
 ·exact⟨_,cap,rfl,hn,.inr ⟨g,rfl,hB,(aJ.1 hg).1,fun j hj=>World.ownsRow.cellAt h j hj⟩⟩
def re (o:Option Nat) (W W':World):Prop:=W.heap.size≤W'.heap.size∧∀k,k<W.heap.size→o≠some k→W'.heap[k]? = W.heap[k]?
theorem re.set (W:World) (g j:Nat) (v:Value):re (some g) W (W.setCell ⟨g,j,none⟩ v):=⟨by simp[World.setCell],fun k _ hn=>Below.heap_setCell W ⟨g,j,none⟩ v k fun e=>hn (by rw[e])⟩
theorem re.row {W W':World} {o:Option Nat} {B e s n:Nat} {v:Value} {xs:List Value} (hb:re o W W') (h:W.ownsRow B e s v n xs) (hd :∀g,v.ownBlock=some g→o≠some g):W'.ownsRow B e s v n xs:=by
 refine⟨h.1,?_⟩;rcases h.2 with hn | ⟨g,cap,cur,rfl,hB,hg,rest⟩
 ·exact .inl hn
 ·exact .inr ⟨g,cap,cur,rfl,hB,(hb.2 g (aJ.1 hg).1 (hd g rfl)).trans hg,rest⟩
theorem eh {W:World} {B B' e e' s s' n n':Nat} {v v':Value} {xs xs':List Value} (h:W.ownsRow B e s v n xs) (h':W.ownsRow B' e' s' v' n' xs') (he:e≠e') :∀g,v.ownBlock=some g→v'.ownBlock≠some g:=fun g hg vT=>by
 obtain⟨c,fz,h1⟩:=Lib.ownsRow_kind h g hg;obtain⟨c',Zu,h2⟩:=Lib.ownsRow_kind h' g vT;rw[h1] at h2;injection h2 with h2;injection h2 with _ h2;exact he h2
theorem qF {α:Type} {f:α→List Value} {s:Nat} (hs :∀a,(f a).length=s) :∀(l:List α) (i j:Nat) (a b:α) (v:Value),l[i]? = some a→j<s→f b=(f a).set j v→(l.set i b).flatMap f=(l.flatMap f).set (i*s+j) v
 | [],i,j,a,b,v,h,_,_=>by simp at h
 | x::l,0,j,a,b,v,h,hj,hb=>by
  injection h with h;subst h;rw[dH,jd,jd,Nat.zero_mul,jB,hb,List.set_append_left _ _ (by rw[hs];exact hj)]
 | x::l,i+1,j,a,b,v,h,hj,hb=>by
  rw[dI,jd,jd,List.set_append_right _ _ (by rw[hs,EU];omega),qF hs l i j a b v h hj hb,hs,show(i+1)*s+j-s=i*s+j by rw[EU];omega]
theorem re.Zv {W W1:World} {o:Option Nat} {ty:TypeId} (h:re o W W1) (hk :∀k,o=some k→∃c fz,W.heap[k]? = some (.cells c ty fz)):Kr ty W W1 :=
 ⟨h.1,fun k c e fz hc he=>(h.2 k (aJ.1 hc).1 fun ek=>by
  obtain⟨c',Zu,h1⟩:=hk k ek;rw[hc] at h1;injection h1 with h1;injection h1 with _ h1;exact he h1).trans hc⟩
theorem re.cS {W W1:World} {B ty s n:Nat} {v:Value} {xs:List Value} (hr:W.ownsRow B ty s v n xs) (h:re v.ownBlock W W1):Kr ty W W1:=h.Zv fun k hk=>Lib.ownsRow_kind hr k hk
theorem nY {L:List mP} {f:Nat} {x:mP}:(L.set f x).map (·.1)=(L.map (·.1)).set f x.1:=by rw[List.map_set]
theorem BC {ops:Array Oper} {o:Oper} {a:Act} {K:Act→World→Prop} {Q:Exit→Act→World→Prop} {E:Prop} (w0 w1:World) (cs:List Value) (hgd:o.guard=none) (sl y:Operand) (tS ty:TypeId) (i0:TypeInfo) (z:Value) (s bytes:Nat)
  (ho:o.op=.call { callee:=.builtin .append,args:=#[sl,y],argTypes:=#[tS,tS]}) (ht:Tryz.prog.underlying tS=some (.slice ty)) (hi:Tryz.prog.info? ty=some i0) (hz:i0.zero=some z) (hsz:i0.size=s) (hby:i0.bytes=bytes) (hzs:z.cells.size=s) (hs0:0<s) (OU:bytes≤100)
  (B:Nat) (v:Value) (n:Nat) (xs:List Value) (hs:a.eval sl=v) (hown:w0.ownsRow B ty s v n xs) (dZ :∀(i:Nat),i<w0.heap.size→w1.heap[i]? = w0.heap[i]?) (g:Nat) (hg:g=w0.heap.size) (hy:a.eval y=.slice (some ⟨g,0,none⟩) 1 1)
  (hcell:w1.heap[g]? = some (.cells cs.toArray ty (0,0))) (CJ:cs.length=s) (h1c :∀u∈cs,u.oneCell'=true) (hlen:n≤1000000) (hB:B≤w0.heap.size) (hle:w0.heap.size≤w1.heap.size) (Zw:w1.os=w0.os∧w1.tape=w0.tape∧w1.output=w0.output)
  (h :∀g' c' w',w'.ownsRow B ty s (.slice (some ⟨g',0,none⟩) (n+1) c') (n+1) (xs++cs)→re v.ownBlock w0 w'→Below B w0 w'→(v.ownBlock=some g'∨w0.heap.size≤g')→K (a.put o.dst (.slice (some ⟨g',0,none⟩) (n+1) c')) w') :
  if Region.wanted o (yielded ops a.tmps)=true then Oper.wp Tryz.prog o a w1 K Q else E:=by
 subst hg;have hown1:w1.ownsRow B ty s v n xs:=re.row (o:=none) ⟨hle,fun k hk _=>dZ k hk⟩ hown (fun _ _ e=>by cases e)
 have hpl :∀j:Nat,(⟨w0.heap.size,0,none⟩:Addr).add j=⟨w0.heap.size,j,none⟩:=fun j=>by unfold Addr.add;split<;>simp_all
 refine step_append_lies (P:=Tryz.prog) w1 hgd sl y tS ho B ty i0 z s bytes ht hi hz hsz hby hzs hs0 v n xs hs hown1 ⟨w0.heap.size,0,none⟩ 1 1 cs hy (by rw[CJ,EW])
  (fun j u hj=>by rw[hpl];simpa[World.cell?,hcell] using hj) h1c (by omega) (by unfold maxLen;omega) (aK (Nat.mul_le_mul_left _ OU) (by omega)) (by omega) w1.heap.size rfl ?_
 intro g' c' w' r1 r2 r3 _;refine h g' c' w' r1 ⟨aK hle r2.size,fun k hk hn=>(r2.block k (by omega) fun e=>hn e.symm).trans (dZ k hk)⟩ ⟨?_,?_,?_,aK hle r2.size,fun k hk=>?_⟩ (r3.imp id fun e=>by omega)
 ·exact r2.os.trans Zw.1
 ·exact r2.tape.trans Zw.2.1
 ·exact r2.output.trans Zw.2.2
 ·refine(r2.block k (by omega) fun e=>?_).trans (dZ k (by omega))
  have:=(hown.lt k e.symm).1;omega
theorem Zx {ops:Array Oper} {rest:List Oper} {o:Oper} {a:Act} {Q:Exit→Act→World→Prop} (w:World) (cs:List Value) (hgd:o.guard=none) (sl y:Operand) (tS ty:TypeId) (i0:TypeInfo) (z:Value) (s bytes:Nat)
  (ho:o.op=.call { callee:=.builtin .append,args:=#[sl,y],argTypes:=#[tS,tS]}) (ht:Tryz.prog.underlying tS=some (.slice ty)) (hi:Tryz.prog.info? ty=some i0) (hz:i0.zero=some z) (hsz:i0.size=s) (hby:i0.bytes=bytes) (hzs:z.cells.size=s) (hs0:0<s) (OU:bytes≤100)
  (B:Nat) (v:Value) (n:Nat) (xs:List Value) (hs:a.eval sl=v) (hown:w.ownsRow B ty s v n xs) (g:Nat) (hg:g=w.heap.size) (hy:a.eval y=.slice (some ⟨g,0,none⟩) 1 1)
  (CJ:cs.length=s) (h1c :∀u∈cs,u.oneCell'=true) (hlen:n≤1000000) (hB:B≤w.heap.size)
  (h :∀g' c' w',w'.ownsRow B ty s (.slice (some ⟨g',0,none⟩) (n+1) c') (n+1) (xs++cs)→re v.ownBlock w w'→Below B w w'→(v.ownBlock=some g'∨w.heap.size≤g')→wpList Tryz.prog ops Q rest (a.put o.dst (.slice (some ⟨g',0,none⟩) (n+1) c')) w') :
  wpList Tryz.prog ops Q (o::rest) a (w.alloc (.cells cs.toArray ty)):=by
 subst hg;have hcell:=heap_alloc_new w (.cells cs.toArray ty);have hpl :∀j:Nat,(⟨w.heap.size,0,none⟩:Addr).add j=⟨w.heap.size,j,none⟩:=fun j=>by unfold Addr.add;split<;>simp_all
 have Dp:(w.alloc (.cells cs.toArray ty)).heap.size=w.heap.size+1:=an _ _;refine wpList_append_lies (P:=Tryz.prog) _ hgd sl y tS ho B ty i0 z s bytes ht hi hz hsz hby hzs hs0 v n xs hs (hown.alloc _) ⟨w.heap.size,0,none⟩ 1 1 cs hy (by rw[CJ,EW])
  (fun j u hj=>by rw[hpl,cell_of_row _ _ j _ ty (0,0) hcell];simpa using hj) h1c (by omega) (by unfold maxLen;omega) (aK (Nat.mul_le_mul_left _ OU) (by omega)) (by omega) (w.heap.size+1) Dp ?_
 intro g' c' w' r1 r2 r3 _;have yK:=r2.size;refine h g' c' w' r1 ⟨by omega,fun k hk hn=>(r2.block k (by omega) fun e=>hn e.symm).trans (Below.heap_alloc w _ k hk)⟩ ⟨r2.os,r2.tape,r2.output,by omega,fun k hk=>?_⟩ (r3.imp id fun e=>by omega)
 refine(r2.block k (by omega) fun e=>?_).trans (Below.heap_alloc w _ k (by omega))
 have:=(hown.lt k e.symm).1;omega
theorem xO {α:Type} {f:α→List Value} :∀(l:List α) (i:Nat) (a b:α),l[i]? = some a→f b=f a→(l.set i b).flatMap f=l.flatMap f
 | [],i,a,b,h,_=>by simp at h
 | x::l,0,a,b,h,hb=>by
  injection h with h;subst h;rw[dH,jd,jd,hb]
 | x::l,i+1,a,b,h,hb=>by rw[dI,jd,jd,xO l i a b h hb]
end Go.Proofs.YteflkdlaoiijbaaGreatDoor
namespace Go.Proofs.YteflkdlaoiijbaaGreatDoor
open Go.RowKit Go.Maps
def vo:Value→Option (DataW Unit)
 | .int .i64 a=>some (.lit (.int .i64 a))
 | .agg c=>match c.toList with
  | [.int .i64 a,.int .i64 b]=>some (.agg [.lit (.int .i64 a),.lit (.int .i64 b)])
  | _=>none
 | _=>none
theorem vp {v:Value} {d:DataW Unit} (h:vo v=some d):(∃a,v=.int .i64 a∧d=.lit (.int .i64 a))∨∃a b,v=.agg #[.int .i64 a,.int .i64 b]∧d=.agg [.lit (.int .i64 a),.lit (.int .i64 b)]:=by
 unfold vo at h;split at h
 ·injection h with h
  exact .inl ⟨_,rfl,h.symm⟩
 ·rename_i c
  split at h
  ·rename_i a b hc
   injection h with h;refine .inr ⟨a,b,?_,h.symm⟩;obtain⟨l⟩:=c;have:l=[.int .i64 a,.int .i64 b]:=hc;rw[this]
  ·cases h
 ·cases h
theorem BD {u v:Value} {d:DataW Unit} (hu:vo u=some d) (hv:vo v=some d):u=v:=by
 rcases vp hu with ⟨a,rfl,h1⟩ | ⟨a,b,rfl,h1⟩<;>rcases vp hv with ⟨c,rfl,h2⟩ | ⟨c,e,rfl,h2⟩
 ·rw[h1] at h2;injection h2 with h2;injection h2 with _ h2;rw[h2]
 ·rw[h1] at h2;cases h2
 ·rw[h1] at h2;cases h2
 ·rw[h1] at h2
  injection h2 with h2;injection h2 with h2 h3;injection h3 with h3 _;injection h2 with h2;injection h2 with _ h2;injection h3 with h3;injection h3 with _ h3;rw[h2,h3]
def OV (v:Value):Option (DataW Unit×List MemPlace):=(vo v).map fun d=>(d,[])
theorem Jt {v:Value} {d:DataW Unit} {ps:List MemPlace} (h:OV v=some (d,ps)):vo v=some d:=by
 unfold OV at h;cases e:vo v with
 | none=>rw[e] at h;cases h
 | some x=>rw[e] at h;injection h with h;injection h with h _;rw[h]
def dG (P:Program) (k:TypeId) (W:World) (b n:Nat) (f:ByteArray→Option Value):Prop :=
 ∃D:DataW Unit,W.ownsMap P k OV b n D∧∀s:ByteArray,s.size≤maxLen→match f s with
  | some v=>(vo v).isSome=true∧∀z,D.atKey (.string s.data.toList) z=(vo v).getD z
  | none=>∀z,D.atKey (.string s.data.toList) z=z
section
variable {P:Program} {k:TypeId} {W:World} {b n:Nat} {f:ByteArray→Option Value}
theorem dG.lt (h:dG P k W b n f):b<W.heap.size:=by obtain⟨D,h1,_⟩:=h;exact h1.lt
theorem dG.made (W:World) (P:Program) (k:TypeId):dG P k (W.alloc (.map #[] 0)) W.heap.size 0 (fun _=>none) :=
 ⟨_,World.ownsMap_made _ _ _ _,fun s _ z=>by simp[DataW.atKey]⟩
theorem dG.same {W':World} (h:dG P k W b n f) (hb:W'.heap[b]? = W.heap[b]?):dG P k W' b n f:=by
 obtain⟨D,⟨es,clock,h1,h2,h3,h4⟩,h5⟩:=h;exact⟨D,⟨es,clock,hb.trans h1,h2,h3,h4⟩,h5⟩
theorem dG.ext {g:ByteArray→Option Value} (h:dG P k W b n f) (he :∀s,f s=g s):dG P k W b n g:=by
 have:f=g:=funext he;rwa[←this]
theorem dG.mono {m:Nat} (h:dG P k W b n f) (he:n≤m):dG P k W b m f:=by
 obtain⟨D,h1,h2⟩:=h;exact⟨D,h1.mono he,h2⟩
theorem dG.isMap (h:dG P k W b n f) :∃es c,W.heap[b]? = some (.map es c):=by
 obtain⟨D,⟨es,clock,h1,_⟩,_⟩:=h;exact⟨es,clock,h1⟩
theorem dG.look {t e:TypeId} (h:dG P k W b n f) (hk:P.underlying k=some .string) (ht:P.underlying t=some (.map k e)) {z:Value} (hz:(zeroValue e).run P W=.ok z W) (hze:(vo z).isSome=true) (s:ByteArray) (hs:s.size≤maxLen) :
  (Instr.lookup t (.map (some b)) (.string s) true).run P W=.ok (.tuple #[(f s).getD z,.bool (f s).isSome]) W:=by
 obtain⟨D,h1,h2⟩:=h;obtain⟨zd,hzd⟩:=zP.1 hze;obtain⟨v,ps,hr,hv⟩:=h1.look_ok (string_keyed hk) ht hz (zd:=zd) (zp:=[]) (by unfold OV;rw[hzd];rfl) (Go.WideMaps.keyOf_string_mk hk hs)
 have hv:=Jt hv;have h3:=h2 s hs;cases e1:f s with
 | none =>
  rw[e1] at h3;rw[h3 zd] at hv;rw[hr,has_false_of_atKey h3,BD hv hzd];rfl
 | some u =>
  rw[e1] at h3;obtain⟨ud,hud⟩:=zP.1 h3.1;have h4 :∀z,D.atKey (.string s.data.toList) z=ud:=fun z=>by rw[h3.2 z,hud];rfl
  rw[h4 zd] at hv;rw[hr,has_true_of_atKey h4,BD hv hud];rfl
theorem OW {a b:ByteArray} (h:a.data.toList=b.data.toList):a=b:=by
 cases a;cases b;exact ay ByteArray.mk (Array.toList_inj.1 h)
theorem dG.put {t e:TypeId} (h:dG P k W b n f) (hk:P.underlying k=some .string) (ht:P.underlying t=some (.map k e)) (hn:n<maxLen) (s:ByteArray) (hs:s.size≤maxLen) (v:Value) (hv:(vo v).isSome=true) :
  ∃W',(Instr.mapUpdate t (.map (some b)) (.string s) v).run P W=.ok () W'∧dG P k W' b (n+1) (fun x=>if x=s then some v else f x)∧W.grownBy W' (some b):=by
 obtain⟨D,h1,h2⟩:=h;obtain⟨d,hd⟩:=zP.1 hv;obtain⟨W',hr,h3,h4⟩:=h1.update (string_keyed hk) ht hn (d:=d) (ps:=[]) (Go.WideMaps.keyOf_string_mk hk hs) (by unfold OV;rw[hd];rfl)
 refine⟨W',hr,⟨_,h3,fun x hx=>?_⟩,h4⟩
 have hD:IsMap D:=h1.isMap;by_cases e:x=s
 ·subst e
  dsimp only
  rw[ak rfl];refine⟨hv,fun z=>?_⟩
  rw[atKey_put_same hD (by unfold WideAt.IsKeyLit;trivial),hd]
  rfl
 ·dsimp only
  rw[af e];have hne:(Lit.string x.data.toList) ≠ .string s.data.toList:=fun e1=>e (OW (by injection e1))
  have h5:=h2 x hx;cases e2:f x with
  | none =>
   rw[e2] at h5;exact fun z=>by rw[atKey_put_other hne];exact h5 z
  | some u =>
   rw[e2] at h5;exact⟨h5.1,fun z=>by rw[atKey_put_other hne];exact h5.2 z⟩
end
end Go.Proofs.YteflkdlaoiijbaaGreatDoor
namespace Go.Proofs.YteflkdlaoiijbaaGreatDoor
open Go.RowKit
def adv (o:Obj):Prop:=∀c e fz,o ≠ .cells c e fz
structure Fr (E:List Nat) (W W':World):Prop where
 size:W.heap.size≤W'.heap.size
 cells :∀(k:Nat) c (e:TypeId) fz,W.heap[k]? = some (.cells c e fz)→e∉E→W'.heap[k]? = some (.cells c e fz)
 others :∀(k:Nat) o,W.heap[k]? = some o→adv o→W'.heap[k]? = some o
theorem Fr.maps {E:List Nat} {W W':World} (h:Fr E W W') :∀(k:Nat) es c,W.heap[k]? = some (.map es c)→W'.heap[k]? = some (.map es c):=fun k _ _ hk=>h.others k _ hk fun _ _ _ e=>by cases e
section
variable {E E':List Nat} {W W' W2:World}
theorem Fr.refl (E:List Nat) (W:World):Fr E W W:=⟨ai _,fun _ _ _ _ h _=>h,fun _ _ h _=>h⟩
theorem Fr.trans (h:Fr E W W') (k:Fr E W' W2):Fr E W W2:=⟨aK h.size k.size,fun i c e fz hi he=>k.cells i c e fz (h.cells i c e fz hi he) he,fun i o hi ho=>k.others i o (h.others i o hi ho) ho⟩
theorem Fr.mono (h:Fr E W W') (he :∀e∈E,e∈E'):Fr E' W W':=⟨h.size,fun i c e fz hi hn=>h.cells i c e fz hi fun hm=>hn (he e hm),h.others⟩
theorem Fr.ae (h:Below W.heap.size W W'):Fr E W W':=⟨h.size,fun k _ _ _ hk _=>(h.block k (aJ.1 hk).1).trans hk,fun k _ hk _=>(h.block k (aJ.1 hk).1).trans hk⟩
theorem Fr.alloc (o:Obj):Fr E W (W.alloc o):=Fr.ae ((Below.refl _ W).alloc (ai _) o)
theorem Fr.drew (h:Fr E W W'):Fr E W W'.drew:=⟨h.size,h.cells,h.others⟩
theorem Fr.set {g:Nat} {cs:Array Value} {ty:TypeId} {fz:Nat×Nat} (h:W.heap[g]? = some (.cells cs ty fz)) (he:ty∈E) (j:Nat) (v:Value):Fr E W (W.setCell ⟨g,j,none⟩ v) :=
 ⟨by simp[World.setCell],fun k c e f hk hn=>(Below.heap_setCell W ⟨g,j,none⟩ v k (fun(e':k=g)=>by
  subst e';rw[h] at hk;injection hk with hk;injection hk with _ hk;exact hn (hk▸he))).trans hk,fun k o hk ho=>(Below.heap_setCell W ⟨g,j,none⟩ v k (fun(e':k=g)=>by
  subst e';rw[h] at hk;injection hk with hk;exact ho _ _ _ hk.symm)).trans hk⟩
theorem Fr.but {B ty s n:Nat} {v:Value} {xs:List Value} (hr:W.ownsRow B ty s v n xs) (he:ty∈E) (h:re v.ownBlock W W'):Fr E W W':=by
 have key :∀(k:Nat) (o:Obj),W.heap[k]? = some o→(∀c fz,o ≠ .cells c ty fz)→W'.heap[k]? = some o:=fun k o hk ho=>(h.2 k (aJ.1 hk).1 fun ek=>by
  obtain⟨c,fz,h1⟩:=Lib.ownsRow_kind hr k ek;rw[hk] at h1;injection h1 with h1;exact ho _ _ h1).trans hk
 exact⟨h.1,fun k c e fz hk hn=>key k _ hk fun c' Zu e1=>by injection e1 with _ e1;exact hn (e1▸he),fun k o hk ho=>key k _ hk fun _ _ e1=>ho _ _ _ e1⟩
theorem Fr.row {B e s n:Nat} {v:Value} {xs:List Value} (h:Fr E W W') (hr:W.ownsRow B e s v n xs) (he:e∉E):W'.ownsRow B e s v n xs:=by
 refine⟨hr.1,?_⟩;rcases hr.2 with hn | ⟨g,cap,cur,rfl,hB,hg,rest⟩
 ·exact .inl hn
 ·exact .inr ⟨g,cap,cur,rfl,hB,h.cells g _ _ _ hg he,rest⟩
theorem Fr.map {P:Program} {k:TypeId} {b n:Nat} {f:ByteArray→Option Value} (h:Fr E W W') (hm:dG P k W b n f):dG P k W' b n f:=by
 obtain⟨es,c,h1⟩:=hm.isMap;exact hm.same ((h.maps b es c h1).trans h1.symm)
theorem Fr.Zv {ty:TypeId} (h:Fr [ty] W W'):Kr ty W W':=⟨h.size,fun k c e fz hk he=>h.cells k c e fz hk (by simpa using he)⟩
end
structure mQ (W:World) (B:Nat) (v:Value) (L:List mP):Prop where
 row:W.ownsRow B 52 6 v L.length (L.flatMap OS)
 vars :∀t∈L,W.ownsRow B 61 3 t.2.1 t.1.vars.length (t.1.vars.flatMap ti)
 bR :∀t∈L,W.ownsRow B 59 2 t.2.2 t.1.bR.length (t.1.bR.flatMap Gf)
 pM :∀(i j:Nat) t u,i≠j→L[i]? = some t→L[j]? = some u→∀g,t.2.1.ownBlock=some g→u.2.1.ownBlock≠some g
 qG :∀(i j:Nat) t u,i≠j→L[i]? = some t→L[j]? = some u→∀g,t.2.2.ownBlock=some g→u.2.2.ownBlock≠some g
theorem mQ.Zv {W W':World} {B:Nat} {ty:TypeId} {v:Value} {L:List mP} (h:mQ W B v L) (ho:Kr ty W W') (h1:(52:Nat)≠ty) (h2:(61:Nat)≠ty) (h3:(59:Nat)≠ty):mQ W' B v L :=
 ⟨cS h.row ho h1,fun t ht=>cS (h.vars t ht) ho h2,fun t ht=>cS (h.bR t ht) ho h3,h.pM,h.qG⟩
theorem mQ.form {W:World} {B:Nat} {fv:Value} {L:List mP} (h:mQ W B fv L) {f:Nat} {t:mP} (hf:L[f]? = some t) :∃g c,fv=.slice (some ⟨g,0,none⟩) L.length c∧B≤g∧g<W.heap.size∧∀j,j<6→W.cell? ⟨g,f*6+j,none⟩=(OS t)[j]?∧W.frozen? ⟨g,f*6+j,none⟩=false:=by
 have hl:=(aL.1 hf).1;rcases h.row.2 with ⟨_,h0⟩ | ⟨g,cap,cur,rfl,hB,hg,_⟩
 ·omega
 ·refine⟨g,cap,rfl,hB,(aJ.1 hg).1,fun j hj=>⟨?_,World.ownsRow.frozenAt h.row _⟩⟩
  rw[World.ownsRow.cellAt h.row (f*6+j) (by omega)]
  exact fU qD L f j t hf hj
theorem mQ.OX {W W1:World} {B:Nat} {g c f:Nat} {L:List mP} {t:mP} (h:mQ W B (.slice (some ⟨g,0,none⟩) L.length c) L) (hf:L[f]? = some t) (hb:re t.2.1.ownBlock W W1) {v':Value} {vs:List lq} (hv:W1.ownsRow B 61 3 v' vs.length (vs.flatMap ti)) (hn :∀k,v'.ownBlock=some k→t.2.1.ownBlock=some k∨W.heap.size≤k) :
  mQ (W1.setCell ⟨g,f*6+4,none⟩ v') B (.slice (some ⟨g,0,none⟩) L.length c) (L.set f ({ t.1 with vars:=vs},v',t.2.2)):=by
 have hl:=(aL.1 hf).1;have Ju:=ba hf;have qH:=hb.row h.row (fun k hk e=>eh h.row (h.vars t Ju) (by decide) k hk e)
 have hst:=(World.ownsRow.stored qH (f*6+4) v').1;have NS :∃cs fz,W1.heap[g]? = some (.cells cs 52 fz):=Lib.ownsRow_kind qH g rfl;obtain⟨cs,fz,Uz⟩:=NS;have D5:=Kr.set Uz (f*6+4) v';refine⟨?_,fun u hu=>?_,fun u hu=>?_,fun i j u w' vY hi hj k hk=>?_,fun i j u w' vY hi hj k hk=>?_⟩
 ·rw[mC,qF qD L f 4 t _ v' hf (by omega) rfl]
  exact hst
 ·obtain⟨i,hi⟩:=kT.1 hu
  by_cases e:f=i
  ·subst e
   rw[dU hl] at hi;injection hi with hi;subst hi;exact cS hv D5 (by decide)
  ·rw[fJ e] at hi
   exact cS (hb.row (h.vars u (ba hi)) (fun k hk=>fun ek=>h.pM i f u t (fun e'=>e e'.symm) hi hf k hk ek)) D5 (by decide)
 ·obtain⟨i,hi⟩:=kT.1 hu
  have key :∀u∈L,(W1.setCell ⟨g,f*6+4,none⟩ v').ownsRow B 59 2 u.2.2 u.1.bR.length (u.1.bR.flatMap Gf):=fun u hu=>cS (hb.row (h.bR u hu) (fun k hk e=>eh (h.bR u hu) (h.vars t Ju) (by decide) k hk e)) D5 (by decide)
  by_cases e:f=i
  ·subst e
   rw[dU hl] at hi;injection hi with hi;subst hi;exact key t Ju
  ·rw[fJ e] at hi
   exact key u (ba hi)
 ·by_cases e1:f=i
  ·subst e1
   rw[dU hl] at hi;injection hi with hi;subst hi;rw[fJ vY] at hj;intro hk2;rcases hn k hk with h1|h1
   ·exact h.pM f j t w' vY hf hj k h1 hk2
   ·have:=((h.vars w' (ba hj)).lt k hk2).2
    omega
  ·rw[fJ e1] at hi
   by_cases e2:f=j
   ·subst e2
    rw[dU hl] at hj;injection hj with hj;subst hj;intro hk2;rcases hn k hk2 with h1|h1
    ·exact h.pM i f u t vY hi hf k hk h1
    ·have:=((h.vars u (ba hi)).lt k hk).2
     omega
   ·rw[fJ e2] at hj
    exact h.pM i j u w' vY hi hj k hk
 ·have key :∀(i:Nat) u,(L.set f ({ t.1 with vars:=vs},v',t.2.2))[i]? = some u→∃u',L[i]? = some u'∧u.2.2=u'.2.2:=fun i u hi=>by
   by_cases e1:f=i
   ·subst e1
    rw[dU hl] at hi;injection hi with hi;subst hi;exact⟨t,hf,rfl⟩
   ·rw[fJ e1] at hi
    exact⟨u,hi,rfl⟩
  obtain⟨u1,a1,a2⟩:=key i u hi;obtain⟨u2,b1,b2⟩:=key j w' hj;rw[a2] at hk;rw[b2];exact h.qG i j u1 u2 vY a1 b1 k hk
theorem mQ.UC {W W1:World} {B:Nat} {g c f:Nat} {L:List mP} {t:mP} (h:mQ W B (.slice (some ⟨g,0,none⟩) L.length c) L) (hf:L[f]? = some t) (hb:re t.2.2.ownBlock W W1) {v':Value} {vs:List sQ} (hv:W1.ownsRow B 59 2 v' vs.length (vs.flatMap Gf)) (hn :∀k,v'.ownBlock=some k→t.2.2.ownBlock=some k∨W.heap.size≤k) :
  mQ (W1.setCell ⟨g,f*6+5,none⟩ v') B (.slice (some ⟨g,0,none⟩) L.length c) (L.set f ({ t.1 with bR:=vs},t.2.1,v')):=by
 have hl:=(aL.1 hf).1;have Ju:=ba hf;have qH:=hb.row h.row (fun k hk e=>eh h.row (h.bR t Ju) (by decide) k hk e)
 have hst:=(World.ownsRow.stored qH (f*6+5) v').1;obtain⟨cs,fz,Uz⟩ :∃cs fz,W1.heap[g]? = some (.cells cs 52 fz):=Lib.ownsRow_kind qH g rfl;have D5:=Kr.set Uz (f*6+5) v';refine⟨?_,fun u hu=>?_,fun u hu=>?_,fun i j u w' vY hi hj k hk=>?_,fun i j u w' vY hi hj k hk=>?_⟩
 ·rw[mC,qF qD L f 5 t _ v' hf (by omega) rfl]
  exact hst
 ·obtain⟨i,hi⟩:=kT.1 hu
  have key :∀u∈L,(W1.setCell ⟨g,f*6+5,none⟩ v').ownsRow B 61 3 u.2.1 u.1.vars.length (u.1.vars.flatMap ti):=fun u hu=>cS (hb.row (h.vars u hu) (fun k hk e=>eh (h.vars u hu) (h.bR t Ju) (by decide) k hk e)) D5 (by decide)
  by_cases e:f=i
  ·subst e
   rw[dU hl] at hi;injection hi with hi;subst hi;exact key t Ju
  ·rw[fJ e] at hi
   exact key u (ba hi)
 ·obtain⟨i,hi⟩:=kT.1 hu
  by_cases e:f=i
  ·subst e
   rw[dU hl] at hi;injection hi with hi;subst hi;exact cS hv D5 (by decide)
  ·rw[fJ e] at hi
   exact cS (hb.row (h.bR u (ba hi)) (fun k hk=>fun ek=>h.qG i f u t (fun e'=>e e'.symm) hi hf k hk ek)) D5 (by decide)
 ·have key :∀(i:Nat) u,(L.set f ({ t.1 with bR:=vs},t.2.1,v'))[i]? = some u→∃u',L[i]? = some u'∧u.2.1=u'.2.1:=fun i u hi=>by
   by_cases e1:f=i
   ·subst e1
    rw[dU hl] at hi;injection hi with hi;subst hi;exact⟨t,hf,rfl⟩
   ·rw[fJ e1] at hi
    exact⟨u,hi,rfl⟩
  obtain⟨u1,a1,a2⟩:=key i u hi;obtain⟨u2,b1,b2⟩:=key j w' hj;rw[a2] at hk;rw[b2];exact h.pM i j u1 u2 vY a1 b1 k hk
 ·by_cases e1:f=i
  ·subst e1
   rw[dU hl] at hi;injection hi with hi;subst hi;rw[fJ vY] at hj;intro hk2;rcases hn k hk with h1|h1
   ·exact h.qG f j t w' vY hf hj k h1 hk2
   ·have:=((h.bR w' (ba hj)).lt k hk2).2
    omega
  ·rw[fJ e1] at hi
   by_cases e2:f=j
   ·subst e2
    rw[dU hl] at hj;injection hj with hj;subst hj;intro hk2;rcases hn k hk2 with h1|h1
    ·exact h.qG i f u t vY hi hf k hk h1
    ·have:=((h.bR u (ba hi)).lt k hk).2
     omega
   ·rw[fJ e2] at hj
    exact h.qG i j u w' vY hi hj k hk
structure e8 (W:World) (B b:Nat) (nv:Value) (N:Nat) (st:aG) (fv:Value) (ub ob:Nat) (L:List mP):Prop where
 blk:W.heap[b]? = some (.cells #[nv,fv,.slice (some ⟨ub,0,none⟩) N N,.slice (some ⟨ob,0,none⟩) N N] 87 (0,0))
 fns:mQ W B fv L
 are:L.map (·.1)=st.fns
 uses:fG W B 57 2 ub N (wm st.uses)
 wq:fG W B 3 1 ob N (Ro st.of)
 pos:B≤b
section
variable {W W1 W':World} {B b:Nat} {nv:Value} {N:Nat} {st:aG} {fv:Value} {ub ob:Nat} {L:List mP}
theorem e8.on {s2:aG} (h:e8 W B b nv N st fv ub ob L) (e1:s2.fns=st.fns) (e2:s2.uses=st.uses) (e3:s2.of=st.of):e8 W B b nv N s2 fv ub ob L :=
 ⟨h.blk,h.fns,by rw[e1];exact h.are,by rw[e2];exact h.uses,by rw[e3];exact h.wq,h.pos⟩
theorem e8.fr {E:List Nat} (h:e8 W B b nv N st fv ub ob L) (k:Fr E W W') (he:(87:Nat)∉E∧(52:Nat)∉E∧(61:Nat)∉E∧(59:Nat)∉E∧(57:Nat)∉E∧(3:Nat)∉E):e8 W' B b nv N st fv ub ob L :=
 ⟨k.cells b _ _ _ h.blk he.1,⟨k.row h.fns.row he.2.1,fun t ht=>k.row (h.fns.vars t ht) he.2.2.1,fun t ht=>k.row (h.fns.bR t ht) he.2.2.2.1,h.fns.pM,h.fns.qG⟩,h.are,k.row h.uses he.2.2.2.2.1,k.row h.wq he.2.2.2.2.2,h.pos⟩
theorem e8.drew (h:e8 W B b nv N st fv ub ob L):e8 W.drew B b nv N st fv ub ob L:=h.fr (E:=[]) (Fr.refl _ W).drew (by decide)
theorem e8.alloc (h:e8 W B b nv N st fv ub ob L) (o:Obj):e8 (W.alloc o) B b nv N st fv ub ob L:=h.fr (E:=[]) (Fr.alloc o) (by decide)
theorem e8.later (h:e8 W B b nv N st fv ub ob L) (hb:Below W.heap.size W W'):e8 W' B b nv N st fv ub ob L:=h.fr (E:=[]) (Fr.ae hb) (by decide)
theorem e8.OY (h:e8 W B b nv N st fv ub ob L) (ho:Fr [57] W W') {u:Nat→Int×Int} (hu:fG W' B 57 2 ub N (wm u)):e8 W' B b nv N { st with uses:=u} fv ub ob L :=
 ⟨ho.cells b _ _ _ h.blk (by decide),h.fns.Zv ho.Zv (by decide) (by decide) (by decide),h.are,hu,ho.row h.wq (by decide),h.pos⟩
theorem e8.UD (h:e8 W B b nv N st fv ub ob L) (ho:Fr [3] W W') {o:Nat→Int} (hu:fG W' B 3 1 ob N (Ro o)):e8 W' B b nv N { st with of:=o} fv ub ob L :=
 ⟨ho.cells b _ _ _ h.blk (by decide),h.fns.Zv ho.Zv (by decide) (by decide) (by decide),h.are,ho.row h.uses (by decide),hu,h.pos⟩
theorem mj (h:e8 W B b nv N st fv ub ob L) (i:Nat) (x y:Value):Fr [57] W ((W.setCell ⟨ub,i*2,none⟩ x).setCell ⟨ub,i*2+1,none⟩ y):=by
 obtain⟨cs,hc⟩:=lA h.uses;obtain⟨cs',hc'⟩:=lA (qC h.uses (i*2) x);exact(Fr.set hc (by decide) _ _).trans (Fr.set hc' (by decide) _ _)
theorem e8.use (h:e8 W B b nv N st fv ub ob L) (i:Nat) (x:Int×Int):e8 ((W.setCell ⟨ub,i*2,none⟩ (.int .i64 x.1)).setCell ⟨ub,i*2+1,none⟩ (.int .i64 x.2)) B b nv N (st.dh i x) fv ub ob L :=
 h.OY (mj h i _ _) (OT h.uses i x)
theorem vq (h:e8 W B b nv N st fv ub ob L) (i:Nat) (x:Value):Fr [3] W (W.setCell ⟨ob,i,none⟩ x):=by
 obtain⟨cs,hc⟩:=lA h.wq;exact Fr.set hc (by decide) _ _
theorem e8.of_ (h:e8 W B b nv N st fv ub ob L) (i f:Nat):e8 (W.setCell ⟨ob,i,none⟩ (.int .i64 (f:Int))) B b nv N (st.setOf i f) fv ub ob L :=
 h.UD (vq h i _) (Zt h.wq i (f:Int))
theorem e8.jh (h:e8 W B b nv N st fv ub ob L):B≤ub∧B≤ob:=⟨(h.uses.lt ub rfl).1,(h.wq.lt ob rfl).1⟩
theorem vr (h:e8 W B b nv N st fv ub ob L) (i:Nat) (x y:Value):Below B W ((W.setCell ⟨ub,i*2,none⟩ x).setCell ⟨ub,i*2+1,none⟩ y):=((Below.refl B W).setCell (p:=⟨ub,i*2,none⟩) h.jh.1 x).setCell (p:=⟨ub,i*2+1,none⟩) h.jh.1 y
theorem e8.BE {W2:World} (h:e8 W B b nv N st fv ub ob L) {ty:TypeId} (ho:Fr [ty] W W1) (h1:(87:Nat)≠ty∧(57:Nat)≠ty∧(3:Nat)≠ty) (Jv:Fr [52] W1 W2) {L':List mP} {F':List cR} (hF:mQ W2 B fv L') (ha:L'.map (·.1)=F'):e8 W2 B b nv N { st with fns:=F'} fv ub ob L' :=
 ⟨Jv.cells b _ _ _ (ho.cells b _ _ _ h.blk (by simpa using h1.1)) (by decide),hF,ha,Jv.row (ho.row h.uses (by simpa using h1.2.1)) (by decide),Jv.row (ho.row h.wq (by simpa using h1.2.2)) (by decide),h.pos⟩
theorem e8.sT (h:e8 W B b nv N st fv ub ob L) {f:Nat} {t:mP} (hf:L[f]? = some t):st.fns[f]? = some t.1∧st.fn f=t.1:=by
 have:st.fns[f]? = some t.1:=by rw[←h.are,gE,hf];rfl
 exact⟨this,by unfold aG.fn;rw[j5,this];rfl⟩
theorem e8.BG (h:e8 W B b nv N st fv ub ob L) {f:Nat} (hf:f<st.fns.length) :∃t,L[f]? = some t:=⟨L[f]'(by have:=ay List.length h.are;rw[dm] at this;omega),bH _⟩
theorem e8.len (h:e8 W B b nv N st fv ub ob L):L.length=st.fns.length:=by have:=ay List.length h.are;rwa[dm] at this
theorem e8.OZ {g c f:Nat} {t:mP} (h:e8 W B b nv N st (.slice (some ⟨g,0,none⟩) L.length c) ub ob L) (hf:L[f]? = some t) (hb:re t.2.1.ownBlock W W1) {v':Value} {vs:List lq} (hv:W1.ownsRow B 61 3 v' vs.length (vs.flatMap ti)) (hn :∀k,v'.ownBlock=some k→t.2.1.ownBlock=some k∨W.heap.size≤k) :
  e8 (W1.setCell ⟨g,f*6+4,none⟩ v') B b nv N (st.pd f { t.1 with vars:=vs}) (.slice (some ⟨g,0,none⟩) L.length c) ub ob (L.set f ({ t.1 with vars:=vs},v',t.2.2))∧Fr [52,61,59] W (W1.setCell ⟨g,f*6+4,none⟩ v'):=by
 have Ju:=ba hf;have ho:Fr [61] W W1:=Fr.but (h.fns.vars t Ju) (by decide) hb
 have qH:=hb.row h.fns.row (fun k hk e=>eh h.fns.row (h.fns.vars t Ju) (by decide) k hk e)
 obtain⟨cs,fz,Uz⟩ :∃cs fz,W1.heap[g]? = some (.cells cs 52 fz):=Lib.ownsRow_kind qH g rfl;refine⟨h.BE ho (by decide) (Fr.set Uz (by decide) (f*6+4) v') (h.fns.OX hf hb hv hn) ?_,(ho.mono (by decide)).trans ((Fr.set (E:=[52]) Uz (by decide) _ _).mono (by decide))⟩
 rw[nY,h.are]
theorem e8.UE {g c f:Nat} {t:mP} (h:e8 W B b nv N st (.slice (some ⟨g,0,none⟩) L.length c) ub ob L) (hf:L[f]? = some t) (hb:re t.2.2.ownBlock W W1) {v':Value} {vs:List sQ} (hv:W1.ownsRow B 59 2 v' vs.length (vs.flatMap Gf)) (hn :∀k,v'.ownBlock=some k→t.2.2.ownBlock=some k∨W.heap.size≤k) :
  e8 (W1.setCell ⟨g,f*6+5,none⟩ v') B b nv N (st.pd f { t.1 with bR:=vs}) (.slice (some ⟨g,0,none⟩) L.length c) ub ob (L.set f ({ t.1 with bR:=vs},t.2.1,v'))∧Fr [52,61,59] W (W1.setCell ⟨g,f*6+5,none⟩ v'):=by
 have Ju:=ba hf;have ho:Fr [59] W W1:=Fr.but (h.fns.bR t Ju) (by decide) hb
 have qH:=hb.row h.fns.row (fun k hk e=>eh h.fns.row (h.fns.bR t Ju) (by decide) k hk e)
 obtain⟨cs,fz,Uz⟩ :∃cs fz,W1.heap[g]? = some (.cells cs 52 fz):=Lib.ownsRow_kind qH g rfl;refine⟨h.BE ho (by decide) (Fr.set Uz (by decide) (f*6+5) v') (h.fns.UC hf hb hv hn) ?_,(ho.mono (by decide)).trans ((Fr.set (E:=[52]) Uz (by decide) _ _).mono (by decide))⟩
 rw[nY,h.are]
end
theorem e8.cap {W:World} {B b:Nat} {nv:Value} {N:Nat} {st:aG} {fv:Value} {ub ob:Nat} {L:List mP} {f i gv c:Nat} {y:cR} {yu:Value} {v:lq} (h:e8 W B b nv N st fv ub ob L) (hf:L[f]? = some (y,.slice (some ⟨gv,0,none⟩) y.vars.length c,yu)) (hi:y.vars[i]? = some v) :
  e8 (W.setCell ⟨gv,i*3+2,none⟩ (.bool true)) B b nv N (st.pd f (cQ y i)) fv ub ob (L.set f (cQ y i,.slice (some ⟨gv,0,none⟩) y.vars.length c,yu)):=by
 have hl:=(aL.1 hf).1;have hm:=ba hf;have hr:=h.fns.vars _ hm;obtain⟨cs,fz,hk⟩:=Lib.ownsRow_kind hr gv rfl;have ho:=Kr.set hk (i*3+2) (.bool true);have hb:=re.set W gv (i*3+2) (.bool true);have BH:cQ y i={ y with vars:=y.vars.set i { v with cap:=true}}:=by unfold cQ;rw[hi]
 have hst:=(World.ownsRow.stored hr (i*3+2) (.bool true)).1;have hlen:(cQ y i).vars.length=y.vars.length:=by rw[BH];simp
 have get :∀(j:Nat) t,(L.set f (cQ y i,.slice (some ⟨gv,0,none⟩) y.vars.length c,yu))[j]? = some t→(j=f∧t=(cQ y i,.slice (some ⟨gv,0,none⟩) y.vars.length c,yu))∨(j≠f∧L[j]? = some t):=fun j t hj=>by
  by_cases e:f=j
  ·subst e
   rw[dU hl] at hj;injection hj with hj;exact .inl ⟨rfl,hj.symm⟩
  ·rw[fJ e] at hj
   exact .inr ⟨fun e'=>e e'.symm,hj⟩
 have vals :∀(j:Nat) t,(L.set f (cQ y i,.slice (some ⟨gv,0,none⟩) y.vars.length c,yu))[j]? = some t→∃t',L[j]? = some t'∧t.2=t'.2:=fun j t hj=>by
  rcases get j t hj with ⟨rfl,rfl⟩ | ⟨_,hj⟩
  ·exact⟨_,hf,rfl⟩
  ·exact⟨t,hj,rfl⟩
 refine⟨ho.2 b _ _ _ h.blk (by decide),⟨?_,fun t ht=>?_,fun t ht=>?_,fun p q t u hpq hp hq k iW=>?_,fun p q t u hpq hp hq k iW=>?_⟩,?_,lB h.uses ho (by decide),lB h.wq ho (by decide),h.pos⟩
 ·rw[mC,xO L f _ _ hf (by rw[BH];rfl)]
  exact cS h.fns.row ho (by decide)
 ·obtain⟨j,hj⟩:=kT.1 ht
  rcases get j t hj with ⟨rfl,rfl⟩ | ⟨hne,hj⟩
  ·simp only
   rw[hlen,BH];simp only;rw[qF qE y.vars i 2 v _ (.bool true) hi (by omega) rfl]
   exact hst
  ·exact hb.row (h.fns.vars t (ba hj)) fun k hk e=>by
    injection e with e;subst e;exact h.fns.pM j f t _ hne hj hf gv hk rfl
 ·obtain⟨j,hj⟩:=kT.1 ht
  rcases get j t hj with ⟨rfl,rfl⟩ | ⟨hne,hj⟩
  ·have:=cS (h.fns.bR _ hm) ho (by decide)
   simp only at this ⊢;rw[BH];exact this
  ·exact cS (h.fns.bR t (ba hj)) ho (by decide)
 ·obtain⟨t',h1,e1⟩:=vals p t hp
  obtain⟨u',h2,e2⟩:=vals q u hq;rw[e1] at iW;rw[e2];exact h.fns.pM p q t' u' hpq h1 h2 k iW
 ·obtain⟨t',h1,e1⟩:=vals p t hp
  obtain⟨u',h2,e2⟩:=vals q u hq;rw[e1] at iW;rw[e2];exact h.fns.qG p q t' u' hpq h1 h2 k iW
 ·rw[nY,h.are]
  rfl
theorem Jw:(Tryz.prog.info? 61).map (fun i=>(i.zero,i.size,i.bytes))=some (some (.agg #[.string ⟨#[]⟩,.int .i64 0,.bool false]),3,32):=by kernel_rfl
theorem O0:(Tryz.prog.info? 59).map (fun i=>(i.zero,i.size,i.bytes))=some (some (.agg #[.bool false,.int .i64 0]),2,16):=by kernel_rfl
theorem O9:(Tryz.prog.info? 52).map (fun i=>(i.zero,i.size,i.bytes))=some (some (.agg #[.int .i64 0,.int .i64 0,.int .i64 0,.bool false,.slice none 0 0,.slice none 0 0]),6,80):=by kernel_rfl
theorem D7:(Tryz.prog.info? 238).map (fun i=>(i.zero,i.size,i.bytes))=some (some (.agg #[.int .i64 0,.map none]),2,16):=by kernel_rfl
end Go.Proofs.YteflkdlaoiijbaaGreatDoor
namespace Go.Proofs.YteflkdlaoiijbaaGreatDoor
theorem Jy {n f:Nat} {l:Int} :∀(ns:List ByteArray) {st st':aG},dR n f l ns st=.ok st'→st'.frames=st.frames:=by
 intro ns;induction ns with
 | nil=>intro st st' h;rw[dR] at h;injection h with h;rw[h]
 | cons s ns ih =>
  intro st st' h;rw[dR] at h;split at h
  ·cases h
  ·have:=ih h
   exact this
theorem vt {n f:Nat} {l:Int} {ns:List ByteArray} {st st':aG} (h:bz n f l ns st=.ok st'):st'.frames=st.frames:=by
 have:=Jy ns h;exact this
theorem zf {n f:Nat} {s:ByteArray} {l:Int} {st st':aG} (h:me n f s l st=.ok st'):st'.frames=st.frames∧st'.names=st.names:=by
 unfold me at h;split at h
 ·injection h with h;rw[←h];exact⟨rfl,rfl⟩
 ·split at h
  ·injection h with h;rw[←h];exact⟨rfl,rfl⟩
  ·split at h
   ·cases h
   ·injection h with h;rw[←h];exact⟨rfl,rfl⟩
theorem rV {n f:Nat} {l:Int} {st st':aG} (h:dX n f l st=.ok st'):st'.frames=st.frames∧st'.names=st.names:=by
 unfold dX at h;split at h
 ·cases h
 ·injection h with h;rw[←h];exact⟨rfl,rfl⟩
theorem rW {n f:Nat} {s:ByteArray} {l:Int} {st st':aG} :∀(fr:List fB),db n f s l st fr=.ok st'→st'.frames=st.frames∧st'.names=st.names:=by
 intro fr;induction fr with
 | nil=>intro h;cases h
 | cons x fr ih =>
  intro h;rw[db] at h;split at h
  ·exact ih h
  ·split at h
   ·exact ih h
   ·split at h
    ·cases h
    ·injection h with h;rw[←h];exact⟨rfl,rfl⟩
mutual
theorem zg :∀(t:Lt) {f:Nat} {st st':aG},aY t f st=.ok st'→st'.frames=st.frames
 | .mk i h ks,f,mJ,st',hr=>by
  rw[cw] at hr;have e0:(mJ.setOf i f).frames=mJ.frames:=rfl;rw[←e0];generalize mJ.setOf i f=st at *;split at hr
  ·split at hr
   ·injection hr with hr;rw[←hr]
   ·cases hr
  split at hr
  ·exact(zf hr).1
  split at hr
  ·obtain⟨s1,e1,hr⟩:=bU hr
   obtain⟨s2,e2,rfl⟩:=ew hr;rfl
  split at hr
  ·obtain⟨s1,e1,hr⟩:=bU hr
   obtain⟨s2,e2,rfl⟩:=ew hr;rfl
  split at hr
  ·obtain⟨s1,e1,e2⟩:=bU hr
   exact(vt e2).trans (lC ks e1)
  split at hr
  ·obtain⟨s2,e2,rfl⟩:=ew hr
   rfl
  split at hr
  ·obtain⟨s2,e2,rfl⟩:=ew hr
   rfl
  split at hr
  ·exact Pa ks hr
  split at hr
  ·obtain⟨s1,e1,e2⟩:=bU hr
   exact(lC ks e2).trans (vt e1)
  split at hr
  ·exact(rV hr).1
  split at hr
  ·exact(rW _ hr).1
  exact lC ks hr
theorem lC :∀(ks:List Lt) {f:Nat} {st st':aG},aH ks f st=.ok st'→st'.frames=st.frames
 | [],f,st,st',hr=>by
  rw[eD] at hr;injection hr with hr;rw[hr]
 | k::ks,f,st,st',hr=>by
  rw[eu] at hr;obtain⟨s1,e1,e2⟩:=bU hr;exact(lC ks e2).trans (zg k e1)
theorem Pa {i:Nat} {line:Int} {names:List ByteArray} :∀(ks:List Lt) {f:Nat} {st st':aG},iQ i line names ks f st=.ok st'→st'.frames=st.frames
 | [],f,st,st',hr=>by
  unfold iQ at hr;injection hr with hr;rw[hr]
 | [b],f,st,st',hr=>by
  rw[nW] at hr;obtain⟨s1,e1,hr⟩:=bU hr;obtain⟨s2,e2,rfl⟩:=ew hr;rfl
 | a::b::l,f,st,st',hr=>by
  rw[jx] at hr;obtain⟨s1,e1,e2⟩:=bU hr;exact(Pa (b::l) e2).trans (zg a e1)
end
def Still (k:Lt):Prop:=k.hd.kind≠19∧k.hd.kind≠28
mutual
/-- Kids of what acj declare for its own aem declare. -/
def Lt.Quiet:Lt→Prop
 | .mk _ h ks=>((h.kind≠11∧h.kind≠18)→∀k∈ks,Still k)∧Lt.ml ks
def Lt.ml:List Lt→Prop
 | []=>True
 | k::ks=>Lt.Quiet k∧Lt.ml ks
end
mutual
theorem Gi :∀(t:Lt) {f:Nat} {st st':aG},t.Quiet→Still t→aY t f st=.ok st'→st'.names=st.names
 | .mk i h ks,f,mJ,st',hq,hs,hr=>by
  rw[cw] at hr;have e0:(mJ.setOf i f).names=mJ.names:=rfl;rw[←e0];generalize mJ.setOf i f=st at *;unfold Lt.Quiet at hq;obtain⟨hq1,pD⟩:=hq;split at hr
  ·split at hr
   ·injection hr with hr;rw[←hr]
   ·cases hr
  split at hr
  ·exact(zf hr).2
  split at hr
  ·obtain⟨s1,e1,hr⟩:=bU hr
   obtain⟨s2,e2,rfl⟩:=ew hr;rfl
  split at hr
  ·obtain⟨s1,e1,hr⟩:=bU hr
   obtain⟨s2,e2,rfl⟩:=ew hr;rfl
  split at hr
  ·exact absurd ‹h.kind=19› hs.1
  split at hr
  ·obtain⟨s2,e2,rfl⟩:=ew hr
   rfl
  split at hr
  ·obtain⟨s2,e2,rfl⟩:=ew hr
   rfl
  split at hr
  ·exact Pb ks pD (hq1 ⟨by omega,by omega⟩) hr
  split at hr
  ·exact absurd ‹h.kind=28› hs.2
  split at hr
  ·exact(rV hr).2
  split at hr
  ·exact(rW _ hr).2
  exact qI ks pD (hq1 ⟨by assumption,by assumption⟩) hr
theorem qI :∀(ks:List Lt) {f:Nat} {st st':aG},Lt.ml ks→(∀k∈ks,Still k)→aH ks f st=.ok st'→st'.names=st.names
 | [],f,st,st',_,_,hr=>by
  rw[eD] at hr;injection hr with hr;rw[hr]
 | k::ks,f,st,st',hq,hs,hr=>by
  rw[eu] at hr;obtain⟨s1,e1,e2⟩:=bU hr;unfold Lt.ml at hq;exact(qI ks hq.2 (fun x hx=>hs x (bX _ hx)) e2).trans (Gi k hq.1 (hs k (bQ ..)) e1)
theorem Pb {i:Nat} {line:Int} {names:List ByteArray} :∀(ks:List Lt) {f:Nat} {st st':aG},Lt.ml ks→(∀k∈ks,Still k)→iQ i line names ks f st=.ok st'→st'.names=st.names
 | [],f,st,st',_,_,hr=>by
  unfold iQ at hr;injection hr with hr;rw[hr]
 | [b],f,st,st',_,_,hr=>by
  rw[nW] at hr;obtain⟨s1,e1,hr⟩:=bU hr;obtain⟨s2,e2,rfl⟩:=ew hr;rfl
 | a::b::l,f,st,st',hq,hs,hr=>by
  rw[jx] at hr;obtain⟨s1,e1,e2⟩:=bU hr;unfold Lt.ml at hq;exact(Pb (b::l) hq.2 (fun x hx=>hs x (bX _ hx)) e2).trans (Gi a hq.1 (hs a (bQ ..)) e1)
end
def dz (f:Nat) (fr:List fB):List fB:=fr.filter fun x=>!x.loop && decide (x.fn=f)
theorem rX {f:Nat} {x:fB} {fr:List fB} (h:x.loop=true∨x.fn≠f):dz f (x::fr)=dz f fr:=by
 unfold dz;rw[List.filter_cons_of_neg];rcases h with h|h
 ·rw[h];simp
 ·simp[h]
theorem vu {f:Nat} {x:fB} {fr:List fB} (h:x.loop=false) (h2:x.fn=f):dz f (x::fr)=x::dz f fr:=by
 unfold dz;rw[List.filter_cons_of_pos];simp[h,h2]
def gZ (ks:List Lt) (n:Nat):Nat:=((ks.take n).filter isDecl).length
theorem BJ (ks:List Lt):gZ ks 0=0:=rfl
theorem vv {ks:List Lt} {n:Nat} {x:Lt} (h:ks[n]? = some x):gZ ks (n+1)=gZ ks n+if isDecl x then 1 else 0:=by
 unfold gZ;rw[lN _ _ _ h,List.filter_append,bM];congr 1
 cases e:isDecl x<;>simp[e]
theorem Pc (ks:List Lt) {m n:Nat} (h:m≤n):gZ ks m≤gZ ks n:=by
 unfold gZ;have:ks.take m=(ks.take n).take m:=by rw[List.take_take,EM h]
 rw[this];exact((List.take_sublist m (ks.take n)).filter _).length_le
theorem Pd (ks:List Lt) (n:Nat):gZ ks n≤ks.length:=by
 unfold gZ;exact aK (List.length_filter_le _ _) (by rw[my];omega)
theorem Zy {ks:List Lt} {m n:Nat} (h:m≤n):gZ ks m<gZ ks n↔((ks.take n).drop m).any isDecl=true:=by
 have e:ks.take n=ks.take m++(ks.take n).drop m:=by
  conv=>lhs;rw[←KJ m (ks.take n)]
  rw[List.take_take,EM h]
 have e2:gZ ks n=gZ ks m+(((ks.take n).drop m).filter isDecl).length:=by
  conv=>lhs;unfold gZ;rw[e]
  rw[List.filter_append,bM];rfl
 rw[e2,List.any_eq_true];constructor
 ·intro h1
  have h2:0<(((ks.take n).drop m).filter isDecl).length:=by omega
  obtain⟨x,hx⟩:=List.exists_mem_of_length_pos h2;exact⟨x,(wK.1 hx).1,(wK.1 hx).2⟩
 ·rintro⟨x,hx,hd⟩
  have:=List.length_pos_of_mem (wK.2 ⟨hx,hd⟩);omega
def rf (k:Lt):Bool:=decide (k.hd.kind=32)
def lD:List Lt→Nat
 | []=>0
 | k::ks=>if rf k && decide (lD ks=0) then 0 else lD ks+1
theorem rY :∀ks:List Lt,lD ks=0↔ks.all rf=true
 | []=>by simp[lD]
 | k::ks=>by
  rw[lD,sx];have ih:=rY ks;by_cases h:rf k=true
  ·by_cases h2:lD ks=0
   ·rw[ak (by rw[h,h2];rfl),h,ih.1 h2];simp
   ·rw[af (by rw[h];simpa using h2),h]
    have:¬ ks.all rf=true:=fun e=>h2 (ih.2 e)
    simp only[kV];constructor
    ·intro e;omega
    ·intro e;exact absurd e this
  ·have h:rf k=false:=by simpa using h
   rw[af (by rw[h];simp),h]
   simp
theorem tM :∀(ks:List Lt) (j:Nat),j<lD ks↔¬ (ks.drop j).all rf=true
 | [],j=>by simp[lD]
 | k::ks,0=>by
  rw[oT,←rY];omega
 | k::ks,j+1=>by
  rw[EG,←tM ks j,lD];split
  ·rename_i h
   simp only[dk,je] at h;omega
  ·omega
theorem UF {ks:List Lt} {e:Nat} (he:e≤ks.length) (h1:(ks.drop e).all rf=true) (h2:e=0∨∃x,ks[e-1]? = some x∧rf x=false):lD ks=e:=by
 have h3:¬ e<lD ks:=fun h=>(tM ks e).1 h h1
 rcases h2 with rfl | ⟨x,hx,hl⟩
 ·omega
 ·have h4:e-1<lD ks:=(tM ks (e-1)).2 fun h=>by
   have hlt:=(aL.1 hx).1;have:x∈ks.drop (e-1):=by
    rw[kT];exact⟨0,by rw[zS];exact hx⟩
   rw[List.all_eq_true] at h;rw[h x this] at hl;cases hl
  have h5:e-1<ks.length:=(aL.1 hx).1;rcases sw e with h0|h0
  ·subst h0;omega
  ·omega
def rZ (ks:List Lt) (rep:Bool) (j:Nat):Nat:=if rep=true∨j<lD ks then gZ ks j else 0
theorem drop_at {α:Type} {l:List α} {j:Nat} {x:α} (h:l[j]? = some x):l.drop j=x::l.drop (j+1):=by
 obtain⟨hl,he⟩:=aL.1 h;rw[zO hl,he]
theorem UG {ks:List Lt} {a j:Nat} {rep:Bool} {x:Lt} (hj:ks[j]? = some x) (hx:rf x=true):mg ks a j rep=decide (gZ ks (a+1)<rZ ks rep j):=by
 have hall:(ks.drop (j+1)).all rf=(ks.drop j).all rf:=by
  rw[drop_at hj,sx,hx,kV]
 have abu:((ks.drop (j+1)).all fun k=>decide (k.hd.kind=32))=(ks.drop j).all rf:=hall
 unfold mg;rw[abu];have h1:((ks.take j).drop (a+1)).any isDecl=decide (gZ ks (a+1)<gZ ks j):=by
  by_cases h:a+1≤j
  ·have:=Zy (ks:=ks) h
   cases e:((ks.take j).drop (a+1)).any isDecl with
   | true=>rw[e] at this;exact(bF (this.2 rfl)).symm
   | false=>rw[e] at this;exact(bN fun h=>by have:=this.1 h;cases this).symm
  ·have h2:(ks.take j).drop (a+1)=[]:=List.drop_eq_nil_iff.2 (by rw[my];omega)
   rw[h2];have:=Pc ks (show j≤a+1 by omega)
   exact(bN (by omega)).symm
 rw[h1];unfold rZ;cases rep with
 | true=>simp
 | false =>
  have h3:=tM ks j;cases e:(ks.drop j).all rf with
  | true =>
   rw[e] at h3;have h4:¬ j<lD ks:=fun h=>(h3.1 h) rfl
   rw[af (by simpa using h4)]
   simp
  | false =>
   rw[e] at h3;rw[ak (.inr (h3.2 (by simp)))]
   simp
def nZ (ks:List Lt) (rep:Bool) (n:Nat) (s:ByteArray):Option (Nat×Nat) :=
 match bZ ks s with
 | some j=>if j<n then some ((ks.getD j (.mk 0 ⟨0,0,0,0,⟨#[]⟩,[],[]⟩ [])).loc,rZ ks rep j) else none
 | none=>none
theorem Jz (ks:List Lt) (rep:Bool) (s:ByteArray):nZ ks rep 0 s=none:=by
 unfold nZ;split
 ·rw[af (by omega)]
 ·rfl
theorem vw {ks:List Lt} {s:ByteArray} {j:Nat} (h:bZ ks s=some j) :∃x,ks[j]? = some x∧lx s x=true∧j<ks.length:=by
 obtain⟨hlt,he,_⟩:=zL.1 h;exact⟨ks[j],bH hlt,he,hlt⟩
theorem BK (ks:List Lt) (rep:Bool) (s:ByteArray):nZ ks rep ks.length s=(bZ ks s).map fun j=>((ks.getD j (.mk 0 ⟨0,0,0,0,⟨#[]⟩,[],[]⟩ [])).loc,rZ ks rep j):=by
 unfold nZ;cases h:bZ ks s with
 | none=>rfl
 | some j =>
  obtain⟨_,_,_,hlt⟩:=vw h;exact ak hlt
theorem vx {ks:List Lt} {rep:Bool} {n:Nat} {x:Lt} (hx:ks[n]? = some x) {s:ByteArray} (h:lx s x=false):nZ ks rep (n+1) s=nZ ks rep n s:=by
 unfold nZ;cases h1:bZ ks s with
 | none=>rfl
 | some j =>
  obtain⟨y,hy,hl,_⟩:=vw h1;have:j≠n:=fun e=>by
   subst e;rw[hx] at hy;injection hy with hy;rw[hy,hl] at h;cases h
  dsimp only
  by_cases h2:j<n
  ·rw[ak h2,ak (by omega)]
  ·rw[af h2,af (by omega)]
theorem JA {ks:List Lt} {rep:Bool} {n:Nat} {x:Lt} (hx:ks[n]? = some x) (h:rf x=true) (hn:¬∃j,bZ ks x.hd.s=some j∧j<n):nZ ks rep (n+1) x.hd.s=some (x.loc,rZ ks rep n):=by
 have hi:lx x.hd.s x=true:=by unfold lx;unfold rf at h;rw[h];simp
 have h1:bZ ks x.hd.s=some n:=by
  cases e:bZ ks x.hd.s with
  | none =>
   unfold bZ at e;rw[KF] at e;rw[e x (ba hx)] at hi;cases hi
  | some j =>
   have hj:¬ j<n:=fun hj=>hn ⟨j,e,hj⟩
   obtain⟨hlt,he,adw⟩:=zL.1 e;by_cases h2:n<j
   ·have:=adw n h2
    rw[(aL.1 hx).2] at this;rw[hi] at this;exact absurd rfl this
   ·congr 1;omega
 unfold nZ;rw[h1];dsimp only
 rw[ak (by omega),j5,hx]
 rfl
theorem Pe {ks:List Lt} {rep:Bool} {n:Nat} {s:ByteArray}:(nZ ks rep n s).isSome=true↔∃j,bZ ks s=some j∧j<n:=by
 unfold nZ;cases h:bZ ks s with
 | none=>simp
 | some j =>
  dsimp only
  by_cases h2:j<n
  ·rw[ak h2];simp[h2]
  ·rw[af h2]
   simp[h2]
theorem oC {node f:Nat} {s:ByteArray} {line:Int} {st:aG} :∀fr:List fB,db node f s line st fr=match (dz f fr).find? fun x=>(bZ x.kids s).isSome with
  | none=>.error (8,line)
  | some x=>match bZ x.kids s with
   | none=>.error (8,line)
   | some j=>if mg x.kids x.at_ j x.rep then .error (10,line) else .ok (st.dh node (4,((x.kids.getD j (.mk 0 ⟨0,0,0,0,⟨#[]⟩,[],[]⟩ [])).loc:Int)))
 | []=>rfl
 | x::fr=>by
  rw[db];by_cases h:x.loop=true∨x.fn≠f
  ·rw[ak h,rX h]
   exact oC fr
  ·rw[af h]
   rw[sy,Decidable.not_not] at h;have h1:x.loop=false:=by simpa using h.1
   rw[vu h1 h.2,kU];cases e:bZ x.kids s with
   | none=>exact oC fr
   | some j =>
    dsimp only[Option.isSome]
    rw[e]
def cG (f:Nat) (fr:List fB):Int:=match fr.find? (fun x=>x.loop && decide (x.fn=f)) with|none=>-1|some x=>(x.node:Int)
theorem vy (f i:Nat) (fr:List fB):cG f (⟨f,i,0,true,false,[]⟩::fr)=(i:Int):=by
 unfold cG;rw[kU];simp
theorem vz {f:Nat} {x:fB} (h:x.loop=false) (fr:List fB):cG f (x::fr)=cG f fr:=by
 unfold cG;rw[kU,h];rfl
theorem Pf (node f:Nat) (line:Int) (st:aG):dX node f line st=if cG f st.frames = -1 then .error (8,line) else .ok (st.dh node (4,cG f st.frames)):=by
 unfold dX cG;cases st.frames.find? (fun x=>x.loop && decide (x.fn=f)) with
 | none=>rfl
 | some x=>exact(af (by show ¬ (x.node:Int) = -1;omega)).symm
theorem Pg {fr:List fB} {f:Nat} {s:ByteArray}:(∃x∈fr,x.loop=false∧x.fn=f∧(bZ x.kids s).isSome)↔((dz f fr).find? fun x=>(bZ x.kids s).isSome).isSome=true:=by
 rw[List.find?_isSome];unfold dz;constructor
 ·rintro⟨x,hx,h1,h2,h3⟩
  exact⟨x,wK.2 ⟨hx,by simp[h1,h2]⟩,h3⟩
 ·rintro⟨x,hx,h3⟩
  obtain⟨h1,h2⟩:=wK.1 hx;simp only[dk,Bool.not_eq_true',je] at h2;exact⟨x,h1,h2.1,h2.2,h3⟩
end Go.Proofs.YteflkdlaoiijbaaGreatDoor
namespace Go.Proofs.YteflkdlaoiijbaaGreatDoor
open Go.RowKit
structure cJ where
 fn:Nat
 blk:Nat
 iF:List ju
def Gj (l:cJ):List Value:=[.int .i64 (l.fn:Int),.map (some l.blk)]
theorem zh (l:cJ):(Gj l).length=2:=rfl
def j4 (iF:List ju) (s:ByteArray):Option Value:=(iF.find? fun n=>decide (n.s=s)).map fun n=>.int .i64 (n.i:Int)
def mL (L:List cJ):List ju:=L.flatMap cJ.iF
def grow (a:List ju):List cJ→List cJ
 | []=>[]
 | l::r=>{ l with iF:=a++l.iF}::r
theorem jU (L:List cJ):grow [] L=L:=by cases L<;>rfl
theorem cy (a:List ju) (L:List cJ):(grow a L).length=L.length:=by cases L<;>rfl
theorem grow_grow (a b:List ju) (L:List cJ):grow b (grow a L)=grow (b++a) L:=by
 cases L with
 | nil=>rfl
 | cons l r=>simp[grow,eS]
theorem JB {a:List ju} {L:List cJ} (h:L≠[]):mL (grow a L)=a++mL L:=by
 cases L with
 | nil=>exact absurd rfl h
 | cons l r=>simp[grow,mL,eS]
def ey:List cJ→Option Nat
 | []=>none
 | l::_=>some l.blk
theorem oD (a:List ju) (L:List cJ):ey (grow a L)=ey L:=by cases L<;>rfl
theorem vA (a:List ju) (L:List cJ):(grow a L).map cJ.blk=L.map cJ.blk:=by cases L<;>rfl
theorem r9 (s:ByteArray) :∀L:List cJ,(mL L).find? (fun n=>decide (n.s=s))=(L.find? fun l=>(j4 l.iF s).isSome).bind fun l=>l.iF.find? fun n=>decide (n.s=s)
 | []=>rfl
 | l::L=>by
  show(l.iF++mL L).find? _=_
  rw[List.find?_append,kU];unfold j4;cases e:l.iF.find? fun n=>decide (n.s=s) with
  | none =>
   dsimp only[Option.map,Option.isSome]
   rw[Option.none_or];exact r9 s L
  | some n =>
   dsimp only[Option.map,Option.isSome]
   rw[Option.some_or];exact e.symm
structure cX (W:World) (B:Nat) (v:Value) (L:List cJ):Prop where
 row:W.ownsRow B 238 2 v L.length (L.reverse.flatMap Gj)
 maps :∀l∈L,dG Tryz.prog 9 W l.blk l.iF.length (j4 l.iF)∧B≤l.blk
 own :∀l∈L,∀n∈l.iF,n.fn=l.fn
 apart:(L.map cJ.blk).Nodup
def fH (ks:List Lt) (rep:Bool) (n:Nat) (s:ByteArray):Option Value:=(nZ ks rep n s).map fun p=>.agg #[.int .i64 (p.1:Int),.int .i64 (p.2:Int)]
def b9 (W:World) (B:Nat):List (Nat×Nat×(ByteArray→Option Value))→List Nat→Value→Prop
 | [],ms,v=>ms=[]∧v=.pointer none
 | x::fs,ms,v=>∃k p m CE,v=.pointer (some ⟨k,0,none⟩)∧ms=m::CE∧B≤k∧W.heap[k]? = some (.cells #[.pointer p,.map (some m),.int .i64 (x.1:Int)] 195 (0,0))∧dG Tryz.prog 9 W m x.2.1 x.2.2∧B≤m∧(∀a,p=some a→a.block<k)∧b9 W B fs CE (.pointer p)
def Ks (x:fB):Nat×Nat×(ByteArray→Option Value):=(gZ x.kids (x.at_+1),x.kids.length,fH x.kids x.rep x.kids.length)
def pe (W:World) (B:Nat) (fs:List fB) (ms:List Nat) (v:Value):Prop:=b9 W B (fs.map Ks) ms v
structure cN (B ob:Nat) (v:Value) (n:Nat) (top:Option Nat) (W W':World):Prop where
 below:Below B W W'
 cells :∀(k:Nat) c (e:TypeId) fz,W.heap[k]? = some (.cells c e fz)→e∉[52,61,59,57,87,3,238]→W'.heap[k]? = some (.cells c e fz)
 ints :∀(k:Nat) c fz,W.heap[k]? = some (.cells c 3 fz)→k≠ob→W'.heap[k]? = some (.cells c 3 fz)
 lvl :∀u m xs,W.ownsRow B 238 2 u m xs→(u.ownBlock=v.ownBlock→m≤n)→W'.ownsRow B 238 2 u m xs
 maps :∀(k:Nat) es c,W.heap[k]? = some (.map es c)→some k≠top→W'.heap[k]? = some (.map es c)
section
variable {B ob n:Nat} {v:Value} {top:Option Nat} {W W' W2:World}
theorem cN.refl (B ob:Nat) (v:Value) (n:Nat) (top:Option Nat) (W:World):cN B ob v n top W W:=⟨Below.refl _ _,fun _ _ _ _ h _=>h,fun _ _ _ h _=>h,fun _ _ _ h _=>h,fun _ _ _ h _=>h⟩
theorem cN.trans (h:cN B ob v n top W W') (k:cN B ob v n top W' W2):cN B ob v n top W W2 :=
 ⟨h.below.trans k.below,fun i c e fz hi he=>k.cells i c e fz (h.cells i c e fz hi he) he,fun i c fz hi ho=>k.ints i c fz (h.ints i c fz hi ho) ho,fun u m xs hu hm=>k.lvl u m xs (h.lvl u m xs hu hm) hm,fun i es c hi ht=>k.maps i es c (h.maps i es c hi ht) ht⟩
theorem cN.Gk (h:cN B ob v n none W W') (top:Option Nat):cN B ob v n top W W':=⟨h.below,h.cells,h.ints,h.lvl,fun k es c hk _=>h.maps k es c hk (by simp)⟩
theorem cN.vq {E:List Nat} (h:Fr E W W') (hE :∀e∈E,e∈[52,61,59,57,87]) (hb:Below B W W'):cN B ob v n top W W' :=
 ⟨hb,fun k c e fz hk he=>h.cells k c e fz hk fun hm=>he (gh [3,238] (hE e hm)),
  fun k c fz hk _=>h.cells k c _ fz hk fun hm=>absurd (hE _ hm) (by decide),fun u m xs hu _=>h.row hu fun hm=>absurd (hE _ hm) (by decide),fun k es c hk _=>h.maps k es c hk⟩
theorem cN.bK (hb:Below W.heap.size W W') (hB:B≤W.heap.size):cN B ob v n top W W':=cN.vq (E:=[]) (Fr.ae hb) (fun _ h=>by cases h) (hb.mono hB)
theorem cN.abv {cs:Array Value} {fz:Nat×Nat} (h:W.heap[ob]? = some (.cells cs 3 fz)) (hB:B≤ob) (j:Nat) (x:Value):cN B ob v n top W (W.setCell ⟨ob,j,none⟩ x):=by
 have hf:Fr [3] W (W.setCell ⟨ob,j,none⟩ x):=Fr.set h (by decide) j x
 exact⟨(Below.refl B W).setCell (p:=⟨ob,j,none⟩) hB x,fun k c e fz hk he=>hf.cells k c e fz hk fun hm=>he (by rw[bI] at hm;subst hm;decide),
  fun k c fz hk ho=>(Below.heap_setCell W ⟨ob,j,none⟩ x k ho).trans hk,fun u m xs hu _=>hf.row hu (by decide),fun k es c hk _=>hf.maps k es c hk⟩
theorem cN.of_map {b:Nat} (hg:W.grownBy W' (some b)) (hm :∃es c,W.heap[b]? = some (.map es c)) (hB:B≤b) (hW:B≤W.heap.size):cN B ob v n (some b) W W':=by
 obtain⟨es,c,hb⟩:=hm;have key :∀(k:Nat) (o:Obj),W.heap[k]? = some o→(∀es c,o ≠ .map es c)→W'.heap[k]? = some o:=fun k o hk ho=>(hg.block k (aJ.1 hk).1 fun e=>by
  injection e with e;subst e;rw[hb] at hk;injection hk with hk;exact ho _ _ hk.symm).trans hk
 refine⟨⟨hg.os,hg.tape,hg.output,hg.size,fun k hk=>hg.block k (by omega) fun e=>by injection e with e;omega⟩,fun k c e fz hk _=>key k _ hk (fun _ _ e=>by cases e),fun k c fz hk _=>key k _ hk (fun _ _ e=>by cases e),fun u m xs hu _=>?_,fun k es c hk ht=>(hg.block k (aJ.1 hk).1 ht).trans hk⟩
 refine⟨hu.1,?_⟩;rcases hu.2 with hn | ⟨g,cap,cur,rfl,hB,hg,rest⟩
 ·exact .inl hn
 ·exact .inr ⟨g,cap,cur,rfl,hB,key g _ hg (fun _ _ e=>by cases e),rest⟩
theorem cN.map {P:Program} {k:TypeId} {b m:Nat} {f:ByteArray→Option Value} (h:cN B ob v n top W W') (hm:dG P k W b m f) (ht:some b≠top):dG P k W' b m f:=by
 obtain⟨es,c,h1⟩:=hm.isMap;exact hm.same ((h.maps b es c h1 ht).trans h1.symm)
theorem cX.jq {L:List cJ} (h:cX W B v L) (k:cN B ob v n none W W') (hn:L.length≤n):cX W' B v L :=
 ⟨k.lvl _ _ _ h.row fun _=>hn,fun l hl=>⟨k.map (h.maps l hl).1 (by simp),(h.maps l hl).2⟩,h.own,h.apart⟩
theorem cX.more {a:List ju} {l:cJ} {r:List cJ} (h:cX W B v (l::r)) (k:cN B ob v n (some l.blk) W W') (hn:(l::r).length≤n) (hm:dG Tryz.prog 9 W' l.blk (a++l.iF).length (j4 (a++l.iF))) (ha :∀x∈a,x.fn=l.fn):cX W' B v (grow a (l::r)):=by
 refine⟨?_,fun u hu=>?_,fun u hu x hx=>?_,?_⟩
 ·have:=k.lvl _ _ _ h.row fun _=>hn
  rw[cy];rw[EJ,pU] at this;unfold grow;rw[EJ,pU];exact this
 ·rcases bb.1 hu with rfl|hu
  ·exact⟨hm,(h.maps l (bQ ..)).2⟩
  ·have h1:=h.maps u (bX _ hu)
   refine⟨k.map h1.1 fun e=>?_,h1.2⟩
   injection e with e;have h2:=h.apart;rw[gi,mz] at h2;exact h2.1 (e▸j6 hu)
 ·rcases bb.1 hu with rfl|hu
  ·rcases dd.1 hx with hx|hx
   ·exact ha x hx
   ·exact h.own l (bQ ..) x hx
  ·exact h.own u (bX _ hu) x hx
 ·rw[vA]
  exact h.apart
theorem b9.jq (k:cN B ob v n top W W') :∀{fs:List (Nat×Nat×(ByteArray→Option Value))} {ms:List Nat} {p:Value},b9 W B fs ms p→(∀m∈ms,some m≠top)→b9 W' B fs ms p
 | [],_,_,h,_=>h
 | x::fs,ms,p,h,ht=>by
  obtain⟨k',p',m,CE,rfl,rfl,h1,h2,h3,h4,h5,h6⟩:=h;exact⟨k',p',m,CE,rfl,rfl,h1,k.cells k' _ _ _ h2 (by decide),k.map h3 (ht m (bQ ..)),h4,h5,b9.jq k h6 fun m hm=>ht m (bX _ hm)⟩
theorem b9.later {fs:List (Nat×Nat×(ByteArray→Option Value))} {ms:List Nat} {p:Value} (h:b9 W B fs ms p) (hb:Below W.heap.size W W'):b9 W' B fs ms p:=by
 by_cases hB:B≤W.heap.size
 ·exact b9.jq (ob:=0) (v:=.nilIface) (n:=0) (top:=none) (cN.bK hb hB) h (by simp)
 ·cases fs with
  | nil=>exact h
  | cons x fs =>
   obtain⟨k,p',m,CE,rfl,rfl,h1,h2,_⟩:=h;have:=(aJ.1 h2).1;omega
theorem pe.jq (k:cN B ob v n top W W') {fs:List fB} {ms:List Nat} {p:Value} (h:pe W B fs ms p) (ht :∀m∈ms,some m≠top):pe W' B fs ms p:=b9.jq k h ht
theorem b9.form {fs:List (Nat×Nat×(ByteArray→Option Value))} {ms:List Nat} {p:Value} (h:b9 W B fs ms p) :∃a,p=.pointer a:=by
 cases fs with
 | nil=>exact⟨none,h.2⟩
 | cons x fs=>obtain⟨k,_,_,_,rfl,_⟩:=h;exact⟨_,rfl⟩
end
structure pg (W:World) (B f:Nat) (p lv:Value) (ms:List Nat) (L:List cJ) (st:aG):Prop where
 fC:cX W B lv L
 blk:pe W B (dz f st.frames) ms p
 names:st.names=mL L
 apart :∀m∈ms,∀l∈L,m≠l.blk
def D8 (W:World) (v:Value) (n k:Int):Prop:=∃g,v=.iface 83 (.pointer (some ⟨g,0,none⟩))∧W.heap[g]? = some (.cells #[.int .i64 n,.iface 79 (.int .i64 k)] 85 (0,0))
def jV (W:World) (B b:Nat) (nv:Value) (N:Nat) (st:aG) (ub ob:Nat):Prop:=∃fv L,e8 W B b nv N st fv ub ob L
def aq (B b:Nat) (nv:Value) (N ub ob:Nat) (lv:Value) (L:List cJ) (st:aG) (r:Rs aG) (w:World) (e:Ending) (w':World):Prop :=
 Below B w w'∧match r with
 | .ok st'=>e=.returned .nilIface∧jV w' B b nv N st' ub ob∧cN B ob lv L.length (ey L) w w'∧∃a,st'.names=a++st.names∧(L=[]→a=[])∧cX w' B lv (grow a L)
 | .error x=>∃v,e=.returned v∧D8 w' v x.2 x.1
theorem pg.on {W W':World} {B ob f:Nat} {p lv:Value} {ms:List Nat} {L:List cJ} {st st':aG} {a:List ju} (h:pg W B f p lv ms L st) (k:cN B ob lv L.length (ey L) W W') (hl:cX W' B lv (grow a L)) (hn:st'.names=a++st.names) (he:L=[]→a=[]) (hf:st'.frames=st.frames):pg W' B f p lv ms (grow a L) st':=by
 refine⟨hl,?_,?_,fun m hm l hl=>?_⟩
 ·rw[hf]
  refine h.blk.jq k fun m hm e=>?_
  cases L with
  | nil=>cases e
  | cons l r =>
   injection e with e;exact h.apart m hm l (bQ ..) e
 ·rw[hn,h.names]
  by_cases e:L=[]
  ·rw[he e,jU];rfl
  ·exact(JB e).symm
 ·have h1:l.blk∈(grow a L).map cJ.blk:=j6 hl
  rw[vA] at h1;obtain⟨u,hu,e⟩:=jA.1 h1;rw[←e];exact h.apart m hm u hu
end Go.Proofs.YteflkdlaoiijbaaGreatDoor
namespace Go.Proofs.YteflkdlaoiijbaaGreatDoor
open Go.RowKit
def gN (B b:Nat) (nv:Value) (N ub ob:Nat) (r:Rs aG) (w:World) (e:Ending) (w':World):Prop :=
 Below B w w'∧match r with
 | .ok st'=>e=.returned .nilIface∧jV w' B b nv N st' ub ob∧Fr [52,61,59,57,87] w w'
 | .error x=>∃v,e=.returned v∧D8 w' v x.2 x.1
theorem e8.mV {W:World} {B b:Nat} {nv:Value} {N:Nat} {st:aG} {fv:Value} {ub ob:Nat} {L:List mP} (h:e8 W B b nv N st fv ub ob L):b<W.heap.size∧ub<W.heap.size∧ob<W.heap.size:=⟨(aJ.1 h.blk).1,(h.uses.lt ub rfl).2,(h.wq.lt ob rfl).2⟩
theorem eF {T:List Nd} {B:Nat} {nv:Value} (b node:Nat) (h:Nd) (k:Int) (w:World) (hT:wo w B nv T) (c0:w.cell? ⟨b,0,none⟩=some nv) (hx:T[node]? = some h) :
  Calls Tryz.prog 108 #[.pointer (some ⟨b,0,none⟩),.int .i64 (node:Int),.iface 79 (.int .i64 k)] w fun e w'=>∃v,e=.returned v∧(∃g,v=.iface 83 (.pointer (some ⟨g,0,none⟩)))∧D8 w' v h.line k∧Below w.heap.size w w':=by
 obtain⟨bk,o,c,rfl,eQ,ca,hn⟩:=hT.nodes;obtain⟨zI,zJ,fM,_,_⟩:=hn node h hx;have jG:node<T.length:=(aL.1 hx).1;have d1:=fM.c1;have pS:=hT.few;clear fM hn hT;go_enter Tryz.func108,Tryz.ntmps108
 go_wp2_with fail
 go_ret
 exact⟨_,rfl,⟨_,rfl⟩,⟨_,rfl,heap_alloc_new _ _⟩,(Below.refl _ _).alloc (ai _) _⟩
theorem sU {T:List Nd} {B:Nat} {nv:Value} (b node:Nat) (h:Nd) (w:World) (hT:wo w B nv T) (c0:w.cell? ⟨b,0,none⟩=some nv) (hx:T[node]? = some h) :
  Calls Tryz.prog 115 #[.pointer (some ⟨b,0,none⟩),.int .i64 (node:Int)] w fun e w'=>e=.returned (.bool (decide (h.kind=19) || decide (h.kind=28)))∧w=w':=by
 obtain⟨bk,o,c,rfl,eQ,ca,hn⟩:=hT.nodes;obtain⟨zI,zJ,fM,_,_⟩:=hn node h hx;have jG:node<T.length:=(aL.1 hx).1;have d0:=fM.c0;have pS:=hT.few;clear fM hn hT;have e1:(h.kind == 19)=decide (h.kind=19):=rfl;have e2:(h.kind == 28)=decide (h.kind=28):=rfl;cases h1:decide (h.kind=19) with
 | true =>
  rw[h1] at e1;go_enter Tryz.func115,Tryz.ntmps115
  go_wp2_with fail
  go_ret
  exact⟨rfl,rfl⟩
 | false =>
  rw[h1] at e1;cases h2:decide (h.kind=28) with
  | true =>
   rw[h2] at e2;go_enter Tryz.func115,Tryz.ntmps115
   go_wp2_with fail
   go_ret
   exact⟨rfl,rfl⟩
  | false =>
   rw[h2] at e2;go_enter Tryz.func115,Tryz.ntmps115
   go_wp2_with fail
   go_ret
   exact⟨rfl,rfl⟩
theorem Below.two {W:World} (o o':Obj):Below W.heap.size W ((W.alloc o).alloc o'):=((Below.refl _ _).alloc (ai _) o).alloc (by rw[an];omega) o'
theorem mn (f:Nat) (loop l:Int) (pa la:Option Addr) (ln lc:Nat) (w:World) :
  Calls Tryz.prog 57 #[.agg #[.int .i64 (f:Int),.int .i64 loop,.pointer pa,.slice la ln lc],.int .i64 l] w fun e w'=>e=.returned (.agg #[.int .i64 (f:Int),.int .i64 l,.pointer pa,.slice la ln lc])∧Below w.heap.size w w':=by
 go_enter Tryz.func57,Tryz.ntmps57
 go_wp2_with fail
 exact bodyPost_ret (v:=.agg #[.int .i64 (f:Int),.int .i64 l,.pointer pa,.slice la ln lc]) (by simp[results,Tryz.results57,go_sem]) rfl ⟨rfl,Below.two _ _⟩
theorem iS {B b:Nat} {nv:Value} {N ub ob:Nat} {w w1 w2:World} {line k:Int} {v:Value} (hb:Below B w w1) (hB:B≤w1.heap.size) (h2:Below w1.heap.size w1 w2) (hf:D8 w2 v line k):gN B b nv N ub ob (.error (k,line)) w (.returned v) w2 :=
 ⟨hb.trans (h2.mono hB),_,rfl,hf⟩
theorem Ph {T:List Nd} {B:Nat} {nv:Value} {ub ob:Nat} (b node f:Nat) (h:Nd) (loop:Int) (pa la:Option Addr) (ln lc:Nat) (st:aG) (w:World) (hT:wo w B nv T) (hw:jV w B b nv T.length st ub ob) (hx:T[node]? = some h) (hf:f<st.fns.length) :
  Calls Tryz.prog 53 #[.pointer (some ⟨b,0,none⟩),.int .i64 (node:Int),.agg #[.int .i64 (f:Int),.int .i64 loop,.pointer pa,.slice la ln lc]] w (gN B b nv T.length ub ob (if (st.fn f).many then .ok st else .error (14,h.line)) w):=by
 obtain⟨fv,FL,hw⟩:=hw;obtain⟨t,ht⟩:=hw.BG hf;obtain⟨g,c,rfl,Zz,rr,te⟩:=hw.fns.form ht;have hfn:=(hw.sT ht).2;have xt:=hw.len;have Pj:f<FL.length:=by omega
 obtain⟨hbl,oN,s9⟩:=hw.mV;have ca:B≤w.heap.size:=aK hw.pos (fx hbl);have d0:w.cell? ⟨b,0,none⟩=some nv:=ab hw.blk 0;have d1:w.cell? ⟨b,1,none⟩=some (.slice (some ⟨g,0,none⟩) FL.length c):=ab hw.blk 1;have e3:w.cell? ⟨g,f*6+3,none⟩=some (.bool t.1.many):=(te 3 (by omega)).1
 rw[hfn];have HW:=aa hw;have HT:=aa hT;have HX:=aa hx;clear hw hT hx hfn ht te xt;cases hm:t.1.many with
 | true =>
  rw[hm] at e3;go_enter Tryz.func53,Tryz.ntmps53
  go_wp2_with fail
  go_region
  go_wp2_with fail
  go_ret
  exact⟨((Below.refl B w).alloc ca _).drew,rfl,⟨_,_,(HW.out.alloc _).drew⟩,(Fr.alloc _).drew⟩
 | false =>
  rw[hm] at e3;have HC:=aa (ab (HW.out.alloc (.cells #[.int .i64 (f:Int),.int .i64 loop,.pointer pa,.slice la ln lc] 92)).drew.blk 0);have A9:=aa (HT.out.below (((Below.refl B w).alloc ca (.cells #[.int .i64 (f:Int),.int .i64 loop,.pointer pa,.slice la ln lc] 92)).drew));go_enter Tryz.func53,Tryz.ntmps53
  go_wp2_with fail
  go_region
  go_wp2_with fail
  refine(eF b node _ _ _ A9.out HC.out HX.out).mono ?_;rintro e w1 ⟨v,rfl,⟨g1,rfl⟩,h1,h2⟩;have H1:=aa h1;have H2:=aa h2;clear h1 h2;go_wp2_with fail
  go_ret
  exact iS (((Below.refl B w).alloc ca _).drew) (by simp;omega) H2.out H1.out
def gC (w:World) (s:ByteArray) (fs:List (Nat×Nat×(ByteArray→Option Value))) (pv xP:Value):Prop :=
 match fs.find? fun x=>(x.2.2 s).isSome with
 | none=>pv=.pointer none∧xP=.agg #[.int .i64 0,.int .i64 0]
 | some x=>∃k,pv=.pointer (some ⟨k,0,none⟩)∧x.2.2 s=some xP∧w.cell? ⟨k,2,none⟩=some (.int .i64 (x.1:Int))∧k<w.heap.size
def abw:Value→Nat
 | .pointer (some a)=>a.block+1
 | _=>0
def Pk (fs:List (Nat×Nat×(ByteArray→Option Value))):Prop:=∀x∈fs,∀s v,x.2.2 s=some v→∃a b,v=.agg #[.int .i64 a,.int .i64 b]
theorem Pl (w:World):(zeroValue 199).run Tryz.prog w=.ok (.agg #[.int .i64 0,.int .i64 0]) w:=by kernel_rfl
theorem BM {B:Nat} (fs:List (Nat×Nat×(ByteArray→Option Value))) (ms:List Nat) (p:Value) (s:ByteArray) (w:World) (hc:b9 w B fs ms p) (hs:s.size≤maxLen) (hl:Pk fs) :
  Calls Tryz.prog 116 #[p,.string s] w fun e w'=>∃pa a b,e=.returned (.tuple #[.pointer pa,.agg #[.int .i64 a,.int .i64 b]])∧gC w s fs (.pointer pa) (.agg #[.int .i64 a,.int .i64 b])∧Below w.heap.size w w':=by
 obtain⟨a0,rfl⟩:=hc.form;have HC:=aa hc;have HL:=aa hl;clear hc hl;go_enter Tryz.func116,Tryz.ntmps116
 go_wp2_with fail
 have hz:=heap_alloc_new w (.cells #[.int .i64 0,.int .i64 0] 199);have z0:=dC w #[.int .i64 0,.int .i64 0] 199 0;have z1:=dC w #[.int .i64 0,.int .i64 0] 199 1;have y0:=frozen_of_row (w.alloc (.cells #[.int .i64 0,.int .i64 0] 199)) w.heap.size 0 _ _ (heap_alloc_new w (.cells #[.int .i64 0,.int .i64 0] 199));have y1:=frozen_of_row (w.alloc (.cells #[.int .i64 0,.int .i64 0] 199)) w.heap.size 1 _ _ (heap_alloc_new w (.cells #[.int .i64 0,.int .i64 0] 199));replace z0:_=some (Value.int .i64 0):=z0;replace z1:_=some (Value.int .i64 0):=z1;have dZ:w.heap.size<(w.alloc (.cells #[.int .i64 0,.int .i64 0] 199)).heap.size:=by rw[an];omega
 have Pm:=aa ((Below.refl w.heap.size w).alloc (ai _) (.cells #[.int .i64 0,.int .i64 0] 199));generalize hW0:w.alloc (.cells #[.int .i64 0,.int .i64 0] 199)=W0 at *;have HW0:=aa hW0;clear hW0;go_loopw [0] (fun t wr=>∃cs CE,b9 w B cs CE t∧fs.find? (fun x=>(x.2.2 s).isSome)=cs.find? (fun x=>(x.2.2 s).isSome)∧Pk cs∧Below W0.heap.size W0 wr) (fun t _=>abw t)
 case atStart=>exact⟨fs,ms,HC.out,rfl,HL.out,Below.refl _ _⟩
 case round =>
  obtain⟨cs,CE,hc,hf,hl,hb⟩:=hrel;have k0:wr.cell? ⟨w.heap.size,0,none⟩=some (.int .i64 0):=(hb.cell (p:=⟨w.heap.size,0,none⟩) dZ).trans z0;have k1:wr.cell? ⟨w.heap.size,1,none⟩=some (.int .i64 0):=(hb.cell (p:=⟨w.heap.size,1,none⟩) dZ).trans z1;have j0:wr.frozen? ⟨w.heap.size,0,none⟩=false:=(hb.frozen (p:=⟨w.heap.size,0,none⟩) dZ).trans y0;have j1:wr.frozen? ⟨w.heap.size,1,none⟩=false:=(hb.frozen (p:=⟨w.heap.size,1,none⟩) dZ).trans y1;have hblk:=(hb.block w.heap.size dZ).trans hz;have JC:=aa hblk;clear hblk hz;have hwr:w.heap.size<wr.heap.size:=cC dZ hb.size;have HF:=aa hf;have HB:=aa hb;have HLc:=aa hl;clear hf hb hl z0 z1 y0 y1;cases cs with
  | nil =>
   obtain⟨rfl,rfl⟩:=hc;go_wp2_with fail
   have lL:=aa (((Pm.out.trans (HB.out.mono (fx dZ))).setCell (p:=⟨w.heap.size,0,none⟩) (ai _) (.int .i64 0)).setCell (p:=⟨w.heap.size,1,none⟩) (ai _) (.int .i64 0));refine bodyPost_ret (v:=.tuple #[.pointer none,.agg #[.int .i64 0,.int .i64 0]]) (by simp[results,Tryz.results116,go_sem,k0,k1]) rfl ⟨none,0,0,rfl,?_,lL.out⟩
   unfold gC;rw[HF.out];exact⟨rfl,rfl⟩
  | cons x cs =>
   obtain⟨k,p,m,ms2,rfl,rfl,h1,h2,h3,h4,h5,h6⟩:=hc;have hk:k<w.heap.size:=(aJ.1 h2).1;have hbr:=Pm.out.trans (HB.out.mono (fx dZ));have h2':=(hbr.block k hk).trans h2;have hkr:k<wr.heap.size:=cC hk hbr.size;have e0:wr.cell? ⟨k,0,none⟩=some (.pointer p):=ab h2' 0;have e1:wr.cell? ⟨k,1,none⟩=some (.map (some m)):=ab h2' 1;have hm:dG Tryz.prog 9 wr m x.2.1 x.2.2:=h3.same (hbr.block m h3.lt);have hrun:=hm.look (t:=193) (e:=199) Tryz.underlying9 Tryz.underlying193 (Pl wr) rfl s hs;have HX:=aa h6;have H5:=aa h5;have H2:=aa h2;clear h2 h2' h3 h6 h5 hm hbr;cases hg:x.2.2 s with
   | none =>
    rw[hg] at hrun;replace hrun:_=Result.ok (Value.tuple #[.agg #[.int .i64 0,.int .i64 0],.bool false]) wr:=hrun;go_wp2_with fail
    refine⟨⟨cs,ms2,HX.out,?_,fun y hy=>HLc.out y (bX _ hy),HB.out.alloc HB.out.size _⟩,?_⟩
    ·rw[HF.out,kU,hg]
     rfl
    ·cases p with
     | none=>exact Nat.succ_pos _
     | some a=>exact Nat.succ_lt_succ (H5.out a rfl)
   | some v =>
    obtain⟨a,b,rfl⟩:=HLc.out x (bQ ..) s v hg;rw[hg] at hrun;replace hrun:_=Result.ok (Value.tuple #[.agg #[.int .i64 a,.int .i64 b],.bool true]) wr:=hrun;go_wp2_with fail
    go_region
    go_wp2_with fail
    have lL:=aa (((((Pm.out.trans (HB.out.mono (fx dZ))).setCell (p:=⟨w.heap.size,0,none⟩) (ai _) (.int .i64 a)).setCell (p:=⟨w.heap.size,1,none⟩) (ai _) (.int .i64 b)).alloc (by simp;omega) (.cells #[.int .i64 a,.int .i64 b] 199)).drew)
    have hq:=(Below.heap_alloc ((wr.setCell ⟨w.heap.size,0,none⟩ (.int .i64 a)).setCell ⟨w.heap.size,1,none⟩ (.int .i64 b)) (.cells #[.int .i64 a,.int .i64 b] 199) w.heap.size (by simp;omega)).trans (bn (bn JC.out 0 (.int .i64 a)) 1 (.int .i64 b))
    have q0:=ab hq 0;have q1:=ab hq 1;replace q0:_=some (Value.int .i64 a):=q0;replace q1:_=some (Value.int .i64 b):=q1;refine bodyPost_ret (v:=.tuple #[.pointer (some ⟨k,0,none⟩),.agg #[.int .i64 a,.int .i64 b]]) (by simp[results,Tryz.results116,go_sem,q0,q1]) rfl ⟨_,a,b,rfl,?_,lL.out⟩
    unfold gC;rw[HF.out,kU,hg];exact⟨k,rfl,hg,ab H2.out 2,hk⟩
theorem BN {T:List Nd} {B:Nat} {nv:Value} {ub ob:Nat} (b node f:Nat) (h:Nd) (loop:Int) (pa la:Option Addr) (ln lc:Nat) (st:aG) (w:World) (hT:wo w B nv T) (hw:jV w B b nv T.length st ub ob) (hx:T[node]? = some h) (hl:loop=cG f st.frames) :
  Calls Tryz.prog 58 #[.pointer (some ⟨b,0,none⟩),.int .i64 (node:Int),.agg #[.int .i64 (f:Int),.int .i64 loop,.pointer pa,.slice la ln lc]] w (gN B b nv T.length ub ob (dX node f h.line st) w):=by
 obtain⟨fv,FL,hw⟩:=hw;obtain⟨hbl,oN,s9⟩:=hw.mV;have ca:B≤w.heap.size:=aK hw.pos (fx hbl);have jG:node<T.length:=(aL.1 hx).1;have d0:w.cell? ⟨b,0,none⟩=some nv:=ab hw.blk 0;have d2:w.cell? ⟨b,2,none⟩=some (.slice (some ⟨ub,0,none⟩) T.length T.length):=ab hw.blk 2;obtain⟨u0,v0⟩:=da hw.uses (j:=node*2) (by omega)
 obtain⟨u1,v1⟩:=da hw.uses (j:=node*2+1) (by omega)
 have pS:=hT.few;have HR:Hid (dX node f h.line st=if loop = -1 then .error (8,h.line) else .ok (st.dh node (4,loop))):=aa (by rw[Pf,hl])
 have HW:=aa hw;have HT:=aa hT;have HX:=aa hx;clear hw hT hx hl;by_cases hm:loop = -1
 ·subst hm
  have HC:=aa (ab (HW.out.alloc (.cells #[.int .i64 (f:Int),.int .i64 (-1),.pointer pa,.slice la ln lc] 92)).blk 0);have A9:=aa (HT.out.below ((Below.refl B w).alloc ca (.cells #[.int .i64 (f:Int),.int .i64 (-1),.pointer pa,.slice la ln lc] 92)));clear d2 u0 v0 u1 v1;go_enter Tryz.func58,Tryz.ntmps58
  go_wp2_with fail
  refine(eF b node _ _ _ A9.out HC.out HX.out).mono ?_;rintro e w1 ⟨v,rfl,⟨g1,rfl⟩,h1,h2⟩;have H1:=aa h1;have H2:=aa h2;clear h1 h2;go_wp2_with fail
  go_ret
  rw[show dX node f h.line st=.error (8,h.line) from HR.out.trans (by simp)]
  exact iS ((Below.refl B w).alloc ca _) (by simp;omega) H2.out H1.out
 ·have g1:(loop == -1)=false:=aE.2 hm
  have HM:=aa hm;clear hm;go_enter Tryz.func58,Tryz.ntmps58
  go_wp2_with fail
  go_region
  go_wp2_with fail
  go_ret
  rw[show dX node f h.line st=.ok (st.dh node (4,loop)) from HR.out.trans (af HM.out)]
  refine⟨((vr HW.out node _ _).alloc (by simp;omega) _).drew,rfl,⟨_,_,((HW.out.use node (4,loop)).alloc _).drew⟩,?_⟩
  exact(((mj HW.out node _ _).mono (by decide)).trans (Fr.alloc _)).drew
def gO (k:Int) (n:Nat):Bool×Int×Bool :=
 if k=26∨k=27 then (true,(n:Int)-1,true) else if k=11 then (true,0,true) else if k=28 then (true,0,false) else if k=19 then (true,(n:Int),false) else (false,0,false)
theorem Below.three {W:World} (o o' o2:Obj):Below W.heap.size W (((W.alloc o).alloc o').alloc o2):=(Below.two o o').alloc (by rw[an,an];omega) o2
theorem xQ {n:Nat} (h:n≤1000000):wrap64 ((n:Int)-1)=(n:Int)-1:=by unfold wrap64;omega
theorem gP (k line op num:Int) (s:ByteArray) (na ka:Option Addr) (nn nc kn kc:Nat) (w:World) (ph:kn≤1000000) :
  Calls Tryz.prog 110 #[.agg #[.int .i64 k,.int .i64 line,.int .i64 op,.int .i64 num,.string s,.slice na nn nc,.slice ka kn kc]] w fun e w'=>e=.returned (.agg #[.bool (gO k kn).1,.int .i64 (gO k kn).2.1,.bool (gO k kn).2.2])∧Below w.heap.size w w':=by
 have hwr:=xQ ph;have key:k=26∨k=27∨k=11∨k=28∨k=19∨((k == 26)=false∧(k == 27)=false∧(k == 11)=false∧(k == 28)=false∧(k == 19)=false):=by
  simp only[aE];omega
 rcases key with rfl|rfl|rfl|rfl|rfl | ⟨g1,g2,g3,g4,g5⟩
 ·go_enter Tryz.func110,Tryz.ntmps110
  go_wp2_with fail
  exact bodyPost_ret (v:=.agg #[.bool true,.int .i64 ((kn:Int)-1),.bool true]) (by simp[results,Tryz.results110,go_sem]) rfl ⟨rfl,Below.three _ _ _⟩
 ·go_enter Tryz.func110,Tryz.ntmps110
  go_wp2_with fail
  exact bodyPost_ret (v:=.agg #[.bool true,.int .i64 ((kn:Int)-1),.bool true]) (by simp[results,Tryz.results110,go_sem]) rfl ⟨rfl,Below.three _ _ _⟩
 ·go_enter Tryz.func110,Tryz.ntmps110
  go_wp2_with fail
  exact bodyPost_ret (v:=.agg #[.bool true,.int .i64 0,.bool true]) (by simp[results,Tryz.results110,go_sem]) rfl ⟨rfl,Below.three _ _ _⟩
 ·go_enter Tryz.func110,Tryz.ntmps110
  go_wp2_with fail
  exact bodyPost_ret (v:=.agg #[.bool true,.int .i64 0,.bool false]) (by simp[results,Tryz.results110,go_sem]) rfl ⟨rfl,Below.three _ _ _⟩
 ·go_enter Tryz.func110,Tryz.ntmps110
  go_wp2_with fail
  exact bodyPost_ret (v:=.agg #[.bool true,.int .i64 (kn:Int),.bool false]) (by simp[results,Tryz.results110,go_sem]) rfl ⟨rfl,Below.three _ _ _⟩
 ·have hd:gO k kn=(false,0,false):=by
   simp only[aE] at g1 g2 g3 g4 g5;unfold gO;rw[af (by omega),af g3,af g4,af g5]
  rw[hd];clear hd;go_enter Tryz.func110,Tryz.ntmps110
  go_wp2_with fail
  exact bodyPost_ret (v:=.agg #[.bool false,.int .i64 0,.bool false]) (by simp[results,Tryz.results110,go_sem]) rfl ⟨rfl,Below.three _ _ _⟩
theorem D9 {P:Program} (w:World) (t ty:TypeId) (base:Nat) (e:TypeId) (i:TypeInfo) (z:Value) (size bytes:Nat) (ht:P.underlying t=some (.slice e)) (hi:P.info? e=some i) (hz:i.zero=some z)
  (hsize:i.size=size) (hby:i.bytes=bytes) (hsz:0<size) (v:Value) (n:Nat) (xs:List Value) (hown:w.ownsRow base e size v n xs)
  (ad:Addr) (m c:Nat) (news:List Value) (hl:news.length=m*size) (hnews :∀j u,news[j]? = some u→w.cell? (ad.add j)=some u) (h1 :∀u∈news,u.oneCell'=true)
  (hm:0<m) (h63:n+m≤maxLen) (hbytes:(n+m)*bytes≤140737488355328) {v':Value} {w':World} (hr:(Builtin.append_ #[t,t] ty #[v,.slice (some ad) m c]).run P w=.ok v' w')
  (u:Value) (k:Nat) (ys:List Value) (hu:w.ownsRow base e size u k ys) (hk:u.ownBlock=v.ownBlock→k≤n):w'.ownsRow base e size u k ys:=by
 subst hsize hby;have adx:n+m≤9223372036854775807:=by simp only[maxLen] at h63;omega
 have new :∀o:Obj,(w.drew.alloc o).ownsRow base e i.size u k ys:=fun o=>hu.drew.alloc o
 rcases hown.2 with ⟨rfl,rfl⟩ | ⟨g,cap,cur,rfl,hbg,hg,hnc,hcm,hcs,E9⟩
 ·have h2:=run_append_nil (P:=P) w t ty e i z ht hi hz ad m c news hl hnews (by omega) (by omega) (by have hb:=hbytes;simp only[jB] at hb;omega)
  rw[hr] at h2;injection h2 with _ h2;rw[h2];exact new _
 ·by_cases hroom:n+m≤cap
  ·have ady:n*i.size+news.length≤cur.size:=by rw[hl,hcs,←EV];exact EE _ hroom
   have h2:=run_append_room (P:=P) w t ty e i ht hi g n cap cur hg ad m c news hl hnews h1 hroom ady;rw[hr] at h2;injection h2 with _ h2;rw[h2];refine⟨hu.1,?_⟩;rcases hu.2 with hn | ⟨g',cap',cur',rfl,hB',vT,EZ,hc',hs',WD⟩
   ·exact .inl hn
   ·by_cases eg:g'=g
    ·subst eg
     rw[hg] at vT;injection vT with vT;injection vT with vT _ _;subst vT;have ph:k≤n:=hk rfl;refine .inr ⟨g',cap',_,rfl,hB',setRow_heap w g' cur _ e _ hg,EZ,hc',?_,?_⟩
     ·rw[←hs']
      simp only[EK,bM,my,j7,Array.length_toList];omega
     ·rw[←WD]
      have h3:k*i.size≤n*i.size:=EE _ ph;have h4:(cur.toList.take (n*i.size)).length=n*i.size:=by rw[my,Array.length_toList];omega
      show((cur.toList.take (n*i.size)++news++_).take (k*i.size))=_
      rw[eS,Kx (by omega),List.take_take,EM h3]
    ·exact .inr ⟨g',cap',cur',rfl,hB',(setRow_other w g g' _ eg).trans vT,EZ,hc',hs',WD⟩
  ·have holds :∀j u,xs[j]? = some u→w.cell? ((⟨g,0,none⟩:Addr).add j)=some u:=hown.cells (g:=g) rfl
   have h2:=run_append_grow (P:=P) w t ty e i z ht hi hz ⟨g,0,none⟩ n cap xs hown.1 holds ad m c news hl hnews (by omega) (by omega) (growslice_fits (by omega) hbytes)
   rw[hr] at h2;injection h2 with _ h2;rw[h2];exact new _
def vV (W:World) (g:Nat) (ty:TypeId):Prop:=∃cs fz,W.heap[g]? = some (.cells cs ty fz)
theorem vV.set {W:World} {g:Nat} {ty:TypeId} (h:vV W g ty) (g' j:Nat) (v:Value):vV (W.setCell ⟨g',j,none⟩ v) g ty:=by
 obtain⟨cs,fz,h⟩:=h;by_cases e:g=g'
 ·subst e
  refine⟨cs.setIfInBounds j v,fz,?_⟩;simp[World.setCell,Array.getElem?_modify,h]
 ·exact⟨cs,fz,(Below.heap_setCell W ⟨g',j,none⟩ v g e).trans h⟩
theorem vV.fr {W:World} {g:Nat} {ty:TypeId} {E:List Nat} (h:vV W g ty) (he:ty∈E) (j:Nat) (v:Value):Fr E W (W.setCell ⟨g,j,none⟩ v):=by
 obtain⟨cs,fz,h⟩:=h;exact Fr.set h he j v
theorem Pn {ops:Array Oper} {rest:List Oper} {o:Oper} {a:Act} {Q:Exit→Act→World→Prop} (w:World) (l:cJ) (hgd:o.guard=none) (sl y:Operand)
  (ho:o.op=.call { callee:=.builtin .append,args:=#[sl,y],argTypes:=#[90,90]}) (B:Nat) (v:Value) (L:List cJ) (hs:a.eval sl=v) (hown:w.ownsRow B 238 2 v L.length (L.reverse.flatMap Gj)) (g:Nat) (hg:g=w.heap.size) (hy:a.eval y=.slice (some ⟨g,0,none⟩) 1 1)
  (hlen:L.length≤1000000) (hB:B≤w.heap.size)
  (h :∀g' c' w',w'.ownsRow B 238 2 (.slice (some ⟨g',0,none⟩) (L.length+1) c') (l::L).length ((l::L).reverse.flatMap Gj)→re v.ownBlock w w'→Below B w w'→(v.ownBlock=some g'∨w.heap.size≤g')→(∀u m xs,w.ownsRow B 238 2 u m xs→(u.ownBlock=v.ownBlock→m≤L.length)→w'.ownsRow B 238 2 u m xs)→wpList Tryz.prog ops Q rest (a.put o.dst (.slice (some ⟨g',0,none⟩) (L.length+1) c')) w') :
  wpList Tryz.prog ops Q (o::rest) a (w.alloc (.cells (Gj l).toArray 238)):=by
 subst hg;obtain⟨i0,nB,hz0,hz1,hz2⟩:=info_parts D7;have hcell:=heap_alloc_new w (.cells (Gj l).toArray 238);have hpl :∀j:Nat,(⟨w.heap.size,0,none⟩:Addr).add j=⟨w.heap.size,j,none⟩:=fun j=>by unfold Addr.add;split<;>simp_all
 have Dp:(w.alloc (.cells (Gj l).toArray 238)).heap.size=w.heap.size+1:=an _ _;have hnews :∀j u,(Gj l)[j]? = some u→(w.alloc (.cells (Gj l).toArray 238)).cell? ((⟨w.heap.size,0,none⟩:Addr).add j)=some u:=fun j u hj=>by
  rw[hpl,cell_of_row _ _ j _ 238 (0,0) hcell];simpa using hj
 have h1c :∀u∈Gj l,u.oneCell'=true:=by
  intro u hu;simp[Gj] at hu;rcases hu with rfl|rfl<;>rfl
 have hmx:L.length+1≤maxLen:=by unfold maxLen;omega
 have hby:(L.length+1)*16≤140737488355328:=by omega
 refine wpList_plain hgd fun K hK=>?_
 obtain⟨g',c',w',hr,r1,r2,r3,_⟩:=run_append_lies (P:=Tryz.prog) _ 90 o.type B 238 i0 _ 2 16 Tryz.underlying90 nB hz0 hz1 hz2 rfl (by omega) v L.length _ (hown.alloc _) ⟨w.heap.size,0,none⟩ 1 1 (Gj l) rfl hnews h1c (by omega) hmx hby (by omega) (w.heap.size+1) Dp
 have hold:=D9 (P:=Tryz.prog) _ 90 o.type B 238 i0 _ 2 16 Tryz.underlying90 nB hz0 hz1 hz2 (by omega) v L.length _ (hown.alloc _) ⟨w.heap.size,0,none⟩ 1 1 (Gj l) rfl hnews h1c (by omega) hmx hby hr
 unfold Oper.wp execOp;simp only[ho,resolve,invoke,builtin,Sem.run_bind,Sem.run_pure,Result.andThen_ok,La,gi,List.map_nil,hs,hy,hr];have yK:=r2.size;refine hK _ _ (h g' c' w' ?_ ⟨by omega,fun k hk hn=>(r2.block k (by omega) fun e=>hn e.symm).trans (Below.heap_alloc w _ k hk)⟩ ⟨r2.os,r2.tape,r2.output,by omega,fun k hk=>?_⟩ (r3.imp id fun e=>by omega) fun u m xs hu hm=>hold u m xs (hu.alloc _) hm)
 ·rw[List.length_cons,EJ,pU,ED]
  exact r1
 ·refine(r2.block k (by omega) fun e=>?_).trans (Below.heap_alloc w _ k (by omega))
  have:=(hown.lt k e.symm).1;omega
def Ea (bR:List sQ) (u:sQ):Int:=match bR.findIdx? (fun y=>decide (y=u)) with|some i=>(i:Int)|none=>-1
theorem UH {bR:List sQ} {u:sQ} {k:Nat} (h :∀y∈bR.take k,y≠u) (hk:bR[k]? = some u):bR.findIdx? (fun y=>decide (y=u))=some k:=by
 obtain⟨hlt,he⟩:=aL.1 hk;refine zL.2 ⟨hlt,by rw[he];simp,fun j hj=>?_⟩
 have:bR[j]∈bR.take k:=by
  have h1:(bR.take k)[j]? = some bR[j]:=by rw[List.getElem?_take_of_lt hj];exact bH (by omega)
  exact ba h1
 simpa using h _ this
theorem ZA {bR:List sQ} {u:sQ} (h :∀y∈bR,y≠u):bR.findIdx? (fun y=>decide (y=u))=none:=by
 rw[KF];intro y hy;simpa using h y hy
theorem BO {bR:List sQ} {u y:sQ} {k:Nat} (h :∀z∈bR.take k,z≠u) (hk:bR[k]? = some y) (hy:y≠u) :∀z∈bR.take (k+1),z≠u:=by
 rw[lN _ _ _ hk];intro z hz;rcases dd.1 hz with hz|hz
 ·exact h z hz
 ·rw[bI.1 hz];exact hy
theorem JD {B:Nat} (v:Value) (bR:List sQ) (u:sQ) (w:World) (hr:w.ownsRow B 59 2 v bR.length (bR.flatMap Gf)) (hl:bR.length≤1000) :
  Calls Tryz.prog 212 #[v,.agg #[.bool u.loc,.int .i64 (u.idx:Int)]] w fun e w'=>e=.returned (.int .i64 (Ea bR u))∧Below w.heap.size w w':=by
 obtain⟨A,c,rfl,hc,jb⟩:=dy hr;have HC:=aa jb;clear jb hr;have Pm:=aa ((Below.refl w.heap.size w).alloc (ai _) (.cells #[.bool u.loc,.int .i64 (u.idx:Int)] 59));have z0:=dC w #[.bool u.loc,.int .i64 (u.idx:Int)] 59 0;have z1:=dC w #[.bool u.loc,.int .i64 (u.idx:Int)] 59 1;replace z0:_=some (Value.bool u.loc):=z0;replace z1:_=some (Value.int .i64 (u.idx:Int)):=z1;have dZ:w.heap.size<(w.alloc (.cells #[.bool u.loc,.int .i64 (u.idx:Int)] 59)).heap.size:=by rw[an];omega
 go_enter Tryz.func212,Tryz.ntmps212
 go_wp2_with fail
 generalize w.alloc (.cells #[.bool u.loc,.int .i64 (u.idx:Int)] 59)=W0 at *;go_loopw [8] (fun t wr=>∃k:Nat,t=.int .i64 (k:Int)∧k≤bR.length∧(∀y∈bR.take k,y≠u)∧Below W0.heap.size W0 wr) (fun t _=>bR.length-(intOf t).toNat)
 case atStart=>exact⟨0,rfl,bx _,fun y hy=>by simp at hy,Below.refl _ _⟩
 case round =>
  obtain⟨k,rfl,hk,hno,hb⟩:=hrel;have k0:=(hb.cell (p:=⟨w.heap.size,0,none⟩) dZ).trans z0;have k1:=(hb.cell (p:=⟨w.heap.size,1,none⟩) dZ).trans z1;have ZB:=aa hno;have HB:=aa hb;clear hno hb;by_cases hlt:k<bR.length
  ·obtain⟨y,hy⟩ :∃y,bR[k]? = some y:=⟨bR[k],bH hlt⟩
   rcases HC.out with h0 | ⟨g,rfl,Zz,rr,te⟩
   ·omega
   have xo:=Pm.out.trans (HB.out.mono (fx dZ));have e0:wr.cell? ⟨g,k*2,none⟩=some (.bool y.loc):=(xo.cell (p:=⟨g,k*2,none⟩) rr).trans ((te (k*2) (by omega)).trans (fU Gh bR k 0 y hy (by omega)))
   have e1:wr.cell? ⟨g,k*2+1,none⟩=some (.int .i64 (y.idx:Int)):=(xo.cell (p:=⟨g,k*2+1,none⟩) rr).trans ((te (k*2+1) (by omega)).trans (fU Gh bR k 1 y hy (by omega)))
   have HY:=aa hy;clear te hy xo;by_cases hloc:u.loc=y.loc
   ·by_cases UI:u.idx=y.idx
    ·obtain rfl:y=u:=by cases u;cases y;simp_all
     go_wp2_with fail
     go_region
     go_wp2_with fail
     go_ret
     refine⟨?_,(Pm.out.trans (HB.out.mono (fx dZ))).drew⟩;unfold Ea;rw[UH ZB.out HY.out];rfl
    ·have g2:((u.idx:Int) == (y.idx:Int))=false:=aE.2 (by omega)
     have hne:Hid (y≠u):=aa fun e=>UI (by rw[e])
     rw[hloc] at *;clear UI;go_wp2_with fail
     go_region
     go_wp2_with fail
     exact⟨⟨k+1,by go_num,hlt,BO ZB.out HY.out hne.out,HB.out.drew⟩,by simp[intOf];omega⟩
   ·have g1:(u.loc == y.loc)=false:=aE.2 hloc
    have hne:Hid (y≠u):=aa fun e=>hloc (by rw[e])
    clear hloc;go_wp2_with fail
    go_region
    go_wp2_with fail
    exact⟨⟨k+1,by go_num,hlt,BO ZB.out HY.out hne.out,HB.out.drew⟩,by simp[intOf];omega⟩
  ·have zD:k=bR.length:=by omega
   go_wp2_with fail
   go_ret
   refine⟨?_,Pm.out.trans (HB.out.mono (fx dZ))⟩;unfold Ea;rw[ZA (fun y hy=>ZB.out y (by rw[zD,zU];exact hy))]
   rfl
def UJ (B b:Nat) (nv:Value) (N ub ob:Nat) (st:aG) (r:Option (List cR×Nat)) (w:World) (e:Ending) (w':World):Prop :=
 Below B w w'∧Fr [52,61,59] w w'∧match r with
 | some (F,k)=>e=.returned (.tuple #[.int .i64 (k:Int),.nilIface])∧jV w' B b nv N { st with fns:=F} ub ob
 | none=>e=.returned (.tuple #[.int .i64 0,.iface 79 (.int .i64 12)])
theorem Eb {F:List cR} {f k:Nat} {x:cR} {u:sQ} (hx:F[f]? = some x) (h:x.bR.findIdx? (fun y=>decide (y=u))=some k):gJ F f u=some (F,k):=by
 unfold gJ;simp only[gL hx,h]
theorem Ec {F:List cR} {f:Nat} {x:cR} {u:sQ} (hx:F[f]? = some x) (h:x.bR.findIdx? (fun y=>decide (y=u))=none):gJ F f u=if 60≤x.bR.length then none else some (F.set f { x with bR:=x.bR++[u]},x.bR.length):=by
 unfold gJ;simp only[gL hx,h]
theorem oE {W W':World} {B e s n:Nat} {v:Value} {xs:List Value} (h:W.ownsRow B e s v n xs) (hb:Below W.heap.size W W'):W'.ownsRow B e s v n xs:=re.row (o:=none) ⟨hb.size,fun k hk _=>hb.block k hk⟩ h fun _ _ e=>by cases e
theorem Po {ops:Array Oper} {o:Oper} {a:Act} {K:Act→World→Prop} {Q:Exit→Act→World→Prop} {E:Prop} (w0 w1:World) (n:sQ) (hgd:o.guard=none) (sl y:Operand)
  (ho:o.op=.call { callee:=.builtin .append,args:=#[sl,y],argTypes:=#[50,50]}) (B:Nat) (v:Value) (ns:List sQ) (hs:a.eval sl=v) (hown:w0.ownsRow B 59 2 v ns.length (ns.flatMap Gf)) (dZ :∀(i:Nat),i<w0.heap.size→w1.heap[i]? = w0.heap[i]?) (g:Nat) (hg:g=w0.heap.size) (hy:a.eval y=.slice (some ⟨g,0,none⟩) 1 1)
  (hcell:w1.heap[g]? = some (.cells (Gf n).toArray 59 (0,0))) (hlen:ns.length≤1000000) (hB:B≤w0.heap.size) (hle:w0.heap.size≤w1.heap.size) (Zw:w1.os=w0.os∧w1.tape=w0.tape∧w1.output=w0.output)
  (h :∀g' c' w',w'.ownsRow B 59 2 (.slice (some ⟨g',0,none⟩) (ns.length+1) c') (ns++[n]).length ((ns++[n]).flatMap Gf)→re v.ownBlock w0 w'→Below B w0 w'→(v.ownBlock=some g'∨w0.heap.size≤g')→K (a.put o.dst (.slice (some ⟨g',0,none⟩) (ns.length+1) c')) w') :
  if Region.wanted o (yielded ops a.tmps)=true then Oper.wp Tryz.prog o a w1 K Q else E:=by
 obtain⟨i0,nB,hz0,hz1,hz2⟩:=info_parts O0;refine BC w0 w1 (Gf n) hgd sl y 50 59 i0 _ 2 16 ho Tryz.underlying50 nB hz0 hz1 hz2 rfl (by omega) (by omega) B v ns.length _ hs hown dZ g hg hy hcell rfl (by intro u hu;simp[Gf] at hu;rcases hu with rfl|rfl<;>rfl) hlen hB hle Zw ?_
 intro g' c' w' r1 r2 r3 r4;refine h g' c' w' ?_ r2 r3 r4;rw[bM,mX,pU,ED];exact r1
theorem BP {B:Nat} {nv:Value} {N ub ob:Nat} (b f:Nat) (u:sQ) (st:aG) (w:World) (hw:jV w B b nv N st ub ob) (hf:f<st.fns.length) (mo:dA st.fns) :
  Calls Tryz.prog 189 #[.pointer (some ⟨b,0,none⟩),.int .i64 (f:Int),.agg #[.bool u.loc,.int .i64 (u.idx:Int)]] w (UJ B b nv N ub ob st (gJ st.fns f u) w):=by
 obtain⟨fv,FL,hw⟩:=hw;obtain⟨⟨t1,tv,tu⟩,ht⟩:=hw.BG hf;obtain⟨g,c,rfl,Zz,rr,te⟩:=hw.fns.form ht;obtain⟨vB,hfn⟩:=hw.sT ht;simp only at vB hfn;obtain⟨UA,uc,huu,ZC,_⟩:=dy (hw.fns.bR _ (ba ht));simp only at huu ZC;subst huu;obtain⟨hbl,oN,s9⟩:=hw.mV;have ca:B≤w.heap.size:=aK hw.pos (fx hbl);have xt:=hw.len;have hfL:f<FL.length:=by omega
 have d1:w.cell? ⟨b,1,none⟩=some (.slice (some ⟨g,0,none⟩) FL.length c):=ab hw.blk 1;have e5:w.cell? ⟨g,f*6+5,none⟩=some (.slice UA t1.bR.length uc):=(te 5 (by omega)).1
 have hup:t1.bR.length≤60:=(mo f t1 vB).2;have ZD:=aa (hw.fns.bR _ (ba ht));simp only at ZD;have HW:=aa hw;have HT:=aa ht;have Kt:=aa vB;clear hw ht vB hfn te xt mo;go_enter Tryz.func189,Tryz.ntmps189
 go_wp2_with fail
 have dK:=aa ((Below.refl w.heap.size w).alloc (ai _) (.cells #[.bool u.loc,.int .i64 (u.idx:Int)] 59));have x0:=dC w #[.bool u.loc,.int .i64 (u.idx:Int)] 59 0;have x1:=dC w #[.bool u.loc,.int .i64 (u.idx:Int)] 59 1;replace x0:_=some (Value.bool u.loc):=x0;replace x1:_=some (Value.int .i64 (u.idx:Int)):=x1;have e5':=(dK.out.cell (p:=⟨g,f*6+5,none⟩) rr).trans e5;have jg:=aa (HW.out.alloc (.cells #[.bool u.loc,.int .i64 (u.idx:Int)] 59));have Pp:=aa (oE ZD.out dK.out);have hs1:w.heap.size<(w.alloc (.cells #[.bool u.loc,.int .i64 (u.idx:Int)] 59)).heap.size:=by rw[an];omega
 generalize w.alloc (.cells #[.bool u.loc,.int .i64 (u.idx:Int)] 59)=W1 at *;clear HW ZD d1 e5;have y0:=cell_regrown x0;have y1:=cell_regrown x1;have y5:=cell_regrown e5';refine wp_region_quiet_below (by kernel_rfl) (by kernel_rfl) ?_
 repeat (first|go_big_quiet_step (first
   | (go_at_call 212;exact Calls.regrown_of (JD _ t1.bR u _ (oE Pp.out (below_regrown _ _ _)) (by omega)))))
 refine wpQuiet_nil ?_;intro _ hw';obtain⟨⟨dq,osq⟩,hw''⟩:=hw';subst hw'';have pj:=aa (dK.out.trans ((below_regrown W1 dq osq).mono (fx hs1)));have lM:=aa (jg.out.later (below_regrown W1 dq osq));have abx:=aa (oE Pp.out (below_regrown W1 dq osq));have hs2:w.heap.size<(«Sort».grow (redrawn W1 dq) osq).heap.size:=cC hs1 (below_regrown W1 dq osq).size;have x02:=((below_regrown W1 dq osq).cell (p:=⟨w.heap.size,0,none⟩) hs1).trans x0;have x12:=((below_regrown W1 dq osq).cell (p:=⟨w.heap.size,1,none⟩) hs1).trans x1;have e52:=((below_regrown W1 dq osq).cell (p:=⟨g,f*6+5,none⟩) (Nat.lt_trans rr hs1)).trans e5';dsimp only
 generalize «Sort».grow (redrawn W1 dq) osq=W2 at *;clear y0 y1 y5 x0 x1 e5' jg Pp dK;cases hi:t1.bR.findIdx? (fun y=>decide (y=u)) with
 | some k =>
  have hv:Ea t1.bR u=(k:Int):=by unfold Ea;rw[hi]
  have HE:=aa (Eb Kt.out hi);rw[hv];have g1:decide ((0:Int)≤(k:Int))=true:=bF (by omega)
  clear hv hi;go_wp2_with fail
  go_ret2
  refine⟨pj.out.mono ca,Fr.ae pj.out,?_⟩;rw[HE.out];exact⟨rfl,_,_,lM.out⟩
 | none =>
  have hv:Ea t1.bR u = -1:=by unfold Ea;rw[hi]
  have HE:=aa (Ec Kt.out hi);rw[hv];clear hv hi;by_cases h60:60≤t1.bR.length
  ·have Rp:=aa (HE.out.trans (ak h60))
   have g1:((t1.bR.length:Int) == 60)=true:=wM.2 (by omega)
   go_wp2_with fail
   go_ret2
   refine⟨pj.out.mono ca,Fr.ae pj.out,?_⟩;rw[Rp.out];rfl
  ·have Rp:=aa (HE.out.trans (af h60))
   have g1:((t1.bR.length:Int) == 60)=false:=aE.2 (by omega)
   have hB2:B≤W2.heap.size:=aK ca pj.out.size;have aaW:t1.bR.length≤1000000:=by omega
   have hg2:g<W2.heap.size:=Nat.lt_trans rr hs2;obtain⟨g',c',pN,_,_,AK⟩:=lM.out.fns.form HT.out;injection pN with pN _ hcc;injection pN with pN;injection pN with pN _ _;subst pN hcc;have z52:=(AK 5 (by omega)).2
   have HZ:Hid ((W2.alloc (.cells #[.bool u.loc,.int .i64 (u.idx:Int)] 59)).drew.heap[W2.heap.size]? = some (.cells #[.bool u.loc,.int .i64 (u.idx:Int)] 59 (0,0))):=aa (heap_alloc_new W2 _);clear AK;go_wp2_with fail
   go_region_law ((refine Po W2 _ u (by rfl) _ _ (by rfl) B (.slice UA t1.bR.length uc) t1.bR (by rfl) abx.out (fun i hi=>Below.heap_alloc W2 _ i hi) W2.heap.size rfl (by rfl) HZ.out aaW hB2 (by simp[World.drew]) ⟨rfl,rfl,rfl⟩ ?_;intro g8 c8 w8 r8 b8 WE n8;have vC:=b8.row lM.out.fns.row (fun k hk e=>eh lM.out.fns.row (lM.out.fns.bR _ (ba HT.out)) (by decide) k hk e);have e58:w8.cell? ⟨g,f*6+5,none⟩=some (.slice UA t1.bR.length uc):=(World.ownsRow.cellAt vC (f*6+5) (by omega)).trans (fU qD FL f 5 _ HT.out (by omega));have z58:=World.ownsRow.frozenAt vC (f*6+5);have R8:=aa r8;have B8:=aa b8;have Rq:=aa WE;have N8:=aa n8;clear r8 b8 WE n8 vC))
   all_goals
    have h9:=lM.out.UE HT.out B8.out R8.out (fun k hk=>by injection hk with hk;subst hk;exact N8.out)
    have ZE:=aa h9.2;have HW9:=aa h9.1;have HB9:=aa (((pj.out.mono ca).trans Rq.out).setCell (p:=⟨g,f*6+5,none⟩) Zz (.slice (some ⟨g8,0,none⟩) (t1.bR.length+1) c8));have k9:=World.cell?_setCell_same' w8 ⟨g,f*6+5,none⟩ (.slice (some ⟨g8,0,none⟩) (t1.bR.length+1) c8) (by rw[e58];rfl)
    clear h9;generalize w8.setCell ⟨g,f*6+5,none⟩ (.slice (some ⟨g8,0,none⟩) (t1.bR.length+1) c8)=W9 at *;clear e58 z58 R8 B8 Rq N8;go_wp2_with fail
    go_ret2
    refine⟨HB9.out,(Fr.ae pj.out).trans ZE.out,?_⟩;rw[Rp.out];exact⟨rfl,_,_,HW9.out⟩
end Go.Proofs.YteflkdlaoiijbaaGreatDoor
