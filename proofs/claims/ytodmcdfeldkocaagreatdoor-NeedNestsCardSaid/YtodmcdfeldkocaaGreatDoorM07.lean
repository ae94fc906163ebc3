/- Parts of the proof. -/
import Derived.Test.YtodmcdfeldkocaaGreatDoorM06
set_option maxHeartbeats 16000000
set_option maxRecDepth 20000
namespace Go.Proofs.YtodmcdfeldkocaaGreatDoor
open Go.RowKit
theorem WM {z:Array Value} {v:Value} (m:Nat) (hz:0<z.size) (h :∀j,j<z.size→z[j]? = some v) (f:Nat→Value) (hf :∀j,f j=v):(madeCells z m).toList=(List.range m).map f:=by
 unfold madeCells;rw[Array.toList_map,Array.toList_range];refine List.map_congr_left fun j _=>?_
 rw[hf j];have h1:=h (j % z.size) (Nat.mod_lt _ hz);rw[getElem!_def,h1]
theorem IY:(Tryz.prog.info? 140).map (fun i=>(i.zero,i.size,i.bytes))=some (some (.agg #[.int .i64 0,.int .i64 0]),2,16):=by kernel_rfl
theorem IZ:(Tryz.prog.info? 3).map (fun i=>(i.zero,i.size,i.bytes))=some (some (.int .i64 0),1,8):=by kernel_rfl
theorem I0 (n:Nat) (hn:n≤1000000) :∃M:Array Value,∀w:World,(Instr.makeSlice 33 (.int .i64 (n:Int)) (.int .i64 (n:Int))).run Tryz.prog w=.ok (.slice (some ⟨w.heap.size,0,none⟩) n n) (w.alloc (.cells M 140)) ∧
  ∀base,base≤w.heap.size→eV (w.alloc (.cells M 140)) base 140 2 w.heap.size n (vV fun _=>(0,0)):=by
 obtain⟨i0,mJ,hz0,hz1,hz2⟩:=info_parts IY;refine⟨madeCells (Value.cells (.agg #[.int .i64 0,.int .i64 0])) (n*i0.size),fun w=>?_⟩
 have hr:=run_make (P:=Tryz.prog) w 33 140 i0 _ Tryz.underlying33 mJ hz0 .i64 .i64 (n:Int) (n:Int) (by omega) (Int.le_refl _) (by rw[hz2];omega) (by omega)
 simp only[gV] at hr;refine⟨hr,fun base hb=>?_⟩
 obtain⟨W,h1,h2,_⟩:=run_make_full (P:=Tryz.prog) w base 33 140 i0 _ 2 Tryz.underlying33 mJ hz0 hz1 .i64 .i64 n (by rw[hz2];omega) (by unfold maxLen;omega) hb
 rw[hr] at h1;injection h1 with _ h1;rw[h1];have e:(madeCells (Value.cells (.agg #[.int .i64 0,.int .i64 0])) (n*2)).toList=(List.range (n*2)).map (vV fun _=>(0,0)):=WM (v:=.int .i64 0) _ (by decide) (fun j hj=>by
  have hj:j<2:=hj;match j,hj with
  | 0,_=>rfl
  | 1,_=>rfl) _ fun j=>by unfold vV;split<;>rfl
 rw[e] at h2;exact h2
theorem Bo (n:Nat) (hn:n≤1000000) :∃M:Array Value,∀w:World,(Instr.makeSlice 27 (.int .i64 (n:Int)) (.int .i64 (n:Int))).run Tryz.prog w=.ok (.slice (some ⟨w.heap.size,0,none⟩) n n) (w.alloc (.cells M 3)) ∧
  ∀base,base≤w.heap.size→eV (w.alloc (.cells M 3)) base 3 1 w.heap.size n (Hv fun _=>0):=by
 obtain⟨i0,mJ,hz0,hz1,hz2⟩:=info_parts IZ;refine⟨madeCells (Value.cells (.int .i64 0)) (n*i0.size),fun w=>?_⟩
 have hr:=run_make (P:=Tryz.prog) w 27 3 i0 _ Tryz.underlying27 mJ hz0 .i64 .i64 (n:Int) (n:Int) (by omega) (Int.le_refl _) (by rw[hz2];omega) (by omega)
 simp only[gV] at hr;refine⟨hr,fun base hb=>?_⟩
 obtain⟨W,h1,h2,_⟩:=run_make_full (P:=Tryz.prog) w base 27 3 i0 _ 1 Tryz.underlying27 mJ hz0 hz1 .i64 .i64 n (by rw[hz2];omega) (by unfold maxLen;omega) hb
 rw[hr] at h1;injection h1 with _ h1;rw[h1];have e:(madeCells (Value.cells (.int .i64 0)) (n*1)).toList=(List.range (n*1)).map (Hv fun _=>0):=WM (v:=.int .i64 0) _ (by decide) (fun j hj=>by
  have hj:j<1:=hj;match j,hj with
  | 0,_=>rfl) _ fun j=>rfl
 rw[e] at h2;exact h2
def ND (W:World) (B N:Nat) (v:Value) (st:aI):Prop:=∃fv ub ob L,v=.agg #[fv,.slice (some ⟨ub,0,none⟩) N N,.slice (some ⟨ob,0,none⟩) N N]∧lR W B fv L∧L.map (·.1)=st.fns∧eV W B 140 2 ub N (vV st.uses)∧eV W B 3 1 ob N (Hv st.of)
theorem eW.scope {W:World} {B b:Nat} {nv:Value} {N:Nat} {st:aI} {fv:Value} {ub ob:Nat} {L:List nU} (h:eW W B b nv N st fv ub ob L):ND W B N (.agg #[fv,.slice (some ⟨ub,0,none⟩) N N,.slice (some ⟨ob,0,none⟩) N N]) st:=⟨fv,ub,ob,L,rfl,h.fns,h.are,h.uses,h.vX⟩
def FY:Value:=.agg #[.slice none 0 0,.slice none 0 0,.slice none 0 0]
def Th (B N:Nat) (r:Rs aI) (e:Ending) (w':World):Prop :=
 match r with
 | .ok st=>∃v B',B≤B'∧e=.returned (.tuple #[v,.nilIface])∧ND w' B' N v st
 | .error x=>∃v,e=.returned (.tuple #[FY,v])∧AB w' v x.2 x.1
theorem Bp (w:World) (X Y Z:Obj):Below w.heap.size w (((w.alloc X).alloc Y).alloc Z).drew:=((((Below.refl _ _).alloc (ah _) _).alloc (by rw[aq];omega) _).alloc (by rw[aq,aq];omega) _).drew
theorem Ti (w:World) (X Y Z:Obj):(((w.alloc X).alloc Y).alloc Z).drew.heap[w.heap.size]? = some X :=
 (Below.heap_alloc ((w.alloc X).alloc Y) Z _ (by rw[aq,aq];omega)).trans ((Below.heap_alloc (w.alloc X) Y _ (by rw[aq];omega)).trans (heap_alloc_new w X))
theorem Tj (w:World) (X Y Z:Obj):(((w.alloc X).alloc Y).alloc Z).drew.heap[w.heap.size+1]? = some Y:=by
 have h:=heap_alloc_new (w.alloc X) Y;rw[aq] at h;exact(Below.heap_alloc ((w.alloc X).alloc Y) Z _ (by rw[aq,aq];omega)).trans h
theorem Tl (w:World) (X Y Z:Obj):(((w.alloc X).alloc Y).alloc Z).drew.heap[w.heap.size+1+1]? = some Z:=by
 have h:=heap_alloc_new ((w.alloc X).alloc Y) Z;rw[aq,aq] at h;exact h
theorem eV.later {W W':World} {B b n s:Nat} {ty:TypeId} {f:Nat→Value} (h:eV W B ty s b n f) (hb:Below W.heap.size W W'):eV W' B ty s b n f:=(Fr.af (E:=[]) hb).row h (by simp)
section
variable {B n s:Nat} {ty:TypeId} {f:Nat→Value}
theorem WN (w:World) (X Y Z:Obj) (h:eV (w.alloc X) B ty s w.heap.size n f):eV (((w.alloc X).alloc Y).alloc Z).drew B ty s w.heap.size n f:=h.later (Below.two Y Z).drew
theorem WO (w:World) (X Y Z:Obj) (h:eV ((w.alloc X).alloc Y) B ty s (w.alloc X).heap.size n f):eV (((w.alloc X).alloc Y).alloc Z).drew B ty s (w.heap.size+1) n f:=by
 rw[aq] at h;exact h.later ((Below.refl _ _).alloc (ah _) Z).drew
theorem WQ (w:World) (X Y Z:Obj) (h:eV (((w.alloc X).alloc Y).alloc Z) B ty s ((w.alloc X).alloc Y).heap.size n f):eV (((w.alloc X).alloc Y).alloc Z).drew B ty s (w.heap.size+1+1) n f:=by
 rw[aq,aq] at h;exact h.later (Below.refl _ _).drew
end
structure MkZ (w2 W:World) (B:Nat) (nv:Value) (N ub ob b:Nat):Prop where
 below:Below w2.heap.size w2 W
 le:w2.heap.size≤b
 blk:W.heap[b]? = some (.cells #[nv,.slice none 0 0,.slice (some ⟨ub,0,none⟩) N N,.slice (some ⟨ob,0,none⟩) N N] 64 (0,0))
 uses:eV W B 140 2 ub N (vV fun _=>(0,0))
 vX:eV W B 3 1 ob N (Hv fun _=>0)
theorem I2 {P:Program} {id:Nat} {ops:Array Oper} {Q:Exit→Act→World→Prop} {a:Act} {w:World} {F:Nat→Nat→Nat→Act} {H:Nat→Nat→Nat→World→Prop} (hr:(∀ub ob b W,H ub ob b W→Q .normal (F ub ob b) W)→(Code.region id ops true).wp P Q a w) (h :∀ub ob b W,H ub ob b W→Q .normal (F ub ob b) W):(Code.region id ops true).wp P Q a w:=hr h
end Go.Proofs.YtodmcdfeldkocaaGreatDoor
namespace Go.Proofs.YtodmcdfeldkocaaGreatDoor
open Go.RowKit
def Bq (nv:Value) (T:List Nd) (t:Lt):Prop:=∀w:World,fw w nv T→Calls Tryz.prog 15 #[.agg #[nv],.int .i64 (t.loc:Int)] w fun e w'=>e=.returned (.int .i64 (aG t:Int))∧Below w.heap.size w w'
theorem NG {l:List Nat} {n a h:Nat} (hn:l[n]? = some a):dA h (l.drop n)=max (h+a) (dA (h+1) (l.drop (n+1))):=by
 obtain⟨hlt,rfl⟩:=aK.1 hn;rw[pR hlt,dA]
theorem I3 {l:List Nat} {n a:Nat} (hn:l[n]? = some a):eR (l.drop n)=max a (eR (l.drop (n+1))):=by
 obtain⟨hlt,rfl⟩:=aK.1 hn;rw[pR hlt,eR]
theorem max_1 (m q:Nat):(if m<q then (q:Int) else (m:Int))=((max m q:Nat):Int):=by split<;>omega
theorem abf (m h n q:Nat):(if (m:Int)<(h:Int)+(n:Int)+(q:Int) then (h:Int)+(n:Int)+(q:Int) else (m:Int))=((max m (h+n+q):Nat):Int):=by split<;>omega
theorem oc {T:List Nd} {nv:Value} (ks:List Lt) (kv:Value) (held:Nat) (w:World) (hT:fw w nv T) (hk:cQ w kv (ks.map fun k=>(k.loc:Int))) (hV :∀k∈ks,Bq nv T k) (hb :∀k∈ks,aG k≤1000000) (hl:ks.length≤1000000) (hh:held≤1000000) :
  Calls Tryz.prog 29 #[.agg #[nv],kv,.int .i64 (held:Int)] w fun e w'=>e=.returned (.int .i64 (dA held (ks.map aG):Int))∧Below w.heap.size w w':=by
 have HT:=aa hT;have HK:=aa hk;have HV:=aa hV;have HB:=aa hb;obtain⟨A,c,rfl,hc,hcell⟩:=hk;simp only[bU] at hc ⊢;obtain⟨R,hR⟩ :∃R,R=dA held (ks.map aG):=⟨_,rfl⟩;have HR:=aa hR;rw[←hR];clear hT hV hb hR hcell;go_enter Tryz.func29,Tryz.ntmps29
 go_wp2_with fail
 have eM:=heap_alloc_new w (.cells #[nv] 56);have hb0:Below w.heap.size w (w.alloc (.cells #[nv] 56)):=(Below.refl _ _).alloc (ah _) _;generalize hW1:w.alloc (.cells #[nv] 56)=W1 at eM hb0 ⊢;have mB:=aa eM;have tF:=aa hb0;clear eM hb0 hW1;go_loopw [7,12] (fun m i wr=>∃n mm:Nat,i=.int .i64 (n:Int)∧m=.int .i64 (mm:Int)∧n≤ks.length∧Below W1.heap.size W1 wr∧max mm (dA (held+n) ((ks.map aG).drop n))=R∧mm≤3000000) (fun _ i _=>ks.length-(intOf i).toNat)
 case atStart=>exact⟨0,0,rfl,rfl,bo _,Below.refl _ _,by rw[oJ,E5,HR.out];omega,by omega⟩
 case round =>
  obtain⟨n,mm,rfl,rfl,hn,hb,hm,hm3⟩:=hrel;have py:=(hb.block _ (aO.1 mB.out).1).trans mB.out;have p0:=ae py 0;replace p0:_=some nv:=p0;have pP:=aa hb;have HM:=aa hm;clear hb py hm;by_cases hlt:n<ks.length
  ·obtain⟨k,hk⟩ :∃k,ks[n]? = some k:=⟨ks[n],bG hlt⟩
   have oz:=aX hk;have pj:=tF.out.trans (pP.out.mono tF.out.size);have DI:=aa (HK.out.below pj);obtain⟨A',c',he,_,eF⟩:=DI.out;injection he with qp _ MD;subst qp MD;rcases eF with h0 | ⟨sb,so,rfl,SK,hsc⟩
   ·rw[kJ] at h0
    rw[h0] at hlt;exact absurd hlt (by simp)
   have cs:wr.cell? ⟨sb,so+n,none⟩=some (.int .i64 (k.loc:Int)):=hsc n _ (by rw[eO,hk];rfl)
   have mD:=aa (HV.out k oz wr (HT.out.below pj));have hkb:=HB.out k oz;have sL:=aa (NG (l:=ks.map aG) (n:=n) (a:=aG k) (h:=held+n) (by rw[eO,hk];rfl))
   obtain⟨q,hq⟩ :∃q,aG k=q:=⟨_,rfl⟩;rw[hq] at hkb;have HQ:=aa hq;have jf:=aa hlt;clear hk oz hsc hq pj;go_wp2_with fail
   refine mD.out.mono ?_;rintro e w2 ⟨rfl,b2⟩;rw[HQ.out];have B2:=aa (pP.out.trans (b2.mono pP.out.size));clear b2;go_wp2_with fail
   refine⟨⟨n+1,max mm (held+n+q),by go_num,by rw[abf],jf.out,B2.out,?_,by omega⟩,by have:=jf.out;simp[intOf];omega⟩
   rw[←HM.out,sL.out,HQ.out,oK held n 1,Nat.max_assoc]
  ·have ru:n=ks.length:=by omega
   go_wp2_with fail
   go_ret
   have hE:R=mm:=by rw[←HM.out,ru,mr (by simp),dA];omega
   rw[hE];exact⟨rfl,tF.out.trans (pP.out.mono tF.out.size)⟩
theorem Br {T:List Nd} {nv:Value} (ks:List Lt) (kv:Value) (w:World) (hT:fw w nv T) (hk:cQ w kv (ks.map fun k=>(k.loc:Int))) (hV :∀k∈ks,Bq nv T k) (hb :∀k∈ks,aG k≤1000000) (hl:ks.length≤1000000) :
  Calls Tryz.prog 30 #[.agg #[nv],kv] w fun e w'=>e=.returned (.int .i64 (eR (ks.map aG):Int))∧Below w.heap.size w w':=by
 have HT:=aa hT;have HK:=aa hk;have HV:=aa hV;have HB:=aa hb;obtain⟨A,c,rfl,hc,hcell⟩:=hk;simp only[bU] at hc ⊢;obtain⟨R,hR⟩ :∃R,R=eR (ks.map aG):=⟨_,rfl⟩;have HR:=aa hR;rw[←hR];clear hT hV hb hR hcell;go_enter Tryz.func30,Tryz.ntmps30
 go_wp2_with fail
 have eM:=heap_alloc_new w (.cells #[nv] 56);have hb0:Below w.heap.size w (w.alloc (.cells #[nv] 56)):=(Below.refl _ _).alloc (ah _) _;generalize hW1:w.alloc (.cells #[nv] 56)=W1 at eM hb0 ⊢;have mB:=aa eM;have tF:=aa hb0;clear eM hb0 hW1;go_loopw [5,10] (fun m i wr=>∃n mm:Nat,i=.int .i64 (n:Int)∧m=.int .i64 (mm:Int)∧n≤ks.length∧Below W1.heap.size W1 wr∧max mm (eR ((ks.map aG).drop n))=R∧mm≤3000000) (fun _ i _=>ks.length-(intOf i).toNat)
 case atStart=>exact⟨0,0,rfl,rfl,bo _,Below.refl _ _,by rw[oJ,HR.out];omega,by omega⟩
 case round =>
  obtain⟨n,mm,rfl,rfl,hn,hb,hm,hm3⟩:=hrel;have py:=(hb.block _ (aO.1 mB.out).1).trans mB.out;have p0:=ae py 0;replace p0:_=some nv:=p0;have pP:=aa hb;have HM:=aa hm;clear hb py hm;by_cases hlt:n<ks.length
  ·obtain⟨k,hk⟩ :∃k,ks[n]? = some k:=⟨ks[n],bG hlt⟩
   have oz:=aX hk;have pj:=tF.out.trans (pP.out.mono tF.out.size);have DI:=aa (HK.out.below pj);obtain⟨A',c',he,_,eF⟩:=DI.out;injection he with qp _ MD;subst qp MD;rcases eF with h0 | ⟨sb,so,rfl,SK,hsc⟩
   ·rw[kJ] at h0
    rw[h0] at hlt;exact absurd hlt (by simp)
   have cs:wr.cell? ⟨sb,so+n,none⟩=some (.int .i64 (k.loc:Int)):=hsc n _ (by rw[eO,hk];rfl)
   have mD:=aa (HV.out k oz wr (HT.out.below pj));have hkb:=HB.out k oz;have sL:=aa (I3 (l:=ks.map aG) (n:=n) (a:=aG k) (by rw[eO,hk];rfl))
   obtain⟨q,hq⟩ :∃q,aG k=q:=⟨_,rfl⟩;rw[hq] at hkb;have HQ:=aa hq;have jf:=aa hlt;clear hk oz hsc hq pj;go_wp2_with fail
   refine mD.out.mono ?_;rintro e w2 ⟨rfl,b2⟩;rw[HQ.out];have B2:=aa (pP.out.trans (b2.mono pP.out.size));clear b2;go_wp2_with fail
   refine⟨⟨n+1,max mm q,by go_num,by rw[max_1],jf.out,B2.out,?_,by omega⟩,by have:=jf.out;simp[intOf];omega⟩
   rw[←HM.out,sL.out,HQ.out,Nat.max_assoc]
  ·have ru:n=ks.length:=by omega
   go_wp2_with fail
   go_ret
   have hE:R=mm:=by rw[←HM.out,ru,mr (by simp),eR];omega
   rw[hE];exact⟨rfl,tF.out.trans (pP.out.mono tF.out.size)⟩
theorem xB :∀(l:List Nat) (h d:Nat),l≠[]→dA (h+d) l=d+dA h l
 | [],_,_,hl=>absurd rfl hl
 | [a],h,d,_=>by rw[dA,dA,dA,dA];omega
 | a::b::l,h,d,_=>by
  have:=xB (b::l) (h+1) d (by simp)
  show max (h+d+a) (dA (h+d+1) (b::l))=d+max (h+a) (dA (h+1) (b::l))
  rw[show h+d+1=h+1+d by omega,this]
  omega
theorem I4 {vals:List Nat} {l:List (Int×Nat)} {n a h:Nat} (hn:l[n]? = some (8,a)):mH vals h (l.drop n)=max (h+a) (mH vals (h+2) (l.drop (n+1))):=by
 obtain⟨hlt,e⟩:=aK.1 hn;rw[pR hlt,e,mH,ai rfl]
theorem NH {vals:List Nat} {l:List (Int×Nat)} {n a h:Nat} {k:Int} (hk:k≠8) (hn:l[n]? = some (k,a)):mH vals h (l.drop n)=mH vals h (l.drop (n+1)):=by
 obtain⟨hlt,e⟩:=aK.1 hn;rw[pR hlt,e,mH,ab hk]
structure abg (nv:Value) (T:List Nd) (k:Lt):Prop where
 at_:T[k.loc]? = some k.hd
 kids:k.hd.kids=k.sub.map fun x=>(x.loc:Int)
 two:k.hd.kind=8→k.sub≠[]∧k.sub.length≤1000000
 ok :∀x∈k.sub,Bq nv T x
 le :∀x∈k.sub,aG x≤1000000
 small:aG k≤1000000
theorem Tm {k:Lt} (h8:k.hd.kind=8):aG k=dA 0 (k.sub.map aG):=by
 rw[fQ,gp];rw[ab (by omega),ab (by omega),ab (by omega),ab (by omega),ab (by omega),ab (by omega),ab (by omega),ai (.inl h8),zY]
 rfl
theorem DR {T:List Nd} {nv:Value} (ts vs:List Lt) (tv vv:Value) (w:World) (hT:fw w nv T) (ht:cQ w tv (ts.map fun k=>(k.loc:Int))) (hv:cQ w vv (vs.map fun k=>(k.loc:Int))) (Tn :∀k∈ts,abg nv T k) (hV :∀k∈vs,Bq nv T k) (hb :∀k∈vs,aG k≤1000000) (hl:ts.length≤100000) (hl2:vs.length≤1000000) :
  Calls Tryz.prog 28 #[.agg #[nv],tv,vv] w fun e w'=>e=.returned (.int .i64 (mH (vs.map aG) 0 (ts.map fun k=>(k.hd.kind,aG k)):Int))∧Below w.heap.size w w':=by
 have HT:=aa hT;have HK:=aa ht;have HVV:=aa hv;have HTG:=aa Tn;have HV:=aa hV;have HB:=aa hb;obtain⟨A,c,rfl,hc,hcell⟩:=ht;obtain⟨A2,c2,rfl,hc2,YZ⟩:=hv;simp only[bU] at hc hc2 ⊢;obtain⟨R,hR⟩ :∃R,R=mH (vs.map aG) 0 (ts.map fun k=>(k.hd.kind,aG k)):=⟨_,rfl⟩
 have HR:=aa hR;rw[←hR];clear hT Tn hV hb hR hcell YZ;go_enter Tryz.func28,Tryz.ntmps28
 go_wp2_with fail
 have eM:=heap_alloc_new w (.cells #[nv] 56);have hb0:Below w.heap.size w (w.alloc (.cells #[nv] 56)):=(Below.refl _ _).alloc (ah _) _;generalize hW1:w.alloc (.cells #[nv] 56)=W1 at eM hb0 ⊢;have mB:=aa eM;have tF:=aa hb0;clear eM hb0 hW1;go_loopw [7,8,14] (fun m hd i wr=>∃n mm h:Nat,i=.int .i64 (n:Int)∧m=.int .i64 (mm:Int)∧hd=.int .i64 (h:Int)∧n≤ts.length∧Below W1.heap.size W1 wr∧max mm (mH (vs.map aG) h ((ts.map fun k=>(k.hd.kind,aG k)).drop n))=R∧mm≤3000000∧h≤2*n) (fun _ _ i _=>ts.length-(intOf i).toNat)
 case atStart=>exact⟨0,0,0,rfl,rfl,rfl,bo _,Below.refl _ _,by rw[oJ,HR.out];omega,by omega,by omega⟩
 case round =>
  obtain⟨n,mm,h,rfl,rfl,rfl,hn,hb,hm,hm3,hh⟩:=hrel;have py:=(hb.block _ (aO.1 mB.out).1).trans mB.out;have p0:=ae py 0;replace p0:_=some nv:=p0;have lp:w.heap.size<wr.heap.size:=(aO.1 py).1;have pP:=aa hb;have HM:=aa hm;have pj:=tF.out.trans (pP.out.mono tF.out.size);have iK:=aa pj;clear hb py hm pj;by_cases hlt:n<ts.length
  ·obtain⟨k,hk⟩ :∃k,ts[n]? = some k:=⟨ts[n],bG hlt⟩
   have oz:=aX hk;have DI:=aa (HK.out.below iK.out);obtain⟨A',c',he,_,eF⟩:=DI.out;injection he with qp _ MD;subst qp MD;rcases eF with h0 | ⟨sb,so,rfl,SK,hsc⟩
   ·rw[kJ] at h0
    rw[h0] at hlt;exact absurd hlt (by simp)
   have cs:wr.cell? ⟨sb,so+n,none⟩=some (.int .i64 (k.loc:Int)):=hsc n _ (by rw[eO,hk];rfl)
   have htg:=HTG.out k oz;have HTK:=aa htg;obtain⟨NA,nc,rfl,hnc,hX⟩:=HT.out.below iK.out;have hkt:=htg.at_;have hktl:=(aK.1 hkt).1;rcases hX with h0 | ⟨bk,o,rfl,dU,hX⟩
   ·rw[h0] at hkt;cases hkt
   obtain⟨vM,vN,eT,⟨SA,sc,hse,_,_⟩,KM⟩:=hX k.loc k.hd hkt;have HUN:=aa KM;obtain⟨UA,uc,Y0,Fw,_⟩:=KM;obtain⟨c0,c1,cc2,c3,c4,c5,c6⟩:=eT;rw[hse] at c5;rw[Y0] at c6 HUN;obtain⟨x,hx⟩ :∃x,x=k.hd:=⟨_,rfl⟩;rw[←hx] at c0 c1 cc2 c3 c4 c5 c6 Fw HUN;have HX:=aa hx;have hi:((k.loc:Int)<0)=False:=ew (by omega)
   have ra:(T.length≤k.loc)=False:=ew (by omega)
   have jf:=aa hlt;clear oz htg hx hkt hse Y0 hX hsc;by_cases h8:x.kind=8
   ·rw[h8] at c0
    have To:=HTK.out.two (by rw[←HX.out];exact h8)
    have NI:=HTK.out.small;have sL:=aa (I4 (vals:=vs.map aG) (l:=ts.map fun k=>(k.hd.kind,aG k)) (n:=n) (a:=aG k) (h:=h) (by rw[eO,hk];show some (k.hd.kind,aG k)=_;rw[←HX.out,h8]))
    have hrow:dA h (k.sub.map aG)=h+aG k:=by
     have:=xB (k.sub.map aG) 0 h (by simp[To.1])
     rw[Tm (by rw[←HX.out];exact h8),←this,gi]
    have I5:=aa (fun W (hW:Below wr.heap.size wr W)=>oc (T:=T) (nv:=.slice (some ⟨bk,o,none⟩) T.length nc) k.sub (.slice UA x.kids.length uc) h W (HT.out.below (iK.out.trans (hW.mono iK.out.size))) (by
     have:=HUN.out.below hW;rw[HX.out,HTK.out.kids] at this ⊢;exact this) HTK.out.ok HTK.out.le To.2 (by omega))
    rw[hrow] at I5;obtain⟨q,hq⟩ :∃q,h+aG k=q:=⟨_,rfl⟩;rw[hq] at I5 sL;have hql:q≤2000000:=by omega
    clear hq To hrow hk NI;go_wp2_with fail
    refine(I5.out _ ((Below.refl _ _).alloc (ah _) _)).mono ?_;rintro e w2 ⟨rfl,b2⟩;have B2:=aa (pP.out.trans ((((Below.refl _ _).alloc (ah _) _).trans (b2.mono (by rw[aq];omega))).mono pP.out.size))
    clear b2;go_wp2_with fail
    refine⟨⟨n+1,max mm q,h+2,by go_num,by rw[max_1],by go_num,by have:=jf.out;omega,B2.out,?_,by omega,by omega⟩,by have:=jf.out;simp[intOf];omega⟩
    rw[←HM.out,sL.out,Nat.max_assoc]
   ·have g8:(x.kind == 8)=false:=aC.2 h8
    have sL:=aa (NH (vals:=vs.map aG) (l:=ts.map fun k=>(k.hd.kind,aG k)) (n:=n) (a:=aG k) (h:=h) (k:=k.hd.kind) (by rw[←HX.out];exact h8) (by rw[eO,hk];rfl))
    clear h8 hk;go_wp2_with fail
    refine⟨⟨n+1,mm,h,by go_num,rfl,rfl,by have:=jf.out;omega,pP.out.alloc pP.out.size _,?_,by omega,by omega⟩,by have:=jf.out;simp[intOf];omega⟩
    rw[←HM.out,sL.out]
  ·have ru:n=ts.length:=by omega
   have I5:=aa (oc (T:=T) (nv:=nv) vs (.slice A2 vs.length c2) h wr (HT.out.below iK.out) (by have:=HVV.out.below iK.out;rw[bU] at this;exact this) HV.out HB.out hl2 (by omega))
   obtain⟨q,hq⟩ :∃q,dA h (vs.map aG)=q:=⟨_,rfl⟩;rw[hq] at I5;have HQ:=aa hq;clear hq;go_wp2_with fail
   refine I5.out.mono ?_;rintro e w2 ⟨rfl,b2⟩;have B2:=aa (iK.out.trans (b2.mono iK.out.size));clear b2;have hE:R=max mm q:=by rw[←HM.out,ru,mr (by simp),mH,HQ.out]
   have HE:=aa hE;clear hE;go_wp2_with fail
   all_goals
    go_ret
    refine⟨?_,B2.out⟩;rw[HE.out];first
     | (rw[show max mm q=q by omega];rfl)
     | (rw[show max mm q=mm by omega];rfl)
end Go.Proofs.YtodmcdfeldkocaaGreatDoor
namespace Go.Proofs.YtodmcdfeldkocaaGreatDoor
open Go.RowKit
theorem kg (t:Lt):(t.sub.map fun k=>(k.hd.kind,aG k)).map (·.2)=t.sub.map aG:=by rw[zY];rfl
section
variable {t:Lt}
theorem I6 (h:t.hd.kind=30∨t.hd.kind=31∨t.hd.kind=32):aG t=0:=by rw[fQ,gp,ai h]
theorem NJ (h:t.hd.kind=20):aG t=mH ((t.sub.drop t.hd.num.toNat).map aG) 0 ((t.sub.take t.hd.num.toNat).map fun k=>(k.hd.kind,aG k)):=by
 rw[fQ,gp,ab (by omega),ai h,←wJ,←zW,zY];rfl
theorem NK (h:t.hd.kind=10):aG t=max 2 (max ((t.sub.map aG).headD 0) (dA 2 ((t.sub.map aG).drop 1))):=by
 rw[fQ,gp,ab (by omega),ab (by omega),ai h,kg]
theorem I7 (h:t.hd.kind=27):aG t=max 6 (max (dA 0 (t.sub.map aG).dropLast) (3+(t.sub.map aG).getLastD 0)):=by
 rw[fQ,gp,ab (by omega),ab (by omega),ab (by omega),ai h,kg]
theorem NL (h:t.hd.kind=26):aG t=max (dA 0 (t.sub.map aG).dropLast) (3+(t.sub.map aG).getLastD 0):=by
 rw[fQ,gp,ab (by omega),ab (by omega),ab (by omega),ab (by omega),ai h,kg]
theorem NM (h:t.hd.kind=12):aG t=if t.hd.op=18∨t.hd.op=19 then eR (t.sub.map aG) else dA 0 (t.sub.map aG):=by
 rw[fQ,gp,ab (by omega),ab (by omega),ab (by omega),ab (by omega),ab (by omega),ai h,kg]
theorem I8 (h:t.hd.kind=16∨t.hd.kind=17):aG t=dA 1 (t.sub.map aG):=by
 rw[fQ,gp,ab (by omega),ab (by omega),ab (by omega),ab (by omega),ab (by omega),ab (by omega),ai h,kg]
theorem NN (h:t.hd.kind=8∨t.hd.kind=9∨t.hd.kind=19∨t.hd.kind=29):aG t=dA 0 (t.sub.map aG):=by
 rw[fQ,gp,ab (by omega),ab (by omega),ab (by omega),ab (by omega),ab (by omega),ab (by omega),ab (by omega),ai h,kg]
theorem NO (h:t.hd.kind=15):aG t=max 1 (eR (t.sub.map aG)):=by
 rw[fQ,gp,ab (by omega),ab (by omega),ab (by omega),ab (by omega),ab (by omega),ab (by omega),ab (by omega),ab (by omega),ai h,kg]
theorem I9 (h:t.hd.kind=13∨t.hd.kind=14∨t.hd.kind=18∨t.hd.kind=21∨t.hd.kind=22∨t.hd.kind=23∨t.hd.kind=24∨t.hd.kind=25):aG t=eR (t.sub.map aG):=by
 rw[fQ,gp,ab (by omega),ab (by omega),ab (by omega),ab (by omega),ab (by omega),ab (by omega),ab (by omega),ab (by omega),ab (by omega),ai h,kg]
theorem NP (h:t.hd.kind=1∨t.hd.kind=2∨t.hd.kind=3∨t.hd.kind=4∨t.hd.kind=5∨t.hd.kind=6∨t.hd.kind=7∨t.hd.kind=11∨t.hd.kind=28):aG t=1:=by
 rw[fQ,gp,ab (by omega),ab (by omega),ab (by omega),ab (by omega),ab (by omega),ab (by omega),ab (by omega),ab (by omega),ab (by omega),ab (by omega)]
end
theorem Bt :∀l:List Lt,l.length≤Lt.al l
 | []=>bo _
 | a::l=>by
  rw[Lt.al,List.length_cons];have h1:1≤a.size:=by cases a;rw[Lt.size];omega
  have:=Bt l;omega
theorem FZ (t:Lt):t.sub.length<t.size:=by
 rw[um t];have:=Bt t.sub;omega
theorem xC {k:Lt} :∀{l:List Lt},k∈l→k.size≤Lt.al l
 | a::l,h=>by
  rw[Lt.al];rcases bc.1 h with rfl|h
  ·omega
  ·have:=xC h;omega
theorem jK {t k:Lt} (h:k∈t.sub):k.size<t.size:=by
 rw[um t];have:=xC h;omega
structure Tp (T:List Nd) (nv:Value) (t:Lt) (bk o nc:Nat) (SA UA:Option Addr) (sc uc:Nat) (w:World):Prop where
 nv_:nv=.slice (some ⟨bk,o,none⟩) T.length nc
 lt:t.loc<T.length
 few:T.length≤1000000
 hb:bk<w.heap.size
 c0:w.cell? ⟨bk,o+t.loc*7,none⟩=some (.int .i64 t.hd.kind)
 c1:w.cell? ⟨bk,o+t.loc*7+1,none⟩=some (.int .i64 t.hd.line)
 c2:w.cell? ⟨bk,o+t.loc*7+2,none⟩=some (.int .i64 t.hd.op)
 c3:w.cell? ⟨bk,o+t.loc*7+3,none⟩=some (.int .i64 t.hd.num)
 c4:w.cell? ⟨bk,o+t.loc*7+4,none⟩=some (.string t.hd.s)
 c5:w.cell? ⟨bk,o+t.loc*7+5,none⟩=some (.slice SA t.hd.names.length sc)
 c6:w.cell? ⟨bk,o+t.loc*7+6,none⟩=some (.slice UA t.sub.length uc)
 kids:cQ w (.slice UA t.sub.length uc) (t.sub.map fun k=>(k.loc:Int))
 len:t.sub.length≤uc∧t.sub.length≤20000
 ok :∀k∈t.sub,Bq nv T k
 le :∀k∈t.sub,aG k≤1000000
theorem Tq {T:List Nd} {nv:Value} {t:Lt} {w:World} (hT:fw w nv T) (hn:ic T t) (hl:T.length≤1000000) (hs:t.size≤16384) (IH :∀s:Lt,s.size<t.size→ic T s→Bq nv T s) :
  ∃bk o nc SA UA sc uc,Tp T nv t bk o nc SA UA sc uc w:=by
 obtain⟨h1,h2,h3⟩:=lN hn.yF;have hlt:=(aK.1 h2).1;obtain⟨NA,nc,rfl,hnc,hX⟩:=hT;rcases hX with h0 | ⟨bk,o,rfl,dU,hX⟩
 ·rw[h0] at hlt;cases hlt
 obtain⟨vM,vN,⟨c0,c1,c2,c3,c4,c5,c6⟩,⟨SA,sc,hse,_,_⟩,KM⟩:=hX t.loc t.hd h2;rw[h3] at KM;have ade:=KM;obtain⟨UA,uc,Y0,Fw,_⟩:=ade;rw[bU] at Y0 Fw;rw[hse] at c5;rw[Y0] at c6 KM;have hsz:=FZ t;exact⟨bk,o,nc,SA,UA,sc,uc,rfl,hlt,hl,dU,c0,c1,c2,c3,c4,c5,c6,KM,⟨Fw,by omega⟩,fun k hk=>IH k (jK hk) (hn.sub.1.at_ k hk),fun k hk=>by have:=p9 k;have:=jK hk;omega⟩
section
variable {T:List Nd} {nv:Value} {t:Lt} {bk o nc:Nat} {SA UA:Option Addr} {sc uc:Nat} {w:World}
theorem Ja (hT:fw w nv T) (hI:Tp T nv t bk o nc SA UA sc uc w) (hk:t.hd.kind=30∨t.hd.kind=31∨t.hd.kind=32) :
  Calls Tryz.prog 15 #[.agg #[nv],.int .i64 (t.loc:Int)] w fun e w'=>e=.returned (.int .i64 (aG t:Int))∧Below w.heap.size w w':=by
 rw[I6 hk];obtain⟨rfl,hlt,jl,dU,c0,c1,c2,c3,c4,c5,c6,_,_,_,_⟩:=hI;have hi:((t.loc:Int)<0)=False:=ew (by omega)
 have ra:(T.length≤t.loc)=False:=ew (by omega)
 clear hT;rcases hk with hk|hk|hk;all_goals
  rw[hk] at c0;clear hk;go_enter Tryz.func15,Tryz.ntmps15
  go_wp2_with fail
  go_ret
  exact⟨rfl,Below.two _ _⟩
theorem NR (hT:fw w nv T) (hI:Tp T nv t bk o nc SA UA sc uc w) (hk:t.hd.kind=1∨t.hd.kind=2∨t.hd.kind=3∨t.hd.kind=4∨t.hd.kind=5∨t.hd.kind=6∨t.hd.kind=7∨t.hd.kind=11∨t.hd.kind=28) :
  Calls Tryz.prog 15 #[.agg #[nv],.int .i64 (t.loc:Int)] w fun e w'=>e=.returned (.int .i64 (aG t:Int))∧Below w.heap.size w w':=by
 rw[NP hk];obtain⟨rfl,hlt,jl,dU,c0,c1,c2,c3,c4,c5,c6,_,_,_,_⟩:=hI;have hi:((t.loc:Int)<0)=False:=ew (by omega)
 have ra:(T.length≤t.loc)=False:=ew (by omega)
 clear hT;rcases hk with hk|hk|hk|hk|hk|hk|hk|hk|hk;all_goals
  rw[hk] at c0;clear hk;go_enter Tryz.func15,Tryz.ntmps15
  go_wp2_with fail
  go_ret
  exact⟨rfl,Below.two _ _⟩
theorem xD (d:Nat) (hT:fw w nv T) (hI:Tp T nv t bk o nc SA UA sc uc w) (hk:(t.hd.kind=13∨t.hd.kind=14∨t.hd.kind=18∨t.hd.kind=21∨t.hd.kind=22∨t.hd.kind=23∨t.hd.kind=24∨t.hd.kind=25)∧d=0∨t.hd.kind=15∧d=1) :
  Calls Tryz.prog 15 #[.agg #[nv],.int .i64 (t.loc:Int)] w fun e w'=>e=.returned (.int .i64 (aG t:Int))∧Below w.heap.size w w':=by
 have kh:aG t=max d (eR (t.sub.map aG)):=by
  rcases hk with ⟨hk,rfl⟩ | ⟨hk,rfl⟩
  ·rw[I9 hk];omega
  ·exact NO hk
 rw[kh];clear kh;have hI':=hI;obtain⟨rfl,hlt,jl,dU,c0,c1,c2,c3,c4,c5,c6,_,_,_,_⟩:=hI';have HT:=aa hT;have HI:=aa hI;have hi:((t.loc:Int)<0)=False:=ew (by omega)
 have ra:(T.length≤t.loc)=False:=ew (by omega)
 have HC:=aa (fun W (hW:Below w.heap.size w W)=>Br (T:=T) (nv:=.slice (some ⟨bk,o,none⟩) T.length nc) t.sub (.slice UA t.sub.length uc) W (HT.out.below hW) (HI.out.kids.below hW) HI.out.ok HI.out.le (by have:=HI.out.len.2;omega))
 obtain⟨q,hq⟩ :∃q,eR (t.sub.map aG)=q:=⟨_,rfl⟩;rw[hq] at HC ⊢;clear hT hI hq;rcases hk with ⟨hk|hk|hk|hk|hk|hk|hk|hk,rfl⟩ | ⟨hk,rfl⟩;all_goals
  rw[hk] at c0;clear hk;go_enter Tryz.func15,Tryz.ntmps15
  go_wp2_with fail
  refine(HC.out _ (Below.two _ _)).mono ?_;rintro e w2 ⟨rfl,b2⟩;have B2:=aa ((Below.two _ _).trans (b2.mono (Below.two _ _).size));clear b2;go_wp2_with fail
  all_goals
   go_ret
   refine⟨aw (fun z:Int=>Ending.returned (Value.int .i64 z)) ?_,B2.out⟩
   omega
theorem Bu (d:Nat) (hT:fw w nv T) (hI:Tp T nv t bk o nc SA UA sc uc w) (hk:(t.hd.kind=8∨t.hd.kind=9∨t.hd.kind=19∨t.hd.kind=29)∧d=0∨(t.hd.kind=16∨t.hd.kind=17)∧d=1) :
  Calls Tryz.prog 15 #[.agg #[nv],.int .i64 (t.loc:Int)] w fun e w'=>e=.returned (.int .i64 (aG t:Int))∧Below w.heap.size w w':=by
 have kh:aG t=dA d (t.sub.map aG):=by
  rcases hk with ⟨hk,rfl⟩ | ⟨hk,rfl⟩
  ·exact NN hk
  ·exact I8 hk
 rw[kh];clear kh;have hI':=hI;obtain⟨rfl,hlt,jl,dU,c0,c1,c2,c3,c4,c5,c6,_,_,_,_⟩:=hI';have HT:=aa hT;have HI:=aa hI;have hi:((t.loc:Int)<0)=False:=ew (by omega)
 have ra:(T.length≤t.loc)=False:=ew (by omega)
 have HC:=aa (fun W (hW:Below w.heap.size w W)=>oc (T:=T) (nv:=.slice (some ⟨bk,o,none⟩) T.length nc) t.sub (.slice UA t.sub.length uc) d W (HT.out.below hW) (HI.out.kids.below hW) HI.out.ok HI.out.le (by have:=HI.out.len.2;omega) (by omega))
 obtain⟨q,hq⟩ :∃q,dA d (t.sub.map aG)=q:=⟨_,rfl⟩;rw[hq] at HC ⊢;clear hT hI hq;rcases hk with ⟨hk|hk|hk|hk,rfl⟩ | ⟨hk|hk,rfl⟩;all_goals
  rw[hk] at c0;clear hk;go_enter Tryz.func15,Tryz.ntmps15
  go_wp2_with fail
  refine(HC.out _ (Below.two _ _)).mono ?_;rintro e w2 ⟨rfl,b2⟩;have B2:=aa ((Below.two _ _).trans (b2.mono (Below.two _ _).size));clear b2;go_wp2_with fail
  go_ret
  exact⟨rfl,B2.out⟩
end
end Go.Proofs.YtodmcdfeldkocaaGreatDoor
namespace Go.Proofs.YtodmcdfeldkocaaGreatDoor
open Go.RowKit
section
variable {T:List Nd} {nv:Value} {t:Lt} {bk o nc:Nat} {SA UA:Option Addr} {sc uc:Nat} {w:World}
theorem NS (hT:fw w nv T) (hI:Tp T nv t bk o nc SA UA sc uc w) (hk:t.hd.kind=12) :
  Calls Tryz.prog 15 #[.agg #[nv],.int .i64 (t.loc:Int)] w fun e w'=>e=.returned (.int .i64 (aG t:Int))∧Below w.heap.size w w':=by
 rw[NM hk];have hI':=hI;obtain⟨rfl,hlt,jl,dU,c0,c1,c2,c3,c4,c5,c6,_,_,_,_⟩:=hI';have HT:=aa hT;have HI:=aa hI;have hi:((t.loc:Int)<0)=False:=ew (by omega)
 have ra:(T.length≤t.loc)=False:=ew (by omega)
 have HC:=aa (fun W (hW:Below w.heap.size w W)=>oc (T:=T) (nv:=.slice (some ⟨bk,o,none⟩) T.length nc) t.sub (.slice UA t.sub.length uc) 0 W (HT.out.below hW) (HI.out.kids.below hW) HI.out.ok HI.out.le (by have:=HI.out.len.2;omega) (by omega))
 have HD:=aa (fun W (hW:Below w.heap.size w W)=>Br (T:=T) (nv:=.slice (some ⟨bk,o,none⟩) T.length nc) t.sub (.slice UA t.sub.length uc) W (HT.out.below hW) (HI.out.kids.below hW) HI.out.ok HI.out.le (by have:=HI.out.len.2;omega))
 rw[hk] at c0;clear hT hI hk;by_cases h1:t.hd.op=18
 ·rw[ai (.inl h1)]
  rw[h1] at c2;clear h1;go_enter Tryz.func15,Tryz.ntmps15
  go_wp2_with fail
  refine(HD.out _ (Below.two _ _)).mono ?_;rintro e w2 ⟨rfl,b2⟩;have B2:=aa ((Below.two _ _).trans (b2.mono (Below.two _ _).size));clear b2;go_wp2_with fail
  go_ret
  exact⟨rfl,B2.out⟩
 by_cases h2:t.hd.op=19
 ·rw[ai (.inr h2)]
  rw[h2] at c2;clear h1 h2;go_enter Tryz.func15,Tryz.ntmps15
  go_wp2_with fail
  refine(HD.out _ (Below.two _ _)).mono ?_;rintro e w2 ⟨rfl,b2⟩;have B2:=aa ((Below.two _ _).trans (b2.mono (Below.two _ _).size));clear b2;go_wp2_with fail
  go_ret
  exact⟨rfl,B2.out⟩
 ·rw[ab (by omega)]
  have g1:(t.hd.op == 18)=false:=aC.2 h1;have g2:(t.hd.op == 19)=false:=aC.2 h2;clear h1 h2;go_enter Tryz.func15,Tryz.ntmps15
  go_wp2_with fail
  refine(HC.out _ (Below.two _ _)).mono ?_;rintro e w2 ⟨rfl,b2⟩;have B2:=aa ((Below.two _ _).trans (b2.mono (Below.two _ _).size));clear b2;go_wp2_with fail
  go_ret
  exact⟨rfl,B2.out⟩
theorem Ga {W:World} {b so c:Nat} {zs:List Int} (h:cQ W (.slice (some ⟨b,so,none⟩) zs.length c) zs) (hb:b<W.heap.size) (n:Nat) (hn:n≤zs.length):cQ W (.slice (some ⟨b,so,none⟩) n c) (zs.take n):=by
 obtain⟨A,c',e,hc,hx⟩:=h;injection e with e1 _ e2;subst e1 e2;refine⟨_,_,by rw[j4,zS hn],by rw[j4];omega,.inr ⟨b,so,rfl,hb,fun j z hj=>?_⟩⟩
 have hjn:=(aK.1 hj).1;rw[j4] at hjn;rw[List.getElem?_take_of_lt (by omega)] at hj
 rcases hx with h0 | ⟨bk,o,e,_,hx⟩
 ·rw[h0] at hj;cases hj
 ·injection e with e
  injection e with e1 e2;subst e1 e2;exact hx j z hj
theorem Gb {W:World} {b so c:Nat} {zs:List Int} (h:cQ W (.slice (some ⟨b,so,none⟩) zs.length c) zs) (hb:b<W.heap.size) (n m:Nat) (hn:n+m=zs.length):cQ W (.slice (some ⟨b,so+n,none⟩) m (c-n)) (zs.drop n):=by
 obtain⟨A,c',e,hc,hx⟩:=h;injection e with e1 _ e2;subst e1 e2;refine⟨_,_,by rw[jb,show zs.length-n=m by omega],by rw[jb];omega,.inr ⟨b,so+n,rfl,hb,fun j z hj=>?_⟩⟩
 rw[wF] at hj;rcases hx with h0 | ⟨bk,o,e,_,hx⟩
 ·rw[h0] at hj;simp at hj
 ·injection e with e
  injection e with e1 e2;subst e1 e2;rw[oK];exact hx (n+j) z hj
theorem Bv (hT:fw w nv T) (hI:Tp T nv t bk o nc SA UA sc uc w) (hk:t.hd.kind=26∨t.hd.kind=27) (hne:t.sub≠[]) :
  Calls Tryz.prog 15 #[.agg #[nv],.int .i64 (t.loc:Int)] w fun e w'=>e=.returned (.int .i64 (aG t:Int))∧Below w.heap.size w w':=by
 obtain⟨l,b,hs⟩ :∃l b,t.sub=l++[b]:=by
  rcases List.eq_nil_or_concat t.sub with h | ⟨l,b,h⟩
  ·exact absurd h hne
  ·exact⟨l,b,by rw[h,List.concat_eq_append]⟩
 have kh:aG t=max (if t.hd.kind=27 then 6 else 0) (max (dA 0 (l.map aG)) (3+aG b)):=by
  rcases hk with hk|hk
  ·rw[NL hk,hs,ab (by omega)];simp
  ·rw[I7 hk,hs,ai hk];simp
 rw[kh];have hI':=hI;obtain⟨rfl,hlt,jl,dU,c0,c1,c2,c3,c4,c5,c6,dh,hlen,ri,hle⟩:=hI';rw[hs] at dh hlen ri hle c6;have u9:=dh;obtain⟨A,c',e,hc,hx⟩:=u9;injection e with e1 e3 e2;subst e1 e2;rcases hx with h0 | ⟨sb,so,rfl,yD,hx⟩
 ·simp at h0
 have LF:w.cell? ⟨sb,so+l.length,none⟩=some (.int .i64 (b.loc:Int)):=hx l.length _ (by simp)
 simp only[bY,List.length_cons,List.length_nil,gi,bU] at dh hlen c6 hc;have kY:cQ w (.slice (some ⟨sb,so,none⟩) l.length uc) (l.map fun k=>(k.loc:Int)):=by
  have:=Ga (zs:=(l++[b]).map fun k=>(k.loc:Int)) (by simpa using dh) yD l.length (by simp)
  rw[←zW,List.take_left] at this;exact this
 have HT:=aa hT;have hi:((t.loc:Int)<0)=False:=ew (by omega)
 have ra:(T.length≤t.loc)=False:=ew (by omega)
 have HC:=aa (fun W (hW:Below w.heap.size w W)=>oc (T:=T) (nv:=.slice (some ⟨bk,o,none⟩) T.length nc) l (.slice (some ⟨sb,so,none⟩) l.length uc) 0 W (HT.out.below hW) (kY.below hW) (fun k hk=>ri k (eN _ hk)) (fun k hk=>hle k (eN _ hk)) (by omega) (by omega))
 have HD:=aa (fun W (hW:Below w.heap.size w W)=>ri b (by simp) W (HT.out.below hW))
 have hbl:=hle b (by simp)
 obtain⟨q,hq⟩ :∃q,dA 0 (l.map aG)=q:=⟨_,rfl⟩;obtain⟨r,hr⟩ :∃r,aG b=r:=⟨_,rfl⟩;rw[hq] at HC ⊢;rw[hr] at HD hbl ⊢;have hll:=hlen.2;clear e3 hT hI hq hr kh hs hx dh kY ri hle hlen hne;rcases hk with hk|hk
 ·rw[hk] at c0 ⊢
  clear hk;go_enter Tryz.func15,Tryz.ntmps15
  go_wp2_with fail
  go_quiet (fail)
  go_wp2_with fail
  obtain⟨W,hW⟩ :∃W,W=((w.alloc (.cells #[.slice (some ⟨bk,o,none⟩) T.length nc] 56)).alloc (.cells #[.int .i64 26,.int .i64 t.hd.line,.int .i64 t.hd.op,.int .i64 t.hd.num,.string t.hd.s,.slice SA t.hd.names.length sc,.slice (some ⟨sb,so,none⟩) (l.length+1) uc] 54)).drewN nq:=⟨_,rfl⟩;rw[←hW];have z0:=cell_regrown (show W.cell? ⟨w.heap.size,0,none⟩=some (.slice (some ⟨bk,o,none⟩) T.length nc) by rw[hW];simp[go_sem])
  have HB:=aa (show Below w.heap.size w W by rw[hW];exact below_drewN (Below.two _ _) _)
  clear hW;refine wp_region_quiet_below (by kernel_rfl) (by kernel_rfl) ?_
  repeat (go_big_quiet_step (first
   | (go_at_call 29;exact Calls.regrown_of (HC.out _ (HB.out.trans ((below_regrown _ _ _).mono HB.out.size))))
   | (go_at_call 15;exact Calls.regrown_of (HD.out _ (HB.out.trans ((below_regrown _ _ _).mono HB.out.size))))))
  refine wpQuiet_nil ?_;intro w4 hw';obtain⟨⟨dq,osq⟩,hw''⟩:=hw';have bb:=aa (HB.out.trans ((below_regrown W dq osq).mono HB.out.size));rw[←hw''] at bb;clear hw'' z0;go_wp2_with fail
  all_goals
   go_ret
   refine⟨aw (fun z:Int=>Ending.returned (Value.int .i64 z)) ?_,bb.out⟩
   omega
 ·rw[hk] at c0 ⊢
  clear hk;go_enter Tryz.func15,Tryz.ntmps15
  go_wp2_with fail
  go_quiet (fail)
  go_wp2_with fail
  obtain⟨W,hW⟩ :∃W,W=((w.alloc (.cells #[.slice (some ⟨bk,o,none⟩) T.length nc] 56)).alloc (.cells #[.int .i64 27,.int .i64 t.hd.line,.int .i64 t.hd.op,.int .i64 t.hd.num,.string t.hd.s,.slice SA t.hd.names.length sc,.slice (some ⟨sb,so,none⟩) (l.length+1) uc] 54)).drewN nq:=⟨_,rfl⟩;rw[←hW];have z0:=cell_regrown (show W.cell? ⟨w.heap.size,0,none⟩=some (.slice (some ⟨bk,o,none⟩) T.length nc) by rw[hW];simp[go_sem])
  have HB:=aa (show Below w.heap.size w W by rw[hW];exact below_drewN (Below.two _ _) _)
  clear hW;refine wp_region_quiet_below (by kernel_rfl) (by kernel_rfl) ?_
  repeat (go_big_quiet_step (first
   | (go_at_call 29;exact Calls.regrown_of (HC.out _ (HB.out.trans ((below_regrown _ _ _).mono HB.out.size))))
   | (go_at_call 15;exact Calls.regrown_of (HD.out _ (HB.out.trans ((below_regrown _ _ _).mono HB.out.size))))))
  refine wpQuiet_nil ?_;intro w4 hw';obtain⟨⟨dq,osq⟩,hw''⟩:=hw';have bb:=aa (HB.out.trans ((below_regrown W dq osq).mono HB.out.size));rw[←hw''] at bb;clear hw'' z0;go_wp2_with fail
  all_goals
   go_ret
   refine⟨aw (fun z:Int=>Ending.returned (Value.int .i64 z)) ?_,bb.out⟩
   omega
end
end Go.Proofs.YtodmcdfeldkocaaGreatDoor
namespace Go.Proofs.YtodmcdfeldkocaaGreatDoor
open Go.RowKit
section
variable {T:List Nd} {nv:Value} {t:Lt} {bk o nc:Nat} {SA UA:Option Addr} {sc uc:Nat} {w:World}
theorem NW (hT:fw w nv T) (hI:Tp T nv t bk o nc SA UA sc uc w) (hk:t.hd.kind=10) (hne:t.sub≠[]) :
  Calls Tryz.prog 15 #[.agg #[nv],.int .i64 (t.loc:Int)] w fun e w'=>e=.returned (.int .i64 (aG t:Int))∧Below w.heap.size w w':=by
 obtain⟨b,l,hs⟩ :∃b l,t.sub=b::l:=by
  cases h:t.sub with
  | nil=>exact absurd h hne
  | cons b l=>exact⟨b,l,rfl⟩
 have kh:aG t=max 2 (max (aG b) (dA 2 (l.map aG))):=by rw[NK hk,hs];rfl
 rw[kh];have hI':=hI;obtain⟨rfl,hlt,jl,dU,c0,c1,c2,c3,c4,c5,c6,dh,hlen,ri,hle⟩:=hI';rw[hs] at dh hlen ri hle c6;have u9:=dh;obtain⟨A,c',e,hc,hx⟩:=u9;injection e with e1 e3 e2;subst e1 e2;rcases hx with h0 | ⟨sb,so,rfl,yD,hx⟩
 ·simp at h0
 have Y1:w.cell? ⟨sb,so,none⟩=some (.int .i64 (b.loc:Int)):=hx 0 _ (by simp)
 have WR:cQ w (.slice (some ⟨sb,so+1,none⟩) l.length (uc-1)) (l.map fun k=>(k.loc:Int)):=Gb (zs:=(b::l).map fun k=>(k.loc:Int)) (by simpa using dh) yD 1 l.length (by simp;omega)
 simp only[List.length_cons,bU] at dh hlen c6 hc;obtain⟨P,hP,kY⟩ :∃P,((uc=1)=True∧P=so∨(uc=1)=False∧P=so+1)∧cQ w (.slice (some ⟨sb,P,none⟩) l.length (uc-1)) (l.map fun k=>(k.loc:Int)):=by
  by_cases hu:uc=1
  ·have hl0:l=[]:=oG (by omega)
   subst hl0;exact⟨so,.inl ⟨eq_true hu,rfl⟩,_,_,rfl,bo _,.inl rfl⟩
  ·exact⟨so+1,.inr ⟨ew hu,rfl⟩,WR⟩
 have HT:=aa hT;have hi:((t.loc:Int)<0)=False:=ew (by omega)
 have ra:(T.length≤t.loc)=False:=ew (by omega)
 have HC:=aa (fun W (hW:Below w.heap.size w W)=>oc (T:=T) (nv:=.slice (some ⟨bk,o,none⟩) T.length nc) l (.slice (some ⟨sb,P,none⟩) l.length (uc-1)) 2 W (HT.out.below hW) (kY.below hW) (fun k hk=>ri k (bO _ hk)) (fun k hk=>hle k (bO _ hk)) (by omega) (by omega))
 have HD:=aa (fun W (hW:Below w.heap.size w W)=>ri b (bP ..) W (HT.out.below hW))
 have hbl:=hle b (bP ..);obtain⟨q,hq⟩ :∃q,dA 2 (l.map aG)=q:=⟨_,rfl⟩;obtain⟨r,hr⟩ :∃r,aG b=r:=⟨_,rfl⟩;rw[hq] at HC ⊢;rw[hr] at HD hbl ⊢;have hll:=hlen.2;rw[hk] at c0;clear e3 hT hI hq hr kh hs hx dh WR kY ri hle hlen hne hk;rcases hP with ⟨hu,hP⟩ | ⟨hu,hP⟩;all_goals
  rw[hP] at HC;clear hP;go_enter Tryz.func15,Tryz.ntmps15
  go_wp2_with fail
  obtain⟨W,hW⟩ :∃W,W=((w.alloc (.cells #[.slice (some ⟨bk,o,none⟩) T.length nc] 56)).alloc (.cells #[.int .i64 10,.int .i64 t.hd.line,.int .i64 t.hd.op,.int .i64 t.hd.num,.string t.hd.s,.slice SA t.hd.names.length sc,.slice (some ⟨sb,so,none⟩) (l.length+1) uc] 54)):=⟨_,rfl⟩;rw[←hW];have z0:=cell_regrown (show W.cell? ⟨w.heap.size,0,none⟩=some (.slice (some ⟨bk,o,none⟩) T.length nc) by rw[hW];simp[go_sem])
  have z1:=cell_regrown (show W.cell? ⟨w.heap.size+1,6,none⟩=some (.slice (some ⟨sb,so,none⟩) (l.length+1) uc) by rw[hW];simp[go_sem])
  have HB:=aa (show Below w.heap.size w W by rw[hW];exact Below.two _ _)
  have z2:=cell_regrown ((HB.out.cell (p:=⟨sb,so,none⟩) yD).trans Y1);clear hW;refine wp_region_quiet_below (by kernel_rfl) (by kernel_rfl) ?_
  repeat (go_big_quiet_step (first
   | (go_at_call 29;exact Calls.regrown_of (HC.out _ (HB.out.trans ((below_regrown _ _ _).mono HB.out.size))))
   | (go_at_call 15;exact Calls.regrown_of (HD.out _ (HB.out.trans ((below_regrown _ _ _).mono HB.out.size))))))
  refine wpQuiet_nil ?_;intro w4 hw';obtain⟨⟨dq,osq⟩,hw''⟩:=hw';have bb:=aa (HB.out.trans ((below_regrown W dq osq).mono HB.out.size));rw[←hw''] at bb;clear hw'' z0 z1 z2;go_wp2_with fail
  all_goals
   go_ret
   refine⟨aw (fun z:Int=>Ending.returned (Value.int .i64 z)) ?_,bb.out⟩
   omega
end
end Go.Proofs.YtodmcdfeldkocaaGreatDoor
namespace Go.Proofs.YtodmcdfeldkocaaGreatDoor
open Go.RowKit
section
variable {T:List Nd} {nv:Value} {t:Lt} {bk o nc:Nat} {SA UA:Option Addr} {sc uc:Nat} {w:World}
theorem NX (hT:fw w nv T) (hI:Tp T nv t bk o nc SA UA sc uc w) (hk:t.hd.kind=20) (n m:Nat) (hn:t.hd.num=(n:Int)) (hm:n+m=t.sub.length) (h1:1≤n) (h2:1≤m) (Tn :∀k∈t.sub.take n,abg nv T k) :
  Calls Tryz.prog 15 #[.agg #[nv],.int .i64 (t.loc:Int)] w fun e w'=>e=.returned (.int .i64 (aG t:Int))∧Below w.heap.size w w':=by
 rw[NJ hk,hn,gV];have hI':=hI;obtain⟨rfl,hlt,jl,dU,c0,c1,c2,c3,c4,c5,c6,dh,hlen,ri,hle⟩:=hI';have u9:=dh;obtain⟨A,c',e,hc,hx⟩:=u9;injection e with e1 e3 e2;subst e1 e2;rcases hx with h0 | ⟨sb,so,rfl,yD,hx⟩
 ·rw[kJ] at h0
  rw[h0] at hm;simp at hm;omega
 have hk2:cQ w (.slice (some ⟨sb,so,none⟩) (t.sub.map fun k=>(k.loc:Int)).length uc) (t.sub.map fun k=>(k.loc:Int)):=by rw[bU];exact dh
 have kY:cQ w (.slice (some ⟨sb,so,none⟩) n uc) ((t.sub.take n).map fun k=>(k.loc:Int)):=by
  have:=Ga hk2 yD n (by rw[bU];omega)
  rw[←zW] at this;exact this
 have abh:cQ w (.slice (some ⟨sb,so+n,none⟩) m (uc-n)) ((t.sub.drop n).map fun k=>(k.loc:Int)):=by
  have:=Gb hk2 yD n m (by rw[bU];omega)
  rw[←wJ] at this;exact this
 rw[bU] at hc;have HT:=aa hT;have hi:((t.loc:Int)<0)=False:=ew (by omega)
 have ra:(T.length≤t.loc)=False:=ew (by omega)
 have HC:=aa (fun W (hW:Below w.heap.size w W)=>DR (T:=T) (nv:=.slice (some ⟨bk,o,none⟩) T.length nc) (t.sub.take n) (t.sub.drop n) (.slice (some ⟨sb,so,none⟩) n uc) (.slice (some ⟨sb,so+n,none⟩) m (uc-n)) W (HT.out.below hW) (kY.below hW) (abh.below hW) Tn (fun k hk=>ri k (List.mem_of_mem_drop hk)) (fun k hk=>hle k (List.mem_of_mem_drop hk)) (by rw[j4];omega) (by rw[jb];omega))
 obtain⟨q,hq⟩ :∃q,mH ((t.sub.drop n).map aG) 0 ((t.sub.take n).map fun k=>(k.hd.kind,aG k))=q:=⟨_,rfl⟩
 rw[hq] at HC ⊢;have hll:=hlen.2;rw[hk] at c0;rw[hn] at c3;rw[←hm] at c6 hc;have hu:(uc=n)=False:=ew (by omega)
 clear e3 hT hI hq hx dh hk2 kY abh ri hle hlen hk Tn hn hm;go_enter Tryz.func15,Tryz.ntmps15
 go_wp2_with fail
 obtain⟨W,hW⟩ :∃W,W=((w.alloc (.cells #[.slice (some ⟨bk,o,none⟩) T.length nc] 56)).alloc (.cells #[.int .i64 20,.int .i64 t.hd.line,.int .i64 t.hd.op,.int .i64 (n:Int),.string t.hd.s,.slice SA t.hd.names.length sc,.slice (some ⟨sb,so,none⟩) (n+m) uc] 54)):=⟨_,rfl⟩;rw[←hW];have z0:=cell_regrown (show W.cell? ⟨w.heap.size,0,none⟩=some (.slice (some ⟨bk,o,none⟩) T.length nc) by rw[hW];simp[go_sem])
 have z1:=cell_regrown (show W.cell? ⟨w.heap.size+1,6,none⟩=some (.slice (some ⟨sb,so,none⟩) (n+m) uc) by rw[hW];simp[go_sem])
 have z2:=cell_regrown (show W.cell? ⟨w.heap.size+1,3,none⟩=some (.int .i64 (n:Int)) by rw[hW];simp[go_sem])
 have HB:=aa (show Below w.heap.size w W by rw[hW];exact Below.two _ _)
 clear hW;refine wp_region_quiet_below (by kernel_rfl) (by kernel_rfl) ?_
 repeat (go_big_quiet_step (first
  | (go_at_call 28;exact Calls.regrown_of (HC.out _ (HB.out.trans ((below_regrown _ _ _).mono HB.out.size))))))
 refine wpQuiet_nil ?_;intro w4 hw';obtain⟨⟨dq,osq⟩,hw''⟩:=hw';have bb:=aa (HB.out.trans ((below_regrown W dq osq).mono HB.out.size));rw[←hw''] at bb;clear hw'' z0 z1 z2;go_wp2_with fail
 go_ret
 exact⟨rfl,bb.out⟩
end
end Go.Proofs.YtodmcdfeldkocaaGreatDoor
namespace Go.Proofs.YtodmcdfeldkocaaGreatDoor
open Go.RowKit
theorem kk_ne {ks:List Lt} {l:List Int} {a:Int} (h:jG ks=l++[a]):ks≠[]:=by
 rintro rfl;simp[jG] at h
theorem NY {T:List Nd} {nv:Value} (hF :∀x∈T,x.kind=20→1≤x.num) (hl:T.length≤1000000) :∀(n:Nat) (t:Lt),t.size≤n→t.size≤16384→ic T t→Bq nv T t:=by
 intro n;induction n with
 | zero=>intro t h;cases t;rw[Lt.size] at h;omega
 | succ n ih =>
  intro t ht hs hn w hT;have IH :∀s:Lt,s.size<t.size→ic T s→Bq nv T s:=fun s h1 h2=>ih s (by omega) (by omega) h2
  obtain⟨bk,o,nc,SA,UA,sc,uc,hI⟩:=Tq hT hn hl hs IH;obtain⟨pW,_,Gc⟩:=hn.sub;have hk:=hn.kind;have hx:t.hd∈T:=aX (lN hn.yF).2.1;by_cases c1:t.hd.kind=30∨t.hd.kind=31∨t.hd.kind=32
  ·exact Ja hT hI c1
  by_cases c2:t.hd.kind=20
  ·obtain⟨l,r,e,hl7,hlen,hr1,_⟩:=Gc.assign c2
   have h1:=hF _ hx c2;have e7:=hlen h1;have Fl:l.length+r.length=t.sub.length:=by
    have:=aw List.length e;rw[bY] at this;rw[←this];unfold jG;rw[bU]
   refine NX hT hI c2 l.length r.length e7.symm Fl (by omega) hr1 fun k hk=>?_
   have oz:=La hk;have zz:=pW.at_ k oz;obtain⟨_,a2,a3⟩:=lN zz.yF;have hsz:=jK oz;obtain⟨adf,_,abi⟩:=zz.sub;refine⟨a2,a3,fun h8=>⟨?_,?_⟩,fun x hx=>IH x (by have:=jK hx;omega) (adf.at_ x hx),fun x hx=>?_,?_⟩
   ·obtain⟨a,b,e,_⟩:=abi.two (.inl h8)
    intro h0;rw[h0] at e;simp[jG] at e
   ·have:=FZ k;omega
   ·have:=p9 x;have:=jK hx;omega
   ·have:=p9 k;omega
  by_cases c3:t.hd.kind=10
  ·refine NW hT hI c3 ?_
   have h1:=(Gc.call (.inr c3)).1;intro h0;rw[h0] at h1;simp[jG] at h1
  by_cases c4:t.hd.kind=26
  ·obtain⟨l,e,_⟩:=Gc.for_ c4
   exact Bv hT hI (.inl c4) (kk_ne e)
  by_cases c5:t.hd.kind=27
  ·obtain⟨l,e,_⟩:=Gc.each c5
   exact Bv hT hI (.inr c5) (kk_ne e)
  by_cases c6:t.hd.kind=12
  ·exact NS hT hI c6
  by_cases c7:t.hd.kind=16∨t.hd.kind=17
  ·exact Bu 1 hT hI (.inr ⟨c7,rfl⟩)
  by_cases c8:t.hd.kind=8∨t.hd.kind=9∨t.hd.kind=19∨t.hd.kind=29
  ·exact Bu 0 hT hI (.inl ⟨c8,rfl⟩)
  by_cases c9:t.hd.kind=15
  ·exact xD 1 hT hI (.inr ⟨c9,rfl⟩)
  by_cases c10:t.hd.kind=13∨t.hd.kind=14∨t.hd.kind=18∨t.hd.kind=21∨t.hd.kind=22∨t.hd.kind=23∨t.hd.kind=24∨t.hd.kind=25
  ·exact xD 0 hT hI (.inl ⟨c10,rfl⟩)
  ·exact NR hT hI (by omega)
theorem cS {W w':World} (h:Below W.heap.size W w'):(∀b i:Nat,b<W.heap.size→w'.cell? ⟨b,i,none⟩=W.cell? ⟨b,i,none⟩)∧∀b i:Nat,b<W.heap.size→w'.frozen? ⟨b,i,none⟩=W.frozen? ⟨b,i,none⟩:=⟨fun b i hb=>h.cell (p:=⟨b,i,none⟩) hb,fun b i hb=>h.frozen (p:=⟨b,i,none⟩) hb⟩
theorem ao.rename {B b:Nat} {nv:Value} {N ub ob:Nat} {lv:Value} {L:List cR} {st s1 s2:aI} {r:Rs aI} {w w2:World} {e:Ending} (h:ao B b nv N ub ob lv L st (r.map fun s=>s.back s1) w e w2) (hn:s2.names=s1.names):ao B b nv N ub ob lv L st (r.map fun s=>s.back s2) w e w2:=by
 refine h.same rfl ?_;cases r with
 | error y=>rfl
 | ok s=>exact⟨rfl,rfl,rfl,hn⟩
theorem Gd {ib f:Nat} {hb:Nd} {kb:List Lt} {t:Lt} {s:aI}:mW [.mk ib hb kb,t] f s=wg ib f true kb [t] s:=by
 rw[Fo];unfold wg;congr 1
 funext s1
 congr 1
 funext s2
 rw[rM]
theorem Y2 {ks:List Lt} {a:Int} (h:jG ks=[18,a]) :∃ib hb kb t,ks=[.mk ib hb kb,t]∧hb.kind=18∧t.hd.kind=a:=by
 unfold jG at h;match ks,h with
 | [.mk ib hb kb,t],h =>
  injection h with h1 h2;injection h2 with h2 _;exact⟨ib,hb,kb,t,rfl,h1,h2⟩
 | [],h=>exact absurd (aw List.length h) (by simp)
 | [.mk _ _ _],h=>exact absurd (aw List.length h) (by simp)
 | .mk _ _ _::_::_::_,h=>exact absurd (aw List.length h) (by simp)
theorem NZ {T:List Nd} {B b:Nat} {nv:Value} {ub ob:Nat} (gA :∀x∈T,x.s.size≤65536∧∀s∈x.names,s.size≤65536) (i:Nat) (h:Nd) (ks:List Lt) (hn:ic T (.mk i h ks)) (gZ :∀u:Lt,u.size<Lt.al ks+1→ic T u→bA T B b nv ub ob u) (hk:h.kind=24):bA T B b nv ub ob (.mk i h ks):=by
 intro f loop pa la lc ms L st w hr bR cw;show Calls Tryz.prog 18 #[.pointer (some ⟨b,0,none⟩),.int .i64 (i:Int),.agg #[.int .i64 (f:Int),.int .i64 loop,.pointer pa,.slice la L.length lc]] w (ao B b nv T.length ub ob (.slice la L.length lc) L st (aY (.mk i h ks) f st) w)
 have pW:=hn.sub;have nV:=hn.yF;unfold Lt.In at nV;obtain⟨hx,dh,_⟩:=nV;replace hr:eY T B b nv ub ob f pa (.slice la L.length lc) ms L st w (h.names.length+Lt.ey ks) (Lt.al ks+1):=by have h1:=hr;rw[Lt.wt,Lt.size] at h1;exact h1
 replace bR:18≤h.kind→loop=cM f st.frames:=bR;replace cw:L≠[]∨h.kind=18:=cw;obtain⟨lj,lk,ll⟩:=pW;replace lj:fI T ks:=lj;replace lk:h.kind≠18→∀k∈ks,Still k:=lk;replace ll:qc h.kind h.num (jG ks):=ll;have RF:=gA h (aX hx);obtain⟨bk,o,c,rfl,dU,cg,dJ⟩:=hr.fC.nodes;obtain⟨vM,vN,eT,⟨NA,nc,vQ,_⟩,⟨KA,kc,rl,wT,IN⟩⟩:=dJ i h hx;have rK:h.kids.length≤20000:=(hr.fC.small h (aX hx)).1;have oQ:h.kids.length=ks.length:=by rw[dh,bU]
 subst vQ rl;obtain⟨x0,x1,x2,x3,x4,x5,x6⟩:=eT;have v7:i<T.length:=(aK.1 hx).1;have pO:=hr.fC.few;obtain⟨fv,FL,hw⟩:=id hr.rs;obtain⟨hbl,ph,sZ⟩:=hw.mQ;have d0:w.cell? ⟨b,0,none⟩=some (.slice (some ⟨bk,o,none⟩) T.length c):=ae hw.blk 0;have d3:w.cell? ⟨b,3,none⟩=some (.slice (some ⟨ob,0,none⟩) T.length T.length):=ae hw.blk 3;obtain⟨u0,v0⟩:=cf hw.vX (j:=i) (by omega)
 have gT:bk<w.heap.size:=by omega
 have qj:=aa gA;have HR:=aa hr;have HN:=aa hn;have tG:=aa gZ;have iL:=aa bR;have kD:=aa cw;have fH:=aa lj;have tC:=aa lk;have oU:=aa ll;have fN:=aa dh;have sJ:=aa oQ;have HX:=aa hx;have yJ:=aa RF;have DC:=aa IN;clear hr hn gZ bR cw lj lk ll dh oQ hx RF dJ hw gA IN;have q6:(h.kind == 6)=false:=by rw[hk];rfl
 have q7:(h.kind == 7)=false:=by rw[hk];rfl
 have yK:(h.kind == 11)=false:=by rw[hk];rfl
 have zC:(h.kind == 18)=false:=by rw[hk];rfl
 have WG:(h.kind == 23)=false:=by rw[hk];rfl
 have YV:(h.kind == 26)=false:=by rw[hk];rfl
 have q27:(h.kind == 27)=false:=by rw[hk];rfl
 have q24:(h.kind == 24)=true:=by rw[hk];rfl
 have bL:=aa hk;clear hk;go_enter Tryz.func18,Tryz.ntmps18
 go_wp2_with fail
 go_region
 obtain⟨W1,hW1,HZ,fB,pA,Bl,K,y0,th,oB,ti,k0,k1,k2,k3⟩:=dX loop i HR.out dU;rw[←hW1];have x0:=K _ _ x0;have x1:=K _ _ x1;have x2:=K _ _ x2;have x3:=K _ _ x3;have x4:=K _ _ x4;have x5:=K _ _ x5;have x6:=K _ _ x6;clear hW1 K d0 d3 u0 v0;have d0:=y0;clear y0;obtain⟨ea,hl0,hea⟩:=oU.out.Fp bL.out;obtain⟨ib,hb,kb,t,rfl,abj,abk⟩:=Y2 hl0;have dh:h.kids=[(ib:Int),(t.loc:Int)]:=fN.out;obtain⟨sb,so,hKA,yD,Y3⟩ :∃sb so,KA=some ⟨sb,so,none⟩∧sb<B∧∀(j:Nat) x,h.kids[j]? = some x→w.cell? ⟨sb,so+j,none⟩=some (.int .i64 x):=by
  rcases DC.out with h0 | ⟨sb,so,h1,h2,h3⟩
  ·rw[dh] at h0;cases h0
  ·exact⟨sb,so,h1,h2,h3⟩
 subst hKA;have y0:=(fB.out.below.cell (p:=⟨sb,so,none⟩) yD).trans (Y3 0 (ib:Int) (by rw[dh];rfl))
 have y1:=(fB.out.below.cell (p:=⟨sb,so+1,none⟩) yD).trans (Y3 1 (t.loc:Int) (by rw[dh];rfl))
 have abl:h.kids.length=2:=by rw[dh];rfl
 have adg:=aa abl;have hkg0:0<h.kids.length:=by omega
 have hkg1:1<h.kids.length:=by omega
 have abm:sb<W1.heap.size:=by omega
 have HHK:=aa dh;have HEA:=aa hea;have adh:=aa abk;have HB18:=aa abj;clear Y3 dh abl hea abk abj hl0;go_wp2_with fail
 obtain⟨W2,hW2⟩ :∃W2,W2=W1.alloc (.cells #[.int .i64 h.kind,.int .i64 h.line,.int .i64 h.op,.int .i64 h.num,.string h.s,.slice NA h.names.length nc,.slice (some ⟨sb,so,none⟩) h.kids.length kc] 54):=⟨_,rfl⟩;have di:Below W1.heap.size W1 W2:=by rw[hW2];exact(Below.refl _ _).alloc (ah _) _
 rw[←hW2];have hz2:=heap_alloc_new W1 (.cells #[.int .i64 h.kind,.int .i64 h.line,.int .i64 h.op,.int .i64 h.num,.string h.s,.slice NA h.names.length nc,.slice (some ⟨sb,so,none⟩) h.kids.length kc] 54);rw[←hW2] at hz2;have n6:=ae hz2 6;rw[adg.out] at n6;replace n6:W2.cell? ⟨W1.heap.size,6,none⟩=some (.slice (some ⟨sb,so,none⟩) 2 kc):=n6;have p0:=(di.cell (p:=⟨w.heap.size,0,none⟩) oB).trans k0;have p1:=(di.cell (p:=⟨w.heap.size,1,none⟩) oB).trans k1;have p2:=(di.cell (p:=⟨w.heap.size,2,none⟩) oB).trans k2;have p3:=(di.cell (p:=⟨w.heap.size,3,none⟩) oB).trans k3;have y0:=(di.cell (p:=⟨sb,so,none⟩) abm).trans y0;have y1:=(di.cell (p:=⟨sb,so+1,none⟩) abm).trans y1;have hl2:W1.heap.size<W2.heap.size:=by rw[hW2,aq];omega
 have abn:=aa di;have Bw:sb<W2.heap.size:=by omega
 have oC:w.heap.size<W2.heap.size:=by omega
 clear hW2 hz2 di x0 x1 x2 x3 x4 x5 x6 d0 k0 k1 k2 k3;have Y4:Hid (∀W,Calls Tryz.prog 37 #[.agg #[.int .i64 (f:Int),.int .i64 loop,.pointer pa,.slice la L.length lc],.int .i64 (i:Int)] W fun e w'=>e=.returned (.agg #[.int .i64 (f:Int),.int .i64 (i:Int),.pointer pa,.slice la L.length lc])∧Below W.heap.size W w'):=aa fun W=>lU f loop (i:Int) pa la L.length lc W
 have abo:Hid (∀W g,Below W2.heap.size W2 W→W.heap[g]? = some (.cells #[.int .i64 (t.loc:Int)] 3 (0,0))→W2.heap.size≤g→Calls Tryz.prog 36 #[.pointer (some ⟨b,0,none⟩),.int .i64 (ib:Int),.agg #[.int .i64 (f:Int),.int .i64 (i:Int),.pointer pa,.slice la L.length lc],.slice (some ⟨g,0,none⟩) 1 1] W (ao B b (.slice (some ⟨bk,o,none⟩) T.length c) T.length ub ob (.slice la L.length lc) L st ((wg ib f true kb [t] (dv i f (st.setOf i f))).map fun s=>s.back (dv i f (st.setOf i f))) w)):=aa fun W g hW hg hge=>by
  have hW1:=abn.out.trans (hW.mono abn.out.size);have Yk:=(HZ.out.du hW1).oa i;have Nr:Lt.mk ib hb kb∈[Lt.mk ib hb kb,t]:=bP ..;have AT:=fH.out.at_ _ Nr;have hnt:=fH.out.cons.2;have nV:=AT.yF;unfold Lt.In at nV;have hsz:Lt.al [Lt.mk ib hb kb,t]=Lt.al kb+1+t.size:=by simp[Lt.al,Lt.size]
  have hwt:Lt.ey [Lt.mk ib hb kb,t]=hb.names.length+Lt.ey kb+t.wt:=by simp[Lt.ey,Lt.wt]
  have hs1:Lt.al [t]=t.size:=by simp[Lt.al]
  have ec:Lt.ey [t]=t.wt:=by simp[Lt.ey]
  have adi:g≠ob:=by
   obtain⟨_,_,hw⟩:=HZ.out.rs;have:=hw.mQ;omega
  refine(xu ib f hb kb [t] true (i:Int) pa la lc ms L (dv i f (st.setOf i f)) W (.slice (some ⟨g,0,none⟩) 1 1) (Yk.WH (by rw[hwt,ec];omega) (by rw[hsz,hs1];omega)) nV.1 nV.2.1 AT.sub.1 hnt (fun k hk=>tG.out k (by have:=e8 hk;rw[hsz];omega) (AT.sub.1.at_ k hk)) (fun k hk=>tG.out k (by have:=e8 hk;rw[hs1] at this;rw[hsz];omega) (hnt.at_ k hk)) ⟨_,_,rfl,ah _,.inr ⟨g,0,rfl,fun w' hf j x hj=>?_⟩⟩ rfl (fun k hk kH=>(uK f i _).symm) (fun k hk kH=>?_) (fun x hx=>(qj.out x.hd (aX (uy nV.2.2 (List.getElem?_of_mem hx).choose_spec).2)).1) (by simp)).mono fun e w' hp=>ao.after (fB.out.trans (cU.bH hW1 HZ.out.world)) rfl hp
  ·have h1:=hf.ints g _ _ hg adi
   cases j with
   | zero =>
    injection hj with hj;rw[←hj];exact ae h1 0
   | succ j=>cases hj
  ·rw[bK] at hk
   have:=HEA.out;rw[←adh.out,←hk] at this;unfold tD at this;omega
 refine bz.DQ (n:=13) (S:=(fun W=>W.cell? ⟨W1.heap.size,6,none⟩=some (.slice (some ⟨sb,so,none⟩) 2 kc)∧W.cell? ⟨w.heap.size,0,none⟩=some (.int .i64 (f:Int))∧W.cell? ⟨w.heap.size,1,none⟩=some (.int .i64 loop)∧W.cell? ⟨w.heap.size,2,none⟩=some (.pointer pa)∧W.cell? ⟨w.heap.size,3,none⟩=some (.slice la L.length lc)∧W.cell? ⟨sb,so,none⟩=some (.int .i64 (ib:Int))∧W.cell? ⟨sb,so+1,none⟩=some (.int .i64 (t.loc:Int)))) (by kernel_rfl) ?_
 have tJ:(fun W=>W.cell? ⟨W1.heap.size,6,none⟩=some (.slice (some ⟨sb,so,none⟩) 2 kc)∧W.cell? ⟨w.heap.size,0,none⟩=some (.int .i64 (f:Int))∧W.cell? ⟨w.heap.size,1,none⟩=some (.int .i64 loop)∧W.cell? ⟨w.heap.size,2,none⟩=some (.pointer pa)∧W.cell? ⟨w.heap.size,3,none⟩=some (.slice la L.length lc)∧W.cell? ⟨sb,so,none⟩=some (.int .i64 (ib:Int))∧W.cell? ⟨sb,so+1,none⟩=some (.int .i64 (t.loc:Int))) W2.drew:=⟨n6,p0,p1,p2,p3,y0,y1⟩
 refine bz.dc 0 (.pointer (some ⟨b,0,none⟩)) (by kernel_rfl) (by decide) (by kernel_rfl) (by kernel_rfl) (by kernel_rfl) (fun _ _ _ _ h=>h) tJ ?_
 simp only[dm,cK,cI,cJ];refine⟨by rfl,by rfl,?_,?_⟩
 ·intro w hSw
  (try dsimp only at hSw)
  go_simp
 simp only[Act.put,cF,ch,cj];refine bz.dc 1 (.pointer (some ⟨W1.heap.size,6,none⟩)) (by kernel_rfl) (by decide) (by kernel_rfl) (by kernel_rfl) (by kernel_rfl) (fun _ _ _ _ h=>h) tJ ?_
 simp only[dm,cK,cI,cJ];refine⟨by rfl,by rfl,?_,?_⟩
 ·intro w hSw
  (try dsimp only at hSw)
  go_simp
 simp only[Act.put,cF,ch,cj];refine bz.dc 2 (.slice (some ⟨sb,so,none⟩) 2 kc) (by kernel_rfl) (by decide) (by kernel_rfl) (by kernel_rfl) (by kernel_rfl) (fun _ _ _ _ h=>h) tJ ?_
 simp only[dm,cK,cI,cJ];refine⟨by rfl,by rfl,?_,?_⟩
 ·intro w hSw
  (try dsimp only at hSw)
  go_simp
 simp only[Act.put,cF,ch,cj];refine bz.dc 3 (.pointer (some ⟨sb,so,none⟩)) (by kernel_rfl) (by decide) (by kernel_rfl) (by kernel_rfl) (by kernel_rfl) (fun _ _ _ _ h=>h) tJ ?_
 simp only[dm,cK,cI,cJ];refine⟨by rfl,by rfl,?_,?_⟩
 ·intro w hSw
  (try dsimp only at hSw)
  go_simp
 simp only[Act.put,cF,ch,cj];refine bz.dc 4 (.int .i64 (ib:Int)) (by kernel_rfl) (by decide) (by kernel_rfl) (by kernel_rfl) (by kernel_rfl) (fun _ _ _ _ h=>h) tJ ?_
 simp only[dm,cK,cI,cJ];refine⟨by rfl,by rfl,?_,?_⟩
 ·intro w hSw
  (try dsimp only at hSw)
  go_simp
 simp only[Act.put,cF,ch,cj];refine bz.dc 5 (.agg #[.int .i64 (f:Int),.int .i64 loop,.pointer pa,.slice la L.length lc]) (by kernel_rfl) (by decide) (by kernel_rfl) (by kernel_rfl) (by kernel_rfl) (fun _ _ _ _ h=>h) tJ ?_
 simp only[dm,cK,cI,cJ];refine⟨by rfl,by rfl,?_,?_⟩
 ·intro w hSw
  (try dsimp only at hSw)
  go_simp
 simp only[Act.put,cF,ch,cj];refine bz.dc 6 (.int .i64 (i:Int)) (by kernel_rfl) (by decide) (by kernel_rfl) (by kernel_rfl) (by kernel_rfl) (fun _ _ _ _ h=>h) tJ ?_
 simp only[dm,cK,cI,cJ];refine⟨by rfl,by rfl,?_,?_⟩
 ·intro w hSw
  (try dsimp only at hSw)
  go_simp
 simp only[Act.put,cF,ch,cj];refine bz.dc 8 (.pointer (some ⟨W1.heap.size,6,none⟩)) (by kernel_rfl) (by decide) (by kernel_rfl) (by kernel_rfl) (by kernel_rfl) (fun _ _ _ _ h=>h) tJ ?_
 simp only[dm,cK,cI,cJ];refine⟨by rfl,by rfl,?_,?_⟩
 ·intro w hSw
  (try dsimp only at hSw)
  go_simp
 simp only[Act.put,cF,ch,cj];refine bz.dc 9 (.slice (some ⟨sb,so,none⟩) 2 kc) (by kernel_rfl) (by decide) (by kernel_rfl) (by kernel_rfl) (by kernel_rfl) (fun _ _ _ _ h=>h) tJ ?_
 simp only[dm,cK,cI,cJ];refine⟨by rfl,by rfl,?_,?_⟩
 ·intro w hSw
  (try dsimp only at hSw)
  go_simp
 simp only[Act.put,cF,ch,cj];refine bz.dc 10 (.pointer (some ⟨sb,so+1,none⟩)) (by kernel_rfl) (by decide) (by kernel_rfl) (by kernel_rfl) (by kernel_rfl) (fun _ _ _ _ h=>h) tJ ?_
 simp only[dm,cK,cI,cJ];refine⟨by rfl,by rfl,?_,?_⟩
 ·intro w hSw
  (try dsimp only at hSw)
  go_simp
 simp only[Act.put,cF,ch,cj];refine bz.dc 11 (.int .i64 (t.loc:Int)) (by kernel_rfl) (by decide) (by kernel_rfl) (by kernel_rfl) (by kernel_rfl) (fun _ _ _ _ h=>h) tJ ?_
 simp only[dm,cK,cI,cJ];refine⟨by rfl,by rfl,?_,?_⟩
 ·intro w hSw
  (try dsimp only at hSw)
  go_simp
 simp only[Act.put,cF,ch,cj];refine bz.YW 7 12 (by kernel_rfl) (fun K hK=>?_) fun K hK=>?_
 ·simp only[dm,cK,cI,cJ]
  go_simp
  go_at_call 37
  with_reducible refine(Y4.out _).mono ?_
  rintro e w3 ⟨rfl,hb3⟩;go_wp2_with fail
  have wh:Below W2.heap.size W2 w3:=iA hb3;refine hK.out _ _ (fun _=>⟨((cS wh).1 _ 6 hl2).trans n6,((cS wh).1 _ 0 oC).trans p0,((cS wh).1 _ 1 oC).trans p1,((cS wh).1 _ 2 oC).trans p2,((cS wh).1 _ 3 oC).trans p3,((cS wh).1 sb so Bw).trans y0,((cS wh).1 sb (so+1) Bw).trans y1⟩) ?_
  clear hK K
  (try simp only[Act.put,cF,ch,cj])
  refine bz.fJ 12 (by kernel_rfl) fun K hK=>?_
  simp only[dm,cK,cI,cJ];go_simp
  have Y5:=wh.alloc wh.size (.cells #[.int .i64 (t.loc:Int)] 3);refine hK.out _ _ (fun _=>⟨((cS Y5).1 _ 6 hl2).trans n6,((cS Y5).1 _ 0 oC).trans p0,((cS Y5).1 _ 1 oC).trans p1,((cS Y5).1 _ 2 oC).trans p2,((cS Y5).1 _ 3 oC).trans p3,((cS Y5).1 sb so Bw).trans y0,((cS Y5).1 sb (so+1) Bw).trans y1⟩) ?_
  clear hK K
  (try simp only[Act.put,cF,ch,cj])
  refine bz.fJ 13 (by kernel_rfl) fun K hK=>?_
  simp only[dm,cK,cI,cJ];go_simp
  go_at_call 36
  with_reducible refine(abo.out _ w3.heap.size (wh.alloc wh.size _) (heap_alloc_new _ _) wh.size).mono ?_
  intro e w4 hp;obtain⟨v,rfl⟩:=hp.ret;have HV:=aa hp;clear hp;go_wp2_with fail
  refine hK.out _ _ (fun h=>absurd h (by decide)) ?_
  clear hK K
  (try simp only[Act.put,cF,ch,cj])
  refine bz.fJ 14 (by kernel_rfl) fun K hK=>?_
  simp only[dm,cK,cI,cJ];go_simp
  refine hK.out _ _ (fun h=>absurd h (by decide)) ?_
  clear hK K
  (try simp only[Act.put,cF,ch,cj])
  refine bz.done (by kernel_rfl) ?_ _
  go_wp2_with fail
  go_ret
  have hE:aY (.mk i h [.mk ib hb kb,t]) f st=(wg ib f true kb [t] (dv i f (st.setOf i f))).map fun s=>s.back (st.setOf i f):=by
   rw[ca];rw[ab (by have:=bL.out;omega)]
   rw[ab (by have:=bL.out;omega)]
   rw[ab (by have:=bL.out;omega)]
   rw[ab (by have:=bL.out;omega)]
   rw[ab (by have:=bL.out;omega)]
   rw[ab (by have:=bL.out;omega)]
   rw[ai bL.out];rw[Gd]
  rw[hE];exact HV.out.rename rfl
 ·simp only[dm,cK,cI,cJ]
  go_simp
  have pg:Below W2.heap.size W2 (W2.drew.alloc (.cells #[.int .i64 (t.loc:Int)] 3)):=((Below.refl _ W2).drew).alloc (ah _) _;refine hK.out _ _ (fun _=>⟨((cS pg).1 _ 6 hl2).trans n6,((cS pg).1 _ 0 oC).trans p0,((cS pg).1 _ 1 oC).trans p1,((cS pg).1 _ 2 oC).trans p2,((cS pg).1 _ 3 oC).trans p3,((cS pg).1 sb so Bw).trans y0,((cS pg).1 sb (so+1) Bw).trans y1⟩) ?_
  clear hK K
  (try simp only[Act.put,cF,ch,cj])
  refine bz.fJ 7 (by kernel_rfl) fun K hK=>?_
  simp only[dm,cK,cI,cJ];go_simp
  go_at_call 37
  with_reducible refine(Y4.out _).mono ?_
  rintro e w3 ⟨rfl,hb3⟩;go_wp2_with fail
  have hrow:=((iA hb3).block W2.heap.size (by rw[aq];omega)).trans (heap_alloc_new W2 (.cells #[.int .i64 (t.loc:Int)] 3))
  have wh:Below W2.heap.size W2 w3:=((Below.refl _ _).alloc (ah _) _).trans ((iA hb3).mono (by rw[aq];omega))
  refine hK.out _ _ (fun _=>⟨((cS wh).1 _ 6 hl2).trans n6,((cS wh).1 _ 0 oC).trans p0,((cS wh).1 _ 1 oC).trans p1,((cS wh).1 _ 2 oC).trans p2,((cS wh).1 _ 3 oC).trans p3,((cS wh).1 sb so Bw).trans y0,((cS wh).1 sb (so+1) Bw).trans y1⟩) ?_
  clear hK K
  (try simp only[Act.put,cF,ch,cj])
  refine bz.fJ 13 (by kernel_rfl) fun K hK=>?_
  simp only[dm,cK,cI,cJ];go_simp
  go_at_call 36
  with_reducible refine(abo.out _ W2.heap.size wh hrow (ah _)).mono ?_
  intro e w4 hp;obtain⟨v,rfl⟩:=hp.ret;have HV:=aa hp;clear hp;go_wp2_with fail
  refine hK.out _ _ (fun h=>absurd h (by decide)) ?_
  clear hK K
  (try simp only[Act.put,cF,ch,cj])
  refine bz.fJ 14 (by kernel_rfl) fun K hK=>?_
  simp only[dm,cK,cI,cJ];go_simp
  refine hK.out _ _ (fun h=>absurd h (by decide)) ?_
  clear hK K
  (try simp only[Act.put,cF,ch,cj])
  refine bz.done (by kernel_rfl) ?_ _
  go_wp2_with fail
  go_ret
  have hE:aY (.mk i h [.mk ib hb kb,t]) f st=(wg ib f true kb [t] (dv i f (st.setOf i f))).map fun s=>s.back (st.setOf i f):=by
   rw[ca];rw[ab (by have:=bL.out;omega)]
   rw[ab (by have:=bL.out;omega)]
   rw[ab (by have:=bL.out;omega)]
   rw[ab (by have:=bL.out;omega)]
   rw[ab (by have:=bL.out;omega)]
   rw[ab (by have:=bL.out;omega)]
   rw[ai bL.out];rw[Gd]
  rw[hE];exact HV.out.rename rfl
theorem Y6 {T:List Nd} {B b:Nat} {nv:Value} {ub ob:Nat} (gA :∀x∈T,x.s.size≤65536∧∀s∈x.names,s.size≤65536):WJ T B b nv ub ob:=fun i h ks hn gZ hk=>NZ gA i h ks hn gZ hk
theorem Jb {T:List Nd} {B b:Nat} {nv:Value} {ub ob:Nat} (gA :∀x∈T,x.s.size≤65536∧∀s∈x.names,s.size≤65536) (t:Lt) (hn:ic T t):bA T B b nv ub ob t:=xA gA (Y6 gA) t.size t (ah _) hn
structure Sml (T:List Nd):Prop where
 kids :∀x∈T,x.kids.length≤20000∧x.names.length≤20000
 size :∀x∈T,x.s.size≤65536∧∀s∈x.names,s.size≤65536
theorem Sml.szd {T:List Nd} (h:Sml T):Szd T:=fun x hx=>by have:=(h.kids x hx).2;omega
theorem By (v:Value) (T:List Nd) (r:Int) (w:World) (h:my w v T r) (hs:Sml T) (hR:iV T r=true) (t:Lt) (hr:(t.loc:Int)=r) (hn:ic T t) (kH:t.hd.kind=18) (hN:T.length≤16384) (hwt:t.wt≤50000) (hsz:t.size=T.length):Calls Tryz.prog 10 #[v] w fun e w'=>Below w.heap.size w w'∧Th w.heap.size T.length (pd t) e w':=by
 have HT:=aa h;have HS:=aa hs;have HR:=aa hR;have YJ:=aa hn;have H18:=aa kH;have HWT:=aa hwt;have qj:=aa hsz;obtain⟨nv,rfl,A,c,rfl,hc,hX⟩:=h;have DM:t.loc<T.length:=(aK.1 (lN hn.yF).2.1).1;have hX2 :∃bk o,A=some ⟨bk,o,none⟩∧bk<w.heap.size∧tB w bk o T:=by
  rcases hX with hX | ⟨bk,o,e,hb,hX⟩
  ·rw[hX] at DM;cases DM
  ·exact⟨bk,o,e,hb,hX⟩
 obtain⟨bk,o,rfl,dU,hX3⟩:=hX2;have HX:=aa hX3;subst hr;clear hX hX3 hs hR hn kH hwt hsz;go_enter Tryz.func10,Tryz.ntmps10
 go_wp2_with fail
 obtain⟨W1,hW1⟩ :∃W1,W1=(w.alloc (.cells #[.slice (some ⟨bk,o,none⟩) T.length c,.int .i64 (t.loc:Int)] 24)).alloc (.cells #[.slice none 0 0,.slice none 0 0,.slice none 0 0] 35):=⟨_,rfl⟩;have hb1:Below w.heap.size w W1:=by rw[hW1];exact Below.two _ _
 have hs1:W1.heap.size=w.heap.size+1+1:=by rw[hW1,aq,aq]
 have htr:W1.heap[w.heap.size]? = some (.cells #[.slice (some ⟨bk,o,none⟩) T.length c,.int .i64 (t.loc:Int)] 24 (0,0)):=by
  rw[hW1];exact(Below.heap_alloc _ _ _ (by rw[aq];omega)).trans (heap_alloc_new w _)
 have hsc:W1.heap[w.heap.size+1]? = some (.cells #[.slice none 0 0,.slice none 0 0,.slice none 0 0] 35 (0,0)):=by
  rw[hW1];have:=heap_alloc_new (w.alloc (.cells #[.slice (some ⟨bk,o,none⟩) T.length c,.int .i64 (t.loc:Int)] 24)) (.cells #[.slice none 0 0,.slice none 0 0,.slice none 0 0] 35);rwa[aq] at this
 rw[←hW1];have ee:=aa hb1;have HTR:=aa htr;have HSC:=aa hsc;have fH:=aa hs1;clear hW1 hb1 hsc hs1 htr;refine(IX _ T _ W1 (HT.out.below ee.out) HS.out.szd).mono ?_;rintro e w2 ⟨rfl,b2⟩;rw[HR.out];have Y7:=(b2.block (w.heap.size+1) (by rw[fH.out];omega)).trans HSC.out
 have Ts:=(b2.block w.heap.size (by rw[fH.out];omega)).trans HTR.out
 have hb2:Below w.heap.size w w2:=ee.out.trans (b2.mono ee.out.size);have B2:=aa hb2;have abp:=aa Y7;have abq:=aa Ts;have hl2:w.heap.size+1<w2.heap.size:=(aO.1 Y7).1;have t0:w2.cell? ⟨w.heap.size,0,none⟩=some (.slice (some ⟨bk,o,none⟩) T.length c):=ae Ts 0;have t1:w2.cell? ⟨w.heap.size,1,none⟩=some (.int .i64 (t.loc:Int)):=ae Ts 1;clear b2 Y7 Ts hb2 ee HTR HSC fH;obtain⟨MU,hMU⟩:=I0 T.length (by omega)
 obtain⟨MO,Y8⟩:=Bo T.length (by omega)
 have mU:=fun W=>(hMU W).1
 have mO:=fun W=>(Y8 W).1
 have HMU:=aa fun W=>(hMU W).2
 have Y9:=aa fun W=>(Y8 W).2
 clear hMU Y8;go_wp2_with fail
 have hK :∀W,Below w2.heap.size w2 W→W.cell? ⟨w.heap.size,0,none⟩=some (.slice (some ⟨bk,o,none⟩) T.length c):=fun W hW=>(hW.cell (p:=⟨w.heap.size,0,none⟩) (by show w.heap.size<_;omega)).trans t0
 have HK:=aa hK;clear hK;refine I2 (F:=fun ub ob b=>⟨#[.agg #[.slice (some ⟨bk,o,none⟩) T.length c,.int .i64 (t.loc:Int)],.pointer (some ⟨w.heap.size,0,none⟩),.pointer (some ⟨w.heap.size+1,0,none⟩),.nilIface,.int .i64 (T.length:Int),
  .pointer (some ⟨b,0,none⟩),undef,undef,.agg #[.slice (some ⟨bk,o,none⟩) T.length c,.int .i64 (t.loc:Int)],.bool true,.bool false,undef,undef,undef,undef,undef,.pointer (some ⟨w.heap.size,0,none⟩),.slice (some ⟨bk,o,none⟩) T.length c,.int .i64 (T.length:Int),
  .pointer (some ⟨w.heap.size,0,none⟩),.slice (some ⟨bk,o,none⟩) T.length c,.int .i64 (T.length:Int),.slice (some ⟨ub,0,none⟩) T.length T.length,.int .i64 (T.length:Int),.slice (some ⟨ob,0,none⟩) T.length T.length,
  .agg #[.slice none 0 0,.slice (some ⟨ub,0,none⟩) T.length T.length,.slice (some ⟨ob,0,none⟩) T.length T.length],.agg #[.slice (some ⟨bk,o,none⟩) T.length c,.slice none 0 0,.slice (some ⟨ub,0,none⟩) T.length T.length,.slice (some ⟨ob,0,none⟩) T.length T.length],
  undef,undef,undef,undef,undef,undef,undef,undef,undef,undef,undef,undef,undef,undef],[]⟩) (H:=fun ub ob b W=>MkZ w2 W w2.heap.size (.slice (some ⟨bk,o,none⟩) T.length c) T.length ub ob b) (fun HQ=>?_) (fun ub ob b W hM=>?_)
 ·have HQ:=aa HQ
  go_region_held3 (fun W=>W.cell? ⟨w.heap.size,0,none⟩=some (.slice (some ⟨bk,o,none⟩) T.length c)) ((apply HK.out;(repeat (first|exact Below.refl _ _|refine Below.drew ?_|refine Below.alloc ?_ (by simp;try omega) _|refine Below.setCell ?_ (by simp;try omega) _)))) (fail)
  all_goals
   refine HQ.out _ _ _ _ ⟨Bp _ _ _ _,by omega,?_,?_,?_⟩
   ·first
     | exact Ti _ _ _ _
     | exact Tj _ _ _ _
     | exact Tl _ _ _ _
   ·first
     | exact WN _ _ _ _ (HMU.out _ _ (ah _))
     | exact WO _ _ _ _ (HMU.out _ _ (by rw[aq];omega))
     | exact WQ _ _ _ _ (HMU.out _ _ (by rw[aq,aq];omega))
   ·first
     | exact WN _ _ _ _ (Y9.out _ _ (ah _))
     | exact WO _ _ _ _ (Y9.out _ _ (by rw[aq];omega))
     | exact WQ _ _ _ _ (Y9.out _ _ (by rw[aq,aq];omega))
 ·dsimp only
  have HM:=aa hM;have hblk:=hM.blk;have adj:=hM.below;have Tt:=(hM.below.block w.heap.size (by omega)).trans abq.out
  have abr:=(hM.below.block (w.heap.size+1) (by omega)).trans abp.out
  have t0:W.cell? ⟨w.heap.size,0,none⟩=some (.slice (some ⟨bk,o,none⟩) T.length c):=ae Tt 0;have t1:W.cell? ⟨w.heap.size,1,none⟩=some (.int .i64 (t.loc:Int)):=ae Tt 1;have hlW:w2.heap.size≤W.heap.size:=hM.below.size;have HTRW:=aa Tt;have HSCW:=aa abr;clear hM hblk adj Tt abr mU mO HMU Y9;go_wp2_with fail
  obtain⟨WF,hWF⟩ :∃WF,WF=W.alloc (.cells #[.int .i64 (t.loc:Int),.int .i64 (-1),.int .i64 0,.bool true,.slice none 0 0,.slice none 0 0] 43):=⟨_,rfl⟩;rw[←hWF];have hbF:Below W.heap.size W WF:=by rw[hWF];exact(Below.refl _ _).alloc (ah _) _
  have WS:WF.heap[W.heap.size]? = some (.cells #[.int .i64 (t.loc:Int),.int .i64 (-1),.int .i64 0,.bool true,.slice none 0 0,.slice none 0 0] 43 (0,0)):=by rw[hWF];exact heap_alloc_new _ _
  have f0:WF.cell? ⟨W.heap.size,0,none⟩=some (.int .i64 (t.loc:Int)):=ae WS 0;have f1:WF.cell? ⟨W.heap.size,1,none⟩=some (.int .i64 (-1)):=ae WS 1;have f2:WF.cell? ⟨W.heap.size,2,none⟩=some (.int .i64 0):=ae WS 2;have f3:WF.cell? ⟨W.heap.size,3,none⟩=some (.bool true):=ae WS 3;have f4:WF.cell? ⟨W.heap.size,4,none⟩=some (.slice none 0 0):=ae WS 4;have f5:WF.cell? ⟨W.heap.size,5,none⟩=some (.slice none 0 0):=ae WS 5;have Za:Below w2.heap.size w2 WF:=HM.out.below.trans (hbF.mono hlW);have hRX:eW WF w2.heap.size b (.slice (some ⟨bk,o,none⟩) T.length c) T.length ⟨[],fun _=>(0,0),fun _=>0,[],[]⟩ (.slice none 0 0) ub ob []:=by
   refine⟨(hbF.block b (aO.1 HM.out.blk).1).trans HM.out.blk,⟨World.ownsRow_nil _ _ _ _,(fun _ h=>by cases h),(fun _ h=>by cases h),(fun _ _ _ _ _ h=>by cases h),(fun _ _ _ _ _ h=>by cases h)⟩,rfl,HM.out.uses.later hbF,HM.out.vX.later hbF,HM.out.le⟩
  have HRX:=aa hRX;have adk:=aa Za;have abt:tB w2 bk o T:=fun j x hj=>by
   obtain⟨nv,kv,h1,h2,h3⟩:=HX.out j x hj;exact⟨nv,kv,h1.below B2.out dU,h2.below B2.out,h3.below B2.out⟩
  have HTI:=aa abt;have hK2 :∀W',Below w2.heap.size WF W'→W'.cell? ⟨w.heap.size,1,none⟩=some (.int .i64 (t.loc:Int)):=fun W' WT=>(WT.cell (p:=⟨w.heap.size,1,none⟩) (by show w.heap.size<_;omega)).trans (ae ((Za.block w.heap.size (by omega)).trans abq.out) 1)
  have HK2:=aa hK2;have t1F:=hK2 WF (Below.refl _ _);have HEN:=aa (fun W' (WT:Below w2.heap.size WF W') (hr:eW W' w2.heap.size b (.slice (some ⟨bk,o,none⟩) T.length c) T.length ⟨[],fun _=>(0,0),fun _=>0,[],[]⟩ (.slice none 0 0) ub ob [])=>xh b ⟨t.loc,-1,0,true,[],[]⟩ none 0 0 ⟨[],fun _=>(0,0),fun _=>0,[],[]⟩ W' ⟨_,_,hr⟩ rfl rfl (by show 0≤100000;omega))
  have hlF:W.heap.size<WF.heap.size:=(aO.1 WS).1;clear hWF hbF WS hRX Za abt hK2;refine bz.DQ (n:=4) (S:=fun W'=>W'.cell? ⟨w.heap.size,1,none⟩=some (.int .i64 (t.loc:Int))) (by kernel_rfl) ?_
  have tJ:(fun W':World=>W'.cell? ⟨w.heap.size,1,none⟩=some (.int .i64 (t.loc:Int))) WF.drew:=t1F
  refine bz.dc 0 (.pointer (some ⟨w.heap.size,1,none⟩)) (by kernel_rfl) (by decide) (by kernel_rfl) (by kernel_rfl) (by kernel_rfl) (fun _ _ _ _ h=>h) tJ ?_
  simp only[dm,cK,cI,cJ];refine⟨by rfl,by rfl,?_,?_⟩
  ·intro w hSw
   go_simp
  (try simp only[Act.put,cF,ch,cj])
  refine bz.dc 1 (.int .i64 (t.loc:Int)) (by kernel_rfl) (by decide) (by kernel_rfl) (by kernel_rfl) (by kernel_rfl) (fun _ _ _ _ h=>h) tJ ?_
  simp only[dm,cK,cI,cJ];refine⟨by rfl,by rfl,?_,?_⟩
  ·intro w hSw
   go_simp
  (try simp only[Act.put,cF,ch,cj])
  refine bz.fJ 2 (by kernel_rfl) fun K hK=>?_
  simp only[dm,cK,cI,cJ];go_simp
  refine hK.out _ _ (fun _=>t1F) ?_
  clear hK K
  (try simp only[Act.put,cF,ch,cj])
  refine bz.fJ 3 (by kernel_rfl) fun K hK=>?_
  simp only[dm,cK,cI,cJ];go_simp
  go_at_call 19
  refine(HEN.out _ ((Below.refl _ _).drew) HRX.out.drew).mono ?_;rintro e w5 ⟨rfl,h1,h2,h3⟩;have hS5:=HK2.out w5 (((Below.refl _ _).drew).trans h2);have H1:=aa h1;have H2:=aa h2;clear h1 h2 h3;go_wp2_with fail
  refine hK.out _ _ (fun _=>hS5) ?_
  clear hK K
  (try simp only[Act.put,cF,ch,cj])
  have MC:Below w2.heap.size w2 w5:=adk.out.trans ((Below.refl _ _).drew.trans H2.out);have abu:eY T w2.heap.size b (.slice (some ⟨bk,o,none⟩) T.length c) ub ob 0 none (.slice none 0 0) [] [] (fF t.loc) w5 t.wt t.size:=by
   refine⟨⟨⟨w2,bk,o,c,rfl,by have:=B2.out.size;omega,rfl,HTI.out,MC⟩,by omega,HS.out.kids⟩,H1.out,⟨⟨World.ownsRow_nil _ _ _ _,(fun _ h=>by cases h),(fun _ h=>by cases h),EW⟩,⟨rfl,rfl⟩,rfl,(fun _ h=>by cases h)⟩,(fun _ _ h=>by cases h),AV _,?_,(fun _ h=>by cases h),?_,?_,?_⟩
   ·intro g x hx
    match g,hx with
    | 0,hx=>injection hx with hx;rw[←hx];exact⟨bo _,bo _⟩
    | g+1,hx=>cases hx
   ·have:=HWT.out
    show 0+t.wt≤100000
    omega
   ·have:=qj.out
    show 1+t.size≤100000
    omega
   ·have:=qj.out
    show 0+t.size≤100000
    omega
  have HV:=aa (Jb HS.out.size t YJ.out 0 (-1) none none 0 [] [] (fF t.loc) w5 abu (fun _=>rfl) (.inr H18.out))
  have H5:=aa MC;clear abu MC;refine bz.fJ 4 (by kernel_rfl) fun K hK=>?_
  simp only[dm,cK,cI,cJ];go_simp
  go_at_call 18
  refine HV.out.mono ?_;intro e w6 hp;have hE:pd t=aY t 0 (fF t.loc):=rfl;rw[←hE] at hp;obtain⟨lH,sG⟩:=hp;have hB6:=H5.out.trans lH;have Bz:=(hB6.block (w.heap.size+1) (by omega)).trans abp.out
  have s0:w6.cell? ⟨w.heap.size+1,0,none⟩=some (.slice none 0 0):=ae Bz 0;have s1:w6.cell? ⟨w.heap.size+1,1,none⟩=some (.slice none 0 0):=ae Bz 1;have s2:w6.cell? ⟨w.heap.size+1,2,none⟩=some (.slice none 0 0):=ae Bz 2;have u0:=aH Bz 0;have u1:=aH Bz 1;have u2:=aH Bz 2;have H6:=aa hB6;have BA:=aa Bz;clear lH hB6 Bz;obtain⟨R,hR⟩ :∃R,R=pd t:=⟨_,rfl⟩;rw[←hR] at sG;have HRP:=aa hR;clear hR;cases R with
  | error x =>
   obtain⟨v,rfl,abv⟩:=sG;have Tg:=aa abv;obtain⟨g6,rfl,_⟩:=abv;go_wp2_with fail
   refine hK.out _ _ (fun h=>absurd h (by decide)) ?_
   clear hK K
   (try simp only[Act.put,cF,ch,cj])
   refine bz.fJ 5 (by kernel_rfl) fun K hK=>?_
   simp only[dm,cK,cI,cJ];go_simp
   refine hK.out _ _ (fun h=>absurd h (by decide)) ?_
   clear hK K
   (try simp only[Act.put,cF,ch,cj])
   refine bz.done (by kernel_rfl) ?_ _
   go_wp2_with fail
   have h7:=bM (bM (bM BA.out 0 (.slice none 0 0)) 1 (.slice none 0 0)) 2 (.slice none 0 0);have Wv:Below w.heap.size w6 (((w6.setCell ⟨w.heap.size+1,0,none⟩ (.slice none 0 0)).setCell ⟨w.heap.size+1,1,none⟩ (.slice none 0 0)).setCell ⟨w.heap.size+1,2,none⟩ (.slice none 0 0)):=(((Below.refl _ _).setCell (p:=⟨w.heap.size+1,0,none⟩) (by show _≤w.heap.size+1;omega) _).setCell (p:=⟨w.heap.size+1,1,none⟩) (by show _≤w.heap.size+1;omega) _).setCell (p:=⟨w.heap.size+1,2,none⟩) (by show _≤w.heap.size+1;omega) _
   have hf7:Fr [35] w6 (((w6.setCell ⟨w.heap.size+1,0,none⟩ (.slice none 0 0)).setCell ⟨w.heap.size+1,1,none⟩ (.slice none 0 0)).setCell ⟨w.heap.size+1,2,none⟩ (.slice none 0 0)):=((Fr.set BA.out (by decide) _ _).trans (Fr.set (bM BA.out 0 _) (by decide) _ _)).trans (Fr.set (bM (bM BA.out 0 _) 1 _) (by decide) _ _)
   generalize ((w6.setCell ⟨w.heap.size+1,0,none⟩ (.slice none 0 0)).setCell ⟨w.heap.size+1,1,none⟩ (.slice none 0 0)).setCell ⟨w.heap.size+1,2,none⟩ (.slice none 0 0)=W7 at h7 Wv hf7 ⊢;have c0:W7.cell? ⟨w.heap.size+1,0,none⟩=some (.slice none 0 0):=ae h7 0;have c1:W7.cell? ⟨w.heap.size+1,1,none⟩=some (.slice none 0 0):=ae h7 1;have c2:W7.cell? ⟨w.heap.size+1,2,none⟩=some (.slice none 0 0):=ae h7 2;refine bodyPost_ret (v:=.tuple #[FY,.iface 59 (.pointer (some ⟨g6,0,none⟩))]) (by simp[results,Tryz.results10,go_sem,FY,c0,c1,c2]) rfl ⟨(B2.out.trans (H6.out.mono B2.out.size)).trans Wv,?_⟩
   rw[←HRP.out];refine⟨_,rfl,?_⟩;obtain⟨g,e1,e2⟩:=Tg.out;exact⟨g,e1,hf7.cells g _ _ _ e2 (by decide)⟩
  | ok st =>
   obtain⟨rfl,Rx,adl,_⟩:=sG;obtain⟨fv,FL,hrx⟩:=Rx;obtain⟨FA,fc,hfv,_,_⟩:=ez hrx.fns.row;subst hfv;have r1:w6.cell? ⟨b,1,none⟩=some (.slice FA FL.length fc):=ae hrx.blk 1;have r2:w6.cell? ⟨b,2,none⟩=some (.slice (some ⟨ub,0,none⟩) T.length T.length):=ae hrx.blk 2;have r3:w6.cell? ⟨b,3,none⟩=some (.slice (some ⟨ob,0,none⟩) T.length T.length):=ae hrx.blk 3;have adm:=aa hrx;clear hrx adl;go_wp2_with fail
   refine hK.out _ _ (fun h=>absurd h (by decide)) ?_
   clear hK K
   (try simp only[Act.put,cF,ch,cj])
   refine bz.fJ 5 (by kernel_rfl) fun K hK=>?_
   simp only[dm,cK,cI,cJ];go_simp
   refine hK.out _ _ (fun h=>absurd h (by decide)) ?_
   clear hK K
   (try simp only[Act.put,cF,ch,cj])
   refine bz.done (by kernel_rfl) ?_ _
   go_wp2_with fail
   have h7:=bM (bM (bM BA.out 0 (.slice FA FL.length fc)) 1 (.slice (some ⟨ub,0,none⟩) T.length T.length)) 2 (.slice (some ⟨ob,0,none⟩) T.length T.length);have Wv:Below w.heap.size w6 (((w6.setCell ⟨w.heap.size+1,0,none⟩ (.slice FA FL.length fc)).setCell ⟨w.heap.size+1,1,none⟩ (.slice (some ⟨ub,0,none⟩) T.length T.length)).setCell ⟨w.heap.size+1,2,none⟩ (.slice (some ⟨ob,0,none⟩) T.length T.length)):=(((Below.refl _ _).setCell (p:=⟨w.heap.size+1,0,none⟩) (by show _≤w.heap.size+1;omega) _).setCell (p:=⟨w.heap.size+1,1,none⟩) (by show _≤w.heap.size+1;omega) _).setCell (p:=⟨w.heap.size+1,2,none⟩) (by show _≤w.heap.size+1;omega) _
   have hf7:Fr [35] w6 (((w6.setCell ⟨w.heap.size+1,0,none⟩ (.slice FA FL.length fc)).setCell ⟨w.heap.size+1,1,none⟩ (.slice (some ⟨ub,0,none⟩) T.length T.length)).setCell ⟨w.heap.size+1,2,none⟩ (.slice (some ⟨ob,0,none⟩) T.length T.length)):=((Fr.set BA.out (by decide) _ _).trans (Fr.set (bM BA.out 0 _) (by decide) _ _)).trans (Fr.set (bM (bM BA.out 0 _) 1 _) (by decide) _ _)
   generalize ((w6.setCell ⟨w.heap.size+1,0,none⟩ (.slice FA FL.length fc)).setCell ⟨w.heap.size+1,1,none⟩ (.slice (some ⟨ub,0,none⟩) T.length T.length)).setCell ⟨w.heap.size+1,2,none⟩ (.slice (some ⟨ob,0,none⟩) T.length T.length)=W7 at h7 Wv hf7 ⊢;have c0:W7.cell? ⟨w.heap.size+1,0,none⟩=some (.slice FA FL.length fc):=ae h7 0;have c1:W7.cell? ⟨w.heap.size+1,1,none⟩=some (.slice (some ⟨ub,0,none⟩) T.length T.length):=ae h7 1;have c2:W7.cell? ⟨w.heap.size+1,2,none⟩=some (.slice (some ⟨ob,0,none⟩) T.length T.length):=ae h7 2;refine bodyPost_ret (v:=.tuple #[.agg #[.slice FA FL.length fc,.slice (some ⟨ub,0,none⟩) T.length T.length,.slice (some ⟨ob,0,none⟩) T.length T.length],.nilIface]) (by simp[results,Tryz.results10,go_sem,c0,c1,c2]) rfl ⟨(B2.out.trans (H6.out.mono B2.out.size)).trans Wv,?_⟩
   rw[←HRP.out];exact⟨_,_,B2.out.size,rfl,(adm.out.fr hf7 (by decide)).scope⟩
theorem l3 (w:World) (X Y Z:Obj):Below w.heap.size w (((w.alloc X).alloc Y).alloc Z):=(((Below.refl _ _).alloc (ah _) _).alloc (by rw[aq];omega) _).alloc (by rw[aq,aq];omega) _
def lo (s:Lt):Lt:=if s.hd.kind=11 then s.sub.headD s else s
def NfP (t:Lt) (x:dr) (n:Nat):Prop:=∃s,lO s t∧s.loc=x.node∧n=x.vars.length+aG (lo s)
theorem lO.WU {T:List Nd} {s t:Lt} (h:lO s t) (hn:ic T t):ic T s∧s.size≤t.size:=by
 induction h with
 | self=>exact⟨hn,ah _⟩
 | down hk _ ih =>
  have:=ih (hn.sub.1.at_ _ hk);have h2:=jK hk;exact⟨this.1,by omega⟩
theorem Ge {T:List Nd} {s:Lt} (hn:ic T s):ic T (lo s)∧(lo s).size≤s.size∧(s.hd.kind=11→∃b,s.sub=[b]∧lo s=b)∧(s.hd.kind≠11→lo s=s):=by
 unfold lo;by_cases h:s.hd.kind=11
 ·rw[ai h]
  have e:=hn.sub.2.2.body (.inl h);obtain⟨b,hb⟩ :∃b,s.sub=[b]:=by
   cases hs:s.sub with
   | nil=>rw[hs] at e;simp[jG] at e
   | cons b l =>
    cases l with
    | nil=>exact⟨b,rfl⟩
    | cons c l=>rw[hs] at e;simp[jG] at e
  rw[hb];have hm:b∈s.sub:=by rw[hb];exact bP ..
  exact⟨hn.sub.1.at_ b hm,by have:=jK hm;show b.size≤s.size;omega,fun _=>⟨b,rfl,rfl⟩,fun h'=>absurd h h'⟩
 ·rw[ab h]
  exact⟨hn,ah _,fun h'=>absurd h' h,fun _=>rfl⟩
theorem N0 {T:List Nd} {nv:Value} (s:Lt) (p q:Int) (m:Bool) (vv uv:Value) (w:World) (hT:fw w nv T) (hn:ic T s) :
  Calls Tryz.prog 16 #[.agg #[nv],.agg #[.int .i64 (s.loc:Int),.int .i64 p,.int .i64 q,.bool m,vv,uv]] w fun e w'=>e=.returned (.int .i64 ((lo s).loc:Int))∧Below w.heap.size w w':=by
 obtain⟨_,_,hb1,hb2⟩:=Ge hn;obtain⟨h1,h2,h3⟩:=lN hn.yF;have hlt:=(aK.1 h2).1;obtain⟨NA,nc,rfl,hnc,hX⟩:=hT;rcases hX with h0 | ⟨bk,o,rfl,dU,hX⟩
 ·rw[h0] at hlt;cases hlt
 obtain⟨vM,vN,⟨c0,c1,c2,c3,c4,c5,c6⟩,⟨SA,sc,rfl,_,_⟩,⟨UA,uc,rfl,Fw,wT⟩⟩:=hX s.loc s.hd h2;have hi:((s.loc:Int)<0)=False:=ew (by omega)
 have ra:(T.length≤s.loc)=False:=ew (by omega)
 by_cases hk:s.hd.kind=11
 ·obtain⟨b,e1,e2⟩:=hb1 hk
  rw[e2];rw[h3,e1] at wT;rcases wT with h0 | ⟨sb,so,rfl,yD,hx⟩
  ·simp at h0
  have hf :∀X Y Z,(((w.alloc X).alloc Y).alloc Z).cell? ⟨sb,so,none⟩=some (.int .i64 (b.loc:Int)):=fun X Y Z=>((l3 w X Y Z).cell (p:=⟨sb,so,none⟩) yD).trans (hx 0 _ (by simp))
  have hlen:s.hd.kids.length=1:=by rw[h3,e1];rfl
  rw[hlen] at c6 Fw;rw[hk] at c0;clear hx hb1 hb2 h1 h2 h3 e1 e2 hX hk hlen hn;go_enter Tryz.func16,Tryz.ntmps16
  go_wp2_with fail
  go_ret
  exact⟨rfl,l3 _ _ _ _⟩
 ·have g:(s.hd.kind == 11)=false:=aC.2 hk
  rw[hb2 hk];clear wT hb1 hb2 h1 h2 h3 hX hk hn;go_enter Tryz.func16,Tryz.ntmps16
  go_wp2_with fail
  go_ret
  exact⟨rfl,l3 _ _ _ _⟩
def N3 (t:Lt) (r:Rs aI) (e:Ending) (w':World):Prop :=
 match r with
 | .error x=>∃v,e=.returned (.tuple #[.slice none 0 0,v])∧AB w' v x.2 x.1
 | .ok st =>
  (∃(g:Nat) (o:Nat→Nat),e=.returned (.tuple #[.slice (some ⟨g,0,none⟩) st.fns.length st.fns.length,.nilIface])∧(∀j,j<st.fns.length→w'.cell? ⟨g,j,none⟩=some (.int .i64 (o j:Int)))∧∀(i:Nat) x,st.fns[i]? = some x→NfP t x (o i)∧o i≤250) ∨
  ∃(v:Value) (l:Int) (i:Nat) (x:dr) (n:Nat),e=.returned (.tuple #[.slice none 0 0,v])∧AB w' v l 13∧st.fns[i]? = some x∧NfP t x n∧250<n
theorem lR.Zb {W W':World} {B:Nat} {v:Value} {L:List nU} (h:lR W B v L) (hb:Below W.heap.size W W'):lR W' B v L :=
 have k:=Fr.af (E:=[]) hb
 ⟨k.row h.row (by simp),fun t ht=>k.row (h.vars t ht) (by simp),fun t ht=>k.row (h.cr t ht) (by simp),h.qg,h.rA⟩
theorem lR.six {W:World} {B:Nat} {fv:Value} {L:List nU} {F:List dr} (h:lR W B fv L) (ha:L.map (·.1)=F) {k:Nat} {x:dr} (hx:F[k]? = some x) :∃g c VA vc UA uc,fv=.slice (some ⟨g,0,none⟩) F.length c∧g<W.heap.size∧W.cell? ⟨g,k*6,none⟩=some (.int .i64 (x.node:Int))∧W.cell? ⟨g,k*6+1,none⟩=some (.int .i64 x.parent) ∧
  W.cell? ⟨g,k*6+2,none⟩=some (.int .i64 (x.params:Int))∧W.cell? ⟨g,k*6+3,none⟩=some (.bool x.many)∧W.cell? ⟨g,k*6+4,none⟩=some (.slice VA x.vars.length vc)∧W.cell? ⟨g,k*6+5,none⟩=some (.slice UA x.cr.length uc):=by
 have hlen:L.length=F.length:=by rw[←ha,bU]
 rw[←ha,eO] at hx;obtain⟨y,hy,rfl⟩:=EO.1 hx;obtain⟨g,c,rfl,_,hg,vP⟩:=h.form hy;have hv:=h.vars y (aX hy);obtain⟨VA,vc,hve,_,_⟩:=ez hv;obtain⟨UA,uc,Y0,_,_⟩:=ez (h.cr y (aX hy));refine⟨g,c,VA,vc,UA,uc,by rw[hlen],hg,?_,?_,?_,?_,?_,?_⟩
 ·have:=(vP 0 (by omega)).1;rw[E5] at this;rw[this];rfl
 ·rw[(vP 1 (by omega)).1];rfl
 ·rw[(vP 2 (by omega)).1];rfl
 ·rw[(vP 3 (by omega)).1];rfl
 ·rw[(vP 4 (by omega)).1];show some y.2.1=_;rw[hve]
 ·rw[(vP 5 (by omega)).1];show some y.2.2=_;rw[Y0]
def wi (h b:Nat) (n x0 x1 x2 x3 x4 x5:Value) (W:World):Prop:=W.cell? ⟨h,0,none⟩=some n∧W.cell? ⟨b,0,none⟩=some x0∧W.cell? ⟨b,1,none⟩=some x1∧W.cell? ⟨b,2,none⟩=some x2∧W.cell? ⟨b,3,none⟩=some x3∧W.cell? ⟨b,4,none⟩=some x4∧W.cell? ⟨b,5,none⟩=some x5
theorem wi.below {h b:Nat} {n x0 x1 x2 x3 x4 x5:Value} {W W':World} (hS:wi h b n x0 x1 x2 x3 x4 x5 W) (hb:Below W.heap.size W W'):wi h b n x0 x1 x2 x3 x4 x5 W':=by
 obtain⟨h0,h1,h2,h3,h4,h5,h6⟩:=hS;have l0:=block_lt_of_cell h0;have l1:=block_lt_of_cell h1;exact⟨(hb.cell (p:=⟨h,0,none⟩) l0).trans h0,(hb.cell (p:=⟨b,0,none⟩) l1).trans h1,(hb.cell (p:=⟨b,1,none⟩) l1).trans h2,(hb.cell (p:=⟨b,2,none⟩) l1).trans h3,(hb.cell (p:=⟨b,3,none⟩) l1).trans h4,(hb.cell (p:=⟨b,4,none⟩) l1).trans h5,(hb.cell (p:=⟨b,5,none⟩) l1).trans h6⟩
theorem wi.set {h b g:Nat} {n x0 x1 x2 x3 x4 x5:Value} {W:World} (hS:wi h b n x0 x1 x2 x3 x4 x5 W) (hh:h≠g) (hg:b≠g) (j:Nat) (v:Value):wi h b n x0 x1 x2 x3 x4 x5 (W.setCell ⟨g,j,none⟩ v):=by
 obtain⟨h0,h1,h2,h3,h4,h5,h6⟩:=hS;have k1 :∀i,(W.setCell ⟨g,j,none⟩ v).cell? ⟨h,i,none⟩=W.cell? ⟨h,i,none⟩:=fun i=>World.cell?_of_block (a:=⟨h,i,none⟩) (Below.heap_setCell W ⟨g,j,none⟩ v h hh)
 have k2 :∀i,(W.setCell ⟨g,j,none⟩ v).cell? ⟨b,i,none⟩=W.cell? ⟨b,i,none⟩:=fun i=>World.cell?_of_block (a:=⟨b,i,none⟩) (Below.heap_setCell W ⟨g,j,none⟩ v b hg)
 exact⟨(k1 0).trans h0,(k2 0).trans h1,(k2 1).trans h2,(k2 2).trans h3,(k2 3).trans h4,(k2 4).trans h5,(k2 5).trans h6⟩
theorem Tu {w w':World} (h:Below w.drew.heap.size w.drew w'):Below w.heap.size w w':=⟨h.os,h.tape,h.output,h.size,h.block⟩
theorem N9 (v:Value) (T:List Nd) (r:Int) (w:World) (h:my w v T r) (hs:Sml T) (hR:iV T r=true) (t:Lt) (hr:(t.loc:Int)=r) (hn:ic T t) (kH:t.hd.kind=18) (hN:T.length≤16384) (hwt:t.wt≤50000) (hsz:t.size=T.length) (hF :∀x∈T,x.kind=20→1≤x.num)
  (hfn :∀st,pd t=.ok st→st.fns.length≤100000∧∀x∈st.fns,x.node∈t.eE∧x.vars.length≤200):Calls Tryz.prog 9 #[v] w fun e w'=>Below w.heap.size w w'∧N3 t (pd t) e w':=by
 obtain⟨R,hRR⟩ :∃R,pd t=R:=⟨_,rfl⟩;rw[hRR] at hfn ⊢;have HT:=aa h;have abw:=aa (fun W (hW:my W v T r)=>By v T r W hW hs hR t hr hn kH hN hwt hsz)
 rw[hRR] at abw;have YJ:=aa hn;have HF:=aa hF;have HFN:=aa hfn;have qj:=aa hsz;have DM:=(aK.1 (lN hn.yF).2.1).1;obtain⟨nv,rfl,rN⟩:=h;have HNV:=aa rN;obtain⟨NA,nc,rfl,hnc,hX⟩:=rN;obtain⟨bk,o,rfl⟩ :∃bk o,NA=some ⟨bk,o,none⟩:=by
  rcases hX with h0 | ⟨bk,o,e,_⟩
  ·rw[h0] at DM;cases DM
  ·exact⟨bk,o,e⟩
 clear hRR hs hR hn kH hwt hsz hF hfn hX;go_enter Tryz.func9,Tryz.ntmps9
 go_wp2_with fail
 have eM:=heap_alloc_new w (.cells #[.slice (some ⟨bk,o,none⟩) T.length nc,.int .i64 r] 24);have hb0:Below w.heap.size w (w.alloc (.cells #[.slice (some ⟨bk,o,none⟩) T.length nc,.int .i64 r] 24)):=(Below.refl _ _).alloc (ah _) _;have hs0:(w.alloc (.cells #[.slice (some ⟨bk,o,none⟩) T.length nc,.int .i64 r] 24)).heap.size=w.heap.size+1:=aq _ _;generalize w.alloc (.cells #[.slice (some ⟨bk,o,none⟩) T.length nc,.int .i64 r] 24)=W0 at eM hb0 hs0 ⊢;have B0:=aa hb0;have X0:=aa eM;have S0:=aa hs0;clear eM hb0 hs0;refine(abw.out W0 (HT.out.below B0.out)).mono ?_;rintro e w2 ⟨b2,hp⟩;have X2:=aa ((b2.block w.heap.size (by rw[S0.out];omega)).trans X0.out)
 have B2:=aa (B0.out.trans (b2.mono B0.out.size));clear b2;have z0:w2.cell? ⟨w.heap.size,0,none⟩=some (.slice (some ⟨bk,o,none⟩) T.length nc):=ae X2.out 0;have z1:w2.cell? ⟨w.heap.size,1,none⟩=some (.int .i64 r):=ae X2.out 1;have zl:w.heap.size<w2.heap.size:=(aO.1 X2.out).1;cases R with
 | error x =>
  obtain⟨u,rfl,hf⟩:=hp;have Tg:=aa hf;obtain⟨g,rfl,_⟩:=hf;unfold FY;go_wp2_with fail
  go_ret2
  have hb:=(Below.refl w2.heap.size w2).alloc (ah _) (.cells #[.slice none 0 0,.slice none 0 0,.slice none 0 0] 35);obtain⟨g',e1,e2⟩:=Tg.out;exact⟨B2.out.trans (hb.mono B2.out.size),_,rfl,g',e1,(hb.block g' (aO.1 e2).1).trans e2⟩
 | ok st =>
  obtain⟨sv,B',hB',rfl,fv,ub,ob,L,rfl,hfz,Zc,_,_⟩:=hp;obtain⟨Di,hfx⟩:=HFN.out st rfl;have HFX:=aa hfx;have HFZ:=aa hfz;have adn:=aa Zc;obtain⟨FA,fc,rfl,_,_⟩:=ez hfz.row;have sE:L.length=st.fns.length:=by rw[←Zc,bU]
  rw[sE] at HFZ;rw[sE];obtain⟨MO,Y8⟩:=Bo st.fns.length (by omega)
  have mO:=fun W=>(Y8 W).1
  have Y9:=aa fun W=>(Y8 W).2
  clear Y8 hfz Zc hfx sE;go_wp2_with fail
  obtain⟨W3,hW3⟩ :∃W3,W3=(w2.alloc (.cells #[.slice FA st.fns.length fc,.slice (some ⟨ub,0,none⟩) T.length T.length,.slice (some ⟨ob,0,none⟩) T.length T.length] 35)).alloc (.cells #[.slice (some ⟨bk,o,none⟩) T.length nc] 56):=⟨_,rfl⟩;rw[←hW3];have hs3:W3.heap.size=w2.heap.size+1+1:=by rw[hW3,aq,aq]
  have hb3:Below w2.heap.size w2 W3:=by rw[hW3];exact Below.two _ _
  have hr3:W3.cell? ⟨w2.heap.size+1,0,none⟩=some (.slice (some ⟨bk,o,none⟩) T.length nc):=by rw[hW3];simp[go_sem]
  have DD:=Y9.out W3 W3.heap.size (ah _);have zA:Below W3.heap.size W3 (W3.alloc (.cells MO 3)):=(Below.refl _ _).alloc (ah _) _;generalize W3.alloc (.cells MO 3)=W5 at DD zA ⊢;rw[hs3] at DD;have S3:=aa hs3;have B3:=aa hb3;have R3:=aa hr3;have FM:=aa DD;have B5:=aa zA;clear hW3 hs3 hb3 hr3 DD zA mO Y9 z1;go_loopw [28] (fun i wr=>∃(k:Nat) (oo:Nat→Nat),i=.int .i64 (k:Int)∧k≤st.fns.length∧Below W3.heap.size W3 wr∧eV wr (w2.heap.size+1+1) 3 1 (w2.heap.size+1+1) st.fns.length (Hv fun j=>(oo j:Int))∧∀(j:Nat) x,j<k→st.fns[j]? = some x→NfP t x (oo j)∧oo j≤250) (fun i _=>st.fns.length-(intOf i).toNat)
  case atStart=>exact⟨0,fun _=>0,rfl,bo _,B5.out,FM.out,fun j x h=>absurd h (by omega)⟩
  case round =>
   obtain⟨k,oo,rfl,hk,hbr,hfm,hall⟩:=hrel;have pP:=aa hbr;have HFM:=aa hfm;have tb:=aa hall;have Zd:Below w2.heap.size w2 wr:=B3.out.trans (hbr.mono B3.out.size);have ado:=aa Zd;have iK:=aa (B2.out.trans (Zd.mono B2.out.size));clear hbr hfm hall Zd;by_cases hlt:k<st.fns.length
   ·obtain⟨x,hx⟩ :∃x,st.fns[k]? = some x:=⟨st.fns[k],bG hlt⟩
    have RF:=aX hx;obtain⟨hloc,hvl⟩:=HFX.out x RF;obtain⟨s,MM,SK⟩:=Fk t x.node hloc;obtain⟨NI,hss⟩:=MM.WU YJ.out;obtain⟨AT,yD,_,_⟩:=Ge NI;have HNF:=aa (show NfP t x (x.vars.length+aG (lo s)) from⟨s,MM,SK,rfl⟩)
    obtain⟨gg,cc,VA,vc,UA,uc,e,re,f0,f1,f2,f3,f4,f5⟩:=(HFZ.out.Zb ado.out).six adn.out hx;injection e with e1 _ e2;subst e1 e2;have adp:=qj.out;have jd:=p9 (lo s);have AF:=aa (fun W (hW:Below w.heap.size w W)=>N0 (T:=T) (nv:=.slice (some ⟨bk,o,none⟩) T.length nc) s x.parent (x.params:Int) x.many (.slice VA x.vars.length vc) (.slice UA x.cr.length uc) W (HNV.out.below hW) NI)
    have Md:=aa (fun W (hW:Below w.heap.size w W)=>NY HF.out (by omega) (lo s).size (lo s) (ah _) (by omega) AT W (HNV.out.below hW))
    rw[SK] at AF;obtain⟨q,hq⟩ :∃q,aG (lo s)=q:=⟨_,rfl⟩;rw[hq] at Md HNF jd;have hql:q≤200000:=by omega
    have Oa:IntKind.i64.wrap ((x.vars.length:Int)+(q:Int))=((x.vars.length+q:Nat):Int):=by rw[IntKind.wrap_i64];omega
    obtain⟨m,hm⟩ :∃m,x.vars.length+q=m:=⟨_,rfl⟩;rw[hm] at Oa HNF;have yn:m≤300000:=by omega
    have HWR:=aa Oa;have hT2:=(lN NI.yF).2.1;rw[SK] at hT2;have HTX:=aa hT2;clear Oa hm hT2;have jf:=aa hlt;have HGW:=aa (block_lt_of_cell (cf HFM.out (j:=k) (by omega)).1)
    have HX:=aa hx;clear hx RF MM NI hss AT yD hq jd hloc adp;go_wp2_with fail
    obtain⟨W6,RG⟩ :∃W6,W6=wr.alloc (.cells #[.int .i64 (x.node:Int),.int .i64 x.parent,.int .i64 (x.params:Int),.bool x.many,.slice VA x.vars.length vc,.slice UA x.cr.length uc] 43):=⟨_,rfl⟩;rw[←RG];have BB:W6.heap[wr.heap.size]? = some (.cells #[.int .i64 (x.node:Int),.int .i64 x.parent,.int .i64 (x.params:Int),.bool x.many,.slice VA x.vars.length vc,.slice UA x.cr.length uc] 43 (0,0)):=by rw[RG];exact heap_alloc_new _ _
    have CY:Below wr.heap.size wr W6:=by rw[RG];exact(Below.refl _ _).alloc (ah _) _
    have hl6:wr.heap.size<W6.heap.size:=(aO.1 BB).1;clear RG;have hS6:(wi (w2.heap.size+1) wr.heap.size (.slice (some ⟨bk,o,none⟩) T.length nc) (.int .i64 (x.node:Int)) (.int .i64 x.parent) (.int .i64 (x.params:Int)) (.bool x.many) (.slice VA x.vars.length vc) (.slice UA x.cr.length uc)) W6:=⟨((pP.out.trans (CY.mono pP.out.size)).cell (p:=⟨w2.heap.size+1,0,none⟩) (by have:=S3.out;show w2.heap.size+1<_;omega)).trans R3.out,ae BB 0,ae BB 1,ae BB 2,ae BB 3,ae BB 4,ae BB 5⟩
    have abx:=HFM.out.later CY;have aby:Below w.heap.size w W6:=iK.out.trans (CY.mono iK.out.size);have HS6:=aa hS6;have abz:=aa abx;have Ze:=aa aby;have Ms:=aa (pP.out.trans (CY.mono pP.out.size));clear BB CY abx aby hl6;refine bz.DQ (n:=12) (S:=(wi (w2.heap.size+1) wr.heap.size (.slice (some ⟨bk,o,none⟩) T.length nc) (.int .i64 (x.node:Int)) (.int .i64 x.parent) (.int .i64 (x.params:Int)) (.bool x.many) (.slice VA x.vars.length vc) (.slice UA x.cr.length uc))) (by kernel_rfl) ?_
    have tJ:(wi (w2.heap.size+1) wr.heap.size (.slice (some ⟨bk,o,none⟩) T.length nc) (.int .i64 (x.node:Int)) (.int .i64 x.parent) (.int .i64 (x.params:Int)) (.bool x.many) (.slice VA x.vars.length vc) (.slice UA x.cr.length uc)) W6.drew:=hS6;clear hS6;refine bz.dc 0 (.slice (some ⟨w2.heap.size+1+1,0,none⟩) st.fns.length st.fns.length) (by kernel_rfl) (by decide) (by kernel_rfl) (by kernel_rfl) (by kernel_rfl) (fun _ _ _ _ h=>h) tJ ?_
    simp only[dm,cK,cJ];refine⟨by rfl,by rfl,?_,?_⟩
    ·intro w hSw
     obtain⟨y0,y1,y2,y3,y4,y5,y6⟩:=hSw;go_simp
    (try simp only[Act.put,cF,ch,cj])
    refine bz.dc 1 (.int .i64 (k:Int)) (by kernel_rfl) (by decide) (by kernel_rfl) (by kernel_rfl) (by kernel_rfl) (fun _ _ _ _ h=>h) tJ ?_
    simp only[dm,cK,cI,cJ];refine⟨by rfl,by rfl,?_,?_⟩
    ·intro w hSw
     obtain⟨y0,y1,y2,y3,y4,y5,y6⟩:=hSw;go_simp
    (try simp only[Act.put,cF,ch,cj])
    refine bz.dc 2 (.pointer (some ⟨wr.heap.size,4,none⟩)) (by kernel_rfl) (by decide) (by kernel_rfl) (by kernel_rfl) (by kernel_rfl) (fun _ _ _ _ h=>h) tJ ?_
    simp only[dm,cK,cI,cJ];refine⟨by rfl,by rfl,?_,?_⟩
    ·intro w hSw
     obtain⟨y0,y1,y2,y3,y4,y5,y6⟩:=hSw;go_simp
    (try simp only[Act.put,cF,ch,cj])
    refine bz.dc 3 (.slice VA x.vars.length vc) (by kernel_rfl) (by decide) (by kernel_rfl) (by kernel_rfl) (by kernel_rfl) (fun _ _ _ _ h=>h) tJ ?_
    simp only[dm,cK,cI,cJ];refine⟨by rfl,by rfl,?_,?_⟩
    ·intro w hSw
     obtain⟨y0,y1,y2,y3,y4,y5,y6⟩:=hSw;go_simp
    (try simp only[Act.put,cF,ch,cj])
    refine bz.dc 4 (.int .i64 (x.vars.length:Int)) (by kernel_rfl) (by decide) (by kernel_rfl) (by kernel_rfl) (by kernel_rfl) (fun _ _ _ _ h=>h) tJ ?_
    simp only[dm,cK,cI,cJ];refine⟨by rfl,by rfl,?_,?_⟩
    ·intro w hSw
     obtain⟨y0,y1,y2,y3,y4,y5,y6⟩:=hSw;go_simp
    (try simp only[Act.put,cF,ch,cj])
    refine bz.dc 5 (.agg #[.slice (some ⟨bk,o,none⟩) T.length nc]) (by kernel_rfl) (by decide) (by kernel_rfl) (by kernel_rfl) (by kernel_rfl) (fun _ _ _ _ h=>h) tJ ?_
    simp only[dm,cK,cI,cJ];refine⟨by rfl,by rfl,?_,?_⟩
    ·intro w hSw
     obtain⟨y0,y1,y2,y3,y4,y5,y6⟩:=hSw;go_simp
    (try simp only[Act.put,cF,ch,cj])
    refine bz.dc 6 (.agg #[.slice (some ⟨bk,o,none⟩) T.length nc]) (by kernel_rfl) (by decide) (by kernel_rfl) (by kernel_rfl) (by kernel_rfl) (fun _ _ _ _ h=>h) tJ ?_
    simp only[dm,cK,cI,cJ];refine⟨by rfl,by rfl,?_,?_⟩
    ·intro w hSw
     obtain⟨y0,y1,y2,y3,y4,y5,y6⟩:=hSw;go_simp
    (try simp only[Act.put,cF,ch,cj])
    refine bz.dc 7 (.agg #[.int .i64 (x.node:Int),.int .i64 x.parent,.int .i64 (x.params:Int),.bool x.many,.slice VA x.vars.length vc,.slice UA x.cr.length uc]) (by kernel_rfl) (by decide) (by kernel_rfl) (by kernel_rfl) (by kernel_rfl) (fun _ _ _ _ h=>h) tJ ?_
    simp only[dm,cK,cI,cJ];refine⟨by rfl,by rfl,?_,?_⟩
    ·intro w hSw
     obtain⟨y0,y1,y2,y3,y4,y5,y6⟩:=hSw;go_simp
    (try simp only[Act.put,cF,ch,cj])
    refine bz.fJ 8 (by kernel_rfl) fun K hK=>?_
    simp only[dm,cK,cI,cJ];go_simp
    go_at_call 16
    refine(AF.out _ Ze.out.drew).mono ?_;rintro e w7 ⟨rfl,b7⟩;have B7:=aa (Tu b7);clear b7;go_wp2_with fail
    refine hK.out _ _ (fun _=>HS6.out.below B7.out) ?_
    clear hK K
    (try simp only[Act.put,cF,ch,cj])
    have abA:Below w.heap.size w w7:=Ze.out.trans (B7.out.mono Ze.out.size);have HCN:=aa (Md.out w7 abA);have HS7:=aa (HS6.out.below B7.out);clear abA;refine bz.fJ 9 (by kernel_rfl) fun K hK=>?_
    simp only[dm,cK,cI,cJ];go_simp
    go_at_call 15
    refine HCN.out.mono ?_;rintro e w8 ⟨rfl,b8⟩;have B8:=aa (B7.out.trans (b8.mono B7.out.size));have HS8:=aa (HS7.out.below b8);clear b8;go_wp2_with fail
    refine hK.out _ _ (fun _=>HS8.out) ?_
    clear hK K
    (try simp only[Act.put,cF,ch,cj])
    refine bz.fJ 10 (by kernel_rfl) fun K hK=>?_
    simp only[dm,cK,cI,cJ];go_simp
    rw[HWR.out];refine hK.out _ _ (fun _=>HS8.out) ?_
    clear hK K
    (try simp only[Act.put,cF,ch,cj])
    refine bz.fJ 11 (by kernel_rfl) fun K hK=>?_
    simp only[dm,cK,cI,cJ];go_simp
    refine hK.out _ _ (fun _=>HS8.out) ?_
    clear hK K
    (try simp only[Act.put,cF,ch,cj])
    have Tv:=abz.out.later B8.out;have s0:=(cf Tv (j:=k) (by have:=jf.out;omega)).1
    have s1:=(cf Tv (j:=k) (by have:=jf.out;omega)).2
    have s2:=block_lt_of_cell s0;have abB:=aa Tv;clear Tv;refine bz.fJ 12 (by kernel_rfl) fun K hK=>?_
    simp only[dm,cK,cI,cJ];go_simp
    refine hK.out _ _ (fun h=>absurd h (by decide)) ?_
    clear hK K
    (try simp only[Act.put,cF,ch,cj])
    refine bz.done (by kernel_rfl) ?_ _
    have Tw:eV (w8.setCell ⟨w2.heap.size+1+1,k,none⟩ (.int .i64 (m:Int))) (w2.heap.size+1+1) 3 1 (w2.heap.size+1+1) st.fns.length (Hv fun j=>((if j=k then m else oo j:Nat):Int)):=yq (LJ abB.out k (m:Int)) fun j _=>by
     unfold Hv;dsimp only
     split<;>rfl
    have hb9:Below W3.heap.size W3 (w8.setCell ⟨w2.heap.size+1+1,k,none⟩ (.int .i64 (m:Int))):=(Ms.out.trans (B8.out.mono Ms.out.size)).setCell (p:=⟨w2.heap.size+1+1,k,none⟩) (by rw[S3.out];exact ah _) _
    have hs9:(wi (w2.heap.size+1) wr.heap.size (.slice (some ⟨bk,o,none⟩) T.length nc) (.int .i64 (x.node:Int)) (.int .i64 x.parent) (.int .i64 (x.params:Int)) (.bool x.many) (.slice VA x.vars.length vc) (.slice UA x.cr.length uc)) (w8.setCell ⟨w2.heap.size+1+1,k,none⟩ (.int .i64 (m:Int))):=HS8.out.set (by omega) (by have:=HGW.out;omega) k _
    generalize w8.setCell ⟨w2.heap.size+1+1,k,none⟩ (.int .i64 (m:Int))=W9 at Tw hb9 hs9 ⊢;have adq:Below w.heap.size w W9:=B2.out.trans ((B3.out.trans (hb9.mono B3.out.size)).mono B2.out.size);have n0:W9.cell? ⟨w2.heap.size+1+1,k,none⟩=some (.int .i64 (m:Int)):=by
     rw[(cf Tw (j:=k) (by have:=jf.out;omega)).1]
     show some (Value.int .i64 ((if k=k then m else oo k:Nat):Int))=_
     rw[ai rfl]
    have n1:W9.cell? ⟨w.heap.size,0,none⟩=some (.slice (some ⟨bk,o,none⟩) T.length nc):=((B3.out.trans (hb9.mono B3.out.size)).cell (p:=⟨w.heap.size,0,none⟩) zl).trans z0;have n2:=hs9.2.1;have adr:=aa Tw;have HB9:=aa hb9;have DS:=aa adq;clear Tw hb9 hs9 s0 s1 s2 abB HS8 HS7 HCN abz HS6 tJ B8 B7 AF Md;by_cases yM:250<m
    ·have g1:decide ((250:Int)<(m:Int))=true:=bQ (by omega)
     have Ob:=aa yM;have hxl:=(aK.1 HTX.out).1;obtain⟨NA,nc',e,_,hX⟩:=HNV.out.below DS.out;injection e with e1 _ e2;subst e1 e2;rcases hX with h0 | ⟨bk',o',e,dU,hX⟩
     ·rw[h0] at DM;cases DM
     injection e with e;injection e with e1 e2;subst e1 e2;obtain⟨vM,vN,eT,_,_⟩:=hX x.node s.hd HTX.out;have hK :∀W,Below W9.heap.size W9 W→W.cell? ⟨w.heap.size,0,none⟩=some (.slice (some ⟨bk,o,none⟩) T.length nc)∧W.cell? ⟨wr.heap.size,0,none⟩=some (.int .i64 (x.node:Int))∧W.cell? ⟨bk,o+x.node*7+1,none⟩=some (.int .i64 s.hd.line):=fun W hW=>⟨(hW.cell (p:=⟨w.heap.size,0,none⟩) (block_lt_of_cell n1)).trans n1,(hW.cell (p:=⟨wr.heap.size,0,none⟩) (block_lt_of_cell n2)).trans n2,(hW.cell (p:=⟨bk,o+x.node*7+1,none⟩) dU).trans eT.c1⟩
     have HK:=aa hK;have n3:=eT.c1;have hi:((x.node:Int)<0)=False:=ew (by omega)
     have ra:(T.length≤x.node)=False:=ew (by omega)
     clear yM hK hX eT;go_wp2_with fail
     go_region_held3 (fun W=>W.cell? ⟨w.heap.size,0,none⟩=some (.slice (some ⟨bk,o,none⟩) T.length nc)∧W.cell? ⟨wr.heap.size,0,none⟩=some (.int .i64 (x.node:Int))∧W.cell? ⟨bk,o+x.node*7+1,none⟩=some (.int .i64 s.hd.line)) ((apply HK.out;(repeat (first|exact Below.refl _ _|refine Below.drew ?_|refine Below.alloc ?_ (by simp;try omega) _|refine Below.setCell ?_ (by simp;try omega) _)))) (fail)
     all_goals
      go_wp2_with fail
      go_ret2
      refine⟨?_,.inr ⟨_,s.hd.line,k,x,m,rfl,⟨_,rfl,?_⟩,HX.out,HNF.out,Ob.out⟩⟩
      ·first
        | exact(DS.out.alloc DS.out.size _).drew
        | exact DS.out.drew.alloc DS.out.size _
        | exact DS.out.alloc DS.out.size _
      ·exact heap_alloc_new W9 _
    ·have g1:decide ((250:Int)<(m:Int))=false:=bZ (by omega)
     have Ob:=aa yM;clear yM;go_wp2_with fail
     refine⟨⟨k+1,fun j=>if j=k then m else oo j,by go_num,jf.out,HB9.out,adr.out,fun j y hj hy=>?_⟩,by have:=jf.out;simp[intOf];omega⟩
     dsimp only
     by_cases hjk:j=k
     ·subst hjk
      rw[HX.out] at hy;injection hy with hy;subst hy;rw[ai rfl];exact⟨HNF.out,by have:=Ob.out;omega⟩
     ·rw[ab hjk]
      exact tb.out j y (by omega) hy
   ·have ru:k=st.fns.length:=by omega
    have HKE:=aa ru;clear ru;go_wp2_with fail
    go_ret2
    refine⟨iK.out,.inl ⟨_,oo,rfl,fun j hj=>?_,fun i x hx=>tb.out i x (by have:=(aK.1 hx).1;have:=HKE.out;omega) hx⟩⟩
    rw[(cf HFM.out (j:=j) (by omega)).1]
    rfl
theorem Oc {t:Lt} {st:aI} (h:pd t=.ok st) (hn:t.eE.Nodup) (hw:t.Wf):st.fns.length≤1+t.size∧1≤st.fns.length∧(∀x,st.fns[0]? = some x→x.node=t.loc)∧∀x∈st.fns,x.node∈t.eE∧x.vars.length≤200:=by
 obtain⟨a1,_,_,_⟩:=jE t h hn (AV _) hw;have hk:=lQ t h (fun g x hx=>by
  cases g with
  | zero=>injection hx with hx;subst hx;exact⟨bo _,bo _⟩
  | succ g=>cases hx)
 have h0 :∀x,st.fns[0]? = some x→x.node=t.loc:=fun x hx=>by
  obtain⟨x',h1,h2⟩:=a1.ext.2 0 ⟨t.loc,-1,0,true,[],[]⟩ rfl;rw[h1] at hx;injection hx with hx;subst hx;exact h2.node
 refine⟨hk.fns,hk.least,h0,fun x hx=>?_⟩
 obtain⟨g,hg⟩:=jz.1 hx;refine⟨?_,(hk.few g x hg).1⟩;cases g with
 | zero=>rw[h0 x hg];exact pY t
 | succ g=>exact(a1.new (g+1) x (by show 1≤g+1;omega) hg).1
theorem yN {k:Lt} {j:Nat} (hj:j∈k.eE) :∀{l:List Lt},k∈l→j∈Lt.bh l
 | c::l,hk=>by
  rw[Lt.bh];rcases bc.1 hk with rfl|hk
  ·exact eN _ hj
  ·exact iE _ (yN hj hk)
theorem Od {s t:Lt} (h:lO s t):s.loc∈t.eE:=by
 induction h with
 | self=>exact pY _
 | @down k t hk _ ih =>
  have:=yN ih hk;cases t with
  | mk i h ks=>rw[Lt.eE];exact bO _ this
theorem Gf {T:List Nd} {t:Lt} {x:dr} {n:Nat} (hn:ic T t) (kH:t.hd.kind=18) (hx:x.node=t.loc) (h:NfP t x n):n=x.vars.length+aG t:=by
 obtain⟨s,hs,h1,h2⟩:=h;have key:s=t:=by
  cases hs with
  | self=>rfl
  | @down k _ hk hs' =>
   exfalso;have h3:=yN (Od hs') hk;rw[h1,hx] at h3;have dJ:=hn.nodup;cases t with
   | mk i h ks =>
    rw[Lt.eE,kK] at dJ;exact dJ.1 h3
 rw[h2,key];unfold lo;rw[ab (by omega)]
end Go.Proofs.YtodmcdfeldkocaaGreatDoor
