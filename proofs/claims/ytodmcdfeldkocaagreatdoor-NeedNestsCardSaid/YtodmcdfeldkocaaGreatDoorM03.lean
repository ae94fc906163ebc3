/- Parts of the proof. -/
import Derived.RangeFuncNested
import Derived.RangeFuncBound
import Derived.RangeFuncCalls
import Derived.RangeFuncLeaves
import Derived.Shelf.Abstract
import Derived.OwnWalkIn
import Derived.TacticsInMore
import Derived.LoopNIn
import Derived.LoopIn
import Derived.LaidEql
import Derived.Stop.Asserts
import Derived.RowKitTokens
import Derived.Deep.RegionHeld3
import Derived.Test.YtodmcdfeldkocaaGreatDoorM02
set_option maxHeartbeats 16000000
set_option maxRecDepth 20000
namespace Go.Proofs.YtodmcdfeldkocaaGreatDoor
open Go.RowKit
def Sg (B b:Nat) (nv:Value) (N ub ob:Nat) (st:aI) (r:Option (List dr×Nat)) (w:World) (e:Ending) (w':World):Prop :=
 Below B w w'∧Fr [43,199,225] w w'∧match r with
 | some (F,k)=>e=.returned (.tuple #[.int .i64 (k:Int),.nilIface])∧jI w' B b nv N { st with fns:=F} ub ob
 | none=>e=.returned (.tuple #[.int .i64 0,.iface 60 (.int .i64 12)])
theorem Dl {F:List dr} {f k:Nat} {x:dr} {u:tx} (hx:F[f]? = some x) (h:x.cr.findIdx? (fun y=>decide (y=u))=some k):gE F f u=some (F,k):=by
 unfold gE;simp only[gF hx,h]
theorem Dm {F:List dr} {f:Nat} {x:dr} {u:tx} (hx:F[f]? = some x) (h:x.cr.findIdx? (fun y=>decide (y=u))=none):gE F f u=if 60≤x.cr.length then none else some (F.set f { x with cr:=x.cr++[u]},x.cr.length):=by
 unfold gE;simp only[gF hx,h]
theorem nY {W W':World} {B e s n:Nat} {v:Value} {xs:List Value} (h:W.ownsRow B e s v n xs) (hb:Below W.heap.size W W'):W'.ownsRow B e s v n xs:=rf.row (o:=none) ⟨hb.size,fun k hk _=>hb.block k hk⟩ h fun _ _ e=>by cases e
theorem Me {ops:Array Oper} {o:Oper} {a:Act} {K:Act→World→Prop} {Q:Exit→Act→World→Prop} {E:Prop} (w0 w1:World) (n:tx) (hgd:o.guard=none) (sl y:Operand)
  (ho:o.op=.call { callee:=.builtin .append,args:=#[sl,y],argTypes:=#[41,41]}) (B:Nat) (v:Value) (ns:List tx) (hs:a.eval sl=v) (hown:w0.ownsRow B 225 2 v ns.length (ns.flatMap KH)) (ec :∀(i:Nat),i<w0.heap.size→w1.heap[i]? = w0.heap[i]?) (g:Nat) (hg:g=w0.heap.size) (hy:a.eval y=.slice (some ⟨g,0,none⟩) 1 1)
  (hcell:w1.heap[g]? = some (.cells (KH n).toArray 225 (0,0))) (hlen:ns.length≤1000000) (hB:B≤w0.heap.size) (hle:w0.heap.size≤w1.heap.size) (X6:w1.os=w0.os∧w1.tape=w0.tape∧w1.output=w0.output)
  (h :∀g' c' w',w'.ownsRow B 225 2 (.slice (some ⟨g',0,none⟩) (ns.length+1) c') (ns++[n]).length ((ns++[n]).flatMap KH)→rf v.ownBlock w0 w'→Below B w0 w'→(v.ownBlock=some g'∨w0.heap.size≤g')→K (a.put o.dst (.slice (some ⟨g',0,none⟩) (ns.length+1) c')) w') :
  if Region.wanted o (yielded ops a.tmps)=true then Oper.wp Tryz.prog o a w1 K Q else E:=by
 obtain⟨i0,mJ,hz0,hz1,hz2⟩:=info_parts LS;refine At w0 w1 (KH n) hgd sl y 41 225 i0 _ 2 16 ho Tryz.underlying41 mJ hz0 hz1 hz2 rfl (by omega) (by omega) B v ns.length _ hs hown ec g hg hy hcell rfl (by intro u hu;simp[KH] at hu;rcases hu with rfl|rfl<;>rfl) hlen hB hle X6 ?_
 intro g' c' w' r1 r2 r3 r4;refine h g' c' w' ?_ r2 r3 r4;rw[bY,mT,pT,EN];exact r1
theorem AI {B:Nat} {nv:Value} {N ub ob:Nat} (b f:Nat) (u:tx) (st:aI) (w:World) (hw:jI w B b nv N st ub ob) (hf:f<st.fns.length) (jl:dP st.fns) :
  Calls Tryz.prog 148 #[.pointer (some ⟨b,0,none⟩),.int .i64 (f:Int),.agg #[.bool u.loc,.int .i64 (u.idx:Int)]] w (Sg B b nv N ub ob st (gE st.fns f u) w):=by
 obtain⟨fv,FL,hw⟩:=hw;obtain⟨⟨t1,tv,tu⟩,ht⟩:=hw.Ax hf;obtain⟨g,c,rfl,Yb,re,sY⟩:=hw.fns.form ht;obtain⟨vY,hfn⟩:=hw.sC ht;simp only at vY hfn;obtain⟨UA,uc,huu,Fw,_⟩:=ez (hw.fns.cr _ (aX ht));simp only at huu Fw;subst huu;obtain⟨hbl,ph,sZ⟩:=hw.mQ;have cg:B≤w.heap.size:=aL hw.pos (fu hbl);have sE:=hw.len;have hfL:f<FL.length:=by omega
 have d1:w.cell? ⟨b,1,none⟩=some (.slice (some ⟨g,0,none⟩) FL.length c):=ae hw.blk 1;have e5:w.cell? ⟨g,f*6+5,none⟩=some (.slice UA t1.cr.length uc):=(sY 5 (by omega)).1
 have hup:t1.cr.length≤60:=(jl f t1 vY).2;have Yd:=aa (hw.fns.cr _ (aX ht));simp only at Yd;have HW:=aa hw;have HT:=aa ht;have Wi:=aa vY;clear hw ht vY hfn sY sE jl;go_enter Tryz.func148,Tryz.ntmps148
 go_wp2_with fail
 have ee:=aa ((Below.refl w.heap.size w).alloc (ah _) (.cells #[.bool u.loc,.int .i64 (u.idx:Int)] 225));have x0:=dG w #[.bool u.loc,.int .i64 (u.idx:Int)] 225 0;have x1:=dG w #[.bool u.loc,.int .i64 (u.idx:Int)] 225 1;replace x0:_=some (Value.bool u.loc):=x0;replace x1:_=some (Value.int .i64 (u.idx:Int)):=x1;have e5':=(ee.out.cell (p:=⟨g,f*6+5,none⟩) re).trans e5;have je:=aa (HW.out.alloc (.cells #[.bool u.loc,.int .i64 (u.idx:Int)] 225));have Mf:=aa (nY Yd.out ee.out);have hs1:w.heap.size<(w.alloc (.cells #[.bool u.loc,.int .i64 (u.idx:Int)] 225)).heap.size:=by rw[aq];omega
 generalize w.alloc (.cells #[.bool u.loc,.int .i64 (u.idx:Int)] 225)=W1 at *;clear HW Yd d1 e5;have y0:=cell_regrown x0;have y1:=cell_regrown x1;have y5:=cell_regrown e5';refine wp_region_quiet_below (by kernel_rfl) (by kernel_rfl) ?_
 repeat (first|go_big_quiet_step (first
   | (go_at_call 169;exact Calls.regrown_of (Ic _ t1.cr u _ (nY Mf.out (below_regrown _ _ _)) (by omega)))))
 refine wpQuiet_nil ?_;intro _ hw';obtain⟨⟨dq,osq⟩,hw''⟩:=hw';subst hw'';have oR:=aa (ee.out.trans ((below_regrown W1 dq osq).mono (fu hs1)));have lG:=aa (je.out.later (below_regrown W1 dq osq));have aaT:=aa (nY Mf.out (below_regrown W1 dq osq));have hs2:w.heap.size<(«Sort».grow (redrawn W1 dq) osq).heap.size:=cG hs1 (below_regrown W1 dq osq).size;have x02:=((below_regrown W1 dq osq).cell (p:=⟨w.heap.size,0,none⟩) hs1).trans x0;have x12:=((below_regrown W1 dq osq).cell (p:=⟨w.heap.size,1,none⟩) hs1).trans x1;have e52:=((below_regrown W1 dq osq).cell (p:=⟨g,f*6+5,none⟩) (Nat.lt_trans re hs1)).trans e5';dsimp only
 generalize «Sort».grow (redrawn W1 dq) osq=W2 at *;clear y0 y1 y5 x0 x1 e5' je Mf ee;cases hi:t1.cr.findIdx? (fun y=>decide (y=u)) with
 | some k =>
  have hv:Dk t1.cr u=(k:Int):=by unfold Dk;rw[hi]
  have HE:=aa (Dl Wi.out hi);rw[hv];have g1:decide ((0:Int)≤(k:Int))=true:=bQ (by omega)
  clear hv hi;go_wp2_with fail
  go_ret2
  refine⟨oR.out.mono cg,Fr.af oR.out,?_⟩;rw[HE.out];exact⟨rfl,_,_,lG.out⟩
 | none =>
  have hv:Dk t1.cr u = -1:=by unfold Dk;rw[hi]
  have HE:=aa (Dm Wi.out hi);rw[hv];clear hv hi;by_cases h60:60≤t1.cr.length
  ·have Rt:=aa (HE.out.trans (ai h60))
   have g1:((t1.cr.length:Int) == 60)=true:=wL.2 (by omega)
   go_wp2_with fail
   go_ret2
   refine⟨oR.out.mono cg,Fr.af oR.out,?_⟩;rw[Rt.out];rfl
  ·have Rt:=aa (HE.out.trans (ab h60))
   have g1:((t1.cr.length:Int) == 60)=false:=aC.2 (by omega)
   have hB2:B≤W2.heap.size:=aL cg oR.out.size;have aaU:t1.cr.length≤1000000:=by omega
   have hg2:g<W2.heap.size:=Nat.lt_trans re hs2;obtain⟨g',c',pk,_,_,Am⟩:=lG.out.fns.form HT.out;injection pk with pk _ hcc;injection pk with pk;injection pk with pk _ _;subst pk hcc;have z52:=(Am 5 (by omega)).2
   have HZ:Hid ((W2.alloc (.cells #[.bool u.loc,.int .i64 (u.idx:Int)] 225)).drew.heap[W2.heap.size]? = some (.cells #[.bool u.loc,.int .i64 (u.idx:Int)] 225 (0,0))):=aa (heap_alloc_new W2 _);clear Am;go_wp2_with fail
   go_region_law ((refine Me W2 _ u (by rfl) _ _ (by rfl) B (.slice UA t1.cr.length uc) t1.cr (by rfl) aaT.out (fun i hi=>Below.heap_alloc W2 _ i hi) W2.heap.size rfl (by rfl) HZ.out aaU hB2 (by simp[World.drew]) ⟨rfl,rfl,rfl⟩ ?_;intro g8 c8 w8 r8 b8 Wj n8;have uN:=b8.row lG.out.fns.row (fun k hk e=>ed lG.out.fns.row (lG.out.fns.cr _ (aX HT.out)) (by decide) k hk e);have e58:w8.cell? ⟨g,f*6+5,none⟩=some (.slice UA t1.cr.length uc):=(World.ownsRow.cellAt uN (f*6+5) (by omega)).trans (iy qe FL f 5 _ HT.out (by omega));have z58:=World.ownsRow.frozenAt uN (f*6+5);have R8:=aa r8;have B8:=aa b8;have Ru:=aa Wj;have N8:=aa n8;clear r8 b8 Wj n8 uN))
   all_goals
    have h9:=lG.out.Sb HT.out B8.out R8.out (fun k hk=>by injection hk with hk;subst hk;exact N8.out)
    have Ye:=aa h9.2;have HW9:=aa h9.1;have HB9:=aa (((oR.out.mono cg).trans Ru.out).setCell (p:=⟨g,f*6+5,none⟩) Yb (.slice (some ⟨g8,0,none⟩) (t1.cr.length+1) c8));have k9:=World.cell?_setCell_same' w8 ⟨g,f*6+5,none⟩ (.slice (some ⟨g8,0,none⟩) (t1.cr.length+1) c8) (by rw[e58];rfl)
    clear h9;generalize w8.setCell ⟨g,f*6+5,none⟩ (.slice (some ⟨g8,0,none⟩) (t1.cr.length+1) c8)=W9 at *;clear e58 z58 R8 B8 Ru N8;go_wp2_with fail
    go_ret2
    refine⟨HB9.out,(Fr.af oR.out).trans Ye.out,?_⟩;rw[Rt.out];exact⟨rfl,_,_,HW9.out⟩
theorem Fr.past {E:List Nat} {W W2 X:World} (h:Fr E W W2) (hk :∀k,k<W.heap.size→X.heap[k]? = W2.heap[k]?) (hs:W2.heap.size≤X.heap.size):Fr E W X :=
 ⟨aL h.size hs,fun k c e fz hc he=>(hk k (aO.1 hc).1).trans (h.cells k c e fz hc he),fun k o hc ho=>(hk k (aO.1 hc).1).trans (h.others k o hc ho)⟩
theorem eW.fR {W:World} {B b:Nat} {nv:Value} {N:Nat} {st:aI} {fv:Value} {ub ob:Nat} {L:List nU} (h:eW W B b nv N st fv ub ob L) {r:Nat} (hr:vO W r 140) (hne:r≠ub) (j:Nat) (v:Value):eW (W.setCell ⟨r,j,none⟩ v) B b nv N st fv ub ob L:=by
 have k:Fr [140] W (W.setCell ⟨r,j,none⟩ v):=hr.fr (by decide) j v
 exact⟨k.cells b _ _ _ h.blk (by decide),⟨k.row h.fns.row (by decide),fun t ht=>k.row (h.fns.vars t ht) (by decide),fun t ht=>k.row (h.fns.cr t ht) (by decide),h.fns.qg,h.fns.rA⟩,h.are,(rf.set W r j v).row h.uses (fun g hg e=>hne (by injection hg with hg;injection e with e;exact e.trans hg.symm)),k.row h.vX (by decide),h.pos⟩
theorem jI.fR {W:World} {B b:Nat} {nv:Value} {N:Nat} {st:aI} {ub ob:Nat} (h:jI W B b nv N st ub ob) {r:Nat} (hr:vO W r 140) (hne:r≠ub) (j:Nat) (v:Value):jI (W.setCell ⟨r,j,none⟩ v) B b nv N st ub ob:=by
 obtain⟨fv,L,h⟩:=h;exact⟨fv,L,h.fR hr hne j v⟩
theorem jI.alloc {W:World} {B b:Nat} {nv:Value} {N:Nat} {st:aI} {ub ob:Nat} (h:jI W B b nv N st ub ob) (o:Obj):jI (W.alloc o) B b nv N st ub ob:=by
 obtain⟨fv,L,h⟩:=h;exact⟨fv,L,h.alloc o⟩
theorem yx {W:World} {r:Nat} {x y:Value} {ty:TypeId} (h:W.heap[r]? = some (.cells #[x,y] ty (0,0))) (a c:Value):((W.setCell ⟨r,0,none⟩ a).setCell ⟨r,1,none⟩ c).heap[r]? = some (.cells #[a,c] ty (0,0)):=by
 simpa using bM (bM h 0 a) 1 c
theorem vZ (W:World) (r:Nat) (a c:Value) (k:Nat) (hk:k≠r):((W.setCell ⟨r,0,none⟩ a).setCell ⟨r,1,none⟩ c).heap[k]? = W.heap[k]?:=by
 rw[Below.heap_setCell _ _ _ k hk,Below.heap_setCell _ _ _ k hk]
theorem nh (W:World) (r:Nat) (a c:Value):((W.setCell ⟨r,0,none⟩ a).setCell ⟨r,1,none⟩ c).heap.size=W.heap.size:=by simp[World.setCell]
def fX (n:jw) (F:List dr):List dr:=F.set n.fn (cZ (F.getD n.fn ⟨0,0,0,false,[],[]⟩) n.i)
theorem AJ (x:dr) (i:Nat):cZ (cZ x i) i=cZ x i:=by
 cases h:x.vars[i]? with
 | none =>
  have e:cZ x i=x:=by unfold cZ;rw[h]
  rw[e,e]
 | some v =>
  have hl:=(aK.1 h).1;have e:cZ x i={ x with vars:=x.vars.set i { v with cap:=true}}:=by unfold cZ;rw[h]
  rw[e];unfold cZ;dsimp only
  rw[dS hl];dsimp only
  rw[List.set_set]
theorem Dn (n:jw) (F:List dr):fX n (fX n F)=fX n F:=by
 by_cases h:n.fn<F.length
 ·unfold fX
  have e:(F.set n.fn (cZ (F.getD n.fn ⟨0,0,0,false,[],[]⟩) n.i)).getD n.fn ⟨0,0,0,false,[],[]⟩=cZ (F.getD n.fn ⟨0,0,0,false,[],[]⟩) n.i:=by
   rw[jZ,dS h];rfl
  rw[e,AJ,List.set_set]
 ·have e:fX n F=F:=by unfold fX;rw[EM (by omega)]
  rw[e,e]
theorem AK {n:jw} {F:List dr} {y:dr} (h:F[n.fn]? = some y):ug F (fX n F):=by
 unfold fX;rw[gF h];exact .set h (p7 y n.i)
theorem yy {n:jw} {F:List dr} {y:dr} (hF:CV F) (h:F[n.fn]? = some y):CV (fX n F):=by
 unfold fX;rw[gF h];exact hF.set h (p7 y n.i)
theorem uO {n:jw} {F:List dr} (hF:dP F):dP (fX n F):=by
 unfold fX;exact hF.set ⟨by rw[(rz _ _).1];exact(hF.getD n.fn).1,by rw[(rz _ _).2];exact(hF.getD n.fn).2⟩
theorem ni (n:jw) (F:List dr):(fX n F).length=F.length:=by unfold fX;simp
theorem Sh {F:List dr} {f:Nat} {x:dr} (h:F[f]? = some x) {n:jw} (he:f≠n.fn):(fX n F)[f]? = some x:=by
 unfold fX;rw[fL (fun e=>he e.symm)]
 exact h
def fy (n:jw) (g f:Nat) (F:List dr):Option (List dr×Int×Nat) :=
 if f=n.fn then some (F,2,n.i) else (lK n g (fX n F) f).map fun r=>(r.1,3,r.2)
theorem Ie {n:jw} {g f p:Nat} {F:List dr} {x:dr} (hx:F[f]? = some x) (hp:x.parent=(p:Int)) (he:f≠n.fn):lK n (g+1) (fX n F) f=(fy n g p (fX n F)).bind fun r=>gE r.1 f ⟨decide (r.2.1=2),r.2.2⟩:=by
 rw[lK];simp only[gF (Sh hx he),hp];unfold fy;by_cases h:p=n.fn
 ·subst h
  rw[ai rfl,ai rfl];rfl
 ·rw[ab (by omega),ab h,Dn,gV]
  cases lK n g (fX n F) p with
  | none=>rfl
  | some r=>rfl
theorem Mg {n:jw} {g f:Nat} {F F':List dr} {kd:Int} {i:Nat} (h:fy n g f F=some (F',kd,i)) (hF:CV F) (jl:dP F) (ha:Lp F n.fn f) (hf:f<F.length) (hv :∃y v,F[n.fn]? = some y∧y.vars[n.i]? = some v∧v.name=n.s):ug F F'∧CV F'∧dP F'∧F'.length=F.length:=by
 unfold fy at h;by_cases he:f=n.fn
 ·rw[ai he] at h
  injection h with h;injection h with h _;subst h;exact⟨.refl _,hF,jl,rfl⟩
 ·rw[ab he] at h
  cases hu:lK n g (fX n F) f with
  | none=>rw[hu] at h;cases h
  | some r =>
   obtain⟨F1,k⟩:=r;rw[hu] at h;injection h with h;injection h with h _;have h:F1=F':=h;subst h;obtain⟨y,v,h1,h2,h3⟩:=hv;have hyl:=(aK.1 h1).1;have hG:=AK h1;have hc:(fX n F)[n.fn]? = some (cZ y n.i):=by
    unfold fX;rw[gF h1,dS hyl]
   obtain⟨a1,a2,a3,_⟩:=Fb g hu (yy hF h1) (ha.ext hG) (fun e=>he e.symm) (by rw[ni];exact hf) ⟨cZ y n.i,{ v with cap:=true},hc,by
    unfold cZ;rw[h2];exact dS (aK.1 h2).1,h3,rfl⟩
   obtain⟨b1,b2⟩:=Ap g hu (uO jl);exact⟨hG.trans a1,a2,b1,by rw[a3,ni]⟩
def Mh (B b:Nat) (nv:Value) (N ub ob:Nat) (st:aI) (r:Option (List dr×Int×Nat)) (w:World) (e:Ending) (w':World):Prop :=
 Below B w w'∧Fr [43,199,225] w w'∧match r with
 | some (F,k,i)=>e=.returned (.tuple #[.agg #[.int .i64 k,.int .i64 (i:Int)],.nilIface])∧jI w' B b nv N { st with fns:=F} ub ob
 | none=>e=.returned (.tuple #[.agg #[.int .i64 0,.int .i64 0],.iface 60 (.int .i64 12)])
theorem Mi {B:Nat} {nv:Value} {N ub ob:Nat} (b:Nat) (n:jw) :∀(g f:Nat) (st:aI) (w:World),f<g→jI w B b nv N st ub ob→CV st.fns→dP st.fns→Lp st.fns n.fn f→(∃y v,st.fns[n.fn]? = some y∧y.vars[n.i]? = some v∧v.name=n.s)→f<st.fns.length→st.fns.length≤100000 →
  Calls Tryz.prog 119 #[.pointer (some ⟨b,0,none⟩),.int .i64 (f:Int),.int .i64 (n.fn:Int),.int .i64 (n.i:Int)] w (Mh B b nv N ub ob st (fy n g f st.fns) w):=by
 intro g;induction g with
 | zero=>intro f st w hfg;exact absurd hfg (jA _)
 | succ g ih =>
  intro f st w hfg hw ri jl Dp hv hf Di;by_cases he:f=n.fn
  ·have HE:Hid (fy n (g+1) f st.fns=some (st.fns,2,n.i)):=aa (by unfold fy;rw[ai he])
   have g1:((f:Int) == (n.fn:Int))=true:=wL.2 (by omega)
   obtain⟨fv,FL,hw⟩:=hw;obtain⟨hbl,ph,sZ⟩:=hw.mQ;have cg:B≤w.heap.size:=aL hw.pos (fu hbl);have HW:=aa hw;clear hw Dp hv ih he hfg;go_enter Tryz.func119,Tryz.ntmps119
   go_wp2_with fail
   have k0:=dG w #[.int .i64 2,.int .i64 (n.i:Int)] 140 0;have k1:=dG w #[.int .i64 2,.int .i64 (n.i:Int)] 140 1;replace k0:_=some (Value.int .i64 2):=k0;replace k1:_=some (Value.int .i64 (n.i:Int)):=k1;refine bodyPost_ret (v:=.tuple #[.agg #[.int .i64 2,.int .i64 (n.i:Int)],.nilIface]) (by simp[results,Tryz.results119,go_sem,k0,k1]) rfl ?_
   refine⟨(Below.refl B w).alloc cg _,Fr.alloc _,?_⟩;rw[HE.out];exact⟨rfl,_,_,HW.out.alloc _⟩
  ·have g1:((f:Int) == (n.fn:Int))=false:=aC.2 (by omega)
   obtain⟨fv,FL,hw⟩:=hw;obtain⟨hbl,ph,sZ⟩:=hw.mQ;have cg:B≤w.heap.size:=aL hw.pos (fu hbl);have sE:=hw.len;obtain⟨y,v,hy,hyv,RP⟩:=hv;have acM:=(aK.1 hy).1;obtain⟨⟨t1,tv,tu⟩,ht⟩:=hw.Ax hf;obtain⟨⟨y1,yv,yu⟩,Ig⟩:=hw.Ax acM;obtain⟨vY,_⟩:=hw.sC ht;obtain⟨hys,_⟩:=hw.sC Ig;simp only at vY hys;obtain rfl:y1=y:=by rw[hy] at hys;injection hys with hys;exact hys.symm
   obtain⟨gf,c,rfl,Yb,re,sY⟩:=hw.fns.form ht;obtain⟨g',c',pk,_,_,Am⟩:=hw.fns.form Ig;injection pk with pk _ hcc;injection pk with pk;injection pk with pk _ _;subst pk hcc;have hvl:=(aK.1 hyv).1;obtain⟨VA,vc,Wk,hvc,hvr⟩:=ez (hw.fns.vars _ (aX Ig));simp only at Wk hvc hvr;subst Wk;rcases hvr with h0 | ⟨gv,rfl,acN,hgvl,aaV⟩
   ·omega
   have d1:w.cell? ⟨b,1,none⟩=some (.slice (some ⟨gf,0,none⟩) FL.length c):=ae hw.blk 1;have e4:w.cell? ⟨gf,n.fn*6+4,none⟩=some (.slice (some ⟨gv,0,none⟩) y1.vars.length vc):=(Am 4 (by omega)).1
   have v2:w.cell? ⟨gv,n.i*3+2,none⟩=some (.bool v.cap):=(aaV (n.i*3+2) (by omega)).trans (iy As y1.vars n.i 2 v hyv (by omega))
   have f2:=World.ownsRow.frozenAt (hw.fns.vars _ (aX Ig)) (n.i*3+2);have Si:f≠0:=fun e=>by
    cases Dp with
    | same=>exact he rfl
    | up h1 h2 _ =>
     rcases(ri.each _ _ h1).par with ⟨_,h3⟩ | ⟨q,_,h3⟩
     ·omega
     ·omega
   obtain⟨p,hp,hpf,yp,hyp⟩:=ri.par vY Si;have e1:w.cell? ⟨gf,f*6+1,none⟩=some (.int .i64 (p:Int)):=by rw[←hp];exact(sY 1 (by omega)).1
   have Wl:Lp st.fns n.fn p:=by
    cases Dp with
    | same=>exact absurd rfl he
    | up h1 h2 h3 =>
     rw[vY] at h1;injection h1 with h1;subst h1;rw[hp] at h2;have:=Int.ofNat.inj h2;rw[this];exact h3
   have hHE:fy n (g+1) f st.fns=(lK n (g+1) (fX n st.fns) f).map fun r=>(r.1,3,r.2):=by unfold fy;rw[ab he]
   have HE:=aa (hHE.trans (by rw[Ie vY hp he]))
   have Ay:=hw.cap Ig hyv;have hst:st.oN n.fn (cZ y1 n.i)={ st with fns:=fX n st.fns}:=by unfold aI.oN fX;rw[gF hy]
   rw[hst] at Ay;have acO:=aa Ay;have jd:n.fn<FL.length:=by omega
   have hfL:f<FL.length:=by omega
   have hfl2:FL.length≤100000:=by omega
   have hvl2:y1.vars.length≤200:=(jl n.fn y1 hy).1;have tG:=aa ih;have Ih:=aa ri;have Sj:=aa jl;have HY:=aa hy;have HYV:=aa hyv;have aaW:=aa Wl;have HP:=aa hp;have Wi:=aa vY;have HW:=aa hw;have HK:=aa (Lib.ownsRow_kind (hw.fns.vars _ (aX Ig)) gv rfl);clear hw ih ri jl hy hyv Dp Wl hp vY ht Ig sY Am aaV hHE Ay hst hyp hys sE;go_enter Tryz.func119,Tryz.ntmps119
   go_wp2_with fail
   obtain⟨st1,Yf⟩ :∃s1:aI,s1={ st with fns:=fX n st.fns}:=⟨_,rfl⟩;have Yg:st1.fns=fX n st.fns:=by rw[Yf]
   have je:Hid (jI ((w.setCell ⟨gv,n.i*3+2,none⟩ (.bool true)).alloc (.cells #[.int .i64 0,.int .i64 0] 140)) B b nv N st1 ub ob):=aa (by rw[Yf];exact⟨_,_,acO.out.alloc _⟩)
   have fB:Hid (Fr [43,199,225] w ((w.setCell ⟨gv,n.i*3+2,none⟩ (.bool true)).alloc (.cells #[.int .i64 0,.int .i64 0] 140))):=aa (by obtain⟨cs,fz,h⟩:=HK.out;exact(Fr.set h (by decide) _ _).trans (Fr.alloc _))
   have ee:Hid (Below B w ((w.setCell ⟨gv,n.i*3+2,none⟩ (.bool true)).alloc (.cells #[.int .i64 0,.int .i64 0] 140))):=aa (((Below.refl B w).setCell (p:=⟨gv,n.i*3+2,none⟩) acN _).alloc (by simp;omega) _)
   have HZ1:Hid (((w.setCell ⟨gv,n.i*3+2,none⟩ (.bool true)).alloc (.cells #[.int .i64 0,.int .i64 0] 140)).heap[w.heap.size]? = some (.cells #[.int .i64 0,.int .i64 0] 140 (0,0))):=aa (by have:=heap_alloc_new (w.setCell ⟨gv,n.i*3+2,none⟩ (.bool true)) (.cells #[.int .i64 0,.int .i64 0] 140);simpa using this)
   generalize (w.setCell ⟨gv,n.i*3+2,none⟩ (.bool true)).alloc (.cells #[.int .i64 0,.int .i64 0] 140)=W1 at *;have hG1:ug st.fns st1.fns:=by rw[Yg];exact AK HY.out
   refine(tG.out p st1 W1 (by omega) je.out (by rw[Yg];exact yy Ih.out HY.out) (by rw[Yg];exact uO Sj.out) (aaW.out.ext hG1) ?_ (by rw[Yg,ni];omega) (by rw[Yg,ni];omega)).mono ?_
   ·obtain⟨y',h1,h2⟩:=hG1.2 _ _ HY.out
    obtain⟨v',h3,h4,_⟩:=h2.vars _ _ HYV.out;exact⟨y',v',h1,h3,h4.trans RP⟩
   rw[Yg];cases hM:fy n g p (fX n st.fns) with
   | none =>
    rintro e w2 ⟨b2,f2,rfl⟩;have Rt:Hid (fy n (g+1) f st.fns=none):=aa (by rw[HE.out,hM];rfl)
    have hz2:=f2.cells _ _ _ _ HZ1.out (by decide)
    have hl2:w.heap.size<w2.heap.size:=(aO.1 hz2).1;have y0:=ae hz2 0;have y1:=ae hz2 1;have z0:=aH hz2 0;have z1:=aH hz2 1;replace y0:_=some (Value.int .i64 0):=y0;replace y1:_=some (Value.int .i64 0):=y1;have oR:=aa (ee.out.trans b2);have lV:=aa (fB.out.trans f2);have HZ2:=aa hz2;clear b2 f2 hz2 hM HE;go_wp2_with fail
    have hq:=(Below.heap_alloc ((w2.setCell ⟨w.heap.size,0,none⟩ (.int .i64 0)).setCell ⟨w.heap.size,1,none⟩ (.int .i64 0)) (.cells #[.int .i64 0,.int .i64 0] 140) w.heap.size (by rw[nh];exact hl2)).trans (yx HZ2.out (.int .i64 0) (.int .i64 0))
    have q0:=ae hq 0;have q1:=ae hq 1;replace q0:_=some (Value.int .i64 0):=q0;replace q1:_=some (Value.int .i64 0):=q1;refine bodyPost_ret (v:=.tuple #[.agg #[.int .i64 0,.int .i64 0],.iface 60 (.int .i64 12)]) (by simp[results,Tryz.results119,go_sem,q0,q1]) rfl ?_
    refine⟨((oR.out.setCell (p:=⟨w.heap.size,0,none⟩) cg _).setCell (p:=⟨w.heap.size,1,none⟩) cg _).alloc (by rw[nh];omega) _,lV.out.past (fun k hk=>?_) ?_,?_⟩
    ·exact(Below.heap_alloc _ _ k (by rw[nh];omega)).trans (vZ w2 w.heap.size _ _ k (by omega))
    ·rw[aq,nh];omega
    ·rw[Rt.out]
   | some r =>
    obtain⟨F2,kd,i2⟩:=r;rintro e w2 ⟨b2,f2,rfl,hw2⟩;have Rt:Hid (fy n (g+1) f st.fns=(gE F2 f ⟨decide (kd=2),i2⟩).map fun r=>(r.1,3,r.2)):=aa (by rw[HE.out,hM];rfl)
    have hFL:ug st.fns F2∧dP F2:=by
     obtain⟨y',q1,q2⟩:=hG1.2 _ _ HY.out;obtain⟨v',q3,q4,_⟩:=q2.vars _ _ HYV.out;rw[Yg] at hG1 q1;obtain⟨a1,_,a3,_⟩:=Mg hM (yy Ih.out HY.out) (uO Sj.out) (aaW.out.ext hG1) (by rw[ni];omega) ⟨y',v',q1,q3,q4.trans RP⟩
     exact⟨hG1.trans a1,a3⟩
    have hz2:=f2.cells _ _ _ _ HZ1.out (by decide)
    have hl2:w.heap.size<w2.heap.size:=(aO.1 hz2).1;have HZ3:=aa ((Below.heap_alloc w2 (.cells #[.int .i64 kd,.int .i64 (i2:Int)] 140) w.heap.size hl2).trans hz2);have yz:=aa ((ee.out.trans b2).alloc (by omega) (.cells #[.int .i64 kd,.int .i64 (i2:Int)] 140))
    have Fx:=aa ((fB.out.trans f2).trans (Fr.alloc (.cells #[.int .i64 kd,.int .i64 (i2:Int)] 140)));have g2:(kd == 2)=decide (kd=2):=rfl;obtain⟨st2,Yh⟩ :∃s2:aI,s2={ st1 with fns:=F2}:=⟨_,rfl⟩;rw[←Yh] at hw2;have e2f:st2.fns=F2:=by rw[Yh]
    have Sk:=aa (hw2.alloc (.cells #[.int .i64 kd,.int .i64 (i2:Int)] 140));clear b2 f2 hz2 hM HE hw2;go_wp2_with fail
    have KJ:w.heap.size<(w2.alloc (.cells #[.int .i64 kd,.int .i64 (i2:Int)] 140)).heap.size:=by rw[aq];omega
    have x0:=dG w2 #[.int .i64 kd,.int .i64 (i2:Int)] 140 0;have x1:=dG w2 #[.int .i64 kd,.int .i64 (i2:Int)] 140 1;generalize w2.alloc (.cells #[.int .i64 kd,.int .i64 (i2:Int)] 140)=W3 at *;refine(AI b f ⟨decide (kd=2),i2⟩ st2 W3 Sk.out (by rw[e2f];have:=hFL.1.1;omega) (by rw[e2f];exact hFL.2)).mono ?_
    rw[e2f];cases hU:gE F2 f ⟨decide (kd=2),i2⟩ with
    | none =>
     rintro e w4 ⟨b4,f4,rfl⟩;have HE4:Hid (fy n (g+1) f st.fns=none):=aa (by rw[Rt.out,hU];rfl)
     have CX:=f4.cells _ _ _ _ HZ3.out (by decide)
     have hl4:w.heap.size<w4.heap.size:=(aO.1 CX).1;have y0:=ae CX 0;have y1:=ae CX 1;have z0:=aH CX 0;have z1:=aH CX 1;replace y0:_=some (Value.int .i64 0):=y0;replace y1:_=some (Value.int .i64 0):=y1;have HB4:=aa (yz.out.trans b4);have HF4:=aa (Fx.out.trans f4);have hq:=yx CX (.int .i64 0) (.int .i64 0);have q0:=ae hq 0;have q1:=ae hq 1;replace q0:_=some (Value.int .i64 0):=q0;replace q1:_=some (Value.int .i64 0):=q1;clear b4 f4 CX hU Rt x0 x1 hq;go_wp2_with fail
     refine bodyPost_ret (v:=.tuple #[.agg #[.int .i64 0,.int .i64 0],.iface 60 (.int .i64 12)]) (by simp[results,Tryz.results119,go_sem,q0,q1]) rfl ?_
     refine⟨(HB4.out.setCell (p:=⟨w.heap.size,0,none⟩) cg _).setCell (p:=⟨w.heap.size,1,none⟩) cg _,HF4.out.past (fun k hk=>vZ w4 w.heap.size _ _ k (by omega)) (by rw[nh];omega),?_⟩
     rw[HE4.out]
    | some r =>
     obtain⟨F4,k4⟩:=r;rintro e w4 ⟨b4,f4,rfl,hw4⟩;have HE4:Hid (fy n (g+1) f st.fns=some (F4,3,k4)):=aa (by rw[Rt.out,hU];rfl)
     have CX:=f4.cells _ _ _ _ HZ3.out (by decide)
     have hl4:w.heap.size<w4.heap.size:=(aO.1 CX).1;have y0:=ae CX 0;have y1:=ae CX 1;have z0:=aH CX 0;have z1:=aH CX 1;replace y0:_=some (Value.int .i64 0):=y0;replace y1:_=some (Value.int .i64 0):=y1;have HB4:=aa (yz.out.trans b4);have HF4:=aa (Fx.out.trans f4);have HK4:Hid (vO w4 w.heap.size 140):=aa ⟨_,_,CX⟩;have hq:=yx CX (.int .i64 3) (.int .i64 (k4:Int));have q0:=ae hq 0;have q1:=ae hq 1;replace q0:_=some (Value.int .i64 3):=q0;replace q1:_=some (Value.int .i64 (k4:Int)):=q1;rw[Yh,Yf] at hw4;have HW4:=aa hw4;clear b4 f4 CX hU Rt x0 x1 hq hw4;go_wp2_with fail
     refine bodyPost_ret (v:=.tuple #[.agg #[.int .i64 3,.int .i64 (k4:Int)],.nilIface]) (by simp[results,Tryz.results119,go_sem,q0,q1]) rfl ?_
     refine⟨(HB4.out.setCell (p:=⟨w.heap.size,0,none⟩) cg _).setCell (p:=⟨w.heap.size,1,none⟩) cg _,HF4.out.past (fun k hk=>vZ w4 w.heap.size _ _ k (by omega)) (by rw[nh];omega),?_⟩
     rw[HE4.out];exact⟨rfl,(HW4.out.fR HK4.out (by omega) _ _).fR (HK4.out.set _ _ _) (by omega) _ _⟩
end Go.Proofs.YtodmcdfeldkocaaGreatDoor
namespace Go.Proofs.YtodmcdfeldkocaaGreatDoor
open Go.RowKit Go.Shelf
section
attribute [local go_sem] Oper.semAt_some
def s5:List cR→List (Nat×cR)
 | []=>[]
 | l::r=>(r.length,l)::s5 r
theorem yA :∀L:List cR,(s5 L).length=L.length
 | []=>rfl
 | l::r=>by rw[s5,List.length_cons,List.length_cons,yA r]
theorem Mj :∀(L:List cR) (k:Nat) (l:cR),L[k]? = some l→(s5 L)[k]? = some (L.length-1-k,l)
 | [],_,_,h=>by simp at h
 | x::r,0,l,h=>by
  injection h with h;subst h;rfl
 | x::r,k+1,l,h=>by
  rw[s5,cI,Mj r k l h,List.length_cons];congr 2
  have:=(aK.1 h).1;simp only[List.length_cons] at this;omega
def Sl (x:Nat×cR):Array Value:=#[.int .i64 (x.1:Int),.agg #[.int .i64 (x.2.fn:Int),.map (some x.2.blk)]]
abbrev Sm (L:List cR):={ x:Nat×cR // x∈s5 L}
theorem Yi {L:List cR} {k:Nat} {l:cR} (h:L[k]? = some l) :∃hm,(s5 L).attach[k]? = some ⟨(L.length-1-k,l),hm⟩:=by
 have h1:=Mj L k l h;refine⟨aX h1,?_⟩;obtain⟨h2,h3⟩:=aK.1 h1;rw[bG (by rw[Lg];exact h2),List.getElem_attach]
 congr 1
 exact Subtype.ext h3
set_option maxRecDepth 100000 in
theorem Ml (F:Fence) (n:Nat) (Ii:F.fn 147) (hro:F.round=none) (hn:1≤n) (l Bs n₀ g lc:Nat) (L:List cR) (hlen:L.length≤1000000) (hg:g<n₀) (hB:Bs<n₀) (J Jx:List (Sm L)→World→Prop)
  (hY :∀pre x W,J pre W→pre.length<L.length→YieldAt F (n-1) Tryz.prog l (Sl x.1) W fun e W' =>
   (e=.returned (.bool true)∧J (pre++[x]) W'∧Below n₀ W W')∨(e=.returned (.bool false)∧Jx (pre++[x]) W'))
  (W:World) (Wm:W.cell? ⟨Bs,0,none⟩=some (.slice (some ⟨g,0,none⟩) L.length lc)) (hc :∀k x,L[k]? = some x→W.cell? ⟨g,(L.length-1-k)*2,none⟩=some (.int .i64 (x.fn:Int))∧W.cell? ⟨g,(L.length-1-k)*2+1,none⟩=some (.map (some x.blk))) (h0:J [] W) :
  CallsIn F n Tryz.prog 147 #[.func (.yield l) #[] #[],.pointer (some ⟨Bs,0,none⟩)] W fun e W'=>(∃v,e=.returned v) ∧
   ((∃ys,ys=(s5 L).attach∧J ys W')∨(∃pre,pre <+: (s5 L).attach∧Jx pre W')):=by
 have hwr:=wY hlen;refine callsIn_of_wp Tryz.func147 rfl Ii ?_ hro;simp only[Tryz.ntmps147,EU,List.length_cons,List.length_nil,Nat.reduceAdd,Nat.reduceSub,Lb,Lc,Lk,Lf,kM,dT];gi_wp2
 gi_loopw [3] (fun i wr=>∃(k:Nat) (z:Int),k≤L.length∧i=.int .i64 z∧z=(L.length:Int)-1-k∧J ((s5 L).attach.take k) wr∧Below n₀ W wr)
  (fun i _=>(intOf i+1).toNat)
 case atStart=>exact⟨0,_,bo _,rfl,by omega,h0,Below.refl _ _⟩
 case round =>
  obtain⟨k,z,hk,rfl,hz,hJs,hnx⟩:=hrel;by_cases hlt:k<L.length
  ·obtain⟨x,hx⟩ :∃x,L[k]? = some x:=⟨L[k],bG hlt⟩
   obtain⟨c0,c1⟩:=hc k x hx;obtain⟨i,rfl⟩ :∃i:Nat,z=(i:Int):=⟨L.length-1-k,by omega⟩
   have hi:L.length-1-k=i:=by omega
   rw[hi] at c0 c1;have e0:=(hnx.cell (p:=⟨g,i*2,none⟩) hg).trans c0;have e1:=(hnx.cell (p:=⟨g,i*2+1,none⟩) hg).trans c1;have eb:=(hnx.cell (p:=⟨Bs,0,none⟩) hB).trans Wm;have v7:i<L.length:=by omega
   obtain⟨hm,dU⟩ :∃hm,(s5 L).attach[k]? = some ⟨(i,x),hm⟩:=hi▸Yi hx;obtain⟨fn,tmps,assign,body,hy,hR⟩:=hY _ ⟨(i,x),hm⟩ wr hJs (by rw[j4,Lg,yA];omega)
   dsimp only[Sl] at hy
   have HZ:=aa hz;have hge:decide ((0:Int)≤(i:Int))=true:=bQ (by omega)
   clear hz hi;gi_wp2
   have hz:=HZ.out;refine hR.mono ?_;have XG:(s5 L).attach.take (k+1)=(s5 L).attach.take k++[⟨(i,x),hm⟩]:=lJ _ _ _ dU;rintro e W3 (⟨rfl,hJ3,hk3⟩ | ⟨rfl,acP⟩)
   ·clear hz
    gi_wp2
    have hz:=HZ.out;go_roundw
    case rel=>exact⟨k+1,(i:Int)-1,by omega,by go_num,by omega,by rw[XG];exact hJ3,hnx.trans hk3⟩
    case measure=>simp[intOf]
   ·clear hz
    gi_wp2
    refine bodyPost_ret (results_none rfl _ _ _) rfl ?_;exact⟨⟨_,rfl⟩,.inr ⟨_,by rw[←XG];exact List.take_prefix _ _,acP⟩⟩
  ·obtain rfl:z = -1:=by omega
   have ru:k=L.length:=by omega
   gi_wp2
   go_end0
   exact⟨⟨_,rfl⟩,.inl ⟨_,by rw[tV (by rw[Lg,yA];omega)],hJs⟩⟩
set_option maxRecDepth 100000 in
theorem Ij (F:Fence) (n:Nat) (Ii:F.fn 147) (hro:F.round=none) (l Bs:Nat) (a:Option Addr) (lc:Nat) (J:World→Prop) (W:World) (Wm:W.cell? ⟨Bs,0,none⟩=some (.slice a 0 lc)) (h0:J W) :
  CallsIn F n Tryz.prog 147 #[.func (.yield l) #[] #[],.pointer (some ⟨Bs,0,none⟩)] W fun e W'=>(∃v,e=.returned v)∧J W':=by
 refine callsIn_of_wp Tryz.func147 rfl Ii ?_ hro;simp only[Tryz.ntmps147,EU,List.length_cons,List.length_nil,Nat.reduceAdd,Nat.reduceSub,Lb,Lc,Lk,Lf,kM,dT];gi_wp2
 gi_loopw [3] (fun i wr=>i=.int .i64 (-1)∧J wr) (fun _ _=>0)
 case atStart=>exact⟨rfl,h0⟩
 case round =>
  obtain⟨rfl,hJs⟩:=hrel;gi_wp2
  go_end0
  exact⟨⟨_,rfl⟩,hJs⟩
theorem AM (a:Option Addr) (ln lc:Nat) (w:World) :
  Calls Tryz.prog 118 #[.slice a ln lc] w fun e w'=>e=.returned (.func (.func 147) #[] #[.pointer (some ⟨w.heap.size,0,none⟩)])∧w'=w.alloc (.cells #[.slice a ln lc] 67):=by
 go_enter Tryz.func118,Tryz.ntmps118
 go_wp2
 go_ret
 exact⟨rfl,rfl⟩
theorem Dq (F:Fence) (n:Nat) (Ii:F.fn 147) (hro:F.round=none) (hn:1≤n) (Bs n₀ B:Nat) (v:Value) (L:List cR) (hlen:L.length≤1000000) (w:World) (Wm:Bs<n₀) (aep:n₀≤w.heap.size)
  (hc:w.cell? ⟨Bs,0,none⟩=some v) (hr:w.ownsRow B 194 2 v L.length (L.reverse.flatMap Ft)) (hv :∀g,v.ownBlock=some g→g<n₀) :
  SeqStopsK F n Tryz.prog 147 #[.pointer (some ⟨Bs,0,none⟩)] (fun x:Sm L=>Sl x.1) (Below n₀) (fun ys=>ys=(s5 L).attach) (fun pre=>pre <+: (s5 L).attach) L.length w:=fun l J Jx W hW _ _ hY h0=>by
 have hc':=(hW.cell (p:=⟨Bs,0,none⟩) (by show Bs<_;omega)).trans hc
 obtain⟨A,c,rfl,_,eF⟩:=ez hr;rcases eF with h0' | ⟨g,rfl,Yb,re,sY⟩
 ·have hL:L=[]:=oG h0'
  subst hL;exact(Ij F n Ii hro l Bs A c (J []) W hc' h0).mono fun e W' ⟨he,hj⟩=>⟨he,.inl ⟨_,rfl,hj⟩⟩
 ·refine Ml F n Ii hro hn l Bs n₀ g c L hlen (hv g rfl) Wm J Jx hY W hc' (fun k x hx=>?_) h0
  have hk:=(aK.1 hx).1;have aaX:L.reverse[L.length-1-k]? = some x:=by
   rw[List.getElem?_reverse (by omega),show L.length-1-(L.length-1-k)=k by omega]
   exact hx
  have h2:=iy yw L.reverse (L.length-1-k) 0 x aaX (by omega)
  have h3:=iy yw L.reverse (L.length-1-k) 1 x aaX (by omega)
  exact⟨(hW.cell (p:=⟨g,(L.length-1-k)*2,none⟩) re).trans ((sY _ (by omega)).trans h2),(hW.cell (p:=⟨g,(L.length-1-k)*2+1,none⟩) re).trans ((sY _ (by omega)).trans h3)⟩
end
end Go.Proofs.YtodmcdfeldkocaaGreatDoor
namespace Go.Proofs.YtodmcdfeldkocaaGreatDoor
open Go.RowKit Go.Shelf
section
attribute [local go_sem] Oper.semAt_some
def AN (B b:Nat) (nv:Value) (N ub ob:Nat) (st:aI) (f:Nat) (s:ByteArray) (w:World) (e:Ending) (w':World):Prop :=
 Below B w w'∧Fr [43,199,225] w w'∧match st.names.find? fun n=>decide (n.s=s) with
 | none=>e=.returned (.tuple #[.agg #[.int .i64 0,.int .i64 0],.iface 60 (.int .i64 16)])∧jI w' B b nv N st ub ob
 | some n=>match fy n st.fns.length f st.fns with
  | some (F,k,i)=>e=.returned (.tuple #[.agg #[.int .i64 k,.int .i64 (i:Int)],.nilIface])∧jI w' B b nv N { st with fns:=F} ub ob
  | none=>e=.returned (.tuple #[.agg #[.int .i64 0,.int .i64 0],.iface 60 (.int .i64 12)])
theorem fY {W:World} {o x:Obj} {k:Nat} (h:W.heap[k]? = some x):(W.alloc o).heap[k]? = some x:=(Below.heap_alloc W o k (aO.1 h).1).trans h
theorem rH {W:World} {o:Obj} {n:Nat} (h:W.heap.size=n):(W.alloc o).heap[n]? = some o:=by rw[←h];exact heap_alloc_new W o
theorem Ik (w:World) (o1 o2 o3 o4 o5 o6:Obj) {W:World} (h:((((((w.alloc o1).alloc o2).alloc o3).alloc o4).alloc o5).alloc o6)=W):W.heap.size=w.heap.size+1+1+1+1+1+1∧Below w.heap.size w W∧W.heap[w.heap.size]? = some o1∧W.heap[w.heap.size+1]? = some o2∧W.heap[w.heap.size+1+1]? = some o3∧W.heap[w.heap.size+1+1+1]? = some o4∧W.heap[w.heap.size+1+1+1+1]? = some o5∧W.heap[w.heap.size+1+1+1+1+1]? = some o6:=by
 subst h;refine⟨by rw[aq,aq,aq,aq,aq,aq],(((((((Below.refl _ w).alloc (ah _) _).alloc (by rw[aq];omega) _).alloc (by rw[aq,aq];omega) _).alloc (by rw[aq,aq,aq];omega) _).alloc (by rw[aq,aq,aq,aq];omega) _).alloc (by rw[aq,aq,aq,aq,aq];omega) _),fY (fY (fY (fY (fY (rH rfl))))),fY (fY (fY (fY (rH (by rw[aq]))))),fY (fY (fY (rH (by rw[aq,aq])))),fY (fY (rH (by rw[aq,aq,aq]))),fY (rH (by rw[aq,aq,aq,aq])),rH (by rw[aq,aq,aq,aq,aq])⟩
structure Sn (W W':World):Prop where
 size:W.heap.size≤W'.heap.size
 cells :∀(k:Nat) c (e:TypeId) fz,W.heap[k]? = some (.cells c e fz)→W'.heap[k]? = some (.cells c e fz)
theorem Sn.row {W W':World} {B e s n:Nat} {v:Value} {xs:List Value} (h:Sn W W') (hr:W.ownsRow B e s v n xs):W'.ownsRow B e s v n xs:=by
 refine⟨hr.1,?_⟩;rcases hr.2 with hn | ⟨g,cap,cur,rfl,hB,hg,rest⟩
 ·exact .inl hn
 ·exact .inr ⟨g,cap,cur,rfl,hB,h.cells g _ _ _ hg,rest⟩
theorem jI.ckp {W W':World} {B b:Nat} {nv:Value} {N:Nat} {st:aI} {ub ob:Nat} (h:jI W B b nv N st ub ob) (k:Sn W W'):jI W' B b nv N st ub ob:=by
 obtain⟨fv,L,h⟩:=h;exact⟨fv,L,k.cells b _ _ _ h.blk,⟨k.row h.fns.row,fun t ht=>k.row (h.fns.vars t ht),fun t ht=>k.row (h.fns.cr t ht),h.fns.qg,h.fns.rA⟩,h.are,k.row h.uses,k.row h.vX,h.pos⟩
theorem Sn.of {W W':World} {row:Option Nat} {B:Nat} (hg:W.grownBy W' row) (hr :∀r,row=some r→B≤r∧∃o:Obj,W.heap[r]? = some o∧o.isCells=false):Sn W W' :=
 ⟨hg.size,fun k c e fz hk=>(hg.block k (aO.1 hk).1 fun e'=>by
  obtain⟨_,o,ho,hc⟩:=hr k e'.symm;rw[hk] at ho;injection ho with ho;subst ho;cases hc).trans hk⟩
theorem Mm {E:List Nat} {w W W':World} {row:Option Nat} {B:Nat} (hB:w.heap.size≤B) (h:Fr E w W) (hg:W.grownBy W' row) (hr :∀r,row=some r→B≤r∧∃o:Obj,W.heap[r]? = some o∧o.isCells=false):Fr E w W' :=
 h.past (fun k hk=>hg.block k (by have:=h.size;omega) fun e=>by have:=(hr k e.symm).1;omega) hg.size
theorem wZ {n:Nat} {w W W':World} {row:Option Nat} {B:Nat} (hB:n≤B) (hn:n≤W.heap.size) (h:Below n w W) (hg:W.grownBy W' row) (hr :∀r,row=some r→B≤r∧∃o:Obj,W.heap[r]? = some o∧o.isCells=false):Below n w W' :=
 ⟨hg.os.trans h.os,hg.tape.trans h.tape,hg.output.trans h.output,aL h.size hg.size,fun k hk=>(hg.block k (by omega) fun e=>by have:=(hr k e.symm).1;omega).trans (h.block k hk)⟩
theorem jI.later {W W':World} {B b:Nat} {nv:Value} {N:Nat} {st:aI} {ub ob:Nat} (h:jI W B b nv N st ub ob) (hb:Below W.heap.size W W'):jI W' B b nv N st ub ob:=by
 obtain⟨fv,L,h⟩:=h;exact⟨fv,L,h.later hb⟩
theorem Fy :∀{L:List cR} {x:Nat×cR},x∈s5 L→x.2∈L
 | l::r,x,h=>by
  rw[s5] at h;rcases bc.1 h with rfl|h
  ·exact bP ..
  ·exact bO _ (Fy h)
theorem Fz :∀L:List cR,(s5 L).map (·.2)=L
 | []=>rfl
 | l::r=>by rw[s5,dV,Fz r]
theorem FB (L:List cR):(s5 L).attach.map (fun x=>x.1.2)=L:=by
 have:(s5 L).attach.map (fun x=>x.1.2)=((s5 L).attach.map Subtype.val).map (·.2):=by rw[zY];rfl
 rw[this,List.attach_map_subtype_val,Fz]
theorem Mn {L:List cR} {s:ByteArray} (h :∀y∈(s5 L).attach,jX y.1.2.iz s=none):(mz L).find? (fun n=>decide (n.s=s))=none:=by
 rw[rG];have:L.find? (fun l=>(jX l.iz s).isSome)=none:=by
  rw[zP];intro l hl;have h1:l∈(s5 L).attach.map (fun x=>x.1.2):=by rw[FB];exact hl
  obtain⟨y,hy,e⟩:=jB.1 h1;rw[←e,h y hy];simp
 rw[this];rfl
theorem AO {L:List cR} {s:ByteArray} {pre:List (Sm L)} {x:Sm L} {n:jw} (hp:pre++[x] <+: (s5 L).attach) (h :∀y∈pre,jX y.1.2.iz s=none) (hx:(x.1.2.iz.find? fun n=>decide (n.s=s))=some n):(mz L).find? (fun n=>decide (n.s=s))=some n:=by
 obtain⟨t,ht⟩:=hp;have e:L=(pre.map fun x=>x.1.2)++x.1.2::t.map fun x=>x.1.2:=by
  refine(FB L).symm.trans ?_;rw[←ht];simp
 rw[rG];have:L.find? (fun l=>(jX l.iz s).isSome)=some x.1.2:=by
  refine(aw (List.find? fun l=>(jX l.iz s).isSome) e).trans ?_
  rw[List.find?_append];have h1:(pre.map fun x=>x.1.2).find? (fun l=>(jX l.iz s).isSome)=none:=by
   rw[zP];intro l hl;obtain⟨y,hy,e⟩:=jB.1 hl;rw[←e,h y hy];simp
  rw[h1,Option.none_or,kO];have h2:(jX x.1.2.iz s).isSome=true:=by unfold jX;rw[hx];rfl
  rw[h2]
 rw[this];exact hx
structure Il (W:World) (r q:Nat) (k i:Int) (ev:Value):Prop where
 use:W.heap[r]? = some (.cells #[.int .i64 k,.int .i64 i] 140 (0,0))
 err:W.heap[q]? = some (.cells #[ev] 29 (0,0))
theorem Yj {W:World} {r q:Nat} (hne:r≠q) {x y z:Value} (h4:W.heap[r]? = some (.cells #[x,y] 140 (0,0))) (h5:W.heap[q]? = some (.cells #[z] 29 (0,0))) (k i:Int) (ev:Value):Il (((W.setCell ⟨r,0,none⟩ (.int .i64 k)).setCell ⟨r,1,none⟩ (.int .i64 i)).setCell ⟨q,0,none⟩ ev) r q k i ev :=
 ⟨(Below.heap_setCell _ _ _ r hne).trans (yx h4 _ _),by
  have:=bM ((vZ W r (.int .i64 k) (.int .i64 i) q fun e=>hne e.symm).trans h5) 0 ev
  simpa using this⟩
theorem So (W:World) (r q:Nat) (a c v:Value) (k:Nat) (h1:k≠r) (h2:k≠q):(((W.setCell ⟨r,0,none⟩ a).setCell ⟨r,1,none⟩ c).setCell ⟨q,0,none⟩ v).heap[k]? = W.heap[k]?:=(Below.heap_setCell _ _ _ k h2).trans (vZ W r a c k h1)
theorem Mo (W:World) (r q:Nat) (a c v:Value):(((W.setCell ⟨r,0,none⟩ a).setCell ⟨r,1,none⟩ c).setCell ⟨q,0,none⟩ v).heap.size=W.heap.size:=by simp[World.setCell]
theorem Mp (B:Nat) {E:List Nat} {W W1:World} (h:Fr E W W1) (r q:Nat) (a c v:Value):KeepsFrom B W (((W1.setCell ⟨r,0,none⟩ a).setCell ⟨r,1,none⟩ c).setCell ⟨q,0,none⟩ v) :=
 KeepsFrom.trans (Y:=W1) ⟨h.size,fun k o _ hk ho=>h.others k o hk fun _ _ _ e=>by subst e;cases ho⟩ ((((KeepsOthers.setCell _ _ _).trans (KeepsOthers.setCell _ _ _)).trans (KeepsOthers.setCell _ _ _)).from B)
theorem jI.fr {W W':World} {B b:Nat} {nv:Value} {N:Nat} {st:aI} {ub ob:Nat} {E:List Nat} (h:jI W B b nv N st ub ob) (k:Fr E W W') (he:(64:Nat)∉E∧(43:Nat)∉E∧(199:Nat)∉E∧(225:Nat)∉E∧(140:Nat)∉E∧(3:Nat)∉E):jI W' B b nv N st ub ob:=by
 obtain⟨fv,L,h⟩:=h;exact⟨fv,L,h.fr k he⟩
theorem rs9 {W:World} {B b:Nat} {nv:Value} {N:Nat} {st:aI} {ub ob:Nat} (h:jI W B b nv N st ub ob) {r q:Nat} (hr:vO W r 140) (hq:vO W q 29) (hne:r≠ub) (a c v:Value):jI (((W.setCell ⟨r,0,none⟩ a).setCell ⟨r,1,none⟩ c).setCell ⟨q,0,none⟩ v) B b nv N st ub ob :=
 ((h.fR hr hne _ _).fR (hr.set _ _ _) hne _ _).fr (E:=[29]) (((hq.set _ _ _).set _ _ _).fr (by decide) _ _) (by decide)
def FC (w:World) (B b:Nat) (nv:Value) (N ub ob:Nat) (st:aI) (f:Nat) (s:ByteArray) (L:List cR) (r q:Nat) (pre:List (Sm L)) (W:World):Prop :=
 (∃(pre':List (Sm L)) (x:Sm L) (n:jw),pre=pre'++[x]∧(∀y∈pre',jX y.1.2.iz s=none)∧(x.1.2.iz.find? fun n=>decide (n.s=s))=some n∧match fy n st.fns.length f st.fns with
  | some (F,k,i)=>Il W r q k i .nilIface∧jI W B b nv N { st with fns:=F} ub ob
  | none=>Il W r q 0 0 (.iface 60 (.int .i64 12)))∧Fr [43,199,225] w W∧Below B w W
theorem Il.ckp {W W':World} {r q:Nat} {k i:Int} {ev:Value} (h:Il W r q k i ev) (c:Sn W W'):Il W' r q k i ev:=⟨c.cells _ _ _ _ h.use,c.cells _ _ _ _ h.err⟩
theorem FC.own {w:World} {B b:Nat} {nv:Value} {N ub ob:Nat} {st:aI} {f:Nat} {s:ByteArray} {L:List cR} {r q:Nat} {pre:List (Sm L)} {W W':World} {row:Option Nat} {D:Nat} (hD:w.heap.size≤D) (hB:B≤w.heap.size) (h:FC w B b nv N ub ob st f s L r q pre W) (hg:W.grownBy W' row) (hr :∀r,row=some r→D≤r∧∃o:Obj,W.heap[r]? = some o∧o.isCells=false):FC w B b nv N ub ob st f s L r q pre W':=by
 obtain⟨⟨pre',x,n,h1,h2,h3,h4⟩,h5,h6⟩:=h;have c:=Sn.of hg hr;refine⟨⟨pre',x,n,h1,h2,h3,?_⟩,Mm hD h5 hg hr,wZ (by omega) (by have:=h6.size;omega) h6 hg hr⟩
 cases hR:fy n st.fns.length f st.fns with
 | none=>rw[hR] at h4;exact h4.ckp c
 | some r=>obtain⟨F,k,i⟩:=r;rw[hR] at h4;exact⟨h4.1.ckp c,h4.2.ckp c⟩
set_option maxRecDepth 100000 in
theorem Im {B:Nat} {nv:Value} {N ub ob:Nat} (b f:Nat) (s:ByteArray) (loop:Int) (pa la:Option Addr) (lc:Nat) (L:List cR) (st:aI) (w:World) (hw:jI w B b nv N st ub ob) (hl:df w B (.slice la L.length lc) L) (hn:st.names=mz L) (vP:Cx f st) (jl:dP st.fns) (Di:st.fns.length≤100000) (sE:L.length≤100000) (hs:s.size≤maxLen) :
  Calls Tryz.prog 71 #[.pointer (some ⟨b,0,none⟩),.string s,.agg #[.int .i64 (f:Int),.int .i64 loop,.pointer pa,.slice la L.length lc]] w (AN B b nv N ub ob st f s w):=by
 refine(callsIn_wide (n:=3)).1 ?_;have HW:=aa hw;have HL:=aa hl;have HN:=aa hn;have HCX:=aa vP;have Sj:=aa jl;clear hw hl hn vP jl;refine callsIn_of_wp_marks Tryz.func71 rfl trivial ?_ rfl;simp only[Tryz.ntmps71,EU,List.length_cons,List.length_nil,Nat.reduceAdd,Nat.reduceSub,Lb,Lc,Lk,Lf,kM,dT];gi_wp2_with (first|(refine⟨trivial,?_⟩;gi_at_call 118;refine(callsIn_wide.2 (AM _ _ _ _)).mono ?_;rintro e w' ⟨rfl,rfl⟩)|(gi_at_call 118;refine(callsIn_wide.2 (AM _ _ _ _)).mono ?_;rintro e w' ⟨rfl,rfl⟩))
 obtain⟨W0,hW0⟩ :∃W0,((((((w.alloc (.cells #[.pointer (some ⟨b,0,none⟩)] 93)).alloc (.cells #[.string s] 9)).alloc (.cells #[.int .i64 (f:Int),.int .i64 loop,.pointer pa,.slice la L.length lc] 69)).alloc (.cells #[.int .i64 0,.int .i64 0] 140)).alloc (.cells #[.nilIface] 29)).alloc (.cells #[.slice la L.length lc] 67))=W0:=⟨_,rfl⟩;obtain⟨hsz,hb0,o1,o2,o3,o4,o5,o6⟩:=Ik w _ _ _ _ _ _ hW0;rw[hW0];obtain⟨cg,ph⟩:B≤w.heap.size∧ub<w.heap.size:=by
  obtain⟨_,_,h⟩:=HW.out;exact⟨aL h.pos (fu h.mQ.1),h.mQ.2.1⟩
 have tF:=aa hb0;have qj:=aa hsz;have H1:=aa o1;have H2:=aa o2;have H3:=aa o3;have H4:=aa o4;have H5:=aa o5;have c6:=ae o6 0;clear o1 o2 o3 o4 o5 o6 hW0 hsz hb0;have HR0:=aa (nY HL.out.row tF.out);have hown :∀g,(Value.slice la L.length lc).ownBlock=some g→g<W0.heap.size:=fun g hg=>by
  have h1:=(HR0.out.lt g hg).2;exact h1
 refine wpIn_rangeFunc_ownH (α:=Sm L) rfl (by omega) (gf:=147) (lb:=#[.pointer (some ⟨w.heap.size+1+1+1+1+1,0,none⟩)]) rfl trivial (enters_of Tryz.func147 (by kernel_rfl) rfl)
  (Dq Fence.wide 2 trivial rfl (by omega) (w.heap.size+1+1+1+1+1) W0.heap.size B (.slice la L.length lc) L (by omega) W0 (by rw[qj.out];omega) (ah _) c6 HR0.out hown) belowK_t (belowK_b (ah _)) (Below.refl _ _) (fun _=>rfl)
  (fun pre W=>(∀y∈pre,jX y.1.2.iz s=none)∧Below W0.heap.size W0 W)
  (fun c pre W=>c=.ret∧FC w B b nv N ub ob st f s L (w.heap.size+1+1+1) (w.heap.size+1+1+1+1) pre W)
  (OwnFrom.and (ownFrom_pure _ _) (ownFrom_below (ah _) (ah _)))
  (fun c=>OwnFrom.and (ownFrom_pure _ _) (fun pre W W' row hs hg hr=>hs.own (by rw[qj.out];omega) cg hg hr))
  ⟨fun y hy=>(by cases hy),Below.refl _ _⟩
  (fun x a' W=>∃Bx,W0.heap.size≤Bx∧W.heap[Bx]? = some (.cells #[.int .i64 (x.1.2.fn:Int),.map (some x.1.2.blk)] 194 (0,0))∧a'={ tmps:=#[.pointer (some ⟨b,0,none⟩),.string s,.agg #[.int .i64 (f:Int),.int .i64 loop,.pointer pa,.slice la L.length lc],.pointer (some ⟨w.heap.size,0,none⟩),.pointer (some ⟨w.heap.size+1,0,none⟩),.pointer (some ⟨w.heap.size+1+1,0,none⟩),.pointer (some ⟨w.heap.size+1+1+1,0,none⟩),.pointer (some ⟨w.heap.size+1+1+1+1,0,none⟩),undef,.pointer (some ⟨Bx,0,none⟩),undef,undef,.pointer (some ⟨w.heap.size+1+1,3,none⟩),.slice la L.length lc,.func (.func 147) #[] #[.pointer (some ⟨w.heap.size+1+1+1+1+1,0,none⟩)],.int .i64 (x.1.1:Int),.agg #[.int .i64 (x.1.2.fn:Int),.map (some x.1.2.blk)],undef,undef,undef,undef,undef,undef,undef,undef,undef,undef,undef,undef,undef,undef,undef,undef,undef,undef,undef],defers:=[]})
  (fun x a' pre W W' row hs hg hr=>by
   obtain⟨Bx,h1,h2,h3⟩:=hs;exact⟨Bx,h1,(Sn.of hg hr).cells _ _ _ _ h2,h3⟩) ?assign ?body ?done ?stop
 case assign =>
  rintro l pre ⟨⟨i,y⟩,hm⟩ W K ⟨hp,hb⟩ hK;dsimp only[Sl]
  gi_wp2
  exact hK _ _ ((KeepsOthers.alloc _ _).from _) ((Below.refl _ W).alloc hb.size _) ⟨hp,hb.alloc hb.size _⟩ ⟨W.heap.size,hb.size,heap_alloc_new _ _,rfl⟩
 case body =>
  rintro l pre ⟨⟨i,y⟩,hm⟩ a' W hl' ⟨r,hr⟩ ⟨hp,hb⟩ ⟨Bx,hBx,eM,rfl⟩ hlt;have hy:=Fy hm;dsimp only
  have pj:=tF.out.trans (hb.mono (by rw[qj.out];omega))
  obtain⟨hmp,hmB⟩:=HL.out.maps y hy;have hmw:dL Tryz.prog 9 W y.blk y.iz.length (jX y.iz):=hmp.same (pj.block _ hmp.lt);have hrun:=hmw.look (t:=192) (e:=3) Tryz.underlying9 Tryz.underlying192 (z:=.int .i64 0) (by kernel_rfl) rfl s hs
  have y0:=ae eM 0;have y1:=ae eM 1;replace y0:_=some (Value.int .i64 (y.fn:Int)):=y0;replace y1:_=some (Value.map (some y.blk)):=y1;have q1:=(hb.block _ (by rw[qj.out];omega)).trans H1.out
  have q2:=(hb.block _ (by rw[qj.out];omega)).trans H2.out
  have q3:=(hb.block _ (by rw[qj.out];omega)).trans H3.out
  have q4:=(hb.block _ (by rw[qj.out];omega)).trans H4.out
  have q5:=(hb.block _ (by rw[qj.out];omega)).trans H5.out
  have d1:=ae q1 0;have d2:=ae q2 0;have d3:=ae q3 0;replace d1:_=some (Value.pointer (some ⟨b,0,none⟩)):=d1;replace d2:_=some (Value.string s):=d2;replace d3:_=some (Value.int .i64 (f:Int)):=d3;have HP:=aa hp;have ur:=aa hb;have iK:=aa pj;have HYL:=aa hy;have Q4:=aa q4;have Q5:=aa q5;have HLR:=aa hr;clear hp hb pj hmp hmB hmw q1 q2 q3 q4 q5 eM hr;cases rI:jX y.iz s with
  | none =>
   rw[rI] at hrun;replace hrun:_=Result.ok (Value.tuple #[.int .i64 0,.bool false]) W:=hrun;gi_wp2
   refine⟨KeepsFrom.refl _ _,Below.refl _ _,?_,ur.out⟩;intro a2 b2 hm2 hz;rcases dd.1 hz with hz|hz
   ·exact HP.out _ hz
   ·rw[bK] at hz
    injection hz with hz;injection hz with _ hz;rw[hz];exact rI
  | some v =>
   obtain⟨n,xc,uP⟩ :∃n,(y.iz.find? fun n=>decide (n.s=s))=some n∧v=.int .i64 (n.i:Int):=by
    unfold jX at rI;cases e:y.iz.find? fun n=>decide (n.s=s) with
    | none=>rw[e] at rI;cases rI
    | some n=>rw[e] at rI;injection rI with rI;exact⟨n,rfl,rI.symm⟩
   subst uP;rw[rI] at hrun;replace hrun:_=Result.ok (Value.tuple #[.int .i64 (n.i:Int),.bool true]) W:=hrun;have Ro:n∈y.iz:=KW xc;have hfn:=HL.out.own y HYL.out n Ro;rw[←hfn] at y0;have vQ:n∈st.names:=by
    rw[HN.out];exact tX.2 ⟨y,HYL.out,Ro⟩
   have HNN:=aa vQ;have KK:=aa xc;have HSEG:=aa rI;clear vQ xc rI Ro hfn;have je:=aa (HW.out.later iK.out);obtain⟨Dp,yf,vf,hyf,hvf,RP⟩:=HCX.out.names n HNN.out;have HLD:=aa (Mi b n st.fns.length f st W HCX.out.lt je.out HCX.out.ok Sj.out Dp ⟨yf,vf,hyf,hvf,RP⟩ HCX.out.lt Di);have q4:=Q4.out;have q5:=Q5.out;gi_wp2_with fail
   refine⟨trivial,(CallsIn.inRound l (callsIn_wide.2 HLD.out)).mono ?_⟩;rintro e w1 ⟨b1,f1,h1⟩;have q4':=f1.cells _ _ _ _ q4 (by decide)
   have q5':=f1.cells _ _ _ _ q5 (by decide)
   have r0:=ae q4' 0;have r1:=ae q4' 1;have r2:=ae q5' 0;have z0:=aH q4' 0;have z1:=aH q4' 1;have z2:=aH q5' 0;replace r0:_=some (Value.int .i64 0):=r0;replace r1:_=some (Value.int .i64 0):=r1;replace r2:_=some Value.nilIface:=r2;have fB:=aa f1;have ee:=aa b1;have Q4':=aa q4';have Q5':=aa q5';clear b1 f1 q4 q5 q4' q5' hyf hvf Dp RP;cases hR:fy n st.fns.length f st.fns with
   | none =>
    rw[hR] at h1;subst h1;have HR:=aa hR;clear hR;gi_wp2
    refine⟨Mp _ fB.out _ _ _ _ _,rfl,⟨pre,⟨(i,y),hm⟩,n,rfl,HP.out,KK.out,?_⟩,((Fr.af iK.out).trans fB.out).past (fun k hk=>So _ _ _ _ _ _ k (by omega) (by omega)) (by rw[Mo];exact ah _),((((iK.out.mono cg).trans ee.out).setCell (p:=⟨w.heap.size+1+1+1,0,none⟩) (by show B≤w.heap.size+1+1+1;omega) _).setCell (p:=⟨w.heap.size+1+1+1,1,none⟩) (by show B≤w.heap.size+1+1+1;omega) _).setCell (p:=⟨w.heap.size+1+1+1+1,0,none⟩) (by show B≤w.heap.size+1+1+1+1;omega) _⟩
    rw[HR.out];exact Yj (by omega) Q4'.out Q5'.out 0 0 _
   | some r =>
    obtain⟨F1,k1,i1⟩:=r;rw[hR] at h1;obtain⟨rfl,ec⟩:=h1;have HR:=aa hR;have lG:=aa ec;clear hR ec;gi_wp2
    refine⟨Mp _ fB.out _ _ _ _ _,rfl,⟨pre,⟨(i,y),hm⟩,n,rfl,HP.out,KK.out,?_⟩,((Fr.af iK.out).trans fB.out).past (fun k hk=>So _ _ _ _ _ _ k (by omega) (by omega)) (by rw[Mo];exact ah _),((((iK.out.mono cg).trans ee.out).setCell (p:=⟨w.heap.size+1+1+1,0,none⟩) (by show B≤w.heap.size+1+1+1;omega) _).setCell (p:=⟨w.heap.size+1+1+1,1,none⟩) (by show B≤w.heap.size+1+1+1;omega) _).setCell (p:=⟨w.heap.size+1+1+1+1,0,none⟩) (by show B≤w.heap.size+1+1+1+1;omega) _⟩
    rw[HR.out];exact⟨Yj (by omega) Q4'.out Q5'.out k1 i1 _,rs9 lG.out ⟨_,_,Q4'.out⟩ ⟨_,_,Q5'.out⟩ (by omega) _ _ _⟩
 case done =>
  rintro D ys W hD rfl ⟨hp,hb⟩ hK;have q4:=(hb.block _ (by rw[qj.out];omega)).trans H4.out
  have q5:=(hb.block _ (by rw[qj.out];omega)).trans H5.out
  have r0:=ae q4 0;have r1:=ae q4 1;have r2:=ae q5 0;have z0:=aH q4 0;have z1:=aH q4 1;have z2:=aH q5 0;replace r0:_=some (Value.int .i64 0):=r0;replace r1:_=some (Value.int .i64 0):=r1;replace r2:_=some Value.nilIface:=r2;have iK:=aa (tF.out.trans (hb.mono (by rw[qj.out];omega)))
  have HDN:Hid ((mz L).find? (fun n=>decide (n.s=s))=none):=aa (Mn hp)
  have acQ:=aa (Yj (W:=W) (r:=w.heap.size+1+1+1) (q:=w.heap.size+1+1+1+1) (by omega) q4 q5 0 0 (.iface 60 (.int .i64 16)))
  have K4:Hid (vO W (w.heap.size+1+1+1) 140):=aa ⟨_,_,q4⟩;have K5:Hid (vO W (w.heap.size+1+1+1+1) 29):=aa ⟨_,_,q5⟩;clear q4 q5 hp hb;gi_wp2
  have hK':=(So W (w.heap.size+1+1+1) (w.heap.size+1+1+1+1) (.int .i64 0) (.int .i64 0) (.iface 60 (.int .i64 16)) D (by rw[qj.out] at hD;omega) (by rw[qj.out] at hD;omega)).trans hK
  have hR9:=rs9 (HW.out.later iK.out) K4.out K5.out (by omega) (.int .i64 0) (.int .i64 0) (.iface 60 (.int .i64 16))
  have hF9:Fr [43,199,225] w (((W.setCell ⟨w.heap.size+1+1+1,0,none⟩ (.int .i64 0)).setCell ⟨w.heap.size+1+1+1,1,none⟩ (.int .i64 0)).setCell ⟨w.heap.size+1+1+1+1,0,none⟩ (.iface 60 (.int .i64 16))):=(Fr.af iK.out).past (fun k hk=>So _ _ _ _ _ _ k (by omega) (by omega)) (by rw[Mo];exact ah _)
  have hB9:Below B w (((W.setCell ⟨w.heap.size+1+1+1,0,none⟩ (.int .i64 0)).setCell ⟨w.heap.size+1+1+1,1,none⟩ (.int .i64 0)).setCell ⟨w.heap.size+1+1+1+1,0,none⟩ (.iface 60 (.int .i64 16))):=(((iK.out.mono cg).setCell (p:=⟨w.heap.size+1+1+1,0,none⟩) (by show B≤w.heap.size+1+1+1;omega) _).setCell (p:=⟨w.heap.size+1+1+1,1,none⟩) (by show B≤w.heap.size+1+1+1;omega) _).setCell (p:=⟨w.heap.size+1+1+1+1,0,none⟩) (by show B≤w.heap.size+1+1+1+1;omega) _
  have hO9:=acQ.out;generalize ((W.setCell ⟨w.heap.size+1+1+1,0,none⟩ (.int .i64 0)).setCell ⟨w.heap.size+1+1+1,1,none⟩ (.int .i64 0)).setCell ⟨w.heap.size+1+1+1+1,0,none⟩ (.iface 60 (.int .i64 16))=W9 at *;refine⟨by simp,.inl ⟨_,_,rfl,run_takeDeferred hK',?_⟩⟩
  have hgr:=grownBy_putObj' W9 D (.deferred none);have Yk :∀r,some D=some r→W0.heap.size≤r∧∃o:Obj,W9.heap[r]? = some o∧o.isCells=false:=fun r e=>by injection e with e;subst e;exact⟨hD,_,hK',rfl⟩
  have hC:=Sn.of hgr Yk;have hO:=hO9.ckp hC;have k0:=ae hO.use 0;have k1:=ae hO.use 1;have k2:=ae hO.err 0;replace k0:_=some (Value.int .i64 0):=k0;replace k1:_=some (Value.int .i64 0):=k1;replace k2:_=some (Value.iface 60 (.int .i64 16)):=k2;refine⟨.tuple #[.agg #[.int .i64 0,.int .i64 0],.iface 60 (.int .i64 16)],?_,wZ (by rw[qj.out];omega) (by have:=hB9.size;omega) hB9 hgr Yk,Mm (by rw[qj.out];omega) hF9 hgr Yk,?_⟩
  ·simp[results,Tryz.results71,go_sem,k0,k1,k2]
  ·rw[HN.out,HDN.out]
   exact⟨rfl,hR9.ckp hC⟩
 case stop =>
  rintro D c pre W hD kY ⟨rfl,hz⟩ hK;have HZ:=aa hz;have acR:=aa kY;clear hz kY;gi_wp2
  refine⟨by simp,.inl ⟨_,_,rfl,run_takeDeferred hK,?_⟩⟩
  have hgr:=grownBy_putObj' W D (.deferred none);have Yk :∀r,some D=some r→W0.heap.size≤r∧∃o:Obj,W.heap[r]? = some o∧o.isCells=false:=fun r e=>by injection e with e;subst e;exact⟨hD,_,hK,rfl⟩
  obtain⟨⟨pre',x,n,rfl,h2,h3,h4⟩,h5,h6⟩:=HZ.out.own (by rw[qj.out];omega) cg hgr Yk
  have Di:st.names.find? (fun n=>decide (n.s=s))=some n:=by rw[HN.out];exact AO acR.out h2 h3
  cases hR:fy n st.fns.length f st.fns with
  | none =>
   rw[hR] at h4;have k0:=ae h4.use 0;have k1:=ae h4.use 1;have k2:=ae h4.err 0;replace k0:_=some (Value.int .i64 0):=k0;replace k1:_=some (Value.int .i64 0):=k1;replace k2:_=some (Value.iface 60 (.int .i64 12)):=k2;refine⟨.tuple #[.agg #[.int .i64 0,.int .i64 0],.iface 60 (.int .i64 12)],?_,h6,h5,?_⟩
   ·simp[results,Tryz.results71,go_sem,k0,k1,k2]
   ·rw[Di]
    simp only[hR]
  | some r =>
   obtain⟨F1,kd,i1⟩:=r;rw[hR] at h4;obtain⟨h4,h7⟩:=h4;have k0:=ae h4.use 0;have k1:=ae h4.use 1;have k2:=ae h4.err 0;replace k0:_=some (Value.int .i64 kd):=k0;replace k1:_=some (Value.int .i64 (i1:Int)):=k1;replace k2:_=some Value.nilIface:=k2;refine⟨.tuple #[.agg #[.int .i64 kd,.int .i64 (i1:Int)],.nilIface],?_,h6,h5,?_⟩
   ·simp[results,Tryz.results71,go_sem,k0,k1,k2]
   ·rw[Di]
    simp only[hR];exact⟨trivial,h7⟩
end
end Go.Proofs.YtodmcdfeldkocaaGreatDoor
namespace Go.Proofs.YtodmcdfeldkocaaGreatDoor
open Go.RowKit Go.Extern.Stop Go.Stop Go.Extern
theorem FD (v:Value) (w:World):(Extern.ReflectliteType.typeOf #[.iface 60 v]).run Tryz.prog w=.ok (.iface 158 (.agg #[.pointer (some ⟨4,60,none⟩)])) w:=by kernel_rfl
theorem j7 (v:Value) (w:World):(Go.method 392 158 v "Comparable").run Tryz.prog w=.ok (244,v) w:=by kernel_rfl
theorem aaY (v:Value) (xT:TypeId) (w:World):(Instr.typeAssert (.iface 60 v) xT 169 true).run Tryz.prog w=.ok (.tuple #[.nilIface,.bool false]) w:=run_typeAssert_lacksB Tryz.underlying169 (by kernel_rfl) (by kernel_rfl) v xT w
theorem Io (v:Value) (xT:TypeId) (w:World):(Instr.typeAssert (.iface 60 v) xT 165 true).run Tryz.prog w=.ok (.tuple #[.nilIface,.bool false]) w:=run_typeAssert_lacksB Tryz.underlying165 (by kernel_rfl) (by kernel_rfl) v xT w
theorem Dr (v:Value) (xT:TypeId) (w:World):(Instr.typeAssert (.iface 60 v) xT 166 true).run Tryz.prog w=.ok (.tuple #[.nilIface,.bool false]) w:=run_typeAssert_lacksB Tryz.underlying166 (by kernel_rfl) (by kernel_rfl) v xT w
theorem zEq (w:World):(binOp .eql 29 (.iface 60 (.int .i64 16)) (.iface 60 (.int .i64 16))).run Tryz.prog w=.ok (.bool true) w:=by kernel_rfl
theorem zNe (w:World):(binOp .eql 29 (.iface 60 (.int .i64 12)) (.iface 60 (.int .i64 16))).run Tryz.prog w=.ok (.bool false) w:=by kernel_rfl
theorem sF (w:World):((Extern.ReflectliteType.method fun t=>do Rtype.noPackHeld "Comparable" t;(fun a=>Value.bool a.comparable) <$> typeInfo t) #[.agg #[.pointer (some ⟨4,60,none⟩)]]).run Tryz.prog w=.ok (.bool true) w:=by kernel_rfl
theorem acS (w:World):(binOp .eql 29 .nilIface (.iface 60 (.int .i64 16))).run Tryz.prog w=.ok (.bool false) w:=by kernel_rfl
theorem aaZ (w:World):(binOp .eql 29 (.iface 60 (.int .i64 16)) .nilIface).run Tryz.prog w=.ok (.bool false) w:=by kernel_rfl
theorem FE (w:World) :
  Calls Tryz.prog 21 #[.nilIface,.iface 60 (.int .i64 16)] w fun e w'=>e=.returned (.bool false)∧w=w':=by
 have e1:=acS;have e2:=aaZ;go_enter Tryz.func21,Tryz.ntmps21
 go_wp2
 go_ret
 exact⟨rfl,rfl⟩
theorem FG (w:World) :
  Calls Tryz.prog 21 #[.iface 60 (.int .i64 16),.iface 60 (.int .i64 16)] w fun e w'=>e=.returned (.bool true)∧w=w':=by
 have h41:=@run_callFunc_extern Tryz.prog 44 _ Extern.ReflectliteType.typeOf Tryz.func44 (by kernel_rfl) (by kernel_rfl) (by kernel_rfl) (by kernel_rfl)
 have Yl:=@run_callFunc_extern Tryz.prog 244 _ (Extern.ReflectliteType.method fun t=>do Rtype.noPackHeld "Comparable" t;pure (.bool (←typeInfo t).comparable)) Tryz.func244 (by kernel_rfl) (by kernel_rfl) (by kernel_rfl) (by kernel_rfl)
 have tT:=FD;have cT:=sF;have mR:=j7;have e5:=zEq;go_enter Tryz.func21,Tryz.ntmps21
 go_wp2
 refine wp_loop_rounds 1 ?_;rw[rounds_succ];go_wp2
 go_ret
 exact⟨rfl,rfl⟩
theorem FH (w:World) :
  Calls Tryz.prog 21 #[.iface 60 (.int .i64 12),.iface 60 (.int .i64 16)] w fun e w'=>e=.returned (.bool false)∧w=w':=by
 have h41:=@run_callFunc_extern Tryz.prog 44 _ Extern.ReflectliteType.typeOf Tryz.func44 (by kernel_rfl) (by kernel_rfl) (by kernel_rfl) (by kernel_rfl)
 have Yl:=@run_callFunc_extern Tryz.prog 244 _ (Extern.ReflectliteType.method fun t=>do Rtype.noPackHeld "Comparable" t;pure (.bool (←typeInfo t).comparable)) Tryz.func244 (by kernel_rfl) (by kernel_rfl) (by kernel_rfl) (by kernel_rfl)
 have tT:=FD;have cT:=sF;have mR:=j7;have nE:=aaY;have uE:=Io;have vE:=Dr;have e5:=zNe;go_enter Tryz.func21,Tryz.ntmps21
 go_wp2
 refine wp_loop_rounds 1 ?_;rw[rounds_succ];go_wp2
 go_ret
 exact⟨rfl,rfl⟩
end Go.Proofs.YtodmcdfeldkocaaGreatDoor
namespace Go.Proofs.YtodmcdfeldkocaaGreatDoor
open Go.RowKit
theorem Sp {W:World} {bk o:Nat} {x:Nd} {nv kv:Value} (h:lP W bk o x nv kv):W.cell? ⟨bk,o+4,none⟩=some (.string x.s):=h.c4
theorem kZ {W:World} {b bk j p N ub ob f c o:Nat} {fv:Value} {s:ByteArray} {loop:Int} {pa la:Option Addr} {ln lc:Nat} (hb:W.heap[b]? = some (.cells #[.slice (some ⟨bk,o,none⟩) N c,fv,.slice (some ⟨ub,0,none⟩) N N,.slice (some ⟨ob,0,none⟩) N N] 64 (0,0))) (hd:W.cell? ⟨bk,j,none⟩=some (.string s)) (hx:W.heap[p]? = some (.cells #[.int .i64 (f:Int),.int .i64 loop,.pointer pa,.slice la ln lc] 69 (0,0))) :
  W.cell? ⟨b,0,none⟩=some (.slice (some ⟨bk,o,none⟩) N c)∧W.cell? ⟨bk,j,none⟩=some (.string s)∧W.cell? ⟨p,0,none⟩=some (.int .i64 (f:Int))∧W.cell? ⟨p,1,none⟩=some (.int .i64 loop)∧W.cell? ⟨p,2,none⟩=some (.pointer pa)∧W.cell? ⟨p,3,none⟩=some (.slice la ln lc) :=
 ⟨ae hb 0,hd,ae hx 0,ae hx 1,ae hx 2,ae hx 3⟩
def Sq (B b:Nat) (nv:Value) (N ub ob:Nat) (st2:aI) (known:Bool) (k i:Int) (ev:Value) (w:World) (e:Ending) (w':World):Prop :=
 e=.returned (.tuple #[.agg #[.int .i64 k,.int .i64 i],ev])∧Below B w w'∧Fr [43,199,225] w w'∧(known=true→jI w' B b nv N st2 ub ob)
theorem qk {W:World} {b bk j p N f c o:Nat} {s:ByteArray} {loop:Int} {pa la:Option Addr} {ln lc:Nat} (h:W.cell? ⟨b,0,none⟩=some (.slice (some ⟨bk,o,none⟩) N c)∧W.cell? ⟨bk,j,none⟩=some (.string s)∧W.cell? ⟨p,0,none⟩=some (.int .i64 (f:Int))∧W.cell? ⟨p,1,none⟩=some (.int .i64 loop)∧W.cell? ⟨p,2,none⟩=some (.pointer pa)∧W.cell? ⟨p,3,none⟩=some (.slice la ln lc)) (hb:b<W.heap.size) (hk:bk<W.heap.size) (hp:p<W.heap.size) (ob:Obj) :
  (W.alloc ob).cell? ⟨b,0,none⟩=some (.slice (some ⟨bk,o,none⟩) N c)∧(W.alloc ob).cell? ⟨bk,j,none⟩=some (.string s)∧(W.alloc ob).cell? ⟨p,0,none⟩=some (.int .i64 (f:Int))∧(W.alloc ob).cell? ⟨p,1,none⟩=some (.int .i64 loop)∧(W.alloc ob).cell? ⟨p,2,none⟩=some (.pointer pa)∧(W.alloc ob).cell? ⟨p,3,none⟩=some (.slice la ln lc):=by
 have hB:=(Below.refl W.heap.size W).alloc (ah _) ob;exact⟨(hB.cell (p:=⟨b,0,none⟩) hb).trans h.1,(hB.cell (p:=⟨bk,j,none⟩) hk).trans h.2.1,(hB.cell (p:=⟨p,0,none⟩) hp).trans h.2.2.1,(hB.cell (p:=⟨p,1,none⟩) hp).trans h.2.2.2.1,(hB.cell (p:=⟨p,2,none⟩) hp).trans h.2.2.2.2.1,(hB.cell (p:=⟨p,3,none⟩) hp).trans h.2.2.2.2.2⟩
theorem yB {W:World} {b bk j p N f c o r:Nat} {s:ByteArray} {loop:Int} {pa la:Option Addr} {ln lc:Nat} (h:W.cell? ⟨b,0,none⟩=some (.slice (some ⟨bk,o,none⟩) N c)∧W.cell? ⟨bk,j,none⟩=some (.string s)∧W.cell? ⟨p,0,none⟩=some (.int .i64 (f:Int))∧W.cell? ⟨p,1,none⟩=some (.int .i64 loop)∧W.cell? ⟨p,2,none⟩=some (.pointer pa)∧W.cell? ⟨p,3,none⟩=some (.slice la ln lc)) (hb:b≠r) (hk:bk≠r) (hp:p≠r) (u v:Value) :
  ((W.setCell ⟨r,0,none⟩ u).setCell ⟨r,1,none⟩ v).cell? ⟨b,0,none⟩=some (.slice (some ⟨bk,o,none⟩) N c)∧((W.setCell ⟨r,0,none⟩ u).setCell ⟨r,1,none⟩ v).cell? ⟨bk,j,none⟩=some (.string s)∧((W.setCell ⟨r,0,none⟩ u).setCell ⟨r,1,none⟩ v).cell? ⟨p,0,none⟩=some (.int .i64 (f:Int))∧((W.setCell ⟨r,0,none⟩ u).setCell ⟨r,1,none⟩ v).cell? ⟨p,1,none⟩=some (.int .i64 loop)∧((W.setCell ⟨r,0,none⟩ u).setCell ⟨r,1,none⟩ v).cell? ⟨p,2,none⟩=some (.pointer pa)∧((W.setCell ⟨r,0,none⟩ u).setCell ⟨r,1,none⟩ v).cell? ⟨p,3,none⟩=some (.slice la ln lc):=by
 have key :∀a:Addr,a.block≠r→((W.setCell ⟨r,0,none⟩ u).setCell ⟨r,1,none⟩ v).cell? a=W.cell? a:=fun a ha=>World.cell?_of_block (vZ W r u v a.block ha)
 exact⟨(key ⟨b,0,none⟩ hb).trans h.1,(key ⟨bk,j,none⟩ hk).trans h.2.1,(key ⟨p,0,none⟩ hp).trans h.2.2.1,(key ⟨p,1,none⟩ hp).trans h.2.2.2.1,(key ⟨p,2,none⟩ hp).trans h.2.2.2.2.1,(key ⟨p,3,none⟩ hp).trans h.2.2.2.2.2⟩
structure NQ (w:World) (B b:Nat) (nv:Value) (N ub ob:Nat) (st2:aI) (known:Bool) (k i:Int) (W:World) (g:Nat):Prop where
 below:Below B w W
 fr:Fr [43,199,225] w W
 rs:known=true→jI W B b nv N st2 ub ob
 use:W.heap[g]? = some (.cells #[.int .i64 k,.int .i64 i] 140 (0,0))
 new:w.heap.size≤g
theorem Ym {B:Nat} {w W1 w2:World} {b:Nat} {nv:Value} {N ub ob:Nat} {st2:aI} {known:Bool} {k i:Int} (cg:B≤w.heap.size) (b2:Below B W1 w2) (b1:Below w.heap.size w W1) (f2:Fr [43,199,225] W1 w2) (hle:w.heap.size≤W1.heap.size) (hB:B≤W1.heap.size) (r:known=true→jI w2 B b nv N st2 ub ob):NQ w B b nv N ub ob st2 known k i (w2.alloc (.cells #[.int .i64 k,.int .i64 i] 140)) w2.heap.size :=
 ⟨((b1.mono cg).trans b2).alloc (aL hB b2.size) _,((Fr.af b1).trans f2).trans (Fr.alloc _),fun h=>(r h).alloc _,heap_alloc_new _ _,aL hle b2.size⟩
theorem Yn {B:Nat} {w W1 w2:World} {b:Nat} {nv:Value} {N ub ob:Nat} {st2:aI} {known:Bool} {k i:Int} (cg:B≤w.heap.size) (ph:ub<w.heap.size) (b2:Below B W1 w2) (b1:Below w.heap.size w W1) (f2:Fr [43,199,225] W1 w2) (hle:w.heap.size≤W1.heap.size) (hB:B≤W1.heap.size) (r:known=true→jI w2 B b nv N st2 ub ob) {x y:Value} (hz:w2.heap[W1.heap.size]? = some (.cells #[x,y] 140 (0,0))):NQ w B b nv N ub ob st2 known k i ((w2.setCell ⟨W1.heap.size,0,none⟩ (.int .i64 k)).setCell ⟨W1.heap.size,1,none⟩ (.int .i64 i)) W1.heap.size :=
 have hk:vO w2 W1.heap.size 140:=⟨_,_,hz⟩
 ⟨(((b1.mono cg).trans b2).setCell (p:=⟨W1.heap.size,0,none⟩) hB _).setCell (p:=⟨W1.heap.size,1,none⟩) hB _,((Fr.af b1).trans f2).past (fun k hk=>vZ w2 W1.heap.size _ _ k (by omega)) (by rw[nh];exact ah _),fun h=>((r h).fR hk (by omega) _ _).fR (hk.set _ _ _) (by omega) _ _,yx hz _ _,hle⟩
theorem lW {B:Nat} {a w:World} {o:Obj} (hB:B≤a.heap.size) (h:Below B (a.alloc o) w):Below B a w:=((Below.refl B a).alloc hB o).trans h
theorem rJ {E:List Nat} {a w:World} {o:Obj} (h:Fr E (a.alloc o) w):Fr E a w:=(Fr.alloc o).trans h
theorem gK {W:World} {g:Nat} {x y:Value} {ty:TypeId} (h:W.heap[g]? = some (.cells #[x,y] ty (0,0))):W.cell? ⟨g,0,none⟩=some x:=ae h 0
theorem gL {W:World} {g:Nat} {x y:Value} {ty:TypeId} (h:W.heap[g]? = some (.cells #[x,y] ty (0,0))):W.cell? ⟨g,1,none⟩=some y:=ae h 1
theorem fk {E:List Nat} {a w:World} (h:Fr E a.drew w):Fr E a w:=⟨h.size,h.cells,h.others⟩
theorem dw {B:Nat} {a w:World} (h:Below B a.drew w):Below B a w:=⟨h.os,h.tape,h.output,h.size,h.block⟩
theorem Mq {T:List Nd} {B:Nat} {nv:Value} {ub ob:Nat} (b node f:Nat) (h:Nd) (loop k i:Int) (pa la:Option Addr) (lc:Nat) (L:List cR) (st st2:aI) (w:World) (hT:vW w B nv T) (hw:jI w B b nv T.length st ub ob) (hx:T[node]? = some h)
  (ql :∀W,Below w.heap.size w W→Calls Tryz.prog 71 #[.pointer (some ⟨b,0,none⟩),.string h.s,.agg #[.int .i64 (f:Int),.int .i64 loop,.pointer pa,.slice la L.length lc]] W (Sq B b nv T.length ub ob st2 true k i (.nilIface) W)) :
  Calls Tryz.prog 34 #[.pointer (some ⟨b,0,none⟩),.int .i64 (node:Int),.agg #[.int .i64 (f:Int),.int .i64 loop,.pointer pa,.slice la L.length lc]] w (gH B b nv T.length ub ob (.ok (st2.dt node (k,i))) w):=by
 obtain⟨bk,o,c,rfl,dU,cg,dJ⟩:=hT.nodes;obtain⟨vM,vN,eT,_,_⟩:=dJ node h hx;have jd:node<T.length:=(aK.1 hx).1;have pO:=hT.few;obtain⟨hbl,ph,hb4⟩:b<w.heap.size∧ub<w.heap.size∧∃fv,w.heap[b]? = some (.cells #[.slice (some ⟨bk,o,none⟩) T.length c,fv,.slice (some ⟨ub,0,none⟩) T.length T.length,.slice (some ⟨ob,0,none⟩) T.length T.length] 64 (0,0)):=by
  obtain⟨_,_,h⟩:=hw;exact⟨h.mQ.1,h.mQ.2.1,_,h.blk⟩
 obtain⟨fv0,hb4⟩:=hb4;have yC:=aa ql;have d0:=ae hb4 0;replace d0:_=some (Value.slice (some ⟨bk,o,none⟩) T.length c):=d0;have d4:=Sp eT;have gT:bk<w.heap.size:=by omega
 have AF:=aa hb4;have HT:=aa hT;have HX:=aa hx;clear hw hT hx ql eT dJ hb4;go_enter Tryz.func34,Tryz.ntmps34
 go_wp2_with fail
 have ee:=aa ((Below.refl w.heap.size w).alloc (ah _) (.cells #[.int .i64 (f:Int),.int .i64 loop,.pointer pa,.slice la L.length lc] 69));have eM:=heap_alloc_new w (.cells #[.int .i64 (f:Int),.int .i64 loop,.pointer pa,.slice la L.length lc] 69);have x0:=ae eM 0;have x1:=ae eM 1;have x2:=ae eM 2;have x3:=ae eM 3;replace x0:_=some (Value.int .i64 (f:Int)):=x0;replace x1:_=some (Value.int .i64 loop):=x1;replace x2:_=some (Value.pointer pa):=x2;replace x3:_=some (Value.slice la L.length lc):=x3;have e0:=(ee.out.cell (p:=⟨b,0,none⟩) hbl).trans d0;have e4:=(ee.out.cell (p:=⟨bk,o+node*7+4,none⟩) gT).trans d4;have mB:=aa eM;have qm:=aa ((ee.out.block b hbl).trans AF.out);have hs1:(w.alloc (.cells #[.int .i64 (f:Int),.int .i64 loop,.pointer pa,.slice la L.length lc] 69)).heap.size=w.heap.size+1:=aq _ _;generalize w.alloc (.cells #[.int .i64 (f:Int),.int .i64 loop,.pointer pa,.slice la L.length lc] 69)=W1 at *;have fH:=aa hs1;have Sr:=AF;clear d0 d4 eM hs1 AF;have kk:Hid (W1.cell? ⟨b,0,none⟩=some (.slice (some ⟨bk,o,none⟩) T.length c)∧W1.cell? ⟨bk,o+node*7+4,none⟩=some (.string h.s)∧W1.cell? ⟨w.heap.size,0,none⟩=some (.int .i64 (f:Int))∧W1.cell? ⟨w.heap.size,1,none⟩=some (.int .i64 loop)∧W1.cell? ⟨w.heap.size,2,none⟩=some (.pointer pa)∧W1.cell? ⟨w.heap.size,3,none⟩=some (.slice la L.length lc)):=aa ⟨e0,e4,x0,x1,x2,x3⟩;have hb1:b<W1.heap.size:=(by have:=fH.out;omega)
 have iR:bk<W1.heap.size:=(by have:=fH.out;omega)
 have ec:w.heap.size<W1.heap.size:=(by have:=fH.out;omega)
 have lX:w.heap.size≤W1.heap.size:=fu ec;have Ds:b≠W1.heap.size:=jC hb1;have oQ:bk≠W1.heap.size:=jC iR;have Yo:w.heap.size≠W1.heap.size:=jC ec;have s6:B≤W1.heap.size:=aL cg lX;go_region_held3 (fun w'=>w'.cell? ⟨b,0,none⟩=some (.slice (some ⟨bk,o,none⟩) T.length c)∧w'.cell? ⟨bk,o+node*7+4,none⟩=some (.string h.s)∧w'.cell? ⟨w.heap.size,0,none⟩=some (.int .i64 (f:Int))∧w'.cell? ⟨w.heap.size,1,none⟩=some (.int .i64 loop)∧w'.cell? ⟨w.heap.size,2,none⟩=some (.pointer pa)∧w'.cell? ⟨w.heap.size,3,none⟩=some (.slice la L.length lc))
  (first|exact kk.out|exact qk kk.out hb1 iR ec _|exact yB kk.out Ds oQ Yo _ _)
  (first
   | (go_at_call 71;refine(yC.out W1.drew ee.out.drew).mono ?_;rintro e w2 hq;unfold Sq at hq;obtain⟨rfl,s9,mC,AP⟩:=hq;have B2:=aa (dw s9);have F2:=aa (fk mC);have R2:=aa AP;have hb1:b<w2.heap.size:=cG hb1 B2.out.size;have iR:bk<w2.heap.size:=cG iR B2.out.size;have ec:w.heap.size<w2.heap.size:=cG ec B2.out.size;have kk:=aa (kZ (F2.out.cells _ _ _ _ qm.out (by decide)) ((B2.out.cell (p:=⟨bk,o+node*7+4,none⟩) dU).trans e4) (F2.out.cells _ _ _ _ mB.out (by decide)));clear s9 mC AP)
   | (go_at_call 71;refine(yC.out (W1.alloc (.cells #[.int .i64 0,.int .i64 0] 140)).drew (ee.out.alloc lX _).drew).mono ?_;rintro e w2 hq;unfold Sq at hq;obtain⟨rfl,s9,mC,AP⟩:=hq;have B2:=aa (lW s6 (dw s9));have F2:=aa (rJ (fk mC));have R2:=aa AP;have hz2:=(fk mC).cells _ _ _ _ (heap_alloc_new W1 (.cells #[.int .i64 0,.int .i64 0] 140)) (by decide);have q0:=gK hz2;have q1:=gL hz2;have q2:=aH hz2 0;have q3:=aH hz2 1;have Z2:=aa hz2;have kk:=aa (kZ (F2.out.cells _ _ _ _ qm.out (by decide)) ((B2.out.cell (p:=⟨bk,o+node*7+4,none⟩) dU).trans e4) (F2.out.cells _ _ _ _ mB.out (by decide)));clear s9 mC AP hz2))
 ·have HQ:=aa (Ym (B:=B) cg (st2:=st2) (nv:=.slice (some ⟨bk,o,none⟩) T.length c) (N:=T.length) (b:=b) (ub:=ub) (ob:=ob) (known:=true) (k:=k) (i:=i) B2.out ee.out F2.out lX s6 (fun _=>R2.out trivial))
  generalize w2.alloc (.cells #[.int .i64 k,.int .i64 i] 140)=W5 at HQ ⊢;generalize w2.heap.size=g at HQ ⊢;clear B2 F2 R2 yC ee mB qm fH kk e0 e4 x0 x1 x2 x3;have y0:=gK HQ.out.use;have y1:=gL HQ.out.use;obtain⟨fv5,FL5,jm⟩:=HQ.out.rs rfl;obtain⟨qn,hl2,KJ⟩:=jm.mQ;have d2:W5.cell? ⟨b,2,none⟩=some (.slice (some ⟨ub,0,none⟩) T.length T.length):=ae jm.blk 2;obtain⟨u0,v0⟩:=cf jm.uses (j:=node*2) (by omega)
  obtain⟨u1,v1⟩:=cf jm.uses (j:=node*2+1) (by omega)
  have qo:=aa jm;clear jm;go_wp2_with fail
  refine(FE W5).mono ?_;rintro e w6 ⟨rfl,rfl⟩;go_wp2_with fail
  go_region
  go_wp2_with fail
  go_ret
  exact⟨((HQ.out.below.setCell (p:=⟨ub,node*2,none⟩) qo.out.jc.1 _).setCell (p:=⟨ub,node*2+1,none⟩) qo.out.jc.1 _).drew,rfl,⟨_,_,(qo.out.use node (k,i)).drew⟩,(((HQ.out.fr.mono (by decide)).trans ((lS qo.out node _ _).mono (by decide)))).drew⟩
 ·have HQ:=aa (Yn (B:=B) cg ph (st2:=st2) (nv:=.slice (some ⟨bk,o,none⟩) T.length c) (N:=T.length) (b:=b) (ob:=ob) (known:=true) (k:=k) (i:=i) B2.out ee.out F2.out lX s6 (fun _=>R2.out trivial) Z2.out)
  generalize (w2.setCell ⟨W1.heap.size,0,none⟩ (.int .i64 k)).setCell ⟨W1.heap.size,1,none⟩ (.int .i64 i)=W5 at HQ ⊢;generalize W1.heap.size=g at HQ ⊢;clear q0 q1 q2 q3 Z2;clear B2 F2 R2 yC ee mB qm fH kk e0 e4 x0 x1 x2 x3;have y0:=gK HQ.out.use;have y1:=gL HQ.out.use;obtain⟨fv5,FL5,jm⟩:=HQ.out.rs rfl;obtain⟨qn,hl2,KJ⟩:=jm.mQ;have d2:W5.cell? ⟨b,2,none⟩=some (.slice (some ⟨ub,0,none⟩) T.length T.length):=ae jm.blk 2;obtain⟨u0,v0⟩:=cf jm.uses (j:=node*2) (by omega)
  obtain⟨u1,v1⟩:=cf jm.uses (j:=node*2+1) (by omega)
  have qo:=aa jm;clear jm;go_wp2_with fail
  refine(FE W5).mono ?_;rintro e w6 ⟨rfl,rfl⟩;go_wp2_with fail
  go_region
  go_wp2_with fail
  go_ret
  exact⟨((HQ.out.below.setCell (p:=⟨ub,node*2,none⟩) qo.out.jc.1 _).setCell (p:=⟨ub,node*2+1,none⟩) qo.out.jc.1 _).drew,rfl,⟨_,_,(qo.out.use node (k,i)).drew⟩,(((HQ.out.fr.mono (by decide)).trans ((lS qo.out node _ _).mono (by decide)))).drew⟩
theorem Ip {T:List Nd} {B:Nat} {nv:Value} {ub ob:Nat} (b node f:Nat) (h:Nd) (loop k i:Int) (pa la:Option Addr) (lc:Nat) (L:List cR) (st st2:aI) (w:World) (hT:vW w B nv T) (hw:jI w B b nv T.length st ub ob) (hx:T[node]? = some h)
  (ql :∀W,Below w.heap.size w W→Calls Tryz.prog 71 #[.pointer (some ⟨b,0,none⟩),.string h.s,.agg #[.int .i64 (f:Int),.int .i64 loop,.pointer pa,.slice la L.length lc]] W (Sq B b nv T.length ub ob st2 true k i (.iface 60 (.int .i64 16)) W)) :
  Calls Tryz.prog 34 #[.pointer (some ⟨b,0,none⟩),.int .i64 (node:Int),.agg #[.int .i64 (f:Int),.int .i64 loop,.pointer pa,.slice la L.length lc]] w (gH B b nv T.length ub ob (.ok (st2.dt node (1,0))) w):=by
 obtain⟨bk,o,c,rfl,dU,cg,dJ⟩:=hT.nodes;obtain⟨vM,vN,eT,_,_⟩:=dJ node h hx;have jd:node<T.length:=(aK.1 hx).1;have pO:=hT.few;obtain⟨hbl,ph,hb4⟩:b<w.heap.size∧ub<w.heap.size∧∃fv,w.heap[b]? = some (.cells #[.slice (some ⟨bk,o,none⟩) T.length c,fv,.slice (some ⟨ub,0,none⟩) T.length T.length,.slice (some ⟨ob,0,none⟩) T.length T.length] 64 (0,0)):=by
  obtain⟨_,_,h⟩:=hw;exact⟨h.mQ.1,h.mQ.2.1,_,h.blk⟩
 obtain⟨fv0,hb4⟩:=hb4;have yC:=aa ql;have d0:=ae hb4 0;replace d0:_=some (Value.slice (some ⟨bk,o,none⟩) T.length c):=d0;have d4:=Sp eT;have gT:bk<w.heap.size:=by omega
 have AF:=aa hb4;have HT:=aa hT;have HX:=aa hx;clear hw hT hx ql eT dJ hb4;go_enter Tryz.func34,Tryz.ntmps34
 go_wp2_with fail
 have ee:=aa ((Below.refl w.heap.size w).alloc (ah _) (.cells #[.int .i64 (f:Int),.int .i64 loop,.pointer pa,.slice la L.length lc] 69));have eM:=heap_alloc_new w (.cells #[.int .i64 (f:Int),.int .i64 loop,.pointer pa,.slice la L.length lc] 69);have x0:=ae eM 0;have x1:=ae eM 1;have x2:=ae eM 2;have x3:=ae eM 3;replace x0:_=some (Value.int .i64 (f:Int)):=x0;replace x1:_=some (Value.int .i64 loop):=x1;replace x2:_=some (Value.pointer pa):=x2;replace x3:_=some (Value.slice la L.length lc):=x3;have e0:=(ee.out.cell (p:=⟨b,0,none⟩) hbl).trans d0;have e4:=(ee.out.cell (p:=⟨bk,o+node*7+4,none⟩) gT).trans d4;have mB:=aa eM;have qm:=aa ((ee.out.block b hbl).trans AF.out);have hs1:(w.alloc (.cells #[.int .i64 (f:Int),.int .i64 loop,.pointer pa,.slice la L.length lc] 69)).heap.size=w.heap.size+1:=aq _ _;generalize w.alloc (.cells #[.int .i64 (f:Int),.int .i64 loop,.pointer pa,.slice la L.length lc] 69)=W1 at *;have fH:=aa hs1;have Sr:=AF;clear d0 d4 eM hs1 AF;have kk:Hid (W1.cell? ⟨b,0,none⟩=some (.slice (some ⟨bk,o,none⟩) T.length c)∧W1.cell? ⟨bk,o+node*7+4,none⟩=some (.string h.s)∧W1.cell? ⟨w.heap.size,0,none⟩=some (.int .i64 (f:Int))∧W1.cell? ⟨w.heap.size,1,none⟩=some (.int .i64 loop)∧W1.cell? ⟨w.heap.size,2,none⟩=some (.pointer pa)∧W1.cell? ⟨w.heap.size,3,none⟩=some (.slice la L.length lc)):=aa ⟨e0,e4,x0,x1,x2,x3⟩;have hb1:b<W1.heap.size:=(by have:=fH.out;omega)
 have iR:bk<W1.heap.size:=(by have:=fH.out;omega)
 have ec:w.heap.size<W1.heap.size:=(by have:=fH.out;omega)
 have lX:w.heap.size≤W1.heap.size:=fu ec;have Ds:b≠W1.heap.size:=jC hb1;have oQ:bk≠W1.heap.size:=jC iR;have Yo:w.heap.size≠W1.heap.size:=jC ec;have s6:B≤W1.heap.size:=aL cg lX;go_region_held3 (fun w'=>w'.cell? ⟨b,0,none⟩=some (.slice (some ⟨bk,o,none⟩) T.length c)∧w'.cell? ⟨bk,o+node*7+4,none⟩=some (.string h.s)∧w'.cell? ⟨w.heap.size,0,none⟩=some (.int .i64 (f:Int))∧w'.cell? ⟨w.heap.size,1,none⟩=some (.int .i64 loop)∧w'.cell? ⟨w.heap.size,2,none⟩=some (.pointer pa)∧w'.cell? ⟨w.heap.size,3,none⟩=some (.slice la L.length lc))
  (first|exact kk.out|exact qk kk.out hb1 iR ec _|exact yB kk.out Ds oQ Yo _ _)
  (first
   | (go_at_call 71;refine(yC.out W1.drew ee.out.drew).mono ?_;rintro e w2 hq;unfold Sq at hq;obtain⟨rfl,s9,mC,AP⟩:=hq;have B2:=aa (dw s9);have F2:=aa (fk mC);have R2:=aa AP;have hb1:b<w2.heap.size:=cG hb1 B2.out.size;have iR:bk<w2.heap.size:=cG iR B2.out.size;have ec:w.heap.size<w2.heap.size:=cG ec B2.out.size;have kk:=aa (kZ (F2.out.cells _ _ _ _ qm.out (by decide)) ((B2.out.cell (p:=⟨bk,o+node*7+4,none⟩) dU).trans e4) (F2.out.cells _ _ _ _ mB.out (by decide)));clear s9 mC AP)
   | (go_at_call 71;refine(yC.out (W1.alloc (.cells #[.int .i64 0,.int .i64 0] 140)).drew (ee.out.alloc lX _).drew).mono ?_;rintro e w2 hq;unfold Sq at hq;obtain⟨rfl,s9,mC,AP⟩:=hq;have B2:=aa (lW s6 (dw s9));have F2:=aa (rJ (fk mC));have R2:=aa AP;have hz2:=(fk mC).cells _ _ _ _ (heap_alloc_new W1 (.cells #[.int .i64 0,.int .i64 0] 140)) (by decide);have q0:=gK hz2;have q1:=gL hz2;have q2:=aH hz2 0;have q3:=aH hz2 1;have Z2:=aa hz2;have kk:=aa (kZ (F2.out.cells _ _ _ _ qm.out (by decide)) ((B2.out.cell (p:=⟨bk,o+node*7+4,none⟩) dU).trans e4) (F2.out.cells _ _ _ _ mB.out (by decide)));clear s9 mC AP hz2))
 ·have HQ:=aa (Ym (B:=B) cg (st2:=st2) (nv:=.slice (some ⟨bk,o,none⟩) T.length c) (N:=T.length) (b:=b) (ub:=ub) (ob:=ob) (known:=true) (k:=k) (i:=i) B2.out ee.out F2.out lX s6 (fun _=>R2.out trivial))
  generalize w2.alloc (.cells #[.int .i64 k,.int .i64 i] 140)=W5 at HQ ⊢;generalize w2.heap.size=g at HQ ⊢;clear B2 F2 R2 yC ee mB qm fH kk e0 e4 x0 x1 x2 x3;have y0:=gK HQ.out.use;have y1:=gL HQ.out.use;have y2:=aH HQ.out.use 0;have y3:=aH HQ.out.use 1;have hgu:g≠ub:=by have:=HQ.out.new;omega
  go_wp2_with fail
  refine(FG W5).mono ?_;rintro e w6 ⟨rfl,rfl⟩;go_wp2_with fail
  have hk:vO W5 g 140:=⟨_,_,HQ.out.use⟩;have Mr:=((HQ.out.rs rfl).fR hk hgu 0 (.int .i64 1)).fR (hk.set _ _ _) hgu 1 (.int .i64 0);have Dt:=yx HQ.out.use (.int .i64 1) (.int .i64 0);have Ms:=aa ((HQ.out.below.setCell (p:=⟨g,0,none⟩) (aL cg HQ.out.new) (.int .i64 1)).setCell (p:=⟨g,1,none⟩) (aL cg HQ.out.new) (.int .i64 0));have Mt:=aa (HQ.out.fr.past (fun k hk=>vZ W5 g (.int .i64 1) (.int .i64 0) k (by have:=HQ.out.new;omega)) (by rw[nh];exact ah _))
  generalize (W5.setCell ⟨g,0,none⟩ (.int .i64 1)).setCell ⟨g,1,none⟩ (.int .i64 0)=W6 at Mr Dt Ms Mt ⊢;have k0:=gK Dt;have k1:=gL Dt;obtain⟨fv5,FL5,jm⟩:=Mr;obtain⟨qn,hl2,KJ⟩:=jm.mQ;have d2:W6.cell? ⟨b,2,none⟩=some (.slice (some ⟨ub,0,none⟩) T.length T.length):=ae jm.blk 2;obtain⟨u0,v0⟩:=cf jm.uses (j:=node*2) (by omega)
  obtain⟨u1,v1⟩:=cf jm.uses (j:=node*2+1) (by omega)
  have qo:=aa jm;clear jm Dt y0 y1 y2 y3 hk;go_region
  go_wp2_with fail
  go_ret
  exact⟨((Ms.out.setCell (p:=⟨ub,node*2,none⟩) qo.out.jc.1 _).setCell (p:=⟨ub,node*2+1,none⟩) qo.out.jc.1 _).drew,rfl,⟨_,_,(qo.out.use node (1,0)).drew⟩,(((Mt.out.mono (by decide)).trans ((lS qo.out node _ _).mono (by decide)))).drew⟩
 ·have HQ:=aa (Yn (B:=B) cg ph (st2:=st2) (nv:=.slice (some ⟨bk,o,none⟩) T.length c) (N:=T.length) (b:=b) (ob:=ob) (known:=true) (k:=k) (i:=i) B2.out ee.out F2.out lX s6 (fun _=>R2.out trivial) Z2.out)
  generalize (w2.setCell ⟨W1.heap.size,0,none⟩ (.int .i64 k)).setCell ⟨W1.heap.size,1,none⟩ (.int .i64 i)=W5 at HQ ⊢;generalize W1.heap.size=g at HQ ⊢;clear q0 q1 q2 q3 Z2;clear B2 F2 R2 yC ee mB qm fH kk e0 e4 x0 x1 x2 x3;have y0:=gK HQ.out.use;have y1:=gL HQ.out.use;have y2:=aH HQ.out.use 0;have y3:=aH HQ.out.use 1;have hgu:g≠ub:=by have:=HQ.out.new;omega
  go_wp2_with fail
  refine(FG W5).mono ?_;rintro e w6 ⟨rfl,rfl⟩;go_wp2_with fail
  have hk:vO W5 g 140:=⟨_,_,HQ.out.use⟩;have Mr:=((HQ.out.rs rfl).fR hk hgu 0 (.int .i64 1)).fR (hk.set _ _ _) hgu 1 (.int .i64 0);have Dt:=yx HQ.out.use (.int .i64 1) (.int .i64 0);have Ms:=aa ((HQ.out.below.setCell (p:=⟨g,0,none⟩) (aL cg HQ.out.new) (.int .i64 1)).setCell (p:=⟨g,1,none⟩) (aL cg HQ.out.new) (.int .i64 0));have Mt:=aa (HQ.out.fr.past (fun k hk=>vZ W5 g (.int .i64 1) (.int .i64 0) k (by have:=HQ.out.new;omega)) (by rw[nh];exact ah _))
  generalize (W5.setCell ⟨g,0,none⟩ (.int .i64 1)).setCell ⟨g,1,none⟩ (.int .i64 0)=W6 at Mr Dt Ms Mt ⊢;have k0:=gK Dt;have k1:=gL Dt;obtain⟨fv5,FL5,jm⟩:=Mr;obtain⟨qn,hl2,KJ⟩:=jm.mQ;have d2:W6.cell? ⟨b,2,none⟩=some (.slice (some ⟨ub,0,none⟩) T.length T.length):=ae jm.blk 2;obtain⟨u0,v0⟩:=cf jm.uses (j:=node*2) (by omega)
  obtain⟨u1,v1⟩:=cf jm.uses (j:=node*2+1) (by omega)
  have qo:=aa jm;clear jm Dt y0 y1 y2 y3 hk;go_region
  go_wp2_with fail
  go_ret
  exact⟨((Ms.out.setCell (p:=⟨ub,node*2,none⟩) qo.out.jc.1 _).setCell (p:=⟨ub,node*2+1,none⟩) qo.out.jc.1 _).drew,rfl,⟨_,_,(qo.out.use node (1,0)).drew⟩,(((Mt.out.mono (by decide)).trans ((lS qo.out node _ _).mono (by decide)))).drew⟩
theorem Mu {T:List Nd} {B:Nat} {nv:Value} {ub ob:Nat} (b node f:Nat) (h:Nd) (loop k i:Int) (pa la:Option Addr) (lc:Nat) (L:List cR) (st st2:aI) (w:World) (hT:vW w B nv T) (hw:jI w B b nv T.length st ub ob) (hx:T[node]? = some h)
  (ql :∀W,Below w.heap.size w W→Calls Tryz.prog 71 #[.pointer (some ⟨b,0,none⟩),.string h.s,.agg #[.int .i64 (f:Int),.int .i64 loop,.pointer pa,.slice la L.length lc]] W (Sq B b nv T.length ub ob st2 false k i (.iface 60 (.int .i64 12)) W)) :
  Calls Tryz.prog 34 #[.pointer (some ⟨b,0,none⟩),.int .i64 (node:Int),.agg #[.int .i64 (f:Int),.int .i64 loop,.pointer pa,.slice la L.length lc]] w (gH B b nv T.length ub ob (.error (12,h.line)) w):=by
 obtain⟨bk,o,c,rfl,dU,cg,dJ⟩:=hT.nodes;obtain⟨vM,vN,eT,_,_⟩:=dJ node h hx;have jd:node<T.length:=(aK.1 hx).1;have pO:=hT.few;obtain⟨hbl,ph,hb4⟩:b<w.heap.size∧ub<w.heap.size∧∃fv,w.heap[b]? = some (.cells #[.slice (some ⟨bk,o,none⟩) T.length c,fv,.slice (some ⟨ub,0,none⟩) T.length T.length,.slice (some ⟨ob,0,none⟩) T.length T.length] 64 (0,0)):=by
  obtain⟨_,_,h⟩:=hw;exact⟨h.mQ.1,h.mQ.2.1,_,h.blk⟩
 obtain⟨fv0,hb4⟩:=hb4;have yC:=aa ql;have d0:=ae hb4 0;replace d0:_=some (Value.slice (some ⟨bk,o,none⟩) T.length c):=d0;have d4:=Sp eT;have gT:bk<w.heap.size:=by omega
 have AF:=aa hb4;have HT:=aa hT;have HX:=aa hx;clear hw hT hx ql eT dJ hb4;go_enter Tryz.func34,Tryz.ntmps34
 go_wp2_with fail
 have ee:=aa ((Below.refl w.heap.size w).alloc (ah _) (.cells #[.int .i64 (f:Int),.int .i64 loop,.pointer pa,.slice la L.length lc] 69));have eM:=heap_alloc_new w (.cells #[.int .i64 (f:Int),.int .i64 loop,.pointer pa,.slice la L.length lc] 69);have x0:=ae eM 0;have x1:=ae eM 1;have x2:=ae eM 2;have x3:=ae eM 3;replace x0:_=some (Value.int .i64 (f:Int)):=x0;replace x1:_=some (Value.int .i64 loop):=x1;replace x2:_=some (Value.pointer pa):=x2;replace x3:_=some (Value.slice la L.length lc):=x3;have e0:=(ee.out.cell (p:=⟨b,0,none⟩) hbl).trans d0;have e4:=(ee.out.cell (p:=⟨bk,o+node*7+4,none⟩) gT).trans d4;have mB:=aa eM;have qm:=aa ((ee.out.block b hbl).trans AF.out);have hs1:(w.alloc (.cells #[.int .i64 (f:Int),.int .i64 loop,.pointer pa,.slice la L.length lc] 69)).heap.size=w.heap.size+1:=aq _ _;generalize w.alloc (.cells #[.int .i64 (f:Int),.int .i64 loop,.pointer pa,.slice la L.length lc] 69)=W1 at *;have fH:=aa hs1;have Sr:=AF;clear d0 d4 eM hs1 AF;have kk:Hid (W1.cell? ⟨b,0,none⟩=some (.slice (some ⟨bk,o,none⟩) T.length c)∧W1.cell? ⟨bk,o+node*7+4,none⟩=some (.string h.s)∧W1.cell? ⟨w.heap.size,0,none⟩=some (.int .i64 (f:Int))∧W1.cell? ⟨w.heap.size,1,none⟩=some (.int .i64 loop)∧W1.cell? ⟨w.heap.size,2,none⟩=some (.pointer pa)∧W1.cell? ⟨w.heap.size,3,none⟩=some (.slice la L.length lc)):=aa ⟨e0,e4,x0,x1,x2,x3⟩;have hb1:b<W1.heap.size:=(by have:=fH.out;omega)
 have iR:bk<W1.heap.size:=(by have:=fH.out;omega)
 have ec:w.heap.size<W1.heap.size:=(by have:=fH.out;omega)
 have lX:w.heap.size≤W1.heap.size:=fu ec;have Ds:b≠W1.heap.size:=jC hb1;have oQ:bk≠W1.heap.size:=jC iR;have Yo:w.heap.size≠W1.heap.size:=jC ec;have s6:B≤W1.heap.size:=aL cg lX;go_region_held3 (fun w'=>w'.cell? ⟨b,0,none⟩=some (.slice (some ⟨bk,o,none⟩) T.length c)∧w'.cell? ⟨bk,o+node*7+4,none⟩=some (.string h.s)∧w'.cell? ⟨w.heap.size,0,none⟩=some (.int .i64 (f:Int))∧w'.cell? ⟨w.heap.size,1,none⟩=some (.int .i64 loop)∧w'.cell? ⟨w.heap.size,2,none⟩=some (.pointer pa)∧w'.cell? ⟨w.heap.size,3,none⟩=some (.slice la L.length lc))
  (first|exact kk.out|exact qk kk.out hb1 iR ec _|exact yB kk.out Ds oQ Yo _ _)
  (first
   | (go_at_call 71;refine(yC.out W1.drew ee.out.drew).mono ?_;rintro e w2 hq;unfold Sq at hq;obtain⟨rfl,s9,mC,AP⟩:=hq;have B2:=aa (dw s9);have F2:=aa (fk mC);have R2:=aa AP;have hb1:b<w2.heap.size:=cG hb1 B2.out.size;have iR:bk<w2.heap.size:=cG iR B2.out.size;have ec:w.heap.size<w2.heap.size:=cG ec B2.out.size;have kk:=aa (kZ (F2.out.cells _ _ _ _ qm.out (by decide)) ((B2.out.cell (p:=⟨bk,o+node*7+4,none⟩) dU).trans e4) (F2.out.cells _ _ _ _ mB.out (by decide)));clear s9 mC AP)
   | (go_at_call 71;refine(yC.out (W1.alloc (.cells #[.int .i64 0,.int .i64 0] 140)).drew (ee.out.alloc lX _).drew).mono ?_;rintro e w2 hq;unfold Sq at hq;obtain⟨rfl,s9,mC,AP⟩:=hq;have B2:=aa (lW s6 (dw s9));have F2:=aa (rJ (fk mC));have R2:=aa AP;have hz2:=(fk mC).cells _ _ _ _ (heap_alloc_new W1 (.cells #[.int .i64 0,.int .i64 0] 140)) (by decide);have q0:=gK hz2;have q1:=gL hz2;have q2:=aH hz2 0;have q3:=aH hz2 1;have Z2:=aa hz2;have kk:=aa (kZ (F2.out.cells _ _ _ _ qm.out (by decide)) ((B2.out.cell (p:=⟨bk,o+node*7+4,none⟩) dU).trans e4) (F2.out.cells _ _ _ _ mB.out (by decide)));clear s9 mC AP hz2))
 ·have HQ:=aa (Ym (B:=B) cg (st2:=st2) (nv:=.slice (some ⟨bk,o,none⟩) T.length c) (N:=T.length) (b:=b) (ub:=ub) (ob:=ob) (known:=false) (k:=k) (i:=i) B2.out ee.out F2.out lX s6 (fun h=>absurd h (by decide)))
  generalize w2.alloc (.cells #[.int .i64 k,.int .i64 i] 140)=W5 at HQ ⊢;generalize w2.heap.size=g at HQ ⊢;clear B2 F2 R2 yC ee mB qm fH kk e0 e4 x0 x1 x2 x3;have y0:=gK HQ.out.use;have y1:=gL HQ.out.use;have Mv:=aa (HT.out.below HQ.out.below);have Mw:=aa (ae (HQ.out.fr.cells _ _ _ _ Sr.out (by decide)) 0)
  go_wp2_with fail
  refine(FH W5).mono ?_;rintro e w6 ⟨rfl,rfl⟩;go_wp2_with fail
  refine(eC b node _ _ _ Mv.out Mw.out HX.out).mono ?_;rintro e w7 ⟨v,rfl,⟨g1,rfl⟩,h1,h2⟩;have H1:=aa h1;have H2:=aa h2;clear h1 h2;go_wp2_with fail
  go_ret
  exact iJ HQ.out.below (aL cg (aL (ah _) HQ.out.below.size)) H2.out H1.out
 ·have HQ:=aa (Yn (B:=B) cg ph (st2:=st2) (nv:=.slice (some ⟨bk,o,none⟩) T.length c) (N:=T.length) (b:=b) (ob:=ob) (known:=false) (k:=k) (i:=i) B2.out ee.out F2.out lX s6 (fun h=>absurd h (by decide)) Z2.out)
  generalize (w2.setCell ⟨W1.heap.size,0,none⟩ (.int .i64 k)).setCell ⟨W1.heap.size,1,none⟩ (.int .i64 i)=W5 at HQ ⊢;generalize W1.heap.size=g at HQ ⊢;clear q0 q1 q2 q3 Z2;clear B2 F2 R2 yC ee mB qm fH kk e0 e4 x0 x1 x2 x3;have y0:=gK HQ.out.use;have y1:=gL HQ.out.use;have Mv:=aa (HT.out.below HQ.out.below);have Mw:=aa (ae (HQ.out.fr.cells _ _ _ _ Sr.out (by decide)) 0)
  go_wp2_with fail
  refine(FH W5).mono ?_;rintro e w6 ⟨rfl,rfl⟩;go_wp2_with fail
  refine(eC b node _ _ _ Mv.out Mw.out HX.out).mono ?_;rintro e w7 ⟨v,rfl,⟨g1,rfl⟩,h1,h2⟩;have H1:=aa h1;have H2:=aa h2;clear h1 h2;go_wp2_with fail
  go_ret
  exact iJ HQ.out.below (aL cg (aL (ah _) HQ.out.below.size)) H2.out H1.out
theorem Iq {node f:Nat} {s:ByteArray} {line:Int} {st:aI} (h:(st.names.find? fun n=>decide (n.s=s))=none):lL node f s line st=.ok (st.dt node (1,0)):=by
 unfold lL;rw[h]
theorem Ir {node f:Nat} {s:ByteArray} {line:Int} {st:aI} {n:jw} (h:(st.names.find? fun n=>decide (n.s=s))=some n):lL node f s line st=match fy n st.fns.length f st.fns with
  | none=>.error (12,line)
  | some (F,k,i)=>.ok (({ st with fns:=F}:aI).dt node (k,(i:Int))):=by
 unfold lL;rw[h];dsimp only
 unfold fy;by_cases e:n.fn=f
 ·rw[ai e,ai e.symm]
 ·rw[ab e,ab fun e'=>e e'.symm]
  have:st.fns.set n.fn (cZ (st.fn n.fn) n.i)=fX n st.fns:=rfl;rw[this];cases lK n st.fns.length (fX n st.fns) f with
  | none=>rfl
  | some r=>rfl
theorem My {T:List Nd} {B:Nat} {nv:Value} {ub ob:Nat} (b node f:Nat) (h:Nd) (loop:Int) (pa la:Option Addr) (lc:Nat) (L:List cR) (st:aI) (w:World) (hT:vW w B nv T) (hw:jI w B b nv T.length st ub ob) (hx:T[node]? = some h) (hl:df w B (.slice la L.length lc) L) (hn:st.names=mz L) (vP:Cx f st) (jl:dP st.fns) (Di:st.fns.length≤100000) (sE:L.length≤100000) (hs:h.s.size≤maxLen) :
  Calls Tryz.prog 34 #[.pointer (some ⟨b,0,none⟩),.int .i64 (node:Int),.agg #[.int .i64 (f:Int),.int .i64 loop,.pointer pa,.slice la L.length lc]] w (gH B b nv T.length ub ob (lL node f h.s h.line st) w):=by
 obtain⟨_,_,_,_,_,cg,_⟩:=hT.nodes;have key :∀W,Below w.heap.size w W→Calls Tryz.prog 71 #[.pointer (some ⟨b,0,none⟩),.string h.s,.agg #[.int .i64 (f:Int),.int .i64 loop,.pointer pa,.slice la L.length lc]] W (AN B b nv T.length ub ob st f h.s W) :=
  fun W hb=>Im b f h.s loop pa la lc L st W (hw.later hb) (hl.jk (ob:=0) (cU.bH hb cg) (ah _)) hn vP jl Di sE hs
 cases hf:st.names.find? fun n=>decide (n.s=h.s) with
 | none =>
  rw[Iq hf];refine Ip b node f h loop 0 0 pa la lc L st st w hT hw hx fun W hb=>(key W hb).mono ?_
  rintro e w' ⟨h1,h2,h3⟩;rw[hf] at h3;exact⟨h3.1,h1,h2,fun _=>h3.2⟩
 | some n =>
  rw[Ir hf];cases hR:fy n st.fns.length f st.fns with
  | none =>
   refine Mu b node f h loop 0 0 pa la lc L st st w hT hw hx fun W hb=>(key W hb).mono ?_
   rintro e w' ⟨h1,h2,h3⟩;rw[hf] at h3;simp only[hR] at h3;exact⟨h3,h1,h2,fun h=>absurd h (by decide)⟩
  | some r =>
   obtain⟨F,kd,j⟩:=r;refine Mq b node f h loop kd (j:Int) pa la lc L st { st with fns:=F} w hT hw hx fun W hb=>(key W hb).mono ?_
   rintro e w' ⟨h1,h2,h3⟩;rw[hf] at h3;simp only[hR] at h3;exact⟨h3.1,h1,h2,fun _=>h3.2⟩
theorem Mz (x:fE) (s:ByteArray):((KI x).2.2 s).isSome=(cu x.kids s).isSome:=by
 show(fG x.kids x.rep x.kids.length s).isSome=_
 unfold fG;rw[AA];cases cu x.kids s<;>rfl
theorem uQ (s:ByteArray) (l:List fE):(l.map KI).find? (fun x=>(x.2.2 s).isSome)=(l.find? fun x=>(cu x.kids s).isSome).map KI:=by
 rw[List.find?_map];congr 1
 congr 1
 funext x
 exact Mz x s
theorem AQ (l:List fE):Ma (l.map KI):=by
 intro x hx s v hv;obtain⟨y,_,rfl⟩:=jB.1 hx;replace hv:fG y.kids y.rep y.kids.length s=some v:=hv;unfold fG at hv;cases e:ng y.kids y.rep y.kids.length s with
 | none=>rw[e] at hv;cases hv
 | some p =>
  rw[e] at hv;injection hv with hv;exact⟨_,_,hv.symm⟩
theorem xd {node f:Nat} {s:ByteArray} {line:Int} {st:aI} (h:((dB f st.frames).map KI).find? (fun x=>(x.2.2 s).isSome)=none):dK node f s line st st.frames=.error (8,line):=by
 rw[uQ] at h;rw[nW,Option.map_eq_none_iff.1 h]
theorem xe {node f:Nat} {s:ByteArray} {line a d:Int} {st:aI} {x:Nat×Nat×(ByteArray→Option Value)} (h:((dB f st.frames).map KI).find? (fun x=>(x.2.2 s).isSome)=some x) (hx:x.2.2 s=some (.agg #[.int .i64 a,.int .i64 d])):dK node f s line st st.frames=if (x.1:Int)<d then .error (10,line) else .ok (st.dt node (4,a)):=by
 rw[uQ,EO] at h;obtain⟨y,hy,rfl⟩:=h;rw[nW,hy];replace hx:fG y.kids y.rep y.kids.length s=some (.agg #[.int .i64 a,.int .i64 d]):=hx;unfold fG at hx;rw[AA] at hx;dsimp only
 cases e:cu y.kids s with
 | none=>rw[e] at hx;cases hx
 | some j =>
  rw[e] at hx;dsimp only[Option.map] at hx
  injection hx with hx;injection hx with hx;have hx1:[Value.int .i64 ((y.kids.getD j (.mk 0 ⟨0,0,0,0,⟨#[]⟩,[],[]⟩ [])).loc:Int),.int .i64 (rF y.kids y.rep j:Int)]=[.int .i64 a,.int .i64 d]:=aw Array.toList hx;injection hx1 with e1 e2;injection e2 with e2 _;injection e1 with _ e1;injection e2 with _ e2;subst e1 e2;obtain⟨z,hz,hl,_⟩:=uI e;have hz2:rh z=true:=by
   unfold mu at hl;unfold rh;simp only[dp] at hl;exact hl.1
  dsimp only
  rw[Sd hz hz2];show(if decide (gS y.kids (y.at_+1)<rF y.kids y.rep j)=true then _ else _)=if ((gS y.kids (y.at_+1):Nat):Int)<_ then _ else _
  by_cases h1:gS y.kids (y.at_+1)<rF y.kids y.rep j
  ·rw[ai (bQ h1),ai (by omega)]
  ·rw[ab (by rw[bZ h1];simp),ab (by omega)]
structure JQ (w:World) (s:ByteArray) (fs:List (Nat×Nat×(ByteArray→Option Value))) (pa:Option Addr) (a d:Int) (W:World) (g:Nat):Prop where
 below:Below w.heap.size w W
 fnd:gz W s fs (.pointer pa) (.agg #[.int .i64 a,.int .i64 d])
 c0:W.cell? ⟨g,0,none⟩=some (.int .i64 a)
 c1:W.cell? ⟨g,1,none⟩=some (.int .i64 d)
 new:w.heap.size≤g
 lt:g<W.heap.size
theorem gz.later {W W':World} {s:ByteArray} {fs:List (Nat×Nat×(ByteArray→Option Value))} {pv wX:Value} (h:gz W s fs pv wX) (hb:Below W.heap.size W W'):gz W' s fs pv wX:=by
 unfold gz at h ⊢;split
 ·rename_i e
  rw[e] at h;exact h
 ·rename_i x e
  rw[e] at h;obtain⟨k,h1,h2,h3,h4⟩:=h;exact⟨k,h1,h2,(hb.cell (p:=⟨k,2,none⟩) h4).trans h3,cG h4 hb.size⟩
theorem gz.far {W W':World} {s:ByteArray} {fs:List (Nat×Nat×(ByteArray→Option Value))} {pv wX:Value} {n:Nat} (h:gz W s fs pv wX) (hn :∀k,pv=.pointer (some ⟨k,0,none⟩)→k<n) (hsz:W.heap.size≤W'.heap.size) (hb :∀k,k<n→W'.heap[k]? = W.heap[k]?):gz W' s fs pv wX:=by
 unfold gz at h ⊢;split
 ·rename_i e
  rw[e] at h;exact h
 ·rename_i x e
  rw[e] at h;obtain⟨k,h1,h2,h3,h4⟩:=h;exact⟨k,h1,h2,(World.cell?_of_block (a:=⟨k,2,none⟩) (hb k (hn k h1))).trans h3,cG h4 hsz⟩
theorem acT {w W1 w2:World} {s:ByteArray} {fs:List (Nat×Nat×(ByteArray→Option Value))} {pa:Option Addr} {a d:Int} (b1:Below w.heap.size w W1) (b2:Below W1.heap.size W1 w2) (hf:gz w2 s fs (.pointer pa) (.agg #[.int .i64 a,.int .i64 d])) (hle:w.heap.size≤W1.heap.size):JQ w s fs pa a d (w2.alloc (.cells #[.int .i64 a,.int .i64 d] 154)) w2.heap.size :=
 ⟨(b1.trans (b2.mono hle)).alloc (aL hle b2.size) _,hf.later ((Below.refl _ _).alloc (ah _) _),ae (heap_alloc_new _ _) 0,ae (heap_alloc_new _ _) 1,aL hle b2.size,by rw[aq];omega⟩
theorem acU {w W1 w2:World} {s:ByteArray} {fs:List (Nat×Nat×(ByteArray→Option Value))} {pa:Option Addr} {a d x y:Int} (b1:Below w.heap.size w W1) (b2:Below W1.heap.size W1 w2) (hf:gz w2 s fs (.pointer pa) (.agg #[.int .i64 a,.int .i64 d])) (hn :∀k,Value.pointer pa=.pointer (some ⟨k,0,none⟩)→k<W1.heap.size) (hle:w.heap.size≤W1.heap.size) (hz:w2.heap[W1.heap.size]? = some (.cells #[.int .i64 x,.int .i64 y] 154 (0,0))):JQ w s fs pa a d ((w2.setCell ⟨W1.heap.size,0,none⟩ (.int .i64 a)).setCell ⟨W1.heap.size,1,none⟩ (.int .i64 d)) W1.heap.size :=
 ⟨((b1.trans (b2.mono hle)).setCell (p:=⟨W1.heap.size,0,none⟩) hle _).setCell (p:=⟨W1.heap.size,1,none⟩) hle _,hf.far hn (by rw[nh];exact ah _) (fun k hk=>vZ w2 W1.heap.size _ _ k (by omega)),ae (yx hz _ _) 0,ae (yx hz _ _) 1,hle,by rw[nh];exact(aO.1 hz).1⟩
theorem gz.lt {W:World} {s:ByteArray} {fs:List (Nat×Nat×(ByteArray→Option Value))} {pa:Option Addr} {wX:Value} (h:gz W s fs (.pointer pa) wX) :∀k,Value.pointer pa=.pointer (some ⟨k,0,none⟩)→k<W.heap.size:=by
 intro k hk;unfold gz at h;split at h
 ·rw[hk] at h;cases h.1
 ·obtain⟨k',h1,_,_,h4⟩:=h
  rw[hk] at h1;injection h1 with h1;injection h1 with h1;injection h1 with h1;omega
theorem gz.old {W:World} {s:ByteArray} {fs:List (Nat×Nat×(ByteArray→Option Value))} {pa:Option Addr} {wX:Value} {x y:Value} (h:gz (W.alloc (.cells #[x,y] 154)).drew s fs (.pointer pa) wX) :∀k,Value.pointer pa=.pointer (some ⟨k,0,none⟩)→k<W.heap.size:=by
 intro k hk;have h1:=h.lt k hk;replace h1:k<(W.alloc (.cells #[x,y] 154)).heap.size:=h1;rw[aq] at h1;by_cases e:k=W.heap.size
 ·exfalso
  subst e;unfold gz at h;split at h
  ·rw[hk] at h;cases h.1
  ·obtain⟨k',h2,_,h3,_⟩:=h
   rw[hk] at h2;injection h2 with h2;injection h2 with h2;injection h2 with h2;subst h2;have h4:=ae (heap_alloc_new W (.cells #[x,y] 154)) 2;replace h3:(W.alloc (.cells #[x,y] 154)).cell? ⟨W.heap.size,2,none⟩=_:=h3;rw[h4] at h3;cases h3
 ·omega
theorem iA {a w:World} (h:Below a.drew.heap.size a.drew w):Below a.heap.size a w:=⟨h.os,h.tape,h.output,h.size,h.block⟩
theorem gz.no {W:World} {s:ByteArray} {fs:List (Nat×Nat×(ByteArray→Option Value))} {pa:Option Addr} {wX:Value} (h:gz W s fs (.pointer pa) wX) (e:fs.find? (fun x=>(x.2.2 s).isSome)=none):pa=none:=by
 unfold gz at h;rw[e] at h;have:=h.1;injection this
theorem gz.yes {W:World} {s:ByteArray} {fs:List (Nat×Nat×(ByteArray→Option Value))} {pa:Option Addr} {wX:Value} {x:Nat×Nat×(ByteArray→Option Value)} (h:gz W s fs (.pointer pa) wX) (e:fs.find? (fun x=>(x.2.2 s).isSome)=some x) :∃k,pa=some ⟨k,0,none⟩∧x.2.2 s=some wX∧W.cell? ⟨k,2,none⟩=some (.int .i64 (x.1:Int))∧k<W.heap.size:=by
 unfold gz at h;rw[e] at h;obtain⟨k,h1,h2⟩:=h;injection h1 with h1;exact⟨k,h1,h2⟩
theorem gz.MA {W:World} {s:ByteArray} {fs:List (Nat×Nat×(ByteArray→Option Value))} {pv wX:Value} (h:gz W.drew s fs pv wX):gz W s fs pv wX:=h
theorem AR {W w2:World} {b bk j p N f c o:Nat} {s:ByteArray} {loop:Int} {pa la:Option Addr} {ln lc:Nat} (h:W.cell? ⟨b,0,none⟩=some (.slice (some ⟨bk,o,none⟩) N c)∧W.cell? ⟨bk,j,none⟩=some (.string s)∧W.cell? ⟨p,0,none⟩=some (.int .i64 (f:Int))∧W.cell? ⟨p,1,none⟩=some (.int .i64 loop)∧W.cell? ⟨p,2,none⟩=some (.pointer pa)∧W.cell? ⟨p,3,none⟩=some (.slice la ln lc)) (hb:b<W.heap.size) (hk:bk<W.heap.size) (hp:p<W.heap.size) (hB:Below W.heap.size W w2) :
  w2.cell? ⟨b,0,none⟩=some (.slice (some ⟨bk,o,none⟩) N c)∧w2.cell? ⟨bk,j,none⟩=some (.string s)∧w2.cell? ⟨p,0,none⟩=some (.int .i64 (f:Int))∧w2.cell? ⟨p,1,none⟩=some (.int .i64 loop)∧w2.cell? ⟨p,2,none⟩=some (.pointer pa)∧w2.cell? ⟨p,3,none⟩=some (.slice la ln lc) :=
 ⟨(hB.cell (p:=⟨b,0,none⟩) hb).trans h.1,(hB.cell (p:=⟨bk,j,none⟩) hk).trans h.2.1,(hB.cell (p:=⟨p,0,none⟩) hp).trans h.2.2.1,(hB.cell (p:=⟨p,1,none⟩) hp).trans h.2.2.2.1,(hB.cell (p:=⟨p,2,none⟩) hp).trans h.2.2.2.2.1,(hB.cell (p:=⟨p,3,none⟩) hp).trans h.2.2.2.2.2⟩
theorem MB {T:List Nd} {B:Nat} {nv:Value} {ub ob:Nat} (b node f:Nat) (h:Nd) (loop:Int) (pa la:Option Addr) (lc ln:Nat) (ms:List Nat) (st:aI) (w:World) (hT:vW w B nv T) (hw:jI w B b nv T.length st ub ob) (hx:T[node]? = some h) (hc:oO w B (dB f st.frames) ms (.pointer pa)) (hs:h.s.size≤maxLen) :
  Calls Tryz.prog 39 #[.pointer (some ⟨b,0,none⟩),.int .i64 (node:Int),.agg #[.int .i64 (f:Int),.int .i64 loop,.pointer pa,.slice la ln lc]] w (gH B b nv T.length ub ob (dK node f h.s h.line st st.frames) w):=by
 obtain⟨bk,o,c,rfl,dU,cg,dJ⟩:=hT.nodes;obtain⟨vM,vN,eT,_,_⟩:=dJ node h hx;have jd:node<T.length:=(aK.1 hx).1;have pO:=hT.few;obtain⟨fv,FL,hw⟩:=hw;obtain⟨hbl,ph,sZ⟩:=hw.mQ;have HW:=aa hw;have hb4:=hw.blk;have d0:=ae hb4 0;replace d0:_=some (Value.slice (some ⟨bk,o,none⟩) T.length c):=d0;have d4:=Sp eT;have gT:bk<w.heap.size:=by omega
 have HT:=aa hT;have HX:=aa hx;obtain⟨fs,vY⟩ :∃fs,fs=(dB f st.frames).map KI:=⟨_,rfl⟩;have Wi:=aa vY;replace hc:cb w B fs ms (.pointer pa):=vY▸hc;have Ss:Ma fs:=vY▸AQ _;have yC:Hid (∀W,Below w.heap.size w W→Calls Tryz.prog 78 #[.pointer pa,.string h.s] W fun e w'=>∃Su a d,e=.returned (.tuple #[.pointer Su,.agg #[.int .i64 a,.int .i64 d]])∧gz W h.s fs (.pointer Su) (.agg #[.int .i64 a,.int .i64 d])∧Below W.heap.size W w'):=aa fun W hW=>AE fs ms _ h.s W (hc.later hW) hs Ss
 clear hw hT hx eT dJ hb4 hc Ss vY;go_enter Tryz.func39,Tryz.ntmps39
 go_wp2_with fail
 have ee:=aa ((Below.refl w.heap.size w).alloc (ah _) (.cells #[.int .i64 (f:Int),.int .i64 loop,.pointer pa,.slice la ln lc] 69));have eM:=heap_alloc_new w (.cells #[.int .i64 (f:Int),.int .i64 loop,.pointer pa,.slice la ln lc] 69);have x0:=ae eM 0;have x1:=ae eM 1;have x2:=ae eM 2;have x3:=ae eM 3;replace x0:_=some (Value.int .i64 (f:Int)):=x0;replace x1:_=some (Value.int .i64 loop):=x1;replace x2:_=some (Value.pointer pa):=x2;replace x3:_=some (Value.slice la ln lc):=x3;have e0:=(ee.out.cell (p:=⟨b,0,none⟩) hbl).trans d0;have e4:=(ee.out.cell (p:=⟨bk,o+node*7+4,none⟩) gT).trans d4;have hs1:(w.alloc (.cells #[.int .i64 (f:Int),.int .i64 loop,.pointer pa,.slice la ln lc] 69)).heap.size=w.heap.size+1:=aq _ _;generalize w.alloc (.cells #[.int .i64 (f:Int),.int .i64 loop,.pointer pa,.slice la ln lc] 69)=W1 at *;have fH:=aa hs1;clear d0 d4 eM hs1;have kk:Hid (W1.cell? ⟨b,0,none⟩=some (.slice (some ⟨bk,o,none⟩) T.length c)∧W1.cell? ⟨bk,o+node*7+4,none⟩=some (.string h.s)∧W1.cell? ⟨w.heap.size,0,none⟩=some (.int .i64 (f:Int))∧W1.cell? ⟨w.heap.size,1,none⟩=some (.int .i64 loop)∧W1.cell? ⟨w.heap.size,2,none⟩=some (.pointer pa)∧W1.cell? ⟨w.heap.size,3,none⟩=some (.slice la ln lc)):=aa ⟨e0,e4,x0,x1,x2,x3⟩;have hb1:b<W1.heap.size:=(by have:=fH.out;omega)
 have iR:bk<W1.heap.size:=(by have:=fH.out;omega)
 have ec:w.heap.size<W1.heap.size:=(by have:=fH.out;omega)
 have lX:w.heap.size≤W1.heap.size:=fu ec;have Ds:b≠W1.heap.size:=jC hb1;have oQ:bk≠W1.heap.size:=jC iR;have Yo:w.heap.size≠W1.heap.size:=jC ec;have s6:B≤W1.heap.size:=aL cg lX;go_region_held3 (fun w'=>w'.cell? ⟨b,0,none⟩=some (.slice (some ⟨bk,o,none⟩) T.length c)∧w'.cell? ⟨bk,o+node*7+4,none⟩=some (.string h.s)∧w'.cell? ⟨w.heap.size,0,none⟩=some (.int .i64 (f:Int))∧w'.cell? ⟨w.heap.size,1,none⟩=some (.int .i64 loop)∧w'.cell? ⟨w.heap.size,2,none⟩=some (.pointer pa)∧w'.cell? ⟨w.heap.size,3,none⟩=some (.slice la ln lc))
  (first|exact kk.out|exact qk kk.out hb1 iR ec _|exact yB kk.out Ds oQ Yo _ _)
  (first
   | (go_at_call 78;refine(yC.out W1.drew ee.out.drew).mono ?_;rintro e w2 ⟨Su,a,d,rfl,mC,s9⟩;have B2:=aa (dw s9);have F2:=aa (mC.MA.later (dw s9));have kk:=aa (AR kk.out hb1 iR ec (dw s9));have hb1:b<w2.heap.size:=cG hb1 B2.out.size;have iR:bk<w2.heap.size:=cG iR B2.out.size;have ec:w.heap.size<w2.heap.size:=cG ec B2.out.size;clear s9 mC)
   | (go_at_call 78;refine(yC.out (W1.alloc (.cells #[.int .i64 0,.int .i64 0] 154)).drew (ee.out.alloc lX _).drew).mono ?_;rintro e w2 ⟨Su,a,d,rfl,mC,s9⟩;have hbb:=iA s9;have B2:=aa (((Below.refl _ W1).alloc (ah _) (.cells #[.int .i64 0,.int .i64 0] 154)).trans (hbb.mono (by rw[aq];omega)));have F2:=aa (mC.MA.later hbb);have N2:=aa mC.old;have hz2:=(hbb.block W1.heap.size (by rw[aq];omega)).trans (heap_alloc_new W1 (.cells #[.int .i64 0,.int .i64 0] 154));have q0:=gK hz2;have q1:=gL hz2;have q2:=aH hz2 0;have q3:=aH hz2 1;have Z2:=aa hz2;have kk:=aa (AR kk.out hb1 iR ec B2.out);clear s9 mC hz2 hbb))
 ·have HJ:=aa (acT ee.out B2.out F2.out lX)
  generalize w2.alloc (.cells #[.int .i64 a,.int .i64 d] 154)=W5 at HJ ⊢;generalize w2.heap.size=g at HJ ⊢;clear B2 F2 yC ee fH kk e0 e4 x0 x1 x2 x3;have j0:=HJ.out.c0;have j1:=HJ.out.c1;have jm:=HW.out.later HJ.out.below;obtain⟨qn,hl2,KJ⟩:=jm.mQ;have re:=HJ.out.lt;have Mv:=aa (HT.out.below (HJ.out.below.mono cg));have Mw:=aa (ae jm.blk 0);have MC:B≤W5.heap.size:=aL cg HJ.out.below.size;have d2:W5.cell? ⟨b,2,none⟩=some (.slice (some ⟨ub,0,none⟩) T.length T.length):=ae jm.blk 2;obtain⟨u0,v0⟩:=cf jm.uses (j:=node*2) (by omega)
  obtain⟨u1,v1⟩:=cf jm.uses (j:=node*2+1) (by omega)
  have qo:=aa jm;clear jm;cases ql:fs.find? (fun x=>(x.2.2 h.s).isSome) with
  | none =>
   have hp:=HJ.out.fnd.no ql;subst hp;have HE:=aa (xd (node:=node) (line:=h.line) (Wi.out▸ql));clear ql d2 u0 v0 u1 v1;go_wp2_with fail
   refine(eC b node _ _ _ Mv.out Mw.out HX.out).mono ?_;rintro e w6 ⟨v,rfl,⟨g2,rfl⟩,h1,h2⟩;have H1:=aa h1;have H2:=aa h2;clear h1 h2;go_wp2_with fail
   go_ret
   rw[HE.out];exact iJ (HJ.out.below.mono cg) MC H2.out H1.out
  | some x =>
   obtain⟨kb,hp,hxs,hk2,wU⟩:=HJ.out.fnd.yes ql;subst hp;have HE:=aa (xe (node:=node) (line:=h.line) (Wi.out▸ql) hxs);clear ql hxs;by_cases hlt:(x.1:Int)<d
   ·have g1:decide ((x.1:Int)<d)=true:=bQ hlt
    have HL:=aa hlt;clear hlt d2 u0 v0 u1 v1;go_wp2_with fail
    go_region
    go_wp2_with fail
    refine(eC b node _ _ _ (Mv.out.below (Below.refl _ _).drew) Mw.out HX.out).mono ?_;rintro e w6 ⟨v,rfl,⟨g2,rfl⟩,h1,h2⟩;have H1:=aa h1;have H2:=aa h2;clear h1 h2;go_wp2_with fail
    go_ret
    rw[HE.out,ai HL.out];exact iJ (HJ.out.below.mono cg).drew MC H2.out H1.out
   ·have g1:decide ((x.1:Int)<d)=false:=bZ hlt
    have HL:=aa hlt;clear hlt;go_wp2_with fail
    go_region
    go_wp2_with fail
    go_region
    go_wp2_with fail
    go_ret
    rw[HE.out,ab (Int.not_lt.2 HL.out)];exact⟨(((HJ.out.below.mono cg).drew.setCell (p:=⟨ub,node*2,none⟩) qo.out.jc.1 _).setCell (p:=⟨ub,node*2+1,none⟩) qo.out.jc.1 _).drew,rfl,⟨_,_,(qo.out.drew.use node (4,a)).drew⟩,((Fr.af HJ.out.below).drew.trans ((lS qo.out.drew node _ _).mono (by decide))).drew⟩
 ·have HJ:=aa (acU ee.out B2.out F2.out N2.out lX Z2.out)
  generalize (w2.setCell ⟨W1.heap.size,0,none⟩ (.int .i64 a)).setCell ⟨W1.heap.size,1,none⟩ (.int .i64 d)=W5 at HJ ⊢;generalize W1.heap.size=g at HJ ⊢;clear q0 q1 q2 q3 Z2 N2 B2 F2 yC ee fH kk e0 e4 x0 x1 x2 x3;have j0:=HJ.out.c0;have j1:=HJ.out.c1;have jm:=HW.out.later HJ.out.below;obtain⟨qn,hl2,KJ⟩:=jm.mQ;have re:=HJ.out.lt;have Mv:=aa (HT.out.below (HJ.out.below.mono cg));have Mw:=aa (ae jm.blk 0);have MC:B≤W5.heap.size:=aL cg HJ.out.below.size;have d2:W5.cell? ⟨b,2,none⟩=some (.slice (some ⟨ub,0,none⟩) T.length T.length):=ae jm.blk 2;obtain⟨u0,v0⟩:=cf jm.uses (j:=node*2) (by omega)
  obtain⟨u1,v1⟩:=cf jm.uses (j:=node*2+1) (by omega)
  have qo:=aa jm;clear jm;cases ql:fs.find? (fun x=>(x.2.2 h.s).isSome) with
  | none =>
   have hp:=HJ.out.fnd.no ql;subst hp;have HE:=aa (xd (node:=node) (line:=h.line) (Wi.out▸ql));clear ql d2 u0 v0 u1 v1;go_wp2_with fail
   refine(eC b node _ _ _ Mv.out Mw.out HX.out).mono ?_;rintro e w6 ⟨v,rfl,⟨g2,rfl⟩,h1,h2⟩;have H1:=aa h1;have H2:=aa h2;clear h1 h2;go_wp2_with fail
   go_ret
   rw[HE.out];exact iJ (HJ.out.below.mono cg) MC H2.out H1.out
  | some x =>
   obtain⟨kb,hp,hxs,hk2,wU⟩:=HJ.out.fnd.yes ql;subst hp;have HE:=aa (xe (node:=node) (line:=h.line) (Wi.out▸ql) hxs);clear ql hxs;by_cases hlt:(x.1:Int)<d
   ·have g1:decide ((x.1:Int)<d)=true:=bQ hlt
    have HL:=aa hlt;clear hlt d2 u0 v0 u1 v1;go_wp2_with fail
    go_region
    go_wp2_with fail
    refine(eC b node _ _ _ (Mv.out.below (Below.refl _ _).drew) Mw.out HX.out).mono ?_;rintro e w6 ⟨v,rfl,⟨g2,rfl⟩,h1,h2⟩;have H1:=aa h1;have H2:=aa h2;clear h1 h2;go_wp2_with fail
    go_ret
    rw[HE.out,ai HL.out];exact iJ (HJ.out.below.mono cg).drew MC H2.out H1.out
   ·have g1:decide ((x.1:Int)<d)=false:=bZ hlt
    have HL:=aa hlt;clear hlt;go_wp2_with fail
    go_region
    go_wp2_with fail
    go_region
    go_wp2_with fail
    go_ret
    rw[HE.out,ab (Int.not_lt.2 HL.out)];exact⟨(((HJ.out.below.mono cg).drew.setCell (p:=⟨ub,node*2,none⟩) qo.out.jc.1 _).setCell (p:=⟨ub,node*2+1,none⟩) qo.out.jc.1 _).drew,rfl,⟨_,_,(qo.out.drew.use node (4,a)).drew⟩,((Fr.af HJ.out.below).drew.trans ((lS qo.out.drew node _ _).mono (by decide))).drew⟩
end Go.Proofs.YtodmcdfeldkocaaGreatDoor
