/- Parts of the proof. -/
import Derived.RangeFuncNested
import Derived.RangeFuncBound
import Derived.RangeFuncCalls
import Derived.RangeFuncLeaves
import Derived.Shelf.Abstract
import Derived.OwnWalkIn
import Derived.TacticsInMore
import Derived.LoopNIn
import Derived.LoopIn
import Derived.Test.YteflkdlaoiijbaaGreatDoorB10
set_option maxHeartbeats 16000000
set_option maxRecDepth 20000
namespace Go.Proofs.YteflkdlaoiijbaaGreatDoor
open Go.RowKit
theorem Fr.past {E:List Nat} {W W2 X:World} (h:Fr E W W2) (hk :∀k,k<W.heap.size→X.heap[k]? = W2.heap[k]?) (hs:W2.heap.size≤X.heap.size):Fr E W X :=
 ⟨aK h.size hs,fun k c e fz hc he=>(hk k (aJ.1 hc).1).trans (h.cells k c e fz hc he),fun k o hc ho=>(hk k (aJ.1 hc).1).trans (h.others k o hc ho)⟩
theorem e8.fV {W:World} {B b:Nat} {nv:Value} {N:Nat} {st:aG} {fv:Value} {ub ob:Nat} {L:List mP} (h:e8 W B b nv N st fv ub ob L) {r:Nat} (hr:vV W r 57) (hne:r≠ub) (j:Nat) (v:Value):e8 (W.setCell ⟨r,j,none⟩ v) B b nv N st fv ub ob L:=by
 have k:Fr [57] W (W.setCell ⟨r,j,none⟩ v):=hr.fr (by decide) j v
 exact⟨k.cells b _ _ _ h.blk (by decide),⟨k.row h.fns.row (by decide),fun t ht=>k.row (h.fns.vars t ht) (by decide),fun t ht=>k.row (h.fns.bR t ht) (by decide),h.fns.pM,h.fns.qG⟩,h.are,(re.set W r j v).row h.uses (fun g hg e=>hne (by injection hg with hg;injection e with e;exact e.trans hg.symm)),k.row h.wq (by decide),h.pos⟩
theorem jV.fV {W:World} {B b:Nat} {nv:Value} {N:Nat} {st:aG} {ub ob:Nat} (h:jV W B b nv N st ub ob) {r:Nat} (hr:vV W r 57) (hne:r≠ub) (j:Nat) (v:Value):jV (W.setCell ⟨r,j,none⟩ v) B b nv N st ub ob:=by
 obtain⟨fv,L,h⟩:=h;exact⟨fv,L,h.fV hr hne j v⟩
theorem jV.alloc {W:World} {B b:Nat} {nv:Value} {N:Nat} {st:aG} {ub ob:Nat} (h:jV W B b nv N st ub ob) (o:Obj):jV (W.alloc o) B b nv N st ub ob:=by
 obtain⟨fv,L,h⟩:=h;exact⟨fv,L,h.alloc o⟩
theorem zi {W:World} {r:Nat} {x y:Value} {ty:TypeId} (h:W.heap[r]? = some (.cells #[x,y] ty (0,0))) (a c:Value):((W.setCell ⟨r,0,none⟩ a).setCell ⟨r,1,none⟩ c).heap[r]? = some (.cells #[a,c] ty (0,0)):=by
 simpa using bn (bn h 0 a) 1 c
theorem qJ (W:World) (r:Nat) (a c:Value) (k:Nat) (hk:k≠r):((W.setCell ⟨r,0,none⟩ a).setCell ⟨r,1,none⟩ c).heap[k]? = W.heap[k]?:=by
 rw[Below.heap_setCell _ _ _ k hk,Below.heap_setCell _ _ _ k hk]
theorem n7 (W:World) (r:Nat) (a c:Value):((W.setCell ⟨r,0,none⟩ a).setCell ⟨r,1,none⟩ c).heap.size=W.heap.size:=by simp[World.setCell]
def gd (n:ju) (F:List cR):List cR:=F.set n.fn (cQ (F.getD n.fn ⟨0,0,0,false,[],[]⟩) n.i)
theorem BQ (x:cR) (i:Nat):cQ (cQ x i) i=cQ x i:=by
 cases h:x.vars[i]? with
 | none =>
  have e:cQ x i=x:=by unfold cQ;rw[h]
  rw[e,e]
 | some v =>
  have hl:=(aL.1 h).1;have e:cQ x i={ x with vars:=x.vars.set i { v with cap:=true}}:=by unfold cQ;rw[h]
  rw[e];unfold cQ;dsimp only
  rw[dU hl];dsimp only
  rw[List.set_set]
theorem Ed (n:ju) (F:List cR):gd n (gd n F)=gd n F:=by
 by_cases h:n.fn<F.length
 ·unfold gd
  have e:(F.set n.fn (cQ (F.getD n.fn ⟨0,0,0,false,[],[]⟩) n.i)).getD n.fn ⟨0,0,0,false,[],[]⟩=cQ (F.getD n.fn ⟨0,0,0,false,[],[]⟩) n.i:=by
   rw[j5,dU h];rfl
  rw[e,BQ,List.set_set]
 ·have e:gd n F=F:=by unfold gd;rw[Ez (by omega)]
  rw[e,e]
theorem BU {n:ju} {F:List cR} {y:cR} (h:F[n.fn]? = some y):va F (gd n F):=by
 unfold gd;rw[gL h];exact .set h (qz y n.i)
theorem zj {n:ju} {F:List cR} {y:cR} (hF:CD F) (h:F[n.fn]? = some y):CD (gd n F):=by
 unfold gd;rw[gL h];exact hF.set h (qz y n.i)
theorem vD {n:ju} {F:List cR} (hF:dA F):dA (gd n F):=by
 unfold gd;exact hF.set ⟨by rw[(rT _ _).1];exact(hF.getD n.fn).1,by rw[(rT _ _).2];exact(hF.getD n.fn).2⟩
theorem n9 (n:ju) (F:List cR):(gd n F).length=F.length:=by unfold gd;simp
theorem UK {F:List cR} {f:Nat} {x:cR} (h:F[f]? = some x) {n:ju} (he:f≠n.fn):(gd n F)[f]? = some x:=by
 unfold gd;rw[fJ (fun e=>he e.symm)]
 exact h
def fD (n:ju) (g f:Nat) (F:List cR):Option (List cR×Int×Nat) :=
 if f=n.fn then some (F,2,n.i) else (mc n g (gd n F) f).map fun r=>(r.1,3,r.2)
theorem JE {n:ju} {g f p:Nat} {F:List cR} {x:cR} (hx:F[f]? = some x) (hp:x.parent=(p:Int)) (he:f≠n.fn):mc n (g+1) (gd n F) f=(fD n g p (gd n F)).bind fun r=>gJ r.1 f ⟨decide (r.2.1=2),r.2.2⟩:=by
 rw[mc];simp only[gL (UK hx he),hp];unfold fD;by_cases h:p=n.fn
 ·subst h
  rw[ak rfl,ak rfl];rfl
 ·rw[af (by omega),af h,Ed,iJ]
  cases mc n g (gd n F) p with
  | none=>rfl
  | some r=>rfl
theorem Pq {n:ju} {g f:Nat} {F F':List cR} {kd:Int} {i:Nat} (h:fD n g f F=some (F',kd,i)) (hF:CD F) (mo:dA F) (ha:OC F n.fn f) (hf:f<F.length) (hv :∃y v,F[n.fn]? = some y∧y.vars[n.i]? = some v∧v.name=n.s):va F F'∧CD F'∧dA F'∧F'.length=F.length:=by
 unfold fD at h;by_cases he:f=n.fn
 ·rw[ak he] at h
  injection h with h;injection h with h _;subst h;exact⟨.refl _,hF,mo,rfl⟩
 ·rw[af he] at h
  cases hu:mc n g (gd n F) f with
  | none=>rw[hu] at h;cases h
  | some r =>
   obtain⟨F1,k⟩:=r;rw[hu] at h;injection h with h;injection h with h _;have h:F1=F':=h;subst h;obtain⟨y,v,h1,h2,h3⟩:=hv;have hyl:=(aL.1 h1).1;have hG:=BU h1;have hc:(gd n F)[n.fn]? = some (cQ y n.i):=by
    unfold gd;rw[gL h1,dU hyl]
   obtain⟨a1,a2,a3,_⟩:=FV g hu (zj hF h1) (ha.ext hG) (fun e=>he e.symm) (by rw[n9];exact hf) ⟨cQ y n.i,{ v with cap:=true},hc,by
    unfold cQ;rw[h2];exact dU (aL.1 h2).1,h3,rfl⟩
   obtain⟨b1,b2⟩:=Bz g hu (vD mo);exact⟨hG.trans a1,a2,b1,by rw[a3,n9]⟩
def Pr (B b:Nat) (nv:Value) (N ub ob:Nat) (st:aG) (r:Option (List cR×Int×Nat)) (w:World) (e:Ending) (w':World):Prop :=
 Below B w w'∧Fr [52,61,59] w w'∧match r with
 | some (F,k,i)=>e=.returned (.tuple #[.agg #[.int .i64 k,.int .i64 (i:Int)],.nilIface])∧jV w' B b nv N { st with fns:=F} ub ob
 | none=>e=.returned (.tuple #[.agg #[.int .i64 0,.int .i64 0],.iface 79 (.int .i64 12)])
theorem Ps {B:Nat} {nv:Value} {N ub ob:Nat} (b:Nat) (n:ju) :∀(g f:Nat) (st:aG) (w:World),f<g→jV w B b nv N st ub ob→CD st.fns→dA st.fns→OC st.fns n.fn f→(∃y v,st.fns[n.fn]? = some y∧y.vars[n.i]? = some v∧v.name=n.s)→f<st.fns.length→st.fns.length≤100000 →
  Calls Tryz.prog 161 #[.pointer (some ⟨b,0,none⟩),.int .i64 (f:Int),.int .i64 (n.fn:Int),.int .i64 (n.i:Int)] w (Pr B b nv N ub ob st (fD n g f st.fns) w):=by
 intro g;induction g with
 | zero=>intro f st w hfg;exact absurd hfg (jz _)
 | succ g ih =>
  intro f st w hfg hw CY mo Ef hv hf Pj;by_cases he:f=n.fn
  ·have HE:Hid (fD n (g+1) f st.fns=some (st.fns,2,n.i)):=aa (by unfold fD;rw[ak he])
   have g1:((f:Int) == (n.fn:Int))=true:=wM.2 (by omega)
   obtain⟨fv,FL,hw⟩:=hw;obtain⟨hbl,oN,s9⟩:=hw.mV;have ca:B≤w.heap.size:=aK hw.pos (fx hbl);have HW:=aa hw;clear hw Ef hv ih he hfg;go_enter Tryz.func161,Tryz.ntmps161
   go_wp2_with fail
   have k0:=dC w #[.int .i64 2,.int .i64 (n.i:Int)] 57 0;have k1:=dC w #[.int .i64 2,.int .i64 (n.i:Int)] 57 1;replace k0:_=some (Value.int .i64 2):=k0;replace k1:_=some (Value.int .i64 (n.i:Int)):=k1;refine bodyPost_ret (v:=.tuple #[.agg #[.int .i64 2,.int .i64 (n.i:Int)],.nilIface]) (by simp[results,Tryz.results161,go_sem,k0,k1]) rfl ?_
   refine⟨(Below.refl B w).alloc ca _,Fr.alloc _,?_⟩;rw[HE.out];exact⟨rfl,_,_,HW.out.alloc _⟩
  ·have g1:((f:Int) == (n.fn:Int))=false:=aE.2 (by omega)
   obtain⟨fv,FL,hw⟩:=hw;obtain⟨hbl,oN,s9⟩:=hw.mV;have ca:B≤w.heap.size:=aK hw.pos (fx hbl);have xt:=hw.len;obtain⟨y,v,hy,hyv,Uq⟩:=hv;have adz:=(aL.1 hy).1;obtain⟨⟨t1,tv,tu⟩,ht⟩:=hw.BG hf;obtain⟨⟨y1,yv,yu⟩,H7⟩:=hw.BG adz;obtain⟨vB,_⟩:=hw.sT ht;obtain⟨hys,_⟩:=hw.sT H7;simp only at vB hys;obtain rfl:y1=y:=by rw[hy] at hys;injection hys with hys;exact hys.symm
   obtain⟨gf,c,rfl,Zz,rr,te⟩:=hw.fns.form ht;obtain⟨g',c',pN,_,_,AK⟩:=hw.fns.form H7;injection pN with pN _ hcc;injection pN with pN;injection pN with pN _ _;subst pN hcc;have hvl:=(aL.1 hyv).1;obtain⟨VA,vc,WG,WH,hvr⟩:=dy (hw.fns.vars _ (ba H7));simp only at WG WH hvr;subst WG;rcases hvr with h0 | ⟨gv,rfl,adA,hgvl,aby⟩
   ·omega
   have d1:w.cell? ⟨b,1,none⟩=some (.slice (some ⟨gf,0,none⟩) FL.length c):=ab hw.blk 1;have e4:w.cell? ⟨gf,n.fn*6+4,none⟩=some (.slice (some ⟨gv,0,none⟩) y1.vars.length vc):=(AK 4 (by omega)).1
   have v2:w.cell? ⟨gv,n.i*3+2,none⟩=some (.bool v.cap):=(aby (n.i*3+2) (by omega)).trans (fU qE y1.vars n.i 2 v hyv (by omega))
   have f2:=World.ownsRow.frozenAt (hw.fns.vars _ (ba H7)) (n.i*3+2);have Ub:f≠0:=fun e=>by
    cases Ef with
    | same=>exact he rfl
    | up h1 h2 _ =>
     rcases(CY.each _ _ h1).par with ⟨_,h3⟩ | ⟨q,_,h3⟩
     ·omega
     ·omega
   obtain⟨p,hp,hpf,yp,hyp⟩:=CY.par vB Ub;have e1:w.cell? ⟨gf,f*6+1,none⟩=some (.int .i64 (p:Int)):=by rw[←hp];exact(te 1 (by omega)).1
   have WI:OC st.fns n.fn p:=by
    cases Ef with
    | same=>exact absurd rfl he
    | up h1 h2 h3 =>
     rw[vB] at h1;injection h1 with h1;subst h1;rw[hp] at h2;have:=Int.ofNat.inj h2;rw[this];exact h3
   have hHE:fD n (g+1) f st.fns=(mc n (g+1) (gd n st.fns) f).map fun r=>(r.1,3,r.2):=by unfold fD;rw[af he]
   have HE:=aa (hHE.trans (by rw[JE vB hp he]))
   have BH:=hw.cap H7 hyv;have hst:st.pd n.fn (cQ y1 n.i)={ st with fns:=gd n st.fns}:=by unfold aG.pd gd;rw[gL hy]
   rw[hst] at BH;have adB:=aa BH;have jG:n.fn<FL.length:=by omega
   have hfL:f<FL.length:=by omega
   have hfl2:FL.length≤100000:=by omega
   have hvl2:y1.vars.length≤200:=(mo n.fn y1 hy).1;have tN:=aa ih;have Ix:=aa CY;have UL:=aa mo;have HY:=aa hy;have HYV:=aa hyv;have abz:=aa WI;have HP:=aa hp;have Kt:=aa vB;have HW:=aa hw;have HK:=aa (Lib.ownsRow_kind (hw.fns.vars _ (ba H7)) gv rfl);clear hw ih CY mo hy hyv Ef WI hp vB ht H7 te AK aby hHE BH hst hyp hys xt;go_enter Tryz.func161,Tryz.ntmps161
   go_wp2_with fail
   obtain⟨st1,ZF⟩ :∃s1:aG,s1={ st with fns:=gd n st.fns}:=⟨_,rfl⟩;have ZG:st1.fns=gd n st.fns:=by rw[ZF]
   have jg:Hid (jV ((w.setCell ⟨gv,n.i*3+2,none⟩ (.bool true)).alloc (.cells #[.int .i64 0,.int .i64 0] 57)) B b nv N st1 ub ob):=aa (by rw[ZF];exact⟨_,_,adB.out.alloc _⟩)
   have fA:Hid (Fr [52,61,59] w ((w.setCell ⟨gv,n.i*3+2,none⟩ (.bool true)).alloc (.cells #[.int .i64 0,.int .i64 0] 57))):=aa (by obtain⟨cs,fz,h⟩:=HK.out;exact(Fr.set h (by decide) _ _).trans (Fr.alloc _))
   have dK:Hid (Below B w ((w.setCell ⟨gv,n.i*3+2,none⟩ (.bool true)).alloc (.cells #[.int .i64 0,.int .i64 0] 57))):=aa (((Below.refl B w).setCell (p:=⟨gv,n.i*3+2,none⟩) adA _).alloc (by simp;omega) _)
   have HZ1:Hid (((w.setCell ⟨gv,n.i*3+2,none⟩ (.bool true)).alloc (.cells #[.int .i64 0,.int .i64 0] 57)).heap[w.heap.size]? = some (.cells #[.int .i64 0,.int .i64 0] 57 (0,0))):=aa (by have:=heap_alloc_new (w.setCell ⟨gv,n.i*3+2,none⟩ (.bool true)) (.cells #[.int .i64 0,.int .i64 0] 57);simpa using this)
   generalize (w.setCell ⟨gv,n.i*3+2,none⟩ (.bool true)).alloc (.cells #[.int .i64 0,.int .i64 0] 57)=W1 at *;have hG1:va st.fns st1.fns:=by rw[ZG];exact BU HY.out
   refine(tN.out p st1 W1 (by omega) jg.out (by rw[ZG];exact zj Ix.out HY.out) (by rw[ZG];exact vD UL.out) (abz.out.ext hG1) ?_ (by rw[ZG,n9];omega) (by rw[ZG,n9];omega)).mono ?_
   ·obtain⟨y',h1,h2⟩:=hG1.2 _ _ HY.out
    obtain⟨v',h3,h4,_⟩:=h2.vars _ _ HYV.out;exact⟨y',v',h1,h3,h4.trans Uq⟩
   rw[ZG];cases hM:fD n g p (gd n st.fns) with
   | none =>
    rintro e w2 ⟨b2,f2,rfl⟩;have Rp:Hid (fD n (g+1) f st.fns=none):=aa (by rw[HE.out,hM];rfl)
    have hz2:=f2.cells _ _ _ _ HZ1.out (by decide)
    have hl2:w.heap.size<w2.heap.size:=(aJ.1 hz2).1;have y0:=ab hz2 0;have y1:=ab hz2 1;have z0:=aw hz2 0;have z1:=aw hz2 1;replace y0:_=some (Value.int .i64 0):=y0;replace y1:_=some (Value.int .i64 0):=y1;have pj:=aa (dK.out.trans b2);have l9:=aa (fA.out.trans f2);have HZ2:=aa hz2;clear b2 f2 hz2 hM HE;go_wp2_with fail
    have hq:=(Below.heap_alloc ((w2.setCell ⟨w.heap.size,0,none⟩ (.int .i64 0)).setCell ⟨w.heap.size,1,none⟩ (.int .i64 0)) (.cells #[.int .i64 0,.int .i64 0] 57) w.heap.size (by rw[n7];exact hl2)).trans (zi HZ2.out (.int .i64 0) (.int .i64 0))
    have q0:=ab hq 0;have q1:=ab hq 1;replace q0:_=some (Value.int .i64 0):=q0;replace q1:_=some (Value.int .i64 0):=q1;refine bodyPost_ret (v:=.tuple #[.agg #[.int .i64 0,.int .i64 0],.iface 79 (.int .i64 12)]) (by simp[results,Tryz.results161,go_sem,q0,q1]) rfl ?_
    refine⟨((pj.out.setCell (p:=⟨w.heap.size,0,none⟩) ca _).setCell (p:=⟨w.heap.size,1,none⟩) ca _).alloc (by rw[n7];omega) _,l9.out.past (fun k hk=>?_) ?_,?_⟩
    ·exact(Below.heap_alloc _ _ k (by rw[n7];omega)).trans (qJ w2 w.heap.size _ _ k (by omega))
    ·rw[an,n7];omega
    ·rw[Rp.out]
   | some r =>
    obtain⟨F2,kd,i2⟩:=r;rintro e w2 ⟨b2,f2,rfl,hw2⟩;have Rp:Hid (fD n (g+1) f st.fns=(gJ F2 f ⟨decide (kd=2),i2⟩).map fun r=>(r.1,3,r.2)):=aa (by rw[HE.out,hM];rfl)
    have hFL:va st.fns F2∧dA F2:=by
     obtain⟨y',q1,q2⟩:=hG1.2 _ _ HY.out;obtain⟨v',q3,q4,_⟩:=q2.vars _ _ HYV.out;rw[ZG] at hG1 q1;obtain⟨a1,_,a3,_⟩:=Pq hM (zj Ix.out HY.out) (vD UL.out) (abz.out.ext hG1) (by rw[n9];omega) ⟨y',v',q1,q3,q4.trans Uq⟩
     exact⟨hG1.trans a1,a3⟩
    have hz2:=f2.cells _ _ _ _ HZ1.out (by decide)
    have hl2:w.heap.size<w2.heap.size:=(aJ.1 hz2).1;have HZ3:=aa ((Below.heap_alloc w2 (.cells #[.int .i64 kd,.int .i64 (i2:Int)] 57) w.heap.size hl2).trans hz2);have yN:=aa ((dK.out.trans b2).alloc (by omega) (.cells #[.int .i64 kd,.int .i64 (i2:Int)] 57))
    have FI:=aa ((fA.out.trans f2).trans (Fr.alloc (.cells #[.int .i64 kd,.int .i64 (i2:Int)] 57)));have g2:(kd == 2)=decide (kd=2):=rfl;obtain⟨st2,ZH⟩ :∃s2:aG,s2={ st1 with fns:=F2}:=⟨_,rfl⟩;rw[←ZH] at hw2;have e2f:st2.fns=F2:=by rw[ZH]
    have SN:=aa (hw2.alloc (.cells #[.int .i64 kd,.int .i64 (i2:Int)] 57));clear b2 f2 hz2 hM HE hw2;go_wp2_with fail
    have Km:w.heap.size<(w2.alloc (.cells #[.int .i64 kd,.int .i64 (i2:Int)] 57)).heap.size:=by rw[an];omega
    have x0:=dC w2 #[.int .i64 kd,.int .i64 (i2:Int)] 57 0;have x1:=dC w2 #[.int .i64 kd,.int .i64 (i2:Int)] 57 1;generalize w2.alloc (.cells #[.int .i64 kd,.int .i64 (i2:Int)] 57)=W3 at *;refine(BP b f ⟨decide (kd=2),i2⟩ st2 W3 SN.out (by rw[e2f];have:=hFL.1.1;omega) (by rw[e2f];exact hFL.2)).mono ?_
    rw[e2f];cases hU:gJ F2 f ⟨decide (kd=2),i2⟩ with
    | none =>
     rintro e w4 ⟨b4,f4,rfl⟩;have HE4:Hid (fD n (g+1) f st.fns=none):=aa (by rw[Rp.out,hU];rfl)
     have CF:=f4.cells _ _ _ _ HZ3.out (by decide)
     have hl4:w.heap.size<w4.heap.size:=(aJ.1 CF).1;have y0:=ab CF 0;have y1:=ab CF 1;have z0:=aw CF 0;have z1:=aw CF 1;replace y0:_=some (Value.int .i64 0):=y0;replace y1:_=some (Value.int .i64 0):=y1;have Rr:=aa (yN.out.trans b4);have HF4:=aa (FI.out.trans f4);have hq:=zi CF (.int .i64 0) (.int .i64 0);have q0:=ab hq 0;have q1:=ab hq 1;replace q0:_=some (Value.int .i64 0):=q0;replace q1:_=some (Value.int .i64 0):=q1;clear b4 f4 CF hU Rp x0 x1 hq;go_wp2_with fail
     refine bodyPost_ret (v:=.tuple #[.agg #[.int .i64 0,.int .i64 0],.iface 79 (.int .i64 12)]) (by simp[results,Tryz.results161,go_sem,q0,q1]) rfl ?_
     refine⟨(Rr.out.setCell (p:=⟨w.heap.size,0,none⟩) ca _).setCell (p:=⟨w.heap.size,1,none⟩) ca _,HF4.out.past (fun k hk=>qJ w4 w.heap.size _ _ k (by omega)) (by rw[n7];omega),?_⟩
     rw[HE4.out]
    | some r =>
     obtain⟨F4,k4⟩:=r;rintro e w4 ⟨b4,f4,rfl,hw4⟩;have HE4:Hid (fD n (g+1) f st.fns=some (F4,3,k4)):=aa (by rw[Rp.out,hU];rfl)
     have CF:=f4.cells _ _ _ _ HZ3.out (by decide)
     have hl4:w.heap.size<w4.heap.size:=(aJ.1 CF).1;have y0:=ab CF 0;have y1:=ab CF 1;have z0:=aw CF 0;have z1:=aw CF 1;replace y0:_=some (Value.int .i64 0):=y0;replace y1:_=some (Value.int .i64 0):=y1;have Rr:=aa (yN.out.trans b4);have HF4:=aa (FI.out.trans f4);have HK4:Hid (vV w4 w.heap.size 57):=aa ⟨_,_,CF⟩;have hq:=zi CF (.int .i64 3) (.int .i64 (k4:Int));have q0:=ab hq 0;have q1:=ab hq 1;replace q0:_=some (Value.int .i64 3):=q0;replace q1:_=some (Value.int .i64 (k4:Int)):=q1;rw[ZH,ZF] at hw4;have HW4:=aa hw4;clear b4 f4 CF hU Rp x0 x1 hq hw4;go_wp2_with fail
     refine bodyPost_ret (v:=.tuple #[.agg #[.int .i64 3,.int .i64 (k4:Int)],.nilIface]) (by simp[results,Tryz.results161,go_sem,q0,q1]) rfl ?_
     refine⟨(Rr.out.setCell (p:=⟨w.heap.size,0,none⟩) ca _).setCell (p:=⟨w.heap.size,1,none⟩) ca _,HF4.out.past (fun k hk=>qJ w4 w.heap.size _ _ k (by omega)) (by rw[n7];omega),?_⟩
     rw[HE4.out];exact⟨rfl,(HW4.out.fV HK4.out (by omega) _ _).fV (HK4.out.set _ _ _) (by omega) _ _⟩
end Go.Proofs.YteflkdlaoiijbaaGreatDoor
namespace Go.Proofs.YteflkdlaoiijbaaGreatDoor
open Go.RowKit Go.Shelf
section
attribute [local go_sem] Oper.semAt_some
def tj:List cJ→List (Nat×cJ)
 | []=>[]
 | l::r=>(r.length,l)::tj r
theorem zk :∀L:List cJ,(tj L).length=L.length
 | []=>rfl
 | l::r=>by rw[tj,List.length_cons,List.length_cons,zk r]
theorem Pt :∀(L:List cJ) (k:Nat) (l:cJ),L[k]? = some l→(tj L)[k]? = some (L.length-1-k,l)
 | [],_,_,h=>by simp at h
 | x::r,0,l,h=>by
  injection h with h;subst h;rfl
 | x::r,k+1,l,h=>by
  rw[tj,dT,Pt r k l h,List.length_cons];congr 2
  have:=(aL.1 h).1;simp only[List.length_cons] at this;omega
def UM (x:Nat×cJ):Array Value:=#[.int .i64 (x.1:Int),.agg #[.int .i64 (x.2.fn:Int),.map (some x.2.blk)]]
abbrev UN (L:List cJ):={ x:Nat×cJ // x∈tj L}
theorem ZI {L:List cJ} {k:Nat} {l:cJ} (h:L[k]? = some l) :∃hm,(tj L).attach[k]? = some ⟨(L.length-1-k,l),hm⟩:=by
 have h1:=Pt L k l h;refine⟨ba h1,?_⟩;obtain⟨h2,h3⟩:=aL.1 h1;rw[bH (by rw[KV];exact h2),List.getElem_attach]
 congr 1
 exact Subtype.ext h3
set_option maxRecDepth 100000 in
theorem Pu (F:Fence) (n:Nat) (JF:F.fn 188) (hro:F.round=none) (hn:1≤n) (l Bs n₀ g lc:Nat) (L:List cJ) (hlen:L.length≤1000000) (hg:g<n₀) (hB:Bs<n₀) (J Jx:List (UN L)→World→Prop)
  (hY :∀pre x W,J pre W→pre.length<L.length→YieldAt F (n-1) Tryz.prog l (UM x.1) W fun e W' =>
   (e=.returned (.bool true)∧J (pre++[x]) W'∧Below n₀ W W')∨(e=.returned (.bool false)∧Jx (pre++[x]) W'))
  (W:World) (WJ:W.cell? ⟨Bs,0,none⟩=some (.slice (some ⟨g,0,none⟩) L.length lc)) (hc :∀k x,L[k]? = some x→W.cell? ⟨g,(L.length-1-k)*2,none⟩=some (.int .i64 (x.fn:Int))∧W.cell? ⟨g,(L.length-1-k)*2+1,none⟩=some (.map (some x.blk))) (h0:J [] W) :
  CallsIn F n Tryz.prog 188 #[.func (.yield l) #[] #[],.pointer (some ⟨Bs,0,none⟩)] W fun e W'=>(∃v,e=.returned v) ∧
   ((∃ys,ys=(tj L).attach∧J ys W')∨(∃pre,pre <+: (tj L).attach∧Jx pre W')):=by
 have hwr:=xQ hlen;refine callsIn_of_wp Tryz.func188 rfl JF ?_ hro;simp only[Tryz.ntmps188,EK,List.length_cons,List.length_nil,Nat.reduceAdd,Nat.reduceSub,KM,KN,KZ,KQ,mY,dB];gi_wp2
 gi_loopw [3] (fun i wr=>∃(k:Nat) (z:Int),k≤L.length∧i=.int .i64 z∧z=(L.length:Int)-1-k∧J ((tj L).attach.take k) wr∧Below n₀ W wr)
  (fun i _=>(intOf i+1).toNat)
 case atStart=>exact⟨0,_,bx _,rfl,by omega,h0,Below.refl _ _⟩
 case round =>
  obtain⟨k,z,hk,rfl,hz,hJs,hnx⟩:=hrel;by_cases hlt:k<L.length
  ·obtain⟨x,hx⟩ :∃x,L[k]? = some x:=⟨L[k],bH hlt⟩
   obtain⟨c0,c1⟩:=hc k x hx;obtain⟨i,rfl⟩ :∃i:Nat,z=(i:Int):=⟨L.length-1-k,by omega⟩
   have hi:L.length-1-k=i:=by omega
   rw[hi] at c0 c1;have e0:=(hnx.cell (p:=⟨g,i*2,none⟩) hg).trans c0;have e1:=(hnx.cell (p:=⟨g,i*2+1,none⟩) hg).trans c1;have eb:=(hnx.cell (p:=⟨Bs,0,none⟩) hB).trans WJ;have wu:i<L.length:=by omega
   obtain⟨hm,eQ⟩ :∃hm,(tj L).attach[k]? = some ⟨(i,x),hm⟩:=hi▸ZI hx;obtain⟨fn,tmps,assign,body,hy,hR⟩:=hY _ ⟨(i,x),hm⟩ wr hJs (by rw[my,KV,zk];omega)
   dsimp only[UM] at hy
   have HZ:=aa hz;have hge:decide ((0:Int)≤(i:Int))=true:=bF (by omega)
   clear hz hi;gi_wp2
   have hz:=HZ.out;refine hR.mono ?_;have Xj:(tj L).attach.take (k+1)=(tj L).attach.take k++[⟨(i,x),hm⟩]:=lN _ _ _ eQ;rintro e W3 (⟨rfl,hJ3,hk3⟩ | ⟨rfl,adC⟩)
   ·clear hz
    gi_wp2
    have hz:=HZ.out;go_roundw
    case rel=>exact⟨k+1,(i:Int)-1,by omega,by go_num,by omega,by rw[Xj];exact hJ3,hnx.trans hk3⟩
    case measure=>simp[intOf]
   ·clear hz
    gi_wp2
    refine bodyPost_ret (results_none rfl _ _ _) rfl ?_;exact⟨⟨_,rfl⟩,.inr ⟨_,by rw[←Xj];exact List.take_prefix _ _,adC⟩⟩
  ·obtain rfl:z = -1:=by omega
   have zD:k=L.length:=by omega
   gi_wp2
   go_end0
   exact⟨⟨_,rfl⟩,.inl ⟨_,by rw[tR (by rw[KV,zk];omega)],hJs⟩⟩
set_option maxRecDepth 100000 in
theorem JG (F:Fence) (n:Nat) (JF:F.fn 188) (hro:F.round=none) (l Bs:Nat) (a:Option Addr) (lc:Nat) (J:World→Prop) (W:World) (WJ:W.cell? ⟨Bs,0,none⟩=some (.slice a 0 lc)) (h0:J W) :
  CallsIn F n Tryz.prog 188 #[.func (.yield l) #[] #[],.pointer (some ⟨Bs,0,none⟩)] W fun e W'=>(∃v,e=.returned v)∧J W':=by
 refine callsIn_of_wp Tryz.func188 rfl JF ?_ hro;simp only[Tryz.ntmps188,EK,List.length_cons,List.length_nil,Nat.reduceAdd,Nat.reduceSub,KM,KN,KZ,KQ,mY,dB];gi_wp2
 gi_loopw [3] (fun i wr=>i=.int .i64 (-1)∧J wr) (fun _ _=>0)
 case atStart=>exact⟨rfl,h0⟩
 case round =>
  obtain⟨rfl,hJs⟩:=hrel;gi_wp2
  go_end0
  exact⟨⟨_,rfl⟩,hJs⟩
theorem BV (a:Option Addr) (ln lc:Nat) (w:World) :
  Calls Tryz.prog 160 #[.slice a ln lc] w fun e w'=>e=.returned (.func (.func 188) #[] #[.pointer (some ⟨w.heap.size,0,none⟩)])∧w'=w.alloc (.cells #[.slice a ln lc] 90):=by
 go_enter Tryz.func160,Tryz.ntmps160
 go_wp2
 go_ret
 exact⟨rfl,rfl⟩
theorem Eg (F:Fence) (n:Nat) (JF:F.fn 188) (hro:F.round=none) (hn:1≤n) (Bs n₀ B:Nat) (v:Value) (L:List cJ) (hlen:L.length≤1000000) (w:World) (WJ:Bs<n₀) (aen:n₀≤w.heap.size)
  (hc:w.cell? ⟨Bs,0,none⟩=some v) (hr:w.ownsRow B 238 2 v L.length (L.reverse.flatMap Gj)) (hv :∀g,v.ownBlock=some g→g<n₀) :
  SeqStopsK F n Tryz.prog 188 #[.pointer (some ⟨Bs,0,none⟩)] (fun x:UN L=>UM x.1) (Below n₀) (fun ys=>ys=(tj L).attach) (fun pre=>pre <+: (tj L).attach) L.length w:=fun l J Jx W hW _ _ hY h0=>by
 have hc':=(hW.cell (p:=⟨Bs,0,none⟩) (by show Bs<_;omega)).trans hc
 obtain⟨A,c,rfl,_,jb⟩:=dy hr;rcases jb with h0' | ⟨g,rfl,Zz,rr,te⟩
 ·have hL:L=[]:=mw h0'
  subst hL;exact(JG F n JF hro l Bs A c (J []) W hc' h0).mono fun e W' ⟨he,hj⟩=>⟨he,.inl ⟨_,rfl,hj⟩⟩
 ·refine Pu F n JF hro hn l Bs n₀ g c L hlen (hv g rfl) WJ J Jx hY W hc' (fun k x hx=>?_) h0
  have hk:=(aL.1 hx).1;have abA:L.reverse[L.length-1-k]? = some x:=by
   rw[List.getElem?_reverse (by omega),show L.length-1-(L.length-1-k)=k by omega]
   exact hx
  have h2:=fU zh L.reverse (L.length-1-k) 0 x abA (by omega)
  have h3:=fU zh L.reverse (L.length-1-k) 1 x abA (by omega)
  exact⟨(hW.cell (p:=⟨g,(L.length-1-k)*2,none⟩) rr).trans ((te _ (by omega)).trans h2),(hW.cell (p:=⟨g,(L.length-1-k)*2+1,none⟩) rr).trans ((te _ (by omega)).trans h3)⟩
end
end Go.Proofs.YteflkdlaoiijbaaGreatDoor
namespace Go.Proofs.YteflkdlaoiijbaaGreatDoor
open Go.RowKit Go.Shelf
section
attribute [local go_sem] Oper.semAt_some
def BX (B b:Nat) (nv:Value) (N ub ob:Nat) (st:aG) (f:Nat) (s:ByteArray) (w:World) (e:Ending) (w':World):Prop :=
 Below B w w'∧Fr [52,61,59] w w'∧match st.names.find? fun n=>decide (n.s=s) with
 | none=>e=.returned (.tuple #[.agg #[.int .i64 0,.int .i64 0],.iface 79 (.int .i64 16)])∧jV w' B b nv N st ub ob
 | some n=>match fD n st.fns.length f st.fns with
  | some (F,k,i)=>e=.returned (.tuple #[.agg #[.int .i64 k,.int .i64 (i:Int)],.nilIface])∧jV w' B b nv N { st with fns:=F} ub ob
  | none=>e=.returned (.tuple #[.agg #[.int .i64 0,.int .i64 0],.iface 79 (.int .i64 12)])
theorem gg {W:World} {o x:Obj} {k:Nat} (h:W.heap[k]? = some x):(W.alloc o).heap[k]? = some x:=(Below.heap_alloc W o k (aJ.1 h).1).trans h
theorem sa {W:World} {o:Obj} {n:Nat} (h:W.heap.size=n):(W.alloc o).heap[n]? = some o:=by rw[←h];exact heap_alloc_new W o
theorem JH (w:World) (o1 o2 o3 o4 o5 o6:Obj) {W:World} (h:((((((w.alloc o1).alloc o2).alloc o3).alloc o4).alloc o5).alloc o6)=W):W.heap.size=w.heap.size+1+1+1+1+1+1∧Below w.heap.size w W∧W.heap[w.heap.size]? = some o1∧W.heap[w.heap.size+1]? = some o2∧W.heap[w.heap.size+1+1]? = some o3∧W.heap[w.heap.size+1+1+1]? = some o4∧W.heap[w.heap.size+1+1+1+1]? = some o5∧W.heap[w.heap.size+1+1+1+1+1]? = some o6:=by
 subst h;refine⟨by rw[an,an,an,an,an,an],(((((((Below.refl _ w).alloc (ai _) _).alloc (by rw[an];omega) _).alloc (by rw[an,an];omega) _).alloc (by rw[an,an,an];omega) _).alloc (by rw[an,an,an,an];omega) _).alloc (by rw[an,an,an,an,an];omega) _),gg (gg (gg (gg (gg (sa rfl))))),gg (gg (gg (gg (sa (by rw[an]))))),gg (gg (gg (sa (by rw[an,an])))),gg (gg (sa (by rw[an,an,an]))),gg (sa (by rw[an,an,an,an])),sa (by rw[an,an,an,an,an])⟩
structure UO (W W':World):Prop where
 size:W.heap.size≤W'.heap.size
 cells :∀(k:Nat) c (e:TypeId) fz,W.heap[k]? = some (.cells c e fz)→W'.heap[k]? = some (.cells c e fz)
theorem UO.row {W W':World} {B e s n:Nat} {v:Value} {xs:List Value} (h:UO W W') (hr:W.ownsRow B e s v n xs):W'.ownsRow B e s v n xs:=by
 refine⟨hr.1,?_⟩;rcases hr.2 with hn | ⟨g,cap,cur,rfl,hB,hg,rest⟩
 ·exact .inl hn
 ·exact .inr ⟨g,cap,cur,rfl,hB,h.cells g _ _ _ hg,rest⟩
theorem jV.ckp {W W':World} {B b:Nat} {nv:Value} {N:Nat} {st:aG} {ub ob:Nat} (h:jV W B b nv N st ub ob) (k:UO W W'):jV W' B b nv N st ub ob:=by
 obtain⟨fv,L,h⟩:=h;exact⟨fv,L,k.cells b _ _ _ h.blk,⟨k.row h.fns.row,fun t ht=>k.row (h.fns.vars t ht),fun t ht=>k.row (h.fns.bR t ht),h.fns.pM,h.fns.qG⟩,h.are,k.row h.uses,k.row h.wq,h.pos⟩
theorem UO.of {W W':World} {row:Option Nat} {B:Nat} (hg:W.grownBy W' row) (hr :∀r,row=some r→B≤r∧∃o:Obj,W.heap[r]? = some o∧o.isCells=false):UO W W' :=
 ⟨hg.size,fun k c e fz hk=>(hg.block k (aJ.1 hk).1 fun e'=>by
  obtain⟨_,o,ho,hc⟩:=hr k e'.symm;rw[hk] at ho;injection ho with ho;subst ho;cases hc).trans hk⟩
theorem Pv {E:List Nat} {w W W':World} {row:Option Nat} {B:Nat} (hB:w.heap.size≤B) (h:Fr E w W) (hg:W.grownBy W' row) (hr :∀r,row=some r→B≤r∧∃o:Obj,W.heap[r]? = some o∧o.isCells=false):Fr E w W' :=
 h.past (fun k hk=>hg.block k (by have:=h.size;omega) fun e=>by have:=(hr k e.symm).1;omega) hg.size
theorem xR {n:Nat} {w W W':World} {row:Option Nat} {B:Nat} (hB:n≤B) (hn:n≤W.heap.size) (h:Below n w W) (hg:W.grownBy W' row) (hr :∀r,row=some r→B≤r∧∃o:Obj,W.heap[r]? = some o∧o.isCells=false):Below n w W' :=
 ⟨hg.os.trans h.os,hg.tape.trans h.tape,hg.output.trans h.output,aK h.size hg.size,fun k hk=>(hg.block k (by omega) fun e=>by have:=(hr k e.symm).1;omega).trans (h.block k hk)⟩
theorem jV.later {W W':World} {B b:Nat} {nv:Value} {N:Nat} {st:aG} {ub ob:Nat} (h:jV W B b nv N st ub ob) (hb:Below W.heap.size W W'):jV W' B b nv N st ub ob:=by
 obtain⟨fv,L,h⟩:=h;exact⟨fv,L,h.later hb⟩
theorem Gl :∀{L:List cJ} {x:Nat×cJ},x∈tj L→x.2∈L
 | l::r,x,h=>by
  rw[tj] at h;rcases bb.1 h with rfl|h
  ·exact bQ ..
  ·exact bX _ (Gl h)
theorem Gm :∀L:List cJ,(tj L).map (·.2)=L
 | []=>rfl
 | l::r=>by rw[tj,gi,Gm r]
theorem Gn (L:List cJ):(tj L).attach.map (fun x=>x.1.2)=L:=by
 have:(tj L).attach.map (fun x=>x.1.2)=((tj L).attach.map Subtype.val).map (·.2):=by rw[zY];rfl
 rw[this,List.attach_map_subtype_val,Gm]
theorem Pw {L:List cJ} {s:ByteArray} (h :∀y∈(tj L).attach,j4 y.1.2.iF s=none):(mL L).find? (fun n=>decide (n.s=s))=none:=by
 rw[r9];have:L.find? (fun l=>(j4 l.iF s).isSome)=none:=by
  rw[EI];intro l hl;have h1:l∈(tj L).attach.map (fun x=>x.1.2):=by rw[Gn];exact hl
  obtain⟨y,hy,e⟩:=jA.1 h1;rw[←e,h y hy];simp
 rw[this];rfl
theorem BY {L:List cJ} {s:ByteArray} {pre:List (UN L)} {x:UN L} {n:ju} (hp:pre++[x] <+: (tj L).attach) (h :∀y∈pre,j4 y.1.2.iF s=none) (hx:(x.1.2.iF.find? fun n=>decide (n.s=s))=some n):(mL L).find? (fun n=>decide (n.s=s))=some n:=by
 obtain⟨t,ht⟩:=hp;have e:L=(pre.map fun x=>x.1.2)++x.1.2::t.map fun x=>x.1.2:=by
  refine(Gn L).symm.trans ?_;rw[←ht];simp
 rw[r9];have:L.find? (fun l=>(j4 l.iF s).isSome)=some x.1.2:=by
  refine(ay (List.find? fun l=>(j4 l.iF s).isSome) e).trans ?_
  rw[List.find?_append];have h1:(pre.map fun x=>x.1.2).find? (fun l=>(j4 l.iF s).isSome)=none:=by
   rw[EI];intro l hl;obtain⟨y,hy,e⟩:=jA.1 hl;rw[←e,h y hy];simp
  rw[h1,Option.none_or,kU];have h2:(j4 x.1.2.iF s).isSome=true:=by unfold j4;rw[hx];rfl
  rw[h2]
 rw[this];exact hx
structure JI (W:World) (r q:Nat) (k i:Int) (ev:Value):Prop where
 use:W.heap[r]? = some (.cells #[.int .i64 k,.int .i64 i] 57 (0,0))
 err:W.heap[q]? = some (.cells #[ev] 27 (0,0))
theorem ZJ {W:World} {r q:Nat} (hne:r≠q) {x y z:Value} (h4:W.heap[r]? = some (.cells #[x,y] 57 (0,0))) (h5:W.heap[q]? = some (.cells #[z] 27 (0,0))) (k i:Int) (ev:Value):JI (((W.setCell ⟨r,0,none⟩ (.int .i64 k)).setCell ⟨r,1,none⟩ (.int .i64 i)).setCell ⟨q,0,none⟩ ev) r q k i ev :=
 ⟨(Below.heap_setCell _ _ _ r hne).trans (zi h4 _ _),by
  have:=bn ((qJ W r (.int .i64 k) (.int .i64 i) q fun e=>hne e.symm).trans h5) 0 ev
  simpa using this⟩
theorem UP (W:World) (r q:Nat) (a c v:Value) (k:Nat) (h1:k≠r) (h2:k≠q):(((W.setCell ⟨r,0,none⟩ a).setCell ⟨r,1,none⟩ c).setCell ⟨q,0,none⟩ v).heap[k]? = W.heap[k]?:=(Below.heap_setCell _ _ _ k h2).trans (qJ W r a c k h1)
theorem Px (W:World) (r q:Nat) (a c v:Value):(((W.setCell ⟨r,0,none⟩ a).setCell ⟨r,1,none⟩ c).setCell ⟨q,0,none⟩ v).heap.size=W.heap.size:=by simp[World.setCell]
theorem Py (B:Nat) {E:List Nat} {W W1:World} (h:Fr E W W1) (r q:Nat) (a c v:Value):KeepsFrom B W (((W1.setCell ⟨r,0,none⟩ a).setCell ⟨r,1,none⟩ c).setCell ⟨q,0,none⟩ v) :=
 KeepsFrom.trans (Y:=W1) ⟨h.size,fun k o _ hk ho=>h.others k o hk fun _ _ _ e=>by subst e;cases ho⟩ ((((KeepsOthers.setCell _ _ _).trans (KeepsOthers.setCell _ _ _)).trans (KeepsOthers.setCell _ _ _)).from B)
theorem jV.fr {W W':World} {B b:Nat} {nv:Value} {N:Nat} {st:aG} {ub ob:Nat} {E:List Nat} (h:jV W B b nv N st ub ob) (k:Fr E W W') (he:(87:Nat)∉E∧(52:Nat)∉E∧(61:Nat)∉E∧(59:Nat)∉E∧(57:Nat)∉E∧(3:Nat)∉E):jV W' B b nv N st ub ob:=by
 obtain⟨fv,L,h⟩:=h;exact⟨fv,L,h.fr k he⟩
theorem rs9 {W:World} {B b:Nat} {nv:Value} {N:Nat} {st:aG} {ub ob:Nat} (h:jV W B b nv N st ub ob) {r q:Nat} (hr:vV W r 57) (hq:vV W q 27) (hne:r≠ub) (a c v:Value):jV (((W.setCell ⟨r,0,none⟩ a).setCell ⟨r,1,none⟩ c).setCell ⟨q,0,none⟩ v) B b nv N st ub ob :=
 ((h.fV hr hne _ _).fV (hr.set _ _ _) hne _ _).fr (E:=[27]) (((hq.set _ _ _).set _ _ _).fr (by decide) _ _) (by decide)
def Gp (w:World) (B b:Nat) (nv:Value) (N ub ob:Nat) (st:aG) (f:Nat) (s:ByteArray) (L:List cJ) (r q:Nat) (pre:List (UN L)) (W:World):Prop :=
 (∃(pre':List (UN L)) (x:UN L) (n:ju),pre=pre'++[x]∧(∀y∈pre',j4 y.1.2.iF s=none)∧(x.1.2.iF.find? fun n=>decide (n.s=s))=some n∧match fD n st.fns.length f st.fns with
  | some (F,k,i)=>JI W r q k i .nilIface∧jV W B b nv N { st with fns:=F} ub ob
  | none=>JI W r q 0 0 (.iface 79 (.int .i64 12)))∧Fr [52,61,59] w W∧Below B w W
theorem JI.ckp {W W':World} {r q:Nat} {k i:Int} {ev:Value} (h:JI W r q k i ev) (c:UO W W'):JI W' r q k i ev:=⟨c.cells _ _ _ _ h.use,c.cells _ _ _ _ h.err⟩
theorem Gp.own {w:World} {B b:Nat} {nv:Value} {N ub ob:Nat} {st:aG} {f:Nat} {s:ByteArray} {L:List cJ} {r q:Nat} {pre:List (UN L)} {W W':World} {row:Option Nat} {D:Nat} (hD:w.heap.size≤D) (hB:B≤w.heap.size) (h:Gp w B b nv N ub ob st f s L r q pre W) (hg:W.grownBy W' row) (hr :∀r,row=some r→D≤r∧∃o:Obj,W.heap[r]? = some o∧o.isCells=false):Gp w B b nv N ub ob st f s L r q pre W':=by
 obtain⟨⟨pre',x,n,h1,h2,h3,h4⟩,h5,h6⟩:=h;have c:=UO.of hg hr;refine⟨⟨pre',x,n,h1,h2,h3,?_⟩,Pv hD h5 hg hr,xR (by omega) (by have:=h6.size;omega) h6 hg hr⟩
 cases hR:fD n st.fns.length f st.fns with
 | none=>rw[hR] at h4;exact h4.ckp c
 | some r=>obtain⟨F,k,i⟩:=r;rw[hR] at h4;exact⟨h4.1.ckp c,h4.2.ckp c⟩
set_option maxRecDepth 100000 in
theorem JJ {B:Nat} {nv:Value} {N ub ob:Nat} (b f:Nat) (s:ByteArray) (loop:Int) (pa la:Option Addr) (lc:Nat) (L:List cJ) (st:aG) (w:World) (hw:jV w B b nv N st ub ob) (hl:cX w B (.slice la L.length lc) L) (hn:st.names=mL L) (vU:Cx f st) (mo:dA st.fns) (Pj:st.fns.length≤100000) (xt:L.length≤100000) (hs:s.size≤maxLen) :
  Calls Tryz.prog 109 #[.pointer (some ⟨b,0,none⟩),.string s,.agg #[.int .i64 (f:Int),.int .i64 loop,.pointer pa,.slice la L.length lc]] w (BX B b nv N ub ob st f s w):=by
 refine(callsIn_wide (n:=3)).1 ?_;have HW:=aa hw;have HL:=aa hl;have HN:=aa hn;have HCX:=aa vU;have UL:=aa mo;clear hw hl hn vU mo;refine callsIn_of_wp_marks Tryz.func109 rfl trivial ?_ rfl;simp only[Tryz.ntmps109,EK,List.length_cons,List.length_nil,Nat.reduceAdd,Nat.reduceSub,KM,KN,KZ,KQ,mY,dB];gi_wp2_with (first|(refine⟨trivial,?_⟩;gi_at_call 160;refine(callsIn_wide.2 (BV _ _ _ _)).mono ?_;rintro e w' ⟨rfl,rfl⟩)|(gi_at_call 160;refine(callsIn_wide.2 (BV _ _ _ _)).mono ?_;rintro e w' ⟨rfl,rfl⟩))
 obtain⟨W0,hW0⟩ :∃W0,((((((w.alloc (.cells #[.pointer (some ⟨b,0,none⟩)] 142)).alloc (.cells #[.string s] 9)).alloc (.cells #[.int .i64 (f:Int),.int .i64 loop,.pointer pa,.slice la L.length lc] 92)).alloc (.cells #[.int .i64 0,.int .i64 0] 57)).alloc (.cells #[.nilIface] 27)).alloc (.cells #[.slice la L.length lc] 90))=W0:=⟨_,rfl⟩;obtain⟨hsz,hb0,o1,o2,o3,o4,o5,o6⟩:=JH w _ _ _ _ _ _ hW0;rw[hW0];obtain⟨ca,oN⟩:B≤w.heap.size∧ub<w.heap.size:=by
  obtain⟨_,_,h⟩:=HW.out;exact⟨aK h.pos (fx h.mV.1),h.mV.2.1⟩
 have Pm:=aa hb0;have qK:=aa hsz;have H1:=aa o1;have H2:=aa o2;have H3:=aa o3;have H4:=aa o4;have H5:=aa o5;have c6:=ab o6 0;clear o1 o2 o3 o4 o5 o6 hW0 hsz hb0;have HR0:=aa (oE HL.out.row Pm.out);have hown :∀g,(Value.slice la L.length lc).ownBlock=some g→g<W0.heap.size:=fun g hg=>by
  have h1:=(HR0.out.lt g hg).2;exact h1
 refine wpIn_rangeFunc_ownH (α:=UN L) rfl (by omega) (gf:=188) (lb:=#[.pointer (some ⟨w.heap.size+1+1+1+1+1,0,none⟩)]) rfl trivial (enters_of Tryz.func188 (by kernel_rfl) rfl)
  (Eg Fence.wide 2 trivial rfl (by omega) (w.heap.size+1+1+1+1+1) W0.heap.size B (.slice la L.length lc) L (by omega) W0 (by rw[qK.out];omega) (ai _) c6 HR0.out hown) belowK_t (belowK_b (ai _)) (Below.refl _ _) (fun _=>rfl)
  (fun pre W=>(∀y∈pre,j4 y.1.2.iF s=none)∧Below W0.heap.size W0 W)
  (fun c pre W=>c=.ret∧Gp w B b nv N ub ob st f s L (w.heap.size+1+1+1) (w.heap.size+1+1+1+1) pre W)
  (OwnFrom.and (ownFrom_pure _ _) (ownFrom_below (ai _) (ai _)))
  (fun c=>OwnFrom.and (ownFrom_pure _ _) (fun pre W W' row hs hg hr=>hs.own (by rw[qK.out];omega) ca hg hr))
  ⟨fun y hy=>(by cases hy),Below.refl _ _⟩
  (fun x a' W=>∃Bx,W0.heap.size≤Bx∧W.heap[Bx]? = some (.cells #[.int .i64 (x.1.2.fn:Int),.map (some x.1.2.blk)] 238 (0,0))∧a'={ tmps:=#[.pointer (some ⟨b,0,none⟩),.string s,.agg #[.int .i64 (f:Int),.int .i64 loop,.pointer pa,.slice la L.length lc],.pointer (some ⟨w.heap.size,0,none⟩),.pointer (some ⟨w.heap.size+1,0,none⟩),.pointer (some ⟨w.heap.size+1+1,0,none⟩),.pointer (some ⟨w.heap.size+1+1+1,0,none⟩),.pointer (some ⟨w.heap.size+1+1+1+1,0,none⟩),undef,.pointer (some ⟨Bx,0,none⟩),undef,undef,.pointer (some ⟨w.heap.size+1+1,3,none⟩),.slice la L.length lc,.func (.func 188) #[] #[.pointer (some ⟨w.heap.size+1+1+1+1+1,0,none⟩)],.int .i64 (x.1.1:Int),.agg #[.int .i64 (x.1.2.fn:Int),.map (some x.1.2.blk)],undef,undef,undef,undef,undef,undef,undef,undef,undef,undef,undef,undef,undef,undef,undef,undef,undef,undef,undef],defers:=[]})
  (fun x a' pre W W' row hs hg hr=>by
   obtain⟨Bx,h1,h2,h3⟩:=hs;exact⟨Bx,h1,(UO.of hg hr).cells _ _ _ _ h2,h3⟩) ?assign ?body ?done ?stop
 case assign =>
  rintro l pre ⟨⟨i,y⟩,hm⟩ W K ⟨hp,hb⟩ hK;dsimp only[UM]
  gi_wp2
  exact hK _ _ ((KeepsOthers.alloc _ _).from _) ((Below.refl _ W).alloc hb.size _) ⟨hp,hb.alloc hb.size _⟩ ⟨W.heap.size,hb.size,heap_alloc_new _ _,rfl⟩
 case body =>
  rintro l pre ⟨⟨i,y⟩,hm⟩ a' W hl' ⟨r,hr⟩ ⟨hp,hb⟩ ⟨Bx,hBx,hJ,rfl⟩ hlt;have hy:=Gl hm;dsimp only
  have xo:=Pm.out.trans (hb.mono (by rw[qK.out];omega))
  obtain⟨hmp,hmB⟩:=HL.out.maps y hy;have hmw:dG Tryz.prog 9 W y.blk y.iF.length (j4 y.iF):=hmp.same (xo.block _ hmp.lt);have hrun:=hmw.look (t:=236) (e:=3) Tryz.underlying9 Tryz.underlying236 (z:=.int .i64 0) (by kernel_rfl) rfl s hs
  have y0:=ab hJ 0;have y1:=ab hJ 1;replace y0:_=some (Value.int .i64 (y.fn:Int)):=y0;replace y1:_=some (Value.map (some y.blk)):=y1;have q1:=(hb.block _ (by rw[qK.out];omega)).trans H1.out
  have q2:=(hb.block _ (by rw[qK.out];omega)).trans H2.out
  have q3:=(hb.block _ (by rw[qK.out];omega)).trans H3.out
  have q4:=(hb.block _ (by rw[qK.out];omega)).trans H4.out
  have q5:=(hb.block _ (by rw[qK.out];omega)).trans H5.out
  have d1:=ab q1 0;have d2:=ab q2 0;have d3:=ab q3 0;replace d1:_=some (Value.pointer (some ⟨b,0,none⟩)):=d1;replace d2:_=some (Value.string s):=d2;replace d3:_=some (Value.int .i64 (f:Int)):=d3;have HP:=aa hp;have uD:=aa hb;have lL:=aa xo;have HYL:=aa hy;have Q4:=aa q4;have Q5:=aa q5;have HLR:=aa hr;clear hp hb xo hmp hmB hmw q1 q2 q3 q4 q5 hJ hr;cases sd:j4 y.iF s with
  | none =>
   rw[sd] at hrun;replace hrun:_=Result.ok (Value.tuple #[.int .i64 0,.bool false]) W:=hrun;gi_wp2
   refine⟨KeepsFrom.refl _ _,Below.refl _ _,?_,uD.out⟩;intro a2 b2 hm2 hz;rcases dd.1 hz with hz|hz
   ·exact HP.out _ hz
   ·rw[bI] at hz
    injection hz with hz;injection hz with _ hz;rw[hz];exact sd
  | some v =>
   obtain⟨n,tz,ra⟩ :∃n,(y.iF.find? fun n=>decide (n.s=s))=some n∧v=.int .i64 (n.i:Int):=by
    unfold j4 at sd;cases e:y.iF.find? fun n=>decide (n.s=s) with
    | none=>rw[e] at sd;cases sd
    | some n=>rw[e] at sd;injection sd with sd;exact⟨n,rfl,sd.symm⟩
   subst ra;rw[sd] at hrun;replace hrun:_=Result.ok (Value.tuple #[.int .i64 (n.i:Int),.bool true]) W:=hrun;have Ri:n∈y.iF:=KC tz;have hfn:=HL.out.own y HYL.out n Ri;rw[←hfn] at y0;have vW:n∈st.names:=by
    rw[HN.out];exact tV.2 ⟨y,HYL.out,Ri⟩
   have HNN:=aa vW;have Kl:=aa tz;have HSEG:=aa sd;clear vW tz sd Ri hfn;have jg:=aa (HW.out.later lL.out);obtain⟨Ef,yf,vf,hyf,hvf,Uq⟩:=HCX.out.names n HNN.out;have HLD:=aa (Ps b n st.fns.length f st W HCX.out.lt jg.out HCX.out.ok UL.out Ef ⟨yf,vf,hyf,hvf,Uq⟩ HCX.out.lt Pj);have q4:=Q4.out;have q5:=Q5.out;gi_wp2_with fail
   refine⟨trivial,(CallsIn.inRound l (callsIn_wide.2 HLD.out)).mono ?_⟩;rintro e w1 ⟨b1,f1,h1⟩;have q4':=f1.cells _ _ _ _ q4 (by decide)
   have q5':=f1.cells _ _ _ _ q5 (by decide)
   have r0:=ab q4' 0;have r1:=ab q4' 1;have r2:=ab q5' 0;have z0:=aw q4' 0;have z1:=aw q4' 1;have z2:=aw q5' 0;replace r0:_=some (Value.int .i64 0):=r0;replace r1:_=some (Value.int .i64 0):=r1;replace r2:_=some Value.nilIface:=r2;have fA:=aa f1;have dK:=aa b1;have Q4':=aa q4';have Q5':=aa q5';clear b1 f1 q4 q5 q4' q5' hyf hvf Ef Uq;cases hR:fD n st.fns.length f st.fns with
   | none =>
    rw[hR] at h1;subst h1;have HR:=aa hR;clear hR;gi_wp2
    refine⟨Py _ fA.out _ _ _ _ _,rfl,⟨pre,⟨(i,y),hm⟩,n,rfl,HP.out,Kl.out,?_⟩,((Fr.ae lL.out).trans fA.out).past (fun k hk=>UP _ _ _ _ _ _ k (by omega) (by omega)) (by rw[Px];exact ai _),((((lL.out.mono ca).trans dK.out).setCell (p:=⟨w.heap.size+1+1+1,0,none⟩) (by show B≤w.heap.size+1+1+1;omega) _).setCell (p:=⟨w.heap.size+1+1+1,1,none⟩) (by show B≤w.heap.size+1+1+1;omega) _).setCell (p:=⟨w.heap.size+1+1+1+1,0,none⟩) (by show B≤w.heap.size+1+1+1+1;omega) _⟩
    rw[HR.out];exact ZJ (by omega) Q4'.out Q5'.out 0 0 _
   | some r =>
    obtain⟨F1,k1,i1⟩:=r;rw[hR] at h1;obtain⟨rfl,dZ⟩:=h1;have HR:=aa hR;have lM:=aa dZ;clear hR dZ;gi_wp2
    refine⟨Py _ fA.out _ _ _ _ _,rfl,⟨pre,⟨(i,y),hm⟩,n,rfl,HP.out,Kl.out,?_⟩,((Fr.ae lL.out).trans fA.out).past (fun k hk=>UP _ _ _ _ _ _ k (by omega) (by omega)) (by rw[Px];exact ai _),((((lL.out.mono ca).trans dK.out).setCell (p:=⟨w.heap.size+1+1+1,0,none⟩) (by show B≤w.heap.size+1+1+1;omega) _).setCell (p:=⟨w.heap.size+1+1+1,1,none⟩) (by show B≤w.heap.size+1+1+1;omega) _).setCell (p:=⟨w.heap.size+1+1+1+1,0,none⟩) (by show B≤w.heap.size+1+1+1+1;omega) _⟩
    rw[HR.out];exact⟨ZJ (by omega) Q4'.out Q5'.out k1 i1 _,rs9 lM.out ⟨_,_,Q4'.out⟩ ⟨_,_,Q5'.out⟩ (by omega) _ _ _⟩
 case done =>
  rintro D ys W hD rfl ⟨hp,hb⟩ hK;have q4:=(hb.block _ (by rw[qK.out];omega)).trans H4.out
  have q5:=(hb.block _ (by rw[qK.out];omega)).trans H5.out
  have r0:=ab q4 0;have r1:=ab q4 1;have r2:=ab q5 0;have z0:=aw q4 0;have z1:=aw q4 1;have z2:=aw q5 0;replace r0:_=some (Value.int .i64 0):=r0;replace r1:_=some (Value.int .i64 0):=r1;replace r2:_=some Value.nilIface:=r2;have lL:=aa (Pm.out.trans (hb.mono (by rw[qK.out];omega)))
  have HDN:Hid ((mL L).find? (fun n=>decide (n.s=s))=none):=aa (Pw hp)
  have adD:=aa (ZJ (W:=W) (r:=w.heap.size+1+1+1) (q:=w.heap.size+1+1+1+1) (by omega) q4 q5 0 0 (.iface 79 (.int .i64 16)))
  have K4:Hid (vV W (w.heap.size+1+1+1) 57):=aa ⟨_,_,q4⟩;have K5:Hid (vV W (w.heap.size+1+1+1+1) 27):=aa ⟨_,_,q5⟩;clear q4 q5 hp hb;gi_wp2
  have hK':=(UP W (w.heap.size+1+1+1) (w.heap.size+1+1+1+1) (.int .i64 0) (.int .i64 0) (.iface 79 (.int .i64 16)) D (by rw[qK.out] at hD;omega) (by rw[qK.out] at hD;omega)).trans hK
  have hR9:=rs9 (HW.out.later lL.out) K4.out K5.out (by omega) (.int .i64 0) (.int .i64 0) (.iface 79 (.int .i64 16))
  have hF9:Fr [52,61,59] w (((W.setCell ⟨w.heap.size+1+1+1,0,none⟩ (.int .i64 0)).setCell ⟨w.heap.size+1+1+1,1,none⟩ (.int .i64 0)).setCell ⟨w.heap.size+1+1+1+1,0,none⟩ (.iface 79 (.int .i64 16))):=(Fr.ae lL.out).past (fun k hk=>UP _ _ _ _ _ _ k (by omega) (by omega)) (by rw[Px];exact ai _)
  have hB9:Below B w (((W.setCell ⟨w.heap.size+1+1+1,0,none⟩ (.int .i64 0)).setCell ⟨w.heap.size+1+1+1,1,none⟩ (.int .i64 0)).setCell ⟨w.heap.size+1+1+1+1,0,none⟩ (.iface 79 (.int .i64 16))):=(((lL.out.mono ca).setCell (p:=⟨w.heap.size+1+1+1,0,none⟩) (by show B≤w.heap.size+1+1+1;omega) _).setCell (p:=⟨w.heap.size+1+1+1,1,none⟩) (by show B≤w.heap.size+1+1+1;omega) _).setCell (p:=⟨w.heap.size+1+1+1+1,0,none⟩) (by show B≤w.heap.size+1+1+1+1;omega) _
  have hO9:=adD.out;generalize ((W.setCell ⟨w.heap.size+1+1+1,0,none⟩ (.int .i64 0)).setCell ⟨w.heap.size+1+1+1,1,none⟩ (.int .i64 0)).setCell ⟨w.heap.size+1+1+1+1,0,none⟩ (.iface 79 (.int .i64 16))=W9 at *;refine⟨by simp,.inl ⟨_,_,rfl,run_takeDeferred hK',?_⟩⟩
  have hgr:=grownBy_putObj' W9 D (.deferred none);have ZK :∀r,some D=some r→W0.heap.size≤r∧∃o:Obj,W9.heap[r]? = some o∧o.isCells=false:=fun r e=>by injection e with e;subst e;exact⟨hD,_,hK',rfl⟩
  have hC:=UO.of hgr ZK;have hO:=hO9.ckp hC;have k0:=ab hO.use 0;have k1:=ab hO.use 1;have k2:=ab hO.err 0;replace k0:_=some (Value.int .i64 0):=k0;replace k1:_=some (Value.int .i64 0):=k1;replace k2:_=some (Value.iface 79 (.int .i64 16)):=k2;refine⟨.tuple #[.agg #[.int .i64 0,.int .i64 0],.iface 79 (.int .i64 16)],?_,xR (by rw[qK.out];omega) (by have:=hB9.size;omega) hB9 hgr ZK,Pv (by rw[qK.out];omega) hF9 hgr ZK,?_⟩
  ·simp[results,Tryz.results109,go_sem,k0,k1,k2]
  ·rw[HN.out,HDN.out]
   exact⟨rfl,hR9.ckp hC⟩
 case stop =>
  rintro D c pre W hD ux ⟨rfl,hz⟩ hK;have HZ:=aa hz;have adE:=aa ux;clear hz ux;gi_wp2
  refine⟨by simp,.inl ⟨_,_,rfl,run_takeDeferred hK,?_⟩⟩
  have hgr:=grownBy_putObj' W D (.deferred none);have ZK :∀r,some D=some r→W0.heap.size≤r∧∃o:Obj,W.heap[r]? = some o∧o.isCells=false:=fun r e=>by injection e with e;subst e;exact⟨hD,_,hK,rfl⟩
  obtain⟨⟨pre',x,n,rfl,h2,h3,h4⟩,h5,h6⟩:=HZ.out.own (by rw[qK.out];omega) ca hgr ZK
  have Pj:st.names.find? (fun n=>decide (n.s=s))=some n:=by rw[HN.out];exact BY adE.out h2 h3
  cases hR:fD n st.fns.length f st.fns with
  | none =>
   rw[hR] at h4;have k0:=ab h4.use 0;have k1:=ab h4.use 1;have k2:=ab h4.err 0;replace k0:_=some (Value.int .i64 0):=k0;replace k1:_=some (Value.int .i64 0):=k1;replace k2:_=some (Value.iface 79 (.int .i64 12)):=k2;refine⟨.tuple #[.agg #[.int .i64 0,.int .i64 0],.iface 79 (.int .i64 12)],?_,h6,h5,?_⟩
   ·simp[results,Tryz.results109,go_sem,k0,k1,k2]
   ·rw[Pj]
    simp only[hR]
  | some r =>
   obtain⟨F1,kd,i1⟩:=r;rw[hR] at h4;obtain⟨h4,h7⟩:=h4;have k0:=ab h4.use 0;have k1:=ab h4.use 1;have k2:=ab h4.err 0;replace k0:_=some (Value.int .i64 kd):=k0;replace k1:_=some (Value.int .i64 (i1:Int)):=k1;replace k2:_=some Value.nilIface:=k2;refine⟨.tuple #[.agg #[.int .i64 kd,.int .i64 (i1:Int)],.nilIface],?_,h6,h5,?_⟩
   ·simp[results,Tryz.results109,go_sem,k0,k1,k2]
   ·rw[Pj]
    simp only[hR];exact⟨trivial,h7⟩
end
end Go.Proofs.YteflkdlaoiijbaaGreatDoor
namespace Go.Proofs.YteflkdlaoiijbaaGreatDoor
open Go.RowKit Go.Extern.Stop Go.Stop Go.Extern
theorem Gq (v:Value) (w:World):(Extern.ReflectliteType.typeOf #[.iface 79 v]).run Tryz.prog w=.ok (.iface 165 (.agg #[.pointer (some ⟨4,79,none⟩)])) w:=by kernel_rfl
theorem kA (v:Value) (w:World):(Go.method 423 165 v "Comparable").run Tryz.prog w=.ok (267,v) w:=by kernel_rfl
theorem abB (v:Value) (xT:TypeId) (w:World):(Instr.typeAssert (.iface 79 v) xT 207 true).run Tryz.prog w=.ok (.tuple #[.nilIface,.bool false]) w:=run_typeAssert_lacksB Tryz.underlying207 (by kernel_rfl) (by kernel_rfl) v xT w
theorem JK (v:Value) (xT:TypeId) (w:World):(Instr.typeAssert (.iface 79 v) xT 172 true).run Tryz.prog w=.ok (.tuple #[.nilIface,.bool false]) w:=run_typeAssert_lacksB Tryz.underlying172 (by kernel_rfl) (by kernel_rfl) v xT w
theorem Eh (v:Value) (xT:TypeId) (w:World):(Instr.typeAssert (.iface 79 v) xT 173 true).run Tryz.prog w=.ok (.tuple #[.nilIface,.bool false]) w:=run_typeAssert_lacksB Tryz.underlying173 (by kernel_rfl) (by kernel_rfl) v xT w
theorem zEq (w:World):(binOp .eql 27 (.iface 79 (.int .i64 16)) (.iface 79 (.int .i64 16))).run Tryz.prog w=.ok (.bool true) w:=by kernel_rfl
theorem zNe (w:World):(binOp .eql 27 (.iface 79 (.int .i64 12)) (.iface 79 (.int .i64 16))).run Tryz.prog w=.ok (.bool false) w:=by kernel_rfl
theorem sV (w:World):((Extern.ReflectliteType.method fun t=>do Rtype.noPackHeld "Comparable" t;(fun a=>Value.bool a.comparable) <$> typeInfo t) #[.agg #[.pointer (some ⟨4,79,none⟩)]]).run Tryz.prog w=.ok (.bool true) w:=by kernel_rfl
theorem adF (w:World):(binOp .eql 27 .nilIface (.iface 79 (.int .i64 16))).run Tryz.prog w=.ok (.bool false) w:=by kernel_rfl
theorem abC (w:World):(binOp .eql 27 (.iface 79 (.int .i64 16)) .nilIface).run Tryz.prog w=.ok (.bool false) w:=by kernel_rfl
theorem Gr (w:World) :
  Calls Tryz.prog 30 #[.nilIface,.iface 79 (.int .i64 16)] w fun e w'=>e=.returned (.bool false)∧w=w':=by
 have e1:=adF;have e2:=abC;go_enter Tryz.func30,Tryz.ntmps30
 go_wp2
 go_ret
 exact⟨rfl,rfl⟩
theorem Gs (w:World) :
  Calls Tryz.prog 30 #[.iface 79 (.int .i64 16),.iface 79 (.int .i64 16)] w fun e w'=>e=.returned (.bool true)∧w=w':=by
 have h41:=@run_callFunc_extern Tryz.prog 65 _ Extern.ReflectliteType.typeOf Tryz.func65 (by kernel_rfl) (by kernel_rfl) (by kernel_rfl) (by kernel_rfl)
 have Zg:=@run_callFunc_extern Tryz.prog 267 _ (Extern.ReflectliteType.method fun t=>do Rtype.noPackHeld "Comparable" t;pure (.bool (←typeInfo t).comparable)) Tryz.func267 (by kernel_rfl) (by kernel_rfl) (by kernel_rfl) (by kernel_rfl)
 have tT:=Gq;have cT:=sV;have mR:=kA;have e5:=zEq;go_enter Tryz.func30,Tryz.ntmps30
 go_wp2
 refine wp_loop_rounds 1 ?_;rw[rounds_succ];go_wp2
 go_ret
 exact⟨rfl,rfl⟩
theorem Gt (w:World) :
  Calls Tryz.prog 30 #[.iface 79 (.int .i64 12),.iface 79 (.int .i64 16)] w fun e w'=>e=.returned (.bool false)∧w=w':=by
 have h41:=@run_callFunc_extern Tryz.prog 65 _ Extern.ReflectliteType.typeOf Tryz.func65 (by kernel_rfl) (by kernel_rfl) (by kernel_rfl) (by kernel_rfl)
 have Zg:=@run_callFunc_extern Tryz.prog 267 _ (Extern.ReflectliteType.method fun t=>do Rtype.noPackHeld "Comparable" t;pure (.bool (←typeInfo t).comparable)) Tryz.func267 (by kernel_rfl) (by kernel_rfl) (by kernel_rfl) (by kernel_rfl)
 have tT:=Gq;have cT:=sV;have mR:=kA;have nE:=abB;have uE:=JK;have vE:=Eh;have e5:=zNe;go_enter Tryz.func30,Tryz.ntmps30
 go_wp2
 refine wp_loop_rounds 1 ?_;rw[rounds_succ];go_wp2
 go_ret
 exact⟨rfl,rfl⟩
end Go.Proofs.YteflkdlaoiijbaaGreatDoor
namespace Go.Proofs.YteflkdlaoiijbaaGreatDoor
open Go.RowKit
theorem UQ {W:World} {bk o:Nat} {x:Nd} {nv kv:Value} (h:lV W bk o x nv kv):W.cell? ⟨bk,o+4,none⟩=some (.string x.s):=h.c4
theorem lE {W:World} {b bk j p N ub ob f c o:Nat} {fv:Value} {s:ByteArray} {loop:Int} {pa la:Option Addr} {ln lc:Nat} (hb:W.heap[b]? = some (.cells #[.slice (some ⟨bk,o,none⟩) N c,fv,.slice (some ⟨ub,0,none⟩) N N,.slice (some ⟨ob,0,none⟩) N N] 87 (0,0))) (hd:W.cell? ⟨bk,j,none⟩=some (.string s)) (hx:W.heap[p]? = some (.cells #[.int .i64 (f:Int),.int .i64 loop,.pointer pa,.slice la ln lc] 92 (0,0))) :
  W.cell? ⟨b,0,none⟩=some (.slice (some ⟨bk,o,none⟩) N c)∧W.cell? ⟨bk,j,none⟩=some (.string s)∧W.cell? ⟨p,0,none⟩=some (.int .i64 (f:Int))∧W.cell? ⟨p,1,none⟩=some (.int .i64 loop)∧W.cell? ⟨p,2,none⟩=some (.pointer pa)∧W.cell? ⟨p,3,none⟩=some (.slice la ln lc) :=
 ⟨ab hb 0,hd,ab hx 0,ab hx 1,ab hx 2,ab hx 3⟩
def UR (B b:Nat) (nv:Value) (N ub ob:Nat) (st2:aG) (known:Bool) (k i:Int) (ev:Value) (w:World) (e:Ending) (w':World):Prop :=
 e=.returned (.tuple #[.agg #[.int .i64 k,.int .i64 i],ev])∧Below B w w'∧Fr [52,61,59] w w'∧(known=true→jV w' B b nv N st2 ub ob)
theorem qL {W:World} {b bk j p N f c o:Nat} {s:ByteArray} {loop:Int} {pa la:Option Addr} {ln lc:Nat} (h:W.cell? ⟨b,0,none⟩=some (.slice (some ⟨bk,o,none⟩) N c)∧W.cell? ⟨bk,j,none⟩=some (.string s)∧W.cell? ⟨p,0,none⟩=some (.int .i64 (f:Int))∧W.cell? ⟨p,1,none⟩=some (.int .i64 loop)∧W.cell? ⟨p,2,none⟩=some (.pointer pa)∧W.cell? ⟨p,3,none⟩=some (.slice la ln lc)) (hb:b<W.heap.size) (hk:bk<W.heap.size) (hp:p<W.heap.size) (ob:Obj) :
  (W.alloc ob).cell? ⟨b,0,none⟩=some (.slice (some ⟨bk,o,none⟩) N c)∧(W.alloc ob).cell? ⟨bk,j,none⟩=some (.string s)∧(W.alloc ob).cell? ⟨p,0,none⟩=some (.int .i64 (f:Int))∧(W.alloc ob).cell? ⟨p,1,none⟩=some (.int .i64 loop)∧(W.alloc ob).cell? ⟨p,2,none⟩=some (.pointer pa)∧(W.alloc ob).cell? ⟨p,3,none⟩=some (.slice la ln lc):=by
 have hB:=(Below.refl W.heap.size W).alloc (ai _) ob;exact⟨(hB.cell (p:=⟨b,0,none⟩) hb).trans h.1,(hB.cell (p:=⟨bk,j,none⟩) hk).trans h.2.1,(hB.cell (p:=⟨p,0,none⟩) hp).trans h.2.2.1,(hB.cell (p:=⟨p,1,none⟩) hp).trans h.2.2.2.1,(hB.cell (p:=⟨p,2,none⟩) hp).trans h.2.2.2.2.1,(hB.cell (p:=⟨p,3,none⟩) hp).trans h.2.2.2.2.2⟩
theorem zl {W:World} {b bk j p N f c o r:Nat} {s:ByteArray} {loop:Int} {pa la:Option Addr} {ln lc:Nat} (h:W.cell? ⟨b,0,none⟩=some (.slice (some ⟨bk,o,none⟩) N c)∧W.cell? ⟨bk,j,none⟩=some (.string s)∧W.cell? ⟨p,0,none⟩=some (.int .i64 (f:Int))∧W.cell? ⟨p,1,none⟩=some (.int .i64 loop)∧W.cell? ⟨p,2,none⟩=some (.pointer pa)∧W.cell? ⟨p,3,none⟩=some (.slice la ln lc)) (hb:b≠r) (hk:bk≠r) (hp:p≠r) (u v:Value) :
  ((W.setCell ⟨r,0,none⟩ u).setCell ⟨r,1,none⟩ v).cell? ⟨b,0,none⟩=some (.slice (some ⟨bk,o,none⟩) N c)∧((W.setCell ⟨r,0,none⟩ u).setCell ⟨r,1,none⟩ v).cell? ⟨bk,j,none⟩=some (.string s)∧((W.setCell ⟨r,0,none⟩ u).setCell ⟨r,1,none⟩ v).cell? ⟨p,0,none⟩=some (.int .i64 (f:Int))∧((W.setCell ⟨r,0,none⟩ u).setCell ⟨r,1,none⟩ v).cell? ⟨p,1,none⟩=some (.int .i64 loop)∧((W.setCell ⟨r,0,none⟩ u).setCell ⟨r,1,none⟩ v).cell? ⟨p,2,none⟩=some (.pointer pa)∧((W.setCell ⟨r,0,none⟩ u).setCell ⟨r,1,none⟩ v).cell? ⟨p,3,none⟩=some (.slice la ln lc):=by
 have key :∀a:Addr,a.block≠r→((W.setCell ⟨r,0,none⟩ u).setCell ⟨r,1,none⟩ v).cell? a=W.cell? a:=fun a ha=>World.cell?_of_block (qJ W r u v a.block ha)
 exact⟨(key ⟨b,0,none⟩ hb).trans h.1,(key ⟨bk,j,none⟩ hk).trans h.2.1,(key ⟨p,0,none⟩ hp).trans h.2.2.1,(key ⟨p,1,none⟩ hp).trans h.2.2.2.1,(key ⟨p,2,none⟩ hp).trans h.2.2.2.2.1,(key ⟨p,3,none⟩ hp).trans h.2.2.2.2.2⟩
structure NQ (w:World) (B b:Nat) (nv:Value) (N ub ob:Nat) (st2:aG) (known:Bool) (k i:Int) (W:World) (g:Nat):Prop where
 below:Below B w W
 fr:Fr [52,61,59] w W
 rs:known=true→jV W B b nv N st2 ub ob
 use:W.heap[g]? = some (.cells #[.int .i64 k,.int .i64 i] 57 (0,0))
 new:w.heap.size≤g
theorem ZL {B:Nat} {w W1 w2:World} {b:Nat} {nv:Value} {N ub ob:Nat} {st2:aG} {known:Bool} {k i:Int} (ca:B≤w.heap.size) (b2:Below B W1 w2) (b1:Below w.heap.size w W1) (f2:Fr [52,61,59] W1 w2) (hle:w.heap.size≤W1.heap.size) (hB:B≤W1.heap.size) (r:known=true→jV w2 B b nv N st2 ub ob):NQ w B b nv N ub ob st2 known k i (w2.alloc (.cells #[.int .i64 k,.int .i64 i] 57)) w2.heap.size :=
 ⟨((b1.mono ca).trans b2).alloc (aK hB b2.size) _,((Fr.ae b1).trans f2).trans (Fr.alloc _),fun h=>(r h).alloc _,heap_alloc_new _ _,aK hle b2.size⟩
theorem ZM {B:Nat} {w W1 w2:World} {b:Nat} {nv:Value} {N ub ob:Nat} {st2:aG} {known:Bool} {k i:Int} (ca:B≤w.heap.size) (oN:ub<w.heap.size) (b2:Below B W1 w2) (b1:Below w.heap.size w W1) (f2:Fr [52,61,59] W1 w2) (hle:w.heap.size≤W1.heap.size) (hB:B≤W1.heap.size) (r:known=true→jV w2 B b nv N st2 ub ob) {x y:Value} (hz:w2.heap[W1.heap.size]? = some (.cells #[x,y] 57 (0,0))):NQ w B b nv N ub ob st2 known k i ((w2.setCell ⟨W1.heap.size,0,none⟩ (.int .i64 k)).setCell ⟨W1.heap.size,1,none⟩ (.int .i64 i)) W1.heap.size :=
 have hk:vV w2 W1.heap.size 57:=⟨_,_,hz⟩
 ⟨(((b1.mono ca).trans b2).setCell (p:=⟨W1.heap.size,0,none⟩) hB _).setCell (p:=⟨W1.heap.size,1,none⟩) hB _,((Fr.ae b1).trans f2).past (fun k hk=>qJ w2 W1.heap.size _ _ k (by omega)) (by rw[n7];exact ai _),fun h=>((r h).fV hk (by omega) _ _).fV (hk.set _ _ _) (by omega) _ _,zi hz _ _,hle⟩
theorem mq {B:Nat} {a w:World} {o:Obj} (hB:B≤a.heap.size) (h:Below B (a.alloc o) w):Below B a w:=((Below.refl B a).alloc hB o).trans h
theorem se {E:List Nat} {a w:World} {o:Obj} (h:Fr E (a.alloc o) w):Fr E a w:=(Fr.alloc o).trans h
theorem gQ {W:World} {g:Nat} {x y:Value} {ty:TypeId} (h:W.heap[g]? = some (.cells #[x,y] ty (0,0))):W.cell? ⟨g,0,none⟩=some x:=ab h 0
theorem gR {W:World} {g:Nat} {x y:Value} {ty:TypeId} (h:W.heap[g]? = some (.cells #[x,y] ty (0,0))):W.cell? ⟨g,1,none⟩=some y:=ab h 1
theorem ft {E:List Nat} {a w:World} (h:Fr E a.drew w):Fr E a w:=⟨h.size,h.cells,h.others⟩
theorem di {B:Nat} {a w:World} (h:Below B a.drew w):Below B a w:=⟨h.os,h.tape,h.output,h.size,h.block⟩
theorem Pz {T:List Nd} {B:Nat} {nv:Value} {ub ob:Nat} (b node f:Nat) (h:Nd) (loop k i:Int) (pa la:Option Addr) (lc:Nat) (L:List cJ) (st st2:aG) (w:World) (hT:wo w B nv T) (hw:jV w B b nv T.length st ub ob) (hx:T[node]? = some h)
  (qM :∀W,Below w.heap.size w W→Calls Tryz.prog 109 #[.pointer (some ⟨b,0,none⟩),.string h.s,.agg #[.int .i64 (f:Int),.int .i64 loop,.pointer pa,.slice la L.length lc]] W (UR B b nv T.length ub ob st2 true k i (.nilIface) W)) :
  Calls Tryz.prog 54 #[.pointer (some ⟨b,0,none⟩),.int .i64 (node:Int),.agg #[.int .i64 (f:Int),.int .i64 loop,.pointer pa,.slice la L.length lc]] w (gN B b nv T.length ub ob (.ok (st2.dh node (k,i))) w):=by
 obtain⟨bk,o,c,rfl,eQ,ca,dN⟩:=hT.nodes;obtain⟨zI,zJ,fM,_,_⟩:=dN node h hx;have jG:node<T.length:=(aL.1 hx).1;have pS:=hT.few;obtain⟨hbl,oN,hb4⟩:b<w.heap.size∧ub<w.heap.size∧∃fv,w.heap[b]? = some (.cells #[.slice (some ⟨bk,o,none⟩) T.length c,fv,.slice (some ⟨ub,0,none⟩) T.length T.length,.slice (some ⟨ob,0,none⟩) T.length T.length] 87 (0,0)):=by
  obtain⟨_,_,h⟩:=hw;exact⟨h.mV.1,h.mV.2.1,_,h.blk⟩
 obtain⟨fv0,hb4⟩:=hb4;have zm:=aa qM;have d0:=ab hb4 0;replace d0:_=some (Value.slice (some ⟨bk,o,none⟩) T.length c):=d0;have d4:=UQ fM;have hH:bk<w.heap.size:=by omega
 have JC:=aa hb4;have HT:=aa hT;have HX:=aa hx;clear hw hT hx qM fM dN hb4;go_enter Tryz.func54,Tryz.ntmps54
 go_wp2_with fail
 have dK:=aa ((Below.refl w.heap.size w).alloc (ai _) (.cells #[.int .i64 (f:Int),.int .i64 loop,.pointer pa,.slice la L.length lc] 92));have hJ:=heap_alloc_new w (.cells #[.int .i64 (f:Int),.int .i64 loop,.pointer pa,.slice la L.length lc] 92);have x0:=ab hJ 0;have x1:=ab hJ 1;have x2:=ab hJ 2;have x3:=ab hJ 3;replace x0:_=some (Value.int .i64 (f:Int)):=x0;replace x1:_=some (Value.int .i64 loop):=x1;replace x2:_=some (Value.pointer pa):=x2;replace x3:_=some (Value.slice la L.length lc):=x3;have e0:=(dK.out.cell (p:=⟨b,0,none⟩) hbl).trans d0;have e4:=(dK.out.cell (p:=⟨bk,o+node*7+4,none⟩) hH).trans d4;have qi:=aa hJ;have qN:=aa ((dK.out.block b hbl).trans JC.out);have hs1:(w.alloc (.cells #[.int .i64 (f:Int),.int .i64 loop,.pointer pa,.slice la L.length lc] 92)).heap.size=w.heap.size+1:=an _ _;generalize w.alloc (.cells #[.int .i64 (f:Int),.int .i64 loop,.pointer pa,.slice la L.length lc] 92)=W1 at *;have eK:=aa hs1;have US:=JC;clear d0 d4 hJ hs1 JC;have kk:Hid (W1.cell? ⟨b,0,none⟩=some (.slice (some ⟨bk,o,none⟩) T.length c)∧W1.cell? ⟨bk,o+node*7+4,none⟩=some (.string h.s)∧W1.cell? ⟨w.heap.size,0,none⟩=some (.int .i64 (f:Int))∧W1.cell? ⟨w.heap.size,1,none⟩=some (.int .i64 loop)∧W1.cell? ⟨w.heap.size,2,none⟩=some (.pointer pa)∧W1.cell? ⟨w.heap.size,3,none⟩=some (.slice la L.length lc)):=aa ⟨e0,e4,x0,x1,x2,x3⟩;have hb1:b<W1.heap.size:=(by have:=eK.out;omega)
 have iW:bk<W1.heap.size:=(by have:=eK.out;omega)
 have dZ:w.heap.size<W1.heap.size:=(by have:=eK.out;omega)
 have mr:w.heap.size≤W1.heap.size:=fx dZ;have DA:b≠W1.heap.size:=jC hb1;have ph:bk≠W1.heap.size:=jC iW;have ZN:w.heap.size≠W1.heap.size:=jC dZ;have tm:B≤W1.heap.size:=aK ca mr;go_region_held3 (fun w'=>w'.cell? ⟨b,0,none⟩=some (.slice (some ⟨bk,o,none⟩) T.length c)∧w'.cell? ⟨bk,o+node*7+4,none⟩=some (.string h.s)∧w'.cell? ⟨w.heap.size,0,none⟩=some (.int .i64 (f:Int))∧w'.cell? ⟨w.heap.size,1,none⟩=some (.int .i64 loop)∧w'.cell? ⟨w.heap.size,2,none⟩=some (.pointer pa)∧w'.cell? ⟨w.heap.size,3,none⟩=some (.slice la L.length lc))
  (first|exact kk.out|exact qL kk.out hb1 iW dZ _|exact zl kk.out DA ph ZN _ _)
  (first
   | (go_at_call 109;refine(zm.out W1.drew dK.out.drew).mono ?_;rintro e w2 hq;unfold UR at hq;obtain⟨rfl,tn,mG,BZ⟩:=hq;have B2:=aa (di tn);have F2:=aa (ft mG);have R2:=aa BZ;have hb1:b<w2.heap.size:=cC hb1 B2.out.size;have iW:bk<w2.heap.size:=cC iW B2.out.size;have dZ:w.heap.size<w2.heap.size:=cC dZ B2.out.size;have kk:=aa (lE (F2.out.cells _ _ _ _ qN.out (by decide)) ((B2.out.cell (p:=⟨bk,o+node*7+4,none⟩) eQ).trans e4) (F2.out.cells _ _ _ _ qi.out (by decide)));clear tn mG BZ)
   | (go_at_call 109;refine(zm.out (W1.alloc (.cells #[.int .i64 0,.int .i64 0] 57)).drew (dK.out.alloc mr _).drew).mono ?_;rintro e w2 hq;unfold UR at hq;obtain⟨rfl,tn,mG,BZ⟩:=hq;have B2:=aa (mq tm (di tn));have F2:=aa (se (ft mG));have R2:=aa BZ;have hz2:=(ft mG).cells _ _ _ _ (heap_alloc_new W1 (.cells #[.int .i64 0,.int .i64 0] 57)) (by decide);have q0:=gQ hz2;have q1:=gR hz2;have q2:=aw hz2 0;have q3:=aw hz2 1;have Z2:=aa hz2;have kk:=aa (lE (F2.out.cells _ _ _ _ qN.out (by decide)) ((B2.out.cell (p:=⟨bk,o+node*7+4,none⟩) eQ).trans e4) (F2.out.cells _ _ _ _ qi.out (by decide)));clear tn mG BZ hz2))
 ·have HQ:=aa (ZL (B:=B) ca (st2:=st2) (nv:=.slice (some ⟨bk,o,none⟩) T.length c) (N:=T.length) (b:=b) (ub:=ub) (ob:=ob) (known:=true) (k:=k) (i:=i) B2.out dK.out F2.out mr tm (fun _=>R2.out trivial))
  generalize w2.alloc (.cells #[.int .i64 k,.int .i64 i] 57)=W5 at HQ ⊢;generalize w2.heap.size=g at HQ ⊢;clear B2 F2 R2 zm dK qi qN eK kk e0 e4 x0 x1 x2 x3;have y0:=gQ HQ.out.use;have y1:=gR HQ.out.use;obtain⟨fv5,FL5,iB⟩:=HQ.out.rs rfl;obtain⟨yP,hl2,Km⟩:=iB.mV;have d2:W5.cell? ⟨b,2,none⟩=some (.slice (some ⟨ub,0,none⟩) T.length T.length):=ab iB.blk 2;obtain⟨u0,v0⟩:=da iB.uses (j:=node*2) (by omega)
  obtain⟨u1,v1⟩:=da iB.uses (j:=node*2+1) (by omega)
  have qO:=aa iB;clear iB;go_wp2_with fail
  refine(Gr W5).mono ?_;rintro e w6 ⟨rfl,rfl⟩;go_wp2_with fail
  go_region
  go_wp2_with fail
  go_ret
  exact⟨((HQ.out.below.setCell (p:=⟨ub,node*2,none⟩) qO.out.jh.1 _).setCell (p:=⟨ub,node*2+1,none⟩) qO.out.jh.1 _).drew,rfl,⟨_,_,(qO.out.use node (k,i)).drew⟩,(((HQ.out.fr.mono (by decide)).trans ((mj qO.out node _ _).mono (by decide)))).drew⟩
 ·have HQ:=aa (ZM (B:=B) ca oN (st2:=st2) (nv:=.slice (some ⟨bk,o,none⟩) T.length c) (N:=T.length) (b:=b) (ob:=ob) (known:=true) (k:=k) (i:=i) B2.out dK.out F2.out mr tm (fun _=>R2.out trivial) Z2.out)
  generalize (w2.setCell ⟨W1.heap.size,0,none⟩ (.int .i64 k)).setCell ⟨W1.heap.size,1,none⟩ (.int .i64 i)=W5 at HQ ⊢;generalize W1.heap.size=g at HQ ⊢;clear q0 q1 q2 q3 Z2;clear B2 F2 R2 zm dK qi qN eK kk e0 e4 x0 x1 x2 x3;have y0:=gQ HQ.out.use;have y1:=gR HQ.out.use;obtain⟨fv5,FL5,iB⟩:=HQ.out.rs rfl;obtain⟨yP,hl2,Km⟩:=iB.mV;have d2:W5.cell? ⟨b,2,none⟩=some (.slice (some ⟨ub,0,none⟩) T.length T.length):=ab iB.blk 2;obtain⟨u0,v0⟩:=da iB.uses (j:=node*2) (by omega)
  obtain⟨u1,v1⟩:=da iB.uses (j:=node*2+1) (by omega)
  have qO:=aa iB;clear iB;go_wp2_with fail
  refine(Gr W5).mono ?_;rintro e w6 ⟨rfl,rfl⟩;go_wp2_with fail
  go_region
  go_wp2_with fail
  go_ret
  exact⟨((HQ.out.below.setCell (p:=⟨ub,node*2,none⟩) qO.out.jh.1 _).setCell (p:=⟨ub,node*2+1,none⟩) qO.out.jh.1 _).drew,rfl,⟨_,_,(qO.out.use node (k,i)).drew⟩,(((HQ.out.fr.mono (by decide)).trans ((mj qO.out node _ _).mono (by decide)))).drew⟩
theorem JL {T:List Nd} {B:Nat} {nv:Value} {ub ob:Nat} (b node f:Nat) (h:Nd) (loop k i:Int) (pa la:Option Addr) (lc:Nat) (L:List cJ) (st st2:aG) (w:World) (hT:wo w B nv T) (hw:jV w B b nv T.length st ub ob) (hx:T[node]? = some h)
  (qM :∀W,Below w.heap.size w W→Calls Tryz.prog 109 #[.pointer (some ⟨b,0,none⟩),.string h.s,.agg #[.int .i64 (f:Int),.int .i64 loop,.pointer pa,.slice la L.length lc]] W (UR B b nv T.length ub ob st2 true k i (.iface 79 (.int .i64 16)) W)) :
  Calls Tryz.prog 54 #[.pointer (some ⟨b,0,none⟩),.int .i64 (node:Int),.agg #[.int .i64 (f:Int),.int .i64 loop,.pointer pa,.slice la L.length lc]] w (gN B b nv T.length ub ob (.ok (st2.dh node (1,0))) w):=by
 obtain⟨bk,o,c,rfl,eQ,ca,dN⟩:=hT.nodes;obtain⟨zI,zJ,fM,_,_⟩:=dN node h hx;have jG:node<T.length:=(aL.1 hx).1;have pS:=hT.few;obtain⟨hbl,oN,hb4⟩:b<w.heap.size∧ub<w.heap.size∧∃fv,w.heap[b]? = some (.cells #[.slice (some ⟨bk,o,none⟩) T.length c,fv,.slice (some ⟨ub,0,none⟩) T.length T.length,.slice (some ⟨ob,0,none⟩) T.length T.length] 87 (0,0)):=by
  obtain⟨_,_,h⟩:=hw;exact⟨h.mV.1,h.mV.2.1,_,h.blk⟩
 obtain⟨fv0,hb4⟩:=hb4;have zm:=aa qM;have d0:=ab hb4 0;replace d0:_=some (Value.slice (some ⟨bk,o,none⟩) T.length c):=d0;have d4:=UQ fM;have hH:bk<w.heap.size:=by omega
 have JC:=aa hb4;have HT:=aa hT;have HX:=aa hx;clear hw hT hx qM fM dN hb4;go_enter Tryz.func54,Tryz.ntmps54
 go_wp2_with fail
 have dK:=aa ((Below.refl w.heap.size w).alloc (ai _) (.cells #[.int .i64 (f:Int),.int .i64 loop,.pointer pa,.slice la L.length lc] 92));have hJ:=heap_alloc_new w (.cells #[.int .i64 (f:Int),.int .i64 loop,.pointer pa,.slice la L.length lc] 92);have x0:=ab hJ 0;have x1:=ab hJ 1;have x2:=ab hJ 2;have x3:=ab hJ 3;replace x0:_=some (Value.int .i64 (f:Int)):=x0;replace x1:_=some (Value.int .i64 loop):=x1;replace x2:_=some (Value.pointer pa):=x2;replace x3:_=some (Value.slice la L.length lc):=x3;have e0:=(dK.out.cell (p:=⟨b,0,none⟩) hbl).trans d0;have e4:=(dK.out.cell (p:=⟨bk,o+node*7+4,none⟩) hH).trans d4;have qi:=aa hJ;have qN:=aa ((dK.out.block b hbl).trans JC.out);have hs1:(w.alloc (.cells #[.int .i64 (f:Int),.int .i64 loop,.pointer pa,.slice la L.length lc] 92)).heap.size=w.heap.size+1:=an _ _;generalize w.alloc (.cells #[.int .i64 (f:Int),.int .i64 loop,.pointer pa,.slice la L.length lc] 92)=W1 at *;have eK:=aa hs1;have US:=JC;clear d0 d4 hJ hs1 JC;have kk:Hid (W1.cell? ⟨b,0,none⟩=some (.slice (some ⟨bk,o,none⟩) T.length c)∧W1.cell? ⟨bk,o+node*7+4,none⟩=some (.string h.s)∧W1.cell? ⟨w.heap.size,0,none⟩=some (.int .i64 (f:Int))∧W1.cell? ⟨w.heap.size,1,none⟩=some (.int .i64 loop)∧W1.cell? ⟨w.heap.size,2,none⟩=some (.pointer pa)∧W1.cell? ⟨w.heap.size,3,none⟩=some (.slice la L.length lc)):=aa ⟨e0,e4,x0,x1,x2,x3⟩;have hb1:b<W1.heap.size:=(by have:=eK.out;omega)
 have iW:bk<W1.heap.size:=(by have:=eK.out;omega)
 have dZ:w.heap.size<W1.heap.size:=(by have:=eK.out;omega)
 have mr:w.heap.size≤W1.heap.size:=fx dZ;have DA:b≠W1.heap.size:=jC hb1;have ph:bk≠W1.heap.size:=jC iW;have ZN:w.heap.size≠W1.heap.size:=jC dZ;have tm:B≤W1.heap.size:=aK ca mr;go_region_held3 (fun w'=>w'.cell? ⟨b,0,none⟩=some (.slice (some ⟨bk,o,none⟩) T.length c)∧w'.cell? ⟨bk,o+node*7+4,none⟩=some (.string h.s)∧w'.cell? ⟨w.heap.size,0,none⟩=some (.int .i64 (f:Int))∧w'.cell? ⟨w.heap.size,1,none⟩=some (.int .i64 loop)∧w'.cell? ⟨w.heap.size,2,none⟩=some (.pointer pa)∧w'.cell? ⟨w.heap.size,3,none⟩=some (.slice la L.length lc))
  (first|exact kk.out|exact qL kk.out hb1 iW dZ _|exact zl kk.out DA ph ZN _ _)
  (first
   | (go_at_call 109;refine(zm.out W1.drew dK.out.drew).mono ?_;rintro e w2 hq;unfold UR at hq;obtain⟨rfl,tn,mG,BZ⟩:=hq;have B2:=aa (di tn);have F2:=aa (ft mG);have R2:=aa BZ;have hb1:b<w2.heap.size:=cC hb1 B2.out.size;have iW:bk<w2.heap.size:=cC iW B2.out.size;have dZ:w.heap.size<w2.heap.size:=cC dZ B2.out.size;have kk:=aa (lE (F2.out.cells _ _ _ _ qN.out (by decide)) ((B2.out.cell (p:=⟨bk,o+node*7+4,none⟩) eQ).trans e4) (F2.out.cells _ _ _ _ qi.out (by decide)));clear tn mG BZ)
   | (go_at_call 109;refine(zm.out (W1.alloc (.cells #[.int .i64 0,.int .i64 0] 57)).drew (dK.out.alloc mr _).drew).mono ?_;rintro e w2 hq;unfold UR at hq;obtain⟨rfl,tn,mG,BZ⟩:=hq;have B2:=aa (mq tm (di tn));have F2:=aa (se (ft mG));have R2:=aa BZ;have hz2:=(ft mG).cells _ _ _ _ (heap_alloc_new W1 (.cells #[.int .i64 0,.int .i64 0] 57)) (by decide);have q0:=gQ hz2;have q1:=gR hz2;have q2:=aw hz2 0;have q3:=aw hz2 1;have Z2:=aa hz2;have kk:=aa (lE (F2.out.cells _ _ _ _ qN.out (by decide)) ((B2.out.cell (p:=⟨bk,o+node*7+4,none⟩) eQ).trans e4) (F2.out.cells _ _ _ _ qi.out (by decide)));clear tn mG BZ hz2))
 ·have HQ:=aa (ZL (B:=B) ca (st2:=st2) (nv:=.slice (some ⟨bk,o,none⟩) T.length c) (N:=T.length) (b:=b) (ub:=ub) (ob:=ob) (known:=true) (k:=k) (i:=i) B2.out dK.out F2.out mr tm (fun _=>R2.out trivial))
  generalize w2.alloc (.cells #[.int .i64 k,.int .i64 i] 57)=W5 at HQ ⊢;generalize w2.heap.size=g at HQ ⊢;clear B2 F2 R2 zm dK qi qN eK kk e0 e4 x0 x1 x2 x3;have y0:=gQ HQ.out.use;have y1:=gR HQ.out.use;have y2:=aw HQ.out.use 0;have y3:=aw HQ.out.use 1;have hgu:g≠ub:=by have:=HQ.out.new;omega
  go_wp2_with fail
  refine(Gs W5).mono ?_;rintro e w6 ⟨rfl,rfl⟩;go_wp2_with fail
  have hk:vV W5 g 57:=⟨_,_,HQ.out.use⟩;have PB:=((HQ.out.rs rfl).fV hk hgu 0 (.int .i64 1)).fV (hk.set _ _ _) hgu 1 (.int .i64 0);have DQ:=zi HQ.out.use (.int .i64 1) (.int .i64 0);have I4:=aa ((HQ.out.below.setCell (p:=⟨g,0,none⟩) (aK ca HQ.out.new) (.int .i64 1)).setCell (p:=⟨g,1,none⟩) (aK ca HQ.out.new) (.int .i64 0));have PC:=aa (HQ.out.fr.past (fun k hk=>qJ W5 g (.int .i64 1) (.int .i64 0) k (by have:=HQ.out.new;omega)) (by rw[n7];exact ai _))
  generalize (W5.setCell ⟨g,0,none⟩ (.int .i64 1)).setCell ⟨g,1,none⟩ (.int .i64 0)=W6 at PB DQ I4 PC ⊢;have k0:=gQ DQ;have k1:=gR DQ;obtain⟨fv5,FL5,iB⟩:=PB;obtain⟨yP,hl2,Km⟩:=iB.mV;have d2:W6.cell? ⟨b,2,none⟩=some (.slice (some ⟨ub,0,none⟩) T.length T.length):=ab iB.blk 2;obtain⟨u0,v0⟩:=da iB.uses (j:=node*2) (by omega)
  obtain⟨u1,v1⟩:=da iB.uses (j:=node*2+1) (by omega)
  have qO:=aa iB;clear iB DQ y0 y1 y2 y3 hk;go_region
  go_wp2_with fail
  go_ret
  exact⟨((I4.out.setCell (p:=⟨ub,node*2,none⟩) qO.out.jh.1 _).setCell (p:=⟨ub,node*2+1,none⟩) qO.out.jh.1 _).drew,rfl,⟨_,_,(qO.out.use node (1,0)).drew⟩,(((PC.out.mono (by decide)).trans ((mj qO.out node _ _).mono (by decide)))).drew⟩
 ·have HQ:=aa (ZM (B:=B) ca oN (st2:=st2) (nv:=.slice (some ⟨bk,o,none⟩) T.length c) (N:=T.length) (b:=b) (ob:=ob) (known:=true) (k:=k) (i:=i) B2.out dK.out F2.out mr tm (fun _=>R2.out trivial) Z2.out)
  generalize (w2.setCell ⟨W1.heap.size,0,none⟩ (.int .i64 k)).setCell ⟨W1.heap.size,1,none⟩ (.int .i64 i)=W5 at HQ ⊢;generalize W1.heap.size=g at HQ ⊢;clear q0 q1 q2 q3 Z2;clear B2 F2 R2 zm dK qi qN eK kk e0 e4 x0 x1 x2 x3;have y0:=gQ HQ.out.use;have y1:=gR HQ.out.use;have y2:=aw HQ.out.use 0;have y3:=aw HQ.out.use 1;have hgu:g≠ub:=by have:=HQ.out.new;omega
  go_wp2_with fail
  refine(Gs W5).mono ?_;rintro e w6 ⟨rfl,rfl⟩;go_wp2_with fail
  have hk:vV W5 g 57:=⟨_,_,HQ.out.use⟩;have PB:=((HQ.out.rs rfl).fV hk hgu 0 (.int .i64 1)).fV (hk.set _ _ _) hgu 1 (.int .i64 0);have DQ:=zi HQ.out.use (.int .i64 1) (.int .i64 0);have I4:=aa ((HQ.out.below.setCell (p:=⟨g,0,none⟩) (aK ca HQ.out.new) (.int .i64 1)).setCell (p:=⟨g,1,none⟩) (aK ca HQ.out.new) (.int .i64 0));have PC:=aa (HQ.out.fr.past (fun k hk=>qJ W5 g (.int .i64 1) (.int .i64 0) k (by have:=HQ.out.new;omega)) (by rw[n7];exact ai _))
  generalize (W5.setCell ⟨g,0,none⟩ (.int .i64 1)).setCell ⟨g,1,none⟩ (.int .i64 0)=W6 at PB DQ I4 PC ⊢;have k0:=gQ DQ;have k1:=gR DQ;obtain⟨fv5,FL5,iB⟩:=PB;obtain⟨yP,hl2,Km⟩:=iB.mV;have d2:W6.cell? ⟨b,2,none⟩=some (.slice (some ⟨ub,0,none⟩) T.length T.length):=ab iB.blk 2;obtain⟨u0,v0⟩:=da iB.uses (j:=node*2) (by omega)
  obtain⟨u1,v1⟩:=da iB.uses (j:=node*2+1) (by omega)
  have qO:=aa iB;clear iB DQ y0 y1 y2 y3 hk;go_region
  go_wp2_with fail
  go_ret
  exact⟨((I4.out.setCell (p:=⟨ub,node*2,none⟩) qO.out.jh.1 _).setCell (p:=⟨ub,node*2+1,none⟩) qO.out.jh.1 _).drew,rfl,⟨_,_,(qO.out.use node (1,0)).drew⟩,(((PC.out.mono (by decide)).trans ((mj qO.out node _ _).mono (by decide)))).drew⟩
theorem PD {T:List Nd} {B:Nat} {nv:Value} {ub ob:Nat} (b node f:Nat) (h:Nd) (loop k i:Int) (pa la:Option Addr) (lc:Nat) (L:List cJ) (st st2:aG) (w:World) (hT:wo w B nv T) (hw:jV w B b nv T.length st ub ob) (hx:T[node]? = some h)
  (qM :∀W,Below w.heap.size w W→Calls Tryz.prog 109 #[.pointer (some ⟨b,0,none⟩),.string h.s,.agg #[.int .i64 (f:Int),.int .i64 loop,.pointer pa,.slice la L.length lc]] W (UR B b nv T.length ub ob st2 false k i (.iface 79 (.int .i64 12)) W)) :
  Calls Tryz.prog 54 #[.pointer (some ⟨b,0,none⟩),.int .i64 (node:Int),.agg #[.int .i64 (f:Int),.int .i64 loop,.pointer pa,.slice la L.length lc]] w (gN B b nv T.length ub ob (.error (12,h.line)) w):=by
 obtain⟨bk,o,c,rfl,eQ,ca,dN⟩:=hT.nodes;obtain⟨zI,zJ,fM,_,_⟩:=dN node h hx;have jG:node<T.length:=(aL.1 hx).1;have pS:=hT.few;obtain⟨hbl,oN,hb4⟩:b<w.heap.size∧ub<w.heap.size∧∃fv,w.heap[b]? = some (.cells #[.slice (some ⟨bk,o,none⟩) T.length c,fv,.slice (some ⟨ub,0,none⟩) T.length T.length,.slice (some ⟨ob,0,none⟩) T.length T.length] 87 (0,0)):=by
  obtain⟨_,_,h⟩:=hw;exact⟨h.mV.1,h.mV.2.1,_,h.blk⟩
 obtain⟨fv0,hb4⟩:=hb4;have zm:=aa qM;have d0:=ab hb4 0;replace d0:_=some (Value.slice (some ⟨bk,o,none⟩) T.length c):=d0;have d4:=UQ fM;have hH:bk<w.heap.size:=by omega
 have JC:=aa hb4;have HT:=aa hT;have HX:=aa hx;clear hw hT hx qM fM dN hb4;go_enter Tryz.func54,Tryz.ntmps54
 go_wp2_with fail
 have dK:=aa ((Below.refl w.heap.size w).alloc (ai _) (.cells #[.int .i64 (f:Int),.int .i64 loop,.pointer pa,.slice la L.length lc] 92));have hJ:=heap_alloc_new w (.cells #[.int .i64 (f:Int),.int .i64 loop,.pointer pa,.slice la L.length lc] 92);have x0:=ab hJ 0;have x1:=ab hJ 1;have x2:=ab hJ 2;have x3:=ab hJ 3;replace x0:_=some (Value.int .i64 (f:Int)):=x0;replace x1:_=some (Value.int .i64 loop):=x1;replace x2:_=some (Value.pointer pa):=x2;replace x3:_=some (Value.slice la L.length lc):=x3;have e0:=(dK.out.cell (p:=⟨b,0,none⟩) hbl).trans d0;have e4:=(dK.out.cell (p:=⟨bk,o+node*7+4,none⟩) hH).trans d4;have qi:=aa hJ;have qN:=aa ((dK.out.block b hbl).trans JC.out);have hs1:(w.alloc (.cells #[.int .i64 (f:Int),.int .i64 loop,.pointer pa,.slice la L.length lc] 92)).heap.size=w.heap.size+1:=an _ _;generalize w.alloc (.cells #[.int .i64 (f:Int),.int .i64 loop,.pointer pa,.slice la L.length lc] 92)=W1 at *;have eK:=aa hs1;have US:=JC;clear d0 d4 hJ hs1 JC;have kk:Hid (W1.cell? ⟨b,0,none⟩=some (.slice (some ⟨bk,o,none⟩) T.length c)∧W1.cell? ⟨bk,o+node*7+4,none⟩=some (.string h.s)∧W1.cell? ⟨w.heap.size,0,none⟩=some (.int .i64 (f:Int))∧W1.cell? ⟨w.heap.size,1,none⟩=some (.int .i64 loop)∧W1.cell? ⟨w.heap.size,2,none⟩=some (.pointer pa)∧W1.cell? ⟨w.heap.size,3,none⟩=some (.slice la L.length lc)):=aa ⟨e0,e4,x0,x1,x2,x3⟩;have hb1:b<W1.heap.size:=(by have:=eK.out;omega)
 have iW:bk<W1.heap.size:=(by have:=eK.out;omega)
 have dZ:w.heap.size<W1.heap.size:=(by have:=eK.out;omega)
 have mr:w.heap.size≤W1.heap.size:=fx dZ;have DA:b≠W1.heap.size:=jC hb1;have ph:bk≠W1.heap.size:=jC iW;have ZN:w.heap.size≠W1.heap.size:=jC dZ;have tm:B≤W1.heap.size:=aK ca mr;go_region_held3 (fun w'=>w'.cell? ⟨b,0,none⟩=some (.slice (some ⟨bk,o,none⟩) T.length c)∧w'.cell? ⟨bk,o+node*7+4,none⟩=some (.string h.s)∧w'.cell? ⟨w.heap.size,0,none⟩=some (.int .i64 (f:Int))∧w'.cell? ⟨w.heap.size,1,none⟩=some (.int .i64 loop)∧w'.cell? ⟨w.heap.size,2,none⟩=some (.pointer pa)∧w'.cell? ⟨w.heap.size,3,none⟩=some (.slice la L.length lc))
  (first|exact kk.out|exact qL kk.out hb1 iW dZ _|exact zl kk.out DA ph ZN _ _)
  (first
   | (go_at_call 109;refine(zm.out W1.drew dK.out.drew).mono ?_;rintro e w2 hq;unfold UR at hq;obtain⟨rfl,tn,mG,BZ⟩:=hq;have B2:=aa (di tn);have F2:=aa (ft mG);have R2:=aa BZ;have hb1:b<w2.heap.size:=cC hb1 B2.out.size;have iW:bk<w2.heap.size:=cC iW B2.out.size;have dZ:w.heap.size<w2.heap.size:=cC dZ B2.out.size;have kk:=aa (lE (F2.out.cells _ _ _ _ qN.out (by decide)) ((B2.out.cell (p:=⟨bk,o+node*7+4,none⟩) eQ).trans e4) (F2.out.cells _ _ _ _ qi.out (by decide)));clear tn mG BZ)
   | (go_at_call 109;refine(zm.out (W1.alloc (.cells #[.int .i64 0,.int .i64 0] 57)).drew (dK.out.alloc mr _).drew).mono ?_;rintro e w2 hq;unfold UR at hq;obtain⟨rfl,tn,mG,BZ⟩:=hq;have B2:=aa (mq tm (di tn));have F2:=aa (se (ft mG));have R2:=aa BZ;have hz2:=(ft mG).cells _ _ _ _ (heap_alloc_new W1 (.cells #[.int .i64 0,.int .i64 0] 57)) (by decide);have q0:=gQ hz2;have q1:=gR hz2;have q2:=aw hz2 0;have q3:=aw hz2 1;have Z2:=aa hz2;have kk:=aa (lE (F2.out.cells _ _ _ _ qN.out (by decide)) ((B2.out.cell (p:=⟨bk,o+node*7+4,none⟩) eQ).trans e4) (F2.out.cells _ _ _ _ qi.out (by decide)));clear tn mG BZ hz2))
 ·have HQ:=aa (ZL (B:=B) ca (st2:=st2) (nv:=.slice (some ⟨bk,o,none⟩) T.length c) (N:=T.length) (b:=b) (ub:=ub) (ob:=ob) (known:=false) (k:=k) (i:=i) B2.out dK.out F2.out mr tm (fun h=>absurd h (by decide)))
  generalize w2.alloc (.cells #[.int .i64 k,.int .i64 i] 57)=W5 at HQ ⊢;generalize w2.heap.size=g at HQ ⊢;clear B2 F2 R2 zm dK qi qN eK kk e0 e4 x0 x1 x2 x3;have y0:=gQ HQ.out.use;have y1:=gR HQ.out.use;have PE:=aa (HT.out.below HQ.out.below);have PF:=aa (ab (HQ.out.fr.cells _ _ _ _ US.out (by decide)) 0)
  go_wp2_with fail
  refine(Gt W5).mono ?_;rintro e w6 ⟨rfl,rfl⟩;go_wp2_with fail
  refine(eF b node _ _ _ PE.out PF.out HX.out).mono ?_;rintro e w7 ⟨v,rfl,⟨g1,rfl⟩,h1,h2⟩;have H1:=aa h1;have H2:=aa h2;clear h1 h2;go_wp2_with fail
  go_ret
  exact iS HQ.out.below (aK ca (aK (ai _) HQ.out.below.size)) H2.out H1.out
 ·have HQ:=aa (ZM (B:=B) ca oN (st2:=st2) (nv:=.slice (some ⟨bk,o,none⟩) T.length c) (N:=T.length) (b:=b) (ob:=ob) (known:=false) (k:=k) (i:=i) B2.out dK.out F2.out mr tm (fun h=>absurd h (by decide)) Z2.out)
  generalize (w2.setCell ⟨W1.heap.size,0,none⟩ (.int .i64 k)).setCell ⟨W1.heap.size,1,none⟩ (.int .i64 i)=W5 at HQ ⊢;generalize W1.heap.size=g at HQ ⊢;clear q0 q1 q2 q3 Z2;clear B2 F2 R2 zm dK qi qN eK kk e0 e4 x0 x1 x2 x3;have y0:=gQ HQ.out.use;have y1:=gR HQ.out.use;have PE:=aa (HT.out.below HQ.out.below);have PF:=aa (ab (HQ.out.fr.cells _ _ _ _ US.out (by decide)) 0)
  go_wp2_with fail
  refine(Gt W5).mono ?_;rintro e w6 ⟨rfl,rfl⟩;go_wp2_with fail
  refine(eF b node _ _ _ PE.out PF.out HX.out).mono ?_;rintro e w7 ⟨v,rfl,⟨g1,rfl⟩,h1,h2⟩;have H1:=aa h1;have H2:=aa h2;clear h1 h2;go_wp2_with fail
  go_ret
  exact iS HQ.out.below (aK ca (aK (ai _) HQ.out.below.size)) H2.out H1.out
theorem JM {node f:Nat} {s:ByteArray} {line:Int} {st:aG} (h:(st.names.find? fun n=>decide (n.s=s))=none):me node f s line st=.ok (st.dh node (1,0)):=by
 unfold me;rw[h]
theorem JN {node f:Nat} {s:ByteArray} {line:Int} {st:aG} {n:ju} (h:(st.names.find? fun n=>decide (n.s=s))=some n):me node f s line st=match fD n st.fns.length f st.fns with
  | none=>.error (12,line)
  | some (F,k,i)=>.ok (({ st with fns:=F}:aG).dh node (k,(i:Int))):=by
 unfold me;rw[h];dsimp only
 unfold fD;by_cases e:n.fn=f
 ·rw[ak e,ak e.symm]
 ·rw[af e,af fun e'=>e e'.symm]
  have:st.fns.set n.fn (cQ (st.fn n.fn) n.i)=gd n st.fns:=rfl;rw[this];cases mc n st.fns.length (gd n st.fns) f with
  | none=>rfl
  | some r=>rfl
theorem PG {T:List Nd} {B:Nat} {nv:Value} {ub ob:Nat} (b node f:Nat) (h:Nd) (loop:Int) (pa la:Option Addr) (lc:Nat) (L:List cJ) (st:aG) (w:World) (hT:wo w B nv T) (hw:jV w B b nv T.length st ub ob) (hx:T[node]? = some h) (hl:cX w B (.slice la L.length lc) L) (hn:st.names=mL L) (vU:Cx f st) (mo:dA st.fns) (Pj:st.fns.length≤100000) (xt:L.length≤100000) (hs:h.s.size≤maxLen) :
  Calls Tryz.prog 54 #[.pointer (some ⟨b,0,none⟩),.int .i64 (node:Int),.agg #[.int .i64 (f:Int),.int .i64 loop,.pointer pa,.slice la L.length lc]] w (gN B b nv T.length ub ob (me node f h.s h.line st) w):=by
 obtain⟨_,_,_,_,_,ca,_⟩:=hT.nodes;have key :∀W,Below w.heap.size w W→Calls Tryz.prog 109 #[.pointer (some ⟨b,0,none⟩),.string h.s,.agg #[.int .i64 (f:Int),.int .i64 loop,.pointer pa,.slice la L.length lc]] W (BX B b nv T.length ub ob st f h.s W) :=
  fun W hb=>JJ b f h.s loop pa la lc L st W (hw.later hb) (hl.jq (ob:=0) (cN.bK hb ca) (ai _)) hn vU mo Pj xt hs
 cases hf:st.names.find? fun n=>decide (n.s=h.s) with
 | none =>
  rw[JM hf];refine JL b node f h loop 0 0 pa la lc L st st w hT hw hx fun W hb=>(key W hb).mono ?_
  rintro e w' ⟨h1,h2,h3⟩;rw[hf] at h3;exact⟨h3.1,h1,h2,fun _=>h3.2⟩
 | some n =>
  rw[JN hf];cases hR:fD n st.fns.length f st.fns with
  | none =>
   refine PD b node f h loop 0 0 pa la lc L st st w hT hw hx fun W hb=>(key W hb).mono ?_
   rintro e w' ⟨h1,h2,h3⟩;rw[hf] at h3;simp only[hR] at h3;exact⟨h3,h1,h2,fun h=>absurd h (by decide)⟩
  | some r =>
   obtain⟨F,kd,j⟩:=r;refine Pz b node f h loop kd (j:Int) pa la lc L st { st with fns:=F} w hT hw hx fun W hb=>(key W hb).mono ?_
   rintro e w' ⟨h1,h2,h3⟩;rw[hf] at h3;simp only[hR] at h3;exact⟨h3.1,h1,h2,fun _=>h3.2⟩
theorem PH (x:fB) (s:ByteArray):((Ks x).2.2 s).isSome=(bZ x.kids s).isSome:=by
 show(fH x.kids x.rep x.kids.length s).isSome=_
 unfold fH;rw[BK];cases bZ x.kids s<;>rfl
theorem vF (s:ByteArray) (l:List fB):(l.map Ks).find? (fun x=>(x.2.2 s).isSome)=(l.find? fun x=>(bZ x.kids s).isSome).map Ks:=by
 rw[List.find?_map];congr 1
 congr 1
 funext x
 exact PH x s
theorem B9 (l:List fB):Pk (l.map Ks):=by
 intro x hx s v hv;obtain⟨y,_,rfl⟩:=jA.1 hx;replace hv:fH y.kids y.rep y.kids.length s=some v:=hv;unfold fH at hv;cases e:nZ y.kids y.rep y.kids.length s with
 | none=>rw[e] at hv;cases hv
 | some p =>
  rw[e] at hv;injection hv with hv;exact⟨_,_,hv.symm⟩
theorem xS {node f:Nat} {s:ByteArray} {line:Int} {st:aG} (h:((dz f st.frames).map Ks).find? (fun x=>(x.2.2 s).isSome)=none):db node f s line st st.frames=.error (8,line):=by
 rw[vF] at h;rw[oC,Option.map_eq_none_iff.1 h]
theorem xU {node f:Nat} {s:ByteArray} {line a d:Int} {st:aG} {x:Nat×Nat×(ByteArray→Option Value)} (h:((dz f st.frames).map Ks).find? (fun x=>(x.2.2 s).isSome)=some x) (hx:x.2.2 s=some (.agg #[.int .i64 a,.int .i64 d])):db node f s line st st.frames=if (x.1:Int)<d then .error (10,line) else .ok (st.dh node (4,a)):=by
 rw[vF,Option.map_eq_some_iff] at h;obtain⟨y,hy,rfl⟩:=h;rw[oC,hy];replace hx:fH y.kids y.rep y.kids.length s=some (.agg #[.int .i64 a,.int .i64 d]):=hx;unfold fH at hx;rw[BK] at hx;dsimp only
 cases e:bZ y.kids s with
 | none=>rw[e] at hx;cases hx
 | some j =>
  rw[e] at hx;dsimp only[Option.map] at hx
  injection hx with hx;injection hx with hx;have hx1:[Value.int .i64 ((y.kids.getD j (.mk 0 ⟨0,0,0,0,⟨#[]⟩,[],[]⟩ [])).loc:Int),.int .i64 (rZ y.kids y.rep j:Int)]=[.int .i64 a,.int .i64 d]:=ay Array.toList hx;injection hx1 with e1 e2;injection e2 with e2 _;injection e1 with _ e1;injection e2 with _ e2;subst e1 e2;obtain⟨z,hz,hl,_⟩:=vw e;have hz2:rf z=true:=by
   unfold lx at hl;unfold rf;simp only[dk] at hl;exact hl.1
  dsimp only
  rw[UG hz hz2];show(if decide (gZ y.kids (y.at_+1)<rZ y.kids y.rep j)=true then _ else _)=if ((gZ y.kids (y.at_+1):Nat):Int)<_ then _ else _
  by_cases h1:gZ y.kids (y.at_+1)<rZ y.kids y.rep j
  ·rw[ak (bF h1),ak (by omega)]
  ·rw[af (by rw[bN h1];simp),af (by omega)]
structure JQ (w:World) (s:ByteArray) (fs:List (Nat×Nat×(ByteArray→Option Value))) (pa:Option Addr) (a d:Int) (W:World) (g:Nat):Prop where
 below:Below w.heap.size w W
 fnd:gC W s fs (.pointer pa) (.agg #[.int .i64 a,.int .i64 d])
 c0:W.cell? ⟨g,0,none⟩=some (.int .i64 a)
 c1:W.cell? ⟨g,1,none⟩=some (.int .i64 d)
 new:w.heap.size≤g
 lt:g<W.heap.size
theorem gC.later {W W':World} {s:ByteArray} {fs:List (Nat×Nat×(ByteArray→Option Value))} {pv xP:Value} (h:gC W s fs pv xP) (hb:Below W.heap.size W W'):gC W' s fs pv xP:=by
 unfold gC at h ⊢;split
 ·rename_i e
  rw[e] at h;exact h
 ·rename_i x e
  rw[e] at h;obtain⟨k,h1,h2,h3,h4⟩:=h;exact⟨k,h1,h2,(hb.cell (p:=⟨k,2,none⟩) h4).trans h3,cC h4 hb.size⟩
theorem gC.far {W W':World} {s:ByteArray} {fs:List (Nat×Nat×(ByteArray→Option Value))} {pv xP:Value} {n:Nat} (h:gC W s fs pv xP) (hn :∀k,pv=.pointer (some ⟨k,0,none⟩)→k<n) (hsz:W.heap.size≤W'.heap.size) (hb :∀k,k<n→W'.heap[k]? = W.heap[k]?):gC W' s fs pv xP:=by
 unfold gC at h ⊢;split
 ·rename_i e
  rw[e] at h;exact h
 ·rename_i x e
  rw[e] at h;obtain⟨k,h1,h2,h3,h4⟩:=h;exact⟨k,h1,h2,(World.cell?_of_block (a:=⟨k,2,none⟩) (hb k (hn k h1))).trans h3,cC h4 hsz⟩
theorem adG {w W1 w2:World} {s:ByteArray} {fs:List (Nat×Nat×(ByteArray→Option Value))} {pa:Option Addr} {a d:Int} (b1:Below w.heap.size w W1) (b2:Below W1.heap.size W1 w2) (hf:gC w2 s fs (.pointer pa) (.agg #[.int .i64 a,.int .i64 d])) (hle:w.heap.size≤W1.heap.size):JQ w s fs pa a d (w2.alloc (.cells #[.int .i64 a,.int .i64 d] 199)) w2.heap.size :=
 ⟨(b1.trans (b2.mono hle)).alloc (aK hle b2.size) _,hf.later ((Below.refl _ _).alloc (ai _) _),ab (heap_alloc_new _ _) 0,ab (heap_alloc_new _ _) 1,aK hle b2.size,by rw[an];omega⟩
theorem adH {w W1 w2:World} {s:ByteArray} {fs:List (Nat×Nat×(ByteArray→Option Value))} {pa:Option Addr} {a d x y:Int} (b1:Below w.heap.size w W1) (b2:Below W1.heap.size W1 w2) (hf:gC w2 s fs (.pointer pa) (.agg #[.int .i64 a,.int .i64 d])) (hn :∀k,Value.pointer pa=.pointer (some ⟨k,0,none⟩)→k<W1.heap.size) (hle:w.heap.size≤W1.heap.size) (hz:w2.heap[W1.heap.size]? = some (.cells #[.int .i64 x,.int .i64 y] 199 (0,0))):JQ w s fs pa a d ((w2.setCell ⟨W1.heap.size,0,none⟩ (.int .i64 a)).setCell ⟨W1.heap.size,1,none⟩ (.int .i64 d)) W1.heap.size :=
 ⟨((b1.trans (b2.mono hle)).setCell (p:=⟨W1.heap.size,0,none⟩) hle _).setCell (p:=⟨W1.heap.size,1,none⟩) hle _,hf.far hn (by rw[n7];exact ai _) (fun k hk=>qJ w2 W1.heap.size _ _ k (by omega)),ab (zi hz _ _) 0,ab (zi hz _ _) 1,hle,by rw[n7];exact(aJ.1 hz).1⟩
theorem gC.lt {W:World} {s:ByteArray} {fs:List (Nat×Nat×(ByteArray→Option Value))} {pa:Option Addr} {xP:Value} (h:gC W s fs (.pointer pa) xP) :∀k,Value.pointer pa=.pointer (some ⟨k,0,none⟩)→k<W.heap.size:=by
 intro k hk;unfold gC at h;split at h
 ·rw[hk] at h;cases h.1
 ·obtain⟨k',h1,_,_,h4⟩:=h
  rw[hk] at h1;injection h1 with h1;injection h1 with h1;injection h1 with h1;omega
theorem gC.old {W:World} {s:ByteArray} {fs:List (Nat×Nat×(ByteArray→Option Value))} {pa:Option Addr} {xP:Value} {x y:Value} (h:gC (W.alloc (.cells #[x,y] 199)).drew s fs (.pointer pa) xP) :∀k,Value.pointer pa=.pointer (some ⟨k,0,none⟩)→k<W.heap.size:=by
 intro k hk;have h1:=h.lt k hk;replace h1:k<(W.alloc (.cells #[x,y] 199)).heap.size:=h1;rw[an] at h1;by_cases e:k=W.heap.size
 ·exfalso
  subst e;unfold gC at h;split at h
  ·rw[hk] at h;cases h.1
  ·obtain⟨k',h2,_,h3,_⟩:=h
   rw[hk] at h2;injection h2 with h2;injection h2 with h2;injection h2 with h2;subst h2;have h4:=ab (heap_alloc_new W (.cells #[x,y] 199)) 2;replace h3:(W.alloc (.cells #[x,y] 199)).cell? ⟨W.heap.size,2,none⟩=_:=h3;rw[h4] at h3;cases h3
 ·omega
theorem iG {a w:World} (h:Below a.drew.heap.size a.drew w):Below a.heap.size a w:=⟨h.os,h.tape,h.output,h.size,h.block⟩
theorem gC.no {W:World} {s:ByteArray} {fs:List (Nat×Nat×(ByteArray→Option Value))} {pa:Option Addr} {xP:Value} (h:gC W s fs (.pointer pa) xP) (e:fs.find? (fun x=>(x.2.2 s).isSome)=none):pa=none:=by
 unfold gC at h;rw[e] at h;have:=h.1;injection this
theorem gC.yes {W:World} {s:ByteArray} {fs:List (Nat×Nat×(ByteArray→Option Value))} {pa:Option Addr} {xP:Value} {x:Nat×Nat×(ByteArray→Option Value)} (h:gC W s fs (.pointer pa) xP) (e:fs.find? (fun x=>(x.2.2 s).isSome)=some x) :∃k,pa=some ⟨k,0,none⟩∧x.2.2 s=some xP∧W.cell? ⟨k,2,none⟩=some (.int .i64 (x.1:Int))∧k<W.heap.size:=by
 unfold gC at h;rw[e] at h;obtain⟨k,h1,h2⟩:=h;injection h1 with h1;exact⟨k,h1,h2⟩
theorem gC.PI {W:World} {s:ByteArray} {fs:List (Nat×Nat×(ByteArray→Option Value))} {pv xP:Value} (h:gC W.drew s fs pv xP):gC W s fs pv xP:=h
theorem Ca {W w2:World} {b bk j p N f c o:Nat} {s:ByteArray} {loop:Int} {pa la:Option Addr} {ln lc:Nat} (h:W.cell? ⟨b,0,none⟩=some (.slice (some ⟨bk,o,none⟩) N c)∧W.cell? ⟨bk,j,none⟩=some (.string s)∧W.cell? ⟨p,0,none⟩=some (.int .i64 (f:Int))∧W.cell? ⟨p,1,none⟩=some (.int .i64 loop)∧W.cell? ⟨p,2,none⟩=some (.pointer pa)∧W.cell? ⟨p,3,none⟩=some (.slice la ln lc)) (hb:b<W.heap.size) (hk:bk<W.heap.size) (hp:p<W.heap.size) (hB:Below W.heap.size W w2) :
  w2.cell? ⟨b,0,none⟩=some (.slice (some ⟨bk,o,none⟩) N c)∧w2.cell? ⟨bk,j,none⟩=some (.string s)∧w2.cell? ⟨p,0,none⟩=some (.int .i64 (f:Int))∧w2.cell? ⟨p,1,none⟩=some (.int .i64 loop)∧w2.cell? ⟨p,2,none⟩=some (.pointer pa)∧w2.cell? ⟨p,3,none⟩=some (.slice la ln lc) :=
 ⟨(hB.cell (p:=⟨b,0,none⟩) hb).trans h.1,(hB.cell (p:=⟨bk,j,none⟩) hk).trans h.2.1,(hB.cell (p:=⟨p,0,none⟩) hp).trans h.2.2.1,(hB.cell (p:=⟨p,1,none⟩) hp).trans h.2.2.2.1,(hB.cell (p:=⟨p,2,none⟩) hp).trans h.2.2.2.2.1,(hB.cell (p:=⟨p,3,none⟩) hp).trans h.2.2.2.2.2⟩
theorem PJ {T:List Nd} {B:Nat} {nv:Value} {ub ob:Nat} (b node f:Nat) (h:Nd) (loop:Int) (pa la:Option Addr) (lc ln:Nat) (ms:List Nat) (st:aG) (w:World) (hT:wo w B nv T) (hw:jV w B b nv T.length st ub ob) (hx:T[node]? = some h) (hc:pe w B (dz f st.frames) ms (.pointer pa)) (hs:h.s.size≤maxLen) :
  Calls Tryz.prog 59 #[.pointer (some ⟨b,0,none⟩),.int .i64 (node:Int),.agg #[.int .i64 (f:Int),.int .i64 loop,.pointer pa,.slice la ln lc]] w (gN B b nv T.length ub ob (db node f h.s h.line st st.frames) w):=by
 obtain⟨bk,o,c,rfl,eQ,ca,dN⟩:=hT.nodes;obtain⟨zI,zJ,fM,_,_⟩:=dN node h hx;have jG:node<T.length:=(aL.1 hx).1;have pS:=hT.few;obtain⟨fv,FL,hw⟩:=hw;obtain⟨hbl,oN,s9⟩:=hw.mV;have HW:=aa hw;have hb4:=hw.blk;have d0:=ab hb4 0;replace d0:_=some (Value.slice (some ⟨bk,o,none⟩) T.length c):=d0;have d4:=UQ fM;have hH:bk<w.heap.size:=by omega
 have HT:=aa hT;have HX:=aa hx;obtain⟨fs,vB⟩ :∃fs,fs=(dz f st.frames).map Ks:=⟨_,rfl⟩;have Kt:=aa vB;replace hc:b9 w B fs ms (.pointer pa):=vB▸hc;have UT:Pk fs:=vB▸B9 _;have zm:Hid (∀W,Below w.heap.size w W→Calls Tryz.prog 116 #[.pointer pa,.string h.s] W fun e w'=>∃UU a d,e=.returned (.tuple #[.pointer UU,.agg #[.int .i64 a,.int .i64 d]])∧gC W h.s fs (.pointer UU) (.agg #[.int .i64 a,.int .i64 d])∧Below W.heap.size W w'):=aa fun W hW=>BM fs ms _ h.s W (hc.later hW) hs UT
 clear hw hT hx fM dN hb4 hc UT vB;go_enter Tryz.func59,Tryz.ntmps59
 go_wp2_with fail
 have dK:=aa ((Below.refl w.heap.size w).alloc (ai _) (.cells #[.int .i64 (f:Int),.int .i64 loop,.pointer pa,.slice la ln lc] 92));have hJ:=heap_alloc_new w (.cells #[.int .i64 (f:Int),.int .i64 loop,.pointer pa,.slice la ln lc] 92);have x0:=ab hJ 0;have x1:=ab hJ 1;have x2:=ab hJ 2;have x3:=ab hJ 3;replace x0:_=some (Value.int .i64 (f:Int)):=x0;replace x1:_=some (Value.int .i64 loop):=x1;replace x2:_=some (Value.pointer pa):=x2;replace x3:_=some (Value.slice la ln lc):=x3;have e0:=(dK.out.cell (p:=⟨b,0,none⟩) hbl).trans d0;have e4:=(dK.out.cell (p:=⟨bk,o+node*7+4,none⟩) hH).trans d4;have hs1:(w.alloc (.cells #[.int .i64 (f:Int),.int .i64 loop,.pointer pa,.slice la ln lc] 92)).heap.size=w.heap.size+1:=an _ _;generalize w.alloc (.cells #[.int .i64 (f:Int),.int .i64 loop,.pointer pa,.slice la ln lc] 92)=W1 at *;have eK:=aa hs1;clear d0 d4 hJ hs1;have kk:Hid (W1.cell? ⟨b,0,none⟩=some (.slice (some ⟨bk,o,none⟩) T.length c)∧W1.cell? ⟨bk,o+node*7+4,none⟩=some (.string h.s)∧W1.cell? ⟨w.heap.size,0,none⟩=some (.int .i64 (f:Int))∧W1.cell? ⟨w.heap.size,1,none⟩=some (.int .i64 loop)∧W1.cell? ⟨w.heap.size,2,none⟩=some (.pointer pa)∧W1.cell? ⟨w.heap.size,3,none⟩=some (.slice la ln lc)):=aa ⟨e0,e4,x0,x1,x2,x3⟩;have hb1:b<W1.heap.size:=(by have:=eK.out;omega)
 have iW:bk<W1.heap.size:=(by have:=eK.out;omega)
 have dZ:w.heap.size<W1.heap.size:=(by have:=eK.out;omega)
 have mr:w.heap.size≤W1.heap.size:=fx dZ;have DA:b≠W1.heap.size:=jC hb1;have ph:bk≠W1.heap.size:=jC iW;have ZN:w.heap.size≠W1.heap.size:=jC dZ;have tm:B≤W1.heap.size:=aK ca mr;go_region_held3 (fun w'=>w'.cell? ⟨b,0,none⟩=some (.slice (some ⟨bk,o,none⟩) T.length c)∧w'.cell? ⟨bk,o+node*7+4,none⟩=some (.string h.s)∧w'.cell? ⟨w.heap.size,0,none⟩=some (.int .i64 (f:Int))∧w'.cell? ⟨w.heap.size,1,none⟩=some (.int .i64 loop)∧w'.cell? ⟨w.heap.size,2,none⟩=some (.pointer pa)∧w'.cell? ⟨w.heap.size,3,none⟩=some (.slice la ln lc))
  (first|exact kk.out|exact qL kk.out hb1 iW dZ _|exact zl kk.out DA ph ZN _ _)
  (first
   | (go_at_call 116;refine(zm.out W1.drew dK.out.drew).mono ?_;rintro e w2 ⟨UU,a,d,rfl,mG,tn⟩;have B2:=aa (di tn);have F2:=aa (mG.PI.later (di tn));have kk:=aa (Ca kk.out hb1 iW dZ (di tn));have hb1:b<w2.heap.size:=cC hb1 B2.out.size;have iW:bk<w2.heap.size:=cC iW B2.out.size;have dZ:w.heap.size<w2.heap.size:=cC dZ B2.out.size;clear tn mG)
   | (go_at_call 116;refine(zm.out (W1.alloc (.cells #[.int .i64 0,.int .i64 0] 199)).drew (dK.out.alloc mr _).drew).mono ?_;rintro e w2 ⟨UU,a,d,rfl,mG,tn⟩;have Rt:=iG tn;have B2:=aa (((Below.refl _ W1).alloc (ai _) (.cells #[.int .i64 0,.int .i64 0] 199)).trans (Rt.mono (by rw[an];omega)));have F2:=aa (mG.PI.later Rt);have N2:=aa mG.old;have hz2:=(Rt.block W1.heap.size (by rw[an];omega)).trans (heap_alloc_new W1 (.cells #[.int .i64 0,.int .i64 0] 199));have q0:=gQ hz2;have q1:=gR hz2;have q2:=aw hz2 0;have q3:=aw hz2 1;have Z2:=aa hz2;have kk:=aa (Ca kk.out hb1 iW dZ B2.out);clear tn mG hz2 Rt))
 ·have HJ:=aa (adG dK.out B2.out F2.out mr)
  generalize w2.alloc (.cells #[.int .i64 a,.int .i64 d] 199)=W5 at HJ ⊢;generalize w2.heap.size=g at HJ ⊢;clear B2 F2 zm dK eK kk e0 e4 x0 x1 x2 x3;have j0:=HJ.out.c0;have j1:=HJ.out.c1;have iB:=HW.out.later HJ.out.below;obtain⟨yP,hl2,Km⟩:=iB.mV;have rr:=HJ.out.lt;have PE:=aa (HT.out.below (HJ.out.below.mono ca));have PF:=aa (ab iB.blk 0);have uW:B≤W5.heap.size:=aK ca HJ.out.below.size;have d2:W5.cell? ⟨b,2,none⟩=some (.slice (some ⟨ub,0,none⟩) T.length T.length):=ab iB.blk 2;obtain⟨u0,v0⟩:=da iB.uses (j:=node*2) (by omega)
  obtain⟨u1,v1⟩:=da iB.uses (j:=node*2+1) (by omega)
  have qO:=aa iB;clear iB;cases qM:fs.find? (fun x=>(x.2.2 h.s).isSome) with
  | none =>
   have hp:=HJ.out.fnd.no qM;subst hp;have HE:=aa (xS (node:=node) (line:=h.line) (Kt.out▸qM));clear qM d2 u0 v0 u1 v1;go_wp2_with fail
   refine(eF b node _ _ _ PE.out PF.out HX.out).mono ?_;rintro e w6 ⟨v,rfl,⟨g2,rfl⟩,h1,h2⟩;have H1:=aa h1;have H2:=aa h2;clear h1 h2;go_wp2_with fail
   go_ret
   rw[HE.out];exact iS (HJ.out.below.mono ca) uW H2.out H1.out
  | some x =>
   obtain⟨kb,hp,hxs,hk2,xf⟩:=HJ.out.fnd.yes qM;subst hp;have HE:=aa (xU (node:=node) (line:=h.line) (Kt.out▸qM) hxs);clear qM hxs;by_cases hlt:(x.1:Int)<d
   ·have g1:decide ((x.1:Int)<d)=true:=bF hlt
    have HL:=aa hlt;clear hlt d2 u0 v0 u1 v1;go_wp2_with fail
    go_region
    go_wp2_with fail
    refine(eF b node _ _ _ (PE.out.below (Below.refl _ _).drew) PF.out HX.out).mono ?_;rintro e w6 ⟨v,rfl,⟨g2,rfl⟩,h1,h2⟩;have H1:=aa h1;have H2:=aa h2;clear h1 h2;go_wp2_with fail
    go_ret
    rw[HE.out,ak HL.out];exact iS (HJ.out.below.mono ca).drew uW H2.out H1.out
   ·have g1:decide ((x.1:Int)<d)=false:=bN hlt
    have HL:=aa hlt;clear hlt;go_wp2_with fail
    go_region
    go_wp2_with fail
    go_region
    go_wp2_with fail
    go_ret
    rw[HE.out,af (Int.not_lt.2 HL.out)];exact⟨(((HJ.out.below.mono ca).drew.setCell (p:=⟨ub,node*2,none⟩) qO.out.jh.1 _).setCell (p:=⟨ub,node*2+1,none⟩) qO.out.jh.1 _).drew,rfl,⟨_,_,(qO.out.drew.use node (4,a)).drew⟩,((Fr.ae HJ.out.below).drew.trans ((mj qO.out.drew node _ _).mono (by decide))).drew⟩
 ·have HJ:=aa (adH dK.out B2.out F2.out N2.out mr Z2.out)
  generalize (w2.setCell ⟨W1.heap.size,0,none⟩ (.int .i64 a)).setCell ⟨W1.heap.size,1,none⟩ (.int .i64 d)=W5 at HJ ⊢;generalize W1.heap.size=g at HJ ⊢;clear q0 q1 q2 q3 Z2 N2 B2 F2 zm dK eK kk e0 e4 x0 x1 x2 x3;have j0:=HJ.out.c0;have j1:=HJ.out.c1;have iB:=HW.out.later HJ.out.below;obtain⟨yP,hl2,Km⟩:=iB.mV;have rr:=HJ.out.lt;have PE:=aa (HT.out.below (HJ.out.below.mono ca));have PF:=aa (ab iB.blk 0);have uW:B≤W5.heap.size:=aK ca HJ.out.below.size;have d2:W5.cell? ⟨b,2,none⟩=some (.slice (some ⟨ub,0,none⟩) T.length T.length):=ab iB.blk 2;obtain⟨u0,v0⟩:=da iB.uses (j:=node*2) (by omega)
  obtain⟨u1,v1⟩:=da iB.uses (j:=node*2+1) (by omega)
  have qO:=aa iB;clear iB;cases qM:fs.find? (fun x=>(x.2.2 h.s).isSome) with
  | none =>
   have hp:=HJ.out.fnd.no qM;subst hp;have HE:=aa (xS (node:=node) (line:=h.line) (Kt.out▸qM));clear qM d2 u0 v0 u1 v1;go_wp2_with fail
   refine(eF b node _ _ _ PE.out PF.out HX.out).mono ?_;rintro e w6 ⟨v,rfl,⟨g2,rfl⟩,h1,h2⟩;have H1:=aa h1;have H2:=aa h2;clear h1 h2;go_wp2_with fail
   go_ret
   rw[HE.out];exact iS (HJ.out.below.mono ca) uW H2.out H1.out
  | some x =>
   obtain⟨kb,hp,hxs,hk2,xf⟩:=HJ.out.fnd.yes qM;subst hp;have HE:=aa (xU (node:=node) (line:=h.line) (Kt.out▸qM) hxs);clear qM hxs;by_cases hlt:(x.1:Int)<d
   ·have g1:decide ((x.1:Int)<d)=true:=bF hlt
    have HL:=aa hlt;clear hlt d2 u0 v0 u1 v1;go_wp2_with fail
    go_region
    go_wp2_with fail
    refine(eF b node _ _ _ (PE.out.below (Below.refl _ _).drew) PF.out HX.out).mono ?_;rintro e w6 ⟨v,rfl,⟨g2,rfl⟩,h1,h2⟩;have H1:=aa h1;have H2:=aa h2;clear h1 h2;go_wp2_with fail
    go_ret
    rw[HE.out,ak HL.out];exact iS (HJ.out.below.mono ca).drew uW H2.out H1.out
   ·have g1:decide ((x.1:Int)<d)=false:=bN hlt
    have HL:=aa hlt;clear hlt;go_wp2_with fail
    go_region
    go_wp2_with fail
    go_region
    go_wp2_with fail
    go_ret
    rw[HE.out,af (Int.not_lt.2 HL.out)];exact⟨(((HJ.out.below.mono ca).drew.setCell (p:=⟨ub,node*2,none⟩) qO.out.jh.1 _).setCell (p:=⟨ub,node*2+1,none⟩) qO.out.jh.1 _).drew,rfl,⟨_,_,(qO.out.drew.use node (4,a)).drew⟩,((Fr.ae HJ.out.below).drew.trans ((mj qO.out.drew node _ _).mono (by decide))).drew⟩
end Go.Proofs.YteflkdlaoiijbaaGreatDoor
