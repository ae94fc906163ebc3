/- Parts of the proof. -/
import Derived.Test.YteflkdlaoiijbaaGreatDoorM05
set_option maxHeartbeats 16000000
set_option maxRecDepth 20000
namespace Go.Proofs.YteflkdlaoiijbaaGreatDoor
open Go.RowKit
def iR:List aj→Bool×List aj
 | []=>(false,[])
 | t::r=>if (av [44] t || av [59] t)=true then (match r with
  | []=>true
  | u::_=>!av [125] u,r) else (false,t::r)
theorem o0 {t u:aj} {us:List aj} (h:(av [44] t || av [59] t)=true):iR (t::u::us)=(!av [125] u,u::us):=by simp only[iR,h,if_true]
theorem wu {t:aj} {us:List aj} (h:(av [44] t || av [59] t)=false):iR (t::us)=(false,t::us):=by simp[iR,h]
theorem LV (b g:Nat) (O:Nat→Prop) (t:aj) (ts:List aj) (T:List Nd) (w:World) (h:PS w b O (t::ts) T) (b0:eI w O g #[.pointer (some ⟨b,0,none⟩)] 116) (r:Bool) (tr:List aj) (hr:iR (t::ts)=(r,tr)):Calls Tryz.prog 239 #[.pointer (some ⟨g,0,none⟩)] w (kQ b O tr T r w):=by
 have c0:=b0.cell 0;have HB:=aa b0;have Af :∀k,k=b→O k:=fun k hk=>hk▸h.at_
 have HO:=aa Af;clear b0 Af;by_cases h1:av [44] t=true
 ·have h1':(av [44] t || av [59] t)=true:=by rw[h1];rfl
  have jc:=(h.fin.tail (sU h1)).cons;obtain⟨u,us,rfl⟩:=jc;have Ud:(!av [125] u)=r∧u::us=tr:=by
   rw[o0 h1'] at hr;injection hr with e1 e2;exact⟨e1,e2⟩
  obtain⟨hr1,rfl⟩:=Ud;have HC:=aa (jX b O t (u::us) T w h h1);clear h h1 h1' hr;have g1:((ag u).toList == [125])=(!r):=ai (s:=[125]) (by decide) u (by rw[←hr1];simp)
  clear hr1;go_enter Tryz.func239,Tryz.ntmps239
  go_wp2_with fail
  refine HC.out.mono ?_;rintro e w1 ⟨rfl,p1,f1⟩;have c1:=(HB.out.later (f1.mono HO.out) (Ext.refl _ _)).cell 0;have HW:=aa (bQ b O u us T w1 p1);generalize ag u=Y at *;have P1:=aa p1;have F1:=aa f1;clear p1 f1 c0;cases r <;>
  ·go_wp2_with fail
   refine HW.out.mono ?_;rintro e w2 ⟨rfl,b2⟩;have B2:=aa b2;clear b2;go_wp2_with fail
   go_ret
   exact⟨rfl,P1.out.below B2.out,F1.out.trans (ay.ae (O:=(· = b)) B2.out) (Ext.refl _ _)⟩
 ·have LW:av [44] t=false:=by simpa using h1
  have HC:=aa (lJ b O t ts T w h LW);by_cases h2:av [59] t=true
  ·have h1':(av [44] t || av [59] t)=true:=by rw[h2];simp
   have jc:=(h.fin.tail (sU h2)).cons;obtain⟨u,us,rfl⟩:=jc;have Ud:(!av [125] u)=r∧u::us=tr:=by
    rw[o0 h1'] at hr;injection hr with e1 e2;exact⟨e1,e2⟩
   obtain⟨hr1,rfl⟩:=Ud;have HT:=aa (fun(W:World) hW=>lI b O t (u::us) T [59] ⟨#[59]⟩ rfl W hW (by decide) h2)
   clear h h1 LW h2 h1' hr;have g1:((ag u).toList == [125])=(!r):=ai (s:=[125]) (by decide) u (by rw[←hr1];simp)
   clear hr1;go_enter Tryz.func239,Tryz.ntmps239
   go_wp2_with fail
   refine HC.out.mono ?_;rintro e w1 ⟨rfl,p1,f1⟩;have c1:=(HB.out.later (f1.mono HO.out) (Ext.refl _ _)).cell 0;have F1:=aa f1;have Ai:=aa (HT.out w1 p1);clear p1 f1 c0;go_wp2_with fail
   refine Ai.out.mono ?_;rintro e w2 ⟨rfl,p2,f2⟩;have F2:=aa (F1.out.trans f2 (Ext.refl _ _));have c2:=(HB.out.later (F2.out.mono HO.out) (Ext.refl _ _)).cell 0;have HW:=aa (bQ b O u us T w2 p2);generalize ag u=Y at *;have P2:=aa p2;clear p2 f2 c1;cases r <;>
   ·go_wp2_with fail
    refine HW.out.mono ?_;rintro e w3 ⟨rfl,b2⟩;have B2:=aa b2;clear b2;go_wp2_with fail
    go_ret
    exact⟨rfl,P2.out.below B2.out,F2.out.trans (ay.ae (O:=(· = b)) B2.out) (Ext.refl _ _)⟩
  ·have h2f:av [59] t=false:=by simpa using h2
   have HT:=aa (fun(W:World) hW=>nN b O t ts T [59] ⟨#[59]⟩ rfl W hW (by decide) h2f)
   have Ud:false=r∧t::ts=tr:=by
    rw[wu (by rw[LW,h2f];rfl)] at hr
    injection hr with e1 e2;exact⟨e1,e2⟩
   obtain⟨rfl,rfl⟩:=Ud;clear h h1 LW h2 h2f hr;go_enter Tryz.func239,Tryz.ntmps239
   go_wp2_with fail
   refine HC.out.mono ?_;rintro e w1 ⟨rfl,p1,f1⟩;have c1:=(HB.out.later (f1.mono HO.out) (Ext.refl _ _)).cell 0;have F1:=aa f1;have Ai:=aa (HT.out w1 p1);clear p1 f1 c0;go_wp2_with fail
   refine Ai.out.mono ?_;rintro e w2 ⟨rfl,p2,f2⟩;have F2:=aa (F1.out.trans f2 (Ext.refl _ _));have P2:=aa p2;clear p2 f2 c1;go_wp2_with fail
   go_ret
   exact⟨rfl,P2.out,F2.out⟩
theorem CT {W:World} {b g:Nat} {O:Nat→Prop} (b0:eI W O g #[.pointer (some ⟨b,0,none⟩)] 116):xS W b O (.func (.func 239) #[] #[.pointer (some ⟨g,0,none⟩)]) iR:=by
 intro W1 O1 T ts hf he hp;obtain⟨t,r,rfl⟩:=hp.fin.cons;exact⟨239,_,_,rfl,enters_of Tryz.func239 (by kernel_rfl) rfl,LV b g O1 t r T W1 hp (b0.later hf he) _ _ rfl⟩
theorem Rw {wp:iM} (hE:oY 238 wp):ey 235 (lK wp iR):=by
 intro b n O T0 s K E w hr hk;have hO:=hr.lt;have h1:=eI.new w O hO #[.pointer (some ⟨b,0,none⟩)] 116;have HC:=aa (xX b O 238 239 _ _ _ _ wp iR (w.alloc (.cells #[.pointer (some ⟨b,0,none⟩)] 116)) (hE.one (enters_of Tryz.func238 (by kernel_rfl) rfl) _ b O) (CT h1) (fun k hk=>by have:=hO k hk;simp;omega))
 have HR:=aa hr;have HK:=aa hk;clear hr hk h1 hO;go_enter Tryz.func235,Tryz.ntmps235
 go_wp2_with fail
 refine HC.out.mono ?_;rintro e w1 ⟨v,rfl,b1,h2⟩;obtain⟨f,first,cap,rfl,oT,bw⟩:=h2.1.call HR.out (aB (aX w _) b1) HK.out
 have dX:=aa bw;clear h2 bw b1;unfold Enters at oT;go_wp2_with fail
 refine dX.out.mono ?_;intro e w2 h3;obtain⟨v,rfl⟩:=h3.ret;have H3:=aa h3;clear h3;go_wp2_with fail
 go_ret
 exact H3.out
def lL (t:aj):List aj→Bool
 | []=>false
 | u::_=>ua t u
theorem Hb (b:Nat) (O:Nat→Prop) (t:aj) (ts:List aj) (T:List Nd) (w:World) (h:PS w b O (t::ts) T) (r:Bool) (hr:lL t ts=r):Calls Tryz.prog 241 #[.pointer (some ⟨b,0,none⟩)] w (mX w r):=by
 by_cases h1:t.1=1
 ·obtain⟨u,us,rfl⟩:=(h.fin.tail (by rw[h1];decide)).cons
  refine Rv b O t u us T w h h1 r ?_;rw[←hr];simp[lL,ua,h1]
 ·have hf:false=r:=by
   rw[←hr];cases ts<;>simp[lL,ua,h1]
  rw[←hf];exact CS b O t ts T w h h1
def Un (ex:cg) (t:aj) (ts:List aj) (n:Nat) (K:Ast→List aj→Prop) (E:Int→Prop):Prop :=
 (av [91] t=true→aI [aC,ex,au [[93],[61]],ex] ⟨dx 17 t.2.1,[],t::ts,n⟩ (bW K) E)∧(av [91] t=false→(lL t ts=true→aI [sF,aC,ex] ⟨dx 17 t.2.1,[],t::ts,n⟩ (bW K) E)∧(lL t ts=false→aI [ex] ⟨dx 16 t.2.1,[],t::ts,n⟩ (bW K) E))
theorem WM {ex:cg} (hE:ey 91 ex) (b:Nat) (O:Nat→Prop) (t:aj) (ts:List aj) (T:List Nd) (K:Ast→List aj→Prop) (E:Int→Prop) (w:World) (hp:PS w b O (t::ts) T) (hk:Un ex t ts T.length K E) :
  Calls Tryz.prog 238 #[.pointer (some ⟨b,0,none⟩)] w (aH b O T (RK K E) w):=by
 have HW:=aa (bQ b O t ts T w hp);have HF:=aa (fun W hW=>Hb b O t ts T W hW)
 cases hq:av [91] t with
 | true =>
  ·have g1:((ag t).toList == [91])=true:=ai (s:=[91]) (by decide) t hq
   have HK:=aa (hk.1 hq);generalize hY:ag t=Y at *;have P:=aa hp;clear hp hk hY hq HF;go_enter Tryz.func238,Tryz.ntmps238
   go_wp2_with fail
   refine HW.out.mono ?_;rintro e w0 ⟨rfl,b0⟩;have F0:=aa (ay.ae (O:=O) b0);have P0:=aa (P.out.below b0);clear b0;have oz :∀k,O k→k<w0.heap.size:=fun k hk=>(P0.out.own k hk).2
   have V1:=aa (Ha w0 b O oz [93] [61] (by decide) (by decide) ⟨#[93]⟩ ⟨#[61]⟩ rfl rfl)
   clear oz;go_wp2_with fail
   refine V1.out.mono ?_;rintro e w1 ⟨f1,a1,c1,rfl,b1,h1⟩;have F1:=aa (F0.out.trans (ay.ae (O:=O) b1) (Ext.refl _ _));have P1:=aa (P0.out.below b1);have H1:=aa h1;clear b1 h1 V1;have HN:=aa (cI w w1 P1.out F1.out (mo 17) rfl [aZ 40 b,aZ 91 b,.func (.func f1) a1 c1,aZ 91 b] [aC,ex,au [[93],[61]],ex] (by simp) ⟨bb w1 b O,hE.part (enters_of Tryz.func91 (by kernel_rfl) rfl) w1 b O,H1.out,hE.part (enters_of Tryz.func91 (by kernel_rfl) rfl) w1 b O,trivial⟩ HK.out)
   go_wp2_with fail
   refine HN.out.mono ?_;intro e wz hz;obtain⟨v,er,rfl⟩:=hz.ret;have HZ:=aa hz;clear hz;go_wp2_with fail
   go_ret2
   exact HZ.out
 | false =>
  cases hf:lL t ts with
  | true =>
   ·have g1:((ag t).toList == [91])=false:=ai (s:=[91]) (by decide) t hq
    have HK:=aa ((hk.2 hq).1 hf);have lM:=aa (fun W hW=>HF.out W hW true hf)
    generalize hY:ag t=Y at *;have P:=aa hp;clear hp hk hY hq HF hf;go_enter Tryz.func238,Tryz.ntmps238
    go_wp2_with fail
    refine HW.out.mono ?_;rintro e w0 ⟨rfl,b0⟩;have F0:=aa (ay.ae (O:=O) b0);have P0:=aa (P.out.below b0);clear b0;have EE:=aa (lM.out w0 P0.out);clear lM;go_wp2_with fail
    refine EE.out.mono ?_;rintro e w1 ⟨rfl,b1⟩;have F1:=aa (F0.out.trans (ay.ae (O:=O) b1) (Ext.refl _ _));have P1:=aa (P0.out.below b1);clear b1;have HN:=aa (cI w w1 P1.out F1.out (mo 17) rfl [aZ 179 b,aZ 40 b,aZ 91 b] [sF,aC,ex] (by simp) ⟨LQ.part (enters_of Tryz.func179 (by kernel_rfl) rfl) w1 b O,bb w1 b O,hE.part (enters_of Tryz.func91 (by kernel_rfl) rfl) w1 b O,trivial⟩ HK.out)
    go_wp2_with fail
    refine HN.out.mono ?_;intro e wz hz;obtain⟨v,er,rfl⟩:=hz.ret;have HZ:=aa hz;clear hz;go_wp2_with fail
    go_ret2
    exact HZ.out
  | false =>
   ·have g1:((ag t).toList == [91])=false:=ai (s:=[91]) (by decide) t hq
    have HK:=aa ((hk.2 hq).2 hf);have lM:=aa (fun W hW=>HF.out W hW false hf)
    generalize hY:ag t=Y at *;have P:=aa hp;clear hp hk hY hq HF hf;go_enter Tryz.func238,Tryz.ntmps238
    go_wp2_with fail
    refine HW.out.mono ?_;rintro e w0 ⟨rfl,b0⟩;have F0:=aa (ay.ae (O:=O) b0);have P0:=aa (P.out.below b0);clear b0;have EE:=aa (lM.out w0 P0.out);clear lM;go_wp2_with fail
    refine EE.out.mono ?_;rintro e w1 ⟨rfl,b1⟩;have F1:=aa (F0.out.trans (ay.ae (O:=O) b1) (Ext.refl _ _));have P1:=aa (P0.out.below b1);clear b1;have HN:=aa (cI w w1 P1.out F1.out (mo 16) rfl [aZ 91 b] [ex] (by simp) ⟨hE.part (enters_of Tryz.func91 (by kernel_rfl) rfl) w1 b O,trivial⟩ HK.out)
    go_wp2_with fail
    refine HN.out.mono ?_;intro e wz hz;obtain⟨v,er,rfl⟩:=hz.ret;have HZ:=aa hz;clear hz;go_wp2_with fail
    go_ret2
    exact HZ.out
theorem LX {b:Nat} {O:Nat→Prop} {t:aj} {ts:List aj} {T0 T:List Nd} {K:Ast→List aj→Prop} {E:Int→Prop} (w2:World) (g p:Nat) (a:Ast) (hp:PS w2 b O (t::ts) T) (hg:w2.heap[g]? = some (.cells #[.int .i64 (p:Int)] 3 (0,0))) (hgO:¬ O g) (hgb:b+1≤g) (Uo:ei T0 T [a] [(p:Int)])
  (x:Nd) (hx:x=⟨x.kind,0,x.op,x.num,x.s,[],[]⟩) (vs:List Value) (cP:List cg) (hl:vs.length≤100) (hall:jD w2 b (fun k=>O k∨k=g) vs cP)
  (hk:aI cP ⟨{ x with line:=t.2.1},[a],t::ts,T0.length+a.size⟩ (bW K) E) :
  Calls Tryz.prog 19 #[.pointer (some ⟨b,0,none⟩),cY x (.slice none 0 0) (.slice (some ⟨g,0,none⟩) 1 1),.slice (some ⟨w2.heap.size,0,none⟩) vs.length vs.length] (w2.alloc (.cells vs.toArray 122)) (aH b (fun k=>O k∨k=g) T0 (RK K E) w2):=by
 have h1:x.line=0:=by rw[hx]
 have h2:x.names=[]:=by rw[hx]
 have qN:g<w2.heap.size:=(aJ.1 hg).1;have hO :∀k,(O k∨k=g)→k<w2.heap.size:=fun k hk=>hk.elim (fun h=>(hp.own k h).2) (fun h=>h▸qN)
 have hz:T.length=T0.length+a.size:=by rw[Uo.len,Ast.ak,Ast.ak];omega
 rw[←hz] at hk;have hrow:w2.ownsRow (b+1) 3 1 (.slice (some ⟨g,0,none⟩) 1 1) 1 [.int .i64 (p:Int)]:=⟨rfl,.inr ⟨g,1,#[.int .i64 (p:Int)],rfl,hgb,hg,ah _,by unfold maxLen;omega,rfl,rfl⟩⟩
 have cN:jB w2 b (· = g) { x with kids:=[(p:Int)]} (.slice none 0 0) (.slice (some ⟨g,0,none⟩) 1 1):=by
  refine⟨?_,hrow,fun g hg=>by simp[Value.ownBlock] at hg,fun g hg=>by simp[Value.ownBlock] at hg,fun k hk=>by simpa[Value.ownBlock] using hk.symm⟩
  rw[show({ x with kids:=[(p:Int)]}:Nd).names=[] from h2]
  exact World.ownsRow_nil _ _ _ _
 refine(xV b O (· = g) t ts T0 T x t.2.1 [a] [(p:Int)] (.slice none 0 0) (.slice (some ⟨g,0,none⟩) 1 1) _ cP (RK K E) _ (hp.below (aX w2 _)) ?_ (fun k hk e=>hgO (e▸hk)) (fun k hk=>⟨by omega,by simp;omega⟩) Uo (aN.new hO vs cP hl hall) (.inl ⟨h1,rfl⟩) hk).mono fun e w' h=>h.after ((ay.refl _ _).alloc _)
 exact cN.kept (O1:=fun _=>False) ((ay.refl _ w2).alloc _) (fun _ _ h=>h) (fun _ h=>h)
def qZ (f:FuncId) (l:Int) (wp:iM):Prop:=∀(b:Nat) (O:Nat→Prop) (ts:List aj) (T:List Nd) (K:Ast→List aj→Prop) (E:Int→Prop) (W:World),PS W b O ts T→wp ts T.length K E→Calls Tryz.prog f #[.pointer (some ⟨b,0,none⟩),.int .i64 l] W (aH b O T (RK K E) W)
theorem aO {s:List UInt8} {t:aj} (h:av s t=true):(∃l n,t=(2,l,n,s))∨(∃l n,t=(5,l,n,s)):=by
 obtain⟨t0,t1,t2,t3⟩:=t;unfold av at h;rw[di,Bool.or_eq_true,iy,iy,iy] at h;obtain⟨h1,h2⟩:=h;dsimp only at h1 h2
 subst h2;rcases h1 with rfl|rfl
 ·exact .inl ⟨t1,t2,rfl⟩
 ·exact .inr ⟨t1,t2,rfl⟩
def eJ (t:aj):Int:=match ml t with
 | some o=>o.1
 | none=>0
def e7 (t:aj):Int:=match lA t with
 | some o=>o
 | none=>0
def bO (k:Int) (w:World) (e:Ending) (w':World):Prop:=e=.returned (.int .i64 k)∧w'=w
theorem binary_1 (t:aj) (w:World) (hq:av [43] t=true):Calls Tryz.prog 205 #[.string (ag t)] w (bO 1 w):=by
 have g0:((ag t).toList == [43])=true:=ai (s:=[43]) (by decide) t hq
 generalize ag t=Y at *;clear hq;go_enter Tryz.func205,Tryz.ntmps205
 go_wp2
 go_ret
 exact⟨rfl,rfl⟩
theorem LY (t:aj) (w:World) (hq:av [45] t=true):Calls Tryz.prog 205 #[.string (ag t)] w (bO 2 w):=by
 have g0:=aQ [43] hq (by decide)
 have g1:((ag t).toList == [45])=true:=ai (s:=[45]) (by decide) t hq
 generalize ag t=Y at *;clear hq;go_enter Tryz.func205,Tryz.ntmps205
 go_wp2
 go_ret
 exact⟨rfl,rfl⟩
theorem LZ (t:aj) (w:World) (hq:av [42] t=true):Calls Tryz.prog 205 #[.string (ag t)] w (bO 3 w):=by
 have g0:=aQ [43] hq (by decide)
 have g1:=aQ [45] hq (by decide)
 have g2:((ag t).toList == [42])=true:=ai (s:=[42]) (by decide) t hq
 generalize ag t=Y at *;clear hq;go_enter Tryz.func205,Tryz.ntmps205
 go_wp2
 go_ret
 exact⟨rfl,rfl⟩
theorem L0 (t:aj) (w:World) (hq:av [47,47] t=true):Calls Tryz.prog 205 #[.string (ag t)] w (bO 4 w):=by
 have g0:=aQ [43] hq (by decide)
 have g1:=aQ [45] hq (by decide)
 have g2:=aQ [42] hq (by decide)
 have g3:((ag t).toList == [47,47])=true:=ai (s:=[47,47]) (by decide) t hq
 generalize ag t=Y at *;clear hq;go_enter Tryz.func205,Tryz.ntmps205
 go_wp2
 go_ret
 exact⟨rfl,rfl⟩
theorem L7 (t:aj) (w:World) (hq:av [37] t=true):Calls Tryz.prog 205 #[.string (ag t)] w (bO 5 w):=by
 have g0:=aQ [43] hq (by decide)
 have g1:=aQ [45] hq (by decide)
 have g2:=aQ [42] hq (by decide)
 have g3:=aQ [47,47] hq (by decide)
 have g4:((ag t).toList == [37])=true:=ai (s:=[37]) (by decide) t hq
 generalize ag t=Y at *;clear hq;go_enter Tryz.func205,Tryz.ntmps205
 go_wp2
 go_ret
 exact⟨rfl,rfl⟩
theorem L9 (t:aj) (w:World) (hq:av [38] t=true):Calls Tryz.prog 205 #[.string (ag t)] w (bO 6 w):=by
 have g0:=aQ [43] hq (by decide)
 have g1:=aQ [45] hq (by decide)
 have g2:=aQ [42] hq (by decide)
 have g3:=aQ [47,47] hq (by decide)
 have g4:=aQ [37] hq (by decide)
 have g5:((ag t).toList == [38])=true:=ai (s:=[38]) (by decide) t hq
 generalize ag t=Y at *;clear hq;go_enter Tryz.func205,Tryz.ntmps205
 go_wp2
 go_ret
 exact⟨rfl,rfl⟩
theorem Ma (t:aj) (w:World) (hq:av [124] t=true):Calls Tryz.prog 205 #[.string (ag t)] w (bO 7 w):=by
 have g0:=aQ [43] hq (by decide)
 have g1:=aQ [45] hq (by decide)
 have g2:=aQ [42] hq (by decide)
 have g3:=aQ [47,47] hq (by decide)
 have g4:=aQ [37] hq (by decide)
 have g5:=aQ [38] hq (by decide)
 have g6:((ag t).toList == [124])=true:=ai (s:=[124]) (by decide) t hq
 generalize ag t=Y at *;clear hq;go_enter Tryz.func205,Tryz.ntmps205
 go_wp2
 go_ret
 exact⟨rfl,rfl⟩
theorem Mb (t:aj) (w:World) (hq:av [126] t=true):Calls Tryz.prog 205 #[.string (ag t)] w (bO 8 w):=by
 have g0:=aQ [43] hq (by decide)
 have g1:=aQ [45] hq (by decide)
 have g2:=aQ [42] hq (by decide)
 have g3:=aQ [47,47] hq (by decide)
 have g4:=aQ [37] hq (by decide)
 have g5:=aQ [38] hq (by decide)
 have g6:=aQ [124] hq (by decide)
 have g7:((ag t).toList == [126])=true:=ai (s:=[126]) (by decide) t hq
 generalize ag t=Y at *;clear hq;go_enter Tryz.func205,Tryz.ntmps205
 go_wp2
 go_ret
 exact⟨rfl,rfl⟩
theorem Mc (t:aj) (w:World) (hq:av [60,60] t=true):Calls Tryz.prog 205 #[.string (ag t)] w (bO 9 w):=by
 have g0:=aQ [43] hq (by decide)
 have g1:=aQ [45] hq (by decide)
 have g2:=aQ [42] hq (by decide)
 have g3:=aQ [47,47] hq (by decide)
 have g4:=aQ [37] hq (by decide)
 have g5:=aQ [38] hq (by decide)
 have g6:=aQ [124] hq (by decide)
 have g7:=aQ [126] hq (by decide)
 have g8:((ag t).toList == [60,60])=true:=ai (s:=[60,60]) (by decide) t hq
 generalize ag t=Y at *;clear hq;go_enter Tryz.func205,Tryz.ntmps205
 go_wp2
 go_ret
 exact⟨rfl,rfl⟩
theorem Hc (t:aj) (w:World) (hq:av [62,62] t=true):Calls Tryz.prog 205 #[.string (ag t)] w (bO 10 w):=by
 have g0:=aQ [43] hq (by decide)
 have g1:=aQ [45] hq (by decide)
 have g2:=aQ [42] hq (by decide)
 have g3:=aQ [47,47] hq (by decide)
 have g4:=aQ [37] hq (by decide)
 have g5:=aQ [38] hq (by decide)
 have g6:=aQ [124] hq (by decide)
 have g7:=aQ [126] hq (by decide)
 have g8:=aQ [60,60] hq (by decide)
 have g9:((ag t).toList == [62,62])=true:=ai (s:=[62,62]) (by decide) t hq
 generalize ag t=Y at *;clear hq;go_enter Tryz.func205,Tryz.ntmps205
 go_wp2
 go_ret
 exact⟨rfl,rfl⟩
theorem Hd (t:aj) (w:World) (hq:av [46,46] t=true):Calls Tryz.prog 205 #[.string (ag t)] w (bO 11 w):=by
 have g0:=aQ [43] hq (by decide)
 have g1:=aQ [45] hq (by decide)
 have g2:=aQ [42] hq (by decide)
 have g3:=aQ [47,47] hq (by decide)
 have g4:=aQ [37] hq (by decide)
 have g5:=aQ [38] hq (by decide)
 have g6:=aQ [124] hq (by decide)
 have g7:=aQ [126] hq (by decide)
 have g8:=aQ [60,60] hq (by decide)
 have g9:=aQ [62,62] hq (by decide)
 have g10:((ag t).toList == [46,46])=true:=ai (s:=[46,46]) (by decide) t hq
 generalize ag t=Y at *;clear hq;go_enter Tryz.func205,Tryz.ntmps205
 go_wp2
 go_ret
 exact⟨rfl,rfl⟩
theorem He (t:aj) (w:World) (hq:av [61,61] t=true):Calls Tryz.prog 205 #[.string (ag t)] w (bO 12 w):=by
 have g0:=aQ [43] hq (by decide)
 have g1:=aQ [45] hq (by decide)
 have g2:=aQ [42] hq (by decide)
 have g3:=aQ [47,47] hq (by decide)
 have g4:=aQ [37] hq (by decide)
 have g5:=aQ [38] hq (by decide)
 have g6:=aQ [124] hq (by decide)
 have g7:=aQ [126] hq (by decide)
 have g8:=aQ [60,60] hq (by decide)
 have g9:=aQ [62,62] hq (by decide)
 have g10:=aQ [46,46] hq (by decide)
 have g11:((ag t).toList == [61,61])=true:=ai (s:=[61,61]) (by decide) t hq
 generalize ag t=Y at *;clear hq;go_enter Tryz.func205,Tryz.ntmps205
 go_wp2
 go_ret
 exact⟨rfl,rfl⟩
theorem Hf (t:aj) (w:World) (hq:av [126,61] t=true):Calls Tryz.prog 205 #[.string (ag t)] w (bO 13 w):=by
 have g0:=aQ [43] hq (by decide)
 have g1:=aQ [45] hq (by decide)
 have g2:=aQ [42] hq (by decide)
 have g3:=aQ [47,47] hq (by decide)
 have g4:=aQ [37] hq (by decide)
 have g5:=aQ [38] hq (by decide)
 have g6:=aQ [124] hq (by decide)
 have g7:=aQ [126] hq (by decide)
 have g8:=aQ [60,60] hq (by decide)
 have g9:=aQ [62,62] hq (by decide)
 have g10:=aQ [46,46] hq (by decide)
 have g11:=aQ [61,61] hq (by decide)
 have g12:((ag t).toList == [126,61])=true:=ai (s:=[126,61]) (by decide) t hq
 generalize ag t=Y at *;clear hq;go_enter Tryz.func205,Tryz.ntmps205
 go_wp2
 go_ret
 exact⟨rfl,rfl⟩
theorem Hg (t:aj) (w:World) (hq:av [60] t=true):Calls Tryz.prog 205 #[.string (ag t)] w (bO 14 w):=by
 have g0:=aQ [43] hq (by decide)
 have g1:=aQ [45] hq (by decide)
 have g2:=aQ [42] hq (by decide)
 have g3:=aQ [47,47] hq (by decide)
 have g4:=aQ [37] hq (by decide)
 have g5:=aQ [38] hq (by decide)
 have g6:=aQ [124] hq (by decide)
 have g7:=aQ [126] hq (by decide)
 have g8:=aQ [60,60] hq (by decide)
 have g9:=aQ [62,62] hq (by decide)
 have g10:=aQ [46,46] hq (by decide)
 have g11:=aQ [61,61] hq (by decide)
 have g12:=aQ [126,61] hq (by decide)
 have g13:((ag t).toList == [60])=true:=ai (s:=[60]) (by decide) t hq
 generalize ag t=Y at *;clear hq;go_enter Tryz.func205,Tryz.ntmps205
 go_wp2
 go_ret
 exact⟨rfl,rfl⟩
theorem Hh (t:aj) (w:World) (hq:av [60,61] t=true):Calls Tryz.prog 205 #[.string (ag t)] w (bO 15 w):=by
 have g0:=aQ [43] hq (by decide)
 have g1:=aQ [45] hq (by decide)
 have g2:=aQ [42] hq (by decide)
 have g3:=aQ [47,47] hq (by decide)
 have g4:=aQ [37] hq (by decide)
 have g5:=aQ [38] hq (by decide)
 have g6:=aQ [124] hq (by decide)
 have g7:=aQ [126] hq (by decide)
 have g8:=aQ [60,60] hq (by decide)
 have g9:=aQ [62,62] hq (by decide)
 have g10:=aQ [46,46] hq (by decide)
 have g11:=aQ [61,61] hq (by decide)
 have g12:=aQ [126,61] hq (by decide)
 have g13:=aQ [60] hq (by decide)
 have g14:((ag t).toList == [60,61])=true:=ai (s:=[60,61]) (by decide) t hq
 generalize ag t=Y at *;clear hq;go_enter Tryz.func205,Tryz.ntmps205
 go_wp2
 go_ret
 exact⟨rfl,rfl⟩
theorem Hi (t:aj) (w:World) (hq:av [62] t=true):Calls Tryz.prog 205 #[.string (ag t)] w (bO 16 w):=by
 have g0:=aQ [43] hq (by decide)
 have g1:=aQ [45] hq (by decide)
 have g2:=aQ [42] hq (by decide)
 have g3:=aQ [47,47] hq (by decide)
 have g4:=aQ [37] hq (by decide)
 have g5:=aQ [38] hq (by decide)
 have g6:=aQ [124] hq (by decide)
 have g7:=aQ [126] hq (by decide)
 have g8:=aQ [60,60] hq (by decide)
 have g9:=aQ [62,62] hq (by decide)
 have g10:=aQ [46,46] hq (by decide)
 have g11:=aQ [61,61] hq (by decide)
 have g12:=aQ [126,61] hq (by decide)
 have g13:=aQ [60] hq (by decide)
 have g14:=aQ [60,61] hq (by decide)
 have g15:((ag t).toList == [62])=true:=ai (s:=[62]) (by decide) t hq
 generalize ag t=Y at *;clear hq;go_enter Tryz.func205,Tryz.ntmps205
 go_wp2
 go_ret
 exact⟨rfl,rfl⟩
theorem Hj (t:aj) (w:World) (hq:av [62,61] t=true):Calls Tryz.prog 205 #[.string (ag t)] w (bO 17 w):=by
 have g0:=aQ [43] hq (by decide)
 have g1:=aQ [45] hq (by decide)
 have g2:=aQ [42] hq (by decide)
 have g3:=aQ [47,47] hq (by decide)
 have g4:=aQ [37] hq (by decide)
 have g5:=aQ [38] hq (by decide)
 have g6:=aQ [124] hq (by decide)
 have g7:=aQ [126] hq (by decide)
 have g8:=aQ [60,60] hq (by decide)
 have g9:=aQ [62,62] hq (by decide)
 have g10:=aQ [46,46] hq (by decide)
 have g11:=aQ [61,61] hq (by decide)
 have g12:=aQ [126,61] hq (by decide)
 have g13:=aQ [60] hq (by decide)
 have g14:=aQ [60,61] hq (by decide)
 have g15:=aQ [62] hq (by decide)
 have g16:((ag t).toList == [62,61])=true:=ai (s:=[62,61]) (by decide) t hq
 generalize ag t=Y at *;clear hq;go_enter Tryz.func205,Tryz.ntmps205
 go_wp2
 go_ret
 exact⟨rfl,rfl⟩
theorem Hk (t:aj) (w:World) (hq:av FV t=true):Calls Tryz.prog 205 #[.string (ag t)] w (bO 18 w):=by
 have g0:=aQ [43] hq (by decide)
 have g1:=aQ [45] hq (by decide)
 have g2:=aQ [42] hq (by decide)
 have g3:=aQ [47,47] hq (by decide)
 have g4:=aQ [37] hq (by decide)
 have g5:=aQ [38] hq (by decide)
 have g6:=aQ [124] hq (by decide)
 have g7:=aQ [126] hq (by decide)
 have g8:=aQ [60,60] hq (by decide)
 have g9:=aQ [62,62] hq (by decide)
 have g10:=aQ [46,46] hq (by decide)
 have g11:=aQ [61,61] hq (by decide)
 have g12:=aQ [126,61] hq (by decide)
 have g13:=aQ [60] hq (by decide)
 have g14:=aQ [60,61] hq (by decide)
 have g15:=aQ [62] hq (by decide)
 have g16:=aQ [62,61] hq (by decide)
 have g17:((ag t).toList == [97,110,100])=true:=ai (s:=FV) (by decide) t hq
 generalize ag t=Y at *;clear hq;go_enter Tryz.func205,Tryz.ntmps205
 go_wp2
 go_ret
 exact⟨rfl,rfl⟩
theorem Hl (t:aj) (w:World) (hq:av YK t=true):Calls Tryz.prog 205 #[.string (ag t)] w (bO 19 w):=by
 have g0:=aQ [43] hq (by decide)
 have g1:=aQ [45] hq (by decide)
 have g2:=aQ [42] hq (by decide)
 have g3:=aQ [47,47] hq (by decide)
 have g4:=aQ [37] hq (by decide)
 have g5:=aQ [38] hq (by decide)
 have g6:=aQ [124] hq (by decide)
 have g7:=aQ [126] hq (by decide)
 have g8:=aQ [60,60] hq (by decide)
 have g9:=aQ [62,62] hq (by decide)
 have g10:=aQ [46,46] hq (by decide)
 have g11:=aQ [61,61] hq (by decide)
 have g12:=aQ [126,61] hq (by decide)
 have g13:=aQ [60] hq (by decide)
 have g14:=aQ [60,61] hq (by decide)
 have g15:=aQ [62] hq (by decide)
 have g16:=aQ [62,61] hq (by decide)
 have g17:=aQ [97,110,100] hq (by decide)
 have g18:((ag t).toList == [111,114])=true:=ai (s:=YK) (by decide) t hq
 generalize ag t=Y at *;clear hq;go_enter Tryz.func205,Tryz.ntmps205
 go_wp2
 go_ret
 exact⟨rfl,rfl⟩
theorem Md (t:aj) (w:World) (q0:av [43] t=false) (q1:av [45] t=false) (q2:av [42] t=false) (q3:av [47,47] t=false) (q4:av [37] t=false) (q5:av [38] t=false) (q6:av [124] t=false) (q7:av [126] t=false) (q8:av [60,60] t=false) (q9:av [62,62] t=false) (Rx:av [46,46] t=false) (x9:av [61,61] t=false) (Up:av [126,61] t=false) (Uq:av [60] t=false) (Ur:av [60,61] t=false) (Us:av [62] t=false) (Pw:av [62,61] t=false) (Ut:av FV t=false) (yR:av YK t=false):Calls Tryz.prog 205 #[.string (ag t)] w (bO 0 w):=by
 have g0:((ag t).toList == [43])=false:=ai (s:=[43]) (by decide) t q0
 have g1:((ag t).toList == [45])=false:=ai (s:=[45]) (by decide) t q1
 have g2:((ag t).toList == [42])=false:=ai (s:=[42]) (by decide) t q2
 have g3:((ag t).toList == [47,47])=false:=ai (s:=[47,47]) (by decide) t q3
 have g4:((ag t).toList == [37])=false:=ai (s:=[37]) (by decide) t q4
 have g5:((ag t).toList == [38])=false:=ai (s:=[38]) (by decide) t q5
 have g6:((ag t).toList == [124])=false:=ai (s:=[124]) (by decide) t q6
 have g7:((ag t).toList == [126])=false:=ai (s:=[126]) (by decide) t q7
 have g8:((ag t).toList == [60,60])=false:=ai (s:=[60,60]) (by decide) t q8
 have g9:((ag t).toList == [62,62])=false:=ai (s:=[62,62]) (by decide) t q9
 have g10:((ag t).toList == [46,46])=false:=ai (s:=[46,46]) (by decide) t Rx
 have g11:((ag t).toList == [61,61])=false:=ai (s:=[61,61]) (by decide) t x9
 have g12:((ag t).toList == [126,61])=false:=ai (s:=[126,61]) (by decide) t Up
 have g13:((ag t).toList == [60])=false:=ai (s:=[60]) (by decide) t Uq
 have g14:((ag t).toList == [60,61])=false:=ai (s:=[60,61]) (by decide) t Ur
 have g15:((ag t).toList == [62])=false:=ai (s:=[62]) (by decide) t Us
 have g16:((ag t).toList == [62,61])=false:=ai (s:=[62,61]) (by decide) t Pw
 have g17:((ag t).toList == [97,110,100])=false:=ai (s:=FV) (by decide) t Ut
 have g18:((ag t).toList == [111,114])=false:=ai (s:=YK) (by decide) t yR
 clear q0 q1 q2 q3 q4 q5 q6 q7 q8 q9 Rx x9 Up Uq Ur Us Pw Ut yR;generalize ag t=Y at *;go_enter Tryz.func205,Tryz.ntmps205
 go_wp2
 go_ret
 exact⟨rfl,rfl⟩
theorem Me (t:aj) (w:World):Calls Tryz.prog 205 #[.string (ag t)] w (bO (eJ t) w):=by
 rcases eK (av [43] t) with q0|q0
 ·rw[show eJ t=1 from by rcases aO q0 with ⟨l,n,rfl⟩ | ⟨l,n,rfl⟩<;>rfl]
  exact binary_1 t w q0
 rcases eK (av [45] t) with q1|q1
 ·rw[show eJ t=2 from by rcases aO q1 with ⟨l,n,rfl⟩ | ⟨l,n,rfl⟩<;>rfl]
  exact LY t w q1
 rcases eK (av [42] t) with q2|q2
 ·rw[show eJ t=3 from by rcases aO q2 with ⟨l,n,rfl⟩ | ⟨l,n,rfl⟩<;>rfl]
  exact LZ t w q2
 rcases eK (av [47,47] t) with q3|q3
 ·rw[show eJ t=4 from by rcases aO q3 with ⟨l,n,rfl⟩ | ⟨l,n,rfl⟩<;>rfl]
  exact L0 t w q3
 rcases eK (av [37] t) with q4|q4
 ·rw[show eJ t=5 from by rcases aO q4 with ⟨l,n,rfl⟩ | ⟨l,n,rfl⟩<;>rfl]
  exact L7 t w q4
 rcases eK (av [38] t) with q5|q5
 ·rw[show eJ t=6 from by rcases aO q5 with ⟨l,n,rfl⟩ | ⟨l,n,rfl⟩<;>rfl]
  exact L9 t w q5
 rcases eK (av [124] t) with q6|q6
 ·rw[show eJ t=7 from by rcases aO q6 with ⟨l,n,rfl⟩ | ⟨l,n,rfl⟩<;>rfl]
  exact Ma t w q6
 rcases eK (av [126] t) with q7|q7
 ·rw[show eJ t=8 from by rcases aO q7 with ⟨l,n,rfl⟩ | ⟨l,n,rfl⟩<;>rfl]
  exact Mb t w q7
 rcases eK (av [60,60] t) with q8|q8
 ·rw[show eJ t=9 from by rcases aO q8 with ⟨l,n,rfl⟩ | ⟨l,n,rfl⟩<;>rfl]
  exact Mc t w q8
 rcases eK (av [62,62] t) with q9|q9
 ·rw[show eJ t=10 from by rcases aO q9 with ⟨l,n,rfl⟩ | ⟨l,n,rfl⟩<;>rfl]
  exact Hc t w q9
 rcases eK (av [46,46] t) with Rx|Rx
 ·rw[show eJ t=11 from by rcases aO Rx with ⟨l,n,rfl⟩ | ⟨l,n,rfl⟩<;>rfl]
  exact Hd t w Rx
 rcases eK (av [61,61] t) with x9|x9
 ·rw[show eJ t=12 from by rcases aO x9 with ⟨l,n,rfl⟩ | ⟨l,n,rfl⟩<;>rfl]
  exact He t w x9
 rcases eK (av [126,61] t) with Up|Up
 ·rw[show eJ t=13 from by rcases aO Up with ⟨l,n,rfl⟩ | ⟨l,n,rfl⟩<;>rfl]
  exact Hf t w Up
 rcases eK (av [60] t) with Uq|Uq
 ·rw[show eJ t=14 from by rcases aO Uq with ⟨l,n,rfl⟩ | ⟨l,n,rfl⟩<;>rfl]
  exact Hg t w Uq
 rcases eK (av [60,61] t) with Ur|Ur
 ·rw[show eJ t=15 from by rcases aO Ur with ⟨l,n,rfl⟩ | ⟨l,n,rfl⟩<;>rfl]
  exact Hh t w Ur
 rcases eK (av [62] t) with Us|Us
 ·rw[show eJ t=16 from by rcases aO Us with ⟨l,n,rfl⟩ | ⟨l,n,rfl⟩<;>rfl]
  exact Hi t w Us
 rcases eK (av [62,61] t) with Pw|Pw
 ·rw[show eJ t=17 from by rcases aO Pw with ⟨l,n,rfl⟩ | ⟨l,n,rfl⟩<;>rfl]
  exact Hj t w Pw
 rcases eK (av FV t) with Ut|Ut
 ·rw[show eJ t=18 from by rcases aO Ut with ⟨l,n,rfl⟩ | ⟨l,n,rfl⟩<;>rfl]
  exact Hk t w Ut
 rcases eK (av YK t) with yR|yR
 ·rw[show eJ t=19 from by rcases aO yR with ⟨l,n,rfl⟩ | ⟨l,n,rfl⟩<;>rfl]
  exact Hl t w yR
 rw[show eJ t=0 from by unfold eJ;rw[show ml t=none from by simp[ml,q0,q1,q2,q3,q4,q5,q6,q7,q8,q9,Rx,x9,Up,Uq,Ur,Us,Pw,Ut,yR]]]
 exact Md t w q0 q1 q2 q3 q4 q5 q6 q7 q8 q9 Rx x9 Up Uq Ur Us Pw Ut yR
theorem Mf (t:aj) (w:World) (hq:av [45] t=true):Calls Tryz.prog 224 #[.string (ag t)] w (bO 20 w):=by
 have g0:((ag t).toList == [45])=true:=ai (s:=[45]) (by decide) t hq
 generalize ag t=Y at *;clear hq;go_enter Tryz.func224,Tryz.ntmps224
 go_wp2
 go_ret
 exact⟨rfl,rfl⟩
theorem Mg (t:aj) (w:World) (hq:av [126] t=true):Calls Tryz.prog 224 #[.string (ag t)] w (bO 21 w):=by
 have g0:=aQ [45] hq (by decide)
 have g1:((ag t).toList == [126])=true:=ai (s:=[126]) (by decide) t hq
 generalize ag t=Y at *;clear hq;go_enter Tryz.func224,Tryz.ntmps224
 go_wp2
 go_ret
 exact⟨rfl,rfl⟩
theorem Mh (t:aj) (w:World) (hq:av Cc t=true):Calls Tryz.prog 224 #[.string (ag t)] w (bO 22 w):=by
 have g0:=aQ [45] hq (by decide)
 have g1:=aQ [126] hq (by decide)
 have g2:((ag t).toList == [110,111,116])=true:=ai (s:=Cc) (by decide) t hq
 generalize ag t=Y at *;clear hq;go_enter Tryz.func224,Tryz.ntmps224
 go_wp2
 go_ret
 exact⟨rfl,rfl⟩
theorem Mi (t:aj) (w:World) (hq:av [35] t=true):Calls Tryz.prog 224 #[.string (ag t)] w (bO 23 w):=by
 have g0:=aQ [45] hq (by decide)
 have g1:=aQ [126] hq (by decide)
 have g2:=aQ [110,111,116] hq (by decide)
 have g3:((ag t).toList == [35])=true:=ai (s:=[35]) (by decide) t hq
 generalize ag t=Y at *;clear hq;go_enter Tryz.func224,Tryz.ntmps224
 go_wp2
 go_ret
 exact⟨rfl,rfl⟩
theorem Ry (t:aj) (w:World) (q0:av [45] t=false) (q1:av [126] t=false) (q2:av Cc t=false) (q3:av [35] t=false):Calls Tryz.prog 224 #[.string (ag t)] w (bO 0 w):=by
 have g0:((ag t).toList == [45])=false:=ai (s:=[45]) (by decide) t q0
 have g1:((ag t).toList == [126])=false:=ai (s:=[126]) (by decide) t q1
 have g2:((ag t).toList == [110,111,116])=false:=ai (s:=Cc) (by decide) t q2
 have g3:((ag t).toList == [35])=false:=ai (s:=[35]) (by decide) t q3
 clear q0 q1 q2 q3;generalize ag t=Y at *;go_enter Tryz.func224,Tryz.ntmps224
 go_wp2
 go_ret
 exact⟨rfl,rfl⟩
theorem jZ (t:aj) (w:World):Calls Tryz.prog 224 #[.string (ag t)] w (bO (e7 t) w):=by
 rcases eK (av [45] t) with q0|q0
 ·rw[show e7 t=20 from by rcases aO q0 with ⟨l,n,rfl⟩ | ⟨l,n,rfl⟩<;>rfl]
  exact Mf t w q0
 rcases eK (av [126] t) with q1|q1
 ·rw[show e7 t=21 from by rcases aO q1 with ⟨l,n,rfl⟩ | ⟨l,n,rfl⟩<;>rfl]
  exact Mg t w q1
 rcases eK (av Cc t) with q2|q2
 ·rw[show e7 t=22 from by rcases aO q2 with ⟨l,n,rfl⟩ | ⟨l,n,rfl⟩<;>rfl]
  exact Mh t w q2
 rcases eK (av [35] t) with q3|q3
 ·rw[show e7 t=23 from by rcases aO q3 with ⟨l,n,rfl⟩ | ⟨l,n,rfl⟩<;>rfl]
  exact Mi t w q3
 rw[show e7 t=0 from by unfold e7;rw[show lA t=none from by simp[lA,q0,q1,q2,q3]]]
 exact Ry t w q0 q1 q2 q3
def Jz (k:Int):Int:=if k=0 then 0 else if k=19 then 1 else if k=18 then 2 else if 12≤k∧k≤17 then 3 else if k=7 then 4 else if k=8 then 5 else if k=6 then 6 else if k=9∨k=10 then 7 else if k=11 then 8 else if k=1∨k=2 then 9 else if 3≤k∧k≤5 then 10 else 11
def vt (k:Int):Int:=if k=11 then 7 else Jz k
theorem ue (k:Int) (w:World) (h0:0≤k) (h1:k≤23):Calls Tryz.prog 206 #[.int .i64 k] w (bO (Jz k) w):=by
 have h:k=0∨k=1∨k=2∨k=3∨k=4∨k=5∨k=6∨k=7∨k=8∨k=9∨k=10∨k=11∨k=12∨k=13∨k=14∨k=15∨k=16∨k=17∨k=18∨k=19∨k=20∨k=21∨k=22∨k=23:=by omega
 rcases h with rfl|rfl|rfl|rfl|rfl|rfl|rfl|rfl|rfl|rfl|rfl|rfl|rfl|rfl|rfl|rfl|rfl|rfl|rfl|rfl|rfl|rfl|rfl|rfl <;>
 ·clear h0 h1
  go_enter Tryz.func206,Tryz.ntmps206
  go_wp2
  go_ret
  exact⟨rfl,rfl⟩
theorem Mj (k:Int) (w:World) (h0:0≤k) (h1:k≤23):Calls Tryz.prog 227 #[.int .i64 k] w (bO (vt k) w):=by
 have HC:=aa (ue k w h0 h1);by_cases hk:k=11
 ·subst hk
  rw[show Jz 11=8 from rfl] at HC
  rw[show vt 11=7 from rfl]
  clear h0 h1;go_enter Tryz.func227,Tryz.ntmps227
  go_wp2_with fail
  refine HC.out.mono ?_;rintro e w1 ⟨rfl,rfl⟩;go_wp2_with fail
  go_ret
  exact⟨rfl,rfl⟩
 ·rw[show vt k=Jz k from by unfold vt;rw[af hk]]
  have g1:(k == 11)=false:=aG.2 hk;generalize Jz k=S at *;clear h0 h1 hk;go_enter Tryz.func227,Tryz.ntmps227
  go_wp2_with fail
  refine HC.out.mono ?_;rintro e w1 ⟨rfl,rfl⟩;go_wp2_with fail
  go_ret
  exact⟨rfl,rfl⟩
theorem lN {t:aj} {o:Int×Nat×Nat} (h:ml t=some o):eJ t=o.1∧Jz o.1=(o.2.1:Int)∧vt o.1+1=(o.2.2:Int)∧1≤o.1∧o.1≤19:=by
 refine⟨by unfold eJ;rw[h],?_⟩
 unfold ml at h;repeat' (rcases zZ h with rfl|h;exact⟨by decide,by decide,by decide,by decide⟩)
 exact absurd h (by simp)
theorem wy {t:aj} (h:ml t=none):eJ t=0:=by unfold eJ;rw[h]
theorem Ml {wp:iM} (op:Int) (h0:0≤op) (h1:op≤23) (hB:qZ 178 (vt op) wp) (b g1 g2:Nat) (O:Nat→Prop) (ts:List aj) (T:List Nd) (K:Ast→List aj→Prop) (E:Int→Prop) (w:World) (hp:PS w b O ts T) (b1:eI w O g1 #[.pointer (some ⟨b,0,none⟩)] 116) (b2:eI w O g2 #[.int .i64 op] 3) (hk:wp ts T.length K E) :
  Calls Tryz.prog 226 #[.pointer (some ⟨g1,0,none⟩),.pointer (some ⟨g2,0,none⟩)] w (aH b O T (RK K E) w):=by
 have c1:=b1.cell 0;have c2:=b2.cell 0;have HS:=aa (fun W=>Mj op W h0 h1)
 have HB:=aa (fun(W:World) hW=>hB b O ts T K E W hW hk)
 have HP:=aa hp;generalize vt op=l at *;clear b1 b2 hp hk hB h0 h1;go_enter Tryz.func226,Tryz.ntmps226
 go_wp2_with fail
 go_region_with (first
  | (go_at_call 227;refine(HS.out _).mono ?_;rintro e w2 ⟨rfl,rfl⟩)
  | (go_at_call 178;refine(HB.out _ (HP.out.below (by exact⟨rfl,rfl,rfl,ah _,fun _ _=>rfl⟩))).mono ?_;intro e w3 h3;obtain⟨v,er,rfl⟩:=h3.ret;have H3:=aa h3;clear h3))
 all_goals go_wp2
 all_goals go_ret2
 all_goals exact H3.out.after ⟨rfl,rfl,rfl,ah _,fun _ _ _=>rfl,fun _ _=>rfl⟩
theorem EF {wp:iM} (op:Int) (h0:0≤op) (h1:op≤23) (hB:qZ 178 (vt op) wp) (b:Nat) (O:Nat→Prop) (w:World) (hO :∀k,O k→k<w.heap.size):Calls Tryz.prog 207 #[.pointer (some ⟨b,0,none⟩),.int .i64 op] w (jY b O (dw wp) w):=by
 obtain⟨w1,dZ⟩ :∃w1,w1=w.alloc (.cells #[.pointer (some ⟨b,0,none⟩)] 116):=⟨_,rfl⟩;obtain⟨w2,hw2⟩ :∃w2,w2=w1.alloc (.cells #[.int .i64 op] 3):=⟨_,rfl⟩;have f1:ay O w w1:=by rw[dZ];exact(ay.refl _ _).alloc _
 have f2:ay O w1 w2:=by rw[hw2];exact(ay.refl _ _).alloc _
 have z1:w1.heap.size=w.heap.size+1:=by rw[dZ,ao]
 have b1:eI w1 O w.heap.size #[.pointer (some ⟨b,0,none⟩)] 116:=by rw[dZ];exact eI.new w O hO _ _
 have b2:eI w2 O (w.heap.size+1) #[.int .i64 op] 3:=by rw[hw2,←z1];exact eI.new w1 O (fun k hk=>by have:=hO k hk;omega) _ _
 have Af:One w2 b O (.func (.func 226) #[] #[.pointer (some ⟨w.heap.size,0,none⟩),.pointer (some ⟨w.heap.size+1,0,none⟩)]) wp:=by
  intro W1 O1 T ts K E hf he hp hk;refine⟨226,_,_,rfl,enters_of Tryz.func226 (by kernel_rfl) rfl,?_⟩
  exact Ml op h0 h1 hB b _ _ O1 ts T K E W1 hp ((b1.later f2 (Ext.refl _ _)).later hf he) (b2.later hf he) hk
 have HK:=aa (Ae b O 226 _ _ wp w2 Af fun k hk=>by have:=hO k hk;have:=f1.size;have:=f2.size;omega)
 have HB:Hid (Below w.heap.size w w2):=aa (by rw[hw2,dZ];exact((Below.refl _ _).alloc (ah _) _).alloc (by simp) _)
 rw[hw2,dZ] at HK HB;clear dZ hw2 f1 f2 z1 b1 b2 Af hB h0 h1;go_enter Tryz.func207,Tryz.ntmps207
 go_wp2_with fail
 refine HK.out.mono ?_;rintro e w1 ⟨v,rfl,b1,h2,f,first,cap,rfl⟩
 have H2:=aa h2;have B1:=aa (aB HB.out b1);clear h2 b1;go_wp2_with fail
 go_ret
 exact⟨f,first,cap,rfl,B1.out,H2.out⟩
def Aj (rt:Int→iM) (l:Int):Nat→Ast→List aj→Nat→(Ast→List aj→Prop)→(Int→Prop)→Prop
 | 0,_,_,_,_,_=>False
 | k+1,a,ts,n,K,E=>∃t r,ts=t::r∧(Jz (eJ t)≤l→K a ts) ∧
  (¬ Jz (eJ t)≤l→aI [aC,dw (rt (eJ t))] ⟨⟨12,t.2.1,eJ t,0,⟨#[]⟩,[],[]⟩,[a],ts,n+a.size⟩ (bW fun a' ax=>Aj rt l k a' ax n K E) E)
theorem CU (t:aj):0≤eJ t∧eJ t≤19:=by
 cases h:ml t with
 | none=>rw[wy h];decide
 | some o=>have:=lN h;omega
theorem Rz {od:iM} {rt:Int→iM} (hO:oY 204 od) (l:Int) (hR :∀op,1≤op→op≤19→qZ 178 (vt op) (rt op)) (hl:0≤l):qZ 178 l fun ts n K E=>od ts n (fun a fC=>∃m,Aj rt l m a fC n K E) E:=by
 intro b O ts T0 K E w hp hk;have HA:=aa (hO b O ts T0 _ E w hp hk);have HR:=aa hR;have HL:=aa hl;clear hO hp hk hR hl;go_enter Tryz.func178,Tryz.ntmps178
 go_wp2_with fail
 refine HA.out.mono ?_;intro e w1 h1;have F1:=aa h1.1;rcases h1.2 with ⟨p,a,fC,O1,T1,rfl,p1,x1,l1,k1⟩ | ⟨le,v,er,rfl,⟨g',rfl,m2,m3⟩,k1⟩
 ·obtain⟨m,k1⟩:=k1
  have P1:=aa p1;have X1:=aa x1;have L1:=aa l1;have K1:=aa k1;clear h1 p1 x1 l1 k1;go_wp2_with fail
  go_loopg [6,7] (m+1) (fun z lv ev wr=>(∃(p:Nat) (a:Ast) (tr:List aj) (Or:Nat→Prop) (Tr:List Nd) (k:Nat),lv=.int .i64 (p:Int)∧ev=.nilIface∧z=k+1∧PS wr b Or tr Tr∧ay O w wr∧Ext O Or w∧ei T0 Tr [a] [(p:Int)]∧Aj rt l k a tr T0.length K E) ∨
   (∃(le:Int) (g':Nat),ev=.iface 75 (.pointer (some ⟨g',0,none⟩))∧w.heap.size≤g'∧wr.heap[g']? = some (.cells #[.int .i64 6,.int .i64 le] 81 (0,0))∧ay O w wr∧E le))
  case atStart=>exact .inl ⟨p,a,fC,O1,T1,m,rfl,rfl,rfl,P1.out,F1.out,X1.out,L1.out,K1.out⟩
  case round =>
   rcases hrel with ⟨p,a,tr,Or,Tr,k,rfl,rfl,rfl,pr,fr,xr,lr,kr⟩ | ⟨le,g',rfl,hg,m3,fr,ke⟩
   ·cases k with
    | zero=>exact kr.elim
    | succ k =>
     obtain⟨t,r,rfl,hle,Px⟩:=kr;have PR:=aa pr;have FR:=aa fr;have XR:=aa xr;have LR:=aa lr;have HW:=aa (bQ b Or t r Tr wr pr);have wA:=aa (fun W=>Me t W)
     have hbr:=CU t;have HST:=aa (fun W=>ue (eJ t) W hbr.1 (by omega))
     have RC:Hid (¬ Jz (eJ t)≤l→1≤eJ t):=aa fun h=>by
      have h0:eJ t≠0:=fun e=>h (by rw[e];exact HL.out)
      omega
     have HLE:=aa hle;have HGT:=aa Px;have aaj:=aa hbr.2;clear pr fr xr lr hle Px hbr F1 P1 X1 L1 K1 HA;generalize hY:ag t=Y at *;generalize hop:eJ t=op at *;generalize hst:Jz op=st at *;clear hY hop;have HSE:=aa hst;clear hst;by_cases hc:st≤l
     ·have g1:decide (st≤l)=true:=bZ hc
      have HC:=aa hc;clear hc;go_wp2_with fail
      refine HW.out.mono ?_;rintro e w2 ⟨rfl,b2⟩;have B2:=aa b2;clear b2;go_wp2_with fail
      refine(wA.out _).mono ?_;rintro e w3 ⟨rfl,rfl⟩;go_wp2_with fail
      refine(HST.out _).mono ?_;rintro e w3 ⟨rfl,rfl⟩;go_wp2_with fail
      go_ret2
      exact⟨FR.out.trans (ay.ae (O:=Or) B2.out) XR.out,.inl ⟨p,a,t::r,Or,Tr,rfl,PR.out.below B2.out,XR.out,LR.out,HLE.out HC.out⟩⟩
     ·have g1:decide (st≤l)=false:=cr hc
      have HC:=aa hc;clear hc;go_wp2_with fail
      refine HW.out.mono ?_;rintro e w2 ⟨rfl,b2⟩;have B2:=aa b2;clear b2;go_wp2_with fail
      refine(wA.out _).mono ?_;rintro e w3 ⟨rfl,rfl⟩;go_wp2_with fail
      refine(HST.out _).mono ?_;rintro e w3 ⟨rfl,rfl⟩;have p2:=PR.out.below B2.out;have P2:=aa p2;have hown2 :∀k,Or k→k<w3.heap.size:=fun k hk=>(p2.own k hk).2
      have hb2:b<w3.heap.size:=(p2.own b p2.at_).2;have HV:=aa (EF op (by have:=RC.out HC.out;omega) (by have:=aaj.out;omega) (HR.out op (RC.out HC.out) aaj.out) b (fun k=>Or k∨k=w3.heap.size) (w3.alloc (.cells #[.int .i64 (p:Int)] 3)) (fun k hk=>by
       rcases hk with hk|hk
       ·have:=hown2 k hk;simp;omega
       ·simp;omega))
      have HO2:=aa hown2;clear p2 hown2;go_wp2_with fail
      refine HV.out.mono ?_;rintro e w4 ⟨fi,fa,fc,rfl,b4,h4⟩;have hg4:w4.heap[w3.heap.size]? = some (.cells #[.int .i64 (p:Int)] 3 (0,0)):=(b4.block w3.heap.size (by simp)).trans (World.alloc_heap_new w3 _)
      have B4:=aa (aB (aX w3 _) b4);have p4:=P2.out.below B4.out;have HN:=aa (LX w4 w3.heap.size p a p4 hg4 (fun h=>by have:=HO2.out _ h;omega) (by omega) LR.out ⟨12,0,op,0,⟨#[]⟩,[],[]⟩ rfl [aZ 40 b,.func (.func fi) fa fc] [aC,dw (rt op)] (by simp) ⟨bb w4 b _,h4,trivial⟩ (HGT.out HC.out))
      have F4:=aa ((FR.out.trans (ay.ae (O:=Or) B2.out) XR.out).trans (ay.ae (O:=Or) B4.out) XR.out);have X4:Hid (Ext O (fun k=>Or k∨k=w3.heap.size) w):=aa fun k hk=>by
       rcases hk with hk|rfl
       ·exact XR.out k hk
       ·exact .inr (aL FR.out.size B2.out.size)
      clear hg4 p4 b4 h4 wA HST RC HV HO2;go_wp2_with fail
      refine HN.out.mono ?_;intro e w5 h5;have F5:=aa (F4.out.trans h5.1 X4.out);rcases h5.2 with ⟨p5,a5,WN,O5,T5,rfl,q5,x5,l5,k5⟩ | ⟨le,v,er,rfl,⟨g',rfl,m2,m3⟩,k5⟩
      ·have Q5:=aa q5
       have X5:=aa (X4.out.trans x5 F4.out.size);have L5:=aa l5;have K5:=aa k5;clear h5 q5 x5 l5 k5;go_wp2_with fail
       go_roundg (k+1)
       case measure=>omega
       case rel=>exact .inl ⟨p5,a5,WN,O5,T5,k,rfl,rfl,rfl,Q5.out,F5.out,X5.out,L5.out,K5.out⟩
      ·have M3:=aa m3
       have M2:=aa (aL F4.out.size m2);have K5:=aa k5;clear h5 m2 m3 k5;go_wp2_with fail
       go_roundg (k+1)
       case measure=>omega
       case rel=>exact .inr ⟨le,g',rfl,M2.out,M3.out,F5.out,K5.out⟩
   ·have M3:=aa m3
    have HG:=aa hg;have FR:=aa fr;have KE:=aa ke;clear m3 hg fr ke;go_wp2_with fail
    go_ret2
    exact⟨FR.out,.inr ⟨le,_,_,rfl,⟨g',rfl,HG.out,M3.out⟩,KE.out⟩⟩
 ·have M3:=aa m3
  have M2:=aa m2;have K1:=aa k1;clear h1 m2 m3 k1;go_wp2_with fail
  go_loopg [6,7] 1 (fun z lv ev wr=>lv=v∧ev=.iface 75 (.pointer (some ⟨g',0,none⟩))∧wr=w1)
  case atStart=>exact⟨rfl,rfl,rfl⟩
  case round =>
   obtain⟨rfl,rfl,rfl⟩:=hrel;go_wp2_with fail
   go_ret2
   exact⟨F1.out,.inr ⟨le,_,_,rfl,⟨g',rfl,M2.out,M3.out⟩,K1.out⟩⟩
theorem ya {wp:iM} (hB:qZ 178 0 wp):oY 142 wp:=by
 intro b O ts T K E w hp hk;have HN:=aa (hB b O ts T K E w hp hk);clear hp hk hB;go_enter Tryz.func142,Tryz.ntmps142
 go_wp2_with fail
 refine HN.out.mono ?_;intro e wz hz;obtain⟨v,er,rfl⟩:=hz.ret;have HZ:=aa hz;clear hz;go_wp2_with fail
 go_ret2
 exact HZ.out
theorem pY {b:Nat} {O:Nat→Prop} {t:aj} {ts:List aj} {T:List Nd} {K:Ast→List aj→Prop} {E:Int→Prop} (w w2:World) (g:Nat) (hg:g=w2.heap.size) (hp:PS w2 b O (t::ts) T) (hf:ay O w w2) (x:Nd) (hx:x=⟨x.kind,0,x.op,x.num,x.s,[],[]⟩) (vs:List Value) (cP:List cg) (hl:vs.length≤100) (hall:jD w2 b O vs cP)
  (hk:aI cP ⟨{ x with line:=t.2.1},[],t::ts,T.length⟩ (bW K) E):Calls Tryz.prog 19 #[.pointer (some ⟨b,0,none⟩),cY x (.slice none 0 0) (.slice none 0 0),.slice (some ⟨g,0,none⟩) vs.length vs.length] (w2.alloc (.cells vs.toArray 122)) (aH b O T (RK K E) w):=by
 subst hg;exact cI w w2 hp hf x hx vs cP hl hall hk
set_option maxRecDepth 40000 in
theorem RD (b:Nat) (O:Nat→Prop) (t:aj) (ts:List aj) (T:List Nd) (K:Ast→List aj→Prop) (E:Int→Prop) (w:World) (hp:PS w b O (t::ts) T) (h3:t.1=3)
  (hk:aI [aC] ⟨⟨4,t.2.1,0,t.2.2.1,⟨#[]⟩,[],[]⟩,[],t::ts,T.length⟩ (bW K) E) :
  Calls Tryz.prog 204 #[.pointer (some ⟨b,0,none⟩)] w (aH b O T (RK K E) w):=by
 obtain⟨t0,t1,t2,t3⟩:=t;have HA:=aa (cH b O (t0,t1,t2,t3) ts T w hp);unfold fQ at HA;dsimp only at *
 have q3:(t0 == 3)=true:=vL.2 h3;have HK:=aa hk;have P:=aa hp;clear hp hk h3;generalize hS:bC t3=S at *;clear hS;go_enter Tryz.func204,Tryz.ntmps204
 go_wp2_with fail
 refine HA.out.mono ?_;rintro e w1 ⟨rfl,b1⟩;have BL:=aa (aB b1 (aX w1 (.cells #[.int .i64 t0,.int .i64 t1,.int .i64 t2,.string S] 113)));have FL:=aa (ay.ae (O:=O) BL.out);have ra:=aa (P.out.below BL.out);clear b1;have HN:=aa (pY w (w1.alloc (.cells #[.int .i64 t0,.int .i64 t1,.int .i64 t2,.string S] 113)) (w1.heap.size+1) (by simp) ra.out FL.out ⟨4,0,0,t2,⟨#[]⟩,[],[]⟩ rfl [aZ 40 b] [aC] (by simp) ⟨bb _ b O,trivial⟩ HK.out)
 go_wp2_with fail
 refine HN.out.mono ?_;intro e wz hz;obtain⟨v,er,rfl⟩:=hz.ret;have HZ:=aa hz;clear hz;go_wp2_with fail
 go_ret2
 exact HZ.out
set_option maxRecDepth 40000 in
theorem RE (b:Nat) (O:Nat→Prop) (t:aj) (ts:List aj) (T:List Nd) (K:Ast→List aj→Prop) (E:Int→Prop) (w:World) (hp:PS w b O (t::ts) T) (h3:t.1≠3) (h4:t.1=4)
  (hk:aI [aC] ⟨⟨5,t.2.1,0,0,bC t.2.2.2,[],[]⟩,[],t::ts,T.length⟩ (bW K) E) :
  Calls Tryz.prog 204 #[.pointer (some ⟨b,0,none⟩)] w (aH b O T (RK K E) w):=by
 obtain⟨t0,t1,t2,t3⟩:=t;have HA:=aa (cH b O (t0,t1,t2,t3) ts T w hp);unfold fQ at HA;dsimp only at *
 have q3:(t0 == 3)=false:=aG.2 h3;have q4:(t0 == 4)=true:=vL.2 h4;have HK:=aa hk;have P:=aa hp;clear hp hk h3 h4;generalize hS:bC t3=S at *;clear hS;go_enter Tryz.func204,Tryz.ntmps204
 go_wp2_with fail
 refine HA.out.mono ?_;rintro e w1 ⟨rfl,b1⟩;have BL:=aa (aB b1 (aX w1 (.cells #[.int .i64 t0,.int .i64 t1,.int .i64 t2,.string S] 113)));have FL:=aa (ay.ae (O:=O) BL.out);have ra:=aa (P.out.below BL.out);clear b1;have HN:=aa (pY w (w1.alloc (.cells #[.int .i64 t0,.int .i64 t1,.int .i64 t2,.string S] 113)) (w1.heap.size+1) (by simp) ra.out FL.out ⟨5,0,0,0,S,[],[]⟩ rfl [aZ 40 b] [aC] (by simp) ⟨bb _ b O,trivial⟩ HK.out)
 go_wp2_with fail
 refine HN.out.mono ?_;intro e wz hz;obtain⟨v,er,rfl⟩:=hz.ret;have HZ:=aa hz;clear hz;go_wp2_with fail
 go_ret2
 exact HZ.out
theorem o7 {s:List UInt8} {t:aj} (h:av s t=true):t.1≠3:=by rcases aO h with ⟨l,n,rfl⟩ | ⟨l,n,rfl⟩<;>(intro e;simp at e)
theorem iS {s:List UInt8} {t:aj} (h:av s t=true):t.1≠4:=by rcases aO h with ⟨l,n,rfl⟩ | ⟨l,n,rfl⟩<;>(intro e;simp at e)
theorem CV {t:aj} (h:e7 t≠0):20≤e7 t∧e7 t≤23:=by
 cases hu:lA t with
 | none=>exact absurd (by unfold e7;rw[hu]) h
 | some o=>rw[show e7 t=o by unfold e7;rw[hu]];exact xN hu
set_option maxRecDepth 40000 in
theorem RF {rt:Int→iM} (hR :∀op,20≤op→op≤23→qZ 178 (vt op) (rt op)) (b:Nat) (O:Nat→Prop) (t:aj) (ts:List aj) (T:List Nd) (K:Ast→List aj→Prop) (E:Int→Prop) (w:World) (hp:PS w b O (t::ts) T) (h3:t.1≠3) (h4:t.1≠4) (hu:e7 t≠0)
  (hk:aI [aC,dw (rt (e7 t))] ⟨⟨13,t.2.1,e7 t,0,⟨#[]⟩,[],[]⟩,[],t::ts,T.length⟩ (bW K) E) :
  Calls Tryz.prog 204 #[.pointer (some ⟨b,0,none⟩)] w (aH b O T (RK K E) w):=by
 obtain⟨t0,t1,t2,t3⟩:=t;have HA:=aa (cH b O (t0,t1,t2,t3) ts T w hp);have HW:=aa (fun W hW=>bQ b O (t0,t1,t2,t3) ts T W hW)
 unfold fQ at HA;dsimp only at *
 have q3:(t0 == 3)=false:=aG.2 h3;have q4:(t0 == 4)=false:=aG.2 h4;have HU:=aa (fun W=>jZ (t0,t1,t2,t3) W)
 have hr:=CV hu;have HRR:=aa (hR _ hr.1 hr.2);have HRG:=aa hr;have qu:(e7 (t0,t1,t2,t3) != 0)=true:=om.2 hu;have HK:=aa hk;generalize hop:e7 (t0,t1,t2,t3)=op at *;generalize hY:ag (t0,t1,t2,t3)=Y at *;have P:=aa hp;clear hp hk h3 h4 hu hr hop hY hR;generalize hS:bC t3=S at *;clear hS;go_enter Tryz.func204,Tryz.ntmps204
 go_wp2_with fail
 refine HA.out.mono ?_;rintro e w1 ⟨rfl,b1⟩;have BL:=aa (aB b1 (aX w1 (.cells #[.int .i64 t0,.int .i64 t1,.int .i64 t2,.string S] 113)));have FL:=aa (ay.ae (O:=O) BL.out);have ra:=aa (P.out.below BL.out);clear b1;have iZ:=aa (HW.out _ ra.out);clear HW;go_wp2_with fail
 refine iZ.out.mono ?_;rintro e w2 ⟨rfl,b2⟩;have F2:=aa (FL.out.trans (ay.ae (O:=O) b2) (Ext.refl _ _));have P2:=aa (ra.out.below b2);clear b2;go_wp2_with fail
 refine(HU.out _).mono ?_;rintro e w3 ⟨rfl,rfl⟩;have F3:=F2;have P3:=P2;have BO :∀k,O k→k<w3.heap.size:=fun k hk=>(P3.out.own k hk).2
 have V4:=aa (EF op (by have:=HRG.out;omega) HRG.out.2 HRR.out b O w3 BO)
 clear BO;go_wp2_with fail
 refine V4.out.mono ?_;rintro e w4 ⟨f4,a4,c4,rfl,b4,h4⟩;have F4:=aa (F3.out.trans (ay.ae (O:=O) b4) (Ext.refl _ _));have P4:=aa (P3.out.below b4);have H4:=aa h4;clear b4 h4 V4;have HN:=aa (cI w w4 P4.out F4.out ⟨13,0,op,0,⟨#[]⟩,[],[]⟩ rfl [aZ 40 b,.func (.func f4) a4 c4] [aC,dw (rt op)] (by simp) ⟨bb w4 b O,H4.out,trivial⟩ HK.out)
 go_wp2_with fail
 refine HN.out.mono ?_;intro e wz hz;obtain⟨v,er,rfl⟩:=hz.ret;have HZ:=aa hz;clear hz;go_wp2_with fail
 go_ret2
 exact HZ.out
set_option maxRecDepth 40000 in
theorem RG (b:Nat) (O:Nat→Prop) (t:aj) (ts:List aj) (T:List Nd) (K:Ast→List aj→Prop) (E:Int→Prop) (w:World) (hp:PS w b O (t::ts) T) (hq:av sx t=true)
  (hk:aI [aC] ⟨dx 1 t.2.1,[],t::ts,T.length⟩ (bW K) E) :
  Calls Tryz.prog 204 #[.pointer (some ⟨b,0,none⟩)] w (aH b O T (RK K E) w):=by
 obtain⟨t0,t1,t2,t3⟩:=t;have h3:=o7 hq;have h4:=iS hq;have hu:e7 (t0,t1,t2,t3)=0:=by rcases aO hq with ⟨l,n,e1⟩ | ⟨l,n,e1⟩<;>(rw[e1];rfl)
 have HA:=aa (cH b O (t0,t1,t2,t3) ts T w hp);have HW:=aa (fun W hW=>bQ b O (t0,t1,t2,t3) ts T W hW)
 unfold fQ at HA;dsimp only at *
 have q3:(t0 == 3)=false:=aG.2 h3;have q4:(t0 == 4)=false:=aG.2 h4;have HU:=aa (fun W=>jZ (t0,t1,t2,t3) W)
 rw[hu] at HU;have g0:((ag (t0,t1,t2,t3)).toList == [110,105,108])=true:=ai (s:=sx) (by decide) _ hq
 have HK:=aa hk;generalize hY:ag (t0,t1,t2,t3)=Y at *;have P:=aa hp;clear hp hk h3 h4 hu hY hq;generalize hS:bC t3=S at *;clear hS;go_enter Tryz.func204,Tryz.ntmps204
 go_wp2_with fail
 refine HA.out.mono ?_;rintro e w1 ⟨rfl,b1⟩;have BL:=aa (aB b1 (aX w1 (.cells #[.int .i64 t0,.int .i64 t1,.int .i64 t2,.string S] 113)));have FL:=aa (ay.ae (O:=O) BL.out);have ra:=aa (P.out.below BL.out);clear b1;have iZ:=aa (HW.out _ ra.out);go_wp2_with fail
 refine iZ.out.mono ?_;rintro e w2 ⟨rfl,b2⟩;have F2:=aa (FL.out.trans (ay.ae (O:=O) b2) (Ext.refl _ _));have P2:=aa (ra.out.below b2);clear b2;go_wp2_with fail
 refine(HU.out _).mono ?_;rintro e w3 ⟨rfl,rfl⟩;have lp:=aa (HW.out _ P2.out);go_wp2_with fail
 refine lp.out.mono ?_;rintro e w4 ⟨rfl,b4⟩;have F4:=aa (F2.out.trans (ay.ae (O:=O) b4) (Ext.refl _ _));have P4:=aa (P2.out.below b4);clear b4 HW iZ lp HU;have HN:=aa (cI w w4 P4.out F4.out (mo 1) rfl [aZ 40 b] [aC] (by simp) ⟨bb w4 b O,trivial⟩ HK.out)
 go_wp2_with fail
 refine HN.out.mono ?_;intro e wz hz;obtain⟨v,er,rfl⟩:=hz.ret;have HZ:=aa hz;clear hz;go_wp2_with fail
 go_ret2
 exact HZ.out
set_option maxRecDepth 40000 in
theorem Mm (b:Nat) (O:Nat→Prop) (t:aj) (ts:List aj) (T:List Nd) (K:Ast→List aj→Prop) (E:Int→Prop) (w:World) (hp:PS w b O (t::ts) T) (hq:av mz t=true)
  (hk:aI [aC] ⟨dx 2 t.2.1,[],t::ts,T.length⟩ (bW K) E) :
  Calls Tryz.prog 204 #[.pointer (some ⟨b,0,none⟩)] w (aH b O T (RK K E) w):=by
 obtain⟨t0,t1,t2,t3⟩:=t;have h3:=o7 hq;have h4:=iS hq;have hu:e7 (t0,t1,t2,t3)=0:=by rcases aO hq with ⟨l,n,e1⟩ | ⟨l,n,e1⟩<;>(rw[e1];rfl)
 have HA:=aa (cH b O (t0,t1,t2,t3) ts T w hp);have HW:=aa (fun W hW=>bQ b O (t0,t1,t2,t3) ts T W hW)
 unfold fQ at HA;dsimp only at *
 have q3:(t0 == 3)=false:=aG.2 h3;have q4:(t0 == 4)=false:=aG.2 h4;have HU:=aa (fun W=>jZ (t0,t1,t2,t3) W)
 rw[hu] at HU;have g0:((ag (t0,t1,t2,t3)).toList == [110,105,108])=false:=ai (s:=sx) (by decide) _ (bn hq (by decide))
 have g1:((ag (t0,t1,t2,t3)).toList == [116,114,117,101])=true:=ai (s:=mz) (by decide) _ hq
 have HK:=aa hk;generalize hY:ag (t0,t1,t2,t3)=Y at *;have P:=aa hp;clear hp hk h3 h4 hu hY hq;generalize hS:bC t3=S at *;clear hS;go_enter Tryz.func204,Tryz.ntmps204
 go_wp2_with fail
 refine HA.out.mono ?_;rintro e w1 ⟨rfl,b1⟩;have BL:=aa (aB b1 (aX w1 (.cells #[.int .i64 t0,.int .i64 t1,.int .i64 t2,.string S] 113)));have FL:=aa (ay.ae (O:=O) BL.out);have ra:=aa (P.out.below BL.out);clear b1;have iZ:=aa (HW.out _ ra.out);go_wp2_with fail
 refine iZ.out.mono ?_;rintro e w2 ⟨rfl,b2⟩;have F2:=aa (FL.out.trans (ay.ae (O:=O) b2) (Ext.refl _ _));have P2:=aa (ra.out.below b2);clear b2;go_wp2_with fail
 refine(HU.out _).mono ?_;rintro e w3 ⟨rfl,rfl⟩;have lp:=aa (HW.out _ P2.out);go_wp2_with fail
 refine lp.out.mono ?_;rintro e w4 ⟨rfl,b4⟩;have F4:=aa (F2.out.trans (ay.ae (O:=O) b4) (Ext.refl _ _));have P4:=aa (P2.out.below b4);clear b4 HW iZ lp HU;have HN:=aa (cI w w4 P4.out F4.out (mo 2) rfl [aZ 40 b] [aC] (by simp) ⟨bb w4 b O,trivial⟩ HK.out)
 go_wp2_with fail
 refine HN.out.mono ?_;intro e wz hz;obtain⟨v,er,rfl⟩:=hz.ret;have HZ:=aa hz;clear hz;go_wp2_with fail
 go_ret2
 exact HZ.out
set_option maxRecDepth 40000 in
theorem Hm (b:Nat) (O:Nat→Prop) (t:aj) (ts:List aj) (T:List Nd) (K:Ast→List aj→Prop) (E:Int→Prop) (w:World) (hp:PS w b O (t::ts) T) (hq:av kg t=true)
  (hk:aI [aC] ⟨dx 3 t.2.1,[],t::ts,T.length⟩ (bW K) E) :
  Calls Tryz.prog 204 #[.pointer (some ⟨b,0,none⟩)] w (aH b O T (RK K E) w):=by
 obtain⟨t0,t1,t2,t3⟩:=t;have h3:=o7 hq;have h4:=iS hq;have hu:e7 (t0,t1,t2,t3)=0:=by rcases aO hq with ⟨l,n,e1⟩ | ⟨l,n,e1⟩<;>(rw[e1];rfl)
 have HA:=aa (cH b O (t0,t1,t2,t3) ts T w hp);have HW:=aa (fun W hW=>bQ b O (t0,t1,t2,t3) ts T W hW)
 unfold fQ at HA;dsimp only at *
 have q3:(t0 == 3)=false:=aG.2 h3;have q4:(t0 == 4)=false:=aG.2 h4;have HU:=aa (fun W=>jZ (t0,t1,t2,t3) W)
 rw[hu] at HU;have g0:((ag (t0,t1,t2,t3)).toList == [110,105,108])=false:=ai (s:=sx) (by decide) _ (bn hq (by decide))
 have g1:((ag (t0,t1,t2,t3)).toList == [116,114,117,101])=false:=ai (s:=mz) (by decide) _ (bn hq (by decide))
 have g2:((ag (t0,t1,t2,t3)).toList == [102,97,108,115,101])=true:=ai (s:=kg) (by decide) _ hq
 have HK:=aa hk;generalize hY:ag (t0,t1,t2,t3)=Y at *;have P:=aa hp;clear hp hk h3 h4 hu hY hq;generalize hS:bC t3=S at *;clear hS;go_enter Tryz.func204,Tryz.ntmps204
 go_wp2_with fail
 refine HA.out.mono ?_;rintro e w1 ⟨rfl,b1⟩;have BL:=aa (aB b1 (aX w1 (.cells #[.int .i64 t0,.int .i64 t1,.int .i64 t2,.string S] 113)));have FL:=aa (ay.ae (O:=O) BL.out);have ra:=aa (P.out.below BL.out);clear b1;have iZ:=aa (HW.out _ ra.out);go_wp2_with fail
 refine iZ.out.mono ?_;rintro e w2 ⟨rfl,b2⟩;have F2:=aa (FL.out.trans (ay.ae (O:=O) b2) (Ext.refl _ _));have P2:=aa (ra.out.below b2);clear b2;go_wp2_with fail
 refine(HU.out _).mono ?_;rintro e w3 ⟨rfl,rfl⟩;have lp:=aa (HW.out _ P2.out);go_wp2_with fail
 refine lp.out.mono ?_;rintro e w4 ⟨rfl,b4⟩;have F4:=aa (F2.out.trans (ay.ae (O:=O) b4) (Ext.refl _ _));have P4:=aa (P2.out.below b4);clear b4 HW iZ lp HU;have HN:=aa (cI w w4 P4.out F4.out (mo 3) rfl [aZ 40 b] [aC] (by simp) ⟨bb w4 b O,trivial⟩ HK.out)
 go_wp2_with fail
 refine HN.out.mono ?_;intro e wz hz;obtain⟨v,er,rfl⟩:=hz.ret;have HZ:=aa hz;clear hz;go_wp2_with fail
 go_ret2
 exact HZ.out
set_option maxRecDepth 40000 in
theorem Mn (b:Nat) (O:Nat→Prop) (t:aj) (ts:List aj) (T:List Nd) (K:Ast→List aj→Prop) (E:Int→Prop) (w:World) (hp:PS w b O (t::ts) T) (hq:av [46,46,46] t=true)
  (hk:aI [aC] ⟨dx 6 t.2.1,[],t::ts,T.length⟩ (bW K) E) :
  Calls Tryz.prog 204 #[.pointer (some ⟨b,0,none⟩)] w (aH b O T (RK K E) w):=by
 obtain⟨t0,t1,t2,t3⟩:=t;have h3:=o7 hq;have h4:=iS hq;have hu:e7 (t0,t1,t2,t3)=0:=by rcases aO hq with ⟨l,n,e1⟩ | ⟨l,n,e1⟩<;>(rw[e1];rfl)
 have HA:=aa (cH b O (t0,t1,t2,t3) ts T w hp);have HW:=aa (fun W hW=>bQ b O (t0,t1,t2,t3) ts T W hW)
 unfold fQ at HA;dsimp only at *
 have q3:(t0 == 3)=false:=aG.2 h3;have q4:(t0 == 4)=false:=aG.2 h4;have HU:=aa (fun W=>jZ (t0,t1,t2,t3) W)
 rw[hu] at HU;have g0:((ag (t0,t1,t2,t3)).toList == [110,105,108])=false:=ai (s:=sx) (by decide) _ (bn hq (by decide))
 have g1:((ag (t0,t1,t2,t3)).toList == [116,114,117,101])=false:=ai (s:=mz) (by decide) _ (bn hq (by decide))
 have g2:((ag (t0,t1,t2,t3)).toList == [102,97,108,115,101])=false:=ai (s:=kg) (by decide) _ (bn hq (by decide))
 have g3:((ag (t0,t1,t2,t3)).toList == [46,46,46])=true:=ai (s:=[46,46,46]) (by decide) _ hq
 have HK:=aa hk;generalize hY:ag (t0,t1,t2,t3)=Y at *;have P:=aa hp;clear hp hk h3 h4 hu hY hq;generalize hS:bC t3=S at *;clear hS;go_enter Tryz.func204,Tryz.ntmps204
 go_wp2_with fail
 refine HA.out.mono ?_;rintro e w1 ⟨rfl,b1⟩;have BL:=aa (aB b1 (aX w1 (.cells #[.int .i64 t0,.int .i64 t1,.int .i64 t2,.string S] 113)));have FL:=aa (ay.ae (O:=O) BL.out);have ra:=aa (P.out.below BL.out);clear b1;have iZ:=aa (HW.out _ ra.out);go_wp2_with fail
 refine iZ.out.mono ?_;rintro e w2 ⟨rfl,b2⟩;have F2:=aa (FL.out.trans (ay.ae (O:=O) b2) (Ext.refl _ _));have P2:=aa (ra.out.below b2);clear b2;go_wp2_with fail
 refine(HU.out _).mono ?_;rintro e w3 ⟨rfl,rfl⟩;have lp:=aa (HW.out _ P2.out);go_wp2_with fail
 refine lp.out.mono ?_;rintro e w4 ⟨rfl,b4⟩;have F4:=aa (F2.out.trans (ay.ae (O:=O) b4) (Ext.refl _ _));have P4:=aa (P2.out.below b4);clear b4 HW iZ lp HU;have HN:=aa (cI w w4 P4.out F4.out (mo 6) rfl [aZ 40 b] [aC] (by simp) ⟨bb w4 b O,trivial⟩ HK.out)
 go_wp2_with fail
 refine HN.out.mono ?_;intro e wz hz;obtain⟨v,er,rfl⟩:=hz.ret;have HZ:=aa hz;clear hz;go_wp2_with fail
 go_ret2
 exact HZ.out
set_option maxRecDepth 40000 in
theorem yb {bd:cg} (CW:ey 152 bd) (b:Nat) (O:Nat→Prop) (t:aj) (ts:List aj) (T:List Nd) (K:Ast→List aj→Prop) (E:Int→Prop) (w:World) (hp:PS w b O (t::ts) T) (hq:av ba t=true)
  (hk:aI [aC,bd] ⟨dx 11 t.2.1,[],t::ts,T.length⟩ (bW K) E) :
  Calls Tryz.prog 204 #[.pointer (some ⟨b,0,none⟩)] w (aH b O T (RK K E) w):=by
 obtain⟨t0,t1,t2,t3⟩:=t;have h3:=o7 hq;have h4:=iS hq;have hu:e7 (t0,t1,t2,t3)=0:=by rcases aO hq with ⟨l,n,e1⟩ | ⟨l,n,e1⟩<;>(rw[e1];rfl)
 have HA:=aa (cH b O (t0,t1,t2,t3) ts T w hp);have HW:=aa (fun W hW=>bQ b O (t0,t1,t2,t3) ts T W hW)
 unfold fQ at HA;dsimp only at *
 have q3:(t0 == 3)=false:=aG.2 h3;have q4:(t0 == 4)=false:=aG.2 h4;have HU:=aa (fun W=>jZ (t0,t1,t2,t3) W)
 rw[hu] at HU;have g0:((ag (t0,t1,t2,t3)).toList == [110,105,108])=false:=ai (s:=sx) (by decide) _ (bn hq (by decide))
 have g1:((ag (t0,t1,t2,t3)).toList == [116,114,117,101])=false:=ai (s:=mz) (by decide) _ (bn hq (by decide))
 have g2:((ag (t0,t1,t2,t3)).toList == [102,97,108,115,101])=false:=ai (s:=kg) (by decide) _ (bn hq (by decide))
 have g3:((ag (t0,t1,t2,t3)).toList == [46,46,46])=false:=ai (s:=[46,46,46]) (by decide) _ (bn hq (by decide))
 have g4:((ag (t0,t1,t2,t3)).toList == [102,117,110,99,116,105,111,110])=true:=ai (s:=ba) (by decide) _ hq
 have HK:=aa hk;generalize hY:ag (t0,t1,t2,t3)=Y at *;have P:=aa hp;clear hp hk h3 h4 hu hY hq;generalize hS:bC t3=S at *;clear hS;go_enter Tryz.func204,Tryz.ntmps204
 go_wp2_with fail
 refine HA.out.mono ?_;rintro e w1 ⟨rfl,b1⟩;have BL:=aa (aB b1 (aX w1 (.cells #[.int .i64 t0,.int .i64 t1,.int .i64 t2,.string S] 113)));have FL:=aa (ay.ae (O:=O) BL.out);have ra:=aa (P.out.below BL.out);clear b1;have iZ:=aa (HW.out _ ra.out);go_wp2_with fail
 refine iZ.out.mono ?_;rintro e w2 ⟨rfl,b2⟩;have F2:=aa (FL.out.trans (ay.ae (O:=O) b2) (Ext.refl _ _));have P2:=aa (ra.out.below b2);clear b2;go_wp2_with fail
 refine(HU.out _).mono ?_;rintro e w3 ⟨rfl,rfl⟩;have lp:=aa (HW.out _ P2.out);go_wp2_with fail
 refine lp.out.mono ?_;rintro e w4 ⟨rfl,b4⟩;have F4:=aa (F2.out.trans (ay.ae (O:=O) b4) (Ext.refl _ _));have P4:=aa (P2.out.below b4);clear b4 HW iZ lp HU;have HN:=aa (cI w w4 P4.out F4.out (mo 11) rfl [aZ 40 b,aZ 152 b] [aC,bd] (by simp) ⟨bb w4 b O,CW.part (enters_of Tryz.func152 (by kernel_rfl) rfl) w4 b O,trivial⟩ HK.out)
 go_wp2_with fail
 refine HN.out.mono ?_;intro e wz hz;obtain⟨v,er,rfl⟩:=hz.ret;have HZ:=aa hz;clear hz;go_wp2_with fail
 go_ret2
 exact HZ.out
set_option maxRecDepth 40000 in
theorem RH {it:cg} (G8:ey 235 it) (b:Nat) (O:Nat→Prop) (t:aj) (ts:List aj) (T:List Nd) (K:Ast→List aj→Prop) (E:Int→Prop) (w:World) (hp:PS w b O (t::ts) T) (hq:av [123] t=true)
  (hk:aI [aC,dC [125] it,au [[125]]] ⟨dx 15 t.2.1,[],t::ts,T.length⟩ (bW K) E) :
  Calls Tryz.prog 204 #[.pointer (some ⟨b,0,none⟩)] w (aH b O T (RK K E) w):=by
 obtain⟨t0,t1,t2,t3⟩:=t;have h3:=o7 hq;have h4:=iS hq;have hu:e7 (t0,t1,t2,t3)=0:=by rcases aO hq with ⟨l,n,e1⟩ | ⟨l,n,e1⟩<;>(rw[e1];rfl)
 have HA:=aa (cH b O (t0,t1,t2,t3) ts T w hp);have HW:=aa (fun W hW=>bQ b O (t0,t1,t2,t3) ts T W hW)
 unfold fQ at HA;dsimp only at *
 have q3:(t0 == 3)=false:=aG.2 h3;have q4:(t0 == 4)=false:=aG.2 h4;have HU:=aa (fun W=>jZ (t0,t1,t2,t3) W)
 rw[hu] at HU;have g0:((ag (t0,t1,t2,t3)).toList == [110,105,108])=false:=ai (s:=sx) (by decide) _ (bn hq (by decide))
 have g1:((ag (t0,t1,t2,t3)).toList == [116,114,117,101])=false:=ai (s:=mz) (by decide) _ (bn hq (by decide))
 have g2:((ag (t0,t1,t2,t3)).toList == [102,97,108,115,101])=false:=ai (s:=kg) (by decide) _ (bn hq (by decide))
 have g3:((ag (t0,t1,t2,t3)).toList == [46,46,46])=false:=ai (s:=[46,46,46]) (by decide) _ (bn hq (by decide))
 have g4:((ag (t0,t1,t2,t3)).toList == [102,117,110,99,116,105,111,110])=false:=ai (s:=ba) (by decide) _ (bn hq (by decide))
 have g5:((ag (t0,t1,t2,t3)).toList == [123])=true:=ai (s:=[123]) (by decide) _ hq
 have HK:=aa hk;generalize hY:ag (t0,t1,t2,t3)=Y at *;have P:=aa hp;clear hp hk h3 h4 hu hY hq;generalize hS:bC t3=S at *;clear hS;go_enter Tryz.func204,Tryz.ntmps204
 go_wp2_with fail
 refine HA.out.mono ?_;rintro e w1 ⟨rfl,b1⟩;have BL:=aa (aB b1 (aX w1 (.cells #[.int .i64 t0,.int .i64 t1,.int .i64 t2,.string S] 113)));have FL:=aa (ay.ae (O:=O) BL.out);have ra:=aa (P.out.below BL.out);clear b1;have iZ:=aa (HW.out _ ra.out);go_wp2_with fail
 refine iZ.out.mono ?_;rintro e w2 ⟨rfl,b2⟩;have F2:=aa (FL.out.trans (ay.ae (O:=O) b2) (Ext.refl _ _));have P2:=aa (ra.out.below b2);clear b2;go_wp2_with fail
 refine(HU.out _).mono ?_;rintro e w3 ⟨rfl,rfl⟩;have lp:=aa (HW.out _ P2.out);go_wp2_with fail
 refine lp.out.mono ?_;rintro e w4 ⟨rfl,b4⟩;have F4:=aa (F2.out.trans (ay.ae (O:=O) b4) (Ext.refl _ _));have P4:=aa (P2.out.below b4);clear b4 HW iZ lp HU;have HN:=aa ((Ru G8 b O _ ts T K E w4 P4.out HK.out).mono fun _ _ h=>h.after F4.out)
 go_wp2_with fail
 refine HN.out.mono ?_;intro e wz hz;obtain⟨v,er,rfl⟩:=hz.ret;have HZ:=aa hz;clear hz;go_wp2_with fail
 go_ret2
 exact HZ.out
structure Mo (t:aj):Prop where
 n3:t.1≠3
 n4:t.1≠4
 un:e7 t=0
 a:av sx t=false
 b:av mz t=false
 c:av kg t=false
 d:av [46,46,46] t=false
 e:av ba t=false
 f:av [123] t=false
set_option maxRecDepth 40000 in
theorem RI {sf:iM} (hS:oY 153 sf) (b:Nat) (O:Nat→Prop) (t:aj) (ts:List aj) (T:List Nd) (K:Ast→List aj→Prop) (E:Int→Prop) (w:World) (hp:PS w b O (t::ts) T) (hq:Mo t)
  (hk:sf (t::ts) T.length K E) :
  Calls Tryz.prog 204 #[.pointer (some ⟨b,0,none⟩)] w (aH b O T (RK K E) w):=by
 obtain⟨t0,t1,t2,t3⟩:=t;have h3:=hq.n3;have h4:=hq.n4;have hu:=hq.un;have HA:=aa (cH b O (t0,t1,t2,t3) ts T w hp);have HW:=aa (fun W hW=>bQ b O (t0,t1,t2,t3) ts T W hW)
 unfold fQ at HA;dsimp only at *
 have q3:(t0 == 3)=false:=aG.2 h3;have q4:(t0 == 4)=false:=aG.2 h4;have HU:=aa (fun W=>jZ (t0,t1,t2,t3) W)
 rw[hu] at HU;have g0:((ag (t0,t1,t2,t3)).toList == [110,105,108])=false:=ai (s:=sx) (by decide) _ hq.a
 have g1:((ag (t0,t1,t2,t3)).toList == [116,114,117,101])=false:=ai (s:=mz) (by decide) _ hq.b
 have g2:((ag (t0,t1,t2,t3)).toList == [102,97,108,115,101])=false:=ai (s:=kg) (by decide) _ hq.c
 have g3:((ag (t0,t1,t2,t3)).toList == [46,46,46])=false:=ai (s:=[46,46,46]) (by decide) _ hq.d
 have g4:((ag (t0,t1,t2,t3)).toList == [102,117,110,99,116,105,111,110])=false:=ai (s:=ba) (by decide) _ hq.e
 have g5:((ag (t0,t1,t2,t3)).toList == [123])=false:=ai (s:=[123]) (by decide) _ hq.f
 have HK:=aa hk;generalize hY:ag (t0,t1,t2,t3)=Y at *;have P:=aa hp;clear hp hk h3 h4 hu hY hq;generalize hS:bC t3=S at *;clear hS;go_enter Tryz.func204,Tryz.ntmps204
 go_wp2_with fail
 refine HA.out.mono ?_;rintro e w1 ⟨rfl,b1⟩;have BL:=aa (aB b1 (aX w1 (.cells #[.int .i64 t0,.int .i64 t1,.int .i64 t2,.string S] 113)));have FL:=aa (ay.ae (O:=O) BL.out);have ra:=aa (P.out.below BL.out);clear b1;have iZ:=aa (HW.out _ ra.out);go_wp2_with fail
 refine iZ.out.mono ?_;rintro e w2 ⟨rfl,b2⟩;have F2:=aa (FL.out.trans (ay.ae (O:=O) b2) (Ext.refl _ _));have P2:=aa (ra.out.below b2);clear b2;go_wp2_with fail
 refine(HU.out _).mono ?_;rintro e w3 ⟨rfl,rfl⟩;have lp:=aa (HW.out _ P2.out);go_wp2_with fail
 refine lp.out.mono ?_;rintro e w4 ⟨rfl,b4⟩;have F4:=aa (F2.out.trans (ay.ae (O:=O) b4) (Ext.refl _ _));have P4:=aa (P2.out.below b4);clear b4 HW iZ lp HU;have HN:=aa ((hS b O _ T K E w4 P4.out HK.out).mono fun _ _ h=>h.after F4.out)
 go_wp2_with fail
 refine HN.out.mono ?_;intro e wz hz;obtain⟨v,er,rfl⟩:=hz.ret;have HZ:=aa hz;clear hz;go_wp2_with fail
 go_ret2
 exact HZ.out
def aak (op:iM) (li:cg):cg:=fun s K E=>∃t r,s.ts=t::r∧((t.1=4∨av [123] t=true)→dw op s K E)∧(t.1≠4→av [123] t=false→aI [au [[40]],dC [41] li,au [[41]]] s K E)
theorem Real.ps {W:World} {b n:Nat} {O:Nat→Prop} {T0:List Nd} {s:St} (h:Real W b n O T0 s) :∃Op T,PS W b Op s.ts T:=by
 obtain⟨Op,On,T,ks,hO,hd,hp,hn,hl,hc⟩:=h.ex;exact⟨Op,T,hp⟩
theorem RJ {op:iM} (hT:oY 204 op) (b n:Nat) (O:Nat→Prop) (T0:List Nd) (s:St) (K:St→Prop) (E:Int→Prop) (w:World) (hr:Real w b n O T0 s) (t:aj) (r:List aj) (hs:s.ts=t::r) (hc:t.1=4∨av [123] t=true) (hk:dw op s K E):Calls Tryz.prog 211 #[.pointer (some ⟨b,0,none⟩),.pointer (some ⟨n,0,none⟩)] w (bE b n O T0 K E w):=by
 have HA:Hid (Calls Tryz.prog 34 #[.pointer (some ⟨b,0,none⟩)] w fun e w'=>e=.returned (fQ t)∧Below w.heap.size w w'):=aa (by
  obtain⟨Op,T,hp⟩:=hr.ps;rw[hs] at hp;exact cH b Op t r T w hp)
 have HW:=aa (fun W hW=>ji hr hs W hW)
 have HR:=aa hr;have aal:=aa (fun W1 hb=>Ae b O 204 _ _ op W1 (hT.one (enters_of Tryz.func204 (by kernel_rfl) rfl) W1 b O) (hr.below (W':=W1) hb).lt)
 have HK:=aa hk;obtain⟨t0,t1,t2,t3⟩:=t;unfold fQ at HA;dsimp only at *
 have F0:=z8 t0 t1 t2 (bC t3);by_cases h4:t0=4
 ·have q4:(t0 == 4)=true:=vL.2 h4
  clear hr hk hs hc h4 HW;generalize bC t3=S at *;go_enter Tryz.func211,Tryz.ntmps211
  go_wp2_with fail
  refine HA.out.mono ?_;rintro e w1 ⟨rfl,b1⟩;have B1:=aa b1;have HC:=aa (aal.out w1 b1);clear b1;go_wp2_with fail
  refine HC.out.mono ?_;rintro e w2 ⟨v,rfl,b2,h2⟩;obtain⟨f,first,cap,rfl,oT,bw⟩:=h2.1.call HR.out (aB B1.out b2) HK.out
  have dX:=aa bw;clear h2 bw b2;unfold Enters at oT;go_wp2_with fail
  refine dX.out.mono ?_;intro e w2 h3;obtain⟨v,rfl⟩:=h3.ret;have H3:=aa h3;clear h3;go_wp2_with fail
  go_ret
  exact H3.out
 ·have q4:(t0 == 4)=false:=aG.2 h4
  have hw:av [123] (t0,t1,t2,t3)=true:=hc.elim (fun h=>(h4 h).elim) id
  have g1:((ag (t0,t1,t2,t3)).toList == [123])=true:=ai (s:=[123]) (by decide) _ hw
  clear hr hk hs hc h4 hw;generalize bC t3=S at *;generalize ag (t0,t1,t2,t3)=Y at *;go_enter Tryz.func211,Tryz.ntmps211
  go_wp2_with fail
  refine HA.out.mono ?_;rintro e w1 ⟨rfl,b1⟩;have B1:=aa b1;have iZ:=aa (HW.out w1 b1);clear b1;go_wp2_with fail
  refine iZ.out.mono ?_;rintro e w2 ⟨rfl,b2⟩;have B2:=aa (aB B1.out b2);have HC:=aa (aal.out w2 B2.out);clear b2;go_wp2_with fail
  refine HC.out.mono ?_;rintro e w3 ⟨v,rfl,b3,h2⟩;obtain⟨f,first,cap,rfl,oT,bw⟩:=h2.1.call HR.out (aB B2.out b3) HK.out
  have dX:=aa bw;clear h2 bw b3;unfold Enters at oT;go_wp2_with fail
  refine dX.out.mono ?_;intro e w2 h3;obtain⟨v,rfl⟩:=h3.ret;have H3:=aa h3;clear h3;go_wp2_with fail
  go_ret
  exact H3.out
theorem Mp {li:cg} (hL:ey 84 li) (b n:Nat) (O:Nat→Prop) (T0:List Nd) (s:St) (K:St→Prop) (E:Int→Prop) (w:World) (hr:Real w b n O T0 s) (t:aj) (r:List aj) (hs:s.ts=t::r) (h4:t.1≠4) (hw:av [123] t=false) (hk:aI [au [[40]],dC [41] li,au [[41]]] s K E):Calls Tryz.prog 211 #[.pointer (some ⟨b,0,none⟩),.pointer (some ⟨n,0,none⟩)] w (bE b n O T0 K E w):=by
 have HA:Hid (Calls Tryz.prog 34 #[.pointer (some ⟨b,0,none⟩)] w fun e w'=>e=.returned (fQ t)∧Below w.heap.size w w'):=aa (by
  obtain⟨Op,T,hp⟩:=hr.ps;rw[hs] at hp;exact cH b Op t r T w hp)
 have HW:=aa (fun W hW=>ji hr hs W hW)
 have HR:=aa hr;have HK:=aa hk;obtain⟨t0,t1,t2,t3⟩:=t;unfold fQ at HA;dsimp only at *
 have F9:=z8 t0 t1 t2 (bC t3);have q4:(t0 == 4)=false:=aG.2 h4;have g1:((ag (t0,t1,t2,t3)).toList == [123])=false:=ai (s:=[123]) (by decide) _ hw
 clear hr hk hs h4 hw;generalize bC t3=S at *;generalize ag (t0,t1,t2,t3)=Y at *;go_enter Tryz.func211,Tryz.ntmps211
 go_wp2_with fail
 refine HA.out.mono ?_;rintro e wa ⟨rfl,b1⟩;have B1:=aa b1;have iZ:=aa (HW.out wa b1);clear b1;go_wp2_with fail
 refine iZ.out.mono ?_;rintro e w0 ⟨rfl,b2⟩;have F0:=aa (ay.ae (O:=O) (aB B1.out b2));have P0:=aa (HR.out.below (aB B1.out b2));clear b2 HW iZ HA;have oz :∀k,O k→k<w0.heap.size:=P0.out.lt;have V1:=aa (cF w0 b O oz [40] (by decide) ⟨#[40]⟩ rfl)
 clear oz;go_wp2_with fail
 refine V1.out.mono ?_;rintro e w1 ⟨f1,a1,c1,rfl,b1,h1⟩;have F1:=aa (F0.out.trans (ay.ae (O:=O) b1) (Ext.refl _ _));have P1:=aa (P0.out.below b1);have H1:=aa h1;clear b1 h1 V1;have qU :∀k,O k→k<w1.heap.size:=P1.out.lt;have V2:=aa (qY w1 b O qU [41] (by decide) ⟨#[41]⟩ rfl 84 _ _ (li) (hL.part (enters_of Tryz.func84 (by kernel_rfl) rfl) w1 b O))
 clear qU;go_wp2_with fail
 refine V2.out.mono ?_;rintro e w2 ⟨f2,a2,c2,rfl,b2,h2⟩;have F2:=aa (F1.out.trans (ay.ae (O:=O) b2) (Ext.refl _ _));have P2:=aa (P1.out.below b2);have L1:=aa (H1.out.later (ay.ae (O:=O) b2) (Ext.refl _ _));clear H1;have H1:=L1;clear L1;have H2:=aa h2;clear b2 h2 V2;have Jy :∀k,O k→k<w2.heap.size:=P2.out.lt;have V3:=aa (cF w2 b O Jy [41] (by decide) ⟨#[41]⟩ rfl)
 clear Jy;go_wp2_with fail
 refine V3.out.mono ?_;rintro e w3 ⟨f3,a3,c3,rfl,b3,h3⟩;have F3:=aa (F2.out.trans (ay.ae (O:=O) b3) (Ext.refl _ _));have P3:=aa (P2.out.below b3);have L1:=aa (H1.out.later (ay.ae (O:=O) b3) (Ext.refl _ _));clear H1;have H1:=L1;clear L1;have L2:=aa (H2.out.later (ay.ae (O:=O) b3) (Ext.refl _ _));clear H2;have H2:=L2;clear L2;have H3:=aa h3;clear b3 h3 V3;have HN:=aa (jf w w3 P3.out F3.out (Ext.refl _ _) [.func (.func f1) a1 c1,.func (.func f2) a2 c2,.func (.func f3) a3 c3] [au [[40]],dC [41] (li),au [[41]]] (by simp) ⟨H1.out,H2.out,H3.out,trivial⟩ HK.out)
 go_wp2_with fail
 refine HN.out.mono ?_;intro e wz hz;obtain⟨v,rfl⟩:=hz.ret;have HZ:=aa hz;clear hz;go_wp2_with fail
 go_ret
 exact HZ.out
theorem aam {op:iM} {li:cg} (hT:oY 204 op) (hL:ey 84 li):ey 211 (aak op li):=by
 rintro b n O T0 s K E w hr ⟨t,r,hs,h1,h2⟩;by_cases hc:t.1=4∨av [123] t=true
 ·exact RJ hT b n O T0 s K E w hr t r hs hc (h1 hc)
 ·have h4:t.1≠4:=fun h=>hc (.inl h)
  have hw:av [123] t=false:=by
   cases h:av [123] t with
   | true=>exact(hc (.inr h)).elim
   | false=>rfl
  exact Mp hL b n O T0 s K E w hr t r hs h4 hw (h2 h4 hw)
def j3 (b:Nat) (O:Nat→Prop) (kind:Int) (cP:List cg) (w:World) (e:Ending) (w':World):Prop:=∃A m,e=.returned (.tuple #[.int .i64 kind,.slice A m m])∧Below w.heap.size w w'∧aN w' b O (.slice A m m) cP
theorem aN.nil (W:World) (b:Nat) (O:Nat→Prop):aN W b O (.slice none 0 0) []:=⟨[],.inl ⟨rfl,rfl⟩,trivial⟩
theorem RM (b:Nat) (O:Nat→Prop) (t:aj) (ts:List aj) (T:List Nd) (w:World) (hp:PS w b O (t::ts) T) (hq:av [46] t=true):Calls Tryz.prog 183 #[.pointer (some ⟨b,0,none⟩)] w (j3 b O 8 [aC,sF] w):=by
 have HW:=aa (bQ b O t ts T w hp);have g0:((ag t).toList == [46])=true:=ai (s:=[46]) (by decide) t hq
 have P:=aa hp;generalize ag t=Y at *;clear hp hq;go_enter Tryz.func183,Tryz.ntmps183
 go_wp2_with fail
 refine HW.out.mono ?_;rintro e w0 ⟨rfl,b0⟩;have F0:=aa (ay.ae (O:=O) b0);have P0:=aa (P.out.below b0);have B0:=aa b0;clear b0;have HO:=aa (fun k hk=>(P0.out.own k hk).2)
 have HN:=aa (aN.new (w:=w0) (b:=b) (O:=O) HO.out [aZ 40 b,aZ 179 b] [aC,sF] (by simp) ⟨bb w0 b O,LQ.part (enters_of Tryz.func179 (by kernel_rfl) rfl) w0 b O,trivial⟩)
 go_wp2_with fail
 go_ret2
 exact⟨_,_,rfl,aB B0.out (aX w0 _),HN.out⟩
theorem WO {ex:cg} (hE:ey 91 ex) (b:Nat) (O:Nat→Prop) (t:aj) (ts:List aj) (T:List Nd) (w:World) (hp:PS w b O (t::ts) T) (hq:av [91] t=true):Calls Tryz.prog 183 #[.pointer (some ⟨b,0,none⟩)] w (j3 b O 8 [aC,ex,au [[93]]] w):=by
 have HW:=aa (bQ b O t ts T w hp);have g0:=aQ [46] hq (by decide)
 have g1:((ag t).toList == [91])=true:=ai (s:=[91]) (by decide) t hq
 have P:=aa hp;generalize ag t=Y at *;clear hp hq;go_enter Tryz.func183,Tryz.ntmps183
 go_wp2_with fail
 refine HW.out.mono ?_;rintro e w0 ⟨rfl,b0⟩;have F0:=aa (ay.ae (O:=O) b0);have P0:=aa (P.out.below b0);have B0:=aa b0;clear b0;have oz :∀k,O k→k<w0.heap.size:=fun k hk=>(P0.out.own k hk).2
 have V1:=aa (cF w0 b O oz [93] (by decide) ⟨#[93]⟩ rfl)
 clear oz;go_wp2_with fail
 refine V1.out.mono ?_;rintro e w1 ⟨f1,a1,c1,rfl,b1,h1⟩;have F1:=aa (F0.out.trans (ay.ae (O:=O) b1) (Ext.refl _ _));have B1:=aa (aB B0.out b1);have P1:=aa (P0.out.below b1);have H1:=aa h1;clear b1 h1 V1;have HO:=aa (fun k hk=>(P1.out.own k hk).2)
 have HN:=aa (aN.new (w:=w1) (b:=b) (O:=O) HO.out [aZ 40 b,aZ 91 b,.func (.func f1) a1 c1] [aC,ex,au [[93]]] (by simp) ⟨bb w1 b O,hE.part (enters_of Tryz.func91 (by kernel_rfl) rfl) w1 b O,H1.out,trivial⟩)
 go_wp2_with fail
 go_ret2
 exact⟨_,_,rfl,aB B1.out (aX w1 _),HN.out⟩
theorem Hn {ar:cg} (hG:ey 211 ar) (b:Nat) (O:Nat→Prop) (t:aj) (ts:List aj) (T:List Nd) (w:World) (hp:PS w b O (t::ts) T) (hq:av [58] t=true):Calls Tryz.prog 183 #[.pointer (some ⟨b,0,none⟩)] w (j3 b O 10 [aC,cS,ar] w):=by
 have HW:=aa (bQ b O t ts T w hp);have g0:=aQ [46] hq (by decide)
 have g1:=aQ [91] hq (by decide)
 have g2:((ag t).toList == [58])=true:=ai (s:=[58]) (by decide) t hq
 have P:=aa hp;generalize ag t=Y at *;clear hp hq;go_enter Tryz.func183,Tryz.ntmps183
 go_wp2_with fail
 refine HW.out.mono ?_;rintro e w0 ⟨rfl,b0⟩;have F0:=aa (ay.ae (O:=O) b0);have P0:=aa (P.out.below b0);have B0:=aa b0;clear b0;have HO:=aa (fun k hk=>(P0.out.own k hk).2)
 have HN:=aa (aN.new (w:=w0) (b:=b) (O:=O) HO.out [aZ 40 b,aZ 88 b,aZ 211 b] [aC,cS,ar] (by simp) ⟨bb w0 b O,gW w0 b O,hG.part (enters_of Tryz.func211 (by kernel_rfl) rfl) w0 b O,trivial⟩)
 go_wp2_with fail
 go_ret2
 exact⟨_,_,rfl,aB B0.out (aX w0 _),HN.out⟩
theorem Ho {ar:cg} (hG:ey 211 ar) (b:Nat) (O:Nat→Prop) (t:aj) (ts:List aj) (T:List Nd) (w:World) (hp:PS w b O (t::ts) T) (hq:av [40] t=true):Calls Tryz.prog 183 #[.pointer (some ⟨b,0,none⟩)] w (j3 b O 9 [ar] w):=by
 have HW:=aa (bQ b O t ts T w hp);have g0:=aQ [46] hq (by decide)
 have g1:=aQ [91] hq (by decide)
 have g2:=aQ [58] hq (by decide)
 have g3:((ag t).toList == [40])=true:=ai (s:=[40]) (by decide) t hq
 have P:=aa hp;generalize ag t=Y at *;clear hp hq;go_enter Tryz.func183,Tryz.ntmps183
 go_wp2_with fail
 refine HW.out.mono ?_;rintro e w0 ⟨rfl,b0⟩;have F0:=aa (ay.ae (O:=O) b0);have P0:=aa (P.out.below b0);have B0:=aa b0;clear b0;have HO:=aa (fun k hk=>(P0.out.own k hk).2)
 have HN:=aa (aN.new (w:=w0) (b:=b) (O:=O) HO.out [aZ 211 b] [ar] (by simp) ⟨hG.part (enters_of Tryz.func211 (by kernel_rfl) rfl) w0 b O,trivial⟩)
 go_wp2_with fail
 go_ret2
 exact⟨_,_,rfl,aB B0.out (aX w0 _),HN.out⟩
theorem Hp {ar:cg} (hG:ey 211 ar) (b:Nat) (O:Nat→Prop) (t:aj) (ts:List aj) (T:List Nd) (w:World) (hp:PS w b O (t::ts) T) (hq:av [123] t=true):Calls Tryz.prog 183 #[.pointer (some ⟨b,0,none⟩)] w (j3 b O 9 [ar] w):=by
 have HW:=aa (bQ b O t ts T w hp);have g0:=aQ [46] hq (by decide)
 have g1:=aQ [91] hq (by decide)
 have g2:=aQ [58] hq (by decide)
 have g3:=aQ [40] hq (by decide)
 have g4:((ag t).toList == [123])=true:=ai (s:=[123]) (by decide) t hq
 have P:=aa hp;generalize ag t=Y at *;clear hp hq;go_enter Tryz.func183,Tryz.ntmps183
 go_wp2_with fail
 refine HW.out.mono ?_;rintro e w0 ⟨rfl,b0⟩;have F0:=aa (ay.ae (O:=O) b0);have P0:=aa (P.out.below b0);have B0:=aa b0;clear b0;have HO:=aa (fun k hk=>(P0.out.own k hk).2)
 have HN:=aa (aN.new (w:=w0) (b:=b) (O:=O) HO.out [aZ 211 b] [ar] (by simp) ⟨hG.part (enters_of Tryz.func211 (by kernel_rfl) rfl) w0 b O,trivial⟩)
 go_wp2_with fail
 go_ret2
 exact⟨_,_,rfl,aB B0.out (aX w0 _),HN.out⟩
structure Mq (t:aj):Prop where
 a:av [46] t=false
 b:av [91] t=false
 c:av [58] t=false
 d:av [40] t=false
 e:av [123] t=false
theorem RN {ar:cg} (hG:ey 211 ar) (b:Nat) (O:Nat→Prop) (t:aj) (ts:List aj) (T:List Nd) (w:World) (hp:PS w b O (t::ts) T) (hq:Mq t) (h4:t.1=4):Calls Tryz.prog 183 #[.pointer (some ⟨b,0,none⟩)] w (j3 b O 9 [ar] w):=by
 have HW:=aa (bQ b O t ts T w hp);have g0:((ag t).toList == [46])=false:=ai (s:=[46]) (by decide) t hq.a
 have g1:((ag t).toList == [91])=false:=ai (s:=[91]) (by decide) t hq.b
 have g2:((ag t).toList == [58])=false:=ai (s:=[58]) (by decide) t hq.c
 have g3:((ag t).toList == [40])=false:=ai (s:=[40]) (by decide) t hq.d
 have g4:((ag t).toList == [123])=false:=ai (s:=[123]) (by decide) t hq.e
 have P:=aa hp;have HA:=aa (fun W hW=>cH b O t ts T W hW)
 generalize ag t=Y at *;obtain⟨t0,t1,t2,t3⟩:=t;unfold fQ at HA;dsimp only at *
 subst h4;have F9:=z8 4 t1 t2 (bC t3);generalize bC t3=S at *;clear hp hq;go_enter Tryz.func183,Tryz.ntmps183
 go_wp2_with fail
 refine HW.out.mono ?_;rintro e w0 ⟨rfl,b0⟩;have F0:=aa (ay.ae (O:=O) b0);have P0:=aa (P.out.below b0);have B0:=aa b0;clear b0;have HA1:=aa (HA.out _ P0.out);go_wp2_with fail
 refine HA1.out.mono ?_;rintro e w1 ⟨rfl,b1⟩;have F1:=aa (F0.out.trans (ay.ae (O:=O) b1) (Ext.refl _ _));have P1:=aa (P0.out.below b1);have B1:=aa (aB B0.out b1);clear b1;have HO:=aa (fun k hk=>(P1.out.own k hk).2)
 have HN:=aa (aN.new (w:=w1) (b:=b) (O:=O) HO.out [aZ 211 b] [ar] (by simp) ⟨hG.part (enters_of Tryz.func211 (by kernel_rfl) rfl) w1 b O,trivial⟩)
 go_wp2_with fail
 go_ret2
 exact⟨_,_,rfl,aB B1.out (aX w1 _),HN.out⟩
theorem Mr (b:Nat) (O:Nat→Prop) (t:aj) (ts:List aj) (T:List Nd) (w:World) (hp:PS w b O (t::ts) T) (hq:Mq t) (h4:t.1≠4):Calls Tryz.prog 183 #[.pointer (some ⟨b,0,none⟩)] w (j3 b O 0 [] w):=by
 have HW:=aa (bQ b O t ts T w hp);have g0:((ag t).toList == [46])=false:=ai (s:=[46]) (by decide) t hq.a
 have g1:((ag t).toList == [91])=false:=ai (s:=[91]) (by decide) t hq.b
 have g2:((ag t).toList == [58])=false:=ai (s:=[58]) (by decide) t hq.c
 have g3:((ag t).toList == [40])=false:=ai (s:=[40]) (by decide) t hq.d
 have g4:((ag t).toList == [123])=false:=ai (s:=[123]) (by decide) t hq.e
 have P:=aa hp;have HA:=aa (fun W hW=>cH b O t ts T W hW)
 have h4:=h4;generalize ag t=Y at *;obtain⟨t0,t1,t2,t3⟩:=t;unfold fQ at HA;dsimp only at *
 have F9:=z8 t0 t1 t2 (bC t3);have q4:(t0 == 4)=false:=aG.2 h4;generalize bC t3=S at *;clear hp hq h4;go_enter Tryz.func183,Tryz.ntmps183
 go_wp2_with fail
 refine HW.out.mono ?_;rintro e w0 ⟨rfl,b0⟩;have F0:=aa (ay.ae (O:=O) b0);have P0:=aa (P.out.below b0);have B0:=aa b0;clear b0;have HA1:=aa (HA.out _ P0.out);go_wp2_with fail
 refine HA1.out.mono ?_;rintro e w1 ⟨rfl,b1⟩;have F1:=aa (F0.out.trans (ay.ae (O:=O) b1) (Ext.refl _ _));have P1:=aa (P0.out.below b1);have B1:=aa (aB B0.out b1);clear b1;go_wp2_with fail
 go_ret2
 exact⟨_,_,rfl,B1.out,aN.nil _ _ _⟩
theorem Al {b:Nat} {O:Nat→Prop} {t:aj} {ts:List aj} {T0 T:List Nd} {K:Ast→List aj→Prop} {E:Int→Prop} (w2:World) (g p:Nat) (a:Ast) (hp:PS w2 b O (t::ts) T) (hg:w2.heap[g]? = some (.cells #[.int .i64 (p:Int)] 3 (0,0))) (hgO:¬ O g) (hgb:b+1≤g) (Uo:ei T0 T [a] [(p:Int)])
  (x:Nd) (hx:x=⟨x.kind,0,x.op,x.num,x.s,[],[]⟩) (pv:Value) (cP:List cg) (Ex:aN w2 b (fun k=>O k∨k=g) pv cP)
  (hk:aI cP ⟨{ x with line:=t.2.1},[a],t::ts,T0.length+a.size⟩ (bW K) E) :
  Calls Tryz.prog 19 #[.pointer (some ⟨b,0,none⟩),cY x (.slice none 0 0) (.slice (some ⟨g,0,none⟩) 1 1),pv] w2 (aH b (fun k=>O k∨k=g) T0 (RK K E) w2):=by
 have h1:x.line=0:=by rw[hx]
 have h2:x.names=[]:=by rw[hx]
 have qN:g<w2.heap.size:=(aJ.1 hg).1;have hz:T.length=T0.length+a.size:=by rw[Uo.len,Ast.ak,Ast.ak];omega
 rw[←hz] at hk;have hrow:w2.ownsRow (b+1) 3 1 (.slice (some ⟨g,0,none⟩) 1 1) 1 [.int .i64 (p:Int)]:=⟨rfl,.inr ⟨g,1,#[.int .i64 (p:Int)],rfl,hgb,hg,ah _,by unfold maxLen;omega,rfl,rfl⟩⟩
 have cN:jB w2 b (· = g) { x with kids:=[(p:Int)]} (.slice none 0 0) (.slice (some ⟨g,0,none⟩) 1 1):=by
  refine⟨?_,hrow,fun g hg=>by simp[Value.ownBlock] at hg,fun g hg=>by simp[Value.ownBlock] at hg,fun k hk=>by simpa[Value.ownBlock] using hk.symm⟩
  rw[show({ x with kids:=[(p:Int)]}:Nd).names=[] from h2]
  exact World.ownsRow_nil _ _ _ _
 exact xV b O (· = g) t ts T0 T x t.2.1 [a] [(p:Int)] (.slice none 0 0) (.slice (some ⟨g,0,none⟩) 1 1) pv cP (RK K E) w2 hp cN (fun k hk e=>hgO (e▸hk)) (fun k hk=>⟨by omega,by omega⟩) Uo Ex (.inl ⟨h1,rfl⟩) hk
def jg (t:aj):Int:=if av [46] t=true then 8 else if av [91] t=true then 8 else if av [58] t=true then 10 else if av [40] t=true then 9 else if av [123] t=true then 9 else if t.1=4 then 9 else 0
def EG (ex ar:cg) (t:aj):List cg:=if av [46] t=true then [aC,sF] else if av [91] t=true then [aC,ex,au [[93]]] else if av [58] t=true then [aC,cS,ar] else if av [40] t=true then [ar] else if av [123] t=true then [ar] else if t.1=4 then [ar] else []
theorem Ms {ex ar:cg} (hE:ey 91 ex) (hG:ey 211 ar) (b:Nat) (O:Nat→Prop) (t:aj) (ts:List aj) (T:List Nd) (w:World) (hp:PS w b O (t::ts) T):Calls Tryz.prog 183 #[.pointer (some ⟨b,0,none⟩)] w (j3 b O (jg t) (EG ex ar t) w):=by
 unfold jg EG;by_cases h1:av [46] t=true
 ·rw[al h1,al h1];exact RM b O t ts T w hp h1
 rw[af h1,af h1];by_cases h2:av [91] t=true
 ·rw[al h2,al h2];exact WO hE b O t ts T w hp h2
 rw[af h2,af h2];by_cases h3:av [58] t=true
 ·rw[al h3,al h3];exact Hn hG b O t ts T w hp h3
 rw[af h3,af h3];by_cases h4:av [40] t=true
 ·rw[al h4,al h4];exact Ho hG b O t ts T w hp h4
 rw[af h4,af h4];by_cases h5:av [123] t=true
 ·rw[al h5,al h5];exact Hp hG b O t ts T w hp h5
 rw[af h5,af h5];have hn:Mq t:=⟨by simpa using h1,by simpa using h2,by simpa using h3,by simpa using h4,by simpa using h5⟩
 by_cases h6:t.1=4
 ·rw[al h6,al h6];exact RN hG b O t ts T w hp hn h6
 ·rw[af h6,af h6];exact Mr b O t ts T w hp hn h6
def uf (ex ar:cg):Nat→Ast→List aj→Nat→(Ast→List aj→Prop)→(Int→Prop)→Prop
 | 0,_,_,_,_,_=>False
 | k+1,a,ts,n,K,E=>∃t r,ts=t::r∧(jg t=0→K a ts)∧(jg t≠0→aI (EG ex ar t) ⟨dx (jg t) t.2.1,[a],ts,n+a.size⟩ (bW fun a' ax=>uf ex ar k a' ax n K E) E)
def aan (ex ar:cg):iM:=fun ts n K E=>∃t r,ts=t::r∧LS ex t r n (fun a fC=>∃m,uf ex ar m a fC n K E) E
theorem CX {ex ar:cg} (hE:ey 91 ex) (hG:ey 211 ar):oY 153 (aan ex ar):=by
 rintro b O ts T0 K E w hp ⟨t,r,rfl,hk⟩;have HA:=aa (Rr hE b O t r T0 _ E w hp hk);have HSF:=aa (fun(O:Nat→Prop) (t:aj) (ts:List aj) (T:List Nd) (W:World) hW=>Ms hE hG b O t ts T W hW)
 clear hp hk hE hG;go_enter Tryz.func153,Tryz.ntmps153
 go_wp2_with fail
 refine HA.out.mono ?_;intro e w1 h1;have F1:=aa h1.1;rcases h1.2 with ⟨p,a,fC,O1,T1,rfl,p1,x1,l1,k1⟩ | ⟨le,v,er,rfl,⟨g',rfl,m2,m3⟩,k1⟩
 ·obtain⟨m,k1⟩:=k1
  have P1:=aa p1;have X1:=aa x1;have L1:=aa l1;have K1:=aa k1;clear h1 p1 x1 l1 k1;go_wp2_with fail
  go_loopg [4,5] (m+1) (fun z lv ev wr=>(∃(p:Nat) (a:Ast) (tr:List aj) (Or:Nat→Prop) (Tr:List Nd) (k:Nat),lv=.int .i64 (p:Int)∧ev=.nilIface∧z=k+1∧PS wr b Or tr Tr∧ay O w wr∧Ext O Or w∧ei T0 Tr [a] [(p:Int)]∧uf ex ar k a tr T0.length K E) ∨
   (∃(le:Int) (g':Nat),ev=.iface 75 (.pointer (some ⟨g',0,none⟩))∧w.heap.size≤g'∧wr.heap[g']? = some (.cells #[.int .i64 6,.int .i64 le] 81 (0,0))∧ay O w wr∧E le))
  case atStart=>exact .inl ⟨p,a,fC,O1,T1,m,rfl,rfl,rfl,P1.out,F1.out,X1.out,L1.out,K1.out⟩
  case round =>
   rcases hrel with ⟨p,a,tr,Or,Tr,k,rfl,rfl,rfl,pr,fr,xr,lr,kr⟩ | ⟨le,g',rfl,hg,m3,fr,ke⟩
   ·cases k with
    | zero=>exact kr.elim
    | succ k =>
     obtain⟨t,r,rfl,hle,Px⟩:=kr;have PR:=aa pr;have FR:=aa fr;have XR:=aa xr;have LR:=aa lr;have HSX:=aa (HSF.out Or t r Tr wr pr);have HLE:=aa hle;have HGT:=aa Px;clear pr fr xr lr hle Px F1 P1 X1 L1 K1 HA;generalize pO:jg t=kd at *;clear pO;go_wp2_with fail
     refine HSX.out.mono ?_;rintro e w2 ⟨Av,mv,rfl,b2,hpv⟩;have B2:=aa b2;have HPV:=aa hpv;clear b2 hpv;by_cases hc:kd=0
     ·subst hc
      go_wp2_with fail
      go_ret2
      exact⟨FR.out.trans (ay.ae (O:=Or) B2.out) XR.out,.inl ⟨p,a,t::r,Or,Tr,rfl,PR.out.below B2.out,XR.out,LR.out,HLE.out (by trivial)⟩⟩
     ·have g1:(kd == 0)=false:=aG.2 hc
      have HC:=aa hc;clear hc;have p2:=PR.out.below B2.out;have P2:=aa p2;have hown2 :∀k,Or k→k<w2.heap.size:=fun k hk=>(p2.own k hk).2
      have hb2:b<w2.heap.size:=(p2.own b p2.at_).2;have HN:=aa (Al (w2.alloc (.cells #[.int .i64 (p:Int)] 3)) w2.heap.size p a (p2.below (aX w2 _)) (World.alloc_heap_new w2 _) (fun h=>by have:=hown2 _ h;omega) (by omega) LR.out ⟨kd,0,0,0,⟨#[]⟩,[],[]⟩ rfl (.slice Av mv mv) _ (HPV.out.later ((ay.refl _ _).alloc _) (fun k hk=>hk.imp id fun h=>by omega)) (HGT.out HC.out))
      have F4:=aa ((FR.out.trans (ay.ae (O:=Or) B2.out) XR.out).trans (ay.ae (O:=Or) (aX w2 (.cells #[.int .i64 (p:Int)] 3))) XR.out);have X4:Hid (Ext O (fun k=>Or k∨k=w2.heap.size) w):=aa fun k hk=>by
       rcases hk with hk|rfl
       ·exact XR.out k hk
       ·exact .inr (aL FR.out.size B2.out.size)
      clear p2 hown2;go_wp2_with fail
      refine HN.out.mono ?_;intro e w5 h5;have F5:=aa (F4.out.trans h5.1 X4.out);rcases h5.2 with ⟨p5,a5,WN,O5,T5,rfl,q5,x5,l5,k5⟩ | ⟨le,v,er,rfl,⟨g',rfl,m2,m3⟩,k5⟩
      ·have Q5:=aa q5
       have X5:=aa (X4.out.trans x5 F4.out.size);have L5:=aa l5;have K5:=aa k5;clear h5 q5 x5 l5 k5;go_wp2_with fail
       go_roundg (k+1)
       case measure=>omega
       case rel=>exact .inl ⟨p5,a5,WN,O5,T5,k,rfl,rfl,rfl,Q5.out,F5.out,X5.out,L5.out,K5.out⟩
      ·have M3:=aa m3
       have M2:=aa (aL F4.out.size m2);have K5:=aa k5;clear h5 m2 m3 k5;go_wp2_with fail
       go_roundg (k+1)
       case measure=>omega
       case rel=>exact .inr ⟨le,g',rfl,M2.out,M3.out,F5.out,K5.out⟩
   ·have M3:=aa m3
    have HG:=aa hg;have FR:=aa fr;have KE:=aa ke;clear m3 hg fr ke;go_wp2_with fail
    go_ret2
    exact⟨FR.out,.inr ⟨le,_,_,rfl,⟨g',rfl,HG.out,M3.out⟩,KE.out⟩⟩
 ·have M3:=aa m3
  have M2:=aa m2;have K1:=aa k1;clear h1 m2 m3 k1;go_wp2_with fail
  go_loopg [4,5] 1 (fun _ lv ev wr=>lv=v∧ev=.iface 75 (.pointer (some ⟨g',0,none⟩))∧wr=w1)
  case atStart=>exact⟨rfl,rfl,rfl⟩
  case round =>
   obtain⟨rfl,rfl,rfl⟩:=hrel;go_wp2_with fail
   go_ret2
   exact⟨F1.out,.inr ⟨le,_,_,rfl,⟨g',rfl,M2.out,M3.out⟩,K1.out⟩⟩
end Go.Proofs.YteflkdlaoiijbaaGreatDoor
namespace Go.Proofs.YteflkdlaoiijbaaGreatDoor
theorem Mt {t:aj} {o:Int×Nat×Nat} (h:ml t=some o) {s:Nat} (hs:¬ s≤o.2.1) (x:Ast) (ts:List aj):PL (bN (.lvm s x)) (t::ts) (.ok (x,t::ts)):=by
 refine .look ?_;rw[h];show PL (if s≤o.2.1 then _ else _) _ _
 rw[af hs];exact .ret
variable {t1 t2:aj} {o1 o2:Int×Nat×Nat}
end Go.Proofs.YteflkdlaoiijbaaGreatDoor
namespace Go.Proofs.YteflkdlaoiijbaaGreatDoor
open Go.RowKit
abbrev Hq:GL Ast:=bN .una
abbrev RO:GL Ast:=bN .Vo
def yc (N:Nat):cg:=lK (rZ N RO) iR
section
variable {K:Ast→List aj→Prop} {E:Int→Prop} {K':St→Prop} {N k n:Nat} {h:Nd} {xs:List Ast} {t:aj} {ts:List aj}
theorem RP (K2:List Ast→List aj→Prop) (B:Nat) (C:List Ast→List aj→Prop) (hC :∀xs ax,Ast.ak xs+2*ax.length≤B→Wf ax→ax.length<N→(∃u us,ax=u::us∧(av [125] u=true→K2 xs us)∧(av [125] u=false→E u.2.1))→C xs ax) :
  ∀(m:Nat) (ts:List aj) (n:Nat) (acc:List Ast) (t:aj) (r:List aj),ts=t::r→av [125] t=false→ts.length<m→ts.length<N→n+2*ts.length≤60000→Ast.ak acc+2*ts.length≤B→Wf ts→Gw (bN (.TW acc):GL (List Ast)) ts K2 E→rY (rZ N RO) iR m ts n acc C E:=by
 intro m;induction m with
 | zero=>intro ts n acc t r _ _ h;omega
 | succ m ih =>
  rintro ts n acc t r rfl hb h1 h2 h3 hB hf H;have G:=(Gw.look H).neg (by simp[hb])
  refine⟨h2,h3,hf.yQ,(Gw.call G).mono fun(e:Ast) ax p hq=>?_⟩
  have hz:e.size+2*ax.length≤2*(t::r).length:=hq.1;have hf':=p.wf hf;have he:=size_pos e;obtain⟨u,us,rfl⟩:=hf'.fin.cons;have hg:=hq.2.look;have hsz:Ast.ak (acc++[e])+2*(u::us).length≤B:=by rw[eZ,tX];omega
  simp only[List.length_cons] at h1 h2 h3 hz hsz;rcases eK (av [44] u || av [59] u) with hc|hc
  ·have hnz:u.1≠0:=fun e0=>by simp[av,e0] at hc
   have hf2:=hf'.tail hnz;obtain⟨v,vs,rfl⟩:=hf2.fin.cons;have e1:iR (u::v::vs)=(!av [125] v,v::vs):=o0 hc;show(_→_)∧(_→_)
   rw[e1];have G2:=(Gw.call (hg.pos hc).tok).mono (K':=K2) fun l il _ hl=>hl.2.ret
   simp only[List.length_cons] at hz hsz;refine⟨fun hv=>ih (v::vs) (n+e.size) (acc++[e]) v vs rfl (by simpa using hv) (by simp only[List.length_cons];omega) (by simp only[List.length_cons];omega) (by simp only[List.length_cons];omega) (by simp only[List.length_cons];omega) hf2 G2,fun hv=>?_⟩
   have hv':av [125] v=true:=by simpa using hv
   exact hC _ _ (by simp only[List.length_cons];omega) hf2 (by simp only[List.length_cons];omega) ⟨v,vs,rfl,fun _=>((Gw.look G2).pos hv').tok.ret,fun hx=>by rw[hv'] at hx;exact(fV hx.symm).elim⟩
  ·have e1:iR (u::us)=(false,u::us):=wu hc
   show(_→_)∧(_→_)
   rw[e1];have G2:=hg.neg (by simp[hc])
   exact⟨fun hb=>(fV hb).elim,fun _=>hC _ _ (by simp only[List.length_cons];omega) hf' (by simp only[List.length_cons];omega) ⟨u,us,rfl,fun hw=>(G2.want.1 hw).ret,G2.want.2⟩⟩
theorem Mu {at_:Int} (hI:Rm N k ⟨dx 15 at_,[],ts,n⟩) (H:Gw (.call (.TW []) fun(l:List Ast)=>.ret (nd 15 at_ l):GL Ast) ts K E):aI [dC [125] (yc N),au [[125]]] ⟨dx 15 at_,[],ts,n⟩ (bW K) E:=by
 obtain⟨t,r,jc⟩:=hI.cons;dsimp only at jc
 subst jc;have hn:=hI.n;have hx:=hI.xs;have hl:=hI.len;dsimp only at hn hx hl
 have G:=(Gw.call H).mono (K':=fun(l:List Ast) ax=>K (nd 15 at_ l) ax) fun l ax _ hq=>hq.2.ret
 refine⟨t,r,rfl,fun hw=>?_,fun hw=>?_⟩
 ·have G2:=((Gw.look G).pos hw).tok.ret
  refine⟨t,r,rfl,fun _=>cy (hI.tok (h':=dx 15 at_) (aW hw)) G2,fun hw2=>?_⟩
  rw[hw] at hw2;exact(fV hw2.symm).elim
 ·refine⟨by simp,(t::r).length+1,by omega,?_⟩
  refine RP _ (2*(t::r).length) _ (fun xs ax h1 h2 h3 h4=>?_) ((t::r).length+1) (t::r) n [] t r rfl hw (dz _) hl (by omega) (by rw[cE];omega) hI.wf G
  obtain⟨u,us,rfl,h5,h6⟩:=h4;refine⟨u,us,rfl,fun hu=>?_,h6⟩
  exact⟨by show n+Ast.ak xs≤_;omega,h5 hu⟩
end
def Uu (ts:List aj) (v:Ast) (ax:List aj):Prop:=v.hd.kind=7→∃t,ts=t::ax∧t.1=1
def EH:(n:NT)→List aj→VT n→List aj→Prop
 | .aR x,ts,v,ax=>(Ast.hd v).kind=7→v=x∧ax=ts
 | .lvm _ x,ts,v,ax=>(Ast.hd v).kind=7→v=x∧ax=ts
 | .FW,ts,v,ax=>Uu ts v ax
 | .TX,ts,v,ax=>Uu ts v ax
 | .una,ts,v,ax=>Uu ts v ax
 | .exp _,ts,v,ax=>Uu ts v ax
 | .Jn _ _,_,v,_=>(Ast.hd v).kind=11
 | _,_,_,_=>True
section
variable {α:Type} {Q:α→List aj→Prop}
abbrev Np (g:GL α) (ts:List aj) (Q:α→List aj→Prop):Prop:=Wp EH g ts Q
theorem ni {f:aj→GL α} {ts:List aj} (h :∀t ax,ts=t::ax→Np (f t) (t::ax) Q):Np (.look f) ts Q:=fun t ax e=>by
 subst e;exact h t ax rfl
theorem gP {f:aj→GL α} {t:aj} {ts:List aj} (h:Np (f t) ts Q):Np (.tok f) (t::ts) Q:=fun u us e=>by
 injection e with e1 e2;subst e1 e2;exact h
theorem ep {n:NT} {k:VT n→GL α} {ts:List aj} (h :∀v ax,EH n ts v ax→Np (k v) ax Q):Np (.call n k) ts Q:=h
theorem gQ {c:Prop} [Decidable c] {g g':GL α} {ts:List aj} (h1:c→Np g ts Q) (h2:¬ c→Np g' ts Q):Np (if c then g else g') ts Q:=by
 by_cases h:c
 ·rw[al h];exact h1 h
 ·rw[af h];exact h2 h
theorem re {s:List UInt8} {k:aj→GL α} {ts:List aj} (h :∀t ax,Np (k t) ax Q):Np (want s k) ts Q:=ni fun t ax _=>gQ (fun _=>gP (h t ax)) fun _=>trivial
theorem Mv {k:aj→GL α} {ts:List aj} (h :∀t ax,Np (k t) ax Q):Np (name k) ts Q:=ni fun t ax _=>gQ (fun _=>gP (h t ax)) fun _=>trivial
end
theorem Mw {k:Int} {P:Prop} {l:Int} {o nn:Int} {s:ByteArray} {ns:List ByteArray} {ks:List Int} {as_:List Ast} (hk:k≠7):(Ast.hd (.mk ⟨k,l,o,nn,s,ns,ks⟩ as_)).kind=7→P:=fun h=>absurd h hk
theorem aao (n:NT) (ts:List aj):Np (bN n) ts (EH n ts):=by
 cases n with
 | aR x =>
  refine ni fun t ax e=>?_
  subst e;have key :∀(y:Ast) (il:List aj),(∀P:Prop,y.hd.kind=7→P)→Np (.call (.aR y) fun(v:Ast)=>.ret v:GL Ast) il (EH (.aR x) (t::ax)):=fun y il hy=>ep fun(v:Ast) BN (h:v.hd.kind=7→v=y∧BN=il)=>fun(hv:v.hd.kind=7)=>by
   have:=(h hv).1;subst this;exact hy _ hv
  refine gQ (fun _=>gP (Mv fun u us=>key _ _ fun P=>Mw (by decide))) fun _=>gQ (fun _=>gP (ep fun(e:Ast) us _=>re fun _ Py=>key _ _ fun P=>Mw (by decide))) fun _ =>
   gQ (fun _=>gP (Mv fun u us=>ep fun(l:List Ast) Py _=>key _ _ fun P=>Mw (by decide))) fun _=>gQ (fun _=>ep fun(l:List Ast) Py _=>key _ _ fun P=>Mw (by decide)) fun _=>?_
  exact fun _=>⟨rfl,rfl⟩
 | lvm s x =>
  refine ni fun t ax e=>?_
  subst e;cases ho:ml t with
  | none=>exact fun _=>⟨rfl,rfl⟩
  | some o =>
   refine gQ (fun _=>gP (ep fun(y:Ast) us _=>ep fun(v:Ast) Py (h:v.hd.kind=7→v=YL 12 t.2.1 o.1 [x,y]∧Py=us)=>fun(hv:v.hd.kind=7)=>?_)) fun _=>fun _=>⟨rfl,rfl⟩
   have:=(h hv).1;subst this;exact absurd hv (by show(12:Int)≠7;decide)
 | FW =>
  refine ni fun t ax e=>?_
  subst e;refine gQ (fun ht=>gP (ep fun(v:Ast) us (h:v.hd.kind=7→v=ma 7 t.2.1 (bC t.2.2.2) []∧us=ax)=>fun(hv:v.hd.kind=7)=>⟨t,by rw[(h hv).2],ht⟩)) fun _ =>
   gQ (fun _=>gP (ep fun(e:Ast) us _=>re fun _ Py=>ep fun(v:Ast) us3 (h:v.hd.kind=7→v=nd 14 t.2.1 [e]∧us3=Py)=>fun(hv:v.hd.kind=7)=>?_)) fun _=>trivial
  have:=(h hv).1;subst this;exact absurd hv (by show(14:Int)≠7;decide)
 | exp s =>
  refine ep fun(x:Ast) us (h1:Uu ts x us)=>ep fun(y:Ast) Py (h2:y.hd.kind=7→y=x∧Py=us)=>fun(hv:y.hd.kind=7)=>?_
  obtain⟨rfl,rfl⟩:=h2 hv;exact h1 hv
 | una =>
  refine ni fun t ax e=>?_
  subst e;cases ho:lA t with
  | none=>exact ep fun(v:Ast) us (h:Uu (t::ax) v us)=>h
  | some o=>exact gP (ep fun(v:Ast) us _=>fun hv=>absurd hv (by show(13:Int)≠7;decide))
 | TX =>
  refine ni fun t ax e=>?_
  subst e;refine gQ (fun _=>gP ?_) fun _=>gQ (fun _=>gP ?_) fun _=>gQ (fun _=>gP ?_) fun _=>gQ (fun _=>gP ?_) fun _=>gQ (fun _=>gP (ep fun(f:Ast) us (h:f.hd.kind=11)=>?_)) fun _=>gQ (fun _=>gP (ep fun(l:List Ast) us _=>?_)) fun _=>gQ (fun _=>gP ?_) fun _=>gQ (fun _=>gP ?_) fun _=>ep fun(v:Ast) us (h:Uu (t::ax) v us)=>h
  ·exact Mw (by decide)
  ·exact Mw (by decide)
  ·exact Mw (by decide)
  ·exact Mw (by decide)
  ·exact fun(hv:f.hd.kind=7)=>absurd (h.symm.trans hv) (by decide)
  ·exact Mw (by decide)
  ·exact Mw (by decide)
  ·exact Mw (by decide)
 | Jn at_ self =>
  refine re fun _ us=>ni fun t ax e=>?_
  subst e;exact gQ (fun _=>gP (ep fun(b:Ast) Py _=>re fun _ _=>rfl)) fun _=>ep fun(p:List ByteArray×Int) Py _=>re fun _ _=>ep fun(b:Ast) _ _=>re fun _ _=>rfl
 | _=>exact Wp.always _ _ _ fun _ _=>trivial
end Go.Proofs.YteflkdlaoiijbaaGreatDoor
namespace Go.Proofs.YteflkdlaoiijbaaGreatDoor
open Go.RowKit
section
variable {K:Ast→List aj→Prop} {E:Int→Prop} {K':St→Prop} {N k n:Nat} {h:Nd} {xs:List Ast} {t:aj} {ts:List aj}
theorem kT {t:aj} (hI:Rm N k ⟨h,xs,t::ts,n⟩) (ht:t.1≠0) (hk:Rm N (k+2) ⟨h,xs,ts,n⟩→K' ⟨h,xs,ts,n⟩):aC ⟨h,xs,t::ts,n⟩ K' E:=⟨t,ts,rfl,ht,hk (hI.tok ht)⟩
theorem Rm.hd {h':Nd} (hI:Rm N k ⟨h,xs,ts,n⟩):Rm N k ⟨h',xs,ts,n⟩:=⟨hI.len,hI.n,hI.xs,hI.wf⟩
theorem RQ {t:aj} (h:t.1=1) (s:List UInt8):av s t=false:=by simp[av,h]
theorem ug {t:aj} (h:t.1≠2) (h5:t.1≠5):lA t=none:=by simp[lA,av,h,h5]
theorem My {t u:aj} {us:List aj} (ht:t.1=1) (hu:av [61] u=true):PL (qX 1) (t::u::us) (.ok (ma 7 t.2.1 (bC t.2.2.2) [],u::us)):=by
 have hq :∀s:List UInt8,s≠[61]→¬ av s u=true:=fun s hs=>aU hu hs
 have hk:u.1=2∨u.1=5:=by rcases aO hu with ⟨l,m,rfl⟩ | ⟨l,m,rfl⟩<;>simp
 have aca:PL (bN (.aR (ma 7 t.2.1 (bC t.2.2.2) []))) (u::us) (.ok (ma 7 t.2.1 (bC t.2.2.2) [],u::us)):=by
  refine .look ?_;have e1:¬ ((av [40] u || av [123] u || decide (u.1=4))=true):=by
   have h1:=hq [40] (by decide)
   have h2:=hq [123] (by decide)
   have h4:¬ u.1=4:=by omega
   simp[h1,h2,h4]
  rw[af (hq [46] (by decide)),af (hq [91] (by decide)),af (hq [58] (by decide)),af e1]
  exact .ret
 have acb:ml u=none:=by
  have :∀s:List UInt8,s≠[61]→av s u=false:=fun s hs=>bn hu hs
  unfold ml;rw[this _ (by decide),this _ (by decide),this _ (by decide),this _ (by decide),this _ (by decide),this _ (by decide),this _ (by decide),this _ (by decide),this _ (by decide),this _ (by decide),this _ (by decide),this _ (by decide),this _ (by decide),this _ (by decide),this _ (by decide),this _ (by decide),this _ (by decide),this _ (by decide),this _ (by decide)]
  rfl
 have acd:PL (bN (.lvm 1 (ma 7 t.2.1 (bC t.2.2.2) []))) (u::us) (.ok (ma 7 t.2.1 (bC t.2.2.2) [],u::us)):=by
  refine .look ?_;rw[acb];exact .ret
 refine .call (n:=NT.una) (.look ?_) (.call acd .ret);rw[ug (by omega) (by omega)]
 refine .call (n:=NT.TX) (.look ?_) .ret;have hn :∀s:List UInt8,¬ av s t=true:=fun s=>by rw[RQ ht];decide
 rw[af (hn _),af (hn _),af (hn _),af (hn _),af (hn _),af (hn _),af (by omega),af (by omega)]
 refine .call (n:=NT.FW) (.look ?_) .ret;rw[al ht];exact .tok (.call aca .ret)
theorem RS (hI:Rm N k ⟨h,[],t::ts,n⟩) (H:Gw RO (t::ts) K E):Un (n0 N) t ts n K E:=by
 have G:=Gw.look H;have hn:=hI.n;have hx:=hI.xs;have hlen:=hI.len;dsimp only at hn hx hlen
 refine⟨fun hw=>?_,fun hw=>⟨fun hf=>?_,fun hf=>?_⟩⟩
 ·exact kT (hI.hd (h':=dx 17 t.2.1)) (aW hw) fun hI=>fK hI (G.pos hw).tok fun e _ hI _ G=>LH hI G fun _ _ hI _ G=>fK hI G fun v _ hI _ G=>cy hI G.ret
 ·have G:=Gw.call (G.neg (by simp[hw]))
  cases ts with
  | nil=>simp[lL] at hf
  | cons u us =>
   have hf':t.1=1∧u.1=5∧u.2.2.2=[61]:=by simpa[lL,ua] using hf
   have hu:av [61] u=true:=by simp[av,hf'.2.1,hf'.2.2]
   have G2:=(G.1 _ _ (My (us:=us) hf'.1 hu)).2;have G3:=(Gw.look G2).pos ⟨hu,rfl⟩;show dw (dO (mo 5) [cS]) _ (fun s'=>aI [aC,n0 N] s' (bW K) E) E
   refine jF (by simp) ⟨t,u::us,t.2.1,rfl,.inl ⟨rfl,rfl⟩,⟨t,u::us,rfl,fun _=>⟨by dsimp only;omega,nh.mk ?_⟩,fun h=>absurd hf'.1 h⟩⟩
   have hz:Ast.ak [ma 5 t.2.1 (bC t.2.2.2) []]=1:=by rw[tX,kP,cE]
   have n7:Rm N k ⟨dx 17 t.2.1,[ma 5 t.2.1 (bC t.2.2.2) []],u::us,n+Ast.ak [ma 5 t.2.1 (bC t.2.2.2) []]⟩:=⟨by show(u::us).length<N;rw[List.length_cons] at hlen;omega,by show n+Ast.ak _+2*(u::us).length+k≤60000;rw[hz];rw[List.length_cons] at hn;omega,by show 1+2*(u::us).length+k≤60000;rw[List.length_cons,List.length_nil] at hx;omega,hI.wf.tail (by rw[hf'.1];decide)⟩
   exact kT n7 (aW hu) fun hI=>fK hI G3.tok fun v _ hI _ G=>cy hI G.ret
 ·have G:=Gw.call (G.neg (by simp[hw]))
  refine jF (by simp) ⟨hlen,by show n+2*(t::ts).length≤60000;omega,hI.wf.yQ,G.mono fun(e:Ast) ax p hq=>nh.mk ?_⟩
  have hz:e.size+2*ax.length+1≤2*(t::ts).length:=hq.1;have xZ:=p.wf hI.wf;obtain⟨u,us,rfl⟩:=xZ.fin.cons;have hno:¬ (av [61] u=true∧e.hd.kind=7):=fun⟨h1,h2⟩=>by
   have h3:Uu (t::ts) e (u::us):=p.holds aao;obtain⟨t',e1,e2⟩:=h3 h2;injection e1 with e3 e4;subst e3 e4;have h5:u.1=5∧u.2.2.2=[61]:=by
    have hl:=(xZ.yQ u (bV ..)).2;rcases aO h1 with ⟨l,m,rfl⟩ | ⟨l,m,rfl⟩
    ·exact absurd rfl (hl rfl)
    ·exact⟨rfl,rfl⟩
   simp[lL,ua,e2,h5.1,h5.2] at hf
  refine⟨by show n+Ast.ak [e]≤_;rw[tX];omega,?_⟩
  exact((Gw.look hq.2).neg hno).ret
def rtP (N:Nat) (op:Int):iM:=rZ N (qX (vt op+1).toNat)
theorem Mz {α:Type} {K:α→List aj→Prop} {s:Nat} {kk:Ast→GL α} (hI:Rm N k ⟨h,xs,ts,n⟩) (H:Gw (.call (.exp s) kk) ts K E)
  (hk :∀(e:Ast) (ax:List aj),Rm N (k+1) ⟨h,xs++[e],ax,n+Ast.ak [e]⟩→ax.length<ts.length→Gw (kk e) ax K E→K' ⟨h,xs++[e],ax,n+Ast.ak [e]⟩):dw (rZ N (qX s)) ⟨h,xs,ts,n⟩ K' E:=by
 refine jF (by have:=hI.xs;dsimp only at *;omega) ⟨hI.len,by have:=hI.n;dsimp only at *;omega,hI.wf.yQ,?_⟩
 refine(Gw.call H).mono fun(e:Ast) ax p hq=>?_
 have hz:e.size+2*ax.length+1≤2*ts.length:=hq.1;exact nh.mk (hk e ax (hI.kids (by rw[tX];omega) (PL.short p) (p.wf hI.wf)) (by omega) hq.2)
theorem WQ {s:Nat} {l:Int} (hs:l+1=(s:Int)) (hl0:0≤l) :∀(m:Nat) (ts:List aj) (a:Ast) (k:Nat),ts.length<m→Rm N k ⟨dx 0 0,[a],ts,n+a.size⟩→Gw (bN (.lvm s a):GL Ast) ts K E→Aj (rtP N) l m a ts n K E:=by
 intro m;induction m with
 | zero=>intro ts a k h;omega
 | succ m ih =>
  intro ts a k h1 hI H;obtain⟨t,r,rfl⟩:=hI.wf.fin.cons;have G:=Gw.look H;refine⟨t,r,rfl,fun hle=>?_,fun Px=>?_⟩
  ·cases ho:ml t with
   | none=>rw[ho] at G;exact G.ret
   | some o =>
    rw[ho] at G;have hb:=lN ho;rw[hb.1] at hle;exact(G.neg (by show ¬ s≤o.2.1;omega)).ret
  ·cases ho:ml t with
   | none =>
    rw[wy ho] at Px;exact absurd (show Jz 0≤l from hl0) Px
   | some o =>
    rw[ho] at G;have hb:=lN ho;rw[hb.1] at Px ⊢;have G2:=(G.pos (show s≤o.2.1 by omega)).tok
    have he:(vt o.1+1).toNat=o.2.2:=by rw[hb.2.2.1];rfl
    have n7:Rm N k ⟨⟨12,t.2.1,o.1,0,⟨#[]⟩,[],[]⟩,[a],t::r,n+a.size⟩:=⟨hI.len,hI.n,hI.xs,hI.wf⟩;refine kT n7 (Er ho) fun hI=>?_
    show dw (rZ N (qX (vt o.1+1).toNat)) _ _ _
    rw[he];refine Mz hI G2 fun y r2 hI hlt G=>⟨by have:=hI.n;dsimp only at *;omega,?_⟩
    have G3:=(Gw.call G).mono (K':=K) fun v il _ hv=>hv.2.ret
    refine ih r2 _ 0 (by simp at h1;omega) ⟨hI.len,?_,?_,hI.wf⟩ G3
    ·have h1:=hI.n
     rw[tX] at h1;show n+Ast.size (YL 12 t.2.1 o.1 [a,y])+2*r2.length+0≤60000
     rw[z7,fP,tX];dsimp only at h1
     omega
    ·have h1:=hI.xs
     show 1+2*r2.length+0≤60000
     dsimp only at h1
     omega
theorem Uv {x:Ast} {ts:List aj} {r:Except Int (Ast×List aj)} (h:PL (bN (.lvm 12 x):GL Ast) ts r):r=.ok (x,ts):=by
 cases ts with
 | nil=>cases h
 | cons t ts =>
  cases ho:ml t with
  | none=>exact P.one h (.look (by rw[ho];exact .ret))
  | some o =>
   have hb:=lN ho;have hno:¬ 12≤o.2.1:=by
    have:Jz o.1≤10:=by
     obtain⟨_,_,_,h7,h8⟩:=hb;have h9:o.1=1∨o.1=2∨o.1=3∨o.1=4∨o.1=5∨o.1=6∨o.1=7∨o.1=8∨o.1=9∨o.1=10∨o.1=11∨o.1=12∨o.1=13∨o.1=14∨o.1=15∨o.1=16∨o.1=17∨o.1=18∨o.1=19:=by omega
     rcases h9 with h|h|h|h|h|h|h|h|h|h|h|h|h|h|h|h|h|h|h<;>(rw[h];decide)
    omega
   exact P.one h (Mt ho hno x ts)
theorem Uw {ts:List aj} {r:Except Int (Ast×List aj)} (h:PL (qX 12) ts r):PL Hq ts r:=by
 cases h with
 | @call _ n k ts fC v r h1 h2 =>
  cases h2 with
  | @call _ n2 k2 ts il v2 r h3 h4 =>
   have h5:=Uv (x:=v) h3;injection h5 with h5;injection h5 with h6 h7;cases h4;have h8:PL Hq ts (.ok ((v:Ast),fC)):=h1;have e6:(v2:Ast)=v:=h6;show PL Hq ts (.ok ((v2:Ast),il))
   rw[e6,h7];exact h8
  | ie h3 =>
   have h5:=Uv (x:=v) h3;cases h5
 | ie h1=>exact h1
end
end Go.Proofs.YteflkdlaoiijbaaGreatDoor
