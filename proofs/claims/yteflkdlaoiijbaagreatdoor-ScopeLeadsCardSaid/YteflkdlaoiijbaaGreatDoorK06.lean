/- Parts of the proof. -/
import Derived.Test.YteflkdlaoiijbaaGreatDoorK05
set_option maxHeartbeats 16000000
set_option maxRecDepth 20000
namespace Go.Proofs.YteflkdlaoiijbaaGreatDoor
open Go.RowKit
def ja:List aj→Bool×List aj
 | []=>(false,[])
 | t::r=>if (aw [44] t || aw [59] t)=true then (match r with
  | []=>true
  | u::_=>!aw [125] u,r) else (false,t::r)
theorem px {t u:aj} {us:List aj} (h:(aw [44] t || aw [59] t)=true):ja (t::u::us)=(!aw [125] u,u::us):=by simp only[ja,h,sy]
theorem xg {t:aj} {us:List aj} (h:(aw [44] t || aw [59] t)=false):ja (t::us)=(false,t::us):=by simp[ja,h]
theorem Md (b g:Nat) (O:Nat→Prop) (t:aj) (ts:List aj) (T:List Nd) (w:World) (h:PS w b O (t::ts) T) (b0:eK w O g #[.pointer (some ⟨b,0,none⟩)] 116) (r:Bool) (tr:List aj) (hr:ja (t::ts)=(r,tr)):Calls Tryz.prog 239 #[.pointer (some ⟨g,0,none⟩)] w (kX b O tr T r w):=by
 have c0:=b0.cell 0;have HB:=aa b0;have vZ :∀k,k=b→O k:=fun k hk=>hk▸h.at_
 have HO:=aa vZ;clear b0 vZ;by_cases h1:aw [44] t=true
 ·have h1':(aw [44] t || aw [59] t)=true:=by rw[h1];rfl
  have iW:=(h.fin.tail (tB h1)).cons;obtain⟨u,us,rfl⟩:=iW;have Uu:(!aw [125] u)=r∧u::us=tr:=by
   rw[px h1'] at hr;injection hr with e1 e2;exact⟨e1,e2⟩
  obtain⟨hr1,rfl⟩:=Uu;have HC:=aa (j6 b O t (u::us) T w h h1);clear h h1 h1' hr;have g1:((ag u).toList == [125])=(!r):=ai (s:=[125]) (by decide) u (by rw[←hr1];simp)
  clear hr1;go_enter Tryz.func239,Tryz.ntmps239
  go_wp2_with fail
  refine HC.out.mono ?_;rintro e w1 ⟨rfl,p1,f1⟩;have c1:=(HB.out.later (f1.mono HO.out) (Ext.refl _ _)).cell 0;have HW:=aa (bS b O u us T w1 p1);generalize ag u=Y at *;have P1:=aa p1;have F1:=aa f1;clear p1 f1 c0;cases r <;>
  ·go_wp2_with fail
   refine HW.out.mono ?_;rintro e w2 ⟨rfl,b2⟩;have B2:=aa b2;clear b2;go_wp2_with fail
   go_ret
   exact⟨rfl,P1.out.below B2.out,F1.out.trans (ay.ae (O:=(· = b)) B2.out) (Ext.refl _ _)⟩
 ·have Me:aw [44] t=false:=by simpa using h1
  have HC:=aa (lL b O t ts T w h Me);by_cases h2:aw [59] t=true
  ·have h1':(aw [44] t || aw [59] t)=true:=by rw[h2];simp
   have iW:=(h.fin.tail (tB h2)).cons;obtain⟨u,us,rfl⟩:=iW;have Uu:(!aw [125] u)=r∧u::us=tr:=by
    rw[px h1'] at hr;injection hr with e1 e2;exact⟨e1,e2⟩
   obtain⟨hr1,rfl⟩:=Uu;have HT:=aa (fun(W:World) hW=>lK b O t (u::us) T [59] ⟨#[59]⟩ rfl W hW (by decide) h2)
   clear h h1 Me h2 h1' hr;have g1:((ag u).toList == [125])=(!r):=ai (s:=[125]) (by decide) u (by rw[←hr1];simp)
   clear hr1;go_enter Tryz.func239,Tryz.ntmps239
   go_wp2_with fail
   refine HC.out.mono ?_;rintro e w1 ⟨rfl,p1,f1⟩;have c1:=(HB.out.later (f1.mono HO.out) (Ext.refl _ _)).cell 0;have F1:=aa f1;have AJ:=aa (HT.out w1 p1);clear p1 f1 c0;go_wp2_with fail
   refine AJ.out.mono ?_;rintro e w2 ⟨rfl,p2,f2⟩;have F2:=aa (F1.out.trans f2 (Ext.refl _ _));have c2:=(HB.out.later (F2.out.mono HO.out) (Ext.refl _ _)).cell 0;have HW:=aa (bS b O u us T w2 p2);generalize ag u=Y at *;have P2:=aa p2;clear p2 f2 c1;cases r <;>
   ·go_wp2_with fail
    refine HW.out.mono ?_;rintro e w3 ⟨rfl,b2⟩;have B2:=aa b2;clear b2;go_wp2_with fail
    go_ret
    exact⟨rfl,P2.out.below B2.out,F2.out.trans (ay.ae (O:=(· = b)) B2.out) (Ext.refl _ _)⟩
  ·have h2f:aw [59] t=false:=by simpa using h2
   have HT:=aa (fun(W:World) hW=>nZ b O t ts T [59] ⟨#[59]⟩ rfl W hW (by decide) h2f)
   have Uu:false=r∧t::ts=tr:=by
    rw[xg (by rw[Me,h2f];rfl)] at hr
    injection hr with e1 e2;exact⟨e1,e2⟩
   obtain⟨rfl,rfl⟩:=Uu;clear h h1 Me h2 h2f hr;go_enter Tryz.func239,Tryz.ntmps239
   go_wp2_with fail
   refine HC.out.mono ?_;rintro e w1 ⟨rfl,p1,f1⟩;have c1:=(HB.out.later (f1.mono HO.out) (Ext.refl _ _)).cell 0;have F1:=aa f1;have AJ:=aa (HT.out w1 p1);clear p1 f1 c0;go_wp2_with fail
   refine AJ.out.mono ?_;rintro e w2 ⟨rfl,p2,f2⟩;have F2:=aa (F1.out.trans f2 (Ext.refl _ _));have P2:=aa p2;clear p2 f2 c1;go_wp2_with fail
   go_ret
   exact⟨rfl,P2.out,F2.out⟩
theorem Dj {W:World} {b g:Nat} {O:Nat→Prop} (b0:eK W O g #[.pointer (some ⟨b,0,none⟩)] 116):yy W b O (.func (.func 239) #[] #[.pointer (some ⟨g,0,none⟩)]) ja:=by
 intro W1 O1 T ts hf he hp;obtain⟨t,r,rfl⟩:=hp.fin.cons;exact⟨239,_,_,rfl,enters_of Tryz.func239 (by kernel_rfl) rfl,Md b g O1 t r T W1 hp (b0.later hf he) _ _ rfl⟩
theorem RO {wp:iT} (hE:pt 238 wp):eB 235 (lM wp ja):=by
 intro b n O T0 s K E w hr hk;have hO:=hr.lt;have h1:=eK.new w O hO #[.pointer (some ⟨b,0,none⟩)] 116;have HC:=aa (yD b O 238 239 _ _ _ _ wp ja (w.alloc (.cells #[.pointer (some ⟨b,0,none⟩)] 116)) (hE.one (enters_of Tryz.func238 (by kernel_rfl) rfl) _ b O) (Dj h1) (fun k hk=>by have:=hO k hk;simp;omega))
 have HR:=aa hr;have HK:=aa hk;clear hr hk h1 hO;go_enter Tryz.func235,Tryz.ntmps235
 go_wp2_with fail
 refine HC.out.mono ?_;rintro e w1 ⟨v,rfl,b1,h2⟩;obtain⟨f,first,cap,rfl,ph,bz⟩:=h2.1.call HR.out (aA (aX w _) b1) HK.out
 have ed:=aa bz;clear h2 bz b1;unfold Enters at ph;go_wp2_with fail
 refine ed.out.mono ?_;intro e w2 h3;obtain⟨v,rfl⟩:=h3.ret;have H3:=aa h3;clear h3;go_wp2_with fail
 go_ret
 exact H3.out
def lN (t:aj):List aj→Bool
 | []=>false
 | u::_=>uM t u
theorem Hp (b:Nat) (O:Nat→Prop) (t:aj) (ts:List aj) (T:List Nd) (w:World) (h:PS w b O (t::ts) T) (r:Bool) (hr:lN t ts=r):Calls Tryz.prog 241 #[.pointer (some ⟨b,0,none⟩)] w (nx w r):=by
 by_cases h1:t.1=1
 ·obtain⟨u,us,rfl⟩:=(h.fin.tail (by rw[h1];decide)).cons
  refine RN b O t u us T w h h1 r ?_;rw[←hr];simp[lN,uM,h1]
 ·have hf:false=r:=by
   rw[←hr];cases ts<;>simp[lN,uM,h1]
  rw[←hf];exact Di b O t ts T w h h1
def UF (ex:cf) (t:aj) (ts:List aj) (n:Nat) (K:Ast→List aj→Prop) (E:Int→Prop):Prop :=
 (aw [91] t=true→aK [aD,ex,au [[93],[61]],ex] ⟨dA 17 t.2.1,[],t::ts,n⟩ (ca K) E)∧(aw [91] t=false→(lN t ts=true→aK [tf,aD,ex] ⟨dA 17 t.2.1,[],t::ts,n⟩ (ca K) E)∧(lN t ts=false→aK [ex] ⟨dA 16 t.2.1,[],t::ts,n⟩ (ca K) E))
theorem Xi {ex:cf} (hE:eB 91 ex) (b:Nat) (O:Nat→Prop) (t:aj) (ts:List aj) (T:List Nd) (K:Ast→List aj→Prop) (E:Int→Prop) (w:World) (hp:PS w b O (t::ts) T) (hk:UF ex t ts T.length K E) :
  Calls Tryz.prog 238 #[.pointer (some ⟨b,0,none⟩)] w (aG b O T (RK K E) w):=by
 have HW:=aa (bS b O t ts T w hp);have HF:=aa (fun W hW=>Hp b O t ts T W hW)
 cases hq:aw [91] t with
 | true =>
  ·have g1:((ag t).toList == [91])=true:=ai (s:=[91]) (by decide) t hq
   have HK:=aa (hk.1 hq);generalize hY:ag t=Y at *;have P:=aa hp;clear hp hk hY hq HF;go_enter Tryz.func238,Tryz.ntmps238
   go_wp2_with fail
   refine HW.out.mono ?_;rintro e w0 ⟨rfl,b0⟩;have F0:=aa (ay.ae (O:=O) b0);have P0:=aa (P.out.below b0);clear b0;have oN :∀k,O k→k<w0.heap.size:=fun k hk=>(P0.out.own k hk).2
   have V1:=aa (Ho w0 b O oN [93] [61] (by decide) (by decide) ⟨#[93]⟩ ⟨#[61]⟩ rfl rfl)
   clear oN;go_wp2_with fail
   refine V1.out.mono ?_;rintro e w1 ⟨f1,a1,c1,rfl,b1,h1⟩;have F1:=aa (F0.out.trans (ay.ae (O:=O) b1) (Ext.refl _ _));have P1:=aa (P0.out.below b1);have H1:=aa h1;clear b1 h1 V1;have HN:=aa (cH w w1 P1.out F1.out (mu 17) rfl [aZ 40 b,aZ 91 b,.func (.func f1) a1 c1,aZ 91 b] [aD,ex,au [[93],[61]],ex] (by simp) ⟨ba w1 b O,hE.part (enters_of Tryz.func91 (by kernel_rfl) rfl) w1 b O,H1.out,hE.part (enters_of Tryz.func91 (by kernel_rfl) rfl) w1 b O,trivial⟩ HK.out)
   go_wp2_with fail
   refine HN.out.mono ?_;intro e wz hz;obtain⟨v,er,rfl⟩:=hz.ret;have HZ:=aa hz;clear hz;go_wp2_with fail
   go_ret2
   exact HZ.out
 | false =>
  cases hf:lN t ts with
  | true =>
   ·have g1:((ag t).toList == [91])=false:=ai (s:=[91]) (by decide) t hq
    have HK:=aa ((hk.2 hq).1 hf);have lO:=aa (fun W hW=>HF.out W hW true hf)
    generalize hY:ag t=Y at *;have P:=aa hp;clear hp hk hY hq HF hf;go_enter Tryz.func238,Tryz.ntmps238
    go_wp2_with fail
    refine HW.out.mono ?_;rintro e w0 ⟨rfl,b0⟩;have F0:=aa (ay.ae (O:=O) b0);have P0:=aa (P.out.below b0);clear b0;have E6:=aa (lO.out w0 P0.out);clear lO;go_wp2_with fail
    refine E6.out.mono ?_;rintro e w1 ⟨rfl,b1⟩;have F1:=aa (F0.out.trans (ay.ae (O:=O) b1) (Ext.refl _ _));have P1:=aa (P0.out.below b1);clear b1;have HN:=aa (cH w w1 P1.out F1.out (mu 17) rfl [aZ 179 b,aZ 40 b,aZ 91 b] [tf,aD,ex] (by simp) ⟨Ma.part (enters_of Tryz.func179 (by kernel_rfl) rfl) w1 b O,ba w1 b O,hE.part (enters_of Tryz.func91 (by kernel_rfl) rfl) w1 b O,trivial⟩ HK.out)
    go_wp2_with fail
    refine HN.out.mono ?_;intro e wz hz;obtain⟨v,er,rfl⟩:=hz.ret;have HZ:=aa hz;clear hz;go_wp2_with fail
    go_ret2
    exact HZ.out
  | false =>
   ·have g1:((ag t).toList == [91])=false:=ai (s:=[91]) (by decide) t hq
    have HK:=aa ((hk.2 hq).2 hf);have lO:=aa (fun W hW=>HF.out W hW false hf)
    generalize hY:ag t=Y at *;have P:=aa hp;clear hp hk hY hq HF hf;go_enter Tryz.func238,Tryz.ntmps238
    go_wp2_with fail
    refine HW.out.mono ?_;rintro e w0 ⟨rfl,b0⟩;have F0:=aa (ay.ae (O:=O) b0);have P0:=aa (P.out.below b0);clear b0;have E6:=aa (lO.out w0 P0.out);clear lO;go_wp2_with fail
    refine E6.out.mono ?_;rintro e w1 ⟨rfl,b1⟩;have F1:=aa (F0.out.trans (ay.ae (O:=O) b1) (Ext.refl _ _));have P1:=aa (P0.out.below b1);clear b1;have HN:=aa (cH w w1 P1.out F1.out (mu 16) rfl [aZ 91 b] [ex] (by simp) ⟨hE.part (enters_of Tryz.func91 (by kernel_rfl) rfl) w1 b O,trivial⟩ HK.out)
    go_wp2_with fail
    refine HN.out.mono ?_;intro e wz hz;obtain⟨v,er,rfl⟩:=hz.ret;have HZ:=aa hz;clear hz;go_wp2_with fail
    go_ret2
    exact HZ.out
theorem Mf {b:Nat} {O:Nat→Prop} {t:aj} {ts:List aj} {T0 T:List Nd} {K:Ast→List aj→Prop} {E:Int→Prop} (w2:World) (g p:Nat) (a:Ast) (hp:PS w2 b O (t::ts) T) (hg:w2.heap[g]? = some (.cells #[.int .i64 (p:Int)] 3 (0,0))) (hgO:¬ O g) (hgb:b+1≤g) (UG:ep T0 T [a] [(p:Int)])
  (x:Nd) (hx:x=⟨x.kind,0,x.op,x.num,x.s,[],[]⟩) (vs:List Value) (cO:List cf) (hl:vs.length≤100) (hall:jD w2 b (fun k=>O k∨k=g) vs cO)
  (hk:aK cO ⟨{ x with line:=t.2.1},[a],t::ts,T0.length+a.size⟩ (ca K) E) :
  Calls Tryz.prog 19 #[.pointer (some ⟨b,0,none⟩),cZ x (.slice none 0 0) (.slice (some ⟨g,0,none⟩) 1 1),.slice (some ⟨w2.heap.size,0,none⟩) vs.length vs.length] (w2.alloc (.cells vs.toArray 122)) (aG b (fun k=>O k∨k=g) T0 (RK K E) w2):=by
 have h1:x.line=0:=by rw[hx]
 have h2:x.names=[]:=by rw[hx]
 have qU:g<w2.heap.size:=(aF.1 hg).1;have hO :∀k,(O k∨k=g)→k<w2.heap.size:=fun k hk=>hk.elim (fun h=>(hp.own k h).2) (fun h=>h▸qU)
 have hz:T.length=T0.length+a.size:=by rw[UG.len,Ast.ak,Ast.ak];omega
 rw[←hz] at hk;have hrow:w2.ownsRow (b+1) 3 1 (.slice (some ⟨g,0,none⟩) 1 1) 1 [.int .i64 (p:Int)]:=⟨rfl,.inr ⟨g,1,#[.int .i64 (p:Int)],rfl,hgb,hg,ah _,by unfold maxLen;omega,rfl,rfl⟩⟩
 have cL:jB w2 b (· = g) { x with kids:=[(p:Int)]} (.slice none 0 0) (.slice (some ⟨g,0,none⟩) 1 1):=by
  refine⟨?_,hrow,fun g hg=>by simp[Value.ownBlock] at hg,fun g hg=>by simp[Value.ownBlock] at hg,fun k hk=>by simpa[Value.ownBlock] using hk.symm⟩
  rw[show({ x with kids:=[(p:Int)]}:Nd).names=[] from h2]
  exact World.ownsRow_nil _ _ _ _
 refine(yB b O (· = g) t ts T0 T x t.2.1 [a] [(p:Int)] (.slice none 0 0) (.slice (some ⟨g,0,none⟩) 1 1) _ cO (RK K E) _ (hp.below (aX w2 _)) ?_ (fun k hk e=>hgO (e▸hk)) (fun k hk=>⟨by omega,by simp;omega⟩) UG (aN.new hO vs cO hl hall) (.inl ⟨h1,rfl⟩) hk).mono fun e w' h=>h.after ((ay.refl _ _).alloc _)
 exact cL.kept (O1:=fun _=>False) ((ay.refl _ w2).alloc _) (fun _ _ h=>h) (fun _ h=>h)
def rD (f:FuncId) (l:Int) (wp:iT):Prop:=∀(b:Nat) (O:Nat→Prop) (ts:List aj) (T:List Nd) (K:Ast→List aj→Prop) (E:Int→Prop) (W:World),PS W b O ts T→wp ts T.length K E→Calls Tryz.prog f #[.pointer (some ⟨b,0,none⟩),.int .i64 l] W (aG b O T (RK K E) W)
theorem aO {s:List UInt8} {t:aj} (h:aw s t=true):(∃l n,t=(2,l,n,s))∨(∃l n,t=(5,l,n,s)):=by
 obtain⟨t0,t1,t2,t3⟩:=t;unfold aw at h;rw[dj,Bool.or_eq_true,iH,iH,iH] at h;obtain⟨h1,h2⟩:=h;dsimp only at h1 h2
 subst h2;rcases h1 with rfl|rfl
 ·exact .inl ⟨t1,t2,rfl⟩
 ·exact .inr ⟨t1,t2,rfl⟩
def eL (t:aj):Int:=match mq t with
 | some o=>o.1
 | none=>0
def fk (t:aj):Int:=match lD t with
 | some o=>o
 | none=>0
def bQ (k:Int) (w:World) (e:Ending) (w':World):Prop:=e=.returned (.int .i64 k)∧w'=w
theorem binary_1 (t:aj) (w:World) (hq:aw [43] t=true):Calls Tryz.prog 205 #[.string (ag t)] w (bQ 1 w):=by
 have g0:((ag t).toList == [43])=true:=ai (s:=[43]) (by decide) t hq
 generalize ag t=Y at *;clear hq;go_enter Tryz.func205,Tryz.ntmps205
 go_wp2
 go_ret
 exact⟨rfl,rfl⟩
theorem Mg (t:aj) (w:World) (hq:aw [45] t=true):Calls Tryz.prog 205 #[.string (ag t)] w (bQ 2 w):=by
 have g0:=aQ [43] hq (by decide)
 have g1:((ag t).toList == [45])=true:=ai (s:=[45]) (by decide) t hq
 generalize ag t=Y at *;clear hq;go_enter Tryz.func205,Tryz.ntmps205
 go_wp2
 go_ret
 exact⟨rfl,rfl⟩
theorem Mh (t:aj) (w:World) (hq:aw [42] t=true):Calls Tryz.prog 205 #[.string (ag t)] w (bQ 3 w):=by
 have g0:=aQ [43] hq (by decide)
 have g1:=aQ [45] hq (by decide)
 have g2:((ag t).toList == [42])=true:=ai (s:=[42]) (by decide) t hq
 generalize ag t=Y at *;clear hq;go_enter Tryz.func205,Tryz.ntmps205
 go_wp2
 go_ret
 exact⟨rfl,rfl⟩
theorem Mi (t:aj) (w:World) (hq:aw [47,47] t=true):Calls Tryz.prog 205 #[.string (ag t)] w (bQ 4 w):=by
 have g0:=aQ [43] hq (by decide)
 have g1:=aQ [45] hq (by decide)
 have g2:=aQ [42] hq (by decide)
 have g3:((ag t).toList == [47,47])=true:=ai (s:=[47,47]) (by decide) t hq
 generalize ag t=Y at *;clear hq;go_enter Tryz.func205,Tryz.ntmps205
 go_wp2
 go_ret
 exact⟨rfl,rfl⟩
theorem Mj (t:aj) (w:World) (hq:aw [37] t=true):Calls Tryz.prog 205 #[.string (ag t)] w (bQ 5 w):=by
 have g0:=aQ [43] hq (by decide)
 have g1:=aQ [45] hq (by decide)
 have g2:=aQ [42] hq (by decide)
 have g3:=aQ [47,47] hq (by decide)
 have g4:((ag t).toList == [37])=true:=ai (s:=[37]) (by decide) t hq
 generalize ag t=Y at *;clear hq;go_enter Tryz.func205,Tryz.ntmps205
 go_wp2
 go_ret
 exact⟨rfl,rfl⟩
theorem Ml (t:aj) (w:World) (hq:aw [38] t=true):Calls Tryz.prog 205 #[.string (ag t)] w (bQ 6 w):=by
 have g0:=aQ [43] hq (by decide)
 have g1:=aQ [45] hq (by decide)
 have g2:=aQ [42] hq (by decide)
 have g3:=aQ [47,47] hq (by decide)
 have g4:=aQ [37] hq (by decide)
 have g5:((ag t).toList == [38])=true:=ai (s:=[38]) (by decide) t hq
 generalize ag t=Y at *;clear hq;go_enter Tryz.func205,Tryz.ntmps205
 go_wp2
 go_ret
 exact⟨rfl,rfl⟩
theorem Mm (t:aj) (w:World) (hq:aw [124] t=true):Calls Tryz.prog 205 #[.string (ag t)] w (bQ 7 w):=by
 have g0:=aQ [43] hq (by decide)
 have g1:=aQ [45] hq (by decide)
 have g2:=aQ [42] hq (by decide)
 have g3:=aQ [47,47] hq (by decide)
 have g4:=aQ [37] hq (by decide)
 have g5:=aQ [38] hq (by decide)
 have g6:((ag t).toList == [124])=true:=ai (s:=[124]) (by decide) t hq
 generalize ag t=Y at *;clear hq;go_enter Tryz.func205,Tryz.ntmps205
 go_wp2
 go_ret
 exact⟨rfl,rfl⟩
theorem Mn (t:aj) (w:World) (hq:aw [126] t=true):Calls Tryz.prog 205 #[.string (ag t)] w (bQ 8 w):=by
 have g0:=aQ [43] hq (by decide)
 have g1:=aQ [45] hq (by decide)
 have g2:=aQ [42] hq (by decide)
 have g3:=aQ [47,47] hq (by decide)
 have g4:=aQ [37] hq (by decide)
 have g5:=aQ [38] hq (by decide)
 have g6:=aQ [124] hq (by decide)
 have g7:((ag t).toList == [126])=true:=ai (s:=[126]) (by decide) t hq
 generalize ag t=Y at *;clear hq;go_enter Tryz.func205,Tryz.ntmps205
 go_wp2
 go_ret
 exact⟨rfl,rfl⟩
theorem Mo (t:aj) (w:World) (hq:aw [60,60] t=true):Calls Tryz.prog 205 #[.string (ag t)] w (bQ 9 w):=by
 have g0:=aQ [43] hq (by decide)
 have g1:=aQ [45] hq (by decide)
 have g2:=aQ [42] hq (by decide)
 have g3:=aQ [47,47] hq (by decide)
 have g4:=aQ [37] hq (by decide)
 have g5:=aQ [38] hq (by decide)
 have g6:=aQ [124] hq (by decide)
 have g7:=aQ [126] hq (by decide)
 have g8:((ag t).toList == [60,60])=true:=ai (s:=[60,60]) (by decide) t hq
 generalize ag t=Y at *;clear hq;go_enter Tryz.func205,Tryz.ntmps205
 go_wp2
 go_ret
 exact⟨rfl,rfl⟩
theorem Hq (t:aj) (w:World) (hq:aw [62,62] t=true):Calls Tryz.prog 205 #[.string (ag t)] w (bQ 10 w):=by
 have g0:=aQ [43] hq (by decide)
 have g1:=aQ [45] hq (by decide)
 have g2:=aQ [42] hq (by decide)
 have g3:=aQ [47,47] hq (by decide)
 have g4:=aQ [37] hq (by decide)
 have g5:=aQ [38] hq (by decide)
 have g6:=aQ [124] hq (by decide)
 have g7:=aQ [126] hq (by decide)
 have g8:=aQ [60,60] hq (by decide)
 have g9:((ag t).toList == [62,62])=true:=ai (s:=[62,62]) (by decide) t hq
 generalize ag t=Y at *;clear hq;go_enter Tryz.func205,Tryz.ntmps205
 go_wp2
 go_ret
 exact⟨rfl,rfl⟩
theorem Hr (t:aj) (w:World) (hq:aw [46,46] t=true):Calls Tryz.prog 205 #[.string (ag t)] w (bQ 11 w):=by
 have g0:=aQ [43] hq (by decide)
 have g1:=aQ [45] hq (by decide)
 have g2:=aQ [42] hq (by decide)
 have g3:=aQ [47,47] hq (by decide)
 have g4:=aQ [37] hq (by decide)
 have g5:=aQ [38] hq (by decide)
 have g6:=aQ [124] hq (by decide)
 have g7:=aQ [126] hq (by decide)
 have g8:=aQ [60,60] hq (by decide)
 have g9:=aQ [62,62] hq (by decide)
 have g10:((ag t).toList == [46,46])=true:=ai (s:=[46,46]) (by decide) t hq
 generalize ag t=Y at *;clear hq;go_enter Tryz.func205,Tryz.ntmps205
 go_wp2
 go_ret
 exact⟨rfl,rfl⟩
theorem Hs (t:aj) (w:World) (hq:aw [61,61] t=true):Calls Tryz.prog 205 #[.string (ag t)] w (bQ 12 w):=by
 have g0:=aQ [43] hq (by decide)
 have g1:=aQ [45] hq (by decide)
 have g2:=aQ [42] hq (by decide)
 have g3:=aQ [47,47] hq (by decide)
 have g4:=aQ [37] hq (by decide)
 have g5:=aQ [38] hq (by decide)
 have g6:=aQ [124] hq (by decide)
 have g7:=aQ [126] hq (by decide)
 have g8:=aQ [60,60] hq (by decide)
 have g9:=aQ [62,62] hq (by decide)
 have g10:=aQ [46,46] hq (by decide)
 have g11:((ag t).toList == [61,61])=true:=ai (s:=[61,61]) (by decide) t hq
 generalize ag t=Y at *;clear hq;go_enter Tryz.func205,Tryz.ntmps205
 go_wp2
 go_ret
 exact⟨rfl,rfl⟩
theorem Ht (t:aj) (w:World) (hq:aw [126,61] t=true):Calls Tryz.prog 205 #[.string (ag t)] w (bQ 13 w):=by
 have g0:=aQ [43] hq (by decide)
 have g1:=aQ [45] hq (by decide)
 have g2:=aQ [42] hq (by decide)
 have g3:=aQ [47,47] hq (by decide)
 have g4:=aQ [37] hq (by decide)
 have g5:=aQ [38] hq (by decide)
 have g6:=aQ [124] hq (by decide)
 have g7:=aQ [126] hq (by decide)
 have g8:=aQ [60,60] hq (by decide)
 have g9:=aQ [62,62] hq (by decide)
 have g10:=aQ [46,46] hq (by decide)
 have g11:=aQ [61,61] hq (by decide)
 have g12:((ag t).toList == [126,61])=true:=ai (s:=[126,61]) (by decide) t hq
 generalize ag t=Y at *;clear hq;go_enter Tryz.func205,Tryz.ntmps205
 go_wp2
 go_ret
 exact⟨rfl,rfl⟩
theorem Hu (t:aj) (w:World) (hq:aw [60] t=true):Calls Tryz.prog 205 #[.string (ag t)] w (bQ 14 w):=by
 have g0:=aQ [43] hq (by decide)
 have g1:=aQ [45] hq (by decide)
 have g2:=aQ [42] hq (by decide)
 have g3:=aQ [47,47] hq (by decide)
 have g4:=aQ [37] hq (by decide)
 have g5:=aQ [38] hq (by decide)
 have g6:=aQ [124] hq (by decide)
 have g7:=aQ [126] hq (by decide)
 have g8:=aQ [60,60] hq (by decide)
 have g9:=aQ [62,62] hq (by decide)
 have g10:=aQ [46,46] hq (by decide)
 have g11:=aQ [61,61] hq (by decide)
 have g12:=aQ [126,61] hq (by decide)
 have g13:((ag t).toList == [60])=true:=ai (s:=[60]) (by decide) t hq
 generalize ag t=Y at *;clear hq;go_enter Tryz.func205,Tryz.ntmps205
 go_wp2
 go_ret
 exact⟨rfl,rfl⟩
theorem Hv (t:aj) (w:World) (hq:aw [60,61] t=true):Calls Tryz.prog 205 #[.string (ag t)] w (bQ 15 w):=by
 have g0:=aQ [43] hq (by decide)
 have g1:=aQ [45] hq (by decide)
 have g2:=aQ [42] hq (by decide)
 have g3:=aQ [47,47] hq (by decide)
 have g4:=aQ [37] hq (by decide)
 have g5:=aQ [38] hq (by decide)
 have g6:=aQ [124] hq (by decide)
 have g7:=aQ [126] hq (by decide)
 have g8:=aQ [60,60] hq (by decide)
 have g9:=aQ [62,62] hq (by decide)
 have g10:=aQ [46,46] hq (by decide)
 have g11:=aQ [61,61] hq (by decide)
 have g12:=aQ [126,61] hq (by decide)
 have g13:=aQ [60] hq (by decide)
 have g14:((ag t).toList == [60,61])=true:=ai (s:=[60,61]) (by decide) t hq
 generalize ag t=Y at *;clear hq;go_enter Tryz.func205,Tryz.ntmps205
 go_wp2
 go_ret
 exact⟨rfl,rfl⟩
theorem Hw (t:aj) (w:World) (hq:aw [62] t=true):Calls Tryz.prog 205 #[.string (ag t)] w (bQ 16 w):=by
 have g0:=aQ [43] hq (by decide)
 have g1:=aQ [45] hq (by decide)
 have g2:=aQ [42] hq (by decide)
 have g3:=aQ [47,47] hq (by decide)
 have g4:=aQ [37] hq (by decide)
 have g5:=aQ [38] hq (by decide)
 have g6:=aQ [124] hq (by decide)
 have g7:=aQ [126] hq (by decide)
 have g8:=aQ [60,60] hq (by decide)
 have g9:=aQ [62,62] hq (by decide)
 have g10:=aQ [46,46] hq (by decide)
 have g11:=aQ [61,61] hq (by decide)
 have g12:=aQ [126,61] hq (by decide)
 have g13:=aQ [60] hq (by decide)
 have g14:=aQ [60,61] hq (by decide)
 have g15:((ag t).toList == [62])=true:=ai (s:=[62]) (by decide) t hq
 generalize ag t=Y at *;clear hq;go_enter Tryz.func205,Tryz.ntmps205
 go_wp2
 go_ret
 exact⟨rfl,rfl⟩
theorem Hx (t:aj) (w:World) (hq:aw [62,61] t=true):Calls Tryz.prog 205 #[.string (ag t)] w (bQ 17 w):=by
 have g0:=aQ [43] hq (by decide)
 have g1:=aQ [45] hq (by decide)
 have g2:=aQ [42] hq (by decide)
 have g3:=aQ [47,47] hq (by decide)
 have g4:=aQ [37] hq (by decide)
 have g5:=aQ [38] hq (by decide)
 have g6:=aQ [124] hq (by decide)
 have g7:=aQ [126] hq (by decide)
 have g8:=aQ [60,60] hq (by decide)
 have g9:=aQ [62,62] hq (by decide)
 have g10:=aQ [46,46] hq (by decide)
 have g11:=aQ [61,61] hq (by decide)
 have g12:=aQ [126,61] hq (by decide)
 have g13:=aQ [60] hq (by decide)
 have g14:=aQ [60,61] hq (by decide)
 have g15:=aQ [62] hq (by decide)
 have g16:((ag t).toList == [62,61])=true:=ai (s:=[62,61]) (by decide) t hq
 generalize ag t=Y at *;clear hq;go_enter Tryz.func205,Tryz.ntmps205
 go_wp2
 go_ret
 exact⟨rfl,rfl⟩
theorem Hy (t:aj) (w:World) (hq:aw Gj t=true):Calls Tryz.prog 205 #[.string (ag t)] w (bQ 18 w):=by
 have g0:=aQ [43] hq (by decide)
 have g1:=aQ [45] hq (by decide)
 have g2:=aQ [42] hq (by decide)
 have g3:=aQ [47,47] hq (by decide)
 have g4:=aQ [37] hq (by decide)
 have g5:=aQ [38] hq (by decide)
 have g6:=aQ [124] hq (by decide)
 have g7:=aQ [126] hq (by decide)
 have g8:=aQ [60,60] hq (by decide)
 have g9:=aQ [62,62] hq (by decide)
 have g10:=aQ [46,46] hq (by decide)
 have g11:=aQ [61,61] hq (by decide)
 have g12:=aQ [126,61] hq (by decide)
 have g13:=aQ [60] hq (by decide)
 have g14:=aQ [60,61] hq (by decide)
 have g15:=aQ [62] hq (by decide)
 have g16:=aQ [62,61] hq (by decide)
 have g17:((ag t).toList == [97,110,100])=true:=ai (s:=Gj) (by decide) t hq
 generalize ag t=Y at *;clear hq;go_enter Tryz.func205,Tryz.ntmps205
 go_wp2
 go_ret
 exact⟨rfl,rfl⟩
theorem Hz (t:aj) (w:World) (hq:aw Za t=true):Calls Tryz.prog 205 #[.string (ag t)] w (bQ 19 w):=by
 have g0:=aQ [43] hq (by decide)
 have g1:=aQ [45] hq (by decide)
 have g2:=aQ [42] hq (by decide)
 have g3:=aQ [47,47] hq (by decide)
 have g4:=aQ [37] hq (by decide)
 have g5:=aQ [38] hq (by decide)
 have g6:=aQ [124] hq (by decide)
 have g7:=aQ [126] hq (by decide)
 have g8:=aQ [60,60] hq (by decide)
 have g9:=aQ [62,62] hq (by decide)
 have g10:=aQ [46,46] hq (by decide)
 have g11:=aQ [61,61] hq (by decide)
 have g12:=aQ [126,61] hq (by decide)
 have g13:=aQ [60] hq (by decide)
 have g14:=aQ [60,61] hq (by decide)
 have g15:=aQ [62] hq (by decide)
 have g16:=aQ [62,61] hq (by decide)
 have g17:=aQ [97,110,100] hq (by decide)
 have g18:((ag t).toList == [111,114])=true:=ai (s:=Za) (by decide) t hq
 generalize ag t=Y at *;clear hq;go_enter Tryz.func205,Tryz.ntmps205
 go_wp2
 go_ret
 exact⟨rfl,rfl⟩
theorem Mp (t:aj) (w:World) (q0:aw [43] t=false) (q1:aw [45] t=false) (q2:aw [42] t=false) (q3:aw [47,47] t=false) (q4:aw [37] t=false) (q5:aw [38] t=false) (q6:aw [124] t=false) (q7:aw [126] t=false) (q8:aw [60,60] t=false) (q9:aw [62,62] t=false) (RP:aw [46,46] t=false) (yG:aw [61,61] t=false) (UH:aw [126,61] t=false) (UI:aw [60] t=false) (UJ:aw [60,61] t=false) (UK:aw [62] t=false) (PM:aw [62,61] t=false) (UL:aw Gj t=false) (zv:aw Za t=false):Calls Tryz.prog 205 #[.string (ag t)] w (bQ 0 w):=by
 have g0:((ag t).toList == [43])=false:=ai (s:=[43]) (by decide) t q0
 have g1:((ag t).toList == [45])=false:=ai (s:=[45]) (by decide) t q1
 have g2:((ag t).toList == [42])=false:=ai (s:=[42]) (by decide) t q2
 have g3:((ag t).toList == [47,47])=false:=ai (s:=[47,47]) (by decide) t q3
 have g4:((ag t).toList == [37])=false:=ai (s:=[37]) (by decide) t q4
 have g5:((ag t).toList == [38])=false:=ai (s:=[38]) (by decide) t q5
 have g6:((ag t).toList == [124])=false:=ai (s:=[124]) (by decide) t q6
 have g7:((ag t).toList == [126])=false:=ai (s:=[126]) (by decide) t q7
 have g8:((ag t).toList == [60,60])=false:=ai (s:=[60,60]) (by decide) t q8
 have g9:((ag t).toList == [62,62])=false:=ai (s:=[62,62]) (by decide) t q9
 have g10:((ag t).toList == [46,46])=false:=ai (s:=[46,46]) (by decide) t RP
 have g11:((ag t).toList == [61,61])=false:=ai (s:=[61,61]) (by decide) t yG
 have g12:((ag t).toList == [126,61])=false:=ai (s:=[126,61]) (by decide) t UH
 have g13:((ag t).toList == [60])=false:=ai (s:=[60]) (by decide) t UI
 have g14:((ag t).toList == [60,61])=false:=ai (s:=[60,61]) (by decide) t UJ
 have g15:((ag t).toList == [62])=false:=ai (s:=[62]) (by decide) t UK
 have g16:((ag t).toList == [62,61])=false:=ai (s:=[62,61]) (by decide) t PM
 have g17:((ag t).toList == [97,110,100])=false:=ai (s:=Gj) (by decide) t UL
 have g18:((ag t).toList == [111,114])=false:=ai (s:=Za) (by decide) t zv
 clear q0 q1 q2 q3 q4 q5 q6 q7 q8 q9 RP yG UH UI UJ UK PM UL zv;generalize ag t=Y at *;go_enter Tryz.func205,Tryz.ntmps205
 go_wp2
 go_ret
 exact⟨rfl,rfl⟩
theorem Mq (t:aj) (w:World):Calls Tryz.prog 205 #[.string (ag t)] w (bQ (eL t) w):=by
 rcases eN (aw [43] t) with q0|q0
 ·rw[show eL t=1 from by rcases aO q0 with ⟨l,n,rfl⟩ | ⟨l,n,rfl⟩<;>rfl]
  exact binary_1 t w q0
 rcases eN (aw [45] t) with q1|q1
 ·rw[show eL t=2 from by rcases aO q1 with ⟨l,n,rfl⟩ | ⟨l,n,rfl⟩<;>rfl]
  exact Mg t w q1
 rcases eN (aw [42] t) with q2|q2
 ·rw[show eL t=3 from by rcases aO q2 with ⟨l,n,rfl⟩ | ⟨l,n,rfl⟩<;>rfl]
  exact Mh t w q2
 rcases eN (aw [47,47] t) with q3|q3
 ·rw[show eL t=4 from by rcases aO q3 with ⟨l,n,rfl⟩ | ⟨l,n,rfl⟩<;>rfl]
  exact Mi t w q3
 rcases eN (aw [37] t) with q4|q4
 ·rw[show eL t=5 from by rcases aO q4 with ⟨l,n,rfl⟩ | ⟨l,n,rfl⟩<;>rfl]
  exact Mj t w q4
 rcases eN (aw [38] t) with q5|q5
 ·rw[show eL t=6 from by rcases aO q5 with ⟨l,n,rfl⟩ | ⟨l,n,rfl⟩<;>rfl]
  exact Ml t w q5
 rcases eN (aw [124] t) with q6|q6
 ·rw[show eL t=7 from by rcases aO q6 with ⟨l,n,rfl⟩ | ⟨l,n,rfl⟩<;>rfl]
  exact Mm t w q6
 rcases eN (aw [126] t) with q7|q7
 ·rw[show eL t=8 from by rcases aO q7 with ⟨l,n,rfl⟩ | ⟨l,n,rfl⟩<;>rfl]
  exact Mn t w q7
 rcases eN (aw [60,60] t) with q8|q8
 ·rw[show eL t=9 from by rcases aO q8 with ⟨l,n,rfl⟩ | ⟨l,n,rfl⟩<;>rfl]
  exact Mo t w q8
 rcases eN (aw [62,62] t) with q9|q9
 ·rw[show eL t=10 from by rcases aO q9 with ⟨l,n,rfl⟩ | ⟨l,n,rfl⟩<;>rfl]
  exact Hq t w q9
 rcases eN (aw [46,46] t) with RP|RP
 ·rw[show eL t=11 from by rcases aO RP with ⟨l,n,rfl⟩ | ⟨l,n,rfl⟩<;>rfl]
  exact Hr t w RP
 rcases eN (aw [61,61] t) with yG|yG
 ·rw[show eL t=12 from by rcases aO yG with ⟨l,n,rfl⟩ | ⟨l,n,rfl⟩<;>rfl]
  exact Hs t w yG
 rcases eN (aw [126,61] t) with UH|UH
 ·rw[show eL t=13 from by rcases aO UH with ⟨l,n,rfl⟩ | ⟨l,n,rfl⟩<;>rfl]
  exact Ht t w UH
 rcases eN (aw [60] t) with UI|UI
 ·rw[show eL t=14 from by rcases aO UI with ⟨l,n,rfl⟩ | ⟨l,n,rfl⟩<;>rfl]
  exact Hu t w UI
 rcases eN (aw [60,61] t) with UJ|UJ
 ·rw[show eL t=15 from by rcases aO UJ with ⟨l,n,rfl⟩ | ⟨l,n,rfl⟩<;>rfl]
  exact Hv t w UJ
 rcases eN (aw [62] t) with UK|UK
 ·rw[show eL t=16 from by rcases aO UK with ⟨l,n,rfl⟩ | ⟨l,n,rfl⟩<;>rfl]
  exact Hw t w UK
 rcases eN (aw [62,61] t) with PM|PM
 ·rw[show eL t=17 from by rcases aO PM with ⟨l,n,rfl⟩ | ⟨l,n,rfl⟩<;>rfl]
  exact Hx t w PM
 rcases eN (aw Gj t) with UL|UL
 ·rw[show eL t=18 from by rcases aO UL with ⟨l,n,rfl⟩ | ⟨l,n,rfl⟩<;>rfl]
  exact Hy t w UL
 rcases eN (aw Za t) with zv|zv
 ·rw[show eL t=19 from by rcases aO zv with ⟨l,n,rfl⟩ | ⟨l,n,rfl⟩<;>rfl]
  exact Hz t w zv
 rw[show eL t=0 from by unfold eL;rw[show mq t=none from by simp[mq,q0,q1,q2,q3,q4,q5,q6,q7,q8,q9,RP,yG,UH,UI,UJ,UK,PM,UL,zv]]]
 exact Mp t w q0 q1 q2 q3 q4 q5 q6 q7 q8 q9 RP yG UH UI UJ UK PM UL zv
theorem Mr (t:aj) (w:World) (hq:aw [45] t=true):Calls Tryz.prog 224 #[.string (ag t)] w (bQ 20 w):=by
 have g0:((ag t).toList == [45])=true:=ai (s:=[45]) (by decide) t hq
 generalize ag t=Y at *;clear hq;go_enter Tryz.func224,Tryz.ntmps224
 go_wp2
 go_ret
 exact⟨rfl,rfl⟩
theorem Ms (t:aj) (w:World) (hq:aw [126] t=true):Calls Tryz.prog 224 #[.string (ag t)] w (bQ 21 w):=by
 have g0:=aQ [45] hq (by decide)
 have g1:((ag t).toList == [126])=true:=ai (s:=[126]) (by decide) t hq
 generalize ag t=Y at *;clear hq;go_enter Tryz.func224,Tryz.ntmps224
 go_wp2
 go_ret
 exact⟨rfl,rfl⟩
theorem Mt (t:aj) (w:World) (hq:aw Cv t=true):Calls Tryz.prog 224 #[.string (ag t)] w (bQ 22 w):=by
 have g0:=aQ [45] hq (by decide)
 have g1:=aQ [126] hq (by decide)
 have g2:((ag t).toList == [110,111,116])=true:=ai (s:=Cv) (by decide) t hq
 generalize ag t=Y at *;clear hq;go_enter Tryz.func224,Tryz.ntmps224
 go_wp2
 go_ret
 exact⟨rfl,rfl⟩
theorem Mu (t:aj) (w:World) (hq:aw [35] t=true):Calls Tryz.prog 224 #[.string (ag t)] w (bQ 23 w):=by
 have g0:=aQ [45] hq (by decide)
 have g1:=aQ [126] hq (by decide)
 have g2:=aQ [110,111,116] hq (by decide)
 have g3:((ag t).toList == [35])=true:=ai (s:=[35]) (by decide) t hq
 generalize ag t=Y at *;clear hq;go_enter Tryz.func224,Tryz.ntmps224
 go_wp2
 go_ret
 exact⟨rfl,rfl⟩
theorem RQ (t:aj) (w:World) (q0:aw [45] t=false) (q1:aw [126] t=false) (q2:aw Cv t=false) (q3:aw [35] t=false):Calls Tryz.prog 224 #[.string (ag t)] w (bQ 0 w):=by
 have g0:((ag t).toList == [45])=false:=ai (s:=[45]) (by decide) t q0
 have g1:((ag t).toList == [126])=false:=ai (s:=[126]) (by decide) t q1
 have g2:((ag t).toList == [110,111,116])=false:=ai (s:=Cv) (by decide) t q2
 have g3:((ag t).toList == [35])=false:=ai (s:=[35]) (by decide) t q3
 clear q0 q1 q2 q3;generalize ag t=Y at *;go_enter Tryz.func224,Tryz.ntmps224
 go_wp2
 go_ret
 exact⟨rfl,rfl⟩
theorem j8 (t:aj) (w:World):Calls Tryz.prog 224 #[.string (ag t)] w (bQ (fk t) w):=by
 rcases eN (aw [45] t) with q0|q0
 ·rw[show fk t=20 from by rcases aO q0 with ⟨l,n,rfl⟩ | ⟨l,n,rfl⟩<;>rfl]
  exact Mr t w q0
 rcases eN (aw [126] t) with q1|q1
 ·rw[show fk t=21 from by rcases aO q1 with ⟨l,n,rfl⟩ | ⟨l,n,rfl⟩<;>rfl]
  exact Ms t w q1
 rcases eN (aw Cv t) with q2|q2
 ·rw[show fk t=22 from by rcases aO q2 with ⟨l,n,rfl⟩ | ⟨l,n,rfl⟩<;>rfl]
  exact Mt t w q2
 rcases eN (aw [35] t) with q3|q3
 ·rw[show fk t=23 from by rcases aO q3 with ⟨l,n,rfl⟩ | ⟨l,n,rfl⟩<;>rfl]
  exact Mu t w q3
 rw[show fk t=0 from by unfold fk;rw[show lD t=none from by simp[lD,q0,q1,q2,q3]]]
 exact RQ t w q0 q1 q2 q3
def JK (k:Int):Int:=if k=0 then 0 else if k=19 then 1 else if k=18 then 2 else if 12≤k∧k≤17 then 3 else if k=7 then 4 else if k=8 then 5 else if k=6 then 6 else if k=9∨k=10 then 7 else if k=11 then 8 else if k=1∨k=2 then 9 else if 3≤k∧k≤5 then 10 else 11
def v7 (k:Int):Int:=if k=11 then 7 else JK k
theorem uN (k:Int) (w:World) (h0:0≤k) (h1:k≤23):Calls Tryz.prog 206 #[.int .i64 k] w (bQ (JK k) w):=by
 have h:k=0∨k=1∨k=2∨k=3∨k=4∨k=5∨k=6∨k=7∨k=8∨k=9∨k=10∨k=11∨k=12∨k=13∨k=14∨k=15∨k=16∨k=17∨k=18∨k=19∨k=20∨k=21∨k=22∨k=23:=by omega
 rcases h with rfl|rfl|rfl|rfl|rfl|rfl|rfl|rfl|rfl|rfl|rfl|rfl|rfl|rfl|rfl|rfl|rfl|rfl|rfl|rfl|rfl|rfl|rfl|rfl <;>
 ·clear h0 h1
  go_enter Tryz.func206,Tryz.ntmps206
  go_wp2
  go_ret
  exact⟨rfl,rfl⟩
theorem Mv (k:Int) (w:World) (h0:0≤k) (h1:k≤23):Calls Tryz.prog 227 #[.int .i64 k] w (bQ (v7 k) w):=by
 have HC:=aa (uN k w h0 h1);by_cases hk:k=11
 ·subst hk
  rw[show JK 11=8 from rfl] at HC
  rw[show v7 11=7 from rfl]
  clear h0 h1;go_enter Tryz.func227,Tryz.ntmps227
  go_wp2_with fail
  refine HC.out.mono ?_;rintro e w1 ⟨rfl,rfl⟩;go_wp2_with fail
  go_ret
  exact⟨rfl,rfl⟩
 ·rw[show v7 k=JK k from by unfold v7;rw[af hk]]
  have g1:(k == 11)=false:=aC.2 hk;generalize JK k=S at *;clear h0 h1 hk;go_enter Tryz.func227,Tryz.ntmps227
  go_wp2_with fail
  refine HC.out.mono ?_;rintro e w1 ⟨rfl,rfl⟩;go_wp2_with fail
  go_ret
  exact⟨rfl,rfl⟩
theorem lP {t:aj} {o:Int×Nat×Nat} (h:mq t=some o):eL t=o.1∧JK o.1=(o.2.1:Int)∧v7 o.1+1=(o.2.2:Int)∧1≤o.1∧o.1≤19:=by
 refine⟨by unfold eL;rw[h],?_⟩
 unfold mq at h;repeat' (rcases Az h with rfl|h;exact⟨by decide,by decide,by decide,by decide⟩)
 exact absurd h (by simp)
theorem xh {t:aj} (h:mq t=none):eL t=0:=by unfold eL;rw[h]
theorem Mw {wp:iT} (op:Int) (h0:0≤op) (h1:op≤23) (hB:rD 178 (v7 op) wp) (b g1 g2:Nat) (O:Nat→Prop) (ts:List aj) (T:List Nd) (K:Ast→List aj→Prop) (E:Int→Prop) (w:World) (hp:PS w b O ts T) (b1:eK w O g1 #[.pointer (some ⟨b,0,none⟩)] 116) (b2:eK w O g2 #[.int .i64 op] 3) (hk:wp ts T.length K E) :
  Calls Tryz.prog 226 #[.pointer (some ⟨g1,0,none⟩),.pointer (some ⟨g2,0,none⟩)] w (aG b O T (RK K E) w):=by
 have c1:=b1.cell 0;have c2:=b2.cell 0;have HS:=aa (fun W=>Mv op W h0 h1)
 have HB:=aa (fun(W:World) hW=>hB b O ts T K E W hW hk)
 have HP:=aa hp;generalize v7 op=l at *;clear b1 b2 hp hk hB h0 h1;go_enter Tryz.func226,Tryz.ntmps226
 go_wp2_with fail
 go_region_with (first
  | (go_at_call 227;refine(HS.out _).mono ?_;rintro e w2 ⟨rfl,rfl⟩)
  | (go_at_call 178;refine(HB.out _ (HP.out.below (by exact⟨rfl,rfl,rfl,ah _,fun _ _=>rfl⟩))).mono ?_;intro e w3 h3;obtain⟨v,er,rfl⟩:=h3.ret;have H3:=aa h3;clear h3))
 all_goals go_wp2
 all_goals go_ret2
 all_goals exact H3.out.after ⟨rfl,rfl,rfl,ah _,fun _ _ _=>rfl,fun _ _=>rfl⟩
theorem E7 {wp:iT} (op:Int) (h0:0≤op) (h1:op≤23) (hB:rD 178 (v7 op) wp) (b:Nat) (O:Nat→Prop) (w:World) (hO :∀k,O k→k<w.heap.size):Calls Tryz.prog 207 #[.pointer (some ⟨b,0,none⟩),.int .i64 op] w (j7 b O (dz wp) w):=by
 obtain⟨w1,ef⟩ :∃w1,w1=w.alloc (.cells #[.pointer (some ⟨b,0,none⟩)] 116):=⟨_,rfl⟩;obtain⟨w2,hw2⟩ :∃w2,w2=w1.alloc (.cells #[.int .i64 op] 3):=⟨_,rfl⟩;have f1:ay O w w1:=by rw[ef];exact(ay.refl _ _).alloc _
 have f2:ay O w1 w2:=by rw[hw2];exact(ay.refl _ _).alloc _
 have z1:w1.heap.size=w.heap.size+1:=by rw[ef,an]
 have b1:eK w1 O w.heap.size #[.pointer (some ⟨b,0,none⟩)] 116:=by rw[ef];exact eK.new w O hO _ _
 have b2:eK w2 O (w.heap.size+1) #[.int .i64 op] 3:=by rw[hw2,←z1];exact eK.new w1 O (fun k hk=>by have:=hO k hk;omega) _ _
 have vZ:One w2 b O (.func (.func 226) #[] #[.pointer (some ⟨w.heap.size,0,none⟩),.pointer (some ⟨w.heap.size+1,0,none⟩)]) wp:=by
  intro W1 O1 T ts K E hf he hp hk;refine⟨226,_,_,rfl,enters_of Tryz.func226 (by kernel_rfl) rfl,?_⟩
  exact Mw op h0 h1 hB b _ _ O1 ts T K E W1 hp ((b1.later f2 (Ext.refl _ _)).later hf he) (b2.later hf he) hk
 have HK:=aa (AG b O 226 _ _ wp w2 vZ fun k hk=>by have:=hO k hk;have:=f1.size;have:=f2.size;omega)
 have HB:Hid (Below w.heap.size w w2):=aa (by rw[hw2,ef];exact((Below.refl _ _).alloc (ah _) _).alloc (by simp) _)
 rw[hw2,ef] at HK HB;clear ef hw2 f1 f2 z1 b1 b2 vZ hB h0 h1;go_enter Tryz.func207,Tryz.ntmps207
 go_wp2_with fail
 refine HK.out.mono ?_;rintro e w1 ⟨v,rfl,b1,h2,f,first,cap,rfl⟩
 have H2:=aa h2;have B1:=aa (aA HB.out b1);clear h2 b1;go_wp2_with fail
 go_ret
 exact⟨f,first,cap,rfl,B1.out,H2.out⟩
def AK (rt:Int→iT) (l:Int):Nat→Ast→List aj→Nat→(Ast→List aj→Prop)→(Int→Prop)→Prop
 | 0,_,_,_,_,_=>False
 | k+1,a,ts,n,K,E=>∃t r,ts=t::r∧(JK (eL t)≤l→K a ts) ∧
  (¬ JK (eL t)≤l→aK [aD,dz (rt (eL t))] ⟨⟨12,t.2.1,eL t,0,⟨#[]⟩,[],[]⟩,[a],ts,n+a.size⟩ (ca fun a' ax=>AK rt l k a' ax n K E) E)
theorem Dk (t:aj):0≤eL t∧eL t≤19:=by
 cases h:mq t with
 | none=>rw[xh h];decide
 | some o=>have:=lP h;omega
theorem RS {od:iT} {rt:Int→iT} (hO:pt 204 od) (l:Int) (hR :∀op,1≤op→op≤19→rD 178 (v7 op) (rt op)) (hl:0≤l):rD 178 l fun ts n K E=>od ts n (fun a fI=>∃m,AK rt l m a fI n K E) E:=by
 intro b O ts T0 K E w hp hk;have HA:=aa (hO b O ts T0 _ E w hp hk);have HR:=aa hR;have HL:=aa hl;clear hO hp hk hR hl;go_enter Tryz.func178,Tryz.ntmps178
 go_wp2_with fail
 refine HA.out.mono ?_;intro e w1 h1;have F1:=aa h1.1;rcases h1.2 with ⟨p,a,fI,O1,T1,rfl,p1,x1,l1,k1⟩ | ⟨le,v,er,rfl,⟨g',rfl,m2,m3⟩,k1⟩
 ·obtain⟨m,k1⟩:=k1
  have P1:=aa p1;have X1:=aa x1;have L1:=aa l1;have K1:=aa k1;clear h1 p1 x1 l1 k1;go_wp2_with fail
  go_loopg [6,7] (m+1) (fun z lv ev wr=>(∃(p:Nat) (a:Ast) (tr:List aj) (Or:Nat→Prop) (Tr:List Nd) (k:Nat),lv=.int .i64 (p:Int)∧ev=.nilIface∧z=k+1∧PS wr b Or tr Tr∧ay O w wr∧Ext O Or w∧ep T0 Tr [a] [(p:Int)]∧AK rt l k a tr T0.length K E) ∨
   (∃(le:Int) (g':Nat),ev=.iface 75 (.pointer (some ⟨g',0,none⟩))∧w.heap.size≤g'∧wr.heap[g']? = some (.cells #[.int .i64 6,.int .i64 le] 81 (0,0))∧ay O w wr∧E le))
  case atStart=>exact .inl ⟨p,a,fI,O1,T1,m,rfl,rfl,rfl,P1.out,F1.out,X1.out,L1.out,K1.out⟩
  case round =>
   rcases hrel with ⟨p,a,tr,Or,Tr,k,rfl,rfl,rfl,pr,fr,xr,lr,kr⟩ | ⟨le,g',rfl,hg,m3,fr,ke⟩
   ·cases k with
    | zero=>exact kr.elim
    | succ k =>
     obtain⟨t,r,rfl,hle,PN⟩:=kr;have PR:=aa pr;have FR:=aa fr;have XR:=aa xr;have LR:=aa lr;have HW:=aa (bS b Or t r Tr wr pr);have xi:=aa (fun W=>Mq t W)
     have hbr:=Dk t;have HST:=aa (fun W=>uN (eL t) W hbr.1 (by omega))
     have RT:Hid (¬ JK (eL t)≤l→1≤eL t):=aa fun h=>by
      have h0:eL t≠0:=fun e=>h (by rw[e];exact HL.out)
      omega
     have HLE:=aa hle;have HGT:=aa PN;have aaz:=aa hbr.2;clear pr fr xr lr hle PN hbr F1 P1 X1 L1 K1 HA;generalize hY:ag t=Y at *;generalize hop:eL t=op at *;generalize hst:JK op=st at *;clear hY hop;have HSE:=aa hst;clear hst;by_cases hc:st≤l
     ·have g1:decide (st≤l)=true:=bX hc
      have HC:=aa hc;clear hc;go_wp2_with fail
      refine HW.out.mono ?_;rintro e w2 ⟨rfl,b2⟩;have B2:=aa b2;clear b2;go_wp2_with fail
      refine(xi.out _).mono ?_;rintro e w3 ⟨rfl,rfl⟩;go_wp2_with fail
      refine(HST.out _).mono ?_;rintro e w3 ⟨rfl,rfl⟩;go_wp2_with fail
      go_ret2
      exact⟨FR.out.trans (ay.ae (O:=Or) B2.out) XR.out,.inl ⟨p,a,t::r,Or,Tr,rfl,PR.out.below B2.out,XR.out,LR.out,HLE.out HC.out⟩⟩
     ·have g1:decide (st≤l)=false:=bU hc
      have HC:=aa hc;clear hc;go_wp2_with fail
      refine HW.out.mono ?_;rintro e w2 ⟨rfl,b2⟩;have B2:=aa b2;clear b2;go_wp2_with fail
      refine(xi.out _).mono ?_;rintro e w3 ⟨rfl,rfl⟩;go_wp2_with fail
      refine(HST.out _).mono ?_;rintro e w3 ⟨rfl,rfl⟩;have p2:=PR.out.below B2.out;have P2:=aa p2;have hown2 :∀k,Or k→k<w3.heap.size:=fun k hk=>(p2.own k hk).2
      have hb2:b<w3.heap.size:=(p2.own b p2.at_).2;have HV:=aa (E7 op (by have:=RT.out HC.out;omega) (by have:=aaz.out;omega) (HR.out op (RT.out HC.out) aaz.out) b (fun k=>Or k∨k=w3.heap.size) (w3.alloc (.cells #[.int .i64 (p:Int)] 3)) (fun k hk=>by
       rcases hk with hk|hk
       ·have:=hown2 k hk;simp;omega
       ·simp;omega))
      have HO2:=aa hown2;clear p2 hown2;go_wp2_with fail
      refine HV.out.mono ?_;rintro e w4 ⟨fi,fa,fc,rfl,b4,h4⟩;have hg4:w4.heap[w3.heap.size]? = some (.cells #[.int .i64 (p:Int)] 3 (0,0)):=(b4.block w3.heap.size (by simp)).trans (World.alloc_heap_new w3 _)
      have B4:=aa (aA (aX w3 _) b4);have p4:=P2.out.below B4.out;have HN:=aa (Mf w4 w3.heap.size p a p4 hg4 (fun h=>by have:=HO2.out _ h;omega) (by omega) LR.out ⟨12,0,op,0,⟨#[]⟩,[],[]⟩ rfl [aZ 40 b,.func (.func fi) fa fc] [aD,dz (rt op)] (by simp) ⟨ba w4 b _,h4,trivial⟩ (HGT.out HC.out))
      have F4:=aa ((FR.out.trans (ay.ae (O:=Or) B2.out) XR.out).trans (ay.ae (O:=Or) B4.out) XR.out);have X4:Hid (Ext O (fun k=>Or k∨k=w3.heap.size) w):=aa fun k hk=>by
       rcases hk with hk|rfl
       ·exact XR.out k hk
       ·exact .inr (aM FR.out.size B2.out.size)
      clear hg4 p4 b4 h4 xi HST RT HV HO2;go_wp2_with fail
      refine HN.out.mono ?_;intro e w5 h5;have F5:=aa (F4.out.trans h5.1 X4.out);rcases h5.2 with ⟨p5,a5,Xj,O5,T5,rfl,q5,x5,l5,k5⟩ | ⟨le,v,er,rfl,⟨g',rfl,m2,m3⟩,k5⟩
      ·have Q5:=aa q5
       have X5:=aa (X4.out.trans x5 F4.out.size);have L5:=aa l5;have K5:=aa k5;clear h5 q5 x5 l5 k5;go_wp2_with fail
       go_roundg (k+1)
       case measure=>omega
       case rel=>exact .inl ⟨p5,a5,Xj,O5,T5,k,rfl,rfl,rfl,Q5.out,F5.out,X5.out,L5.out,K5.out⟩
      ·have M3:=aa m3
       have M2:=aa (aM F4.out.size m2);have K5:=aa k5;clear h5 m2 m3 k5;go_wp2_with fail
       go_roundg (k+1)
       case measure=>omega
       case rel=>exact .inr ⟨le,g',rfl,M2.out,M3.out,F5.out,K5.out⟩
   ·have M3:=aa m3
    have HG:=aa hg;have FR:=aa fr;have KE:=aa ke;clear m3 hg fr ke;go_wp2_with fail
    go_ret2
    exact⟨FR.out,.inr ⟨le,_,_,rfl,⟨g',rfl,HG.out,M3.out⟩,KE.out⟩⟩
 ·have M3:=aa m3
  have M2:=aa m2;have K1:=aa k1;clear h1 m2 m3 k1;go_wp2_with fail
  go_loopg [6,7] 1 (fun z lv ev wr=>lv=v∧ev=.iface 75 (.pointer (some ⟨g',0,none⟩))∧wr=w1)
  case atStart=>exact⟨rfl,rfl,rfl⟩
  case round =>
   obtain⟨rfl,rfl,rfl⟩:=hrel;go_wp2_with fail
   go_ret2
   exact⟨F1.out,.inr ⟨le,_,_,rfl,⟨g',rfl,M2.out,M3.out⟩,K1.out⟩⟩
theorem yH {wp:iT} (hB:rD 178 0 wp):pt 142 wp:=by
 intro b O ts T K E w hp hk;have HN:=aa (hB b O ts T K E w hp hk);clear hp hk hB;go_enter Tryz.func142,Tryz.ntmps142
 go_wp2_with fail
 refine HN.out.mono ?_;intro e wz hz;obtain⟨v,er,rfl⟩:=hz.ret;have HZ:=aa hz;clear hz;go_wp2_with fail
 go_ret2
 exact HZ.out
theorem qm {b:Nat} {O:Nat→Prop} {t:aj} {ts:List aj} {T:List Nd} {K:Ast→List aj→Prop} {E:Int→Prop} (w w2:World) (g:Nat) (hg:g=w2.heap.size) (hp:PS w2 b O (t::ts) T) (hf:ay O w w2) (x:Nd) (hx:x=⟨x.kind,0,x.op,x.num,x.s,[],[]⟩) (vs:List Value) (cO:List cf) (hl:vs.length≤100) (hall:jD w2 b O vs cO)
  (hk:aK cO ⟨{ x with line:=t.2.1},[],t::ts,T.length⟩ (ca K) E):Calls Tryz.prog 19 #[.pointer (some ⟨b,0,none⟩),cZ x (.slice none 0 0) (.slice none 0 0),.slice (some ⟨g,0,none⟩) vs.length vs.length] (w2.alloc (.cells vs.toArray 122)) (aG b O T (RK K E) w):=by
 subst hg;exact cH w w2 hp hf x hx vs cO hl hall hk
set_option maxRecDepth 40000 in
theorem RU (b:Nat) (O:Nat→Prop) (t:aj) (ts:List aj) (T:List Nd) (K:Ast→List aj→Prop) (E:Int→Prop) (w:World) (hp:PS w b O (t::ts) T) (h3:t.1=3)
  (hk:aK [aD] ⟨⟨4,t.2.1,0,t.2.2.1,⟨#[]⟩,[],[]⟩,[],t::ts,T.length⟩ (ca K) E) :
  Calls Tryz.prog 204 #[.pointer (some ⟨b,0,none⟩)] w (aG b O T (RK K E) w):=by
 obtain⟨t0,t1,t2,t3⟩:=t;have HA:=aa (cG b O (t0,t1,t2,t3) ts T w hp);unfold fW at HA;dsimp only at *
 have q3:(t0 == 3)=true:=wD.2 h3;have HK:=aa hk;have P:=aa hp;clear hp hk h3;generalize hS:bK t3=S at *;clear hS;go_enter Tryz.func204,Tryz.ntmps204
 go_wp2_with fail
 refine HA.out.mono ?_;rintro e w1 ⟨rfl,b1⟩;have BL:=aa (aA b1 (aX w1 (.cells #[.int .i64 t0,.int .i64 t1,.int .i64 t2,.string S] 113)));have FL:=aa (ay.ae (O:=O) BL.out);have rE:=aa (P.out.below BL.out);clear b1;have HN:=aa (qm w (w1.alloc (.cells #[.int .i64 t0,.int .i64 t1,.int .i64 t2,.string S] 113)) (w1.heap.size+1) (by simp) rE.out FL.out ⟨4,0,0,t2,⟨#[]⟩,[],[]⟩ rfl [aZ 40 b] [aD] (by simp) ⟨ba _ b O,trivial⟩ HK.out)
 go_wp2_with fail
 refine HN.out.mono ?_;intro e wz hz;obtain⟨v,er,rfl⟩:=hz.ret;have HZ:=aa hz;clear hz;go_wp2_with fail
 go_ret2
 exact HZ.out
set_option maxRecDepth 40000 in
theorem RV (b:Nat) (O:Nat→Prop) (t:aj) (ts:List aj) (T:List Nd) (K:Ast→List aj→Prop) (E:Int→Prop) (w:World) (hp:PS w b O (t::ts) T) (h3:t.1≠3) (h4:t.1=4)
  (hk:aK [aD] ⟨⟨5,t.2.1,0,0,bK t.2.2.2,[],[]⟩,[],t::ts,T.length⟩ (ca K) E) :
  Calls Tryz.prog 204 #[.pointer (some ⟨b,0,none⟩)] w (aG b O T (RK K E) w):=by
 obtain⟨t0,t1,t2,t3⟩:=t;have HA:=aa (cG b O (t0,t1,t2,t3) ts T w hp);unfold fW at HA;dsimp only at *
 have q3:(t0 == 3)=false:=aC.2 h3;have q4:(t0 == 4)=true:=wD.2 h4;have HK:=aa hk;have P:=aa hp;clear hp hk h3 h4;generalize hS:bK t3=S at *;clear hS;go_enter Tryz.func204,Tryz.ntmps204
 go_wp2_with fail
 refine HA.out.mono ?_;rintro e w1 ⟨rfl,b1⟩;have BL:=aa (aA b1 (aX w1 (.cells #[.int .i64 t0,.int .i64 t1,.int .i64 t2,.string S] 113)));have FL:=aa (ay.ae (O:=O) BL.out);have rE:=aa (P.out.below BL.out);clear b1;have HN:=aa (qm w (w1.alloc (.cells #[.int .i64 t0,.int .i64 t1,.int .i64 t2,.string S] 113)) (w1.heap.size+1) (by simp) rE.out FL.out ⟨5,0,0,0,S,[],[]⟩ rfl [aZ 40 b] [aD] (by simp) ⟨ba _ b O,trivial⟩ HK.out)
 go_wp2_with fail
 refine HN.out.mono ?_;intro e wz hz;obtain⟨v,er,rfl⟩:=hz.ret;have HZ:=aa hz;clear hz;go_wp2_with fail
 go_ret2
 exact HZ.out
theorem py {s:List UInt8} {t:aj} (h:aw s t=true):t.1≠3:=by rcases aO h with ⟨l,n,rfl⟩ | ⟨l,n,rfl⟩<;>(intro e;simp at e)
theorem jb {s:List UInt8} {t:aj} (h:aw s t=true):t.1≠4:=by rcases aO h with ⟨l,n,rfl⟩ | ⟨l,n,rfl⟩<;>(intro e;simp at e)
theorem Dl {t:aj} (h:fk t≠0):20≤fk t∧fk t≤23:=by
 cases hu:lD t with
 | none=>exact absurd (by unfold fk;rw[hu]) h
 | some o=>rw[show fk t=o by unfold fk;rw[hu]];exact yq hu
set_option maxRecDepth 40000 in
theorem RW {rt:Int→iT} (hR :∀op,20≤op→op≤23→rD 178 (v7 op) (rt op)) (b:Nat) (O:Nat→Prop) (t:aj) (ts:List aj) (T:List Nd) (K:Ast→List aj→Prop) (E:Int→Prop) (w:World) (hp:PS w b O (t::ts) T) (h3:t.1≠3) (h4:t.1≠4) (hu:fk t≠0)
  (hk:aK [aD,dz (rt (fk t))] ⟨⟨13,t.2.1,fk t,0,⟨#[]⟩,[],[]⟩,[],t::ts,T.length⟩ (ca K) E) :
  Calls Tryz.prog 204 #[.pointer (some ⟨b,0,none⟩)] w (aG b O T (RK K E) w):=by
 obtain⟨t0,t1,t2,t3⟩:=t;have HA:=aa (cG b O (t0,t1,t2,t3) ts T w hp);have HW:=aa (fun W hW=>bS b O (t0,t1,t2,t3) ts T W hW)
 unfold fW at HA;dsimp only at *
 have q3:(t0 == 3)=false:=aC.2 h3;have q4:(t0 == 4)=false:=aC.2 h4;have HU:=aa (fun W=>j8 (t0,t1,t2,t3) W)
 have hr:=Dl hu;have HRR:=aa (hR _ hr.1 hr.2);have HRG:=aa hr;have qu:(fk (t0,t1,t2,t3) != 0)=true:=mL.2 hu;have HK:=aa hk;generalize hop:fk (t0,t1,t2,t3)=op at *;generalize hY:ag (t0,t1,t2,t3)=Y at *;have P:=aa hp;clear hp hk h3 h4 hu hr hop hY hR;generalize hS:bK t3=S at *;clear hS;go_enter Tryz.func204,Tryz.ntmps204
 go_wp2_with fail
 refine HA.out.mono ?_;rintro e w1 ⟨rfl,b1⟩;have BL:=aa (aA b1 (aX w1 (.cells #[.int .i64 t0,.int .i64 t1,.int .i64 t2,.string S] 113)));have FL:=aa (ay.ae (O:=O) BL.out);have rE:=aa (P.out.below BL.out);clear b1;have je:=aa (HW.out _ rE.out);clear HW;go_wp2_with fail
 refine je.out.mono ?_;rintro e w2 ⟨rfl,b2⟩;have F2:=aa (FL.out.trans (ay.ae (O:=O) b2) (Ext.refl _ _));have P2:=aa (rE.out.below b2);clear b2;go_wp2_with fail
 refine(HU.out _).mono ?_;rintro e w3 ⟨rfl,rfl⟩;have F3:=F2;have P3:=P2;have Cn :∀k,O k→k<w3.heap.size:=fun k hk=>(P3.out.own k hk).2
 have V4:=aa (E7 op (by have:=HRG.out;omega) HRG.out.2 HRR.out b O w3 Cn)
 clear Cn;go_wp2_with fail
 refine V4.out.mono ?_;rintro e w4 ⟨f4,a4,c4,rfl,b4,h4⟩;have F4:=aa (F3.out.trans (ay.ae (O:=O) b4) (Ext.refl _ _));have P4:=aa (P3.out.below b4);have H4:=aa h4;clear b4 h4 V4;have HN:=aa (cH w w4 P4.out F4.out ⟨13,0,op,0,⟨#[]⟩,[],[]⟩ rfl [aZ 40 b,.func (.func f4) a4 c4] [aD,dz (rt op)] (by simp) ⟨ba w4 b O,H4.out,trivial⟩ HK.out)
 go_wp2_with fail
 refine HN.out.mono ?_;intro e wz hz;obtain⟨v,er,rfl⟩:=hz.ret;have HZ:=aa hz;clear hz;go_wp2_with fail
 go_ret2
 exact HZ.out
set_option maxRecDepth 40000 in
theorem RX (b:Nat) (O:Nat→Prop) (t:aj) (ts:List aj) (T:List Nd) (K:Ast→List aj→Prop) (E:Int→Prop) (w:World) (hp:PS w b O (t::ts) T) (hq:aw sW t=true)
  (hk:aK [aD] ⟨dA 1 t.2.1,[],t::ts,T.length⟩ (ca K) E) :
  Calls Tryz.prog 204 #[.pointer (some ⟨b,0,none⟩)] w (aG b O T (RK K E) w):=by
 obtain⟨t0,t1,t2,t3⟩:=t;have h3:=py hq;have h4:=jb hq;have hu:fk (t0,t1,t2,t3)=0:=by rcases aO hq with ⟨l,n,e1⟩ | ⟨l,n,e1⟩<;>(rw[e1];rfl)
 have HA:=aa (cG b O (t0,t1,t2,t3) ts T w hp);have HW:=aa (fun W hW=>bS b O (t0,t1,t2,t3) ts T W hW)
 unfold fW at HA;dsimp only at *
 have q3:(t0 == 3)=false:=aC.2 h3;have q4:(t0 == 4)=false:=aC.2 h4;have HU:=aa (fun W=>j8 (t0,t1,t2,t3) W)
 rw[hu] at HU;have g0:((ag (t0,t1,t2,t3)).toList == [110,105,108])=true:=ai (s:=sW) (by decide) _ hq
 have HK:=aa hk;generalize hY:ag (t0,t1,t2,t3)=Y at *;have P:=aa hp;clear hp hk h3 h4 hu hY hq;generalize hS:bK t3=S at *;clear hS;go_enter Tryz.func204,Tryz.ntmps204
 go_wp2_with fail
 refine HA.out.mono ?_;rintro e w1 ⟨rfl,b1⟩;have BL:=aa (aA b1 (aX w1 (.cells #[.int .i64 t0,.int .i64 t1,.int .i64 t2,.string S] 113)));have FL:=aa (ay.ae (O:=O) BL.out);have rE:=aa (P.out.below BL.out);clear b1;have je:=aa (HW.out _ rE.out);go_wp2_with fail
 refine je.out.mono ?_;rintro e w2 ⟨rfl,b2⟩;have F2:=aa (FL.out.trans (ay.ae (O:=O) b2) (Ext.refl _ _));have P2:=aa (rE.out.below b2);clear b2;go_wp2_with fail
 refine(HU.out _).mono ?_;rintro e w3 ⟨rfl,rfl⟩;have lz:=aa (HW.out _ P2.out);go_wp2_with fail
 refine lz.out.mono ?_;rintro e w4 ⟨rfl,b4⟩;have F4:=aa (F2.out.trans (ay.ae (O:=O) b4) (Ext.refl _ _));have P4:=aa (P2.out.below b4);clear b4 HW je lz HU;have HN:=aa (cH w w4 P4.out F4.out (mu 1) rfl [aZ 40 b] [aD] (by simp) ⟨ba w4 b O,trivial⟩ HK.out)
 go_wp2_with fail
 refine HN.out.mono ?_;intro e wz hz;obtain⟨v,er,rfl⟩:=hz.ret;have HZ:=aa hz;clear hz;go_wp2_with fail
 go_ret2
 exact HZ.out
set_option maxRecDepth 40000 in
theorem My (b:Nat) (O:Nat→Prop) (t:aj) (ts:List aj) (T:List Nd) (K:Ast→List aj→Prop) (E:Int→Prop) (w:World) (hp:PS w b O (t::ts) T) (hq:aw mN t=true)
  (hk:aK [aD] ⟨dA 2 t.2.1,[],t::ts,T.length⟩ (ca K) E) :
  Calls Tryz.prog 204 #[.pointer (some ⟨b,0,none⟩)] w (aG b O T (RK K E) w):=by
 obtain⟨t0,t1,t2,t3⟩:=t;have h3:=py hq;have h4:=jb hq;have hu:fk (t0,t1,t2,t3)=0:=by rcases aO hq with ⟨l,n,e1⟩ | ⟨l,n,e1⟩<;>(rw[e1];rfl)
 have HA:=aa (cG b O (t0,t1,t2,t3) ts T w hp);have HW:=aa (fun W hW=>bS b O (t0,t1,t2,t3) ts T W hW)
 unfold fW at HA;dsimp only at *
 have q3:(t0 == 3)=false:=aC.2 h3;have q4:(t0 == 4)=false:=aC.2 h4;have HU:=aa (fun W=>j8 (t0,t1,t2,t3) W)
 rw[hu] at HU;have g0:((ag (t0,t1,t2,t3)).toList == [110,105,108])=false:=ai (s:=sW) (by decide) _ (bs hq (by decide))
 have g1:((ag (t0,t1,t2,t3)).toList == [116,114,117,101])=true:=ai (s:=mN) (by decide) _ hq
 have HK:=aa hk;generalize hY:ag (t0,t1,t2,t3)=Y at *;have P:=aa hp;clear hp hk h3 h4 hu hY hq;generalize hS:bK t3=S at *;clear hS;go_enter Tryz.func204,Tryz.ntmps204
 go_wp2_with fail
 refine HA.out.mono ?_;rintro e w1 ⟨rfl,b1⟩;have BL:=aa (aA b1 (aX w1 (.cells #[.int .i64 t0,.int .i64 t1,.int .i64 t2,.string S] 113)));have FL:=aa (ay.ae (O:=O) BL.out);have rE:=aa (P.out.below BL.out);clear b1;have je:=aa (HW.out _ rE.out);go_wp2_with fail
 refine je.out.mono ?_;rintro e w2 ⟨rfl,b2⟩;have F2:=aa (FL.out.trans (ay.ae (O:=O) b2) (Ext.refl _ _));have P2:=aa (rE.out.below b2);clear b2;go_wp2_with fail
 refine(HU.out _).mono ?_;rintro e w3 ⟨rfl,rfl⟩;have lz:=aa (HW.out _ P2.out);go_wp2_with fail
 refine lz.out.mono ?_;rintro e w4 ⟨rfl,b4⟩;have F4:=aa (F2.out.trans (ay.ae (O:=O) b4) (Ext.refl _ _));have P4:=aa (P2.out.below b4);clear b4 HW je lz HU;have HN:=aa (cH w w4 P4.out F4.out (mu 2) rfl [aZ 40 b] [aD] (by simp) ⟨ba w4 b O,trivial⟩ HK.out)
 go_wp2_with fail
 refine HN.out.mono ?_;intro e wz hz;obtain⟨v,er,rfl⟩:=hz.ret;have HZ:=aa hz;clear hz;go_wp2_with fail
 go_ret2
 exact HZ.out
set_option maxRecDepth 40000 in
theorem H7 (b:Nat) (O:Nat→Prop) (t:aj) (ts:List aj) (T:List Nd) (K:Ast→List aj→Prop) (E:Int→Prop) (w:World) (hp:PS w b O (t::ts) T) (hq:aw kx t=true)
  (hk:aK [aD] ⟨dA 3 t.2.1,[],t::ts,T.length⟩ (ca K) E) :
  Calls Tryz.prog 204 #[.pointer (some ⟨b,0,none⟩)] w (aG b O T (RK K E) w):=by
 obtain⟨t0,t1,t2,t3⟩:=t;have h3:=py hq;have h4:=jb hq;have hu:fk (t0,t1,t2,t3)=0:=by rcases aO hq with ⟨l,n,e1⟩ | ⟨l,n,e1⟩<;>(rw[e1];rfl)
 have HA:=aa (cG b O (t0,t1,t2,t3) ts T w hp);have HW:=aa (fun W hW=>bS b O (t0,t1,t2,t3) ts T W hW)
 unfold fW at HA;dsimp only at *
 have q3:(t0 == 3)=false:=aC.2 h3;have q4:(t0 == 4)=false:=aC.2 h4;have HU:=aa (fun W=>j8 (t0,t1,t2,t3) W)
 rw[hu] at HU;have g0:((ag (t0,t1,t2,t3)).toList == [110,105,108])=false:=ai (s:=sW) (by decide) _ (bs hq (by decide))
 have g1:((ag (t0,t1,t2,t3)).toList == [116,114,117,101])=false:=ai (s:=mN) (by decide) _ (bs hq (by decide))
 have g2:((ag (t0,t1,t2,t3)).toList == [102,97,108,115,101])=true:=ai (s:=kx) (by decide) _ hq
 have HK:=aa hk;generalize hY:ag (t0,t1,t2,t3)=Y at *;have P:=aa hp;clear hp hk h3 h4 hu hY hq;generalize hS:bK t3=S at *;clear hS;go_enter Tryz.func204,Tryz.ntmps204
 go_wp2_with fail
 refine HA.out.mono ?_;rintro e w1 ⟨rfl,b1⟩;have BL:=aa (aA b1 (aX w1 (.cells #[.int .i64 t0,.int .i64 t1,.int .i64 t2,.string S] 113)));have FL:=aa (ay.ae (O:=O) BL.out);have rE:=aa (P.out.below BL.out);clear b1;have je:=aa (HW.out _ rE.out);go_wp2_with fail
 refine je.out.mono ?_;rintro e w2 ⟨rfl,b2⟩;have F2:=aa (FL.out.trans (ay.ae (O:=O) b2) (Ext.refl _ _));have P2:=aa (rE.out.below b2);clear b2;go_wp2_with fail
 refine(HU.out _).mono ?_;rintro e w3 ⟨rfl,rfl⟩;have lz:=aa (HW.out _ P2.out);go_wp2_with fail
 refine lz.out.mono ?_;rintro e w4 ⟨rfl,b4⟩;have F4:=aa (F2.out.trans (ay.ae (O:=O) b4) (Ext.refl _ _));have P4:=aa (P2.out.below b4);clear b4 HW je lz HU;have HN:=aa (cH w w4 P4.out F4.out (mu 3) rfl [aZ 40 b] [aD] (by simp) ⟨ba w4 b O,trivial⟩ HK.out)
 go_wp2_with fail
 refine HN.out.mono ?_;intro e wz hz;obtain⟨v,er,rfl⟩:=hz.ret;have HZ:=aa hz;clear hz;go_wp2_with fail
 go_ret2
 exact HZ.out
set_option maxRecDepth 40000 in
theorem Mz (b:Nat) (O:Nat→Prop) (t:aj) (ts:List aj) (T:List Nd) (K:Ast→List aj→Prop) (E:Int→Prop) (w:World) (hp:PS w b O (t::ts) T) (hq:aw [46,46,46] t=true)
  (hk:aK [aD] ⟨dA 6 t.2.1,[],t::ts,T.length⟩ (ca K) E) :
  Calls Tryz.prog 204 #[.pointer (some ⟨b,0,none⟩)] w (aG b O T (RK K E) w):=by
 obtain⟨t0,t1,t2,t3⟩:=t;have h3:=py hq;have h4:=jb hq;have hu:fk (t0,t1,t2,t3)=0:=by rcases aO hq with ⟨l,n,e1⟩ | ⟨l,n,e1⟩<;>(rw[e1];rfl)
 have HA:=aa (cG b O (t0,t1,t2,t3) ts T w hp);have HW:=aa (fun W hW=>bS b O (t0,t1,t2,t3) ts T W hW)
 unfold fW at HA;dsimp only at *
 have q3:(t0 == 3)=false:=aC.2 h3;have q4:(t0 == 4)=false:=aC.2 h4;have HU:=aa (fun W=>j8 (t0,t1,t2,t3) W)
 rw[hu] at HU;have g0:((ag (t0,t1,t2,t3)).toList == [110,105,108])=false:=ai (s:=sW) (by decide) _ (bs hq (by decide))
 have g1:((ag (t0,t1,t2,t3)).toList == [116,114,117,101])=false:=ai (s:=mN) (by decide) _ (bs hq (by decide))
 have g2:((ag (t0,t1,t2,t3)).toList == [102,97,108,115,101])=false:=ai (s:=kx) (by decide) _ (bs hq (by decide))
 have g3:((ag (t0,t1,t2,t3)).toList == [46,46,46])=true:=ai (s:=[46,46,46]) (by decide) _ hq
 have HK:=aa hk;generalize hY:ag (t0,t1,t2,t3)=Y at *;have P:=aa hp;clear hp hk h3 h4 hu hY hq;generalize hS:bK t3=S at *;clear hS;go_enter Tryz.func204,Tryz.ntmps204
 go_wp2_with fail
 refine HA.out.mono ?_;rintro e w1 ⟨rfl,b1⟩;have BL:=aa (aA b1 (aX w1 (.cells #[.int .i64 t0,.int .i64 t1,.int .i64 t2,.string S] 113)));have FL:=aa (ay.ae (O:=O) BL.out);have rE:=aa (P.out.below BL.out);clear b1;have je:=aa (HW.out _ rE.out);go_wp2_with fail
 refine je.out.mono ?_;rintro e w2 ⟨rfl,b2⟩;have F2:=aa (FL.out.trans (ay.ae (O:=O) b2) (Ext.refl _ _));have P2:=aa (rE.out.below b2);clear b2;go_wp2_with fail
 refine(HU.out _).mono ?_;rintro e w3 ⟨rfl,rfl⟩;have lz:=aa (HW.out _ P2.out);go_wp2_with fail
 refine lz.out.mono ?_;rintro e w4 ⟨rfl,b4⟩;have F4:=aa (F2.out.trans (ay.ae (O:=O) b4) (Ext.refl _ _));have P4:=aa (P2.out.below b4);clear b4 HW je lz HU;have HN:=aa (cH w w4 P4.out F4.out (mu 6) rfl [aZ 40 b] [aD] (by simp) ⟨ba w4 b O,trivial⟩ HK.out)
 go_wp2_with fail
 refine HN.out.mono ?_;intro e wz hz;obtain⟨v,er,rfl⟩:=hz.ret;have HZ:=aa hz;clear hz;go_wp2_with fail
 go_ret2
 exact HZ.out
set_option maxRecDepth 40000 in
theorem yI {bd:cf} (Dm:eB 152 bd) (b:Nat) (O:Nat→Prop) (t:aj) (ts:List aj) (T:List Nd) (K:Ast→List aj→Prop) (E:Int→Prop) (w:World) (hp:PS w b O (t::ts) T) (hq:aw bq t=true)
  (hk:aK [aD,bd] ⟨dA 11 t.2.1,[],t::ts,T.length⟩ (ca K) E) :
  Calls Tryz.prog 204 #[.pointer (some ⟨b,0,none⟩)] w (aG b O T (RK K E) w):=by
 obtain⟨t0,t1,t2,t3⟩:=t;have h3:=py hq;have h4:=jb hq;have hu:fk (t0,t1,t2,t3)=0:=by rcases aO hq with ⟨l,n,e1⟩ | ⟨l,n,e1⟩<;>(rw[e1];rfl)
 have HA:=aa (cG b O (t0,t1,t2,t3) ts T w hp);have HW:=aa (fun W hW=>bS b O (t0,t1,t2,t3) ts T W hW)
 unfold fW at HA;dsimp only at *
 have q3:(t0 == 3)=false:=aC.2 h3;have q4:(t0 == 4)=false:=aC.2 h4;have HU:=aa (fun W=>j8 (t0,t1,t2,t3) W)
 rw[hu] at HU;have g0:((ag (t0,t1,t2,t3)).toList == [110,105,108])=false:=ai (s:=sW) (by decide) _ (bs hq (by decide))
 have g1:((ag (t0,t1,t2,t3)).toList == [116,114,117,101])=false:=ai (s:=mN) (by decide) _ (bs hq (by decide))
 have g2:((ag (t0,t1,t2,t3)).toList == [102,97,108,115,101])=false:=ai (s:=kx) (by decide) _ (bs hq (by decide))
 have g3:((ag (t0,t1,t2,t3)).toList == [46,46,46])=false:=ai (s:=[46,46,46]) (by decide) _ (bs hq (by decide))
 have g4:((ag (t0,t1,t2,t3)).toList == [102,117,110,99,116,105,111,110])=true:=ai (s:=bq) (by decide) _ hq
 have HK:=aa hk;generalize hY:ag (t0,t1,t2,t3)=Y at *;have P:=aa hp;clear hp hk h3 h4 hu hY hq;generalize hS:bK t3=S at *;clear hS;go_enter Tryz.func204,Tryz.ntmps204
 go_wp2_with fail
 refine HA.out.mono ?_;rintro e w1 ⟨rfl,b1⟩;have BL:=aa (aA b1 (aX w1 (.cells #[.int .i64 t0,.int .i64 t1,.int .i64 t2,.string S] 113)));have FL:=aa (ay.ae (O:=O) BL.out);have rE:=aa (P.out.below BL.out);clear b1;have je:=aa (HW.out _ rE.out);go_wp2_with fail
 refine je.out.mono ?_;rintro e w2 ⟨rfl,b2⟩;have F2:=aa (FL.out.trans (ay.ae (O:=O) b2) (Ext.refl _ _));have P2:=aa (rE.out.below b2);clear b2;go_wp2_with fail
 refine(HU.out _).mono ?_;rintro e w3 ⟨rfl,rfl⟩;have lz:=aa (HW.out _ P2.out);go_wp2_with fail
 refine lz.out.mono ?_;rintro e w4 ⟨rfl,b4⟩;have F4:=aa (F2.out.trans (ay.ae (O:=O) b4) (Ext.refl _ _));have P4:=aa (P2.out.below b4);clear b4 HW je lz HU;have HN:=aa (cH w w4 P4.out F4.out (mu 11) rfl [aZ 40 b,aZ 152 b] [aD,bd] (by simp) ⟨ba w4 b O,Dm.part (enters_of Tryz.func152 (by kernel_rfl) rfl) w4 b O,trivial⟩ HK.out)
 go_wp2_with fail
 refine HN.out.mono ?_;intro e wz hz;obtain⟨v,er,rfl⟩:=hz.ret;have HZ:=aa hz;clear hz;go_wp2_with fail
 go_ret2
 exact HZ.out
set_option maxRecDepth 40000 in
theorem RY {it:cf} (Hm:eB 235 it) (b:Nat) (O:Nat→Prop) (t:aj) (ts:List aj) (T:List Nd) (K:Ast→List aj→Prop) (E:Int→Prop) (w:World) (hp:PS w b O (t::ts) T) (hq:aw [123] t=true)
  (hk:aK [aD,dG [125] it,au [[125]]] ⟨dA 15 t.2.1,[],t::ts,T.length⟩ (ca K) E) :
  Calls Tryz.prog 204 #[.pointer (some ⟨b,0,none⟩)] w (aG b O T (RK K E) w):=by
 obtain⟨t0,t1,t2,t3⟩:=t;have h3:=py hq;have h4:=jb hq;have hu:fk (t0,t1,t2,t3)=0:=by rcases aO hq with ⟨l,n,e1⟩ | ⟨l,n,e1⟩<;>(rw[e1];rfl)
 have HA:=aa (cG b O (t0,t1,t2,t3) ts T w hp);have HW:=aa (fun W hW=>bS b O (t0,t1,t2,t3) ts T W hW)
 unfold fW at HA;dsimp only at *
 have q3:(t0 == 3)=false:=aC.2 h3;have q4:(t0 == 4)=false:=aC.2 h4;have HU:=aa (fun W=>j8 (t0,t1,t2,t3) W)
 rw[hu] at HU;have g0:((ag (t0,t1,t2,t3)).toList == [110,105,108])=false:=ai (s:=sW) (by decide) _ (bs hq (by decide))
 have g1:((ag (t0,t1,t2,t3)).toList == [116,114,117,101])=false:=ai (s:=mN) (by decide) _ (bs hq (by decide))
 have g2:((ag (t0,t1,t2,t3)).toList == [102,97,108,115,101])=false:=ai (s:=kx) (by decide) _ (bs hq (by decide))
 have g3:((ag (t0,t1,t2,t3)).toList == [46,46,46])=false:=ai (s:=[46,46,46]) (by decide) _ (bs hq (by decide))
 have g4:((ag (t0,t1,t2,t3)).toList == [102,117,110,99,116,105,111,110])=false:=ai (s:=bq) (by decide) _ (bs hq (by decide))
 have g5:((ag (t0,t1,t2,t3)).toList == [123])=true:=ai (s:=[123]) (by decide) _ hq
 have HK:=aa hk;generalize hY:ag (t0,t1,t2,t3)=Y at *;have P:=aa hp;clear hp hk h3 h4 hu hY hq;generalize hS:bK t3=S at *;clear hS;go_enter Tryz.func204,Tryz.ntmps204
 go_wp2_with fail
 refine HA.out.mono ?_;rintro e w1 ⟨rfl,b1⟩;have BL:=aa (aA b1 (aX w1 (.cells #[.int .i64 t0,.int .i64 t1,.int .i64 t2,.string S] 113)));have FL:=aa (ay.ae (O:=O) BL.out);have rE:=aa (P.out.below BL.out);clear b1;have je:=aa (HW.out _ rE.out);go_wp2_with fail
 refine je.out.mono ?_;rintro e w2 ⟨rfl,b2⟩;have F2:=aa (FL.out.trans (ay.ae (O:=O) b2) (Ext.refl _ _));have P2:=aa (rE.out.below b2);clear b2;go_wp2_with fail
 refine(HU.out _).mono ?_;rintro e w3 ⟨rfl,rfl⟩;have lz:=aa (HW.out _ P2.out);go_wp2_with fail
 refine lz.out.mono ?_;rintro e w4 ⟨rfl,b4⟩;have F4:=aa (F2.out.trans (ay.ae (O:=O) b4) (Ext.refl _ _));have P4:=aa (P2.out.below b4);clear b4 HW je lz HU;have HN:=aa ((RM Hm b O _ ts T K E w4 P4.out HK.out).mono fun _ _ h=>h.after F4.out)
 go_wp2_with fail
 refine HN.out.mono ?_;intro e wz hz;obtain⟨v,er,rfl⟩:=hz.ret;have HZ:=aa hz;clear hz;go_wp2_with fail
 go_ret2
 exact HZ.out
structure MA (t:aj):Prop where
 n3:t.1≠3
 n4:t.1≠4
 un:fk t=0
 a:aw sW t=false
 b:aw mN t=false
 c:aw kx t=false
 d:aw [46,46,46] t=false
 e:aw bq t=false
 f:aw [123] t=false
set_option maxRecDepth 40000 in
theorem RZ {sf:iT} (hS:pt 153 sf) (b:Nat) (O:Nat→Prop) (t:aj) (ts:List aj) (T:List Nd) (K:Ast→List aj→Prop) (E:Int→Prop) (w:World) (hp:PS w b O (t::ts) T) (hq:MA t)
  (hk:sf (t::ts) T.length K E) :
  Calls Tryz.prog 204 #[.pointer (some ⟨b,0,none⟩)] w (aG b O T (RK K E) w):=by
 obtain⟨t0,t1,t2,t3⟩:=t;have h3:=hq.n3;have h4:=hq.n4;have hu:=hq.un;have HA:=aa (cG b O (t0,t1,t2,t3) ts T w hp);have HW:=aa (fun W hW=>bS b O (t0,t1,t2,t3) ts T W hW)
 unfold fW at HA;dsimp only at *
 have q3:(t0 == 3)=false:=aC.2 h3;have q4:(t0 == 4)=false:=aC.2 h4;have HU:=aa (fun W=>j8 (t0,t1,t2,t3) W)
 rw[hu] at HU;have g0:((ag (t0,t1,t2,t3)).toList == [110,105,108])=false:=ai (s:=sW) (by decide) _ hq.a
 have g1:((ag (t0,t1,t2,t3)).toList == [116,114,117,101])=false:=ai (s:=mN) (by decide) _ hq.b
 have g2:((ag (t0,t1,t2,t3)).toList == [102,97,108,115,101])=false:=ai (s:=kx) (by decide) _ hq.c
 have g3:((ag (t0,t1,t2,t3)).toList == [46,46,46])=false:=ai (s:=[46,46,46]) (by decide) _ hq.d
 have g4:((ag (t0,t1,t2,t3)).toList == [102,117,110,99,116,105,111,110])=false:=ai (s:=bq) (by decide) _ hq.e
 have g5:((ag (t0,t1,t2,t3)).toList == [123])=false:=ai (s:=[123]) (by decide) _ hq.f
 have HK:=aa hk;generalize hY:ag (t0,t1,t2,t3)=Y at *;have P:=aa hp;clear hp hk h3 h4 hu hY hq;generalize hS:bK t3=S at *;clear hS;go_enter Tryz.func204,Tryz.ntmps204
 go_wp2_with fail
 refine HA.out.mono ?_;rintro e w1 ⟨rfl,b1⟩;have BL:=aa (aA b1 (aX w1 (.cells #[.int .i64 t0,.int .i64 t1,.int .i64 t2,.string S] 113)));have FL:=aa (ay.ae (O:=O) BL.out);have rE:=aa (P.out.below BL.out);clear b1;have je:=aa (HW.out _ rE.out);go_wp2_with fail
 refine je.out.mono ?_;rintro e w2 ⟨rfl,b2⟩;have F2:=aa (FL.out.trans (ay.ae (O:=O) b2) (Ext.refl _ _));have P2:=aa (rE.out.below b2);clear b2;go_wp2_with fail
 refine(HU.out _).mono ?_;rintro e w3 ⟨rfl,rfl⟩;have lz:=aa (HW.out _ P2.out);go_wp2_with fail
 refine lz.out.mono ?_;rintro e w4 ⟨rfl,b4⟩;have F4:=aa (F2.out.trans (ay.ae (O:=O) b4) (Ext.refl _ _));have P4:=aa (P2.out.below b4);clear b4 HW je lz HU;have HN:=aa ((hS b O _ T K E w4 P4.out HK.out).mono fun _ _ h=>h.after F4.out)
 go_wp2_with fail
 refine HN.out.mono ?_;intro e wz hz;obtain⟨v,er,rfl⟩:=hz.ret;have HZ:=aa hz;clear hz;go_wp2_with fail
 go_ret2
 exact HZ.out
def aaA (op:iT) (li:cf):cf:=fun s K E=>∃t r,s.ts=t::r∧((t.1=4∨aw [123] t=true)→dz op s K E)∧(t.1≠4→aw [123] t=false→aK [au [[40]],dG [41] li,au [[41]]] s K E)
theorem Real.ps {W:World} {b n:Nat} {O:Nat→Prop} {T0:List Nd} {s:St} (h:Real W b n O T0 s) :∃Op T,PS W b Op s.ts T:=by
 obtain⟨Op,On,T,ks,hO,hd,hp,hn,hl,hc⟩:=h.ex;exact⟨Op,T,hp⟩
theorem R9 {op:iT} (hT:pt 204 op) (b n:Nat) (O:Nat→Prop) (T0:List Nd) (s:St) (K:St→Prop) (E:Int→Prop) (w:World) (hr:Real w b n O T0 s) (t:aj) (r:List aj) (hs:s.ts=t::r) (hc:t.1=4∨aw [123] t=true) (hk:dz op s K E):Calls Tryz.prog 211 #[.pointer (some ⟨b,0,none⟩),.pointer (some ⟨n,0,none⟩)] w (bH b n O T0 K E w):=by
 have HA:Hid (Calls Tryz.prog 34 #[.pointer (some ⟨b,0,none⟩)] w fun e w'=>e=.returned (fW t)∧Below w.heap.size w w'):=aa (by
  obtain⟨Op,T,hp⟩:=hr.ps;rw[hs] at hp;exact cG b Op t r T w hp)
 have HW:=aa (fun W hW=>jm hr hs W hW)
 have HR:=aa hr;have aaB:=aa (fun W1 hb=>AG b O 204 _ _ op W1 (hT.one (enters_of Tryz.func204 (by kernel_rfl) rfl) W1 b O) (hr.below (W':=W1) hb).lt)
 have HK:=aa hk;obtain⟨t0,t1,t2,t3⟩:=t;unfold fW at HA;dsimp only at *
 have F0:=AB t0 t1 t2 (bK t3);by_cases h4:t0=4
 ·have q4:(t0 == 4)=true:=wD.2 h4
  clear hr hk hs hc h4 HW;generalize bK t3=S at *;go_enter Tryz.func211,Tryz.ntmps211
  go_wp2_with fail
  refine HA.out.mono ?_;rintro e w1 ⟨rfl,b1⟩;have B1:=aa b1;have HC:=aa (aaB.out w1 b1);clear b1;go_wp2_with fail
  refine HC.out.mono ?_;rintro e w2 ⟨v,rfl,b2,h2⟩;obtain⟨f,first,cap,rfl,ph,bz⟩:=h2.1.call HR.out (aA B1.out b2) HK.out
  have ed:=aa bz;clear h2 bz b2;unfold Enters at ph;go_wp2_with fail
  refine ed.out.mono ?_;intro e w2 h3;obtain⟨v,rfl⟩:=h3.ret;have H3:=aa h3;clear h3;go_wp2_with fail
  go_ret
  exact H3.out
 ·have q4:(t0 == 4)=false:=aC.2 h4
  have hw:aw [123] (t0,t1,t2,t3)=true:=hc.elim (fun h=>(h4 h).elim) id
  have g1:((ag (t0,t1,t2,t3)).toList == [123])=true:=ai (s:=[123]) (by decide) _ hw
  clear hr hk hs hc h4 hw;generalize bK t3=S at *;generalize ag (t0,t1,t2,t3)=Y at *;go_enter Tryz.func211,Tryz.ntmps211
  go_wp2_with fail
  refine HA.out.mono ?_;rintro e w1 ⟨rfl,b1⟩;have B1:=aa b1;have je:=aa (HW.out w1 b1);clear b1;go_wp2_with fail
  refine je.out.mono ?_;rintro e w2 ⟨rfl,b2⟩;have B2:=aa (aA B1.out b2);have HC:=aa (aaB.out w2 B2.out);clear b2;go_wp2_with fail
  refine HC.out.mono ?_;rintro e w3 ⟨v,rfl,b3,h2⟩;obtain⟨f,first,cap,rfl,ph,bz⟩:=h2.1.call HR.out (aA B2.out b3) HK.out
  have ed:=aa bz;clear h2 bz b3;unfold Enters at ph;go_wp2_with fail
  refine ed.out.mono ?_;intro e w2 h3;obtain⟨v,rfl⟩:=h3.ret;have H3:=aa h3;clear h3;go_wp2_with fail
  go_ret
  exact H3.out
theorem MB {li:cf} (hL:eB 84 li) (b n:Nat) (O:Nat→Prop) (T0:List Nd) (s:St) (K:St→Prop) (E:Int→Prop) (w:World) (hr:Real w b n O T0 s) (t:aj) (r:List aj) (hs:s.ts=t::r) (h4:t.1≠4) (hw:aw [123] t=false) (hk:aK [au [[40]],dG [41] li,au [[41]]] s K E):Calls Tryz.prog 211 #[.pointer (some ⟨b,0,none⟩),.pointer (some ⟨n,0,none⟩)] w (bH b n O T0 K E w):=by
 have HA:Hid (Calls Tryz.prog 34 #[.pointer (some ⟨b,0,none⟩)] w fun e w'=>e=.returned (fW t)∧Below w.heap.size w w'):=aa (by
  obtain⟨Op,T,hp⟩:=hr.ps;rw[hs] at hp;exact cG b Op t r T w hp)
 have HW:=aa (fun W hW=>jm hr hs W hW)
 have HR:=aa hr;have HK:=aa hk;obtain⟨t0,t1,t2,t3⟩:=t;unfold fW at HA;dsimp only at *
 have F9:=AB t0 t1 t2 (bK t3);have q4:(t0 == 4)=false:=aC.2 h4;have g1:((ag (t0,t1,t2,t3)).toList == [123])=false:=ai (s:=[123]) (by decide) _ hw
 clear hr hk hs h4 hw;generalize bK t3=S at *;generalize ag (t0,t1,t2,t3)=Y at *;go_enter Tryz.func211,Tryz.ntmps211
 go_wp2_with fail
 refine HA.out.mono ?_;rintro e wa ⟨rfl,b1⟩;have B1:=aa b1;have je:=aa (HW.out wa b1);clear b1;go_wp2_with fail
 refine je.out.mono ?_;rintro e w0 ⟨rfl,b2⟩;have F0:=aa (ay.ae (O:=O) (aA B1.out b2));have P0:=aa (HR.out.below (aA B1.out b2));clear b2 HW je HA;have oN :∀k,O k→k<w0.heap.size:=P0.out.lt;have V1:=aa (cE w0 b O oN [40] (by decide) ⟨#[40]⟩ rfl)
 clear oN;go_wp2_with fail
 refine V1.out.mono ?_;rintro e w1 ⟨f1,a1,c1,rfl,b1,h1⟩;have F1:=aa (F0.out.trans (ay.ae (O:=O) b1) (Ext.refl _ _));have P1:=aa (P0.out.below b1);have H1:=aa h1;clear b1 h1 V1;have ry :∀k,O k→k<w1.heap.size:=P1.out.lt;have V2:=aa (rC w1 b O ry [41] (by decide) ⟨#[41]⟩ rfl 84 _ _ (li) (hL.part (enters_of Tryz.func84 (by kernel_rfl) rfl) w1 b O))
 clear ry;go_wp2_with fail
 refine V2.out.mono ?_;rintro e w2 ⟨f2,a2,c2,rfl,b2,h2⟩;have F2:=aa (F1.out.trans (ay.ae (O:=O) b2) (Ext.refl _ _));have P2:=aa (P1.out.below b2);have L1:=aa (H1.out.later (ay.ae (O:=O) b2) (Ext.refl _ _));clear H1;have H1:=L1;clear L1;have H2:=aa h2;clear b2 h2 V2;have JJ :∀k,O k→k<w2.heap.size:=P2.out.lt;have V3:=aa (cE w2 b O JJ [41] (by decide) ⟨#[41]⟩ rfl)
 clear JJ;go_wp2_with fail
 refine V3.out.mono ?_;rintro e w3 ⟨f3,a3,c3,rfl,b3,h3⟩;have F3:=aa (F2.out.trans (ay.ae (O:=O) b3) (Ext.refl _ _));have P3:=aa (P2.out.below b3);have L1:=aa (H1.out.later (ay.ae (O:=O) b3) (Ext.refl _ _));clear H1;have H1:=L1;clear L1;have L2:=aa (H2.out.later (ay.ae (O:=O) b3) (Ext.refl _ _));clear H2;have H2:=L2;clear L2;have H3:=aa h3;clear b3 h3 V3;have HN:=aa (ji w w3 P3.out F3.out (Ext.refl _ _) [.func (.func f1) a1 c1,.func (.func f2) a2 c2,.func (.func f3) a3 c3] [au [[40]],dG [41] (li),au [[41]]] (by simp) ⟨H1.out,H2.out,H3.out,trivial⟩ HK.out)
 go_wp2_with fail
 refine HN.out.mono ?_;intro e wz hz;obtain⟨v,rfl⟩:=hz.ret;have HZ:=aa hz;clear hz;go_wp2_with fail
 go_ret
 exact HZ.out
theorem aaC {op:iT} {li:cf} (hT:pt 204 op) (hL:eB 84 li):eB 211 (aaA op li):=by
 rintro b n O T0 s K E w hr ⟨t,r,hs,h1,h2⟩;by_cases hc:t.1=4∨aw [123] t=true
 ·exact R9 hT b n O T0 s K E w hr t r hs hc (h1 hc)
 ·have h4:t.1≠4:=fun h=>hc (.inl h)
  have hw:aw [123] t=false:=by
   cases h:aw [123] t with
   | true=>exact(hc (.inr h)).elim
   | false=>rfl
  exact MB hL b n O T0 s K E w hr t r hs h4 hw (h2 h4 hw)
def j9 (b:Nat) (O:Nat→Prop) (kind:Int) (cO:List cf) (w:World) (e:Ending) (w':World):Prop:=∃A m,e=.returned (.tuple #[.int .i64 kind,.slice A m m])∧Below w.heap.size w w'∧aN w' b O (.slice A m m) cO
theorem aN.nil (W:World) (b:Nat) (O:Nat→Prop):aN W b O (.slice none 0 0) []:=⟨[],.inl ⟨rfl,rfl⟩,trivial⟩
theorem Sa (b:Nat) (O:Nat→Prop) (t:aj) (ts:List aj) (T:List Nd) (w:World) (hp:PS w b O (t::ts) T) (hq:aw [46] t=true):Calls Tryz.prog 183 #[.pointer (some ⟨b,0,none⟩)] w (j9 b O 8 [aD,tf] w):=by
 have HW:=aa (bS b O t ts T w hp);have g0:((ag t).toList == [46])=true:=ai (s:=[46]) (by decide) t hq
 have P:=aa hp;generalize ag t=Y at *;clear hp hq;go_enter Tryz.func183,Tryz.ntmps183
 go_wp2_with fail
 refine HW.out.mono ?_;rintro e w0 ⟨rfl,b0⟩;have F0:=aa (ay.ae (O:=O) b0);have P0:=aa (P.out.below b0);have B0:=aa b0;clear b0;have HO:=aa (fun k hk=>(P0.out.own k hk).2)
 have HN:=aa (aN.new (w:=w0) (b:=b) (O:=O) HO.out [aZ 40 b,aZ 179 b] [aD,tf] (by simp) ⟨ba w0 b O,Ma.part (enters_of Tryz.func179 (by kernel_rfl) rfl) w0 b O,trivial⟩)
 go_wp2_with fail
 go_ret2
 exact⟨_,_,rfl,aA B0.out (aX w0 _),HN.out⟩
theorem Xk {ex:cf} (hE:eB 91 ex) (b:Nat) (O:Nat→Prop) (t:aj) (ts:List aj) (T:List Nd) (w:World) (hp:PS w b O (t::ts) T) (hq:aw [91] t=true):Calls Tryz.prog 183 #[.pointer (some ⟨b,0,none⟩)] w (j9 b O 8 [aD,ex,au [[93]]] w):=by
 have HW:=aa (bS b O t ts T w hp);have g0:=aQ [46] hq (by decide)
 have g1:((ag t).toList == [91])=true:=ai (s:=[91]) (by decide) t hq
 have P:=aa hp;generalize ag t=Y at *;clear hp hq;go_enter Tryz.func183,Tryz.ntmps183
 go_wp2_with fail
 refine HW.out.mono ?_;rintro e w0 ⟨rfl,b0⟩;have F0:=aa (ay.ae (O:=O) b0);have P0:=aa (P.out.below b0);have B0:=aa b0;clear b0;have oN :∀k,O k→k<w0.heap.size:=fun k hk=>(P0.out.own k hk).2
 have V1:=aa (cE w0 b O oN [93] (by decide) ⟨#[93]⟩ rfl)
 clear oN;go_wp2_with fail
 refine V1.out.mono ?_;rintro e w1 ⟨f1,a1,c1,rfl,b1,h1⟩;have F1:=aa (F0.out.trans (ay.ae (O:=O) b1) (Ext.refl _ _));have B1:=aa (aA B0.out b1);have P1:=aa (P0.out.below b1);have H1:=aa h1;clear b1 h1 V1;have HO:=aa (fun k hk=>(P1.out.own k hk).2)
 have HN:=aa (aN.new (w:=w1) (b:=b) (O:=O) HO.out [aZ 40 b,aZ 91 b,.func (.func f1) a1 c1] [aD,ex,au [[93]]] (by simp) ⟨ba w1 b O,hE.part (enters_of Tryz.func91 (by kernel_rfl) rfl) w1 b O,H1.out,trivial⟩)
 go_wp2_with fail
 go_ret2
 exact⟨_,_,rfl,aA B1.out (aX w1 _),HN.out⟩
theorem H9 {ar:cf} (hG:eB 211 ar) (b:Nat) (O:Nat→Prop) (t:aj) (ts:List aj) (T:List Nd) (w:World) (hp:PS w b O (t::ts) T) (hq:aw [58] t=true):Calls Tryz.prog 183 #[.pointer (some ⟨b,0,none⟩)] w (j9 b O 10 [aD,cQ,ar] w):=by
 have HW:=aa (bS b O t ts T w hp);have g0:=aQ [46] hq (by decide)
 have g1:=aQ [91] hq (by decide)
 have g2:((ag t).toList == [58])=true:=ai (s:=[58]) (by decide) t hq
 have P:=aa hp;generalize ag t=Y at *;clear hp hq;go_enter Tryz.func183,Tryz.ntmps183
 go_wp2_with fail
 refine HW.out.mono ?_;rintro e w0 ⟨rfl,b0⟩;have F0:=aa (ay.ae (O:=O) b0);have P0:=aa (P.out.below b0);have B0:=aa b0;clear b0;have HO:=aa (fun k hk=>(P0.out.own k hk).2)
 have HN:=aa (aN.new (w:=w0) (b:=b) (O:=O) HO.out [aZ 40 b,aZ 88 b,aZ 211 b] [aD,cQ,ar] (by simp) ⟨ba w0 b O,ij w0 b O,hG.part (enters_of Tryz.func211 (by kernel_rfl) rfl) w0 b O,trivial⟩)
 go_wp2_with fail
 go_ret2
 exact⟨_,_,rfl,aA B0.out (aX w0 _),HN.out⟩
theorem Ia {ar:cf} (hG:eB 211 ar) (b:Nat) (O:Nat→Prop) (t:aj) (ts:List aj) (T:List Nd) (w:World) (hp:PS w b O (t::ts) T) (hq:aw [40] t=true):Calls Tryz.prog 183 #[.pointer (some ⟨b,0,none⟩)] w (j9 b O 9 [ar] w):=by
 have HW:=aa (bS b O t ts T w hp);have g0:=aQ [46] hq (by decide)
 have g1:=aQ [91] hq (by decide)
 have g2:=aQ [58] hq (by decide)
 have g3:((ag t).toList == [40])=true:=ai (s:=[40]) (by decide) t hq
 have P:=aa hp;generalize ag t=Y at *;clear hp hq;go_enter Tryz.func183,Tryz.ntmps183
 go_wp2_with fail
 refine HW.out.mono ?_;rintro e w0 ⟨rfl,b0⟩;have F0:=aa (ay.ae (O:=O) b0);have P0:=aa (P.out.below b0);have B0:=aa b0;clear b0;have HO:=aa (fun k hk=>(P0.out.own k hk).2)
 have HN:=aa (aN.new (w:=w0) (b:=b) (O:=O) HO.out [aZ 211 b] [ar] (by simp) ⟨hG.part (enters_of Tryz.func211 (by kernel_rfl) rfl) w0 b O,trivial⟩)
 go_wp2_with fail
 go_ret2
 exact⟨_,_,rfl,aA B0.out (aX w0 _),HN.out⟩
theorem Ib {ar:cf} (hG:eB 211 ar) (b:Nat) (O:Nat→Prop) (t:aj) (ts:List aj) (T:List Nd) (w:World) (hp:PS w b O (t::ts) T) (hq:aw [123] t=true):Calls Tryz.prog 183 #[.pointer (some ⟨b,0,none⟩)] w (j9 b O 9 [ar] w):=by
 have HW:=aa (bS b O t ts T w hp);have g0:=aQ [46] hq (by decide)
 have g1:=aQ [91] hq (by decide)
 have g2:=aQ [58] hq (by decide)
 have g3:=aQ [40] hq (by decide)
 have g4:((ag t).toList == [123])=true:=ai (s:=[123]) (by decide) t hq
 have P:=aa hp;generalize ag t=Y at *;clear hp hq;go_enter Tryz.func183,Tryz.ntmps183
 go_wp2_with fail
 refine HW.out.mono ?_;rintro e w0 ⟨rfl,b0⟩;have F0:=aa (ay.ae (O:=O) b0);have P0:=aa (P.out.below b0);have B0:=aa b0;clear b0;have HO:=aa (fun k hk=>(P0.out.own k hk).2)
 have HN:=aa (aN.new (w:=w0) (b:=b) (O:=O) HO.out [aZ 211 b] [ar] (by simp) ⟨hG.part (enters_of Tryz.func211 (by kernel_rfl) rfl) w0 b O,trivial⟩)
 go_wp2_with fail
 go_ret2
 exact⟨_,_,rfl,aA B0.out (aX w0 _),HN.out⟩
structure MC (t:aj):Prop where
 a:aw [46] t=false
 b:aw [91] t=false
 c:aw [58] t=false
 d:aw [40] t=false
 e:aw [123] t=false
theorem Sb {ar:cf} (hG:eB 211 ar) (b:Nat) (O:Nat→Prop) (t:aj) (ts:List aj) (T:List Nd) (w:World) (hp:PS w b O (t::ts) T) (hq:MC t) (h4:t.1=4):Calls Tryz.prog 183 #[.pointer (some ⟨b,0,none⟩)] w (j9 b O 9 [ar] w):=by
 have HW:=aa (bS b O t ts T w hp);have g0:((ag t).toList == [46])=false:=ai (s:=[46]) (by decide) t hq.a
 have g1:((ag t).toList == [91])=false:=ai (s:=[91]) (by decide) t hq.b
 have g2:((ag t).toList == [58])=false:=ai (s:=[58]) (by decide) t hq.c
 have g3:((ag t).toList == [40])=false:=ai (s:=[40]) (by decide) t hq.d
 have g4:((ag t).toList == [123])=false:=ai (s:=[123]) (by decide) t hq.e
 have P:=aa hp;have HA:=aa (fun W hW=>cG b O t ts T W hW)
 generalize ag t=Y at *;obtain⟨t0,t1,t2,t3⟩:=t;unfold fW at HA;dsimp only at *
 subst h4;have F9:=AB 4 t1 t2 (bK t3);generalize bK t3=S at *;clear hp hq;go_enter Tryz.func183,Tryz.ntmps183
 go_wp2_with fail
 refine HW.out.mono ?_;rintro e w0 ⟨rfl,b0⟩;have F0:=aa (ay.ae (O:=O) b0);have P0:=aa (P.out.below b0);have B0:=aa b0;clear b0;have HA1:=aa (HA.out _ P0.out);go_wp2_with fail
 refine HA1.out.mono ?_;rintro e w1 ⟨rfl,b1⟩;have F1:=aa (F0.out.trans (ay.ae (O:=O) b1) (Ext.refl _ _));have P1:=aa (P0.out.below b1);have B1:=aa (aA B0.out b1);clear b1;have HO:=aa (fun k hk=>(P1.out.own k hk).2)
 have HN:=aa (aN.new (w:=w1) (b:=b) (O:=O) HO.out [aZ 211 b] [ar] (by simp) ⟨hG.part (enters_of Tryz.func211 (by kernel_rfl) rfl) w1 b O,trivial⟩)
 go_wp2_with fail
 go_ret2
 exact⟨_,_,rfl,aA B1.out (aX w1 _),HN.out⟩
theorem MD (b:Nat) (O:Nat→Prop) (t:aj) (ts:List aj) (T:List Nd) (w:World) (hp:PS w b O (t::ts) T) (hq:MC t) (h4:t.1≠4):Calls Tryz.prog 183 #[.pointer (some ⟨b,0,none⟩)] w (j9 b O 0 [] w):=by
 have HW:=aa (bS b O t ts T w hp);have g0:((ag t).toList == [46])=false:=ai (s:=[46]) (by decide) t hq.a
 have g1:((ag t).toList == [91])=false:=ai (s:=[91]) (by decide) t hq.b
 have g2:((ag t).toList == [58])=false:=ai (s:=[58]) (by decide) t hq.c
 have g3:((ag t).toList == [40])=false:=ai (s:=[40]) (by decide) t hq.d
 have g4:((ag t).toList == [123])=false:=ai (s:=[123]) (by decide) t hq.e
 have P:=aa hp;have HA:=aa (fun W hW=>cG b O t ts T W hW)
 have h4:=h4;generalize ag t=Y at *;obtain⟨t0,t1,t2,t3⟩:=t;unfold fW at HA;dsimp only at *
 have F9:=AB t0 t1 t2 (bK t3);have q4:(t0 == 4)=false:=aC.2 h4;generalize bK t3=S at *;clear hp hq h4;go_enter Tryz.func183,Tryz.ntmps183
 go_wp2_with fail
 refine HW.out.mono ?_;rintro e w0 ⟨rfl,b0⟩;have F0:=aa (ay.ae (O:=O) b0);have P0:=aa (P.out.below b0);have B0:=aa b0;clear b0;have HA1:=aa (HA.out _ P0.out);go_wp2_with fail
 refine HA1.out.mono ?_;rintro e w1 ⟨rfl,b1⟩;have F1:=aa (F0.out.trans (ay.ae (O:=O) b1) (Ext.refl _ _));have P1:=aa (P0.out.below b1);have B1:=aa (aA B0.out b1);clear b1;go_wp2_with fail
 go_ret2
 exact⟨_,_,rfl,B1.out,aN.nil _ _ _⟩
theorem AM {b:Nat} {O:Nat→Prop} {t:aj} {ts:List aj} {T0 T:List Nd} {K:Ast→List aj→Prop} {E:Int→Prop} (w2:World) (g p:Nat) (a:Ast) (hp:PS w2 b O (t::ts) T) (hg:w2.heap[g]? = some (.cells #[.int .i64 (p:Int)] 3 (0,0))) (hgO:¬ O g) (hgb:b+1≤g) (UG:ep T0 T [a] [(p:Int)])
  (x:Nd) (hx:x=⟨x.kind,0,x.op,x.num,x.s,[],[]⟩) (pv:Value) (cO:List cf) (EW:aN w2 b (fun k=>O k∨k=g) pv cO)
  (hk:aK cO ⟨{ x with line:=t.2.1},[a],t::ts,T0.length+a.size⟩ (ca K) E) :
  Calls Tryz.prog 19 #[.pointer (some ⟨b,0,none⟩),cZ x (.slice none 0 0) (.slice (some ⟨g,0,none⟩) 1 1),pv] w2 (aG b (fun k=>O k∨k=g) T0 (RK K E) w2):=by
 have h1:x.line=0:=by rw[hx]
 have h2:x.names=[]:=by rw[hx]
 have qU:g<w2.heap.size:=(aF.1 hg).1;have hz:T.length=T0.length+a.size:=by rw[UG.len,Ast.ak,Ast.ak];omega
 rw[←hz] at hk;have hrow:w2.ownsRow (b+1) 3 1 (.slice (some ⟨g,0,none⟩) 1 1) 1 [.int .i64 (p:Int)]:=⟨rfl,.inr ⟨g,1,#[.int .i64 (p:Int)],rfl,hgb,hg,ah _,by unfold maxLen;omega,rfl,rfl⟩⟩
 have cL:jB w2 b (· = g) { x with kids:=[(p:Int)]} (.slice none 0 0) (.slice (some ⟨g,0,none⟩) 1 1):=by
  refine⟨?_,hrow,fun g hg=>by simp[Value.ownBlock] at hg,fun g hg=>by simp[Value.ownBlock] at hg,fun k hk=>by simpa[Value.ownBlock] using hk.symm⟩
  rw[show({ x with kids:=[(p:Int)]}:Nd).names=[] from h2]
  exact World.ownsRow_nil _ _ _ _
 exact yB b O (· = g) t ts T0 T x t.2.1 [a] [(p:Int)] (.slice none 0 0) (.slice (some ⟨g,0,none⟩) 1 1) pv cO (RK K E) w2 hp cL (fun k hk e=>hgO (e▸hk)) (fun k hk=>⟨by omega,by omega⟩) UG EW (.inl ⟨h1,rfl⟩) hk
def jj (t:aj):Int:=if aw [46] t=true then 8 else if aw [91] t=true then 8 else if aw [58] t=true then 10 else if aw [40] t=true then 9 else if aw [123] t=true then 9 else if t.1=4 then 9 else 0
def E8 (ex ar:cf) (t:aj):List cf:=if aw [46] t=true then [aD,tf] else if aw [91] t=true then [aD,ex,au [[93]]] else if aw [58] t=true then [aD,cQ,ar] else if aw [40] t=true then [ar] else if aw [123] t=true then [ar] else if t.1=4 then [ar] else []
theorem ME {ex ar:cf} (hE:eB 91 ex) (hG:eB 211 ar) (b:Nat) (O:Nat→Prop) (t:aj) (ts:List aj) (T:List Nd) (w:World) (hp:PS w b O (t::ts) T):Calls Tryz.prog 183 #[.pointer (some ⟨b,0,none⟩)] w (j9 b O (jj t) (E8 ex ar t) w):=by
 unfold jj E8;by_cases h1:aw [46] t=true
 ·rw[al h1,al h1];exact Sa b O t ts T w hp h1
 rw[af h1,af h1];by_cases h2:aw [91] t=true
 ·rw[al h2,al h2];exact Xk hE b O t ts T w hp h2
 rw[af h2,af h2];by_cases h3:aw [58] t=true
 ·rw[al h3,al h3];exact H9 hG b O t ts T w hp h3
 rw[af h3,af h3];by_cases h4:aw [40] t=true
 ·rw[al h4,al h4];exact Ia hG b O t ts T w hp h4
 rw[af h4,af h4];by_cases h5:aw [123] t=true
 ·rw[al h5,al h5];exact Ib hG b O t ts T w hp h5
 rw[af h5,af h5];have hn:MC t:=⟨by simpa using h1,by simpa using h2,by simpa using h3,by simpa using h4,by simpa using h5⟩
 by_cases h6:t.1=4
 ·rw[al h6,al h6];exact Sb hG b O t ts T w hp hn h6
 ·rw[af h6,af h6];exact MD b O t ts T w hp hn h6
def uO (ex ar:cf):Nat→Ast→List aj→Nat→(Ast→List aj→Prop)→(Int→Prop)→Prop
 | 0,_,_,_,_,_=>False
 | k+1,a,ts,n,K,E=>∃t r,ts=t::r∧(jj t=0→K a ts)∧(jj t≠0→aK (E8 ex ar t) ⟨dA (jj t) t.2.1,[a],ts,n+a.size⟩ (ca fun a' ax=>uO ex ar k a' ax n K E) E)
def aaD (ex ar:cf):iT:=fun ts n K E=>∃t r,ts=t::r∧Mb ex t r n (fun a fI=>∃m,uO ex ar m a fI n K E) E
theorem Dn {ex ar:cf} (hE:eB 91 ex) (hG:eB 211 ar):pt 153 (aaD ex ar):=by
 rintro b O ts T0 K E w hp ⟨t,r,rfl,hk⟩;have HA:=aa (RI hE b O t r T0 _ E w hp hk);have HSF:=aa (fun(O:Nat→Prop) (t:aj) (ts:List aj) (T:List Nd) (W:World) hW=>ME hE hG b O t ts T W hW)
 clear hp hk hE hG;go_enter Tryz.func153,Tryz.ntmps153
 go_wp2_with fail
 refine HA.out.mono ?_;intro e w1 h1;have F1:=aa h1.1;rcases h1.2 with ⟨p,a,fI,O1,T1,rfl,p1,x1,l1,k1⟩ | ⟨le,v,er,rfl,⟨g',rfl,m2,m3⟩,k1⟩
 ·obtain⟨m,k1⟩:=k1
  have P1:=aa p1;have X1:=aa x1;have L1:=aa l1;have K1:=aa k1;clear h1 p1 x1 l1 k1;go_wp2_with fail
  go_loopg [4,5] (m+1) (fun z lv ev wr=>(∃(p:Nat) (a:Ast) (tr:List aj) (Or:Nat→Prop) (Tr:List Nd) (k:Nat),lv=.int .i64 (p:Int)∧ev=.nilIface∧z=k+1∧PS wr b Or tr Tr∧ay O w wr∧Ext O Or w∧ep T0 Tr [a] [(p:Int)]∧uO ex ar k a tr T0.length K E) ∨
   (∃(le:Int) (g':Nat),ev=.iface 75 (.pointer (some ⟨g',0,none⟩))∧w.heap.size≤g'∧wr.heap[g']? = some (.cells #[.int .i64 6,.int .i64 le] 81 (0,0))∧ay O w wr∧E le))
  case atStart=>exact .inl ⟨p,a,fI,O1,T1,m,rfl,rfl,rfl,P1.out,F1.out,X1.out,L1.out,K1.out⟩
  case round =>
   rcases hrel with ⟨p,a,tr,Or,Tr,k,rfl,rfl,rfl,pr,fr,xr,lr,kr⟩ | ⟨le,g',rfl,hg,m3,fr,ke⟩
   ·cases k with
    | zero=>exact kr.elim
    | succ k =>
     obtain⟨t,r,rfl,hle,PN⟩:=kr;have PR:=aa pr;have FR:=aa fr;have XR:=aa xr;have LR:=aa lr;have HSX:=aa (HSF.out Or t r Tr wr pr);have HLE:=aa hle;have HGT:=aa PN;clear pr fr xr lr hle PN F1 P1 X1 L1 K1 HA;generalize qa:jj t=kd at *;clear qa;go_wp2_with fail
     refine HSX.out.mono ?_;rintro e w2 ⟨Av,mv,rfl,b2,hpv⟩;have B2:=aa b2;have HPV:=aa hpv;clear b2 hpv;by_cases hc:kd=0
     ·subst hc
      go_wp2_with fail
      go_ret2
      exact⟨FR.out.trans (ay.ae (O:=Or) B2.out) XR.out,.inl ⟨p,a,t::r,Or,Tr,rfl,PR.out.below B2.out,XR.out,LR.out,HLE.out (by trivial)⟩⟩
     ·have g1:(kd == 0)=false:=aC.2 hc
      have HC:=aa hc;clear hc;have p2:=PR.out.below B2.out;have P2:=aa p2;have hown2 :∀k,Or k→k<w2.heap.size:=fun k hk=>(p2.own k hk).2
      have hb2:b<w2.heap.size:=(p2.own b p2.at_).2;have HN:=aa (AM (w2.alloc (.cells #[.int .i64 (p:Int)] 3)) w2.heap.size p a (p2.below (aX w2 _)) (World.alloc_heap_new w2 _) (fun h=>by have:=hown2 _ h;omega) (by omega) LR.out ⟨kd,0,0,0,⟨#[]⟩,[],[]⟩ rfl (.slice Av mv mv) _ (HPV.out.later ((ay.refl _ _).alloc _) (fun k hk=>hk.imp id fun h=>by omega)) (HGT.out HC.out))
      have F4:=aa ((FR.out.trans (ay.ae (O:=Or) B2.out) XR.out).trans (ay.ae (O:=Or) (aX w2 (.cells #[.int .i64 (p:Int)] 3))) XR.out);have X4:Hid (Ext O (fun k=>Or k∨k=w2.heap.size) w):=aa fun k hk=>by
       rcases hk with hk|rfl
       ·exact XR.out k hk
       ·exact .inr (aM FR.out.size B2.out.size)
      clear p2 hown2;go_wp2_with fail
      refine HN.out.mono ?_;intro e w5 h5;have F5:=aa (F4.out.trans h5.1 X4.out);rcases h5.2 with ⟨p5,a5,Xj,O5,T5,rfl,q5,x5,l5,k5⟩ | ⟨le,v,er,rfl,⟨g',rfl,m2,m3⟩,k5⟩
      ·have Q5:=aa q5
       have X5:=aa (X4.out.trans x5 F4.out.size);have L5:=aa l5;have K5:=aa k5;clear h5 q5 x5 l5 k5;go_wp2_with fail
       go_roundg (k+1)
       case measure=>omega
       case rel=>exact .inl ⟨p5,a5,Xj,O5,T5,k,rfl,rfl,rfl,Q5.out,F5.out,X5.out,L5.out,K5.out⟩
      ·have M3:=aa m3
       have M2:=aa (aM F4.out.size m2);have K5:=aa k5;clear h5 m2 m3 k5;go_wp2_with fail
       go_roundg (k+1)
       case measure=>omega
       case rel=>exact .inr ⟨le,g',rfl,M2.out,M3.out,F5.out,K5.out⟩
   ·have M3:=aa m3
    have HG:=aa hg;have FR:=aa fr;have KE:=aa ke;clear m3 hg fr ke;go_wp2_with fail
    go_ret2
    exact⟨FR.out,.inr ⟨le,_,_,rfl,⟨g',rfl,HG.out,M3.out⟩,KE.out⟩⟩
 ·have M3:=aa m3
  have M2:=aa m2;have K1:=aa k1;clear h1 m2 m3 k1;go_wp2_with fail
  go_loopg [4,5] 1 (fun _ lv ev wr=>lv=v∧ev=.iface 75 (.pointer (some ⟨g',0,none⟩))∧wr=w1)
  case atStart=>exact⟨rfl,rfl,rfl⟩
  case round =>
   obtain⟨rfl,rfl,rfl⟩:=hrel;go_wp2_with fail
   go_ret2
   exact⟨F1.out,.inr ⟨le,_,_,rfl,⟨g',rfl,M2.out,M3.out⟩,K1.out⟩⟩
end Go.Proofs.YteflkdlaoiijbaaGreatDoor
namespace Go.Proofs.YteflkdlaoiijbaaGreatDoor
theorem MF {t:aj} {o:Int×Nat×Nat} (h:mq t=some o) {s:Nat} (hs:¬ s≤o.2.1) (x:Ast) (ts:List aj):PL (dt (.lvm s x)) (t::ts) (.ok (x,t::ts)):=by
 refine .look ?_;rw[h];show PL (if s≤o.2.1 then _ else _) _ _
 rw[af hs];exact .ret
variable {t1 t2:aj} {o1 o2:Int×Nat×Nat}
end Go.Proofs.YteflkdlaoiijbaaGreatDoor
namespace Go.Proofs.YteflkdlaoiijbaaGreatDoor
open Go.RowKit
abbrev Ic:GL Ast:=dt .una
abbrev Sc:GL Ast:=dt .VI
def yJ (N:Nat):cf:=lM (sL N Sc) ja
section
variable {K:Ast→List aj→Prop} {E:Int→Prop} {K':St→Prop} {N k n:Nat} {h:Nd} {xs:List Ast} {t:aj} {ts:List aj}
theorem Sd (K2:List Ast→List aj→Prop) (B:Nat) (C:List Ast→List aj→Prop) (hC :∀xs ax,Ast.ak xs+2*ax.length≤B→Wf ax→ax.length<N→(∃u us,ax=u::us∧(aw [125] u=true→K2 xs us)∧(aw [125] u=false→E u.2.1))→C xs ax) :
  ∀(m:Nat) (ts:List aj) (n:Nat) (acc:List Ast) (t:aj) (r:List aj),ts=t::r→aw [125] t=false→ts.length<m→ts.length<N→n+2*ts.length≤60000→Ast.ak acc+2*ts.length≤B→Wf ts→Gw (dt (.Uj acc):GL (List Ast)) ts K2 E→sK (sL N Sc) ja m ts n acc C E:=by
 intro m;induction m with
 | zero=>intro ts n acc t r _ _ h;omega
 | succ m ih =>
  rintro ts n acc t r rfl hb h1 h2 h3 hB hf H;have G:=(Gw.look H).neg (by simp[hb])
  refine⟨h2,h3,hf.zu,(Gw.call G).mono fun(e:Ast) ax p hq=>?_⟩
  have hz:e.size+2*ax.length≤2*(t::r).length:=hq.1;have hf':=p.wf hf;have he:=size_pos e;obtain⟨u,us,rfl⟩:=hf'.fin.cons;have hg:=hq.2.look;have hsz:Ast.ak (acc++[e])+2*(u::us).length≤B:=by rw[fj,uJ];omega
  simp only[List.length_cons] at h1 h2 h3 hz hsz;rcases eN (aw [44] u || aw [59] u) with hc|hc
  ·have hnz:u.1≠0:=fun e0=>by simp[aw,e0] at hc
   have hf2:=hf'.tail hnz;obtain⟨v,vs,rfl⟩:=hf2.fin.cons;have e1:ja (u::v::vs)=(!aw [125] v,v::vs):=px hc;show(_→_)∧(_→_)
   rw[e1];have G2:=(Gw.call (hg.pos hc).tok).mono (K':=K2) fun l iy _ hl=>hl.2.ret
   simp only[List.length_cons] at hz hsz;refine⟨fun hv=>ih (v::vs) (n+e.size) (acc++[e]) v vs rfl (by simpa using hv) (by simp only[List.length_cons];omega) (by simp only[List.length_cons];omega) (by simp only[List.length_cons];omega) (by simp only[List.length_cons];omega) hf2 G2,fun hv=>?_⟩
   have hv':aw [125] v=true:=by simpa using hv
   exact hC _ _ (by simp only[List.length_cons];omega) hf2 (by simp only[List.length_cons];omega) ⟨v,vs,rfl,fun _=>((Gw.look G2).pos hv').tok.ret,fun hx=>by rw[hv'] at hx;exact(gb hx.symm).elim⟩
  ·have e1:ja (u::us)=(false,u::us):=xg hc
   show(_→_)∧(_→_)
   rw[e1];have G2:=hg.neg (by simp[hc])
   exact⟨fun hb=>(gb hb).elim,fun _=>hC _ _ (by simp only[List.length_cons];omega) hf' (by simp only[List.length_cons];omega) ⟨u,us,rfl,fun hw=>(G2.want.1 hw).ret,G2.want.2⟩⟩
theorem MG {at_:Int} (hI:Rm N k ⟨dA 15 at_,[],ts,n⟩) (H:Gw (.call (.Uj []) fun(l:List Ast)=>.ret (nd 15 at_ l):GL Ast) ts K E):aK [dG [125] (yJ N),au [[125]]] ⟨dA 15 at_,[],ts,n⟩ (ca K) E:=by
 obtain⟨t,r,iW⟩:=hI.cons;dsimp only at iW
 subst iW;have hn:=hI.n;have hx:=hI.xs;have hl:=hI.len;dsimp only at hn hx hl
 have G:=(Gw.call H).mono (K':=fun(l:List Ast) ax=>K (nd 15 at_ l) ax) fun l ax _ hq=>hq.2.ret
 refine⟨t,r,rfl,fun hw=>?_,fun hw=>?_⟩
 ·have G2:=((Gw.look G).pos hw).tok.ret
  refine⟨t,r,rfl,fun _=>cB (hI.tok (h':=dA 15 at_) (aW hw)) G2,fun hw2=>?_⟩
  rw[hw] at hw2;exact(gb hw2.symm).elim
 ·refine⟨by simp,(t::r).length+1,by omega,?_⟩
  refine Sd _ (2*(t::r).length) _ (fun xs ax h1 h2 h3 h4=>?_) ((t::r).length+1) (t::r) n [] t r rfl hw (dC _) hl (by omega) (by rw[cD];omega) hI.wf G
  obtain⟨u,us,rfl,h5,h6⟩:=h4;refine⟨u,us,rfl,fun hu=>?_,h6⟩
  exact⟨by show n+Ast.ak xs≤_;omega,h5 hu⟩
end
def UM (ts:List aj) (v:Ast) (ax:List aj):Prop:=v.hd.kind=7→∃t,ts=t::ax∧t.1=1
def E9:(n:NT)→List aj→VT n→List aj→Prop
 | .aR x,ts,v,ax=>(Ast.hd v).kind=7→v=x∧ax=ts
 | .lvm _ x,ts,v,ax=>(Ast.hd v).kind=7→v=x∧ax=ts
 | .Gk,ts,v,ax=>UM ts v ax
 | .Uk,ts,v,ax=>UM ts v ax
 | .una,ts,v,ax=>UM ts v ax
 | .exp _,ts,v,ax=>UM ts v ax
 | .JB _ _,_,v,_=>(Ast.hd v).kind=11
 | _,_,_,_=>True
section
variable {α:Type} {Q:α→List aj→Prop}
abbrev Np (g:GL α) (ts:List aj) (Q:α→List aj→Prop):Prop:=Wp E9 g ts Q
theorem nD {f:aj→GL α} {ts:List aj} (h :∀t ax,ts=t::ax→Np (f t) (t::ax) Q):Np (.look f) ts Q:=fun t ax e=>by
 subst e;exact h t ax rfl
theorem gX {f:aj→GL α} {t:aj} {ts:List aj} (h:Np (f t) ts Q):Np (.tok f) (t::ts) Q:=fun u us e=>by
 injection e with e1 e2;subst e1 e2;exact h
theorem ew {n:NT} {k:VT n→GL α} {ts:List aj} (h :∀v ax,E9 n ts v ax→Np (k v) ax Q):Np (.call n k) ts Q:=h
theorem gY {c:Prop} [Decidable c] {g g':GL α} {ts:List aj} (h1:c→Np g ts Q) (h2:¬ c→Np g' ts Q):Np (if c then g else g') ts Q:=by
 by_cases h:c
 ·rw[al h];exact h1 h
 ·rw[af h];exact h2 h
theorem rF {s:List UInt8} {k:aj→GL α} {ts:List aj} (h :∀t ax,Np (k t) ax Q):Np (want s k) ts Q:=nD fun t ax _=>gY (fun _=>gX (h t ax)) fun _=>trivial
theorem MH {k:aj→GL α} {ts:List aj} (h :∀t ax,Np (k t) ax Q):Np (name k) ts Q:=nD fun t ax _=>gY (fun _=>gX (h t ax)) fun _=>trivial
end
theorem MI {k:Int} {P:Prop} {l:Int} {o nn:Int} {s:ByteArray} {ns:List ByteArray} {ks:List Int} {as_:List Ast} (hk:k≠7):(Ast.hd (.mk ⟨k,l,o,nn,s,ns,ks⟩ as_)).kind=7→P:=fun h=>absurd h hk
theorem aaE (n:NT) (ts:List aj):Np (dt n) ts (E9 n ts):=by
 cases n with
 | aR x =>
  refine nD fun t ax e=>?_
  subst e;have key :∀(y:Ast) (iy:List aj),(∀P:Prop,y.hd.kind=7→P)→Np (.call (.aR y) fun(v:Ast)=>.ret v:GL Ast) iy (E9 (.aR x) (t::ax)):=fun y iy hy=>ew fun(v:Ast) Cl (h:v.hd.kind=7→v=y∧Cl=iy)=>fun(hv:v.hd.kind=7)=>by
   have:=(h hv).1;subst this;exact hy _ hv
  refine gY (fun _=>gX (MH fun u us=>key _ _ fun P=>MI (by decide))) fun _=>gY (fun _=>gX (ew fun(e:Ast) us _=>rF fun _ PO=>key _ _ fun P=>MI (by decide))) fun _ =>
   gY (fun _=>gX (MH fun u us=>ew fun(l:List Ast) PO _=>key _ _ fun P=>MI (by decide))) fun _=>gY (fun _=>ew fun(l:List Ast) PO _=>key _ _ fun P=>MI (by decide)) fun _=>?_
  exact fun _=>⟨rfl,rfl⟩
 | lvm s x =>
  refine nD fun t ax e=>?_
  subst e;cases ho:mq t with
  | none=>exact fun _=>⟨rfl,rfl⟩
  | some o =>
   refine gY (fun _=>gX (ew fun(y:Ast) us _=>ew fun(v:Ast) PO (h:v.hd.kind=7→v=Zb 12 t.2.1 o.1 [x,y]∧PO=us)=>fun(hv:v.hd.kind=7)=>?_)) fun _=>fun _=>⟨rfl,rfl⟩
   have:=(h hv).1;subst this;exact absurd hv (by show(12:Int)≠7;decide)
 | Gk =>
  refine nD fun t ax e=>?_
  subst e;refine gY (fun ht=>gX (ew fun(v:Ast) us (h:v.hd.kind=7→v=mh 7 t.2.1 (bK t.2.2.2) []∧us=ax)=>fun(hv:v.hd.kind=7)=>⟨t,by rw[(h hv).2],ht⟩)) fun _ =>
   gY (fun _=>gX (ew fun(e:Ast) us _=>rF fun _ PO=>ew fun(v:Ast) us3 (h:v.hd.kind=7→v=nd 14 t.2.1 [e]∧us3=PO)=>fun(hv:v.hd.kind=7)=>?_)) fun _=>trivial
  have:=(h hv).1;subst this;exact absurd hv (by show(14:Int)≠7;decide)
 | exp s =>
  refine ew fun(x:Ast) us (h1:UM ts x us)=>ew fun(y:Ast) PO (h2:y.hd.kind=7→y=x∧PO=us)=>fun(hv:y.hd.kind=7)=>?_
  obtain⟨rfl,rfl⟩:=h2 hv;exact h1 hv
 | una =>
  refine nD fun t ax e=>?_
  subst e;cases ho:lD t with
  | none=>exact ew fun(v:Ast) us (h:UM (t::ax) v us)=>h
  | some o=>exact gX (ew fun(v:Ast) us _=>fun hv=>absurd hv (by show(13:Int)≠7;decide))
 | Uk =>
  refine nD fun t ax e=>?_
  subst e;refine gY (fun _=>gX ?_) fun _=>gY (fun _=>gX ?_) fun _=>gY (fun _=>gX ?_) fun _=>gY (fun _=>gX ?_) fun _=>gY (fun _=>gX (ew fun(f:Ast) us (h:f.hd.kind=11)=>?_)) fun _=>gY (fun _=>gX (ew fun(l:List Ast) us _=>?_)) fun _=>gY (fun _=>gX ?_) fun _=>gY (fun _=>gX ?_) fun _=>ew fun(v:Ast) us (h:UM (t::ax) v us)=>h
  ·exact MI (by decide)
  ·exact MI (by decide)
  ·exact MI (by decide)
  ·exact MI (by decide)
  ·exact fun(hv:f.hd.kind=7)=>absurd (h.symm.trans hv) (by decide)
  ·exact MI (by decide)
  ·exact MI (by decide)
  ·exact MI (by decide)
 | JB at_ self =>
  refine rF fun _ us=>nD fun t ax e=>?_
  subst e;exact gY (fun _=>gX (ew fun(b:Ast) PO _=>rF fun _ _=>rfl)) fun _=>ew fun(p:List ByteArray×Int) PO _=>rF fun _ _=>ew fun(b:Ast) _ _=>rF fun _ _=>rfl
 | _=>exact Wp.always _ _ _ fun _ _=>trivial
end Go.Proofs.YteflkdlaoiijbaaGreatDoor
namespace Go.Proofs.YteflkdlaoiijbaaGreatDoor
open Go.RowKit
section
variable {K:Ast→List aj→Prop} {E:Int→Prop} {K':St→Prop} {N k n:Nat} {h:Nd} {xs:List Ast} {t:aj} {ts:List aj}
theorem kZ {t:aj} (hI:Rm N k ⟨h,xs,t::ts,n⟩) (ht:t.1≠0) (hk:Rm N (k+2) ⟨h,xs,ts,n⟩→K' ⟨h,xs,ts,n⟩):aD ⟨h,xs,t::ts,n⟩ K' E:=⟨t,ts,rfl,ht,hk (hI.tok ht)⟩
theorem Rm.hd {h':Nd} (hI:Rm N k ⟨h,xs,ts,n⟩):Rm N k ⟨h',xs,ts,n⟩:=⟨hI.len,hI.n,hI.xs,hI.wf⟩
theorem Se {t:aj} (h:t.1=1) (s:List UInt8):aw s t=false:=by simp[aw,h]
theorem uP {t:aj} (h:t.1≠2) (h5:t.1≠5):lD t=none:=by simp[lD,aw,h,h5]
theorem MJ {t u:aj} {us:List aj} (ht:t.1=1) (hu:aw [61] u=true):PL (rB 1) (t::u::us) (.ok (mh 7 t.2.1 (bK t.2.2.2) [],u::us)):=by
 have hq :∀s:List UInt8,s≠[61]→¬ aw s u=true:=fun s hs=>aV hu hs
 have hk:u.1=2∨u.1=5:=by rcases aO hu with ⟨l,m,rfl⟩ | ⟨l,m,rfl⟩<;>simp
 have acv:PL (dt (.aR (mh 7 t.2.1 (bK t.2.2.2) []))) (u::us) (.ok (mh 7 t.2.1 (bK t.2.2.2) [],u::us)):=by
  refine .look ?_;have e1:¬ ((aw [40] u || aw [123] u || decide (u.1=4))=true):=by
   have h1:=hq [40] (by decide)
   have h2:=hq [123] (by decide)
   have h4:¬ u.1=4:=by omega
   simp[h1,h2,h4]
  rw[af (hq [46] (by decide)),af (hq [91] (by decide)),af (hq [58] (by decide)),af e1]
  exact .ret
 have acw:mq u=none:=by
  have :∀s:List UInt8,s≠[61]→aw s u=false:=fun s hs=>bs hu hs
  unfold mq;rw[this _ (by decide),this _ (by decide),this _ (by decide),this _ (by decide),this _ (by decide),this _ (by decide),this _ (by decide),this _ (by decide),this _ (by decide),this _ (by decide),this _ (by decide),this _ (by decide),this _ (by decide),this _ (by decide),this _ (by decide),this _ (by decide),this _ (by decide),this _ (by decide),this _ (by decide)]
  rfl
 have acx:PL (dt (.lvm 1 (mh 7 t.2.1 (bK t.2.2.2) []))) (u::us) (.ok (mh 7 t.2.1 (bK t.2.2.2) [],u::us)):=by
  refine .look ?_;rw[acw];exact .ret
 refine .call (n:=NT.una) (.look ?_) (.call acx .ret);rw[uP (by omega) (by omega)]
 refine .call (n:=NT.Uk) (.look ?_) .ret;have hn :∀s:List UInt8,¬ aw s t=true:=fun s=>by rw[Se ht];decide
 rw[af (hn _),af (hn _),af (hn _),af (hn _),af (hn _),af (hn _),af (by omega),af (by omega)]
 refine .call (n:=NT.Gk) (.look ?_) .ret;rw[al ht];exact .tok (.call acv .ret)
theorem Sf (hI:Rm N k ⟨h,[],t::ts,n⟩) (H:Gw Sc (t::ts) K E):UF (oy N) t ts n K E:=by
 have G:=Gw.look H;have hn:=hI.n;have hx:=hI.xs;have hlen:=hI.len;dsimp only at hn hx hlen
 refine⟨fun hw=>?_,fun hw=>⟨fun hf=>?_,fun hf=>?_⟩⟩
 ·exact kZ (hI.hd (h':=dA 17 t.2.1)) (aW hw) fun hI=>fS hI (G.pos hw).tok fun e _ hI _ G=>LU hI G fun _ _ hI _ G=>fS hI G fun v _ hI _ G=>cB hI G.ret
 ·have G:=Gw.call (G.neg (by simp[hw]))
  cases ts with
  | nil=>simp[lN] at hf
  | cons u us =>
   have hf':t.1=1∧u.1=5∧u.2.2.2=[61]:=by simpa[lN,uM] using hf
   have hu:aw [61] u=true:=by simp[aw,hf'.2.1,hf'.2.2]
   have G2:=(G.1 _ _ (MJ (us:=us) hf'.1 hu)).2;have G3:=(Gw.look G2).pos ⟨hu,rfl⟩;show dz (dU (mu 5) [cQ]) _ (fun s'=>aK [aD,oy N] s' (ca K) E) E
   refine jF (by simp) ⟨t,u::us,t.2.1,rfl,.inl ⟨rfl,rfl⟩,⟨t,u::us,rfl,fun _=>⟨by dsimp only;omega,nC.mk ?_⟩,fun h=>absurd hf'.1 h⟩⟩
   have hz:Ast.ak [mh 5 t.2.1 (bK t.2.2.2) []]=1:=by rw[uJ,kW,cD]
   have oz:Rm N k ⟨dA 17 t.2.1,[mh 5 t.2.1 (bK t.2.2.2) []],u::us,n+Ast.ak [mh 5 t.2.1 (bK t.2.2.2) []]⟩:=⟨by show(u::us).length<N;rw[List.length_cons] at hlen;omega,by show n+Ast.ak _+2*(u::us).length+k≤60000;rw[hz];rw[List.length_cons] at hn;omega,by show 1+2*(u::us).length+k≤60000;rw[List.length_cons,List.length_nil] at hx;omega,hI.wf.tail (by rw[hf'.1];decide)⟩
   exact kZ oz (aW hu) fun hI=>fS hI G3.tok fun v _ hI _ G=>cB hI G.ret
 ·have G:=Gw.call (G.neg (by simp[hw]))
  refine jF (by simp) ⟨hlen,by show n+2*(t::ts).length≤60000;omega,hI.wf.zu,G.mono fun(e:Ast) ax p hq=>nC.mk ?_⟩
  have hz:e.size+2*ax.length+1≤2*(t::ts).length:=hq.1;have yF:=p.wf hI.wf;obtain⟨u,us,rfl⟩:=yF.fin.cons;have hno:¬ (aw [61] u=true∧e.hd.kind=7):=fun⟨h1,h2⟩=>by
   have h3:UM (t::ts) e (u::us):=p.holds aaE;obtain⟨t',e1,e2⟩:=h3 h2;injection e1 with e3 e4;subst e3 e4;have h5:u.1=5∧u.2.2.2=[61]:=by
    have hl:=(yF.zu u (bT ..)).2;rcases aO h1 with ⟨l,m,rfl⟩ | ⟨l,m,rfl⟩
    ·exact absurd rfl (hl rfl)
    ·exact⟨rfl,rfl⟩
   simp[lN,uM,e2,h5.1,h5.2] at hf
  refine⟨by show n+Ast.ak [e]≤_;rw[uJ];omega,?_⟩
  exact((Gw.look hq.2).neg hno).ret
def rtP (N:Nat) (op:Int):iT:=sL N (rB (v7 op+1).toNat)
theorem MK {α:Type} {K:α→List aj→Prop} {s:Nat} {kk:Ast→GL α} (hI:Rm N k ⟨h,xs,ts,n⟩) (H:Gw (.call (.exp s) kk) ts K E)
  (hk :∀(e:Ast) (ax:List aj),Rm N (k+1) ⟨h,xs++[e],ax,n+Ast.ak [e]⟩→ax.length<ts.length→Gw (kk e) ax K E→K' ⟨h,xs++[e],ax,n+Ast.ak [e]⟩):dz (sL N (rB s)) ⟨h,xs,ts,n⟩ K' E:=by
 refine jF (by have:=hI.xs;dsimp only at *;omega) ⟨hI.len,by have:=hI.n;dsimp only at *;omega,hI.wf.zu,?_⟩
 refine(Gw.call H).mono fun(e:Ast) ax p hq=>?_
 have hz:e.size+2*ax.length+1≤2*ts.length:=hq.1;exact nC.mk (hk e ax (hI.kids (by rw[uJ];omega) (PL.short p) (p.wf hI.wf)) (by omega) hq.2)
theorem Xl {s:Nat} {l:Int} (hs:l+1=(s:Int)) (hl0:0≤l) :∀(m:Nat) (ts:List aj) (a:Ast) (k:Nat),ts.length<m→Rm N k ⟨dA 0 0,[a],ts,n+a.size⟩→Gw (dt (.lvm s a):GL Ast) ts K E→AK (rtP N) l m a ts n K E:=by
 intro m;induction m with
 | zero=>intro ts a k h;omega
 | succ m ih =>
  intro ts a k h1 hI H;obtain⟨t,r,rfl⟩:=hI.wf.fin.cons;have G:=Gw.look H;refine⟨t,r,rfl,fun hle=>?_,fun PN=>?_⟩
  ·cases ho:mq t with
   | none=>rw[ho] at G;exact G.ret
   | some o =>
    rw[ho] at G;have hb:=lP ho;rw[hb.1] at hle;exact(G.neg (by show ¬ s≤o.2.1;omega)).ret
  ·cases ho:mq t with
   | none =>
    rw[xh ho] at PN;exact absurd (show JK 0≤l from hl0) PN
   | some o =>
    rw[ho] at G;have hb:=lP ho;rw[hb.1] at PN ⊢;have G2:=(G.pos (show s≤o.2.1 by omega)).tok
    have he:(v7 o.1+1).toNat=o.2.2:=by rw[hb.2.2.1];rfl
    have oz:Rm N k ⟨⟨12,t.2.1,o.1,0,⟨#[]⟩,[],[]⟩,[a],t::r,n+a.size⟩:=⟨hI.len,hI.n,hI.xs,hI.wf⟩;refine kZ oz (EP ho) fun hI=>?_
    show dz (sL N (rB (v7 o.1+1).toNat)) _ _ _
    rw[he];refine MK hI G2 fun y r2 hI hlt G=>⟨by have:=hI.n;dsimp only at *;omega,?_⟩
    have G3:=(Gw.call G).mono (K':=K) fun v iy _ hv=>hv.2.ret
    refine ih r2 _ 0 (by simp at h1;omega) ⟨hI.len,?_,?_,hI.wf⟩ G3
    ·have h1:=hI.n
     rw[uJ] at h1;show n+Ast.size (Zb 12 t.2.1 o.1 [a,y])+2*r2.length+0≤60000
     rw[AA,ie,uJ];dsimp only at h1
     omega
    ·have h1:=hI.xs
     show 1+2*r2.length+0≤60000
     dsimp only at h1
     omega
theorem UN {x:Ast} {ts:List aj} {r:Except Int (Ast×List aj)} (h:PL (dt (.lvm 12 x):GL Ast) ts r):r=.ok (x,ts):=by
 cases ts with
 | nil=>cases h
 | cons t ts =>
  cases ho:mq t with
  | none=>exact P.one h (.look (by rw[ho];exact .ret))
  | some o =>
   have hb:=lP ho;have hno:¬ 12≤o.2.1:=by
    have:JK o.1≤10:=by
     obtain⟨_,_,_,h7,h8⟩:=hb;have h9:o.1=1∨o.1=2∨o.1=3∨o.1=4∨o.1=5∨o.1=6∨o.1=7∨o.1=8∨o.1=9∨o.1=10∨o.1=11∨o.1=12∨o.1=13∨o.1=14∨o.1=15∨o.1=16∨o.1=17∨o.1=18∨o.1=19:=by omega
     rcases h9 with h|h|h|h|h|h|h|h|h|h|h|h|h|h|h|h|h|h|h<;>(rw[h];decide)
    omega
   exact P.one h (MF ho hno x ts)
theorem UO {ts:List aj} {r:Except Int (Ast×List aj)} (h:PL (rB 12) ts r):PL Ic ts r:=by
 cases h with
 | @call _ n k ts fI v r h1 h2 =>
  cases h2 with
  | @call _ n2 k2 ts iy v2 r h3 h4 =>
   have h5:=UN (x:=v) h3;injection h5 with h5;injection h5 with h6 h7;cases h4;have h8:PL Ic ts (.ok ((v:Ast),fI)):=h1;have e6:(v2:Ast)=v:=h6;show PL Ic ts (.ok ((v2:Ast),iy))
   rw[e6,h7];exact h8
  | iv h3 =>
   have h5:=UN (x:=v) h3;cases h5
 | iv h1=>exact h1
end
end Go.Proofs.YteflkdlaoiijbaaGreatDoor
