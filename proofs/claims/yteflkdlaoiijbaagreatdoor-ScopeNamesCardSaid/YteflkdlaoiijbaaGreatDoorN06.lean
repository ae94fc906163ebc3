/- Parts of the proof. -/
import Derived.Test.YteflkdlaoiijbaaGreatDoorN05
set_option maxHeartbeats 16000000
set_option maxRecDepth 20000
namespace Go.Proofs.YteflkdlaoiijbaaGreatDoor
open Go.RowKit
theorem Ia (w:World) (b:Nat) (O:Nat→Prop) (hO :∀k,O k→k<w.heap.size) (x y:List UInt8) (hx:x≠[]) (hy:y≠[]) (X Y:ByteArray) (hX:X=bb x) (hY:Y=bb y) :
  Calls Tryz.prog 89 #[.pointer (some ⟨b,0,none⟩),.slice (some ⟨w.heap.size,0,none⟩) 2 2] (w.alloc (.cells #[.string X,.string Y] 9)) (j6 b O (au [x,y]) w):=by
 subst hX hY;refine(EW b w.heap.size O [x,y] (w.alloc (.cells #[.string (bb x),.string (bb y)] 9)) (fun z hz=>by rcases bn.1 hz with rfl|hz;exact hx;rw[bP.1 hz];exact hy) (by simp) (eB.new w O hO _ 9) (fun k hk=>by have:=hO k hk;simp;omega) 2 rfl).mono ?_
 rintro e w' ⟨v,rfl,hb,hp,f,first,cap,rfl⟩
 exact⟨f,first,cap,rfl,aB (aW w _) hb,hp⟩
theorem pA (w:World) (b:Nat) (O:Nat→Prop) (hO :∀k,O k→k<w.heap.size) (vs:List Value) (cD:List bR) (hl:vs.length≤100) (h:jF w b O vs cD) (x:List UInt8) (hx:x≠[]) (X:ByteArray) (hX:X=bb x) :
  Calls Tryz.prog 42 #[.pointer (some ⟨b,0,none⟩),.string X,.slice (some ⟨w.heap.size,0,none⟩) vs.length vs.length] (w.alloc (.cells vs.toArray 122)) (j6 b O (bu x cD) w):=by
 refine(wX b O x X hX hx _ cD _ (aN.new hO vs cD hl h) (fun k hk=>by have:=hO k hk;simp;omega)).mono ?_
 rintro e w' ⟨v,rfl,hb,hp,f,first,cap,rfl⟩
 exact⟨f,first,cap,rfl,aB (aW w _) hb,hp⟩
theorem So (w:World) (b:Nat) (O:Nat→Prop) (hO :∀k,O k→k<w.heap.size) (vs:List Value) (cD:List bR) (hl:vs.length≤100) (h:jF w b O vs cD) (x:List UInt8) (hx:x≠[]) (X:ByteArray) (hX:X=bb x) :
  Calls Tryz.prog 92 #[.pointer (some ⟨b,0,none⟩),.string X,.slice (some ⟨w.heap.size,0,none⟩) vs.length vs.length] (w.alloc (.cells vs.toArray 122)) (j6 b O (rl x cD) w):=by
 refine(De b O x X hX hx _ cD _ (aN.new hO vs cD hl h) (fun k hk=>by have:=hO k hk;simp;omega)).mono ?_
 rintro e w' ⟨v,rfl,hb,hp,f,first,cap,rfl⟩
 exact⟨f,first,cap,rfl,aB (aW w _) hb,hp⟩
theorem rz (w:World) (b:Nat) (O:Nat→Prop) (hO :∀k,O k→k<w.heap.size) (x:List UInt8) (hx:x≠[]) (X:ByteArray) (hX:X=bb x) (f:FuncId) (first cap:Array Value) (wp:bR) (h:eA w b O (.func (.func f) first cap) wp) :
  Calls Tryz.prog 180 #[.pointer (some ⟨b,0,none⟩),.string X,.func (.func f) first cap] w (j6 b O (dv x wp) w):=by
 refine(LZ b O x X hX hx f first cap wp w h hO).mono ?_
 rintro e w' ⟨v,rfl,hb,hp,f,first,cap,rfl⟩
 exact⟨f,first,cap,rfl,hb,hp⟩
theorem jl {b n:Nat} {O O2:Nat→Prop} {T0:List Nd} {s:St} {K:St→Prop} {E:Int→Prop} (w w2:World) (hr:Real w2 b n O2 T0 s) (hf:az O w w2) (he:Ext O O2 w) (vs:List Value) (cD:List bR) (hl:vs.length≤100) (hall:jF w2 b O2 vs cD) (hk:aJ cD s K E) :
  Calls Tryz.prog 35 #[.pointer (some ⟨n,0,none⟩),.slice (some ⟨w2.heap.size,0,none⟩) vs.length vs.length] (w2.alloc (.cells vs.toArray 122)) (bx b n O T0 K E w) :=
 (uu b n O2 T0 s K E _ cD _ (hr.below (aW w2 _)) (aN.new hr.lt vs cD hl hall) hk).mono fun e w' h=>by
  obtain⟨h1,h2⟩:=h;have hf2:az O2 w2 w':=((az.refl O2 w2).alloc _).trans h1 (Ext.refl _ _);refine⟨hf.trans hf2 he,h2.imp ?_ ?_⟩
  ·rintro⟨s',O',e1,r1,x1,k1⟩
   exact⟨s',O',e1,r1,he.trans (fun k hk=>(x1 k hk).imp id fun h=>by simp at h;omega) hf.size,k1⟩
  ·rintro⟨l,v,e1,⟨g,m1,m2,m3⟩,k⟩
   exact⟨l,v,e1,⟨g,m1,by have:=hf.size;simp at m2;omega,m3⟩,k⟩
theorem Mu {pa bl:bR} (acN:ep 181 pa) (hB:ep 90 bl):ep 152 (fun s K E=>aJ [au [[40]],dv [41] pa,au [[41]],bl,au [gP]] s K E):=by
 intro b n O T0 s K E w0 hr hk;have HK:=aa hk;have P0:=aa hr;have F0:=aa (az.refl O w0);clear hr hk;go_enter Tryz.func152,Tryz.ntmps152
 have oV :∀k,O k→k<w0.heap.size:=P0.out.lt;have V1:=aa (cf w0 b O oV [40] (by decide) ⟨#[40]⟩ rfl)
 clear oV;go_wp2_with fail
 refine V1.out.mono ?_;rintro e w1 ⟨f1,a1,c1,rfl,b1,h1⟩;have F1:=aa (F0.out.trans (az.ae (O:=O) b1) (Ext.refl _ _));have P1:=aa (P0.out.below b1);have H1:=aa h1;clear b1 h1 V1;have rq :∀k,O k→k<w1.heap.size:=P1.out.lt;have V2:=aa (rz w1 b O rq [41] (by decide) ⟨#[41]⟩ rfl 181 _ _ (pa) (acN.part (enters_of Tryz.func181 (by kernel_rfl) rfl) w1 b O))
 clear rq;go_wp2_with fail
 refine V2.out.mono ?_;rintro e w2 ⟨f2,a2,c2,rfl,b2,h2⟩;have F2:=aa (F1.out.trans (az.ae (O:=O) b2) (Ext.refl _ _));have P2:=aa (P1.out.below b2);have L1:=aa (H1.out.later (az.ae (O:=O) b2) (Ext.refl _ _));clear H1;have H1:=L1;clear L1;have H2:=aa h2;clear b2 h2 V2;have JX :∀k,O k→k<w2.heap.size:=P2.out.lt;have V3:=aa (cf w2 b O JX [41] (by decide) ⟨#[41]⟩ rfl)
 clear JX;go_wp2_with fail
 refine V3.out.mono ?_;rintro e w3 ⟨f3,a3,c3,rfl,b3,h3⟩;have F3:=aa (F2.out.trans (az.ae (O:=O) b3) (Ext.refl _ _));have P3:=aa (P2.out.below b3);have L1:=aa (H1.out.later (az.ae (O:=O) b3) (Ext.refl _ _));clear H1;have H1:=L1;clear L1;have L2:=aa (H2.out.later (az.ae (O:=O) b3) (Ext.refl _ _));clear H2;have H2:=L2;clear L2;have H3:=aa h3;clear b3 h3 V3;have Cq :∀k,O k→k<w3.heap.size:=P3.out.lt;have V4:=aa (cf w3 b O Cq [101,110,100] (by decide) ⟨#[101,110,100]⟩ rfl)
 clear Cq;go_wp2_with fail
 refine V4.out.mono ?_;rintro e w4 ⟨f4,a4,c4,rfl,b4,h4⟩;have F4:=aa (F3.out.trans (az.ae (O:=O) b4) (Ext.refl _ _));have P4:=aa (P3.out.below b4);have L1:=aa (H1.out.later (az.ae (O:=O) b4) (Ext.refl _ _));clear H1;have H1:=L1;clear L1;have L2:=aa (H2.out.later (az.ae (O:=O) b4) (Ext.refl _ _));clear H2;have H2:=L2;clear L2;have L3:=aa (H3.out.later (az.ae (O:=O) b4) (Ext.refl _ _));clear H3;have H3:=L3;clear L3;have H4:=aa h4;clear b4 h4 V4;have HN:=aa (jl w0 w4 P4.out F4.out (Ext.refl _ _) [.func (.func f1) a1 c1,.func (.func f2) a2 c2,.func (.func f3) a3 c3,aY 90 b,.func (.func f4) a4 c4] [au [[40]],dv [41] (pa),au [[41]],bl,au [[101,110,100]]] (by simp) ⟨H1.out,H2.out,H3.out,hB.part (enters_of Tryz.func90 (by kernel_rfl) rfl) w4 b O,H4.out,trivial⟩ HK.out)
 go_wp2_with fail
 refine HN.out.mono ?_;intro e wz hz;obtain⟨v,rfl⟩:=hz.ret;have HZ:=aa hz;clear hz;go_wp2_with fail
 go_ret
 exact HZ.out
theorem Sp {it:bR} (H7:ep 235 it) (b:Nat) (O:Nat→Prop) (t:aj) (ts:List aj) (T:List Nd) (K:Ast→List aj→Prop) (E:Int→Prop) (w0:World) (hp:PS w0 b O (t::ts) T)
  (hk:aJ [aC,dv [125] it,au [[125]]] ⟨dp 15 t.2.1,[],t::ts,T.length⟩ (bO K) E) :
  Calls Tryz.prog 225 #[.pointer (some ⟨b,0,none⟩)] w0 (aF b O T (RK K E) w0):=by
 have HK:=aa hk;have P0:=aa hp;have F0:=aa (az.refl O w0);clear hp hk;go_enter Tryz.func225,Tryz.ntmps225
 have oV :∀k,O k→k<w0.heap.size:=fun k hk=>(P0.out.own k hk).2
 have V1:=aa (rz w0 b O oV [125] (by decide) ⟨#[125]⟩ rfl 235 _ _ (it) (H7.part (enters_of Tryz.func235 (by kernel_rfl) rfl) w0 b O))
 clear oV;go_wp2_with fail
 refine V1.out.mono ?_;rintro e w1 ⟨f1,a1,c1,rfl,b1,h1⟩;have F1:=aa (F0.out.trans (az.ae (O:=O) b1) (Ext.refl _ _));have P1:=aa (P0.out.below b1);have H1:=aa h1;clear b1 h1 V1;have rq :∀k,O k→k<w1.heap.size:=fun k hk=>(P1.out.own k hk).2
 have V2:=aa (cf w1 b O rq [125] (by decide) ⟨#[125]⟩ rfl)
 clear rq;go_wp2_with fail
 refine V2.out.mono ?_;rintro e w2 ⟨f2,a2,c2,rfl,b2,h2⟩;have F2:=aa (F1.out.trans (az.ae (O:=O) b2) (Ext.refl _ _));have P2:=aa (P1.out.below b2);have L1:=aa (H1.out.later (az.ae (O:=O) b2) (Ext.refl _ _));clear H1;have H1:=L1;clear L1;have H2:=aa h2;clear b2 h2 V2;have HN:=aa (cr w0 w2 P2.out F2.out (mC 15) rfl [aY 40 b,.func (.func f1) a1 c1,.func (.func f2) a2 c2] [aC,dv [125] (it),au [[125]]] (by simp) ⟨bc w2 b O,H1.out,H2.out,trivial⟩ HK.out)
 go_wp2_with fail
 refine HN.out.mono ?_;intro e wz hz;obtain⟨v,er,rfl⟩:=hz.ret;have HZ:=aa hz;clear hz;go_wp2_with fail
 go_ret2
 exact HZ.out
theorem PS.next {W:World} {b:Nat} {O:Nat→Prop} {t u:aj} {ts:List aj} {T:List Nd} (h:PS W b O (t::u::ts) T) :
  ∃(i g n c:Nat),W.cell? ⟨b,0,none⟩=some (.slice (some ⟨g,0,none⟩) n c)∧W.cell? ⟨b,1,none⟩=some (.int .i64 (i:Int))∧i+1<n∧n≤20000∧n≤c ∧
   W.cell? ⟨g,(i+1)*4,none⟩=some (.int .i64 u.1)∧W.cell? ⟨g,(i+1)*4+1,none⟩=some (.int .i64 u.2.1)∧W.cell? ⟨g,(i+1)*4+2,none⟩=some (.int .i64 u.2.2.1)∧W.cell? ⟨g,(i+1)*4+3,none⟩=some (.string (bb u.2.2.2)):=by
 obtain⟨TS,i,g,c,nv,L,a1,a2,a3,a4,a5,a6,a7⟩:=h.ex;obtain⟨g',cap,e,h1,h2,h3⟩:=a2.ex;have hg:g=g'∧c=cap:=by injection e with e1 _ e3;injection e1 with e1;injection e1 with e1;exact⟨e1,e3⟩
 obtain⟨rfl,rfl⟩:=hg;have hi:TS[i+1]? = some u:=by
  have:=ax (·[1]?) a4
  simpa[zH] using this
 have hlt:=(aL.1 hi).1;obtain⟨b0,b1,b2,b3⟩:=h3 (i+1) u hi;exact⟨i,g,TS.length,c,by simp[World.cell?,a1],by simp[World.cell?,a1],hlt,a5,h1,b0,b1,b2,b3⟩
def uD (t u:aj):Bool:=decide (t.1=1) && (decide (u.1=5) && decide (u.2.2.2=[61]))
theorem XD (l s:List UInt8):((bb l).toList == s)=decide (l=s):=by
 rw[Lib.toList_data];show((bb l).data.toList == s)=_
 by_cases h:l=s<;>simp[bb,h]
theorem Dl (b:Nat) (O:Nat→Prop) (t:aj) (ts:List aj) (T:List Nd) (w:World) (h:PS w b O (t::ts) T) (ht:t.1≠1):Calls Tryz.prog 241 #[.pointer (some ⟨b,0,none⟩)] w (nB w false):=by
 obtain⟨t0,t1,t2,t3⟩:=t;have HA:=aa (cj b O (t0,t1,t2,t3) ts T w h);unfold fS at HA;dsimp only at HA ht
 have F0:=AH t0 t1 t2 (bb t3);have g1:(t0 == 1)=false:=aE.2 ht;have g1':(t0 != 1)=true:=oO.2 ht;clear h ht;go_enter Tryz.func241,Tryz.ntmps241
 go_wp2_with fail
 refine HA.out.mono ?_;rintro e w1 ⟨rfl,b1⟩;have B1:=aa b1;clear b1;go_wp2_with fail
 go_ret
 exact⟨rfl,B1.out⟩
theorem Sq (b:Nat) (O:Nat→Prop) (t u:aj) (ts:List aj) (T:List Nd) (w:World) (h:PS w b O (t::u::ts) T) (ht:t.1=1) (r:Bool) (hr:(decide (u.1=5) && decide (u.2.2.2=[61]))=r):Calls Tryz.prog 241 #[.pointer (some ⟨b,0,none⟩)] w (nB w r):=by
 obtain⟨t0,t1,t2,t3⟩:=t;have HA:=aa (cj b O (t0,t1,t2,t3) (u::ts) T w h);unfold fS at HA;dsimp only at HA ht
 subst ht;have F0:=AH 1 t1 t2 (bb t3);have HP:=aa h;clear h;go_enter Tryz.func241,Tryz.ntmps241
 go_wp2_with fail
 refine HA.out.mono ?_;rintro e w1 ⟨rfl,b1⟩;obtain⟨i,g,n,c,c0,c1,hi,hn,hc,d0,d1,d2,d3⟩:=(HP.out.below b1).next;have hb:b<w1.heap.size:=World.block_lt_of_cell? w1 _ c1;have hg:g<w1.heap.size:=World.block_lt_of_cell? w1 _ d0;have B1:=aa b1;obtain⟨u0,u1,u2,u3⟩:=u;dsimp only at *
 clear b1;have hbt:((bb u3).toList == [61])=decide (u3=[61]):=XD u3 [61];generalize bb u3=S at *;by_cases h5:u0=5
 ·subst h5
  have hr2:decide (u3=[61])=r:=by simpa using hr
  rw[hr2] at hbt;clear hr hr2;cases r <;>
  ·go_wp2_with fail
   go_region
   all_goals go_wp2
   all_goals go_ret
   all_goals exact⟨rfl,aB B1.out (aW w1 _).drew⟩
 ·have g5:(u0 == 5)=false:=aE.2 h5
  have hd:false=r:=by simpa[h5] using hr
  subst hd;clear h5 hr hbt;go_wp2_with fail
  go_region
  all_goals go_wp2
  all_goals go_ret
  all_goals exact⟨rfl,aB B1.out (aW w1 _).drew⟩
def iW:List aj→Bool×List aj
 | []=>(false,[])
 | t::r=>if (av [44] t || av [59] t)=true then (match r with
  | []=>true
  | u::_=>!av [125] u,r) else (false,t::r)
theorem pB {t u:aj} {us:List aj} (h:(av [44] t || av [59] t)=true):iW (t::u::us)=(!av [125] u,u::us):=by simp only[iW,h,if_true]
theorem xh {t:aj} {us:List aj} (h:(av [44] t || av [59] t)=false):iW (t::us)=(false,t::us):=by simp[iW,h]
theorem Mv (b g:Nat) (O:Nat→Prop) (t:aj) (ts:List aj) (T:List Nd) (w:World) (h:PS w b O (t::ts) T) (b0:eB w O g #[.pointer (some ⟨b,0,none⟩)] 116) (r:Bool) (tr:List aj) (hr:iW (t::ts)=(r,tr)):Calls Tryz.prog 239 #[.pointer (some ⟨g,0,none⟩)] w (kS b O tr T r w):=by
 have c0:=b0.cell 0;have HB:=aa b0;have AO :∀k,k=b→O k:=fun k hk=>hk▸h.at_
 have HO:=aa AO;clear b0 AO;by_cases h1:av [44] t=true
 ·have h1':(av [44] t || av [59] t)=true:=by rw[h1];rfl
  have ji:=(h.fin.tail (tn h1)).cons;obtain⟨u,us,rfl⟩:=ji;have UR:(!av [125] u)=r∧u::us=tr:=by
   rw[pB h1'] at hr;injection hr with e1 e2;exact⟨e1,e2⟩
  obtain⟨hr1,rfl⟩:=UR;have HC:=aa (j5 b O t (u::us) T w h h1);clear h h1 h1' hr;have g1:((ag u).toList == [125])=(!r):=ai (s:=[125]) (by decide) u (by rw[←hr1];simp)
  clear hr1;go_enter Tryz.func239,Tryz.ntmps239
  go_wp2_with fail
  refine HC.out.mono ?_;rintro e w1 ⟨rfl,p1,f1⟩;have c1:=(HB.out.later (f1.mono HO.out) (Ext.refl _ _)).cell 0;have HW:=aa (bI b O u us T w1 p1);generalize ag u=Y at *;have P1:=aa p1;have F1:=aa f1;clear p1 f1 c0;cases r <;>
  ·go_wp2_with fail
   refine HW.out.mono ?_;rintro e w2 ⟨rfl,b2⟩;have B2:=aa b2;clear b2;go_wp2_with fail
   go_ret
   exact⟨rfl,P1.out.below B2.out,F1.out.trans (az.ae (O:=(· = b)) B2.out) (Ext.refl _ _)⟩
 ·have Mw:av [44] t=false:=by simpa using h1
  have HC:=aa (lS b O t ts T w h Mw);by_cases h2:av [59] t=true
  ·have h1':(av [44] t || av [59] t)=true:=by rw[h2];simp
   have ji:=(h.fin.tail (tn h2)).cons;obtain⟨u,us,rfl⟩:=ji;have UR:(!av [125] u)=r∧u::us=tr:=by
    rw[pB h1'] at hr;injection hr with e1 e2;exact⟨e1,e2⟩
   obtain⟨hr1,rfl⟩:=UR;have HT:=aa (fun(W:World) hW=>lR b O t (u::us) T [59] ⟨#[59]⟩ rfl W hW (by decide) h2)
   clear h h1 Mw h2 h1' hr;have g1:((ag u).toList == [125])=(!r):=ai (s:=[125]) (by decide) u (by rw[←hr1];simp)
   clear hr1;go_enter Tryz.func239,Tryz.ntmps239
   go_wp2_with fail
   refine HC.out.mono ?_;rintro e w1 ⟨rfl,p1,f1⟩;have c1:=(HB.out.later (f1.mono HO.out) (Ext.refl _ _)).cell 0;have F1:=aa f1;have AR:=aa (HT.out w1 p1);clear p1 f1 c0;go_wp2_with fail
   refine AR.out.mono ?_;rintro e w2 ⟨rfl,p2,f2⟩;have F2:=aa (F1.out.trans f2 (Ext.refl _ _));have c2:=(HB.out.later (F2.out.mono HO.out) (Ext.refl _ _)).cell 0;have HW:=aa (bI b O u us T w2 p2);generalize ag u=Y at *;have P2:=aa p2;clear p2 f2 c1;cases r <;>
   ·go_wp2_with fail
    refine HW.out.mono ?_;rintro e w3 ⟨rfl,b2⟩;have B2:=aa b2;clear b2;go_wp2_with fail
    go_ret
    exact⟨rfl,P2.out.below B2.out,F2.out.trans (az.ae (O:=(· = b)) B2.out) (Ext.refl _ _)⟩
  ·have h2f:av [59] t=false:=by simpa using h2
   have HT:=aa (fun(W:World) hW=>n7 b O t ts T [59] ⟨#[59]⟩ rfl W hW (by decide) h2f)
   have UR:false=r∧t::ts=tr:=by
    rw[xh (by rw[Mw,h2f];rfl)] at hr
    injection hr with e1 e2;exact⟨e1,e2⟩
   obtain⟨rfl,rfl⟩:=UR;clear h h1 Mw h2 h2f hr;go_enter Tryz.func239,Tryz.ntmps239
   go_wp2_with fail
   refine HC.out.mono ?_;rintro e w1 ⟨rfl,p1,f1⟩;have c1:=(HB.out.later (f1.mono HO.out) (Ext.refl _ _)).cell 0;have F1:=aa f1;have AR:=aa (HT.out w1 p1);clear p1 f1 c0;go_wp2_with fail
   refine AR.out.mono ?_;rintro e w2 ⟨rfl,p2,f2⟩;have F2:=aa (F1.out.trans f2 (Ext.refl _ _));have P2:=aa p2;clear p2 f2 c1;go_wp2_with fail
   go_ret
   exact⟨rfl,P2.out,F2.out⟩
theorem Dm {W:World} {b g:Nat} {O:Nat→Prop} (b0:eB W O g #[.pointer (some ⟨b,0,none⟩)] 116):yB W b O (.func (.func 239) #[] #[.pointer (some ⟨g,0,none⟩)]) iW:=by
 intro W1 O1 T ts hf he hp;obtain⟨t,r,rfl⟩:=hp.fin.cons;exact⟨239,_,_,rfl,enters_of Tryz.func239 (by kernel_rfl) rfl,Mv b g O1 t r T W1 hp (b0.later hf he) _ _ rfl⟩
theorem Sr {wp:iQ} (hE:pz 238 wp):ep 235 (lT wp iW):=by
 intro b n O T0 s K E w hr hk;have hO:=hr.lt;have h1:=eB.new w O hO #[.pointer (some ⟨b,0,none⟩)] 116;have HC:=aa (yE b O 238 239 _ _ _ _ wp iW (w.alloc (.cells #[.pointer (some ⟨b,0,none⟩)] 116)) (hE.one (enters_of Tryz.func238 (by kernel_rfl) rfl) _ b O) (Dm h1) (fun k hk=>by have:=hO k hk;simp;omega))
 have HR:=aa hr;have HK:=aa hk;clear hr hk h1 hO;go_enter Tryz.func235,Tryz.ntmps235
 go_wp2_with fail
 refine HC.out.mono ?_;rintro e w1 ⟨v,rfl,b1,h2⟩;obtain⟨f,first,cap,rfl,pt,bq⟩:=h2.1.call HR.out (aB (aW w _) b1) HK.out
 have dS:=aa bq;clear h2 bq b1;unfold Enters at pt;go_wp2_with fail
 refine dS.out.mono ?_;intro e w2 h3;obtain⟨v,rfl⟩:=h3.ret;have H3:=aa h3;clear h3;go_wp2_with fail
 go_ret
 exact H3.out
def lU (t:aj):List aj→Bool
 | []=>false
 | u::_=>uD t u
theorem Ib (b:Nat) (O:Nat→Prop) (t:aj) (ts:List aj) (T:List Nd) (w:World) (h:PS w b O (t::ts) T) (r:Bool) (hr:lU t ts=r):Calls Tryz.prog 241 #[.pointer (some ⟨b,0,none⟩)] w (nB w r):=by
 by_cases h1:t.1=1
 ·obtain⟨u,us,rfl⟩:=(h.fin.tail (by rw[h1];decide)).cons
  refine Sq b O t u us T w h h1 r ?_;rw[←hr];simp[lU,uD,h1]
 ·have hf:false=r:=by
   rw[←hr];cases ts<;>simp[lU,uD,h1]
  rw[←hf];exact Dl b O t ts T w h h1
def U6 (ex:bR) (t:aj) (ts:List aj) (n:Nat) (K:Ast→List aj→Prop) (E:Int→Prop):Prop :=
 (av [91] t=true→aJ [aC,ex,au [[93],[61]],ex] ⟨dp 17 t.2.1,[],t::ts,n⟩ (bO K) E)∧(av [91] t=false→(lU t ts=true→aJ [s5,aC,ex] ⟨dp 17 t.2.1,[],t::ts,n⟩ (bO K) E)∧(lU t ts=false→aJ [ex] ⟨dp 16 t.2.1,[],t::ts,n⟩ (bO K) E))
theorem XE {ex:bR} (hE:ep 91 ex) (b:Nat) (O:Nat→Prop) (t:aj) (ts:List aj) (T:List Nd) (K:Ast→List aj→Prop) (E:Int→Prop) (w:World) (hp:PS w b O (t::ts) T) (hk:U6 ex t ts T.length K E) :
  Calls Tryz.prog 238 #[.pointer (some ⟨b,0,none⟩)] w (aF b O T (RK K E) w):=by
 have HW:=aa (bI b O t ts T w hp);have HF:=aa (fun W hW=>Ib b O t ts T W hW)
 cases hq:av [91] t with
 | true =>
  ·have g1:((ag t).toList == [91])=true:=ai (s:=[91]) (by decide) t hq
   have HK:=aa (hk.1 hq);generalize hY:ag t=Y at *;have P:=aa hp;clear hp hk hY hq HF;go_enter Tryz.func238,Tryz.ntmps238
   go_wp2_with fail
   refine HW.out.mono ?_;rintro e w0 ⟨rfl,b0⟩;have F0:=aa (az.ae (O:=O) b0);have P0:=aa (P.out.below b0);clear b0;have oV :∀k,O k→k<w0.heap.size:=fun k hk=>(P0.out.own k hk).2
   have V1:=aa (Ia w0 b O oV [93] [61] (by decide) (by decide) ⟨#[93]⟩ ⟨#[61]⟩ rfl rfl)
   clear oV;go_wp2_with fail
   refine V1.out.mono ?_;rintro e w1 ⟨f1,a1,c1,rfl,b1,h1⟩;have F1:=aa (F0.out.trans (az.ae (O:=O) b1) (Ext.refl _ _));have P1:=aa (P0.out.below b1);have H1:=aa h1;clear b1 h1 V1;have HN:=aa (cr w w1 P1.out F1.out (mC 17) rfl [aY 40 b,aY 91 b,.func (.func f1) a1 c1,aY 91 b] [aC,ex,au [[93],[61]],ex] (by simp) ⟨bc w1 b O,hE.part (enters_of Tryz.func91 (by kernel_rfl) rfl) w1 b O,H1.out,hE.part (enters_of Tryz.func91 (by kernel_rfl) rfl) w1 b O,trivial⟩ HK.out)
   go_wp2_with fail
   refine HN.out.mono ?_;intro e wz hz;obtain⟨v,er,rfl⟩:=hz.ret;have HZ:=aa hz;clear hz;go_wp2_with fail
   go_ret2
   exact HZ.out
 | false =>
  cases hf:lU t ts with
  | true =>
   ·have g1:((ag t).toList == [91])=false:=ai (s:=[91]) (by decide) t hq
    have HK:=aa ((hk.2 hq).1 hf);have lV:=aa (fun W hW=>HF.out W hW true hf)
    generalize hY:ag t=Y at *;have P:=aa hp;clear hp hk hY hq HF hf;go_enter Tryz.func238,Tryz.ntmps238
    go_wp2_with fail
    refine HW.out.mono ?_;rintro e w0 ⟨rfl,b0⟩;have F0:=aa (az.ae (O:=O) b0);have P0:=aa (P.out.below b0);clear b0;have Fa:=aa (lV.out w0 P0.out);clear lV;go_wp2_with fail
    refine Fa.out.mono ?_;rintro e w1 ⟨rfl,b1⟩;have F1:=aa (F0.out.trans (az.ae (O:=O) b1) (Ext.refl _ _));have P1:=aa (P0.out.below b1);clear b1;have HN:=aa (cr w w1 P1.out F1.out (mC 17) rfl [aY 179 b,aY 40 b,aY 91 b] [s5,aC,ex] (by simp) ⟨Ms.part (enters_of Tryz.func179 (by kernel_rfl) rfl) w1 b O,bc w1 b O,hE.part (enters_of Tryz.func91 (by kernel_rfl) rfl) w1 b O,trivial⟩ HK.out)
    go_wp2_with fail
    refine HN.out.mono ?_;intro e wz hz;obtain⟨v,er,rfl⟩:=hz.ret;have HZ:=aa hz;clear hz;go_wp2_with fail
    go_ret2
    exact HZ.out
  | false =>
   ·have g1:((ag t).toList == [91])=false:=ai (s:=[91]) (by decide) t hq
    have HK:=aa ((hk.2 hq).2 hf);have lV:=aa (fun W hW=>HF.out W hW false hf)
    generalize hY:ag t=Y at *;have P:=aa hp;clear hp hk hY hq HF hf;go_enter Tryz.func238,Tryz.ntmps238
    go_wp2_with fail
    refine HW.out.mono ?_;rintro e w0 ⟨rfl,b0⟩;have F0:=aa (az.ae (O:=O) b0);have P0:=aa (P.out.below b0);clear b0;have Fa:=aa (lV.out w0 P0.out);clear lV;go_wp2_with fail
    refine Fa.out.mono ?_;rintro e w1 ⟨rfl,b1⟩;have F1:=aa (F0.out.trans (az.ae (O:=O) b1) (Ext.refl _ _));have P1:=aa (P0.out.below b1);clear b1;have HN:=aa (cr w w1 P1.out F1.out (mC 16) rfl [aY 91 b] [ex] (by simp) ⟨hE.part (enters_of Tryz.func91 (by kernel_rfl) rfl) w1 b O,trivial⟩ HK.out)
    go_wp2_with fail
    refine HN.out.mono ?_;intro e wz hz;obtain⟨v,er,rfl⟩:=hz.ret;have HZ:=aa hz;clear hz;go_wp2_with fail
    go_ret2
    exact HZ.out
theorem My {b:Nat} {O:Nat→Prop} {t:aj} {ts:List aj} {T0 T:List Nd} {K:Ast→List aj→Prop} {E:Int→Prop} (w2:World) (g p:Nat) (a:Ast) (hp:PS w2 b O (t::ts) T) (hg:w2.heap[g]? = some (.cells #[.int .i64 (p:Int)] 3 (0,0))) (hgO:¬ O g) (hgb:b+1≤g) (U7:dR T0 T [a] [(p:Int)])
  (x:Nd) (hx:x=⟨x.kind,0,x.op,x.num,x.s,[],[]⟩) (vs:List Value) (cD:List bR) (hl:vs.length≤100) (hall:jF w2 b (fun k=>O k∨k=g) vs cD)
  (hk:aJ cD ⟨{ x with line:=t.2.1},[a],t::ts,T0.length+a.size⟩ (bO K) E) :
  Calls Tryz.prog 19 #[.pointer (some ⟨b,0,none⟩),cO x (.slice none 0 0) (.slice (some ⟨g,0,none⟩) 1 1),.slice (some ⟨w2.heap.size,0,none⟩) vs.length vs.length] (w2.alloc (.cells vs.toArray 122)) (aF b (fun k=>O k∨k=g) T0 (RK K E) w2):=by
 have h1:x.line=0:=by rw[hx]
 have h2:x.names=[]:=by rw[hx]
 have ri:g<w2.heap.size:=(aI.1 hg).1;have hO :∀k,(O k∨k=g)→k<w2.heap.size:=fun k hk=>hk.elim (fun h=>(hp.own k h).2) (fun h=>h▸ri)
 have hz:T.length=T0.length+a.size:=by rw[U7.len,Ast.al,Ast.al];omega
 rw[←hz] at hk;have hrow:w2.ownsRow (b+1) 3 1 (.slice (some ⟨g,0,none⟩) 1 1) 1 [.int .i64 (p:Int)]:=⟨rfl,.inr ⟨g,1,#[.int .i64 (p:Int)],rfl,hgb,hg,ah _,by unfold maxLen;omega,rfl,rfl⟩⟩
 have dG:jD w2 b (· = g) { x with kids:=[(p:Int)]} (.slice none 0 0) (.slice (some ⟨g,0,none⟩) 1 1):=by
  refine⟨?_,hrow,fun g hg=>by simp[Value.ownBlock] at hg,fun g hg=>by simp[Value.ownBlock] at hg,fun k hk=>by simpa[Value.ownBlock] using hk.symm⟩
  rw[show({ x with kids:=[(p:Int)]}:Nd).names=[] from h2]
  exact World.ownsRow_nil _ _ _ _
 refine(yC b O (· = g) t ts T0 T x t.2.1 [a] [(p:Int)] (.slice none 0 0) (.slice (some ⟨g,0,none⟩) 1 1) _ cD (RK K E) _ (hp.below (aW w2 _)) ?_ (fun k hk e=>hgO (e▸hk)) (fun k hk=>⟨by omega,by simp;omega⟩) U7 (aN.new hO vs cD hl hall) (.inl ⟨h1,rfl⟩) hk).mono fun e w' h=>h.after ((az.refl _ _).alloc _)
 exact dG.kept (O1:=fun _=>False) ((az.refl _ w2).alloc _) (fun _ _ h=>h) (fun _ h=>h)
def rA (f:FuncId) (l:Int) (wp:iQ):Prop:=∀(b:Nat) (O:Nat→Prop) (ts:List aj) (T:List Nd) (K:Ast→List aj→Prop) (E:Int→Prop) (W:World),PS W b O ts T→wp ts T.length K E→Calls Tryz.prog f #[.pointer (some ⟨b,0,none⟩),.int .i64 l] W (aF b O T (RK K E) W)
theorem aO {s:List UInt8} {t:aj} (h:av s t=true):(∃l n,t=(2,l,n,s))∨(∃l n,t=(5,l,n,s)):=by
 obtain⟨t0,t1,t2,t3⟩:=t;unfold av at h;rw[cX,Bool.or_eq_true,iE,iE,iE] at h;obtain⟨h1,h2⟩:=h;dsimp only at h1 h2
 subst h2;rcases h1 with rfl|rfl
 ·exact .inl ⟨t1,t2,rfl⟩
 ·exact .inr ⟨t1,t2,rfl⟩
def eC (t:aj):Int:=match my t with
 | some o=>o.1
 | none=>0
def eX (t:aj):Int:=match lK t with
 | some o=>o
 | none=>0
def bG (k:Int) (w:World) (e:Ending) (w':World):Prop:=e=.returned (.int .i64 k)∧w'=w
theorem binary_1 (t:aj) (w:World) (hq:av [43] t=true):Calls Tryz.prog 205 #[.string (ag t)] w (bG 1 w):=by
 have g0:((ag t).toList == [43])=true:=ai (s:=[43]) (by decide) t hq
 generalize ag t=Y at *;clear hq;go_enter Tryz.func205,Tryz.ntmps205
 go_wp2
 go_ret
 exact⟨rfl,rfl⟩
theorem Mz (t:aj) (w:World) (hq:av [45] t=true):Calls Tryz.prog 205 #[.string (ag t)] w (bG 2 w):=by
 have g0:=aQ [43] hq (by decide)
 have g1:((ag t).toList == [45])=true:=ai (s:=[45]) (by decide) t hq
 generalize ag t=Y at *;clear hq;go_enter Tryz.func205,Tryz.ntmps205
 go_wp2
 go_ret
 exact⟨rfl,rfl⟩
theorem MA (t:aj) (w:World) (hq:av [42] t=true):Calls Tryz.prog 205 #[.string (ag t)] w (bG 3 w):=by
 have g0:=aQ [43] hq (by decide)
 have g1:=aQ [45] hq (by decide)
 have g2:((ag t).toList == [42])=true:=ai (s:=[42]) (by decide) t hq
 generalize ag t=Y at *;clear hq;go_enter Tryz.func205,Tryz.ntmps205
 go_wp2
 go_ret
 exact⟨rfl,rfl⟩
theorem MB (t:aj) (w:World) (hq:av [47,47] t=true):Calls Tryz.prog 205 #[.string (ag t)] w (bG 4 w):=by
 have g0:=aQ [43] hq (by decide)
 have g1:=aQ [45] hq (by decide)
 have g2:=aQ [42] hq (by decide)
 have g3:((ag t).toList == [47,47])=true:=ai (s:=[47,47]) (by decide) t hq
 generalize ag t=Y at *;clear hq;go_enter Tryz.func205,Tryz.ntmps205
 go_wp2
 go_ret
 exact⟨rfl,rfl⟩
theorem MC (t:aj) (w:World) (hq:av [37] t=true):Calls Tryz.prog 205 #[.string (ag t)] w (bG 5 w):=by
 have g0:=aQ [43] hq (by decide)
 have g1:=aQ [45] hq (by decide)
 have g2:=aQ [42] hq (by decide)
 have g3:=aQ [47,47] hq (by decide)
 have g4:((ag t).toList == [37])=true:=ai (s:=[37]) (by decide) t hq
 generalize ag t=Y at *;clear hq;go_enter Tryz.func205,Tryz.ntmps205
 go_wp2
 go_ret
 exact⟨rfl,rfl⟩
theorem MD (t:aj) (w:World) (hq:av [38] t=true):Calls Tryz.prog 205 #[.string (ag t)] w (bG 6 w):=by
 have g0:=aQ [43] hq (by decide)
 have g1:=aQ [45] hq (by decide)
 have g2:=aQ [42] hq (by decide)
 have g3:=aQ [47,47] hq (by decide)
 have g4:=aQ [37] hq (by decide)
 have g5:((ag t).toList == [38])=true:=ai (s:=[38]) (by decide) t hq
 generalize ag t=Y at *;clear hq;go_enter Tryz.func205,Tryz.ntmps205
 go_wp2
 go_ret
 exact⟨rfl,rfl⟩
theorem ME (t:aj) (w:World) (hq:av [124] t=true):Calls Tryz.prog 205 #[.string (ag t)] w (bG 7 w):=by
 have g0:=aQ [43] hq (by decide)
 have g1:=aQ [45] hq (by decide)
 have g2:=aQ [42] hq (by decide)
 have g3:=aQ [47,47] hq (by decide)
 have g4:=aQ [37] hq (by decide)
 have g5:=aQ [38] hq (by decide)
 have g6:((ag t).toList == [124])=true:=ai (s:=[124]) (by decide) t hq
 generalize ag t=Y at *;clear hq;go_enter Tryz.func205,Tryz.ntmps205
 go_wp2
 go_ret
 exact⟨rfl,rfl⟩
theorem MF (t:aj) (w:World) (hq:av [126] t=true):Calls Tryz.prog 205 #[.string (ag t)] w (bG 8 w):=by
 have g0:=aQ [43] hq (by decide)
 have g1:=aQ [45] hq (by decide)
 have g2:=aQ [42] hq (by decide)
 have g3:=aQ [47,47] hq (by decide)
 have g4:=aQ [37] hq (by decide)
 have g5:=aQ [38] hq (by decide)
 have g6:=aQ [124] hq (by decide)
 have g7:((ag t).toList == [126])=true:=ai (s:=[126]) (by decide) t hq
 generalize ag t=Y at *;clear hq;go_enter Tryz.func205,Tryz.ntmps205
 go_wp2
 go_ret
 exact⟨rfl,rfl⟩
theorem MG (t:aj) (w:World) (hq:av [60,60] t=true):Calls Tryz.prog 205 #[.string (ag t)] w (bG 9 w):=by
 have g0:=aQ [43] hq (by decide)
 have g1:=aQ [45] hq (by decide)
 have g2:=aQ [42] hq (by decide)
 have g3:=aQ [47,47] hq (by decide)
 have g4:=aQ [37] hq (by decide)
 have g5:=aQ [38] hq (by decide)
 have g6:=aQ [124] hq (by decide)
 have g7:=aQ [126] hq (by decide)
 have g8:((ag t).toList == [60,60])=true:=ai (s:=[60,60]) (by decide) t hq
 generalize ag t=Y at *;clear hq;go_enter Tryz.func205,Tryz.ntmps205
 go_wp2
 go_ret
 exact⟨rfl,rfl⟩
theorem Ic (t:aj) (w:World) (hq:av [62,62] t=true):Calls Tryz.prog 205 #[.string (ag t)] w (bG 10 w):=by
 have g0:=aQ [43] hq (by decide)
 have g1:=aQ [45] hq (by decide)
 have g2:=aQ [42] hq (by decide)
 have g3:=aQ [47,47] hq (by decide)
 have g4:=aQ [37] hq (by decide)
 have g5:=aQ [38] hq (by decide)
 have g6:=aQ [124] hq (by decide)
 have g7:=aQ [126] hq (by decide)
 have g8:=aQ [60,60] hq (by decide)
 have g9:((ag t).toList == [62,62])=true:=ai (s:=[62,62]) (by decide) t hq
 generalize ag t=Y at *;clear hq;go_enter Tryz.func205,Tryz.ntmps205
 go_wp2
 go_ret
 exact⟨rfl,rfl⟩
theorem Ie (t:aj) (w:World) (hq:av [46,46] t=true):Calls Tryz.prog 205 #[.string (ag t)] w (bG 11 w):=by
 have g0:=aQ [43] hq (by decide)
 have g1:=aQ [45] hq (by decide)
 have g2:=aQ [42] hq (by decide)
 have g3:=aQ [47,47] hq (by decide)
 have g4:=aQ [37] hq (by decide)
 have g5:=aQ [38] hq (by decide)
 have g6:=aQ [124] hq (by decide)
 have g7:=aQ [126] hq (by decide)
 have g8:=aQ [60,60] hq (by decide)
 have g9:=aQ [62,62] hq (by decide)
 have g10:((ag t).toList == [46,46])=true:=ai (s:=[46,46]) (by decide) t hq
 generalize ag t=Y at *;clear hq;go_enter Tryz.func205,Tryz.ntmps205
 go_wp2
 go_ret
 exact⟨rfl,rfl⟩
theorem Ig (t:aj) (w:World) (hq:av [61,61] t=true):Calls Tryz.prog 205 #[.string (ag t)] w (bG 12 w):=by
 have g0:=aQ [43] hq (by decide)
 have g1:=aQ [45] hq (by decide)
 have g2:=aQ [42] hq (by decide)
 have g3:=aQ [47,47] hq (by decide)
 have g4:=aQ [37] hq (by decide)
 have g5:=aQ [38] hq (by decide)
 have g6:=aQ [124] hq (by decide)
 have g7:=aQ [126] hq (by decide)
 have g8:=aQ [60,60] hq (by decide)
 have g9:=aQ [62,62] hq (by decide)
 have g10:=aQ [46,46] hq (by decide)
 have g11:((ag t).toList == [61,61])=true:=ai (s:=[61,61]) (by decide) t hq
 generalize ag t=Y at *;clear hq;go_enter Tryz.func205,Tryz.ntmps205
 go_wp2
 go_ret
 exact⟨rfl,rfl⟩
theorem Ih (t:aj) (w:World) (hq:av [126,61] t=true):Calls Tryz.prog 205 #[.string (ag t)] w (bG 13 w):=by
 have g0:=aQ [43] hq (by decide)
 have g1:=aQ [45] hq (by decide)
 have g2:=aQ [42] hq (by decide)
 have g3:=aQ [47,47] hq (by decide)
 have g4:=aQ [37] hq (by decide)
 have g5:=aQ [38] hq (by decide)
 have g6:=aQ [124] hq (by decide)
 have g7:=aQ [126] hq (by decide)
 have g8:=aQ [60,60] hq (by decide)
 have g9:=aQ [62,62] hq (by decide)
 have g10:=aQ [46,46] hq (by decide)
 have g11:=aQ [61,61] hq (by decide)
 have g12:((ag t).toList == [126,61])=true:=ai (s:=[126,61]) (by decide) t hq
 generalize ag t=Y at *;clear hq;go_enter Tryz.func205,Tryz.ntmps205
 go_wp2
 go_ret
 exact⟨rfl,rfl⟩
theorem Ii (t:aj) (w:World) (hq:av [60] t=true):Calls Tryz.prog 205 #[.string (ag t)] w (bG 14 w):=by
 have g0:=aQ [43] hq (by decide)
 have g1:=aQ [45] hq (by decide)
 have g2:=aQ [42] hq (by decide)
 have g3:=aQ [47,47] hq (by decide)
 have g4:=aQ [37] hq (by decide)
 have g5:=aQ [38] hq (by decide)
 have g6:=aQ [124] hq (by decide)
 have g7:=aQ [126] hq (by decide)
 have g8:=aQ [60,60] hq (by decide)
 have g9:=aQ [62,62] hq (by decide)
 have g10:=aQ [46,46] hq (by decide)
 have g11:=aQ [61,61] hq (by decide)
 have g12:=aQ [126,61] hq (by decide)
 have g13:((ag t).toList == [60])=true:=ai (s:=[60]) (by decide) t hq
 generalize ag t=Y at *;clear hq;go_enter Tryz.func205,Tryz.ntmps205
 go_wp2
 go_ret
 exact⟨rfl,rfl⟩
theorem Ij (t:aj) (w:World) (hq:av [60,61] t=true):Calls Tryz.prog 205 #[.string (ag t)] w (bG 15 w):=by
 have g0:=aQ [43] hq (by decide)
 have g1:=aQ [45] hq (by decide)
 have g2:=aQ [42] hq (by decide)
 have g3:=aQ [47,47] hq (by decide)
 have g4:=aQ [37] hq (by decide)
 have g5:=aQ [38] hq (by decide)
 have g6:=aQ [124] hq (by decide)
 have g7:=aQ [126] hq (by decide)
 have g8:=aQ [60,60] hq (by decide)
 have g9:=aQ [62,62] hq (by decide)
 have g10:=aQ [46,46] hq (by decide)
 have g11:=aQ [61,61] hq (by decide)
 have g12:=aQ [126,61] hq (by decide)
 have g13:=aQ [60] hq (by decide)
 have g14:((ag t).toList == [60,61])=true:=ai (s:=[60,61]) (by decide) t hq
 generalize ag t=Y at *;clear hq;go_enter Tryz.func205,Tryz.ntmps205
 go_wp2
 go_ret
 exact⟨rfl,rfl⟩
theorem Ik (t:aj) (w:World) (hq:av [62] t=true):Calls Tryz.prog 205 #[.string (ag t)] w (bG 16 w):=by
 have g0:=aQ [43] hq (by decide)
 have g1:=aQ [45] hq (by decide)
 have g2:=aQ [42] hq (by decide)
 have g3:=aQ [47,47] hq (by decide)
 have g4:=aQ [37] hq (by decide)
 have g5:=aQ [38] hq (by decide)
 have g6:=aQ [124] hq (by decide)
 have g7:=aQ [126] hq (by decide)
 have g8:=aQ [60,60] hq (by decide)
 have g9:=aQ [62,62] hq (by decide)
 have g10:=aQ [46,46] hq (by decide)
 have g11:=aQ [61,61] hq (by decide)
 have g12:=aQ [126,61] hq (by decide)
 have g13:=aQ [60] hq (by decide)
 have g14:=aQ [60,61] hq (by decide)
 have g15:((ag t).toList == [62])=true:=ai (s:=[62]) (by decide) t hq
 generalize ag t=Y at *;clear hq;go_enter Tryz.func205,Tryz.ntmps205
 go_wp2
 go_ret
 exact⟨rfl,rfl⟩
theorem Il (t:aj) (w:World) (hq:av [62,61] t=true):Calls Tryz.prog 205 #[.string (ag t)] w (bG 17 w):=by
 have g0:=aQ [43] hq (by decide)
 have g1:=aQ [45] hq (by decide)
 have g2:=aQ [42] hq (by decide)
 have g3:=aQ [47,47] hq (by decide)
 have g4:=aQ [37] hq (by decide)
 have g5:=aQ [38] hq (by decide)
 have g6:=aQ [124] hq (by decide)
 have g7:=aQ [126] hq (by decide)
 have g8:=aQ [60,60] hq (by decide)
 have g9:=aQ [62,62] hq (by decide)
 have g10:=aQ [46,46] hq (by decide)
 have g11:=aQ [61,61] hq (by decide)
 have g12:=aQ [126,61] hq (by decide)
 have g13:=aQ [60] hq (by decide)
 have g14:=aQ [60,61] hq (by decide)
 have g15:=aQ [62] hq (by decide)
 have g16:((ag t).toList == [62,61])=true:=ai (s:=[62,61]) (by decide) t hq
 generalize ag t=Y at *;clear hq;go_enter Tryz.func205,Tryz.ntmps205
 go_wp2
 go_ret
 exact⟨rfl,rfl⟩
theorem Im (t:aj) (w:World) (hq:av Gx t=true):Calls Tryz.prog 205 #[.string (ag t)] w (bG 18 w):=by
 have g0:=aQ [43] hq (by decide)
 have g1:=aQ [45] hq (by decide)
 have g2:=aQ [42] hq (by decide)
 have g3:=aQ [47,47] hq (by decide)
 have g4:=aQ [37] hq (by decide)
 have g5:=aQ [38] hq (by decide)
 have g6:=aQ [124] hq (by decide)
 have g7:=aQ [126] hq (by decide)
 have g8:=aQ [60,60] hq (by decide)
 have g9:=aQ [62,62] hq (by decide)
 have g10:=aQ [46,46] hq (by decide)
 have g11:=aQ [61,61] hq (by decide)
 have g12:=aQ [126,61] hq (by decide)
 have g13:=aQ [60] hq (by decide)
 have g14:=aQ [60,61] hq (by decide)
 have g15:=aQ [62] hq (by decide)
 have g16:=aQ [62,61] hq (by decide)
 have g17:((ag t).toList == [97,110,100])=true:=ai (s:=Gx) (by decide) t hq
 generalize ag t=Y at *;clear hq;go_enter Tryz.func205,Tryz.ntmps205
 go_wp2
 go_ret
 exact⟨rfl,rfl⟩
theorem Io (t:aj) (w:World) (hq:av ZC t=true):Calls Tryz.prog 205 #[.string (ag t)] w (bG 19 w):=by
 have g0:=aQ [43] hq (by decide)
 have g1:=aQ [45] hq (by decide)
 have g2:=aQ [42] hq (by decide)
 have g3:=aQ [47,47] hq (by decide)
 have g4:=aQ [37] hq (by decide)
 have g5:=aQ [38] hq (by decide)
 have g6:=aQ [124] hq (by decide)
 have g7:=aQ [126] hq (by decide)
 have g8:=aQ [60,60] hq (by decide)
 have g9:=aQ [62,62] hq (by decide)
 have g10:=aQ [46,46] hq (by decide)
 have g11:=aQ [61,61] hq (by decide)
 have g12:=aQ [126,61] hq (by decide)
 have g13:=aQ [60] hq (by decide)
 have g14:=aQ [60,61] hq (by decide)
 have g15:=aQ [62] hq (by decide)
 have g16:=aQ [62,61] hq (by decide)
 have g17:=aQ [97,110,100] hq (by decide)
 have g18:((ag t).toList == [111,114])=true:=ai (s:=ZC) (by decide) t hq
 generalize ag t=Y at *;clear hq;go_enter Tryz.func205,Tryz.ntmps205
 go_wp2
 go_ret
 exact⟨rfl,rfl⟩
theorem MH (t:aj) (w:World) (q0:av [43] t=false) (q1:av [45] t=false) (q2:av [42] t=false) (q3:av [47,47] t=false) (q4:av [37] t=false) (q5:av [38] t=false) (q6:av [124] t=false) (q7:av [126] t=false) (q8:av [60,60] t=false) (q9:av [62,62] t=false) (Ss:av [46,46] t=false) (yH:av [61,61] t=false) (U8:av [126,61] t=false) (U9:av [60] t=false) (Va:av [60,61] t=false) (Vb:av [62] t=false) (Qm:av [62,61] t=false) (Vc:av Gx t=false) (zv:av ZC t=false):Calls Tryz.prog 205 #[.string (ag t)] w (bG 0 w):=by
 have g0:((ag t).toList == [43])=false:=ai (s:=[43]) (by decide) t q0
 have g1:((ag t).toList == [45])=false:=ai (s:=[45]) (by decide) t q1
 have g2:((ag t).toList == [42])=false:=ai (s:=[42]) (by decide) t q2
 have g3:((ag t).toList == [47,47])=false:=ai (s:=[47,47]) (by decide) t q3
 have g4:((ag t).toList == [37])=false:=ai (s:=[37]) (by decide) t q4
 have g5:((ag t).toList == [38])=false:=ai (s:=[38]) (by decide) t q5
 have g6:((ag t).toList == [124])=false:=ai (s:=[124]) (by decide) t q6
 have g7:((ag t).toList == [126])=false:=ai (s:=[126]) (by decide) t q7
 have g8:((ag t).toList == [60,60])=false:=ai (s:=[60,60]) (by decide) t q8
 have g9:((ag t).toList == [62,62])=false:=ai (s:=[62,62]) (by decide) t q9
 have g10:((ag t).toList == [46,46])=false:=ai (s:=[46,46]) (by decide) t Ss
 have g11:((ag t).toList == [61,61])=false:=ai (s:=[61,61]) (by decide) t yH
 have g12:((ag t).toList == [126,61])=false:=ai (s:=[126,61]) (by decide) t U8
 have g13:((ag t).toList == [60])=false:=ai (s:=[60]) (by decide) t U9
 have g14:((ag t).toList == [60,61])=false:=ai (s:=[60,61]) (by decide) t Va
 have g15:((ag t).toList == [62])=false:=ai (s:=[62]) (by decide) t Vb
 have g16:((ag t).toList == [62,61])=false:=ai (s:=[62,61]) (by decide) t Qm
 have g17:((ag t).toList == [97,110,100])=false:=ai (s:=Gx) (by decide) t Vc
 have g18:((ag t).toList == [111,114])=false:=ai (s:=ZC) (by decide) t zv
 clear q0 q1 q2 q3 q4 q5 q6 q7 q8 q9 Ss yH U8 U9 Va Vb Qm Vc zv;generalize ag t=Y at *;go_enter Tryz.func205,Tryz.ntmps205
 go_wp2
 go_ret
 exact⟨rfl,rfl⟩
theorem MI (t:aj) (w:World):Calls Tryz.prog 205 #[.string (ag t)] w (bG (eC t) w):=by
 rcases eD (av [43] t) with q0|q0
 ·rw[show eC t=1 from by rcases aO q0 with ⟨l,n,rfl⟩ | ⟨l,n,rfl⟩<;>rfl]
  exact binary_1 t w q0
 rcases eD (av [45] t) with q1|q1
 ·rw[show eC t=2 from by rcases aO q1 with ⟨l,n,rfl⟩ | ⟨l,n,rfl⟩<;>rfl]
  exact Mz t w q1
 rcases eD (av [42] t) with q2|q2
 ·rw[show eC t=3 from by rcases aO q2 with ⟨l,n,rfl⟩ | ⟨l,n,rfl⟩<;>rfl]
  exact MA t w q2
 rcases eD (av [47,47] t) with q3|q3
 ·rw[show eC t=4 from by rcases aO q3 with ⟨l,n,rfl⟩ | ⟨l,n,rfl⟩<;>rfl]
  exact MB t w q3
 rcases eD (av [37] t) with q4|q4
 ·rw[show eC t=5 from by rcases aO q4 with ⟨l,n,rfl⟩ | ⟨l,n,rfl⟩<;>rfl]
  exact MC t w q4
 rcases eD (av [38] t) with q5|q5
 ·rw[show eC t=6 from by rcases aO q5 with ⟨l,n,rfl⟩ | ⟨l,n,rfl⟩<;>rfl]
  exact MD t w q5
 rcases eD (av [124] t) with q6|q6
 ·rw[show eC t=7 from by rcases aO q6 with ⟨l,n,rfl⟩ | ⟨l,n,rfl⟩<;>rfl]
  exact ME t w q6
 rcases eD (av [126] t) with q7|q7
 ·rw[show eC t=8 from by rcases aO q7 with ⟨l,n,rfl⟩ | ⟨l,n,rfl⟩<;>rfl]
  exact MF t w q7
 rcases eD (av [60,60] t) with q8|q8
 ·rw[show eC t=9 from by rcases aO q8 with ⟨l,n,rfl⟩ | ⟨l,n,rfl⟩<;>rfl]
  exact MG t w q8
 rcases eD (av [62,62] t) with q9|q9
 ·rw[show eC t=10 from by rcases aO q9 with ⟨l,n,rfl⟩ | ⟨l,n,rfl⟩<;>rfl]
  exact Ic t w q9
 rcases eD (av [46,46] t) with Ss|Ss
 ·rw[show eC t=11 from by rcases aO Ss with ⟨l,n,rfl⟩ | ⟨l,n,rfl⟩<;>rfl]
  exact Ie t w Ss
 rcases eD (av [61,61] t) with yH|yH
 ·rw[show eC t=12 from by rcases aO yH with ⟨l,n,rfl⟩ | ⟨l,n,rfl⟩<;>rfl]
  exact Ig t w yH
 rcases eD (av [126,61] t) with U8|U8
 ·rw[show eC t=13 from by rcases aO U8 with ⟨l,n,rfl⟩ | ⟨l,n,rfl⟩<;>rfl]
  exact Ih t w U8
 rcases eD (av [60] t) with U9|U9
 ·rw[show eC t=14 from by rcases aO U9 with ⟨l,n,rfl⟩ | ⟨l,n,rfl⟩<;>rfl]
  exact Ii t w U9
 rcases eD (av [60,61] t) with Va|Va
 ·rw[show eC t=15 from by rcases aO Va with ⟨l,n,rfl⟩ | ⟨l,n,rfl⟩<;>rfl]
  exact Ij t w Va
 rcases eD (av [62] t) with Vb|Vb
 ·rw[show eC t=16 from by rcases aO Vb with ⟨l,n,rfl⟩ | ⟨l,n,rfl⟩<;>rfl]
  exact Ik t w Vb
 rcases eD (av [62,61] t) with Qm|Qm
 ·rw[show eC t=17 from by rcases aO Qm with ⟨l,n,rfl⟩ | ⟨l,n,rfl⟩<;>rfl]
  exact Il t w Qm
 rcases eD (av Gx t) with Vc|Vc
 ·rw[show eC t=18 from by rcases aO Vc with ⟨l,n,rfl⟩ | ⟨l,n,rfl⟩<;>rfl]
  exact Im t w Vc
 rcases eD (av ZC t) with zv|zv
 ·rw[show eC t=19 from by rcases aO zv with ⟨l,n,rfl⟩ | ⟨l,n,rfl⟩<;>rfl]
  exact Io t w zv
 rw[show eC t=0 from by unfold eC;rw[show my t=none from by simp[my,q0,q1,q2,q3,q4,q5,q6,q7,q8,q9,Ss,yH,U8,U9,Va,Vb,Qm,Vc,zv]]]
 exact MH t w q0 q1 q2 q3 q4 q5 q6 q7 q8 q9 Ss yH U8 U9 Va Vb Qm Vc zv
theorem MJ (t:aj) (w:World) (hq:av [45] t=true):Calls Tryz.prog 224 #[.string (ag t)] w (bG 20 w):=by
 have g0:((ag t).toList == [45])=true:=ai (s:=[45]) (by decide) t hq
 generalize ag t=Y at *;clear hq;go_enter Tryz.func224,Tryz.ntmps224
 go_wp2
 go_ret
 exact⟨rfl,rfl⟩
theorem MK (t:aj) (w:World) (hq:av [126] t=true):Calls Tryz.prog 224 #[.string (ag t)] w (bG 21 w):=by
 have g0:=aQ [45] hq (by decide)
 have g1:((ag t).toList == [126])=true:=ai (s:=[126]) (by decide) t hq
 generalize ag t=Y at *;clear hq;go_enter Tryz.func224,Tryz.ntmps224
 go_wp2
 go_ret
 exact⟨rfl,rfl⟩
theorem ML (t:aj) (w:World) (hq:av CC t=true):Calls Tryz.prog 224 #[.string (ag t)] w (bG 22 w):=by
 have g0:=aQ [45] hq (by decide)
 have g1:=aQ [126] hq (by decide)
 have g2:((ag t).toList == [110,111,116])=true:=ai (s:=CC) (by decide) t hq
 generalize ag t=Y at *;clear hq;go_enter Tryz.func224,Tryz.ntmps224
 go_wp2
 go_ret
 exact⟨rfl,rfl⟩
theorem MM (t:aj) (w:World) (hq:av [35] t=true):Calls Tryz.prog 224 #[.string (ag t)] w (bG 23 w):=by
 have g0:=aQ [45] hq (by decide)
 have g1:=aQ [126] hq (by decide)
 have g2:=aQ [110,111,116] hq (by decide)
 have g3:((ag t).toList == [35])=true:=ai (s:=[35]) (by decide) t hq
 generalize ag t=Y at *;clear hq;go_enter Tryz.func224,Tryz.ntmps224
 go_wp2
 go_ret
 exact⟨rfl,rfl⟩
theorem Su (t:aj) (w:World) (q0:av [45] t=false) (q1:av [126] t=false) (q2:av CC t=false) (q3:av [35] t=false):Calls Tryz.prog 224 #[.string (ag t)] w (bG 0 w):=by
 have g0:((ag t).toList == [45])=false:=ai (s:=[45]) (by decide) t q0
 have g1:((ag t).toList == [126])=false:=ai (s:=[126]) (by decide) t q1
 have g2:((ag t).toList == [110,111,116])=false:=ai (s:=CC) (by decide) t q2
 have g3:((ag t).toList == [35])=false:=ai (s:=[35]) (by decide) t q3
 clear q0 q1 q2 q3;generalize ag t=Y at *;go_enter Tryz.func224,Tryz.ntmps224
 go_wp2
 go_ret
 exact⟨rfl,rfl⟩
theorem j7 (t:aj) (w:World):Calls Tryz.prog 224 #[.string (ag t)] w (bG (eX t) w):=by
 rcases eD (av [45] t) with q0|q0
 ·rw[show eX t=20 from by rcases aO q0 with ⟨l,n,rfl⟩ | ⟨l,n,rfl⟩<;>rfl]
  exact MJ t w q0
 rcases eD (av [126] t) with q1|q1
 ·rw[show eX t=21 from by rcases aO q1 with ⟨l,n,rfl⟩ | ⟨l,n,rfl⟩<;>rfl]
  exact MK t w q1
 rcases eD (av CC t) with q2|q2
 ·rw[show eX t=22 from by rcases aO q2 with ⟨l,n,rfl⟩ | ⟨l,n,rfl⟩<;>rfl]
  exact ML t w q2
 rcases eD (av [35] t) with q3|q3
 ·rw[show eX t=23 from by rcases aO q3 with ⟨l,n,rfl⟩ | ⟨l,n,rfl⟩<;>rfl]
  exact MM t w q3
 rw[show eX t=0 from by unfold eX;rw[show lK t=none from by simp[lK,q0,q1,q2,q3]]]
 exact Su t w q0 q1 q2 q3
def JY (k:Int):Int:=if k=0 then 0 else if k=19 then 1 else if k=18 then 2 else if 12≤k∧k≤17 then 3 else if k=7 then 4 else if k=8 then 5 else if k=6 then 6 else if k=9∨k=10 then 7 else if k=11 then 8 else if k=1∨k=2 then 9 else if 3≤k∧k≤5 then 10 else 11
def vU (k:Int):Int:=if k=11 then 7 else JY k
theorem uG (k:Int) (w:World) (h0:0≤k) (h1:k≤23):Calls Tryz.prog 206 #[.int .i64 k] w (bG (JY k) w):=by
 have h:k=0∨k=1∨k=2∨k=3∨k=4∨k=5∨k=6∨k=7∨k=8∨k=9∨k=10∨k=11∨k=12∨k=13∨k=14∨k=15∨k=16∨k=17∨k=18∨k=19∨k=20∨k=21∨k=22∨k=23:=by omega
 rcases h with rfl|rfl|rfl|rfl|rfl|rfl|rfl|rfl|rfl|rfl|rfl|rfl|rfl|rfl|rfl|rfl|rfl|rfl|rfl|rfl|rfl|rfl|rfl|rfl <;>
 ·clear h0 h1
  go_enter Tryz.func206,Tryz.ntmps206
  go_wp2
  go_ret
  exact⟨rfl,rfl⟩
theorem MN (k:Int) (w:World) (h0:0≤k) (h1:k≤23):Calls Tryz.prog 227 #[.int .i64 k] w (bG (vU k) w):=by
 have HC:=aa (uG k w h0 h1);by_cases hk:k=11
 ·subst hk
  rw[show JY 11=8 from rfl] at HC
  rw[show vU 11=7 from rfl]
  clear h0 h1;go_enter Tryz.func227,Tryz.ntmps227
  go_wp2_with fail
  refine HC.out.mono ?_;rintro e w1 ⟨rfl,rfl⟩;go_wp2_with fail
  go_ret
  exact⟨rfl,rfl⟩
 ·rw[show vU k=JY k from by unfold vU;rw[af hk]]
  have g1:(k == 11)=false:=aE.2 hk;generalize JY k=S at *;clear h0 h1 hk;go_enter Tryz.func227,Tryz.ntmps227
  go_wp2_with fail
  refine HC.out.mono ?_;rintro e w1 ⟨rfl,rfl⟩;go_wp2_with fail
  go_ret
  exact⟨rfl,rfl⟩
theorem lW {t:aj} {o:Int×Nat×Nat} (h:my t=some o):eC t=o.1∧JY o.1=(o.2.1:Int)∧vU o.1+1=(o.2.2:Int)∧1≤o.1∧o.1≤19:=by
 refine⟨by unfold eC;rw[h],?_⟩
 unfold my at h;repeat' (rcases AF h with rfl|h;exact⟨by decide,by decide,by decide,by decide⟩)
 exact absurd h (by simp)
theorem xi {t:aj} (h:my t=none):eC t=0:=by unfold eC;rw[h]
theorem MP {wp:iQ} (op:Int) (h0:0≤op) (h1:op≤23) (hB:rA 178 (vU op) wp) (b g1 g2:Nat) (O:Nat→Prop) (ts:List aj) (T:List Nd) (K:Ast→List aj→Prop) (E:Int→Prop) (w:World) (hp:PS w b O ts T) (b1:eB w O g1 #[.pointer (some ⟨b,0,none⟩)] 116) (b2:eB w O g2 #[.int .i64 op] 3) (hk:wp ts T.length K E) :
  Calls Tryz.prog 226 #[.pointer (some ⟨g1,0,none⟩),.pointer (some ⟨g2,0,none⟩)] w (aF b O T (RK K E) w):=by
 have c1:=b1.cell 0;have c2:=b2.cell 0;have HS:=aa (fun W=>MN op W h0 h1)
 have HB:=aa (fun(W:World) hW=>hB b O ts T K E W hW hk)
 have HP:=aa hp;generalize vU op=l at *;clear b1 b2 hp hk hB h0 h1;go_enter Tryz.func226,Tryz.ntmps226
 go_wp2_with fail
 go_region_with (first
  | (go_at_call 227;refine(HS.out _).mono ?_;rintro e w2 ⟨rfl,rfl⟩)
  | (go_at_call 178;refine(HB.out _ (HP.out.below (by exact⟨rfl,rfl,rfl,ah _,fun _ _=>rfl⟩))).mono ?_;intro e w3 h3;obtain⟨v,er,rfl⟩:=h3.ret;have H3:=aa h3;clear h3))
 all_goals go_wp2
 all_goals go_ret2
 all_goals exact H3.out.after ⟨rfl,rfl,rfl,ah _,fun _ _ _=>rfl,fun _ _=>rfl⟩
theorem Fb {wp:iQ} (op:Int) (h0:0≤op) (h1:op≤23) (hB:rA 178 (vU op) wp) (b:Nat) (O:Nat→Prop) (w:World) (hO :∀k,O k→k<w.heap.size):Calls Tryz.prog 207 #[.pointer (some ⟨b,0,none⟩),.int .i64 op] w (j6 b O (dm wp) w):=by
 obtain⟨w1,dW⟩ :∃w1,w1=w.alloc (.cells #[.pointer (some ⟨b,0,none⟩)] 116):=⟨_,rfl⟩;obtain⟨w2,hw2⟩ :∃w2,w2=w1.alloc (.cells #[.int .i64 op] 3):=⟨_,rfl⟩;have f1:az O w w1:=by rw[dW];exact(az.refl _ _).alloc _
 have f2:az O w1 w2:=by rw[hw2];exact(az.refl _ _).alloc _
 have z1:w1.heap.size=w.heap.size+1:=by rw[dW,ao]
 have b1:eB w1 O w.heap.size #[.pointer (some ⟨b,0,none⟩)] 116:=by rw[dW];exact eB.new w O hO _ _
 have b2:eB w2 O (w.heap.size+1) #[.int .i64 op] 3:=by rw[hw2,←z1];exact eB.new w1 O (fun k hk=>by have:=hO k hk;omega) _ _
 have AO:One w2 b O (.func (.func 226) #[] #[.pointer (some ⟨w.heap.size,0,none⟩),.pointer (some ⟨w.heap.size+1,0,none⟩)]) wp:=by
  intro W1 O1 T ts K E hf he hp hk;refine⟨226,_,_,rfl,enters_of Tryz.func226 (by kernel_rfl) rfl,?_⟩
  exact MP op h0 h1 hB b _ _ O1 ts T K E W1 hp ((b1.later f2 (Ext.refl _ _)).later hf he) (b2.later hf he) hk
 have HK:=aa (AN b O 226 _ _ wp w2 AO fun k hk=>by have:=hO k hk;have:=f1.size;have:=f2.size;omega)
 have HB:Hid (Below w.heap.size w w2):=aa (by rw[hw2,dW];exact((Below.refl _ _).alloc (ah _) _).alloc (by simp) _)
 rw[hw2,dW] at HK HB;clear dW hw2 f1 f2 z1 b1 b2 AO hB h0 h1;go_enter Tryz.func207,Tryz.ntmps207
 go_wp2_with fail
 refine HK.out.mono ?_;rintro e w1 ⟨v,rfl,b1,h2,f,first,cap,rfl⟩
 have H2:=aa h2;have B1:=aa (aB HB.out b1);clear h2 b1;go_wp2_with fail
 go_ret
 exact⟨f,first,cap,rfl,B1.out,H2.out⟩
def AS (rt:Int→iQ) (l:Int):Nat→Ast→List aj→Nat→(Ast→List aj→Prop)→(Int→Prop)→Prop
 | 0,_,_,_,_,_=>False
 | k+1,a,ts,n,K,E=>∃t r,ts=t::r∧(JY (eC t)≤l→K a ts) ∧
  (¬ JY (eC t)≤l→aJ [aC,dm (rt (eC t))] ⟨⟨12,t.2.1,eC t,0,⟨#[]⟩,[],[]⟩,[a],ts,n+a.size⟩ (bO fun a' ay=>AS rt l k a' ay n K E) E)
theorem Dn (t:aj):0≤eC t∧eC t≤19:=by
 cases h:my t with
 | none=>rw[xi h];decide
 | some o=>have:=lW h;omega
theorem Sv {od:iQ} {rt:Int→iQ} (hO:pz 204 od) (l:Int) (hR :∀op,1≤op→op≤19→rA 178 (vU op) (rt op)) (hl:0≤l):rA 178 l fun ts n K E=>od ts n (fun a fB=>∃m,AS rt l m a fB n K E) E:=by
 intro b O ts T0 K E w hp hk;have HA:=aa (hO b O ts T0 _ E w hp hk);have HR:=aa hR;have HL:=aa hl;clear hO hp hk hR hl;go_enter Tryz.func178,Tryz.ntmps178
 go_wp2_with fail
 refine HA.out.mono ?_;intro e w1 h1;have F1:=aa h1.1;rcases h1.2 with ⟨p,a,fB,O1,T1,rfl,p1,x1,l1,k1⟩ | ⟨le,v,er,rfl,⟨g',rfl,m2,m3⟩,k1⟩
 ·obtain⟨m,k1⟩:=k1
  have P1:=aa p1;have X1:=aa x1;have L1:=aa l1;have K1:=aa k1;clear h1 p1 x1 l1 k1;go_wp2_with fail
  go_loopg [6,7] (m+1) (fun z lv ev wr=>(∃(p:Nat) (a:Ast) (tr:List aj) (Or:Nat→Prop) (Tr:List Nd) (k:Nat),lv=.int .i64 (p:Int)∧ev=.nilIface∧z=k+1∧PS wr b Or tr Tr∧az O w wr∧Ext O Or w∧dR T0 Tr [a] [(p:Int)]∧AS rt l k a tr T0.length K E) ∨
   (∃(le:Int) (g':Nat),ev=.iface 75 (.pointer (some ⟨g',0,none⟩))∧w.heap.size≤g'∧wr.heap[g']? = some (.cells #[.int .i64 6,.int .i64 le] 81 (0,0))∧az O w wr∧E le))
  case atStart=>exact .inl ⟨p,a,fB,O1,T1,m,rfl,rfl,rfl,P1.out,F1.out,X1.out,L1.out,K1.out⟩
  case round =>
   rcases hrel with ⟨p,a,tr,Or,Tr,k,rfl,rfl,rfl,pr,fr,xr,lr,kr⟩ | ⟨le,g',rfl,hg,m3,fr,ke⟩
   ·cases k with
    | zero=>exact kr.elim
    | succ k =>
     obtain⟨t,r,rfl,hle,Qn⟩:=kr;have PR:=aa pr;have FR:=aa fr;have XR:=aa xr;have LR:=aa lr;have HW:=aa (bI b Or t r Tr wr pr);have xj:=aa (fun W=>MI t W)
     have hbr:=Dn t;have HST:=aa (fun W=>uG (eC t) W hbr.1 (by omega))
     have Sw:Hid (¬ JY (eC t)≤l→1≤eC t):=aa fun h=>by
      have h0:eC t≠0:=fun e=>h (by rw[e];exact HL.out)
      omega
     have HLE:=aa hle;have HGT:=aa Qn;have aaJ:=aa hbr.2;clear pr fr xr lr hle Qn hbr F1 P1 X1 L1 K1 HA;generalize hY:ag t=Y at *;generalize hop:eC t=op at *;generalize hst:JY op=st at *;clear hY hop;have HSE:=aa hst;clear hst;by_cases hc:st≤l
     ·have g1:decide (st≤l)=true:=bM hc
      have HC:=aa hc;clear hc;go_wp2_with fail
      refine HW.out.mono ?_;rintro e w2 ⟨rfl,b2⟩;have B2:=aa b2;clear b2;go_wp2_with fail
      refine(xj.out _).mono ?_;rintro e w3 ⟨rfl,rfl⟩;go_wp2_with fail
      refine(HST.out _).mono ?_;rintro e w3 ⟨rfl,rfl⟩;go_wp2_with fail
      go_ret2
      exact⟨FR.out.trans (az.ae (O:=Or) B2.out) XR.out,.inl ⟨p,a,t::r,Or,Tr,rfl,PR.out.below B2.out,XR.out,LR.out,HLE.out HC.out⟩⟩
     ·have g1:decide (st≤l)=false:=bL hc
      have HC:=aa hc;clear hc;go_wp2_with fail
      refine HW.out.mono ?_;rintro e w2 ⟨rfl,b2⟩;have B2:=aa b2;clear b2;go_wp2_with fail
      refine(xj.out _).mono ?_;rintro e w3 ⟨rfl,rfl⟩;go_wp2_with fail
      refine(HST.out _).mono ?_;rintro e w3 ⟨rfl,rfl⟩;have p2:=PR.out.below B2.out;have P2:=aa p2;have hown2 :∀k,Or k→k<w3.heap.size:=fun k hk=>(p2.own k hk).2
      have hb2:b<w3.heap.size:=(p2.own b p2.at_).2;have HV:=aa (Fb op (by have:=Sw.out HC.out;omega) (by have:=aaJ.out;omega) (HR.out op (Sw.out HC.out) aaJ.out) b (fun k=>Or k∨k=w3.heap.size) (w3.alloc (.cells #[.int .i64 (p:Int)] 3)) (fun k hk=>by
       rcases hk with hk|hk
       ·have:=hown2 k hk;simp;omega
       ·simp;omega))
      have HO2:=aa hown2;clear p2 hown2;go_wp2_with fail
      refine HV.out.mono ?_;rintro e w4 ⟨fi,fa,fc,rfl,b4,h4⟩;have hg4:w4.heap[w3.heap.size]? = some (.cells #[.int .i64 (p:Int)] 3 (0,0)):=(b4.block w3.heap.size (by simp)).trans (World.alloc_heap_new w3 _)
      have B4:=aa (aB (aW w3 _) b4);have p4:=P2.out.below B4.out;have HN:=aa (My w4 w3.heap.size p a p4 hg4 (fun h=>by have:=HO2.out _ h;omega) (by omega) LR.out ⟨12,0,op,0,⟨#[]⟩,[],[]⟩ rfl [aY 40 b,.func (.func fi) fa fc] [aC,dm (rt op)] (by simp) ⟨bc w4 b _,h4,trivial⟩ (HGT.out HC.out))
      have F4:=aa ((FR.out.trans (az.ae (O:=Or) B2.out) XR.out).trans (az.ae (O:=Or) B4.out) XR.out);have X4:Hid (Ext O (fun k=>Or k∨k=w3.heap.size) w):=aa fun k hk=>by
       rcases hk with hk|rfl
       ·exact XR.out k hk
       ·exact .inr (aK FR.out.size B2.out.size)
      clear hg4 p4 b4 h4 xj HST Sw HV HO2;go_wp2_with fail
      refine HN.out.mono ?_;intro e w5 h5;have F5:=aa (F4.out.trans h5.1 X4.out);rcases h5.2 with ⟨p5,a5,XF,O5,T5,rfl,q5,x5,l5,k5⟩ | ⟨le,v,er,rfl,⟨g',rfl,m2,m3⟩,k5⟩
      ·have Q5:=aa q5
       have X5:=aa (X4.out.trans x5 F4.out.size);have L5:=aa l5;have K5:=aa k5;clear h5 q5 x5 l5 k5;go_wp2_with fail
       go_roundg (k+1)
       case measure=>omega
       case rel=>exact .inl ⟨p5,a5,XF,O5,T5,k,rfl,rfl,rfl,Q5.out,F5.out,X5.out,L5.out,K5.out⟩
      ·have M3:=aa m3
       have M2:=aa (aK F4.out.size m2);have K5:=aa k5;clear h5 m2 m3 k5;go_wp2_with fail
       go_roundg (k+1)
       case measure=>omega
       case rel=>exact .inr ⟨le,g',rfl,M2.out,M3.out,F5.out,K5.out⟩
   ·have M3:=aa m3
    have HG:=aa hg;have FR:=aa fr;have KE:=aa ke;clear m3 hg fr ke;go_wp2_with fail
    go_ret2
    exact⟨FR.out,.inr ⟨le,_,_,rfl,⟨g',rfl,HG.out,M3.out⟩,KE.out⟩⟩
 ·have M3:=aa m3
  have M2:=aa m2;have K1:=aa k1;clear h1 m2 m3 k1;go_wp2_with fail
  go_loopg [6,7] 1 (fun z lv ev wr=>lv=v∧ev=.iface 75 (.pointer (some ⟨g',0,none⟩))∧wr=w1)
  case atStart=>exact⟨rfl,rfl,rfl⟩
  case round =>
   obtain⟨rfl,rfl,rfl⟩:=hrel;go_wp2_with fail
   go_ret2
   exact⟨F1.out,.inr ⟨le,_,_,rfl,⟨g',rfl,M2.out,M3.out⟩,K1.out⟩⟩
theorem yI {wp:iQ} (hB:rA 178 0 wp):pz 142 wp:=by
 intro b O ts T K E w hp hk;have HN:=aa (hB b O ts T K E w hp hk);clear hp hk hB;go_enter Tryz.func142,Tryz.ntmps142
 go_wp2_with fail
 refine HN.out.mono ?_;intro e wz hz;obtain⟨v,er,rfl⟩:=hz.ret;have HZ:=aa hz;clear hz;go_wp2_with fail
 go_ret2
 exact HZ.out
theorem ql {b:Nat} {O:Nat→Prop} {t:aj} {ts:List aj} {T:List Nd} {K:Ast→List aj→Prop} {E:Int→Prop} (w w2:World) (g:Nat) (hg:g=w2.heap.size) (hp:PS w2 b O (t::ts) T) (hf:az O w w2) (x:Nd) (hx:x=⟨x.kind,0,x.op,x.num,x.s,[],[]⟩) (vs:List Value) (cD:List bR) (hl:vs.length≤100) (hall:jF w2 b O vs cD)
  (hk:aJ cD ⟨{ x with line:=t.2.1},[],t::ts,T.length⟩ (bO K) E):Calls Tryz.prog 19 #[.pointer (some ⟨b,0,none⟩),cO x (.slice none 0 0) (.slice none 0 0),.slice (some ⟨g,0,none⟩) vs.length vs.length] (w2.alloc (.cells vs.toArray 122)) (aF b O T (RK K E) w):=by
 subst hg;exact cr w w2 hp hf x hx vs cD hl hall hk
set_option maxRecDepth 40000 in
theorem Sx (b:Nat) (O:Nat→Prop) (t:aj) (ts:List aj) (T:List Nd) (K:Ast→List aj→Prop) (E:Int→Prop) (w:World) (hp:PS w b O (t::ts) T) (h3:t.1=3)
  (hk:aJ [aC] ⟨⟨4,t.2.1,0,t.2.2.1,⟨#[]⟩,[],[]⟩,[],t::ts,T.length⟩ (bO K) E) :
  Calls Tryz.prog 204 #[.pointer (some ⟨b,0,none⟩)] w (aF b O T (RK K E) w):=by
 obtain⟨t0,t1,t2,t3⟩:=t;have HA:=aa (cj b O (t0,t1,t2,t3) ts T w hp);unfold fS at HA;dsimp only at *
 have q3:(t0 == 3)=true:=tN.2 h3;have HK:=aa hk;have P:=aa hp;clear hp hk h3;generalize hS:bb t3=S at *;clear hS;go_enter Tryz.func204,Tryz.ntmps204
 go_wp2_with fail
 refine HA.out.mono ?_;rintro e w1 ⟨rfl,b1⟩;have BL:=aa (aB b1 (aW w1 (.cells #[.int .i64 t0,.int .i64 t1,.int .i64 t2,.string S] 113)));have FL:=aa (az.ae (O:=O) BL.out);have rB:=aa (P.out.below BL.out);clear b1;have HN:=aa (ql w (w1.alloc (.cells #[.int .i64 t0,.int .i64 t1,.int .i64 t2,.string S] 113)) (w1.heap.size+1) (by simp) rB.out FL.out ⟨4,0,0,t2,⟨#[]⟩,[],[]⟩ rfl [aY 40 b] [aC] (by simp) ⟨bc _ b O,trivial⟩ HK.out)
 go_wp2_with fail
 refine HN.out.mono ?_;intro e wz hz;obtain⟨v,er,rfl⟩:=hz.ret;have HZ:=aa hz;clear hz;go_wp2_with fail
 go_ret2
 exact HZ.out
set_option maxRecDepth 40000 in
theorem Sy (b:Nat) (O:Nat→Prop) (t:aj) (ts:List aj) (T:List Nd) (K:Ast→List aj→Prop) (E:Int→Prop) (w:World) (hp:PS w b O (t::ts) T) (h3:t.1≠3) (h4:t.1=4)
  (hk:aJ [aC] ⟨⟨5,t.2.1,0,0,bb t.2.2.2,[],[]⟩,[],t::ts,T.length⟩ (bO K) E) :
  Calls Tryz.prog 204 #[.pointer (some ⟨b,0,none⟩)] w (aF b O T (RK K E) w):=by
 obtain⟨t0,t1,t2,t3⟩:=t;have HA:=aa (cj b O (t0,t1,t2,t3) ts T w hp);unfold fS at HA;dsimp only at *
 have q3:(t0 == 3)=false:=aE.2 h3;have q4:(t0 == 4)=true:=tN.2 h4;have HK:=aa hk;have P:=aa hp;clear hp hk h3 h4;generalize hS:bb t3=S at *;clear hS;go_enter Tryz.func204,Tryz.ntmps204
 go_wp2_with fail
 refine HA.out.mono ?_;rintro e w1 ⟨rfl,b1⟩;have BL:=aa (aB b1 (aW w1 (.cells #[.int .i64 t0,.int .i64 t1,.int .i64 t2,.string S] 113)));have FL:=aa (az.ae (O:=O) BL.out);have rB:=aa (P.out.below BL.out);clear b1;have HN:=aa (ql w (w1.alloc (.cells #[.int .i64 t0,.int .i64 t1,.int .i64 t2,.string S] 113)) (w1.heap.size+1) (by simp) rB.out FL.out ⟨5,0,0,0,S,[],[]⟩ rfl [aY 40 b] [aC] (by simp) ⟨bc _ b O,trivial⟩ HK.out)
 go_wp2_with fail
 refine HN.out.mono ?_;intro e wz hz;obtain⟨v,er,rfl⟩:=hz.ret;have HZ:=aa hz;clear hz;go_wp2_with fail
 go_ret2
 exact HZ.out
theorem pC {s:List UInt8} {t:aj} (h:av s t=true):t.1≠3:=by rcases aO h with ⟨l,n,rfl⟩ | ⟨l,n,rfl⟩<;>(intro e;simp at e)
theorem iX {s:List UInt8} {t:aj} (h:av s t=true):t.1≠4:=by rcases aO h with ⟨l,n,rfl⟩ | ⟨l,n,rfl⟩<;>(intro e;simp at e)
theorem Dp {t:aj} (h:eX t≠0):20≤eX t∧eX t≤23:=by
 cases hu:lK t with
 | none=>exact absurd (by unfold eX;rw[hu]) h
 | some o=>rw[show eX t=o by unfold eX;rw[hu]];exact yt hu
set_option maxRecDepth 40000 in
theorem Sz {rt:Int→iQ} (hR :∀op,20≤op→op≤23→rA 178 (vU op) (rt op)) (b:Nat) (O:Nat→Prop) (t:aj) (ts:List aj) (T:List Nd) (K:Ast→List aj→Prop) (E:Int→Prop) (w:World) (hp:PS w b O (t::ts) T) (h3:t.1≠3) (h4:t.1≠4) (hu:eX t≠0)
  (hk:aJ [aC,dm (rt (eX t))] ⟨⟨13,t.2.1,eX t,0,⟨#[]⟩,[],[]⟩,[],t::ts,T.length⟩ (bO K) E) :
  Calls Tryz.prog 204 #[.pointer (some ⟨b,0,none⟩)] w (aF b O T (RK K E) w):=by
 obtain⟨t0,t1,t2,t3⟩:=t;have HA:=aa (cj b O (t0,t1,t2,t3) ts T w hp);have HW:=aa (fun W hW=>bI b O (t0,t1,t2,t3) ts T W hW)
 unfold fS at HA;dsimp only at *
 have q3:(t0 == 3)=false:=aE.2 h3;have q4:(t0 == 4)=false:=aE.2 h4;have HU:=aa (fun W=>j7 (t0,t1,t2,t3) W)
 have hr:=Dp hu;have HRR:=aa (hR _ hr.1 hr.2);have HRG:=aa hr;have qu:(eX (t0,t1,t2,t3) != 0)=true:=oO.2 hu;have HK:=aa hk;generalize hop:eX (t0,t1,t2,t3)=op at *;generalize hY:ag (t0,t1,t2,t3)=Y at *;have P:=aa hp;clear hp hk h3 h4 hu hr hop hY hR;generalize hS:bb t3=S at *;clear hS;go_enter Tryz.func204,Tryz.ntmps204
 go_wp2_with fail
 refine HA.out.mono ?_;rintro e w1 ⟨rfl,b1⟩;have BL:=aa (aB b1 (aW w1 (.cells #[.int .i64 t0,.int .i64 t1,.int .i64 t2,.string S] 113)));have FL:=aa (az.ae (O:=O) BL.out);have rB:=aa (P.out.below BL.out);clear b1;have je:=aa (HW.out _ rB.out);clear HW;go_wp2_with fail
 refine je.out.mono ?_;rintro e w2 ⟨rfl,b2⟩;have F2:=aa (FL.out.trans (az.ae (O:=O) b2) (Ext.refl _ _));have P2:=aa (rB.out.below b2);clear b2;go_wp2_with fail
 refine(HU.out _).mono ?_;rintro e w3 ⟨rfl,rfl⟩;have F3:=F2;have P3:=P2;have Cq :∀k,O k→k<w3.heap.size:=fun k hk=>(P3.out.own k hk).2
 have V4:=aa (Fb op (by have:=HRG.out;omega) HRG.out.2 HRR.out b O w3 Cq)
 clear Cq;go_wp2_with fail
 refine V4.out.mono ?_;rintro e w4 ⟨f4,a4,c4,rfl,b4,h4⟩;have F4:=aa (F3.out.trans (az.ae (O:=O) b4) (Ext.refl _ _));have P4:=aa (P3.out.below b4);have H4:=aa h4;clear b4 h4 V4;have HN:=aa (cr w w4 P4.out F4.out ⟨13,0,op,0,⟨#[]⟩,[],[]⟩ rfl [aY 40 b,.func (.func f4) a4 c4] [aC,dm (rt op)] (by simp) ⟨bc w4 b O,H4.out,trivial⟩ HK.out)
 go_wp2_with fail
 refine HN.out.mono ?_;intro e wz hz;obtain⟨v,er,rfl⟩:=hz.ret;have HZ:=aa hz;clear hz;go_wp2_with fail
 go_ret2
 exact HZ.out
set_option maxRecDepth 40000 in
theorem SB (b:Nat) (O:Nat→Prop) (t:aj) (ts:List aj) (T:List Nd) (K:Ast→List aj→Prop) (E:Int→Prop) (w:World) (hp:PS w b O (t::ts) T) (hq:av sR t=true)
  (hk:aJ [aC] ⟨dp 1 t.2.1,[],t::ts,T.length⟩ (bO K) E) :
  Calls Tryz.prog 204 #[.pointer (some ⟨b,0,none⟩)] w (aF b O T (RK K E) w):=by
 obtain⟨t0,t1,t2,t3⟩:=t;have h3:=pC hq;have h4:=iX hq;have hu:eX (t0,t1,t2,t3)=0:=by rcases aO hq with ⟨l,n,e1⟩ | ⟨l,n,e1⟩<;>(rw[e1];rfl)
 have HA:=aa (cj b O (t0,t1,t2,t3) ts T w hp);have HW:=aa (fun W hW=>bI b O (t0,t1,t2,t3) ts T W hW)
 unfold fS at HA;dsimp only at *
 have q3:(t0 == 3)=false:=aE.2 h3;have q4:(t0 == 4)=false:=aE.2 h4;have HU:=aa (fun W=>j7 (t0,t1,t2,t3) W)
 rw[hu] at HU;have g0:((ag (t0,t1,t2,t3)).toList == [110,105,108])=true:=ai (s:=sR) (by decide) _ hq
 have HK:=aa hk;generalize hY:ag (t0,t1,t2,t3)=Y at *;have P:=aa hp;clear hp hk h3 h4 hu hY hq;generalize hS:bb t3=S at *;clear hS;go_enter Tryz.func204,Tryz.ntmps204
 go_wp2_with fail
 refine HA.out.mono ?_;rintro e w1 ⟨rfl,b1⟩;have BL:=aa (aB b1 (aW w1 (.cells #[.int .i64 t0,.int .i64 t1,.int .i64 t2,.string S] 113)));have FL:=aa (az.ae (O:=O) BL.out);have rB:=aa (P.out.below BL.out);clear b1;have je:=aa (HW.out _ rB.out);go_wp2_with fail
 refine je.out.mono ?_;rintro e w2 ⟨rfl,b2⟩;have F2:=aa (FL.out.trans (az.ae (O:=O) b2) (Ext.refl _ _));have P2:=aa (rB.out.below b2);clear b2;go_wp2_with fail
 refine(HU.out _).mono ?_;rintro e w3 ⟨rfl,rfl⟩;have lH:=aa (HW.out _ P2.out);go_wp2_with fail
 refine lH.out.mono ?_;rintro e w4 ⟨rfl,b4⟩;have F4:=aa (F2.out.trans (az.ae (O:=O) b4) (Ext.refl _ _));have P4:=aa (P2.out.below b4);clear b4 HW je lH HU;have HN:=aa (cr w w4 P4.out F4.out (mC 1) rfl [aY 40 b] [aC] (by simp) ⟨bc w4 b O,trivial⟩ HK.out)
 go_wp2_with fail
 refine HN.out.mono ?_;intro e wz hz;obtain⟨v,er,rfl⟩:=hz.ret;have HZ:=aa hz;clear hz;go_wp2_with fail
 go_ret2
 exact HZ.out
set_option maxRecDepth 40000 in
theorem MQ (b:Nat) (O:Nat→Prop) (t:aj) (ts:List aj) (T:List Nd) (K:Ast→List aj→Prop) (E:Int→Prop) (w:World) (hp:PS w b O (t::ts) T) (hq:av mS t=true)
  (hk:aJ [aC] ⟨dp 2 t.2.1,[],t::ts,T.length⟩ (bO K) E) :
  Calls Tryz.prog 204 #[.pointer (some ⟨b,0,none⟩)] w (aF b O T (RK K E) w):=by
 obtain⟨t0,t1,t2,t3⟩:=t;have h3:=pC hq;have h4:=iX hq;have hu:eX (t0,t1,t2,t3)=0:=by rcases aO hq with ⟨l,n,e1⟩ | ⟨l,n,e1⟩<;>(rw[e1];rfl)
 have HA:=aa (cj b O (t0,t1,t2,t3) ts T w hp);have HW:=aa (fun W hW=>bI b O (t0,t1,t2,t3) ts T W hW)
 unfold fS at HA;dsimp only at *
 have q3:(t0 == 3)=false:=aE.2 h3;have q4:(t0 == 4)=false:=aE.2 h4;have HU:=aa (fun W=>j7 (t0,t1,t2,t3) W)
 rw[hu] at HU;have g0:((ag (t0,t1,t2,t3)).toList == [110,105,108])=false:=ai (s:=sR) (by decide) _ (bh hq (by decide))
 have g1:((ag (t0,t1,t2,t3)).toList == [116,114,117,101])=true:=ai (s:=mS) (by decide) _ hq
 have HK:=aa hk;generalize hY:ag (t0,t1,t2,t3)=Y at *;have P:=aa hp;clear hp hk h3 h4 hu hY hq;generalize hS:bb t3=S at *;clear hS;go_enter Tryz.func204,Tryz.ntmps204
 go_wp2_with fail
 refine HA.out.mono ?_;rintro e w1 ⟨rfl,b1⟩;have BL:=aa (aB b1 (aW w1 (.cells #[.int .i64 t0,.int .i64 t1,.int .i64 t2,.string S] 113)));have FL:=aa (az.ae (O:=O) BL.out);have rB:=aa (P.out.below BL.out);clear b1;have je:=aa (HW.out _ rB.out);go_wp2_with fail
 refine je.out.mono ?_;rintro e w2 ⟨rfl,b2⟩;have F2:=aa (FL.out.trans (az.ae (O:=O) b2) (Ext.refl _ _));have P2:=aa (rB.out.below b2);clear b2;go_wp2_with fail
 refine(HU.out _).mono ?_;rintro e w3 ⟨rfl,rfl⟩;have lH:=aa (HW.out _ P2.out);go_wp2_with fail
 refine lH.out.mono ?_;rintro e w4 ⟨rfl,b4⟩;have F4:=aa (F2.out.trans (az.ae (O:=O) b4) (Ext.refl _ _));have P4:=aa (P2.out.below b4);clear b4 HW je lH HU;have HN:=aa (cr w w4 P4.out F4.out (mC 2) rfl [aY 40 b] [aC] (by simp) ⟨bc w4 b O,trivial⟩ HK.out)
 go_wp2_with fail
 refine HN.out.mono ?_;intro e wz hz;obtain⟨v,er,rfl⟩:=hz.ret;have HZ:=aa hz;clear hz;go_wp2_with fail
 go_ret2
 exact HZ.out
set_option maxRecDepth 40000 in
theorem Ip (b:Nat) (O:Nat→Prop) (t:aj) (ts:List aj) (T:List Nd) (K:Ast→List aj→Prop) (E:Int→Prop) (w:World) (hp:PS w b O (t::ts) T) (hq:av kq t=true)
  (hk:aJ [aC] ⟨dp 3 t.2.1,[],t::ts,T.length⟩ (bO K) E) :
  Calls Tryz.prog 204 #[.pointer (some ⟨b,0,none⟩)] w (aF b O T (RK K E) w):=by
 obtain⟨t0,t1,t2,t3⟩:=t;have h3:=pC hq;have h4:=iX hq;have hu:eX (t0,t1,t2,t3)=0:=by rcases aO hq with ⟨l,n,e1⟩ | ⟨l,n,e1⟩<;>(rw[e1];rfl)
 have HA:=aa (cj b O (t0,t1,t2,t3) ts T w hp);have HW:=aa (fun W hW=>bI b O (t0,t1,t2,t3) ts T W hW)
 unfold fS at HA;dsimp only at *
 have q3:(t0 == 3)=false:=aE.2 h3;have q4:(t0 == 4)=false:=aE.2 h4;have HU:=aa (fun W=>j7 (t0,t1,t2,t3) W)
 rw[hu] at HU;have g0:((ag (t0,t1,t2,t3)).toList == [110,105,108])=false:=ai (s:=sR) (by decide) _ (bh hq (by decide))
 have g1:((ag (t0,t1,t2,t3)).toList == [116,114,117,101])=false:=ai (s:=mS) (by decide) _ (bh hq (by decide))
 have g2:((ag (t0,t1,t2,t3)).toList == [102,97,108,115,101])=true:=ai (s:=kq) (by decide) _ hq
 have HK:=aa hk;generalize hY:ag (t0,t1,t2,t3)=Y at *;have P:=aa hp;clear hp hk h3 h4 hu hY hq;generalize hS:bb t3=S at *;clear hS;go_enter Tryz.func204,Tryz.ntmps204
 go_wp2_with fail
 refine HA.out.mono ?_;rintro e w1 ⟨rfl,b1⟩;have BL:=aa (aB b1 (aW w1 (.cells #[.int .i64 t0,.int .i64 t1,.int .i64 t2,.string S] 113)));have FL:=aa (az.ae (O:=O) BL.out);have rB:=aa (P.out.below BL.out);clear b1;have je:=aa (HW.out _ rB.out);go_wp2_with fail
 refine je.out.mono ?_;rintro e w2 ⟨rfl,b2⟩;have F2:=aa (FL.out.trans (az.ae (O:=O) b2) (Ext.refl _ _));have P2:=aa (rB.out.below b2);clear b2;go_wp2_with fail
 refine(HU.out _).mono ?_;rintro e w3 ⟨rfl,rfl⟩;have lH:=aa (HW.out _ P2.out);go_wp2_with fail
 refine lH.out.mono ?_;rintro e w4 ⟨rfl,b4⟩;have F4:=aa (F2.out.trans (az.ae (O:=O) b4) (Ext.refl _ _));have P4:=aa (P2.out.below b4);clear b4 HW je lH HU;have HN:=aa (cr w w4 P4.out F4.out (mC 3) rfl [aY 40 b] [aC] (by simp) ⟨bc w4 b O,trivial⟩ HK.out)
 go_wp2_with fail
 refine HN.out.mono ?_;intro e wz hz;obtain⟨v,er,rfl⟩:=hz.ret;have HZ:=aa hz;clear hz;go_wp2_with fail
 go_ret2
 exact HZ.out
set_option maxRecDepth 40000 in
theorem MR (b:Nat) (O:Nat→Prop) (t:aj) (ts:List aj) (T:List Nd) (K:Ast→List aj→Prop) (E:Int→Prop) (w:World) (hp:PS w b O (t::ts) T) (hq:av [46,46,46] t=true)
  (hk:aJ [aC] ⟨dp 6 t.2.1,[],t::ts,T.length⟩ (bO K) E) :
  Calls Tryz.prog 204 #[.pointer (some ⟨b,0,none⟩)] w (aF b O T (RK K E) w):=by
 obtain⟨t0,t1,t2,t3⟩:=t;have h3:=pC hq;have h4:=iX hq;have hu:eX (t0,t1,t2,t3)=0:=by rcases aO hq with ⟨l,n,e1⟩ | ⟨l,n,e1⟩<;>(rw[e1];rfl)
 have HA:=aa (cj b O (t0,t1,t2,t3) ts T w hp);have HW:=aa (fun W hW=>bI b O (t0,t1,t2,t3) ts T W hW)
 unfold fS at HA;dsimp only at *
 have q3:(t0 == 3)=false:=aE.2 h3;have q4:(t0 == 4)=false:=aE.2 h4;have HU:=aa (fun W=>j7 (t0,t1,t2,t3) W)
 rw[hu] at HU;have g0:((ag (t0,t1,t2,t3)).toList == [110,105,108])=false:=ai (s:=sR) (by decide) _ (bh hq (by decide))
 have g1:((ag (t0,t1,t2,t3)).toList == [116,114,117,101])=false:=ai (s:=mS) (by decide) _ (bh hq (by decide))
 have g2:((ag (t0,t1,t2,t3)).toList == [102,97,108,115,101])=false:=ai (s:=kq) (by decide) _ (bh hq (by decide))
 have g3:((ag (t0,t1,t2,t3)).toList == [46,46,46])=true:=ai (s:=[46,46,46]) (by decide) _ hq
 have HK:=aa hk;generalize hY:ag (t0,t1,t2,t3)=Y at *;have P:=aa hp;clear hp hk h3 h4 hu hY hq;generalize hS:bb t3=S at *;clear hS;go_enter Tryz.func204,Tryz.ntmps204
 go_wp2_with fail
 refine HA.out.mono ?_;rintro e w1 ⟨rfl,b1⟩;have BL:=aa (aB b1 (aW w1 (.cells #[.int .i64 t0,.int .i64 t1,.int .i64 t2,.string S] 113)));have FL:=aa (az.ae (O:=O) BL.out);have rB:=aa (P.out.below BL.out);clear b1;have je:=aa (HW.out _ rB.out);go_wp2_with fail
 refine je.out.mono ?_;rintro e w2 ⟨rfl,b2⟩;have F2:=aa (FL.out.trans (az.ae (O:=O) b2) (Ext.refl _ _));have P2:=aa (rB.out.below b2);clear b2;go_wp2_with fail
 refine(HU.out _).mono ?_;rintro e w3 ⟨rfl,rfl⟩;have lH:=aa (HW.out _ P2.out);go_wp2_with fail
 refine lH.out.mono ?_;rintro e w4 ⟨rfl,b4⟩;have F4:=aa (F2.out.trans (az.ae (O:=O) b4) (Ext.refl _ _));have P4:=aa (P2.out.below b4);clear b4 HW je lH HU;have HN:=aa (cr w w4 P4.out F4.out (mC 6) rfl [aY 40 b] [aC] (by simp) ⟨bc w4 b O,trivial⟩ HK.out)
 go_wp2_with fail
 refine HN.out.mono ?_;intro e wz hz;obtain⟨v,er,rfl⟩:=hz.ret;have HZ:=aa hz;clear hz;go_wp2_with fail
 go_ret2
 exact HZ.out
set_option maxRecDepth 40000 in
theorem yJ {bd:bR} (Dq:ep 152 bd) (b:Nat) (O:Nat→Prop) (t:aj) (ts:List aj) (T:List Nd) (K:Ast→List aj→Prop) (E:Int→Prop) (w:World) (hp:PS w b O (t::ts) T) (hq:av aZ t=true)
  (hk:aJ [aC,bd] ⟨dp 11 t.2.1,[],t::ts,T.length⟩ (bO K) E) :
  Calls Tryz.prog 204 #[.pointer (some ⟨b,0,none⟩)] w (aF b O T (RK K E) w):=by
 obtain⟨t0,t1,t2,t3⟩:=t;have h3:=pC hq;have h4:=iX hq;have hu:eX (t0,t1,t2,t3)=0:=by rcases aO hq with ⟨l,n,e1⟩ | ⟨l,n,e1⟩<;>(rw[e1];rfl)
 have HA:=aa (cj b O (t0,t1,t2,t3) ts T w hp);have HW:=aa (fun W hW=>bI b O (t0,t1,t2,t3) ts T W hW)
 unfold fS at HA;dsimp only at *
 have q3:(t0 == 3)=false:=aE.2 h3;have q4:(t0 == 4)=false:=aE.2 h4;have HU:=aa (fun W=>j7 (t0,t1,t2,t3) W)
 rw[hu] at HU;have g0:((ag (t0,t1,t2,t3)).toList == [110,105,108])=false:=ai (s:=sR) (by decide) _ (bh hq (by decide))
 have g1:((ag (t0,t1,t2,t3)).toList == [116,114,117,101])=false:=ai (s:=mS) (by decide) _ (bh hq (by decide))
 have g2:((ag (t0,t1,t2,t3)).toList == [102,97,108,115,101])=false:=ai (s:=kq) (by decide) _ (bh hq (by decide))
 have g3:((ag (t0,t1,t2,t3)).toList == [46,46,46])=false:=ai (s:=[46,46,46]) (by decide) _ (bh hq (by decide))
 have g4:((ag (t0,t1,t2,t3)).toList == [102,117,110,99,116,105,111,110])=true:=ai (s:=aZ) (by decide) _ hq
 have HK:=aa hk;generalize hY:ag (t0,t1,t2,t3)=Y at *;have P:=aa hp;clear hp hk h3 h4 hu hY hq;generalize hS:bb t3=S at *;clear hS;go_enter Tryz.func204,Tryz.ntmps204
 go_wp2_with fail
 refine HA.out.mono ?_;rintro e w1 ⟨rfl,b1⟩;have BL:=aa (aB b1 (aW w1 (.cells #[.int .i64 t0,.int .i64 t1,.int .i64 t2,.string S] 113)));have FL:=aa (az.ae (O:=O) BL.out);have rB:=aa (P.out.below BL.out);clear b1;have je:=aa (HW.out _ rB.out);go_wp2_with fail
 refine je.out.mono ?_;rintro e w2 ⟨rfl,b2⟩;have F2:=aa (FL.out.trans (az.ae (O:=O) b2) (Ext.refl _ _));have P2:=aa (rB.out.below b2);clear b2;go_wp2_with fail
 refine(HU.out _).mono ?_;rintro e w3 ⟨rfl,rfl⟩;have lH:=aa (HW.out _ P2.out);go_wp2_with fail
 refine lH.out.mono ?_;rintro e w4 ⟨rfl,b4⟩;have F4:=aa (F2.out.trans (az.ae (O:=O) b4) (Ext.refl _ _));have P4:=aa (P2.out.below b4);clear b4 HW je lH HU;have HN:=aa (cr w w4 P4.out F4.out (mC 11) rfl [aY 40 b,aY 152 b] [aC,bd] (by simp) ⟨bc w4 b O,Dq.part (enters_of Tryz.func152 (by kernel_rfl) rfl) w4 b O,trivial⟩ HK.out)
 go_wp2_with fail
 refine HN.out.mono ?_;intro e wz hz;obtain⟨v,er,rfl⟩:=hz.ret;have HZ:=aa hz;clear hz;go_wp2_with fail
 go_ret2
 exact HZ.out
set_option maxRecDepth 40000 in
theorem SC {it:bR} (H7:ep 235 it) (b:Nat) (O:Nat→Prop) (t:aj) (ts:List aj) (T:List Nd) (K:Ast→List aj→Prop) (E:Int→Prop) (w:World) (hp:PS w b O (t::ts) T) (hq:av [123] t=true)
  (hk:aJ [aC,dv [125] it,au [[125]]] ⟨dp 15 t.2.1,[],t::ts,T.length⟩ (bO K) E) :
  Calls Tryz.prog 204 #[.pointer (some ⟨b,0,none⟩)] w (aF b O T (RK K E) w):=by
 obtain⟨t0,t1,t2,t3⟩:=t;have h3:=pC hq;have h4:=iX hq;have hu:eX (t0,t1,t2,t3)=0:=by rcases aO hq with ⟨l,n,e1⟩ | ⟨l,n,e1⟩<;>(rw[e1];rfl)
 have HA:=aa (cj b O (t0,t1,t2,t3) ts T w hp);have HW:=aa (fun W hW=>bI b O (t0,t1,t2,t3) ts T W hW)
 unfold fS at HA;dsimp only at *
 have q3:(t0 == 3)=false:=aE.2 h3;have q4:(t0 == 4)=false:=aE.2 h4;have HU:=aa (fun W=>j7 (t0,t1,t2,t3) W)
 rw[hu] at HU;have g0:((ag (t0,t1,t2,t3)).toList == [110,105,108])=false:=ai (s:=sR) (by decide) _ (bh hq (by decide))
 have g1:((ag (t0,t1,t2,t3)).toList == [116,114,117,101])=false:=ai (s:=mS) (by decide) _ (bh hq (by decide))
 have g2:((ag (t0,t1,t2,t3)).toList == [102,97,108,115,101])=false:=ai (s:=kq) (by decide) _ (bh hq (by decide))
 have g3:((ag (t0,t1,t2,t3)).toList == [46,46,46])=false:=ai (s:=[46,46,46]) (by decide) _ (bh hq (by decide))
 have g4:((ag (t0,t1,t2,t3)).toList == [102,117,110,99,116,105,111,110])=false:=ai (s:=aZ) (by decide) _ (bh hq (by decide))
 have g5:((ag (t0,t1,t2,t3)).toList == [123])=true:=ai (s:=[123]) (by decide) _ hq
 have HK:=aa hk;generalize hY:ag (t0,t1,t2,t3)=Y at *;have P:=aa hp;clear hp hk h3 h4 hu hY hq;generalize hS:bb t3=S at *;clear hS;go_enter Tryz.func204,Tryz.ntmps204
 go_wp2_with fail
 refine HA.out.mono ?_;rintro e w1 ⟨rfl,b1⟩;have BL:=aa (aB b1 (aW w1 (.cells #[.int .i64 t0,.int .i64 t1,.int .i64 t2,.string S] 113)));have FL:=aa (az.ae (O:=O) BL.out);have rB:=aa (P.out.below BL.out);clear b1;have je:=aa (HW.out _ rB.out);go_wp2_with fail
 refine je.out.mono ?_;rintro e w2 ⟨rfl,b2⟩;have F2:=aa (FL.out.trans (az.ae (O:=O) b2) (Ext.refl _ _));have P2:=aa (rB.out.below b2);clear b2;go_wp2_with fail
 refine(HU.out _).mono ?_;rintro e w3 ⟨rfl,rfl⟩;have lH:=aa (HW.out _ P2.out);go_wp2_with fail
 refine lH.out.mono ?_;rintro e w4 ⟨rfl,b4⟩;have F4:=aa (F2.out.trans (az.ae (O:=O) b4) (Ext.refl _ _));have P4:=aa (P2.out.below b4);clear b4 HW je lH HU;have HN:=aa ((Sp H7 b O _ ts T K E w4 P4.out HK.out).mono fun _ _ h=>h.after F4.out)
 go_wp2_with fail
 refine HN.out.mono ?_;intro e wz hz;obtain⟨v,er,rfl⟩:=hz.ret;have HZ:=aa hz;clear hz;go_wp2_with fail
 go_ret2
 exact HZ.out
structure MS (t:aj):Prop where
 n3:t.1≠3
 n4:t.1≠4
 un:eX t=0
 a:av sR t=false
 b:av mS t=false
 c:av kq t=false
 d:av [46,46,46] t=false
 e:av aZ t=false
 f:av [123] t=false
set_option maxRecDepth 40000 in
theorem SD {sf:iQ} (hS:pz 153 sf) (b:Nat) (O:Nat→Prop) (t:aj) (ts:List aj) (T:List Nd) (K:Ast→List aj→Prop) (E:Int→Prop) (w:World) (hp:PS w b O (t::ts) T) (hq:MS t)
  (hk:sf (t::ts) T.length K E) :
  Calls Tryz.prog 204 #[.pointer (some ⟨b,0,none⟩)] w (aF b O T (RK K E) w):=by
 obtain⟨t0,t1,t2,t3⟩:=t;have h3:=hq.n3;have h4:=hq.n4;have hu:=hq.un;have HA:=aa (cj b O (t0,t1,t2,t3) ts T w hp);have HW:=aa (fun W hW=>bI b O (t0,t1,t2,t3) ts T W hW)
 unfold fS at HA;dsimp only at *
 have q3:(t0 == 3)=false:=aE.2 h3;have q4:(t0 == 4)=false:=aE.2 h4;have HU:=aa (fun W=>j7 (t0,t1,t2,t3) W)
 rw[hu] at HU;have g0:((ag (t0,t1,t2,t3)).toList == [110,105,108])=false:=ai (s:=sR) (by decide) _ hq.a
 have g1:((ag (t0,t1,t2,t3)).toList == [116,114,117,101])=false:=ai (s:=mS) (by decide) _ hq.b
 have g2:((ag (t0,t1,t2,t3)).toList == [102,97,108,115,101])=false:=ai (s:=kq) (by decide) _ hq.c
 have g3:((ag (t0,t1,t2,t3)).toList == [46,46,46])=false:=ai (s:=[46,46,46]) (by decide) _ hq.d
 have g4:((ag (t0,t1,t2,t3)).toList == [102,117,110,99,116,105,111,110])=false:=ai (s:=aZ) (by decide) _ hq.e
 have g5:((ag (t0,t1,t2,t3)).toList == [123])=false:=ai (s:=[123]) (by decide) _ hq.f
 have HK:=aa hk;generalize hY:ag (t0,t1,t2,t3)=Y at *;have P:=aa hp;clear hp hk h3 h4 hu hY hq;generalize hS:bb t3=S at *;clear hS;go_enter Tryz.func204,Tryz.ntmps204
 go_wp2_with fail
 refine HA.out.mono ?_;rintro e w1 ⟨rfl,b1⟩;have BL:=aa (aB b1 (aW w1 (.cells #[.int .i64 t0,.int .i64 t1,.int .i64 t2,.string S] 113)));have FL:=aa (az.ae (O:=O) BL.out);have rB:=aa (P.out.below BL.out);clear b1;have je:=aa (HW.out _ rB.out);go_wp2_with fail
 refine je.out.mono ?_;rintro e w2 ⟨rfl,b2⟩;have F2:=aa (FL.out.trans (az.ae (O:=O) b2) (Ext.refl _ _));have P2:=aa (rB.out.below b2);clear b2;go_wp2_with fail
 refine(HU.out _).mono ?_;rintro e w3 ⟨rfl,rfl⟩;have lH:=aa (HW.out _ P2.out);go_wp2_with fail
 refine lH.out.mono ?_;rintro e w4 ⟨rfl,b4⟩;have F4:=aa (F2.out.trans (az.ae (O:=O) b4) (Ext.refl _ _));have P4:=aa (P2.out.below b4);clear b4 HW je lH HU;have HN:=aa ((hS b O _ T K E w4 P4.out HK.out).mono fun _ _ h=>h.after F4.out)
 go_wp2_with fail
 refine HN.out.mono ?_;intro e wz hz;obtain⟨v,er,rfl⟩:=hz.ret;have HZ:=aa hz;clear hz;go_wp2_with fail
 go_ret2
 exact HZ.out
def aaK (op:iQ) (li:bR):bR:=fun s K E=>∃t r,s.ts=t::r∧((t.1=4∨av [123] t=true)→dm op s K E)∧(t.1≠4→av [123] t=false→aJ [au [[40]],dv [41] li,au [[41]]] s K E)
theorem Real.ps {W:World} {b n:Nat} {O:Nat→Prop} {T0:List Nd} {s:St} (h:Real W b n O T0 s) :∃Op T,PS W b Op s.ts T:=by
 obtain⟨Op,On,T,ks,hO,hd,hp,hn,hl,hc⟩:=h.ex;exact⟨Op,T,hp⟩
theorem SE {op:iQ} (hT:pz 204 op) (b n:Nat) (O:Nat→Prop) (T0:List Nd) (s:St) (K:St→Prop) (E:Int→Prop) (w:World) (hr:Real w b n O T0 s) (t:aj) (r:List aj) (hs:s.ts=t::r) (hc:t.1=4∨av [123] t=true) (hk:dm op s K E):Calls Tryz.prog 211 #[.pointer (some ⟨b,0,none⟩),.pointer (some ⟨n,0,none⟩)] w (bx b n O T0 K E w):=by
 have HA:Hid (Calls Tryz.prog 34 #[.pointer (some ⟨b,0,none⟩)] w fun e w'=>e=.returned (fS t)∧Below w.heap.size w w'):=aa (by
  obtain⟨Op,T,hp⟩:=hr.ps;rw[hs] at hp;exact cj b Op t r T w hp)
 have HW:=aa (fun W hW=>jq hr hs W hW)
 have HR:=aa hr;have aaL:=aa (fun W1 hb=>AN b O 204 _ _ op W1 (hT.one (enters_of Tryz.func204 (by kernel_rfl) rfl) W1 b O) (hr.below (W':=W1) hb).lt)
 have HK:=aa hk;obtain⟨t0,t1,t2,t3⟩:=t;unfold fS at HA;dsimp only at *
 have F0:=AH t0 t1 t2 (bb t3);by_cases h4:t0=4
 ·have q4:(t0 == 4)=true:=tN.2 h4
  clear hr hk hs hc h4 HW;generalize bb t3=S at *;go_enter Tryz.func211,Tryz.ntmps211
  go_wp2_with fail
  refine HA.out.mono ?_;rintro e w1 ⟨rfl,b1⟩;have B1:=aa b1;have HC:=aa (aaL.out w1 b1);clear b1;go_wp2_with fail
  refine HC.out.mono ?_;rintro e w2 ⟨v,rfl,b2,h2⟩;obtain⟨f,first,cap,rfl,pt,bq⟩:=h2.1.call HR.out (aB B1.out b2) HK.out
  have dS:=aa bq;clear h2 bq b2;unfold Enters at pt;go_wp2_with fail
  refine dS.out.mono ?_;intro e w2 h3;obtain⟨v,rfl⟩:=h3.ret;have H3:=aa h3;clear h3;go_wp2_with fail
  go_ret
  exact H3.out
 ·have q4:(t0 == 4)=false:=aE.2 h4
  have hw:av [123] (t0,t1,t2,t3)=true:=hc.elim (fun h=>(h4 h).elim) id
  have g1:((ag (t0,t1,t2,t3)).toList == [123])=true:=ai (s:=[123]) (by decide) _ hw
  clear hr hk hs hc h4 hw;generalize bb t3=S at *;generalize ag (t0,t1,t2,t3)=Y at *;go_enter Tryz.func211,Tryz.ntmps211
  go_wp2_with fail
  refine HA.out.mono ?_;rintro e w1 ⟨rfl,b1⟩;have B1:=aa b1;have je:=aa (HW.out w1 b1);clear b1;go_wp2_with fail
  refine je.out.mono ?_;rintro e w2 ⟨rfl,b2⟩;have B2:=aa (aB B1.out b2);have HC:=aa (aaL.out w2 B2.out);clear b2;go_wp2_with fail
  refine HC.out.mono ?_;rintro e w3 ⟨v,rfl,b3,h2⟩;obtain⟨f,first,cap,rfl,pt,bq⟩:=h2.1.call HR.out (aB B2.out b3) HK.out
  have dS:=aa bq;clear h2 bq b3;unfold Enters at pt;go_wp2_with fail
  refine dS.out.mono ?_;intro e w2 h3;obtain⟨v,rfl⟩:=h3.ret;have H3:=aa h3;clear h3;go_wp2_with fail
  go_ret
  exact H3.out
theorem MT {li:bR} (hL:ep 84 li) (b n:Nat) (O:Nat→Prop) (T0:List Nd) (s:St) (K:St→Prop) (E:Int→Prop) (w:World) (hr:Real w b n O T0 s) (t:aj) (r:List aj) (hs:s.ts=t::r) (h4:t.1≠4) (hw:av [123] t=false) (hk:aJ [au [[40]],dv [41] li,au [[41]]] s K E):Calls Tryz.prog 211 #[.pointer (some ⟨b,0,none⟩),.pointer (some ⟨n,0,none⟩)] w (bx b n O T0 K E w):=by
 have HA:Hid (Calls Tryz.prog 34 #[.pointer (some ⟨b,0,none⟩)] w fun e w'=>e=.returned (fS t)∧Below w.heap.size w w'):=aa (by
  obtain⟨Op,T,hp⟩:=hr.ps;rw[hs] at hp;exact cj b Op t r T w hp)
 have HW:=aa (fun W hW=>jq hr hs W hW)
 have HR:=aa hr;have HK:=aa hk;obtain⟨t0,t1,t2,t3⟩:=t;unfold fS at HA;dsimp only at *
 have F9:=AH t0 t1 t2 (bb t3);have q4:(t0 == 4)=false:=aE.2 h4;have g1:((ag (t0,t1,t2,t3)).toList == [123])=false:=ai (s:=[123]) (by decide) _ hw
 clear hr hk hs h4 hw;generalize bb t3=S at *;generalize ag (t0,t1,t2,t3)=Y at *;go_enter Tryz.func211,Tryz.ntmps211
 go_wp2_with fail
 refine HA.out.mono ?_;rintro e wa ⟨rfl,b1⟩;have B1:=aa b1;have je:=aa (HW.out wa b1);clear b1;go_wp2_with fail
 refine je.out.mono ?_;rintro e w0 ⟨rfl,b2⟩;have F0:=aa (az.ae (O:=O) (aB B1.out b2));have P0:=aa (HR.out.below (aB B1.out b2));clear b2 HW je HA;have oV :∀k,O k→k<w0.heap.size:=P0.out.lt;have V1:=aa (cf w0 b O oV [40] (by decide) ⟨#[40]⟩ rfl)
 clear oV;go_wp2_with fail
 refine V1.out.mono ?_;rintro e w1 ⟨f1,a1,c1,rfl,b1,h1⟩;have F1:=aa (F0.out.trans (az.ae (O:=O) b1) (Ext.refl _ _));have P1:=aa (P0.out.below b1);have H1:=aa h1;clear b1 h1 V1;have rq :∀k,O k→k<w1.heap.size:=P1.out.lt;have V2:=aa (rz w1 b O rq [41] (by decide) ⟨#[41]⟩ rfl 84 _ _ (li) (hL.part (enters_of Tryz.func84 (by kernel_rfl) rfl) w1 b O))
 clear rq;go_wp2_with fail
 refine V2.out.mono ?_;rintro e w2 ⟨f2,a2,c2,rfl,b2,h2⟩;have F2:=aa (F1.out.trans (az.ae (O:=O) b2) (Ext.refl _ _));have P2:=aa (P1.out.below b2);have L1:=aa (H1.out.later (az.ae (O:=O) b2) (Ext.refl _ _));clear H1;have H1:=L1;clear L1;have H2:=aa h2;clear b2 h2 V2;have JX :∀k,O k→k<w2.heap.size:=P2.out.lt;have V3:=aa (cf w2 b O JX [41] (by decide) ⟨#[41]⟩ rfl)
 clear JX;go_wp2_with fail
 refine V3.out.mono ?_;rintro e w3 ⟨f3,a3,c3,rfl,b3,h3⟩;have F3:=aa (F2.out.trans (az.ae (O:=O) b3) (Ext.refl _ _));have P3:=aa (P2.out.below b3);have L1:=aa (H1.out.later (az.ae (O:=O) b3) (Ext.refl _ _));clear H1;have H1:=L1;clear L1;have L2:=aa (H2.out.later (az.ae (O:=O) b3) (Ext.refl _ _));clear H2;have H2:=L2;clear L2;have H3:=aa h3;clear b3 h3 V3;have HN:=aa (jl w w3 P3.out F3.out (Ext.refl _ _) [.func (.func f1) a1 c1,.func (.func f2) a2 c2,.func (.func f3) a3 c3] [au [[40]],dv [41] (li),au [[41]]] (by simp) ⟨H1.out,H2.out,H3.out,trivial⟩ HK.out)
 go_wp2_with fail
 refine HN.out.mono ?_;intro e wz hz;obtain⟨v,rfl⟩:=hz.ret;have HZ:=aa hz;clear hz;go_wp2_with fail
 go_ret
 exact HZ.out
theorem aaM {op:iQ} {li:bR} (hT:pz 204 op) (hL:ep 84 li):ep 211 (aaK op li):=by
 rintro b n O T0 s K E w hr ⟨t,r,hs,h1,h2⟩;by_cases hc:t.1=4∨av [123] t=true
 ·exact SE hT b n O T0 s K E w hr t r hs hc (h1 hc)
 ·have h4:t.1≠4:=fun h=>hc (.inl h)
  have hw:av [123] t=false:=by
   cases h:av [123] t with
   | true=>exact(hc (.inr h)).elim
   | false=>rfl
  exact MT hL b n O T0 s K E w hr t r hs h4 hw (h2 h4 hw)
def j8 (b:Nat) (O:Nat→Prop) (kind:Int) (cD:List bR) (w:World) (e:Ending) (w':World):Prop:=∃A m,e=.returned (.tuple #[.int .i64 kind,.slice A m m])∧Below w.heap.size w w'∧aN w' b O (.slice A m m) cD
theorem aN.nil (W:World) (b:Nat) (O:Nat→Prop):aN W b O (.slice none 0 0) []:=⟨[],.inl ⟨rfl,rfl⟩,trivial⟩
theorem SF (b:Nat) (O:Nat→Prop) (t:aj) (ts:List aj) (T:List Nd) (w:World) (hp:PS w b O (t::ts) T) (hq:av [46] t=true):Calls Tryz.prog 183 #[.pointer (some ⟨b,0,none⟩)] w (j8 b O 8 [aC,s5] w):=by
 have HW:=aa (bI b O t ts T w hp);have g0:((ag t).toList == [46])=true:=ai (s:=[46]) (by decide) t hq
 have P:=aa hp;generalize ag t=Y at *;clear hp hq;go_enter Tryz.func183,Tryz.ntmps183
 go_wp2_with fail
 refine HW.out.mono ?_;rintro e w0 ⟨rfl,b0⟩;have F0:=aa (az.ae (O:=O) b0);have P0:=aa (P.out.below b0);have B0:=aa b0;clear b0;have HO:=aa (fun k hk=>(P0.out.own k hk).2)
 have HN:=aa (aN.new (w:=w0) (b:=b) (O:=O) HO.out [aY 40 b,aY 179 b] [aC,s5] (by simp) ⟨bc w0 b O,Ms.part (enters_of Tryz.func179 (by kernel_rfl) rfl) w0 b O,trivial⟩)
 go_wp2_with fail
 go_ret2
 exact⟨_,_,rfl,aB B0.out (aW w0 _),HN.out⟩
theorem XG {ex:bR} (hE:ep 91 ex) (b:Nat) (O:Nat→Prop) (t:aj) (ts:List aj) (T:List Nd) (w:World) (hp:PS w b O (t::ts) T) (hq:av [91] t=true):Calls Tryz.prog 183 #[.pointer (some ⟨b,0,none⟩)] w (j8 b O 8 [aC,ex,au [[93]]] w):=by
 have HW:=aa (bI b O t ts T w hp);have g0:=aQ [46] hq (by decide)
 have g1:((ag t).toList == [91])=true:=ai (s:=[91]) (by decide) t hq
 have P:=aa hp;generalize ag t=Y at *;clear hp hq;go_enter Tryz.func183,Tryz.ntmps183
 go_wp2_with fail
 refine HW.out.mono ?_;rintro e w0 ⟨rfl,b0⟩;have F0:=aa (az.ae (O:=O) b0);have P0:=aa (P.out.below b0);have B0:=aa b0;clear b0;have oV :∀k,O k→k<w0.heap.size:=fun k hk=>(P0.out.own k hk).2
 have V1:=aa (cf w0 b O oV [93] (by decide) ⟨#[93]⟩ rfl)
 clear oV;go_wp2_with fail
 refine V1.out.mono ?_;rintro e w1 ⟨f1,a1,c1,rfl,b1,h1⟩;have F1:=aa (F0.out.trans (az.ae (O:=O) b1) (Ext.refl _ _));have B1:=aa (aB B0.out b1);have P1:=aa (P0.out.below b1);have H1:=aa h1;clear b1 h1 V1;have HO:=aa (fun k hk=>(P1.out.own k hk).2)
 have HN:=aa (aN.new (w:=w1) (b:=b) (O:=O) HO.out [aY 40 b,aY 91 b,.func (.func f1) a1 c1] [aC,ex,au [[93]]] (by simp) ⟨bc w1 b O,hE.part (enters_of Tryz.func91 (by kernel_rfl) rfl) w1 b O,H1.out,trivial⟩)
 go_wp2_with fail
 go_ret2
 exact⟨_,_,rfl,aB B1.out (aW w1 _),HN.out⟩
theorem Iq {ar:bR} (hG:ep 211 ar) (b:Nat) (O:Nat→Prop) (t:aj) (ts:List aj) (T:List Nd) (w:World) (hp:PS w b O (t::ts) T) (hq:av [58] t=true):Calls Tryz.prog 183 #[.pointer (some ⟨b,0,none⟩)] w (j8 b O 10 [aC,cG,ar] w):=by
 have HW:=aa (bI b O t ts T w hp);have g0:=aQ [46] hq (by decide)
 have g1:=aQ [91] hq (by decide)
 have g2:((ag t).toList == [58])=true:=ai (s:=[58]) (by decide) t hq
 have P:=aa hp;generalize ag t=Y at *;clear hp hq;go_enter Tryz.func183,Tryz.ntmps183
 go_wp2_with fail
 refine HW.out.mono ?_;rintro e w0 ⟨rfl,b0⟩;have F0:=aa (az.ae (O:=O) b0);have P0:=aa (P.out.below b0);have B0:=aa b0;clear b0;have HO:=aa (fun k hk=>(P0.out.own k hk).2)
 have HN:=aa (aN.new (w:=w0) (b:=b) (O:=O) HO.out [aY 40 b,aY 88 b,aY 211 b] [aC,cG,ar] (by simp) ⟨bc w0 b O,ig w0 b O,hG.part (enters_of Tryz.func211 (by kernel_rfl) rfl) w0 b O,trivial⟩)
 go_wp2_with fail
 go_ret2
 exact⟨_,_,rfl,aB B0.out (aW w0 _),HN.out⟩
theorem Ir {ar:bR} (hG:ep 211 ar) (b:Nat) (O:Nat→Prop) (t:aj) (ts:List aj) (T:List Nd) (w:World) (hp:PS w b O (t::ts) T) (hq:av [40] t=true):Calls Tryz.prog 183 #[.pointer (some ⟨b,0,none⟩)] w (j8 b O 9 [ar] w):=by
 have HW:=aa (bI b O t ts T w hp);have g0:=aQ [46] hq (by decide)
 have g1:=aQ [91] hq (by decide)
 have g2:=aQ [58] hq (by decide)
 have g3:((ag t).toList == [40])=true:=ai (s:=[40]) (by decide) t hq
 have P:=aa hp;generalize ag t=Y at *;clear hp hq;go_enter Tryz.func183,Tryz.ntmps183
 go_wp2_with fail
 refine HW.out.mono ?_;rintro e w0 ⟨rfl,b0⟩;have F0:=aa (az.ae (O:=O) b0);have P0:=aa (P.out.below b0);have B0:=aa b0;clear b0;have HO:=aa (fun k hk=>(P0.out.own k hk).2)
 have HN:=aa (aN.new (w:=w0) (b:=b) (O:=O) HO.out [aY 211 b] [ar] (by simp) ⟨hG.part (enters_of Tryz.func211 (by kernel_rfl) rfl) w0 b O,trivial⟩)
 go_wp2_with fail
 go_ret2
 exact⟨_,_,rfl,aB B0.out (aW w0 _),HN.out⟩
theorem Is {ar:bR} (hG:ep 211 ar) (b:Nat) (O:Nat→Prop) (t:aj) (ts:List aj) (T:List Nd) (w:World) (hp:PS w b O (t::ts) T) (hq:av [123] t=true):Calls Tryz.prog 183 #[.pointer (some ⟨b,0,none⟩)] w (j8 b O 9 [ar] w):=by
 have HW:=aa (bI b O t ts T w hp);have g0:=aQ [46] hq (by decide)
 have g1:=aQ [91] hq (by decide)
 have g2:=aQ [58] hq (by decide)
 have g3:=aQ [40] hq (by decide)
 have g4:((ag t).toList == [123])=true:=ai (s:=[123]) (by decide) t hq
 have P:=aa hp;generalize ag t=Y at *;clear hp hq;go_enter Tryz.func183,Tryz.ntmps183
 go_wp2_with fail
 refine HW.out.mono ?_;rintro e w0 ⟨rfl,b0⟩;have F0:=aa (az.ae (O:=O) b0);have P0:=aa (P.out.below b0);have B0:=aa b0;clear b0;have HO:=aa (fun k hk=>(P0.out.own k hk).2)
 have HN:=aa (aN.new (w:=w0) (b:=b) (O:=O) HO.out [aY 211 b] [ar] (by simp) ⟨hG.part (enters_of Tryz.func211 (by kernel_rfl) rfl) w0 b O,trivial⟩)
 go_wp2_with fail
 go_ret2
 exact⟨_,_,rfl,aB B0.out (aW w0 _),HN.out⟩
structure MV (t:aj):Prop where
 a:av [46] t=false
 b:av [91] t=false
 c:av [58] t=false
 d:av [40] t=false
 e:av [123] t=false
theorem SG {ar:bR} (hG:ep 211 ar) (b:Nat) (O:Nat→Prop) (t:aj) (ts:List aj) (T:List Nd) (w:World) (hp:PS w b O (t::ts) T) (hq:MV t) (h4:t.1=4):Calls Tryz.prog 183 #[.pointer (some ⟨b,0,none⟩)] w (j8 b O 9 [ar] w):=by
 have HW:=aa (bI b O t ts T w hp);have g0:((ag t).toList == [46])=false:=ai (s:=[46]) (by decide) t hq.a
 have g1:((ag t).toList == [91])=false:=ai (s:=[91]) (by decide) t hq.b
 have g2:((ag t).toList == [58])=false:=ai (s:=[58]) (by decide) t hq.c
 have g3:((ag t).toList == [40])=false:=ai (s:=[40]) (by decide) t hq.d
 have g4:((ag t).toList == [123])=false:=ai (s:=[123]) (by decide) t hq.e
 have P:=aa hp;have HA:=aa (fun W hW=>cj b O t ts T W hW)
 generalize ag t=Y at *;obtain⟨t0,t1,t2,t3⟩:=t;unfold fS at HA;dsimp only at *
 subst h4;have F9:=AH 4 t1 t2 (bb t3);generalize bb t3=S at *;clear hp hq;go_enter Tryz.func183,Tryz.ntmps183
 go_wp2_with fail
 refine HW.out.mono ?_;rintro e w0 ⟨rfl,b0⟩;have F0:=aa (az.ae (O:=O) b0);have P0:=aa (P.out.below b0);have B0:=aa b0;clear b0;have HA1:=aa (HA.out _ P0.out);go_wp2_with fail
 refine HA1.out.mono ?_;rintro e w1 ⟨rfl,b1⟩;have F1:=aa (F0.out.trans (az.ae (O:=O) b1) (Ext.refl _ _));have P1:=aa (P0.out.below b1);have B1:=aa (aB B0.out b1);clear b1;have HO:=aa (fun k hk=>(P1.out.own k hk).2)
 have HN:=aa (aN.new (w:=w1) (b:=b) (O:=O) HO.out [aY 211 b] [ar] (by simp) ⟨hG.part (enters_of Tryz.func211 (by kernel_rfl) rfl) w1 b O,trivial⟩)
 go_wp2_with fail
 go_ret2
 exact⟨_,_,rfl,aB B1.out (aW w1 _),HN.out⟩
theorem MW (b:Nat) (O:Nat→Prop) (t:aj) (ts:List aj) (T:List Nd) (w:World) (hp:PS w b O (t::ts) T) (hq:MV t) (h4:t.1≠4):Calls Tryz.prog 183 #[.pointer (some ⟨b,0,none⟩)] w (j8 b O 0 [] w):=by
 have HW:=aa (bI b O t ts T w hp);have g0:((ag t).toList == [46])=false:=ai (s:=[46]) (by decide) t hq.a
 have g1:((ag t).toList == [91])=false:=ai (s:=[91]) (by decide) t hq.b
 have g2:((ag t).toList == [58])=false:=ai (s:=[58]) (by decide) t hq.c
 have g3:((ag t).toList == [40])=false:=ai (s:=[40]) (by decide) t hq.d
 have g4:((ag t).toList == [123])=false:=ai (s:=[123]) (by decide) t hq.e
 have P:=aa hp;have HA:=aa (fun W hW=>cj b O t ts T W hW)
 have h4:=h4;generalize ag t=Y at *;obtain⟨t0,t1,t2,t3⟩:=t;unfold fS at HA;dsimp only at *
 have F9:=AH t0 t1 t2 (bb t3);have q4:(t0 == 4)=false:=aE.2 h4;generalize bb t3=S at *;clear hp hq h4;go_enter Tryz.func183,Tryz.ntmps183
 go_wp2_with fail
 refine HW.out.mono ?_;rintro e w0 ⟨rfl,b0⟩;have F0:=aa (az.ae (O:=O) b0);have P0:=aa (P.out.below b0);have B0:=aa b0;clear b0;have HA1:=aa (HA.out _ P0.out);go_wp2_with fail
 refine HA1.out.mono ?_;rintro e w1 ⟨rfl,b1⟩;have F1:=aa (F0.out.trans (az.ae (O:=O) b1) (Ext.refl _ _));have P1:=aa (P0.out.below b1);have B1:=aa (aB B0.out b1);clear b1;go_wp2_with fail
 go_ret2
 exact⟨_,_,rfl,B1.out,aN.nil _ _ _⟩
theorem AT {b:Nat} {O:Nat→Prop} {t:aj} {ts:List aj} {T0 T:List Nd} {K:Ast→List aj→Prop} {E:Int→Prop} (w2:World) (g p:Nat) (a:Ast) (hp:PS w2 b O (t::ts) T) (hg:w2.heap[g]? = some (.cells #[.int .i64 (p:Int)] 3 (0,0))) (hgO:¬ O g) (hgb:b+1≤g) (U7:dR T0 T [a] [(p:Int)])
  (x:Nd) (hx:x=⟨x.kind,0,x.op,x.num,x.s,[],[]⟩) (pv:Value) (cD:List bR) (EZ:aN w2 b (fun k=>O k∨k=g) pv cD)
  (hk:aJ cD ⟨{ x with line:=t.2.1},[a],t::ts,T0.length+a.size⟩ (bO K) E) :
  Calls Tryz.prog 19 #[.pointer (some ⟨b,0,none⟩),cO x (.slice none 0 0) (.slice (some ⟨g,0,none⟩) 1 1),pv] w2 (aF b (fun k=>O k∨k=g) T0 (RK K E) w2):=by
 have h1:x.line=0:=by rw[hx]
 have h2:x.names=[]:=by rw[hx]
 have ri:g<w2.heap.size:=(aI.1 hg).1;have hz:T.length=T0.length+a.size:=by rw[U7.len,Ast.al,Ast.al];omega
 rw[←hz] at hk;have hrow:w2.ownsRow (b+1) 3 1 (.slice (some ⟨g,0,none⟩) 1 1) 1 [.int .i64 (p:Int)]:=⟨rfl,.inr ⟨g,1,#[.int .i64 (p:Int)],rfl,hgb,hg,ah _,by unfold maxLen;omega,rfl,rfl⟩⟩
 have dG:jD w2 b (· = g) { x with kids:=[(p:Int)]} (.slice none 0 0) (.slice (some ⟨g,0,none⟩) 1 1):=by
  refine⟨?_,hrow,fun g hg=>by simp[Value.ownBlock] at hg,fun g hg=>by simp[Value.ownBlock] at hg,fun k hk=>by simpa[Value.ownBlock] using hk.symm⟩
  rw[show({ x with kids:=[(p:Int)]}:Nd).names=[] from h2]
  exact World.ownsRow_nil _ _ _ _
 exact yC b O (· = g) t ts T0 T x t.2.1 [a] [(p:Int)] (.slice none 0 0) (.slice (some ⟨g,0,none⟩) 1 1) pv cD (RK K E) w2 hp dG (fun k hk e=>hgO (e▸hk)) (fun k hk=>⟨by omega,by omega⟩) U7 EZ (.inl ⟨h1,rfl⟩) hk
def jm (t:aj):Int:=if av [46] t=true then 8 else if av [91] t=true then 8 else if av [58] t=true then 10 else if av [40] t=true then 9 else if av [123] t=true then 9 else if t.1=4 then 9 else 0
def Fc (ex ar:bR) (t:aj):List bR:=if av [46] t=true then [aC,s5] else if av [91] t=true then [aC,ex,au [[93]]] else if av [58] t=true then [aC,cG,ar] else if av [40] t=true then [ar] else if av [123] t=true then [ar] else if t.1=4 then [ar] else []
theorem MX {ex ar:bR} (hE:ep 91 ex) (hG:ep 211 ar) (b:Nat) (O:Nat→Prop) (t:aj) (ts:List aj) (T:List Nd) (w:World) (hp:PS w b O (t::ts) T):Calls Tryz.prog 183 #[.pointer (some ⟨b,0,none⟩)] w (j8 b O (jm t) (Fc ex ar t) w):=by
 unfold jm Fc;by_cases h1:av [46] t=true
 ·rw[ak h1,ak h1];exact SF b O t ts T w hp h1
 rw[af h1,af h1];by_cases h2:av [91] t=true
 ·rw[ak h2,ak h2];exact XG hE b O t ts T w hp h2
 rw[af h2,af h2];by_cases h3:av [58] t=true
 ·rw[ak h3,ak h3];exact Iq hG b O t ts T w hp h3
 rw[af h3,af h3];by_cases h4:av [40] t=true
 ·rw[ak h4,ak h4];exact Ir hG b O t ts T w hp h4
 rw[af h4,af h4];by_cases h5:av [123] t=true
 ·rw[ak h5,ak h5];exact Is hG b O t ts T w hp h5
 rw[af h5,af h5];have hn:MV t:=⟨by simpa using h1,by simpa using h2,by simpa using h3,by simpa using h4,by simpa using h5⟩
 by_cases h6:t.1=4
 ·rw[ak h6,ak h6];exact SG hG b O t ts T w hp hn h6
 ·rw[af h6,af h6];exact MW b O t ts T w hp hn h6
def uH (ex ar:bR):Nat→Ast→List aj→Nat→(Ast→List aj→Prop)→(Int→Prop)→Prop
 | 0,_,_,_,_,_=>False
 | k+1,a,ts,n,K,E=>∃t r,ts=t::r∧(jm t=0→K a ts)∧(jm t≠0→aJ (Fc ex ar t) ⟨dp (jm t) t.2.1,[a],ts,n+a.size⟩ (bO fun a' ay=>uH ex ar k a' ay n K E) E)
def aaN (ex ar:bR):iQ:=fun ts n K E=>∃t r,ts=t::r∧Mt ex t r n (fun a fB=>∃m,uH ex ar m a fB n K E) E
theorem Dr {ex ar:bR} (hE:ep 91 ex) (hG:ep 211 ar):pz 153 (aaN ex ar):=by
 rintro b O ts T0 K E w hp ⟨t,r,rfl,hk⟩;have HA:=aa (Sn hE b O t r T0 _ E w hp hk);have HSF:=aa (fun(O:Nat→Prop) (t:aj) (ts:List aj) (T:List Nd) (W:World) hW=>MX hE hG b O t ts T W hW)
 clear hp hk hE hG;go_enter Tryz.func153,Tryz.ntmps153
 go_wp2_with fail
 refine HA.out.mono ?_;intro e w1 h1;have F1:=aa h1.1;rcases h1.2 with ⟨p,a,fB,O1,T1,rfl,p1,x1,l1,k1⟩ | ⟨le,v,er,rfl,⟨g',rfl,m2,m3⟩,k1⟩
 ·obtain⟨m,k1⟩:=k1
  have P1:=aa p1;have X1:=aa x1;have L1:=aa l1;have K1:=aa k1;clear h1 p1 x1 l1 k1;go_wp2_with fail
  go_loopg [4,5] (m+1) (fun z lv ev wr=>(∃(p:Nat) (a:Ast) (tr:List aj) (Or:Nat→Prop) (Tr:List Nd) (k:Nat),lv=.int .i64 (p:Int)∧ev=.nilIface∧z=k+1∧PS wr b Or tr Tr∧az O w wr∧Ext O Or w∧dR T0 Tr [a] [(p:Int)]∧uH ex ar k a tr T0.length K E) ∨
   (∃(le:Int) (g':Nat),ev=.iface 75 (.pointer (some ⟨g',0,none⟩))∧w.heap.size≤g'∧wr.heap[g']? = some (.cells #[.int .i64 6,.int .i64 le] 81 (0,0))∧az O w wr∧E le))
  case atStart=>exact .inl ⟨p,a,fB,O1,T1,m,rfl,rfl,rfl,P1.out,F1.out,X1.out,L1.out,K1.out⟩
  case round =>
   rcases hrel with ⟨p,a,tr,Or,Tr,k,rfl,rfl,rfl,pr,fr,xr,lr,kr⟩ | ⟨le,g',rfl,hg,m3,fr,ke⟩
   ·cases k with
    | zero=>exact kr.elim
    | succ k =>
     obtain⟨t,r,rfl,hle,Qn⟩:=kr;have PR:=aa pr;have FR:=aa fr;have XR:=aa xr;have LR:=aa lr;have HSX:=aa (HSF.out Or t r Tr wr pr);have HLE:=aa hle;have HGT:=aa Qn;clear pr fr xr lr hle Qn F1 P1 X1 L1 K1 HA;generalize qa:jm t=kd at *;clear qa;go_wp2_with fail
     refine HSX.out.mono ?_;rintro e w2 ⟨Av,mv,rfl,b2,hpv⟩;have B2:=aa b2;have HPV:=aa hpv;clear b2 hpv;by_cases hc:kd=0
     ·subst hc
      go_wp2_with fail
      go_ret2
      exact⟨FR.out.trans (az.ae (O:=Or) B2.out) XR.out,.inl ⟨p,a,t::r,Or,Tr,rfl,PR.out.below B2.out,XR.out,LR.out,HLE.out (by trivial)⟩⟩
     ·have g1:(kd == 0)=false:=aE.2 hc
      have HC:=aa hc;clear hc;have p2:=PR.out.below B2.out;have P2:=aa p2;have hown2 :∀k,Or k→k<w2.heap.size:=fun k hk=>(p2.own k hk).2
      have hb2:b<w2.heap.size:=(p2.own b p2.at_).2;have HN:=aa (AT (w2.alloc (.cells #[.int .i64 (p:Int)] 3)) w2.heap.size p a (p2.below (aW w2 _)) (World.alloc_heap_new w2 _) (fun h=>by have:=hown2 _ h;omega) (by omega) LR.out ⟨kd,0,0,0,⟨#[]⟩,[],[]⟩ rfl (.slice Av mv mv) _ (HPV.out.later ((az.refl _ _).alloc _) (fun k hk=>hk.imp id fun h=>by omega)) (HGT.out HC.out))
      have F4:=aa ((FR.out.trans (az.ae (O:=Or) B2.out) XR.out).trans (az.ae (O:=Or) (aW w2 (.cells #[.int .i64 (p:Int)] 3))) XR.out);have X4:Hid (Ext O (fun k=>Or k∨k=w2.heap.size) w):=aa fun k hk=>by
       rcases hk with hk|rfl
       ·exact XR.out k hk
       ·exact .inr (aK FR.out.size B2.out.size)
      clear p2 hown2;go_wp2_with fail
      refine HN.out.mono ?_;intro e w5 h5;have F5:=aa (F4.out.trans h5.1 X4.out);rcases h5.2 with ⟨p5,a5,XF,O5,T5,rfl,q5,x5,l5,k5⟩ | ⟨le,v,er,rfl,⟨g',rfl,m2,m3⟩,k5⟩
      ·have Q5:=aa q5
       have X5:=aa (X4.out.trans x5 F4.out.size);have L5:=aa l5;have K5:=aa k5;clear h5 q5 x5 l5 k5;go_wp2_with fail
       go_roundg (k+1)
       case measure=>omega
       case rel=>exact .inl ⟨p5,a5,XF,O5,T5,k,rfl,rfl,rfl,Q5.out,F5.out,X5.out,L5.out,K5.out⟩
      ·have M3:=aa m3
       have M2:=aa (aK F4.out.size m2);have K5:=aa k5;clear h5 m2 m3 k5;go_wp2_with fail
       go_roundg (k+1)
       case measure=>omega
       case rel=>exact .inr ⟨le,g',rfl,M2.out,M3.out,F5.out,K5.out⟩
   ·have M3:=aa m3
    have HG:=aa hg;have FR:=aa fr;have KE:=aa ke;clear m3 hg fr ke;go_wp2_with fail
    go_ret2
    exact⟨FR.out,.inr ⟨le,_,_,rfl,⟨g',rfl,HG.out,M3.out⟩,KE.out⟩⟩
 ·have M3:=aa m3
  have M2:=aa m2;have K1:=aa k1;clear h1 m2 m3 k1;go_wp2_with fail
  go_loopg [4,5] 1 (fun _ lv ev wr=>lv=v∧ev=.iface 75 (.pointer (some ⟨g',0,none⟩))∧wr=w1)
  case atStart=>exact⟨rfl,rfl,rfl⟩
  case round =>
   obtain⟨rfl,rfl,rfl⟩:=hrel;go_wp2_with fail
   go_ret2
   exact⟨F1.out,.inr ⟨le,_,_,rfl,⟨g',rfl,M2.out,M3.out⟩,K1.out⟩⟩
end Go.Proofs.YteflkdlaoiijbaaGreatDoor
namespace Go.Proofs.YteflkdlaoiijbaaGreatDoor
theorem MY {t:aj} {o:Int×Nat×Nat} (h:my t=some o) {s:Nat} (hs:¬ s≤o.2.1) (x:Ast) (ts:List aj):PL (df (.lvm s x)) (t::ts) (.ok (x,t::ts)):=by
 refine .look ?_;rw[h];show PL (if s≤o.2.1 then _ else _) _ _
 rw[af hs];exact .ret
variable {t1 t2:aj} {o1 o2:Int×Nat×Nat}
end Go.Proofs.YteflkdlaoiijbaaGreatDoor
