/- Parts of the proof. -/
import Derived.LaidEql
import Derived.Stop.Asserts
import Derived.RowKitTokens
import Derived.Test.YteflkdlaoiijbaaGreatDoorN07
set_option maxHeartbeats 16000000
set_option maxRecDepth 20000
namespace Go.Proofs.YteflkdlaoiijbaaGreatDoor
open Go.RowKit
def aaV (N:Nat):iQ:=XS (fun _=>SV) Vm (yK N) SV
def AZ (N:Nat):bR:=aaK (aaV N) (nG N)
abbrev aaW:GL (List Ast):=df .arg
section
variable {K:Ast→List aj→Prop} {E:Int→Prop} {K':St→Prop} {N k n:Nat} {h:Nd} {xs:List Ast} {t:aj} {ts:List aj}
theorem Nk {kk:List Ast→GL Ast} (hI:Rm (N+1) k ⟨h,xs,ts,n⟩) (H:Gw (.call .arg kk) ts K E)
  (hk :∀(l:List Ast) (ay:List aj),Rm (N+1) (k+1) ⟨h,xs++l,ay,n+Ast.al l⟩→ay.length<ts.length→Gw (kk l) ay K E→K' ⟨h,xs++l,ay,n+Ast.al l⟩):AZ N ⟨h,xs,ts,n⟩ K' E:=by
 obtain⟨t,r,ji⟩:=hI.cons;dsimp only at ji
 subst ji;have hn:=hI.n;have hx:=hI.xs;dsimp only at hn hx
 have G0:=Gw.call H;have acX :∀(l:List Ast) (ay:List aj),PL aaW (t::r) (.ok (l,ay))→yx .arg (t::r).length l ay.length∧Gw (kk l) ay K E→K' ⟨h,xs++l,ay,n+Ast.al l⟩:=fun l ay p hq=>by
  have hz:Ast.al l+2*ay.length+1≤2*(t::r).length:=hq.1;exact hk l ay (hI.kids (by omega) (PL.short (n:=.arg) p) (PL.wf (n:=.arg) p hI.wf)) (by omega) hq.2
 have G1:Gw aaW (t::r) (fun l ay=>K' ⟨h,xs++l,ay,n+Ast.al l⟩∧Ast.al l+2*ay.length+1≤2*(t::r).length) E:=G0.mono fun l ay p hq=>⟨acX l ay p hq,hq.1⟩
 have G2:=Gw.look G1;refine⟨t,r,rfl,fun hc=>?_,fun h4 hw=>?_⟩
 ·refine jH (by dsimp only;omega) ⟨t,r,rfl,fun ht=>?_,fun _ ht=>?_,fun h3 h4 hu=>?_,fun hw=>?_,fun hw=>?_,fun hw=>?_,fun hw=>?_,fun hw=>?_,fun hw=>?_,fun hq=>?_⟩
  ·exact hc.elim (fun h=>absurd h (by omega)) fun h=>absurd ht (pC h)
  ·have G3:=(G2.pos ht).tok.ret
   refine⟨t,r,rfl,by omega,⟨?_,nH.mk G3.1⟩⟩
   dsimp only
   omega
  ·exact absurd (hc.elim (fun h=>absurd h h4) fun h=>by unfold eX;rw[ik (by decide) h]) hu
  ·exact hc.elim (fun h=>absurd h (iX hw)) fun h=>absurd hw (aU h (by decide))
  ·exact hc.elim (fun h=>absurd h (iX hw)) fun h=>absurd hw (aU h (by decide))
  ·exact hc.elim (fun h=>absurd h (iX hw)) fun h=>absurd hw (aU h (by decide))
  ·exact hc.elim (fun h=>absurd h (iX hw)) fun h=>absurd hw (aU h (by decide))
  ·exact hc.elim (fun h=>absurd h (iX hw)) fun h=>absurd hw (aU h (by decide))
  ·have G3:=((G2.neg (iX hw)).pos hw).tok
   have acY:Rm (N+1) k ⟨dp 15 t.2.1,[],t::r,n⟩:=⟨hI.len,hI.n,by have:=hI.xs;simp only[List.length_nil];dsimp only at this;omega,hI.wf⟩
   refine cH acY (aV hw) fun hI=>MZ hI (Gw.SU ((Gw.call G3).mono fun(l:List Ast) ay _ hq=>Gw.XO (nH.mk hq.2.ret.1)))
  ·exact hc.elim (fun h=>(hq.n4 h).elim) fun h=>by rw[hq.f] at h;exact(fW h).elim
 ·have G3:=(G2.neg h4).neg (by simp[hw])
  refine⟨t,r,rfl,fun hp=>?_,G3.want.2⟩
  have oF:Rm N (k+2) ⟨h,xs,r,n⟩:=hI.Xy (aV hp);have G4:=G3.want.1 hp;obtain⟨u,us,ji⟩:=oF.cons;dsimp only at ji
  subst ji;have G5:=G4.look;refine(show aJ [dv [41] (nG N),au [[41]]] ⟨h,xs,u::us,n⟩ K' E from⟨u,us,rfl,fun hr=>?_,fun hr=>?_⟩)
  ·have G6:=(G5.pos hr).tok.ret
   rw[jW,cb,Nat.add_zero] at G6;exact(show au [[41]] _ _ _ from⟨u,us,rfl,fun _=>G6.1,fun hr2=>by rw[hr] at hr2;exact(fW hr2.symm).elim⟩)
  ·have G6:=G5.neg (by simp[hr])
   have G7:=Gw.call G6;have uz:=oF.n;have hx2:=oF.xs;dsimp only at uz hx2
   refine⟨by dsimp only;omega,(u::us).length+1,by omega,?_⟩
   refine E6 _ ((u::us).length+1) (u::us) n [] (dr _) oF.len (by omega) oF.wf (G7.mono fun(l:List Ast) ay p hq=>?_)
   obtain⟨v,vs,rfl⟩:=(PL.wf (n:=.Ck) p oF.wf).fin.cons;have oc:=hq.2.want;exact(show au [[41]] _ _ _ from⟨v,vs,rfl,fun hr=>(oc.1 hr).ret.1,oc.2⟩)
theorem XU :∀(m:Nat) (ts:List aj) (a:Ast) (k:Nat),ts.length<m→Rm (N+1) k ⟨dp 0 0,[a],ts,n+a.size⟩→Gw (df (.aS a):GL Ast) ts K E→uH (oE N) (AZ N) m a ts n K E:=by
 intro m;induction m with
 | zero=>intro ts a k h;omega
 | succ m ih =>
  intro ts a k h1 hI H;obtain⟨t,r,rfl⟩:=hI.wf.fin.cons;have G:=Gw.look H;have fin :∀{j:Nat} (h0:Nd) (ys:List Ast) (iy:List aj) (y:Ast),Rm (N+1) j ⟨h0,[a]++ys,iy,n+a.size+Ast.al ys⟩→1≤j→iy.length≤r.length→y.size=Ast.al ([a]++ys)+1→Gw (.call (.aS y) fun(z:Ast)=>.ret z:GL Ast) iy K E→y=.mk h0 ([a]++ys)→(bO fun a' ay=>uH (oE N) (AZ N) m a' ay n K E) ⟨h0,[a]++ys,iy,n+a.size+Ast.al ys⟩:=fun{j} h0 ys iy y hI hj hl hy G e=>by
   have hn:=hI.n;have hx:=hI.xs;dsimp only at hn hx
   refine⟨by dsimp only;omega,?_⟩
   have G3:=(Gw.call G).mono (K':=K) fun v iy _ hv=>hv.2.ret
   rw[eV,tp] at hy;have:=ih iy y 0 (by simp at h1;omega) ⟨hI.len,by dsimp only;omega,by simp only[bV,List.length_cons,List.length_nil] at *;omega,hI.wf⟩ G3
   rw[e] at this;exact this
  have ZP :∀h',Rm (N+1) k ⟨h',[a],t::r,n+a.size⟩:=fun h'=>⟨hI.len,hI.n,hI.xs,hI.wf⟩
  refine⟨t,r,rfl,fun h0=>?_,fun h0=>?_⟩
  ·unfold jm at h0
   by_cases a1:av [46] t=true
   ·rw[ak a1] at h0;exact absurd h0 (by decide)
   rw[af a1] at h0;by_cases a2:av [91] t=true
   ·rw[ak a2] at h0;exact absurd h0 (by decide)
   rw[af a2] at h0;by_cases a3:av [58] t=true
   ·rw[ak a3] at h0;exact absurd h0 (by decide)
   rw[af a3] at h0;by_cases a4:av [40] t=true
   ·rw[ak a4] at h0;exact absurd h0 (by decide)
   rw[af a4] at h0;by_cases a5:av [123] t=true
   ·rw[ak a5] at h0;exact absurd h0 (by decide)
   rw[af a5] at h0;by_cases a6:t.1=4
   ·rw[ak a6] at h0;exact absurd h0 (by decide)
   exact((((G.neg a1).neg a2).neg a3).neg (by simp[a4,a5,a6])).ret
  ·have Nl:(av [40] t || av [123] t || decide (t.1=4))=true→av [46] t=false→av [91] t=false→av [58] t=false→aJ [AZ N] ⟨dp 9 t.2.1,[a],t::r,n+a.size⟩ (bO fun a' ay=>uH (oE N) (AZ N) m a' ay n K E) E:=fun hc a1 a2 a3=>by
    have G2:=(((G.neg (by simp[a1])).neg (by simp[a2])).neg (by simp[a3])).pos hc
    exact Nk (ZP _) G2 fun l iy hI hl G3=>fin (dp 9 t.2.1) l iy _ hI (by omega) (by simp at hl;omega) (by show Ast.size (nd 9 t.2.1 (a::l))=_;rw[nZ];rfl) G3 rfl
   unfold jm Fc;by_cases a1:av [46] t=true
   ·rw[ak a1,ak a1]
    exact kU (ZP _) (aV a1) fun hI=>Dj hI (G.pos a1).tok fun u r2 hI hl G3=>fin (dp 8 t.2.1) _ r2 _ hI (by omega) (by omega) (by show Ast.size (nd 8 t.2.1 _)=_;rw[nZ];rfl) G3 rfl
   rw[af a1,af a1];by_cases a2:av [91] t=true
   ·rw[ak a2,ak a2]
    exact cH (ZP _) (aV a2) fun hI=>fL hI ((G.neg a1).pos a2).tok fun e r2 hI hl G3=>bT hI G3 fun _ r3 hI JW G3=>fin (dp 8 t.2.1) [e] r3 _ hI.up (by omega) (by omega) (by show Ast.size (nd 8 t.2.1 [a,e])=_;rw[nZ];rfl) G3 rfl
   rw[af a2,af a2];by_cases a3:av [58] t=true
   ·rw[ak a3,ak a3]
    exact kU (ZP (dp 10 t.2.1)) (aV a3) fun hI=>yF hI (((G.neg a1).neg a2).pos a3).tok fun u r2 hI hl G3=>Nk hI G3 fun l r3 hI JW G3=>fin ⟨10,t.2.1,0,0,bb u.2.2.2,[],[]⟩ l r3 _ hI (by omega) (by omega) (by show Ast.size (jh 10 t.2.1 _ (a::l))=_;rw[kQ];rfl) G3 rfl
   rw[af a3,af a3];have b1:av [46] t=false:=by simpa using a1
   have b2:av [91] t=false:=by simpa using a2
   have b3:av [58] t=false:=by simpa using a3
   by_cases a4:av [40] t=true
   ·rw[ak a4,ak a4];exact Nl (by simp[a4]) b1 b2 b3
   rw[af a4,af a4];by_cases a5:av [123] t=true
   ·rw[ak a5,ak a5];exact Nl (by simp[a5]) b1 b2 b3
   rw[af a5,af a5];by_cases a6:t.1=4
   ·rw[ak a6,ak a6];exact Nl (by simp[a6]) b1 b2 b3
   ·exfalso
    apply h0;unfold jm;rw[af a1,af a2,af a3,af a4,af a5,af a6]
theorem aaX (hf:Fin ts) (H:sD (N+1) Di ts n K E):aaN (oE N) (AZ N) ts n K E:=by
 obtain⟨h1,h2,h3,h4⟩:=H;obtain⟨t,r,rfl⟩:=hf.cons;have hI :∀h',Rm (N+1) 0 ⟨h',[],t::r,n⟩:=fun h'=>⟨h1,h2,by simp only[List.length_nil];omega,⟨hf,h3⟩⟩
 have G:=Gw.look h4;have go :∀{j:Nat} (h0:Nd) (ys:List Ast) (iy:List aj) (y:Ast),Rm (N+1) j ⟨h0,ys,iy,n+Ast.al ys⟩→1≤j→y.size=Ast.al ys+1→Gw (.call (.aS y) fun(z:Ast)=>.ret z:GL Ast) iy K E→y=.mk h0 ys→(bO fun a fB=>∃m,uH (oE N) (AZ N) m a fB n K E) ⟨h0,ys,iy,n+Ast.al ys⟩:=fun{j} h0 ys iy y hI hj hy G e=>by
  have hn:=hI.n;dsimp only at hn
  refine⟨by dsimp only;omega,iy.length+1,?_⟩
  have:=XU (n:=n) (iy.length+1) iy y 0 (dr _) ⟨hI.len,by dsimp only;omega,by simp only[List.length_cons,List.length_nil];omega,hI.wf⟩ ((Gw.call G).mono (K':=K) fun v iy _ hv=>hv.2.ret)
  rw[e] at this;exact this
 refine⟨t,r,rfl,fun hw=>?_,fun hw=>?_⟩
 ·have G2:=((G.neg (show ¬ t.1=1 from fun e=>by rcases aO hw with ⟨l,m,rfl⟩ | ⟨l,m,rfl⟩<;>simp at e)).pos hw).tok
  exact cH (hI (dp 14 t.2.1)) (aV hw) fun hI=>fL hI G2 fun e r2 hI hl G3=>bT hI G3 fun _ r3 hI JW G3=>go (dp 14 t.2.1) [e] r3 _ hI.up (by omega) (by show Ast.size (nd 14 t.2.1 [e])=_;rw[nZ]) G3 rfl
 ·refine⟨t,r,rfl,fun ht=>?_,fun ht=>((G.neg ht).neg (by simp[hw])).bad⟩
  have oF:Rm (N+1) (0+2) ⟨⟨7,t.2.1,0,0,bb t.2.2.2,[],[]⟩,[],r,n+Ast.al []⟩:=by rw[cb];exact(hI (dp 7 t.2.1)).tok (by omega)
  have:=go ⟨7,t.2.1,0,0,bb t.2.2.2,[],[]⟩ [] r (jh 7 t.2.1 (bb t.2.2.2) []) oF (by omega) (by rw[kQ]) (G.pos ht).tok rfl
  rw[cb] at this;exact this
end
end Go.Proofs.YteflkdlaoiijbaaGreatDoor
namespace Go.Proofs.YteflkdlaoiijbaaGreatDoor
open Go.RowKit
set_option maxRecDepth 40000 in
theorem ID  (b:Nat) (O:Nat→Prop) (t:aj) (ts:List aj) (T:List Nd) (K:Ast→List aj→Prop) (E:Int→Prop) (w:World) (hp:PS w b O (t::ts) T) (hq:av pg t=true)
  (hk:aJ [aC] ⟨dp 30 t.2.1,[],t::ts,T.length⟩ (bO K) E) :
  Calls Tryz.prog 44 #[.pointer (some ⟨b,0,none⟩)] w (aF b O T (RK K E) w):=by
 have HW:=aa (bI b O t ts T w hp);have g1:((ag t).toList == [98,114,101,97,107])=true:=ai (s:=pg) (by decide) t hq
 have HK:=aa hk;generalize hY:ag t=Y at *;have P:=aa hp;clear hp hk hY hq;go_enter Tryz.func44,Tryz.ntmps44
 go_wp2_with fail
 refine HW.out.mono ?_;rintro e w0 ⟨rfl,b0⟩;have F0:=aa (az.ae (O:=O) b0);have P0:=aa (P.out.below b0);clear b0;have HN:=aa (cr w w0 P0.out F0.out (mC 30) rfl [aY 40 b] [aC] (by simp) ⟨bc w0 b O,trivial⟩ HK.out)
 go_wp2_with fail
 refine HN.out.mono ?_;intro e wz hz;obtain⟨v,er,rfl⟩:=hz.ret;have HZ:=aa hz;clear hz;go_wp2_with fail
 go_ret2
 exact HZ.out
set_option maxRecDepth 40000 in
theorem Nn  (b:Nat) (O:Nat→Prop) (t:aj) (ts:List aj) (T:List Nd) (K:Ast→List aj→Prop) (E:Int→Prop) (w:World) (hp:PS w b O (t::ts) T) (hq:av sg t=true)
  (hk:aJ [aC,cG] ⟨dp 31 t.2.1,[],t::ts,T.length⟩ (bO K) E) :
  Calls Tryz.prog 44 #[.pointer (some ⟨b,0,none⟩)] w (aF b O T (RK K E) w):=by
 have HW:=aa (bI b O t ts T w hp);have g1:=aQ [98,114,101,97,107] hq (by decide)
 have g2:((ag t).toList == [103,111,116,111])=true:=ai (s:=sg) (by decide) t hq
 have HK:=aa hk;generalize hY:ag t=Y at *;have P:=aa hp;clear hp hk hY hq;go_enter Tryz.func44,Tryz.ntmps44
 go_wp2_with fail
 refine HW.out.mono ?_;rintro e w0 ⟨rfl,b0⟩;have F0:=aa (az.ae (O:=O) b0);have P0:=aa (P.out.below b0);clear b0;have HN:=aa (cr w w0 P0.out F0.out (mC 31) rfl [aY 40 b,aY 88 b] [aC,cG] (by simp) ⟨bc w0 b O,ig w0 b O,trivial⟩ HK.out)
 go_wp2_with fail
 refine HN.out.mono ?_;intro e wz hz;obtain⟨v,er,rfl⟩:=hz.ret;have HZ:=aa hz;clear hz;go_wp2_with fail
 go_ret2
 exact HZ.out
set_option maxRecDepth 40000 in
theorem IE  (b:Nat) (O:Nat→Prop) (t:aj) (ts:List aj) (T:List Nd) (K:Ast→List aj→Prop) (E:Int→Prop) (w:World) (hp:PS w b O (t::ts) T) (hq:av [58,58] t=true)
  (hk:aJ [aC,cG,au [[58,58]]] ⟨dp 32 t.2.1,[],t::ts,T.length⟩ (bO K) E) :
  Calls Tryz.prog 44 #[.pointer (some ⟨b,0,none⟩)] w (aF b O T (RK K E) w):=by
 have HW:=aa (bI b O t ts T w hp);have g1:=aQ [98,114,101,97,107] hq (by decide)
 have g2:=aQ [103,111,116,111] hq (by decide)
 have g3:((ag t).toList == [58,58])=true:=ai (s:=[58,58]) (by decide) t hq
 have HK:=aa hk;generalize hY:ag t=Y at *;have P:=aa hp;clear hp hk hY hq;go_enter Tryz.func44,Tryz.ntmps44
 go_wp2_with fail
 refine HW.out.mono ?_;rintro e w0 ⟨rfl,b0⟩;have F0:=aa (az.ae (O:=O) b0);have P0:=aa (P.out.below b0);clear b0;have oV :∀k,O k→k<w0.heap.size:=fun k hk=>(P0.out.own k hk).2
 have V1:=aa (cf w0 b O oV [58,58] (by decide) ⟨#[58,58]⟩ rfl)
 clear oV;go_wp2_with fail
 refine V1.out.mono ?_;rintro e w1 ⟨f1,a1,c1,rfl,b1,h1⟩;have F1:=aa (F0.out.trans (az.ae (O:=O) b1) (Ext.refl _ _));have P1:=aa (P0.out.below b1);have H1:=aa h1;clear b1 h1 V1;have HN:=aa (cr w w1 P1.out F1.out (mC 32) rfl [aY 40 b,aY 88 b,.func (.func f1) a1 c1] [aC,cG,au [[58,58]]] (by simp) ⟨bc w1 b O,ig w1 b O,H1.out,trivial⟩ HK.out)
 go_wp2_with fail
 refine HN.out.mono ?_;intro e wz hz;obtain⟨v,er,rfl⟩:=hz.ret;have HZ:=aa hz;clear hz;go_wp2_with fail
 go_ret2
 exact HZ.out
set_option maxRecDepth 40000 in
theorem XV {bl:bR} (hB:ep 90 bl) (b:Nat) (O:Nat→Prop) (t:aj) (ts:List aj) (T:List Nd) (K:Ast→List aj→Prop) (E:Int→Prop) (w:World) (hp:PS w b O (t::ts) T) (hq:av zR t=true)
  (hk:aJ [aC,bl,au [[101,110,100]]] ⟨dp 22 t.2.1,[],t::ts,T.length⟩ (bO K) E) :
  Calls Tryz.prog 44 #[.pointer (some ⟨b,0,none⟩)] w (aF b O T (RK K E) w):=by
 have HW:=aa (bI b O t ts T w hp);have g1:=aQ [98,114,101,97,107] hq (by decide)
 have g2:=aQ [103,111,116,111] hq (by decide)
 have g3:=aQ [58,58] hq (by decide)
 have g4:((ag t).toList == [100,111])=true:=ai (s:=zR) (by decide) t hq
 have HK:=aa hk;generalize hY:ag t=Y at *;have P:=aa hp;clear hp hk hY hq;go_enter Tryz.func44,Tryz.ntmps44
 go_wp2_with fail
 refine HW.out.mono ?_;rintro e w0 ⟨rfl,b0⟩;have F0:=aa (az.ae (O:=O) b0);have P0:=aa (P.out.below b0);clear b0;have oV :∀k,O k→k<w0.heap.size:=fun k hk=>(P0.out.own k hk).2
 have V1:=aa (cf w0 b O oV [101,110,100] (by decide) ⟨#[101,110,100]⟩ rfl)
 clear oV;go_wp2_with fail
 refine V1.out.mono ?_;rintro e w1 ⟨f1,a1,c1,rfl,b1,h1⟩;have F1:=aa (F0.out.trans (az.ae (O:=O) b1) (Ext.refl _ _));have P1:=aa (P0.out.below b1);have H1:=aa h1;clear b1 h1 V1;have HN:=aa (cr w w1 P1.out F1.out (mC 22) rfl [aY 40 b,aY 90 b,.func (.func f1) a1 c1] [aC,bl,au [[101,110,100]]] (by simp) ⟨bc w1 b O,hB.part (enters_of Tryz.func90 (by kernel_rfl) rfl) w1 b O,H1.out,trivial⟩ HK.out)
 go_wp2_with fail
 refine HN.out.mono ?_;intro e wz hz;obtain⟨v,er,rfl⟩:=hz.ret;have HZ:=aa hz;clear hz;go_wp2_with fail
 go_ret2
 exact HZ.out
set_option maxRecDepth 40000 in
theorem IF {ex bl:bR} (hE:ep 91 ex) (hB:ep 90 bl) (b:Nat) (O:Nat→Prop) (t:aj) (ts:List aj) (T:List Nd) (K:Ast→List aj→Prop) (E:Int→Prop) (w:World) (hp:PS w b O (t::ts) T) (hq:av ph t=true)
  (hk:aJ [aC,ex,au [[100,111]],bl,au [[101,110,100]]] ⟨dp 23 t.2.1,[],t::ts,T.length⟩ (bO K) E) :
  Calls Tryz.prog 44 #[.pointer (some ⟨b,0,none⟩)] w (aF b O T (RK K E) w):=by
 have HW:=aa (bI b O t ts T w hp);have g1:=aQ [98,114,101,97,107] hq (by decide)
 have g2:=aQ [103,111,116,111] hq (by decide)
 have g3:=aQ [58,58] hq (by decide)
 have g4:=aQ [100,111] hq (by decide)
 have g5:((ag t).toList == [119,104,105,108,101])=true:=ai (s:=ph) (by decide) t hq
 have HK:=aa hk;generalize hY:ag t=Y at *;have P:=aa hp;clear hp hk hY hq;go_enter Tryz.func44,Tryz.ntmps44
 go_wp2_with fail
 refine HW.out.mono ?_;rintro e w0 ⟨rfl,b0⟩;have F0:=aa (az.ae (O:=O) b0);have P0:=aa (P.out.below b0);clear b0;have oV :∀k,O k→k<w0.heap.size:=fun k hk=>(P0.out.own k hk).2
 have V1:=aa (cf w0 b O oV [100,111] (by decide) ⟨#[100,111]⟩ rfl)
 clear oV;go_wp2_with fail
 refine V1.out.mono ?_;rintro e w1 ⟨f1,a1,c1,rfl,b1,h1⟩;have F1:=aa (F0.out.trans (az.ae (O:=O) b1) (Ext.refl _ _));have P1:=aa (P0.out.below b1);have H1:=aa h1;clear b1 h1 V1;have rq :∀k,O k→k<w1.heap.size:=fun k hk=>(P1.out.own k hk).2
 have V2:=aa (cf w1 b O rq [101,110,100] (by decide) ⟨#[101,110,100]⟩ rfl)
 clear rq;go_wp2_with fail
 refine V2.out.mono ?_;rintro e w2 ⟨f2,a2,c2,rfl,b2,h2⟩;have F2:=aa (F1.out.trans (az.ae (O:=O) b2) (Ext.refl _ _));have P2:=aa (P1.out.below b2);have L1:=aa (H1.out.later (az.ae (O:=O) b2) (Ext.refl _ _));clear H1;have H1:=L1;clear L1;have H2:=aa h2;clear b2 h2 V2;have HN:=aa (cr w w2 P2.out F2.out (mC 23) rfl [aY 40 b,aY 91 b,.func (.func f1) a1 c1,aY 90 b,.func (.func f2) a2 c2] [aC,ex,au [[100,111]],bl,au [[101,110,100]]] (by simp) ⟨bc w2 b O,hE.part (enters_of Tryz.func91 (by kernel_rfl) rfl) w2 b O,H1.out,hB.part (enters_of Tryz.func90 (by kernel_rfl) rfl) w2 b O,H2.out,trivial⟩ HK.out)
 go_wp2_with fail
 refine HN.out.mono ?_;intro e wz hz;obtain⟨v,er,rfl⟩:=hz.ret;have HZ:=aa hz;clear hz;go_wp2_with fail
 go_ret2
 exact HZ.out
set_option maxRecDepth 40000 in
theorem Dz {bl ex:bR} (hB:ep 90 bl) (hE:ep 91 ex) (b:Nat) (O:Nat→Prop) (t:aj) (ts:List aj) (T:List Nd) (K:Ast→List aj→Prop) (E:Int→Prop) (w:World) (hp:PS w b O (t::ts) T) (hq:av lJ t=true)
  (hk:aJ [aC,bl,au [[117,110,116,105,108]],ex] ⟨dp 24 t.2.1,[],t::ts,T.length⟩ (bO K) E) :
  Calls Tryz.prog 44 #[.pointer (some ⟨b,0,none⟩)] w (aF b O T (RK K E) w):=by
 have HW:=aa (bI b O t ts T w hp);have g1:=aQ [98,114,101,97,107] hq (by decide)
 have g2:=aQ [103,111,116,111] hq (by decide)
 have g3:=aQ [58,58] hq (by decide)
 have g4:=aQ [100,111] hq (by decide)
 have g5:=aQ [119,104,105,108,101] hq (by decide)
 have g6:((ag t).toList == [114,101,112,101,97,116])=true:=ai (s:=lJ) (by decide) t hq
 have HK:=aa hk;generalize hY:ag t=Y at *;have P:=aa hp;clear hp hk hY hq;go_enter Tryz.func44,Tryz.ntmps44
 go_wp2_with fail
 refine HW.out.mono ?_;rintro e w0 ⟨rfl,b0⟩;have F0:=aa (az.ae (O:=O) b0);have P0:=aa (P.out.below b0);clear b0;have oV :∀k,O k→k<w0.heap.size:=fun k hk=>(P0.out.own k hk).2
 have V1:=aa (cf w0 b O oV [117,110,116,105,108] (by decide) ⟨#[117,110,116,105,108]⟩ rfl)
 clear oV;go_wp2_with fail
 refine V1.out.mono ?_;rintro e w1 ⟨f1,a1,c1,rfl,b1,h1⟩;have F1:=aa (F0.out.trans (az.ae (O:=O) b1) (Ext.refl _ _));have P1:=aa (P0.out.below b1);have H1:=aa h1;clear b1 h1 V1;have HN:=aa (cr w w1 P1.out F1.out (mC 24) rfl [aY 40 b,aY 90 b,.func (.func f1) a1 c1,aY 91 b] [aC,bl,au [[117,110,116,105,108]],ex] (by simp) ⟨bc w1 b O,hB.part (enters_of Tryz.func90 (by kernel_rfl) rfl) w1 b O,H1.out,hE.part (enters_of Tryz.func91 (by kernel_rfl) rfl) w1 b O,trivial⟩ HK.out)
 go_wp2_with fail
 refine HN.out.mono ?_;intro e wz hz;obtain⟨v,er,rfl⟩:=hz.ret;have HZ:=aa hz;clear hz;go_wp2_with fail
 go_ret2
 exact HZ.out
set_option maxRecDepth 40000 in
theorem XX {ex bl:bR} (hE:ep 91 ex) (hB:ep 90 bl) (b:Nat) (O:Nat→Prop) (t:aj) (ts:List aj) (T:List Nd) (K:Ast→List aj→Prop) (E:Int→Prop) (w:World) (hp:PS w b O (t::ts) T) (hq:av Wc t=true)
  (hk:aJ [aC,ex,au [[116,104,101,110]],bl,rl [101,108,115,101,105,102] [ex,au [[116,104,101,110]],bl],bu [101,108,115,101] [bl],au [[101,110,100]]] ⟨dp 25 t.2.1,[],t::ts,T.length⟩ (bO K) E) :
  Calls Tryz.prog 44 #[.pointer (some ⟨b,0,none⟩)] w (aF b O T (RK K E) w):=by
 have HW:=aa (bI b O t ts T w hp);have g1:=aQ [98,114,101,97,107] hq (by decide)
 have g2:=aQ [103,111,116,111] hq (by decide)
 have g3:=aQ [58,58] hq (by decide)
 have g4:=aQ [100,111] hq (by decide)
 have g5:=aQ [119,104,105,108,101] hq (by decide)
 have g6:=aQ [114,101,112,101,97,116] hq (by decide)
 have g7:((ag t).toList == [105,102])=true:=ai (s:=Wc) (by decide) t hq
 have HK:=aa hk;generalize hY:ag t=Y at *;have P:=aa hp;clear hp hk hY hq;go_enter Tryz.func44,Tryz.ntmps44
 go_wp2_with fail
 refine HW.out.mono ?_;rintro e w0 ⟨rfl,b0⟩;have F0:=aa (az.ae (O:=O) b0);have P0:=aa (P.out.below b0);clear b0;have oV :∀k,O k→k<w0.heap.size:=fun k hk=>(P0.out.own k hk).2
 have V1:=aa (cf w0 b O oV [116,104,101,110] (by decide) ⟨#[116,104,101,110]⟩ rfl)
 clear oV;go_wp2_with fail
 refine V1.out.mono ?_;rintro e w1 ⟨f1,a1,c1,rfl,b1,h1⟩;have F1:=aa (F0.out.trans (az.ae (O:=O) b1) (Ext.refl _ _));have P1:=aa (P0.out.below b1);have H1:=aa h1;clear b1 h1 V1;have rq :∀k,O k→k<w1.heap.size:=fun k hk=>(P1.out.own k hk).2
 have V2:=aa (cf w1 b O rq [116,104,101,110] (by decide) ⟨#[116,104,101,110]⟩ rfl)
 clear rq;go_wp2_with fail
 refine V2.out.mono ?_;rintro e w2 ⟨f2,a2,c2,rfl,b2,h2⟩;have F2:=aa (F1.out.trans (az.ae (O:=O) b2) (Ext.refl _ _));have P2:=aa (P1.out.below b2);have L1:=aa (H1.out.later (az.ae (O:=O) b2) (Ext.refl _ _));clear H1;have H1:=L1;clear L1;have H2:=aa h2;clear b2 h2 V2;have JX :∀k,O k→k<w2.heap.size:=fun k hk=>(P2.out.own k hk).2
 have V3:=aa (So w2 b O JX [aY 91 b,.func (.func f2) a2 c2,aY 90 b] [ex,au [[116,104,101,110]],bl] (by simp) ⟨hE.part (enters_of Tryz.func91 (by kernel_rfl) rfl) w2 b O,H2.out,hB.part (enters_of Tryz.func90 (by kernel_rfl) rfl) w2 b O,trivial⟩ [101,108,115,101,105,102] (by decide) ⟨#[101,108,115,101,105,102]⟩ rfl)
 clear JX;go_wp2_with fail
 refine V3.out.mono ?_;rintro e w3 ⟨f3,a3,c3,rfl,b3,h3⟩;have F3:=aa (F2.out.trans (az.ae (O:=O) b3) (Ext.refl _ _));have P3:=aa (P2.out.below b3);have L1:=aa (H1.out.later (az.ae (O:=O) b3) (Ext.refl _ _));clear H1;have H1:=L1;clear L1;have H3:=aa h3;clear b3 h3 V3;have Cq :∀k,O k→k<w3.heap.size:=fun k hk=>(P3.out.own k hk).2
 have V4:=aa (pA w3 b O Cq [aY 90 b] [bl] (by simp) ⟨hB.part (enters_of Tryz.func90 (by kernel_rfl) rfl) w3 b O,trivial⟩ [101,108,115,101] (by decide) ⟨#[101,108,115,101]⟩ rfl)
 clear Cq;go_wp2_with fail
 refine V4.out.mono ?_;rintro e w4 ⟨f4,a4,c4,rfl,b4,h4⟩;have F4:=aa (F3.out.trans (az.ae (O:=O) b4) (Ext.refl _ _));have P4:=aa (P3.out.below b4);have L1:=aa (H1.out.later (az.ae (O:=O) b4) (Ext.refl _ _));clear H1;have H1:=L1;clear L1;have L3:=aa (H3.out.later (az.ae (O:=O) b4) (Ext.refl _ _));clear H3;have H3:=L3;clear L3;have H4:=aa h4;clear b4 h4 V4;have UZ :∀k,O k→k<w4.heap.size:=fun k hk=>(P4.out.own k hk).2
 have V5:=aa (cf w4 b O UZ [101,110,100] (by decide) ⟨#[101,110,100]⟩ rfl)
 clear UZ;go_wp2_with fail
 refine V5.out.mono ?_;rintro e w5 ⟨f5,a5,c5,rfl,b5,h5⟩;have F5:=aa (F4.out.trans (az.ae (O:=O) b5) (Ext.refl _ _));have P5:=aa (P4.out.below b5);have L1:=aa (H1.out.later (az.ae (O:=O) b5) (Ext.refl _ _));clear H1;have H1:=L1;clear L1;have L3:=aa (H3.out.later (az.ae (O:=O) b5) (Ext.refl _ _));clear H3;have H3:=L3;clear L3;have L4:=aa (H4.out.later (az.ae (O:=O) b5) (Ext.refl _ _));clear H4;have H4:=L4;clear L4;have H5:=aa h5;clear b5 h5 V5;have HN:=aa (cr w w5 P5.out F5.out (mC 25) rfl [aY 40 b,aY 91 b,.func (.func f1) a1 c1,aY 90 b,.func (.func f3) a3 c3,.func (.func f4) a4 c4,.func (.func f5) a5 c5] [aC,ex,au [[116,104,101,110]],bl,rl [101,108,115,101,105,102] [ex,au [[116,104,101,110]],bl],bu [101,108,115,101] [bl],au [[101,110,100]]] (by simp) ⟨bc w5 b O,hE.part (enters_of Tryz.func91 (by kernel_rfl) rfl) w5 b O,H1.out,hB.part (enters_of Tryz.func90 (by kernel_rfl) rfl) w5 b O,H3.out,H4.out,H5.out,trivial⟩ HK.out)
 go_wp2_with fail
 refine HN.out.mono ?_;intro e wz hz;obtain⟨v,er,rfl⟩:=hz.ret;have HZ:=aa hz;clear hz;go_wp2_with fail
 go_ret2
 exact HZ.out
set_option maxRecDepth 40000 in
theorem SX {ro bl:bR} (hN:ep 93 iz) (hR:ep 94 ro) (hB:ep 90 bl) (b:Nat) (O:Nat→Prop) (t:aj) (ts:List aj) (T:List Nd) (K:Ast→List aj→Prop) (E:Int→Prop) (w:World) (hp:PS w b O (t::ts) T) (hq:av CB t=true)
  (hk:aJ [aC,iz,ro,au [[100,111]],bl,au [[101,110,100]]] ⟨dp 0 t.2.1,[],t::ts,T.length⟩ (bO K) E) :
  Calls Tryz.prog 44 #[.pointer (some ⟨b,0,none⟩)] w (aF b O T (RK K E) w):=by
 have HW:=aa (bI b O t ts T w hp);have g1:=aQ [98,114,101,97,107] hq (by decide)
 have g2:=aQ [103,111,116,111] hq (by decide)
 have g3:=aQ [58,58] hq (by decide)
 have g4:=aQ [100,111] hq (by decide)
 have g5:=aQ [119,104,105,108,101] hq (by decide)
 have g6:=aQ [114,101,112,101,97,116] hq (by decide)
 have g7:=aQ [105,102] hq (by decide)
 have g8:((ag t).toList == [102,111,114])=true:=ai (s:=CB) (by decide) t hq
 have HK:=aa hk;generalize hY:ag t=Y at *;have P:=aa hp;clear hp hk hY hq;go_enter Tryz.func44,Tryz.ntmps44
 go_wp2_with fail
 refine HW.out.mono ?_;rintro e w0 ⟨rfl,b0⟩;have F0:=aa (az.ae (O:=O) b0);have P0:=aa (P.out.below b0);clear b0;have oV :∀k,O k→k<w0.heap.size:=fun k hk=>(P0.out.own k hk).2
 have V1:=aa (cf w0 b O oV [100,111] (by decide) ⟨#[100,111]⟩ rfl)
 clear oV;go_wp2_with fail
 refine V1.out.mono ?_;rintro e w1 ⟨f1,a1,c1,rfl,b1,h1⟩;have F1:=aa (F0.out.trans (az.ae (O:=O) b1) (Ext.refl _ _));have P1:=aa (P0.out.below b1);have H1:=aa h1;clear b1 h1 V1;have rq :∀k,O k→k<w1.heap.size:=fun k hk=>(P1.out.own k hk).2
 have V2:=aa (cf w1 b O rq [101,110,100] (by decide) ⟨#[101,110,100]⟩ rfl)
 clear rq;go_wp2_with fail
 refine V2.out.mono ?_;rintro e w2 ⟨f2,a2,c2,rfl,b2,h2⟩;have F2:=aa (F1.out.trans (az.ae (O:=O) b2) (Ext.refl _ _));have P2:=aa (P1.out.below b2);have L1:=aa (H1.out.later (az.ae (O:=O) b2) (Ext.refl _ _));clear H1;have H1:=L1;clear L1;have H2:=aa h2;clear b2 h2 V2;have HN:=aa (cr w w2 P2.out F2.out (mC 0) rfl [aY 40 b,aY 93 b,aY 94 b,.func (.func f1) a1 c1,aY 90 b,.func (.func f2) a2 c2] [aC,iz,ro,au [[100,111]],bl,au [[101,110,100]]] (by simp) ⟨bc w2 b O,hN.part (enters_of Tryz.func93 (by kernel_rfl) rfl) w2 b O,hR.part (enters_of Tryz.func94 (by kernel_rfl) rfl) w2 b O,H1.out,hB.part (enters_of Tryz.func90 (by kernel_rfl) rfl) w2 b O,H2.out,trivial⟩ HK.out)
 go_wp2_with fail
 refine HN.out.mono ?_;intro e wz hz;obtain⟨v,er,rfl⟩:=hz.ret;have HZ:=aa hz;clear hz;go_wp2_with fail
 go_ret2
 exact HZ.out
set_option maxRecDepth 40000 in
theorem yN {as_:bR} (hA:ep 95 as_) (b:Nat) (O:Nat→Prop) (t:aj) (ts:List aj) (T:List Nd) (K:Ast→List aj→Prop) (E:Int→Prop) (w:World) (hp:PS w b O (t::ts) T) (hq:av aZ t=true)
  (hk:aJ [as_] ⟨dp 20 t.2.1,[],t::ts,T.length⟩ (bO K) E) :
  Calls Tryz.prog 44 #[.pointer (some ⟨b,0,none⟩)] w (aF b O T (RK K E) w):=by
 have HW:=aa (bI b O t ts T w hp);have g1:=aQ [98,114,101,97,107] hq (by decide)
 have g2:=aQ [103,111,116,111] hq (by decide)
 have g3:=aQ [58,58] hq (by decide)
 have g4:=aQ [100,111] hq (by decide)
 have g5:=aQ [119,104,105,108,101] hq (by decide)
 have g6:=aQ [114,101,112,101,97,116] hq (by decide)
 have g7:=aQ [105,102] hq (by decide)
 have g8:=aQ [102,111,114] hq (by decide)
 have g9:((ag t).toList == [102,117,110,99,116,105,111,110])=true:=ai (s:=aZ) (by decide) t hq
 have HK:=aa hk;generalize hY:ag t=Y at *;have P:=aa hp;clear hp hk hY hq;go_enter Tryz.func44,Tryz.ntmps44
 go_wp2_with fail
 refine HW.out.mono ?_;rintro e w0 ⟨rfl,b0⟩;have F0:=aa (az.ae (O:=O) b0);have P0:=aa (P.out.below b0);clear b0;have HN:=aa (cr w w0 P0.out F0.out (mC 20) rfl [aY 95 b] [as_] (by simp) ⟨hA.part (enters_of Tryz.func95 (by kernel_rfl) rfl) w0 b O,trivial⟩ HK.out)
 go_wp2_with fail
 refine HN.out.mono ?_;intro e wz hz;obtain⟨v,er,rfl⟩:=hz.ret;have HZ:=aa hz;clear hz;go_wp2_with fail
 go_ret2
 exact HZ.out
set_option maxRecDepth 40000 in
theorem IG {de:bR} (hD:ep 96 de) (b:Nat) (O:Nat→Prop) (t:aj) (ts:List aj) (T:List Nd) (K:Ast→List aj→Prop) (E:Int→Prop) (w:World) (hp:PS w b O (t::ts) T) (hq:av fP t=true)
  (hk:aJ [aC,de] ⟨dp 0 t.2.1,[],t::ts,T.length⟩ (bO K) E) :
  Calls Tryz.prog 44 #[.pointer (some ⟨b,0,none⟩)] w (aF b O T (RK K E) w):=by
 have HW:=aa (bI b O t ts T w hp);have g1:=aQ [98,114,101,97,107] hq (by decide)
 have g2:=aQ [103,111,116,111] hq (by decide)
 have g3:=aQ [58,58] hq (by decide)
 have g4:=aQ [100,111] hq (by decide)
 have g5:=aQ [119,104,105,108,101] hq (by decide)
 have g6:=aQ [114,101,112,101,97,116] hq (by decide)
 have g7:=aQ [105,102] hq (by decide)
 have g8:=aQ [102,111,114] hq (by decide)
 have g9:=aQ [102,117,110,99,116,105,111,110] hq (by decide)
 have g10:((ag t).toList == [108,111,99,97,108])=true:=ai (s:=fP) (by decide) t hq
 have HK:=aa hk;generalize hY:ag t=Y at *;have P:=aa hp;clear hp hk hY hq;go_enter Tryz.func44,Tryz.ntmps44
 go_wp2_with fail
 refine HW.out.mono ?_;rintro e w0 ⟨rfl,b0⟩;have F0:=aa (az.ae (O:=O) b0);have P0:=aa (P.out.below b0);clear b0;have HN:=aa (cr w w0 P0.out F0.out (mC 0) rfl [aY 40 b,aY 96 b] [aC,de] (by simp) ⟨bc w0 b O,hD.part (enters_of Tryz.func96 (by kernel_rfl) rfl) w0 b O,trivial⟩ HK.out)
 go_wp2_with fail
 refine HN.out.mono ?_;intro e wz hz;obtain⟨v,er,rfl⟩:=hz.ret;have HZ:=aa hz;clear hz;go_wp2_with fail
 go_ret2
 exact HZ.out
set_option maxRecDepth 40000 in
theorem IH {be:bR} (hG:ep 97 be) (b:Nat) (O:Nat→Prop) (t:aj) (ts:List aj) (T:List Nd) (K:Ast→List aj→Prop) (E:Int→Prop) (w:World) (hp:PS w b O (t::ts) T) (hq:Mp t)
  (hk:aJ [be] ⟨dp 0 t.2.1,[],t::ts,T.length⟩ (bO K) E) :
  Calls Tryz.prog 44 #[.pointer (some ⟨b,0,none⟩)] w (aF b O T (RK K E) w):=by
 have HW:=aa (bI b O t ts T w hp);have g1:((ag t).toList == [98,114,101,97,107])=false:=ai (s:=pg) (by decide) t hq.b
 have g2:((ag t).toList == [103,111,116,111])=false:=ai (s:=sg) (by decide) t hq.c
 have g3:((ag t).toList == [58,58])=false:=ai (s:=[58,58]) (by decide) t hq.a
 have g4:((ag t).toList == [100,111])=false:=ai (s:=zR) (by decide) t hq.d
 have g5:((ag t).toList == [119,104,105,108,101])=false:=ai (s:=ph) (by decide) t hq.e
 have g6:((ag t).toList == [114,101,112,101,97,116])=false:=ai (s:=lJ) (by decide) t hq.f
 have g7:((ag t).toList == [105,102])=false:=ai (s:=Wc) (by decide) t hq.g
 have g8:((ag t).toList == [102,111,114])=false:=ai (s:=CB) (by decide) t hq.h
 have g9:((ag t).toList == [102,117,110,99,116,105,111,110])=false:=ai (s:=aZ) (by decide) t hq.i
 have g10:((ag t).toList == [108,111,99,97,108])=false:=ai (s:=fP) (by decide) t hq.j
 have HK:=aa hk;generalize hY:ag t=Y at *;have P:=aa hp;clear hp hk hY hq;go_enter Tryz.func44,Tryz.ntmps44
 go_wp2_with fail
 refine HW.out.mono ?_;rintro e w0 ⟨rfl,b0⟩;have F0:=aa (az.ae (O:=O) b0);have P0:=aa (P.out.below b0);clear b0;have HN:=aa (cr w w0 P0.out F0.out (mC 0) rfl [aY 97 b] [be] (by simp) ⟨hG.part (enters_of Tryz.func97 (by kernel_rfl) rfl) w0 b O,trivial⟩ HK.out)
 go_wp2_with fail
 refine HN.out.mono ?_;intro e wz hz;obtain⟨v,er,rfl⟩:=hz.ret;have HZ:=aa hz;clear hz;go_wp2_with fail
 go_ret2
 exact HZ.out
end Go.Proofs.YteflkdlaoiijbaaGreatDoor
namespace Go.Proofs.YteflkdlaoiijbaaGreatDoor
open Go.RowKit
section
variable {K:Ast→List aj→Prop} {E:Int→Prop} {K':St→Prop} {N k n:Nat} {h:Nd} {xs:List Ast} {t:aj} {ts:List aj}
theorem No {t:aj} (h:iS t=true):av [59] t=false:=by
 cases hs:av [59] t with
 | false=>rfl
 | true =>
  exfalso;unfold iS at h;rw[bh hs (show gP≠[59] by decide),bh hs (show se≠[59] by decide),bh hs (show jY≠[59] by decide),bh hs (show pe≠[59] by decide)] at h
  have:=aV hs;simp at h;exact this h
theorem XY (K2:List Ast→List aj→Prop) (c1 c2:Nat) (hK :∀l ay n',K2 l ay→n'+c1=c2+Ast.al l→K' ⟨h,l,ay,n'⟩) :∀(m:Nat) (ts:List aj) (xs:List Ast) (n k:Nat),ts.length<m→n+c1=c2+Ast.al xs→Rm (N+1) k ⟨h,xs,ts,n⟩→Gw (aaG xs) ts K2 E→AV (sD (N+1) qk) (nG N) m ⟨h,xs,ts,n⟩ K' E:=by
 intro m;induction m with
 | zero=>intro ts xs n k h;omega
 | succ m ih =>
  intro ts xs n k h1 hc hI H;obtain⟨t,r,rfl⟩:=hI.wf.fin.cons;have G:=Gw.look H;have hn:=hI.n;have hx:=hI.xs;dsimp only at hn hx
  refine⟨t,r,rfl,fun he=>hK _ _ _ (G.pos he).ret hc,fun he=>?_⟩
  have G:=G.neg (by simp[he])
  refine⟨fun hw=>?_,fun hw=>⟨fun hr=>?_,fun hr=>?_⟩⟩
  ·have G2:=((G.neg (aU hw (by decide))).pos hw).tok
   exact ih r xs n (k+2) (by simp at h1;omega) hc (hI.tok (aV hw)) ((Gw.call G2).mono fun v ay _ hv=>hv.2.ret)
  ·have G2:=Gw.call (G.pos hr).tok
   have acZ:Rm (N+1) k ⟨dp 29 t.2.1,[],t::r,n⟩:=⟨hI.len,hI.n,by simp only[List.length_nil];omega,hI.wf⟩
   refine jH (by dsimp only;omega) ⟨t,r,t.2.1,rfl,.inl ⟨rfl,rfl⟩,?_⟩
   refine(show aJ [aC,Na (nG N),bu [59] []] ⟨dp 29 t.2.1,[],t::r,n⟩ (bO (nH _ _ K' E)) E from ?_)
   refine cH acZ (aV hr) fun hI=>?_
   obtain⟨u,us,rfl⟩:=hI.wf.fin.cons;have G3:=Gw.look G2;have done :∀(l:List Ast) (iy:List aj) (j:Nat),Rm N j ⟨dp 29 t.2.1,l,iy,n+Ast.al l⟩→K2 (xs++[nd 29 t.2.1 l]) iy→bO (nH (dI (mC 29) [aC,Na (nG N),bu [59] []]) ⟨h,xs,t::u::us,n⟩ K' E) ⟨dp 29 t.2.1,l,iy,n+Ast.al l⟩:=fun l iy j hI hk=>ca hI (nH.mk (hK _ _ _ hk (by show n+Ast.al [nd 29 t.2.1 l]+c1=c2+Ast.al (xs++[nd 29 t.2.1 l]);rw[eV];omega)))
   refine⟨u,us,rfl,fun Ap=>?_,fun AM hns=>?_⟩
   ·cases hu:iS u with
    | true =>
     have G4:=(G3.pos hu).ret.2.ret;have hd:=done [] (u::us) (k+2) (by rw[cb];exact hI) G4
     rw[cb] at hd;exact⟨u,us,rfl,fun hs=>by rw[No hu] at hs;exact(fW hs).elim,fun _=>hd⟩
    | false =>
     have hs:av [59] u=true:=Ap.elim (fun h=>by rw[hu] at h;exact(fW h).elim) id
     have G4:=((G3.neg (by simp[hu])).pos hs).tok.ret.2.ret
     have Sj:=hI.tok (h':=dp 29 t.2.1) (aV hs);have hd:=done [] us (k+4) (by rw[cb];exact Sj) G4
     rw[cb] at hd;exact⟨u,us,rfl,fun _=>hd,fun h=>by rw[hs] at h;exact(fW h.symm).elim⟩
   ·have G4:=(G3.neg (by simp[AM])).neg (by simp[hns])
    refine tq hI G4 fun l r2 hI _ G5=>?_
    obtain⟨v,vs,rfl⟩:=hI.wf.fin.cons;have G6:=G5.take;exact⟨v,vs,rfl,fun hs=>done l vs _ (hI.tok (aV hs)) (G6.1 hs).ret.2.ret,fun hs=>done l (v::vs) _ hI (G6.2 hs).ret.2.ret⟩
  ·have G2:=(G.neg (by simp[hr])).neg (by simp[hw])
   refine jH (by dsimp only;omega) ⟨hI.len,by dsimp only;omega,hI.wf.zu,(Gw.call G2).mono fun(x:Ast) ay p hq=>nH.mk ?_⟩
   have hz:x.size+2*ay.length≤2*(t::r).length:=hq.1;have hxp:=size_pos x;exact ih ay (xs++[x]) _ k (by simp only[List.length_cons] at *;omega) (by show n+Ast.al [x]+c1=c2+Ast.al (xs++[x]);rw[eV];omega) (Rm.kids (j:=k) hI (by rw[tp];omega) (PL.short p) (p.wf hI.wf)) ((Gw.call hq.2).mono fun v ay _ hv=>hv.2.ret)
theorem aaY {s:St} (hf:Fin s.ts) (H:Mh (N+1) s K' E):aaQ (sD (N+1) qk) (nG N) s K' E:=by
 obtain⟨sh,ZS,tV,sn⟩:=s;obtain⟨h1,h2,h3,h4,h5⟩:=H;dsimp only at h1 h2 h3 h4 h5 hf
 exact⟨tV.length+1,XY _ (Ast.al ZS) sn (fun l ay n' hk hn=>hk n' hn) (tV.length+1) tV ZS sn 0 (dr _) rfl ⟨h1,h2,h3,⟨hf,h4⟩⟩ h5⟩
end
structure All (N:Nat):Prop where
 exp:pz 142 (sD N (ry 1))
 bnd :∀op,1≤op→op≤23→rA 178 (vU op) (rtP N op)
 UH:pz 238 (sD N SH)
 Eu:pz 153 (sD N Di)
 tV:ep 20 (Mh N)
theorem all_zero:All 0 :=
 ⟨fun _ _ _ _ _ _ _ _ h=>absurd h.1 (jx _),fun _ _ _ _ _ _ _ _ _ _ _ h=>absurd h.1 (jx _),fun _ _ _ _ _ _ _ _ h=>absurd h.1 (jx _),fun _ _ _ _ _ _ _ _ h=>absurd h.1 (jx _),fun _ _ _ _ _ _ _ _ _ h=>absurd h.1 (jx _)⟩
theorem Fh {op:Int} (h0:1≤op) (h1:op≤23):0≤vU op∧vU op+1=((vU op+1).toNat:Int):=by
 have h9:op=1∨op=2∨op=3∨op=4∨op=5∨op=6∨op=7∨op=8∨op=9∨op=10∨op=11∨op=12∨op=13∨op=14∨op=15∨op=16∨op=17∨op=18∨op=19∨op=20∨op=21∨op=22∨op=23:=by omega
 rcases h9 with h|h|h|h|h|h|h|h|h|h|h|h|h|h|h|h|h|h|h|h|h|h|h<;>(rw[h];decide)
theorem SY {N:Nat} (A:All N) (hS:pz 153 (sD (N+1) Di)):pz 44 (sD (N+1) qk):=by
 rintro b O ts T K E w hp ⟨h1,h2,h3,h4⟩;obtain⟨t,r,rfl⟩:=hp.fin.cons;have hI :∀h',Rm (N+1) 0 ⟨h',[],t::r,T.length⟩:=fun h'=>⟨h1,h2,by simp only[List.length_nil];omega,⟨hp.fin,h3⟩⟩
 have hE:=Mq A.exp;have hL:=Mr A.exp;have hB:ep 90 (px N):=E9 A.tV;have Dq:ep 152 (xf N):=Mu qm hB;cases c1:av [58,58] t with
 | true=>exact IE b O t r T K E w hp c1 (Sf (hI _) h4 c1)
 | false =>
 cases c2:av pg t with
 | true=>exact ID b O t r T K E w hp c2 (Sg (hI _) h4 c2)
 | false =>
 cases c3:av sg t with
 | true=>exact Nn b O t r T K E w hp c3 (Xz (hI _) h4 c3)
 | false =>
 cases c4:av zR t with
 | true=>exact XV hB b O t r T K E w hp c4 (acL (hI _) h4 c4)
 | false =>
 cases c5:av ph t with
 | true=>exact IF hE hB b O t r T K E w hp c5 (Sh (hI _) h4 c5)
 | false =>
 cases c6:av lJ t with
 | true=>exact Dz hB hE b O t r T K E w hp c6 (Mm (hI _) h4 c6)
 | false =>
 cases c7:av Wc t with
 | true=>exact XX hE hB b O t r T K E w hp c7 (acM (hI _) h4 c7)
 | false =>
 cases c8:av CB t with
 | true=>exact SX Fg (Nh hE hL) hB b O t r T K E w hp c8 (aaH (hI _) h4 c8)
 | false =>
 cases c9:av aZ t with
 | true=>exact yN (Dx Dq) b O t r T K E w hp c9 (Dk (hI _) h4 c9)
 | false =>
 cases c10:av fP t with
 | true=>exact IG (Dw hL Dq) b O t r T K E w hp c10 (Sk (hI _) h4 c10)
 | false =>
  have hq:Mp t:=⟨c1,c2,c3,c4,c5,c6,c7,c8,c9,c10⟩;have hTg:ep 154 (U4 N):=H9 (M9 A.Eu);exact IH (SL hS hTg hL) b O t r T K E w hp hq (Sm (hI _) h4 hq)
theorem all_succ {N:Nat} (A:All N):All (N+1):=by
 have hE:=Mq A.exp;have hL:=Mr A.exp;have hB:ep 90 (px N):=E9 A.tV;have Dq:ep 152 (xf N):=Mu qm hB;have H7:ep 235 (yK N):=Sr A.UH;have hTx:pz 204 (aaV N):=xn (fun op _ _=>SW _ (vU op)) (XQ _) H7 (XP _)
 have hAr:ep 211 (AZ N):=aaM hTx hL;have hS:pz 153 (sD (N+1) Di):=(Dr hE hAr).of fun ts n K E hf h=>aaX hf h
 have hO:pz 204 (sD (N+1) Iu):=(xn (fun op h0 h1=>A.bnd op (by omega) h1) Dq H7 hS).of fun ts n K E hf h=>by
  obtain⟨h1,h2,h3,h4⟩:=h;obtain⟨t,r,rfl⟩:=hf.cons;exact aaT (h:=dp 0 0) (k:=0) ⟨h1,h2,by simp only[List.length_nil];omega,⟨hf,h3⟩⟩ h4
 have hBn :∀(l:Int) (s:Nat),0≤l→l+1=(s:Int)→rA 178 l (sD (N+1) (ry s)):=fun l s h0 hs=>(Sv hO l (fun op h1 h2=>A.bnd op h1 (by omega)) h0).of fun ts n K E hf h=>aaU hs h0 hf h
 have hX:pz 142 (sD (N+1) (ry 1)):=yI (hBn 0 1 (by decide) (by decide))
 have hSt:=SY A hS;refine⟨hX,fun op h1 h2=>hBn _ _ (Fh h1 h2).1 (Fh h1 h2).2,?_,hS,(yM hSt hL).of fun s K E hf h=>aaY hf h⟩
 rintro b O ts T K E w hp ⟨h1,h2,h3,h4⟩;obtain⟨t,r,rfl⟩:=hp.fin.cons;exact XE (Mq hX) b O t r T K E w hp (SK (h:=dp 0 0) (k:=0) ⟨h1,h2,by simp only[List.length_nil];omega,⟨hp.fin,h3⟩⟩ h4)
theorem A0 :∀N,All N
 | 0=>all_zero
 | N+1=>all_succ (A0 N)
end Go.Proofs.YteflkdlaoiijbaaGreatDoor
namespace Go.Proofs.YteflkdlaoiijbaaGreatDoor
open Go.RowKit Go.Extern.Stop Go.Stop Go.Extern
theorem XZ (t:Value) (w:World) :
  Calls Tryz.prog 22 #[.nilIface,t] w fun e w'=>e=.returned (.bool false)∧w'=w:=by
 go_enter Tryz.func22,Tryz.ntmps22
 go_wp2
 go_ret
 exact⟨rfl,rfl⟩
theorem Tryz.II (t:Addr) (w:World):(ReflectliteValue.unpack (.iface 104 (.pointer (some t)))).run Tryz.prog w
 =.ok (.agg #[.pointer (some ⟨4,104,none⟩),.pointer (some ⟨w.heap.size,0,none⟩),.int .u64 150]) (w.alloc (.cells #[.pointer (some t)] 104)):=by kernel_rfl
theorem Tryz.type51 (a:Addr) (w:World):(ReflectliteValue.methodAny (ReflectliteValue.valueError "reflectlite.Value.Type" 0) (fun t _ _ _=>ReflectliteType.toType t) #[.agg #[.pointer (some ⟨4,104,none⟩),.pointer (some a),.int .u64 150]]).run Tryz.prog w
 =.ok (.iface 165 (.agg #[.pointer (some ⟨4,104,none⟩)])) w:=by kernel_rfl
theorem Tryz.uL (h:Value) (w:World):(Go.method 423 165 (.agg #[h]) "Kind").run Tryz.prog w=.ok (256,h) w:=by kernel_rfl
theorem Tryz.X6 (w:World):((ReflectliteType.abiMethod fun t=>(fun a:Nat=>Value.int IntKind.u8 (a:Int)) <$> Rtype.kind t) #[.pointer (some ⟨4,104,none⟩)]).run Tryz.prog w=.ok (.int .u8 22) w:=by kernel_rfl
theorem Tryz.X9 (w:World):((ReflectliteType.abiMethod fun t=>(fun a:Nat=>Value.int IntKind.u8 (a:Int)) <$> Rtype.kind t) #[.pointer (some ⟨4,83,none⟩)]).run Tryz.prog w=.ok (.int .u8 22) w:=by kernel_rfl
theorem rlm (z:Sem Value) (f:TypeId→Addr→Nat→Nat→Sem Value) (v:Value) :
  ReflectliteValue.method z f #[v]=(do match←ReflectliteValue.parts v with|none=>z|some (t,a,fl)=>f t a fl (fl % 32)):=rfl
theorem Tryz.Fi (a:Addr) (w:World):(ReflectliteValue.parts (.agg #[.pointer (some ⟨4,104,none⟩),.pointer (some a),.int .u64 150])).run Tryz.prog w=.ok (some (104,a,150)) w:=by kernel_rfl
theorem Tryz.SZ (a p:Addr) (W:World) (ha:W.cell? a=some (.pointer (some p))) :
  (ReflectliteValue.method (ReflectliteValue.valueError "reflectlite.Value.IsNil" 0) ReflectliteValue.isNil #[.agg #[.pointer (some ⟨4,104,none⟩),.pointer (some a),.int .u64 150]]).run Tryz.prog W=.ok (.bool false) W:=by
 rw[rlm];simp only[Sem.run_bind,Tryz.Fi,Result.andThen];simp[ReflectliteValue.isNil,loadVar,isAgg,underlying,Tryz.underlying104,ha,Result.andThen]
theorem Tryz.uM (h:Value) (w:World):(Go.method 423 165 (.agg #[h]) "Elem").run Tryz.prog w=.ok (268,.agg #[h]) w:=by kernel_rfl
theorem Tryz.kW (h:Value) (w:World):(Go.method 423 165 (.agg #[h]) "Implements").run Tryz.prog w=.ok (269,.agg #[h]) w:=by kernel_rfl
theorem Tryz.jI (h:Value) (w:World):(Go.method 423 165 (.agg #[h]) "AssignableTo").run Tryz.prog w=.ok (266,.agg #[h]) w:=by kernel_rfl
theorem Tryz.Ya (w:World):(ReflectliteType.method ReflectliteType.elem #[.agg #[.pointer (some ⟨4,104,none⟩)]]).run Tryz.prog w=.ok (.iface 165 (.agg #[.pointer (some ⟨4,83,none⟩)])) w:=by kernel_rfl
theorem Tryz.yO (w:World):(ReflectliteType.relation "Implements" ReflectliteType.implements_ #[.agg #[.pointer (some ⟨4,83,none⟩)],.iface 165 (.agg #[.pointer (some ⟨4,27,none⟩)])]).run Tryz.prog w=.ok (.bool true) w:=by kernel_rfl
theorem Tryz.Nq (v:Value) (w:World):(ReflectliteType.typeOf #[.iface 83 v]).run Tryz.prog w=.ok (.iface 165 (.agg #[.pointer (some ⟨4,83,none⟩)])) w:=by kernel_rfl
theorem Tryz.yP (w:World):(ReflectliteType.relation "AssignableTo" ReflectliteType.assignableTo #[.agg #[.pointer (some ⟨4,83,none⟩)],.iface 165 (.agg #[.pointer (some ⟨4,83,none⟩)])]).run Tryz.prog w=.ok (.bool true) w:=by kernel_rfl
theorem Tryz.IJ (e:Addr) (w:World):(ReflectliteValue.unpack (.iface 83 (.pointer (some e)))).run Tryz.prog w
 =.ok (.agg #[.pointer (some ⟨4,83,none⟩),.pointer (some ⟨w.heap.size,0,none⟩),.int .u64 150]) (w.alloc (.cells #[.pointer (some e)] 83)):=by kernel_rfl
theorem Tryz.Nr (w:World):(Rtype.elem? 104).run Tryz.prog w=.ok (some 83) w:=by kernel_rfl
theorem Tryz.ac0 (p:Addr) (w:World):(ReflectliteValue.mk 83 p ReflectliteValue.flagAddr).run Tryz.prog w=.ok (.agg #[.pointer (some ⟨4,83,none⟩),.pointer (some p),.int .u64 406]) w:=by kernel_rfl
theorem Tryz.S3 (a p:Addr) (W:World) (ha:W.cell? a=some (.pointer (some p))) :
  (ReflectliteValue.method (ReflectliteValue.valueError "reflectlite.Value.Elem" 0) ReflectliteValue.elem #[.agg #[.pointer (some ⟨4,104,none⟩),.pointer (some a),.int .u64 150]]).run Tryz.prog W
  =.ok (.agg #[.pointer (some ⟨4,83,none⟩),.pointer (some p),.int .u64 406]) W:=by
 rw[rlm];simp only[Sem.run_bind,Tryz.Fi,Result.andThen];simp[ReflectliteValue.elem,loadVar,isAgg,underlying,Tryz.underlying104,ha,Result.andThen,Tryz.Nr,Tryz.ac0]
theorem rls (v x:Value):ReflectliteValue.set #[v,x]=(do
  let (some (dst,a,fl),some (src,b,_)):=(←ReflectliteValue.parts v,←ReflectliteValue.parts x)
   | unsupported (.noEntry "extern/(internal/reflectlite.Value).Set.zeroValue")
  if fl / ReflectliteValue.flagAddr % 2 == 0 then unsupported (.noEntry "extern/(internal/reflectlite.Value).Set.unaddressable")
  let val←loadVar src b
  if←Rtype.directlyAssignable dst src then storeVar dst a val
  else if←Rtype.implements dst src then
   if (←Rtype.kind src) == 20 then
    match val with
    | .nilIface=>unsupported (.noEntry "extern/reflectlite: a nil value of one interface type handed on as a value of another")
    | _=>storeVar dst a val
   else storeVar dst a (.iface src val)
  else panicString ("reflectlite.Set: value of type " ++ (←Rtype.spelt src) ++ " is not assignable to type " ++ (←Rtype.spelt dst))
  pure (.tuple #[])):=rfl
theorem Tryz.Ns (a:Addr) (w:World):(ReflectliteValue.parts (.agg #[.pointer (some ⟨4,83,none⟩),.pointer (some a),.int .u64 406])).run Tryz.prog w=.ok (some (83,a,406)) w:=by kernel_rfl
theorem Tryz.S4 (a:Addr) (w:World):(ReflectliteValue.parts (.agg #[.pointer (some ⟨4,83,none⟩),.pointer (some a),.int .u64 150])).run Tryz.prog w=.ok (some (83,a,150)) w:=by kernel_rfl
theorem Tryz.Nt (w:World):(Rtype.directlyAssignable 83 83).run Tryz.prog w=.ok true w:=by kernel_rfl
theorem Tryz.aaZ (ta b e:Addr) (old:Value) (W:World) (hb:W.cell? b=some (.pointer (some e))) (ht:W.cell? ta=some old) (hf:W.frozen? ta=false) :
  (ReflectliteValue.set #[.agg #[.pointer (some ⟨4,83,none⟩),.pointer (some ta),.int .u64 406],.agg #[.pointer (some ⟨4,83,none⟩),.pointer (some b),.int .u64 150]]).run Tryz.prog W
  =.ok (.tuple #[]) (W.setCell ta (.pointer (some e))):=by
 rw[rls];simp only[Sem.run_bind,Tryz.Ns,Tryz.S4,Result.andThen];simp[ReflectliteValue.flagAddr,loadVar,isAgg,underlying,Tryz.underlying83,hb,Result.andThen,Tryz.Nt,storeVar,Value.cells,storeCells,Addr.add];rw[run_store Tryz.prog W ta _ _ (by rfl)]
 simp[ht,hf]
theorem Yb (e t:Addr) (old:Value) (w:World) (hg:w.cell? ⟨0,0,none⟩=some (.iface 165 (.agg #[.pointer (some ⟨4,27,none⟩)]))) (SQ:w.cell? t=some old) (S5:w.frozen? t=false) :
  Calls Tryz.prog 22 #[.iface 83 (.pointer (some e)),.iface 104 (.pointer (some t))] w fun ev w'=>ev=.returned (.bool true)∧w'=((((w.alloc (.cells #[.pointer (some t)] 104)).alloc (.cells #[.pointer (some ⟨4,104,none⟩),.pointer (some ⟨w.heap.size,0,none⟩),.int .u64 150] 130)).alloc (.cells #[.pointer (some ⟨4,104,none⟩),.pointer (some ⟨w.heap.size,0,none⟩),.int .u64 150] 130)).alloc (.cells #[.pointer (some e)] 83)).setCell t (.pointer (some e)):=by
 have h6:=@run_callFunc_extern Tryz.prog 46 _ (fun args=>ReflectliteValue.unpack (args.getD 0 (.tuple #[]))) Tryz.func46 (by kernel_rfl) (by kernel_rfl) (by kernel_rfl) (by kernel_rfl)
 have h7:=@run_callFunc_extern Tryz.prog 47 _ (ReflectliteValue.methodAny (ReflectliteValue.valueError "reflectlite.Value.Type" 0) (fun t _ _ _=>ReflectliteType.toType t)) Tryz.func47 (by kernel_rfl) (by kernel_rfl) (by kernel_rfl) (by kernel_rfl)
 have h8:=@run_callFunc_extern Tryz.prog 48 _ (ReflectliteValue.method (ReflectliteValue.valueError "reflectlite.Value.IsNil" 0) ReflectliteValue.isNil) Tryz.func48 (by kernel_rfl) (by kernel_rfl) (by kernel_rfl) (by kernel_rfl)
 have h27:=@run_callFunc_extern Tryz.prog 256 _ (ReflectliteType.abiMethod fun t=>do pure (.int .u8 (←Rtype.kind t))) Tryz.func256 (by kernel_rfl) (by kernel_rfl) (by kernel_rfl) (by kernel_rfl)
 have h37:=@run_callFunc_extern Tryz.prog 268 _ (ReflectliteType.method ReflectliteType.elem) Tryz.func268 (by kernel_rfl) (by kernel_rfl) (by kernel_rfl) (by kernel_rfl)
 have h38:=@run_callFunc_extern Tryz.prog 269 _ (ReflectliteType.relation "Implements" ReflectliteType.implements_) Tryz.func269 (by kernel_rfl) (by kernel_rfl) (by kernel_rfl) (by kernel_rfl)
 have h10:=@run_callFunc_extern Tryz.prog 65 _ ReflectliteType.typeOf Tryz.func65 (by kernel_rfl) (by kernel_rfl) (by kernel_rfl) (by kernel_rfl)
 have h35:=@run_callFunc_extern Tryz.prog 266 _ (ReflectliteType.relation "AssignableTo" ReflectliteType.assignableTo) Tryz.func266 (by kernel_rfl) (by kernel_rfl) (by kernel_rfl) (by kernel_rfl)
 have h11:=@run_callFunc_extern Tryz.prog 98 _ (ReflectliteValue.method (ReflectliteValue.valueError "reflectlite.Value.Elem" 0) ReflectliteValue.elem) Tryz.func98 (by kernel_rfl) (by kernel_rfl) (by kernel_rfl) (by kernel_rfl)
 have h12:=@run_callFunc_extern Tryz.prog 99 _ ReflectliteValue.set Tryz.func99 (by kernel_rfl) (by kernel_rfl) (by kernel_rfl) (by kernel_rfl)
 have tO:=Tryz.Nq;have mA:=Tryz.jI;have a25:=Tryz.yP;have v25:=Tryz.IJ;have f6:=Tryz.II;have f7:=Tryz.type51;have mK:=Tryz.uL;have mE:=Tryz.uM;have mI:=Tryz.kW;have k27:=Tryz.X6;have k25:=Tryz.X9;have e27:=Tryz.Ya;have i25:=Tryz.yO;have n8:=Tryz.SZ ⟨w.heap.size,0,none⟩ t ((w.alloc (.cells #[.pointer (some t)] 104)).alloc (.cells #[.pointer (some ⟨4,104,none⟩),.pointer (some ⟨w.heap.size,0,none⟩),.int .u64 150] 130)) (by simp)
 have hlt:0<w.heap.size:=by
  rcases rY w.heap.size with h0|h
  ·simp[World.cell?,h0] at hg
  ·exact h
 have hg2:((w.alloc (.cells #[.pointer (some t)] 104)).alloc (.cells #[.pointer (some ⟨4,104,none⟩),.pointer (some ⟨w.heap.size,0,none⟩),.int .u64 150] 130)).cell? ⟨0,0,none⟩=some (.iface 165 (.agg #[.pointer (some ⟨4,27,none⟩)])):=by
  rw[World.cell?_alloc_lt _ _ ⟨0,0,none⟩ (by simp),World.cell?_alloc_lt _ _ ⟨0,0,none⟩ hlt];exact hg
 have Qq:t.block<w.heap.size:=by
  rcases Em t.block w.heap.size with h|h
  ·exact h
  ·simp[World.cell?,Array.getElem?_eq_none h] at SQ
 have el:=Tryz.S3 ⟨w.heap.size,0,none⟩ t (((w.alloc (.cells #[.pointer (some t)] 104)).alloc (.cells #[.pointer (some ⟨4,104,none⟩),.pointer (some ⟨w.heap.size,0,none⟩),.int .u64 150] 130)).alloc (.cells #[.pointer (some ⟨4,104,none⟩),.pointer (some ⟨w.heap.size,0,none⟩),.int .u64 150] 130)) (by rw[World.cell?_alloc_lt _ _ ⟨w.heap.size,0,none⟩ (by simp;omega)];simp)
 have st:=Tryz.aaZ t ⟨w.heap.size+1+1+1,0,none⟩ e old ((((w.alloc (.cells #[.pointer (some t)] 104)).alloc (.cells #[.pointer (some ⟨4,104,none⟩),.pointer (some ⟨w.heap.size,0,none⟩),.int .u64 150] 130)).alloc (.cells #[.pointer (some ⟨4,104,none⟩),.pointer (some ⟨w.heap.size,0,none⟩),.int .u64 150] 130)).alloc (.cells #[.pointer (some e)] 83))
  (by rw[World.cell?_alloc_at _ _ _ _ (by simp)];rfl)
  (by rw[World.cell?_alloc_lt _ _ t (by simp;omega),World.cell?_alloc_lt _ _ t (by simp;omega),World.cell?_alloc_lt _ _ t (by simp;omega),World.cell?_alloc_lt _ _ t Qq];exact SQ)
  (by rw[World.frozen?_alloc_old _ _ t (by simp;omega),World.frozen?_alloc_old _ _ t (by simp;omega),World.frozen?_alloc_old _ _ t (by simp;omega),World.frozen?_alloc_old _ _ t (jy Qq)];exact S5)
 go_enter Tryz.func22,Tryz.ntmps22
 go_wp2
 refine wp_loop_rounds 1 ?_;rw[rounds_succ];go_wp2
 go_ret
 exact⟨rfl,rfl⟩
theorem Tryz.DA (t:Addr) (w:World):(ReflectliteValue.unpack (.iface 77 (.pointer (some t)))).run Tryz.prog w
 =.ok (.agg #[.pointer (some ⟨4,77,none⟩),.pointer (some ⟨w.heap.size,0,none⟩),.int .u64 150]) (w.alloc (.cells #[.pointer (some t)] 77)):=by kernel_rfl
theorem Tryz.S7 (a:Addr) (w:World):(ReflectliteValue.methodAny (ReflectliteValue.valueError "reflectlite.Value.Type" 0) (fun t _ _ _=>ReflectliteType.toType t) #[.agg #[.pointer (some ⟨4,77,none⟩),.pointer (some a),.int .u64 150]]).run Tryz.prog w
 =.ok (.iface 165 (.agg #[.pointer (some ⟨4,77,none⟩)])) w:=by kernel_rfl
theorem Tryz.S8 (w:World):((ReflectliteType.abiMethod fun t=>(fun a:Nat=>Value.int IntKind.u8 (a:Int)) <$> Rtype.kind t) #[.pointer (some ⟨4,77,none⟩)]).run Tryz.prog w=.ok (.int .u8 22) w:=by kernel_rfl
theorem Tryz.S9 (w:World):((ReflectliteType.abiMethod fun t=>(fun a:Nat=>Value.int IntKind.u8 (a:Int)) <$> Rtype.kind t) #[.pointer (some ⟨4,75,none⟩)]).run Tryz.prog w=.ok (.int .u8 22) w:=by kernel_rfl
theorem Tryz.A3 (a:Addr) (w:World):(ReflectliteValue.parts (.agg #[.pointer (some ⟨4,77,none⟩),.pointer (some a),.int .u64 150])).run Tryz.prog w=.ok (some (77,a,150)) w:=by kernel_rfl
theorem Tryz.Nu (a p:Addr) (W:World) (ha:W.cell? a=some (.pointer (some p))) :
  (ReflectliteValue.method (ReflectliteValue.valueError "reflectlite.Value.IsNil" 0) ReflectliteValue.isNil #[.agg #[.pointer (some ⟨4,77,none⟩),.pointer (some a),.int .u64 150]]).run Tryz.prog W=.ok (.bool false) W:=by
 rw[rlm];simp only[Sem.run_bind,Tryz.A3,Result.andThen];simp[ReflectliteValue.isNil,loadVar,isAgg,underlying,Tryz.underlying77,ha,Result.andThen]
theorem Tryz.Ta (w:World):(ReflectliteType.method ReflectliteType.elem #[.agg #[.pointer (some ⟨4,77,none⟩)]]).run Tryz.prog w=.ok (.iface 165 (.agg #[.pointer (some ⟨4,75,none⟩)])) w:=by kernel_rfl
theorem Tryz.vV (w:World):(ReflectliteType.relation "Implements" ReflectliteType.implements_ #[.agg #[.pointer (some ⟨4,75,none⟩)],.iface 165 (.agg #[.pointer (some ⟨4,27,none⟩)])]).run Tryz.prog w=.ok (.bool true) w:=by kernel_rfl
theorem Tryz.IK (v:Value) (w:World):(ReflectliteType.typeOf #[.iface 75 v]).run Tryz.prog w=.ok (.iface 165 (.agg #[.pointer (some ⟨4,75,none⟩)])) w:=by kernel_rfl
theorem Tryz.vW (w:World):(ReflectliteType.relation "AssignableTo" ReflectliteType.assignableTo #[.agg #[.pointer (some ⟨4,75,none⟩)],.iface 165 (.agg #[.pointer (some ⟨4,75,none⟩)])]).run Tryz.prog w=.ok (.bool true) w:=by kernel_rfl
theorem Tryz.DB (e:Addr) (w:World):(ReflectliteValue.unpack (.iface 75 (.pointer (some e)))).run Tryz.prog w
 =.ok (.agg #[.pointer (some ⟨4,75,none⟩),.pointer (some ⟨w.heap.size,0,none⟩),.int .u64 150]) (w.alloc (.cells #[.pointer (some e)] 75)):=by kernel_rfl
theorem Tryz.IL (w:World):(Rtype.elem? 77).run Tryz.prog w=.ok (some 75) w:=by kernel_rfl
theorem Tryz.aa0 (p:Addr) (w:World):(ReflectliteValue.mk 75 p ReflectliteValue.flagAddr).run Tryz.prog w=.ok (.agg #[.pointer (some ⟨4,75,none⟩),.pointer (some p),.int .u64 406]) w:=by kernel_rfl
theorem Tryz.Nv (a p:Addr) (W:World) (ha:W.cell? a=some (.pointer (some p))) :
  (ReflectliteValue.method (ReflectliteValue.valueError "reflectlite.Value.Elem" 0) ReflectliteValue.elem #[.agg #[.pointer (some ⟨4,77,none⟩),.pointer (some a),.int .u64 150]]).run Tryz.prog W
  =.ok (.agg #[.pointer (some ⟨4,75,none⟩),.pointer (some p),.int .u64 406]) W:=by
 rw[rlm];simp only[Sem.run_bind,Tryz.A3,Result.andThen];simp[ReflectliteValue.elem,loadVar,isAgg,underlying,Tryz.underlying77,ha,Result.andThen,Tryz.IL,Tryz.aa0]
theorem Tryz.IM (a:Addr) (w:World):(ReflectliteValue.parts (.agg #[.pointer (some ⟨4,75,none⟩),.pointer (some a),.int .u64 406])).run Tryz.prog w=.ok (some (75,a,406)) w:=by kernel_rfl
theorem Tryz.Nw (a:Addr) (w:World):(ReflectliteValue.parts (.agg #[.pointer (some ⟨4,75,none⟩),.pointer (some a),.int .u64 150])).run Tryz.prog w=.ok (some (75,a,150)) w:=by kernel_rfl
theorem Tryz.IN (w:World):(Rtype.directlyAssignable 75 75).run Tryz.prog w=.ok true w:=by kernel_rfl
theorem Tryz.Yc (ta b e:Addr) (old:Value) (W:World) (hb:W.cell? b=some (.pointer (some e))) (ht:W.cell? ta=some old) (hf:W.frozen? ta=false) :
  (ReflectliteValue.set #[.agg #[.pointer (some ⟨4,75,none⟩),.pointer (some ta),.int .u64 406],.agg #[.pointer (some ⟨4,75,none⟩),.pointer (some b),.int .u64 150]]).run Tryz.prog W
  =.ok (.tuple #[]) (W.setCell ta (.pointer (some e))):=by
 rw[rls];simp only[Sem.run_bind,Tryz.IM,Tryz.Nw,Result.andThen];simp[ReflectliteValue.flagAddr,loadVar,isAgg,underlying,Tryz.underlying75,hb,Result.andThen,Tryz.IN,storeVar,Value.cells,storeCells,Addr.add];rw[run_store Tryz.prog W ta _ _ (by rfl)]
 simp[ht,hf]
theorem Tc (e t:Addr) (old:Value) (w:World) (hg:w.cell? ⟨0,0,none⟩=some (.iface 165 (.agg #[.pointer (some ⟨4,27,none⟩)]))) (SQ:w.cell? t=some old) (S5:w.frozen? t=false) :
  Calls Tryz.prog 22 #[.iface 75 (.pointer (some e)),.iface 77 (.pointer (some t))] w fun ev w'=>ev=.returned (.bool true)∧w'=((((w.alloc (.cells #[.pointer (some t)] 77)).alloc (.cells #[.pointer (some ⟨4,77,none⟩),.pointer (some ⟨w.heap.size,0,none⟩),.int .u64 150] 130)).alloc (.cells #[.pointer (some ⟨4,77,none⟩),.pointer (some ⟨w.heap.size,0,none⟩),.int .u64 150] 130)).alloc (.cells #[.pointer (some e)] 75)).setCell t (.pointer (some e)):=by
 have h6:=@run_callFunc_extern Tryz.prog 46 _ (fun args=>ReflectliteValue.unpack (args.getD 0 (.tuple #[]))) Tryz.func46 (by kernel_rfl) (by kernel_rfl) (by kernel_rfl) (by kernel_rfl)
 have h7:=@run_callFunc_extern Tryz.prog 47 _ (ReflectliteValue.methodAny (ReflectliteValue.valueError "reflectlite.Value.Type" 0) (fun t _ _ _=>ReflectliteType.toType t)) Tryz.func47 (by kernel_rfl) (by kernel_rfl) (by kernel_rfl) (by kernel_rfl)
 have h8:=@run_callFunc_extern Tryz.prog 48 _ (ReflectliteValue.method (ReflectliteValue.valueError "reflectlite.Value.IsNil" 0) ReflectliteValue.isNil) Tryz.func48 (by kernel_rfl) (by kernel_rfl) (by kernel_rfl) (by kernel_rfl)
 have h27:=@run_callFunc_extern Tryz.prog 256 _ (ReflectliteType.abiMethod fun t=>do pure (.int .u8 (←Rtype.kind t))) Tryz.func256 (by kernel_rfl) (by kernel_rfl) (by kernel_rfl) (by kernel_rfl)
 have h37:=@run_callFunc_extern Tryz.prog 268 _ (ReflectliteType.method ReflectliteType.elem) Tryz.func268 (by kernel_rfl) (by kernel_rfl) (by kernel_rfl) (by kernel_rfl)
 have h38:=@run_callFunc_extern Tryz.prog 269 _ (ReflectliteType.relation "Implements" ReflectliteType.implements_) Tryz.func269 (by kernel_rfl) (by kernel_rfl) (by kernel_rfl) (by kernel_rfl)
 have h10:=@run_callFunc_extern Tryz.prog 65 _ ReflectliteType.typeOf Tryz.func65 (by kernel_rfl) (by kernel_rfl) (by kernel_rfl) (by kernel_rfl)
 have h35:=@run_callFunc_extern Tryz.prog 266 _ (ReflectliteType.relation "AssignableTo" ReflectliteType.assignableTo) Tryz.func266 (by kernel_rfl) (by kernel_rfl) (by kernel_rfl) (by kernel_rfl)
 have h11:=@run_callFunc_extern Tryz.prog 98 _ (ReflectliteValue.method (ReflectliteValue.valueError "reflectlite.Value.Elem" 0) ReflectliteValue.elem) Tryz.func98 (by kernel_rfl) (by kernel_rfl) (by kernel_rfl) (by kernel_rfl)
 have h12:=@run_callFunc_extern Tryz.prog 99 _ ReflectliteValue.set Tryz.func99 (by kernel_rfl) (by kernel_rfl) (by kernel_rfl) (by kernel_rfl)
 have tO:=Tryz.IK;have mA:=Tryz.jI;have a25:=Tryz.vW;have v25:=Tryz.DB;have f6:=Tryz.DA;have f7:=Tryz.S7;have mK:=Tryz.uL;have mE:=Tryz.uM;have mI:=Tryz.kW;have k27:=Tryz.S8;have k25:=Tryz.S9;have e27:=Tryz.Ta;have i25:=Tryz.vV;have n8:=Tryz.Nu ⟨w.heap.size,0,none⟩ t ((w.alloc (.cells #[.pointer (some t)] 77)).alloc (.cells #[.pointer (some ⟨4,77,none⟩),.pointer (some ⟨w.heap.size,0,none⟩),.int .u64 150] 130)) (by simp)
 have hlt:0<w.heap.size:=by
  rcases rY w.heap.size with h0|h
  ·simp[World.cell?,h0] at hg
  ·exact h
 have hg2:((w.alloc (.cells #[.pointer (some t)] 77)).alloc (.cells #[.pointer (some ⟨4,77,none⟩),.pointer (some ⟨w.heap.size,0,none⟩),.int .u64 150] 130)).cell? ⟨0,0,none⟩=some (.iface 165 (.agg #[.pointer (some ⟨4,27,none⟩)])):=by
  rw[World.cell?_alloc_lt _ _ ⟨0,0,none⟩ (by simp),World.cell?_alloc_lt _ _ ⟨0,0,none⟩ hlt];exact hg
 have Qq:t.block<w.heap.size:=by
  rcases Em t.block w.heap.size with h|h
  ·exact h
  ·simp[World.cell?,Array.getElem?_eq_none h] at SQ
 have el:=Tryz.Nv ⟨w.heap.size,0,none⟩ t (((w.alloc (.cells #[.pointer (some t)] 77)).alloc (.cells #[.pointer (some ⟨4,77,none⟩),.pointer (some ⟨w.heap.size,0,none⟩),.int .u64 150] 130)).alloc (.cells #[.pointer (some ⟨4,77,none⟩),.pointer (some ⟨w.heap.size,0,none⟩),.int .u64 150] 130)) (by rw[World.cell?_alloc_lt _ _ ⟨w.heap.size,0,none⟩ (by simp;omega)];simp)
 have st:=Tryz.Yc t ⟨w.heap.size+1+1+1,0,none⟩ e old ((((w.alloc (.cells #[.pointer (some t)] 77)).alloc (.cells #[.pointer (some ⟨4,77,none⟩),.pointer (some ⟨w.heap.size,0,none⟩),.int .u64 150] 130)).alloc (.cells #[.pointer (some ⟨4,77,none⟩),.pointer (some ⟨w.heap.size,0,none⟩),.int .u64 150] 130)).alloc (.cells #[.pointer (some e)] 75))
  (by rw[World.cell?_alloc_at _ _ _ _ (by simp)];rfl)
  (by rw[World.cell?_alloc_lt _ _ t (by simp;omega),World.cell?_alloc_lt _ _ t (by simp;omega),World.cell?_alloc_lt _ _ t (by simp;omega),World.cell?_alloc_lt _ _ t Qq];exact SQ)
  (by rw[World.frozen?_alloc_old _ _ t (by simp;omega),World.frozen?_alloc_old _ _ t (by simp;omega),World.frozen?_alloc_old _ _ t (by simp;omega),World.frozen?_alloc_old _ _ t (jy Qq)];exact S5)
 go_enter Tryz.func22,Tryz.ntmps22
 go_wp2
 refine wp_loop_rounds 1 ?_;rw[rounds_succ];go_wp2
 go_ret
 exact⟨rfl,rfl⟩
end Go.Proofs.YteflkdlaoiijbaaGreatDoor
namespace Go.Proofs.YteflkdlaoiijbaaGreatDoor
theorem xo {r l:List UInt8} (h:r <:+ l):nl r≤nl l:=h.sublist.count_le 10
theorem DC (l sep:List UInt8) (h:(Lib.cut l sep).2.2=true):(Lib.cut l sep).2.1 <:+ l:=by
 unfold Lib.cut at h ⊢;split
 ·exact tJ _ _
 ·rename_i h0
  rw[af h0] at h;cases h
theorem uN {l t r:List UInt8} (h:JO l=some (t,r)):r <:+ l:=by
 unfold JO at h;split at h
 ·rename_i hc
  injection h with h;injection h with _ h;rw[←h];exact(DC _ _ hc).trans (tJ _ _)
 ·cases h
theorem A4 {l r:List UInt8} (h:comm l=some r):r <:+ l:=by
 unfold comm at h;split at h
 ·cases e:JO l with
  | none=>rw[e] at h;cases h
  | some z =>
   obtain⟨t,r'⟩:=z;rw[e] at h;simp only[oN,pS] at h;rw[←h];exact uN e
 ·injection h with h
  rw[←h];exact tJ _ _
theorem mV.suffix {l:List UInt8} {q:Except (List UInt8) (List UInt8)} (h:mV l q) :∀{r},q=.ok r→r <:+ l:=by
 induction h with
 | done h1 h2=>intro r e;cases e;rw[←h1];exact zF _
 | @more l r1 r' o h1 h2 h3 ih =>
  intro r e;have a:=ih e;have b:=A4 h2;have c:(45::45::r1) <:+ l:=by rw[←h1];exact zF _
  exact a.trans (b.trans (((tK 45 r1).trans (tK 45 _)).trans c))
 | bad=>intro r e;cases e
theorem sF {b:Int} {p:UInt8→Bool} {least most:Nat} {l m r:List UInt8} (h:code b p least most l=some (m,r)):r <:+ l:=by
 unfold code at h;split at h
 ·injection h with h
  injection h with _ h;rw[←h];exact tJ _ _
 ·cases h
theorem DD {l m r:List UInt8} (h:pM l=some (m,r)):r <:+ l:=by
 cases l with
 | nil=>cases h
 | cons c t =>
  have h:pj c t=some (m,r):=h;have ht:=tK c t;cases e:vO c with
  | some y =>
   rw[gg _ e] at h;injection h with h;injection h with _ h;rw[←h];exact ht
  | none =>
   cases e1:pZ c
   ·by_cases e2:c.toNat=122
    ·rw[Kw _ e e1 e2] at h
     injection h with h;injection h with _ h;rw[←h];exact(zF _).trans ht
    ·by_cases e3:c.toNat=120
     ·rw[Kx _ e e1 e3] at h
      exact(sF h).trans ht
     ·cases e4:fQ c
      ·rw[Ex _ e e1 e2 e3 e4] at h
       cases h
      ·rw[Ky _ e e1 e2 e3 e4] at h
       exact sF h
   ·rw[kL _ e e1] at h
    injection h with h;injection h with _ h;rw[←h];exact ht
theorem yi.suffix {q:UInt8} {l:List UInt8} {o:Option (List UInt8×List UInt8)} (h:yi q l o) :∀{t r},o=some (t,r)→r <:+ l:=by
 induction h with
 | shut=>intro t r e;cases e;exact tK _ _
 | none=>intro t r e;cases e
 | line=>intro t r e;cases e
 | @pM r1 m r' o' h1 h2 h3 ih =>
  intro t r e;cases o' with
  | none=>cases e
  | some z =>
   obtain⟨t',r''⟩:=z;simp only[oN,pS,sa] at e;rw[←e.2];exact((ih rfl).trans (DD h2)).trans (tK _ _)
 | bad=>intro t r e;cases e
 | @byte c r1 o' h1 h2 h3 h4 ih =>
  intro t r e;cases o' with
  | none=>cases e
  | some z =>
   obtain⟨t',r''⟩:=z;simp only[oN,pS,sa] at e;rw[←e.2];exact(ih rfl).trans (tK _ _)
theorem Tok.suffix {l:List UInt8} {k n:Int} {s r:List UInt8} (h:Tok l (some (k,n,s,r))):r <:+ l:=by
 generalize ho:some (k,n,s,r)=o at h;cases h with
 | eof=>simp only[pS,sa] at ho;rw[ho.2.2.2];exact List.suffix_refl _
 | name=>simp only[pS,sa] at ho;rw[ho.2.2.2];exact zF _
 | num=>simp only[pS,sa] at ho;rw[ho.2.2.2];exact zF _
 | CH=>cases ho
 | @text c t o' h1 h2 h3 h4 =>
  cases o' with
  | none=>cases ho
  | some z =>
   obtain⟨a,b⟩:=z;simp only[oN,pS,sa] at ho;rw[ho.2.2.2];exact(h4.suffix rfl).trans (tK _ _)
 | @long c t h1 h2 h3 h4 =>
  cases e:JO (c::t) with
  | none=>rw[e] at ho;cases ho
  | some z =>
   obtain⟨a,b⟩:=z;rw[e] at ho;simp only[oN,pS,sa] at ho;rw[ho.2.2.2];exact uN e
 | @sign c t h1 h2 h3 h4 =>
  cases e:Go.Proofs.YteflkdlaoiijbaaGreatDoor.sign (c::t) with
  | none=>rw[e] at ho;cases ho
  | some z =>
   obtain⟨a,b⟩:=z;rw[e] at ho;simp only[oN,pS,sa] at ho;rw[ho.2.2.2];unfold Go.Proofs.YteflkdlaoiijbaaGreatDoor.sign at e;split at e
   ·injection e with e;injection e with _ e;rw[←e];exact tJ _ _
   ·split at e
    ·injection e with e;injection e with _ e;rw[←e];exact tJ _ _
    ·split at e
     ·injection e with e;injection e with _ e;rw[←e];exact tJ _ _
     ·cases e
open Go.RowKit
theorem Fj (n k:Int) (w:World):Calls Tryz.prog 23 #[.int .i64 n,.int .i64 k] w fun e w'=>e=.returned (.iface 83 (.pointer (some ⟨w.heap.size,0,none⟩)))∧w'=w.alloc (.cells #[.int .i64 n,.iface 79 (.int .i64 k)] 85):=by
 go_enter Tryz.func23,Tryz.ntmps23
 go_wp2
 go_ret
 exact⟨rfl,rfl⟩
def Nx (W:World) (v:Value) (n k:Int):Prop:=∃g,v=.iface 83 (.pointer (some ⟨g,0,none⟩))∧W.heap[g]? = some (.cells #[.int .i64 n,.iface 79 (.int .i64 k)] 85 (0,0))
theorem Yd {K:Ast→List aj→Prop} {E:Int→Prop} {N:Nat} {t:aj} {r:List aj} (hl:(t::r).length<N) (h2:(t::r).length≤20000) (hw:Wf (t::r)) (H:Gw pT (t::r) K E):aJ [Mh N,LW] ⟨dp 18 t.2.1,[],t::r,0⟩ (bO K) E:=by
 refine⟨hl,by dsimp only;omega,by simp only[List.length_nil];omega,hw.zu,?_⟩
 refine(Gw.call (Gw.look (Gw.call H))).mono fun(l:List Ast) ay p hq n' hn'=>?_
 have hz:Ast.al l+2*ay.length≤Ast.al []+2*(t::r).length:=hq.1;have oc:=hq.2.ret.2;obtain⟨u,us,rfl⟩:=(PL.wf (n:=.tV []) p hw).fin.cons;have G:=Gw.look oc;dsimp only at hn'
 rw[cb] at hz hn';exact⟨u,us,rfl,fun h0=>⟨by dsimp only;omega,(G.pos h0).ret⟩,fun h0=>(G.neg h0).bad⟩
theorem Ye {w:World} {g c:Nat} {ts:List aj} (h:ui w (.slice (some ⟨g,0,none⟩) ts.length c) ts) (hf:Fin ts) (hl:ts.length≤20000) (hg:g<w.heap.size):PS (w.alloc (.cells #[.slice (some ⟨g,0,none⟩) ts.length c,.int .i64 0,.slice none 0 0] 71)) w.heap.size (· = w.heap.size) ts [] :=
 ⟨⟨ts,0,g,c,.slice none 0 0,[],World.alloc_heap_new w _,h.below (aW w _),hg,rfl,hl,⟨World.ownsRow_nil _ _ _ _,fun k hk=>by simp[Value.ownBlock] at hk,fun t ht=>by simp at ht⟩,rfl⟩,hf,rfl,fun k hk=>by subst hk;simp⟩
theorem Ny {W:World} {B:Nat} {v:Value} {zs:List Int} (h:W.ownsRow B 3 1 v zs.length (zs.map (Value.int .i64))):eL W v zs:=by
 obtain⟨A,c,rfl,hc⟩:=bB h;refine⟨A,c,rfl,hc,?_⟩;rcases rY zs.length with h0|h0
 ·exact .inl (pO h0)
 ·obtain⟨g,c2,e1,h1,h2⟩:=h.form h0
  injection e1 with e1 _ _;subst e1;refine .inr ⟨g,0,rfl,h2,fun j z hj=>?_⟩
  have:=h.cells (g:=g) rfl j (.int .i64 z) (by rw[gw,hj];rfl)
  rwa[tt,←jX j] at this
theorem Nz {W:World} {B:Nat} {v:Value} {zs:List ByteArray} (h:W.ownsRow B 9 1 v zs.length (zs.map Value.string)):sx W v zs:=by
 obtain⟨A,c,rfl,hc⟩:=bB h;refine⟨A,c,rfl,hc,?_⟩;rcases rY zs.length with h0|h0
 ·exact .inl (pO h0)
 ·obtain⟨g,c2,e1,h1,h2⟩:=h.form h0
  injection e1 with e1 _ _;subst e1;refine .inr ⟨g,0,rfl,h2,fun j z hj=>?_⟩
  have:=h.cells (g:=g) rfl j (.string z) (by rw[gw,hj];rfl)
  rwa[tt,←jX j] at this
theorem A7 :∀(L:List JT) (p j:Nat) (t:JT),L[p]? = some t→j<7→(L.flatMap aP)[p*7+j]? = (aP t)[j]?
 | [],p,j,t,h,_=>by simp at h
 | u::L,0,j,t,h,hj=>by
  obtain rfl:u=t:=by simpa using h
  rw[jc,Nat.zero_mul,jX,kF (by rw[eO];exact hj)]
 | u::L,p+1,j,t,h,hj=>by
  have:=A7 L p j t (by simpa using h) hj
  rw[jc,zA (by rw[eO];omega),eO,show(p+1)*7+j-7=p*7+j by omega]
  exact this
theorem Rv.nodes {W:World} {b:Nat} {O:Nat→Prop} {v:Value} {L:List JT} (a6:Rv W b O v L) {T:List Nd} (a7:L.map (·.1)=T):sy W v T:=by
 have hL:L.length=T.length:=by rw[←a7,cN]
 obtain⟨A,c,e,hc⟩:=bB a6.row;subst e;rw[hL] at hc;refine⟨A,c,by rw[hL],hc,?_⟩
 rcases rY L.length with h0|h0
 ·exact .inl (pO (by omega))
 ·obtain⟨g,c2,e1,h1,h2⟩:=a6.row.form h0
  injection e1 with e1 _ _;subst e1;refine .inr ⟨g,0,rfl,h2,fun j x hj=>?_⟩
  have hLj :∃t,L[j]? = some t∧t.1=x:=by
   rw[←a7,gw] at hj;cases hq:L[j]? with
   | none=>rw[hq] at hj;simp at hj
   | some t=>rw[hq] at hj;exact⟨t,rfl,by simpa using hj⟩
  obtain⟨t,ht,rfl⟩:=hLj;have hcell :∀k,k<7→W.cell? ⟨g,0+j*7+k,none⟩=(aP t)[k]?:=fun k hk=>by
   have hq:=A7 L j k t ht hk;have Es:k<(aP t).length:=by rw[eO];exact hk
   rw[bE Es] at hq ⊢;have:=a6.row.cells (g:=g) rfl (j*7+k) _ hq;rw[tt] at this;rw[jX];exact this
  have hn:=a6.each t (ba ht);exact⟨t.2.1,t.2.2,⟨hcell 0 (by omega),hcell 1 (by omega),hcell 2 (by omega),hcell 3 (by omega),hcell 4 (by omega),hcell 5 (by omega),hcell 6 (by omega)⟩,Nz hn.names,Ny hn.kids⟩
theorem PS.nodes {W:World} {b:Nat} {O:Nat→Prop} {ts:List aj} {T:List Nd} (h:PS W b O ts T) :∃A c,W.cell? ⟨b,2,none⟩=some (.slice A T.length c)∧∀(W':World) (O1:Nat→Prop),az O1 W W'→(∀k,O k→¬ O1 k)→sy W' (.slice A T.length c) T:=by
 obtain⟨TS,i,g0,c0,nv,L,a1,a2,a3,a4,a5,a6,a7⟩:=h.ex;have hL:L.length=T.length:=by rw[←a7,cN]
 obtain⟨A,c,e,hc⟩:=bB a6.row;subst e;refine⟨A,c,by rw[←hL];simp[World.cell?,a1],fun W' O1 hf hd=>?_⟩
 have hb :∀k,O k→W'.heap[k]? = W.heap[k]?:=fun k hk=>hf.block k (h.own k hk).2 (hd k hk)
 have a8:Rv W' b O (.slice A L.length c) L:=⟨cS a6.row fun k hk=>hb k (a6.own k hk),a6.own,fun t ht=>(a6.each t ht).kept hf hd (fun _ h=>h)⟩
 rw[←hL];exact a8.nodes a7
theorem NB {r:List UInt8} {q:Option (Int×Int×List UInt8×List UInt8)} (h:Tok r q) :∀{k n:Int} {s r':List UInt8},q=some (k,n,s,r')→r≠[]→1≤k∧(k=2→s≠[61]):=by
 have mp :∀{o:Option (List UInt8×List UInt8)} {m k n:Int} {s r':List UInt8},o.map (fun x=>(m,(0:Int),x.1,x.2))=some (k,n,s,r')→k=m:=fun{o m k n s r'} e=>by
  cases o with
  | none=>simp at e
  | some x=>simp at e;exact e.1.symm
 cases h with
 | eof=>intro k n s r' _ hr;exact absurd rfl hr
 | @name c r hc =>
  intro k n s r' e _;injection e with e;injection e with e1 e;injection e with _ e;injection e with e3 _;refine⟨by rw[←e1];split<;>decide,fun _ h=>?_⟩
  rw[h] at e3;have hn:jZ c=true:=by unfold jZ;rw[hc];rfl
  rw[zG,ak hn] at e3;injection e3 with e4 _;rw[e4] at hc;exact absurd hc (by decide)
 | num h1 h2 h3 =>
  intro k n s r' e _;injection e with e;injection e with e1 e;rw[←e1];exact⟨by decide,fun h=>absurd h (by decide)⟩
 | CH h1 h2 h3=>intro k n s r' e _;cases e
 | text h1 h2 h3 h4=>intro k n s r' e _;rw[mp e];exact⟨by decide,fun h=>absurd h (by decide)⟩
 | long h1 h2 h3 h4=>intro k n s r' e _;rw[mp e];exact⟨by decide,fun h=>absurd h (by decide)⟩
 | sign h1 h2 h3 h4=>intro k n s r' e _;rw[mp e];exact⟨by decide,fun h=>absurd h (by decide)⟩
theorem lex_wf {L:Int} {l:List UInt8} {o:Except Int (List Tk)} (h:kt L l o):(nl l:Int)<L→∀ts,o=.ok ts→Wf ts:=by
 induction h with
 | lM=>intro _ ts e;cases e
 | pk=>intro _ ts e;cases e
 | eof _ =>
  intro hL ts e;injection e with e;subst e;exact⟨⟨[],_,rfl,rfl,by simp⟩,fun t ht=>by
   obtain rfl:=bP.1 ht;exact⟨by dsimp only;omega,fun h=>by simp at h⟩⟩
 | @step l r r' s k n o h1 h2 h3 h4 ih =>
  intro hL ts e;cases o with
  | error x=>cases e
  | ok ts0 =>
   injection e with e;subst e;have hr:=xo (h1.suffix rfl);have UR:=xo h3.suffix;have hw:=ih (by omega) ts0 rfl
   have hk:=NB h3 rfl h2;obtain⟨us,e,e1,e2,e3⟩:=hw.fin;refine⟨⟨(k,L-nl r,n,s)::us,e,by rw[e1];rfl,e2,fun u hu=>?_⟩,fun t ht=>?_⟩
   ·rcases bn.1 hu with rfl|hu
    ·dsimp only;omega
    ·exact e3 u hu
   ·rcases bn.1 ht with rfl|ht
    ·exact⟨by dsimp only;omega,hk.2⟩
    ·exact hw.zu t ht
end Go.Proofs.YteflkdlaoiijbaaGreatDoor
namespace Go.Proofs.YteflkdlaoiijbaaGreatDoor
open Go.RowKit Go.Extern.Stop Go.Stop Go.Extern
theorem Tryz.A8 (v:Value) (w:World):(Extern.ReflectliteType.typeOf #[.iface 79 v]).run Tryz.prog w=.ok (.iface 165 (.agg #[.pointer (some ⟨4,79,none⟩)])) w:=by kernel_rfl
theorem Tryz.jJ (v:Value) (w:World):(Go.method 423 165 v "Comparable").run Tryz.prog w=.ok (267,v) w:=by kernel_rfl
theorem Tryz.Vn (v:Value) (xT:TypeId) (w:World):(Instr.typeAssert (.iface 83 v) xT 207 true).run Tryz.prog w=.ok (.tuple #[.nilIface,.bool false]) w:=run_typeAssert_lacksB Tryz.underlying207 (by kernel_rfl) (by kernel_rfl) v xT w
theorem Tryz.uO (v:Value) (xT:TypeId) (w:World):(Instr.typeAssert (.iface 83 v) xT 172 true).run Tryz.prog w=.ok (.tuple #[.iface 83 v,.bool true]) w:=run_typeAssert_hasB Tryz.underlying172 (by kernel_rfl) v xT w
theorem Tryz.aa1 (v:Value) (xT:TypeId) (w:World):(Instr.typeAssert (.iface 79 v) xT 207 true).run Tryz.prog w=.ok (.tuple #[.nilIface,.bool false]) w:=run_typeAssert_lacksB Tryz.underlying207 (by kernel_rfl) (by kernel_rfl) v xT w
theorem Tryz.IP (v:Value) (xT:TypeId) (w:World):(Instr.typeAssert (.iface 79 v) xT 172 true).run Tryz.prog w=.ok (.tuple #[.nilIface,.bool false]) w:=run_typeAssert_lacksB Tryz.underlying172 (by kernel_rfl) (by kernel_rfl) v xT w
theorem Tryz.DE (v:Value) (xT:TypeId) (w:World):(Instr.typeAssert (.iface 79 v) xT 173 true).run Tryz.prog w=.ok (.tuple #[.nilIface,.bool false]) w:=run_typeAssert_lacksB Tryz.underlying173 (by kernel_rfl) (by kernel_rfl) v xT w
theorem Tryz.qn (v:Value) (w:World):(Go.method 423 83 v "Unwrap").run Tryz.prog w=.ok (261,v) w:=by kernel_rfl
theorem Tryz.qo (w:World):((Extern.ReflectliteType.method fun t=>do Rtype.noPackHeld "Comparable" t;(fun a=>Value.bool a.comparable) <$> typeInfo t) #[.agg #[.pointer (some ⟨4,79,none⟩)]]).run Tryz.prog w=.ok (.bool true) w:=by kernel_rfl
end Go.Proofs.YteflkdlaoiijbaaGreatDoor
namespace Go.Proofs.YteflkdlaoiijbaaGreatDoor
open Go.RowKit
structure nJ (w:World):Prop where
 mx:Mx w
 et:w.cell? ⟨0,0,none⟩=some (.iface 165 (.agg #[.pointer (some ⟨4,27,none⟩)]))
 big:4≤w.heap.size
theorem nJ.below {w w':World} (h:nJ w) (hb:Below w.heap.size w w'):nJ w' :=
 ⟨h.mx.below hb,(hb.cell (p:=⟨0,0,none⟩) (by have:=h.big;show 0<_;omega)).trans h.et,aK h.big hb.size⟩
theorem Td (g:Nat) (w:World) (h:nJ w):Calls Tryz.prog 22 #[.iface 83 (.pointer (some ⟨g,0,none⟩)),.iface 104 (.pointer (some ⟨w.heap.size,0,none⟩))] (w.alloc (.cells #[.pointer none] 83)) fun e w' =>
  e=.returned (.bool true)∧w'.cell? ⟨w.heap.size,0,none⟩=some (.pointer (some ⟨g,0,none⟩))∧Below w.heap.size w w':=by
 have hB:=(Below.refl w.heap.size w).alloc (ah _) (.cells #[.pointer none] 83);have hE:=h.below hB;have hx:=Boxed.new w 83 (.pointer none);refine(Yb ⟨g,0,none⟩ ⟨w.heap.size,0,none⟩ (.pointer none) (w.alloc (.cells #[.pointer none] 83)) hE.et hx.cell hx.frozen).mono ?_;rintro e w' ⟨rfl,rfl⟩;exact⟨rfl,(((((hx.alloc _).alloc _).alloc _).alloc _).set _).cell,(((((hB.alloc (by simp) _).alloc (by simp;omega) _).alloc (by simp;omega) _).alloc (by simp;omega) _)).setCell (ah _) _⟩
theorem gi {B:Nat} {w W:World} {n j:Nat} {v:Value} (h:Below B w W) (hn:B≤n):Below B w (W.setCell ⟨n,j,none⟩ v):=⟨h.os,h.tape,h.output,by simpa[World.setCell] using h.size,fun k hk=>(Below.heap_setCell _ _ _ k (by show k≠n;omega)).trans (h.block k hk)⟩
theorem A9 {W:World} {n j g:Nat} {v:Value} {o:Obj} (h:W.heap[g]? = some o) (hn:g≠n):(W.setCell ⟨n,j,none⟩ v).heap[g]? = some o:=(Below.heap_setCell _ _ _ g hn).trans h
theorem NC (g:Nat) (w:World) (h:nJ w):Calls Tryz.prog 22 #[.iface 75 (.pointer (some ⟨g,0,none⟩)),.iface 77 (.pointer (some ⟨w.heap.size,0,none⟩))] (w.alloc (.cells #[.pointer none] 75)) fun e w' =>
  e=.returned (.bool true)∧w'.cell? ⟨w.heap.size,0,none⟩=some (.pointer (some ⟨g,0,none⟩))∧Below w.heap.size w w':=by
 have hB:=(Below.refl w.heap.size w).alloc (ah _) (.cells #[.pointer none] 75);have hE:=h.below hB;have hx:=Boxed.new w 75 (.pointer none);refine(Tc ⟨g,0,none⟩ ⟨w.heap.size,0,none⟩ (.pointer none) (w.alloc (.cells #[.pointer none] 75)) hE.et hx.cell hx.frozen).mono ?_;rintro e w' ⟨rfl,rfl⟩;exact⟨rfl,(((((hx.alloc _).alloc _).alloc _).alloc _).set _).cell,(((((hB.alloc (by simp) _).alloc (by simp;omega) _).alloc (by simp;omega) _).alloc (by simp;omega) _)).setCell (ah _) _⟩
def gC:Value:=.agg #[.slice none 0 0,.int .i64 0]
def IQ (s:ByteArray) (w:World) (e:Ending) (w':World):Prop :=
 Below w.heap.size w w'∧∃o,kt (cY s) s.data.toList o∧match o with
  | .error n=>∃v,e=.returned (.tuple #[gC,v])∧Nx w' v n 5
  | .ok ts=>ts.length≤s.size+1∧∃q,PL pT ts q∧match q with
   | .error l=>∃v,e=.returned (.tuple #[gC,v])∧Nx w' v l 6
   | .ok (a,_)=>(100<a.depth∧∃v,e=.returned (.tuple #[gC,v])∧Nx w' v 1 7) ∨
    (a.depth≤100∧∃(v:Value) (T:List Nd) (p:Nat),e=.returned (.tuple #[v,.nilIface])∧np w' v T (p:Int)∧dR [] T [a] [(p:Int)])
theorem Te (s:ByteArray) (w:World) (hs:s.size≤8000) (hE:nJ w) (hZ :∀(ts ay:List aj) (a:Ast),kt (cY s) s.data.toList (.ok ts)→ts.length≤s.size+1→PL pT ts (.ok (a,ay))→a.size≤16384):Calls Tryz.prog 9 #[.string s] w (IQ s w):=by
 have h7:=hE.big;have hM:=hE.mx;have hlx:=fun W (h1:4≤W.heap.size) (h2:Mx W)=>Rt s W (by omega) h1 h2
 have HL:=aa (hlx (w.alloc (.cells #[.slice none 0 0,.int .i64 0] 25)) (by simp;omega) (hM.below (aW w _)))
 have HS:=aa hs;have HE:=aa hE;have HZ:=aa hZ;clear hlx hE hM hs h7 hZ;go_enter Tryz.func9,Tryz.ntmps9
 go_wp2_with fail
 refine HL.out.mono ?_;rintro e w1 ⟨b1,o,ho,h1⟩;have B1:=aa (aB (aW w (.cells #[.slice none 0 0,.int .i64 0] 25)) b1);have rb :∀W,Below w1.heap.size w1 W→W.heap[w.heap.size]? = some (.cells #[.slice none 0 0,.int .i64 0] 25 (0,0)):=fun W hW=>((aB b1 hW).block w.heap.size (by simp)).trans (World.alloc_heap_new w _)
 have RB:=aa rb;have d0:w1.cell? ⟨w.heap.size,0,none⟩=some (.slice none 0 0):=by simp[World.cell?,rb w1 (Below.refl _ _)]
 have d1:w1.cell? ⟨w.heap.size,1,none⟩=some (.int .i64 0):=by simp[World.cell?,rb w1 (Below.refl _ _)]
 have y0:w1.frozen? ⟨w.heap.size,0,none⟩=false:=by simp[World.frozen?,rb w1 (Below.refl _ _)]
 have y1:w1.frozen? ⟨w.heap.size,1,none⟩=false:=by simp[World.frozen?,rb w1 (Below.refl _ _)]
 have HO:=aa ho;cases o with
 | error n =>
  obtain⟨v,rfl,g,rfl,hf⟩:=h1;have HF:=aa hf;clear b1 rb ho hf;have RW:g≠w.heap.size:=fun e=>by
   have h1:=RB.out w1 (Below.refl _ _);rw[←e,HF.out] at h1;simp at h1
  go_wp2_with fail
  refine bodyPost_ret (v:=.tuple #[gC,.iface 83 (.pointer (some ⟨g,0,none⟩))]) ?_ rfl ⟨?_,.error n,HO.out,_,rfl,g,rfl,?_⟩
  ·simp[results,Tryz.results9,go_sem,gC,d0,d1]
  ·exact gi (gi (B1.out) (ah _)) (ah _)
  ·exact A9 (A9 HF.out RW) RW
 | ok ts =>
  obtain⟨hlen,v,rfl,hT⟩:=h1;have yG:=lex_wf ho (by unfold cY;omega) ts rfl
  obtain⟨g,cp,rfl,hcp,ri,iY⟩:=hT.ex;obtain⟨t,r,ji⟩:=yG.fin.cons;have hT2:ui w1 (.slice (some ⟨g,0,none⟩) ts.length cp) ts:=hT;have Xh:=Ye hT2 yG.fin (by have:=HS.out;omega) ri
  have aa2:=Yd (N:=ts.length+1) (t:=t) (r:=r) (by rw[ji];exact dr _) (by rw[←ji];have:=HS.out;omega) (ji▸yG) (ji▸Gw.self pT ts)
  rw[ji] at Xh;have HN:=aa (ql (w1.alloc (.cells #[.slice (some ⟨g,0,none⟩) (t::r).length cp,.int .i64 0,.slice none 0 0] 71)) (w1.alloc (.cells #[.slice (some ⟨g,0,none⟩) (t::r).length cp,.int .i64 0,.slice none 0 0] 71)) (w1.heap.size+1) (by simp) Xh (az.refl _ _) (mC 18) rfl [aY 20 w1.heap.size,aY 21 w1.heap.size] [Mh (ts.length+1),LW] (by simp) ⟨(A0 (ts.length+1)).tV.part (enters_of Tryz.func20 (by kernel_rfl) rfl) _ _ _,LX _ _ _,trivial⟩ aa2)
  subst ji;have G9:=aa hlen;clear hT hT2 Xh aa2 yG iY ho rb b1 hlen;go_wp2_with fail
  refine HN.out.mono ?_;intro e w3 h3;have b3:Below w1.heap.size w1 w3:=Below.trans (aW w1 _) (h3.1.below (B:=w1.heap.size) (fun k hk=>by omega) (by simp))
  have B3:=aa (aB B1.out b3);have Yf:=aa b3;have hbl:w1.heap.size<w3.heap.size:=cy (by simp) h3.1.size
  have hwl:w.heap.size<w1.heap.size:=(aI.1 (RB.out w1 (Below.refl _ _))).1;have ZY:=RB.out w3 b3;have RB3:=aa ZY;have e0:w3.cell? ⟨w.heap.size,0,none⟩=some (.slice none 0 0):=by simp[World.cell?,ZY]
  have e1:w3.cell? ⟨w.heap.size,1,none⟩=some (.int .i64 0):=by simp[World.cell?,ZY]
  have z0:w3.frozen? ⟨w.heap.size,0,none⟩=false:=by simp[World.frozen?,ZY]
  have z1:w3.frozen? ⟨w.heap.size,1,none⟩=false:=by simp[World.frozen?,ZY]
  have ac1:w.heap.size<w3.heap.size:=by omega
  clear ZY b3 d0 d1 y0 y1;rcases h3.2 with ⟨p,a,iy,O2,T2,rfl,p2,x2,l2,k2⟩ | ⟨le,v,er,rfl,⟨g',rfl,m2,m3⟩,k2⟩
  ·obtain⟨A,c2,cT,DF⟩:=p2.nodes
   have hsz:T2.length=a.size:=by rw[l2.len,tp];simp
   have hle:T2.length≤16384:=by
    have:=HZ.out _ _ _ HO.out G9.out k2;omega
   have q1:decide ((16384:Int)<(T2.length:Int))=false:=bL (by omega)
   have Tf :∃js,gO T2 a p js∧js.Nodup∧js.length=T2.length:=by
    obtain⟨_,js,hr,xp⟩:=l2;unfold bj at hr;obtain⟨k,ir,j1,j2,ek,hr1,hr2,ej⟩:=hr;unfold bj at hr2;obtain⟨_,rfl⟩:=hr2;have ek2:k=p:=by injection ek with ek _;omega
    subst ek2;rw[jW] at ej;subst ej;exact⟨_,hr1,xp.nodup_iff.2 (List.nodup_range' ..),by rw[xp.length_eq,Kj];simp⟩
   have oW:eH T2 (p:Int)=a.depth:=by
    obtain⟨js,r1,r2,r3⟩:=Tf;exact zQ r1 r2 r3 hle
   have L2:=aa l2;have K2:=aa k2;have HNd:=aa DF;have HOw:=aa (fun k (hk:O2 k)=>(p2.own k hk).1)
   have HD:=aa (fun W (hW:Below w3.heap.size w3 W)=>Ay (.agg #[.slice A T2.length c2,.int .i64 (p:Int)]) T2 (p:Int) W ⟨_,rfl,DF W (fun _=>False) (az.ae hW) (fun _ _ h=>h)⟩)
   rw[oW] at HD;have HLE:=aa hle;clear h3 p2 x2 l2 k2 DF HN hsz hle Tf oW;go_wp2_with fail
   refine(XZ _ _).mono ?_;rintro e w4 ⟨rfl,rfl⟩;have b45:Below w3.heap.size w3 ((w3.alloc (.cells #[.pointer none] 75)).alloc (.cells #[.slice A T2.length c2,.int .i64 (p:Int)] 25)):=aB (aW w3 _) (aW _ _);have HD2:=aa (HD.out _ b45);have B45:=aa b45;clear b45 HD;go_wp2_with fail
   refine HD2.out.mono ?_;rintro e w6 ⟨rfl,b6⟩;have B6:=aa (aB B45.out b6);have rb6:=RB.out w6 (aB Yf.out B6.out);have f0:w6.cell? ⟨w.heap.size,0,none⟩=some (.slice none 0 0):=by simp[World.cell?,rb6]
   have f1:w6.cell? ⟨w.heap.size,1,none⟩=some (.int .i64 0):=by simp[World.cell?,rb6]
   have g0:w6.frozen? ⟨w.heap.size,0,none⟩=false:=by simp[World.frozen?,rb6]
   have g1:w6.frozen? ⟨w.heap.size,1,none⟩=false:=by simp[World.frozen?,rb6]
   have Qp:w3.heap.size+1<w6.heap.size:=by have:=b6.size;simp at this;omega
   have ac2:w.heap.size<w6.heap.size:=by omega
   have t0:w6.cell? ⟨w3.heap.size+1,0,none⟩=some (.slice A T2.length c2):=by
    refine(b6.cell (p:=⟨w3.heap.size+1,0,none⟩) (by simp)).trans ?_
    have:=dx (w3.alloc (.cells #[.pointer none] 75)) #[.slice A T2.length c2,.int .i64 (p:Int)] 25 0;rw[ao] at this;exact this
   have t1:w6.cell? ⟨w3.heap.size+1,1,none⟩=some (.int .i64 (p:Int)):=by
    refine(b6.cell (p:=⟨w3.heap.size+1,1,none⟩) (by simp)).trans ?_
    have:=dx (w3.alloc (.cells #[.pointer none] 75)) #[.slice A T2.length c2,.int .i64 (p:Int)] 25 1;rw[ao] at this;exact this
   clear rb6 b6 HD2 e0 e1 z0 z1 cT;have B6w:=aa (aB B3.out B6.out);by_cases uj:100<a.depth
   ·have q2:decide ((100:Int)<(a.depth:Int))=true:=bM (by omega)
    have Qr:=aa uj;clear uj;go_wp2_with fail
    refine(Fj 1 7 w6).mono ?_;rintro e w7 ⟨rfl,rfl⟩;go_wp2_with fail
    refine bodyPost_ret (v:=.tuple #[gC,.iface 83 (.pointer (some ⟨w6.heap.size,0,none⟩))]) ?_ rfl ⟨?_,.ok (t::r),HO.out,G9.out,.ok (a,iy),K2.out,.inl ⟨Qr.out,_,rfl,w6.heap.size,rfl,?_⟩⟩
    ·have vR:w.heap.size<((w6.setCell ⟨w.heap.size,0,none⟩ (.slice none 0 0)).setCell ⟨w.heap.size,1,none⟩ (.int .i64 0)).heap.size:=by simpa[World.setCell] using ac2
     have k0:(((w6.setCell ⟨w.heap.size,0,none⟩ (.slice none 0 0)).setCell ⟨w.heap.size,1,none⟩ (.int .i64 0)).alloc (.cells #[.int .i64 1,.iface 79 (.int .i64 7)] 85)).cell? ⟨w.heap.size,0,none⟩=some (.slice none 0 0):=by rw[World.cell?_alloc_lt _ _ _ vR];simp[go_sem,f0]
     have k1:(((w6.setCell ⟨w.heap.size,0,none⟩ (.slice none 0 0)).setCell ⟨w.heap.size,1,none⟩ (.int .i64 0)).alloc (.cells #[.int .i64 1,.iface 79 (.int .i64 7)] 85)).cell? ⟨w.heap.size,1,none⟩=some (.int .i64 0):=by rw[World.cell?_alloc_lt _ _ _ vR];simp[go_sem,f1]
     simp[results,Tryz.results9,go_sem,gC,k0,k1]
    ·exact aB (gi (gi B6w.out (ah _)) (ah _)) (aW _ _)
    ·have:=World.alloc_heap_new ((w6.setCell ⟨w.heap.size,0,none⟩ (.slice none 0 0)).setCell ⟨w.heap.size,1,none⟩ (.int .i64 0)) (.cells #[.int .i64 1,.iface 79 (.int .i64 7)] 85)
     simpa[World.setCell] using this
   ·have q2:decide ((100:Int)<(a.depth:Int))=false:=bL (by omega)
    have Qr:=aa uj;have Yg:=RB.out w6 (aB Yf.out B6.out);have fr6:=((az.ae (O:=(· = w.heap.size)) B6.out).trans (az.vQ Yg (show(25:Nat)≠9 by decide) 0 (.slice A T2.length c2)) (Ext.refl _ _)).trans (az.vQ (ie Yg (k:=0) (.slice A T2.length c2)) (show(25:Nat)≠9 by decide) 1 (.int .i64 (p:Int))) (Ext.refl _ _)
    have HN6:=aa (HNd.out _ _ fr6 (fun k hk e=>by have:=HOw.out k hk;omega))
    clear Yg fr6;clear uj;go_wp2_with fail
    refine bodyPost_ret (v:=.tuple #[.agg #[.slice A T2.length c2,.int .i64 (p:Int)],.nilIface]) ?_ rfl ⟨?_,.ok (t::r),HO.out,G9.out,.ok (a,iy),K2.out,.inr ⟨Nat.le_of_not_lt Qr.out,_,T2,p,rfl,⟨_,rfl,?_⟩,L2.out⟩⟩
    ·simp[results,Tryz.results9,go_sem,f0,f1]
    ·exact gi (gi B6w.out (ah _)) (ah _)
    ·exact HN6.out
  ·have aa3:g' < w3.heap.size:=(aI.1 m3).1
   have hA:=NC g' w3 (HE.out.below B3.out);have HA:=aa hA;have M3:=aa m3;have K2:=aa k2;have hgw:g'≠w.heap.size:=by simp at m2;omega
   clear h3 m2 m3 k2 HN hA e0 e1 z0 z1;go_wp2_with fail
   refine HA.out.mono ?_;rintro e w4 ⟨rfl,c4,b4⟩;have rb4:=RB.out w4 (aB Yf.out b4);have f0:w4.cell? ⟨w.heap.size,0,none⟩=some (.slice none 0 0):=by simp[World.cell?,rb4]
   have f1:w4.cell? ⟨w.heap.size,1,none⟩=some (.int .i64 0):=by simp[World.cell?,rb4]
   have g0:w4.frozen? ⟨w.heap.size,0,none⟩=false:=by simp[World.frozen?,rb4]
   have g1:w4.frozen? ⟨w.heap.size,1,none⟩=false:=by simp[World.frozen?,rb4]
   have Yh:w4.heap[g']? = _:=(b4.block g' aa3).trans M3.out;have j0:w4.cell? ⟨g',0,none⟩=some (.int .i64 6):=by simp[World.cell?,Yh]
   have j1:w4.cell? ⟨g',1,none⟩=some (.int .i64 le):=by simp[World.cell?,Yh]
   have ac3:w.heap.size<w4.heap.size:=cy ac1 b4.size;have hgl4:g' < w4.heap.size:=cy aa3 b4.size;have h3l4:w3.heap.size<w4.heap.size:=World.block_lt_of_cell? w4 _ c4;have B4:=aa (aB B3.out b4);clear rb4 Yh b4 HA;go_wp2_with fail
   go_region_with (first|(go_at_call 23;refine(Fj le 6 _).mono ?_;rintro e w5 ⟨rfl,rfl⟩))
   all_goals
    have vR:w.heap.size<((w4.setCell ⟨w.heap.size,0,none⟩ (.slice none 0 0)).setCell ⟨w.heap.size,1,none⟩ (.int .i64 0)).heap.size:=by simpa[World.setCell] using ac3
    have k0:(((w4.setCell ⟨w.heap.size,0,none⟩ (.slice none 0 0)).setCell ⟨w.heap.size,1,none⟩ (.int .i64 0)).alloc (.cells #[.int .i64 le,.iface 79 (.int .i64 6)] 85)).cell? ⟨w.heap.size,0,none⟩=some (.slice none 0 0):=by rw[World.cell?_alloc_lt _ _ _ vR];simp[go_sem,f0]
    have k1:(((w4.setCell ⟨w.heap.size,0,none⟩ (.slice none 0 0)).setCell ⟨w.heap.size,1,none⟩ (.int .i64 0)).alloc (.cells #[.int .i64 le,.iface 79 (.int .i64 6)] 85)).cell? ⟨w.heap.size,1,none⟩=some (.int .i64 0):=by rw[World.cell?_alloc_lt _ _ _ vR];simp[go_sem,f1]
    go_wp2
    refine bodyPost_ret (v:=.tuple #[gC,.iface 83 (.pointer (some ⟨w4.heap.size,0,none⟩))]) ?_ rfl ⟨?_,.ok (t::r),HO.out,G9.out,.error le,K2.out,_,rfl,w4.heap.size,rfl,?_⟩
    ·simp[results,Tryz.results9,go_sem,gC,k0,k1,Act.put]
    ·have hb:=aB (gi (j:=1) (v:=.int .i64 0) (gi (j:=0) (v:=.slice none 0 0) B4.out (ah _)) (ah _)) (aW _ (.cells #[.int .i64 le,.iface 79 (.int .i64 6)] 85))
     exact⟨hb.os,hb.tape,hb.output,hb.size,hb.block⟩
    ·have:=World.alloc_heap_new ((w4.setCell ⟨w.heap.size,0,none⟩ (.slice none 0 0)).setCell ⟨w.heap.size,1,none⟩ (.int .i64 0)) (.cells #[.int .i64 le,.iface 79 (.int .i64 6)] 85)
     simpa[World.setCell,World.drew] using this
end Go.Proofs.YteflkdlaoiijbaaGreatDoor
namespace Go.Proofs.YteflkdlaoiijbaaGreatDoor
open Go.RowKit Go.Extern.Stop Go.Stop Go.Extern
theorem Tg (g:Nat) (n m:Int) (w:World) (he :∀w:World,(binOp .eql 27 (.iface 79 (.int .i64 m)) (.iface 79 (.int .i64 m))).run Tryz.prog w=.ok (.bool true) w) (hg:w.heap[g]? = some (.cells #[.int .i64 n,.iface 79 (.int .i64 m)] 85 (0,0))) :
  Calls Tryz.prog 30 #[.iface 83 (.pointer (some ⟨g,0,none⟩)),.iface 79 (.int .i64 m)] w fun e w'=>e=.returned (.bool true)∧w=w':=by
 have h1:w.cell? ⟨g,1,none⟩=some (.iface 79 (.int .i64 m)):=by simp[World.cell?,hg]
 have h41:=@run_callFunc_extern Tryz.prog 65 _ Extern.ReflectliteType.typeOf Tryz.func65 (by kernel_rfl) (by kernel_rfl) (by kernel_rfl) (by kernel_rfl)
 have Yi:=@run_callFunc_extern Tryz.prog 267 _ (Extern.ReflectliteType.method fun t=>do Rtype.noPackHeld "Comparable" t;pure (.bool (←typeInfo t).comparable)) Tryz.func267 (by kernel_rfl) (by kernel_rfl) (by kernel_rfl) (by kernel_rfl)
 have tT:=Tryz.A8;have cT:=Tryz.qo;have mR:=Tryz.jJ;have nF:=Tryz.Vn;have uF:=Tryz.uO;have mU:=Tryz.qn;have e5:=he;have Hb:=run_eql_iface_types (P:=Tryz.prog) 83 79 (.pointer (some ⟨g,0,none⟩)) (.int .i64 m) Tryz.underlying27 (by decide) w
 clear hg;go_enter Tryz.func30,Tryz.ntmps30
 go_wp2
 refine wp_loop_rounds 2 ?_;rw[rounds_succ];go_wp2
 rw[rounds_succ];go_wp2
 go_ret
 exact⟨rfl,rfl⟩
theorem Th (g:Nat) (n m k:Int) (w:World) (he :∀w:World,(binOp .eql 27 (.iface 79 (.int .i64 m)) (.iface 79 (.int .i64 k))).run Tryz.prog w=.ok (.bool false) w) (hg:w.heap[g]? = some (.cells #[.int .i64 n,.iface 79 (.int .i64 m)] 85 (0,0))) :
  Calls Tryz.prog 30 #[.iface 83 (.pointer (some ⟨g,0,none⟩)),.iface 79 (.int .i64 k)] w fun e w'=>e=.returned (.bool false)∧w=w':=by
 have h1:w.cell? ⟨g,1,none⟩=some (.iface 79 (.int .i64 m)):=by simp[World.cell?,hg]
 have h41:=@run_callFunc_extern Tryz.prog 65 _ Extern.ReflectliteType.typeOf Tryz.func65 (by kernel_rfl) (by kernel_rfl) (by kernel_rfl) (by kernel_rfl)
 have Yi:=@run_callFunc_extern Tryz.prog 267 _ (Extern.ReflectliteType.method fun t=>do Rtype.noPackHeld "Comparable" t;pure (.bool (←typeInfo t).comparable)) Tryz.func267 (by kernel_rfl) (by kernel_rfl) (by kernel_rfl) (by kernel_rfl)
 have tT:=Tryz.A8;have cT:=Tryz.qo;have mR:=Tryz.jJ;have nF:=Tryz.Vn;have uF:=Tryz.uO;have mU:=Tryz.qn;have nE:=Tryz.aa1;have uE:=Tryz.IP;have vE:=Tryz.DE;have Hb:=run_eql_iface_types (P:=Tryz.prog) 83 79 (.pointer (some ⟨g,0,none⟩)) (.int .i64 k) Tryz.underlying27 (by decide) w
 clear hg;go_enter Tryz.func30,Tryz.ntmps30
 go_wp2
 refine wp_loop_rounds 2 ?_;rw[rounds_succ];go_wp2
 rw[rounds_succ];go_wp2
 go_ret
 exact⟨rfl,rfl⟩
theorem ND (w:World):Calls Tryz.prog 13 #[.nilIface] w fun e w'=>e=.returned (.tuple #[.int .i64 0,.int .i64 0])∧w=w':=by
 go_enter Tryz.func13,Tryz.ntmps13
 go_wp2_with fail
 go_ret2
 exact⟨rfl,rfl⟩
end Go.Proofs.YteflkdlaoiijbaaGreatDoor
namespace Go.Proofs.YteflkdlaoiijbaaGreatDoor
mutual
def Ast.wt:Ast→Nat
 | .mk h ks=>h.names.length+Ast.eY ks
def Ast.eY:List Ast→Nat
 | []=>0
 | a::l=>Ast.wt a+Ast.eY l
end
inductive Lt where
 | mk (i:Nat) (h:Nd) (kids:List Lt)
def Lt.loc:Lt→Nat
 | .mk i _ _=>i
def Lt.hd:Lt→Nd
 | .mk _ h _=>h
def Lt.sub:Lt→List Lt
 | .mk _ _ ks=>ks
mutual
/-- It lies so in a list of nodes. -/
def Lt.In (T:List Nd):Lt→Prop
 | .mk i h ks=>T[i]? = some h∧h.kids=ks.map (fun k=>(k.loc:Int))∧Lt.uP T ks
def Lt.uP (T:List Nd):List Lt→Prop
 | []=>True
 | k::ks=>Lt.In T k∧Lt.uP T ks
end
structure jn where
 name:ByteArray
 node:Nat
 cap:Bool
structure sG where
 loc:Bool
 idx:Nat
deriving DecidableEq
structure cI where
 node:Nat
 parent:Int
 params:Nat
 many:Bool
 vars:List jn
 bz:List sG
structure jr where
 s:ByteArray
 fn:Nat
 i:Nat
structure fw where
 fn:Nat
 node:Nat
 at_:Nat
 loop:Bool
 rep:Bool
 kids:List Lt
structure aG where
 fns:List cI
 uses:Nat→Int×Int
 of:Nat→Int
 names:List jr
 frames:List fw
abbrev Rs (α:Type):=Except (Int×Int) α
def aG.setOf (st:aG) (i fn:Nat):aG:={ st with of:=fun j=>if j=i then (fn:Int) else st.of j}
def aG.dj (st:aG) (i:Nat) (u:Int×Int):aG:={ st with uses:=fun j=>if j=i then u else st.uses j}
def aG.fn (st:aG) (f:Nat):cI:=st.fns.getD f ⟨0,0,0,false,[],[]⟩
def aG.oX (st:aG) (f:Nat) (x:cI):aG:={ st with fns:=st.fns.set f x}
def dJ (node f:Nat) (line:Int):List ByteArray→aG→Rs aG
 | [],st=>.ok st
 | s::l,st =>
  if 200≤(st.fn f).vars.length then .error (11,line)
  else dJ node f line l { st.oX f { st.fn f with vars:=(st.fn f).vars++[⟨s,node,false⟩]} with names:=⟨s,f,(st.fn f).vars.length⟩::st.names}
def bw (node f:Nat) (line:Int) (l:List ByteArray) (st:aG):Rs aG:=dJ node f line l (st.dj node (2,((st.fn f).vars.length:Int)))
def gD (F:List cI) (f:Nat) (u:sG):Option (List cI×Nat) :=
 let x:=F.getD f ⟨0,0,0,false,[],[]⟩
 match x.bz.findIdx? (fun y=>decide (y=u)) with
 | some i=>some (F,i)
 | none=>if 60≤x.bz.length then none else some (F.set f { x with bz:=x.bz++[u]},x.bz.length)
def lX (x:jr):Nat→List cI→Nat→Option (List cI×Nat)
 | 0,_,_=>none
 | g+1,F,f =>
  let p:=(F.getD f ⟨0,0,0,false,[],[]⟩).parent
  if p=(x.fn:Int) then gD F f ⟨true,x.i⟩
  else match lX x g F p.toNat with
   | none=>none
   | some (F',k)=>gD F' f ⟨false,k⟩
def cP (x:cI) (i:Nat):cI:={ x with vars:=match x.vars[i]? with|some v=>x.vars.set i { v with cap:=true}|none=>x.vars}
def lY (node f:Nat) (s:ByteArray) (line:Int) (st:aG):Rs aG :=
 match st.names.find? (fun n=>decide (n.s=s)) with
 | none=>.ok (st.dj node (1,0))
 | some n =>
  if n.fn=f then .ok (st.dj node (2,(n.i:Int)))
  else match lX n st.fns.length (st.fns.set n.fn (cP (st.fn n.fn) n.i)) f with
   | none=>.error (12,line)
   | some (F,k)=>.ok ({ st with fns:=F}.dj node (3,(k:Int)))
def mr (s:ByteArray) (k:Lt):Bool:=decide (k.hd.kind=32) && decide (k.hd.s=s)
def bZ (ks:List Lt) (s:ByteArray):Option Nat:=ks.findIdx? (mr s)
def cA (frames:List fw) (f:Nat) (all:List Lt):Nat→List Lt→Option Int
 | _,[]=>none
 | n,k::ks =>
  if k.hd.kind=32∧((∃j,bZ all k.hd.s=some j∧j<n)∨∃x∈frames,x.loop=false∧x.fn=f∧(bZ x.kids k.hd.s).isSome) then some k.hd.line
  else cA frames f all (n+1) ks
def gX (i f:Nat) (rep:Bool) (ks:List Lt) (st:aG):Rs aG :=
 match cA st.frames f ks 0 ks with
 | some l=>.error (9,l)
 | none=>.ok { st with frames:=⟨f,i,0,false,rep,ks⟩::st.frames}
def aG.at (st:aG) (n:Nat):aG:={ st with frames:=match st.frames with | []=>[]|x::l=>{ x with at_:=n}::l}
def dT (node f:Nat) (line:Int) (st:aG):Rs aG :=
 match st.frames.find? (fun x=>x.loop && decide (x.fn=f)) with
 | none=>.error (8,line)
 | some x=>.ok (st.dj node (4,(x.node:Int)))
def isDecl (k:Lt):Bool:=decide (k.hd.kind=19) || decide (k.hd.kind=28)
def lZ (ks:List Lt) (a j:Nat) (rep:Bool):Bool :=
 ((ks.take j).drop (a+1)).any isDecl && !(!rep && (ks.drop (j+1)).all fun k=>decide (k.hd.kind=32))
def db (node f:Nat) (s:ByteArray) (line:Int) (st:aG):List fw→Rs aG
 | []=>.error (8,line)
 | x::l =>
  if x.loop=true∨x.fn≠f then db node f s line st l
  else match bZ x.kids s with
   | none=>db node f s line st l
   | some j=>if lZ x.kids x.at_ j x.rep then .error (10,line) else .ok (st.dj node (4,((x.kids.getD j (.mk 0 ⟨0,0,0,0,⟨#[]⟩,[],[]⟩ [])).loc:Int)))
def di (i f:Nat) (st:aG):aG:={ st with frames:=⟨f,i,0,true,false,[]⟩::st.frames}
def aG.back (st mu:aG):aG:={ st with names:=mu.names,frames:=mu.frames}
def jK (i f:Nat) (h:Nd) (st:aG):aG:={ st with fns:=st.fns++[⟨i,(f:Int),h.names.length,decide (h.num=1),[],[]⟩]}
mutual
def bg:Lt→Nat→aG→Rs aG
 | .mk i h ks,f,mu =>
  let st:=mu.setOf i f
  if h.kind=6 then (if (st.fn f).many then .ok st else .error (14,h.line))
  else if h.kind=7 then lY i f h.s h.line st
  else if h.kind=11 then
   (bw i st.fns.length h.line h.names (jK i f h st)).bind fun st1=>(aH ks st.fns.length st1).map fun st2=>st2.back st
  else if h.kind=18 then (gX i f false ks st).bind fun st1=>(cM ks 0 f st1).map fun st2=>st2.back st
  else if h.kind=19 then (aH ks f st).bind fun st1=>bw i f h.line h.names st1
  else if h.kind=23 then (aH ks f (di i f st)).map fun st1=>st1.back st
  else if h.kind=24 then (kA ks f (di i f st)).map fun st1=>st1.back st
  else if h.kind=26∨h.kind=27 then iL i h.line h.names ks f st
  else if h.kind=28 then (bw i f h.line h.names st).bind fun st1=>aH ks f st1
  else if h.kind=30 then dT i f h.line st
  else if h.kind=31 then db i f h.s h.line st st.frames
  else aH ks f st
def aH:List Lt→Nat→aG→Rs aG
 | [],_,st=>.ok st
 | k::ks,f,st=>(bg k f st).bind fun st1=>aH ks f st1
/-- Statements of a block, from the one at n on. -/
def cM:List Lt→Nat→Nat→aG→Rs aG
 | [],_,_,st=>.ok st
 | k::ks,n,f,st=>(bg k f (st.at n)).bind fun st1=>cM ks (n+1) f st1
/-- A block with a test that stands in it. -/
def kA:List Lt→Nat→aG→Rs aG
 | [.mk i _ ks,t],f,st=>(gX i f true ks (st.setOf i f)).bind fun st1=>(cM ks 0 f st1).bind fun st2=>bg t f st2
 | _,_,st=>.ok st
/-- ac4, then names are declared, then a block. -/
def iL (i:Nat) (line:Int) (names:List ByteArray):List Lt→Nat→aG→Rs aG
 | [],_,st=>.ok st
 | [b],f,st=>(bw i f line names (di i f st)).bind fun st1=>(bg b f st1).map fun st2=>st2.back st
 | a::b::l,f,st=>(bg a f st).bind fun st1=>iL i line names (b::l) f st1
end
def iZ (root:Nat):aG:=⟨[⟨root,-1,0,true,[],[]⟩],fun _=>(0,0),fun _=>0,[],[]⟩
def kX (t:Lt):Rs aG:=bg t 0 (iZ t.loc)
structure qp (x x':cI):Prop where
 node:x'.node=x.node
 parent:x'.parent=x.parent
 params:x'.params=x.params
 many:x'.many=x.many
 vars :∀(j:Nat) v,x.vars[j]? = some v→∃v':jn,x'.vars[j]? = some v'∧v'.name=v.name∧v'.node=v.node∧(v.cap=true→v'.cap=true)
 bz :∀(j:Nat) u,x.bz[j]? = some u→x'.bz[j]? = some u
theorem qp.refl (x:cI):qp x x:=⟨rfl,rfl,rfl,rfl,fun _ v h=>⟨v,h,rfl,rfl,id⟩,fun _ _ h=>h⟩
theorem qp.trans {x y z:cI} (h:qp x y) (k:qp y z):qp x z :=
 ⟨k.node.trans h.node,k.parent.trans h.parent,k.params.trans h.params,k.many.trans h.many,fun j v hv=>by
  obtain⟨v1,h1,h2,h3,h4⟩:=h.vars j v hv;obtain⟨v2,k1,k2,k3,k4⟩:=k.vars j v1 h1;exact⟨v2,k1,k2.trans h2,k3.trans h3,fun c=>k4 (h4 c)⟩,fun j u hu=>k.bz j u (h.bz j u hu)⟩
theorem qp.len {x y:cI} (h:qp x y):x.vars.length≤y.vars.length:=by
 rcases rY x.vars.length with h0|h0
 ·omega
 ·obtain⟨v',h1,_⟩:=h.vars (x.vars.length-1) _ (bE (by omega))
  have:=(aL.1 h1).1;omega
def uQ (F F':List cI):Prop:=F.length≤F'.length∧∀(f:Nat) x,F[f]? = some x→∃x',F'[f]? = some x'∧qp x x'
theorem uQ.refl (F:List cI):uQ F F:=⟨ah _,fun _ x h=>⟨x,h,.refl x⟩⟩
theorem uQ.trans {A B C:List cI} (h:uQ A B) (k:uQ B C):uQ A C :=
 ⟨aK h.1 k.1,fun f x hx=>by
  obtain⟨y,hy,e⟩:=h.2 f x hx;obtain⟨z,hz,e'⟩:=k.2 f y hy;exact⟨z,hz,e.trans e'⟩⟩
theorem uQ.set {F:List cI} {f:Nat} {x x':cI} (h:F[f]? = some x) (e:qp x x'):uQ F (F.set f x') :=
 ⟨by simp,fun g y hy=>by
  by_cases hg:g=f
  ·subst hg
   rw[h] at hy;injection hy with hy;subst hy;exact⟨x',by rw[dQ (aL.1 h).1],e⟩
  ·exact⟨y,by rw[fC (fun e=>hg e.symm)];exact hy,.refl y⟩⟩
theorem uQ.app (F:List cI) (x:cI):uQ F (F++[x]) :=
 ⟨by simp,fun f y hy=>⟨y,by rw[kF (aL.1 hy).1];exact hy,.refl y⟩⟩
structure Ffn (F:List cI) (i:Nat) (x:cI):Prop where
 par:(i=0∧x.parent = -1)∨∃p:Nat,x.parent=(p:Int)∧p<i
 par0:x.params≤x.vars.length
structure Cr (F:List cI):Prop where
 pos:0<F.length
 each :∀(i:Nat) x,F[i]? = some x→Ffn F i x
inductive NG (F:List cI):Nat→Nat→Prop
 | same {f:Nat}:NG F f f
 | up {a f p:Nat} {x:cI}:F[f]? = some x→x.parent=(p:Int)→NG F a p→NG F a f
theorem NG.ext {F F':List cI} (h:uQ F F') {a f:Nat} (k:NG F a f):NG F' a f:=by
 induction k with
 | same=>exact .same
 | up h1 h2 _ ih =>
  obtain⟨x',h3,e⟩:=h.2 _ _ h1;exact .up h3 (e.parent.trans h2) ih
inductive sH (F:List cI) (s:ByteArray):Nat→Nat→Prop
 | here {f k j p:Nat} {x y:cI} {v:jn}:F[f]? = some x→x.bz[k]? = some ⟨true,j⟩→x.parent=(p:Int)→F[p]? = some y→y.vars[j]? = some v→v.name=s→v.cap=true→sH F s f k
 | up {f k j p:Nat} {x:cI}:F[f]? = some x→x.bz[k]? = some ⟨false,j⟩→x.parent=(p:Int)→sH F s p j→sH F s f k
theorem sH.ext {F F':List cI} (h:uQ F F') {s:ByteArray} {f k:Nat} (l:sH F s f k):sH F' s f k:=by
 induction l with
 | here h1 h2 h3 h4 h5 h6 h7 =>
  obtain⟨x',e1,l1⟩:=h.2 _ _ h1;obtain⟨y',e2,l2⟩:=h.2 _ _ h4;obtain⟨v',e3,e4,_,e5⟩:=l2.vars _ _ h5;exact .here e1 (l1.bz _ _ h2) (l1.parent.trans h3) e2 e3 (e4.trans h6) (e5 h7)
 | up h1 h2 h3 _ ih =>
  obtain⟨x',e1,l1⟩:=h.2 _ _ h1;exact .up e1 (l1.bz _ _ h2) (l1.parent.trans h3) ih
theorem gE {F:List cI} {f:Nat} {x d:cI} (h:F[f]? = some x):F.getD f d=x:=by rw[jU,h];rfl
theorem Cr.set {F:List cI} (h:Cr F) {f:Nat} {x x':cI} (hx:F[f]? = some x) (e:qp x x'):Cr (F.set f x') :=
 ⟨by rw[mn];exact h.pos,fun i y hy=>by
  by_cases hi:i=f
  ·subst hi
   rw[dQ (aL.1 hx).1] at hy;injection hy with hy;subst hy;obtain⟨p,q⟩:=h.each _ _ hx;exact⟨by rw[e.parent];exact p,by rw[e.params];exact aK q e.len⟩
  ·rw[fC (fun e=>hi e.symm)] at hy
   obtain⟨p,q⟩:=h.each _ _ hy;exact⟨p,q⟩⟩
theorem Ba {F F':List cI} {f k:Nat} {u:sG} (h:gD F f u=some (F',k)) {x:cI} (hx:F[f]? = some x) (hF:Cr F) :
  uQ F F'∧Cr F'∧F'.length=F.length∧∃x',F'[f]? = some x'∧x'.bz[k]? = some u∧x'.parent=x.parent:=by
 unfold gD at h;simp only[gE hx] at h;split at h
 ·rename_i i hi
  injection h with h;injection h with h1 h2;subst h1 h2;obtain⟨hlt,he,_⟩:=zz.1 hi;refine⟨.refl F,hF,rfl,x,hx,?_,rfl⟩;rw[bE hlt];exact ax some (iG he)
 ·split at h
  ·cases h
  ·injection h with h
   injection h with h1 h2;subst h1 h2;have e:qp x { x with bz:=x.bz++[u]}:=⟨rfl,rfl,rfl,rfl,fun _ v hv=>⟨v,hv,rfl,rfl,id⟩,fun _ w hw=>by
    rw[kF (aL.1 hw).1];exact hw⟩
   exact⟨.set hx e,hF.set hx e,by simp,{ x with bz:=x.bz++[u]},by rw[dQ (aL.1 hx).1],by simp,rfl⟩
theorem Cr.par {F:List cI} (hF:Cr F) {f:Nat} {x:cI} (hx:F[f]? = some x) (h0:f≠0) :∃p:Nat,x.parent=(p:Int)∧p<f∧∃y,F[p]? = some y:=by
 rcases(hF.each _ _ hx).par with ⟨h,_⟩ | ⟨p,h1,h2⟩
 ·exact absurd h h0
 ·have:=(aL.1 hx).1
  exact⟨p,h1,h2,F[p],bE (by omega)⟩
theorem Fk {n:jr} :∀(g:Nat) {F F':List cI} {f k:Nat},lX n g F f=some (F',k)→Cr F→NG F n.fn f→n.fn≠f→f<F.length→(∃y v,F[n.fn]? = some y∧y.vars[n.i]? = some v∧v.name=n.s∧v.cap=true) →
  uQ F F'∧Cr F'∧F'.length=F.length∧sH F' n.s f k:=by
 intro g;induction g with
 | zero=>intro F F' f k h;cases h
 | succ g ih =>
  intro F F' f k h hF ha hne hf hv;obtain⟨x,hx⟩ :∃x,F[f]? = some x:=⟨_,bE hf⟩;rw[lX] at h;simp only[gE hx] at h;cases ha with
  | same=>exact absurd rfl hne
  | @up _ p x' sQ hp ha =>
   rw[hx] at sQ;injection sQ with sQ;subst sQ;have h0:f≠0:=fun e=>by
    rcases(hF.each _ _ hx).par with ⟨_,h1⟩ | ⟨q,_,h2⟩
    ·omega
    ·omega
   obtain⟨q,hq,hlt,y,hy⟩:=hF.par hx h0;have hqp:q=p:=by omega
   subst hqp;rw[hq] at h;by_cases he:q=n.fn
   ·subst he
    rw[ak rfl] at h;obtain⟨e1,e2,e3,x',sQ,hu,Yj⟩:=Ba h hx hF;obtain⟨y',v,hy',hv1,hv2,hv3⟩:=hv;obtain⟨y2,hy2,l2⟩:=e1.2 _ _ hy';obtain⟨v2,hv4,hv5,_,hv6⟩:=l2.vars _ _ hv1;exact⟨e1,e2,e3,.here sQ hu (Yj.trans hq) hy2 hv4 (hv5.trans hv2) (hv6 hv3)⟩
   ·rw[af (by omega)] at h
    simp only[iF] at h;split at h
    ·cases h
    ·rename_i F1 k1 h1
     obtain⟨e1,e2,e3,l⟩:=ih h1 hF ha (fun e=>he e.symm) (by omega) hv
     obtain⟨x1,hx1,l1⟩:=e1.2 _ _ hx;obtain⟨g1,g2,g3,x2,hx2,hu,Yj⟩:=Ba h hx1 e2;exact⟨e1.trans g1,g2,g3.trans e3,.up hx2 hu (Yj.trans (l1.parent.trans hq)) (l.ext g1)⟩
end Go.Proofs.YteflkdlaoiijbaaGreatDoor
