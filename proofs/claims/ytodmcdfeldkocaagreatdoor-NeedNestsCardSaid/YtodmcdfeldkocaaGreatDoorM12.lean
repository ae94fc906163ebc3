/- Parts of the proof. -/
import Derived.Test.YtodmcdfeldkocaaGreatDoorM11
set_option maxHeartbeats 16000000
set_option maxRecDepth 20000
namespace Go.Proofs.YtodmcdfeldkocaaGreatDoor
open Go.RowKit
abbrev Eg:GL Ast:=aT .FQ
def tq:bW:=dx (dR (mN 5) [cV])
section
variable {α:Type} {K:α→List ak→Prop} {E:Int→Prop} {K':St→Prop} {N k n:Nat} {h:Nd} {xs:List Ast} {ts:List ak}
theorem Eh {kk:ak→GL α} (hI:Rm N k ⟨h,xs,ts,n⟩) (H:Gw (name kk) ts K E)
  (hk :∀(t:ak) (r:List ak),Rm N (k+1) ⟨h,xs++[mS 5 t.2.1 (bx t.2.2.2) []],r,n+Ast.al [mS 5 t.2.1 (bx t.2.2.2) []]⟩→r.length<ts.length→Gw (kk t) r K E→K' ⟨h,xs++[mS 5 t.2.1 (bx t.2.2.2) []],r,n+Ast.al [mS 5 t.2.1 (bx t.2.2.2) []]⟩):tq ⟨h,xs,ts,n⟩ K' E:=by
 obtain⟨t,r,jo⟩:=hI.cons;dsimp only at jo
 subst jo;have hn:=hI.n;have hx:=hI.xs;dsimp only[List.length_cons] at hn hx
 refine jS (by dsimp only;omega) ⟨t,r,t.2.1,rfl,.inl ⟨rfl,rfl⟩,⟨t,r,rfl,fun ht=>⟨by dsimp only;omega,nR.mk (hk t r ?_ (by simp) (H.name.1 ht))⟩,H.name.2⟩⟩
 have hz:Ast.al [mS 5 t.2.1 (bx t.2.2.2) []]=1:=by rw[vr,lA,cA]
 have hl:=hI.len;dsimp only[List.length_cons] at hl
 exact⟨by dsimp only;omega,by rw[hz];dsimp only;omega,by simp;omega,hI.wf.tail (by rw[ht];decide)⟩
theorem GJ {kk:Ast→GL α} {at_:Int} {self:List ByteArray} (hI:Rm N k ⟨h,xs,ts,n⟩) (hat:at_≠0) (hs:self.length≤100000) (H:Gw (.call (.KL at_ self) kk) ts K E)
  (hk :∀(b:Ast) (aA:List ak),Rm N k ⟨h,xs++[b],aA,n+Ast.al [b]⟩→aA.length<ts.length→Gw (kk b) aA K E→K' ⟨h,xs++[b],aA,n+Ast.al [b]⟩):dx (dR ⟨11,at_,0,0,⟨#[]⟩,self,[]⟩ [xQ N]) ⟨h,xs,ts,n⟩ K' E:=by
 obtain⟨t,r,jo⟩:=hI.cons;dsimp only at jo
 subst jo;have hn:=hI.n;have hx:=hI.xs;dsimp only at hn hx
 refine jS (by dsimp only;omega) ⟨t,r,at_,rfl,.inr ⟨hat,rfl⟩,?_⟩
 refine Pw (k:=k) ⟨hI.len,hn,by dsimp only[List.length_nil];omega,hI.wf⟩ hs ((Gw.call H).mono fun(b:Ast) aA p hq=>nR.mk (hk b aA (hI.kids (by rw[vr];have hz:b.size+2*aA.length≤2*(t::r).length:=hq.1;omega) (PL.short p) (p.wf hI.wf)) ?_ hq.2))
 have hz:b.size+2*aA.length≤2*(t::r).length:=hq.1;have:=size_pos b;omega
end
def xR:Nat→Ast→List ak→Nat→(Ast→List ByteArray→List ak→Prop)→(Int→Prop)→Prop
 | 0,_,_,_,_,_=>False
 | k+1,a,ts,n,K,E=>∃t r,ts=t::r∧(av [46] t=true→aJ [aB,tq] ⟨dy 8 t.2.1,[a],ts,n+a.size⟩ (bT fun a' aA=>xR k a' aA n K E) E) ∧
  (av [46] t=false→(av [58] t=true→aJ [aB,tq] ⟨dy 8 t.2.1,[a],ts,n+a.size⟩ (bT fun a' aA=>K a' [bx xi] aA) E)∧(av [58] t=false→K a [] ts))
def JG (N:Nat):bW:=fun s K E=>s.xs=[]∧∃t ts,s.ts=t::ts∧t.1≠0∧dR (mN 7) [cV] ts s.n (fun a fK=>∃m,xR m a fK s.n (fun a2 self ir =>
 aJ [eo,dx (dR ⟨11,t.2.1,0,0,⟨#[]⟩,self,[]⟩ [xQ N])] ⟨s.h,[a2],ir,s.n+Ast.al [a2]⟩ K E) E) E
def JH (N:Nat):bW:=fun s K E=>∃t ts,s.ts=t::ts∧(av bq t=false→aJ [iD,bw [61] [nQ N]] { s with h:={ s.h with kind:=19}} K E) ∧
 (av bq t=true→∃u us,ts=u::us∧(u.1≠1→E u.2.1)∧(u.1=1→dx (dR ⟨11,t.2.1,0,0,⟨#[]⟩,[],[]⟩ [xQ N]) { s with h:={ s.h with kind:=28,names:=[bx u.2.2.2]},ts:=us} K E))
def isVar (a:Ast):Prop:=a.hd.kind=7∨a.hd.kind=8
def Xd (N:Nat):iQ:=fun ts n K E=>sR N Eg ts n (fun a fK=>(isVar a→K a fK)∧(¬ isVar a→∃t r,fK=t::r∧E t.2.1)) E
def Xe (N:Nat):bW:=mj (Xd N) cX
def aac (M N:Nat):bW:=fun s K E=>s.xs=[]∧sR M Eg s.ts s.n (fun a fK=>(a.hd.kind=9∨a.hd.kind=10→K ⟨{ s.h with kind:=21},[a],fK,s.n+Ast.al [a]⟩) ∧
 (isVar a→aJ [bw [44] [Xe N],eo,au [[61]],nQ N] ⟨{ s.h with kind:=20},[a],fK,s.n+Ast.al [a]⟩ K E)∧(¬ (a.hd.kind=9∨a.hd.kind=10)→¬ isVar a→∃t r,fK=t::r∧E t.2.1)) E
section
variable {K:Ast→List ak→Prop} {E:Int→Prop} {K':St→Prop} {N k n:Nat} {h:Nd} {xs:List Ast} {t:ak} {ts:List ak}
theorem aad (at_:Int) (n:Nat) (C:Ast→List ByteArray→List ak→Prop) (hC :∀a self ts k,Rm N k ⟨dy 20 at_,[a],ts,n+Ast.al [a]⟩→self.length≤1→Gw (.call (.KL at_ self) fun(f:Ast)=>.ret (AX 20 at_ 1 [a,f])) ts K E→C a self ts) :∀(m:Nat) (ts:List ak) (a:Ast) (k:Nat),ts.length<m→Rm N k ⟨dy 20 at_,[a],ts,n+Ast.al [a]⟩→Gw (aT (.fnx at_ a):GL Ast) ts K E→xR m a ts n C E:=by
 intro m;induction m with
 | zero=>intro ts a k h;omega
 | succ m ih =>
  intro ts a k h1 hI H;obtain⟨t,r,rfl⟩:=hI.wf.fin.cons;have G:=Gw.look H;have step :∀(j:Nat) (x y:Ast) (aA:List ak),Rm N (j+1) ⟨dy 8 t.2.1,[a]++[x],aA,n+a.size+Ast.al [x]⟩→y.size=Ast.al ([a]++[x])+1→Rm N j ⟨dy 20 at_,[y],aA,n+Ast.al [y]⟩:=fun j x y aA hI hy=>by
   have h1:=hI.n;have h2:=hI.xs;rw[fm,vr,vr] at hy;rw[vr] at h1;exact⟨hI.len,by rw[vr];dsimp only at *;omega,by simp at h2 ⊢;omega,hI.wf⟩
  have hI8:Rm N k ⟨dy 8 t.2.1,[a],t::r,n+a.size⟩:=⟨hI.len,by have:=hI.n;rw[vr] at this;exact this,hI.xs,hI.wf⟩
  have sk :∀{K3:St→Prop},t.1≠0→(Rm N (k+2) ⟨dy 8 t.2.1,[a],r,n+a.size⟩→K3 ⟨dy 8 t.2.1,[a],r,n+a.size⟩)→aB ⟨dy 8 t.2.1,[a],t::r,n+a.size⟩ K3 E:=fun ht hk=>⟨t,r,rfl,ht,hk (hI8.tok ht)⟩
  refine⟨t,r,rfl,fun hw=>?_,fun hw=>⟨fun hw2=>?_,fun hw2=>?_⟩⟩
  ·refine sk (aV hw) fun hI=>Eh hI (G.pos hw).tok fun u r2 hI hl G=>cy hI ?_
   have G2:=(Gw.call G).mono (K':=K) fun l aA _ hl=>hl.2.ret
   exact ih r2 _ (k+2) (by simp at h1;omega) (step _ _ _ _ hI (by rw[Ast.size])) G2
  ·refine sk (aV hw2) fun hI=>Eh hI ((G.neg (by simp[hw])).pos hw2).tok fun u r2 hI hl G=>cy hI ?_
   exact hC _ _ _ (k+2) (step _ _ _ _ hI (by rw[Ast.size])) (by simp) G
  ·exact hC _ _ _ k hI (by simp) ((G.neg (by simp[hw])).neg (by simp[hw2]))
theorem Ei (hI:Rm (N+1) k ⟨dy 20 t.2.1,[],t::ts,n⟩) (H:Gw qR (t::ts) K E) (hw:av bq t=true):aJ [JG N] ⟨dy 20 t.2.1,[],t::ts,n⟩ (bT K) E:=by
 have G:=Gw.call ((((((((((Gw.look H).neg (aU hw (by decide))).neg (aU hw (by decide))).neg (aU hw (by decide))).neg (aU hw (by decide))).neg (aU hw (by decide))).neg (aU hw (by decide))).neg (aU hw (by decide))).neg (aU hw (by decide))).pos hw).tok
 have G1:Gw (aT (.fnm t.2.1):GL Ast) ts K E:=G.mono fun l aA _ hl=>hl.2.ret
 have hat:t.2.1≠0:=(hI.wf.zF t (bP ..)).1;have oF:=hI.Z9 (h':=dy 20 t.2.1) (aV hw);obtain⟨u,us,rfl⟩:=oF.wf.fin.cons;refine⟨rfl,t,u::us,rfl,aV hw,u,us,u.2.1,rfl,.inl ⟨rfl,rfl⟩,⟨u,us,rfl,fun hu=>?_,G1.name.2⟩⟩
 have hI:=oF.tok (h':=dy 20 t.2.1) (show u.1≠0 by rw[hu];decide)
 refine⟨by have:=hI.n;dsimp only at *;omega,us.length+1,?_⟩
 have G2:=(Gw.call (G1.name.1 hu)).mono (K':=K) fun l aA _ hl=>hl.2.ret
 refine aad (N:=N) t.2.1 n _ (fun a self C5 k hI hs G=>?_) (us.length+1) us _ (k+3) (dz _) ?_ G2
 ·have UN:Rm N k ⟨⟨20,t.2.1,0,1,⟨#[]⟩,[],[]⟩,[a],C5,n+Ast.al [a]⟩:=⟨hI.len,hI.n,hI.xs,hI.wf⟩
  exact GJ UN hat (by omega) G fun b r4 hI _ G=>cy hI G.ret
 ·have h1:=hI.n
  have h2:=hI.xs;refine⟨hI.len,?_,by simp at h2 ⊢;omega,hI.wf⟩
  rw[vr];show n+Ast.size (mS 7 u.2.1 (bx u.2.2.2) [])+_+_≤_
  rw[lA,cA];dsimp only at *
  omega
theorem UO (hI:Rm (N+1) k ⟨dy 0 t.2.1,[],t::ts,n⟩) (H:Gw qR (t::ts) K E) (hw:av iT t=true):aJ [aB,JH N] ⟨dy 0 t.2.1,[],t::ts,n⟩ (bT K) E:=by
 refine cW hI (aV hw) fun hI=>?_
 have G:=Gw.call (((((((((((Gw.look H).neg (aU hw (by decide))).neg (aU hw (by decide))).neg (aU hw (by decide))).neg (aU hw (by decide))).neg (aU hw (by decide))).neg (aU hw (by decide))).neg (aU hw (by decide))).neg (aU hw (by decide))).neg (aU hw (by decide))).pos hw).tok
 have G1:Gw (aT (.loc t.2.1):GL Ast) ts K E:=G.mono fun l aA _ hl=>hl.2.ret
 obtain⟨u,us,rfl⟩:=hI.wf.fin.cons;have G:=Gw.look G1;refine⟨u,us,rfl,fun hw=>?_,fun hw=>?_⟩
 ·have oF:Rm N (k+2) ⟨dy 19 t.2.1,[],u::us,n⟩:=⟨hI.len,hI.n,hI.xs,hI.wf⟩
  refine Pv oF (G.neg (by simp[hw])) fun ns r hI G=>?_
  obtain⟨v,vs,rfl⟩:=hI.wf.fin.cons;have G:=G.look;exact⟨v,vs,rfl,fun hw=>tQ (hI.tok (aV hw)) (G.pos hw).tok fun l r2 hI _ G=>cy hI G.ret,fun hw=>cy hI (G.neg (by simp[hw])).ret⟩
 ·have hat:u.2.1≠0:=(hI.wf.zF u (bP ..)).1
  have oF:=hI.tok (h':=dy 28 t.2.1) (aV hw);obtain⟨v,vs,rfl⟩:=oF.wf.fin.cons;have G:=(G.pos hw).tok;refine⟨v,vs,rfl,G.name.2,fun hv=>?_⟩
  have UN:Rm N (k+6) ⟨⟨28,t.2.1,0,0,⟨#[]⟩,[bx v.2.2.2],[]⟩,[],vs,n⟩:=oF.tok (by rw[hv];decide)
  exact GJ UN hat (by simp) (G.name.1 hv) fun b r hI _ G=>cy hI G.ret
theorem Pz (l:List Ast) (x d:Ast):(l++[x]).getLastD d=x:=by simp
theorem UP (at_:Int) (l0:List Ast) (K2:Ast→List ak→Prop) (B:Nat) (C:List Ast→List ak→Prop) (hC :∀xs aA,Ast.al xs+2*aA.length≤B→Wf aA→aA.length<N→Gw (want [61] fun _=>.call .AZ fun(m:List Ast)=>.ret (AX 20 at_ ((l0++xs).length:Int) (l0++xs++m))) aA K2 E→C xs aA) :
  ∀(m:Nat) (ts:List ak) (n:Nat) (acc:List Ast),ts.length<m→ts.length<N→n+2*ts.length≤60000→Ast.al acc+2*ts.length≤B→Wf ts→Gw (.call .FQ fun(x:Ast)=>.call (.tgs at_ (l0++acc++[x])) fun(y:Ast)=>.ret y) ts K2 E→sQ (Xd N) cX m ts n acc C E:=by
 intro m;induction m with
 | zero=>intro ts n acc h;omega
 | succ m ih =>
  intro ts n acc h1 h2 h3 hB hf H;refine⟨h2,h3,hf.zF,(Gw.call H).mono fun(e:Ast) aA p hq=>?_⟩
  have hz:e.size+2*aA.length+1≤2*ts.length:=hq.1;have hf':=p.wf hf;obtain⟨t,r,rfl⟩:=hf'.fin.cons;have hg:=(Gw.call hq.2).look;rw[Pz] at hg;have hsz:Ast.al (acc++[e])+2*(t::r).length≤B:=by rw[fm,vr];omega
  refine⟨fun hv=>?_,fun hv=>⟨t,r,rfl,(hg.neg hv).bad⟩⟩
  have hg:=hg.pos hv;cases hc:av [44] t with
  | true =>
   have e1:cX (t::r)=(true,r):=by simp[cX,hc]
   show(_→_)∧(_→_)
   rw[e1];refine⟨fun _=>ih r (n+e.size) (acc++[e]) (by simp at hz;omega) (by simp at hz;omega) (by simp at hz;omega) (by simp at hsz ⊢;omega) (hf'.tail (aV hc)) ?_,fun hb=>(gd hb.symm).elim⟩
   rw[←cP];exact(hg.pos hc).tok.mono fun y C5 _ hy=>hy.2.ret
  | false =>
   have e1:cX (t::r)=(false,t::r):=by simp[cX,hc]
   show(_→_)∧(_→_)
   rw[e1];refine⟨fun hb=>(gd hb).elim,fun _=>hC (acc++[e]) (t::r) hsz hf' (by omega) ?_⟩
   have G:=hg.neg (by simp[hc])
   rw[←cP];exact G.mono fun y C5 _ hy=>hy.2.ret
structure PB (t:ak):Prop where
 a:av [58,58] t=false
 b:av pq t=false
 c:av uS t=false
 d:av Dw t=false
 e:av pt t=false
 f:av lZ t=false
 g:av Yx t=false
 h:av Dx t=false
 i:av bq t=false
 j:av iT t=false
theorem UQ (hI:Rm (N+1) k ⟨dy 0 t.2.1,[],t::ts,n⟩) (H:Gw qR (t::ts) K E) (hw:PB t):aJ [aac (N+1) N] ⟨dy 0 t.2.1,[],t::ts,n⟩ (bT K) E:=by
 have G:=((((((((((Gw.look H).neg (by simp[hw.a])).neg (by simp[hw.b])).neg (by simp[hw.c])).neg (by simp[hw.d])).neg (by simp[hw.e])).neg (by simp[hw.f])).neg (by simp[hw.g])).neg (by simp[hw.h])).neg (by simp[hw.i])).neg (by simp[hw.j])
 have hn:=hI.n;have hx:=hI.xs;have hl:=hI.len;dsimp only at hn hx hl
 refine⟨rfl,hI.len,by dsimp only;omega,hI.wf.zF,(Gw.call G).mono fun(x:Ast) aA p hq=>?_⟩
 have hz:x.size+2*aA.length+1≤2*(t::ts).length:=hq.1;have zj:=p.wf hI.wf;have hlt:aA.length<N:=by have:=size_pos x;simp only[List.length_cons] at *;omega
 have oF :∀h',Rm N 0 ⟨h',[x],aA,n+Ast.al [x]⟩:=fun h'=>⟨hlt,by rw[vr];dsimp only;omega,by have:=size_pos x;simp only[List.length_cons,List.length_nil] at *;omega,zj⟩
 refine⟨fun hk=>cy (oF _) (hq.2.pos hk).ret,fun hv=>?_,fun h1 h2=>?_⟩
 ·have h9:¬ (x.hd.kind=9∨x.hd.kind=10):=by unfold isVar at hv;omega
  have G:=(Gw.call (hq.2.neg h9)).mono (K':=K) fun y C5 _ hy=>hy.2.ret
  obtain⟨u,us,rfl⟩:=zj.fin.cons;have G:=(Gw.look G).pos hv;have hend :∀(ys:List Ast) (C5:List ak),Rm N 0 ⟨dy 20 t.2.1,[x]++ys,C5,n+Ast.al ([x]++ys)⟩→Gw (want [61] fun _=>.call .AZ fun(m:List Ast)=>.ret (AX 20 t.2.1 (([x]++ys).length:Int) ([x]++ys++m))) C5 K E→aJ [eo,au [[61]],nQ N] ⟨dy 20 t.2.1,[x]++ys,C5,n+Ast.al ([x]++ys)⟩ (bT K) E:=fun ys C5 hI G=>by
   have UN:Rm N 0 ⟨⟨20,t.2.1,0,(([x]++ys).length:Int),⟨#[]⟩,[],[]⟩,[x]++ys,C5,n+Ast.al ([x]++ys)⟩:=⟨hI.len,hI.n,hI.xs,hI.wf⟩;exact bX UN G fun _ r2 hI _ G=>tQ hI G fun m r3 hI _ G=>cy hI G.ret
  refine⟨u,us,rfl,fun hc=>?_,fun hc=>?_⟩
  ·have JI:=(oF (dy 20 t.2.1)).tok (h':=dy 20 t.2.1) (aV hc)
   have htn:=JI.n;have htx:=JI.xs;dsimp only at htn htx
   refine⟨by dsimp only;omega,us.length+1,by omega,?_⟩
   refine UP t.2.1 [x] K (2*us.length) _ (fun ys C5 hs hw3 KJ G=>?_) (us.length+1) us _ [] (dz _) JI.len (by dsimp only;omega) (by rw[cA];omega) JI.wf ((G.pos hc).tok)
   have:=hend ys C5 ⟨KJ,?_,?_,hw3⟩ G
   ·rw[fm,←oK] at this
    exact this
   ·rw[fm];dsimp only;omega
   ·have:=vt ys
    simp only[bY] at *;omega
  ·have:=hend [] (u::us) (by rw[gh];exact oF _) (by rw[gh];exact G.neg (by simp[hc]))
   rw[gh] at this;exact this
 ·have h9:=hq.2.neg h1
  obtain⟨u,us,rfl⟩:=zj.fin.cons;have G:=(Gw.call h9).look;exact⟨u,us,rfl,(G.neg h2).bad⟩
end
end Go.Proofs.YtodmcdfeldkocaaGreatDoor
namespace Go.Proofs.YtodmcdfeldkocaaGreatDoor
open Go.RowKit
def pI (f:FuncId) (wp:iQ):Prop:=∀(b:Nat) (O:Nat→Prop) (ts:List ak) (T:List Nd) (K:Ast→List ak→Prop) (E:Int→Prop) (W:World),PS W b O ts T→wp ts T.length K E→Calls Tryz.prog f #[.pointer (some ⟨b,0,none⟩)] W (aF b O T (RK K E) W)
theorem pI.one {f:FuncId} {wp:iQ} (h:pI f wp) (hf:Enters Tryz.prog f) (W:World) (b:Nat) (O:Nat→Prop):One W b O (ba f b) wp:=by
 intro W1 O1 T ts K E _ _ hp hk;exact⟨f,_,_,rfl,hf,h b O1 ts T K E W1 hp hk⟩
def eu (f:FuncId) (wp:bW):Prop:=∀(b n:Nat) (O:Nat→Prop) (T0:List Nd) (s:St) (K:St→Prop) (E:Int→Prop) (W:World),Real W b n O T0 s→wp s K E→Calls Tryz.prog f #[.pointer (some ⟨b,0,none⟩),.pointer (some ⟨n,0,none⟩)] W (bB b n O T0 K E W)
theorem eu.part {f:FuncId} {wp:bW} (h:eu f wp) (hf:Enters Tryz.prog f) (W:World) (b:Nat) (O:Nat→Prop):eH W b O (ba f b) wp:=by
 intro W1 O1 T0 s n K E _ _ hr hk;exact⟨f,_,_,rfl,hf,h b n O1 T0 s K E W1 hr hk⟩
theorem Real.lt {W:World} {b n:Nat} {O:Nat→Prop} {T0:List Nd} {s:St} (h:Real W b n O T0 s) :∀k,O k→k<W.heap.size:=fun k hk=>(h.own k hk).2
theorem eH.call {W W1:World} {b n:Nat} {O:Nat→Prop} {T0:List Nd} {s:St} {K:St→Prop} {E:Int→Prop} {v:Value} {wp:bW} (h:eH W1 b O v wp) (hr:Real W b n O T0 s) (hb:Below W.heap.size W W1) (hk:wp s K E) :
  ∃f first cap,v=.func (.func f) first cap∧Enters Tryz.prog f∧Calls Tryz.prog f (first.push (.pointer (some ⟨n,0,none⟩))++cap) W1 (bB b n O T0 K E W):=by
 obtain⟨f,first,cap,e,h1,h2⟩:=h W1 O T0 s n K E (ax.refl _ _) (Ext.refl _ _) (hr.below hb) hk
 refine⟨f,first,cap,e,h1,?_⟩
 rw[show first++#[Value.pointer (some ⟨n,0,none⟩)]=first.push (.pointer (some ⟨n,0,none⟩)) from by simp] at h2
 exact h2.mono fun e w' hp=>hp.after (ax.af hb)
theorem PC {wp:iQ} (hE:pI 131 wp):eu 105 (dx wp):=by
 intro b n O T0 s K E w hr hk;have HC:=aa (Ck b O 131 _ _ wp w (hE.one (enters_of Tryz.func131 (by kernel_rfl) rfl) w b O) hr.lt)
 have HR:=aa hr;have HK:=aa hk;clear hr hk;go_enter Tryz.func105,Tryz.ntmps105
 go_wp2_with fail
 refine HC.out.mono ?_;rintro e w1 ⟨v,rfl,b1,h2⟩;obtain⟨f,first,cap,rfl,pE,bs⟩:=h2.1.call HR.out b1 HK.out
 have dY:=aa bs;clear h2 bs b1;unfold Enters at pE;go_wp2_with fail
 refine dY.out.mono ?_;intro e w2 h3;obtain⟨v,rfl⟩:=h3.ret;have H3:=aa h3;clear h3;go_wp2_with fail
 go_ret
 exact H3.out
theorem vu (W:World) (b:Nat) (O:Nat→Prop):ze W b O (ba 132 b) cX:=by
 intro W1 O1 T ts _ _ hp;obtain⟨t,r,rfl⟩:=hp.fin.cons;refine⟨132,_,_,rfl,enters_of Tryz.func132 (by kernel_rfl) rfl,?_⟩
 cases hc:av [44] t with
 | true =>
  have e1:cX (t::r)=(true,r):=by simp[cX,hc]
  rw[e1];exact km b O1 t r T W1 hp hc
 | false =>
  have e1:cX (t::r)=(false,t::r):=by simp[cX,hc]
  rw[e1];exact mi b O1 t r T W1 hp hc
theorem PD {wp:iQ} (hE:pI 131 wp):eu 98 (mj wp cX):=by
 intro b n O T0 s K E w hr hk;have HC:=aa (zh b O 131 132 _ _ _ _ wp cX w (hE.one (enters_of Tryz.func131 (by kernel_rfl) rfl) w b O) (vu w b O) hr.lt)
 have HR:=aa hr;have HK:=aa hk;clear hr hk;go_enter Tryz.func98,Tryz.ntmps98
 go_wp2_with fail
 refine HC.out.mono ?_;rintro e w1 ⟨v,rfl,b1,h2⟩;obtain⟨f,first,cap,rfl,pE,bs⟩:=h2.1.call HR.out b1 HK.out
 have dY:=aa bs;clear h2 bs b1;unfold Enters at pE;go_wp2_with fail
 refine dY.out.mono ?_;intro e w2 h3;obtain⟨v,rfl⟩:=h3.ret;have H3:=aa h3;clear h3;go_wp2_with fail
 go_ret
 exact H3.out
theorem JJ {wp:iQ} (hE:pI 168 wp):eu 143 (mj wp cX):=by
 intro b n O T0 s K E w hr hk;have HC:=aa (zh b O 168 132 _ _ _ _ wp cX w (hE.one (enters_of Tryz.func168 (by kernel_rfl) rfl) w b O) (vu w b O) hr.lt)
 have HR:=aa hr;have HK:=aa hk;clear hr hk;go_enter Tryz.func143,Tryz.ntmps143
 go_wp2_with fail
 refine HC.out.mono ?_;rintro e w1 ⟨v,rfl,b1,h2⟩;obtain⟨f,first,cap,rfl,pE,bs⟩:=h2.1.call HR.out b1 HK.out
 have dY:=aa bs;clear h2 bs b1;unfold Enters at pE;go_wp2_with fail
 refine dY.out.mono ?_;intro e w2 h3;obtain⟨v,rfl⟩:=h3.ret;have H3:=aa h3;clear h3;go_wp2_with fail
 go_ret
 exact H3.out
theorem aM.new {w:World} {b:Nat} {O:Nat→Prop} (hO :∀k,O k→k<w.heap.size) (vs:List Value) (cO:List bW) (hl:vs.length≤100) (h:jQ w b O vs cO):aM (w.alloc (.cells vs.toArray 123)) b O (.slice (some ⟨w.heap.size,0,none⟩) vs.length vs.length) cO :=
 ⟨vs,.inr ⟨w.heap.size,rfl,World.alloc_heap_new w _,fun h=>by have:=hO _ h;omega,hl⟩,h.later ((ax.refl _ _).alloc _) (Ext.refl _ _)⟩
theorem aW (w:World) (o:Obj):Below w.heap.size w (w.alloc o):=(Below.refl _ _).alloc (ah _) o
theorem GK {wp:bW} (hS:eu 24 wp):eu 104 (dx (dR (mN 18) [wp])):=by
 intro b n O T0 s K E w hr hk;have hO:=hr.lt;have HP:aM (w.alloc (.cells #[ba 24 b] 123)) b O (.slice (some ⟨w.heap.size,0,none⟩) 1 1) [wp]:=aM.new hO [ba 24 b] [wp] (by simp) ⟨hS.part (enters_of Tryz.func24 (by kernel_rfl) rfl) w b O,trivial⟩
 have HC:=aa (rY b O (mN 18) (.slice none 0 0) _ [wp] _ (zE.nil _ b) HP (fun k hk=>by have:=hO k hk;simp;omega))
 have HR:=aa hr;have HK:=aa hk;clear hr hk HP hO;go_enter Tryz.func104,Tryz.ntmps104
 go_wp2_with fail
 refine HC.out.mono ?_;rintro e w1 ⟨v,rfl,b1,h2⟩;obtain⟨f,first,cap,rfl,pE,bs⟩:=h2.1.call HR.out (ay (aW w _) b1) HK.out
 have dY:=aa bs;clear h2 bs b1;unfold Enters at pE;go_wp2_with fail
 refine dY.out.mono ?_;intro e w2 h3;obtain⟨v,rfl⟩:=h3.ret;have H3:=aa h3;clear h3;go_wp2_with fail
 go_ret
 exact H3.out
theorem PE:eu 163 tq:=by
 intro b n O T0 s K E w hr hk;have hO:=hr.lt;have HP:aM (w.alloc (.cells #[ba 102 b] 123)) b O (.slice (some ⟨w.heap.size,0,none⟩) 1 1) [cV]:=aM.new hO [ba 102 b] [cV] (by simp) ⟨im w b O,trivial⟩
 have HC:=aa (rY b O (mN 5) (.slice none 0 0) _ [cV] _ (zE.nil _ b) HP (fun k hk=>by have:=hO k hk;simp;omega))
 have HR:=aa hr;have HK:=aa hk;clear hr hk HP hO;go_enter Tryz.func163,Tryz.ntmps163
 go_wp2_with fail
 refine HC.out.mono ?_;rintro e w1 ⟨v,rfl,b1,h2⟩;obtain⟨f,first,cap,rfl,pE,bs⟩:=h2.1.call HR.out (ay (aW w _) b1) HK.out
 have dY:=aa bs;clear h2 bs b1;unfold Enters at pE;go_wp2_with fail
 refine dY.out.mono ?_;intro e w2 h3;obtain⟨v,rfl⟩:=h3.ret;have H3:=aa h3;clear h3;go_wp2_with fail
 go_ret
 exact H3.out
theorem ab2 (b:Nat) (O:Nat→Prop) (t:ak) (ts:List ak) (T:List Nd) (x:Nd) (pv:Value) (cO:List bW) (K:Ast→List ak→Prop) (E:Int→Prop) (w:World) (hp:PS w b O (t::ts) T) (hx:x=⟨x.kind,0,x.op,x.num,x.s,[],[]⟩) (GD:aM w b O pv cO)
  (hk:aJ cO ⟨{ x with line:=t.2.1},[],t::ts,T.length⟩ (bT K) E):Calls Tryz.prog 23 #[.pointer (some ⟨b,0,none⟩),da x (.slice none 0 0) (.slice none 0 0),pv] w (aF b O T (RK K E) w):=by
 have h1:x.line=0:=by rw[hx]
 have h2:x.names=[]:=by rw[hx]
 refine(zf b O (fun _=>False) t ts T T x t.2.1 [] [] (.slice none 0 0) (.slice none 0 0) pv cO (RK K E) w hp ⟨?_,World.ownsRow_nil _ _ _ _,fun g hg=>by simp[Value.ownBlock] at hg,fun g hg=>by simp[Value.ownBlock] at hg,fun g hg=>by simp[Value.ownBlock] at hg⟩ (fun _ _ h=>h) (fun _ h=>h.elim) (eA.nil T) (GD.later (ax.refl _ _) (fun k hk=>.inl (hk.elim id False.elim))) (.inl ⟨h1,rfl⟩) hk).mono fun e w' h=>h.sub fun k hk=>hk.elim id False.elim
 rw[show({ x with kids:=[]}:Nd).names=[] from h2]
 exact World.ownsRow_nil _ _ _ _
theorem cD {b:Nat} {O:Nat→Prop} {t:ak} {ts:List ak} {T:List Nd} {K:Ast→List ak→Prop} {E:Int→Prop} (w w2:World) (hp:PS w2 b O (t::ts) T) (hf:ax O w w2) (x:Nd) (hx:x=⟨x.kind,0,x.op,x.num,x.s,[],[]⟩) (vs:List Value) (cO:List bW) (hl:vs.length≤100) (hall:jQ w2 b O vs cO)
  (hk:aJ cO ⟨{ x with line:=t.2.1},[],t::ts,T.length⟩ (bT K) E):Calls Tryz.prog 23 #[.pointer (some ⟨b,0,none⟩),da x (.slice none 0 0) (.slice none 0 0),.slice (some ⟨w2.heap.size,0,none⟩) vs.length vs.length] (w2.alloc (.cells vs.toArray 123)) (aF b O T (RK K E) w) :=
 (ab2 b O t ts T x _ cO K E _ (hp.below (aW w2 _)) hx (aM.new (fun k hk=>(hp.own k hk).2) vs cO hl hall) hk).mono fun _ _ h=>h.after (hf.alloc _)
def kq (b:Nat) (O:Nat→Prop) (wp:bW) (w:World) (e:Ending) (w':World):Prop:=∃f first cap,e=.returned (.func (.func f) first cap)∧Below w.heap.size w w'∧eH w' b O (.func (.func f) first cap) wp
theorem cB (w:World) (b:Nat) (O:Nat→Prop) (hO :∀k,O k→k<w.heap.size) (x:List UInt8) (hx:x≠[]) (X:ByteArray) (hX:X=bx x) :
  Calls Tryz.prog 103 #[.pointer (some ⟨b,0,none⟩),.slice (some ⟨w.heap.size,0,none⟩) 1 1] (w.alloc (.cells #[.string X] 9)) (kq b O (au [x]) w):=by
 subst hX;refine(GA b w.heap.size O [x] (w.alloc (.cells #[.string (bx x)] 9)) (fun y hy=>by rw[bK.1 hy];exact hx) (by simp) (eI.new w O hO _ 9) (fun k hk=>by have:=hO k hk;simp;omega) 1 rfl).mono ?_
 rintro e w' ⟨v,rfl,hb,hp,f,first,cap,rfl⟩
 exact⟨f,first,cap,rfl,ay (aW w _) hb,hp⟩
def PF (ex:bW) (t:ak) (ts:List ak) (n:Nat) (K:Ast→List ak→Prop) (E:Int→Prop):Prop :=
 (av [40] t=true→aJ [aB,ex,au [[41]]] ⟨dy 14 t.2.1,[],t::ts,n⟩ (bT K) E)∧(av [40] t=false→aJ [cV] ⟨dy 7 t.2.1,[],t::ts,n⟩ (bT K) E)
theorem UR {ex:bW} (hE:eu 105 ex) (b:Nat) (O:Nat→Prop) (t:ak) (ts:List ak) (T:List Nd) (K:Ast→List ak→Prop) (E:Int→Prop) (w:World) (hp:PS w b O (t::ts) T) (hk:PF ex t ts T.length K E) :
  Calls Tryz.prog 166 #[.pointer (some ⟨b,0,none⟩)] w (aF b O T (RK K E) w):=by
 have HW:=aa (bJ b O t ts T w hp);cases hq:av [40] t with
 | true =>
  have g1:((ag t).toList == [40])=true:=aj (s:=[40]) (by decide) t hq
  have HK:=aa (hk.1 hq);generalize hY:ag t=Y at *;have HP:=aa hp;clear hp hk hY hq;go_enter Tryz.func166,Tryz.ntmps166
  go_wp2_with fail
  refine HW.out.mono ?_;rintro e w1 ⟨rfl,b1⟩;have lH:=HP.out.below b1;have rX :∀k,O k→k<w1.heap.size:=fun k hk=>(lH.own k hk).2
  have B1:=aa b1;have P1:=aa lH;have HV:=aa (cB w1 b O rX [41] (by decide) ⟨#[41]⟩ rfl)
  clear b1 lH rX;go_wp2_with fail
  refine HV.out.mono ?_;rintro e w2 ⟨fi,f1,f2,rfl,b2,h2⟩;have HN:=aa (cD w w2 (P1.out.below b2) (ax.af (ay B1.out b2)) (mN 14) rfl [ba 55 b,ba 105 b,.func (.func fi) f1 f2] [aB,ex,au [[41]]] (by simp) ⟨bg w2 b O,hE.part (enters_of Tryz.func105 (by kernel_rfl) rfl) w2 b O,h2,trivial⟩ HK.out)
  clear b2 h2;go_wp2_with fail
  refine HN.out.mono ?_;intro e w3 h3;obtain⟨v,er,rfl⟩:=h3.ret;have H3:=aa h3;clear h3;go_wp2_with fail
  go_ret2
  exact H3.out
 | false =>
  have g1:((ag t).toList == [40])=false:=aj (s:=[40]) (by decide) t hq
  have HK:=aa (hk.2 hq);generalize hY:ag t=Y at *;have HP:=aa hp;clear hp hk hY hq;go_enter Tryz.func166,Tryz.ntmps166
  go_wp2_with fail
  refine HW.out.mono ?_;rintro e w1 ⟨rfl,b1⟩;have HN:=aa (cD w w1 (HP.out.below b1) (ax.af b1) (mN 7) rfl [ba 102 b] [cV] (by simp) ⟨im w1 b O,trivial⟩ HK.out)
  clear b1;go_wp2_with fail
  refine HN.out.mono ?_;intro e w3 h3;obtain⟨v,er,rfl⟩:=h3.ret;have H3:=aa h3;clear h3;go_wp2_with fail
  go_ret2
  exact H3.out
theorem JK (w:World) (b:Nat) (O:Nat→Prop) (hO :∀k,O k→k<w.heap.size) (x y:List UInt8) (hx:x≠[]) (hy:y≠[]) (X Y:ByteArray) (hX:X=bx x) (hY:Y=bx y) :
  Calls Tryz.prog 103 #[.pointer (some ⟨b,0,none⟩),.slice (some ⟨w.heap.size,0,none⟩) 2 2] (w.alloc (.cells #[.string X,.string Y] 9)) (kq b O (au [x,y]) w):=by
 subst hX hY;refine(GA b w.heap.size O [x,y] (w.alloc (.cells #[.string (bx x),.string (bx y)] 9)) (fun z hz=>by rcases bc.1 hz with rfl|hz;exact hx;rw[bK.1 hz];exact hy) (by simp) (eI.new w O hO _ 9) (fun k hk=>by have:=hO k hk;simp;omega) 2 rfl).mono ?_
 rintro e w' ⟨v,rfl,hb,hp,f,first,cap,rfl⟩
 exact⟨f,first,cap,rfl,ay (aW w _) hb,hp⟩
theorem pJ (w:World) (b:Nat) (O:Nat→Prop) (hO :∀k,O k→k<w.heap.size) (vs:List Value) (cO:List bW) (hl:vs.length≤100) (h:jQ w b O vs cO) (x:List UInt8) (hx:x≠[]) (X:ByteArray) (hX:X=bx x) :
  Calls Tryz.prog 57 #[.pointer (some ⟨b,0,none⟩),.string X,.slice (some ⟨w.heap.size,0,none⟩) vs.length vs.length] (w.alloc (.cells vs.toArray 123)) (kq b O (bw x cO) w):=by
 refine(xM b O x X hX hx _ cO _ (aM.new hO vs cO hl h) (fun k hk=>by have:=hO k hk;simp;omega)).mono ?_
 rintro e w' ⟨v,rfl,hb,hp,f,first,cap,rfl⟩
 exact⟨f,first,cap,rfl,ay (aW w _) hb,hp⟩
theorem US (w:World) (b:Nat) (O:Nat→Prop) (hO :∀k,O k→k<w.heap.size) (vs:List Value) (cO:List bW) (hl:vs.length≤100) (h:jQ w b O vs cO) (x:List UInt8) (hx:x≠[]) (X:ByteArray) (hX:X=bx x) :
  Calls Tryz.prog 106 #[.pointer (some ⟨b,0,none⟩),.string X,.slice (some ⟨w.heap.size,0,none⟩) vs.length vs.length] (w.alloc (.cells vs.toArray 123)) (kq b O (rU x cO) w):=by
 refine(Ee b O x X hX hx _ cO _ (aM.new hO vs cO hl h) (fun k hk=>by have:=hO k hk;simp;omega)).mono ?_
 rintro e w' ⟨v,rfl,hb,hp,f,first,cap,rfl⟩
 exact⟨f,first,cap,rfl,ay (aW w _) hb,hp⟩
theorem r9 (w:World) (b:Nat) (O:Nat→Prop) (hO :∀k,O k→k<w.heap.size) (x:List UInt8) (hx:x≠[]) (X:ByteArray) (hX:X=bx x) (f:FuncId) (first cap:Array Value) (wp:bW) (h:eH w b O (.func (.func f) first cap) wp) :
  Calls Tryz.prog 164 #[.pointer (some ⟨b,0,none⟩),.string X,.func (.func f) first cap] w (kq b O (dF x wp) w):=by
 refine(Pk b O x X hX hx f first cap wp w h hO).mono ?_
 rintro e w' ⟨v,rfl,hb,hp,f,first,cap,rfl⟩
 exact⟨f,first,cap,rfl,hb,hp⟩
theorem jr {b n:Nat} {O O2:Nat→Prop} {T0:List Nd} {s:St} {K:St→Prop} {E:Int→Prop} (w w2:World) (hr:Real w2 b n O2 T0 s) (hf:ax O w w2) (he:Ext O O2 w) (vs:List Value) (cO:List bW) (hl:vs.length≤100) (hall:jQ w2 b O2 vs cO) (hk:aJ cO s K E) :
  Calls Tryz.prog 50 #[.pointer (some ⟨n,0,none⟩),.slice (some ⟨w2.heap.size,0,none⟩) vs.length vs.length] (w2.alloc (.cells vs.toArray 123)) (bB b n O T0 K E w) :=
 (vn b n O2 T0 s K E _ cO _ (hr.below (aW w2 _)) (aM.new hr.lt vs cO hl hall) hk).mono fun e w' h=>by
  obtain⟨h1,h2⟩:=h;have hf2:ax O2 w2 w':=((ax.refl O2 w2).alloc _).trans h1 (Ext.refl _ _);refine⟨hf.trans hf2 he,h2.imp ?_ ?_⟩
  ·rintro⟨s',O',e1,r1,x1,k1⟩
   exact⟨s',O',e1,r1,he.trans (fun k hk=>(x1 k hk).imp id fun h=>by simp at h;omega) hf.size,k1⟩
  ·rintro⟨l,v,e1,⟨g,m1,m2,m3⟩,k⟩
   exact⟨l,v,e1,⟨g,m1,by have:=hf.size;simp at m2;omega,m3⟩,k⟩
theorem PG {pa bl:bW} (adU:eu 165 pa) (hB:eu 104 bl):eu 141 (fun s K E=>aJ [au [[40]],dF [41] pa,au [[41]],bl,au [jn]] s K E):=by
 intro b n O T0 s K E w0 hr hk;have HK:=aa hk;have P0:=aa hr;have F0:=aa (ax.refl O w0);clear hr hk;go_enter Tryz.func141,Tryz.ntmps141
 have oZ :∀k,O k→k<w0.heap.size:=P0.out.lt;have V1:=aa (cB w0 b O oZ [40] (by decide) ⟨#[40]⟩ rfl)
 clear oZ;go_wp2_with fail
 refine V1.out.mono ?_;rintro e w1 ⟨f1,a1,c1,rfl,b1,h1⟩;have F1:=aa (F0.out.trans (ax.af (O:=O) b1) (Ext.refl _ _));have P1:=aa (P0.out.below b1);have H1:=aa h1;clear b1 h1 V1;have rX :∀k,O k→k<w1.heap.size:=P1.out.lt;have V2:=aa (r9 w1 b O rX [41] (by decide) ⟨#[41]⟩ rfl 165 _ _ (pa) (adU.part (enters_of Tryz.func165 (by kernel_rfl) rfl) w1 b O))
 clear rX;go_wp2_with fail
 refine V2.out.mono ?_;rintro e w2 ⟨f2,a2,c2,rfl,b2,h2⟩;have F2:=aa (F1.out.trans (ax.af (O:=O) b2) (Ext.refl _ _));have P2:=aa (P1.out.below b2);have L1:=aa (H1.out.later (ax.af (O:=O) b2) (Ext.refl _ _));clear H1;have H1:=L1;clear L1;have H2:=aa h2;clear b2 h2 V2;have KT :∀k,O k→k<w2.heap.size:=P2.out.lt;have V3:=aa (cB w2 b O KT [41] (by decide) ⟨#[41]⟩ rfl)
 clear KT;go_wp2_with fail
 refine V3.out.mono ?_;rintro e w3 ⟨f3,a3,c3,rfl,b3,h3⟩;have F3:=aa (F2.out.trans (ax.af (O:=O) b3) (Ext.refl _ _));have P3:=aa (P2.out.below b3);have L1:=aa (H1.out.later (ax.af (O:=O) b3) (Ext.refl _ _));clear H1;have H1:=L1;clear L1;have L2:=aa (H2.out.later (ax.af (O:=O) b3) (Ext.refl _ _));clear H2;have H2:=L2;clear L2;have H3:=aa h3;clear b3 h3 V3;have C7 :∀k,O k→k<w3.heap.size:=P3.out.lt;have V4:=aa (cB w3 b O C7 [101,110,100] (by decide) ⟨#[101,110,100]⟩ rfl)
 clear C7;go_wp2_with fail
 refine V4.out.mono ?_;rintro e w4 ⟨f4,a4,c4,rfl,b4,h4⟩;have F4:=aa (F3.out.trans (ax.af (O:=O) b4) (Ext.refl _ _));have P4:=aa (P3.out.below b4);have L1:=aa (H1.out.later (ax.af (O:=O) b4) (Ext.refl _ _));clear H1;have H1:=L1;clear L1;have L2:=aa (H2.out.later (ax.af (O:=O) b4) (Ext.refl _ _));clear H2;have H2:=L2;clear L2;have L3:=aa (H3.out.later (ax.af (O:=O) b4) (Ext.refl _ _));clear H3;have H3:=L3;clear L3;have H4:=aa h4;clear b4 h4 V4;have HN:=aa (jr w0 w4 P4.out F4.out (Ext.refl _ _) [.func (.func f1) a1 c1,.func (.func f2) a2 c2,.func (.func f3) a3 c3,ba 104 b,.func (.func f4) a4 c4] [au [[40]],dF [41] (pa),au [[41]],bl,au [[101,110,100]]] (by simp) ⟨H1.out,H2.out,H3.out,hB.part (enters_of Tryz.func104 (by kernel_rfl) rfl) w4 b O,H4.out,trivial⟩ HK.out)
 go_wp2_with fail
 refine HN.out.mono ?_;intro e wz hz;obtain⟨v,rfl⟩:=hz.ret;have HZ:=aa hz;clear hz;go_wp2_with fail
 go_ret
 exact HZ.out
theorem UT {it:bW} (JI:eu 212 it) (b:Nat) (O:Nat→Prop) (t:ak) (ts:List ak) (T:List Nd) (K:Ast→List ak→Prop) (E:Int→Prop) (w0:World) (hp:PS w0 b O (t::ts) T)
  (hk:aJ [aB,dF [125] it,au [[125]]] ⟨dy 15 t.2.1,[],t::ts,T.length⟩ (bT K) E) :
  Calls Tryz.prog 202 #[.pointer (some ⟨b,0,none⟩)] w0 (aF b O T (RK K E) w0):=by
 have HK:=aa hk;have P0:=aa hp;have F0:=aa (ax.refl O w0);clear hp hk;go_enter Tryz.func202,Tryz.ntmps202
 have oZ :∀k,O k→k<w0.heap.size:=fun k hk=>(P0.out.own k hk).2
 have V1:=aa (r9 w0 b O oZ [125] (by decide) ⟨#[125]⟩ rfl 212 _ _ (it) (JI.part (enters_of Tryz.func212 (by kernel_rfl) rfl) w0 b O))
 clear oZ;go_wp2_with fail
 refine V1.out.mono ?_;rintro e w1 ⟨f1,a1,c1,rfl,b1,h1⟩;have F1:=aa (F0.out.trans (ax.af (O:=O) b1) (Ext.refl _ _));have P1:=aa (P0.out.below b1);have H1:=aa h1;clear b1 h1 V1;have rX :∀k,O k→k<w1.heap.size:=fun k hk=>(P1.out.own k hk).2
 have V2:=aa (cB w1 b O rX [125] (by decide) ⟨#[125]⟩ rfl)
 clear rX;go_wp2_with fail
 refine V2.out.mono ?_;rintro e w2 ⟨f2,a2,c2,rfl,b2,h2⟩;have F2:=aa (F1.out.trans (ax.af (O:=O) b2) (Ext.refl _ _));have P2:=aa (P1.out.below b2);have L1:=aa (H1.out.later (ax.af (O:=O) b2) (Ext.refl _ _));clear H1;have H1:=L1;clear L1;have H2:=aa h2;clear b2 h2 V2;have HN:=aa (cD w0 w2 P2.out F2.out (mN 15) rfl [ba 55 b,.func (.func f1) a1 c1,.func (.func f2) a2 c2] [aB,dF [125] (it),au [[125]]] (by simp) ⟨bg w2 b O,H1.out,H2.out,trivial⟩ HK.out)
 go_wp2_with fail
 refine HN.out.mono ?_;intro e wz hz;obtain⟨v,er,rfl⟩:=hz.ret;have HZ:=aa hz;clear hz;go_wp2_with fail
 go_ret2
 exact HZ.out
theorem PS.next {W:World} {b:Nat} {O:Nat→Prop} {t u:ak} {ts:List ak} {T:List Nd} (h:PS W b O (t::u::ts) T) :
  ∃(i g n c:Nat),W.cell? ⟨b,0,none⟩=some (.slice (some ⟨g,0,none⟩) n c)∧W.cell? ⟨b,1,none⟩=some (.int .i64 (i:Int))∧i+1<n∧n≤20000∧n≤c ∧
   W.cell? ⟨g,(i+1)*4,none⟩=some (.int .i64 u.1)∧W.cell? ⟨g,(i+1)*4+1,none⟩=some (.int .i64 u.2.1)∧W.cell? ⟨g,(i+1)*4+2,none⟩=some (.int .i64 u.2.2.1)∧W.cell? ⟨g,(i+1)*4+3,none⟩=some (.string (bx u.2.2.2)):=by
 obtain⟨TS,i,g,c,nv,L,a1,a2,a3,a4,a5,a6,a7⟩:=h.ex;obtain⟨g',cap,e,h1,h2,h3⟩:=a2.ex;have hg:g=g'∧c=cap:=by injection e with e1 _ e3;injection e1 with e1;injection e1 with e1;exact⟨e1,e3⟩
 obtain⟨rfl,rfl⟩:=hg;have hi:TS[i+1]? = some u:=by
  have:=aw (·[1]?) a4
  simpa[wF] using this
 have hlt:=(aK.1 hi).1;obtain⟨b0,b1,b2,b3⟩:=h3 (i+1) u hi;exact⟨i,g,TS.length,c,by simp[World.cell?,a1],by simp[World.cell?,a1],hlt,a5,h1,b0,b1,b2,b3⟩
def vw (t u:ak):Bool:=decide (t.1=1) && (decide (u.1=5) && decide (u.2.2.2=[61]))
theorem aae (l s:List UInt8):((bx l).toList == s)=decide (l=s):=by
 rw[Lib.toList_data];show((bx l).data.toList == s)=_
 by_cases h:l=s<;>simp[bx,h]
theorem Ej (b:Nat) (O:Nat→Prop) (t:ak) (ts:List ak) (T:List Nd) (w:World) (h:PS w b O (t::ts) T) (ht:t.1≠1):Calls Tryz.prog 218 #[.pointer (some ⟨b,0,none⟩)] w (nO w false):=by
 obtain⟨t0,t1,t2,t3⟩:=t;have HA:=aa (cC b O (t0,t1,t2,t3) ts T w h);unfold gb at HA;dsimp only at HA ht
 have F0:=Ch t0 t1 t2 (bx t3);have g1:(t0 == 1)=false:=aC.2 ht;have g1':(t0 != 1)=true:=oL.2 ht;clear h ht;go_enter Tryz.func218,Tryz.ntmps218
 go_wp2_with fail
 refine HA.out.mono ?_;rintro e w1 ⟨rfl,b1⟩;have B1:=aa b1;clear b1;go_wp2_with fail
 go_ret
 exact⟨rfl,B1.out⟩
theorem UU (b:Nat) (O:Nat→Prop) (t u:ak) (ts:List ak) (T:List Nd) (w:World) (h:PS w b O (t::u::ts) T) (ht:t.1=1) (r:Bool) (hr:(decide (u.1=5) && decide (u.2.2.2=[61]))=r):Calls Tryz.prog 218 #[.pointer (some ⟨b,0,none⟩)] w (nO w r):=by
 obtain⟨t0,t1,t2,t3⟩:=t;have HA:=aa (cC b O (t0,t1,t2,t3) (u::ts) T w h);unfold gb at HA;dsimp only at HA ht
 subst ht;have F0:=Ch 1 t1 t2 (bx t3);have HP:=aa h;clear h;go_enter Tryz.func218,Tryz.ntmps218
 go_wp2_with fail
 refine HA.out.mono ?_;rintro e w1 ⟨rfl,b1⟩;obtain⟨i,g,n,c,c0,c1,hi,hn,hc,d0,d1,d2,d3⟩:=(HP.out.below b1).next;have hb:b<w1.heap.size:=World.block_lt_of_cell? w1 _ c1;have hg:g<w1.heap.size:=World.block_lt_of_cell? w1 _ d0;have B1:=aa b1;obtain⟨u0,u1,u2,u3⟩:=u;dsimp only at *
 clear b1;have hbt:((bx u3).toList == [61])=decide (u3=[61]):=aae u3 [61];generalize bx u3=S at *;by_cases h5:u0=5
 ·subst h5
  have hr2:decide (u3=[61])=r:=by simpa using hr
  rw[hr2] at hbt;clear hr hr2;cases r <;>
  ·go_wp2_with fail
   go_region
   all_goals go_wp2
   all_goals go_ret
   all_goals exact⟨rfl,ay B1.out (aW w1 _).drew⟩
 ·have g5:(u0 == 5)=false:=aC.2 h5
  have hd:false=r:=by simpa[h5] using hr
  subst hd;clear h5 hr hbt;go_wp2_with fail
  go_region
  all_goals go_wp2
  all_goals go_ret
  all_goals exact⟨rfl,ay B1.out (aW w1 _).drew⟩
def iY:List ak→Bool×List ak
 | []=>(false,[])
 | t::r=>if (av [44] t || av [59] t)=true then (match r with
  | []=>true
  | u::_=>!av [125] u,r) else (false,t::r)
theorem pK {t u:ak} {us:List ak} (h:(av [44] t || av [59] t)=true):iY (t::u::us)=(!av [125] u,u::us):=by simp only[iY,h,if_true]
theorem xS {t:ak} {us:List ak} (h:(av [44] t || av [59] t)=false):iY (t::us)=(false,t::us):=by simp[iY,h]
theorem PH (b g:Nat) (O:Nat→Prop) (t:ak) (ts:List ak) (T:List Nd) (w:World) (h:PS w b O (t::ts) T) (b0:eI w O g #[.pointer (some ⟨b,0,none⟩)] 117) (r:Bool) (tr:List ak) (hr:iY (t::ts)=(r,tr)):Calls Tryz.prog 216 #[.pointer (some ⟨g,0,none⟩)] w (lB b O tr T r w):=by
 have c0:=b0.cell 0;have HB:=aa b0;have Cl :∀k,k=b→O k:=fun k hk=>hk▸h.at_
 have HO:=aa Cl;clear b0 Cl;by_cases h1:av [44] t=true
 ·have h1':(av [44] t || av [59] t)=true:=by rw[h1];rfl
  have jo:=(h.fin.tail (tP h1)).cons;obtain⟨u,us,rfl⟩:=jo;have Wg:(!av [125] u)=r∧u::us=tr:=by
   rw[pK h1'] at hr;injection hr with e1 e2;exact⟨e1,e2⟩
  obtain⟨hr1,rfl⟩:=Wg;have HC:=aa (km b O t (u::us) T w h h1);clear h h1 h1' hr;have g1:((ag u).toList == [125])=(!r):=aj (s:=[125]) (by decide) u (by rw[←hr1];simp)
  clear hr1;go_enter Tryz.func216,Tryz.ntmps216
  go_wp2_with fail
  refine HC.out.mono ?_;rintro e w1 ⟨rfl,p1,f1⟩;have c1:=(HB.out.later (f1.mono HO.out) (Ext.refl _ _)).cell 0;have HW:=aa (bJ b O u us T w1 p1);generalize ag u=Y at *;have P1:=aa p1;have F1:=aa f1;clear p1 f1 c0;cases r <;>
  ·go_wp2_with fail
   refine HW.out.mono ?_;rintro e w2 ⟨rfl,b2⟩;have B2:=aa b2;clear b2;go_wp2_with fail
   go_ret
   exact⟨rfl,P1.out.below B2.out,F1.out.trans (ax.af (O:=(· = b)) B2.out) (Ext.refl _ _)⟩
 ·have PI:av [44] t=false:=by simpa using h1
  have HC:=aa (mi b O t ts T w h PI);by_cases h2:av [59] t=true
  ·have h1':(av [44] t || av [59] t)=true:=by rw[h2];simp
   have jo:=(h.fin.tail (tP h2)).cons;obtain⟨u,us,rfl⟩:=jo;have Wg:(!av [125] u)=r∧u::us=tr:=by
    rw[pK h1'] at hr;injection hr with e1 e2;exact⟨e1,e2⟩
   obtain⟨hr1,rfl⟩:=Wg;have HT:=aa (fun(W:World) hW=>mh b O t (u::us) T [59] ⟨#[59]⟩ rfl W hW (by decide) h2)
   clear h h1 PI h2 h1' hr;have g1:((ag u).toList == [125])=(!r):=aj (s:=[125]) (by decide) u (by rw[←hr1];simp)
   clear hr1;go_enter Tryz.func216,Tryz.ntmps216
   go_wp2_with fail
   refine HC.out.mono ?_;rintro e w1 ⟨rfl,p1,f1⟩;have c1:=(HB.out.later (f1.mono HO.out) (Ext.refl _ _)).cell 0;have F1:=aa f1;have AD:=aa (HT.out w1 p1);clear p1 f1 c0;go_wp2_with fail
   refine AD.out.mono ?_;rintro e w2 ⟨rfl,p2,f2⟩;have F2:=aa (F1.out.trans f2 (Ext.refl _ _));have c2:=(HB.out.later (F2.out.mono HO.out) (Ext.refl _ _)).cell 0;have HW:=aa (bJ b O u us T w2 p2);generalize ag u=Y at *;have P2:=aa p2;clear p2 f2 c1;cases r <;>
   ·go_wp2_with fail
    refine HW.out.mono ?_;rintro e w3 ⟨rfl,b2⟩;have B2:=aa b2;clear b2;go_wp2_with fail
    go_ret
    exact⟨rfl,P2.out.below B2.out,F2.out.trans (ax.af (O:=(· = b)) B2.out) (Ext.refl _ _)⟩
  ·have h2f:av [59] t=false:=by simpa using h2
   have HT:=aa (fun(W:World) hW=>oq b O t ts T [59] ⟨#[59]⟩ rfl W hW (by decide) h2f)
   have Wg:false=r∧t::ts=tr:=by
    rw[xS (by rw[PI,h2f];rfl)] at hr
    injection hr with e1 e2;exact⟨e1,e2⟩
   obtain⟨rfl,rfl⟩:=Wg;clear h h1 PI h2 h2f hr;go_enter Tryz.func216,Tryz.ntmps216
   go_wp2_with fail
   refine HC.out.mono ?_;rintro e w1 ⟨rfl,p1,f1⟩;have c1:=(HB.out.later (f1.mono HO.out) (Ext.refl _ _)).cell 0;have F1:=aa f1;have AD:=aa (HT.out w1 p1);clear p1 f1 c0;go_wp2_with fail
   refine AD.out.mono ?_;rintro e w2 ⟨rfl,p2,f2⟩;have F2:=aa (F1.out.trans f2 (Ext.refl _ _));have P2:=aa p2;clear p2 f2 c1;go_wp2_with fail
   go_ret
   exact⟨rfl,P2.out,F2.out⟩
theorem Ek {W:World} {b g:Nat} {O:Nat→Prop} (b0:eI W O g #[.pointer (some ⟨b,0,none⟩)] 117):ze W b O (.func (.func 216) #[] #[.pointer (some ⟨g,0,none⟩)]) iY:=by
 intro W1 O1 T ts hf he hp;obtain⟨t,r,rfl⟩:=hp.fin.cons;exact⟨216,_,_,rfl,enters_of Tryz.func216 (by kernel_rfl) rfl,PH b g O1 t r T W1 hp (b0.later hf he) _ _ rfl⟩
theorem UW {wp:iQ} (hE:pI 215 wp):eu 212 (mj wp iY):=by
 intro b n O T0 s K E w hr hk;have hO:=hr.lt;have h1:=eI.new w O hO #[.pointer (some ⟨b,0,none⟩)] 117;have HC:=aa (zh b O 215 216 _ _ _ _ wp iY (w.alloc (.cells #[.pointer (some ⟨b,0,none⟩)] 117)) (hE.one (enters_of Tryz.func215 (by kernel_rfl) rfl) _ b O) (Ek h1) (fun k hk=>by have:=hO k hk;simp;omega))
 have HR:=aa hr;have HK:=aa hk;clear hr hk h1 hO;go_enter Tryz.func212,Tryz.ntmps212
 go_wp2_with fail
 refine HC.out.mono ?_;rintro e w1 ⟨v,rfl,b1,h2⟩;obtain⟨f,first,cap,rfl,pE,bs⟩:=h2.1.call HR.out (ay (aW w _) b1) HK.out
 have dY:=aa bs;clear h2 bs b1;unfold Enters at pE;go_wp2_with fail
 refine dY.out.mono ?_;intro e w2 h3;obtain⟨v,rfl⟩:=h3.ret;have H3:=aa h3;clear h3;go_wp2_with fail
 go_ret
 exact H3.out
def ml (t:ak):List ak→Bool
 | []=>false
 | u::_=>vw t u
theorem JL (b:Nat) (O:Nat→Prop) (t:ak) (ts:List ak) (T:List Nd) (w:World) (h:PS w b O (t::ts) T) (r:Bool) (hr:ml t ts=r):Calls Tryz.prog 218 #[.pointer (some ⟨b,0,none⟩)] w (nO w r):=by
 by_cases h1:t.1=1
 ·obtain⟨u,us,rfl⟩:=(h.fin.tail (by rw[h1];decide)).cons
  refine UU b O t u us T w h h1 r ?_;rw[←hr];simp[ml,vw,h1]
 ·have hf:false=r:=by
   rw[←hr];cases ts<;>simp[ml,vw,h1]
  rw[←hf];exact Ej b O t ts T w h h1
def Xf (ex:bW) (t:ak) (ts:List ak) (n:Nat) (K:Ast→List ak→Prop) (E:Int→Prop):Prop :=
 (av [91] t=true→aJ [aB,ex,au [[93],[61]],ex] ⟨dy 17 t.2.1,[],t::ts,n⟩ (bT K) E)∧(av [91] t=false→(ml t ts=true→aJ [tq,aB,ex] ⟨dy 17 t.2.1,[],t::ts,n⟩ (bT K) E)∧(ml t ts=false→aJ [ex] ⟨dy 16 t.2.1,[],t::ts,n⟩ (bT K) E))
theorem aaf {ex:bW} (hE:eu 105 ex) (b:Nat) (O:Nat→Prop) (t:ak) (ts:List ak) (T:List Nd) (K:Ast→List ak→Prop) (E:Int→Prop) (w:World) (hp:PS w b O (t::ts) T) (hk:Xf ex t ts T.length K E) :
  Calls Tryz.prog 215 #[.pointer (some ⟨b,0,none⟩)] w (aF b O T (RK K E) w):=by
 have HW:=aa (bJ b O t ts T w hp);have HF:=aa (fun W hW=>JL b O t ts T W hW)
 cases hq:av [91] t with
 | true =>
  ·have g1:((ag t).toList == [91])=true:=aj (s:=[91]) (by decide) t hq
   have HK:=aa (hk.1 hq);generalize hY:ag t=Y at *;have P:=aa hp;clear hp hk hY hq HF;go_enter Tryz.func215,Tryz.ntmps215
   go_wp2_with fail
   refine HW.out.mono ?_;rintro e w0 ⟨rfl,b0⟩;have F0:=aa (ax.af (O:=O) b0);have P0:=aa (P.out.below b0);clear b0;have oZ :∀k,O k→k<w0.heap.size:=fun k hk=>(P0.out.own k hk).2
   have V1:=aa (JK w0 b O oZ [93] [61] (by decide) (by decide) ⟨#[93]⟩ ⟨#[61]⟩ rfl rfl)
   clear oZ;go_wp2_with fail
   refine V1.out.mono ?_;rintro e w1 ⟨f1,a1,c1,rfl,b1,h1⟩;have F1:=aa (F0.out.trans (ax.af (O:=O) b1) (Ext.refl _ _));have P1:=aa (P0.out.below b1);have H1:=aa h1;clear b1 h1 V1;have HN:=aa (cD w w1 P1.out F1.out (mN 17) rfl [ba 55 b,ba 105 b,.func (.func f1) a1 c1,ba 105 b] [aB,ex,au [[93],[61]],ex] (by simp) ⟨bg w1 b O,hE.part (enters_of Tryz.func105 (by kernel_rfl) rfl) w1 b O,H1.out,hE.part (enters_of Tryz.func105 (by kernel_rfl) rfl) w1 b O,trivial⟩ HK.out)
   go_wp2_with fail
   refine HN.out.mono ?_;intro e wz hz;obtain⟨v,er,rfl⟩:=hz.ret;have HZ:=aa hz;clear hz;go_wp2_with fail
   go_ret2
   exact HZ.out
 | false =>
  cases hf:ml t ts with
  | true =>
   ·have g1:((ag t).toList == [91])=false:=aj (s:=[91]) (by decide) t hq
    have HK:=aa ((hk.2 hq).1 hf);have lV:=aa (fun W hW=>HF.out W hW true hf)
    generalize hY:ag t=Y at *;have P:=aa hp;clear hp hk hY hq HF hf;go_enter Tryz.func215,Tryz.ntmps215
    go_wp2_with fail
    refine HW.out.mono ?_;rintro e w0 ⟨rfl,b0⟩;have F0:=aa (ax.af (O:=O) b0);have P0:=aa (P.out.below b0);clear b0;have Fx:=aa (lV.out w0 P0.out);clear lV;go_wp2_with fail
    refine Fx.out.mono ?_;rintro e w1 ⟨rfl,b1⟩;have F1:=aa (F0.out.trans (ax.af (O:=O) b1) (Ext.refl _ _));have P1:=aa (P0.out.below b1);clear b1;have HN:=aa (cD w w1 P1.out F1.out (mN 17) rfl [ba 163 b,ba 55 b,ba 105 b] [tq,aB,ex] (by simp) ⟨PE.part (enters_of Tryz.func163 (by kernel_rfl) rfl) w1 b O,bg w1 b O,hE.part (enters_of Tryz.func105 (by kernel_rfl) rfl) w1 b O,trivial⟩ HK.out)
    go_wp2_with fail
    refine HN.out.mono ?_;intro e wz hz;obtain⟨v,er,rfl⟩:=hz.ret;have HZ:=aa hz;clear hz;go_wp2_with fail
    go_ret2
    exact HZ.out
  | false =>
   ·have g1:((ag t).toList == [91])=false:=aj (s:=[91]) (by decide) t hq
    have HK:=aa ((hk.2 hq).2 hf);have lV:=aa (fun W hW=>HF.out W hW false hf)
    generalize hY:ag t=Y at *;have P:=aa hp;clear hp hk hY hq HF hf;go_enter Tryz.func215,Tryz.ntmps215
    go_wp2_with fail
    refine HW.out.mono ?_;rintro e w0 ⟨rfl,b0⟩;have F0:=aa (ax.af (O:=O) b0);have P0:=aa (P.out.below b0);clear b0;have Fx:=aa (lV.out w0 P0.out);clear lV;go_wp2_with fail
    refine Fx.out.mono ?_;rintro e w1 ⟨rfl,b1⟩;have F1:=aa (F0.out.trans (ax.af (O:=O) b1) (Ext.refl _ _));have P1:=aa (P0.out.below b1);clear b1;have HN:=aa (cD w w1 P1.out F1.out (mN 16) rfl [ba 105 b] [ex] (by simp) ⟨hE.part (enters_of Tryz.func105 (by kernel_rfl) rfl) w1 b O,trivial⟩ HK.out)
    go_wp2_with fail
    refine HN.out.mono ?_;intro e wz hz;obtain⟨v,er,rfl⟩:=hz.ret;have HZ:=aa hz;clear hz;go_wp2_with fail
    go_ret2
    exact HZ.out
theorem PJ {b:Nat} {O:Nat→Prop} {t:ak} {ts:List ak} {T0 T:List Nd} {K:Ast→List ak→Prop} {E:Int→Prop} (w2:World) (g p:Nat) (a:Ast) (hp:PS w2 b O (t::ts) T) (hg:w2.heap[g]? = some (.cells #[.int .i64 (p:Int)] 3 (0,0))) (hgO:¬ O g) (hgb:b+1≤g) (Wx:eA T0 T [a] [(p:Int)])
  (x:Nd) (hx:x=⟨x.kind,0,x.op,x.num,x.s,[],[]⟩) (vs:List Value) (cO:List bW) (hl:vs.length≤100) (hall:jQ w2 b (fun k=>O k∨k=g) vs cO)
  (hk:aJ cO ⟨{ x with line:=t.2.1},[a],t::ts,T0.length+a.size⟩ (bT K) E) :
  Calls Tryz.prog 23 #[.pointer (some ⟨b,0,none⟩),da x (.slice none 0 0) (.slice (some ⟨g,0,none⟩) 1 1),.slice (some ⟨w2.heap.size,0,none⟩) vs.length vs.length] (w2.alloc (.cells vs.toArray 123)) (aF b (fun k=>O k∨k=g) T0 (RK K E) w2):=by
 have h1:x.line=0:=by rw[hx]
 have h2:x.names=[]:=by rw[hx]
 have re:g<w2.heap.size:=(aO.1 hg).1;have hO :∀k,(O k∨k=g)→k<w2.heap.size:=fun k hk=>hk.elim (fun h=>(hp.own k h).2) (fun h=>h▸re)
 have hz:T.length=T0.length+a.size:=by rw[Wx.len,Ast.al,Ast.al];omega
 rw[←hz] at hk;have hrow:w2.ownsRow (b+1) 3 1 (.slice (some ⟨g,0,none⟩) 1 1) 1 [.int .i64 (p:Int)]:=⟨rfl,.inr ⟨g,1,#[.int .i64 (p:Int)],rfl,hgb,hg,ah _,by unfold maxLen;omega,rfl,rfl⟩⟩
 have dJ:jO w2 b (· = g) { x with kids:=[(p:Int)]} (.slice none 0 0) (.slice (some ⟨g,0,none⟩) 1 1):=by
  refine⟨?_,hrow,fun g hg=>by simp[Value.ownBlock] at hg,fun g hg=>by simp[Value.ownBlock] at hg,fun k hk=>by simpa[Value.ownBlock] using hk.symm⟩
  rw[show({ x with kids:=[(p:Int)]}:Nd).names=[] from h2]
  exact World.ownsRow_nil _ _ _ _
 refine(zf b O (· = g) t ts T0 T x t.2.1 [a] [(p:Int)] (.slice none 0 0) (.slice (some ⟨g,0,none⟩) 1 1) _ cO (RK K E) _ (hp.below (aW w2 _)) ?_ (fun k hk e=>hgO (e▸hk)) (fun k hk=>⟨by omega,by simp;omega⟩) Wx (aM.new hO vs cO hl hall) (.inl ⟨h1,rfl⟩) hk).mono fun e w' h=>h.after ((ax.refl _ _).alloc _)
 exact dJ.kept (O1:=fun _=>False) ((ax.refl _ w2).alloc _) (fun _ _ h=>h) (fun _ h=>h)
def sa (f:FuncId) (l:Int) (wp:iQ):Prop:=∀(b:Nat) (O:Nat→Prop) (ts:List ak) (T:List Nd) (K:Ast→List ak→Prop) (E:Int→Prop) (W:World),PS W b O ts T→wp ts T.length K E→Calls Tryz.prog f #[.pointer (some ⟨b,0,none⟩),.int .i64 l] W (aF b O T (RK K E) W)
theorem aN {s:List UInt8} {t:ak} (h:av s t=true):(∃l n,t=(2,l,n,s))∨(∃l n,t=(5,l,n,s)):=by
 obtain⟨t0,t1,t2,t3⟩:=t;unfold av at h;rw[dp,Bool.or_eq_true,iF,iF,iF] at h;obtain⟨h1,h2⟩:=h;dsimp only at h1 h2
 subst h2;rcases h1 with rfl|rfl
 ·exact .inl ⟨t1,t2,rfl⟩
 ·exact .inr ⟨t1,t2,rfl⟩
def eJ (t:ak):Int:=match mL t with
 | some o=>o.1
 | none=>0
def ft (t:ak):Int:=match lf t with
 | some o=>o
 | none=>0
def bI (k:Int) (w:World) (e:Ending) (w':World):Prop:=e=.returned (.int .i64 k)∧w'=w
theorem binary_1 (t:ak) (w:World) (hq:av [43] t=true):Calls Tryz.prog 184 #[.string (ag t)] w (bI 1 w):=by
 have g0:((ag t).toList == [43])=true:=aj (s:=[43]) (by decide) t hq
 generalize ag t=Y at *;clear hq;go_enter Tryz.func184,Tryz.ntmps184
 go_wp2
 go_ret
 exact⟨rfl,rfl⟩
theorem PK (t:ak) (w:World) (hq:av [45] t=true):Calls Tryz.prog 184 #[.string (ag t)] w (bI 2 w):=by
 have g0:=aQ [43] hq (by decide)
 have g1:((ag t).toList == [45])=true:=aj (s:=[45]) (by decide) t hq
 generalize ag t=Y at *;clear hq;go_enter Tryz.func184,Tryz.ntmps184
 go_wp2
 go_ret
 exact⟨rfl,rfl⟩
theorem PM (t:ak) (w:World) (hq:av [42] t=true):Calls Tryz.prog 184 #[.string (ag t)] w (bI 3 w):=by
 have g0:=aQ [43] hq (by decide)
 have g1:=aQ [45] hq (by decide)
 have g2:((ag t).toList == [42])=true:=aj (s:=[42]) (by decide) t hq
 generalize ag t=Y at *;clear hq;go_enter Tryz.func184,Tryz.ntmps184
 go_wp2
 go_ret
 exact⟨rfl,rfl⟩
theorem PN (t:ak) (w:World) (hq:av [47,47] t=true):Calls Tryz.prog 184 #[.string (ag t)] w (bI 4 w):=by
 have g0:=aQ [43] hq (by decide)
 have g1:=aQ [45] hq (by decide)
 have g2:=aQ [42] hq (by decide)
 have g3:((ag t).toList == [47,47])=true:=aj (s:=[47,47]) (by decide) t hq
 generalize ag t=Y at *;clear hq;go_enter Tryz.func184,Tryz.ntmps184
 go_wp2
 go_ret
 exact⟨rfl,rfl⟩
theorem PO (t:ak) (w:World) (hq:av [37] t=true):Calls Tryz.prog 184 #[.string (ag t)] w (bI 5 w):=by
 have g0:=aQ [43] hq (by decide)
 have g1:=aQ [45] hq (by decide)
 have g2:=aQ [42] hq (by decide)
 have g3:=aQ [47,47] hq (by decide)
 have g4:((ag t).toList == [37])=true:=aj (s:=[37]) (by decide) t hq
 generalize ag t=Y at *;clear hq;go_enter Tryz.func184,Tryz.ntmps184
 go_wp2
 go_ret
 exact⟨rfl,rfl⟩
theorem PQ (t:ak) (w:World) (hq:av [38] t=true):Calls Tryz.prog 184 #[.string (ag t)] w (bI 6 w):=by
 have g0:=aQ [43] hq (by decide)
 have g1:=aQ [45] hq (by decide)
 have g2:=aQ [42] hq (by decide)
 have g3:=aQ [47,47] hq (by decide)
 have g4:=aQ [37] hq (by decide)
 have g5:((ag t).toList == [38])=true:=aj (s:=[38]) (by decide) t hq
 generalize ag t=Y at *;clear hq;go_enter Tryz.func184,Tryz.ntmps184
 go_wp2
 go_ret
 exact⟨rfl,rfl⟩
theorem PT (t:ak) (w:World) (hq:av [124] t=true):Calls Tryz.prog 184 #[.string (ag t)] w (bI 7 w):=by
 have g0:=aQ [43] hq (by decide)
 have g1:=aQ [45] hq (by decide)
 have g2:=aQ [42] hq (by decide)
 have g3:=aQ [47,47] hq (by decide)
 have g4:=aQ [37] hq (by decide)
 have g5:=aQ [38] hq (by decide)
 have g6:((ag t).toList == [124])=true:=aj (s:=[124]) (by decide) t hq
 generalize ag t=Y at *;clear hq;go_enter Tryz.func184,Tryz.ntmps184
 go_wp2
 go_ret
 exact⟨rfl,rfl⟩
theorem PU (t:ak) (w:World) (hq:av [126] t=true):Calls Tryz.prog 184 #[.string (ag t)] w (bI 8 w):=by
 have g0:=aQ [43] hq (by decide)
 have g1:=aQ [45] hq (by decide)
 have g2:=aQ [42] hq (by decide)
 have g3:=aQ [47,47] hq (by decide)
 have g4:=aQ [37] hq (by decide)
 have g5:=aQ [38] hq (by decide)
 have g6:=aQ [124] hq (by decide)
 have g7:((ag t).toList == [126])=true:=aj (s:=[126]) (by decide) t hq
 generalize ag t=Y at *;clear hq;go_enter Tryz.func184,Tryz.ntmps184
 go_wp2
 go_ret
 exact⟨rfl,rfl⟩
theorem PV (t:ak) (w:World) (hq:av [60,60] t=true):Calls Tryz.prog 184 #[.string (ag t)] w (bI 9 w):=by
 have g0:=aQ [43] hq (by decide)
 have g1:=aQ [45] hq (by decide)
 have g2:=aQ [42] hq (by decide)
 have g3:=aQ [47,47] hq (by decide)
 have g4:=aQ [37] hq (by decide)
 have g5:=aQ [38] hq (by decide)
 have g6:=aQ [124] hq (by decide)
 have g7:=aQ [126] hq (by decide)
 have g8:((ag t).toList == [60,60])=true:=aj (s:=[60,60]) (by decide) t hq
 generalize ag t=Y at *;clear hq;go_enter Tryz.func184,Tryz.ntmps184
 go_wp2
 go_ret
 exact⟨rfl,rfl⟩
theorem JM (t:ak) (w:World) (hq:av [62,62] t=true):Calls Tryz.prog 184 #[.string (ag t)] w (bI 10 w):=by
 have g0:=aQ [43] hq (by decide)
 have g1:=aQ [45] hq (by decide)
 have g2:=aQ [42] hq (by decide)
 have g3:=aQ [47,47] hq (by decide)
 have g4:=aQ [37] hq (by decide)
 have g5:=aQ [38] hq (by decide)
 have g6:=aQ [124] hq (by decide)
 have g7:=aQ [126] hq (by decide)
 have g8:=aQ [60,60] hq (by decide)
 have g9:((ag t).toList == [62,62])=true:=aj (s:=[62,62]) (by decide) t hq
 generalize ag t=Y at *;clear hq;go_enter Tryz.func184,Tryz.ntmps184
 go_wp2
 go_ret
 exact⟨rfl,rfl⟩
theorem JN (t:ak) (w:World) (hq:av [46,46] t=true):Calls Tryz.prog 184 #[.string (ag t)] w (bI 11 w):=by
 have g0:=aQ [43] hq (by decide)
 have g1:=aQ [45] hq (by decide)
 have g2:=aQ [42] hq (by decide)
 have g3:=aQ [47,47] hq (by decide)
 have g4:=aQ [37] hq (by decide)
 have g5:=aQ [38] hq (by decide)
 have g6:=aQ [124] hq (by decide)
 have g7:=aQ [126] hq (by decide)
 have g8:=aQ [60,60] hq (by decide)
 have g9:=aQ [62,62] hq (by decide)
 have g10:((ag t).toList == [46,46])=true:=aj (s:=[46,46]) (by decide) t hq
 generalize ag t=Y at *;clear hq;go_enter Tryz.func184,Tryz.ntmps184
 go_wp2
 go_ret
 exact⟨rfl,rfl⟩
theorem JO (t:ak) (w:World) (hq:av [61,61] t=true):Calls Tryz.prog 184 #[.string (ag t)] w (bI 12 w):=by
 have g0:=aQ [43] hq (by decide)
 have g1:=aQ [45] hq (by decide)
 have g2:=aQ [42] hq (by decide)
 have g3:=aQ [47,47] hq (by decide)
 have g4:=aQ [37] hq (by decide)
 have g5:=aQ [38] hq (by decide)
 have g6:=aQ [124] hq (by decide)
 have g7:=aQ [126] hq (by decide)
 have g8:=aQ [60,60] hq (by decide)
 have g9:=aQ [62,62] hq (by decide)
 have g10:=aQ [46,46] hq (by decide)
 have g11:((ag t).toList == [61,61])=true:=aj (s:=[61,61]) (by decide) t hq
 generalize ag t=Y at *;clear hq;go_enter Tryz.func184,Tryz.ntmps184
 go_wp2
 go_ret
 exact⟨rfl,rfl⟩
theorem JP (t:ak) (w:World) (hq:av [126,61] t=true):Calls Tryz.prog 184 #[.string (ag t)] w (bI 13 w):=by
 have g0:=aQ [43] hq (by decide)
 have g1:=aQ [45] hq (by decide)
 have g2:=aQ [42] hq (by decide)
 have g3:=aQ [47,47] hq (by decide)
 have g4:=aQ [37] hq (by decide)
 have g5:=aQ [38] hq (by decide)
 have g6:=aQ [124] hq (by decide)
 have g7:=aQ [126] hq (by decide)
 have g8:=aQ [60,60] hq (by decide)
 have g9:=aQ [62,62] hq (by decide)
 have g10:=aQ [46,46] hq (by decide)
 have g11:=aQ [61,61] hq (by decide)
 have g12:((ag t).toList == [126,61])=true:=aj (s:=[126,61]) (by decide) t hq
 generalize ag t=Y at *;clear hq;go_enter Tryz.func184,Tryz.ntmps184
 go_wp2
 go_ret
 exact⟨rfl,rfl⟩
theorem JR (t:ak) (w:World) (hq:av [60] t=true):Calls Tryz.prog 184 #[.string (ag t)] w (bI 14 w):=by
 have g0:=aQ [43] hq (by decide)
 have g1:=aQ [45] hq (by decide)
 have g2:=aQ [42] hq (by decide)
 have g3:=aQ [47,47] hq (by decide)
 have g4:=aQ [37] hq (by decide)
 have g5:=aQ [38] hq (by decide)
 have g6:=aQ [124] hq (by decide)
 have g7:=aQ [126] hq (by decide)
 have g8:=aQ [60,60] hq (by decide)
 have g9:=aQ [62,62] hq (by decide)
 have g10:=aQ [46,46] hq (by decide)
 have g11:=aQ [61,61] hq (by decide)
 have g12:=aQ [126,61] hq (by decide)
 have g13:((ag t).toList == [60])=true:=aj (s:=[60]) (by decide) t hq
 generalize ag t=Y at *;clear hq;go_enter Tryz.func184,Tryz.ntmps184
 go_wp2
 go_ret
 exact⟨rfl,rfl⟩
theorem JS (t:ak) (w:World) (hq:av [60,61] t=true):Calls Tryz.prog 184 #[.string (ag t)] w (bI 15 w):=by
 have g0:=aQ [43] hq (by decide)
 have g1:=aQ [45] hq (by decide)
 have g2:=aQ [42] hq (by decide)
 have g3:=aQ [47,47] hq (by decide)
 have g4:=aQ [37] hq (by decide)
 have g5:=aQ [38] hq (by decide)
 have g6:=aQ [124] hq (by decide)
 have g7:=aQ [126] hq (by decide)
 have g8:=aQ [60,60] hq (by decide)
 have g9:=aQ [62,62] hq (by decide)
 have g10:=aQ [46,46] hq (by decide)
 have g11:=aQ [61,61] hq (by decide)
 have g12:=aQ [126,61] hq (by decide)
 have g13:=aQ [60] hq (by decide)
 have g14:((ag t).toList == [60,61])=true:=aj (s:=[60,61]) (by decide) t hq
 generalize ag t=Y at *;clear hq;go_enter Tryz.func184,Tryz.ntmps184
 go_wp2
 go_ret
 exact⟨rfl,rfl⟩
theorem JT (t:ak) (w:World) (hq:av [62] t=true):Calls Tryz.prog 184 #[.string (ag t)] w (bI 16 w):=by
 have g0:=aQ [43] hq (by decide)
 have g1:=aQ [45] hq (by decide)
 have g2:=aQ [42] hq (by decide)
 have g3:=aQ [47,47] hq (by decide)
 have g4:=aQ [37] hq (by decide)
 have g5:=aQ [38] hq (by decide)
 have g6:=aQ [124] hq (by decide)
 have g7:=aQ [126] hq (by decide)
 have g8:=aQ [60,60] hq (by decide)
 have g9:=aQ [62,62] hq (by decide)
 have g10:=aQ [46,46] hq (by decide)
 have g11:=aQ [61,61] hq (by decide)
 have g12:=aQ [126,61] hq (by decide)
 have g13:=aQ [60] hq (by decide)
 have g14:=aQ [60,61] hq (by decide)
 have g15:((ag t).toList == [62])=true:=aj (s:=[62]) (by decide) t hq
 generalize ag t=Y at *;clear hq;go_enter Tryz.func184,Tryz.ntmps184
 go_wp2
 go_ret
 exact⟨rfl,rfl⟩
theorem JU (t:ak) (w:World) (hq:av [62,61] t=true):Calls Tryz.prog 184 #[.string (ag t)] w (bI 17 w):=by
 have g0:=aQ [43] hq (by decide)
 have g1:=aQ [45] hq (by decide)
 have g2:=aQ [42] hq (by decide)
 have g3:=aQ [47,47] hq (by decide)
 have g4:=aQ [37] hq (by decide)
 have g5:=aQ [38] hq (by decide)
 have g6:=aQ [124] hq (by decide)
 have g7:=aQ [126] hq (by decide)
 have g8:=aQ [60,60] hq (by decide)
 have g9:=aQ [62,62] hq (by decide)
 have g10:=aQ [46,46] hq (by decide)
 have g11:=aQ [61,61] hq (by decide)
 have g12:=aQ [126,61] hq (by decide)
 have g13:=aQ [60] hq (by decide)
 have g14:=aQ [60,61] hq (by decide)
 have g15:=aQ [62] hq (by decide)
 have g16:((ag t).toList == [62,61])=true:=aj (s:=[62,61]) (by decide) t hq
 generalize ag t=Y at *;clear hq;go_enter Tryz.func184,Tryz.ntmps184
 go_wp2
 go_ret
 exact⟨rfl,rfl⟩
theorem JV (t:ak) (w:World) (hq:av Iy t=true):Calls Tryz.prog 184 #[.string (ag t)] w (bI 18 w):=by
 have g0:=aQ [43] hq (by decide)
 have g1:=aQ [45] hq (by decide)
 have g2:=aQ [42] hq (by decide)
 have g3:=aQ [47,47] hq (by decide)
 have g4:=aQ [37] hq (by decide)
 have g5:=aQ [38] hq (by decide)
 have g6:=aQ [124] hq (by decide)
 have g7:=aQ [126] hq (by decide)
 have g8:=aQ [60,60] hq (by decide)
 have g9:=aQ [62,62] hq (by decide)
 have g10:=aQ [46,46] hq (by decide)
 have g11:=aQ [61,61] hq (by decide)
 have g12:=aQ [126,61] hq (by decide)
 have g13:=aQ [60] hq (by decide)
 have g14:=aQ [60,61] hq (by decide)
 have g15:=aQ [62] hq (by decide)
 have g16:=aQ [62,61] hq (by decide)
 have g17:((ag t).toList == [97,110,100])=true:=aj (s:=Iy) (by decide) t hq
 generalize ag t=Y at *;clear hq;go_enter Tryz.func184,Tryz.ntmps184
 go_wp2
 go_ret
 exact⟨rfl,rfl⟩
theorem JW (t:ak) (w:World) (hq:av wOr t=true):Calls Tryz.prog 184 #[.string (ag t)] w (bI 19 w):=by
 have g0:=aQ [43] hq (by decide)
 have g1:=aQ [45] hq (by decide)
 have g2:=aQ [42] hq (by decide)
 have g3:=aQ [47,47] hq (by decide)
 have g4:=aQ [37] hq (by decide)
 have g5:=aQ [38] hq (by decide)
 have g6:=aQ [124] hq (by decide)
 have g7:=aQ [126] hq (by decide)
 have g8:=aQ [60,60] hq (by decide)
 have g9:=aQ [62,62] hq (by decide)
 have g10:=aQ [46,46] hq (by decide)
 have g11:=aQ [61,61] hq (by decide)
 have g12:=aQ [126,61] hq (by decide)
 have g13:=aQ [60] hq (by decide)
 have g14:=aQ [60,61] hq (by decide)
 have g15:=aQ [62] hq (by decide)
 have g16:=aQ [62,61] hq (by decide)
 have g17:=aQ [97,110,100] hq (by decide)
 have g18:((ag t).toList == [111,114])=true:=aj (s:=wOr) (by decide) t hq
 generalize ag t=Y at *;clear hq;go_enter Tryz.func184,Tryz.ntmps184
 go_wp2
 go_ret
 exact⟨rfl,rfl⟩
theorem PW (t:ak) (w:World) (q0:av [43] t=false) (q1:av [45] t=false) (q2:av [42] t=false) (q3:av [47,47] t=false) (q4:av [37] t=false) (q5:av [38] t=false) (q6:av [124] t=false) (q7:av [126] t=false) (q8:av [60,60] t=false) (q9:av [62,62] t=false) (UX:av [46,46] t=false) (yK:av [61,61] t=false) (Xg:av [126,61] t=false) (Xh:av [60] t=false) (Xi:av [60,61] t=false) (Xj:av [62] t=false) (Rw:av [62,61] t=false) (Xk:av Iy t=false) (zC:av wOr t=false):Calls Tryz.prog 184 #[.string (ag t)] w (bI 0 w):=by
 have g0:((ag t).toList == [43])=false:=aj (s:=[43]) (by decide) t q0
 have g1:((ag t).toList == [45])=false:=aj (s:=[45]) (by decide) t q1
 have g2:((ag t).toList == [42])=false:=aj (s:=[42]) (by decide) t q2
 have g3:((ag t).toList == [47,47])=false:=aj (s:=[47,47]) (by decide) t q3
 have g4:((ag t).toList == [37])=false:=aj (s:=[37]) (by decide) t q4
 have g5:((ag t).toList == [38])=false:=aj (s:=[38]) (by decide) t q5
 have g6:((ag t).toList == [124])=false:=aj (s:=[124]) (by decide) t q6
 have g7:((ag t).toList == [126])=false:=aj (s:=[126]) (by decide) t q7
 have g8:((ag t).toList == [60,60])=false:=aj (s:=[60,60]) (by decide) t q8
 have g9:((ag t).toList == [62,62])=false:=aj (s:=[62,62]) (by decide) t q9
 have g10:((ag t).toList == [46,46])=false:=aj (s:=[46,46]) (by decide) t UX
 have g11:((ag t).toList == [61,61])=false:=aj (s:=[61,61]) (by decide) t yK
 have g12:((ag t).toList == [126,61])=false:=aj (s:=[126,61]) (by decide) t Xg
 have g13:((ag t).toList == [60])=false:=aj (s:=[60]) (by decide) t Xh
 have g14:((ag t).toList == [60,61])=false:=aj (s:=[60,61]) (by decide) t Xi
 have g15:((ag t).toList == [62])=false:=aj (s:=[62]) (by decide) t Xj
 have g16:((ag t).toList == [62,61])=false:=aj (s:=[62,61]) (by decide) t Rw
 have g17:((ag t).toList == [97,110,100])=false:=aj (s:=Iy) (by decide) t Xk
 have g18:((ag t).toList == [111,114])=false:=aj (s:=wOr) (by decide) t zC
 clear q0 q1 q2 q3 q4 q5 q6 q7 q8 q9 UX yK Xg Xh Xi Xj Rw Xk zC;generalize ag t=Y at *;go_enter Tryz.func184,Tryz.ntmps184
 go_wp2
 go_ret
 exact⟨rfl,rfl⟩
theorem PX (t:ak) (w:World):Calls Tryz.prog 184 #[.string (ag t)] w (bI (eJ t) w):=by
 rcases eK (av [43] t) with q0|q0
 ·rw[show eJ t=1 from by rcases aN q0 with ⟨l,n,rfl⟩ | ⟨l,n,rfl⟩<;>rfl]
  exact binary_1 t w q0
 rcases eK (av [45] t) with q1|q1
 ·rw[show eJ t=2 from by rcases aN q1 with ⟨l,n,rfl⟩ | ⟨l,n,rfl⟩<;>rfl]
  exact PK t w q1
 rcases eK (av [42] t) with q2|q2
 ·rw[show eJ t=3 from by rcases aN q2 with ⟨l,n,rfl⟩ | ⟨l,n,rfl⟩<;>rfl]
  exact PM t w q2
 rcases eK (av [47,47] t) with q3|q3
 ·rw[show eJ t=4 from by rcases aN q3 with ⟨l,n,rfl⟩ | ⟨l,n,rfl⟩<;>rfl]
  exact PN t w q3
 rcases eK (av [37] t) with q4|q4
 ·rw[show eJ t=5 from by rcases aN q4 with ⟨l,n,rfl⟩ | ⟨l,n,rfl⟩<;>rfl]
  exact PO t w q4
 rcases eK (av [38] t) with q5|q5
 ·rw[show eJ t=6 from by rcases aN q5 with ⟨l,n,rfl⟩ | ⟨l,n,rfl⟩<;>rfl]
  exact PQ t w q5
 rcases eK (av [124] t) with q6|q6
 ·rw[show eJ t=7 from by rcases aN q6 with ⟨l,n,rfl⟩ | ⟨l,n,rfl⟩<;>rfl]
  exact PT t w q6
 rcases eK (av [126] t) with q7|q7
 ·rw[show eJ t=8 from by rcases aN q7 with ⟨l,n,rfl⟩ | ⟨l,n,rfl⟩<;>rfl]
  exact PU t w q7
 rcases eK (av [60,60] t) with q8|q8
 ·rw[show eJ t=9 from by rcases aN q8 with ⟨l,n,rfl⟩ | ⟨l,n,rfl⟩<;>rfl]
  exact PV t w q8
 rcases eK (av [62,62] t) with q9|q9
 ·rw[show eJ t=10 from by rcases aN q9 with ⟨l,n,rfl⟩ | ⟨l,n,rfl⟩<;>rfl]
  exact JM t w q9
 rcases eK (av [46,46] t) with UX|UX
 ·rw[show eJ t=11 from by rcases aN UX with ⟨l,n,rfl⟩ | ⟨l,n,rfl⟩<;>rfl]
  exact JN t w UX
 rcases eK (av [61,61] t) with yK|yK
 ·rw[show eJ t=12 from by rcases aN yK with ⟨l,n,rfl⟩ | ⟨l,n,rfl⟩<;>rfl]
  exact JO t w yK
 rcases eK (av [126,61] t) with Xg|Xg
 ·rw[show eJ t=13 from by rcases aN Xg with ⟨l,n,rfl⟩ | ⟨l,n,rfl⟩<;>rfl]
  exact JP t w Xg
 rcases eK (av [60] t) with Xh|Xh
 ·rw[show eJ t=14 from by rcases aN Xh with ⟨l,n,rfl⟩ | ⟨l,n,rfl⟩<;>rfl]
  exact JR t w Xh
 rcases eK (av [60,61] t) with Xi|Xi
 ·rw[show eJ t=15 from by rcases aN Xi with ⟨l,n,rfl⟩ | ⟨l,n,rfl⟩<;>rfl]
  exact JS t w Xi
 rcases eK (av [62] t) with Xj|Xj
 ·rw[show eJ t=16 from by rcases aN Xj with ⟨l,n,rfl⟩ | ⟨l,n,rfl⟩<;>rfl]
  exact JT t w Xj
 rcases eK (av [62,61] t) with Rw|Rw
 ·rw[show eJ t=17 from by rcases aN Rw with ⟨l,n,rfl⟩ | ⟨l,n,rfl⟩<;>rfl]
  exact JU t w Rw
 rcases eK (av Iy t) with Xk|Xk
 ·rw[show eJ t=18 from by rcases aN Xk with ⟨l,n,rfl⟩ | ⟨l,n,rfl⟩<;>rfl]
  exact JV t w Xk
 rcases eK (av wOr t) with zC|zC
 ·rw[show eJ t=19 from by rcases aN zC with ⟨l,n,rfl⟩ | ⟨l,n,rfl⟩<;>rfl]
  exact JW t w zC
 rw[show eJ t=0 from by unfold eJ;rw[show mL t=none from by simp[mL,q0,q1,q2,q3,q4,q5,q6,q7,q8,q9,UX,yK,Xg,Xh,Xi,Xj,Rw,Xk,zC]]]
 exact PW t w q0 q1 q2 q3 q4 q5 q6 q7 q8 q9 UX yK Xg Xh Xi Xj Rw Xk zC
theorem PY (t:ak) (w:World) (hq:av [45] t=true):Calls Tryz.prog 201 #[.string (ag t)] w (bI 20 w):=by
 have g0:((ag t).toList == [45])=true:=aj (s:=[45]) (by decide) t hq
 generalize ag t=Y at *;clear hq;go_enter Tryz.func201,Tryz.ntmps201
 go_wp2
 go_ret
 exact⟨rfl,rfl⟩
theorem PZ (t:ak) (w:World) (hq:av [126] t=true):Calls Tryz.prog 201 #[.string (ag t)] w (bI 21 w):=by
 have g0:=aQ [45] hq (by decide)
 have g1:((ag t).toList == [126])=true:=aj (s:=[126]) (by decide) t hq
 generalize ag t=Y at *;clear hq;go_enter Tryz.func201,Tryz.ntmps201
 go_wp2
 go_ret
 exact⟨rfl,rfl⟩
theorem Qa (t:ak) (w:World) (hq:av Dy t=true):Calls Tryz.prog 201 #[.string (ag t)] w (bI 22 w):=by
 have g0:=aQ [45] hq (by decide)
 have g1:=aQ [126] hq (by decide)
 have g2:((ag t).toList == [110,111,116])=true:=aj (s:=Dy) (by decide) t hq
 generalize ag t=Y at *;clear hq;go_enter Tryz.func201,Tryz.ntmps201
 go_wp2
 go_ret
 exact⟨rfl,rfl⟩
theorem Qb (t:ak) (w:World) (hq:av [35] t=true):Calls Tryz.prog 201 #[.string (ag t)] w (bI 23 w):=by
 have g0:=aQ [45] hq (by decide)
 have g1:=aQ [126] hq (by decide)
 have g2:=aQ [110,111,116] hq (by decide)
 have g3:((ag t).toList == [35])=true:=aj (s:=[35]) (by decide) t hq
 generalize ag t=Y at *;clear hq;go_enter Tryz.func201,Tryz.ntmps201
 go_wp2
 go_ret
 exact⟨rfl,rfl⟩
theorem UY (t:ak) (w:World) (q0:av [45] t=false) (q1:av [126] t=false) (q2:av Dy t=false) (q3:av [35] t=false):Calls Tryz.prog 201 #[.string (ag t)] w (bI 0 w):=by
 have g0:((ag t).toList == [45])=false:=aj (s:=[45]) (by decide) t q0
 have g1:((ag t).toList == [126])=false:=aj (s:=[126]) (by decide) t q1
 have g2:((ag t).toList == [110,111,116])=false:=aj (s:=Dy) (by decide) t q2
 have g3:((ag t).toList == [35])=false:=aj (s:=[35]) (by decide) t q3
 clear q0 q1 q2 q3;generalize ag t=Y at *;go_enter Tryz.func201,Tryz.ntmps201
 go_wp2
 go_ret
 exact⟨rfl,rfl⟩
theorem kt (t:ak) (w:World):Calls Tryz.prog 201 #[.string (ag t)] w (bI (ft t) w):=by
 rcases eK (av [45] t) with q0|q0
 ·rw[show ft t=20 from by rcases aN q0 with ⟨l,n,rfl⟩ | ⟨l,n,rfl⟩<;>rfl]
  exact PY t w q0
 rcases eK (av [126] t) with q1|q1
 ·rw[show ft t=21 from by rcases aN q1 with ⟨l,n,rfl⟩ | ⟨l,n,rfl⟩<;>rfl]
  exact PZ t w q1
 rcases eK (av Dy t) with q2|q2
 ·rw[show ft t=22 from by rcases aN q2 with ⟨l,n,rfl⟩ | ⟨l,n,rfl⟩<;>rfl]
  exact Qa t w q2
 rcases eK (av [35] t) with q3|q3
 ·rw[show ft t=23 from by rcases aN q3 with ⟨l,n,rfl⟩ | ⟨l,n,rfl⟩<;>rfl]
  exact Qb t w q3
 rw[show ft t=0 from by unfold ft;rw[show lf t=none from by simp[lf,q0,q1,q2,q3]]]
 exact UY t w q0 q1 q2 q3
def KU (k:Int):Int:=if k=0 then 0 else if k=19 then 1 else if k=18 then 2 else if 12≤k∧k≤17 then 3 else if k=7 then 4 else if k=8 then 5 else if k=6 then 6 else if k=9∨k=10 then 7 else if k=11 then 8 else if k=1∨k=2 then 9 else if 3≤k∧k≤5 then 10 else 11
def wy (k:Int):Int:=if k=11 then 7 else KU k
theorem vx (k:Int) (w:World) (h0:0≤k) (h1:k≤23):Calls Tryz.prog 185 #[.int .i64 k] w (bI (KU k) w):=by
 have h:k=0∨k=1∨k=2∨k=3∨k=4∨k=5∨k=6∨k=7∨k=8∨k=9∨k=10∨k=11∨k=12∨k=13∨k=14∨k=15∨k=16∨k=17∨k=18∨k=19∨k=20∨k=21∨k=22∨k=23:=by omega
 rcases h with rfl|rfl|rfl|rfl|rfl|rfl|rfl|rfl|rfl|rfl|rfl|rfl|rfl|rfl|rfl|rfl|rfl|rfl|rfl|rfl|rfl|rfl|rfl|rfl <;>
 ·clear h0 h1
  go_enter Tryz.func185,Tryz.ntmps185
  go_wp2
  go_ret
  exact⟨rfl,rfl⟩
theorem Qc (k:Int) (w:World) (h0:0≤k) (h1:k≤23):Calls Tryz.prog 204 #[.int .i64 k] w (bI (wy k) w):=by
 have HC:=aa (vx k w h0 h1);by_cases hk:k=11
 ·subst hk
  rw[show KU 11=8 from rfl] at HC
  rw[show wy 11=7 from rfl]
  clear h0 h1;go_enter Tryz.func204,Tryz.ntmps204
  go_wp2_with fail
  refine HC.out.mono ?_;rintro e w1 ⟨rfl,rfl⟩;go_wp2_with fail
  go_ret
  exact⟨rfl,rfl⟩
 ·rw[show wy k=KU k from by unfold wy;rw[ab hk]]
  have g1:(k == 11)=false:=aC.2 hk;generalize KU k=S at *;clear h0 h1 hk;go_enter Tryz.func204,Tryz.ntmps204
  go_wp2_with fail
  refine HC.out.mono ?_;rintro e w1 ⟨rfl,rfl⟩;go_wp2_with fail
  go_ret
  exact⟨rfl,rfl⟩
theorem mn {t:ak} {o:Int×Nat×Nat} (h:mL t=some o):eJ t=o.1∧KU o.1=(o.2.1:Int)∧wy o.1+1=(o.2.2:Int)∧1≤o.1∧o.1≤19:=by
 refine⟨by unfold eJ;rw[h],?_⟩
 unfold mL at h;repeat' (rcases Ce h with rfl|h;exact⟨by decide,by decide,by decide,by decide⟩)
 exact absurd h (by simp)
theorem xU {t:ak} (h:mL t=none):eJ t=0:=by unfold eJ;rw[h]
theorem Qd {wp:iQ} (op:Int) (h0:0≤op) (h1:op≤23) (hB:sa 162 (wy op) wp) (b g1 g2:Nat) (O:Nat→Prop) (ts:List ak) (T:List Nd) (K:Ast→List ak→Prop) (E:Int→Prop) (w:World) (hp:PS w b O ts T) (b1:eI w O g1 #[.pointer (some ⟨b,0,none⟩)] 117) (b2:eI w O g2 #[.int .i64 op] 3) (hk:wp ts T.length K E) :
  Calls Tryz.prog 203 #[.pointer (some ⟨g1,0,none⟩),.pointer (some ⟨g2,0,none⟩)] w (aF b O T (RK K E) w):=by
 have c1:=b1.cell 0;have c2:=b2.cell 0;have HS:=aa (fun W=>Qc op W h0 h1)
 have HB:=aa (fun(W:World) hW=>hB b O ts T K E W hW hk)
 have HP:=aa hp;generalize wy op=l at *;clear b1 b2 hp hk hB h0 h1;go_enter Tryz.func203,Tryz.ntmps203
 go_wp2_with fail
 go_region_with (first
  | (go_at_call 204;refine(HS.out _).mono ?_;rintro e w2 ⟨rfl,rfl⟩)
  | (go_at_call 162;refine(HB.out _ (HP.out.below (by exact⟨rfl,rfl,rfl,ah _,fun _ _=>rfl⟩))).mono ?_;intro e w3 h3;obtain⟨v,er,rfl⟩:=h3.ret;have H3:=aa h3;clear h3))
 all_goals go_wp2
 all_goals go_ret2
 all_goals exact H3.out.after ⟨rfl,rfl,rfl,ah _,fun _ _ _=>rfl,fun _ _=>rfl⟩
theorem GM {wp:iQ} (op:Int) (h0:0≤op) (h1:op≤23) (hB:sa 162 (wy op) wp) (b:Nat) (O:Nat→Prop) (w:World) (hO :∀k,O k→k<w.heap.size):Calls Tryz.prog 186 #[.pointer (some ⟨b,0,none⟩),.int .i64 op] w (kq b O (dx wp) w):=by
 obtain⟨w1,ec⟩ :∃w1,w1=w.alloc (.cells #[.pointer (some ⟨b,0,none⟩)] 117):=⟨_,rfl⟩;obtain⟨w2,hw2⟩ :∃w2,w2=w1.alloc (.cells #[.int .i64 op] 3):=⟨_,rfl⟩;have f1:ax O w w1:=by rw[ec];exact(ax.refl _ _).alloc _
 have f2:ax O w1 w2:=by rw[hw2];exact(ax.refl _ _).alloc _
 have z1:w1.heap.size=w.heap.size+1:=by rw[ec,aq]
 have b1:eI w1 O w.heap.size #[.pointer (some ⟨b,0,none⟩)] 117:=by rw[ec];exact eI.new w O hO _ _
 have b2:eI w2 O (w.heap.size+1) #[.int .i64 op] 3:=by rw[hw2,←z1];exact eI.new w1 O (fun k hk=>by have:=hO k hk;omega) _ _
 have Cl:One w2 b O (.func (.func 203) #[] #[.pointer (some ⟨w.heap.size,0,none⟩),.pointer (some ⟨w.heap.size+1,0,none⟩)]) wp:=by
  intro W1 O1 T ts K E hf he hp hk;refine⟨203,_,_,rfl,enters_of Tryz.func203 (by kernel_rfl) rfl,?_⟩
  exact Qd op h0 h1 hB b _ _ O1 ts T K E W1 hp ((b1.later f2 (Ext.refl _ _)).later hf he) (b2.later hf he) hk
 have HK:=aa (Ck b O 203 _ _ wp w2 Cl fun k hk=>by have:=hO k hk;have:=f1.size;have:=f2.size;omega)
 have HB:Hid (Below w.heap.size w w2):=aa (by rw[hw2,ec];exact((Below.refl _ _).alloc (ah _) _).alloc (by simp) _)
 rw[hw2,ec] at HK HB;clear ec hw2 f1 f2 z1 b1 b2 Cl hB h0 h1;go_enter Tryz.func186,Tryz.ntmps186
 go_wp2_with fail
 refine HK.out.mono ?_;rintro e w1 ⟨v,rfl,b1,h2,f,first,cap,rfl⟩
 have H2:=aa h2;have B1:=aa (ay HB.out b1);clear h2 b1;go_wp2_with fail
 go_ret
 exact⟨f,first,cap,rfl,B1.out,H2.out⟩
def Co (rt:Int→iQ) (l:Int):Nat→Ast→List ak→Nat→(Ast→List ak→Prop)→(Int→Prop)→Prop
 | 0,_,_,_,_,_=>False
 | k+1,a,ts,n,K,E=>∃t r,ts=t::r∧(KU (eJ t)≤l→K a ts) ∧
  (¬ KU (eJ t)≤l→aJ [aB,dx (rt (eJ t))] ⟨⟨12,t.2.1,eJ t,0,⟨#[]⟩,[],[]⟩,[a],ts,n+a.size⟩ (bT fun a' aA=>Co rt l k a' aA n K E) E)
theorem El (t:ak):0≤eJ t∧eJ t≤19:=by
 cases h:mL t with
 | none=>rw[xU h];decide
 | some o=>have:=mn h;omega
theorem UZ {od:iQ} {rt:Int→iQ} (hO:pI 183 od) (l:Int) (hR :∀op,1≤op→op≤19→sa 162 (wy op) (rt op)) (hl:0≤l):sa 162 l fun ts n K E=>od ts n (fun a fK=>∃m,Co rt l m a fK n K E) E:=by
 intro b O ts T0 K E w hp hk;have HA:=aa (hO b O ts T0 _ E w hp hk);have HR:=aa hR;have HL:=aa hl;clear hO hp hk hR hl;go_enter Tryz.func162,Tryz.ntmps162
 go_wp2_with fail
 refine HA.out.mono ?_;intro e w1 h1;have F1:=aa h1.1;rcases h1.2 with ⟨p,a,fK,O1,T1,rfl,p1,x1,l1,k1⟩ | ⟨le,v,er,rfl,⟨g',rfl,m2,m3⟩,k1⟩
 ·obtain⟨m,k1⟩:=k1
  have P1:=aa p1;have X1:=aa x1;have L1:=aa l1;have K1:=aa k1;clear h1 p1 x1 l1 k1;go_wp2_with fail
  go_loopg [6,7] (m+1) (fun z lv ev wr=>(∃(p:Nat) (a:Ast) (tr:List ak) (Or:Nat→Prop) (Tr:List Nd) (k:Nat),lv=.int .i64 (p:Int)∧ev=.nilIface∧z=k+1∧PS wr b Or tr Tr∧ax O w wr∧Ext O Or w∧eA T0 Tr [a] [(p:Int)]∧Co rt l k a tr T0.length K E) ∨
   (∃(le:Int) (g':Nat),ev=.iface 82 (.pointer (some ⟨g',0,none⟩))∧w.heap.size≤g'∧wr.heap[g']? = some (.cells #[.int .i64 6,.int .i64 le] 86 (0,0))∧ax O w wr∧E le))
  case atStart=>exact .inl ⟨p,a,fK,O1,T1,m,rfl,rfl,rfl,P1.out,F1.out,X1.out,L1.out,K1.out⟩
  case round =>
   rcases hrel with ⟨p,a,tr,Or,Tr,k,rfl,rfl,rfl,pr,fr,xr,lr,kr⟩ | ⟨le,g',rfl,hg,m3,fr,ke⟩
   ·cases k with
    | zero=>exact kr.elim
    | succ k =>
     obtain⟨t,r,rfl,hle,RC⟩:=kr;have PR:=aa pr;have FR:=aa fr;have XR:=aa xr;have LR:=aa lr;have HW:=aa (bJ b Or t r Tr wr pr);have xw:=aa (fun W=>PX t W)
     have hbr:=El t;have HST:=aa (fun W=>vx (eJ t) W hbr.1 (by omega))
     have HRP:Hid (¬ KU (eJ t)≤l→1≤eJ t):=aa fun h=>by
      have h0:eJ t≠0:=fun e=>h (by rw[e];exact HL.out)
      omega
     have HLE:=aa hle;have HGT:=aa RC;have ab3:=aa hbr.2;clear pr fr xr lr hle RC hbr F1 P1 X1 L1 K1 HA;generalize hY:ag t=Y at *;generalize hop:eJ t=op at *;generalize hst:KU op=st at *;clear hY hop;have HSE:=aa hst;clear hst;by_cases hc:st≤l
     ·have g1:decide (st≤l)=true:=bQ hc
      have HC:=aa hc;clear hc;go_wp2_with fail
      refine HW.out.mono ?_;rintro e w2 ⟨rfl,b2⟩;have B2:=aa b2;clear b2;go_wp2_with fail
      refine(xw.out _).mono ?_;rintro e w3 ⟨rfl,rfl⟩;go_wp2_with fail
      refine(HST.out _).mono ?_;rintro e w3 ⟨rfl,rfl⟩;go_wp2_with fail
      go_ret2
      exact⟨FR.out.trans (ax.af (O:=Or) B2.out) XR.out,.inl ⟨p,a,t::r,Or,Tr,rfl,PR.out.below B2.out,XR.out,LR.out,HLE.out HC.out⟩⟩
     ·have g1:decide (st≤l)=false:=bZ hc
      have HC:=aa hc;clear hc;go_wp2_with fail
      refine HW.out.mono ?_;rintro e w2 ⟨rfl,b2⟩;have B2:=aa b2;clear b2;go_wp2_with fail
      refine(xw.out _).mono ?_;rintro e w3 ⟨rfl,rfl⟩;go_wp2_with fail
      refine(HST.out _).mono ?_;rintro e w3 ⟨rfl,rfl⟩;have p2:=PR.out.below B2.out;have P2:=aa p2;have hown2 :∀k,Or k→k<w3.heap.size:=fun k hk=>(p2.own k hk).2
      have hb2:b<w3.heap.size:=(p2.own b p2.at_).2;have HV:=aa (GM op (by have:=HRP.out HC.out;omega) (by have:=ab3.out;omega) (HR.out op (HRP.out HC.out) ab3.out) b (fun k=>Or k∨k=w3.heap.size) (w3.alloc (.cells #[.int .i64 (p:Int)] 3)) (fun k hk=>by
       rcases hk with hk|hk
       ·have:=hown2 k hk;simp;omega
       ·simp;omega))
      have HO2:=aa hown2;clear p2 hown2;go_wp2_with fail
      refine HV.out.mono ?_;rintro e w4 ⟨fi,fa,fc,rfl,b4,h4⟩;have hg4:w4.heap[w3.heap.size]? = some (.cells #[.int .i64 (p:Int)] 3 (0,0)):=(b4.block w3.heap.size (by simp)).trans (World.alloc_heap_new w3 _)
      have B4:=aa (ay (aW w3 _) b4);have p4:=P2.out.below B4.out;have HN:=aa (PJ w4 w3.heap.size p a p4 hg4 (fun h=>by have:=HO2.out _ h;omega) (by omega) LR.out ⟨12,0,op,0,⟨#[]⟩,[],[]⟩ rfl [ba 55 b,.func (.func fi) fa fc] [aB,dx (rt op)] (by simp) ⟨bg w4 b _,h4,trivial⟩ (HGT.out HC.out))
      have F4:=aa ((FR.out.trans (ax.af (O:=Or) B2.out) XR.out).trans (ax.af (O:=Or) B4.out) XR.out);have X4:Hid (Ext O (fun k=>Or k∨k=w3.heap.size) w):=aa fun k hk=>by
       rcases hk with hk|rfl
       ·exact XR.out k hk
       ·exact .inr (aL FR.out.size B2.out.size)
      clear hg4 p4 b4 h4 xw HST HRP HV HO2;go_wp2_with fail
      refine HN.out.mono ?_;intro e w5 h5;have F5:=aa (F4.out.trans h5.1 X4.out);rcases h5.2 with ⟨p5,a5,ts5,O5,T5,rfl,q5,x5,l5,k5⟩ | ⟨le,v,er,rfl,⟨g',rfl,m2,m3⟩,k5⟩
      ·have Q5:=aa q5
       have X5:=aa (X4.out.trans x5 F4.out.size);have L5:=aa l5;have K5:=aa k5;clear h5 q5 x5 l5 k5;go_wp2_with fail
       go_roundg (k+1)
       case measure=>omega
       case rel=>exact .inl ⟨p5,a5,ts5,O5,T5,k,rfl,rfl,rfl,Q5.out,F5.out,X5.out,L5.out,K5.out⟩
      ·have M3:=aa m3
       have M2:=aa (aL F4.out.size m2);have K5:=aa k5;clear h5 m2 m3 k5;go_wp2_with fail
       go_roundg (k+1)
       case measure=>omega
       case rel=>exact .inr ⟨le,g',rfl,M2.out,M3.out,F5.out,K5.out⟩
   ·have M3:=aa m3
    have HG:=aa hg;have FR:=aa fr;have KE:=aa ke;clear m3 hg fr ke;go_wp2_with fail
    go_ret2
    exact⟨FR.out,.inr ⟨le,_,_,rfl,⟨g',rfl,HG.out,M3.out⟩,KE.out⟩⟩
 ·have M3:=aa m3
  have M2:=aa m2;have K1:=aa k1;clear h1 m2 m3 k1;go_wp2_with fail
  go_loopg [6,7] 1 (fun z lv ev wr=>lv=v∧ev=.iface 82 (.pointer (some ⟨g',0,none⟩))∧wr=w1)
  case atStart=>exact⟨rfl,rfl,rfl⟩
  case round =>
   obtain⟨rfl,rfl,rfl⟩:=hrel;go_wp2_with fail
   go_ret2
   exact⟨F1.out,.inr ⟨le,_,_,rfl,⟨g',rfl,M2.out,M3.out⟩,K1.out⟩⟩
theorem zk {wp:iQ} (hB:sa 162 0 wp):pI 131 wp:=by
 intro b O ts T K E w hp hk;have HN:=aa (hB b O ts T K E w hp hk);clear hp hk hB;go_enter Tryz.func131,Tryz.ntmps131
 go_wp2_with fail
 refine HN.out.mono ?_;intro e wz hz;obtain⟨v,er,rfl⟩:=hz.ret;have HZ:=aa hz;clear hz;go_wp2_with fail
 go_ret2
 exact HZ.out
theorem qS {b:Nat} {O:Nat→Prop} {t:ak} {ts:List ak} {T:List Nd} {K:Ast→List ak→Prop} {E:Int→Prop} (w w2:World) (g:Nat) (hg:g=w2.heap.size) (hp:PS w2 b O (t::ts) T) (hf:ax O w w2) (x:Nd) (hx:x=⟨x.kind,0,x.op,x.num,x.s,[],[]⟩) (vs:List Value) (cO:List bW) (hl:vs.length≤100) (hall:jQ w2 b O vs cO)
  (hk:aJ cO ⟨{ x with line:=t.2.1},[],t::ts,T.length⟩ (bT K) E):Calls Tryz.prog 23 #[.pointer (some ⟨b,0,none⟩),da x (.slice none 0 0) (.slice none 0 0),.slice (some ⟨g,0,none⟩) vs.length vs.length] (w2.alloc (.cells vs.toArray 123)) (aF b O T (RK K E) w):=by
 subst hg;exact cD w w2 hp hf x hx vs cO hl hall hk
set_option maxRecDepth 40000 in
theorem U0 (b:Nat) (O:Nat→Prop) (t:ak) (ts:List ak) (T:List Nd) (K:Ast→List ak→Prop) (E:Int→Prop) (w:World) (hp:PS w b O (t::ts) T) (h3:t.1=3)
  (hk:aJ [aB] ⟨⟨4,t.2.1,0,t.2.2.1,⟨#[]⟩,[],[]⟩,[],t::ts,T.length⟩ (bT K) E) :
  Calls Tryz.prog 183 #[.pointer (some ⟨b,0,none⟩)] w (aF b O T (RK K E) w):=by
 obtain⟨t0,t1,t2,t3⟩:=t;have HA:=aa (cC b O (t0,t1,t2,t3) ts T w hp);unfold gb at HA;dsimp only at *
 have q3:(t0 == 3)=true:=wL.2 h3;have HK:=aa hk;have P:=aa hp;clear hp hk h3;generalize hS:bx t3=S at *;clear hS;go_enter Tryz.func183,Tryz.ntmps183
 go_wp2_with fail
 refine HA.out.mono ?_;rintro e w1 ⟨rfl,b1⟩;have BL:=aa (ay b1 (aW w1 (.cells #[.int .i64 t0,.int .i64 t1,.int .i64 t2,.string S] 114)));have FL:=aa (ax.af (O:=O) BL.out);have sd:=aa (P.out.below BL.out);clear b1;have HN:=aa (qS w (w1.alloc (.cells #[.int .i64 t0,.int .i64 t1,.int .i64 t2,.string S] 114)) (w1.heap.size+1) (by simp) sd.out FL.out ⟨4,0,0,t2,⟨#[]⟩,[],[]⟩ rfl [ba 55 b] [aB] (by simp) ⟨bg _ b O,trivial⟩ HK.out)
 go_wp2_with fail
 refine HN.out.mono ?_;intro e wz hz;obtain⟨v,er,rfl⟩:=hz.ret;have HZ:=aa hz;clear hz;go_wp2_with fail
 go_ret2
 exact HZ.out
set_option maxRecDepth 40000 in
theorem U3 (b:Nat) (O:Nat→Prop) (t:ak) (ts:List ak) (T:List Nd) (K:Ast→List ak→Prop) (E:Int→Prop) (w:World) (hp:PS w b O (t::ts) T) (h3:t.1≠3) (h4:t.1=4)
  (hk:aJ [aB] ⟨⟨5,t.2.1,0,0,bx t.2.2.2,[],[]⟩,[],t::ts,T.length⟩ (bT K) E) :
  Calls Tryz.prog 183 #[.pointer (some ⟨b,0,none⟩)] w (aF b O T (RK K E) w):=by
 obtain⟨t0,t1,t2,t3⟩:=t;have HA:=aa (cC b O (t0,t1,t2,t3) ts T w hp);unfold gb at HA;dsimp only at *
 have q3:(t0 == 3)=false:=aC.2 h3;have q4:(t0 == 4)=true:=wL.2 h4;have HK:=aa hk;have P:=aa hp;clear hp hk h3 h4;generalize hS:bx t3=S at *;clear hS;go_enter Tryz.func183,Tryz.ntmps183
 go_wp2_with fail
 refine HA.out.mono ?_;rintro e w1 ⟨rfl,b1⟩;have BL:=aa (ay b1 (aW w1 (.cells #[.int .i64 t0,.int .i64 t1,.int .i64 t2,.string S] 114)));have FL:=aa (ax.af (O:=O) BL.out);have sd:=aa (P.out.below BL.out);clear b1;have HN:=aa (qS w (w1.alloc (.cells #[.int .i64 t0,.int .i64 t1,.int .i64 t2,.string S] 114)) (w1.heap.size+1) (by simp) sd.out FL.out ⟨5,0,0,0,S,[],[]⟩ rfl [ba 55 b] [aB] (by simp) ⟨bg _ b O,trivial⟩ HK.out)
 go_wp2_with fail
 refine HN.out.mono ?_;intro e wz hz;obtain⟨v,er,rfl⟩:=hz.ret;have HZ:=aa hz;clear hz;go_wp2_with fail
 go_ret2
 exact HZ.out
theorem pL {s:List UInt8} {t:ak} (h:av s t=true):t.1≠3:=by rcases aN h with ⟨l,n,rfl⟩ | ⟨l,n,rfl⟩<;>(intro e;simp at e)
theorem iZ {s:List UInt8} {t:ak} (h:av s t=true):t.1≠4:=by rcases aN h with ⟨l,n,rfl⟩ | ⟨l,n,rfl⟩<;>(intro e;simp at e)
theorem Em {t:ak} (h:ft t≠0):20≤ft t∧ft t≤23:=by
 cases hu:lf t with
 | none=>exact absurd (by unfold ft;rw[hu]) h
 | some o=>rw[show ft t=o by unfold ft;rw[hu]];exact y9 hu
set_option maxRecDepth 40000 in
theorem U4 {rt:Int→iQ} (hR :∀op,20≤op→op≤23→sa 162 (wy op) (rt op)) (b:Nat) (O:Nat→Prop) (t:ak) (ts:List ak) (T:List Nd) (K:Ast→List ak→Prop) (E:Int→Prop) (w:World) (hp:PS w b O (t::ts) T) (h3:t.1≠3) (h4:t.1≠4) (hu:ft t≠0)
  (hk:aJ [aB,dx (rt (ft t))] ⟨⟨13,t.2.1,ft t,0,⟨#[]⟩,[],[]⟩,[],t::ts,T.length⟩ (bT K) E) :
  Calls Tryz.prog 183 #[.pointer (some ⟨b,0,none⟩)] w (aF b O T (RK K E) w):=by
 obtain⟨t0,t1,t2,t3⟩:=t;have HA:=aa (cC b O (t0,t1,t2,t3) ts T w hp);have HW:=aa (fun W hW=>bJ b O (t0,t1,t2,t3) ts T W hW)
 unfold gb at HA;dsimp only at *
 have q3:(t0 == 3)=false:=aC.2 h3;have q4:(t0 == 4)=false:=aC.2 h4;have HU:=aa (fun W=>kt (t0,t1,t2,t3) W)
 have hr:=Em hu;have HRR:=aa (hR _ hr.1 hr.2);have HRG:=aa hr;have qu:(ft (t0,t1,t2,t3) != 0)=true:=oL.2 hu;have HK:=aa hk;generalize hop:ft (t0,t1,t2,t3)=op at *;generalize hY:ag (t0,t1,t2,t3)=Y at *;have P:=aa hp;clear hp hk h3 h4 hu hr hop hY hR;generalize hS:bx t3=S at *;clear hS;go_enter Tryz.func183,Tryz.ntmps183
 go_wp2_with fail
 refine HA.out.mono ?_;rintro e w1 ⟨rfl,b1⟩;have BL:=aa (ay b1 (aW w1 (.cells #[.int .i64 t0,.int .i64 t1,.int .i64 t2,.string S] 114)));have FL:=aa (ax.af (O:=O) BL.out);have sd:=aa (P.out.below BL.out);clear b1;have je:=aa (HW.out _ sd.out);clear HW;go_wp2_with fail
 refine je.out.mono ?_;rintro e w2 ⟨rfl,b2⟩;have F2:=aa (FL.out.trans (ax.af (O:=O) b2) (Ext.refl _ _));have P2:=aa (sd.out.below b2);clear b2;go_wp2_with fail
 refine(HU.out _).mono ?_;rintro e w3 ⟨rfl,rfl⟩;have F3:=F2;have P3:=P2;have C7 :∀k,O k→k<w3.heap.size:=fun k hk=>(P3.out.own k hk).2
 have V4:=aa (GM op (by have:=HRG.out;omega) HRG.out.2 HRR.out b O w3 C7)
 clear C7;go_wp2_with fail
 refine V4.out.mono ?_;rintro e w4 ⟨f4,a4,c4,rfl,b4,h4⟩;have F4:=aa (F3.out.trans (ax.af (O:=O) b4) (Ext.refl _ _));have P4:=aa (P3.out.below b4);have H4:=aa h4;clear b4 h4 V4;have HN:=aa (cD w w4 P4.out F4.out ⟨13,0,op,0,⟨#[]⟩,[],[]⟩ rfl [ba 55 b,.func (.func f4) a4 c4] [aB,dx (rt op)] (by simp) ⟨bg w4 b O,H4.out,trivial⟩ HK.out)
 go_wp2_with fail
 refine HN.out.mono ?_;intro e wz hz;obtain⟨v,er,rfl⟩:=hz.ret;have HZ:=aa hz;clear hz;go_wp2_with fail
 go_ret2
 exact HZ.out
set_option maxRecDepth 40000 in
theorem U5 (b:Nat) (O:Nat→Prop) (t:ak) (ts:List ak) (T:List Nd) (K:Ast→List ak→Prop) (E:Int→Prop) (w:World) (hp:PS w b O (t::ts) T) (hq:av te t=true)
  (hk:aJ [aB] ⟨dy 1 t.2.1,[],t::ts,T.length⟩ (bT K) E) :
  Calls Tryz.prog 183 #[.pointer (some ⟨b,0,none⟩)] w (aF b O T (RK K E) w):=by
 obtain⟨t0,t1,t2,t3⟩:=t;have h3:=pL hq;have h4:=iZ hq;have hu:ft (t0,t1,t2,t3)=0:=by rcases aN hq with ⟨l,n,e1⟩ | ⟨l,n,e1⟩<;>(rw[e1];rfl)
 have HA:=aa (cC b O (t0,t1,t2,t3) ts T w hp);have HW:=aa (fun W hW=>bJ b O (t0,t1,t2,t3) ts T W hW)
 unfold gb at HA;dsimp only at *
 have q3:(t0 == 3)=false:=aC.2 h3;have q4:(t0 == 4)=false:=aC.2 h4;have HU:=aa (fun W=>kt (t0,t1,t2,t3) W)
 rw[hu] at HU;have g0:((ag (t0,t1,t2,t3)).toList == [110,105,108])=true:=aj (s:=te) (by decide) _ hq
 have HK:=aa hk;generalize hY:ag (t0,t1,t2,t3)=Y at *;have P:=aa hp;clear hp hk h3 h4 hu hY hq;generalize hS:bx t3=S at *;clear hS;go_enter Tryz.func183,Tryz.ntmps183
 go_wp2_with fail
 refine HA.out.mono ?_;rintro e w1 ⟨rfl,b1⟩;have BL:=aa (ay b1 (aW w1 (.cells #[.int .i64 t0,.int .i64 t1,.int .i64 t2,.string S] 114)));have FL:=aa (ax.af (O:=O) BL.out);have sd:=aa (P.out.below BL.out);clear b1;have je:=aa (HW.out _ sd.out);go_wp2_with fail
 refine je.out.mono ?_;rintro e w2 ⟨rfl,b2⟩;have F2:=aa (FL.out.trans (ax.af (O:=O) b2) (Ext.refl _ _));have P2:=aa (sd.out.below b2);clear b2;go_wp2_with fail
 refine(HU.out _).mono ?_;rintro e w3 ⟨rfl,rfl⟩;have lG:=aa (HW.out _ P2.out);go_wp2_with fail
 refine lG.out.mono ?_;rintro e w4 ⟨rfl,b4⟩;have F4:=aa (F2.out.trans (ax.af (O:=O) b4) (Ext.refl _ _));have P4:=aa (P2.out.below b4);clear b4 HW je lG HU;have HN:=aa (cD w w4 P4.out F4.out (mN 1) rfl [ba 55 b] [aB] (by simp) ⟨bg w4 b O,trivial⟩ HK.out)
 go_wp2_with fail
 refine HN.out.mono ?_;intro e wz hz;obtain⟨v,er,rfl⟩:=hz.ret;have HZ:=aa hz;clear hz;go_wp2_with fail
 go_ret2
 exact HZ.out
set_option maxRecDepth 40000 in
theorem Qe (b:Nat) (O:Nat→Prop) (t:ak) (ts:List ak) (T:List Nd) (K:Ast→List ak→Prop) (E:Int→Prop) (w:World) (hp:PS w b O (t::ts) T) (hq:av nr t=true)
  (hk:aJ [aB] ⟨dy 2 t.2.1,[],t::ts,T.length⟩ (bT K) E) :
  Calls Tryz.prog 183 #[.pointer (some ⟨b,0,none⟩)] w (aF b O T (RK K E) w):=by
 obtain⟨t0,t1,t2,t3⟩:=t;have h3:=pL hq;have h4:=iZ hq;have hu:ft (t0,t1,t2,t3)=0:=by rcases aN hq with ⟨l,n,e1⟩ | ⟨l,n,e1⟩<;>(rw[e1];rfl)
 have HA:=aa (cC b O (t0,t1,t2,t3) ts T w hp);have HW:=aa (fun W hW=>bJ b O (t0,t1,t2,t3) ts T W hW)
 unfold gb at HA;dsimp only at *
 have q3:(t0 == 3)=false:=aC.2 h3;have q4:(t0 == 4)=false:=aC.2 h4;have HU:=aa (fun W=>kt (t0,t1,t2,t3) W)
 rw[hu] at HU;have g0:((ag (t0,t1,t2,t3)).toList == [110,105,108])=false:=aj (s:=te) (by decide) _ (bn hq (by decide))
 have g1:((ag (t0,t1,t2,t3)).toList == [116,114,117,101])=true:=aj (s:=nr) (by decide) _ hq
 have HK:=aa hk;generalize hY:ag (t0,t1,t2,t3)=Y at *;have P:=aa hp;clear hp hk h3 h4 hu hY hq;generalize hS:bx t3=S at *;clear hS;go_enter Tryz.func183,Tryz.ntmps183
 go_wp2_with fail
 refine HA.out.mono ?_;rintro e w1 ⟨rfl,b1⟩;have BL:=aa (ay b1 (aW w1 (.cells #[.int .i64 t0,.int .i64 t1,.int .i64 t2,.string S] 114)));have FL:=aa (ax.af (O:=O) BL.out);have sd:=aa (P.out.below BL.out);clear b1;have je:=aa (HW.out _ sd.out);go_wp2_with fail
 refine je.out.mono ?_;rintro e w2 ⟨rfl,b2⟩;have F2:=aa (FL.out.trans (ax.af (O:=O) b2) (Ext.refl _ _));have P2:=aa (sd.out.below b2);clear b2;go_wp2_with fail
 refine(HU.out _).mono ?_;rintro e w3 ⟨rfl,rfl⟩;have lG:=aa (HW.out _ P2.out);go_wp2_with fail
 refine lG.out.mono ?_;rintro e w4 ⟨rfl,b4⟩;have F4:=aa (F2.out.trans (ax.af (O:=O) b4) (Ext.refl _ _));have P4:=aa (P2.out.below b4);clear b4 HW je lG HU;have HN:=aa (cD w w4 P4.out F4.out (mN 2) rfl [ba 55 b] [aB] (by simp) ⟨bg w4 b O,trivial⟩ HK.out)
 go_wp2_with fail
 refine HN.out.mono ?_;intro e wz hz;obtain⟨v,er,rfl⟩:=hz.ret;have HZ:=aa hz;clear hz;go_wp2_with fail
 go_ret2
 exact HZ.out
set_option maxRecDepth 40000 in
theorem JX (b:Nat) (O:Nat→Prop) (t:ak) (ts:List ak) (T:List Nd) (K:Ast→List ak→Prop) (E:Int→Prop) (w:World) (hp:PS w b O (t::ts) T) (hq:av kB t=true)
  (hk:aJ [aB] ⟨dy 3 t.2.1,[],t::ts,T.length⟩ (bT K) E) :
  Calls Tryz.prog 183 #[.pointer (some ⟨b,0,none⟩)] w (aF b O T (RK K E) w):=by
 obtain⟨t0,t1,t2,t3⟩:=t;have h3:=pL hq;have h4:=iZ hq;have hu:ft (t0,t1,t2,t3)=0:=by rcases aN hq with ⟨l,n,e1⟩ | ⟨l,n,e1⟩<;>(rw[e1];rfl)
 have HA:=aa (cC b O (t0,t1,t2,t3) ts T w hp);have HW:=aa (fun W hW=>bJ b O (t0,t1,t2,t3) ts T W hW)
 unfold gb at HA;dsimp only at *
 have q3:(t0 == 3)=false:=aC.2 h3;have q4:(t0 == 4)=false:=aC.2 h4;have HU:=aa (fun W=>kt (t0,t1,t2,t3) W)
 rw[hu] at HU;have g0:((ag (t0,t1,t2,t3)).toList == [110,105,108])=false:=aj (s:=te) (by decide) _ (bn hq (by decide))
 have g1:((ag (t0,t1,t2,t3)).toList == [116,114,117,101])=false:=aj (s:=nr) (by decide) _ (bn hq (by decide))
 have g2:((ag (t0,t1,t2,t3)).toList == [102,97,108,115,101])=true:=aj (s:=kB) (by decide) _ hq
 have HK:=aa hk;generalize hY:ag (t0,t1,t2,t3)=Y at *;have P:=aa hp;clear hp hk h3 h4 hu hY hq;generalize hS:bx t3=S at *;clear hS;go_enter Tryz.func183,Tryz.ntmps183
 go_wp2_with fail
 refine HA.out.mono ?_;rintro e w1 ⟨rfl,b1⟩;have BL:=aa (ay b1 (aW w1 (.cells #[.int .i64 t0,.int .i64 t1,.int .i64 t2,.string S] 114)));have FL:=aa (ax.af (O:=O) BL.out);have sd:=aa (P.out.below BL.out);clear b1;have je:=aa (HW.out _ sd.out);go_wp2_with fail
 refine je.out.mono ?_;rintro e w2 ⟨rfl,b2⟩;have F2:=aa (FL.out.trans (ax.af (O:=O) b2) (Ext.refl _ _));have P2:=aa (sd.out.below b2);clear b2;go_wp2_with fail
 refine(HU.out _).mono ?_;rintro e w3 ⟨rfl,rfl⟩;have lG:=aa (HW.out _ P2.out);go_wp2_with fail
 refine lG.out.mono ?_;rintro e w4 ⟨rfl,b4⟩;have F4:=aa (F2.out.trans (ax.af (O:=O) b4) (Ext.refl _ _));have P4:=aa (P2.out.below b4);clear b4 HW je lG HU;have HN:=aa (cD w w4 P4.out F4.out (mN 3) rfl [ba 55 b] [aB] (by simp) ⟨bg w4 b O,trivial⟩ HK.out)
 go_wp2_with fail
 refine HN.out.mono ?_;intro e wz hz;obtain⟨v,er,rfl⟩:=hz.ret;have HZ:=aa hz;clear hz;go_wp2_with fail
 go_ret2
 exact HZ.out
set_option maxRecDepth 40000 in
theorem Qf (b:Nat) (O:Nat→Prop) (t:ak) (ts:List ak) (T:List Nd) (K:Ast→List ak→Prop) (E:Int→Prop) (w:World) (hp:PS w b O (t::ts) T) (hq:av [46,46,46] t=true)
  (hk:aJ [aB] ⟨dy 6 t.2.1,[],t::ts,T.length⟩ (bT K) E) :
  Calls Tryz.prog 183 #[.pointer (some ⟨b,0,none⟩)] w (aF b O T (RK K E) w):=by
 obtain⟨t0,t1,t2,t3⟩:=t;have h3:=pL hq;have h4:=iZ hq;have hu:ft (t0,t1,t2,t3)=0:=by rcases aN hq with ⟨l,n,e1⟩ | ⟨l,n,e1⟩<;>(rw[e1];rfl)
 have HA:=aa (cC b O (t0,t1,t2,t3) ts T w hp);have HW:=aa (fun W hW=>bJ b O (t0,t1,t2,t3) ts T W hW)
 unfold gb at HA;dsimp only at *
 have q3:(t0 == 3)=false:=aC.2 h3;have q4:(t0 == 4)=false:=aC.2 h4;have HU:=aa (fun W=>kt (t0,t1,t2,t3) W)
 rw[hu] at HU;have g0:((ag (t0,t1,t2,t3)).toList == [110,105,108])=false:=aj (s:=te) (by decide) _ (bn hq (by decide))
 have g1:((ag (t0,t1,t2,t3)).toList == [116,114,117,101])=false:=aj (s:=nr) (by decide) _ (bn hq (by decide))
 have g2:((ag (t0,t1,t2,t3)).toList == [102,97,108,115,101])=false:=aj (s:=kB) (by decide) _ (bn hq (by decide))
 have g3:((ag (t0,t1,t2,t3)).toList == [46,46,46])=true:=aj (s:=[46,46,46]) (by decide) _ hq
 have HK:=aa hk;generalize hY:ag (t0,t1,t2,t3)=Y at *;have P:=aa hp;clear hp hk h3 h4 hu hY hq;generalize hS:bx t3=S at *;clear hS;go_enter Tryz.func183,Tryz.ntmps183
 go_wp2_with fail
 refine HA.out.mono ?_;rintro e w1 ⟨rfl,b1⟩;have BL:=aa (ay b1 (aW w1 (.cells #[.int .i64 t0,.int .i64 t1,.int .i64 t2,.string S] 114)));have FL:=aa (ax.af (O:=O) BL.out);have sd:=aa (P.out.below BL.out);clear b1;have je:=aa (HW.out _ sd.out);go_wp2_with fail
 refine je.out.mono ?_;rintro e w2 ⟨rfl,b2⟩;have F2:=aa (FL.out.trans (ax.af (O:=O) b2) (Ext.refl _ _));have P2:=aa (sd.out.below b2);clear b2;go_wp2_with fail
 refine(HU.out _).mono ?_;rintro e w3 ⟨rfl,rfl⟩;have lG:=aa (HW.out _ P2.out);go_wp2_with fail
 refine lG.out.mono ?_;rintro e w4 ⟨rfl,b4⟩;have F4:=aa (F2.out.trans (ax.af (O:=O) b4) (Ext.refl _ _));have P4:=aa (P2.out.below b4);clear b4 HW je lG HU;have HN:=aa (cD w w4 P4.out F4.out (mN 6) rfl [ba 55 b] [aB] (by simp) ⟨bg w4 b O,trivial⟩ HK.out)
 go_wp2_with fail
 refine HN.out.mono ?_;intro e wz hz;obtain⟨v,er,rfl⟩:=hz.ret;have HZ:=aa hz;clear hz;go_wp2_with fail
 go_ret2
 exact HZ.out
set_option maxRecDepth 40000 in
theorem zm {bd:bW} (En:eu 141 bd) (b:Nat) (O:Nat→Prop) (t:ak) (ts:List ak) (T:List Nd) (K:Ast→List ak→Prop) (E:Int→Prop) (w:World) (hp:PS w b O (t::ts) T) (hq:av bq t=true)
  (hk:aJ [aB,bd] ⟨dy 11 t.2.1,[],t::ts,T.length⟩ (bT K) E) :
  Calls Tryz.prog 183 #[.pointer (some ⟨b,0,none⟩)] w (aF b O T (RK K E) w):=by
 obtain⟨t0,t1,t2,t3⟩:=t;have h3:=pL hq;have h4:=iZ hq;have hu:ft (t0,t1,t2,t3)=0:=by rcases aN hq with ⟨l,n,e1⟩ | ⟨l,n,e1⟩<;>(rw[e1];rfl)
 have HA:=aa (cC b O (t0,t1,t2,t3) ts T w hp);have HW:=aa (fun W hW=>bJ b O (t0,t1,t2,t3) ts T W hW)
 unfold gb at HA;dsimp only at *
 have q3:(t0 == 3)=false:=aC.2 h3;have q4:(t0 == 4)=false:=aC.2 h4;have HU:=aa (fun W=>kt (t0,t1,t2,t3) W)
 rw[hu] at HU;have g0:((ag (t0,t1,t2,t3)).toList == [110,105,108])=false:=aj (s:=te) (by decide) _ (bn hq (by decide))
 have g1:((ag (t0,t1,t2,t3)).toList == [116,114,117,101])=false:=aj (s:=nr) (by decide) _ (bn hq (by decide))
 have g2:((ag (t0,t1,t2,t3)).toList == [102,97,108,115,101])=false:=aj (s:=kB) (by decide) _ (bn hq (by decide))
 have g3:((ag (t0,t1,t2,t3)).toList == [46,46,46])=false:=aj (s:=[46,46,46]) (by decide) _ (bn hq (by decide))
 have g4:((ag (t0,t1,t2,t3)).toList == [102,117,110,99,116,105,111,110])=true:=aj (s:=bq) (by decide) _ hq
 have HK:=aa hk;generalize hY:ag (t0,t1,t2,t3)=Y at *;have P:=aa hp;clear hp hk h3 h4 hu hY hq;generalize hS:bx t3=S at *;clear hS;go_enter Tryz.func183,Tryz.ntmps183
 go_wp2_with fail
 refine HA.out.mono ?_;rintro e w1 ⟨rfl,b1⟩;have BL:=aa (ay b1 (aW w1 (.cells #[.int .i64 t0,.int .i64 t1,.int .i64 t2,.string S] 114)));have FL:=aa (ax.af (O:=O) BL.out);have sd:=aa (P.out.below BL.out);clear b1;have je:=aa (HW.out _ sd.out);go_wp2_with fail
 refine je.out.mono ?_;rintro e w2 ⟨rfl,b2⟩;have F2:=aa (FL.out.trans (ax.af (O:=O) b2) (Ext.refl _ _));have P2:=aa (sd.out.below b2);clear b2;go_wp2_with fail
 refine(HU.out _).mono ?_;rintro e w3 ⟨rfl,rfl⟩;have lG:=aa (HW.out _ P2.out);go_wp2_with fail
 refine lG.out.mono ?_;rintro e w4 ⟨rfl,b4⟩;have F4:=aa (F2.out.trans (ax.af (O:=O) b4) (Ext.refl _ _));have P4:=aa (P2.out.below b4);clear b4 HW je lG HU;have HN:=aa (cD w w4 P4.out F4.out (mN 11) rfl [ba 55 b,ba 141 b] [aB,bd] (by simp) ⟨bg w4 b O,En.part (enters_of Tryz.func141 (by kernel_rfl) rfl) w4 b O,trivial⟩ HK.out)
 go_wp2_with fail
 refine HN.out.mono ?_;intro e wz hz;obtain⟨v,er,rfl⟩:=hz.ret;have HZ:=aa hz;clear hz;go_wp2_with fail
 go_ret2
 exact HZ.out
set_option maxRecDepth 40000 in
theorem U6 {it:bW} (JI:eu 212 it) (b:Nat) (O:Nat→Prop) (t:ak) (ts:List ak) (T:List Nd) (K:Ast→List ak→Prop) (E:Int→Prop) (w:World) (hp:PS w b O (t::ts) T) (hq:av [123] t=true)
  (hk:aJ [aB,dF [125] it,au [[125]]] ⟨dy 15 t.2.1,[],t::ts,T.length⟩ (bT K) E) :
  Calls Tryz.prog 183 #[.pointer (some ⟨b,0,none⟩)] w (aF b O T (RK K E) w):=by
 obtain⟨t0,t1,t2,t3⟩:=t;have h3:=pL hq;have h4:=iZ hq;have hu:ft (t0,t1,t2,t3)=0:=by rcases aN hq with ⟨l,n,e1⟩ | ⟨l,n,e1⟩<;>(rw[e1];rfl)
 have HA:=aa (cC b O (t0,t1,t2,t3) ts T w hp);have HW:=aa (fun W hW=>bJ b O (t0,t1,t2,t3) ts T W hW)
 unfold gb at HA;dsimp only at *
 have q3:(t0 == 3)=false:=aC.2 h3;have q4:(t0 == 4)=false:=aC.2 h4;have HU:=aa (fun W=>kt (t0,t1,t2,t3) W)
 rw[hu] at HU;have g0:((ag (t0,t1,t2,t3)).toList == [110,105,108])=false:=aj (s:=te) (by decide) _ (bn hq (by decide))
 have g1:((ag (t0,t1,t2,t3)).toList == [116,114,117,101])=false:=aj (s:=nr) (by decide) _ (bn hq (by decide))
 have g2:((ag (t0,t1,t2,t3)).toList == [102,97,108,115,101])=false:=aj (s:=kB) (by decide) _ (bn hq (by decide))
 have g3:((ag (t0,t1,t2,t3)).toList == [46,46,46])=false:=aj (s:=[46,46,46]) (by decide) _ (bn hq (by decide))
 have g4:((ag (t0,t1,t2,t3)).toList == [102,117,110,99,116,105,111,110])=false:=aj (s:=bq) (by decide) _ (bn hq (by decide))
 have g5:((ag (t0,t1,t2,t3)).toList == [123])=true:=aj (s:=[123]) (by decide) _ hq
 have HK:=aa hk;generalize hY:ag (t0,t1,t2,t3)=Y at *;have P:=aa hp;clear hp hk h3 h4 hu hY hq;generalize hS:bx t3=S at *;clear hS;go_enter Tryz.func183,Tryz.ntmps183
 go_wp2_with fail
 refine HA.out.mono ?_;rintro e w1 ⟨rfl,b1⟩;have BL:=aa (ay b1 (aW w1 (.cells #[.int .i64 t0,.int .i64 t1,.int .i64 t2,.string S] 114)));have FL:=aa (ax.af (O:=O) BL.out);have sd:=aa (P.out.below BL.out);clear b1;have je:=aa (HW.out _ sd.out);go_wp2_with fail
 refine je.out.mono ?_;rintro e w2 ⟨rfl,b2⟩;have F2:=aa (FL.out.trans (ax.af (O:=O) b2) (Ext.refl _ _));have P2:=aa (sd.out.below b2);clear b2;go_wp2_with fail
 refine(HU.out _).mono ?_;rintro e w3 ⟨rfl,rfl⟩;have lG:=aa (HW.out _ P2.out);go_wp2_with fail
 refine lG.out.mono ?_;rintro e w4 ⟨rfl,b4⟩;have F4:=aa (F2.out.trans (ax.af (O:=O) b4) (Ext.refl _ _));have P4:=aa (P2.out.below b4);clear b4 HW je lG HU;have HN:=aa ((UT JI b O _ ts T K E w4 P4.out HK.out).mono fun _ _ h=>h.after F4.out)
 go_wp2_with fail
 refine HN.out.mono ?_;intro e wz hz;obtain⟨v,er,rfl⟩:=hz.ret;have HZ:=aa hz;clear hz;go_wp2_with fail
 go_ret2
 exact HZ.out
structure Qg (t:ak):Prop where
 n3:t.1≠3
 n4:t.1≠4
 un:ft t=0
 a:av te t=false
 b:av nr t=false
 c:av kB t=false
 d:av [46,46,46] t=false
 e:av bq t=false
 f:av [123] t=false
set_option maxRecDepth 40000 in
theorem U7 {sf:iQ} (hS:pI 142 sf) (b:Nat) (O:Nat→Prop) (t:ak) (ts:List ak) (T:List Nd) (K:Ast→List ak→Prop) (E:Int→Prop) (w:World) (hp:PS w b O (t::ts) T) (hq:Qg t)
  (hk:sf (t::ts) T.length K E) :
  Calls Tryz.prog 183 #[.pointer (some ⟨b,0,none⟩)] w (aF b O T (RK K E) w):=by
 obtain⟨t0,t1,t2,t3⟩:=t;have h3:=hq.n3;have h4:=hq.n4;have hu:=hq.un;have HA:=aa (cC b O (t0,t1,t2,t3) ts T w hp);have HW:=aa (fun W hW=>bJ b O (t0,t1,t2,t3) ts T W hW)
 unfold gb at HA;dsimp only at *
 have q3:(t0 == 3)=false:=aC.2 h3;have q4:(t0 == 4)=false:=aC.2 h4;have HU:=aa (fun W=>kt (t0,t1,t2,t3) W)
 rw[hu] at HU;have g0:((ag (t0,t1,t2,t3)).toList == [110,105,108])=false:=aj (s:=te) (by decide) _ hq.a
 have g1:((ag (t0,t1,t2,t3)).toList == [116,114,117,101])=false:=aj (s:=nr) (by decide) _ hq.b
 have g2:((ag (t0,t1,t2,t3)).toList == [102,97,108,115,101])=false:=aj (s:=kB) (by decide) _ hq.c
 have g3:((ag (t0,t1,t2,t3)).toList == [46,46,46])=false:=aj (s:=[46,46,46]) (by decide) _ hq.d
 have g4:((ag (t0,t1,t2,t3)).toList == [102,117,110,99,116,105,111,110])=false:=aj (s:=bq) (by decide) _ hq.e
 have g5:((ag (t0,t1,t2,t3)).toList == [123])=false:=aj (s:=[123]) (by decide) _ hq.f
 have HK:=aa hk;generalize hY:ag (t0,t1,t2,t3)=Y at *;have P:=aa hp;clear hp hk h3 h4 hu hY hq;generalize hS:bx t3=S at *;clear hS;go_enter Tryz.func183,Tryz.ntmps183
 go_wp2_with fail
 refine HA.out.mono ?_;rintro e w1 ⟨rfl,b1⟩;have BL:=aa (ay b1 (aW w1 (.cells #[.int .i64 t0,.int .i64 t1,.int .i64 t2,.string S] 114)));have FL:=aa (ax.af (O:=O) BL.out);have sd:=aa (P.out.below BL.out);clear b1;have je:=aa (HW.out _ sd.out);go_wp2_with fail
 refine je.out.mono ?_;rintro e w2 ⟨rfl,b2⟩;have F2:=aa (FL.out.trans (ax.af (O:=O) b2) (Ext.refl _ _));have P2:=aa (sd.out.below b2);clear b2;go_wp2_with fail
 refine(HU.out _).mono ?_;rintro e w3 ⟨rfl,rfl⟩;have lG:=aa (HW.out _ P2.out);go_wp2_with fail
 refine lG.out.mono ?_;rintro e w4 ⟨rfl,b4⟩;have F4:=aa (F2.out.trans (ax.af (O:=O) b4) (Ext.refl _ _));have P4:=aa (P2.out.below b4);clear b4 HW je lG HU;have HN:=aa ((hS b O _ T K E w4 P4.out HK.out).mono fun _ _ h=>h.after F4.out)
 go_wp2_with fail
 refine HN.out.mono ?_;intro e wz hz;obtain⟨v,er,rfl⟩:=hz.ret;have HZ:=aa hz;clear hz;go_wp2_with fail
 go_ret2
 exact HZ.out
end Go.Proofs.YtodmcdfeldkocaaGreatDoor
