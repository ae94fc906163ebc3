/- Parts of the proof. -/
import Derived.Test.YteflkdlaoiijbaaGreatDoorB05
set_option maxHeartbeats 16000000
set_option maxRecDepth 20000
namespace Go.Proofs.YteflkdlaoiijbaaGreatDoor
open Go.RowKit
abbrev DB:GL Ast:=bg .wQ
def th:bV:=dp (dQ (mN 5) [cL])
section
variable {α:Type} {K:α→List ah→Prop} {E:Int→Prop} {K':St→Prop} {N k n:Nat} {h:Nd} {xs:List Ast} {ts:List ah}
theorem DC {kk:ah→GL α} (hI:Rm N k ⟨h,xs,ts,n⟩) (H:Gw (name kk) ts K E)
  (hk :∀(t:ah) (r:List ah),Rm N (k+1) ⟨h,xs++[kf 5 t.2.1 (bu t.2.2.2) []],r,n+Ast.al [kf 5 t.2.1 (bu t.2.2.2) []]⟩→r.length<ts.length→Gw (kk t) r K E→K' ⟨h,xs++[kf 5 t.2.1 (bu t.2.2.2) []],r,n+Ast.al [kf 5 t.2.1 (bu t.2.2.2) []]⟩):th ⟨h,xs,ts,n⟩ K' E:=by
 obtain⟨t,r,jk⟩:=hI.cons;dsimp only at jk
 subst jk;have hn:=hI.n;have hx:=hI.xs;dsimp only[List.length_cons] at hn hx
 refine jN (by dsimp only;omega) ⟨t,r,t.2.1,rfl,.inl ⟨rfl,rfl⟩,⟨t,r,rfl,fun ht=>⟨by dsimp only;omega,nR.mk (hk t r ?_ (by simp) (H.name.1 ht))⟩,H.name.2⟩⟩
 have hz:Ast.al [kf 5 t.2.1 (bu t.2.2.2) []]=1:=by rw[tF,lh,cj]
 have hl:=hI.len;dsimp only[List.length_cons] at hl
 exact⟨by dsimp only;omega,by rw[hz];dsimp only;omega,by simp;omega,hI.wf.tail (by rw[ht];decide)⟩
theorem FG {kk:Ast→GL α} {at_:Int} {self:List ByteArray} (hI:Rm N k ⟨h,xs,ts,n⟩) (hat:at_≠0) (hs:self.length≤100000) (H:Gw (.call (.Ac at_ self) kk) ts K E)
  (hk :∀(b:Ast) (au:List ah),Rm N k ⟨h,xs++[b],au,n+Ast.al [b]⟩→au.length<ts.length→Gw (kk b) au K E→K' ⟨h,xs++[b],au,n+Ast.al [b]⟩):dp (dQ ⟨11,at_,0,0,⟨#[]⟩,self,[]⟩ [xw N]) ⟨h,xs,ts,n⟩ K' E:=by
 obtain⟨t,r,jk⟩:=hI.cons;dsimp only at jk
 subst jk;have hn:=hI.n;have hx:=hI.xs;dsimp only at hn hx
 refine jN (by dsimp only;omega) ⟨t,r,at_,rfl,.inr ⟨hat,rfl⟩,?_⟩
 refine M0 (k:=k) ⟨hI.len,hn,by dsimp only[List.length_nil];omega,hI.wf⟩ hs ((Gw.call H).mono fun(b:Ast) au p hq=>nR.mk (hk b au (hI.kids (by rw[tF];have hz:b.size+2*au.length≤2*(t::r).length:=hq.1;omega) (PL.short p) (p.wf hI.wf)) ?_ hq.2))
 have hz:b.size+2*au.length≤2*(t::r).length:=hq.1;have:=size_pos b;omega
end
def xx:Nat→Ast→List ah→Nat→(Ast→List ByteArray→List ah→Prop)→(Int→Prop)→Prop
 | 0,_,_,_,_,_=>False
 | k+1,a,ts,n,K,E=>∃t r,ts=t::r∧(ax [46] t=true→aI [aC,th] ⟨dr 8 t.2.1,[a],ts,n+a.size⟩ (bT fun a' au=>xx k a' au n K E) E) ∧
  (ax [46] t=false→(ax [58] t=true→aI [aC,th] ⟨dr 8 t.2.1,[a],ts,n+a.size⟩ (bT fun a' au=>K a' [bu wP] au) E)∧(ax [58] t=false→K a [] ts))
def Iy (N:Nat):bV:=fun s K E=>s.xs=[]∧∃t ts,s.ts=t::ts∧t.1≠0∧dQ (mN 7) [cL] ts s.n (fun a eB=>∃m,xx m a eB s.n (fun a2 self eP =>
 aI [eo,dp (dQ ⟨11,t.2.1,0,0,⟨#[]⟩,self,[]⟩ [xw N])] ⟨s.h,[a2],eP,s.n+Ast.al [a2]⟩ K E) E) E
def Iz (N:Nat):bV:=fun s K E=>∃t ts,s.ts=t::ts∧(ax bc t=false→aI [iC,bw [61] [nQ N]] { s with h:={ s.h with kind:=19}} K E) ∧
 (ax bc t=true→∃u us,ts=u::us∧(u.1≠1→E u.2.1)∧(u.1=1→dp (dQ ⟨11,t.2.1,0,0,⟨#[]⟩,[],[]⟩ [xw N]) { s with h:={ s.h with kind:=28,names:=[bu u.2.2.2]},ts:=us} K E))
def isVar (a:Ast):Prop:=a.hd.kind=7∨a.hd.kind=8
def We (N:Nat):iV:=fun ts n K E=>sN N DB ts n (fun a eB=>(isVar a→K a eB)∧(¬ isVar a→∃t r,eB=t::r∧E t.2.1)) E
def Wg (N:Nat):bV:=lY (We N) cO
def YH (M N:Nat):bV:=fun s K E=>s.xs=[]∧sN M DB s.ts s.n (fun a eB=>(a.hd.kind=9∨a.hd.kind=10→K ⟨{ s.h with kind:=21},[a],eB,s.n+Ast.al [a]⟩) ∧
 (isVar a→aI [bw [44] [Wg N],eo,av [[61]],nQ N] ⟨{ s.h with kind:=20},[a],eB,s.n+Ast.al [a]⟩ K E)∧(¬ (a.hd.kind=9∨a.hd.kind=10)→¬ isVar a→∃t r,eB=t::r∧E t.2.1)) E
section
variable {K:Ast→List ah→Prop} {E:Int→Prop} {K':St→Prop} {N k n:Nat} {h:Nd} {xs:List Ast} {t:ah} {ts:List ah}
theorem YI (at_:Int) (n:Nat) (C:Ast→List ByteArray→List ah→Prop) (hC :∀a self ts k,Rm N k ⟨dr 20 at_,[a],ts,n+Ast.al [a]⟩→self.length≤1→Gw (.call (.Ac at_ self) fun(f:Ast)=>.ret (Cy 20 at_ 1 [a,f])) ts K E→C a self ts) :∀(m:Nat) (ts:List ah) (a:Ast) (k:Nat),ts.length<m→Rm N k ⟨dr 20 at_,[a],ts,n+Ast.al [a]⟩→Gw (bg (.QZ at_ a):GL Ast) ts K E→xx m a ts n C E:=by
 intro m;induction m with
 | zero=>intro ts a k h;omega
 | succ m ih =>
  intro ts a k h1 hI H;obtain⟨t,r,rfl⟩:=hI.wf.fin.cons;have G:=Gw.look H;have step :∀(j:Nat) (x y:Ast) (au:List ah),Rm N (j+1) ⟨dr 8 t.2.1,[a]++[x],au,n+a.size+Ast.al [x]⟩→y.size=Ast.al ([a]++[x])+1→Rm N j ⟨dr 20 at_,[y],au,n+Ast.al [y]⟩:=fun j x y au hI hy=>by
   have h1:=hI.n;have h2:=hI.xs;rw[fk,tF,tF] at hy;rw[tF] at h1;exact⟨hI.len,by rw[tF];dsimp only at *;omega,by simp at h2 ⊢;omega,hI.wf⟩
  have hI8:Rm N k ⟨dr 8 t.2.1,[a],t::r,n+a.size⟩:=⟨hI.len,by have:=hI.n;rw[tF] at this;exact this,hI.xs,hI.wf⟩
  have sk :∀{K3:St→Prop},t.1≠0→(Rm N (k+2) ⟨dr 8 t.2.1,[a],r,n+a.size⟩→K3 ⟨dr 8 t.2.1,[a],r,n+a.size⟩)→aC ⟨dr 8 t.2.1,[a],t::r,n+a.size⟩ K3 E:=fun ht hk=>⟨t,r,rfl,ht,hk (hI8.tok ht)⟩
  refine⟨t,r,rfl,fun hw=>?_,fun hw=>⟨fun hw2=>?_,fun hw2=>?_⟩⟩
  ·refine sk (aU hw) fun hI=>DC hI (G.pos hw).tok fun u r2 hI hl G=>cg hI ?_
   have G2:=(Gw.call G).mono (K':=K) fun l au _ hl=>hl.2.ret
   exact ih r2 _ (k+2) (by simp at h1;omega) (step _ _ _ _ hI (by rw[Ast.size])) G2
  ·refine sk (aU hw2) fun hI=>DC hI ((G.neg (by simp[hw])).pos hw2).tok fun u r2 hI hl G=>cg hI ?_
   exact hC _ _ _ (k+2) (step _ _ _ _ hI (by rw[Ast.size])) (by simp) G
  ·exact hC _ _ _ k hI (by simp) ((G.neg (by simp[hw])).neg (by simp[hw2]))
theorem DD (hI:Rm (N+1) k ⟨dr 20 t.2.1,[],t::ts,n⟩) (H:Gw qp (t::ts) K E) (hw:ax bc t=true):aI [Iy N] ⟨dr 20 t.2.1,[],t::ts,n⟩ (bT K) E:=by
 have G:=Gw.call ((((((((((Gw.look H).neg (aT hw (by decide))).neg (aT hw (by decide))).neg (aT hw (by decide))).neg (aT hw (by decide))).neg (aT hw (by decide))).neg (aT hw (by decide))).neg (aT hw (by decide))).neg (aT hw (by decide))).pos hw).tok
 have G1:Gw (bg (.RD t.2.1):GL Ast) ts K E:=G.mono fun l au _ hl=>hl.2.ret
 have hat:t.2.1≠0:=(hI.wf.zF t (bQ ..)).1;have oL:=hI.YE (h':=dr 20 t.2.1) (aU hw);obtain⟨u,us,rfl⟩:=oL.wf.fin.cons;refine⟨rfl,t,u::us,rfl,aU hw,u,us,u.2.1,rfl,.inl ⟨rfl,rfl⟩,⟨u,us,rfl,fun hu=>?_,G1.name.2⟩⟩
 have hI:=oL.tok (h':=dr 20 t.2.1) (show u.1≠0 by rw[hu];decide)
 refine⟨by have:=hI.n;dsimp only at *;omega,us.length+1,?_⟩
 have G2:=(Gw.call (G1.name.1 hu)).mono (K':=K) fun l au _ hl=>hl.2.ret
 refine YI (N:=N) t.2.1 n _ (fun a self AV k hI hs G=>?_) (us.length+1) us _ (k+3) (du _) ?_ G2
 ·have Tn:Rm N k ⟨⟨20,t.2.1,0,1,⟨#[]⟩,[],[]⟩,[a],AV,n+Ast.al [a]⟩:=⟨hI.len,hI.n,hI.xs,hI.wf⟩
  exact FG Tn hat (by omega) G fun b r4 hI _ G=>cg hI G.ret
 ·have h1:=hI.n
  have h2:=hI.xs;refine⟨hI.len,?_,by simp at h2 ⊢;omega,hI.wf⟩
  rw[tF];show n+Ast.size (kf 7 u.2.1 (bu u.2.2.2) [])+_+_≤_
  rw[lh,cj];dsimp only at *
  omega
theorem To (hI:Rm (N+1) k ⟨dr 0 t.2.1,[],t::ts,n⟩) (H:Gw qp (t::ts) K E) (hw:ax lP t=true):aI [aC,Iz N] ⟨dr 0 t.2.1,[],t::ts,n⟩ (bT K) E:=by
 refine cM hI (aU hw) fun hI=>?_
 have G:=Gw.call (((((((((((Gw.look H).neg (aT hw (by decide))).neg (aT hw (by decide))).neg (aT hw (by decide))).neg (aT hw (by decide))).neg (aT hw (by decide))).neg (aT hw (by decide))).neg (aT hw (by decide))).neg (aT hw (by decide))).neg (aT hw (by decide))).pos hw).tok
 have G1:Gw (bg (.loc t.2.1):GL Ast) ts K E:=G.mono fun l au _ hl=>hl.2.ret
 obtain⟨u,us,rfl⟩:=hI.wf.fin.cons;have G:=Gw.look G1;refine⟨u,us,rfl,fun hw=>?_,fun hw=>?_⟩
 ·have oL:Rm N (k+2) ⟨dr 19 t.2.1,[],u::us,n⟩:=⟨hI.len,hI.n,hI.xs,hI.wf⟩
  refine MZ oL (G.neg (by simp[hw])) fun ns r hI G=>?_
  obtain⟨v,vs,rfl⟩:=hI.wf.fin.cons;have G:=G.look;exact⟨v,vs,rfl,fun hw=>tG (hI.tok (aU hw)) (G.pos hw).tok fun l r2 hI _ G=>cg hI G.ret,fun hw=>cg hI (G.neg (by simp[hw])).ret⟩
 ·have hat:u.2.1≠0:=(hI.wf.zF u (bQ ..)).1
  have oL:=hI.tok (h':=dr 28 t.2.1) (aU hw);obtain⟨v,vs,rfl⟩:=oL.wf.fin.cons;have G:=(G.pos hw).tok;refine⟨v,vs,rfl,G.name.2,fun hv=>?_⟩
  have Tn:Rm N (k+6) ⟨⟨28,t.2.1,0,0,⟨#[]⟩,[bu v.2.2.2],[]⟩,[],vs,n⟩:=oL.tok (by rw[hv];decide)
  exact FG Tn hat (by simp) (G.name.1 hv) fun b r hI _ G=>cg hI G.ret
theorem M6 (l:List Ast) (x d:Ast):(l++[x]).getLastD d=x:=by simp
theorem Tp (at_:Int) (l0:List Ast) (K2:Ast→List ah→Prop) (B:Nat) (C:List Ast→List ah→Prop) (hC :∀xs au,Ast.al xs+2*au.length≤B→Wf au→au.length<N→Gw (want [61] fun _=>.call .v8 fun(m:List Ast)=>.ret (Cy 20 at_ ((l0++xs).length:Int) (l0++xs++m))) au K2 E→C xs au) :
  ∀(m:Nat) (ts:List ah) (n:Nat) (acc:List Ast),ts.length<m→ts.length<N→n+2*ts.length≤60000→Ast.al acc+2*ts.length≤B→Wf ts→Gw (.call .wQ fun(x:Ast)=>.call (.Q7 at_ (l0++acc++[x])) fun(y:Ast)=>.ret y) ts K2 E→sM (We N) cO m ts n acc C E:=by
 intro m;induction m with
 | zero=>intro ts n acc h;omega
 | succ m ih =>
  intro ts n acc h1 h2 h3 hB hf H;refine⟨h2,h3,hf.zF,(Gw.call H).mono fun(e:Ast) au p hq=>?_⟩
  have hz:e.size+2*au.length+1≤2*ts.length:=hq.1;have hf':=p.wf hf;obtain⟨t,r,rfl⟩:=hf'.fin.cons;have hg:=(Gw.call hq.2).look;rw[M6] at hg;have hsz:Ast.al (acc++[e])+2*(t::r).length≤B:=by rw[fk,tF];omega
  refine⟨fun hv=>?_,fun hv=>⟨t,r,rfl,(hg.neg hv).bad⟩⟩
  have hg:=hg.pos hv;cases hc:ax [44] t with
  | true =>
   have e1:cO (t::r)=(true,r):=by simp[cO,hc]
   show(_→_)∧(_→_)
   rw[e1];refine⟨fun _=>ih r (n+e.size) (acc++[e]) (by simp at hz;omega) (by simp at hz;omega) (by simp at hz;omega) (by simp at hsz ⊢;omega) (hf'.tail (aU hc)) ?_,fun hb=>(ef hb.symm).elim⟩
   rw[←eS];exact(hg.pos hc).tok.mono fun y AV _ hy=>hy.2.ret
  | false =>
   have e1:cO (t::r)=(false,t::r):=by simp[cO,hc]
   show(_→_)∧(_→_)
   rw[e1];refine⟨fun hb=>(ef hb).elim,fun _=>hC (acc++[e]) (t::r) hsz hf' (by omega) ?_⟩
   have G:=hg.neg (by simp[hc])
   rw[←eS];exact G.mono fun y AV _ hy=>hy.2.ret
structure M8 (t:ah):Prop where
 a:ax [58,58] t=false
 b:ax nh t=false
 c:ax pX t=false
 d:ax pY t=false
 e:ax pq t=false
 f:ax lO t=false
 g:ax Xk t=false
 h:ax CK t=false
 i:ax bc t=false
 j:ax lP t=false
theorem Tq (hI:Rm (N+1) k ⟨dr 0 t.2.1,[],t::ts,n⟩) (H:Gw qp (t::ts) K E) (hw:M8 t):aI [YH (N+1) N] ⟨dr 0 t.2.1,[],t::ts,n⟩ (bT K) E:=by
 have G:=((((((((((Gw.look H).neg (by simp[hw.a])).neg (by simp[hw.b])).neg (by simp[hw.c])).neg (by simp[hw.d])).neg (by simp[hw.e])).neg (by simp[hw.f])).neg (by simp[hw.g])).neg (by simp[hw.h])).neg (by simp[hw.i])).neg (by simp[hw.j])
 have hn:=hI.n;have hx:=hI.xs;have hl:=hI.len;dsimp only at hn hx hl
 refine⟨rfl,hI.len,by dsimp only;omega,hI.wf.zF,(Gw.call G).mono fun(x:Ast) au p hq=>?_⟩
 have hz:x.size+2*au.length+1≤2*(t::ts).length:=hq.1;have yU:=p.wf hI.wf;have hlt:au.length<N:=by have:=size_pos x;simp only[List.length_cons] at *;omega
 have oL :∀h',Rm N 0 ⟨h',[x],au,n+Ast.al [x]⟩:=fun h'=>⟨hlt,by rw[tF];dsimp only;omega,by have:=size_pos x;simp only[List.length_cons,List.length_nil] at *;omega,yU⟩
 refine⟨fun hk=>cg (oL _) (hq.2.pos hk).ret,fun hv=>?_,fun h1 h2=>?_⟩
 ·have h9:¬ (x.hd.kind=9∨x.hd.kind=10):=by unfold isVar at hv;omega
  have G:=(Gw.call (hq.2.neg h9)).mono (K':=K) fun y AV _ hy=>hy.2.ret
  obtain⟨u,us,rfl⟩:=yU.fin.cons;have G:=(Gw.look G).pos hv;have hend :∀(ys:List Ast) (AV:List ah),Rm N 0 ⟨dr 20 t.2.1,[x]++ys,AV,n+Ast.al ([x]++ys)⟩→Gw (want [61] fun _=>.call .v8 fun(m:List Ast)=>.ret (Cy 20 t.2.1 (([x]++ys).length:Int) ([x]++ys++m))) AV K E→aI [eo,av [[61]],nQ N] ⟨dr 20 t.2.1,[x]++ys,AV,n+Ast.al ([x]++ys)⟩ (bT K) E:=fun ys AV hI G=>by
   have Tn:Rm N 0 ⟨⟨20,t.2.1,0,(([x]++ys).length:Int),⟨#[]⟩,[],[]⟩,[x]++ys,AV,n+Ast.al ([x]++ys)⟩:=⟨hI.len,hI.n,hI.xs,hI.wf⟩;exact bY Tn G fun _ r2 hI _ G=>tG hI G fun m r3 hI _ G=>cg hI G.ret
  refine⟨u,us,rfl,fun hc=>?_,fun hc=>?_⟩
  ·have IA:=(oL (dr 20 t.2.1)).tok (h':=dr 20 t.2.1) (aU hc)
   have htn:=IA.n;have htx:=IA.xs;dsimp only at htn htx
   refine⟨by dsimp only;omega,us.length+1,by omega,?_⟩
   refine Tp t.2.1 [x] K (2*us.length) _ (fun ys AV hs hw3 Km G=>?_) (us.length+1) us _ [] (du _) IA.len (by dsimp only;omega) (by rw[cj];omega) IA.wf ((G.pos hc).tok)
   have:=hend ys AV ⟨Km,?_,?_,hw3⟩ G
   ·rw[fk,←pW] at this
    exact this
   ·rw[fk];dsimp only;omega
   ·have:=uQ ys
    simp only[bM] at *;omega
  ·have:=hend [] (u::us) (by rw[j8];exact oL _) (by rw[j8];exact G.neg (by simp[hc]))
   rw[j8] at this;exact this
 ·have h9:=hq.2.neg h1
  obtain⟨u,us,rfl⟩:=yU.fin.cons;have G:=(Gw.call h9).look;exact⟨u,us,rfl,(G.neg h2).bad⟩
end
end Go.Proofs.YteflkdlaoiijbaaGreatDoor
namespace Go.Proofs.YteflkdlaoiijbaaGreatDoor
open Go.RowKit
def pF (f:FuncId) (wp:iV):Prop:=∀(b:Nat) (O:Nat→Prop) (ts:List ah) (T:List Nd) (K:Ast→List ah→Prop) (E:Int→Prop) (W:World),PS W b O ts T→wp ts T.length K E→Calls Tryz.prog f #[.pointer (some ⟨b,0,none⟩)] W (aF b O T (RK K E) W)
theorem pF.one {f:FuncId} {wp:iV} (h:pF f wp) (hf:Enters Tryz.prog f) (W:World) (b:Nat) (O:Nat→Prop):One W b O (aX f b) wp:=by
 intro W1 O1 T ts K E _ _ hp hk;exact⟨f,_,_,rfl,hf,h b O1 ts T K E W1 hp hk⟩
def eA (f:FuncId) (wp:bV):Prop:=∀(b n:Nat) (O:Nat→Prop) (T0:List Nd) (s:St) (K:St→Prop) (E:Int→Prop) (W:World),Real W b n O T0 s→wp s K E→Calls Tryz.prog f #[.pointer (some ⟨b,0,none⟩),.pointer (some ⟨n,0,none⟩)] W (bA b n O T0 K E W)
theorem eA.part {f:FuncId} {wp:bV} (h:eA f wp) (hf:Enters Tryz.prog f) (W:World) (b:Nat) (O:Nat→Prop):eH W b O (aX f b) wp:=by
 intro W1 O1 T0 s n K E _ _ hr hk;exact⟨f,_,_,rfl,hf,h b n O1 T0 s K E W1 hr hk⟩
theorem Real.lt {W:World} {b n:Nat} {O:Nat→Prop} {T0:List Nd} {s:St} (h:Real W b n O T0 s) :∀k,O k→k<W.heap.size:=fun k hk=>(h.own k hk).2
theorem eH.call {W W1:World} {b n:Nat} {O:Nat→Prop} {T0:List Nd} {s:St} {K:St→Prop} {E:Int→Prop} {v:Value} {wp:bV} (h:eH W1 b O v wp) (hr:Real W b n O T0 s) (hb:Below W.heap.size W W1) (hk:wp s K E) :
  ∃f first cap,v=.func (.func f) first cap∧Enters Tryz.prog f∧Calls Tryz.prog f (first.push (.pointer (some ⟨n,0,none⟩))++cap) W1 (bA b n O T0 K E W):=by
 obtain⟨f,first,cap,e,h1,h2⟩:=h W1 O T0 s n K E (az.refl _ _) (Ext.refl _ _) (hr.below hb) hk
 refine⟨f,first,cap,e,h1,?_⟩
 rw[show first++#[Value.pointer (some ⟨n,0,none⟩)]=first.push (.pointer (some ⟨n,0,none⟩)) from by simp] at h2
 exact h2.mono fun e w' hp=>hp.after (az.ae hb)
theorem M9 {wp:iV} (hE:pF 142 wp):eA 91 (dp wp):=by
 intro b n O T0 s K E w hr hk;have HC:=aa (A3 b O 142 _ _ wp w (hE.one (enters_of Tryz.func142 (by kernel_rfl) rfl) w b O) hr.lt)
 have HR:=aa hr;have HK:=aa hk;clear hr hk;go_enter Tryz.func91,Tryz.ntmps91
 go_wp2_with fail
 refine HC.out.mono ?_;rintro e w1 ⟨v,rfl,b1,h2⟩;obtain⟨f,first,cap,rfl,pz,bs⟩:=h2.1.call HR.out b1 HK.out
 have dW:=aa bs;clear h2 bs b1;unfold Enters at pz;go_wp2_with fail
 refine dW.out.mono ?_;intro e w2 h3;obtain⟨v,rfl⟩:=h3.ret;have H3:=aa h3;clear h3;go_wp2_with fail
 go_ret
 exact H3.out
theorem uR (W:World) (b:Nat) (O:Nat→Prop):yO W b O (aX 143 b) cO:=by
 intro W1 O1 T ts _ _ hp;obtain⟨t,r,rfl⟩:=hp.fin.cons;refine⟨143,_,_,rfl,enters_of Tryz.func143 (by kernel_rfl) rfl,?_⟩
 cases hc:ax [44] t with
 | true =>
  have e1:cO (t::r)=(true,r):=by simp[cO,hc]
  rw[e1];exact kq b O1 t r T W1 hp hc
 | false =>
  have e1:cO (t::r)=(false,t::r):=by simp[cO,hc]
  rw[e1];exact lX b O1 t r T W1 hp hc
theorem Na {wp:iV} (hE:pF 142 wp):eA 84 (lY wp cO):=by
 intro b n O T0 s K E w hr hk;have HC:=aa (yS b O 142 143 _ _ _ _ wp cO w (hE.one (enters_of Tryz.func142 (by kernel_rfl) rfl) w b O) (uR w b O) hr.lt)
 have HR:=aa hr;have HK:=aa hk;clear hr hk;go_enter Tryz.func84,Tryz.ntmps84
 go_wp2_with fail
 refine HC.out.mono ?_;rintro e w1 ⟨v,rfl,b1,h2⟩;obtain⟨f,first,cap,rfl,pz,bs⟩:=h2.1.call HR.out b1 HK.out
 have dW:=aa bs;clear h2 bs b1;unfold Enters at pz;go_wp2_with fail
 refine dW.out.mono ?_;intro e w2 h3;obtain⟨v,rfl⟩:=h3.ret;have H3:=aa h3;clear h3;go_wp2_with fail
 go_ret
 exact H3.out
theorem IB {wp:iV} (hE:pF 184 wp):eA 154 (lY wp cO):=by
 intro b n O T0 s K E w hr hk;have HC:=aa (yS b O 184 143 _ _ _ _ wp cO w (hE.one (enters_of Tryz.func184 (by kernel_rfl) rfl) w b O) (uR w b O) hr.lt)
 have HR:=aa hr;have HK:=aa hk;clear hr hk;go_enter Tryz.func154,Tryz.ntmps154
 go_wp2_with fail
 refine HC.out.mono ?_;rintro e w1 ⟨v,rfl,b1,h2⟩;obtain⟨f,first,cap,rfl,pz,bs⟩:=h2.1.call HR.out b1 HK.out
 have dW:=aa bs;clear h2 bs b1;unfold Enters at pz;go_wp2_with fail
 refine dW.out.mono ?_;intro e w2 h3;obtain⟨v,rfl⟩:=h3.ret;have H3:=aa h3;clear h3;go_wp2_with fail
 go_ret
 exact H3.out
theorem aM.new {w:World} {b:Nat} {O:Nat→Prop} (hO :∀k,O k→k<w.heap.size) (vs:List Value) (cI:List bV) (hl:vs.length≤100) (h:jL w b O vs cI):aM (w.alloc (.cells vs.toArray 122)) b O (.slice (some ⟨w.heap.size,0,none⟩) vs.length vs.length) cI :=
 ⟨vs,.inr ⟨w.heap.size,rfl,World.alloc_heap_new w _,fun h=>by have:=hO _ h;omega,hl⟩,h.later ((az.refl _ _).alloc _) (Ext.refl _ _)⟩
theorem aV (w:World) (o:Obj):Below w.heap.size w (w.alloc o):=(Below.refl _ _).alloc (ai _) o
theorem FH {wp:bV} (hS:eA 20 wp):eA 90 (dp (dQ (mN 18) [wp])):=by
 intro b n O T0 s K E w hr hk;have hO:=hr.lt;have HP:aM (w.alloc (.cells #[aX 20 b] 122)) b O (.slice (some ⟨w.heap.size,0,none⟩) 1 1) [wp]:=aM.new hO [aX 20 b] [wp] (by simp) ⟨hS.part (enters_of Tryz.func20 (by kernel_rfl) rfl) w b O,trivial⟩
 have HC:=aa (rG b O (mN 18) (.slice none 0 0) _ [wp] _ (zE.nil _ b) HP (fun k hk=>by have:=hO k hk;simp;omega))
 have HR:=aa hr;have HK:=aa hk;clear hr hk HP hO;go_enter Tryz.func90,Tryz.ntmps90
 go_wp2_with fail
 refine HC.out.mono ?_;rintro e w1 ⟨v,rfl,b1,h2⟩;obtain⟨f,first,cap,rfl,pz,bs⟩:=h2.1.call HR.out (aB (aV w _) b1) HK.out
 have dW:=aa bs;clear h2 bs b1;unfold Enters at pz;go_wp2_with fail
 refine dW.out.mono ?_;intro e w2 h3;obtain⟨v,rfl⟩:=h3.ret;have H3:=aa h3;clear h3;go_wp2_with fail
 go_ret
 exact H3.out
theorem Nb:eA 179 th:=by
 intro b n O T0 s K E w hr hk;have hO:=hr.lt;have HP:aM (w.alloc (.cells #[aX 88 b] 122)) b O (.slice (some ⟨w.heap.size,0,none⟩) 1 1) [cL]:=aM.new hO [aX 88 b] [cL] (by simp) ⟨iu w b O,trivial⟩
 have HC:=aa (rG b O (mN 5) (.slice none 0 0) _ [cL] _ (zE.nil _ b) HP (fun k hk=>by have:=hO k hk;simp;omega))
 have HR:=aa hr;have HK:=aa hk;clear hr hk HP hO;go_enter Tryz.func179,Tryz.ntmps179
 go_wp2_with fail
 refine HC.out.mono ?_;rintro e w1 ⟨v,rfl,b1,h2⟩;obtain⟨f,first,cap,rfl,pz,bs⟩:=h2.1.call HR.out (aB (aV w _) b1) HK.out
 have dW:=aa bs;clear h2 bs b1;unfold Enters at pz;go_wp2_with fail
 refine dW.out.mono ?_;intro e w2 h3;obtain⟨v,rfl⟩:=h3.ret;have H3:=aa h3;clear h3;go_wp2_with fail
 go_ret
 exact H3.out
theorem aa2 (b:Nat) (O:Nat→Prop) (t:ah) (ts:List ah) (T:List Nd) (x:Nd) (pv:Value) (cI:List bV) (K:Ast→List ah→Prop) (E:Int→Prop) (w:World) (hp:PS w b O (t::ts) T) (hx:x=⟨x.kind,0,x.op,x.num,x.s,[],[]⟩) (Fz:aM w b O pv cI)
  (hk:aI cI ⟨{ x with line:=t.2.1},[],t::ts,T.length⟩ (bT K) E):Calls Tryz.prog 19 #[.pointer (some ⟨b,0,none⟩),cP x (.slice none 0 0) (.slice none 0 0),pv] w (aF b O T (RK K E) w):=by
 have h1:x.line=0:=by rw[hx]
 have h2:x.names=[]:=by rw[hx]
 refine(yQ b O (fun _=>False) t ts T T x t.2.1 [] [] (.slice none 0 0) (.slice none 0 0) pv cI (RK K E) w hp ⟨?_,World.ownsRow_nil _ _ _ _,fun g hg=>by simp[Value.ownBlock] at hg,fun g hg=>by simp[Value.ownBlock] at hg,fun g hg=>by simp[Value.ownBlock] at hg⟩ (fun _ _ h=>h) (fun _ h=>h.elim) (dV.nil T) (Fz.later (az.refl _ _) (fun k hk=>.inl (hk.elim id False.elim))) (.inl ⟨h1,rfl⟩) hk).mono fun e w' h=>h.sub fun k hk=>hk.elim id False.elim
 rw[show({ x with kids:=[]}:Nd).names=[] from h2]
 exact World.ownsRow_nil _ _ _ _
theorem cA {b:Nat} {O:Nat→Prop} {t:ah} {ts:List ah} {T:List Nd} {K:Ast→List ah→Prop} {E:Int→Prop} (w w2:World) (hp:PS w2 b O (t::ts) T) (hf:az O w w2) (x:Nd) (hx:x=⟨x.kind,0,x.op,x.num,x.s,[],[]⟩) (vs:List Value) (cI:List bV) (hl:vs.length≤100) (hall:jL w2 b O vs cI)
  (hk:aI cI ⟨{ x with line:=t.2.1},[],t::ts,T.length⟩ (bT K) E):Calls Tryz.prog 19 #[.pointer (some ⟨b,0,none⟩),cP x (.slice none 0 0) (.slice none 0 0),.slice (some ⟨w2.heap.size,0,none⟩) vs.length vs.length] (w2.alloc (.cells vs.toArray 122)) (aF b O T (RK K E) w) :=
 (aa2 b O t ts T x _ cI K E _ (hp.below (aV w2 _)) hx (aM.new (fun k hk=>(hp.own k hk).2) vs cI hl hall) hk).mono fun _ _ h=>h.after (hf.alloc _)
def kt (b:Nat) (O:Nat→Prop) (wp:bV) (w:World) (e:Ending) (w':World):Prop:=∃f first cap,e=.returned (.func (.func f) first cap)∧Below w.heap.size w w'∧eH w' b O (.func (.func f) first cap) wp
theorem cr (w:World) (b:Nat) (O:Nat→Prop) (hO :∀k,O k→k<w.heap.size) (x:List UInt8) (hx:x≠[]) (X:ByteArray) (hX:X=bu x) :
  Calls Tryz.prog 89 #[.pointer (some ⟨b,0,none⟩),.slice (some ⟨w.heap.size,0,none⟩) 1 1] (w.alloc (.cells #[.string X] 9)) (kt b O (av [x]) w):=by
 subst hX;refine(Fw b w.heap.size O [x] (w.alloc (.cells #[.string (bu x)] 9)) (fun y hy=>by rw[bI.1 hy];exact hx) (by simp) (eI.new w O hO _ 9) (fun k hk=>by have:=hO k hk;simp;omega) 1 rfl).mono ?_
 rintro e w' ⟨v,rfl,hb,hp,f,first,cap,rfl⟩
 exact⟨f,first,cap,rfl,aB (aV w _) hb,hp⟩
def Nc (ex:bV) (t:ah) (ts:List ah) (n:Nat) (K:Ast→List ah→Prop) (E:Int→Prop):Prop :=
 (ax [40] t=true→aI [aC,ex,av [[41]]] ⟨dr 14 t.2.1,[],t::ts,n⟩ (bT K) E)∧(ax [40] t=false→aI [cL] ⟨dr 7 t.2.1,[],t::ts,n⟩ (bT K) E)
theorem Ts {ex:bV} (hE:eA 91 ex) (b:Nat) (O:Nat→Prop) (t:ah) (ts:List ah) (T:List Nd) (K:Ast→List ah→Prop) (E:Int→Prop) (w:World) (hp:PS w b O (t::ts) T) (hk:Nc ex t ts T.length K E) :
  Calls Tryz.prog 182 #[.pointer (some ⟨b,0,none⟩)] w (aF b O T (RK K E) w):=by
 have HW:=aa (bL b O t ts T w hp);cases hq:ax [40] t with
 | true =>
  have g1:((ag t).toList == [40])=true:=aj (s:=[40]) (by decide) t hq
  have HK:=aa (hk.1 hq);generalize hY:ag t=Y at *;have HP:=aa hp;clear hp hk hY hq;go_enter Tryz.func182,Tryz.ntmps182
  go_wp2_with fail
  refine HW.out.mono ?_;rintro e w1 ⟨rfl,b1⟩;have lK:=HP.out.below b1;have rF :∀k,O k→k<w1.heap.size:=fun k hk=>(lK.own k hk).2
  have B1:=aa b1;have P1:=aa lK;have HV:=aa (cr w1 b O rF [41] (by decide) ⟨#[41]⟩ rfl)
  clear b1 lK rF;go_wp2_with fail
  refine HV.out.mono ?_;rintro e w2 ⟨fi,f1,f2,rfl,b2,h2⟩;have HN:=aa (cA w w2 (P1.out.below b2) (az.ae (aB B1.out b2)) (mN 14) rfl [aX 40 b,aX 91 b,.func (.func fi) f1 f2] [aC,ex,av [[41]]] (by simp) ⟨aZ w2 b O,hE.part (enters_of Tryz.func91 (by kernel_rfl) rfl) w2 b O,h2,trivial⟩ HK.out)
  clear b2 h2;go_wp2_with fail
  refine HN.out.mono ?_;intro e w3 h3;obtain⟨v,er,rfl⟩:=h3.ret;have H3:=aa h3;clear h3;go_wp2_with fail
  go_ret2
  exact H3.out
 | false =>
  have g1:((ag t).toList == [40])=false:=aj (s:=[40]) (by decide) t hq
  have HK:=aa (hk.2 hq);generalize hY:ag t=Y at *;have HP:=aa hp;clear hp hk hY hq;go_enter Tryz.func182,Tryz.ntmps182
  go_wp2_with fail
  refine HW.out.mono ?_;rintro e w1 ⟨rfl,b1⟩;have HN:=aa (cA w w1 (HP.out.below b1) (az.ae b1) (mN 7) rfl [aX 88 b] [cL] (by simp) ⟨iu w1 b O,trivial⟩ HK.out)
  clear b1;go_wp2_with fail
  refine HN.out.mono ?_;intro e w3 h3;obtain⟨v,er,rfl⟩:=h3.ret;have H3:=aa h3;clear h3;go_wp2_with fail
  go_ret2
  exact H3.out
theorem IC (w:World) (b:Nat) (O:Nat→Prop) (hO :∀k,O k→k<w.heap.size) (x y:List UInt8) (hx:x≠[]) (hy:y≠[]) (X Y:ByteArray) (hX:X=bu x) (hY:Y=bu y) :
  Calls Tryz.prog 89 #[.pointer (some ⟨b,0,none⟩),.slice (some ⟨w.heap.size,0,none⟩) 2 2] (w.alloc (.cells #[.string X,.string Y] 9)) (kt b O (av [x,y]) w):=by
 subst hX hY;refine(Fw b w.heap.size O [x,y] (w.alloc (.cells #[.string (bu x),.string (bu y)] 9)) (fun z hz=>by rcases bb.1 hz with rfl|hz;exact hx;rw[bI.1 hz];exact hy) (by simp) (eI.new w O hO _ 9) (fun k hk=>by have:=hO k hk;simp;omega) 2 rfl).mono ?_
 rintro e w' ⟨v,rfl,hb,hp,f,first,cap,rfl⟩
 exact⟨f,first,cap,rfl,aB (aV w _) hb,hp⟩
theorem pG (w:World) (b:Nat) (O:Nat→Prop) (hO :∀k,O k→k<w.heap.size) (vs:List Value) (cI:List bV) (hl:vs.length≤100) (h:jL w b O vs cI) (x:List UInt8) (hx:x≠[]) (X:ByteArray) (hX:X=bu x) :
  Calls Tryz.prog 42 #[.pointer (some ⟨b,0,none⟩),.string X,.slice (some ⟨w.heap.size,0,none⟩) vs.length vs.length] (w.alloc (.cells vs.toArray 122)) (kt b O (bw x cI) w):=by
 refine(xn b O x X hX hx _ cI _ (aM.new hO vs cI hl h) (fun k hk=>by have:=hO k hk;simp;omega)).mono ?_
 rintro e w' ⟨v,rfl,hb,hp,f,first,cap,rfl⟩
 exact⟨f,first,cap,rfl,aB (aV w _) hb,hp⟩
theorem Tt (w:World) (b:Nat) (O:Nat→Prop) (hO :∀k,O k→k<w.heap.size) (vs:List Value) (cI:List bV) (hl:vs.length≤100) (h:jL w b O vs cI) (x:List UInt8) (hx:x≠[]) (X:ByteArray) (hX:X=bu x) :
  Calls Tryz.prog 92 #[.pointer (some ⟨b,0,none⟩),.string X,.slice (some ⟨w.heap.size,0,none⟩) vs.length vs.length] (w.alloc (.cells vs.toArray 122)) (kt b O (rC x cI) w):=by
 refine(Dx b O x X hX hx _ cI _ (aM.new hO vs cI hl h) (fun k hk=>by have:=hO k hk;simp;omega)).mono ?_
 rintro e w' ⟨v,rfl,hb,hp,f,first,cap,rfl⟩
 exact⟨f,first,cap,rfl,aB (aV w _) hb,hp⟩
theorem rJ (w:World) (b:Nat) (O:Nat→Prop) (hO :∀k,O k→k<w.heap.size) (x:List UInt8) (hx:x≠[]) (X:ByteArray) (hX:X=bu x) (f:FuncId) (first cap:Array Value) (wp:bV) (h:eH w b O (.func (.func f) first cap) wp) :
  Calls Tryz.prog 180 #[.pointer (some ⟨b,0,none⟩),.string X,.func (.func f) first cap] w (kt b O (dx x wp) w):=by
 refine(ML b O x X hX hx f first cap wp w h hO).mono ?_
 rintro e w' ⟨v,rfl,hb,hp,f,first,cap,rfl⟩
 exact⟨f,first,cap,rfl,hb,hp⟩
theorem jn {b n:Nat} {O O2:Nat→Prop} {T0:List Nd} {s:St} {K:St→Prop} {E:Int→Prop} (w w2:World) (hr:Real w2 b n O2 T0 s) (hf:az O w w2) (he:Ext O O2 w) (vs:List Value) (cI:List bV) (hl:vs.length≤100) (hall:jL w2 b O2 vs cI) (hk:aI cI s K E) :
  Calls Tryz.prog 35 #[.pointer (some ⟨n,0,none⟩),.slice (some ⟨w2.heap.size,0,none⟩) vs.length vs.length] (w2.alloc (.cells vs.toArray 122)) (bA b n O T0 K E w) :=
 (uL b n O2 T0 s K E _ cI _ (hr.below (aV w2 _)) (aM.new hr.lt vs cI hl hall) hk).mono fun e w' h=>by
  obtain⟨h1,h2⟩:=h;have hf2:az O2 w2 w':=((az.refl O2 w2).alloc _).trans h1 (Ext.refl _ _);refine⟨hf.trans hf2 he,h2.imp ?_ ?_⟩
  ·rintro⟨s',O',e1,r1,x1,k1⟩
   exact⟨s',O',e1,r1,he.trans (fun k hk=>(x1 k hk).imp id fun h=>by simp at h;omega) hf.size,k1⟩
  ·rintro⟨l,v,e1,⟨g,m1,m2,m3⟩,k⟩
   exact⟨l,v,e1,⟨g,m1,by have:=hf.size;simp at m2;omega,m3⟩,k⟩
theorem Nf {pa bl:bV} (ac8:eA 181 pa) (hB:eA 90 bl):eA 152 (fun s K E=>aI [av [[40]],dx [41] pa,av [[41]],bl,av [ig]] s K E):=by
 intro b n O T0 s K E w0 hr hk;have HK:=aa hk;have P0:=aa hr;have F0:=aa (az.refl O w0);clear hr hk;go_enter Tryz.func152,Tryz.ntmps152
 have o9 :∀k,O k→k<w0.heap.size:=P0.out.lt;have V1:=aa (cr w0 b O o9 [40] (by decide) ⟨#[40]⟩ rfl)
 clear o9;go_wp2_with fail
 refine V1.out.mono ?_;rintro e w1 ⟨f1,a1,c1,rfl,b1,h1⟩;have F1:=aa (F0.out.trans (az.ae (O:=O) b1) (Ext.refl _ _));have P1:=aa (P0.out.below b1);have H1:=aa h1;clear b1 h1 V1;have rF :∀k,O k→k<w1.heap.size:=P1.out.lt;have V2:=aa (rJ w1 b O rF [41] (by decide) ⟨#[41]⟩ rfl 181 _ _ (pa) (ac8.part (enters_of Tryz.func181 (by kernel_rfl) rfl) w1 b O))
 clear rF;go_wp2_with fail
 refine V2.out.mono ?_;rintro e w2 ⟨f2,a2,c2,rfl,b2,h2⟩;have F2:=aa (F1.out.trans (az.ae (O:=O) b2) (Ext.refl _ _));have P2:=aa (P1.out.below b2);have L1:=aa (H1.out.later (az.ae (O:=O) b2) (Ext.refl _ _));clear H1;have H1:=L1;clear L1;have H2:=aa h2;clear b2 h2 V2;have Kn :∀k,O k→k<w2.heap.size:=P2.out.lt;have V3:=aa (cr w2 b O Kn [41] (by decide) ⟨#[41]⟩ rfl)
 clear Kn;go_wp2_with fail
 refine V3.out.mono ?_;rintro e w3 ⟨f3,a3,c3,rfl,b3,h3⟩;have F3:=aa (F2.out.trans (az.ae (O:=O) b3) (Ext.refl _ _));have P3:=aa (P2.out.below b3);have L1:=aa (H1.out.later (az.ae (O:=O) b3) (Ext.refl _ _));clear H1;have H1:=L1;clear L1;have L2:=aa (H2.out.later (az.ae (O:=O) b3) (Ext.refl _ _));clear H2;have H2:=L2;clear L2;have H3:=aa h3;clear b3 h3 V3;have CC :∀k,O k→k<w3.heap.size:=P3.out.lt;have V4:=aa (cr w3 b O CC [101,110,100] (by decide) ⟨#[101,110,100]⟩ rfl)
 clear CC;go_wp2_with fail
 refine V4.out.mono ?_;rintro e w4 ⟨f4,a4,c4,rfl,b4,h4⟩;have F4:=aa (F3.out.trans (az.ae (O:=O) b4) (Ext.refl _ _));have P4:=aa (P3.out.below b4);have L1:=aa (H1.out.later (az.ae (O:=O) b4) (Ext.refl _ _));clear H1;have H1:=L1;clear L1;have L2:=aa (H2.out.later (az.ae (O:=O) b4) (Ext.refl _ _));clear H2;have H2:=L2;clear L2;have L3:=aa (H3.out.later (az.ae (O:=O) b4) (Ext.refl _ _));clear H3;have H3:=L3;clear L3;have H4:=aa h4;clear b4 h4 V4;have HN:=aa (jn w0 w4 P4.out F4.out (Ext.refl _ _) [.func (.func f1) a1 c1,.func (.func f2) a2 c2,.func (.func f3) a3 c3,aX 90 b,.func (.func f4) a4 c4] [av [[40]],dx [41] (pa),av [[41]],bl,av [[101,110,100]]] (by simp) ⟨H1.out,H2.out,H3.out,hB.part (enters_of Tryz.func90 (by kernel_rfl) rfl) w4 b O,H4.out,trivial⟩ HK.out)
 go_wp2_with fail
 refine HN.out.mono ?_;intro e wz hz;obtain⟨v,rfl⟩:=hz.ret;have HZ:=aa hz;clear hz;go_wp2_with fail
 go_ret
 exact HZ.out
theorem Tu {it:bV} (IA:eA 235 it) (b:Nat) (O:Nat→Prop) (t:ah) (ts:List ah) (T:List Nd) (K:Ast→List ah→Prop) (E:Int→Prop) (w0:World) (hp:PS w0 b O (t::ts) T)
  (hk:aI [aC,dx [125] it,av [[125]]] ⟨dr 15 t.2.1,[],t::ts,T.length⟩ (bT K) E) :
  Calls Tryz.prog 225 #[.pointer (some ⟨b,0,none⟩)] w0 (aF b O T (RK K E) w0):=by
 have HK:=aa hk;have P0:=aa hp;have F0:=aa (az.refl O w0);clear hp hk;go_enter Tryz.func225,Tryz.ntmps225
 have o9 :∀k,O k→k<w0.heap.size:=fun k hk=>(P0.out.own k hk).2
 have V1:=aa (rJ w0 b O o9 [125] (by decide) ⟨#[125]⟩ rfl 235 _ _ (it) (IA.part (enters_of Tryz.func235 (by kernel_rfl) rfl) w0 b O))
 clear o9;go_wp2_with fail
 refine V1.out.mono ?_;rintro e w1 ⟨f1,a1,c1,rfl,b1,h1⟩;have F1:=aa (F0.out.trans (az.ae (O:=O) b1) (Ext.refl _ _));have P1:=aa (P0.out.below b1);have H1:=aa h1;clear b1 h1 V1;have rF :∀k,O k→k<w1.heap.size:=fun k hk=>(P1.out.own k hk).2
 have V2:=aa (cr w1 b O rF [125] (by decide) ⟨#[125]⟩ rfl)
 clear rF;go_wp2_with fail
 refine V2.out.mono ?_;rintro e w2 ⟨f2,a2,c2,rfl,b2,h2⟩;have F2:=aa (F1.out.trans (az.ae (O:=O) b2) (Ext.refl _ _));have P2:=aa (P1.out.below b2);have L1:=aa (H1.out.later (az.ae (O:=O) b2) (Ext.refl _ _));clear H1;have H1:=L1;clear L1;have H2:=aa h2;clear b2 h2 V2;have HN:=aa (cA w0 w2 P2.out F2.out (mN 15) rfl [aX 40 b,.func (.func f1) a1 c1,.func (.func f2) a2 c2] [aC,dx [125] (it),av [[125]]] (by simp) ⟨aZ w2 b O,H1.out,H2.out,trivial⟩ HK.out)
 go_wp2_with fail
 refine HN.out.mono ?_;intro e wz hz;obtain⟨v,er,rfl⟩:=hz.ret;have HZ:=aa hz;clear hz;go_wp2_with fail
 go_ret2
 exact HZ.out
theorem PS.next {W:World} {b:Nat} {O:Nat→Prop} {t u:ah} {ts:List ah} {T:List Nd} (h:PS W b O (t::u::ts) T) :
  ∃(i g n c:Nat),W.cell? ⟨b,0,none⟩=some (.slice (some ⟨g,0,none⟩) n c)∧W.cell? ⟨b,1,none⟩=some (.int .i64 (i:Int))∧i+1<n∧n≤20000∧n≤c ∧
   W.cell? ⟨g,(i+1)*4,none⟩=some (.int .i64 u.1)∧W.cell? ⟨g,(i+1)*4+1,none⟩=some (.int .i64 u.2.1)∧W.cell? ⟨g,(i+1)*4+2,none⟩=some (.int .i64 u.2.2.1)∧W.cell? ⟨g,(i+1)*4+3,none⟩=some (.string (bu u.2.2.2)):=by
 obtain⟨TS,i,g,c,nv,L,a1,a2,a3,a4,a5,a6,a7⟩:=h.ex;obtain⟨g',cap,e,h1,h2,h3⟩:=a2.ex;have hg:g=g'∧c=cap:=by injection e with e1 _ e3;injection e1 with e1;injection e1 with e1;exact⟨e1,e3⟩
 obtain⟨rfl,rfl⟩:=hg;have hi:TS[i+1]? = some u:=by
  have:=ay (·[1]?) a4
  simpa[zS] using this
 have hlt:=(aL.1 hi).1;obtain⟨b0,b1,b2,b3⟩:=h3 (i+1) u hi;exact⟨i,g,TS.length,c,by simp[World.cell?,a1],by simp[World.cell?,a1],hlt,a5,h1,b0,b1,b2,b3⟩
def uS (t u:ah):Bool:=decide (t.1=1) && (decide (u.1=5) && decide (u.2.2.2=[61]))
theorem YJ (l s:List UInt8):((bu l).toList == s)=decide (l=s):=by
 rw[Lib.toList_data];show((bu l).data.toList == s)=_
 by_cases h:l=s<;>simp[bu,h]
theorem DE (b:Nat) (O:Nat→Prop) (t:ah) (ts:List ah) (T:List Nd) (w:World) (h:PS w b O (t::ts) T) (ht:t.1≠1):Calls Tryz.prog 241 #[.pointer (some ⟨b,0,none⟩)] w (nN w false):=by
 obtain⟨t0,t1,t2,t3⟩:=t;have HA:=aa (cz b O (t0,t1,t2,t3) ts T w h);unfold fY at HA;dsimp only at HA ht
 have F0:=AW t0 t1 t2 (bu t3);have g1:(t0 == 1)=false:=aE.2 ht;have g1':(t0 != 1)=true:=oU.2 ht;clear h ht;go_enter Tryz.func241,Tryz.ntmps241
 go_wp2_with fail
 refine HA.out.mono ?_;rintro e w1 ⟨rfl,b1⟩;have B1:=aa b1;clear b1;go_wp2_with fail
 go_ret
 exact⟨rfl,B1.out⟩
theorem Tv (b:Nat) (O:Nat→Prop) (t u:ah) (ts:List ah) (T:List Nd) (w:World) (h:PS w b O (t::u::ts) T) (ht:t.1=1) (r:Bool) (hr:(decide (u.1=5) && decide (u.2.2.2=[61]))=r):Calls Tryz.prog 241 #[.pointer (some ⟨b,0,none⟩)] w (nN w r):=by
 obtain⟨t0,t1,t2,t3⟩:=t;have HA:=aa (cz b O (t0,t1,t2,t3) (u::ts) T w h);unfold fY at HA;dsimp only at HA ht
 subst ht;have F0:=AW 1 t1 t2 (bu t3);have HP:=aa h;clear h;go_enter Tryz.func241,Tryz.ntmps241
 go_wp2_with fail
 refine HA.out.mono ?_;rintro e w1 ⟨rfl,b1⟩;obtain⟨i,g,n,c,c0,c1,hi,hn,hc,d0,d1,d2,d3⟩:=(HP.out.below b1).next;have hb:b<w1.heap.size:=World.block_lt_of_cell? w1 _ c1;have hg:g<w1.heap.size:=World.block_lt_of_cell? w1 _ d0;have B1:=aa b1;obtain⟨u0,u1,u2,u3⟩:=u;dsimp only at *
 clear b1;have hbt:((bu u3).toList == [61])=decide (u3=[61]):=YJ u3 [61];generalize bu u3=S at *;by_cases h5:u0=5
 ·subst h5
  have hr2:decide (u3=[61])=r:=by simpa using hr
  rw[hr2] at hbt;clear hr hr2;cases r <;>
  ·go_wp2_with fail
   go_region
   all_goals go_wp2
   all_goals go_ret
   all_goals exact⟨rfl,aB B1.out (aV w1 _).drew⟩
 ·have g5:(u0 == 5)=false:=aE.2 h5
  have hd:false=r:=by simpa[h5] using hr
  subst hd;clear h5 hr hbt;go_wp2_with fail
  go_region
  all_goals go_wp2
  all_goals go_ret
  all_goals exact⟨rfl,aB B1.out (aV w1 _).drew⟩
def iZ:List ah→Bool×List ah
 | []=>(false,[])
 | t::r=>if (ax [44] t || ax [59] t)=true then (match r with
  | []=>true
  | u::_=>!ax [125] u,r) else (false,t::r)
theorem pH {t u:ah} {us:List ah} (h:(ax [44] t || ax [59] t)=true):iZ (t::u::us)=(!ax [125] u,u::us):=by simp only[iZ,h,tY]
theorem xy {t:ah} {us:List ah} (h:(ax [44] t || ax [59] t)=false):iZ (t::us)=(false,t::us):=by simp[iZ,h]
theorem Ng (b g:Nat) (O:Nat→Prop) (t:ah) (ts:List ah) (T:List Nd) (w:World) (h:PS w b O (t::ts) T) (b0:eI w O g #[.pointer (some ⟨b,0,none⟩)] 116) (r:Bool) (tr:List ah) (hr:iZ (t::ts)=(r,tr)):Calls Tryz.prog 239 #[.pointer (some ⟨g,0,none⟩)] w (lj b O tr T r w):=by
 have c0:=b0.cell 0;have HB:=aa b0;have A4 :∀k,k=b→O k:=fun k hk=>hk▸h.at_
 have HO:=aa A4;clear b0 A4;by_cases h1:ax [44] t=true
 ·have h1':(ax [44] t || ax [59] t)=true:=by rw[h1];rfl
  have jk:=(h.fin.tail (tE h1)).cons;obtain⟨u,us,rfl⟩:=jk;have SG:(!ax [125] u)=r∧u::us=tr:=by
   rw[pH h1'] at hr;injection hr with e1 e2;exact⟨e1,e2⟩
  obtain⟨hr1,rfl⟩:=SG;have HC:=aa (kq b O t (u::us) T w h h1);clear h h1 h1' hr;have g1:((ag u).toList == [125])=(!r):=aj (s:=[125]) (by decide) u (by rw[←hr1];simp)
  clear hr1;go_enter Tryz.func239,Tryz.ntmps239
  go_wp2_with fail
  refine HC.out.mono ?_;rintro e w1 ⟨rfl,p1,f1⟩;have c1:=(HB.out.later (f1.mono HO.out) (Ext.refl _ _)).cell 0;have HW:=aa (bL b O u us T w1 p1);generalize ag u=Y at *;have P1:=aa p1;have F1:=aa f1;clear p1 f1 c0;cases r <;>
  ·go_wp2_with fail
   refine HW.out.mono ?_;rintro e w2 ⟨rfl,b2⟩;have B2:=aa b2;clear b2;go_wp2_with fail
   go_ret
   exact⟨rfl,P1.out.below B2.out,F1.out.trans (az.ae (O:=(· = b)) B2.out) (Ext.refl _ _)⟩
 ·have Nh:ax [44] t=false:=by simpa using h1
  have HC:=aa (lX b O t ts T w h Nh);by_cases h2:ax [59] t=true
  ·have h1':(ax [44] t || ax [59] t)=true:=by rw[h2];simp
   have jk:=(h.fin.tail (tE h2)).cons;obtain⟨u,us,rfl⟩:=jk;have SG:(!ax [125] u)=r∧u::us=tr:=by
    rw[pH h1'] at hr;injection hr with e1 e2;exact⟨e1,e2⟩
   obtain⟨hr1,rfl⟩:=SG;have HT:=aa (fun(W:World) hW=>lW b O t (u::us) T [59] ⟨#[59]⟩ rfl W hW (by decide) h2)
   clear h h1 Nh h2 h1' hr;have g1:((ag u).toList == [125])=(!r):=aj (s:=[125]) (by decide) u (by rw[←hr1];simp)
   clear hr1;go_enter Tryz.func239,Tryz.ntmps239
   go_wp2_with fail
   refine HC.out.mono ?_;rintro e w1 ⟨rfl,p1,f1⟩;have c1:=(HB.out.later (f1.mono HO.out) (Ext.refl _ _)).cell 0;have F1:=aa f1;have A9:=aa (HT.out w1 p1);clear p1 f1 c0;go_wp2_with fail
   refine A9.out.mono ?_;rintro e w2 ⟨rfl,p2,f2⟩;have F2:=aa (F1.out.trans f2 (Ext.refl _ _));have c2:=(HB.out.later (F2.out.mono HO.out) (Ext.refl _ _)).cell 0;have HW:=aa (bL b O u us T w2 p2);generalize ag u=Y at *;have P2:=aa p2;clear p2 f2 c1;cases r <;>
   ·go_wp2_with fail
    refine HW.out.mono ?_;rintro e w3 ⟨rfl,b2⟩;have B2:=aa b2;clear b2;go_wp2_with fail
    go_ret
    exact⟨rfl,P2.out.below B2.out,F2.out.trans (az.ae (O:=(· = b)) B2.out) (Ext.refl _ _)⟩
  ·have h2f:ax [59] t=false:=by simpa using h2
   have HT:=aa (fun(W:World) hW=>ow b O t ts T [59] ⟨#[59]⟩ rfl W hW (by decide) h2f)
   have SG:false=r∧t::ts=tr:=by
    rw[xy (by rw[Nh,h2f];rfl)] at hr
    injection hr with e1 e2;exact⟨e1,e2⟩
   obtain⟨rfl,rfl⟩:=SG;clear h h1 Nh h2 h2f hr;go_enter Tryz.func239,Tryz.ntmps239
   go_wp2_with fail
   refine HC.out.mono ?_;rintro e w1 ⟨rfl,p1,f1⟩;have c1:=(HB.out.later (f1.mono HO.out) (Ext.refl _ _)).cell 0;have F1:=aa f1;have A9:=aa (HT.out w1 p1);clear p1 f1 c0;go_wp2_with fail
   refine A9.out.mono ?_;rintro e w2 ⟨rfl,p2,f2⟩;have F2:=aa (F1.out.trans f2 (Ext.refl _ _));have P2:=aa p2;clear p2 f2 c1;go_wp2_with fail
   go_ret
   exact⟨rfl,P2.out,F2.out⟩
theorem DF {W:World} {b g:Nat} {O:Nat→Prop} (b0:eI W O g #[.pointer (some ⟨b,0,none⟩)] 116):yO W b O (.func (.func 239) #[] #[.pointer (some ⟨g,0,none⟩)]) iZ:=by
 intro W1 O1 T ts hf he hp;obtain⟨t,r,rfl⟩:=hp.fin.cons;exact⟨239,_,_,rfl,enters_of Tryz.func239 (by kernel_rfl) rfl,Ng b g O1 t r T W1 hp (b0.later hf he) _ _ rfl⟩
theorem Tw {wp:iV} (hE:pF 238 wp):eA 235 (lY wp iZ):=by
 intro b n O T0 s K E w hr hk;have hO:=hr.lt;have h1:=eI.new w O hO #[.pointer (some ⟨b,0,none⟩)] 116;have HC:=aa (yS b O 238 239 _ _ _ _ wp iZ (w.alloc (.cells #[.pointer (some ⟨b,0,none⟩)] 116)) (hE.one (enters_of Tryz.func238 (by kernel_rfl) rfl) _ b O) (DF h1) (fun k hk=>by have:=hO k hk;simp;omega))
 have HR:=aa hr;have HK:=aa hk;clear hr hk h1 hO;go_enter Tryz.func235,Tryz.ntmps235
 go_wp2_with fail
 refine HC.out.mono ?_;rintro e w1 ⟨v,rfl,b1,h2⟩;obtain⟨f,first,cap,rfl,pz,bs⟩:=h2.1.call HR.out (aB (aV w _) b1) HK.out
 have dW:=aa bs;clear h2 bs b1;unfold Enters at pz;go_wp2_with fail
 refine dW.out.mono ?_;intro e w2 h3;obtain⟨v,rfl⟩:=h3.ret;have H3:=aa h3;clear h3;go_wp2_with fail
 go_ret
 exact H3.out
def lZ (t:ah):List ah→Bool
 | []=>false
 | u::_=>uS t u
theorem ID (b:Nat) (O:Nat→Prop) (t:ah) (ts:List ah) (T:List Nd) (w:World) (h:PS w b O (t::ts) T) (r:Bool) (hr:lZ t ts=r):Calls Tryz.prog 241 #[.pointer (some ⟨b,0,none⟩)] w (nN w r):=by
 by_cases h1:t.1=1
 ·obtain⟨u,us,rfl⟩:=(h.fin.tail (by rw[h1];decide)).cons
  refine Tv b O t u us T w h h1 r ?_;rw[←hr];simp[lZ,uS,h1]
 ·have hf:false=r:=by
   rw[←hr];cases ts<;>simp[lZ,uS,h1]
  rw[←hf];exact DE b O t ts T w h h1
def Wh (ex:bV) (t:ah) (ts:List ah) (n:Nat) (K:Ast→List ah→Prop) (E:Int→Prop):Prop :=
 (ax [91] t=true→aI [aC,ex,av [[93],[61]],ex] ⟨dr 17 t.2.1,[],t::ts,n⟩ (bT K) E)∧(ax [91] t=false→(lZ t ts=true→aI [th,aC,ex] ⟨dr 17 t.2.1,[],t::ts,n⟩ (bT K) E)∧(lZ t ts=false→aI [ex] ⟨dr 16 t.2.1,[],t::ts,n⟩ (bT K) E))
theorem YK {ex:bV} (hE:eA 91 ex) (b:Nat) (O:Nat→Prop) (t:ah) (ts:List ah) (T:List Nd) (K:Ast→List ah→Prop) (E:Int→Prop) (w:World) (hp:PS w b O (t::ts) T) (hk:Wh ex t ts T.length K E) :
  Calls Tryz.prog 238 #[.pointer (some ⟨b,0,none⟩)] w (aF b O T (RK K E) w):=by
 have HW:=aa (bL b O t ts T w hp);have HF:=aa (fun W hW=>ID b O t ts T W hW)
 cases hq:ax [91] t with
 | true =>
  ·have g1:((ag t).toList == [91])=true:=aj (s:=[91]) (by decide) t hq
   have HK:=aa (hk.1 hq);generalize hY:ag t=Y at *;have P:=aa hp;clear hp hk hY hq HF;go_enter Tryz.func238,Tryz.ntmps238
   go_wp2_with fail
   refine HW.out.mono ?_;rintro e w0 ⟨rfl,b0⟩;have F0:=aa (az.ae (O:=O) b0);have P0:=aa (P.out.below b0);clear b0;have o9 :∀k,O k→k<w0.heap.size:=fun k hk=>(P0.out.own k hk).2
   have V1:=aa (IC w0 b O o9 [93] [61] (by decide) (by decide) ⟨#[93]⟩ ⟨#[61]⟩ rfl rfl)
   clear o9;go_wp2_with fail
   refine V1.out.mono ?_;rintro e w1 ⟨f1,a1,c1,rfl,b1,h1⟩;have F1:=aa (F0.out.trans (az.ae (O:=O) b1) (Ext.refl _ _));have P1:=aa (P0.out.below b1);have H1:=aa h1;clear b1 h1 V1;have HN:=aa (cA w w1 P1.out F1.out (mN 17) rfl [aX 40 b,aX 91 b,.func (.func f1) a1 c1,aX 91 b] [aC,ex,av [[93],[61]],ex] (by simp) ⟨aZ w1 b O,hE.part (enters_of Tryz.func91 (by kernel_rfl) rfl) w1 b O,H1.out,hE.part (enters_of Tryz.func91 (by kernel_rfl) rfl) w1 b O,trivial⟩ HK.out)
   go_wp2_with fail
   refine HN.out.mono ?_;intro e wz hz;obtain⟨v,er,rfl⟩:=hz.ret;have HZ:=aa hz;clear hz;go_wp2_with fail
   go_ret2
   exact HZ.out
 | false =>
  cases hf:lZ t ts with
  | true =>
   ·have g1:((ag t).toList == [91])=false:=aj (s:=[91]) (by decide) t hq
    have HK:=aa ((hk.2 hq).1 hf);have l9:=aa (fun W hW=>HF.out W hW true hf)
    generalize hY:ag t=Y at *;have P:=aa hp;clear hp hk hY hq HF hf;go_enter Tryz.func238,Tryz.ntmps238
    go_wp2_with fail
    refine HW.out.mono ?_;rintro e w0 ⟨rfl,b0⟩;have F0:=aa (az.ae (O:=O) b0);have P0:=aa (P.out.below b0);clear b0;have FI:=aa (l9.out w0 P0.out);clear l9;go_wp2_with fail
    refine FI.out.mono ?_;rintro e w1 ⟨rfl,b1⟩;have F1:=aa (F0.out.trans (az.ae (O:=O) b1) (Ext.refl _ _));have P1:=aa (P0.out.below b1);clear b1;have HN:=aa (cA w w1 P1.out F1.out (mN 17) rfl [aX 179 b,aX 40 b,aX 91 b] [th,aC,ex] (by simp) ⟨Nb.part (enters_of Tryz.func179 (by kernel_rfl) rfl) w1 b O,aZ w1 b O,hE.part (enters_of Tryz.func91 (by kernel_rfl) rfl) w1 b O,trivial⟩ HK.out)
    go_wp2_with fail
    refine HN.out.mono ?_;intro e wz hz;obtain⟨v,er,rfl⟩:=hz.ret;have HZ:=aa hz;clear hz;go_wp2_with fail
    go_ret2
    exact HZ.out
  | false =>
   ·have g1:((ag t).toList == [91])=false:=aj (s:=[91]) (by decide) t hq
    have HK:=aa ((hk.2 hq).2 hf);have l9:=aa (fun W hW=>HF.out W hW false hf)
    generalize hY:ag t=Y at *;have P:=aa hp;clear hp hk hY hq HF hf;go_enter Tryz.func238,Tryz.ntmps238
    go_wp2_with fail
    refine HW.out.mono ?_;rintro e w0 ⟨rfl,b0⟩;have F0:=aa (az.ae (O:=O) b0);have P0:=aa (P.out.below b0);clear b0;have FI:=aa (l9.out w0 P0.out);clear l9;go_wp2_with fail
    refine FI.out.mono ?_;rintro e w1 ⟨rfl,b1⟩;have F1:=aa (F0.out.trans (az.ae (O:=O) b1) (Ext.refl _ _));have P1:=aa (P0.out.below b1);clear b1;have HN:=aa (cA w w1 P1.out F1.out (mN 16) rfl [aX 91 b] [ex] (by simp) ⟨hE.part (enters_of Tryz.func91 (by kernel_rfl) rfl) w1 b O,trivial⟩ HK.out)
    go_wp2_with fail
    refine HN.out.mono ?_;intro e wz hz;obtain⟨v,er,rfl⟩:=hz.ret;have HZ:=aa hz;clear hz;go_wp2_with fail
    go_ret2
    exact HZ.out
theorem Ni {b:Nat} {O:Nat→Prop} {t:ah} {ts:List ah} {T0 T:List Nd} {K:Ast→List ah→Prop} {E:Int→Prop} (w2:World) (g p:Nat) (a:Ast) (hp:PS w2 b O (t::ts) T) (hg:w2.heap[g]? = some (.cells #[.int .i64 (p:Int)] 3 (0,0))) (hgO:¬ O g) (hgb:b+1≤g) (Wi:dV T0 T [a] [(p:Int)])
  (x:Nd) (hx:x=⟨x.kind,0,x.op,x.num,x.s,[],[]⟩) (vs:List Value) (cI:List bV) (hl:vs.length≤100) (hall:jL w2 b (fun k=>O k∨k=g) vs cI)
  (hk:aI cI ⟨{ x with line:=t.2.1},[a],t::ts,T0.length+a.size⟩ (bT K) E) :
  Calls Tryz.prog 19 #[.pointer (some ⟨b,0,none⟩),cP x (.slice none 0 0) (.slice (some ⟨g,0,none⟩) 1 1),.slice (some ⟨w2.heap.size,0,none⟩) vs.length vs.length] (w2.alloc (.cells vs.toArray 122)) (aF b (fun k=>O k∨k=g) T0 (RK K E) w2):=by
 have h1:x.line=0:=by rw[hx]
 have h2:x.names=[]:=by rw[hx]
 have rr:g<w2.heap.size:=(aJ.1 hg).1;have hO :∀k,(O k∨k=g)→k<w2.heap.size:=fun k hk=>hk.elim (fun h=>(hp.own k h).2) (fun h=>h▸rr)
 have hz:T.length=T0.length+a.size:=by rw[Wi.len,Ast.al,Ast.al];omega
 rw[←hz] at hk;have hrow:w2.ownsRow (b+1) 3 1 (.slice (some ⟨g,0,none⟩) 1 1) 1 [.int .i64 (p:Int)]:=⟨rfl,.inr ⟨g,1,#[.int .i64 (p:Int)],rfl,hgb,hg,ai _,by unfold maxLen;omega,rfl,rfl⟩⟩
 have dN:jI w2 b (· = g) { x with kids:=[(p:Int)]} (.slice none 0 0) (.slice (some ⟨g,0,none⟩) 1 1):=by
  refine⟨?_,hrow,fun g hg=>by simp[Value.ownBlock] at hg,fun g hg=>by simp[Value.ownBlock] at hg,fun k hk=>by simpa[Value.ownBlock] using hk.symm⟩
  rw[show({ x with kids:=[(p:Int)]}:Nd).names=[] from h2]
  exact World.ownsRow_nil _ _ _ _
 refine(yQ b O (· = g) t ts T0 T x t.2.1 [a] [(p:Int)] (.slice none 0 0) (.slice (some ⟨g,0,none⟩) 1 1) _ cI (RK K E) _ (hp.below (aV w2 _)) ?_ (fun k hk e=>hgO (e▸hk)) (fun k hk=>⟨by omega,by simp;omega⟩) Wi (aM.new hO vs cI hl hall) (.inl ⟨h1,rfl⟩) hk).mono fun e w' h=>h.after ((az.refl _ _).alloc _)
 exact dN.kept (O1:=fun _=>False) ((az.refl _ w2).alloc _) (fun _ _ h=>h) (fun _ h=>h)
def rK (f:FuncId) (l:Int) (wp:iV):Prop:=∀(b:Nat) (O:Nat→Prop) (ts:List ah) (T:List Nd) (K:Ast→List ah→Prop) (E:Int→Prop) (W:World),PS W b O ts T→wp ts T.length K E→Calls Tryz.prog f #[.pointer (some ⟨b,0,none⟩),.int .i64 l] W (aF b O T (RK K E) W)
theorem aN {s:List UInt8} {t:ah} (h:ax s t=true):(∃l n,t=(2,l,n,s))∨(∃l n,t=(5,l,n,s)):=by
 obtain⟨t0,t1,t2,t3⟩:=t;unfold ax at h;rw[dk,Bool.or_eq_true,je,je,je] at h;obtain⟨h1,h2⟩:=h;dsimp only at h1 h2
 subst h2;rcases h1 with rfl|rfl
 ·exact .inl ⟨t1,t2,rfl⟩
 ·exact .inr ⟨t1,t2,rfl⟩
def eJ (t:ah):Int:=match jD t with
 | some o=>o.1
 | none=>0
def fm (t:ah):Int:=match jZ t with
 | some o=>o
 | none=>0
def bJ (k:Int) (w:World) (e:Ending) (w':World):Prop:=e=.returned (.int .i64 k)∧w'=w
theorem binary_1 (t:ah) (w:World) (hq:ax [43] t=true):Calls Tryz.prog 205 #[.string (ag t)] w (bJ 1 w):=by
 have g0:((ag t).toList == [43])=true:=aj (s:=[43]) (by decide) t hq
 generalize ag t=Y at *;clear hq;go_enter Tryz.func205,Tryz.ntmps205
 go_wp2
 go_ret
 exact⟨rfl,rfl⟩
theorem Nj (t:ah) (w:World) (hq:ax [45] t=true):Calls Tryz.prog 205 #[.string (ag t)] w (bJ 2 w):=by
 have g0:=aP [43] hq (by decide)
 have g1:((ag t).toList == [45])=true:=aj (s:=[45]) (by decide) t hq
 generalize ag t=Y at *;clear hq;go_enter Tryz.func205,Tryz.ntmps205
 go_wp2
 go_ret
 exact⟨rfl,rfl⟩
theorem Nk (t:ah) (w:World) (hq:ax [42] t=true):Calls Tryz.prog 205 #[.string (ag t)] w (bJ 3 w):=by
 have g0:=aP [43] hq (by decide)
 have g1:=aP [45] hq (by decide)
 have g2:((ag t).toList == [42])=true:=aj (s:=[42]) (by decide) t hq
 generalize ag t=Y at *;clear hq;go_enter Tryz.func205,Tryz.ntmps205
 go_wp2
 go_ret
 exact⟨rfl,rfl⟩
theorem Nl (t:ah) (w:World) (hq:ax [47,47] t=true):Calls Tryz.prog 205 #[.string (ag t)] w (bJ 4 w):=by
 have g0:=aP [43] hq (by decide)
 have g1:=aP [45] hq (by decide)
 have g2:=aP [42] hq (by decide)
 have g3:((ag t).toList == [47,47])=true:=aj (s:=[47,47]) (by decide) t hq
 generalize ag t=Y at *;clear hq;go_enter Tryz.func205,Tryz.ntmps205
 go_wp2
 go_ret
 exact⟨rfl,rfl⟩
theorem Nn (t:ah) (w:World) (hq:ax [37] t=true):Calls Tryz.prog 205 #[.string (ag t)] w (bJ 5 w):=by
 have g0:=aP [43] hq (by decide)
 have g1:=aP [45] hq (by decide)
 have g2:=aP [42] hq (by decide)
 have g3:=aP [47,47] hq (by decide)
 have g4:((ag t).toList == [37])=true:=aj (s:=[37]) (by decide) t hq
 generalize ag t=Y at *;clear hq;go_enter Tryz.func205,Tryz.ntmps205
 go_wp2
 go_ret
 exact⟨rfl,rfl⟩
theorem No (t:ah) (w:World) (hq:ax [38] t=true):Calls Tryz.prog 205 #[.string (ag t)] w (bJ 6 w):=by
 have g0:=aP [43] hq (by decide)
 have g1:=aP [45] hq (by decide)
 have g2:=aP [42] hq (by decide)
 have g3:=aP [47,47] hq (by decide)
 have g4:=aP [37] hq (by decide)
 have g5:((ag t).toList == [38])=true:=aj (s:=[38]) (by decide) t hq
 generalize ag t=Y at *;clear hq;go_enter Tryz.func205,Tryz.ntmps205
 go_wp2
 go_ret
 exact⟨rfl,rfl⟩
theorem Nq (t:ah) (w:World) (hq:ax [124] t=true):Calls Tryz.prog 205 #[.string (ag t)] w (bJ 7 w):=by
 have g0:=aP [43] hq (by decide)
 have g1:=aP [45] hq (by decide)
 have g2:=aP [42] hq (by decide)
 have g3:=aP [47,47] hq (by decide)
 have g4:=aP [37] hq (by decide)
 have g5:=aP [38] hq (by decide)
 have g6:((ag t).toList == [124])=true:=aj (s:=[124]) (by decide) t hq
 generalize ag t=Y at *;clear hq;go_enter Tryz.func205,Tryz.ntmps205
 go_wp2
 go_ret
 exact⟨rfl,rfl⟩
theorem Nr (t:ah) (w:World) (hq:ax [126] t=true):Calls Tryz.prog 205 #[.string (ag t)] w (bJ 8 w):=by
 have g0:=aP [43] hq (by decide)
 have g1:=aP [45] hq (by decide)
 have g2:=aP [42] hq (by decide)
 have g3:=aP [47,47] hq (by decide)
 have g4:=aP [37] hq (by decide)
 have g5:=aP [38] hq (by decide)
 have g6:=aP [124] hq (by decide)
 have g7:((ag t).toList == [126])=true:=aj (s:=[126]) (by decide) t hq
 generalize ag t=Y at *;clear hq;go_enter Tryz.func205,Tryz.ntmps205
 go_wp2
 go_ret
 exact⟨rfl,rfl⟩
theorem Ns (t:ah) (w:World) (hq:ax [60,60] t=true):Calls Tryz.prog 205 #[.string (ag t)] w (bJ 9 w):=by
 have g0:=aP [43] hq (by decide)
 have g1:=aP [45] hq (by decide)
 have g2:=aP [42] hq (by decide)
 have g3:=aP [47,47] hq (by decide)
 have g4:=aP [37] hq (by decide)
 have g5:=aP [38] hq (by decide)
 have g6:=aP [124] hq (by decide)
 have g7:=aP [126] hq (by decide)
 have g8:((ag t).toList == [60,60])=true:=aj (s:=[60,60]) (by decide) t hq
 generalize ag t=Y at *;clear hq;go_enter Tryz.func205,Tryz.ntmps205
 go_wp2
 go_ret
 exact⟨rfl,rfl⟩
theorem IE (t:ah) (w:World) (hq:ax [62,62] t=true):Calls Tryz.prog 205 #[.string (ag t)] w (bJ 10 w):=by
 have g0:=aP [43] hq (by decide)
 have g1:=aP [45] hq (by decide)
 have g2:=aP [42] hq (by decide)
 have g3:=aP [47,47] hq (by decide)
 have g4:=aP [37] hq (by decide)
 have g5:=aP [38] hq (by decide)
 have g6:=aP [124] hq (by decide)
 have g7:=aP [126] hq (by decide)
 have g8:=aP [60,60] hq (by decide)
 have g9:((ag t).toList == [62,62])=true:=aj (s:=[62,62]) (by decide) t hq
 generalize ag t=Y at *;clear hq;go_enter Tryz.func205,Tryz.ntmps205
 go_wp2
 go_ret
 exact⟨rfl,rfl⟩
theorem IF (t:ah) (w:World) (hq:ax [46,46] t=true):Calls Tryz.prog 205 #[.string (ag t)] w (bJ 11 w):=by
 have g0:=aP [43] hq (by decide)
 have g1:=aP [45] hq (by decide)
 have g2:=aP [42] hq (by decide)
 have g3:=aP [47,47] hq (by decide)
 have g4:=aP [37] hq (by decide)
 have g5:=aP [38] hq (by decide)
 have g6:=aP [124] hq (by decide)
 have g7:=aP [126] hq (by decide)
 have g8:=aP [60,60] hq (by decide)
 have g9:=aP [62,62] hq (by decide)
 have g10:((ag t).toList == [46,46])=true:=aj (s:=[46,46]) (by decide) t hq
 generalize ag t=Y at *;clear hq;go_enter Tryz.func205,Tryz.ntmps205
 go_wp2
 go_ret
 exact⟨rfl,rfl⟩
theorem IG (t:ah) (w:World) (hq:ax [61,61] t=true):Calls Tryz.prog 205 #[.string (ag t)] w (bJ 12 w):=by
 have g0:=aP [43] hq (by decide)
 have g1:=aP [45] hq (by decide)
 have g2:=aP [42] hq (by decide)
 have g3:=aP [47,47] hq (by decide)
 have g4:=aP [37] hq (by decide)
 have g5:=aP [38] hq (by decide)
 have g6:=aP [124] hq (by decide)
 have g7:=aP [126] hq (by decide)
 have g8:=aP [60,60] hq (by decide)
 have g9:=aP [62,62] hq (by decide)
 have g10:=aP [46,46] hq (by decide)
 have g11:((ag t).toList == [61,61])=true:=aj (s:=[61,61]) (by decide) t hq
 generalize ag t=Y at *;clear hq;go_enter Tryz.func205,Tryz.ntmps205
 go_wp2
 go_ret
 exact⟨rfl,rfl⟩
theorem IH (t:ah) (w:World) (hq:ax [126,61] t=true):Calls Tryz.prog 205 #[.string (ag t)] w (bJ 13 w):=by
 have g0:=aP [43] hq (by decide)
 have g1:=aP [45] hq (by decide)
 have g2:=aP [42] hq (by decide)
 have g3:=aP [47,47] hq (by decide)
 have g4:=aP [37] hq (by decide)
 have g5:=aP [38] hq (by decide)
 have g6:=aP [124] hq (by decide)
 have g7:=aP [126] hq (by decide)
 have g8:=aP [60,60] hq (by decide)
 have g9:=aP [62,62] hq (by decide)
 have g10:=aP [46,46] hq (by decide)
 have g11:=aP [61,61] hq (by decide)
 have g12:((ag t).toList == [126,61])=true:=aj (s:=[126,61]) (by decide) t hq
 generalize ag t=Y at *;clear hq;go_enter Tryz.func205,Tryz.ntmps205
 go_wp2
 go_ret
 exact⟨rfl,rfl⟩
theorem II (t:ah) (w:World) (hq:ax [60] t=true):Calls Tryz.prog 205 #[.string (ag t)] w (bJ 14 w):=by
 have g0:=aP [43] hq (by decide)
 have g1:=aP [45] hq (by decide)
 have g2:=aP [42] hq (by decide)
 have g3:=aP [47,47] hq (by decide)
 have g4:=aP [37] hq (by decide)
 have g5:=aP [38] hq (by decide)
 have g6:=aP [124] hq (by decide)
 have g7:=aP [126] hq (by decide)
 have g8:=aP [60,60] hq (by decide)
 have g9:=aP [62,62] hq (by decide)
 have g10:=aP [46,46] hq (by decide)
 have g11:=aP [61,61] hq (by decide)
 have g12:=aP [126,61] hq (by decide)
 have g13:((ag t).toList == [60])=true:=aj (s:=[60]) (by decide) t hq
 generalize ag t=Y at *;clear hq;go_enter Tryz.func205,Tryz.ntmps205
 go_wp2
 go_ret
 exact⟨rfl,rfl⟩
theorem IJ (t:ah) (w:World) (hq:ax [60,61] t=true):Calls Tryz.prog 205 #[.string (ag t)] w (bJ 15 w):=by
 have g0:=aP [43] hq (by decide)
 have g1:=aP [45] hq (by decide)
 have g2:=aP [42] hq (by decide)
 have g3:=aP [47,47] hq (by decide)
 have g4:=aP [37] hq (by decide)
 have g5:=aP [38] hq (by decide)
 have g6:=aP [124] hq (by decide)
 have g7:=aP [126] hq (by decide)
 have g8:=aP [60,60] hq (by decide)
 have g9:=aP [62,62] hq (by decide)
 have g10:=aP [46,46] hq (by decide)
 have g11:=aP [61,61] hq (by decide)
 have g12:=aP [126,61] hq (by decide)
 have g13:=aP [60] hq (by decide)
 have g14:((ag t).toList == [60,61])=true:=aj (s:=[60,61]) (by decide) t hq
 generalize ag t=Y at *;clear hq;go_enter Tryz.func205,Tryz.ntmps205
 go_wp2
 go_ret
 exact⟨rfl,rfl⟩
theorem IK (t:ah) (w:World) (hq:ax [62] t=true):Calls Tryz.prog 205 #[.string (ag t)] w (bJ 16 w):=by
 have g0:=aP [43] hq (by decide)
 have g1:=aP [45] hq (by decide)
 have g2:=aP [42] hq (by decide)
 have g3:=aP [47,47] hq (by decide)
 have g4:=aP [37] hq (by decide)
 have g5:=aP [38] hq (by decide)
 have g6:=aP [124] hq (by decide)
 have g7:=aP [126] hq (by decide)
 have g8:=aP [60,60] hq (by decide)
 have g9:=aP [62,62] hq (by decide)
 have g10:=aP [46,46] hq (by decide)
 have g11:=aP [61,61] hq (by decide)
 have g12:=aP [126,61] hq (by decide)
 have g13:=aP [60] hq (by decide)
 have g14:=aP [60,61] hq (by decide)
 have g15:((ag t).toList == [62])=true:=aj (s:=[62]) (by decide) t hq
 generalize ag t=Y at *;clear hq;go_enter Tryz.func205,Tryz.ntmps205
 go_wp2
 go_ret
 exact⟨rfl,rfl⟩
theorem IL (t:ah) (w:World) (hq:ax [62,61] t=true):Calls Tryz.prog 205 #[.string (ag t)] w (bJ 17 w):=by
 have g0:=aP [43] hq (by decide)
 have g1:=aP [45] hq (by decide)
 have g2:=aP [42] hq (by decide)
 have g3:=aP [47,47] hq (by decide)
 have g4:=aP [37] hq (by decide)
 have g5:=aP [38] hq (by decide)
 have g6:=aP [124] hq (by decide)
 have g7:=aP [126] hq (by decide)
 have g8:=aP [60,60] hq (by decide)
 have g9:=aP [62,62] hq (by decide)
 have g10:=aP [46,46] hq (by decide)
 have g11:=aP [61,61] hq (by decide)
 have g12:=aP [126,61] hq (by decide)
 have g13:=aP [60] hq (by decide)
 have g14:=aP [60,61] hq (by decide)
 have g15:=aP [62] hq (by decide)
 have g16:((ag t).toList == [62,61])=true:=aj (s:=[62,61]) (by decide) t hq
 generalize ag t=Y at *;clear hq;go_enter Tryz.func205,Tryz.ntmps205
 go_wp2
 go_ret
 exact⟨rfl,rfl⟩
theorem IM (t:ah) (w:World) (hq:ax GW t=true):Calls Tryz.prog 205 #[.string (ag t)] w (bJ 18 w):=by
 have g0:=aP [43] hq (by decide)
 have g1:=aP [45] hq (by decide)
 have g2:=aP [42] hq (by decide)
 have g3:=aP [47,47] hq (by decide)
 have g4:=aP [37] hq (by decide)
 have g5:=aP [38] hq (by decide)
 have g6:=aP [124] hq (by decide)
 have g7:=aP [126] hq (by decide)
 have g8:=aP [60,60] hq (by decide)
 have g9:=aP [62,62] hq (by decide)
 have g10:=aP [46,46] hq (by decide)
 have g11:=aP [61,61] hq (by decide)
 have g12:=aP [126,61] hq (by decide)
 have g13:=aP [60] hq (by decide)
 have g14:=aP [60,61] hq (by decide)
 have g15:=aP [62] hq (by decide)
 have g16:=aP [62,61] hq (by decide)
 have g17:((ag t).toList == [97,110,100])=true:=aj (s:=GW) (by decide) t hq
 generalize ag t=Y at *;clear hq;go_enter Tryz.func205,Tryz.ntmps205
 go_wp2
 go_ret
 exact⟨rfl,rfl⟩
theorem IN (t:ah) (w:World) (hq:ax wOr t=true):Calls Tryz.prog 205 #[.string (ag t)] w (bJ 19 w):=by
 have g0:=aP [43] hq (by decide)
 have g1:=aP [45] hq (by decide)
 have g2:=aP [42] hq (by decide)
 have g3:=aP [47,47] hq (by decide)
 have g4:=aP [37] hq (by decide)
 have g5:=aP [38] hq (by decide)
 have g6:=aP [124] hq (by decide)
 have g7:=aP [126] hq (by decide)
 have g8:=aP [60,60] hq (by decide)
 have g9:=aP [62,62] hq (by decide)
 have g10:=aP [46,46] hq (by decide)
 have g11:=aP [61,61] hq (by decide)
 have g12:=aP [126,61] hq (by decide)
 have g13:=aP [60] hq (by decide)
 have g14:=aP [60,61] hq (by decide)
 have g15:=aP [62] hq (by decide)
 have g16:=aP [62,61] hq (by decide)
 have g17:=aP [97,110,100] hq (by decide)
 have g18:((ag t).toList == [111,114])=true:=aj (s:=wOr) (by decide) t hq
 generalize ag t=Y at *;clear hq;go_enter Tryz.func205,Tryz.ntmps205
 go_wp2
 go_ret
 exact⟨rfl,rfl⟩
theorem Nt (t:ah) (w:World) (q0:ax [43] t=false) (q1:ax [45] t=false) (q2:ax [42] t=false) (q3:ax [47,47] t=false) (q4:ax [37] t=false) (q5:ax [38] t=false) (q6:ax [124] t=false) (q7:ax [126] t=false) (q8:ax [60,60] t=false) (q9:ax [62,62] t=false) (Tx:ax [46,46] t=false) (yV:ax [61,61] t=false) (Wj:ax [126,61] t=false) (Wk:ax [60] t=false) (Wl:ax [60,61] t=false) (Wm:ax [62] t=false) (Rc:ax [62,61] t=false) (Wn:ax GW t=false) (zG:ax wOr t=false):Calls Tryz.prog 205 #[.string (ag t)] w (bJ 0 w):=by
 have g0:((ag t).toList == [43])=false:=aj (s:=[43]) (by decide) t q0
 have g1:((ag t).toList == [45])=false:=aj (s:=[45]) (by decide) t q1
 have g2:((ag t).toList == [42])=false:=aj (s:=[42]) (by decide) t q2
 have g3:((ag t).toList == [47,47])=false:=aj (s:=[47,47]) (by decide) t q3
 have g4:((ag t).toList == [37])=false:=aj (s:=[37]) (by decide) t q4
 have g5:((ag t).toList == [38])=false:=aj (s:=[38]) (by decide) t q5
 have g6:((ag t).toList == [124])=false:=aj (s:=[124]) (by decide) t q6
 have g7:((ag t).toList == [126])=false:=aj (s:=[126]) (by decide) t q7
 have g8:((ag t).toList == [60,60])=false:=aj (s:=[60,60]) (by decide) t q8
 have g9:((ag t).toList == [62,62])=false:=aj (s:=[62,62]) (by decide) t q9
 have g10:((ag t).toList == [46,46])=false:=aj (s:=[46,46]) (by decide) t Tx
 have g11:((ag t).toList == [61,61])=false:=aj (s:=[61,61]) (by decide) t yV
 have g12:((ag t).toList == [126,61])=false:=aj (s:=[126,61]) (by decide) t Wj
 have g13:((ag t).toList == [60])=false:=aj (s:=[60]) (by decide) t Wk
 have g14:((ag t).toList == [60,61])=false:=aj (s:=[60,61]) (by decide) t Wl
 have g15:((ag t).toList == [62])=false:=aj (s:=[62]) (by decide) t Wm
 have g16:((ag t).toList == [62,61])=false:=aj (s:=[62,61]) (by decide) t Rc
 have g17:((ag t).toList == [97,110,100])=false:=aj (s:=GW) (by decide) t Wn
 have g18:((ag t).toList == [111,114])=false:=aj (s:=wOr) (by decide) t zG
 clear q0 q1 q2 q3 q4 q5 q6 q7 q8 q9 Tx yV Wj Wk Wl Wm Rc Wn zG;generalize ag t=Y at *;go_enter Tryz.func205,Tryz.ntmps205
 go_wp2
 go_ret
 exact⟨rfl,rfl⟩
theorem Nu (t:ah) (w:World):Calls Tryz.prog 205 #[.string (ag t)] w (bJ (eJ t) w):=by
 rcases eL (ax [43] t) with q0|q0
 ·rw[show eJ t=1 from by rcases aN q0 with ⟨l,n,rfl⟩ | ⟨l,n,rfl⟩<;>rfl]
  exact binary_1 t w q0
 rcases eL (ax [45] t) with q1|q1
 ·rw[show eJ t=2 from by rcases aN q1 with ⟨l,n,rfl⟩ | ⟨l,n,rfl⟩<;>rfl]
  exact Nj t w q1
 rcases eL (ax [42] t) with q2|q2
 ·rw[show eJ t=3 from by rcases aN q2 with ⟨l,n,rfl⟩ | ⟨l,n,rfl⟩<;>rfl]
  exact Nk t w q2
 rcases eL (ax [47,47] t) with q3|q3
 ·rw[show eJ t=4 from by rcases aN q3 with ⟨l,n,rfl⟩ | ⟨l,n,rfl⟩<;>rfl]
  exact Nl t w q3
 rcases eL (ax [37] t) with q4|q4
 ·rw[show eJ t=5 from by rcases aN q4 with ⟨l,n,rfl⟩ | ⟨l,n,rfl⟩<;>rfl]
  exact Nn t w q4
 rcases eL (ax [38] t) with q5|q5
 ·rw[show eJ t=6 from by rcases aN q5 with ⟨l,n,rfl⟩ | ⟨l,n,rfl⟩<;>rfl]
  exact No t w q5
 rcases eL (ax [124] t) with q6|q6
 ·rw[show eJ t=7 from by rcases aN q6 with ⟨l,n,rfl⟩ | ⟨l,n,rfl⟩<;>rfl]
  exact Nq t w q6
 rcases eL (ax [126] t) with q7|q7
 ·rw[show eJ t=8 from by rcases aN q7 with ⟨l,n,rfl⟩ | ⟨l,n,rfl⟩<;>rfl]
  exact Nr t w q7
 rcases eL (ax [60,60] t) with q8|q8
 ·rw[show eJ t=9 from by rcases aN q8 with ⟨l,n,rfl⟩ | ⟨l,n,rfl⟩<;>rfl]
  exact Ns t w q8
 rcases eL (ax [62,62] t) with q9|q9
 ·rw[show eJ t=10 from by rcases aN q9 with ⟨l,n,rfl⟩ | ⟨l,n,rfl⟩<;>rfl]
  exact IE t w q9
 rcases eL (ax [46,46] t) with Tx|Tx
 ·rw[show eJ t=11 from by rcases aN Tx with ⟨l,n,rfl⟩ | ⟨l,n,rfl⟩<;>rfl]
  exact IF t w Tx
 rcases eL (ax [61,61] t) with yV|yV
 ·rw[show eJ t=12 from by rcases aN yV with ⟨l,n,rfl⟩ | ⟨l,n,rfl⟩<;>rfl]
  exact IG t w yV
 rcases eL (ax [126,61] t) with Wj|Wj
 ·rw[show eJ t=13 from by rcases aN Wj with ⟨l,n,rfl⟩ | ⟨l,n,rfl⟩<;>rfl]
  exact IH t w Wj
 rcases eL (ax [60] t) with Wk|Wk
 ·rw[show eJ t=14 from by rcases aN Wk with ⟨l,n,rfl⟩ | ⟨l,n,rfl⟩<;>rfl]
  exact II t w Wk
 rcases eL (ax [60,61] t) with Wl|Wl
 ·rw[show eJ t=15 from by rcases aN Wl with ⟨l,n,rfl⟩ | ⟨l,n,rfl⟩<;>rfl]
  exact IJ t w Wl
 rcases eL (ax [62] t) with Wm|Wm
 ·rw[show eJ t=16 from by rcases aN Wm with ⟨l,n,rfl⟩ | ⟨l,n,rfl⟩<;>rfl]
  exact IK t w Wm
 rcases eL (ax [62,61] t) with Rc|Rc
 ·rw[show eJ t=17 from by rcases aN Rc with ⟨l,n,rfl⟩ | ⟨l,n,rfl⟩<;>rfl]
  exact IL t w Rc
 rcases eL (ax GW t) with Wn|Wn
 ·rw[show eJ t=18 from by rcases aN Wn with ⟨l,n,rfl⟩ | ⟨l,n,rfl⟩<;>rfl]
  exact IM t w Wn
 rcases eL (ax wOr t) with zG|zG
 ·rw[show eJ t=19 from by rcases aN zG with ⟨l,n,rfl⟩ | ⟨l,n,rfl⟩<;>rfl]
  exact IN t w zG
 rw[show eJ t=0 from by unfold eJ;rw[show jD t=none from by simp[jD,q0,q1,q2,q3,q4,q5,q6,q7,q8,q9,Tx,yV,Wj,Wk,Wl,Wm,Rc,Wn,zG]]]
 exact Nt t w q0 q1 q2 q3 q4 q5 q6 q7 q8 q9 Tx yV Wj Wk Wl Wm Rc Wn zG
theorem Nv (t:ah) (w:World) (hq:ax [45] t=true):Calls Tryz.prog 224 #[.string (ag t)] w (bJ 20 w):=by
 have g0:((ag t).toList == [45])=true:=aj (s:=[45]) (by decide) t hq
 generalize ag t=Y at *;clear hq;go_enter Tryz.func224,Tryz.ntmps224
 go_wp2
 go_ret
 exact⟨rfl,rfl⟩
theorem Nw (t:ah) (w:World) (hq:ax [126] t=true):Calls Tryz.prog 224 #[.string (ag t)] w (bJ 21 w):=by
 have g0:=aP [45] hq (by decide)
 have g1:((ag t).toList == [126])=true:=aj (s:=[126]) (by decide) t hq
 generalize ag t=Y at *;clear hq;go_enter Tryz.func224,Tryz.ntmps224
 go_wp2
 go_ret
 exact⟨rfl,rfl⟩
theorem Nx (t:ah) (w:World) (hq:ax CL t=true):Calls Tryz.prog 224 #[.string (ag t)] w (bJ 22 w):=by
 have g0:=aP [45] hq (by decide)
 have g1:=aP [126] hq (by decide)
 have g2:((ag t).toList == [110,111,116])=true:=aj (s:=CL) (by decide) t hq
 generalize ag t=Y at *;clear hq;go_enter Tryz.func224,Tryz.ntmps224
 go_wp2
 go_ret
 exact⟨rfl,rfl⟩
theorem Ny (t:ah) (w:World) (hq:ax [35] t=true):Calls Tryz.prog 224 #[.string (ag t)] w (bJ 23 w):=by
 have g0:=aP [45] hq (by decide)
 have g1:=aP [126] hq (by decide)
 have g2:=aP [110,111,116] hq (by decide)
 have g3:((ag t).toList == [35])=true:=aj (s:=[35]) (by decide) t hq
 generalize ag t=Y at *;clear hq;go_enter Tryz.func224,Tryz.ntmps224
 go_wp2
 go_ret
 exact⟨rfl,rfl⟩
theorem Ty (t:ah) (w:World) (q0:ax [45] t=false) (q1:ax [126] t=false) (q2:ax CL t=false) (q3:ax [35] t=false):Calls Tryz.prog 224 #[.string (ag t)] w (bJ 0 w):=by
 have g0:((ag t).toList == [45])=false:=aj (s:=[45]) (by decide) t q0
 have g1:((ag t).toList == [126])=false:=aj (s:=[126]) (by decide) t q1
 have g2:((ag t).toList == [110,111,116])=false:=aj (s:=CL) (by decide) t q2
 have g3:((ag t).toList == [35])=false:=aj (s:=[35]) (by decide) t q3
 clear q0 q1 q2 q3;generalize ag t=Y at *;go_enter Tryz.func224,Tryz.ntmps224
 go_wp2
 go_ret
 exact⟨rfl,rfl⟩
theorem ku (t:ah) (w:World):Calls Tryz.prog 224 #[.string (ag t)] w (bJ (fm t) w):=by
 rcases eL (ax [45] t) with q0|q0
 ·rw[show fm t=20 from by rcases aN q0 with ⟨l,n,rfl⟩ | ⟨l,n,rfl⟩<;>rfl]
  exact Nv t w q0
 rcases eL (ax [126] t) with q1|q1
 ·rw[show fm t=21 from by rcases aN q1 with ⟨l,n,rfl⟩ | ⟨l,n,rfl⟩<;>rfl]
  exact Nw t w q1
 rcases eL (ax CL t) with q2|q2
 ·rw[show fm t=22 from by rcases aN q2 with ⟨l,n,rfl⟩ | ⟨l,n,rfl⟩<;>rfl]
  exact Nx t w q2
 rcases eL (ax [35] t) with q3|q3
 ·rw[show fm t=23 from by rcases aN q3 with ⟨l,n,rfl⟩ | ⟨l,n,rfl⟩<;>rfl]
  exact Ny t w q3
 rw[show fm t=0 from by unfold fm;rw[show jZ t=none from by simp[jZ,q0,q1,q2,q3]]]
 exact Ty t w q0 q1 q2 q3
def Ko (k:Int):Int:=if k=0 then 0 else if k=19 then 1 else if k=18 then 2 else if 12≤k∧k≤17 then 3 else if k=7 then 4 else if k=8 then 5 else if k=6 then 6 else if k=9∨k=10 then 7 else if k=11 then 8 else if k=1∨k=2 then 9 else if 3≤k∧k≤5 then 10 else 11
def wi (k:Int):Int:=if k=11 then 7 else Ko k
theorem uT (k:Int) (w:World) (h0:0≤k) (h1:k≤23):Calls Tryz.prog 206 #[.int .i64 k] w (bJ (Ko k) w):=by
 have h:k=0∨k=1∨k=2∨k=3∨k=4∨k=5∨k=6∨k=7∨k=8∨k=9∨k=10∨k=11∨k=12∨k=13∨k=14∨k=15∨k=16∨k=17∨k=18∨k=19∨k=20∨k=21∨k=22∨k=23:=by omega
 rcases h with rfl|rfl|rfl|rfl|rfl|rfl|rfl|rfl|rfl|rfl|rfl|rfl|rfl|rfl|rfl|rfl|rfl|rfl|rfl|rfl|rfl|rfl|rfl|rfl <;>
 ·clear h0 h1
  go_enter Tryz.func206,Tryz.ntmps206
  go_wp2
  go_ret
  exact⟨rfl,rfl⟩
theorem Nz (k:Int) (w:World) (h0:0≤k) (h1:k≤23):Calls Tryz.prog 227 #[.int .i64 k] w (bJ (wi k) w):=by
 have HC:=aa (uT k w h0 h1);by_cases hk:k=11
 ·subst hk
  rw[show Ko 11=8 from rfl] at HC
  rw[show wi 11=7 from rfl]
  clear h0 h1;go_enter Tryz.func227,Tryz.ntmps227
  go_wp2_with fail
  refine HC.out.mono ?_;rintro e w1 ⟨rfl,rfl⟩;go_wp2_with fail
  go_ret
  exact⟨rfl,rfl⟩
 ·rw[show wi k=Ko k from by unfold wi;rw[af hk]]
  have g1:(k == 11)=false:=aE.2 hk;generalize Ko k=S at *;clear h0 h1 hk;go_enter Tryz.func227,Tryz.ntmps227
  go_wp2_with fail
  refine HC.out.mono ?_;rintro e w1 ⟨rfl,rfl⟩;go_wp2_with fail
  go_ret
  exact⟨rfl,rfl⟩
theorem ma {t:ah} {o:Int×Nat×Nat} (h:jD t=some o):eJ t=o.1∧Ko o.1=(o.2.1:Int)∧wi o.1+1=(o.2.2:Int)∧1≤o.1∧o.1≤19:=by
 refine⟨by unfold eJ;rw[h],?_⟩
 unfold jD at h;repeat' (rcases uI h with rfl|h;exact⟨by decide,by decide,by decide,by decide⟩)
 exact absurd h (by simp)
theorem xA {t:ah} (h:jD t=none):eJ t=0:=by unfold eJ;rw[h]
theorem NB {wp:iV} (op:Int) (h0:0≤op) (h1:op≤23) (hB:rK 178 (wi op) wp) (b g1 g2:Nat) (O:Nat→Prop) (ts:List ah) (T:List Nd) (K:Ast→List ah→Prop) (E:Int→Prop) (w:World) (hp:PS w b O ts T) (b1:eI w O g1 #[.pointer (some ⟨b,0,none⟩)] 116) (b2:eI w O g2 #[.int .i64 op] 3) (hk:wp ts T.length K E) :
  Calls Tryz.prog 226 #[.pointer (some ⟨g1,0,none⟩),.pointer (some ⟨g2,0,none⟩)] w (aF b O T (RK K E) w):=by
 have c1:=b1.cell 0;have c2:=b2.cell 0;have HS:=aa (fun W=>Nz op W h0 h1)
 have HB:=aa (fun(W:World) hW=>hB b O ts T K E W hW hk)
 have HP:=aa hp;generalize wi op=l at *;clear b1 b2 hp hk hB h0 h1;go_enter Tryz.func226,Tryz.ntmps226
 go_wp2_with fail
 go_region_with (first
  | (go_at_call 227;refine(HS.out _).mono ?_;rintro e w2 ⟨rfl,rfl⟩)
  | (go_at_call 178;refine(HB.out _ (HP.out.below (by exact⟨rfl,rfl,rfl,ai _,fun _ _=>rfl⟩))).mono ?_;intro e w3 h3;obtain⟨v,er,rfl⟩:=h3.ret;have H3:=aa h3;clear h3))
 all_goals go_wp2
 all_goals go_ret2
 all_goals exact H3.out.after ⟨rfl,rfl,rfl,ai _,fun _ _ _=>rfl,fun _ _=>rfl⟩
theorem FJ {wp:iV} (op:Int) (h0:0≤op) (h1:op≤23) (hB:rK 178 (wi op) wp) (b:Nat) (O:Nat→Prop) (w:World) (hO :∀k,O k→k<w.heap.size):Calls Tryz.prog 207 #[.pointer (some ⟨b,0,none⟩),.int .i64 op] w (kt b O (dp wp) w):=by
 obtain⟨w1,dZ⟩ :∃w1,w1=w.alloc (.cells #[.pointer (some ⟨b,0,none⟩)] 116):=⟨_,rfl⟩;obtain⟨w2,hw2⟩ :∃w2,w2=w1.alloc (.cells #[.int .i64 op] 3):=⟨_,rfl⟩;have f1:az O w w1:=by rw[dZ];exact(az.refl _ _).alloc _
 have f2:az O w1 w2:=by rw[hw2];exact(az.refl _ _).alloc _
 have z1:w1.heap.size=w.heap.size+1:=by rw[dZ,an]
 have b1:eI w1 O w.heap.size #[.pointer (some ⟨b,0,none⟩)] 116:=by rw[dZ];exact eI.new w O hO _ _
 have b2:eI w2 O (w.heap.size+1) #[.int .i64 op] 3:=by rw[hw2,←z1];exact eI.new w1 O (fun k hk=>by have:=hO k hk;omega) _ _
 have A4:One w2 b O (.func (.func 226) #[] #[.pointer (some ⟨w.heap.size,0,none⟩),.pointer (some ⟨w.heap.size+1,0,none⟩)]) wp:=by
  intro W1 O1 T ts K E hf he hp hk;refine⟨226,_,_,rfl,enters_of Tryz.func226 (by kernel_rfl) rfl,?_⟩
  exact NB op h0 h1 hB b _ _ O1 ts T K E W1 hp ((b1.later f2 (Ext.refl _ _)).later hf he) (b2.later hf he) hk
 have HK:=aa (A3 b O 226 _ _ wp w2 A4 fun k hk=>by have:=hO k hk;have:=f1.size;have:=f2.size;omega)
 have HB:Hid (Below w.heap.size w w2):=aa (by rw[hw2,dZ];exact((Below.refl _ _).alloc (ai _) _).alloc (by simp) _)
 rw[hw2,dZ] at HK HB;clear dZ hw2 f1 f2 z1 b1 b2 A4 hB h0 h1;go_enter Tryz.func207,Tryz.ntmps207
 go_wp2_with fail
 refine HK.out.mono ?_;rintro e w1 ⟨v,rfl,b1,h2,f,first,cap,rfl⟩
 have H2:=aa h2;have B1:=aa (aB HB.out b1);clear h2 b1;go_wp2_with fail
 go_ret
 exact⟨f,first,cap,rfl,B1.out,H2.out⟩
def Ba (rt:Int→iV) (l:Int):Nat→Ast→List ah→Nat→(Ast→List ah→Prop)→(Int→Prop)→Prop
 | 0,_,_,_,_,_=>False
 | k+1,a,ts,n,K,E=>∃t r,ts=t::r∧(Ko (eJ t)≤l→K a ts) ∧
  (¬ Ko (eJ t)≤l→aI [aC,dp (rt (eJ t))] ⟨⟨12,t.2.1,eJ t,0,⟨#[]⟩,[],[]⟩,[a],ts,n+a.size⟩ (bT fun a' au=>Ba rt l k a' au n K E) E)
theorem DG (t:ah):0≤eJ t∧eJ t≤19:=by
 cases h:jD t with
 | none=>rw[xA h];decide
 | some o=>have:=ma h;omega
theorem Tz {od:iV} {rt:Int→iV} (hO:pF 204 od) (l:Int) (hR :∀op,1≤op→op≤19→rK 178 (wi op) (rt op)) (hl:0≤l):rK 178 l fun ts n K E=>od ts n (fun a eB=>∃m,Ba rt l m a eB n K E) E:=by
 intro b O ts T0 K E w hp hk;have HA:=aa (hO b O ts T0 _ E w hp hk);have HR:=aa hR;have HL:=aa hl;clear hO hp hk hR hl;go_enter Tryz.func178,Tryz.ntmps178
 go_wp2_with fail
 refine HA.out.mono ?_;intro e w1 h1;have F1:=aa h1.1;rcases h1.2 with ⟨p,a,eB,O1,T1,rfl,p1,x1,l1,k1⟩ | ⟨le,v,er,rfl,⟨g',rfl,m2,m3⟩,k1⟩
 ·obtain⟨m,k1⟩:=k1
  have P1:=aa p1;have X1:=aa x1;have L1:=aa l1;have K1:=aa k1;clear h1 p1 x1 l1 k1;go_wp2_with fail
  go_loopg [6,7] (m+1) (fun z lv ev wr=>(∃(p:Nat) (a:Ast) (tr:List ah) (Or:Nat→Prop) (Tr:List Nd) (k:Nat),lv=.int .i64 (p:Int)∧ev=.nilIface∧z=k+1∧PS wr b Or tr Tr∧az O w wr∧Ext O Or w∧dV T0 Tr [a] [(p:Int)]∧Ba rt l k a tr T0.length K E) ∨
   (∃(le:Int) (g':Nat),ev=.iface 75 (.pointer (some ⟨g',0,none⟩))∧w.heap.size≤g'∧wr.heap[g']? = some (.cells #[.int .i64 6,.int .i64 le] 81 (0,0))∧az O w wr∧E le))
  case atStart=>exact .inl ⟨p,a,eB,O1,T1,m,rfl,rfl,rfl,P1.out,F1.out,X1.out,L1.out,K1.out⟩
  case round =>
   rcases hrel with ⟨p,a,tr,Or,Tr,k,rfl,rfl,rfl,pr,fr,xr,lr,kr⟩ | ⟨le,g',rfl,hg,m3,fr,ke⟩
   ·cases k with
    | zero=>exact kr.elim
    | succ k =>
     obtain⟨t,r,rfl,hle,Kq⟩:=kr;have PR:=aa pr;have FR:=aa fr;have XR:=aa xr;have LR:=aa lr;have HW:=aa (bL b Or t r Tr wr pr);have xB:=aa (fun W=>Nu t W)
     have hbr:=DG t;have HST:=aa (fun W=>uT (eJ t) W hbr.1 (by omega))
     have TB:Hid (¬ Ko (eJ t)≤l→1≤eJ t):=aa fun h=>by
      have h0:eJ t≠0:=fun e=>h (by rw[e];exact HL.out)
      omega
     have HLE:=aa hle;have HGT:=aa Kq;have aa3:=aa hbr.2;clear pr fr xr lr hle Kq hbr F1 P1 X1 L1 K1 HA;generalize hY:ag t=Y at *;generalize hop:eJ t=op at *;generalize hst:Ko op=st at *;clear hY hop;have HSE:=aa hst;clear hst;by_cases hc:st≤l
     ·have g1:decide (st≤l)=true:=bF hc
      have HC:=aa hc;clear hc;go_wp2_with fail
      refine HW.out.mono ?_;rintro e w2 ⟨rfl,b2⟩;have B2:=aa b2;clear b2;go_wp2_with fail
      refine(xB.out _).mono ?_;rintro e w3 ⟨rfl,rfl⟩;go_wp2_with fail
      refine(HST.out _).mono ?_;rintro e w3 ⟨rfl,rfl⟩;go_wp2_with fail
      go_ret2
      exact⟨FR.out.trans (az.ae (O:=Or) B2.out) XR.out,.inl ⟨p,a,t::r,Or,Tr,rfl,PR.out.below B2.out,XR.out,LR.out,HLE.out HC.out⟩⟩
     ·have g1:decide (st≤l)=false:=bN hc
      have HC:=aa hc;clear hc;go_wp2_with fail
      refine HW.out.mono ?_;rintro e w2 ⟨rfl,b2⟩;have B2:=aa b2;clear b2;go_wp2_with fail
      refine(xB.out _).mono ?_;rintro e w3 ⟨rfl,rfl⟩;go_wp2_with fail
      refine(HST.out _).mono ?_;rintro e w3 ⟨rfl,rfl⟩;have p2:=PR.out.below B2.out;have P2:=aa p2;have hown2 :∀k,Or k→k<w3.heap.size:=fun k hk=>(p2.own k hk).2
      have hb2:b<w3.heap.size:=(p2.own b p2.at_).2;have HV:=aa (FJ op (by have:=TB.out HC.out;omega) (by have:=aa3.out;omega) (HR.out op (TB.out HC.out) aa3.out) b (fun k=>Or k∨k=w3.heap.size) (w3.alloc (.cells #[.int .i64 (p:Int)] 3)) (fun k hk=>by
       rcases hk with hk|hk
       ·have:=hown2 k hk;simp;omega
       ·simp;omega))
      have HO2:=aa hown2;clear p2 hown2;go_wp2_with fail
      refine HV.out.mono ?_;rintro e w4 ⟨fi,fa,fc,rfl,b4,h4⟩;have hg4:w4.heap[w3.heap.size]? = some (.cells #[.int .i64 (p:Int)] 3 (0,0)):=(b4.block w3.heap.size (by simp)).trans (World.alloc_heap_new w3 _)
      have B4:=aa (aB (aV w3 _) b4);have p4:=P2.out.below B4.out;have HN:=aa (Ni w4 w3.heap.size p a p4 hg4 (fun h=>by have:=HO2.out _ h;omega) (by omega) LR.out ⟨12,0,op,0,⟨#[]⟩,[],[]⟩ rfl [aX 40 b,.func (.func fi) fa fc] [aC,dp (rt op)] (by simp) ⟨aZ w4 b _,h4,trivial⟩ (HGT.out HC.out))
      have F4:=aa ((FR.out.trans (az.ae (O:=Or) B2.out) XR.out).trans (az.ae (O:=Or) B4.out) XR.out);have X4:Hid (Ext O (fun k=>Or k∨k=w3.heap.size) w):=aa fun k hk=>by
       rcases hk with hk|rfl
       ·exact XR.out k hk
       ·exact .inr (aK FR.out.size B2.out.size)
      clear hg4 p4 b4 h4 xB HST TB HV HO2;go_wp2_with fail
      refine HN.out.mono ?_;intro e w5 h5;have F5:=aa (F4.out.trans h5.1 X4.out);rcases h5.2 with ⟨p5,a5,YL,O5,T5,rfl,q5,x5,l5,k5⟩ | ⟨le,v,er,rfl,⟨g',rfl,m2,m3⟩,k5⟩
      ·have Q5:=aa q5
       have X5:=aa (X4.out.trans x5 F4.out.size);have L5:=aa l5;have K5:=aa k5;clear h5 q5 x5 l5 k5;go_wp2_with fail
       go_roundg (k+1)
       case measure=>omega
       case rel=>exact .inl ⟨p5,a5,YL,O5,T5,k,rfl,rfl,rfl,Q5.out,F5.out,X5.out,L5.out,K5.out⟩
      ·have M3:=aa m3
       have M2:=aa (aK F4.out.size m2);have K5:=aa k5;clear h5 m2 m3 k5;go_wp2_with fail
       go_roundg (k+1)
       case measure=>omega
       case rel=>exact .inr ⟨le,g',rfl,M2.out,M3.out,F5.out,K5.out⟩
   ·have M3:=aa m3
    have HG:=aa hg;have FR:=aa fr;have KE:=aa ke;clear m3 hg fr ke;go_wp2_with fail
    go_ret2
    exact⟨FR.out,.inr ⟨le,_,_,rfl,⟨g',rfl,HG.out,M3.out⟩,KE.out⟩⟩
 ·have M3:=aa m3
  have M2:=aa m2;have K1:=aa k1;clear h1 m2 m3 k1;go_wp2_with fail
  go_loopg [6,7] 1 (fun z lv ev wr=>lv=v∧ev=.iface 75 (.pointer (some ⟨g',0,none⟩))∧wr=w1)
  case atStart=>exact⟨rfl,rfl,rfl⟩
  case round =>
   obtain⟨rfl,rfl,rfl⟩:=hrel;go_wp2_with fail
   go_ret2
   exact⟨F1.out,.inr ⟨le,_,_,rfl,⟨g',rfl,M2.out,M3.out⟩,K1.out⟩⟩
theorem yW {wp:iV} (hB:rK 178 0 wp):pF 142 wp:=by
 intro b O ts T K E w hp hk;have HN:=aa (hB b O ts T K E w hp hk);clear hp hk hB;go_enter Tryz.func142,Tryz.ntmps142
 go_wp2_with fail
 refine HN.out.mono ?_;intro e wz hz;obtain⟨v,er,rfl⟩:=hz.ret;have HZ:=aa hz;clear hz;go_wp2_with fail
 go_ret2
 exact HZ.out
theorem qq {b:Nat} {O:Nat→Prop} {t:ah} {ts:List ah} {T:List Nd} {K:Ast→List ah→Prop} {E:Int→Prop} (w w2:World) (g:Nat) (hg:g=w2.heap.size) (hp:PS w2 b O (t::ts) T) (hf:az O w w2) (x:Nd) (hx:x=⟨x.kind,0,x.op,x.num,x.s,[],[]⟩) (vs:List Value) (cI:List bV) (hl:vs.length≤100) (hall:jL w2 b O vs cI)
  (hk:aI cI ⟨{ x with line:=t.2.1},[],t::ts,T.length⟩ (bT K) E):Calls Tryz.prog 19 #[.pointer (some ⟨b,0,none⟩),cP x (.slice none 0 0) (.slice none 0 0),.slice (some ⟨g,0,none⟩) vs.length vs.length] (w2.alloc (.cells vs.toArray 122)) (aF b O T (RK K E) w):=by
 subst hg;exact cA w w2 hp hf x hx vs cI hl hall hk
set_option maxRecDepth 40000 in
theorem TC (b:Nat) (O:Nat→Prop) (t:ah) (ts:List ah) (T:List Nd) (K:Ast→List ah→Prop) (E:Int→Prop) (w:World) (hp:PS w b O (t::ts) T) (h3:t.1=3)
  (hk:aI [aC] ⟨⟨4,t.2.1,0,t.2.2.1,⟨#[]⟩,[],[]⟩,[],t::ts,T.length⟩ (bT K) E) :
  Calls Tryz.prog 204 #[.pointer (some ⟨b,0,none⟩)] w (aF b O T (RK K E) w):=by
 obtain⟨t0,t1,t2,t3⟩:=t;have HA:=aa (cz b O (t0,t1,t2,t3) ts T w hp);unfold fY at HA;dsimp only at *
 have q3:(t0 == 3)=true:=wM.2 h3;have HK:=aa hk;have P:=aa hp;clear hp hk h3;generalize hS:bu t3=S at *;clear hS;go_enter Tryz.func204,Tryz.ntmps204
 go_wp2_with fail
 refine HA.out.mono ?_;rintro e w1 ⟨rfl,b1⟩;have BL:=aa (aB b1 (aV w1 (.cells #[.int .i64 t0,.int .i64 t1,.int .i64 t2,.string S] 113)));have FL:=aa (az.ae (O:=O) BL.out);have rL:=aa (P.out.below BL.out);clear b1;have HN:=aa (qq w (w1.alloc (.cells #[.int .i64 t0,.int .i64 t1,.int .i64 t2,.string S] 113)) (w1.heap.size+1) (by simp) rL.out FL.out ⟨4,0,0,t2,⟨#[]⟩,[],[]⟩ rfl [aX 40 b] [aC] (by simp) ⟨aZ _ b O,trivial⟩ HK.out)
 go_wp2_with fail
 refine HN.out.mono ?_;intro e wz hz;obtain⟨v,er,rfl⟩:=hz.ret;have HZ:=aa hz;clear hz;go_wp2_with fail
 go_ret2
 exact HZ.out
set_option maxRecDepth 40000 in
theorem TD (b:Nat) (O:Nat→Prop) (t:ah) (ts:List ah) (T:List Nd) (K:Ast→List ah→Prop) (E:Int→Prop) (w:World) (hp:PS w b O (t::ts) T) (h3:t.1≠3) (h4:t.1=4)
  (hk:aI [aC] ⟨⟨5,t.2.1,0,0,bu t.2.2.2,[],[]⟩,[],t::ts,T.length⟩ (bT K) E) :
  Calls Tryz.prog 204 #[.pointer (some ⟨b,0,none⟩)] w (aF b O T (RK K E) w):=by
 obtain⟨t0,t1,t2,t3⟩:=t;have HA:=aa (cz b O (t0,t1,t2,t3) ts T w hp);unfold fY at HA;dsimp only at *
 have q3:(t0 == 3)=false:=aE.2 h3;have q4:(t0 == 4)=true:=wM.2 h4;have HK:=aa hk;have P:=aa hp;clear hp hk h3 h4;generalize hS:bu t3=S at *;clear hS;go_enter Tryz.func204,Tryz.ntmps204
 go_wp2_with fail
 refine HA.out.mono ?_;rintro e w1 ⟨rfl,b1⟩;have BL:=aa (aB b1 (aV w1 (.cells #[.int .i64 t0,.int .i64 t1,.int .i64 t2,.string S] 113)));have FL:=aa (az.ae (O:=O) BL.out);have rL:=aa (P.out.below BL.out);clear b1;have HN:=aa (qq w (w1.alloc (.cells #[.int .i64 t0,.int .i64 t1,.int .i64 t2,.string S] 113)) (w1.heap.size+1) (by simp) rL.out FL.out ⟨5,0,0,0,S,[],[]⟩ rfl [aX 40 b] [aC] (by simp) ⟨aZ _ b O,trivial⟩ HK.out)
 go_wp2_with fail
 refine HN.out.mono ?_;intro e wz hz;obtain⟨v,er,rfl⟩:=hz.ret;have HZ:=aa hz;clear hz;go_wp2_with fail
 go_ret2
 exact HZ.out
theorem pI {s:List UInt8} {t:ah} (h:ax s t=true):t.1≠3:=by rcases aN h with ⟨l,n,rfl⟩ | ⟨l,n,rfl⟩<;>(intro e;simp at e)
theorem ja {s:List UInt8} {t:ah} (h:ax s t=true):t.1≠4:=by rcases aN h with ⟨l,n,rfl⟩ | ⟨l,n,rfl⟩<;>(intro e;simp at e)
theorem DH {t:ah} (h:fm t≠0):20≤fm t∧fm t≤23:=by
 cases hu:jZ t with
 | none=>exact absurd (by unfold fm;rw[hu]) h
 | some o=>rw[show fm t=o by unfold fm;rw[hu]];exact qj hu
set_option maxRecDepth 40000 in
theorem TE {rt:Int→iV} (hR :∀op,20≤op→op≤23→rK 178 (wi op) (rt op)) (b:Nat) (O:Nat→Prop) (t:ah) (ts:List ah) (T:List Nd) (K:Ast→List ah→Prop) (E:Int→Prop) (w:World) (hp:PS w b O (t::ts) T) (h3:t.1≠3) (h4:t.1≠4) (hu:fm t≠0)
  (hk:aI [aC,dp (rt (fm t))] ⟨⟨13,t.2.1,fm t,0,⟨#[]⟩,[],[]⟩,[],t::ts,T.length⟩ (bT K) E) :
  Calls Tryz.prog 204 #[.pointer (some ⟨b,0,none⟩)] w (aF b O T (RK K E) w):=by
 obtain⟨t0,t1,t2,t3⟩:=t;have HA:=aa (cz b O (t0,t1,t2,t3) ts T w hp);have HW:=aa (fun W hW=>bL b O (t0,t1,t2,t3) ts T W hW)
 unfold fY at HA;dsimp only at *
 have q3:(t0 == 3)=false:=aE.2 h3;have q4:(t0 == 4)=false:=aE.2 h4;have HU:=aa (fun W=>ku (t0,t1,t2,t3) W)
 have hr:=DH hu;have HRR:=aa (hR _ hr.1 hr.2);have HRG:=aa hr;have qu:(fm (t0,t1,t2,t3) != 0)=true:=oU.2 hu;have HK:=aa hk;generalize hop:fm (t0,t1,t2,t3)=op at *;generalize hY:ag (t0,t1,t2,t3)=Y at *;have P:=aa hp;clear hp hk h3 h4 hu hr hop hY hR;generalize hS:bu t3=S at *;clear hS;go_enter Tryz.func204,Tryz.ntmps204
 go_wp2_with fail
 refine HA.out.mono ?_;rintro e w1 ⟨rfl,b1⟩;have BL:=aa (aB b1 (aV w1 (.cells #[.int .i64 t0,.int .i64 t1,.int .i64 t2,.string S] 113)));have FL:=aa (az.ae (O:=O) BL.out);have rL:=aa (P.out.below BL.out);clear b1;have jg:=aa (HW.out _ rL.out);clear HW;go_wp2_with fail
 refine jg.out.mono ?_;rintro e w2 ⟨rfl,b2⟩;have F2:=aa (FL.out.trans (az.ae (O:=O) b2) (Ext.refl _ _));have P2:=aa (rL.out.below b2);clear b2;go_wp2_with fail
 refine(HU.out _).mono ?_;rintro e w3 ⟨rfl,rfl⟩;have F3:=F2;have P3:=P2;have CC :∀k,O k→k<w3.heap.size:=fun k hk=>(P3.out.own k hk).2
 have V4:=aa (FJ op (by have:=HRG.out;omega) HRG.out.2 HRR.out b O w3 CC)
 clear CC;go_wp2_with fail
 refine V4.out.mono ?_;rintro e w4 ⟨f4,a4,c4,rfl,b4,h4⟩;have F4:=aa (F3.out.trans (az.ae (O:=O) b4) (Ext.refl _ _));have P4:=aa (P3.out.below b4);have H4:=aa h4;clear b4 h4 V4;have HN:=aa (cA w w4 P4.out F4.out ⟨13,0,op,0,⟨#[]⟩,[],[]⟩ rfl [aX 40 b,.func (.func f4) a4 c4] [aC,dp (rt op)] (by simp) ⟨aZ w4 b O,H4.out,trivial⟩ HK.out)
 go_wp2_with fail
 refine HN.out.mono ?_;intro e wz hz;obtain⟨v,er,rfl⟩:=hz.ret;have HZ:=aa hz;clear hz;go_wp2_with fail
 go_ret2
 exact HZ.out
set_option maxRecDepth 40000 in
theorem TF (b:Nat) (O:Nat→Prop) (t:ah) (ts:List ah) (T:List Nd) (K:Ast→List ah→Prop) (E:Int→Prop) (w:World) (hp:PS w b O (t::ts) T) (hq:ax s5 t=true)
  (hk:aI [aC] ⟨dr 1 t.2.1,[],t::ts,T.length⟩ (bT K) E) :
  Calls Tryz.prog 204 #[.pointer (some ⟨b,0,none⟩)] w (aF b O T (RK K E) w):=by
 obtain⟨t0,t1,t2,t3⟩:=t;have h3:=pI hq;have h4:=ja hq;have hu:fm (t0,t1,t2,t3)=0:=by rcases aN hq with ⟨l,n,e1⟩ | ⟨l,n,e1⟩<;>(rw[e1];rfl)
 have HA:=aa (cz b O (t0,t1,t2,t3) ts T w hp);have HW:=aa (fun W hW=>bL b O (t0,t1,t2,t3) ts T W hW)
 unfold fY at HA;dsimp only at *
 have q3:(t0 == 3)=false:=aE.2 h3;have q4:(t0 == 4)=false:=aE.2 h4;have HU:=aa (fun W=>ku (t0,t1,t2,t3) W)
 rw[hu] at HU;have g0:((ag (t0,t1,t2,t3)).toList == [110,105,108])=true:=aj (s:=s5) (by decide) _ hq
 have HK:=aa hk;generalize hY:ag (t0,t1,t2,t3)=Y at *;have P:=aa hp;clear hp hk h3 h4 hu hY hq;generalize hS:bu t3=S at *;clear hS;go_enter Tryz.func204,Tryz.ntmps204
 go_wp2_with fail
 refine HA.out.mono ?_;rintro e w1 ⟨rfl,b1⟩;have BL:=aa (aB b1 (aV w1 (.cells #[.int .i64 t0,.int .i64 t1,.int .i64 t2,.string S] 113)));have FL:=aa (az.ae (O:=O) BL.out);have rL:=aa (P.out.below BL.out);clear b1;have jg:=aa (HW.out _ rL.out);go_wp2_with fail
 refine jg.out.mono ?_;rintro e w2 ⟨rfl,b2⟩;have F2:=aa (FL.out.trans (az.ae (O:=O) b2) (Ext.refl _ _));have P2:=aa (rL.out.below b2);clear b2;go_wp2_with fail
 refine(HU.out _).mono ?_;rintro e w3 ⟨rfl,rfl⟩;have lM:=aa (HW.out _ P2.out);go_wp2_with fail
 refine lM.out.mono ?_;rintro e w4 ⟨rfl,b4⟩;have F4:=aa (F2.out.trans (az.ae (O:=O) b4) (Ext.refl _ _));have P4:=aa (P2.out.below b4);clear b4 HW jg lM HU;have HN:=aa (cA w w4 P4.out F4.out (mN 1) rfl [aX 40 b] [aC] (by simp) ⟨aZ w4 b O,trivial⟩ HK.out)
 go_wp2_with fail
 refine HN.out.mono ?_;intro e wz hz;obtain⟨v,er,rfl⟩:=hz.ret;have HZ:=aa hz;clear hz;go_wp2_with fail
 go_ret2
 exact HZ.out
set_option maxRecDepth 40000 in
theorem NC (b:Nat) (O:Nat→Prop) (t:ah) (ts:List ah) (T:List Nd) (K:Ast→List ah→Prop) (E:Int→Prop) (w:World) (hp:PS w b O (t::ts) T) (hq:ax ni t=true)
  (hk:aI [aC] ⟨dr 2 t.2.1,[],t::ts,T.length⟩ (bT K) E) :
  Calls Tryz.prog 204 #[.pointer (some ⟨b,0,none⟩)] w (aF b O T (RK K E) w):=by
 obtain⟨t0,t1,t2,t3⟩:=t;have h3:=pI hq;have h4:=ja hq;have hu:fm (t0,t1,t2,t3)=0:=by rcases aN hq with ⟨l,n,e1⟩ | ⟨l,n,e1⟩<;>(rw[e1];rfl)
 have HA:=aa (cz b O (t0,t1,t2,t3) ts T w hp);have HW:=aa (fun W hW=>bL b O (t0,t1,t2,t3) ts T W hW)
 unfold fY at HA;dsimp only at *
 have q3:(t0 == 3)=false:=aE.2 h3;have q4:(t0 == 4)=false:=aE.2 h4;have HU:=aa (fun W=>ku (t0,t1,t2,t3) W)
 rw[hu] at HU;have g0:((ag (t0,t1,t2,t3)).toList == [110,105,108])=false:=aj (s:=s5) (by decide) _ (bh hq (by decide))
 have g1:((ag (t0,t1,t2,t3)).toList == [116,114,117,101])=true:=aj (s:=ni) (by decide) _ hq
 have HK:=aa hk;generalize hY:ag (t0,t1,t2,t3)=Y at *;have P:=aa hp;clear hp hk h3 h4 hu hY hq;generalize hS:bu t3=S at *;clear hS;go_enter Tryz.func204,Tryz.ntmps204
 go_wp2_with fail
 refine HA.out.mono ?_;rintro e w1 ⟨rfl,b1⟩;have BL:=aa (aB b1 (aV w1 (.cells #[.int .i64 t0,.int .i64 t1,.int .i64 t2,.string S] 113)));have FL:=aa (az.ae (O:=O) BL.out);have rL:=aa (P.out.below BL.out);clear b1;have jg:=aa (HW.out _ rL.out);go_wp2_with fail
 refine jg.out.mono ?_;rintro e w2 ⟨rfl,b2⟩;have F2:=aa (FL.out.trans (az.ae (O:=O) b2) (Ext.refl _ _));have P2:=aa (rL.out.below b2);clear b2;go_wp2_with fail
 refine(HU.out _).mono ?_;rintro e w3 ⟨rfl,rfl⟩;have lM:=aa (HW.out _ P2.out);go_wp2_with fail
 refine lM.out.mono ?_;rintro e w4 ⟨rfl,b4⟩;have F4:=aa (F2.out.trans (az.ae (O:=O) b4) (Ext.refl _ _));have P4:=aa (P2.out.below b4);clear b4 HW jg lM HU;have HN:=aa (cA w w4 P4.out F4.out (mN 2) rfl [aX 40 b] [aC] (by simp) ⟨aZ w4 b O,trivial⟩ HK.out)
 go_wp2_with fail
 refine HN.out.mono ?_;intro e wz hz;obtain⟨v,er,rfl⟩:=hz.ret;have HZ:=aa hz;clear hz;go_wp2_with fail
 go_ret2
 exact HZ.out
set_option maxRecDepth 40000 in
theorem IP (b:Nat) (O:Nat→Prop) (t:ah) (ts:List ah) (T:List Nd) (K:Ast→List ah→Prop) (E:Int→Prop) (w:World) (hp:PS w b O (t::ts) T) (hq:ax kF t=true)
  (hk:aI [aC] ⟨dr 3 t.2.1,[],t::ts,T.length⟩ (bT K) E) :
  Calls Tryz.prog 204 #[.pointer (some ⟨b,0,none⟩)] w (aF b O T (RK K E) w):=by
 obtain⟨t0,t1,t2,t3⟩:=t;have h3:=pI hq;have h4:=ja hq;have hu:fm (t0,t1,t2,t3)=0:=by rcases aN hq with ⟨l,n,e1⟩ | ⟨l,n,e1⟩<;>(rw[e1];rfl)
 have HA:=aa (cz b O (t0,t1,t2,t3) ts T w hp);have HW:=aa (fun W hW=>bL b O (t0,t1,t2,t3) ts T W hW)
 unfold fY at HA;dsimp only at *
 have q3:(t0 == 3)=false:=aE.2 h3;have q4:(t0 == 4)=false:=aE.2 h4;have HU:=aa (fun W=>ku (t0,t1,t2,t3) W)
 rw[hu] at HU;have g0:((ag (t0,t1,t2,t3)).toList == [110,105,108])=false:=aj (s:=s5) (by decide) _ (bh hq (by decide))
 have g1:((ag (t0,t1,t2,t3)).toList == [116,114,117,101])=false:=aj (s:=ni) (by decide) _ (bh hq (by decide))
 have g2:((ag (t0,t1,t2,t3)).toList == [102,97,108,115,101])=true:=aj (s:=kF) (by decide) _ hq
 have HK:=aa hk;generalize hY:ag (t0,t1,t2,t3)=Y at *;have P:=aa hp;clear hp hk h3 h4 hu hY hq;generalize hS:bu t3=S at *;clear hS;go_enter Tryz.func204,Tryz.ntmps204
 go_wp2_with fail
 refine HA.out.mono ?_;rintro e w1 ⟨rfl,b1⟩;have BL:=aa (aB b1 (aV w1 (.cells #[.int .i64 t0,.int .i64 t1,.int .i64 t2,.string S] 113)));have FL:=aa (az.ae (O:=O) BL.out);have rL:=aa (P.out.below BL.out);clear b1;have jg:=aa (HW.out _ rL.out);go_wp2_with fail
 refine jg.out.mono ?_;rintro e w2 ⟨rfl,b2⟩;have F2:=aa (FL.out.trans (az.ae (O:=O) b2) (Ext.refl _ _));have P2:=aa (rL.out.below b2);clear b2;go_wp2_with fail
 refine(HU.out _).mono ?_;rintro e w3 ⟨rfl,rfl⟩;have lM:=aa (HW.out _ P2.out);go_wp2_with fail
 refine lM.out.mono ?_;rintro e w4 ⟨rfl,b4⟩;have F4:=aa (F2.out.trans (az.ae (O:=O) b4) (Ext.refl _ _));have P4:=aa (P2.out.below b4);clear b4 HW jg lM HU;have HN:=aa (cA w w4 P4.out F4.out (mN 3) rfl [aX 40 b] [aC] (by simp) ⟨aZ w4 b O,trivial⟩ HK.out)
 go_wp2_with fail
 refine HN.out.mono ?_;intro e wz hz;obtain⟨v,er,rfl⟩:=hz.ret;have HZ:=aa hz;clear hz;go_wp2_with fail
 go_ret2
 exact HZ.out
set_option maxRecDepth 40000 in
theorem ND (b:Nat) (O:Nat→Prop) (t:ah) (ts:List ah) (T:List Nd) (K:Ast→List ah→Prop) (E:Int→Prop) (w:World) (hp:PS w b O (t::ts) T) (hq:ax [46,46,46] t=true)
  (hk:aI [aC] ⟨dr 6 t.2.1,[],t::ts,T.length⟩ (bT K) E) :
  Calls Tryz.prog 204 #[.pointer (some ⟨b,0,none⟩)] w (aF b O T (RK K E) w):=by
 obtain⟨t0,t1,t2,t3⟩:=t;have h3:=pI hq;have h4:=ja hq;have hu:fm (t0,t1,t2,t3)=0:=by rcases aN hq with ⟨l,n,e1⟩ | ⟨l,n,e1⟩<;>(rw[e1];rfl)
 have HA:=aa (cz b O (t0,t1,t2,t3) ts T w hp);have HW:=aa (fun W hW=>bL b O (t0,t1,t2,t3) ts T W hW)
 unfold fY at HA;dsimp only at *
 have q3:(t0 == 3)=false:=aE.2 h3;have q4:(t0 == 4)=false:=aE.2 h4;have HU:=aa (fun W=>ku (t0,t1,t2,t3) W)
 rw[hu] at HU;have g0:((ag (t0,t1,t2,t3)).toList == [110,105,108])=false:=aj (s:=s5) (by decide) _ (bh hq (by decide))
 have g1:((ag (t0,t1,t2,t3)).toList == [116,114,117,101])=false:=aj (s:=ni) (by decide) _ (bh hq (by decide))
 have g2:((ag (t0,t1,t2,t3)).toList == [102,97,108,115,101])=false:=aj (s:=kF) (by decide) _ (bh hq (by decide))
 have g3:((ag (t0,t1,t2,t3)).toList == [46,46,46])=true:=aj (s:=[46,46,46]) (by decide) _ hq
 have HK:=aa hk;generalize hY:ag (t0,t1,t2,t3)=Y at *;have P:=aa hp;clear hp hk h3 h4 hu hY hq;generalize hS:bu t3=S at *;clear hS;go_enter Tryz.func204,Tryz.ntmps204
 go_wp2_with fail
 refine HA.out.mono ?_;rintro e w1 ⟨rfl,b1⟩;have BL:=aa (aB b1 (aV w1 (.cells #[.int .i64 t0,.int .i64 t1,.int .i64 t2,.string S] 113)));have FL:=aa (az.ae (O:=O) BL.out);have rL:=aa (P.out.below BL.out);clear b1;have jg:=aa (HW.out _ rL.out);go_wp2_with fail
 refine jg.out.mono ?_;rintro e w2 ⟨rfl,b2⟩;have F2:=aa (FL.out.trans (az.ae (O:=O) b2) (Ext.refl _ _));have P2:=aa (rL.out.below b2);clear b2;go_wp2_with fail
 refine(HU.out _).mono ?_;rintro e w3 ⟨rfl,rfl⟩;have lM:=aa (HW.out _ P2.out);go_wp2_with fail
 refine lM.out.mono ?_;rintro e w4 ⟨rfl,b4⟩;have F4:=aa (F2.out.trans (az.ae (O:=O) b4) (Ext.refl _ _));have P4:=aa (P2.out.below b4);clear b4 HW jg lM HU;have HN:=aa (cA w w4 P4.out F4.out (mN 6) rfl [aX 40 b] [aC] (by simp) ⟨aZ w4 b O,trivial⟩ HK.out)
 go_wp2_with fail
 refine HN.out.mono ?_;intro e wz hz;obtain⟨v,er,rfl⟩:=hz.ret;have HZ:=aa hz;clear hz;go_wp2_with fail
 go_ret2
 exact HZ.out
set_option maxRecDepth 40000 in
theorem yX {bd:bV} (DI:eA 152 bd) (b:Nat) (O:Nat→Prop) (t:ah) (ts:List ah) (T:List Nd) (K:Ast→List ah→Prop) (E:Int→Prop) (w:World) (hp:PS w b O (t::ts) T) (hq:ax bc t=true)
  (hk:aI [aC,bd] ⟨dr 11 t.2.1,[],t::ts,T.length⟩ (bT K) E) :
  Calls Tryz.prog 204 #[.pointer (some ⟨b,0,none⟩)] w (aF b O T (RK K E) w):=by
 obtain⟨t0,t1,t2,t3⟩:=t;have h3:=pI hq;have h4:=ja hq;have hu:fm (t0,t1,t2,t3)=0:=by rcases aN hq with ⟨l,n,e1⟩ | ⟨l,n,e1⟩<;>(rw[e1];rfl)
 have HA:=aa (cz b O (t0,t1,t2,t3) ts T w hp);have HW:=aa (fun W hW=>bL b O (t0,t1,t2,t3) ts T W hW)
 unfold fY at HA;dsimp only at *
 have q3:(t0 == 3)=false:=aE.2 h3;have q4:(t0 == 4)=false:=aE.2 h4;have HU:=aa (fun W=>ku (t0,t1,t2,t3) W)
 rw[hu] at HU;have g0:((ag (t0,t1,t2,t3)).toList == [110,105,108])=false:=aj (s:=s5) (by decide) _ (bh hq (by decide))
 have g1:((ag (t0,t1,t2,t3)).toList == [116,114,117,101])=false:=aj (s:=ni) (by decide) _ (bh hq (by decide))
 have g2:((ag (t0,t1,t2,t3)).toList == [102,97,108,115,101])=false:=aj (s:=kF) (by decide) _ (bh hq (by decide))
 have g3:((ag (t0,t1,t2,t3)).toList == [46,46,46])=false:=aj (s:=[46,46,46]) (by decide) _ (bh hq (by decide))
 have g4:((ag (t0,t1,t2,t3)).toList == [102,117,110,99,116,105,111,110])=true:=aj (s:=bc) (by decide) _ hq
 have HK:=aa hk;generalize hY:ag (t0,t1,t2,t3)=Y at *;have P:=aa hp;clear hp hk h3 h4 hu hY hq;generalize hS:bu t3=S at *;clear hS;go_enter Tryz.func204,Tryz.ntmps204
 go_wp2_with fail
 refine HA.out.mono ?_;rintro e w1 ⟨rfl,b1⟩;have BL:=aa (aB b1 (aV w1 (.cells #[.int .i64 t0,.int .i64 t1,.int .i64 t2,.string S] 113)));have FL:=aa (az.ae (O:=O) BL.out);have rL:=aa (P.out.below BL.out);clear b1;have jg:=aa (HW.out _ rL.out);go_wp2_with fail
 refine jg.out.mono ?_;rintro e w2 ⟨rfl,b2⟩;have F2:=aa (FL.out.trans (az.ae (O:=O) b2) (Ext.refl _ _));have P2:=aa (rL.out.below b2);clear b2;go_wp2_with fail
 refine(HU.out _).mono ?_;rintro e w3 ⟨rfl,rfl⟩;have lM:=aa (HW.out _ P2.out);go_wp2_with fail
 refine lM.out.mono ?_;rintro e w4 ⟨rfl,b4⟩;have F4:=aa (F2.out.trans (az.ae (O:=O) b4) (Ext.refl _ _));have P4:=aa (P2.out.below b4);clear b4 HW jg lM HU;have HN:=aa (cA w w4 P4.out F4.out (mN 11) rfl [aX 40 b,aX 152 b] [aC,bd] (by simp) ⟨aZ w4 b O,DI.part (enters_of Tryz.func152 (by kernel_rfl) rfl) w4 b O,trivial⟩ HK.out)
 go_wp2_with fail
 refine HN.out.mono ?_;intro e wz hz;obtain⟨v,er,rfl⟩:=hz.ret;have HZ:=aa hz;clear hz;go_wp2_with fail
 go_ret2
 exact HZ.out
set_option maxRecDepth 40000 in
theorem TG {it:bV} (IA:eA 235 it) (b:Nat) (O:Nat→Prop) (t:ah) (ts:List ah) (T:List Nd) (K:Ast→List ah→Prop) (E:Int→Prop) (w:World) (hp:PS w b O (t::ts) T) (hq:ax [123] t=true)
  (hk:aI [aC,dx [125] it,av [[125]]] ⟨dr 15 t.2.1,[],t::ts,T.length⟩ (bT K) E) :
  Calls Tryz.prog 204 #[.pointer (some ⟨b,0,none⟩)] w (aF b O T (RK K E) w):=by
 obtain⟨t0,t1,t2,t3⟩:=t;have h3:=pI hq;have h4:=ja hq;have hu:fm (t0,t1,t2,t3)=0:=by rcases aN hq with ⟨l,n,e1⟩ | ⟨l,n,e1⟩<;>(rw[e1];rfl)
 have HA:=aa (cz b O (t0,t1,t2,t3) ts T w hp);have HW:=aa (fun W hW=>bL b O (t0,t1,t2,t3) ts T W hW)
 unfold fY at HA;dsimp only at *
 have q3:(t0 == 3)=false:=aE.2 h3;have q4:(t0 == 4)=false:=aE.2 h4;have HU:=aa (fun W=>ku (t0,t1,t2,t3) W)
 rw[hu] at HU;have g0:((ag (t0,t1,t2,t3)).toList == [110,105,108])=false:=aj (s:=s5) (by decide) _ (bh hq (by decide))
 have g1:((ag (t0,t1,t2,t3)).toList == [116,114,117,101])=false:=aj (s:=ni) (by decide) _ (bh hq (by decide))
 have g2:((ag (t0,t1,t2,t3)).toList == [102,97,108,115,101])=false:=aj (s:=kF) (by decide) _ (bh hq (by decide))
 have g3:((ag (t0,t1,t2,t3)).toList == [46,46,46])=false:=aj (s:=[46,46,46]) (by decide) _ (bh hq (by decide))
 have g4:((ag (t0,t1,t2,t3)).toList == [102,117,110,99,116,105,111,110])=false:=aj (s:=bc) (by decide) _ (bh hq (by decide))
 have g5:((ag (t0,t1,t2,t3)).toList == [123])=true:=aj (s:=[123]) (by decide) _ hq
 have HK:=aa hk;generalize hY:ag (t0,t1,t2,t3)=Y at *;have P:=aa hp;clear hp hk h3 h4 hu hY hq;generalize hS:bu t3=S at *;clear hS;go_enter Tryz.func204,Tryz.ntmps204
 go_wp2_with fail
 refine HA.out.mono ?_;rintro e w1 ⟨rfl,b1⟩;have BL:=aa (aB b1 (aV w1 (.cells #[.int .i64 t0,.int .i64 t1,.int .i64 t2,.string S] 113)));have FL:=aa (az.ae (O:=O) BL.out);have rL:=aa (P.out.below BL.out);clear b1;have jg:=aa (HW.out _ rL.out);go_wp2_with fail
 refine jg.out.mono ?_;rintro e w2 ⟨rfl,b2⟩;have F2:=aa (FL.out.trans (az.ae (O:=O) b2) (Ext.refl _ _));have P2:=aa (rL.out.below b2);clear b2;go_wp2_with fail
 refine(HU.out _).mono ?_;rintro e w3 ⟨rfl,rfl⟩;have lM:=aa (HW.out _ P2.out);go_wp2_with fail
 refine lM.out.mono ?_;rintro e w4 ⟨rfl,b4⟩;have F4:=aa (F2.out.trans (az.ae (O:=O) b4) (Ext.refl _ _));have P4:=aa (P2.out.below b4);clear b4 HW jg lM HU;have HN:=aa ((Tu IA b O _ ts T K E w4 P4.out HK.out).mono fun _ _ h=>h.after F4.out)
 go_wp2_with fail
 refine HN.out.mono ?_;intro e wz hz;obtain⟨v,er,rfl⟩:=hz.ret;have HZ:=aa hz;clear hz;go_wp2_with fail
 go_ret2
 exact HZ.out
structure NG (t:ah):Prop where
 n3:t.1≠3
 n4:t.1≠4
 un:fm t=0
 a:ax s5 t=false
 b:ax ni t=false
 c:ax kF t=false
 d:ax [46,46,46] t=false
 e:ax bc t=false
 f:ax [123] t=false
set_option maxRecDepth 40000 in
theorem TH {sf:iV} (hS:pF 153 sf) (b:Nat) (O:Nat→Prop) (t:ah) (ts:List ah) (T:List Nd) (K:Ast→List ah→Prop) (E:Int→Prop) (w:World) (hp:PS w b O (t::ts) T) (hq:NG t)
  (hk:sf (t::ts) T.length K E) :
  Calls Tryz.prog 204 #[.pointer (some ⟨b,0,none⟩)] w (aF b O T (RK K E) w):=by
 obtain⟨t0,t1,t2,t3⟩:=t;have h3:=hq.n3;have h4:=hq.n4;have hu:=hq.un;have HA:=aa (cz b O (t0,t1,t2,t3) ts T w hp);have HW:=aa (fun W hW=>bL b O (t0,t1,t2,t3) ts T W hW)
 unfold fY at HA;dsimp only at *
 have q3:(t0 == 3)=false:=aE.2 h3;have q4:(t0 == 4)=false:=aE.2 h4;have HU:=aa (fun W=>ku (t0,t1,t2,t3) W)
 rw[hu] at HU;have g0:((ag (t0,t1,t2,t3)).toList == [110,105,108])=false:=aj (s:=s5) (by decide) _ hq.a
 have g1:((ag (t0,t1,t2,t3)).toList == [116,114,117,101])=false:=aj (s:=ni) (by decide) _ hq.b
 have g2:((ag (t0,t1,t2,t3)).toList == [102,97,108,115,101])=false:=aj (s:=kF) (by decide) _ hq.c
 have g3:((ag (t0,t1,t2,t3)).toList == [46,46,46])=false:=aj (s:=[46,46,46]) (by decide) _ hq.d
 have g4:((ag (t0,t1,t2,t3)).toList == [102,117,110,99,116,105,111,110])=false:=aj (s:=bc) (by decide) _ hq.e
 have g5:((ag (t0,t1,t2,t3)).toList == [123])=false:=aj (s:=[123]) (by decide) _ hq.f
 have HK:=aa hk;generalize hY:ag (t0,t1,t2,t3)=Y at *;have P:=aa hp;clear hp hk h3 h4 hu hY hq;generalize hS:bu t3=S at *;clear hS;go_enter Tryz.func204,Tryz.ntmps204
 go_wp2_with fail
 refine HA.out.mono ?_;rintro e w1 ⟨rfl,b1⟩;have BL:=aa (aB b1 (aV w1 (.cells #[.int .i64 t0,.int .i64 t1,.int .i64 t2,.string S] 113)));have FL:=aa (az.ae (O:=O) BL.out);have rL:=aa (P.out.below BL.out);clear b1;have jg:=aa (HW.out _ rL.out);go_wp2_with fail
 refine jg.out.mono ?_;rintro e w2 ⟨rfl,b2⟩;have F2:=aa (FL.out.trans (az.ae (O:=O) b2) (Ext.refl _ _));have P2:=aa (rL.out.below b2);clear b2;go_wp2_with fail
 refine(HU.out _).mono ?_;rintro e w3 ⟨rfl,rfl⟩;have lM:=aa (HW.out _ P2.out);go_wp2_with fail
 refine lM.out.mono ?_;rintro e w4 ⟨rfl,b4⟩;have F4:=aa (F2.out.trans (az.ae (O:=O) b4) (Ext.refl _ _));have P4:=aa (P2.out.below b4);clear b4 HW jg lM HU;have HN:=aa ((hS b O _ T K E w4 P4.out HK.out).mono fun _ _ h=>h.after F4.out)
 go_wp2_with fail
 refine HN.out.mono ?_;intro e wz hz;obtain⟨v,er,rfl⟩:=hz.ret;have HZ:=aa hz;clear hz;go_wp2_with fail
 go_ret2
 exact HZ.out
end Go.Proofs.YteflkdlaoiijbaaGreatDoor
