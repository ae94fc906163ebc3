/- Parts of the proof. -/
import Derived.Test.YtodmcdfeldkocaaGreatDoorK11
set_option maxHeartbeats 16000000
set_option maxRecDepth 20000
namespace Go.Proofs.YtodmcdfeldkocaaGreatDoor
open Go.RowKit
abbrev Ee:GL Ast:=dv .Im
def tG:bW:=dy (dR (mJ 5) [cR])
section
variable {α:Type} {K:α→List ak→Prop} {E:Int→Prop} {K':St→Prop} {N k n:Nat} {h:Nd} {xs:List Ast} {ts:List ak}
theorem Ef {kk:ak→GL α} (hI:Rm N k ⟨h,xs,ts,n⟩) (H:Gw (name kk) ts K E)
  (hk :∀(t:ak) (r:List ak),Rm N (k+1) ⟨h,xs++[oE 5 t.2.1 (bG t.2.2.2) []],r,n+Ast.al [oE 5 t.2.1 (bG t.2.2.2) []]⟩→r.length<ts.length→Gw (kk t) r K E→K' ⟨h,xs++[oE 5 t.2.1 (bG t.2.2.2) []],r,n+Ast.al [oE 5 t.2.1 (bG t.2.2.2) []]⟩):tG ⟨h,xs,ts,n⟩ K' E:=by
 obtain⟨t,r,iY⟩:=hI.cons;dsimp only at iY
 subst iY;have hn:=hI.n;have hx:=hI.xs;dsimp only[List.length_cons] at hn hx
 refine jQ (by dsimp only;omega) ⟨t,r,t.2.1,rfl,.inl ⟨rfl,rfl⟩,⟨t,r,rfl,fun ht=>⟨by dsimp only;omega,nU.mk (hk t r ?_ (by simp) (H.name.1 ht))⟩,H.name.2⟩⟩
 have hz:Ast.al [oE 5 t.2.1 (bG t.2.2.2) []]=1:=by rw[vL,lx,cz]
 have hl:=hI.len;dsimp only[List.length_cons] at hl
 exact⟨by dsimp only;omega,by rw[hz];dsimp only;omega,by simp;omega,hI.wf.tail (by rw[ht];decide)⟩
theorem GC {kk:Ast→GL α} {at_:Int} {self:List ByteArray} (hI:Rm N k ⟨h,xs,ts,n⟩) (hat:at_≠0) (hs:self.length≤100000) (H:Gw (.call (.Ks at_ self) kk) ts K E)
  (hk :∀(b:Ast) (aA:List ak),Rm N k ⟨h,xs++[b],aA,n+Ast.al [b]⟩→aA.length<ts.length→Gw (kk b) aA K E→K' ⟨h,xs++[b],aA,n+Ast.al [b]⟩):dy (dR ⟨11,at_,0,0,⟨#[]⟩,self,[]⟩ [yc N]) ⟨h,xs,ts,n⟩ K' E:=by
 obtain⟨t,r,iY⟩:=hI.cons;dsimp only at iY
 subst iY;have hn:=hI.n;have hx:=hI.xs;dsimp only at hn hx
 refine jQ (by dsimp only;omega) ⟨t,r,at_,rfl,.inr ⟨hat,rfl⟩,?_⟩
 refine Pr (k:=k) ⟨hI.len,hn,by dsimp only[List.length_nil];omega,hI.wf⟩ hs ((Gw.call H).mono fun(b:Ast) aA p hq=>nU.mk (hk b aA (hI.kids (by rw[vL];have hz:b.size+2*aA.length≤2*(t::r).length:=hq.1;omega) (PL.short p) (p.wf hI.wf)) ?_ hq.2))
 have hz:b.size+2*aA.length≤2*(t::r).length:=hq.1;have:=size_pos b;omega
end
def yd:Nat→Ast→List ak→Nat→(Ast→List ByteArray→List ak→Prop)→(Int→Prop)→Prop
 | 0,_,_,_,_,_=>False
 | k+1,a,ts,n,K,E=>∃t r,ts=t::r∧(av [46] t=true→aK [aB,tG] ⟨dz 8 t.2.1,[a],ts,n+a.size⟩ (bU fun a' aA=>yd k a' aA n K E) E) ∧
  (av [46] t=false→(av [58] t=true→aK [aB,tG] ⟨dz 8 t.2.1,[a],ts,n+a.size⟩ (bU fun a' aA=>K a' [bG xw] aA) E)∧(av [58] t=false→K a [] ts))
def Ju (N:Nat):bW:=fun s K E=>s.xs=[]∧∃t ts,s.ts=t::ts∧t.1≠0∧dR (mJ 7) [cR] ts s.n (fun a fG=>∃m,yd m a fG s.n (fun a2 self im =>
 aK [eu,dy (dR ⟨11,t.2.1,0,0,⟨#[]⟩,self,[]⟩ [yc N])] ⟨s.h,[a2],im,s.n+Ast.al [a2]⟩ K E) E) E
def Jv (N:Nat):bW:=fun s K E=>∃t ts,s.ts=t::ts∧(av bo t=false→aK [iB,bw [61] [nT N]] { s with h:={ s.h with kind:=19}} K E) ∧
 (av bo t=true→∃u us,ts=u::us∧(u.1≠1→E u.2.1)∧(u.1=1→dy (dR ⟨11,t.2.1,0,0,⟨#[]⟩,[],[]⟩ [yc N]) { s with h:={ s.h with kind:=28,names:=[bG u.2.2.2]},ts:=us} K E))
def isVar (a:Ast):Prop:=a.hd.kind=7∨a.hd.kind=8
def WE (N:Nat):iS:=fun ts n K E=>s8 N Ee ts n (fun a fG=>(isVar a→K a fG)∧(¬ isVar a→∃t r,fG=t::r∧E t.2.1)) E
def WG (N:Nat):bW:=mg (WE N) cX
def ZJ (M N:Nat):bW:=fun s K E=>s.xs=[]∧s8 M Ee s.ts s.n (fun a fG=>(a.hd.kind=9∨a.hd.kind=10→K ⟨{ s.h with kind:=21},[a],fG,s.n+Ast.al [a]⟩) ∧
 (isVar a→aK [bw [44] [WG N],eu,au [[61]],nT N] ⟨{ s.h with kind:=20},[a],fG,s.n+Ast.al [a]⟩ K E)∧(¬ (a.hd.kind=9∨a.hd.kind=10)→¬ isVar a→∃t r,fG=t::r∧E t.2.1)) E
section
variable {K:Ast→List ak→Prop} {E:Int→Prop} {K':St→Prop} {N k n:Nat} {h:Nd} {xs:List Ast} {t:ak} {ts:List ak}
theorem ZK (at_:Int) (n:Nat) (C:Ast→List ByteArray→List ak→Prop) (hC :∀a self ts k,Rm N k ⟨dz 20 at_,[a],ts,n+Ast.al [a]⟩→self.length≤1→Gw (.call (.Ks at_ self) fun(f:Ast)=>.ret (Dv 20 at_ 1 [a,f])) ts K E→C a self ts) :∀(m:Nat) (ts:List ak) (a:Ast) (k:Nat),ts.length<m→Rm N k ⟨dz 20 at_,[a],ts,n+Ast.al [a]⟩→Gw (dv (.fnx at_ a):GL Ast) ts K E→yd m a ts n C E:=by
 intro m;induction m with
 | zero=>intro ts a k h;omega
 | succ m ih =>
  intro ts a k h1 hI H;obtain⟨t,r,rfl⟩:=hI.wf.fin.cons;have G:=Gw.look H;have step :∀(j:Nat) (x y:Ast) (aA:List ak),Rm N (j+1) ⟨dz 8 t.2.1,[a]++[x],aA,n+a.size+Ast.al [x]⟩→y.size=Ast.al ([a]++[x])+1→Rm N j ⟨dz 20 at_,[y],aA,n+Ast.al [y]⟩:=fun j x y aA hI hy=>by
   have h1:=hI.n;have h2:=hI.xs;rw[fk,vL,vL] at hy;rw[vL] at h1;exact⟨hI.len,by rw[vL];dsimp only at *;omega,by simp at h2 ⊢;omega,hI.wf⟩
  have hI8:Rm N k ⟨dz 8 t.2.1,[a],t::r,n+a.size⟩:=⟨hI.len,by have:=hI.n;rw[vL] at this;exact this,hI.xs,hI.wf⟩
  have sk :∀{K3:St→Prop},t.1≠0→(Rm N (k+2) ⟨dz 8 t.2.1,[a],r,n+a.size⟩→K3 ⟨dz 8 t.2.1,[a],r,n+a.size⟩)→aB ⟨dz 8 t.2.1,[a],t::r,n+a.size⟩ K3 E:=fun ht hk=>⟨t,r,rfl,ht,hk (hI8.tok ht)⟩
  refine⟨t,r,rfl,fun hw=>?_,fun hw=>⟨fun hw2=>?_,fun hw2=>?_⟩⟩
  ·refine sk (aW hw) fun hI=>Ef hI (G.pos hw).tok fun u r2 hI hl G=>cu hI ?_
   have G2:=(Gw.call G).mono (K':=K) fun l aA _ hl=>hl.2.ret
   exact ih r2 _ (k+2) (by simp at h1;omega) (step _ _ _ _ hI (by rw[Ast.size])) G2
  ·refine sk (aW hw2) fun hI=>Ef hI ((G.neg (by simp[hw])).pos hw2).tok fun u r2 hI hl G=>cu hI ?_
   exact hC _ _ _ (k+2) (step _ _ _ _ hI (by rw[Ast.size])) (by simp) G
  ·exact hC _ _ _ k hI (by simp) ((G.neg (by simp[hw])).neg (by simp[hw2]))
theorem Eg (hI:Rm (N+1) k ⟨dz 20 t.2.1,[],t::ts,n⟩) (H:Gw qX (t::ts) K E) (hw:av bo t=true):aK [Ju N] ⟨dz 20 t.2.1,[],t::ts,n⟩ (bU K) E:=by
 have G:=Gw.call ((((((((((Gw.look H).neg (aU hw (by decide))).neg (aU hw (by decide))).neg (aU hw (by decide))).neg (aU hw (by decide))).neg (aU hw (by decide))).neg (aU hw (by decide))).neg (aU hw (by decide))).neg (aU hw (by decide))).pos hw).tok
 have G1:Gw (dv (.fnm t.2.1):GL Ast) ts K E:=G.mono fun l aA _ hl=>hl.2.ret
 have hat:t.2.1≠0:=(hI.wf.zS t (bH ..)).1;have oI:=hI.ZG (h':=dz 20 t.2.1) (aW hw);obtain⟨u,us,rfl⟩:=oI.wf.fin.cons;refine⟨rfl,t,u::us,rfl,aW hw,u,us,u.2.1,rfl,.inl ⟨rfl,rfl⟩,⟨u,us,rfl,fun hu=>?_,G1.name.2⟩⟩
 have hI:=oI.tok (h':=dz 20 t.2.1) (show u.1≠0 by rw[hu];decide)
 refine⟨by have:=hI.n;dsimp only at *;omega,us.length+1,?_⟩
 have G2:=(Gw.call (G1.name.1 hu)).mono (K':=K) fun l aA _ hl=>hl.2.ret
 refine ZK (N:=N) t.2.1 n _ (fun a self C0 k hI hs G=>?_) (us.length+1) us _ (k+3) (dA _) ?_ G2
 ·have Un:Rm N k ⟨⟨20,t.2.1,0,1,⟨#[]⟩,[],[]⟩,[a],C0,n+Ast.al [a]⟩:=⟨hI.len,hI.n,hI.xs,hI.wf⟩
  exact GC Un hat (by omega) G fun b r4 hI _ G=>cu hI G.ret
 ·have h1:=hI.n
  have h2:=hI.xs;refine⟨hI.len,?_,by simp at h2 ⊢;omega,hI.wf⟩
  rw[vL];show n+Ast.size (oE 7 u.2.1 (bG u.2.2.2) [])+_+_≤_
  rw[lx,cz];dsimp only at *
  omega
theorem Uo (hI:Rm (N+1) k ⟨dz 0 t.2.1,[],t::ts,n⟩) (H:Gw qX (t::ts) K E) (hw:av nw t=true):aK [aB,Jv N] ⟨dz 0 t.2.1,[],t::ts,n⟩ (bU K) E:=by
 refine cS hI (aW hw) fun hI=>?_
 have G:=Gw.call (((((((((((Gw.look H).neg (aU hw (by decide))).neg (aU hw (by decide))).neg (aU hw (by decide))).neg (aU hw (by decide))).neg (aU hw (by decide))).neg (aU hw (by decide))).neg (aU hw (by decide))).neg (aU hw (by decide))).neg (aU hw (by decide))).pos hw).tok
 have G1:Gw (dv (.loc t.2.1):GL Ast) ts K E:=G.mono fun l aA _ hl=>hl.2.ret
 obtain⟨u,us,rfl⟩:=hI.wf.fin.cons;have G:=Gw.look G1;refine⟨u,us,rfl,fun hw=>?_,fun hw=>?_⟩
 ·have oI:Rm N (k+2) ⟨dz 19 t.2.1,[],u::us,n⟩:=⟨hI.len,hI.n,hI.xs,hI.wf⟩
  refine Pq oI (G.neg (by simp[hw])) fun ns r hI G=>?_
  obtain⟨v,vs,rfl⟩:=hI.wf.fin.cons;have G:=G.look;exact⟨v,vs,rfl,fun hw=>uf (hI.tok (aW hw)) (G.pos hw).tok fun l r2 hI _ G=>cu hI G.ret,fun hw=>cu hI (G.neg (by simp[hw])).ret⟩
 ·have hat:u.2.1≠0:=(hI.wf.zS u (bH ..)).1
  have oI:=hI.tok (h':=dz 28 t.2.1) (aW hw);obtain⟨v,vs,rfl⟩:=oI.wf.fin.cons;have G:=(G.pos hw).tok;refine⟨v,vs,rfl,G.name.2,fun hv=>?_⟩
  have Un:Rm N (k+6) ⟨⟨28,t.2.1,0,0,⟨#[]⟩,[bG v.2.2.2],[]⟩,[],vs,n⟩:=oI.tok (by rw[hv];decide)
  exact GC Un hat (by simp) (G.name.1 hv) fun b r hI _ G=>cu hI G.ret
theorem Pu (l:List Ast) (x d:Ast):(l++[x]).getLastD d=x:=by simp
theorem Up (at_:Int) (l0:List Ast) (K2:Ast→List ak→Prop) (B:Nat) (C:List Ast→List ak→Prop) (hC :∀xs aA,Ast.al xs+2*aA.length≤B→Wf aA→aA.length<N→Gw (want [61] fun _=>.call .Dw fun(m:List Ast)=>.ret (Dv 20 at_ ((l0++xs).length:Int) (l0++xs++m))) aA K2 E→C xs aA) :
  ∀(m:Nat) (ts:List ak) (n:Nat) (acc:List Ast),ts.length<m→ts.length<N→n+2*ts.length≤60000→Ast.al acc+2*ts.length≤B→Wf ts→Gw (.call .Im fun(x:Ast)=>.call (.tgs at_ (l0++acc++[x])) fun(y:Ast)=>.ret y) ts K2 E→s6 (WE N) cX m ts n acc C E:=by
 intro m;induction m with
 | zero=>intro ts n acc h;omega
 | succ m ih =>
  intro ts n acc h1 h2 h3 hB hf H;refine⟨h2,h3,hf.zS,(Gw.call H).mono fun(e:Ast) aA p hq=>?_⟩
  have hz:e.size+2*aA.length+1≤2*ts.length:=hq.1;have hf':=p.wf hf;obtain⟨t,r,rfl⟩:=hf'.fin.cons;have hg:=(Gw.call hq.2).look;rw[Pu] at hg;have hsz:Ast.al (acc++[e])+2*(t::r).length≤B:=by rw[fk,vL];omega
  refine⟨fun hv=>?_,fun hv=>⟨t,r,rfl,(hg.neg hv).bad⟩⟩
  have hg:=hg.pos hv;cases hc:av [44] t with
  | true =>
   have e1:cX (t::r)=(true,r):=by simp[cX,hc]
   show(_→_)∧(_→_)
   rw[e1];refine⟨fun _=>ih r (n+e.size) (acc++[e]) (by simp at hz;omega) (by simp at hz;omega) (by simp at hz;omega) (by simp at hsz ⊢;omega) (hf'.tail (aW hc)) ?_,fun hb=>(fX hb.symm).elim⟩
   rw[←fI];exact(hg.pos hc).tok.mono fun y C0 _ hy=>hy.2.ret
  | false =>
   have e1:cX (t::r)=(false,t::r):=by simp[cX,hc]
   show(_→_)∧(_→_)
   rw[e1];refine⟨fun hb=>(fX hb).elim,fun _=>hC (acc++[e]) (t::r) hsz hf' (by omega) ?_⟩
   have G:=hg.neg (by simp[hc])
   rw[←fI];exact G.mono fun y C0 _ hy=>hy.2.ret
structure Pv (t:ak):Prop where
 a:av [58,58] t=false
 b:av py t=false
 c:av vh t=false
 d:av Ds t=false
 e:av pz t=false
 f:av lW t=false
 g:av XY t=false
 h:av Dt t=false
 i:av bo t=false
 j:av nw t=false
theorem Uq (hI:Rm (N+1) k ⟨dz 0 t.2.1,[],t::ts,n⟩) (H:Gw qX (t::ts) K E) (hw:Pv t):aK [ZJ (N+1) N] ⟨dz 0 t.2.1,[],t::ts,n⟩ (bU K) E:=by
 have G:=((((((((((Gw.look H).neg (by simp[hw.a])).neg (by simp[hw.b])).neg (by simp[hw.c])).neg (by simp[hw.d])).neg (by simp[hw.e])).neg (by simp[hw.f])).neg (by simp[hw.g])).neg (by simp[hw.h])).neg (by simp[hw.i])).neg (by simp[hw.j])
 have hn:=hI.n;have hx:=hI.xs;have hl:=hI.len;dsimp only at hn hx hl
 refine⟨rfl,hI.len,by dsimp only;omega,hI.wf.zS,(Gw.call G).mono fun(x:Ast) aA p hq=>?_⟩
 have hz:x.size+2*aA.length+1≤2*(t::ts).length:=hq.1;have zA:=p.wf hI.wf;have hlt:aA.length<N:=by have:=size_pos x;simp only[List.length_cons] at *;omega
 have oI :∀h',Rm N 0 ⟨h',[x],aA,n+Ast.al [x]⟩:=fun h'=>⟨hlt,by rw[vL];dsimp only;omega,by have:=size_pos x;simp only[List.length_cons,List.length_nil] at *;omega,zA⟩
 refine⟨fun hk=>cu (oI _) (hq.2.pos hk).ret,fun hv=>?_,fun h1 h2=>?_⟩
 ·have h9:¬ (x.hd.kind=9∨x.hd.kind=10):=by unfold isVar at hv;omega
  have G:=(Gw.call (hq.2.neg h9)).mono (K':=K) fun y C0 _ hy=>hy.2.ret
  obtain⟨u,us,rfl⟩:=zA.fin.cons;have G:=(Gw.look G).pos hv;have hend :∀(ys:List Ast) (C0:List ak),Rm N 0 ⟨dz 20 t.2.1,[x]++ys,C0,n+Ast.al ([x]++ys)⟩→Gw (want [61] fun _=>.call .Dw fun(m:List Ast)=>.ret (Dv 20 t.2.1 (([x]++ys).length:Int) ([x]++ys++m))) C0 K E→aK [eu,au [[61]],nT N] ⟨dz 20 t.2.1,[x]++ys,C0,n+Ast.al ([x]++ys)⟩ (bU K) E:=fun ys C0 hI G=>by
   have Un:Rm N 0 ⟨⟨20,t.2.1,0,(([x]++ys).length:Int),⟨#[]⟩,[],[]⟩,[x]++ys,C0,n+Ast.al ([x]++ys)⟩:=⟨hI.len,hI.n,hI.xs,hI.wf⟩;exact bX Un G fun _ r2 hI _ G=>uf hI G fun m r3 hI _ G=>cu hI G.ret
  refine⟨u,us,rfl,fun hc=>?_,fun hc=>?_⟩
  ·have Jw:=(oI (dz 20 t.2.1)).tok (h':=dz 20 t.2.1) (aW hc)
   have htn:=Jw.n;have htx:=Jw.xs;dsimp only at htn htx
   refine⟨by dsimp only;omega,us.length+1,by omega,?_⟩
   refine Up t.2.1 [x] K (2*us.length) _ (fun ys C0 hs hw3 Kq G=>?_) (us.length+1) us _ [] (dA _) Jw.len (by dsimp only;omega) (by rw[cz];omega) Jw.wf ((G.pos hc).tok)
   have:=hend ys C0 ⟨Kq,?_,?_,hw3⟩ G
   ·rw[fk,←oN] at this
    exact this
   ·rw[fk];dsimp only;omega
   ·have:=vM ys
    simp only[cb] at *;omega
  ·have:=hend [] (u::us) (by rw[j4];exact oI _) (by rw[j4];exact G.neg (by simp[hc]))
   rw[j4] at this;exact this
 ·have h9:=hq.2.neg h1
  obtain⟨u,us,rfl⟩:=zA.fin.cons;have G:=(Gw.call h9).look;exact⟨u,us,rfl,(G.neg h2).bad⟩
end
end Go.Proofs.YtodmcdfeldkocaaGreatDoor
namespace Go.Proofs.YtodmcdfeldkocaaGreatDoor
open Go.RowKit
def pN (f:FuncId) (wp:iS):Prop:=∀(b:Nat) (O:Nat→Prop) (ts:List ak) (T:List Nd) (K:Ast→List ak→Prop) (E:Int→Prop) (W:World),PS W b O ts T→wp ts T.length K E→Calls Tryz.prog f #[.pointer (some ⟨b,0,none⟩)] W (aF b O T (RK K E) W)
theorem pN.one {f:FuncId} {wp:iS} (h:pN f wp) (hf:Enters Tryz.prog f) (W:World) (b:Nat) (O:Nat→Prop):One W b O (aZ f b) wp:=by
 intro W1 O1 T ts K E _ _ hp hk;exact⟨f,_,_,rfl,hf,h b O1 ts T K E W1 hp hk⟩
def ey (f:FuncId) (wp:bW):Prop:=∀(b n:Nat) (O:Nat→Prop) (T0:List Nd) (s:St) (K:St→Prop) (E:Int→Prop) (W:World),Real W b n O T0 s→wp s K E→Calls Tryz.prog f #[.pointer (some ⟨b,0,none⟩),.pointer (some ⟨n,0,none⟩)] W (bB b n O T0 K E W)
theorem ey.part {f:FuncId} {wp:bW} (h:ey f wp) (hf:Enters Tryz.prog f) (W:World) (b:Nat) (O:Nat→Prop):eF W b O (aZ f b) wp:=by
 intro W1 O1 T0 s n K E _ _ hr hk;exact⟨f,_,_,rfl,hf,h b n O1 T0 s K E W1 hr hk⟩
theorem Real.lt {W:World} {b n:Nat} {O:Nat→Prop} {T0:List Nd} {s:St} (h:Real W b n O T0 s) :∀k,O k→k<W.heap.size:=fun k hk=>(h.own k hk).2
theorem eF.call {W W1:World} {b n:Nat} {O:Nat→Prop} {T0:List Nd} {s:St} {K:St→Prop} {E:Int→Prop} {v:Value} {wp:bW} (h:eF W1 b O v wp) (hr:Real W b n O T0 s) (hb:Below W.heap.size W W1) (hk:wp s K E) :
  ∃f first cap,v=.func (.func f) first cap∧Enters Tryz.prog f∧Calls Tryz.prog f (first.push (.pointer (some ⟨n,0,none⟩))++cap) W1 (bB b n O T0 K E W):=by
 obtain⟨f,first,cap,e,h1,h2⟩:=h W1 O T0 s n K E (aw.refl _ _) (Ext.refl _ _) (hr.below hb) hk
 refine⟨f,first,cap,e,h1,?_⟩
 rw[show first++#[Value.pointer (some ⟨n,0,none⟩)]=first.push (.pointer (some ⟨n,0,none⟩)) from by simp] at h2
 exact h2.mono fun e w' hp=>hp.after (aw.af hb)
theorem Pw {wp:iS} (hE:pN 131 wp):ey 105 (dy wp):=by
 intro b n O T0 s K E w hr hk;have HC:=aa (Cp b O 131 _ _ wp w (hE.one (enters_of Tryz.func131 (by kernel_rfl) rfl) w b O) hr.lt)
 have HR:=aa hr;have HK:=aa hk;clear hr hk;go_enter Tryz.func105,Tryz.ntmps105
 go_wp2_with fail
 refine HC.out.mono ?_;rintro e w1 ⟨v,rfl,b1,h2⟩;obtain⟨f,first,cap,rfl,pJ,bq⟩:=h2.1.call HR.out b1 HK.out
 have ec:=aa bq;clear h2 bq b1;unfold Enters at pJ;go_wp2_with fail
 refine ec.out.mono ?_;intro e w2 h3;obtain⟨v,rfl⟩:=h3.ret;have H3:=aa h3;clear h3;go_wp2_with fail
 go_ret
 exact H3.out
theorem vN (W:World) (b:Nat) (O:Nat→Prop):zv W b O (aZ 132 b) cX:=by
 intro W1 O1 T ts _ _ hp;obtain⟨t,r,rfl⟩:=hp.fin.cons;refine⟨132,_,_,rfl,enters_of Tryz.func132 (by kernel_rfl) rfl,?_⟩
 cases hc:av [44] t with
 | true =>
  have e1:cX (t::r)=(true,r):=by simp[cX,hc]
  rw[e1];exact kq b O1 t r T W1 hp hc
 | false =>
  have e1:cX (t::r)=(false,t::r):=by simp[cX,hc]
  rw[e1];exact me b O1 t r T W1 hp hc
theorem Px {wp:iS} (hE:pN 131 wp):ey 98 (mg wp cX):=by
 intro b n O T0 s K E w hr hk;have HC:=aa (zy b O 131 132 _ _ _ _ wp cX w (hE.one (enters_of Tryz.func131 (by kernel_rfl) rfl) w b O) (vN w b O) hr.lt)
 have HR:=aa hr;have HK:=aa hk;clear hr hk;go_enter Tryz.func98,Tryz.ntmps98
 go_wp2_with fail
 refine HC.out.mono ?_;rintro e w1 ⟨v,rfl,b1,h2⟩;obtain⟨f,first,cap,rfl,pJ,bq⟩:=h2.1.call HR.out b1 HK.out
 have ec:=aa bq;clear h2 bq b1;unfold Enters at pJ;go_wp2_with fail
 refine ec.out.mono ?_;intro e w2 h3;obtain⟨v,rfl⟩:=h3.ret;have H3:=aa h3;clear h3;go_wp2_with fail
 go_ret
 exact H3.out
theorem Jy {wp:iS} (hE:pN 168 wp):ey 143 (mg wp cX):=by
 intro b n O T0 s K E w hr hk;have HC:=aa (zy b O 168 132 _ _ _ _ wp cX w (hE.one (enters_of Tryz.func168 (by kernel_rfl) rfl) w b O) (vN w b O) hr.lt)
 have HR:=aa hr;have HK:=aa hk;clear hr hk;go_enter Tryz.func143,Tryz.ntmps143
 go_wp2_with fail
 refine HC.out.mono ?_;rintro e w1 ⟨v,rfl,b1,h2⟩;obtain⟨f,first,cap,rfl,pJ,bq⟩:=h2.1.call HR.out b1 HK.out
 have ec:=aa bq;clear h2 bq b1;unfold Enters at pJ;go_wp2_with fail
 refine ec.out.mono ?_;intro e w2 h3;obtain⟨v,rfl⟩:=h3.ret;have H3:=aa h3;clear h3;go_wp2_with fail
 go_ret
 exact H3.out
theorem aN.new {w:World} {b:Nat} {O:Nat→Prop} (hO :∀k,O k→k<w.heap.size) (vs:List Value) (cN:List bW) (hl:vs.length≤100) (h:jO w b O vs cN):aN (w.alloc (.cells vs.toArray 123)) b O (.slice (some ⟨w.heap.size,0,none⟩) vs.length vs.length) cN :=
 ⟨vs,.inr ⟨w.heap.size,rfl,World.alloc_heap_new w _,fun h=>by have:=hO _ h;omega,hl⟩,h.later ((aw.refl _ _).alloc _) (Ext.refl _ _)⟩
theorem aX (w:World) (o:Obj):Below w.heap.size w (w.alloc o):=(Below.refl _ _).alloc (ag _) o
theorem GD {wp:bW} (hS:ey 24 wp):ey 104 (dy (dR (mJ 18) [wp])):=by
 intro b n O T0 s K E w hr hk;have hO:=hr.lt;have HP:aN (w.alloc (.cells #[aZ 24 b] 123)) b O (.slice (some ⟨w.heap.size,0,none⟩) 1 1) [wp]:=aN.new hO [aZ 24 b] [wp] (by simp) ⟨hS.part (enters_of Tryz.func24 (by kernel_rfl) rfl) w b O,trivial⟩
 have HC:=aa (sj b O (mJ 18) (.slice none 0 0) _ [wp] _ (zR.nil _ b) HP (fun k hk=>by have:=hO k hk;simp;omega))
 have HR:=aa hr;have HK:=aa hk;clear hr hk HP hO;go_enter Tryz.func104,Tryz.ntmps104
 go_wp2_with fail
 refine HC.out.mono ?_;rintro e w1 ⟨v,rfl,b1,h2⟩;obtain⟨f,first,cap,rfl,pJ,bq⟩:=h2.1.call HR.out (ax (aX w _) b1) HK.out
 have ec:=aa bq;clear h2 bq b1;unfold Enters at pJ;go_wp2_with fail
 refine ec.out.mono ?_;intro e w2 h3;obtain⟨v,rfl⟩:=h3.ret;have H3:=aa h3;clear h3;go_wp2_with fail
 go_ret
 exact H3.out
theorem Py:ey 163 tG:=by
 intro b n O T0 s K E w hr hk;have hO:=hr.lt;have HP:aN (w.alloc (.cells #[aZ 102 b] 123)) b O (.slice (some ⟨w.heap.size,0,none⟩) 1 1) [cR]:=aN.new hO [aZ 102 b] [cR] (by simp) ⟨ik w b O,trivial⟩
 have HC:=aa (sj b O (mJ 5) (.slice none 0 0) _ [cR] _ (zR.nil _ b) HP (fun k hk=>by have:=hO k hk;simp;omega))
 have HR:=aa hr;have HK:=aa hk;clear hr hk HP hO;go_enter Tryz.func163,Tryz.ntmps163
 go_wp2_with fail
 refine HC.out.mono ?_;rintro e w1 ⟨v,rfl,b1,h2⟩;obtain⟨f,first,cap,rfl,pJ,bq⟩:=h2.1.call HR.out (ax (aX w _) b1) HK.out
 have ec:=aa bq;clear h2 bq b1;unfold Enters at pJ;go_wp2_with fail
 refine ec.out.mono ?_;intro e w2 h3;obtain⟨v,rfl⟩:=h3.ret;have H3:=aa h3;clear h3;go_wp2_with fail
 go_ret
 exact H3.out
theorem aby (b:Nat) (O:Nat→Prop) (t:ak) (ts:List ak) (T:List Nd) (x:Nd) (pv:Value) (cN:List bW) (K:Ast→List ak→Prop) (E:Int→Prop) (w:World) (hp:PS w b O (t::ts) T) (hx:x=⟨x.kind,0,x.op,x.num,x.s,[],[]⟩) (Gx:aN w b O pv cN)
  (hk:aK cN ⟨{ x with line:=t.2.1},[],t::ts,T.length⟩ (bU K) E):Calls Tryz.prog 23 #[.pointer (some ⟨b,0,none⟩),cZ x (.slice none 0 0) (.slice none 0 0),pv] w (aF b O T (RK K E) w):=by
 have h1:x.line=0:=by rw[hx]
 have h2:x.names=[]:=by rw[hx]
 refine(zw b O (fun _=>False) t ts T T x t.2.1 [] [] (.slice none 0 0) (.slice none 0 0) pv cN (RK K E) w hp ⟨?_,World.ownsRow_nil _ _ _ _,fun g hg=>by simp[Value.ownBlock] at hg,fun g hg=>by simp[Value.ownBlock] at hg,fun g hg=>by simp[Value.ownBlock] at hg⟩ (fun _ _ h=>h) (fun _ h=>h.elim) (ez.nil T) (Gx.later (aw.refl _ _) (fun k hk=>.inl (hk.elim id False.elim))) (.inl ⟨h1,rfl⟩) hk).mono fun e w' h=>h.sub fun k hk=>hk.elim id False.elim
 rw[show({ x with kids:=[]}:Nd).names=[] from h2]
 exact World.ownsRow_nil _ _ _ _
theorem cC {b:Nat} {O:Nat→Prop} {t:ak} {ts:List ak} {T:List Nd} {K:Ast→List ak→Prop} {E:Int→Prop} (w w2:World) (hp:PS w2 b O (t::ts) T) (hf:aw O w w2) (x:Nd) (hx:x=⟨x.kind,0,x.op,x.num,x.s,[],[]⟩) (vs:List Value) (cN:List bW) (hl:vs.length≤100) (hall:jO w2 b O vs cN)
  (hk:aK cN ⟨{ x with line:=t.2.1},[],t::ts,T.length⟩ (bU K) E):Calls Tryz.prog 23 #[.pointer (some ⟨b,0,none⟩),cZ x (.slice none 0 0) (.slice none 0 0),.slice (some ⟨w2.heap.size,0,none⟩) vs.length vs.length] (w2.alloc (.cells vs.toArray 123)) (aF b O T (RK K E) w) :=
 (aby b O t ts T x _ cN K E _ (hp.below (aX w2 _)) hx (aN.new (fun k hk=>(hp.own k hk).2) vs cN hl hall) hk).mono fun _ _ h=>h.after (hf.alloc _)
def kt (b:Nat) (O:Nat→Prop) (wp:bW) (w:World) (e:Ending) (w':World):Prop:=∃f first cap,e=.returned (.func (.func f) first cap)∧Below w.heap.size w w'∧eF w' b O (.func (.func f) first cap) wp
theorem cA (w:World) (b:Nat) (O:Nat→Prop) (hO :∀k,O k→k<w.heap.size) (x:List UInt8) (hx:x≠[]) (X:ByteArray) (hX:X=bG x) :
  Calls Tryz.prog 103 #[.pointer (some ⟨b,0,none⟩),.slice (some ⟨w.heap.size,0,none⟩) 1 1] (w.alloc (.cells #[.string X] 9)) (kt b O (au [x]) w):=by
 subst hX;refine(Gt b w.heap.size O [x] (w.alloc (.cells #[.string (bG x)] 9)) (fun y hy=>by rw[bR.1 hy];exact hx) (by simp) (eG.new w O hO _ 9) (fun k hk=>by have:=hO k hk;simp;omega) 1 rfl).mono ?_
 rintro e w' ⟨v,rfl,hb,hp,f,first,cap,rfl⟩
 exact⟨f,first,cap,rfl,ax (aX w _) hb,hp⟩
def Pz (ex:bW) (t:ak) (ts:List ak) (n:Nat) (K:Ast→List ak→Prop) (E:Int→Prop):Prop :=
 (av [40] t=true→aK [aB,ex,au [[41]]] ⟨dz 14 t.2.1,[],t::ts,n⟩ (bU K) E)∧(av [40] t=false→aK [cR] ⟨dz 7 t.2.1,[],t::ts,n⟩ (bU K) E)
theorem Ur {ex:bW} (hE:ey 105 ex) (b:Nat) (O:Nat→Prop) (t:ak) (ts:List ak) (T:List Nd) (K:Ast→List ak→Prop) (E:Int→Prop) (w:World) (hp:PS w b O (t::ts) T) (hk:Pz ex t ts T.length K E) :
  Calls Tryz.prog 166 #[.pointer (some ⟨b,0,none⟩)] w (aF b O T (RK K E) w):=by
 have HW:=aa (bL b O t ts T w hp);cases hq:av [40] t with
 | true =>
  have g1:((ah t).toList == [40])=true:=ai (s:=[40]) (by decide) t hq
  have HK:=aa (hk.1 hq);generalize hY:ah t=Y at *;have HP:=aa hp;clear hp hk hY hq;go_enter Tryz.func166,Tryz.ntmps166
  go_wp2_with fail
  refine HW.out.mono ?_;rintro e w1 ⟨rfl,b1⟩;have jV:=HP.out.below b1;have si :∀k,O k→k<w1.heap.size:=fun k hk=>(jV.own k hk).2
  have B1:=aa b1;have P1:=aa jV;have HV:=aa (cA w1 b O si [41] (by decide) ⟨#[41]⟩ rfl)
  clear b1 jV si;go_wp2_with fail
  refine HV.out.mono ?_;rintro e w2 ⟨fi,f1,f2,rfl,b2,h2⟩;have HN:=aa (cC w w2 (P1.out.below b2) (aw.af (ax B1.out b2)) (mJ 14) rfl [aZ 55 b,aZ 105 b,.func (.func fi) f1 f2] [aB,ex,au [[41]]] (by simp) ⟨bc w2 b O,hE.part (enters_of Tryz.func105 (by kernel_rfl) rfl) w2 b O,h2,trivial⟩ HK.out)
  clear b2 h2;go_wp2_with fail
  refine HN.out.mono ?_;intro e w3 h3;obtain⟨v,er,rfl⟩:=h3.ret;have H3:=aa h3;clear h3;go_wp2_with fail
  go_ret2
  exact H3.out
 | false =>
  have g1:((ah t).toList == [40])=false:=ai (s:=[40]) (by decide) t hq
  have HK:=aa (hk.2 hq);generalize hY:ah t=Y at *;have HP:=aa hp;clear hp hk hY hq;go_enter Tryz.func166,Tryz.ntmps166
  go_wp2_with fail
  refine HW.out.mono ?_;rintro e w1 ⟨rfl,b1⟩;have HN:=aa (cC w w1 (HP.out.below b1) (aw.af b1) (mJ 7) rfl [aZ 102 b] [cR] (by simp) ⟨ik w1 b O,trivial⟩ HK.out)
  clear b1;go_wp2_with fail
  refine HN.out.mono ?_;intro e w3 h3;obtain⟨v,er,rfl⟩:=h3.ret;have H3:=aa h3;clear h3;go_wp2_with fail
  go_ret2
  exact H3.out
theorem Jz (w:World) (b:Nat) (O:Nat→Prop) (hO :∀k,O k→k<w.heap.size) (x y:List UInt8) (hx:x≠[]) (hy:y≠[]) (X Y:ByteArray) (hX:X=bG x) (hY:Y=bG y) :
  Calls Tryz.prog 103 #[.pointer (some ⟨b,0,none⟩),.slice (some ⟨w.heap.size,0,none⟩) 2 2] (w.alloc (.cells #[.string X,.string Y] 9)) (kt b O (au [x,y]) w):=by
 subst hX hY;refine(Gt b w.heap.size O [x,y] (w.alloc (.cells #[.string (bG x),.string (bG y)] 9)) (fun z hz=>by rcases ba.1 hz with rfl|hz;exact hx;rw[bR.1 hz];exact hy) (by simp) (eG.new w O hO _ 9) (fun k hk=>by have:=hO k hk;simp;omega) 2 rfl).mono ?_
 rintro e w' ⟨v,rfl,hb,hp,f,first,cap,rfl⟩
 exact⟨f,first,cap,rfl,ax (aX w _) hb,hp⟩
theorem pO (w:World) (b:Nat) (O:Nat→Prop) (hO :∀k,O k→k<w.heap.size) (vs:List Value) (cN:List bW) (hl:vs.length≤100) (h:jO w b O vs cN) (x:List UInt8) (hx:x≠[]) (X:ByteArray) (hX:X=bG x) :
  Calls Tryz.prog 57 #[.pointer (some ⟨b,0,none⟩),.string X,.slice (some ⟨w.heap.size,0,none⟩) vs.length vs.length] (w.alloc (.cells vs.toArray 123)) (kt b O (bw x cN) w):=by
 refine(xZ b O x X hX hx _ cN _ (aN.new hO vs cN hl h) (fun k hk=>by have:=hO k hk;simp;omega)).mono ?_
 rintro e w' ⟨v,rfl,hb,hp,f,first,cap,rfl⟩
 exact⟨f,first,cap,rfl,ax (aX w _) hb,hp⟩
theorem Us (w:World) (b:Nat) (O:Nat→Prop) (hO :∀k,O k→k<w.heap.size) (vs:List Value) (cN:List bW) (hl:vs.length≤100) (h:jO w b O vs cN) (x:List UInt8) (hx:x≠[]) (X:ByteArray) (hX:X=bG x) :
  Calls Tryz.prog 106 #[.pointer (some ⟨b,0,none⟩),.string X,.slice (some ⟨w.heap.size,0,none⟩) vs.length vs.length] (w.alloc (.cells vs.toArray 123)) (kt b O (sd x cN) w):=by
 refine(Ec b O x X hX hx _ cN _ (aN.new hO vs cN hl h) (fun k hk=>by have:=hO k hk;simp;omega)).mono ?_
 rintro e w' ⟨v,rfl,hb,hp,f,first,cap,rfl⟩
 exact⟨f,first,cap,rfl,ax (aX w _) hb,hp⟩
theorem sr (w:World) (b:Nat) (O:Nat→Prop) (hO :∀k,O k→k<w.heap.size) (x:List UInt8) (hx:x≠[]) (X:ByteArray) (hX:X=bG x) (f:FuncId) (first cap:Array Value) (wp:bW) (h:eF w b O (.func (.func f) first cap) wp) :
  Calls Tryz.prog 164 #[.pointer (some ⟨b,0,none⟩),.string X,.func (.func f) first cap] w (kt b O (dF x wp) w):=by
 refine(Pd b O x X hX hx f first cap wp w h hO).mono ?_
 rintro e w' ⟨v,rfl,hb,hp,f,first,cap,rfl⟩
 exact⟨f,first,cap,rfl,hb,hp⟩
theorem jo {b n:Nat} {O O2:Nat→Prop} {T0:List Nd} {s:St} {K:St→Prop} {E:Int→Prop} (w w2:World) (hr:Real w2 b n O2 T0 s) (hf:aw O w w2) (he:Ext O O2 w) (vs:List Value) (cN:List bW) (hl:vs.length≤100) (hall:jO w2 b O2 vs cN) (hk:aK cN s K E) :
  Calls Tryz.prog 50 #[.pointer (some ⟨n,0,none⟩),.slice (some ⟨w2.heap.size,0,none⟩) vs.length vs.length] (w2.alloc (.cells vs.toArray 123)) (bB b n O T0 K E w) :=
 (vH b n O2 T0 s K E _ cN _ (hr.below (aX w2 _)) (aN.new hr.lt vs cN hl hall) hk).mono fun e w' h=>by
  obtain⟨h1,h2⟩:=h;have hf2:aw O2 w2 w':=((aw.refl O2 w2).alloc _).trans h1 (Ext.refl _ _);refine⟨hf.trans hf2 he,h2.imp ?_ ?_⟩
  ·rintro⟨s',O',e1,r1,x1,k1⟩
   exact⟨s',O',e1,r1,he.trans (fun k hk=>(x1 k hk).imp id fun h=>by simp at h;omega) hf.size,k1⟩
  ·rintro⟨l,v,e1,⟨g,m1,m2,m3⟩,k⟩
   exact⟨l,v,e1,⟨g,m1,by have:=hf.size;simp at m2;omega,m3⟩,k⟩
theorem PB {pa bl:bW} (adv:ey 165 pa) (hB:ey 104 bl):ey 141 (fun s K E=>aK [au [[40]],dF [41] pa,au [[41]],bl,au [jm]] s K E):=by
 intro b n O T0 s K E w0 hr hk;have HK:=aa hk;have P0:=aa hr;have F0:=aa (aw.refl O w0);clear hr hk;go_enter Tryz.func141,Tryz.ntmps141
 have pe :∀k,O k→k<w0.heap.size:=P0.out.lt;have V1:=aa (cA w0 b O pe [40] (by decide) ⟨#[40]⟩ rfl)
 clear pe;go_wp2_with fail
 refine V1.out.mono ?_;rintro e w1 ⟨f1,a1,c1,rfl,b1,h1⟩;have F1:=aa (F0.out.trans (aw.af (O:=O) b1) (Ext.refl _ _));have P1:=aa (P0.out.below b1);have H1:=aa h1;clear b1 h1 V1;have si :∀k,O k→k<w1.heap.size:=P1.out.lt;have V2:=aa (sr w1 b O si [41] (by decide) ⟨#[41]⟩ rfl 165 _ _ (pa) (adv.part (enters_of Tryz.func165 (by kernel_rfl) rfl) w1 b O))
 clear si;go_wp2_with fail
 refine V2.out.mono ?_;rintro e w2 ⟨f2,a2,c2,rfl,b2,h2⟩;have F2:=aa (F1.out.trans (aw.af (O:=O) b2) (Ext.refl _ _));have P2:=aa (P1.out.below b2);have L1:=aa (H1.out.later (aw.af (O:=O) b2) (Ext.refl _ _));clear H1;have H1:=L1;clear L1;have H2:=aa h2;clear b2 h2 V2;have Kz :∀k,O k→k<w2.heap.size:=P2.out.lt;have V3:=aa (cA w2 b O Kz [41] (by decide) ⟨#[41]⟩ rfl)
 clear Kz;go_wp2_with fail
 refine V3.out.mono ?_;rintro e w3 ⟨f3,a3,c3,rfl,b3,h3⟩;have F3:=aa (F2.out.trans (aw.af (O:=O) b3) (Ext.refl _ _));have P3:=aa (P2.out.below b3);have L1:=aa (H1.out.later (aw.af (O:=O) b3) (Ext.refl _ _));clear H1;have H1:=L1;clear L1;have L2:=aa (H2.out.later (aw.af (O:=O) b3) (Ext.refl _ _));clear H2;have H2:=L2;clear L2;have H3:=aa h3;clear b3 h3 V3;have C5 :∀k,O k→k<w3.heap.size:=P3.out.lt;have V4:=aa (cA w3 b O C5 [101,110,100] (by decide) ⟨#[101,110,100]⟩ rfl)
 clear C5;go_wp2_with fail
 refine V4.out.mono ?_;rintro e w4 ⟨f4,a4,c4,rfl,b4,h4⟩;have F4:=aa (F3.out.trans (aw.af (O:=O) b4) (Ext.refl _ _));have P4:=aa (P3.out.below b4);have L1:=aa (H1.out.later (aw.af (O:=O) b4) (Ext.refl _ _));clear H1;have H1:=L1;clear L1;have L2:=aa (H2.out.later (aw.af (O:=O) b4) (Ext.refl _ _));clear H2;have H2:=L2;clear L2;have L3:=aa (H3.out.later (aw.af (O:=O) b4) (Ext.refl _ _));clear H3;have H3:=L3;clear L3;have H4:=aa h4;clear b4 h4 V4;have HN:=aa (jo w0 w4 P4.out F4.out (Ext.refl _ _) [.func (.func f1) a1 c1,.func (.func f2) a2 c2,.func (.func f3) a3 c3,aZ 104 b,.func (.func f4) a4 c4] [au [[40]],dF [41] (pa),au [[41]],bl,au [[101,110,100]]] (by simp) ⟨H1.out,H2.out,H3.out,hB.part (enters_of Tryz.func104 (by kernel_rfl) rfl) w4 b O,H4.out,trivial⟩ HK.out)
 go_wp2_with fail
 refine HN.out.mono ?_;intro e wz hz;obtain⟨v,rfl⟩:=hz.ret;have HZ:=aa hz;clear hz;go_wp2_with fail
 go_ret
 exact HZ.out
theorem Ut {it:bW} (Jw:ey 212 it) (b:Nat) (O:Nat→Prop) (t:ak) (ts:List ak) (T:List Nd) (K:Ast→List ak→Prop) (E:Int→Prop) (w0:World) (hp:PS w0 b O (t::ts) T)
  (hk:aK [aB,dF [125] it,au [[125]]] ⟨dz 15 t.2.1,[],t::ts,T.length⟩ (bU K) E) :
  Calls Tryz.prog 202 #[.pointer (some ⟨b,0,none⟩)] w0 (aF b O T (RK K E) w0):=by
 have HK:=aa hk;have P0:=aa hp;have F0:=aa (aw.refl O w0);clear hp hk;go_enter Tryz.func202,Tryz.ntmps202
 have pe :∀k,O k→k<w0.heap.size:=fun k hk=>(P0.out.own k hk).2
 have V1:=aa (sr w0 b O pe [125] (by decide) ⟨#[125]⟩ rfl 212 _ _ (it) (Jw.part (enters_of Tryz.func212 (by kernel_rfl) rfl) w0 b O))
 clear pe;go_wp2_with fail
 refine V1.out.mono ?_;rintro e w1 ⟨f1,a1,c1,rfl,b1,h1⟩;have F1:=aa (F0.out.trans (aw.af (O:=O) b1) (Ext.refl _ _));have P1:=aa (P0.out.below b1);have H1:=aa h1;clear b1 h1 V1;have si :∀k,O k→k<w1.heap.size:=fun k hk=>(P1.out.own k hk).2
 have V2:=aa (cA w1 b O si [125] (by decide) ⟨#[125]⟩ rfl)
 clear si;go_wp2_with fail
 refine V2.out.mono ?_;rintro e w2 ⟨f2,a2,c2,rfl,b2,h2⟩;have F2:=aa (F1.out.trans (aw.af (O:=O) b2) (Ext.refl _ _));have P2:=aa (P1.out.below b2);have L1:=aa (H1.out.later (aw.af (O:=O) b2) (Ext.refl _ _));clear H1;have H1:=L1;clear L1;have H2:=aa h2;clear b2 h2 V2;have HN:=aa (cC w0 w2 P2.out F2.out (mJ 15) rfl [aZ 55 b,.func (.func f1) a1 c1,.func (.func f2) a2 c2] [aB,dF [125] (it),au [[125]]] (by simp) ⟨bc w2 b O,H1.out,H2.out,trivial⟩ HK.out)
 go_wp2_with fail
 refine HN.out.mono ?_;intro e wz hz;obtain⟨v,er,rfl⟩:=hz.ret;have HZ:=aa hz;clear hz;go_wp2_with fail
 go_ret2
 exact HZ.out
theorem PS.next {W:World} {b:Nat} {O:Nat→Prop} {t u:ak} {ts:List ak} {T:List Nd} (h:PS W b O (t::u::ts) T) :
  ∃(i g n c:Nat),W.cell? ⟨b,0,none⟩=some (.slice (some ⟨g,0,none⟩) n c)∧W.cell? ⟨b,1,none⟩=some (.int .i64 (i:Int))∧i+1<n∧n≤20000∧n≤c ∧
   W.cell? ⟨g,(i+1)*4,none⟩=some (.int .i64 u.1)∧W.cell? ⟨g,(i+1)*4+1,none⟩=some (.int .i64 u.2.1)∧W.cell? ⟨g,(i+1)*4+2,none⟩=some (.int .i64 u.2.2.1)∧W.cell? ⟨g,(i+1)*4+3,none⟩=some (.string (bG u.2.2.2)):=by
 obtain⟨TS,i,g,c,nv,L,a1,a2,a3,a4,a5,a6,a7⟩:=h.ex;obtain⟨g',cap,e,h1,h2,h3⟩:=a2.ex;have hg:g=g'∧c=cap:=by injection e with e1 _ e3;injection e1 with e1;injection e1 with e1;exact⟨e1,e3⟩
 obtain⟨rfl,rfl⟩:=hg;have hi:TS[i+1]? = some u:=by
  have:=az (·[1]?) a4
  simpa[wW] using this
 have hlt:=(aJ.1 hi).1;obtain⟨b0,b1,b2,b3⟩:=h3 (i+1) u hi;exact⟨i,g,TS.length,c,by simp[World.cell?,a1],by simp[World.cell?,a1],hlt,a5,h1,b0,b1,b2,b3⟩
def vO (t u:ak):Bool:=decide (t.1=1) && (decide (u.1=5) && decide (u.2.2.2=[61]))
theorem ZL (l s:List UInt8):((bG l).toList == s)=decide (l=s):=by
 rw[Lib.toList_data];show((bG l).data.toList == s)=_
 by_cases h:l=s<;>simp[bG,h]
theorem Eh (b:Nat) (O:Nat→Prop) (t:ak) (ts:List ak) (T:List Nd) (w:World) (h:PS w b O (t::ts) T) (ht:t.1≠1):Calls Tryz.prog 218 #[.pointer (some ⟨b,0,none⟩)] w (nR w false):=by
 obtain⟨t0,t1,t2,t3⟩:=t;have HA:=aa (cB b O (t0,t1,t2,t3) ts T w h);unfold fW at HA;dsimp only at HA ht
 have F0:=Cm t0 t1 t2 (bG t3);have g1:(t0 == 1)=false:=aC.2 ht;have g1':(t0 != 1)=true:=oO.2 ht;clear h ht;go_enter Tryz.func218,Tryz.ntmps218
 go_wp2_with fail
 refine HA.out.mono ?_;rintro e w1 ⟨rfl,b1⟩;have B1:=aa b1;clear b1;go_wp2_with fail
 go_ret
 exact⟨rfl,B1.out⟩
theorem Uu (b:Nat) (O:Nat→Prop) (t u:ak) (ts:List ak) (T:List Nd) (w:World) (h:PS w b O (t::u::ts) T) (ht:t.1=1) (r:Bool) (hr:(decide (u.1=5) && decide (u.2.2.2=[61]))=r):Calls Tryz.prog 218 #[.pointer (some ⟨b,0,none⟩)] w (nR w r):=by
 obtain⟨t0,t1,t2,t3⟩:=t;have HA:=aa (cB b O (t0,t1,t2,t3) (u::ts) T w h);unfold fW at HA;dsimp only at HA ht
 subst ht;have F0:=Cm 1 t1 t2 (bG t3);have HP:=aa h;clear h;go_enter Tryz.func218,Tryz.ntmps218
 go_wp2_with fail
 refine HA.out.mono ?_;rintro e w1 ⟨rfl,b1⟩;obtain⟨i,g,n,c,c0,c1,hi,hn,hc,d0,d1,d2,d3⟩:=(HP.out.below b1).next;have hb:b<w1.heap.size:=World.block_lt_of_cell? w1 _ c1;have hg:g<w1.heap.size:=World.block_lt_of_cell? w1 _ d0;have B1:=aa b1;obtain⟨u0,u1,u2,u3⟩:=u;dsimp only at *
 clear b1;have hbt:((bG u3).toList == [61])=decide (u3=[61]):=ZL u3 [61];generalize bG u3=S at *;by_cases h5:u0=5
 ·subst h5
  have hr2:decide (u3=[61])=r:=by simpa using hr
  rw[hr2] at hbt;clear hr hr2;cases r <;>
  ·go_wp2_with fail
   go_region
   all_goals go_wp2
   all_goals go_ret
   all_goals exact⟨rfl,ax B1.out (aX w1 _).drew⟩
 ·have g5:(u0 == 5)=false:=aC.2 h5
  have hd:false=r:=by simpa[h5] using hr
  subst hd;clear h5 hr hbt;go_wp2_with fail
  go_region
  all_goals go_wp2
  all_goals go_ret
  all_goals exact⟨rfl,ax B1.out (aX w1 _).drew⟩
def ja:List ak→Bool×List ak
 | []=>(false,[])
 | t::r=>if (av [44] t || av [59] t)=true then (match r with
  | []=>true
  | u::_=>!av [125] u,r) else (false,t::r)
theorem pP {t u:ak} {us:List ak} (h:(av [44] t || av [59] t)=true):ja (t::u::us)=(!av [125] u,u::us):=by simp only[ja,h,sL]
theorem ye {t:ak} {us:List ak} (h:(av [44] t || av [59] t)=false):ja (t::us)=(false,t::us):=by simp[ja,h]
theorem PC (b g:Nat) (O:Nat→Prop) (t:ak) (ts:List ak) (T:List Nd) (w:World) (h:PS w b O (t::ts) T) (b0:eG w O g #[.pointer (some ⟨b,0,none⟩)] 117) (r:Bool) (tr:List ak) (hr:ja (t::ts)=(r,tr)):Calls Tryz.prog 216 #[.pointer (some ⟨g,0,none⟩)] w (ly b O tr T r w):=by
 have c0:=b0.cell 0;have HB:=aa b0;have wO :∀k,k=b→O k:=fun k hk=>hk▸h.at_
 have HO:=aa wO;clear b0 wO;by_cases h1:av [44] t=true
 ·have h1':(av [44] t || av [59] t)=true:=by rw[h1];rfl
  have iY:=(h.fin.tail (ue h1)).cons;obtain⟨u,us,rfl⟩:=iY;have VH:(!av [125] u)=r∧u::us=tr:=by
   rw[pP h1'] at hr;injection hr with e1 e2;exact⟨e1,e2⟩
  obtain⟨hr1,rfl⟩:=VH;have HC:=aa (kq b O t (u::us) T w h h1);clear h h1 h1' hr;have g1:((ah u).toList == [125])=(!r):=ai (s:=[125]) (by decide) u (by rw[←hr1];simp)
  clear hr1;go_enter Tryz.func216,Tryz.ntmps216
  go_wp2_with fail
  refine HC.out.mono ?_;rintro e w1 ⟨rfl,p1,f1⟩;have c1:=(HB.out.later (f1.mono HO.out) (Ext.refl _ _)).cell 0;have HW:=aa (bL b O u us T w1 p1);generalize ah u=Y at *;have P1:=aa p1;have F1:=aa f1;clear p1 f1 c0;cases r <;>
  ·go_wp2_with fail
   refine HW.out.mono ?_;rintro e w2 ⟨rfl,b2⟩;have B2:=aa b2;clear b2;go_wp2_with fail
   go_ret
   exact⟨rfl,P1.out.below B2.out,F1.out.trans (aw.af (O:=(· = b)) B2.out) (Ext.refl _ _)⟩
 ·have PD:av [44] t=false:=by simpa using h1
  have HC:=aa (me b O t ts T w h PD);by_cases h2:av [59] t=true
  ·have h1':(av [44] t || av [59] t)=true:=by rw[h2];simp
   have iY:=(h.fin.tail (ue h2)).cons;obtain⟨u,us,rfl⟩:=iY;have VH:(!av [125] u)=r∧u::us=tr:=by
    rw[pP h1'] at hr;injection hr with e1 e2;exact⟨e1,e2⟩
   obtain⟨hr1,rfl⟩:=VH;have HT:=aa (fun(W:World) hW=>mc b O t (u::us) T [59] ⟨#[59]⟩ rfl W hW (by decide) h2)
   clear h h1 PD h2 h1' hr;have g1:((ah u).toList == [125])=(!r):=ai (s:=[125]) (by decide) u (by rw[←hr1];simp)
   clear hr1;go_enter Tryz.func216,Tryz.ntmps216
   go_wp2_with fail
   refine HC.out.mono ?_;rintro e w1 ⟨rfl,p1,f1⟩;have c1:=(HB.out.later (f1.mono HO.out) (Ext.refl _ _)).cell 0;have F1:=aa f1;have AM:=aa (HT.out w1 p1);clear p1 f1 c0;go_wp2_with fail
   refine AM.out.mono ?_;rintro e w2 ⟨rfl,p2,f2⟩;have F2:=aa (F1.out.trans f2 (Ext.refl _ _));have c2:=(HB.out.later (F2.out.mono HO.out) (Ext.refl _ _)).cell 0;have HW:=aa (bL b O u us T w2 p2);generalize ah u=Y at *;have P2:=aa p2;clear p2 f2 c1;cases r <;>
   ·go_wp2_with fail
    refine HW.out.mono ?_;rintro e w3 ⟨rfl,b2⟩;have B2:=aa b2;clear b2;go_wp2_with fail
    go_ret
    exact⟨rfl,P2.out.below B2.out,F2.out.trans (aw.af (O:=(· = b)) B2.out) (Ext.refl _ _)⟩
  ·have h2f:av [59] t=false:=by simpa using h2
   have HT:=aa (fun(W:World) hW=>ow b O t ts T [59] ⟨#[59]⟩ rfl W hW (by decide) h2f)
   have VH:false=r∧t::ts=tr:=by
    rw[ye (by rw[PD,h2f];rfl)] at hr
    injection hr with e1 e2;exact⟨e1,e2⟩
   obtain⟨rfl,rfl⟩:=VH;clear h h1 PD h2 h2f hr;go_enter Tryz.func216,Tryz.ntmps216
   go_wp2_with fail
   refine HC.out.mono ?_;rintro e w1 ⟨rfl,p1,f1⟩;have c1:=(HB.out.later (f1.mono HO.out) (Ext.refl _ _)).cell 0;have F1:=aa f1;have AM:=aa (HT.out w1 p1);clear p1 f1 c0;go_wp2_with fail
   refine AM.out.mono ?_;rintro e w2 ⟨rfl,p2,f2⟩;have F2:=aa (F1.out.trans f2 (Ext.refl _ _));have P2:=aa p2;clear p2 f2 c1;go_wp2_with fail
   go_ret
   exact⟨rfl,P2.out,F2.out⟩
theorem Ei {W:World} {b g:Nat} {O:Nat→Prop} (b0:eG W O g #[.pointer (some ⟨b,0,none⟩)] 117):zv W b O (.func (.func 216) #[] #[.pointer (some ⟨g,0,none⟩)]) ja:=by
 intro W1 O1 T ts hf he hp;obtain⟨t,r,rfl⟩:=hp.fin.cons;exact⟨216,_,_,rfl,enters_of Tryz.func216 (by kernel_rfl) rfl,PC b g O1 t r T W1 hp (b0.later hf he) _ _ rfl⟩
theorem Uv {wp:iS} (hE:pN 215 wp):ey 212 (mg wp ja):=by
 intro b n O T0 s K E w hr hk;have hO:=hr.lt;have h1:=eG.new w O hO #[.pointer (some ⟨b,0,none⟩)] 117;have HC:=aa (zy b O 215 216 _ _ _ _ wp ja (w.alloc (.cells #[.pointer (some ⟨b,0,none⟩)] 117)) (hE.one (enters_of Tryz.func215 (by kernel_rfl) rfl) _ b O) (Ei h1) (fun k hk=>by have:=hO k hk;simp;omega))
 have HR:=aa hr;have HK:=aa hk;clear hr hk h1 hO;go_enter Tryz.func212,Tryz.ntmps212
 go_wp2_with fail
 refine HC.out.mono ?_;rintro e w1 ⟨v,rfl,b1,h2⟩;obtain⟨f,first,cap,rfl,pJ,bq⟩:=h2.1.call HR.out (ax (aX w _) b1) HK.out
 have ec:=aa bq;clear h2 bq b1;unfold Enters at pJ;go_wp2_with fail
 refine ec.out.mono ?_;intro e w2 h3;obtain⟨v,rfl⟩:=h3.ret;have H3:=aa h3;clear h3;go_wp2_with fail
 go_ret
 exact H3.out
def mh (t:ak):List ak→Bool
 | []=>false
 | u::_=>vO t u
theorem JA (b:Nat) (O:Nat→Prop) (t:ak) (ts:List ak) (T:List Nd) (w:World) (h:PS w b O (t::ts) T) (r:Bool) (hr:mh t ts=r):Calls Tryz.prog 218 #[.pointer (some ⟨b,0,none⟩)] w (nR w r):=by
 by_cases h1:t.1=1
 ·obtain⟨u,us,rfl⟩:=(h.fin.tail (by rw[h1];decide)).cons
  refine Uu b O t u us T w h h1 r ?_;rw[←hr];simp[mh,vO,h1]
 ·have hf:false=r:=by
   rw[←hr];cases ts<;>simp[mh,vO,h1]
  rw[←hf];exact Eh b O t ts T w h h1
def WH (ex:bW) (t:ak) (ts:List ak) (n:Nat) (K:Ast→List ak→Prop) (E:Int→Prop):Prop :=
 (av [91] t=true→aK [aB,ex,au [[93],[61]],ex] ⟨dz 17 t.2.1,[],t::ts,n⟩ (bU K) E)∧(av [91] t=false→(mh t ts=true→aK [tG,aB,ex] ⟨dz 17 t.2.1,[],t::ts,n⟩ (bU K) E)∧(mh t ts=false→aK [ex] ⟨dz 16 t.2.1,[],t::ts,n⟩ (bU K) E))
theorem ZM {ex:bW} (hE:ey 105 ex) (b:Nat) (O:Nat→Prop) (t:ak) (ts:List ak) (T:List Nd) (K:Ast→List ak→Prop) (E:Int→Prop) (w:World) (hp:PS w b O (t::ts) T) (hk:WH ex t ts T.length K E) :
  Calls Tryz.prog 215 #[.pointer (some ⟨b,0,none⟩)] w (aF b O T (RK K E) w):=by
 have HW:=aa (bL b O t ts T w hp);have HF:=aa (fun W hW=>JA b O t ts T W hW)
 cases hq:av [91] t with
 | true =>
  ·have g1:((ah t).toList == [91])=true:=ai (s:=[91]) (by decide) t hq
   have HK:=aa (hk.1 hq);generalize hY:ah t=Y at *;have P:=aa hp;clear hp hk hY hq HF;go_enter Tryz.func215,Tryz.ntmps215
   go_wp2_with fail
   refine HW.out.mono ?_;rintro e w0 ⟨rfl,b0⟩;have F0:=aa (aw.af (O:=O) b0);have P0:=aa (P.out.below b0);clear b0;have pe :∀k,O k→k<w0.heap.size:=fun k hk=>(P0.out.own k hk).2
   have V1:=aa (Jz w0 b O pe [93] [61] (by decide) (by decide) ⟨#[93]⟩ ⟨#[61]⟩ rfl rfl)
   clear pe;go_wp2_with fail
   refine V1.out.mono ?_;rintro e w1 ⟨f1,a1,c1,rfl,b1,h1⟩;have F1:=aa (F0.out.trans (aw.af (O:=O) b1) (Ext.refl _ _));have P1:=aa (P0.out.below b1);have H1:=aa h1;clear b1 h1 V1;have HN:=aa (cC w w1 P1.out F1.out (mJ 17) rfl [aZ 55 b,aZ 105 b,.func (.func f1) a1 c1,aZ 105 b] [aB,ex,au [[93],[61]],ex] (by simp) ⟨bc w1 b O,hE.part (enters_of Tryz.func105 (by kernel_rfl) rfl) w1 b O,H1.out,hE.part (enters_of Tryz.func105 (by kernel_rfl) rfl) w1 b O,trivial⟩ HK.out)
   go_wp2_with fail
   refine HN.out.mono ?_;intro e wz hz;obtain⟨v,er,rfl⟩:=hz.ret;have HZ:=aa hz;clear hz;go_wp2_with fail
   go_ret2
   exact HZ.out
 | false =>
  cases hf:mh t ts with
  | true =>
   ·have g1:((ah t).toList == [91])=false:=ai (s:=[91]) (by decide) t hq
    have HK:=aa ((hk.2 hq).1 hf);have lR:=aa (fun W hW=>HF.out W hW true hf)
    generalize hY:ah t=Y at *;have P:=aa hp;clear hp hk hY hq HF hf;go_enter Tryz.func215,Tryz.ntmps215
    go_wp2_with fail
    refine HW.out.mono ?_;rintro e w0 ⟨rfl,b0⟩;have F0:=aa (aw.af (O:=O) b0);have P0:=aa (P.out.below b0);clear b0;have zN:=aa (lR.out w0 P0.out);clear lR;go_wp2_with fail
    refine zN.out.mono ?_;rintro e w1 ⟨rfl,b1⟩;have F1:=aa (F0.out.trans (aw.af (O:=O) b1) (Ext.refl _ _));have P1:=aa (P0.out.below b1);clear b1;have HN:=aa (cC w w1 P1.out F1.out (mJ 17) rfl [aZ 163 b,aZ 55 b,aZ 105 b] [tG,aB,ex] (by simp) ⟨Py.part (enters_of Tryz.func163 (by kernel_rfl) rfl) w1 b O,bc w1 b O,hE.part (enters_of Tryz.func105 (by kernel_rfl) rfl) w1 b O,trivial⟩ HK.out)
    go_wp2_with fail
    refine HN.out.mono ?_;intro e wz hz;obtain⟨v,er,rfl⟩:=hz.ret;have HZ:=aa hz;clear hz;go_wp2_with fail
    go_ret2
    exact HZ.out
  | false =>
   ·have g1:((ah t).toList == [91])=false:=ai (s:=[91]) (by decide) t hq
    have HK:=aa ((hk.2 hq).2 hf);have lR:=aa (fun W hW=>HF.out W hW false hf)
    generalize hY:ah t=Y at *;have P:=aa hp;clear hp hk hY hq HF hf;go_enter Tryz.func215,Tryz.ntmps215
    go_wp2_with fail
    refine HW.out.mono ?_;rintro e w0 ⟨rfl,b0⟩;have F0:=aa (aw.af (O:=O) b0);have P0:=aa (P.out.below b0);clear b0;have zN:=aa (lR.out w0 P0.out);clear lR;go_wp2_with fail
    refine zN.out.mono ?_;rintro e w1 ⟨rfl,b1⟩;have F1:=aa (F0.out.trans (aw.af (O:=O) b1) (Ext.refl _ _));have P1:=aa (P0.out.below b1);clear b1;have HN:=aa (cC w w1 P1.out F1.out (mJ 16) rfl [aZ 105 b] [ex] (by simp) ⟨hE.part (enters_of Tryz.func105 (by kernel_rfl) rfl) w1 b O,trivial⟩ HK.out)
    go_wp2_with fail
    refine HN.out.mono ?_;intro e wz hz;obtain⟨v,er,rfl⟩:=hz.ret;have HZ:=aa hz;clear hz;go_wp2_with fail
    go_ret2
    exact HZ.out
theorem PE {b:Nat} {O:Nat→Prop} {t:ak} {ts:List ak} {T0 T:List Nd} {K:Ast→List ak→Prop} {E:Int→Prop} (w2:World) (g p:Nat) (a:Ast) (hp:PS w2 b O (t::ts) T) (hg:w2.heap[g]? = some (.cells #[.int .i64 (p:Int)] 3 (0,0))) (hgO:¬ O g) (hgb:b+1≤g) (VZ:ez T0 T [a] [(p:Int)])
  (x:Nd) (hx:x=⟨x.kind,0,x.op,x.num,x.s,[],[]⟩) (vs:List Value) (cN:List bW) (hl:vs.length≤100) (hall:jO w2 b (fun k=>O k∨k=g) vs cN)
  (hk:aK cN ⟨{ x with line:=t.2.1},[a],t::ts,T0.length+a.size⟩ (bU K) E) :
  Calls Tryz.prog 23 #[.pointer (some ⟨b,0,none⟩),cZ x (.slice none 0 0) (.slice (some ⟨g,0,none⟩) 1 1),.slice (some ⟨w2.heap.size,0,none⟩) vs.length vs.length] (w2.alloc (.cells vs.toArray 123)) (aF b (fun k=>O k∨k=g) T0 (RK K E) w2):=by
 have h1:x.line=0:=by rw[hx]
 have h2:x.names=[]:=by rw[hx]
 have oT:g<w2.heap.size:=(aM.1 hg).1;have hO :∀k,(O k∨k=g)→k<w2.heap.size:=fun k hk=>hk.elim (fun h=>(hp.own k h).2) (fun h=>h▸oT)
 have hz:T.length=T0.length+a.size:=by rw[VZ.len,Ast.al,Ast.al];omega
 rw[←hz] at hk;have hrow:w2.ownsRow (b+1) 3 1 (.slice (some ⟨g,0,none⟩) 1 1) 1 [.int .i64 (p:Int)]:=⟨rfl,.inr ⟨g,1,#[.int .i64 (p:Int)],rfl,hgb,hg,ag _,by unfold maxLen;omega,rfl,rfl⟩⟩
 have dJ:jM w2 b (· = g) { x with kids:=[(p:Int)]} (.slice none 0 0) (.slice (some ⟨g,0,none⟩) 1 1):=by
  refine⟨?_,hrow,fun g hg=>by simp[Value.ownBlock] at hg,fun g hg=>by simp[Value.ownBlock] at hg,fun k hk=>by simpa[Value.ownBlock] using hk.symm⟩
  rw[show({ x with kids:=[(p:Int)]}:Nd).names=[] from h2]
  exact World.ownsRow_nil _ _ _ _
 refine(zw b O (· = g) t ts T0 T x t.2.1 [a] [(p:Int)] (.slice none 0 0) (.slice (some ⟨g,0,none⟩) 1 1) _ cN (RK K E) _ (hp.below (aX w2 _)) ?_ (fun k hk e=>hgO (e▸hk)) (fun k hk=>⟨by omega,by simp;omega⟩) VZ (aN.new hO vs cN hl hall) (.inl ⟨h1,rfl⟩) hk).mono fun e w' h=>h.after ((aw.refl _ _).alloc _)
 exact dJ.kept (O1:=fun _=>False) ((aw.refl _ w2).alloc _) (fun _ _ h=>h) (fun _ h=>h)
def su (f:FuncId) (l:Int) (wp:iS):Prop:=∀(b:Nat) (O:Nat→Prop) (ts:List ak) (T:List Nd) (K:Ast→List ak→Prop) (E:Int→Prop) (W:World),PS W b O ts T→wp ts T.length K E→Calls Tryz.prog f #[.pointer (some ⟨b,0,none⟩),.int .i64 l] W (aF b O T (RK K E) W)
theorem aO {s:List UInt8} {t:ak} (h:av s t=true):(∃l n,t=(2,l,n,s))∨(∃l n,t=(5,l,n,s)):=by
 obtain⟨t0,t1,t2,t3⟩:=t;unfold av at h;rw[dk,Bool.or_eq_true,iD,iD,iD] at h;obtain⟨h1,h2⟩:=h;dsimp only at h1 h2
 subst h2;rcases h1 with rfl|rfl
 ·exact .inl ⟨t1,t2,rfl⟩
 ·exact .inr ⟨t1,t2,rfl⟩
def eH (t:ak):Int:=match mF t with
 | some o=>o.1
 | none=>0
def fm (t:ak):Int:=match lX t with
 | some o=>o
 | none=>0
def bK (k:Int) (w:World) (e:Ending) (w':World):Prop:=e=.returned (.int .i64 k)∧w'=w
theorem binary_1 (t:ak) (w:World) (hq:av [43] t=true):Calls Tryz.prog 184 #[.string (ah t)] w (bK 1 w):=by
 have g0:((ah t).toList == [43])=true:=ai (s:=[43]) (by decide) t hq
 generalize ah t=Y at *;clear hq;go_enter Tryz.func184,Tryz.ntmps184
 go_wp2
 go_ret
 exact⟨rfl,rfl⟩
theorem PF (t:ak) (w:World) (hq:av [45] t=true):Calls Tryz.prog 184 #[.string (ah t)] w (bK 2 w):=by
 have g0:=aQ [43] hq (by decide)
 have g1:((ah t).toList == [45])=true:=ai (s:=[45]) (by decide) t hq
 generalize ah t=Y at *;clear hq;go_enter Tryz.func184,Tryz.ntmps184
 go_wp2
 go_ret
 exact⟨rfl,rfl⟩
theorem PG (t:ak) (w:World) (hq:av [42] t=true):Calls Tryz.prog 184 #[.string (ah t)] w (bK 3 w):=by
 have g0:=aQ [43] hq (by decide)
 have g1:=aQ [45] hq (by decide)
 have g2:((ah t).toList == [42])=true:=ai (s:=[42]) (by decide) t hq
 generalize ah t=Y at *;clear hq;go_enter Tryz.func184,Tryz.ntmps184
 go_wp2
 go_ret
 exact⟨rfl,rfl⟩
theorem PH (t:ak) (w:World) (hq:av [47,47] t=true):Calls Tryz.prog 184 #[.string (ah t)] w (bK 4 w):=by
 have g0:=aQ [43] hq (by decide)
 have g1:=aQ [45] hq (by decide)
 have g2:=aQ [42] hq (by decide)
 have g3:((ah t).toList == [47,47])=true:=ai (s:=[47,47]) (by decide) t hq
 generalize ah t=Y at *;clear hq;go_enter Tryz.func184,Tryz.ntmps184
 go_wp2
 go_ret
 exact⟨rfl,rfl⟩
theorem PI (t:ak) (w:World) (hq:av [37] t=true):Calls Tryz.prog 184 #[.string (ah t)] w (bK 5 w):=by
 have g0:=aQ [43] hq (by decide)
 have g1:=aQ [45] hq (by decide)
 have g2:=aQ [42] hq (by decide)
 have g3:=aQ [47,47] hq (by decide)
 have g4:((ah t).toList == [37])=true:=ai (s:=[37]) (by decide) t hq
 generalize ah t=Y at *;clear hq;go_enter Tryz.func184,Tryz.ntmps184
 go_wp2
 go_ret
 exact⟨rfl,rfl⟩
theorem PJ (t:ak) (w:World) (hq:av [38] t=true):Calls Tryz.prog 184 #[.string (ah t)] w (bK 6 w):=by
 have g0:=aQ [43] hq (by decide)
 have g1:=aQ [45] hq (by decide)
 have g2:=aQ [42] hq (by decide)
 have g3:=aQ [47,47] hq (by decide)
 have g4:=aQ [37] hq (by decide)
 have g5:((ah t).toList == [38])=true:=ai (s:=[38]) (by decide) t hq
 generalize ah t=Y at *;clear hq;go_enter Tryz.func184,Tryz.ntmps184
 go_wp2
 go_ret
 exact⟨rfl,rfl⟩
theorem PK (t:ak) (w:World) (hq:av [124] t=true):Calls Tryz.prog 184 #[.string (ah t)] w (bK 7 w):=by
 have g0:=aQ [43] hq (by decide)
 have g1:=aQ [45] hq (by decide)
 have g2:=aQ [42] hq (by decide)
 have g3:=aQ [47,47] hq (by decide)
 have g4:=aQ [37] hq (by decide)
 have g5:=aQ [38] hq (by decide)
 have g6:((ah t).toList == [124])=true:=ai (s:=[124]) (by decide) t hq
 generalize ah t=Y at *;clear hq;go_enter Tryz.func184,Tryz.ntmps184
 go_wp2
 go_ret
 exact⟨rfl,rfl⟩
theorem PM (t:ak) (w:World) (hq:av [126] t=true):Calls Tryz.prog 184 #[.string (ah t)] w (bK 8 w):=by
 have g0:=aQ [43] hq (by decide)
 have g1:=aQ [45] hq (by decide)
 have g2:=aQ [42] hq (by decide)
 have g3:=aQ [47,47] hq (by decide)
 have g4:=aQ [37] hq (by decide)
 have g5:=aQ [38] hq (by decide)
 have g6:=aQ [124] hq (by decide)
 have g7:((ah t).toList == [126])=true:=ai (s:=[126]) (by decide) t hq
 generalize ah t=Y at *;clear hq;go_enter Tryz.func184,Tryz.ntmps184
 go_wp2
 go_ret
 exact⟨rfl,rfl⟩
theorem PN (t:ak) (w:World) (hq:av [60,60] t=true):Calls Tryz.prog 184 #[.string (ah t)] w (bK 9 w):=by
 have g0:=aQ [43] hq (by decide)
 have g1:=aQ [45] hq (by decide)
 have g2:=aQ [42] hq (by decide)
 have g3:=aQ [47,47] hq (by decide)
 have g4:=aQ [37] hq (by decide)
 have g5:=aQ [38] hq (by decide)
 have g6:=aQ [124] hq (by decide)
 have g7:=aQ [126] hq (by decide)
 have g8:((ah t).toList == [60,60])=true:=ai (s:=[60,60]) (by decide) t hq
 generalize ah t=Y at *;clear hq;go_enter Tryz.func184,Tryz.ntmps184
 go_wp2
 go_ret
 exact⟨rfl,rfl⟩
theorem JB (t:ak) (w:World) (hq:av [62,62] t=true):Calls Tryz.prog 184 #[.string (ah t)] w (bK 10 w):=by
 have g0:=aQ [43] hq (by decide)
 have g1:=aQ [45] hq (by decide)
 have g2:=aQ [42] hq (by decide)
 have g3:=aQ [47,47] hq (by decide)
 have g4:=aQ [37] hq (by decide)
 have g5:=aQ [38] hq (by decide)
 have g6:=aQ [124] hq (by decide)
 have g7:=aQ [126] hq (by decide)
 have g8:=aQ [60,60] hq (by decide)
 have g9:((ah t).toList == [62,62])=true:=ai (s:=[62,62]) (by decide) t hq
 generalize ah t=Y at *;clear hq;go_enter Tryz.func184,Tryz.ntmps184
 go_wp2
 go_ret
 exact⟨rfl,rfl⟩
theorem JC (t:ak) (w:World) (hq:av [46,46] t=true):Calls Tryz.prog 184 #[.string (ah t)] w (bK 11 w):=by
 have g0:=aQ [43] hq (by decide)
 have g1:=aQ [45] hq (by decide)
 have g2:=aQ [42] hq (by decide)
 have g3:=aQ [47,47] hq (by decide)
 have g4:=aQ [37] hq (by decide)
 have g5:=aQ [38] hq (by decide)
 have g6:=aQ [124] hq (by decide)
 have g7:=aQ [126] hq (by decide)
 have g8:=aQ [60,60] hq (by decide)
 have g9:=aQ [62,62] hq (by decide)
 have g10:((ah t).toList == [46,46])=true:=ai (s:=[46,46]) (by decide) t hq
 generalize ah t=Y at *;clear hq;go_enter Tryz.func184,Tryz.ntmps184
 go_wp2
 go_ret
 exact⟨rfl,rfl⟩
theorem JD (t:ak) (w:World) (hq:av [61,61] t=true):Calls Tryz.prog 184 #[.string (ah t)] w (bK 12 w):=by
 have g0:=aQ [43] hq (by decide)
 have g1:=aQ [45] hq (by decide)
 have g2:=aQ [42] hq (by decide)
 have g3:=aQ [47,47] hq (by decide)
 have g4:=aQ [37] hq (by decide)
 have g5:=aQ [38] hq (by decide)
 have g6:=aQ [124] hq (by decide)
 have g7:=aQ [126] hq (by decide)
 have g8:=aQ [60,60] hq (by decide)
 have g9:=aQ [62,62] hq (by decide)
 have g10:=aQ [46,46] hq (by decide)
 have g11:((ah t).toList == [61,61])=true:=ai (s:=[61,61]) (by decide) t hq
 generalize ah t=Y at *;clear hq;go_enter Tryz.func184,Tryz.ntmps184
 go_wp2
 go_ret
 exact⟨rfl,rfl⟩
theorem JE (t:ak) (w:World) (hq:av [126,61] t=true):Calls Tryz.prog 184 #[.string (ah t)] w (bK 13 w):=by
 have g0:=aQ [43] hq (by decide)
 have g1:=aQ [45] hq (by decide)
 have g2:=aQ [42] hq (by decide)
 have g3:=aQ [47,47] hq (by decide)
 have g4:=aQ [37] hq (by decide)
 have g5:=aQ [38] hq (by decide)
 have g6:=aQ [124] hq (by decide)
 have g7:=aQ [126] hq (by decide)
 have g8:=aQ [60,60] hq (by decide)
 have g9:=aQ [62,62] hq (by decide)
 have g10:=aQ [46,46] hq (by decide)
 have g11:=aQ [61,61] hq (by decide)
 have g12:((ah t).toList == [126,61])=true:=ai (s:=[126,61]) (by decide) t hq
 generalize ah t=Y at *;clear hq;go_enter Tryz.func184,Tryz.ntmps184
 go_wp2
 go_ret
 exact⟨rfl,rfl⟩
theorem JF (t:ak) (w:World) (hq:av [60] t=true):Calls Tryz.prog 184 #[.string (ah t)] w (bK 14 w):=by
 have g0:=aQ [43] hq (by decide)
 have g1:=aQ [45] hq (by decide)
 have g2:=aQ [42] hq (by decide)
 have g3:=aQ [47,47] hq (by decide)
 have g4:=aQ [37] hq (by decide)
 have g5:=aQ [38] hq (by decide)
 have g6:=aQ [124] hq (by decide)
 have g7:=aQ [126] hq (by decide)
 have g8:=aQ [60,60] hq (by decide)
 have g9:=aQ [62,62] hq (by decide)
 have g10:=aQ [46,46] hq (by decide)
 have g11:=aQ [61,61] hq (by decide)
 have g12:=aQ [126,61] hq (by decide)
 have g13:((ah t).toList == [60])=true:=ai (s:=[60]) (by decide) t hq
 generalize ah t=Y at *;clear hq;go_enter Tryz.func184,Tryz.ntmps184
 go_wp2
 go_ret
 exact⟨rfl,rfl⟩
theorem JG (t:ak) (w:World) (hq:av [60,61] t=true):Calls Tryz.prog 184 #[.string (ah t)] w (bK 15 w):=by
 have g0:=aQ [43] hq (by decide)
 have g1:=aQ [45] hq (by decide)
 have g2:=aQ [42] hq (by decide)
 have g3:=aQ [47,47] hq (by decide)
 have g4:=aQ [37] hq (by decide)
 have g5:=aQ [38] hq (by decide)
 have g6:=aQ [124] hq (by decide)
 have g7:=aQ [126] hq (by decide)
 have g8:=aQ [60,60] hq (by decide)
 have g9:=aQ [62,62] hq (by decide)
 have g10:=aQ [46,46] hq (by decide)
 have g11:=aQ [61,61] hq (by decide)
 have g12:=aQ [126,61] hq (by decide)
 have g13:=aQ [60] hq (by decide)
 have g14:((ah t).toList == [60,61])=true:=ai (s:=[60,61]) (by decide) t hq
 generalize ah t=Y at *;clear hq;go_enter Tryz.func184,Tryz.ntmps184
 go_wp2
 go_ret
 exact⟨rfl,rfl⟩
theorem JH (t:ak) (w:World) (hq:av [62] t=true):Calls Tryz.prog 184 #[.string (ah t)] w (bK 16 w):=by
 have g0:=aQ [43] hq (by decide)
 have g1:=aQ [45] hq (by decide)
 have g2:=aQ [42] hq (by decide)
 have g3:=aQ [47,47] hq (by decide)
 have g4:=aQ [37] hq (by decide)
 have g5:=aQ [38] hq (by decide)
 have g6:=aQ [124] hq (by decide)
 have g7:=aQ [126] hq (by decide)
 have g8:=aQ [60,60] hq (by decide)
 have g9:=aQ [62,62] hq (by decide)
 have g10:=aQ [46,46] hq (by decide)
 have g11:=aQ [61,61] hq (by decide)
 have g12:=aQ [126,61] hq (by decide)
 have g13:=aQ [60] hq (by decide)
 have g14:=aQ [60,61] hq (by decide)
 have g15:((ah t).toList == [62])=true:=ai (s:=[62]) (by decide) t hq
 generalize ah t=Y at *;clear hq;go_enter Tryz.func184,Tryz.ntmps184
 go_wp2
 go_ret
 exact⟨rfl,rfl⟩
theorem JI (t:ak) (w:World) (hq:av [62,61] t=true):Calls Tryz.prog 184 #[.string (ah t)] w (bK 17 w):=by
 have g0:=aQ [43] hq (by decide)
 have g1:=aQ [45] hq (by decide)
 have g2:=aQ [42] hq (by decide)
 have g3:=aQ [47,47] hq (by decide)
 have g4:=aQ [37] hq (by decide)
 have g5:=aQ [38] hq (by decide)
 have g6:=aQ [124] hq (by decide)
 have g7:=aQ [126] hq (by decide)
 have g8:=aQ [60,60] hq (by decide)
 have g9:=aQ [62,62] hq (by decide)
 have g10:=aQ [46,46] hq (by decide)
 have g11:=aQ [61,61] hq (by decide)
 have g12:=aQ [126,61] hq (by decide)
 have g13:=aQ [60] hq (by decide)
 have g14:=aQ [60,61] hq (by decide)
 have g15:=aQ [62] hq (by decide)
 have g16:((ah t).toList == [62,61])=true:=ai (s:=[62,61]) (by decide) t hq
 generalize ah t=Y at *;clear hq;go_enter Tryz.func184,Tryz.ntmps184
 go_wp2
 go_ret
 exact⟨rfl,rfl⟩
theorem JJ (t:ak) (w:World) (hq:av Ik t=true):Calls Tryz.prog 184 #[.string (ah t)] w (bK 18 w):=by
 have g0:=aQ [43] hq (by decide)
 have g1:=aQ [45] hq (by decide)
 have g2:=aQ [42] hq (by decide)
 have g3:=aQ [47,47] hq (by decide)
 have g4:=aQ [37] hq (by decide)
 have g5:=aQ [38] hq (by decide)
 have g6:=aQ [124] hq (by decide)
 have g7:=aQ [126] hq (by decide)
 have g8:=aQ [60,60] hq (by decide)
 have g9:=aQ [62,62] hq (by decide)
 have g10:=aQ [46,46] hq (by decide)
 have g11:=aQ [61,61] hq (by decide)
 have g12:=aQ [126,61] hq (by decide)
 have g13:=aQ [60] hq (by decide)
 have g14:=aQ [60,61] hq (by decide)
 have g15:=aQ [62] hq (by decide)
 have g16:=aQ [62,61] hq (by decide)
 have g17:((ah t).toList == [97,110,100])=true:=ai (s:=Ik) (by decide) t hq
 generalize ah t=Y at *;clear hq;go_enter Tryz.func184,Tryz.ntmps184
 go_wp2
 go_ret
 exact⟨rfl,rfl⟩
theorem JK (t:ak) (w:World) (hq:av wOr t=true):Calls Tryz.prog 184 #[.string (ah t)] w (bK 19 w):=by
 have g0:=aQ [43] hq (by decide)
 have g1:=aQ [45] hq (by decide)
 have g2:=aQ [42] hq (by decide)
 have g3:=aQ [47,47] hq (by decide)
 have g4:=aQ [37] hq (by decide)
 have g5:=aQ [38] hq (by decide)
 have g6:=aQ [124] hq (by decide)
 have g7:=aQ [126] hq (by decide)
 have g8:=aQ [60,60] hq (by decide)
 have g9:=aQ [62,62] hq (by decide)
 have g10:=aQ [46,46] hq (by decide)
 have g11:=aQ [61,61] hq (by decide)
 have g12:=aQ [126,61] hq (by decide)
 have g13:=aQ [60] hq (by decide)
 have g14:=aQ [60,61] hq (by decide)
 have g15:=aQ [62] hq (by decide)
 have g16:=aQ [62,61] hq (by decide)
 have g17:=aQ [97,110,100] hq (by decide)
 have g18:((ah t).toList == [111,114])=true:=ai (s:=wOr) (by decide) t hq
 generalize ah t=Y at *;clear hq;go_enter Tryz.func184,Tryz.ntmps184
 go_wp2
 go_ret
 exact⟨rfl,rfl⟩
theorem PO (t:ak) (w:World) (q0:av [43] t=false) (q1:av [45] t=false) (q2:av [42] t=false) (q3:av [47,47] t=false) (q4:av [37] t=false) (q5:av [38] t=false) (q6:av [124] t=false) (q7:av [126] t=false) (q8:av [60,60] t=false) (q9:av [62,62] t=false) (Uw:av [46,46] t=false) (yZ:av [61,61] t=false) (WI:av [126,61] t=false) (WJ:av [60] t=false) (WK:av [60,61] t=false) (WL:av [62] t=false) (Q9:av [62,61] t=false) (WM:av Ik t=false) (zO:av wOr t=false):Calls Tryz.prog 184 #[.string (ah t)] w (bK 0 w):=by
 have g0:((ah t).toList == [43])=false:=ai (s:=[43]) (by decide) t q0
 have g1:((ah t).toList == [45])=false:=ai (s:=[45]) (by decide) t q1
 have g2:((ah t).toList == [42])=false:=ai (s:=[42]) (by decide) t q2
 have g3:((ah t).toList == [47,47])=false:=ai (s:=[47,47]) (by decide) t q3
 have g4:((ah t).toList == [37])=false:=ai (s:=[37]) (by decide) t q4
 have g5:((ah t).toList == [38])=false:=ai (s:=[38]) (by decide) t q5
 have g6:((ah t).toList == [124])=false:=ai (s:=[124]) (by decide) t q6
 have g7:((ah t).toList == [126])=false:=ai (s:=[126]) (by decide) t q7
 have g8:((ah t).toList == [60,60])=false:=ai (s:=[60,60]) (by decide) t q8
 have g9:((ah t).toList == [62,62])=false:=ai (s:=[62,62]) (by decide) t q9
 have g10:((ah t).toList == [46,46])=false:=ai (s:=[46,46]) (by decide) t Uw
 have g11:((ah t).toList == [61,61])=false:=ai (s:=[61,61]) (by decide) t yZ
 have g12:((ah t).toList == [126,61])=false:=ai (s:=[126,61]) (by decide) t WI
 have g13:((ah t).toList == [60])=false:=ai (s:=[60]) (by decide) t WJ
 have g14:((ah t).toList == [60,61])=false:=ai (s:=[60,61]) (by decide) t WK
 have g15:((ah t).toList == [62])=false:=ai (s:=[62]) (by decide) t WL
 have g16:((ah t).toList == [62,61])=false:=ai (s:=[62,61]) (by decide) t Q9
 have g17:((ah t).toList == [97,110,100])=false:=ai (s:=Ik) (by decide) t WM
 have g18:((ah t).toList == [111,114])=false:=ai (s:=wOr) (by decide) t zO
 clear q0 q1 q2 q3 q4 q5 q6 q7 q8 q9 Uw yZ WI WJ WK WL Q9 WM zO;generalize ah t=Y at *;go_enter Tryz.func184,Tryz.ntmps184
 go_wp2
 go_ret
 exact⟨rfl,rfl⟩
theorem PQ (t:ak) (w:World):Calls Tryz.prog 184 #[.string (ah t)] w (bK (eH t) w):=by
 rcases eI (av [43] t) with q0|q0
 ·rw[show eH t=1 from by rcases aO q0 with ⟨l,n,rfl⟩ | ⟨l,n,rfl⟩<;>rfl]
  exact binary_1 t w q0
 rcases eI (av [45] t) with q1|q1
 ·rw[show eH t=2 from by rcases aO q1 with ⟨l,n,rfl⟩ | ⟨l,n,rfl⟩<;>rfl]
  exact PF t w q1
 rcases eI (av [42] t) with q2|q2
 ·rw[show eH t=3 from by rcases aO q2 with ⟨l,n,rfl⟩ | ⟨l,n,rfl⟩<;>rfl]
  exact PG t w q2
 rcases eI (av [47,47] t) with q3|q3
 ·rw[show eH t=4 from by rcases aO q3 with ⟨l,n,rfl⟩ | ⟨l,n,rfl⟩<;>rfl]
  exact PH t w q3
 rcases eI (av [37] t) with q4|q4
 ·rw[show eH t=5 from by rcases aO q4 with ⟨l,n,rfl⟩ | ⟨l,n,rfl⟩<;>rfl]
  exact PI t w q4
 rcases eI (av [38] t) with q5|q5
 ·rw[show eH t=6 from by rcases aO q5 with ⟨l,n,rfl⟩ | ⟨l,n,rfl⟩<;>rfl]
  exact PJ t w q5
 rcases eI (av [124] t) with q6|q6
 ·rw[show eH t=7 from by rcases aO q6 with ⟨l,n,rfl⟩ | ⟨l,n,rfl⟩<;>rfl]
  exact PK t w q6
 rcases eI (av [126] t) with q7|q7
 ·rw[show eH t=8 from by rcases aO q7 with ⟨l,n,rfl⟩ | ⟨l,n,rfl⟩<;>rfl]
  exact PM t w q7
 rcases eI (av [60,60] t) with q8|q8
 ·rw[show eH t=9 from by rcases aO q8 with ⟨l,n,rfl⟩ | ⟨l,n,rfl⟩<;>rfl]
  exact PN t w q8
 rcases eI (av [62,62] t) with q9|q9
 ·rw[show eH t=10 from by rcases aO q9 with ⟨l,n,rfl⟩ | ⟨l,n,rfl⟩<;>rfl]
  exact JB t w q9
 rcases eI (av [46,46] t) with Uw|Uw
 ·rw[show eH t=11 from by rcases aO Uw with ⟨l,n,rfl⟩ | ⟨l,n,rfl⟩<;>rfl]
  exact JC t w Uw
 rcases eI (av [61,61] t) with yZ|yZ
 ·rw[show eH t=12 from by rcases aO yZ with ⟨l,n,rfl⟩ | ⟨l,n,rfl⟩<;>rfl]
  exact JD t w yZ
 rcases eI (av [126,61] t) with WI|WI
 ·rw[show eH t=13 from by rcases aO WI with ⟨l,n,rfl⟩ | ⟨l,n,rfl⟩<;>rfl]
  exact JE t w WI
 rcases eI (av [60] t) with WJ|WJ
 ·rw[show eH t=14 from by rcases aO WJ with ⟨l,n,rfl⟩ | ⟨l,n,rfl⟩<;>rfl]
  exact JF t w WJ
 rcases eI (av [60,61] t) with WK|WK
 ·rw[show eH t=15 from by rcases aO WK with ⟨l,n,rfl⟩ | ⟨l,n,rfl⟩<;>rfl]
  exact JG t w WK
 rcases eI (av [62] t) with WL|WL
 ·rw[show eH t=16 from by rcases aO WL with ⟨l,n,rfl⟩ | ⟨l,n,rfl⟩<;>rfl]
  exact JH t w WL
 rcases eI (av [62,61] t) with Q9|Q9
 ·rw[show eH t=17 from by rcases aO Q9 with ⟨l,n,rfl⟩ | ⟨l,n,rfl⟩<;>rfl]
  exact JI t w Q9
 rcases eI (av Ik t) with WM|WM
 ·rw[show eH t=18 from by rcases aO WM with ⟨l,n,rfl⟩ | ⟨l,n,rfl⟩<;>rfl]
  exact JJ t w WM
 rcases eI (av wOr t) with zO|zO
 ·rw[show eH t=19 from by rcases aO zO with ⟨l,n,rfl⟩ | ⟨l,n,rfl⟩<;>rfl]
  exact JK t w zO
 rw[show eH t=0 from by unfold eH;rw[show mF t=none from by simp[mF,q0,q1,q2,q3,q4,q5,q6,q7,q8,q9,Uw,yZ,WI,WJ,WK,WL,Q9,WM,zO]]]
 exact PO t w q0 q1 q2 q3 q4 q5 q6 q7 q8 q9 Uw yZ WI WJ WK WL Q9 WM zO
theorem PT (t:ak) (w:World) (hq:av [45] t=true):Calls Tryz.prog 201 #[.string (ah t)] w (bK 20 w):=by
 have g0:((ah t).toList == [45])=true:=ai (s:=[45]) (by decide) t hq
 generalize ah t=Y at *;clear hq;go_enter Tryz.func201,Tryz.ntmps201
 go_wp2
 go_ret
 exact⟨rfl,rfl⟩
theorem PU (t:ak) (w:World) (hq:av [126] t=true):Calls Tryz.prog 201 #[.string (ah t)] w (bK 21 w):=by
 have g0:=aQ [45] hq (by decide)
 have g1:((ah t).toList == [126])=true:=ai (s:=[126]) (by decide) t hq
 generalize ah t=Y at *;clear hq;go_enter Tryz.func201,Tryz.ntmps201
 go_wp2
 go_ret
 exact⟨rfl,rfl⟩
theorem PV (t:ak) (w:World) (hq:av Du t=true):Calls Tryz.prog 201 #[.string (ah t)] w (bK 22 w):=by
 have g0:=aQ [45] hq (by decide)
 have g1:=aQ [126] hq (by decide)
 have g2:((ah t).toList == [110,111,116])=true:=ai (s:=Du) (by decide) t hq
 generalize ah t=Y at *;clear hq;go_enter Tryz.func201,Tryz.ntmps201
 go_wp2
 go_ret
 exact⟨rfl,rfl⟩
theorem PW (t:ak) (w:World) (hq:av [35] t=true):Calls Tryz.prog 201 #[.string (ah t)] w (bK 23 w):=by
 have g0:=aQ [45] hq (by decide)
 have g1:=aQ [126] hq (by decide)
 have g2:=aQ [110,111,116] hq (by decide)
 have g3:((ah t).toList == [35])=true:=ai (s:=[35]) (by decide) t hq
 generalize ah t=Y at *;clear hq;go_enter Tryz.func201,Tryz.ntmps201
 go_wp2
 go_ret
 exact⟨rfl,rfl⟩
theorem Ux (t:ak) (w:World) (q0:av [45] t=false) (q1:av [126] t=false) (q2:av Du t=false) (q3:av [35] t=false):Calls Tryz.prog 201 #[.string (ah t)] w (bK 0 w):=by
 have g0:((ah t).toList == [45])=false:=ai (s:=[45]) (by decide) t q0
 have g1:((ah t).toList == [126])=false:=ai (s:=[126]) (by decide) t q1
 have g2:((ah t).toList == [110,111,116])=false:=ai (s:=Du) (by decide) t q2
 have g3:((ah t).toList == [35])=false:=ai (s:=[35]) (by decide) t q3
 clear q0 q1 q2 q3;generalize ah t=Y at *;go_enter Tryz.func201,Tryz.ntmps201
 go_wp2
 go_ret
 exact⟨rfl,rfl⟩
theorem ku (t:ak) (w:World):Calls Tryz.prog 201 #[.string (ah t)] w (bK (fm t) w):=by
 rcases eI (av [45] t) with q0|q0
 ·rw[show fm t=20 from by rcases aO q0 with ⟨l,n,rfl⟩ | ⟨l,n,rfl⟩<;>rfl]
  exact PT t w q0
 rcases eI (av [126] t) with q1|q1
 ·rw[show fm t=21 from by rcases aO q1 with ⟨l,n,rfl⟩ | ⟨l,n,rfl⟩<;>rfl]
  exact PU t w q1
 rcases eI (av Du t) with q2|q2
 ·rw[show fm t=22 from by rcases aO q2 with ⟨l,n,rfl⟩ | ⟨l,n,rfl⟩<;>rfl]
  exact PV t w q2
 rcases eI (av [35] t) with q3|q3
 ·rw[show fm t=23 from by rcases aO q3 with ⟨l,n,rfl⟩ | ⟨l,n,rfl⟩<;>rfl]
  exact PW t w q3
 rw[show fm t=0 from by unfold fm;rw[show lX t=none from by simp[lX,q0,q1,q2,q3]]]
 exact Ux t w q0 q1 q2 q3
def KC (k:Int):Int:=if k=0 then 0 else if k=19 then 1 else if k=18 then 2 else if 12≤k∧k≤17 then 3 else if k=7 then 4 else if k=8 then 5 else if k=6 then 6 else if k=9∨k=10 then 7 else if k=11 then 8 else if k=1∨k=2 then 9 else if 3≤k∧k≤5 then 10 else 11
def wP (k:Int):Int:=if k=11 then 7 else KC k
theorem vP (k:Int) (w:World) (h0:0≤k) (h1:k≤23):Calls Tryz.prog 185 #[.int .i64 k] w (bK (KC k) w):=by
 have h:k=0∨k=1∨k=2∨k=3∨k=4∨k=5∨k=6∨k=7∨k=8∨k=9∨k=10∨k=11∨k=12∨k=13∨k=14∨k=15∨k=16∨k=17∨k=18∨k=19∨k=20∨k=21∨k=22∨k=23:=by omega
 rcases h with rfl|rfl|rfl|rfl|rfl|rfl|rfl|rfl|rfl|rfl|rfl|rfl|rfl|rfl|rfl|rfl|rfl|rfl|rfl|rfl|rfl|rfl|rfl|rfl <;>
 ·clear h0 h1
  go_enter Tryz.func185,Tryz.ntmps185
  go_wp2
  go_ret
  exact⟨rfl,rfl⟩
theorem PX (k:Int) (w:World) (h0:0≤k) (h1:k≤23):Calls Tryz.prog 204 #[.int .i64 k] w (bK (wP k) w):=by
 have HC:=aa (vP k w h0 h1);by_cases hk:k=11
 ·subst hk
  rw[show KC 11=8 from rfl] at HC
  rw[show wP 11=7 from rfl]
  clear h0 h1;go_enter Tryz.func204,Tryz.ntmps204
  go_wp2_with fail
  refine HC.out.mono ?_;rintro e w1 ⟨rfl,rfl⟩;go_wp2_with fail
  go_ret
  exact⟨rfl,rfl⟩
 ·rw[show wP k=KC k from by unfold wP;rw[ae hk]]
  have g1:(k == 11)=false:=aC.2 hk;generalize KC k=S at *;clear h0 h1 hk;go_enter Tryz.func204,Tryz.ntmps204
  go_wp2_with fail
  refine HC.out.mono ?_;rintro e w1 ⟨rfl,rfl⟩;go_wp2_with fail
  go_ret
  exact⟨rfl,rfl⟩
theorem mi {t:ak} {o:Int×Nat×Nat} (h:mF t=some o):eH t=o.1∧KC o.1=(o.2.1:Int)∧wP o.1+1=(o.2.2:Int)∧1≤o.1∧o.1≤19:=by
 refine⟨by unfold eH;rw[h],?_⟩
 unfold mF at h;repeat' (rcases Ck h with rfl|h;exact⟨by decide,by decide,by decide,by decide⟩)
 exact absurd h (by simp)
theorem yg {t:ak} (h:mF t=none):eH t=0:=by unfold eH;rw[h]
theorem PY {wp:iS} (op:Int) (h0:0≤op) (h1:op≤23) (hB:su 162 (wP op) wp) (b g1 g2:Nat) (O:Nat→Prop) (ts:List ak) (T:List Nd) (K:Ast→List ak→Prop) (E:Int→Prop) (w:World) (hp:PS w b O ts T) (b1:eG w O g1 #[.pointer (some ⟨b,0,none⟩)] 117) (b2:eG w O g2 #[.int .i64 op] 3) (hk:wp ts T.length K E) :
  Calls Tryz.prog 203 #[.pointer (some ⟨g1,0,none⟩),.pointer (some ⟨g2,0,none⟩)] w (aF b O T (RK K E) w):=by
 have c1:=b1.cell 0;have c2:=b2.cell 0;have HS:=aa (fun W=>PX op W h0 h1)
 have HB:=aa (fun(W:World) hW=>hB b O ts T K E W hW hk)
 have HP:=aa hp;generalize wP op=l at *;clear b1 b2 hp hk hB h0 h1;go_enter Tryz.func203,Tryz.ntmps203
 go_wp2_with fail
 go_region_with (first
  | (go_at_call 204;refine(HS.out _).mono ?_;rintro e w2 ⟨rfl,rfl⟩)
  | (go_at_call 162;refine(HB.out _ (HP.out.below (by exact⟨rfl,rfl,rfl,ag _,fun _ _=>rfl⟩))).mono ?_;intro e w3 h3;obtain⟨v,er,rfl⟩:=h3.ret;have H3:=aa h3;clear h3))
 all_goals go_wp2
 all_goals go_ret2
 all_goals exact H3.out.after ⟨rfl,rfl,rfl,ag _,fun _ _ _=>rfl,fun _ _=>rfl⟩
theorem GF {wp:iS} (op:Int) (h0:0≤op) (h1:op≤23) (hB:su 162 (wP op) wp) (b:Nat) (O:Nat→Prop) (w:World) (hO :∀k,O k→k<w.heap.size):Calls Tryz.prog 186 #[.pointer (some ⟨b,0,none⟩),.int .i64 op] w (kt b O (dy wp) w):=by
 obtain⟨w1,ee⟩ :∃w1,w1=w.alloc (.cells #[.pointer (some ⟨b,0,none⟩)] 117):=⟨_,rfl⟩;obtain⟨w2,hw2⟩ :∃w2,w2=w1.alloc (.cells #[.int .i64 op] 3):=⟨_,rfl⟩;have f1:aw O w w1:=by rw[ee];exact(aw.refl _ _).alloc _
 have f2:aw O w1 w2:=by rw[hw2];exact(aw.refl _ _).alloc _
 have z1:w1.heap.size=w.heap.size+1:=by rw[ee,ao]
 have b1:eG w1 O w.heap.size #[.pointer (some ⟨b,0,none⟩)] 117:=by rw[ee];exact eG.new w O hO _ _
 have b2:eG w2 O (w.heap.size+1) #[.int .i64 op] 3:=by rw[hw2,←z1];exact eG.new w1 O (fun k hk=>by have:=hO k hk;omega) _ _
 have wO:One w2 b O (.func (.func 203) #[] #[.pointer (some ⟨w.heap.size,0,none⟩),.pointer (some ⟨w.heap.size+1,0,none⟩)]) wp:=by
  intro W1 O1 T ts K E hf he hp hk;refine⟨203,_,_,rfl,enters_of Tryz.func203 (by kernel_rfl) rfl,?_⟩
  exact PY op h0 h1 hB b _ _ O1 ts T K E W1 hp ((b1.later f2 (Ext.refl _ _)).later hf he) (b2.later hf he) hk
 have HK:=aa (Cp b O 203 _ _ wp w2 wO fun k hk=>by have:=hO k hk;have:=f1.size;have:=f2.size;omega)
 have HB:Hid (Below w.heap.size w w2):=aa (by rw[hw2,ee];exact((Below.refl _ _).alloc (ag _) _).alloc (by simp) _)
 rw[hw2,ee] at HK HB;clear ee hw2 f1 f2 z1 b1 b2 wO hB h0 h1;go_enter Tryz.func186,Tryz.ntmps186
 go_wp2_with fail
 refine HK.out.mono ?_;rintro e w1 ⟨v,rfl,b1,h2,f,first,cap,rfl⟩
 have H2:=aa h2;have B1:=aa (ax HB.out b1);clear h2 b1;go_wp2_with fail
 go_ret
 exact⟨f,first,cap,rfl,B1.out,H2.out⟩
def Cs (rt:Int→iS) (l:Int):Nat→Ast→List ak→Nat→(Ast→List ak→Prop)→(Int→Prop)→Prop
 | 0,_,_,_,_,_=>False
 | k+1,a,ts,n,K,E=>∃t r,ts=t::r∧(KC (eH t)≤l→K a ts) ∧
  (¬ KC (eH t)≤l→aK [aB,dy (rt (eH t))] ⟨⟨12,t.2.1,eH t,0,⟨#[]⟩,[],[]⟩,[a],ts,n+a.size⟩ (bU fun a' aA=>Cs rt l k a' aA n K E) E)
theorem Ej (t:ak):0≤eH t∧eH t≤19:=by
 cases h:mF t with
 | none=>rw[yg h];decide
 | some o=>have:=mi h;omega
theorem Uy {od:iS} {rt:Int→iS} (hO:pN 183 od) (l:Int) (hR :∀op,1≤op→op≤19→su 162 (wP op) (rt op)) (hl:0≤l):su 162 l fun ts n K E=>od ts n (fun a fG=>∃m,Cs rt l m a fG n K E) E:=by
 intro b O ts T0 K E w hp hk;have HA:=aa (hO b O ts T0 _ E w hp hk);have HR:=aa hR;have HL:=aa hl;clear hO hp hk hR hl;go_enter Tryz.func162,Tryz.ntmps162
 go_wp2_with fail
 refine HA.out.mono ?_;intro e w1 h1;have F1:=aa h1.1;rcases h1.2 with ⟨p,a,fG,O1,T1,rfl,p1,x1,l1,k1⟩ | ⟨le,v,er,rfl,⟨g',rfl,m2,m3⟩,k1⟩
 ·obtain⟨m,k1⟩:=k1
  have P1:=aa p1;have X1:=aa x1;have L1:=aa l1;have K1:=aa k1;clear h1 p1 x1 l1 k1;go_wp2_with fail
  go_loopg [6,7] (m+1) (fun z lv ev wr=>(∃(p:Nat) (a:Ast) (tr:List ak) (Or:Nat→Prop) (Tr:List Nd) (k:Nat),lv=.int .i64 (p:Int)∧ev=.nilIface∧z=k+1∧PS wr b Or tr Tr∧aw O w wr∧Ext O Or w∧ez T0 Tr [a] [(p:Int)]∧Cs rt l k a tr T0.length K E) ∨
   (∃(le:Int) (g':Nat),ev=.iface 82 (.pointer (some ⟨g',0,none⟩))∧w.heap.size≤g'∧wr.heap[g']? = some (.cells #[.int .i64 6,.int .i64 le] 86 (0,0))∧aw O w wr∧E le))
  case atStart=>exact .inl ⟨p,a,fG,O1,T1,m,rfl,rfl,rfl,P1.out,F1.out,X1.out,L1.out,K1.out⟩
  case round =>
   rcases hrel with ⟨p,a,tr,Or,Tr,k,rfl,rfl,rfl,pr,fr,xr,lr,kr⟩ | ⟨le,g',rfl,hg,m3,fr,ke⟩
   ·cases k with
    | zero=>exact kr.elim
    | succ k =>
     obtain⟨t,r,rfl,hle,Rf⟩:=kr;have PR:=aa pr;have FR:=aa fr;have XR:=aa xr;have LR:=aa lr;have HW:=aa (bL b Or t r Tr wr pr);have xI:=aa (fun W=>PQ t W)
     have hbr:=Ej t;have HST:=aa (fun W=>vP (eH t) W hbr.1 (by omega))
     have HRP:Hid (¬ KC (eH t)≤l→1≤eH t):=aa fun h=>by
      have h0:eH t≠0:=fun e=>h (by rw[e];exact HL.out)
      omega
     have HLE:=aa hle;have HGT:=aa Rf;have abz:=aa hbr.2;clear pr fr xr lr hle Rf hbr F1 P1 X1 L1 K1 HA;generalize hY:ah t=Y at *;generalize hop:eH t=op at *;generalize hst:KC op=st at *;clear hY hop;have HSE:=aa hst;clear hst;by_cases hc:st≤l
     ·have g1:decide (st≤l)=true:=bN hc
      have HC:=aa hc;clear hc;go_wp2_with fail
      refine HW.out.mono ?_;rintro e w2 ⟨rfl,b2⟩;have B2:=aa b2;clear b2;go_wp2_with fail
      refine(xI.out _).mono ?_;rintro e w3 ⟨rfl,rfl⟩;go_wp2_with fail
      refine(HST.out _).mono ?_;rintro e w3 ⟨rfl,rfl⟩;go_wp2_with fail
      go_ret2
      exact⟨FR.out.trans (aw.af (O:=Or) B2.out) XR.out,.inl ⟨p,a,t::r,Or,Tr,rfl,PR.out.below B2.out,XR.out,LR.out,HLE.out HC.out⟩⟩
     ·have g1:decide (st≤l)=false:=bM hc
      have HC:=aa hc;clear hc;go_wp2_with fail
      refine HW.out.mono ?_;rintro e w2 ⟨rfl,b2⟩;have B2:=aa b2;clear b2;go_wp2_with fail
      refine(xI.out _).mono ?_;rintro e w3 ⟨rfl,rfl⟩;go_wp2_with fail
      refine(HST.out _).mono ?_;rintro e w3 ⟨rfl,rfl⟩;have p2:=PR.out.below B2.out;have P2:=aa p2;have hown2 :∀k,Or k→k<w3.heap.size:=fun k hk=>(p2.own k hk).2
      have hb2:b<w3.heap.size:=(p2.own b p2.at_).2;have HV:=aa (GF op (by have:=HRP.out HC.out;omega) (by have:=abz.out;omega) (HR.out op (HRP.out HC.out) abz.out) b (fun k=>Or k∨k=w3.heap.size) (w3.alloc (.cells #[.int .i64 (p:Int)] 3)) (fun k hk=>by
       rcases hk with hk|hk
       ·have:=hown2 k hk;simp;omega
       ·simp;omega))
      have HO2:=aa hown2;clear p2 hown2;go_wp2_with fail
      refine HV.out.mono ?_;rintro e w4 ⟨fi,fa,fc,rfl,b4,h4⟩;have hg4:w4.heap[w3.heap.size]? = some (.cells #[.int .i64 (p:Int)] 3 (0,0)):=(b4.block w3.heap.size (by simp)).trans (World.alloc_heap_new w3 _)
      have B4:=aa (ax (aX w3 _) b4);have p4:=P2.out.below B4.out;have HN:=aa (PE w4 w3.heap.size p a p4 hg4 (fun h=>by have:=HO2.out _ h;omega) (by omega) LR.out ⟨12,0,op,0,⟨#[]⟩,[],[]⟩ rfl [aZ 55 b,.func (.func fi) fa fc] [aB,dy (rt op)] (by simp) ⟨bc w4 b _,h4,trivial⟩ (HGT.out HC.out))
      have F4:=aa ((FR.out.trans (aw.af (O:=Or) B2.out) XR.out).trans (aw.af (O:=Or) B4.out) XR.out);have X4:Hid (Ext O (fun k=>Or k∨k=w3.heap.size) w):=aa fun k hk=>by
       rcases hk with hk|rfl
       ·exact XR.out k hk
       ·exact .inr (aL FR.out.size B2.out.size)
      clear hg4 p4 b4 h4 xI HST HRP HV HO2;go_wp2_with fail
      refine HN.out.mono ?_;intro e w5 h5;have F5:=aa (F4.out.trans h5.1 X4.out);rcases h5.2 with ⟨p5,a5,ZN,O5,T5,rfl,q5,x5,l5,k5⟩ | ⟨le,v,er,rfl,⟨g',rfl,m2,m3⟩,k5⟩
      ·have Q5:=aa q5
       have X5:=aa (X4.out.trans x5 F4.out.size);have L5:=aa l5;have K5:=aa k5;clear h5 q5 x5 l5 k5;go_wp2_with fail
       go_roundg (k+1)
       case measure=>omega
       case rel=>exact .inl ⟨p5,a5,ZN,O5,T5,k,rfl,rfl,rfl,Q5.out,F5.out,X5.out,L5.out,K5.out⟩
      ·have M3:=aa m3
       have M2:=aa (aL F4.out.size m2);have K5:=aa k5;clear h5 m2 m3 k5;go_wp2_with fail
       go_roundg (k+1)
       case measure=>omega
       case rel=>exact .inr ⟨le,g',rfl,M2.out,M3.out,F5.out,K5.out⟩
   ·have M3:=aa m3
    have HG:=aa hg;have FR:=aa fr;have KE:=aa ke;clear m3 hg fr ke;go_wp2_with fail
    go_ret2
    exact⟨FR.out,.inr ⟨le,_,_,rfl,⟨g',rfl,HG.out,M3.out⟩,KE.out⟩⟩
 ·have M3:=aa m3
  have M2:=aa m2;have K1:=aa k1;clear h1 m2 m3 k1;go_wp2_with fail
  go_loopg [6,7] 1 (fun z lv ev wr=>lv=v∧ev=.iface 82 (.pointer (some ⟨g',0,none⟩))∧wr=w1)
  case atStart=>exact⟨rfl,rfl,rfl⟩
  case round =>
   obtain⟨rfl,rfl,rfl⟩:=hrel;go_wp2_with fail
   go_ret2
   exact⟨F1.out,.inr ⟨le,_,_,rfl,⟨g',rfl,M2.out,M3.out⟩,K1.out⟩⟩
theorem zB {wp:iS} (hB:su 162 0 wp):pN 131 wp:=by
 intro b O ts T K E w hp hk;have HN:=aa (hB b O ts T K E w hp hk);clear hp hk hB;go_enter Tryz.func131,Tryz.ntmps131
 go_wp2_with fail
 refine HN.out.mono ?_;intro e wz hz;obtain⟨v,er,rfl⟩:=hz.ret;have HZ:=aa hz;clear hz;go_wp2_with fail
 go_ret2
 exact HZ.out
theorem qY {b:Nat} {O:Nat→Prop} {t:ak} {ts:List ak} {T:List Nd} {K:Ast→List ak→Prop} {E:Int→Prop} (w w2:World) (g:Nat) (hg:g=w2.heap.size) (hp:PS w2 b O (t::ts) T) (hf:aw O w w2) (x:Nd) (hx:x=⟨x.kind,0,x.op,x.num,x.s,[],[]⟩) (vs:List Value) (cN:List bW) (hl:vs.length≤100) (hall:jO w2 b O vs cN)
  (hk:aK cN ⟨{ x with line:=t.2.1},[],t::ts,T.length⟩ (bU K) E):Calls Tryz.prog 23 #[.pointer (some ⟨b,0,none⟩),cZ x (.slice none 0 0) (.slice none 0 0),.slice (some ⟨g,0,none⟩) vs.length vs.length] (w2.alloc (.cells vs.toArray 123)) (aF b O T (RK K E) w):=by
 subst hg;exact cC w w2 hp hf x hx vs cN hl hall hk
set_option maxRecDepth 40000 in
theorem Uz (b:Nat) (O:Nat→Prop) (t:ak) (ts:List ak) (T:List Nd) (K:Ast→List ak→Prop) (E:Int→Prop) (w:World) (hp:PS w b O (t::ts) T) (h3:t.1=3)
  (hk:aK [aB] ⟨⟨4,t.2.1,0,t.2.2.1,⟨#[]⟩,[],[]⟩,[],t::ts,T.length⟩ (bU K) E) :
  Calls Tryz.prog 183 #[.pointer (some ⟨b,0,none⟩)] w (aF b O T (RK K E) w):=by
 obtain⟨t0,t1,t2,t3⟩:=t;have HA:=aa (cB b O (t0,t1,t2,t3) ts T w hp);unfold fW at HA;dsimp only at *
 have q3:(t0 == 3)=true:=xd.2 h3;have HK:=aa hk;have P:=aa hp;clear hp hk h3;generalize hS:bG t3=S at *;clear hS;go_enter Tryz.func183,Tryz.ntmps183
 go_wp2_with fail
 refine HA.out.mono ?_;rintro e w1 ⟨rfl,b1⟩;have BL:=aa (ax b1 (aX w1 (.cells #[.int .i64 t0,.int .i64 t1,.int .i64 t2,.string S] 114)));have FL:=aa (aw.af (O:=O) BL.out);have sw:=aa (P.out.below BL.out);clear b1;have HN:=aa (qY w (w1.alloc (.cells #[.int .i64 t0,.int .i64 t1,.int .i64 t2,.string S] 114)) (w1.heap.size+1) (by simp) sw.out FL.out ⟨4,0,0,t2,⟨#[]⟩,[],[]⟩ rfl [aZ 55 b] [aB] (by simp) ⟨bc _ b O,trivial⟩ HK.out)
 go_wp2_with fail
 refine HN.out.mono ?_;intro e wz hz;obtain⟨v,er,rfl⟩:=hz.ret;have HZ:=aa hz;clear hz;go_wp2_with fail
 go_ret2
 exact HZ.out
set_option maxRecDepth 40000 in
theorem UB (b:Nat) (O:Nat→Prop) (t:ak) (ts:List ak) (T:List Nd) (K:Ast→List ak→Prop) (E:Int→Prop) (w:World) (hp:PS w b O (t::ts) T) (h3:t.1≠3) (h4:t.1=4)
  (hk:aK [aB] ⟨⟨5,t.2.1,0,0,bG t.2.2.2,[],[]⟩,[],t::ts,T.length⟩ (bU K) E) :
  Calls Tryz.prog 183 #[.pointer (some ⟨b,0,none⟩)] w (aF b O T (RK K E) w):=by
 obtain⟨t0,t1,t2,t3⟩:=t;have HA:=aa (cB b O (t0,t1,t2,t3) ts T w hp);unfold fW at HA;dsimp only at *
 have q3:(t0 == 3)=false:=aC.2 h3;have q4:(t0 == 4)=true:=xd.2 h4;have HK:=aa hk;have P:=aa hp;clear hp hk h3 h4;generalize hS:bG t3=S at *;clear hS;go_enter Tryz.func183,Tryz.ntmps183
 go_wp2_with fail
 refine HA.out.mono ?_;rintro e w1 ⟨rfl,b1⟩;have BL:=aa (ax b1 (aX w1 (.cells #[.int .i64 t0,.int .i64 t1,.int .i64 t2,.string S] 114)));have FL:=aa (aw.af (O:=O) BL.out);have sw:=aa (P.out.below BL.out);clear b1;have HN:=aa (qY w (w1.alloc (.cells #[.int .i64 t0,.int .i64 t1,.int .i64 t2,.string S] 114)) (w1.heap.size+1) (by simp) sw.out FL.out ⟨5,0,0,0,S,[],[]⟩ rfl [aZ 55 b] [aB] (by simp) ⟨bc _ b O,trivial⟩ HK.out)
 go_wp2_with fail
 refine HN.out.mono ?_;intro e wz hz;obtain⟨v,er,rfl⟩:=hz.ret;have HZ:=aa hz;clear hz;go_wp2_with fail
 go_ret2
 exact HZ.out
theorem pQ {s:List UInt8} {t:ak} (h:av s t=true):t.1≠3:=by rcases aO h with ⟨l,n,rfl⟩ | ⟨l,n,rfl⟩<;>(intro e;simp at e)
theorem jb {s:List UInt8} {t:ak} (h:av s t=true):t.1≠4:=by rcases aO h with ⟨l,n,rfl⟩ | ⟨l,n,rfl⟩<;>(intro e;simp at e)
theorem Ek {t:ak} (h:fm t≠0):20≤fm t∧fm t≤23:=by
 cases hu:lX t with
 | none=>exact absurd (by unfold fm;rw[hu]) h
 | some o=>rw[show fm t=o by unfold fm;rw[hu]];exact zq hu
set_option maxRecDepth 40000 in
theorem UC {rt:Int→iS} (hR :∀op,20≤op→op≤23→su 162 (wP op) (rt op)) (b:Nat) (O:Nat→Prop) (t:ak) (ts:List ak) (T:List Nd) (K:Ast→List ak→Prop) (E:Int→Prop) (w:World) (hp:PS w b O (t::ts) T) (h3:t.1≠3) (h4:t.1≠4) (hu:fm t≠0)
  (hk:aK [aB,dy (rt (fm t))] ⟨⟨13,t.2.1,fm t,0,⟨#[]⟩,[],[]⟩,[],t::ts,T.length⟩ (bU K) E) :
  Calls Tryz.prog 183 #[.pointer (some ⟨b,0,none⟩)] w (aF b O T (RK K E) w):=by
 obtain⟨t0,t1,t2,t3⟩:=t;have HA:=aa (cB b O (t0,t1,t2,t3) ts T w hp);have HW:=aa (fun W hW=>bL b O (t0,t1,t2,t3) ts T W hW)
 unfold fW at HA;dsimp only at *
 have q3:(t0 == 3)=false:=aC.2 h3;have q4:(t0 == 4)=false:=aC.2 h4;have HU:=aa (fun W=>ku (t0,t1,t2,t3) W)
 have hr:=Ek hu;have HRR:=aa (hR _ hr.1 hr.2);have HRG:=aa hr;have qu:(fm (t0,t1,t2,t3) != 0)=true:=oO.2 hu;have HK:=aa hk;generalize hop:fm (t0,t1,t2,t3)=op at *;generalize hY:ah (t0,t1,t2,t3)=Y at *;have P:=aa hp;clear hp hk h3 h4 hu hr hop hY hR;generalize hS:bG t3=S at *;clear hS;go_enter Tryz.func183,Tryz.ntmps183
 go_wp2_with fail
 refine HA.out.mono ?_;rintro e w1 ⟨rfl,b1⟩;have BL:=aa (ax b1 (aX w1 (.cells #[.int .i64 t0,.int .i64 t1,.int .i64 t2,.string S] 114)));have FL:=aa (aw.af (O:=O) BL.out);have sw:=aa (P.out.below BL.out);clear b1;have ji:=aa (HW.out _ sw.out);clear HW;go_wp2_with fail
 refine ji.out.mono ?_;rintro e w2 ⟨rfl,b2⟩;have F2:=aa (FL.out.trans (aw.af (O:=O) b2) (Ext.refl _ _));have P2:=aa (sw.out.below b2);clear b2;go_wp2_with fail
 refine(HU.out _).mono ?_;rintro e w3 ⟨rfl,rfl⟩;have F3:=F2;have P3:=P2;have C5 :∀k,O k→k<w3.heap.size:=fun k hk=>(P3.out.own k hk).2
 have V4:=aa (GF op (by have:=HRG.out;omega) HRG.out.2 HRR.out b O w3 C5)
 clear C5;go_wp2_with fail
 refine V4.out.mono ?_;rintro e w4 ⟨f4,a4,c4,rfl,b4,h4⟩;have F4:=aa (F3.out.trans (aw.af (O:=O) b4) (Ext.refl _ _));have P4:=aa (P3.out.below b4);have H4:=aa h4;clear b4 h4 V4;have HN:=aa (cC w w4 P4.out F4.out ⟨13,0,op,0,⟨#[]⟩,[],[]⟩ rfl [aZ 55 b,.func (.func f4) a4 c4] [aB,dy (rt op)] (by simp) ⟨bc w4 b O,H4.out,trivial⟩ HK.out)
 go_wp2_with fail
 refine HN.out.mono ?_;intro e wz hz;obtain⟨v,er,rfl⟩:=hz.ret;have HZ:=aa hz;clear hz;go_wp2_with fail
 go_ret2
 exact HZ.out
set_option maxRecDepth 40000 in
theorem UD (b:Nat) (O:Nat→Prop) (t:ak) (ts:List ak) (T:List Nd) (K:Ast→List ak→Prop) (E:Int→Prop) (w:World) (hp:PS w b O (t::ts) T) (hq:av tw t=true)
  (hk:aK [aB] ⟨dz 1 t.2.1,[],t::ts,T.length⟩ (bU K) E) :
  Calls Tryz.prog 183 #[.pointer (some ⟨b,0,none⟩)] w (aF b O T (RK K E) w):=by
 obtain⟨t0,t1,t2,t3⟩:=t;have h3:=pQ hq;have h4:=jb hq;have hu:fm (t0,t1,t2,t3)=0:=by rcases aO hq with ⟨l,n,e1⟩ | ⟨l,n,e1⟩<;>(rw[e1];rfl)
 have HA:=aa (cB b O (t0,t1,t2,t3) ts T w hp);have HW:=aa (fun W hW=>bL b O (t0,t1,t2,t3) ts T W hW)
 unfold fW at HA;dsimp only at *
 have q3:(t0 == 3)=false:=aC.2 h3;have q4:(t0 == 4)=false:=aC.2 h4;have HU:=aa (fun W=>ku (t0,t1,t2,t3) W)
 rw[hu] at HU;have g0:((ah (t0,t1,t2,t3)).toList == [110,105,108])=true:=ai (s:=tw) (by decide) _ hq
 have HK:=aa hk;generalize hY:ah (t0,t1,t2,t3)=Y at *;have P:=aa hp;clear hp hk h3 h4 hu hY hq;generalize hS:bG t3=S at *;clear hS;go_enter Tryz.func183,Tryz.ntmps183
 go_wp2_with fail
 refine HA.out.mono ?_;rintro e w1 ⟨rfl,b1⟩;have BL:=aa (ax b1 (aX w1 (.cells #[.int .i64 t0,.int .i64 t1,.int .i64 t2,.string S] 114)));have FL:=aa (aw.af (O:=O) BL.out);have sw:=aa (P.out.below BL.out);clear b1;have ji:=aa (HW.out _ sw.out);go_wp2_with fail
 refine ji.out.mono ?_;rintro e w2 ⟨rfl,b2⟩;have F2:=aa (FL.out.trans (aw.af (O:=O) b2) (Ext.refl _ _));have P2:=aa (sw.out.below b2);clear b2;go_wp2_with fail
 refine(HU.out _).mono ?_;rintro e w3 ⟨rfl,rfl⟩;have lE:=aa (HW.out _ P2.out);go_wp2_with fail
 refine lE.out.mono ?_;rintro e w4 ⟨rfl,b4⟩;have F4:=aa (F2.out.trans (aw.af (O:=O) b4) (Ext.refl _ _));have P4:=aa (P2.out.below b4);clear b4 HW ji lE HU;have HN:=aa (cC w w4 P4.out F4.out (mJ 1) rfl [aZ 55 b] [aB] (by simp) ⟨bc w4 b O,trivial⟩ HK.out)
 go_wp2_with fail
 refine HN.out.mono ?_;intro e wz hz;obtain⟨v,er,rfl⟩:=hz.ret;have HZ:=aa hz;clear hz;go_wp2_with fail
 go_ret2
 exact HZ.out
set_option maxRecDepth 40000 in
theorem PZ (b:Nat) (O:Nat→Prop) (t:ak) (ts:List ak) (T:List Nd) (K:Ast→List ak→Prop) (E:Int→Prop) (w:World) (hp:PS w b O (t::ts) T) (hq:av nx t=true)
  (hk:aK [aB] ⟨dz 2 t.2.1,[],t::ts,T.length⟩ (bU K) E) :
  Calls Tryz.prog 183 #[.pointer (some ⟨b,0,none⟩)] w (aF b O T (RK K E) w):=by
 obtain⟨t0,t1,t2,t3⟩:=t;have h3:=pQ hq;have h4:=jb hq;have hu:fm (t0,t1,t2,t3)=0:=by rcases aO hq with ⟨l,n,e1⟩ | ⟨l,n,e1⟩<;>(rw[e1];rfl)
 have HA:=aa (cB b O (t0,t1,t2,t3) ts T w hp);have HW:=aa (fun W hW=>bL b O (t0,t1,t2,t3) ts T W hW)
 unfold fW at HA;dsimp only at *
 have q3:(t0 == 3)=false:=aC.2 h3;have q4:(t0 == 4)=false:=aC.2 h4;have HU:=aa (fun W=>ku (t0,t1,t2,t3) W)
 rw[hu] at HU;have g0:((ah (t0,t1,t2,t3)).toList == [110,105,108])=false:=ai (s:=tw) (by decide) _ (bn hq (by decide))
 have g1:((ah (t0,t1,t2,t3)).toList == [116,114,117,101])=true:=ai (s:=nx) (by decide) _ hq
 have HK:=aa hk;generalize hY:ah (t0,t1,t2,t3)=Y at *;have P:=aa hp;clear hp hk h3 h4 hu hY hq;generalize hS:bG t3=S at *;clear hS;go_enter Tryz.func183,Tryz.ntmps183
 go_wp2_with fail
 refine HA.out.mono ?_;rintro e w1 ⟨rfl,b1⟩;have BL:=aa (ax b1 (aX w1 (.cells #[.int .i64 t0,.int .i64 t1,.int .i64 t2,.string S] 114)));have FL:=aa (aw.af (O:=O) BL.out);have sw:=aa (P.out.below BL.out);clear b1;have ji:=aa (HW.out _ sw.out);go_wp2_with fail
 refine ji.out.mono ?_;rintro e w2 ⟨rfl,b2⟩;have F2:=aa (FL.out.trans (aw.af (O:=O) b2) (Ext.refl _ _));have P2:=aa (sw.out.below b2);clear b2;go_wp2_with fail
 refine(HU.out _).mono ?_;rintro e w3 ⟨rfl,rfl⟩;have lE:=aa (HW.out _ P2.out);go_wp2_with fail
 refine lE.out.mono ?_;rintro e w4 ⟨rfl,b4⟩;have F4:=aa (F2.out.trans (aw.af (O:=O) b4) (Ext.refl _ _));have P4:=aa (P2.out.below b4);clear b4 HW ji lE HU;have HN:=aa (cC w w4 P4.out F4.out (mJ 2) rfl [aZ 55 b] [aB] (by simp) ⟨bc w4 b O,trivial⟩ HK.out)
 go_wp2_with fail
 refine HN.out.mono ?_;intro e wz hz;obtain⟨v,er,rfl⟩:=hz.ret;have HZ:=aa hz;clear hz;go_wp2_with fail
 go_ret2
 exact HZ.out
set_option maxRecDepth 40000 in
theorem JL (b:Nat) (O:Nat→Prop) (t:ak) (ts:List ak) (T:List Nd) (K:Ast→List ak→Prop) (E:Int→Prop) (w:World) (hp:PS w b O (t::ts) T) (hq:av kE t=true)
  (hk:aK [aB] ⟨dz 3 t.2.1,[],t::ts,T.length⟩ (bU K) E) :
  Calls Tryz.prog 183 #[.pointer (some ⟨b,0,none⟩)] w (aF b O T (RK K E) w):=by
 obtain⟨t0,t1,t2,t3⟩:=t;have h3:=pQ hq;have h4:=jb hq;have hu:fm (t0,t1,t2,t3)=0:=by rcases aO hq with ⟨l,n,e1⟩ | ⟨l,n,e1⟩<;>(rw[e1];rfl)
 have HA:=aa (cB b O (t0,t1,t2,t3) ts T w hp);have HW:=aa (fun W hW=>bL b O (t0,t1,t2,t3) ts T W hW)
 unfold fW at HA;dsimp only at *
 have q3:(t0 == 3)=false:=aC.2 h3;have q4:(t0 == 4)=false:=aC.2 h4;have HU:=aa (fun W=>ku (t0,t1,t2,t3) W)
 rw[hu] at HU;have g0:((ah (t0,t1,t2,t3)).toList == [110,105,108])=false:=ai (s:=tw) (by decide) _ (bn hq (by decide))
 have g1:((ah (t0,t1,t2,t3)).toList == [116,114,117,101])=false:=ai (s:=nx) (by decide) _ (bn hq (by decide))
 have g2:((ah (t0,t1,t2,t3)).toList == [102,97,108,115,101])=true:=ai (s:=kE) (by decide) _ hq
 have HK:=aa hk;generalize hY:ah (t0,t1,t2,t3)=Y at *;have P:=aa hp;clear hp hk h3 h4 hu hY hq;generalize hS:bG t3=S at *;clear hS;go_enter Tryz.func183,Tryz.ntmps183
 go_wp2_with fail
 refine HA.out.mono ?_;rintro e w1 ⟨rfl,b1⟩;have BL:=aa (ax b1 (aX w1 (.cells #[.int .i64 t0,.int .i64 t1,.int .i64 t2,.string S] 114)));have FL:=aa (aw.af (O:=O) BL.out);have sw:=aa (P.out.below BL.out);clear b1;have ji:=aa (HW.out _ sw.out);go_wp2_with fail
 refine ji.out.mono ?_;rintro e w2 ⟨rfl,b2⟩;have F2:=aa (FL.out.trans (aw.af (O:=O) b2) (Ext.refl _ _));have P2:=aa (sw.out.below b2);clear b2;go_wp2_with fail
 refine(HU.out _).mono ?_;rintro e w3 ⟨rfl,rfl⟩;have lE:=aa (HW.out _ P2.out);go_wp2_with fail
 refine lE.out.mono ?_;rintro e w4 ⟨rfl,b4⟩;have F4:=aa (F2.out.trans (aw.af (O:=O) b4) (Ext.refl _ _));have P4:=aa (P2.out.below b4);clear b4 HW ji lE HU;have HN:=aa (cC w w4 P4.out F4.out (mJ 3) rfl [aZ 55 b] [aB] (by simp) ⟨bc w4 b O,trivial⟩ HK.out)
 go_wp2_with fail
 refine HN.out.mono ?_;intro e wz hz;obtain⟨v,er,rfl⟩:=hz.ret;have HZ:=aa hz;clear hz;go_wp2_with fail
 go_ret2
 exact HZ.out
set_option maxRecDepth 40000 in
theorem Qa (b:Nat) (O:Nat→Prop) (t:ak) (ts:List ak) (T:List Nd) (K:Ast→List ak→Prop) (E:Int→Prop) (w:World) (hp:PS w b O (t::ts) T) (hq:av [46,46,46] t=true)
  (hk:aK [aB] ⟨dz 6 t.2.1,[],t::ts,T.length⟩ (bU K) E) :
  Calls Tryz.prog 183 #[.pointer (some ⟨b,0,none⟩)] w (aF b O T (RK K E) w):=by
 obtain⟨t0,t1,t2,t3⟩:=t;have h3:=pQ hq;have h4:=jb hq;have hu:fm (t0,t1,t2,t3)=0:=by rcases aO hq with ⟨l,n,e1⟩ | ⟨l,n,e1⟩<;>(rw[e1];rfl)
 have HA:=aa (cB b O (t0,t1,t2,t3) ts T w hp);have HW:=aa (fun W hW=>bL b O (t0,t1,t2,t3) ts T W hW)
 unfold fW at HA;dsimp only at *
 have q3:(t0 == 3)=false:=aC.2 h3;have q4:(t0 == 4)=false:=aC.2 h4;have HU:=aa (fun W=>ku (t0,t1,t2,t3) W)
 rw[hu] at HU;have g0:((ah (t0,t1,t2,t3)).toList == [110,105,108])=false:=ai (s:=tw) (by decide) _ (bn hq (by decide))
 have g1:((ah (t0,t1,t2,t3)).toList == [116,114,117,101])=false:=ai (s:=nx) (by decide) _ (bn hq (by decide))
 have g2:((ah (t0,t1,t2,t3)).toList == [102,97,108,115,101])=false:=ai (s:=kE) (by decide) _ (bn hq (by decide))
 have g3:((ah (t0,t1,t2,t3)).toList == [46,46,46])=true:=ai (s:=[46,46,46]) (by decide) _ hq
 have HK:=aa hk;generalize hY:ah (t0,t1,t2,t3)=Y at *;have P:=aa hp;clear hp hk h3 h4 hu hY hq;generalize hS:bG t3=S at *;clear hS;go_enter Tryz.func183,Tryz.ntmps183
 go_wp2_with fail
 refine HA.out.mono ?_;rintro e w1 ⟨rfl,b1⟩;have BL:=aa (ax b1 (aX w1 (.cells #[.int .i64 t0,.int .i64 t1,.int .i64 t2,.string S] 114)));have FL:=aa (aw.af (O:=O) BL.out);have sw:=aa (P.out.below BL.out);clear b1;have ji:=aa (HW.out _ sw.out);go_wp2_with fail
 refine ji.out.mono ?_;rintro e w2 ⟨rfl,b2⟩;have F2:=aa (FL.out.trans (aw.af (O:=O) b2) (Ext.refl _ _));have P2:=aa (sw.out.below b2);clear b2;go_wp2_with fail
 refine(HU.out _).mono ?_;rintro e w3 ⟨rfl,rfl⟩;have lE:=aa (HW.out _ P2.out);go_wp2_with fail
 refine lE.out.mono ?_;rintro e w4 ⟨rfl,b4⟩;have F4:=aa (F2.out.trans (aw.af (O:=O) b4) (Ext.refl _ _));have P4:=aa (P2.out.below b4);clear b4 HW ji lE HU;have HN:=aa (cC w w4 P4.out F4.out (mJ 6) rfl [aZ 55 b] [aB] (by simp) ⟨bc w4 b O,trivial⟩ HK.out)
 go_wp2_with fail
 refine HN.out.mono ?_;intro e wz hz;obtain⟨v,er,rfl⟩:=hz.ret;have HZ:=aa hz;clear hz;go_wp2_with fail
 go_ret2
 exact HZ.out
set_option maxRecDepth 40000 in
theorem zC {bd:bW} (El:ey 141 bd) (b:Nat) (O:Nat→Prop) (t:ak) (ts:List ak) (T:List Nd) (K:Ast→List ak→Prop) (E:Int→Prop) (w:World) (hp:PS w b O (t::ts) T) (hq:av bo t=true)
  (hk:aK [aB,bd] ⟨dz 11 t.2.1,[],t::ts,T.length⟩ (bU K) E) :
  Calls Tryz.prog 183 #[.pointer (some ⟨b,0,none⟩)] w (aF b O T (RK K E) w):=by
 obtain⟨t0,t1,t2,t3⟩:=t;have h3:=pQ hq;have h4:=jb hq;have hu:fm (t0,t1,t2,t3)=0:=by rcases aO hq with ⟨l,n,e1⟩ | ⟨l,n,e1⟩<;>(rw[e1];rfl)
 have HA:=aa (cB b O (t0,t1,t2,t3) ts T w hp);have HW:=aa (fun W hW=>bL b O (t0,t1,t2,t3) ts T W hW)
 unfold fW at HA;dsimp only at *
 have q3:(t0 == 3)=false:=aC.2 h3;have q4:(t0 == 4)=false:=aC.2 h4;have HU:=aa (fun W=>ku (t0,t1,t2,t3) W)
 rw[hu] at HU;have g0:((ah (t0,t1,t2,t3)).toList == [110,105,108])=false:=ai (s:=tw) (by decide) _ (bn hq (by decide))
 have g1:((ah (t0,t1,t2,t3)).toList == [116,114,117,101])=false:=ai (s:=nx) (by decide) _ (bn hq (by decide))
 have g2:((ah (t0,t1,t2,t3)).toList == [102,97,108,115,101])=false:=ai (s:=kE) (by decide) _ (bn hq (by decide))
 have g3:((ah (t0,t1,t2,t3)).toList == [46,46,46])=false:=ai (s:=[46,46,46]) (by decide) _ (bn hq (by decide))
 have g4:((ah (t0,t1,t2,t3)).toList == [102,117,110,99,116,105,111,110])=true:=ai (s:=bo) (by decide) _ hq
 have HK:=aa hk;generalize hY:ah (t0,t1,t2,t3)=Y at *;have P:=aa hp;clear hp hk h3 h4 hu hY hq;generalize hS:bG t3=S at *;clear hS;go_enter Tryz.func183,Tryz.ntmps183
 go_wp2_with fail
 refine HA.out.mono ?_;rintro e w1 ⟨rfl,b1⟩;have BL:=aa (ax b1 (aX w1 (.cells #[.int .i64 t0,.int .i64 t1,.int .i64 t2,.string S] 114)));have FL:=aa (aw.af (O:=O) BL.out);have sw:=aa (P.out.below BL.out);clear b1;have ji:=aa (HW.out _ sw.out);go_wp2_with fail
 refine ji.out.mono ?_;rintro e w2 ⟨rfl,b2⟩;have F2:=aa (FL.out.trans (aw.af (O:=O) b2) (Ext.refl _ _));have P2:=aa (sw.out.below b2);clear b2;go_wp2_with fail
 refine(HU.out _).mono ?_;rintro e w3 ⟨rfl,rfl⟩;have lE:=aa (HW.out _ P2.out);go_wp2_with fail
 refine lE.out.mono ?_;rintro e w4 ⟨rfl,b4⟩;have F4:=aa (F2.out.trans (aw.af (O:=O) b4) (Ext.refl _ _));have P4:=aa (P2.out.below b4);clear b4 HW ji lE HU;have HN:=aa (cC w w4 P4.out F4.out (mJ 11) rfl [aZ 55 b,aZ 141 b] [aB,bd] (by simp) ⟨bc w4 b O,El.part (enters_of Tryz.func141 (by kernel_rfl) rfl) w4 b O,trivial⟩ HK.out)
 go_wp2_with fail
 refine HN.out.mono ?_;intro e wz hz;obtain⟨v,er,rfl⟩:=hz.ret;have HZ:=aa hz;clear hz;go_wp2_with fail
 go_ret2
 exact HZ.out
set_option maxRecDepth 40000 in
theorem UE {it:bW} (Jw:ey 212 it) (b:Nat) (O:Nat→Prop) (t:ak) (ts:List ak) (T:List Nd) (K:Ast→List ak→Prop) (E:Int→Prop) (w:World) (hp:PS w b O (t::ts) T) (hq:av [123] t=true)
  (hk:aK [aB,dF [125] it,au [[125]]] ⟨dz 15 t.2.1,[],t::ts,T.length⟩ (bU K) E) :
  Calls Tryz.prog 183 #[.pointer (some ⟨b,0,none⟩)] w (aF b O T (RK K E) w):=by
 obtain⟨t0,t1,t2,t3⟩:=t;have h3:=pQ hq;have h4:=jb hq;have hu:fm (t0,t1,t2,t3)=0:=by rcases aO hq with ⟨l,n,e1⟩ | ⟨l,n,e1⟩<;>(rw[e1];rfl)
 have HA:=aa (cB b O (t0,t1,t2,t3) ts T w hp);have HW:=aa (fun W hW=>bL b O (t0,t1,t2,t3) ts T W hW)
 unfold fW at HA;dsimp only at *
 have q3:(t0 == 3)=false:=aC.2 h3;have q4:(t0 == 4)=false:=aC.2 h4;have HU:=aa (fun W=>ku (t0,t1,t2,t3) W)
 rw[hu] at HU;have g0:((ah (t0,t1,t2,t3)).toList == [110,105,108])=false:=ai (s:=tw) (by decide) _ (bn hq (by decide))
 have g1:((ah (t0,t1,t2,t3)).toList == [116,114,117,101])=false:=ai (s:=nx) (by decide) _ (bn hq (by decide))
 have g2:((ah (t0,t1,t2,t3)).toList == [102,97,108,115,101])=false:=ai (s:=kE) (by decide) _ (bn hq (by decide))
 have g3:((ah (t0,t1,t2,t3)).toList == [46,46,46])=false:=ai (s:=[46,46,46]) (by decide) _ (bn hq (by decide))
 have g4:((ah (t0,t1,t2,t3)).toList == [102,117,110,99,116,105,111,110])=false:=ai (s:=bo) (by decide) _ (bn hq (by decide))
 have g5:((ah (t0,t1,t2,t3)).toList == [123])=true:=ai (s:=[123]) (by decide) _ hq
 have HK:=aa hk;generalize hY:ah (t0,t1,t2,t3)=Y at *;have P:=aa hp;clear hp hk h3 h4 hu hY hq;generalize hS:bG t3=S at *;clear hS;go_enter Tryz.func183,Tryz.ntmps183
 go_wp2_with fail
 refine HA.out.mono ?_;rintro e w1 ⟨rfl,b1⟩;have BL:=aa (ax b1 (aX w1 (.cells #[.int .i64 t0,.int .i64 t1,.int .i64 t2,.string S] 114)));have FL:=aa (aw.af (O:=O) BL.out);have sw:=aa (P.out.below BL.out);clear b1;have ji:=aa (HW.out _ sw.out);go_wp2_with fail
 refine ji.out.mono ?_;rintro e w2 ⟨rfl,b2⟩;have F2:=aa (FL.out.trans (aw.af (O:=O) b2) (Ext.refl _ _));have P2:=aa (sw.out.below b2);clear b2;go_wp2_with fail
 refine(HU.out _).mono ?_;rintro e w3 ⟨rfl,rfl⟩;have lE:=aa (HW.out _ P2.out);go_wp2_with fail
 refine lE.out.mono ?_;rintro e w4 ⟨rfl,b4⟩;have F4:=aa (F2.out.trans (aw.af (O:=O) b4) (Ext.refl _ _));have P4:=aa (P2.out.below b4);clear b4 HW ji lE HU;have HN:=aa ((Ut Jw b O _ ts T K E w4 P4.out HK.out).mono fun _ _ h=>h.after F4.out)
 go_wp2_with fail
 refine HN.out.mono ?_;intro e wz hz;obtain⟨v,er,rfl⟩:=hz.ret;have HZ:=aa hz;clear hz;go_wp2_with fail
 go_ret2
 exact HZ.out
structure Qb (t:ak):Prop where
 n3:t.1≠3
 n4:t.1≠4
 un:fm t=0
 a:av tw t=false
 b:av nx t=false
 c:av kE t=false
 d:av [46,46,46] t=false
 e:av bo t=false
 f:av [123] t=false
set_option maxRecDepth 40000 in
theorem UF {sf:iS} (hS:pN 142 sf) (b:Nat) (O:Nat→Prop) (t:ak) (ts:List ak) (T:List Nd) (K:Ast→List ak→Prop) (E:Int→Prop) (w:World) (hp:PS w b O (t::ts) T) (hq:Qb t)
  (hk:sf (t::ts) T.length K E) :
  Calls Tryz.prog 183 #[.pointer (some ⟨b,0,none⟩)] w (aF b O T (RK K E) w):=by
 obtain⟨t0,t1,t2,t3⟩:=t;have h3:=hq.n3;have h4:=hq.n4;have hu:=hq.un;have HA:=aa (cB b O (t0,t1,t2,t3) ts T w hp);have HW:=aa (fun W hW=>bL b O (t0,t1,t2,t3) ts T W hW)
 unfold fW at HA;dsimp only at *
 have q3:(t0 == 3)=false:=aC.2 h3;have q4:(t0 == 4)=false:=aC.2 h4;have HU:=aa (fun W=>ku (t0,t1,t2,t3) W)
 rw[hu] at HU;have g0:((ah (t0,t1,t2,t3)).toList == [110,105,108])=false:=ai (s:=tw) (by decide) _ hq.a
 have g1:((ah (t0,t1,t2,t3)).toList == [116,114,117,101])=false:=ai (s:=nx) (by decide) _ hq.b
 have g2:((ah (t0,t1,t2,t3)).toList == [102,97,108,115,101])=false:=ai (s:=kE) (by decide) _ hq.c
 have g3:((ah (t0,t1,t2,t3)).toList == [46,46,46])=false:=ai (s:=[46,46,46]) (by decide) _ hq.d
 have g4:((ah (t0,t1,t2,t3)).toList == [102,117,110,99,116,105,111,110])=false:=ai (s:=bo) (by decide) _ hq.e
 have g5:((ah (t0,t1,t2,t3)).toList == [123])=false:=ai (s:=[123]) (by decide) _ hq.f
 have HK:=aa hk;generalize hY:ah (t0,t1,t2,t3)=Y at *;have P:=aa hp;clear hp hk h3 h4 hu hY hq;generalize hS:bG t3=S at *;clear hS;go_enter Tryz.func183,Tryz.ntmps183
 go_wp2_with fail
 refine HA.out.mono ?_;rintro e w1 ⟨rfl,b1⟩;have BL:=aa (ax b1 (aX w1 (.cells #[.int .i64 t0,.int .i64 t1,.int .i64 t2,.string S] 114)));have FL:=aa (aw.af (O:=O) BL.out);have sw:=aa (P.out.below BL.out);clear b1;have ji:=aa (HW.out _ sw.out);go_wp2_with fail
 refine ji.out.mono ?_;rintro e w2 ⟨rfl,b2⟩;have F2:=aa (FL.out.trans (aw.af (O:=O) b2) (Ext.refl _ _));have P2:=aa (sw.out.below b2);clear b2;go_wp2_with fail
 refine(HU.out _).mono ?_;rintro e w3 ⟨rfl,rfl⟩;have lE:=aa (HW.out _ P2.out);go_wp2_with fail
 refine lE.out.mono ?_;rintro e w4 ⟨rfl,b4⟩;have F4:=aa (F2.out.trans (aw.af (O:=O) b4) (Ext.refl _ _));have P4:=aa (P2.out.below b4);clear b4 HW ji lE HU;have HN:=aa ((hS b O _ T K E w4 P4.out HK.out).mono fun _ _ h=>h.after F4.out)
 go_wp2_with fail
 refine HN.out.mono ?_;intro e wz hz;obtain⟨v,er,rfl⟩:=hz.ret;have HZ:=aa hz;clear hz;go_wp2_with fail
 go_ret2
 exact HZ.out
end Go.Proofs.YtodmcdfeldkocaaGreatDoor
