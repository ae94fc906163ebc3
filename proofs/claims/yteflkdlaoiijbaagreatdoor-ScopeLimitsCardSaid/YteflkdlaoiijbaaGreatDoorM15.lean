/- Parts of the proof. -/
import Derived.Test.YteflkdlaoiijbaaGreatDoorCards
import Derived.Test.YteflkdlaoiijbaaGreatDoorTie
import Derived.ProofKit
import Derived.LaidMore
import Derived.LaidHandle
import Derived.Lay
import Derived.OpenShut
import Derived.SizedLaws
import Derived.Stop.Joined
import Derived.Stop.LaidErr
import Derived.Lib.LaidTab
import Derived.Test.YteflkdlaoiijbaaGreatDoorM14
set_option maxHeartbeats 16000000
set_option maxRecDepth 20000
namespace Go.Proofs.YteflkdlaoiijbaaGreatDoor
open Go.RowKit
def ac8 (a:Ast) (w:World) (e:Ending) (w':World):Prop :=
 Below w.heap.size w w'∧∃(A:Option Addr) (n c:Nat) (q:Int) (r:Rs aF),RR (fun x y=>FR id x.fns y.fns) (lR a.lt) r∧match r with
  | .ok st=>∃sv B' N,w.heap.size≤B'∧e=.returned (.tuple #[.agg #[.slice A n c,.int .i64 q],sv,.int .i64 0])∧kz w' B' N sv st
  | .error x=>e=.returned (.tuple #[.agg #[.slice A n c,.int .i64 q],jO,.int .i64 x.1])
theorem Fw {s:ByteArray} {ts ax:List aj} {a:Ast} (hl:jQ (dc s) s.data.toList (.ok ts)) (hp:PL oM ts (.ok (a,ax))) (hA:Bw a) (hd:a.depth≤100) (w:World) (hs:s.size≤4000) (hE:nj w):Calls Tryz.prog 16 #[.string s] w (ac8 a w):=by
 refine(ac1 s w hs hE (TF hl hp hA)).mono ?_;rintro e w' ⟨hb,h⟩;refine⟨hb,?_⟩;rcases h with ⟨⟨o,ho,hn⟩,_⟩ | ⟨il,ac0,a2,v,T,p,t,⟨A,n,c,q,rfl⟩,hlx,_,hP,_,hst,hres⟩
 ·have e1:=hl.sA ho
  subst e1;obtain⟨q,hq,hn⟩:=hn;have e2:=hp.one hq;subst e2;exact absurd hd (by omega)
 ·have e1:=hl.sA hlx
  injection e1 with e1;subst e1;have e2:=hp.one hP;injection e2 with e2;injection e2 with e2 _;subst e2;have h1:=SC (ρ:=id) (fun _ _ h=>h) hst.sim
  refine⟨A,n,c,q,lR t,h1,?_⟩;revert hres
  cases lR t with
  | ok st=>exact fun⟨sv,B',h2,h3,h4⟩=>⟨sv,B',T.length,h2,h3,h4⟩
  | error x=>exact id
def Ph (r:Rs aF):Int×List (List Bool×List (Bool×Nat)) :=
 match r with
 | .ok st=>(0,st.fns.map fun x=>(x.vars.map mq.cap,x.cz.map fun u=>(u.loc,u.idx)))
 | .error x=>(x.1,[])
theorem frA {a b:List dr} (h:FR id a b) (i:Nat) {y:dr} (hy:b[i]? = some y) :∃x,a[i]? = some x∧FS id x y:=by
 have hl:=(aK.1 hy).1;have h2:=h.2 i;have h1:i<a.length:=by have:=h.1;omega
 refine⟨a[i],bX h1,?_⟩;rw[kB,kB,hy,bX h1] at h2;exact h2
theorem yI {a b:Rs aF} (h:RR (fun x y=>FR id x.fns y.fns) a b):Ph b=Ph a:=by
 cases a with
 | error x =>
  cases b with
  | error y=>have h:x.1=y.1:=h;show(y.1,[])=(x.1,[]);rw[h]
  | ok s=>exact h.elim
 | ok s =>
  cases b with
  | error y=>exact h.elim
  | ok s' =>
   have h:FR id s.fns s'.fns:=h;show(0,_)=(0,_)
   congr 1
   refine JX fun i=>?_
   rw[iA,iA];cases e:s'.fns[i]? with
   | none =>
    have h1:=JE.1 e;rw[vF (by have:=h.1;omega)]
   | some y =>
    obtain⟨x,hx,hs⟩:=frA h i e;rw[hx];have h3:y.vars.map mq.cap=x.vars.map mq.cap:=by
     have h3:=az (List.map Prod.snd) hs.vars;rw[zh,zh] at h3;exact h3
    show some (y.vars.map mq.cap,y.cz.map fun u=>(u.loc,u.idx))=some (x.vars.map mq.cap,x.cz.map fun u=>(u.loc,u.idx))
    rw[h3,hs.cz]
theorem DG (a:Ast):TH a=Ph (lR a.lt):=rfl
structure va (W:World) (g c gv cv gu cu:Nat):Prop where
 v0:W.cell? ⟨g,4,none⟩=some (.slice (some ⟨gv,0,none⟩) 1 cv)
 v1:W.cell? ⟨gv,2,none⟩=some (.bool true)
 u0:W.cell? ⟨g,11,none⟩=some (.slice (some ⟨gu,0,none⟩) 1 cu)
 u1:W.cell? ⟨gu,0,none⟩=some (.bool true)
 u2:W.cell? ⟨gu,1,none⟩=some (.int .i64 0)
theorem va.later {W W':World} {g c gv cv gu cu:Nat} (h:va W g c gv cv gu cu) (hb:Below W.heap.size W W'):va W' g c gv cv gu cu :=
 ⟨(hb.cell (p:=⟨g,4,none⟩) (block_lt_of_cell h.v0)).trans h.v0,(hb.cell (p:=⟨gv,2,none⟩) (block_lt_of_cell h.v1)).trans h.v1,(hb.cell (p:=⟨g,11,none⟩) (block_lt_of_cell h.u0)).trans h.u0,(hb.cell (p:=⟨gu,0,none⟩) (block_lt_of_cell h.u1)).trans h.u1,(hb.cell (p:=⟨gu,1,none⟩) (block_lt_of_cell h.u2)).trans h.u2⟩
theorem TI {W:World} {B N:Nat} {sv:Value} {st:aF} (h:kz W B N sv st) (hf:Ph (.ok st)=(0,[([true],[]),([],[(true,0)])])) :∃g c gv cv gu cu U O,sv=.agg #[.slice (some ⟨g,0,none⟩) 2 c,.slice (some ⟨U,0,none⟩) N N,.slice (some ⟨O,0,none⟩) N N]∧va W g c gv cv gu cu:=by
 obtain⟨fv,ub,ob,L,rfl,hF,ha,_,_⟩:=h;have hf:(0,st.fns.map fun x=>(x.vars.map mq.cap,x.cz.map fun u=>(u.loc,u.idx)))=((0:Int),[([true],[]),([],[(true,0)])]):=hf
 injection hf with _ hf;rw[←ha,zh] at hf;match L,hf with
 | [t0,t1],hf =>
  injection hf with h0 h1;injection h1 with h1 _;injection h0 with h0 _;injection h1 with _ h1;obtain⟨g,c,rfl,_,_,hc0⟩:=hF.form (f:=0) (t:=t0) rfl;obtain⟨g',c',e',_,_,hc1⟩:=hF.form (f:=1) (t:=t1) rfl;injection e' with e1 _ e2;injection e1 with e1;injection e1 with e1;subst e1 e2;have hv:=hF.vars t0 (bV ..);have hu:=hF.cz t1 (bY _ (bV ..));have hvl:t0.1.vars.length=1:=by have:=az List.length h0;simpa using this
  have pg:t1.1.cz.length=1:=by have:=az List.length h1;simpa using this
  match hvx:t0.1.vars,hvl with
  | [x],_ =>
   match hux:t1.1.cz,pg with
   | [y],_ =>
    rw[hvx] at hv h0;rw[hux] at hu h1;have hxc:x.cap=true:=by injection h0
    have hy:y.loc=true∧y.idx=0:=by injection h1 with h1 _;injection h1 with h2 h3;exact⟨h2,h3⟩
    obtain⟨A1,c1,e1,_,hA1⟩:=eA hv;obtain⟨A2,c2,e2,_,Zj⟩:=eA hu;rcases hA1 with hA1 | ⟨gv,rfl,_,_,hA1⟩
    ·exact absurd hA1 (by simp)
    rcases Zj with Zj | ⟨gu,rfl,_,_,Zj⟩
    ·exact absurd Zj (by simp)
    refine⟨g,c,gv,c1,gu,c2,ub,ob,rfl,?_,?_,?_,?_,?_⟩
    ·have:=(hc0 4 (by omega)).1
     rw[show(No t0)[4]? = some t0.2.1 from rfl,e1] at this
     exact this
    ·have:=hA1 2 (by simp)
     rw[show(([x]:List mq).flatMap sG)[2]? = some (.bool x.cap) from rfl,hxc] at this
     exact this
    ·have:=(hc1 5 (by omega)).1
     rw[show(No t1)[5]? = some t1.2.2 from rfl,e2] at this
     exact this
    ·have:=Zj 0 (by simp)
     rw[show(([y]:List sd).flatMap EX)[0]? = some (.bool y.loc) from rfl,hy.1] at this
     exact this
    ·have:=Zj 1 (by simp)
     rw[show(([y]:List sd).flatMap EX)[1]? = some (.int .i64 (y.idx:Int)) from rfl,hy.2] at this
     exact this
 | [],hf=>exact absurd (az List.length hf) (by simp)
 | [_],hf=>exact absurd (az List.length hf) (by simp)
 | _::_::_::_,hf=>exact absurd (az List.length hf) (by simp)
theorem xk {r:Rs aF} {l:List (List Bool×List (Bool×Nat))} (h:Ph r=(0,l)) (he:ku r) :∃st,r=.ok st:=by
 cases r with
 | ok st=>exact⟨st,rfl⟩
 | error x =>
  obtain⟨k,h1,h2⟩:=he x rfl;have h:(x.1,[])=((0:Int),l):=h;injection h with h _;omega
theorem Pj {a b:Rs aF} (h:RR (fun x y=>FR id x.fns y.fns) a b) (ha:ku a):ku b:=fun y hy=>by
 subst hy;cases a with
 | ok s=>exact h.elim
 | error x =>
  have h:x.1=y.1:=h;rw[←h];exact ha x rfl
theorem ok1:Bw Fu:=⟨by decide +kernel,rfl,by simp[Fu,Ln,Ju,Pr,nd,ve,ma,bC];decide +kernel,by decide +kernel,by decide +kernel⟩
theorem ok2:Bw Fv:=⟨by decide +kernel,rfl,by simp[Fv,xj,Ln,Ju,Pr,nd,ve,ma,Jm,bC];decide +kernel,by decide +kernel,by decide +kernel⟩
theorem ok3:Bw (xj []):=⟨by decide +kernel,rfl,by simp[xj,Ln,Ju,Pr,nd,ve,ma,bC];decide +kernel,by decide +kernel,by decide +kernel⟩
theorem ac9 (w:World) (hE:nj w):Calls Tryz.prog 16 #[.string Pd] w fun e w'=>Below w.heap.size w w'∧∃A n c q g c1 gv cv gu cu U O N,e=.returned (.tuple #[.agg #[.slice A n c,.int .i64 q],.agg #[.slice (some ⟨g,0,none⟩) 2 c1,.slice (some ⟨U,0,none⟩) N N,.slice (some ⟨O,0,none⟩) N N],.int .i64 0])∧va w' g c1 gv cv gu cu :=
 (Fw (jo _ _ _ ac2) abn ok1 (by decide +kernel) w (by decide) hE).mono fun e w' ⟨hb,A,n,c,q,r,hr,h⟩=>by
  refine⟨hb,?_⟩;have hf:=yI hr;rw[←DG,ac5] at hf;obtain⟨st,rfl⟩:=xk hf (Pj hr (ym _));obtain⟨sv,B',N,_,rfl,hz⟩:=h;obtain⟨g,c1,gv,cv,gu,cu,U,O,rfl,h1⟩:=TI hz hf;exact⟨A,n,c,q,g,c1,gv,cv,gu,cu,U,O,N,rfl,h1⟩
theorem ada (w:World) (hE:nj w):Calls Tryz.prog 16 #[.string Pe] w fun e w'=>Below w.heap.size w w'∧∃A n c q,e=.returned (.tuple #[.agg #[.slice A n c,.int .i64 q],jO,.int .i64 10]) :=
 (Fw (jo _ _ _ ac3) abo ok2 (by decide +kernel) w (by decide) hE).mono fun e w' ⟨hb,A,n,c,q,r,hr,h⟩=>by
  refine⟨hb,A,n,c,q,?_⟩;have hf:=yI hr;rw[←DG,ac6] at hf;cases r with
  | ok st=>injection hf with hf _;exact absurd hf (by decide)
  | error x =>
   injection hf with hf _;have h:e=.returned (.tuple #[.agg #[.slice A n c,.int .i64 q],jO,.int .i64 x.1]):=h;rw[h,hf]
theorem adb (w:World) (hE:nj w):Calls Tryz.prog 16 #[.string Pf] w fun e w'=>Below w.heap.size w w'∧∃A n c q F1 F2 F3 U O N,e=.returned (.tuple #[.agg #[.slice A n c,.int .i64 q],.agg #[.slice F1 F2 F3,.slice (some ⟨U,0,none⟩) N N,.slice (some ⟨O,0,none⟩) N N],.int .i64 0]) :=
 (Fw (jo _ _ _ ac4) abp ok3 (by decide +kernel) w (by decide) hE).mono fun e w' ⟨hb,A,n,c,q,r,hr,h⟩=>by
  refine⟨hb,A,n,c,q,?_⟩;have hf:=yI hr;rw[←DG,ac7] at hf;obtain⟨st,rfl⟩:=xk hf (Pj hr (ym _));obtain⟨sv,B',N,_,rfl,hz⟩:=h;obtain⟨F1,F2,F3,U,O,rfl⟩:=hz.form;exact⟨F1,F2,F3,U,O,N,rfl⟩
set_option maxRecDepth 100000 in
theorem TJ (w:World) (hE:nj w):Calls Tryz.prog 8 #[] w fun e w'=>e=.returned (.bool true)∧Below w.heap.size w w':=by
 have L1:=aa (fun W (b:Below w.heap.size w W)=>ac9 W (hE.below b))
 have L2:=aa (fun W (b:Below w.heap.size w W)=>ada W (hE.below b))
 have L3:=aa (fun W (b:Below w.heap.size w W)=>adb W (hE.below b))
 unfold Pd at L1;unfold Pe jO at L2;unfold Pf at L3;clear hE;go_enter Tryz.func8,Tryz.ntmps8
 go_wp2_with fail
 refine(L1.out _ (Below.refl ..)).mono ?_;rintro e w1 ⟨b1,A,n,c,q,g,c1,gv,cv,gu,cu,U,O,N,rfl,hS⟩;have B1:=aa b1;have eM:=aa hS;clear b1 hS;go_wp2_with fail
 obtain⟨w2,hw2⟩ :∃w2,w2=(w1.alloc (.cells #[.slice A n c,.int .i64 q] 25)).alloc (.cells #[.slice (some ⟨g,0,none⟩) 2 c1,.slice (some ⟨U,0,none⟩) N N,.slice (some ⟨O,0,none⟩) N N] 35):=⟨_,rfl⟩;have hb2:Below w1.heap.size w1 w2:=by rw[hw2];exact Below.two _ _
 have hs2:w2.heap[w1.heap.size+1]? = some (.cells #[.slice (some ⟨g,0,none⟩) 2 c1,.slice (some ⟨U,0,none⟩) N N,.slice (some ⟨O,0,none⟩) N N] 35 (0,0)):=by
  rw[hw2];have:=heap_alloc_new (w1.alloc (.cells #[.slice A n c,.int .i64 q] 25)) (.cells #[.slice (some ⟨g,0,none⟩) 2 c1,.slice (some ⟨U,0,none⟩) N N,.slice (some ⟨O,0,none⟩) N N] 35);rwa[ao] at this
 rw[←hw2];have B2:=aa (B1.out.trans (hb2.mono B1.out.size));have rU:=aa (eM.out.later hb2);have X2:=aa hs2;clear hw2 hb2 hs2;refine(L2.out _ B2.out).mono ?_;rintro e w3 ⟨b3,A',n',c',q',rfl⟩;have B3:=aa (B2.out.trans (b3.mono B2.out.size));have nW:=aa (rU.out.later b3);have X3:=aa ((b3.block _ (aJ.1 X2.out).1).trans X2.out);clear b3;go_wp2_with fail
 obtain⟨w4,hw4⟩ :∃w4,w4=(w3.alloc (.cells #[.slice A' n' c',.int .i64 q'] 25)).alloc (.cells #[.slice none 0 0,.slice none 0 0,.slice none 0 0] 35):=⟨_,rfl⟩;have hb4:Below w3.heap.size w3 w4:=by rw[hw4];exact Below.two _ _
 rw[←hw4];have B4:=aa (B3.out.trans (hb4.mono B3.out.size));have HS4:=aa (nW.out.later hb4);have X4:=aa ((hb4.block _ (aJ.1 X3.out).1).trans X3.out);clear hw4 hb4;refine(L3.out _ B4.out).mono ?_;rintro e w5 ⟨b5,A5,n5,c5,q5,F1,F2,F3,U5,O5,N5,rfl⟩;have B5:=aa (B4.out.trans (b5.mono B4.out.size));have HS5:=aa (HS4.out.later b5);have X5:=aa ((b5.block _ (aJ.1 X4.out).1).trans X4.out);clear b5;obtain⟨v0,v1,u0,u1,u2⟩:=HS5.out;have x0:w5.cell? ⟨w1.heap.size+1,0,none⟩=some (.slice (some ⟨g,0,none⟩) 2 c1):=ab X5.out 0;have l0:w1.heap.size+1<w5.heap.size:=(aJ.1 X5.out).1;have l1:g<w5.heap.size:=block_lt_of_cell v0;have l2:gv<w5.heap.size:=block_lt_of_cell v1;have l3:gu<w5.heap.size:=block_lt_of_cell u1;have l4:w1.heap.size<w5.heap.size:=by omega
 have l5:g<w5.heap.size+1:=by omega
 have l6:gv<w5.heap.size+1:=by omega
 have l7:gu<w5.heap.size+1:=by omega
 go_wp2_with fail
 go_ret
 exact⟨rfl,(B5.out.trans ((Below.two _ _).mono B5.out.size))⟩
def Bz (k:Lt):Prop:=∃i l s,k=.mk i ⟨19,l,0,0,⟨#[]⟩,[s],[]⟩ []
theorem Pk (i:Nat) (l:Int) (s:ByteArray) (f:Nat) (st:aF):aV (.mk i ⟨19,l,0,0,⟨#[]⟩,[s],[]⟩ []) f st=bo i f l [s] (st.setOf i f):=by
 rw[SB _ _ _ _ _ rfl,eE];rfl
theorem xl :∀(a b:List Lt) (n f:Nat) (st:aF),bz (a++b) n f st=(bz a n f st).bind fun s=>bz b (n+a.length) f s
 | [],b,n,f,st=>by rw[kF,jl];rfl
 | k::a,b,n,f,st=>by
  rw[fh,dD,dD];cases aV k f (st.at n) with
  | error e=>rfl
  | ok s =>
   show bz (a++b) (n+1) f s=(bz a (n+1) f s).bind _
   rw[xl a b (n+1) f s,List.length_cons,pC,Nat.add_comm 1]
theorem BA {F:List dr} {f:Nat} {x d:dr} (h:F[f]? = some x):F.getD f d=x:=by rw[kB,h];rfl
theorem BB {i f:Nat} {l:Int} {s:ByteArray} {st:aF} (h:(st.fn f).vars.length<200) :∃st',bo i f l [s] st=.ok st'∧st'.fns=st.fns.set f { st.fn f with vars:=(st.fn f).vars++[⟨s,i,false⟩]}∧st'.frames=st.frames:=by
 unfold bo du du;have e:(st.cK i (2,((st.fn f).vars.length:Int))).fn f=st.fn f:=rfl;rw[e,af (by omega)]
 exact⟨_,rfl,rfl,rfl⟩
theorem Jg {i f:Nat} {l:Int} {s:ByteArray} {st:aF} (h:200≤(st.fn f).vars.length):bo i f l [s] st=.error (11,l):=by
 unfold bo du;have e:(st.cK i (2,((st.fn f).vars.length:Int))).fn f=st.fn f:=rfl;rw[e,al h]
def BC (st:aF):Prop:=∀x∈st.frames,∀s,ca x.kids s=none
theorem TK {st:aF} (h:BC st) (n:Nat):BC (st.at n):=by
 unfold BC aF.at at *;cases e:st.frames with
 | nil=>intro x hx;simp at hx
 | cons y l =>
  rw[e] at h;intro x hx s;rcases bq.1 hx with rfl|hx
  ·exact h y (bV ..) s
  ·exact h x (bY _ hx) s
theorem BD :∀(ks:List Lt),(∀k∈ks,Bz k)→∀(n f:Nat) (st:aF),f<st.fns.length→(st.fn f).vars.length≤200→BC st →
  ((st.fn f).vars.length+ks.length≤200→∃st',bz ks n f st=.ok st'∧st'.fns.length=st.fns.length∧BC st') ∧
  (200<(st.fn f).vars.length+ks.length→∃l,bz ks n f st=.error (11,l))
 | [],_,n,f,st,hf,hv,hb=>by
  rw[jl];exact⟨fun _=>⟨st,rfl,rfl,hb⟩,fun h=>by simp at h;omega⟩
 | k::ks,hk,n,f,st,hf,hv,hb=>by
  obtain⟨i,l,s,rfl⟩:=hk k (bV ..);rw[dD,Pk,List.length_cons];by_cases h:200≤(st.fn f).vars.length
  ·rw[Jg (st:=(st.at n).setOf i f) h]
   exact⟨fun h2=>by omega,fun _=>⟨l,rfl⟩⟩
  ·obtain⟨s1,e1,e2,e3⟩:=BB (i:=i) (l:=l) (s:=s) (st:=(st.at n).setOf i f) (f:=f) (by show(st.fn f).vars.length<200;omega)
   rw[e1];have e4:(s1.fn f).vars.length=(st.fn f).vars.length+1:=by
    have e6:s1.fn f={ st.fn f with vars:=(st.fn f).vars++[⟨s,i,false⟩]}:=by
     unfold aF.fn at *;rw[e2];exact BA (dR (show f<st.fns.length from hf))
    rw[e6];show((st.fn f).vars++[_]).length=_
    simp
   have e5:s1.fns.length=st.fns.length:=by rw[e2,kG];rfl
   have hb':BC s1:=by
    unfold BC;rw[e3];exact TK hb n
   have:=BD ks (fun k sP=>hk k (bY _ sP)) (n+1) f s1 (by omega) (by omega) hb'
   show(_→∃st',bz ks (n+1) f s1=.ok st'∧_)∧(_→∃l,bz ks (n+1) f s1=.error (11,l))
   rw[e4,e5] at this;exact⟨fun h=>this.1 (by omega),fun h=>this.2 (by omega)⟩
theorem DH {ks:List Lt} (h :∀k∈ks,k.hd.kind≠32) (s:ByteArray):ca ks s=none:=by
 unfold ca;rw[JG];intro k hk;unfold kW;rw[cr (h k hk)];rfl
theorem nG {fr:List e8} {f:Nat} {all:List Lt} :∀(ks:List Lt) (n:Nat),(∀k∈ks,k.hd.kind≠32)→cA fr f all n ks=none
 | [],_,_=>rfl
 | k::ks,n,h=>by
  rw[cA,af fun e=>h k (bV ..) e.1]
  exact nG ks (n+1) fun x hx=>h x (bY _ hx)
theorem Pl {k:Lt} (h:Bz k):k.hd.kind≠32:=by
 obtain⟨i,l,s,rfl⟩:=h;exact(by decide:(19:Int)≠32)
theorem YB {i j p:Nat} {x:Lt} {h1 h2 h3:Nd} (e1:h1.kind=29) (e2:h2.kind=11) (e2':h2.names=[]) (e3:h3.kind=18) (hx:Bz x) (f:Nat) (st:aF) :
  ∃st',aV (.mk i h1 [.mk j h2 [.mk p h3 [x]]]) f st=.ok st':=by
 obtain⟨z,lz,s,rfl⟩:=hx;rw[Di _ _ _ _ _ (by omega),dP,Sz _ _ _ _ _ e2,e2']
 generalize (st.setOf i f).setOf j f=s0;have h0:(((ez j f h2 s0).cK j (2,(((ez j f h2 s0).fn s0.fns.length).vars.length:Int))).fn s0.fns.length).vars.length=0:=by
  unfold aF.fn;have:((ez j f h2 s0).cK j (2,(((ez j f h2 s0).fns.getD s0.fns.length ⟨0,0,0,false,[],[]⟩).vars.length:Int))).fns=s0.fns++[⟨j,(f:Int),h2.names.length,decide (h2.num=1),[],[]⟩]:=rfl;rw[this,BA (x:=⟨j,(f:Int),h2.names.length,decide (h2.num=1),[],[]⟩) (by simp)]
  rfl
 have hd:bo j s0.fns.length h2.line [] (ez j f h2 s0)=.ok ((ez j f h2 s0).cK j (2,(((ez j f h2 s0).fn s0.fns.length).vars.length:Int))):=rfl;rw[hd];generalize (ez j f h2 s0).cK j (2,(((ez j f h2 s0).fn s0.fns.length).vars.length:Int))=s1 at h0;show∃st',((aE [.mk p h3 [_]] s0.fns.length s1).map _).bind _=Except.ok st'
 rw[dP,ET _ _ _ _ _ e3];have ho :∀s2:aF,ft p s0.fns.length false [.mk z ⟨19,lz,0,0,⟨#[]⟩,[s],[]⟩ []] s2=.ok { s2 with frames:=⟨s0.fns.length,p,0,false,false,[.mk z ⟨19,lz,0,0,⟨#[]⟩,[s],[]⟩ []]⟩::s2.frames}:=fun s2=>by
  unfold ft;rw[nG _ _ fun k hk=>by rw[bR] at hk;rw[hk];exact(by decide:(19:Int)≠32)]
 rw[ho];show∃st',((((bz [_] 0 s0.fns.length _).map _).bind _).map _).bind _=Except.ok st'
 rw[dD,Pk];generalize hs3:aF.setOf (aF.at _ 0) z s0.fns.length=s3;obtain⟨s4,e4,_⟩:=BB (i:=z) (f:=s0.fns.length) (l:=lz) (s:=s) (st:=s3) (by
  rw[←hs3];show(s1.fn s0.fns.length).vars.length<200
  omega)
 rw[e4];exact⟨_,rfl⟩
def abq (k:Lt):Prop:=∃i j p x h1 h2 h3,h1.kind=29∧h2.kind=11∧h2.names=[]∧h3.kind=18∧Bz x∧k=.mk i h1 [.mk j h2 [.mk p h3 [x]]]
theorem YC {i:Nat} {h:Nd} {ks rs:List Lt} (hh:h.kind=18) (hk :∀k∈ks,Bz k) (hr:rs=[]∨∃r,abq r∧rs=[r]) :
  (ks.length≤200→∃st',lR (.mk i h (ks++rs))=.ok st')∧(200<ks.length→∃l,lR (.mk i h (ks++rs))=.error (11,l)):=by
 have hl :∀k∈ks++rs,k.hd.kind≠32:=fun k sP=>by
  rcases dj.1 sP with sP|sP
  ·exact Pl (hk k sP)
  ·rcases hr with rfl | ⟨r,⟨i',j,p,x,h1,h2,h3,e,_,_,_,_,rfl⟩,rfl⟩
   ·simp at sP
   ·rw[bR] at sP
    subst sP;show h1.kind≠32
    omega
 unfold lR;rw[ET _ _ _ _ _ hh];unfold ft;rw[nG _ _ hl];show(_→∃st',(bz (ks++rs) 0 0 _).map _=Except.ok st')∧(_→∃l,(bz (ks++rs) 0 0 _).map _=Except.error (11,l))
 rw[xl];generalize hs:({ (aF.setOf (gZ (Lt.loc (.mk i h (ks++rs)))) i 0) with frames:=_}:aF)=s0;have hb:BC s0:=by
  rw[←hs];intro x hx s;have hx:x∈[(⟨0,i,0,false,false,ks++rs⟩:e8)]:=hx;rw[bR] at hx;rw[hx];exact DH hl s
 have h0:(s0.fn 0).vars.length=0:=by rw[←hs];rfl
 have h1:0<s0.fns.length:=by rw[←hs];exact Nat.zero_lt_one
 have key:=BD ks hk 0 0 s0 h1 (by omega) hb
 rw[h0] at key;constructor
 ·intro hlen
  obtain⟨s1,e1,_,_⟩:=key.1 (by omega)
  rw[e1];rcases hr with rfl | ⟨r,⟨i',j,p,x,h1,h2,h3,a1,a2,a3,a4,a5,rfl⟩,rfl⟩
  ·show∃st',(bz [] (0+ks.length) 0 s1).map _=Except.ok st'
   rw[jl];exact⟨_,rfl⟩
  ·show∃st',(bz [_] (0+ks.length) 0 s1).map _=Except.ok st'
   rw[dD];obtain⟨s2,e2⟩:=YB (i:=i') (j:=j) (p:=p) a1 a2 a3 a4 a5 0 (s1.at (0+ks.length));rw[e2];exact⟨_,rfl⟩
 ·intro hlen
  obtain⟨l,e⟩:=key.2 (by omega)
  rw[e];exact⟨l,rfl⟩
def vb:List UInt8:=[108,111,99,97,108,32,97,32]
def Jh:List UInt8:=[114,101,116,117,114,110,32,102,117,110,99,116,105,111,110,40,41,32,108,111,99,97,108,32,98,32,101,110,100]
def mr:Nat→List UInt8→List UInt8
 | 0,t=>t
 | n+1,t=>vb++mr n t
theorem xm :∀(n:Nat) (t:List UInt8),mr n []++(vb++t)=mr (n+1) t
 | 0,t=>rfl
 | n+1,t=>by
  show(vb++mr n [])++(vb++t)=vb++mr (n+1) t
  rw[←xm n t,fg]
theorem BE :∀(n:Nat) (t:List UInt8),mr n []++t=mr n t
 | 0,t=>rfl
 | n+1,t=>by
  show(vb++mr n [])++t=vb++mr n t
  rw[←BE n t,fg]
theorem vd :∀(n:Nat) (t:List UInt8),(mr n t).length=8*n+t.length
 | 0,t=>by show t.length=_;omega
 | n+1,t=>by
  show(vb++mr n t).length=_
  rw[cC,vd n t];show 8+_=_
  omega
theorem yJ :∀(n:Nat) (t:List UInt8),nl (mr n t)=nl t
 | 0,t=>rfl
 | n+1,t=>by
  show nl (vb++mr n t)=_
  rw[tw,yJ n t];show 0+_=_
  omega
def BG:Nat→List aj→List aj
 | 0,t=>t
 | n+1,t=>wd fx::mj [97]::BG n t
theorem Pm (L:Int) (f:Nat) (l:List UInt8):yV L f (32::l)=yV L f l:=by
 cases f with
 | zero=>rfl
 | succ f =>
  have e:(32::l:List UInt8).dropWhile pH=l.dropWhile pH:=rfl;unfold yV;rw[e]
theorem Fx {L:Int} {f:Nat} {c:UInt8} {t:List UInt8} {k m:Int} {s r:List UInt8} (hb:pH c=false) (hp:Lib.hasPrefix (c::t) [45,45]=false) (h:tkF (c::t)=some (k,m,s,r)):yV L (f+1) (c::t)=(yV L f r).map ((k,L-nl (c::t),m,s) :: ·):=by
 have e:(c::t).dropWhile pH=c::t:=by rw[List.dropWhile_cons,hb];rfl
 rw[yV,e,af (by rw[hp];decide)]
 dsimp only
 rw[h]
theorem YD {f:Nat} {l:List UInt8} {ts:List aj} (hn:nl l=0) (h:yV 1 f l=some ts):yV 1 (f+2) (vb++l)=some (wd fx::mj [97]::ts):=by
 have n1:nl (108::([111,99,97,108,32,97,32]++l))=0:=by
  show nl (vb++l)=0
  rw[tw,hn];rfl
 have n2:nl (97::32::l)=0:=by
  show nl ([97,32]++l)=0
  rw[tw,hn];rfl
 show yV 1 (f+1+1) (108::([111,99,97,108,32,97,32]++l))=_
 rw[Fx (k:=2) (m:=0) (s:=fx) (r:=32::97::32::l) (by decide) (by rfl) (by rfl),Pm,Fx (k:=1) (m:=0) (s:=[97]) (r:=32::l) (by decide) (by rfl) (by rfl),Pm,h,n1,n2]
 rfl
theorem DI {m:Nat} {t:List UInt8} {tt:List aj} (hn:nl t=0) (h:yV 1 m t=some tt) :∀n,yV 1 (2*n+m) (mr n t)=some (BG n tt)
 | 0=>by rw[show 2*0+m=m by omega];exact h
 | n+1=>by
  have:=YD (by rw[yJ,hn]) (DI hn h n)
  rw[show 2*(n+1)+m=2*n+m+2 by omega]
  exact this
def ll:Ast:=ve 19 1 0 [bC [97]] []
def YE:List aj:=[wd ig,wd ba,nD [40],nD [41],wd fx,mj [98],wd iC,kj]
def sO:Ast:=nd 29 1 [ve 11 1 0 [] [nd 18 1 [ve 19 1 0 [bC [98]] []]]]
def Zk (ts:List aj):Prop:=∃u us,ts=u::us∧(u=wd fx∨u=wd ig∨u=kj)
theorem TL {ts:List aj} (h:Zk ts):PL (bN .zn) (wd fx::mj [97]::ts) (.ok (ll,ts)):=by
 obtain⟨u,us,rfl,rfl|rfl|rfl⟩:=h
 ·exact ia 50 _ _ _ rfl
 ·exact ia 50 _ _ _ rfl
 ·exact ia 50 _ _ _ rfl
theorem TM {l:List Ast} {ts:List aj} {r:List Ast×List aj} (h:Zk ts) (k:PL (bN (.oL (l++[ll]))) ts (.ok r)):PL (bN (.oL l)) (wd fx::mj [97]::ts) (.ok r):=by
 obtain⟨v,ax⟩:=r;unfold bN;refine .look ?_;rw[af (by decide),af (by decide),af (by decide)]
 exact .call (TL h) (.call k .ret)
theorem BH {tt:List aj} (h:Zk tt) :∀n,Zk (BG n tt)
 | 0=>h
 | n+1=>⟨_,_,rfl,.inl rfl⟩
theorem Fy {tt:List aj} (h:Zk tt) {v:List Ast} {ax:List aj} :∀(n:Nat) (l:List Ast),PL (bN (.oL (l++List.replicate n ll))) tt (.ok (v,ax))→PL (bN (.oL l)) (BG n tt) (.ok (v,ax))
 | 0,l,k=>by rw[DO,iX] at k;exact k
 | n+1,l,k=>by
  refine TM (BH h n) (Fy h n (l++[ll]) ?_);rw[fg];exact k
def rF (n:Nat) (d:Bool):Ast:=nd 18 1 (List.replicate n ll++if d then [sO] else [])
def xn (d:Bool):List aj:=if d then YE else [kj]
theorem Fz (d:Bool):Zk (xn d):=by
 cases d
 ·exact⟨_,_,rfl,.inr (.inr rfl)⟩
 ·exact⟨_,_,rfl,.inr (.inl rfl)⟩
theorem Pn (d:Bool) (l:List Ast):PL (bN (.oL l)) (xn d) (.ok (l++(if d then [sO] else []),[kj])):=by
 cases d
 ·have k:PL (bN (.oL l)) [kj] (.ok (l,[kj])):=by
   unfold bN;refine .look ?_;rw[al (by decide)]
   exact .ret
  exact Eq.mpr (az (fun z:List Ast=>PL (bN (.oL l)) [kj] (.ok (z,[kj]))) (iX l)) k
 ·show PL (bN (.oL l)) YE (.ok (l++[sO],[kj]))
  unfold bN;refine .look ?_;rw[af (by decide),al (by decide)]
  exact .tok (.call (ia 60 _ _ (.ok (sO,[kj])) rfl) .ret)
theorem Po (n:Nat) (d:Bool):PL oM (BG n (xn d)) (.ok (rF n d,[kj])):=by
 have h1:PL (bN .blk) (BG n (xn d)) (.ok (rF n d,[kj])):=by
  obtain⟨u,us,e,hu⟩:=BH (Fz d) n;have h2:PL (bN (.oL [])) (BG n (xn d)) (.ok (List.replicate n ll++(if d then [sO] else []),[kj])):=Fy (Fz d) n [] (by rw[kF];exact Pn d _)
  unfold bN;rw[e] at h2 ⊢;have hl:u.2.1=1:=by rcases hu with rfl|rfl|rfl<;>rfl
  refine .look (.call h2 ?_);show P bN (.ret (nd 18 u.2.1 _)) _ _
  rw[hl];exact .ret
 unfold oM;refine .call h1 (.look ?_);rw[al (by decide)]
 exact .ret
theorem Ji (n:Nat) (d:Bool):(rF n d).depth≤100:=by
 have key :∀(n:Nat) (l:List Ast),Ast.ju l≤50→Ast.ju (List.replicate n ll++l)≤50:=fun n l hl=>by
  induction n with
  | zero=>exact hl
  | succ n ih =>
   rw[vH,fh,Ast.ju];have h2:ll.depth=1:=rfl;omega
 have h1:=key n (if d then [sO] else []) (by cases d<;>decide)
 unfold rF nd;rw[Ast.depth];omega
theorem FB :∀a b:List Ast,Ast.yU (a++b)=Ast.yU a++Ast.yU b
 | [],b=>by rw[kF,Ast.yU];rfl
 | x::a,b=>by rw[fh,Ast.yU,Ast.yU,FB a b];rfl
theorem FC (a:Ast) :∀n:Nat,Ast.yU (List.replicate n a)=List.replicate n a.lt
 | 0=>by rw[DO,Ast.yU];rfl
 | n+1=>by rw[vH,Ast.yU,FC a n];rfl
theorem xo (n:Nat) (d:Bool):(n≤200→∃st,lR (rF n d).lt=.ok st)∧(200<n→∃l,lR (rF n d).lt=.error (11,l)):=by
 have e:(rF n d).lt=.mk 0 ⟨18,1,0,0,⟨#[]⟩,[],[]⟩ (List.replicate n ll.lt++if d then [sO.lt] else []):=by
  unfold rF nd;rw[Ast.lt,FB,FC];cases d<;>rfl
 rw[e];have h:=YC (i:=0) (h:=⟨18,1,0,0,⟨#[]⟩,[],[]⟩) (ks:=List.replicate n ll.lt) (rs:=if d then [sO.lt] else []) rfl (fun k hk=>by
  rw[List.eq_of_mem_replicate hk];exact⟨0,1,bC [97],rfl⟩) (by
  cases d
  ·exact .inl rfl
  ·exact .inr ⟨_,⟨0,0,0,_,_,_,_,rfl,rfl,rfl,rfl,⟨0,1,bC [98],rfl⟩,rfl⟩,rfl⟩)
 rw[List.length_replicate] at h;exact h
def Jj (n:Nat) (d:Bool):ByteArray:=⟨(mr n (if d then Jh else [])).toArray⟩
theorem TN (n:Nat) (d:Bool):jQ (dc (Jj n d)) (Jj n d).data.toList (.ok (BG n (xn d))):=by
 have e:(Jj n d).data.toList=mr n (if d then Jh else []):=by unfold Jj;simp
 have e2:dc (Jj n d)=1:=by
  unfold dc;rw[e,yJ];cases d<;>rfl
 rw[e2,e];cases d
 ·exact jo _ _ _ (DI (m:=1) (t:=[]) (tt:=[kj]) rfl (by rfl) n)
 ·exact jo _ _ _ (DI (m:=20) (t:=Jh) (tt:=YE) (by rfl) (by decide +kernel) n)
theorem Vi {s:ByteArray} {l:List UInt8} (h:s.data.toList=l):s=⟨l.toArray⟩:=by
 cases s with
 | mk d=>subst h;simp
theorem Pp (a b:ByteArray):(a++b).data.toList=a.data.toList++b.data.toList:=by rw[ByteArray.data_append];simp
theorem FD {s:ByteArray} {l:List UInt8} (h:s.data.toList=l):s.size=l.length:=by rw[Vi h];simp[ByteArray.size]
theorem YF :∀n,n<256→∀d:Bool,pt 18 0 (List.replicate n (gg 19)++if d then [gg 29] else [])=true:=by decide +kernel
theorem FE {l:List Ast} (h:Ast.TU cR pt gg l=true) :∀n,Ast.TU cR pt gg (List.replicate n ll++l)=true
 | 0=>h
 | n+1=>by
  have h1:Ast.ok cR pt gg ll=true:=by decide +kernel
  rw[vH,fh,Ast.TU,FE h n,h1];rfl
theorem FG {l:List Ast} (h:Ju l) :∀n,Ju (List.replicate n ll++l)
 | 0=>h
 | n+1=>by
  have h1:Ln ll:=by simp[ll,Ln,Ju,Pr,ve,bC];decide +kernel
  rw[vH,fh,Ju];exact⟨h1,FG h n⟩
theorem xp (l:List Ast) :∀n,Ast.ak (List.replicate n ll++l)=n+Ast.ak l
 | 0=>by rw[DO,kF,iY]
 | n+1=>by
  have h1:ll.size=1:=rfl;rw[vH,fh,fP,xp l n];omega
theorem FH (l:List Ast) :∀n,Ast.ec (List.replicate n ll++l)=n+Ast.ec l
 | 0=>by rw[DO,kF,iY]
 | n+1=>by
  have h1:ll.wt=1:=rfl;rw[vH,fh,Im,FH l n];omega
theorem TO {n:Nat} (d:Bool) (hn:n≤255):Bw (rF n d):=by
 have k:=YF n (by omega) d
 refine⟨?_,rfl,?_,?_,?_⟩
 ·unfold rF nd
  rw[Ast.ok,FE (by cases d<;>decide +kernel) n,l9,List.map_replicate]
  have e:(List.map (fun k:Ast=>gg k.hd.kind) (if d then [sO] else []))=if d then [gg 29] else []:=by cases d<;>rfl
  rw[e];have h2:gg ll.hd.kind=gg 19:=rfl;rw[h2,k];decide +kernel
 ·unfold rF nd
  rw[Ln];exact⟨by simp[Pr];decide +kernel,FG (by cases d<;>simp[sO,Ln,Ju,Pr,nd,ve,bC];decide +kernel) n⟩
 ·unfold rF
  rw[lH,xp];have:Ast.ak (if d then [sO] else [])≤10:=by cases d<;>decide +kernel
  omega
 ·unfold rF
  rw[Xq,FH];have:Ast.ec (if d then [sO] else [])≤10:=by cases d<;>decide +kernel
  omega
theorem Pq (s:ByteArray) (n:Nat) (d:Bool) (w:World) (hn:n≤255) (h:s.data.toList=mr n (if d then Jh else [])) (hE:nj w):Calls Tryz.prog 16 #[.string s] w fun e w'=>Below w.heap.size w w'∧∃A m c q F1 F2 F3 U U1 U2 O O1 O2,e=.returned (.tuple #[.agg #[.slice A m c,.int .i64 q],.agg #[.slice F1 F2 F3,.slice U U1 U2,.slice O O1 O2],.int .i64 (if n≤200 then 0 else 11)]):=by
 have hs:s=Jj n d:=Vi h;subst hs;refine(Fw (TN n d) (Po n d) (TO d hn) (Ji n d) w (by rw[FD h,vd];cases d<;>simp[Jh]<;>omega) hE).mono ?_
 rintro e w' ⟨hb,A,m,c,q,r,hr,h1⟩;refine⟨hb,?_⟩;by_cases qS:n≤200
 ·rw[al qS]
  obtain⟨st,e1⟩:=(xo n d).1 qS;rw[e1] at hr;cases r with
  | error x=>exact hr.elim
  | ok st' =>
   obtain⟨sv,B',N,_,rfl,hz⟩:=h1;obtain⟨F1,F2,F3,U,O,rfl⟩:=hz.form;exact⟨A,m,c,q,F1,F2,F3,_,_,_,_,_,_,rfl⟩
 ·rw[af qS]
  obtain⟨l,e1⟩:=(xo n d).2 (by omega)
  rw[e1] at hr;cases r with
  | ok st'=>exact hr.elim
  | error x =>
   have hr:(11:Int)=x.1:=hr;have h1:e=.returned (.tuple #[.agg #[.slice A m c,.int .i64 q],jO,.int .i64 x.1]):=h1;rw[h1,←hr];exact⟨A,m,c,q,_,_,_,_,_,_,_,_,_,rfl⟩
theorem DJ (n:Int) (d:Bool) (w:World) (h0:0≤n) (h1:n≤255) (hE:nj w):Calls Tryz.prog 6 #[.int .u8 n,.bool d] w fun e w'=>e=.returned (.bool true)∧Below w.heap.size w w':=by
 have A1:=aa (TJ w hE);have HE:=aa hE;obtain⟨N,rfl⟩ :∃N:Nat,n=(N:Int):=⟨n.toNat,by omega⟩
 have hN:N≤255:=by omega
 clear hE h0 h1;go_enter Tryz.func6,Tryz.ntmps6
 go_wp2_with fail
 refine A1.out.mono ?_;rintro e w1 ⟨rfl,b1⟩;have B1:=aa b1;clear b1;go_wp2_with fail
 go_loopw [5,12] (fun s i wr=>∃(k:Nat) (X:ByteArray),k≤N∧s=.string X∧i=.int .u8 (k:Int)∧X.data.toList=mr k []∧wr=w1) (fun _ i _=>N-(intOf i).toNat)
 case atStart=>exact⟨0,⟨#[]⟩,bK _,rfl,rfl,rfl,rfl⟩
 case round =>
  obtain⟨k,X,hk,rfl,rfl,hX,rfl⟩:=hrel;have eD:X.size≤3000:=by rw[FD hX,vd];simp;omega
  have l8:(⟨#[108,111,99,97,108,32,97,32]⟩:ByteArray).size=8:=rfl;have HX:=aa hX;clear hX;by_cases hlt:k<N
  ·have mu:=aa hlt
   go_wp2_with fail
   exact⟨⟨k+1,_,by have:=mu.out;omega,rfl,by go_num,by rw[Pp,HX.out];exact(xm k []).trans rfl |>.symm▸rfl,trivial⟩,by have:=mu.out;simp[intOf];omega⟩
  ·obtain rfl:k=N:=by omega
   have g2:decide ((k:Int)≤200)=decide (k≤200):=by rw[decide_eq_decide];omega
   cases d with
   | true =>
    have l29:(⟨#[114,101,116,117,114,110,32,102,117,110,99,116,105,111,110,40,41,32,108,111,99,97,108,32,98,32,101,110,100]⟩:ByteArray).size=29:=rfl;have HO:=aa (Pq (X++⟨#[114,101,116,117,114,110,32,102,117,110,99,116,105,111,110,40,41,32,108,111,99,97,108,32,98,32,101,110,100]⟩) k true wr hN (by rw[Pp,HX.out];exact BE k Jh) (HE.out.below B1.out))
    go_wp2_with fail
    refine HO.out.mono ?_;rintro e w2 ⟨b2,A,m,c,q,F1,F2,F3,U,U1,U2,O,O1,O2,rfl⟩;have B2:=aa (B1.out.trans (b2.mono B1.out.size));clear b2;by_cases h2:k≤200
    ·rw[al h2]
     go_wp2_with fail
     go_ret
     exact⟨rfl,B2.out.trans ((Below.two _ _).mono B2.out.size)⟩
    ·rw[af h2]
     go_wp2_with fail
     go_ret
     exact⟨rfl,B2.out.trans ((Below.two _ _).mono B2.out.size)⟩
   | false =>
    have HO:=aa (Pq X k false wr hN (by rw[HX.out];rfl) (HE.out.below B1.out))
    go_wp2_with fail
    refine HO.out.mono ?_;rintro e w2 ⟨b2,A,m,c,q,F1,F2,F3,U,U1,U2,O,O1,O2,rfl⟩;have B2:=aa (B1.out.trans (b2.mono B1.out.size));clear b2;by_cases h2:k≤200
    ·rw[al h2]
     go_wp2_with fail
     go_ret
     exact⟨rfl,B2.out.trans ((Below.two _ _).mono B2.out.size)⟩
    ·rw[af h2]
     go_wp2_with fail
     go_ret
     exact⟨rfl,B2.out.trans ((Below.two _ _).mono B2.out.size)⟩
end Go.Proofs.YteflkdlaoiijbaaGreatDoor
namespace Go.Proofs.YteflkdlaoiijbaaGreatDoor
open Go.ChangeShapes Go.WideShapes Go.ChangeAt Go.WideMaps Go.WideElems Go.RowKit Go.ChangeMaps
theorem own:ownKnob Tryz.prog.godebug=Option.none:=by kernel_rfl
theorem laidOut:laidOutB Tryz.prog=true:=by kernel_rfl
abbrev xq:List (String×DataW Unit):=[("unicode/utf8.acceptRanges",Rows.laid_unicode_utf8_acceptRanges),("errors.errorType",Rows.laid_errors_errorType),("unicode/utf8.first",Rows.laid_unicode_utf8_first)]
abbrev rG:List (String×DataW Unit):=[("unicode/utf8.acceptRanges",Rows.laid_unicode_utf8_acceptRanges),("unicode/utf8.first",Rows.laid_unicode_utf8_first)]
noncomputable def hand (os:Os):World :=
 { World.holding Tryz.prog os ⟨#[],#[],[]⟩ with heap:=(World.holding Tryz.prog os ⟨#[],#[],[]⟩).heap.modify 0 fun
   | .cells _ t frozen=>.cells #[.iface 165 (.agg #[.pointer (some ⟨4,27,Option.none⟩)])] t frozen
   | o=>o}
noncomputable def door (os:Os) (l:List (String×DataW Unit)):World:=(hand os).layVars Tryz.prog l
theorem TP (os:Os) (l:List (String×DataW Unit)):(door os l).os=os:=World.layVars_os _ _ _
theorem yK (os:Os):(door os rG).Shaped Tryz.prog:=World.shaped_of_ZipB (by kernel_rfl) (by kernel_rfl)
theorem Jk (os:Os) (l:List (String×DataW Unit)) (hf:(hand os).layFits Tryz.prog l []=true) (hi:(hand os).layIfaces Tryz.prog l (door os l)=true):laidMet Tryz.prog l (door os l):=by
 have e1:(l.filter fun x=>(l.map (·.1)).contains x.1)=l:=List.filter_eq_self.2 fun x hx=>List.contains_iff_mem.2 (jr.2 ⟨x,hx,rfl⟩)
 have e2:(l.filter fun x=>!(l.map (·.1)).contains x.1)=[]:=List.filter_eq_nil_iff.2 fun x hx=>by rw[List.contains_iff_mem.2 (jr.2 ⟨x,hx,rfl⟩)];simp
 exact laidMet_layVars (w0:=hand os) (l.map (·.1)) [] (by rw[e1];rfl) (by rw[e1];exact hf) (by rw[e1];exact hi) (by rw[e2];exact LaidIn.none)
theorem Jl (os:Os) (args:Array Value):laidMetH Tryz.prog xq ((door os rG).forCall (fun _ _=>0) ⟨#[],args,[]⟩).memory:=by
 have h:laidMetH Tryz.prog xq (door os rG):=laidMetH_of_parts (Jk os rG (by kernel_rfl) (by kernel_rfl)) (by kernel_rfl)
 exact h.of_heap (by simp[World.memory,World.forCall,Input.heap])
theorem abr {W:World} (h:W.ShapedOpen Tryz.prog):Mx W:=Go.Proofs.cell_of_shapedOpen_int (zero:=#[.int .i64 0]) (t:=3) h (iB (by kernel_rfl)) (by kernel_rfl) rfl (by kernel_rfl) (by kernel_rfl) Tryz.underlying3
theorem YG {W:World} (h:W.ShapedOpen Tryz.prog):4≤W.heap.size:=by
 have k:(((begin Tryz.prog (fun _ _=>0) default).world.heap[4-1]?).bind Obj.row?).isSome=true:=by kernel_rfl
 obtain⟨⟨zero,t⟩,hz⟩:=y7.1 k;obtain⟨cs,hc,_⟩:=h.1 (4-1) zero t (iB (by kernel_rfl)) hz
 have:=(aJ.1 hc).1;omega
theorem Tryz.et:Tryz.prog.globalNamed "errors.errorType" = some 0:=by kernel_rfl
theorem Tryz.rt:(Tryz.prog.cutTypes.find? (·.1 == "internal/reflectlite.rtype")).map (·.2)=some 165:=by kernel_rfl
theorem Tryz.abt:Tryz.prog.types.size=(423-100):=by kernel_rfl
theorem Tryz.YH:((List.range (423-100)).filter fun t=>Tryz.prog.rowNamed t [101,114,114,111,114])=[27]:=by kernel_rfl
theorem BJ {W:World} (h:handlesMet Tryz.prog [("errors.errorType",Rows.laid_errors_errorType)] W):W.cell? ⟨0,0,Option.none⟩=some (.iface 165 (.agg #[.pointer (some ⟨4,27,Option.none⟩)])):=by
 obtain⟨name,u,ty,e1,e2,e3,e4,e5⟩:=h _ (bR.2 rfl);have en:name=[101,114,114,111,114]:=(gO e1).symm;subst en;obtain rfl:=gO (Tryz.rt.symm.trans e2);have hm:ty∈(List.range (423-100)).filter fun t=>Tryz.prog.rowNamed t [101,114,114,111,114]:=vJ.2 ⟨DV.2 (by rw[←Tryz.abt];exact e3),e4⟩
 rw[Tryz.YH] at hm;obtain rfl:=bR.1 hm;have hh:typeHandle Tryz.prog 27=.pointer (some ⟨4,27,Option.none⟩):=by kernel_rfl
 rw[hh] at e5;simpa using World.var?_cell Tryz.et e5 0
theorem ade {W:World} (hs:W.ShapedOpen Tryz.prog) (h:laidMetH Tryz.prog xq W):nj W:=by
 have h':laidMet Tryz.prog rG W∧handlesMet Tryz.prog [("errors.errorType",Rows.laid_errors_errorType)] W:=h;exact⟨abr hs,BJ h'.2,YG hs⟩
theorem handed {H:Type} {enc:TypeId×Value→H} {C:Checked} {os:Os} {f:FuncId} {fn:Func} {s:ChangeSpec} {X:World→Array Value→Prop}
  (hX :∀(w w':World) (args:Array Value),w.heap=w'.heap→X w args→X w' args) (own:ownKnob C.prog.godebug=Option.none) (started:os.Started) (YI:C.prog.inits.idxOf? f=Option.none) (hfn:C.prog.funcs[f]? = some fn)
  (witness :∃(w:World) (tape:Tape) (i:Input),w.os=os∧(w.forCall tape i).Shaped C.prog∧i.vars=[]∧Input.okWide C.prog (w.forCall tape i) .any w.heap.size f i ∧
   ((s.pre enc C.prog fn [] false (w.forCall tape i).memory i.args∧X (w.forCall tape i).memory i.args)∧sizedMet enc C.prog fn (OpenSpec.ofChange s) false (w.forCall tape i).memory i.args)∧({}:Assume).holds C.prog (lone (Frame.enter C.prog f i.args .normal) [] (w.forCall tape i)))
  (contract :∀(W:World) (base:Nat) (args:Array Value) (ds gs:List (DataW H)) (before:List MemPlace),
   (∀(j:Nat) t v,fn.params[j]? = some t→args[j]? = some v→Value.okWide C.prog W .any base t v) →
   DataW.Whole enc C.prog fn.params.toList s.vars false W args.toList ds gs before→X W args→W.ShapedOpen C.prog →
   (DataW.weightsEach C.prog (fn.params.toList++(OpenSpec.ofChange s).bare.plain.varTypes C.prog) (ds++gs)).all (·≤reachBytes)=true →
   Calls C.prog f args W fun e W'=>∃v,e=.returned v∧s.post enc C.prog fn false true false false W args v W') :
  ReturnsInHanded {} C os f .any (fun w args=>(s.pre enc C.prog fn [] false w args∧X w args)∧sizedMet enc C.prog fn (OpenSpec.ofChange s) false w args) (s.post enc C.prog fn false true false false):=by
 refine returnsInHanded_of_calls own started YI witness ?_;intro w tape i _ hsh _ Cj tE _;obtain⟨_,_,_,fn',adf,_,_,_,_,hval⟩:=Cj;obtain rfl:fn'=fn:=gO (adf.symm.trans hfn);obtain⟨⟨_,hx⟩,_,ds,gs,before,hw,hwt⟩:=tE;have hw':=DataW.Whole.of_heap (w':=w.forCall tape i) (by rfl) hw
 refine(contract (w.forCall tape i) w.heap.size i.args ds gs before hval hw' (hX _ _ _ (by rfl) hx) hsh hwt).mono fun e W' ⟨v,he,hp⟩=>?_
 subst he;exact ChangeSpec.post_blind hp
theorem abu {n:Int} (h:(Lit.int .u8 n).wf=true):0≤n:=by
 have h':(decide (IntKind.u8.min≤n) && decide (n≤IntKind.u8.max))=true:=h;simp only[di,iy] at h';exact h'.1
theorem abv {n:Int} (h:(Lit.int .u8 n).wf=true):n≤255:=by
 have h':(decide (IntKind.u8.min≤n) && decide (n≤IntKind.u8.max))=true:=h;simp only[di,iy] at h';exact h'.2
end Go.Proofs.YteflkdlaoiijbaaGreatDoor
