/- Parts of the proof. -/
import Derived.Lib.OthersKept
import Derived.Lib.OwnKind
import Derived.Deep.RegionLaw
import Derived.Maps.Own
import Derived.Maps.OwnSet
import Derived.StringKeys
import Derived.Test.YteflkdlaoiijbaaGreatDoorM08
set_option maxHeartbeats 16000000
set_option maxRecDepth 20000
namespace Go.Proofs.YteflkdlaoiijbaaGreatDoor
theorem EN {f:Nat} {st:aF} (c:Cx f st) (i g:Nat):kt [i] f st (st.setOf i g) :=
 ⟨.refl _,c.ok,fun j hj=>⟨rfl,af (by simpa using hj)⟩,⟨[],rfl,fun n hn=>by simp at hn⟩,fun g x h1 h2=>by have h3:g<st.fns.length:=(aK.1 h2).1;omega⟩
theorem sX {f:Nat} {st:aF} (c:Cx f st) (i:Nat) (u:Int×Int):kt [i] f st (st.cK i u) :=
 ⟨.refl _,c.ok,fun j hj=>⟨af (by simpa using hj),rfl⟩,⟨[],rfl,fun n hn=>by simp at hn⟩,fun g x h1 h2=>by have h3:g<st.fns.length:=(aK.1 h2).1;omega⟩
theorem uu (st:aF) (i:Nat) (u:Int×Int):(st.cK i u).uses i=u:=al rfl
theorem M8 (st:aF) (i f:Nat):(st.setOf i f).of i=(f:Int):=al rfl
def j5 (x:dr) (node:Nat) (l:List ByteArray):dr:={ x with vars:=x.vars++l.map fun s=>⟨s,node,false⟩}
theorem Ip (x:dr) (node:Nat):j5 x node []=x:=by unfold j5;simp
theorem AB (x:dr) (node:Nat) (l:List ByteArray):qa x (j5 x node l) :=
 ⟨rfl,rfl,rfl,rfl,fun j v h=>⟨v,by unfold j5;rw[kC (aK.1 h).1];exact h,rfl,rfl,id⟩,fun _ _ h=>h⟩
theorem M9 {F:List dr} {f:Nat} {x:dr} (h:F[f]? = some x):F.set f x=F:=by
 refine JX fun g=>?_
 by_cases hg:f=g
 ·subst hg
  rw[dR (aK.1 h).1,h]
 ·rw[fD hg]
theorem wH {node f:Nat} {line:Int} :∀(l:List ByteArray) {st st':aF} {x:dr},du node f line l st=.ok st'→st.fns[f]? = some x →
  st'.fns=st.fns.set f (j5 x node l)∧st'.uses=st.uses∧st'.of=st.of∧st'.frames=st.frames∧x.vars.length+l.length≤max 200 x.vars.length ∧
  ∃a,st'.names=a++st.names∧∀n∈a,n.fn=f∧∃v,(j5 x node l).vars[n.i]? = some v∧v.name=n.s:=by
 intro l;induction l with
 | nil =>
  intro st st' x h hx;rw[du] at h;injection h with h;subst h;exact⟨by rw[Ip,M9 hx],rfl,rfl,rfl,by simp;omega,[],rfl,fun n hn=>by simp at hn⟩
 | cons s l ih =>
  intro st st' x h hx;rw[du] at h;have e:st.fn f=x:=gA hx;rw[e] at h;split at h
  ·cases h
  ·rename_i hlt
   have hf:=(aK.1 hx).1;have sw:(st.oB f { x with vars:=x.vars++[⟨s,node,false⟩]}).fns[f]? = some { x with vars:=x.vars++[⟨s,node,false⟩]}:=dR hf;obtain⟨h1,h2,h3,h4,h5,a,h6,h7⟩:=ih h sw;have e2:j5 { x with vars:=x.vars++[⟨s,node,false⟩]} node l=j5 x node (s::l):=by unfold j5;simp
   refine⟨?_,h2,h3,h4,?_,a++[⟨s,f,x.vars.length⟩],by rw[h6];simp,fun n hn=>?_⟩
   ·rw[h1,e2]
    show(st.fns.set f _).set f _=_
    rw[List.set_set]
   ·simp only[cC,List.length_cons,List.length_nil] at h5 ⊢
    omega
   ·rw[e2] at h7
    rcases dj.1 hn with hn|hn
    ·exact h7 n hn
    ·rw[bR] at hn
     subst hn;refine⟨rfl,⟨s,node,false⟩,?_,rfl⟩;unfold j5;simp
theorem nm {node f:Nat} {line:Int} {l:List ByteArray} {st st':aF} (h:bo node f line l st=.ok st') (c:Cx f st):kt [node] f st st'∧st'.frames=st.frames∧st'.of=st.of:=by
 obtain⟨x,hx⟩ :∃x,st.fns[f]? = some x:=⟨_,bX c.lt⟩;unfold bo at h;obtain⟨h1,h2,h3,h4,_,a,h6,h7⟩:=wH l h (x:=x) hx;have h1:st'.fns=st.fns.set f (j5 x node l):=h1;refine⟨⟨?_,?_,fun j hj=>⟨?_,congrFun h3 j⟩,⟨a,h6,fun n hn=>?_⟩,fun g y k1 k2=>?_⟩,h4,h3⟩
 ·rw[h1];exact .set hx (AB x node l)
 ·rw[h1];exact c.ok.set hx (AB x node l)
 ·rw[h2];exact af (by simpa using hj)
 ·obtain⟨e,v,k1,k2⟩:=h7 n hn
  rw[h1];unfold Io;exact⟨by rw[e];exact .same,_,v,by rw[e,dR c.lt],k1,k2⟩
 ·have:=(aK.1 k2).1
  rw[h1,kG] at this;omega
theorem wI {i f:Nat} {h:Nd} {st st':aF} (e:bo i st.fns.length h.line h.names (ez i f h st)=.ok st') (c:Cx f st) :
  Cx st.fns.length st'∧ur st.fns st'.fns∧st'.fns.length=st.fns.length+1∧st'.of=st.of∧(∀j,j≠i→st'.uses j=st.uses j)∧st'.frames=st.frames∧(∃x,st'.fns[st.fns.length]? = some x∧x.node=i∧x.parent=(f:Int)):=by
 unfold bo at e;have hx:((ez i f h st).cK i (2,(((ez i f h st).fn st.fns.length).vars.length:Int))).fns[st.fns.length]? = some ⟨i,(f:Int),h.names.length,decide (h.num=1),[],[]⟩:=by
  show(st.fns++[_])[st.fns.length]? = _
  simp
 obtain⟨h1,h2,h3,h4,_,a,h6,h7⟩:=wH _ e hx;have hF:st'.fns=st.fns++[j5 ⟨i,(f:Int),h.names.length,decide (h.num=1),[],[]⟩ i h.names]:=by
  rw[h1];show(st.fns++[_]).set st.fns.length _=_
  rw[List.set_append_right _ _ (ah _)];simp
 have hE:ur st.fns st'.fns:=by rw[hF];exact .app _ _
 have hl:st'.fns[st.fns.length]? = some (j5 ⟨i,(f:Int),h.names.length,decide (h.num=1),[],[]⟩ i h.names):=by rw[hF];simp
 refine⟨⟨⟨by rw[hF];simp,fun g y hy=>?_⟩,by rw[hF];simp,fun n hn=>?_⟩,hE,by rw[hF];simp,h3,fun j hj=>by rw[h2];exact af hj,h4,_,hl,rfl,rfl⟩
 ·by_cases hg:g<st.fns.length
  ·have hy':st.fns[g]? = some y:=by rw[hF,kC hg] at hy;exact hy
   obtain⟨p,q⟩:=c.ok.each _ _ hy';exact⟨p,q⟩
  ·have hlt:=(aK.1 hy).1
   rw[hF] at hlt;simp only[cC,List.length_cons,List.length_nil] at hlt;have vh:g=st.fns.length:=by omega
   subst vh;rw[hl] at hy;injection hy with hy;subst hy;exact⟨.inr ⟨f,rfl,c.lt⟩,by unfold j5;simp⟩
 ·rw[h6] at hn
  rcases dj.1 hn with hn|hn
  ·obtain⟨k1,v,k2,k3⟩:=h7 n hn
   exact⟨by rw[k1];exact .same,_,v,by rw[k1];exact hl,k2,k3⟩
  ·obtain⟨k1,k2⟩:=(c.names n hn).ext hE
   exact⟨.up hl rfl k1,k2⟩
theorem qc (x:dr) (i:Nat):qa x (cZ x i):=by
 unfold cZ;split
 ·rename_i v hv
  refine⟨rfl,rfl,rfl,rfl,fun j w hw=>?_,fun _ _ h=>h⟩
  by_cases hj:j=i
  ·subst hj
   rw[hv] at hw;injection hw with hw;subst hw;exact⟨_,dR (aK.1 hv).1,rfl,rfl,fun _=>rfl⟩
  ·exact⟨w,by rw[fD (fun e=>hj e.symm)];exact hw,rfl,rfl,id⟩
 ·exact .refl x
theorem Xt {i f:Nat} {s:ByteArray} {line:Int} {st st':aF} (h:lP i f s line st=.ok st') (c:Cx f st) (hi:st.of i=(f:Int)):kt [i] f st st'∧st'.frames=st.frames∧st'.of=st.of∧Y5 st' s i:=by
 unfold lP at h;split at h
 ·injection h with h
  subst h;exact⟨sX c _ _,rfl,rfl,f,hi,.inl (uu _ _ _)⟩
 ·rename_i n hn
  have hs:n.s=s:=iB (by simpa using List.find?_some hn)
  obtain⟨ha,y,v,hy,hv,Ss⟩:=c.names n (JF hn);split at h
  ·rename_i hf
   injection h with h;subst h;refine⟨sX c _ _,rfl,rfl,f,hi,.inr (.inl ⟨n.i,uu _ _ _,y,v,?_,hv,Ss.trans hs⟩)⟩;rw[←hf];exact hy
  ·rename_i hf
   split at h
   ·cases h
   ·rename_i F k hk
    injection h with h;subst h;have e0:st.fn n.fn=y:=gA hy;rw[e0] at hk;have hyl:=(aK.1 hy).1;have hE0:ur st.fns (st.fns.set n.fn (cZ y n.i)):=.set hy (qc y n.i);obtain⟨e1,e2,e3,hl⟩:=EM _ hk (c.ok.set hy (qc y n.i)) (ha.ext hE0) hf (by rw[kG];exact c.lt) ⟨cZ y n.i,{ v with cap:=true},dR hyl,by
     unfold cZ;rw[hv];exact dR (aK.1 hv).1,Ss,rfl⟩
    refine⟨⟨hE0.trans e1,e2,fun j hj=>⟨af (by simpa using hj),rfl⟩,⟨[],rfl,fun n hn=>by simp at hn⟩,fun g x k1 k2=>?_⟩,rfl,rfl,f,hi,.inr (.inr ⟨k,uu _ _ _,by rw[←hs];exact hl⟩)⟩
    have:=(aK.1 k2).1;have e4:F.length=st.fns.length:=by rw[e3,kG]
    have e5:(({ st with fns:=F}:aF).cK i (3,(k:Int))).fns=F:=rfl;rw[e5] at this;omega
theorem Na {i f:Nat} {line:Int} {st st':aF} (h:dY i f line st=.ok st') (c:Cx f st) (hi:st.of i=(f:Int)):kt [i] f st st'∧st'.frames=st.frames∧st'.of=st.of∧∀V,Xs V st.fr st' i:=by
 unfold dY at h;split at h
 ·cases h
 ·rename_i x hx
  injection h with h;subst h;have h1:=List.find?_some hx;simp only[di,iy] at h1;exact⟨sX c _ _,rfl,rfl,fun V=>⟨f,x.node,hi,uu _ _ _,.inr ⟨x.core,jT (JF hx),h1.2,.inl ⟨h1.1,rfl⟩⟩⟩⟩
theorem Su {i f:Nat} {s:ByteArray} {line:Int} {st st':aF} (c:Cx f st) (hi:st.of i=(f:Int)) :∀(l:List e8),dm i f s line st l=.ok st'→(∀x∈l,x∈st.frames)→kt [i] f st st'∧st'.frames=st.frames∧st'.of=st.of∧∀V,Xs V st.fr st' i:=by
 intro l;induction l with
 | nil=>intro h;cases h
 | cons x l ih =>
  intro h hl;rw[dm] at h;split at h
  ·exact ih h fun y hy=>hl y (bY _ hy)
  ·rename_i hc
   rw[not_or,Decidable.not_not] at hc;split at h
   ·exact ih h fun y hy=>hl y (bY _ hy)
   ·rename_i j hj
    split at h
    ·cases h
    ·injection h with h
     subst h;obtain⟨hlt,he,_⟩:=yW.1 hj;refine⟨sX c _ _,rfl,rfl,fun V=>⟨f,_,hi,uu _ _ _,.inr ⟨x.core,jT (hl x (bV ..)),hc.2,(.inr ⟨show x.loop=false by simpa using hc.1,?_⟩)⟩⟩⟩
     have e:x.kids.getD j (.mk 0 ⟨0,0,0,0,⟨#[]⟩,[],[]⟩ [])=x.kids[j]:=by rw[kB,bX hlt];rfl
     rw[e];exact jT (JZ hlt)
theorem kt.uw {A B:List Nat} {f:Nat} {a b c:aF} (h:kt A f a b) (k:kt B f b c) (e:c.of=b.of):kt (A++B) f a c :=
 ⟨h.ext.trans k.ext,k.ok,fun j hj=>by
  rw[dj,not_or] at hj;exact⟨(k.off j hj.2).1.trans (h.off j hj.1).1,(k.off j hj.2).2.trans (h.off j hj.1).2⟩,by
  obtain⟨x,e1,h1⟩:=h.names;obtain⟨y,e2,h2⟩:=k.names;refine⟨y++x,by rw[e2,e1,fg],fun n hn=>?_⟩
  rcases dj.1 hn with hn|hn
  ·exact h2 n hn
  ·exact(h1 n hn).ext k.ext,fun g x h1 h2=>by
  by_cases hg:b.fns.length≤g
  ·exact⟨iV _ (k.new g x hg h2).1,(k.new g x hg h2).2⟩
  ·obtain⟨y,hy⟩ :∃y,b.fns[g]? = some y:=⟨_,bX (by omega)⟩
   obtain⟨x',sw,l⟩:=k.ext.2 g y hy;rw[h2] at sw;injection sw with sw;subst sw;obtain⟨m1,m2⟩:=h.new g y h1 hy;rw[←l.node] at m1 m2;exact⟨fU _ m1,by rw[e,m2,l.parent]⟩⟩
theorem kt.Xu {i:Nat} {L:List Nat} {f:Nat} {a b c:aF} (h:kt [i] f a b) (k:kt (i::L) f b c) (e:b.of i=(f:Int)) (e':c.of i=(f:Int)):kt (i::L) f a c :=
 ⟨h.ext.trans k.ext,k.ok,fun j hj=>by
  have hj':=hj;rw[bq,not_or] at hj';have h1:=h.off j (by simpa using hj'.1)
  exact⟨(k.off j hj).1.trans h1.1,(k.off j hj).2.trans h1.2⟩,by
  obtain⟨x,e1,h1⟩:=h.names;obtain⟨y,e2,h2⟩:=k.names;refine⟨y++x,by rw[e2,e1,fg],fun n hn=>?_⟩
  rcases dj.1 hn with hn|hn
  ·exact h2 n hn
  ·exact(h1 n hn).ext k.ext,fun g x h1 h2=>by
  by_cases hg:b.fns.length≤g
  ·exact k.new g x hg h2
  ·obtain⟨y,hy⟩ :∃y,b.fns[g]? = some y:=⟨_,bX (by omega)⟩
   obtain⟨x',sw,l⟩:=k.ext.2 g y hy;rw[h2] at sw;injection sw with sw;subst sw;obtain⟨m1,m2⟩:=h.new g y h1 hy;rw[bR] at m1;rw[l.node,m1];rw[m1,e] at m2;exact⟨bV ..,by rw[e',m2,l.parent]⟩⟩
theorem kt.rh {L:List Nat} {f:Nat} {a b:aF} {fr:List e8} (h:kt L f { a with frames:=fr} b):kt L f a b:=⟨h.ext,h.ok,h.off,h.names,h.new⟩
theorem Cx.AD {f:Nat} {a:aF} (fr:List e8) (h:Cx f a):Cx f { a with frames:=fr}:=⟨h.ok,h.lt,h.names⟩
theorem kt.at_ {L:List Nat} {f n:Nat} {a b:aF} (h:kt L f (a.at n) b):kt L f a b:=⟨h.ext,h.ok,h.off,h.names,h.new⟩
theorem Cx.at_ {f:Nat} {a:aF} (n:Nat) (h:Cx f a):Cx f (a.at n):=⟨h.ok,h.lt,h.names⟩
theorem quiet {V:List Nat} {fr:List e8} {st:aF} {i:Nat} {h:Nd} (h7:h.kind≠7) (EO:h.kind≠30) (EP:h.kind≠31):sg V fr st i h:=⟨fun e=>absurd e h7,fun e=>e.elim (fun e=>absurd e EO) fun e=>absurd e EP⟩
theorem ux {α β:Type} {x:Rs α} {g:α→β} {y:β} (h:x.map g=.ok y) :∃a,x=.ok a∧y=g a:=by
 cases x with
 | error e=>cases h
 | ok a=>injection h with h;exact⟨a,rfl,h.symm⟩
theorem iq {α β:Type} {x:Rs α} {g:α→Rs β} {y:β} (h:x.bind g=.ok y) :∃a,x=.ok a∧g a=.ok y:=by
 cases x with
 | error e=>cases h
 | ok a=>exact⟨a,rfl,h⟩
theorem AE {i f:Nat} {rep:Bool} {ks:List Lt} {st st':aF} (h:ft i f rep ks st=.ok st'):st'={ st with frames:=⟨f,i,0,false,rep,ks⟩::st.frames}:=by
 unfold ft at h;split at h
 ·cases h
 ·injection h with h
  exact h.symm
mutual
theorem kX :∀(t:Lt) {f:Nat} {mg st':aF},aV t f mg=.ok st'→t.gM.Nodup→Cx f mg→t.Wf →
  kt t.gM f mg st'∧st'.frames=mg.frames∧st'.of t.loc=(f:Int)∧Lt.All (sg t.gM mg.fr st') t
 | .mk i h ks,f,mg,st',hr,hn,c0,hw=>by
  rw[Lt.gM,lZ] at hn;obtain⟨sY,BZ⟩:=hn;unfold Lt.Wf at hw;obtain⟨⟨hk0,acu⟩,UH⟩:=hw;have S1:=EN c0 i f;have c:=S1.cx c0;have hi:(mg.setOf i f).of i=(f:Int):=M8 _ _ _;have nZ:(mg.setOf i f).fr=mg.fr:=rfl;have ER:(mg.setOf i f).frames=mg.frames:=rfl;have PC:(mg.setOf i f).names=mg.names:=rfl;have hfn:(mg.setOf i f).fns=mg.fns:=rfl;rw[Lt.gM];unfold Lt.All;show _∧_∧st'.of i=(f:Int)∧_
  unfold aV at hr;generalize mg.setOf i f=st at *;rw[←nZ];have hd :∀j∈[i],j∉Lt.bx ks:=fun j hj=>by rw[bR] at hj;rw[hj];exact sY
  have up :∀{fr:List e8} {s:aF},Lt.ed (sg (Lt.bx ks) fr s) ks→Lt.ed (sg (i::Lt.bx ks) fr s) ks:=fun ha=>Lt.ed.imp ks (fun j _ h q=>q.more fun t ht=>bY _ ht) ha
  by_cases h6:h.kind=6
  ·rw[al h6] at hr
   split at hr
   ·injection hr with hr
    subst hr;have:=hk0 (.inl h6);subst this;exact⟨by simpa[Lt.bx] using S1,ER,hi,quiet (by omega) (by omega) (by omega),by unfold Lt.ed;trivial⟩
   ·cases hr
  rw[af h6] at hr;by_cases h7:h.kind=7
  ·rw[al h7] at hr
   have:=hk0 (.inr (.inl h7));subst this;obtain⟨a1,a2,a3,a4⟩:=Xt hr c hi;exact⟨(S1.uw a1 a3).more (by simp),a2.trans ER,by rw[a3];exact hi,⟨fun _=>a4,fun e=>by omega⟩,by unfold Lt.ed;trivial⟩
  rw[af h7] at hr;by_cases h11:h.kind=11
  ·rw[al h11] at hr
   obtain⟨s1,e1,hr⟩:=iq hr;obtain⟨s2,e2,rfl⟩:=ux hr;obtain⟨cx,b1,b2,b3,b4,b5,x,b6,b7,b8⟩:=wI e1 c;obtain⟨a1,_,a3,a4⟩:=gi ks e2 BZ cx UH;have zR:s2.of i=(f:Int):=by rw[(a1.off i sY).2,b3];exact hi
   refine⟨⟨S1.ext.trans (b1.trans a1.ext),a1.ok,fun j hj=>?_,⟨[],PC,fun n hn=>by simp at hn⟩,fun g y k1 k2=>?_⟩,ER,zR,quiet (by omega) (by omega) (by omega),?_⟩
   ·rw[bq,not_or] at hj
    obtain⟨q1,q2⟩:=a1.off j hj.2;obtain⟨q3,q4⟩:=S1.off j (by simpa using hj.1)
    exact⟨by rw[←q3,←b4 j hj.1];exact q1,by rw[←q4,←b3];exact q2⟩
   ·have k2:s2.fns[g]? = some y:=k2
    by_cases hg:s1.fns.length≤g
    ·exact⟨bY _ (a1.new g y hg k2).1,(a1.new g y hg k2).2⟩
    ·have vh:g=st.fns.length:=by rw[←hfn] at k1;omega
     subst vh;obtain⟨x',m1,m2⟩:=a1.ext.2 _ _ b6;rw[k2] at m1;injection m1 with m1;subst m1;have e3:y.node=i:=m2.node.trans b7;exact⟨by rw[e3];exact bV ..,by rw[e3,m2.parent,b8];exact zR⟩
   ·have e4:s1.fr=st.fr:=by unfold aF.fr;rw[b5]
    rw[e4] at a4;exact up (Lt.ed.imp ks (fun j _ _ q=>q.same rfl rfl rfl) a4)
  rw[af h11] at hr;by_cases mc:h.kind=18
  ·rw[al mc] at hr
   obtain⟨s1,e1,hr⟩:=iq hr;obtain⟨s2,e2,rfl⟩:=ux hr;have e1:=AE e1;subst e1;obtain⟨a1,_,a3,a4⟩:=ri ks e2 BZ (c.AD _) UH;have zR:s2.of i=(f:Int):=by rw[(a1.off i sY).2];exact hi
   refine⟨S1.trans a1.rh.back hd |>.more (by simp),ER,zR,quiet (by omega) (by omega) (by omega),up (Lt.ed.imp ks (fun j _ _ q=>?_) a4)⟩
   have q:sg (Lt.bx ks) (_::st.fr) s2 _ _:=q;refine(q.left fun t ht=>?_).same rfl rfl rfl
   rcases ht with ⟨ht,_⟩ | ⟨_,ht⟩
   ·cases ht
   ·obtain⟨k,hk,rfl⟩:=jr.1 ht
    exact⟨qb hk,a3 k hk⟩
  rw[af mc] at hr;by_cases Lf:h.kind=19
  ·rw[al Lf] at hr
   obtain⟨s1,e1,e2⟩:=iq hr;obtain⟨a1,a2,a3,a4⟩:=gi ks e1 BZ c UH;have S2:=S1.trans a1 hd;obtain⟨b1,b2,b3⟩:=nm e2 (a1.cx c);refine⟨(S2.uw b1 b3).more (fun z hz=>by simp only[dj,bq,oh,oo] at hz ⊢;rcases hz with (hz|hz)|hz<;>simp[hz]),(b2.trans a2).trans ER,by rw[b3,(a1.off i sY).2];exact hi,quiet (by omega) (by omega) (by omega),up (Lt.ed.imp ks (fun j hj _ q=>q.later b1 ?_ ?_) a4)⟩
   ·intro e;rw[bR] at e;rw[e] at hj;exact sY hj
   ·intro t ht e;rw[bR] at e;rw[e] at ht;exact sY ht
  rw[af Lf] at hr;by_cases PD:h.kind=23
  ·rw[al PD] at hr
   obtain⟨s2,e2,rfl⟩:=ux hr;obtain⟨a1,_,a3,a4⟩:=gi ks e2 BZ (c.AD _) UH;have zR:s2.of i=(f:Int):=by rw[(a1.off i sY).2];exact hi
   refine⟨S1.trans a1.rh.back hd |>.more (by simp),ER,zR,quiet (by omega) (by omega) (by omega),Lt.ed.imp ks (fun j _ _ q=>?_) (up a4)⟩
   have q:sg (i::Lt.bx ks) (_::st.fr) s2 _ _:=q;refine(q.left fun t ht=>?_).same rfl rfl rfl
   rcases ht with ⟨_,ht⟩ | ⟨ht,_⟩
   ·rw[ht];exact⟨bV ..,zR⟩
   ·cases ht
  rw[af PD] at hr;by_cases Nb:h.kind=24
  ·rw[al Nb] at hr
   obtain⟨s2,e2,rfl⟩:=ux hr;obtain⟨a1,a3,a4⟩:=Sv ks e2 BZ (c.AD _) UH (acu Nb);have zR:s2.of i=(f:Int):=by rw[(a1.off i sY).2];exact hi
   refine⟨S1.trans a1.rh.back hd |>.more (by simp),ER,zR,quiet (by omega) (by omega) (by omega),Lt.ed.imp ks (fun j _ _ q=>?_) (up a4)⟩
   have q:sg (i::Lt.bx ks) (_::st.fr) s2 _ _:=q;refine(q.left fun t ht=>?_).same rfl rfl rfl
   rcases ht with ⟨_,ht⟩ | ⟨ht,_⟩
   ·rw[ht];exact⟨bV ..,zR⟩
   ·cases ht
  rw[af Nb] at hr;by_cases PE:h.kind=26∨h.kind=27
  ·rw[al PE] at hr
   obtain⟨a1,a2,a3,a4⟩:=AF ks hr sY BZ c UH hi;exact⟨(S1.Xu a1 hi a3).more (by simp),a2.trans ER,a3,quiet (by omega) (by omega) (by omega),a4⟩
  rw[af PE] at hr;by_cases PF:h.kind=28
  ·rw[al PF] at hr
   obtain⟨s1,e1,e2⟩:=iq hr;obtain⟨b1,b2,b3⟩:=nm e1 c;obtain⟨a1,a2,a3,a4⟩:=gi ks e2 BZ (b1.cx c) UH;have S2:=S1.uw b1 b3;have e4:s1.fr=st.fr:=by unfold aF.fr;rw[b2]
   rw[e4] at a4;exact⟨(S2.trans a1 (by simpa using sY)).more (by simp),(a2.trans b2).trans ER,by rw[(a1.off i sY).2,b3];exact hi,quiet (by omega) (by omega) (by omega),up a4⟩
  rw[af PF] at hr;by_cases EO:h.kind=30
  ·rw[al EO] at hr
   have:=hk0 (.inr (.inr (.inl EO)));subst this;obtain⟨a1,a2,a3,a4⟩:=Na hr c hi;exact⟨(S1.uw a1 a3).more (by simp),a2.trans ER,by rw[a3];exact hi,⟨fun e=>by omega,fun _=>a4 _⟩,by unfold Lt.ed;trivial⟩
  rw[af EO] at hr;by_cases EP:h.kind=31
  ·rw[al EP] at hr
   have:=hk0 (.inr (.inr (.inr EP)));subst this;obtain⟨a1,a2,a3,a4⟩:=Su c hi _ hr (fun _ h=>h)
   exact⟨(S1.uw a1 a3).more (by simp),a2.trans ER,by rw[a3];exact hi,⟨fun e=>by omega,fun _=>a4 _⟩,by unfold Lt.ed;trivial⟩
  rw[af EP] at hr;obtain⟨a1,a2,a3,a4⟩:=gi ks hr BZ c UH;exact⟨S1.trans a1 hd,a2.trans ER,by rw[(a1.off i sY).2];exact hi,quiet h7 EO EP,up a4⟩
theorem gi :∀(ks:List Lt) {f:Nat} {st st':aF},aE ks f st=.ok st'→(Lt.bx ks).Nodup→Cx f st→Lt.yj ks →
  kt (Lt.bx ks) f st st'∧st'.frames=st.frames∧(∀k∈ks,st'.of k.loc=(f:Int))∧Lt.ed (sg (Lt.bx ks) st.fr st') ks
 | [],f,st,st',hr,_,c,_=>by
  unfold aE at hr;injection hr with hr;subst hr;exact⟨.refl c,rfl,fun k hk=>by simp at hk,by unfold Lt.ed;trivial⟩
 | k::ks,f,st,st',hr,hn,c,hw=>by
  unfold aE at hr;obtain⟨s1,e1,e2⟩:=iq hr;rw[Lt.bx,oe] at hn;obtain⟨n1,n2,n3⟩:=hn;unfold Lt.yj at hw;obtain⟨a1,a2,a3,a4⟩:=kX k e1 n1 c hw.1;obtain⟨b1,b2,b3,b4⟩:=gi ks e2 n2 (a1.cx c) hw.2;have hd :∀j∈k.gM,j∉Lt.bx ks:=fun j h1 h2=>n3 j h1 j h2 rfl
  have nZ:s1.fr=st.fr:=by unfold aF.fr;rw[a2]
  rw[Lt.bx];refine⟨a1.trans b1 hd,b2.trans a2,fun x hx=>?_,?_⟩
  ·rcases bq.1 hx with rfl|hx
   ·rw[(b1.off _ (hd _ (yk _))).2];exact a3
   ·exact b3 x hx
  ·unfold Lt.ed
   rw[nZ] at b4;exact⟨Lt.All.imp k (fun j hj _ q=>(q.later b1 (hd j hj) hd).more fun t ht=>fU _ ht) a4,Lt.ed.imp ks (fun j _ _ q=>q.more fun t ht=>iV _ ht) b4⟩
theorem ri :∀(ks:List Lt) {n f:Nat} {st st':aF},bz ks n f st=.ok st'→(Lt.bx ks).Nodup→Cx f st→Lt.yj ks →
  kt (Lt.bx ks) f st st'∧st'.fr=st.fr∧(∀k∈ks,st'.of k.loc=(f:Int))∧Lt.ed (sg (Lt.bx ks) st.fr st') ks
 | [],_,f,st,st',hr,_,c,_=>by
  unfold bz at hr;injection hr with hr;subst hr;exact⟨.refl c,rfl,fun k hk=>by simp at hk,by unfold Lt.ed;trivial⟩
 | k::ks,n,f,st,st',hr,hn,c,hw=>by
  unfold bz at hr;obtain⟨s1,e1,e2⟩:=iq hr;rw[Lt.bx,oe] at hn;obtain⟨n1,n2,n3⟩:=hn;unfold Lt.yj at hw;obtain⟨a1,a2,a3,a4⟩:=kX k e1 n1 (c.at_ n) hw.1;have a1:=a1.at_;obtain⟨b1,b2,b3,b4⟩:=ri ks e2 n2 (a1.cx c) hw.2;have hd :∀j∈k.gM,j∉Lt.bx ks:=fun j h1 h2=>n3 j h1 j h2 rfl
  have nZ:s1.fr=st.fr:=by unfold aF.fr;rw[a2];exact UG st n
  rw[Lt.bx];refine⟨a1.trans b1 hd,b2.trans nZ,fun x hx=>?_,?_⟩
  ·rcases bq.1 hx with rfl|hx
   ·rw[(b1.off _ (hd _ (yk _))).2];exact a3
   ·exact b3 x hx
  ·unfold Lt.ed
   rw[nZ] at b4;rw[UG] at a4;exact⟨Lt.All.imp k (fun j hj _ q=>(q.later b1 (hd j hj) hd).more fun t ht=>fU _ ht) a4,Lt.ed.imp ks (fun j _ _ q=>q.more fun t ht=>iV _ ht) b4⟩
theorem Sv :∀(ks:List Lt) {f:Nat} {st st':aF},kq ks f st=.ok st'→(Lt.bx ks).Nodup→Cx f st→Lt.yj ks→(∃b t,ks=[b,t]∧b.hd.kind=18) →
  kt (Lt.bx ks) f st st'∧(∀k∈ks,st'.of k.loc=(f:Int))∧Lt.ed (sg (Lt.bx ks) st.fr st') ks
 | [],f,st,st',hr,hn,c,hw,hk=>by obtain⟨b,t,hk,_⟩:=hk;cases hk
 | [_],f,st,st',hr,hn,c,hw,hk=>by obtain⟨b,t,hk,_⟩:=hk;cases hk
 | _::_::_::_,f,st,st',hr,hn,c,hw,hk=>by obtain⟨b,t,hk,_⟩:=hk;cases hk
 | [.mk i h ks,t],f,st,st',hr,hn,c,hw,hk=>by
  obtain⟨_,_,hk,mc⟩:=hk;injection hk with hk _;subst hk;have mc:h.kind=18:=mc;unfold kq at hr;obtain⟨s1,e1,hr⟩:=iq hr;obtain⟨s2,e2,e3⟩:=iq hr;have e1:=AE e1;subst e1;simp only[Lt.bx,Lt.gM,iX] at hn ⊢;rw[oe,lZ] at hn;obtain⟨⟨sY,BZ⟩,nt,n3⟩:=hn;simp only[Lt.yj,Lt.Wf] at hw;have S1:=EN c i f;have c1:=S1.cx c;obtain⟨a1,a2,a3,a4⟩:=ri ks e2 BZ (c1.AD _) hw.1.2;have A1:=S1.trans a1.rh (fun j hj=>by rw[bR] at hj;rw[hj];exact sY)
  obtain⟨b1,b2,b3,b4⟩:=kX t e3 nt (a1.rh.cx c1) hw.2.1;have hd :∀j∈i::Lt.bx ks,j∉t.gM:=fun j h1 h2=>n3 j h1 j h2 rfl
  have hi:st'.of i=(f:Int):=by rw[(b1.off i (hd i (bV ..))).2,(a1.off i sY).2];exact M8 _ _ _
  have Jt :∀k∈ks,st'.of k.loc=(f:Int):=fun k hk=>by rw[(b1.off _ (hd _ (bY _ (qb hk)))).2];exact a3 k hk
  have UI :∀{j:Nat} {x:Nd},sg (i::Lt.bx ks++t.gM) (⟨f,i,0,false,true,ks⟩::st.fr) st' j x→sg (i::Lt.bx ks++t.gM) st.fr st' j x:=fun q=>q.left fun z hz=>by
   rcases hz with ⟨hz,_⟩ | ⟨_,hz⟩
   ·cases hz
   ·obtain⟨k,hk,rfl⟩:=jr.1 hz
    exact⟨fU _ (bY _ (qb hk)),Jt k hk⟩
  refine⟨(A1.trans b1 hd),fun k hk=>?_,?_⟩
  ·rcases bq.1 hk with rfl|hk
   ·exact hi
   ·rw[bR] at hk
    rw[hk];exact b3
  ·unfold Lt.ed Lt.All
   have e5:s2.fr=⟨f,i,0,false,true,ks⟩::st.fr:=a2;rw[e5] at b4;refine⟨⟨quiet (by omega) (by omega) (by omega),Lt.ed.imp ks (fun j hj _ q=>UI ((q.later b1 (hd j (bY _ hj)) fun z hz=>hd z (bY _ hz)).more fun z hz=>fU _ (bY _ hz))) a4⟩,?_⟩
   unfold Lt.ed;exact⟨Lt.All.imp t (fun j _ _ q=>UI (q.more fun z hz=>iV _ hz)) b4,by unfold Lt.ed;trivial⟩
theorem AF {i:Nat} {line:Int} {names:List ByteArray} :∀(ks:List Lt) {f:Nat} {st st':aF},iH i line names ks f st=.ok st'→i∉Lt.bx ks→(Lt.bx ks).Nodup→Cx f st→Lt.yj ks→st.of i=(f:Int) →
  kt (i::Lt.bx ks) f st st'∧st'.frames=st.frames∧st'.of i=(f:Int)∧Lt.ed (sg (i::Lt.bx ks) st.fr st') ks
 | [],f,st,st',hr,_,_,c,_,hi=>by
  unfold iH at hr;injection hr with hr;subst hr;exact⟨(kt.refl c).more (by simp),rfl,hi,by unfold Lt.ed;trivial⟩
 | [b],f,st,st',hr,sY,hn,c,hw,hi=>by
  unfold iH at hr;obtain⟨s1,e1,hr⟩:=iq hr;obtain⟨s2,e2,rfl⟩:=ux hr;simp only[Lt.bx,iX] at sY hn ⊢;simp only[Lt.yj] at hw;obtain⟨b1,b2,b3⟩:=nm e1 (c.AD _);have b1:=b1.rh;obtain⟨a1,a2,a3,a4⟩:=kX b e2 hn (b1.cx c) hw.1;have zR:s2.of i=(f:Int):=by rw[(a1.off i sY).2,b3];exact hi
  refine⟨((b1.trans a1 (by simpa using sY)).more (by simp)).back,rfl,zR,?_⟩
  unfold Lt.ed;have e4:s1.fr=⟨f,i,0,true,false,[]⟩::st.fr:=by unfold aF.fr;rw[b2];rfl
  rw[e4] at a4;refine⟨Lt.All.imp b (fun j _ _ q=>?_) a4,by unfold Lt.ed;trivial⟩
  refine((q.more fun z hz=>bY i hz).left fun t ht=>?_).same rfl rfl rfl
  rcases ht with ⟨_,ht⟩ | ⟨ht,_⟩
  ·rw[ht];exact⟨bV ..,zR⟩
  ·cases ht
 | a::b::l,f,st,st',hr,sY,hn,c,hw,hi=>by
  unfold iH at hr;obtain⟨s1,e1,e2⟩:=iq hr;rw[Lt.bx,oe] at hn;rw[Lt.bx,dj,not_or] at sY;obtain⟨n1,n2,n3⟩:=hn;unfold Lt.yj at hw;obtain⟨a1,a2,a3,a4⟩:=kX a e1 n1 c hw.1;have hi1:s1.of i=(f:Int):=by rw[(a1.off i sY.1).2];exact hi
  obtain⟨b1,b2,b3,b4⟩:=AF (b::l) e2 sY.2 n2 (a1.cx c) hw.2 hi1;have hd :∀j∈a.gM,j∉i::Lt.bx (b::l):=fun j h1 h2=>by
   rcases bq.1 h2 with rfl|h2
   ·exact sY.1 h1
   ·exact n3 j h1 j h2 rfl
  have nZ:s1.fr=st.fr:=by unfold aF.fr;rw[a2]
  have hL :∀z,z∈a.gM++(i::Lt.bx (b::l))→z∈i::Lt.bx (a::b::l):=fun z hz=>by
   rw[Lt.bx];simp only[dj,bq] at hz ⊢;rcases hz with hz|hz|hz
   ·exact .inr (.inl hz)
   ·exact .inl hz
   ·exact .inr (.inr hz)
  refine⟨(a1.trans b1 hd).more hL,b2.trans a2,b3,?_⟩;rw[nZ] at b4;unfold Lt.ed;exact⟨Lt.All.imp a (fun j hj _ q=>(q.later b1 (hd j hj) hd).more fun t ht=>hL t (fU _ ht)) a4,Lt.ed.imp (b::l) (fun j _ _ q=>q.more fun t ht=>hL t (iV _ ht)) b4⟩
end
mutual
def Lt.ast:Lt→Ast
 | .mk _ h ks=>.mk h (Lt.aaE ks)
def Lt.aaE:List Lt→List Ast
 | []=>[]
 | k::ks=>Lt.ast k::Lt.aaE ks
end
mutual
def Lt.size:Lt→Nat
 | .mk _ _ ks=>Lt.ak ks+1
def Lt.ak:List Lt→Nat
 | []=>0
 | k::ks=>Lt.size k+Lt.ak ks
end
mutual
theorem Lt.wJ :∀t:Lt,t.gM.length=t.size
 | .mk i h ks=>by rw[Lt.gM,Lt.size,List.length_cons,Lt.uy ks]
theorem Lt.uy :∀ks:List Lt,(Lt.bx ks).length=Lt.ak ks
 | []=>by rw[Lt.bx,Lt.ak];rfl
 | k::ks=>by rw[Lt.bx,Lt.ak,cC,Lt.wJ k,Lt.uy ks]
end
theorem pb :∀a b:List Lt,Lt.ak (a++b)=Lt.ak a+Lt.ak b
 | [],b=>by rw[kF,show Lt.ak []=0 by rw[Lt.ak],iY]
 | k::a,b=>by rw[fh,Lt.ak,Lt.ak,pb a b,pC]
theorem ES {T:List Nd} :∀{ks:List Lt},Lt.uq T ks→∀k∈ks,Lt.In T k
 | [],_,k,h=>by simp at h
 | x::ks,hi,k,h=>by
  unfold Lt.uq at hi;rcases bq.1 h with rfl|h
  ·exact hi.1
  ·exact ES hi.2 k h
theorem Dh {T:List Nd} {t:Lt} (h:Lt.In T t):Lt.uq T t.sub∧T[t.loc]? = some t.hd∧t.hd.kids=t.sub.map (fun k=>(k.loc:Int)):=by
 cases t with
 | mk i h' ks=>unfold Lt.In at h;exact⟨h.2.2,h.1,h.2.1⟩
theorem AG (t:Lt):t.size=Lt.ak t.sub+1:=by cases t with|mk i h ks=>rw[Lt.size];rfl
end Go.Proofs.YteflkdlaoiijbaaGreatDoor
namespace Go.Proofs.YteflkdlaoiijbaaGreatDoor
mutual
/-- Of one form; names are renamed. -/
def yT (ρ:ByteArray→ByteArray):Lt→Lt→Prop
 | .mk _ h ks,u=>u.hd.kind=h.kind∧u.hd.num=h.num∧u.hd.s=ρ h.s∧u.hd.names=h.names.map ρ∧dI ρ ks u.sub
def dI (ρ:ByteArray→ByteArray):List Lt→List Lt→Prop
 | [],ls=>ls=[]
 | k::ks,ls=>∃l Iq,ls=l::Iq∧yT ρ k l∧dI ρ ks Iq
end
theorem yT.kind {ρ:ByteArray→ByteArray} {t u:Lt} (h:yT ρ t u):u.hd.kind=t.hd.kind:=by cases t;unfold yT at h;exact h.1
theorem yT.s {ρ:ByteArray→ByteArray} {t u:Lt} (h:yT ρ t u):u.hd.s=ρ t.hd.s:=by cases t;unfold yT at h;exact h.2.2.1
structure FS (ρ:ByteArray→ByteArray) (x y:dr):Prop where
 parent:y.parent=x.parent
 params:y.params=x.params
 many:y.many=x.many
 cz:y.cz=x.cz
 vars:y.vars.map (fun v=>(v.name,v.cap))=x.vars.map fun v=>(ρ v.name,v.cap)
theorem FS.len {ρ:ByteArray→ByteArray} {x y:dr} (h:FS ρ x y):y.vars.length=x.vars.length:=by
 have:=az List.length h.vars;simpa using this
def FR (ρ:ByteArray→ByteArray) (a b:List dr):Prop:=b.length=a.length∧∀f,FS ρ (a.getD f ⟨0,0,0,false,[],[]⟩) (b.getD f ⟨0,0,0,false,[],[]⟩)
theorem FR.set {ρ:ByteArray→ByteArray} {a b:List dr} (h:FR ρ a b) {f:Nat} {x y:dr} (e:FS ρ x y):FR ρ (a.set f x) (b.set f y) :=
 ⟨by simp[h.1],fun g=>by
  have:=h.2 g;simp only[kB] at this ⊢;by_cases hg:f=g
  ·subst hg
   by_cases hl:f<a.length
   ·rw[dR hl,dR (by rw[h.1];exact hl)];exact e
   ·rw[DK (by omega),DK (by rw[h.1];omega)];exact this
  ·rw[fD hg,fD hg];exact this⟩
theorem FR.app {ρ:ByteArray→ByteArray} {a b:List dr} (h:FR ρ a b) {x y:dr} (e:FS ρ x y):FR ρ (a++[x]) (b++[y]) :=
 ⟨by simp[h.1],fun g=>by
  have:=h.2 g;simp only[kB] at this ⊢;rcases Nat.lt_trichotomy g a.length with hg|hg|hg
  ·rw[kC hg,kC (by rw[h.1];exact hg)];exact this
  ·subst hg
   have e1:(b++[y])[a.length]? = some y:=by rw[←h.1];simp
   rw[e1];simpa using e
  ·rw[vF (by simp;omega),vF (by simp[h.1];omega)]
   exact⟨rfl,rfl,rfl,rfl,rfl⟩⟩
structure FrS (ρ:ByteArray→ByteArray) (x y:e8):Prop where
 fn:y.fn=x.fn
 at_:y.at_=x.at_
 loop:y.loop=x.loop
 rep:y.rep=x.rep
 kids:dI ρ x.kids y.kids
def Blank (E:List e8):Prop:=∀x∈E,x.loop=false∧∀s,ca x.kids s=none
inductive UJ (ρ:ByteArray→ByteArray):List e8→List e8→Prop
 | nil {B:List e8}:Blank B→UJ ρ [] B
 | cons {x y:e8} {l m:List e8}:FrS ρ x y→UJ ρ l m→UJ ρ (x::l) (y::m)
structure SR (ρ:ByteArray→ByteArray) (a b:aF):Prop where
 fns:FR ρ a.fns b.fns
 names:b.names=a.names.map fun n=>⟨ρ n.s,n.fn,n.i⟩
 frames:UJ ρ a.frames b.frames
def RR {α β:Type} (Q:α→β→Prop):Rs α→Rs β→Prop
 | .ok a,.ok b=>Q a b
 | .error e,.error e'=>e.1=e'.1
 | _,_=>False
theorem RR.bind {α β γ δ:Type} {Q:α→β→Prop} {Q':γ→δ→Prop} {x:Rs α} {y:Rs β} {g:α→Rs γ} {k:β→Rs δ} (h:RR Q x y) (hg :∀a b,Q a b→RR Q' (g a) (k b)):RR Q' (x.bind g) (y.bind k):=by
 cases x<;>cases y
 ·exact h
 ·exact h.elim
 ·exact h.elim
 ·exact hg _ _ h
theorem RR.map {α β γ δ:Type} {Q:α→β→Prop} {Q':γ→δ→Prop} {x:Rs α} {y:Rs β} {g:α→γ} {k:β→δ} (h:RR Q x y) (hg :∀a b,Q a b→Q' (g a) (k b)):RR Q' (x.map g) (y.map k):=by
 cases x<;>cases y
 ·exact h
 ·exact h.elim
 ·exact h.elim
 ·exact hg _ _ h
section
variable {ρ:ByteArray→ByteArray} (jR :∀a b,ρ a=ρ b→a=b)
theorem SR.fn {a b:aF} (h:SR ρ a b) (f:Nat):FS ρ (a.fn f) (b.fn f):=h.fns.2 f
theorem SR.use {a b:aF} (h:SR ρ a b) (i j:Nat) (u v:Int×Int):SR ρ (a.cK i u) (b.cK j v):=⟨h.fns,h.names,h.frames⟩
theorem SR.of_ {a b:aF} (h:SR ρ a b) (i j f g:Nat):SR ρ (a.setOf i f) (b.setOf j g):=⟨h.fns,h.names,h.frames⟩
theorem Nc {n n' f:Nat} {l l':Int} :∀(ns:List ByteArray) {a b:aF},SR ρ a b→RR (SR ρ) (du n f l ns a) (du n' f l' (ns.map ρ) b):=by
 intro ns;induction ns with
 | nil=>intro a b h;exact h
 | cons s ns ih =>
  intro a b h;rw[fW,du,du,(h.fn f).len];split
  ·exact rfl
  ·refine ih ⟨h.fns.set ⟨(h.fn f).parent,(h.fn f).params,(h.fn f).many,(h.fn f).cz,?_⟩,?_,h.frames⟩
   ·rw[l9,l9,(h.fn f).vars];rfl
   ·show _::b.names=List.map _ (_::a.names)
    rw[h.names];rfl
theorem nP {n n' f:Nat} {l l':Int} (ns:List ByteArray) {a b:aF} (h:SR ρ a b):RR (SR ρ) (bo n f l ns a) (bo n' f l' (ns.map ρ) b):=Nc ns (h.use _ _ _ _)
theorem wK {A B:List dr} (h:FR ρ A B) (f:Nat) (u:sd):(gz A f u=none∧gz B f u=none)∨∃A' B' k,gz A f u=some (A',k)∧gz B f u=some (B',k)∧FR ρ A' B':=by
 have e:=(h.2 f).cz;unfold gz;simp only[e];split
 ·exact .inr ⟨A,B,_,rfl,rfl,h⟩
 ·split
  ·exact .inl ⟨rfl,rfl⟩
  ·exact .inr ⟨_,_,_,rfl,rfl,h.set ⟨(h.2 f).parent,(h.2 f).params,(h.2 f).many,rfl,(h.2 f).vars⟩⟩
theorem Nf {n n':jj} (hf:n'.fn=n.fn) (hi:n'.i=n.i) :∀(g:Nat) {A B:List dr} (f:Nat),FR ρ A B→(lO n g A f=none∧lO n' g B f=none)∨∃A' B' k,lO n g A f=some (A',k)∧lO n' g B f=some (B',k)∧FR ρ A' B':=by
 intro g;induction g with
 | zero=>intro A B f _;exact .inl ⟨rfl,rfl⟩
 | succ g ih =>
  intro A B f h;rw[lO,lO];simp only[(h.2 f).parent,hf,hi];split
  ·exact wK h f _
  ·rcases ih ((A.getD f ⟨0,0,0,false,[],[]⟩).parent.toNat) h with ⟨h1,h2⟩ | ⟨A',B',k,h1,h2,h3⟩
   ·rw[h1,h2];exact .inl ⟨rfl,rfl⟩
   ·rw[h1,h2];exact wK h3 f _
theorem Sw {x y:dr} (h:FS ρ x y) (i:Nat):FS ρ (cZ x i) (cZ y i):=by
 refine⟨h.parent,h.params,h.many,h.cz,?_⟩;unfold cZ;dsimp only
 have e:(y.vars.map fun v=>(v.name,v.cap))[i]? = (x.vars.map fun v=>(ρ v.name,v.cap))[i]?:=by rw[h.vars]
 rw[iA,iA] at e;cases hx:x.vars[i]? with
 | none =>
  rw[hx] at e;cases hy:y.vars[i]? with
  | none=>exact h.vars
  | some w=>rw[hy] at e;cases e
 | some v =>
  rw[hx] at e;cases hy:y.vars[i]? with
  | none=>rw[hy] at e;cases e
  | some w =>
   rw[hy] at e;injection e with e;injection e with e1 e2;dsimp only
   rw[List.map_set,List.map_set,h.vars,e1]
include jR in
theorem Ng (s:ByteArray) :∀(l:List jj),(l.map fun n=>(⟨ρ n.s,n.fn,n.i⟩:jj)).find? (fun n=>decide (n.s=ρ s))=(l.find? fun n=>decide (n.s=s)).map fun n=>⟨ρ n.s,n.fn,n.i⟩:=by
 intro l;induction l with
 | nil=>rfl
 | cons n l ih =>
  rw[fW,kH,kH];have e:decide (ρ n.s=ρ s)=decide (n.s=s):=by
   by_cases h:n.s=s
   ·rw[h];simp
   ·rw[cr h,cr fun e=>h (jR _ _ e)]
  simp only[e];cases decide (n.s=s) with
  | true=>rfl
  | false=>exact ih
include jR in
theorem Sx {n n' f:Nat} {s:ByteArray} {l l':Int} {a b:aF} (h:SR ρ a b):RR (SR ρ) (lP n f s l a) (lP n' f (ρ s) l' b):=by
 unfold lP;have e:b.names.find? (fun n=>decide (n.s=ρ s))=(a.names.find? fun n=>decide (n.s=s)).map fun n=>⟨ρ n.s,n.fn,n.i⟩:=by rw[h.names,Ng jR]
 rw[e];cases hx:a.names.find? (fun n=>decide (n.s=s)) with
 | none=>exact h.use _ _ _ _
 | some x =>
  simp only[pB];by_cases hf:x.fn=f
  ·rw[al hf,al hf]
   exact h.use _ _ _ _
  ·rw[af hf,af hf,h.fns.1]
   rcases Nf (n:=x) (n':=⟨ρ x.s,x.fn,x.i⟩) rfl rfl a.fns.length f (h.fns.set (f:=x.fn) (Sw (h.fn x.fn) x.i)) with ⟨h1,h2⟩ | ⟨A',B',k,h1,h2,h3⟩
   ·rw[h1,h2];exact rfl
   ·rw[h1,h2]
    exact⟨h3,h.names,h.frames⟩
theorem qd {β:Type} {g g':Lt→β} (hg :∀t u,yT ρ t u→g' u=g t) :∀{ks ls:List Lt},dI ρ ks ls→ls.map g'=ks.map g
 | [],ls,h=>by unfold dI at h;rw[h];rfl
 | k::ks,ls,h=>by
  unfold dI at h;obtain⟨l,Iq,rfl,h0,h⟩:=h;rw[fW,fW,hg _ _ h0,qd hg h]
include jR in
theorem Ir {t u:Lt} (s:ByteArray) (h:yT ρ t u):kW (ρ s) u=kW s t:=by
 unfold kW;rw[h.kind,h.s];congr 1
 by_cases e:t.hd.s=s
 ·rw[e];simp
 ·rw[cr e,cr fun k=>e (jR _ _ k)]
theorem findIdx_map {α:Type} (g:α→Bool) :∀l:List α,l.findIdx? g=(l.map g).findIdx? id:=by
 intro l;induction l with
 | nil=>rfl
 | cons x l ih =>
  rw[fW,List.findIdx?_cons,List.findIdx?_cons,ih];rfl
include jR in
theorem rj {ks ls:List Lt} (s:ByteArray) (h:dI ρ ks ls):ca ls (ρ s)=ca ks s:=by
 unfold ca;rw[findIdx_map,findIdx_map (kW s),qd (fun _ _ h=>Ir jR s h) h]
include jR in
theorem Nh {A B:List e8} (f:Nat) (s:ByteArray) (h:UJ ρ A B):(∃x∈B,x.loop=false∧x.fn=f∧(ca x.kids (ρ s)).isSome)↔∃x∈A,x.loop=false∧x.fn=f∧(ca x.kids s).isSome:=by
 induction h with
 | nil hE =>
  refine⟨fun⟨x,hx,_,_,h⟩=>?_,fun⟨x,hx,_⟩=>by simp at hx⟩
  rw[(hE x hx).2] at h;cases h
 | cons h _ ih =>
  simp only[bq,exists_eq_or_imp,h.loop,h.fn,rj jR s h.kids,ih]
include jR in
theorem uz {A B:List e8} (h:UJ ρ A B) (f:Nat) {all Xv:List Lt} (ha:dI ρ all Xv) :∀{ks ls:List Lt} (n:Nat),dI ρ ks ls→(cA B f Xv n ls).isSome=(cA A f all n ks).isSome
 | [],ls,n,hs=>by unfold dI at hs;rw[hs];rfl
 | k::ks,ls,n,hs=>by
  unfold dI at hs;obtain⟨l,Iq,rfl,h0,hs⟩:=hs;rw[cA,cA];have e1:(∃j,ca Xv l.hd.s=some j∧j<n)↔∃j,ca all k.hd.s=some j∧j<n:=by rw[h0.s,rj jR _ ha]
  have e2:=Nh jR f k.hd.s h;rw[←h0.s] at e2;simp only[h0.kind,e1,e2];split
  ·rfl
  ·exact uz h f ha (n+1) hs
include jR in
theorem wL {i i' f:Nat} {rep:Bool} {ks ls:List Lt} {a b:aF} (h:SR ρ a b) (hs:dI ρ ks ls):RR (SR ρ) (ft i f rep ks a) (ft i' f rep ls b):=by
 unfold ft;have e:=uz jR h.frames f hs 0 hs;cases h1:cA a.frames f ks 0 ks with
 | none =>
  rw[h1] at e;cases h2:cA b.frames f ls 0 ls with
  | none=>exact⟨h.fns,h.names,.cons ⟨rfl,rfl,rfl,rfl,hs⟩ h.frames⟩
  | some _=>rw[h2] at e;cases e
 | some _ =>
  rw[h1] at e;cases h2:cA b.frames f ls 0 ls with
  | none=>rw[h2] at e;cases e
  | some _=>exact rfl
theorem SR.at_ {a b:aF} (h:SR ρ a b) (n:Nat):SR ρ (a.at n) (b.at n):=by
 refine⟨h.fns,h.names,?_⟩;have hf:=h.frames;unfold aF.at;dsimp only
 revert hf
 generalize a.frames=A;generalize b.frames=B;cases A with
 | nil =>
  intro hf;cases hf with
  | nil hB =>
   cases B with
   | nil=>exact .nil hB
   | cons y m =>
    refine .nil fun z hz=>?_
    rcases bq.1 hz with rfl|hz
    ·exact hB y (bV ..)
    ·exact hB z (bY _ hz)
 | cons x l =>
  intro hf;cases hf with
  | cons h1 h2=>exact .cons ⟨h1.fn,rfl,h1.loop,h1.rep,h1.kids⟩ h2
theorem SR.dt {a b:aF} (h:SR ρ a b) (i j f:Nat):SR ρ (dt i f a) (dt j f b):=⟨h.fns,h.names,.cons ⟨rfl,rfl,rfl,rfl,by unfold dI;rfl⟩ h.frames⟩
theorem SR.back {a b a0 b0:aF} (h:SR ρ a b) (h0:SR ρ a0 b0):SR ρ (a.back a0) (b.back b0):=⟨h.fns,h0.names,h0.frames⟩
theorem Is {i j f:Nat} {l l':Int} {a b:aF} (h:SR ρ a b):RR (SR ρ) (dY i f l a) (dY j f l' b):=by
 unfold dY;have key :∀{A B:List e8},UJ ρ A B→(B.find? fun x=>x.loop && decide (x.fn=f)).isSome=(A.find? fun x=>x.loop && decide (x.fn=f)).isSome:=by
  intro A B h;induction h with
  | @nil E hE =>
   have:E.find? (fun x=>x.loop && decide (x.fn=f))=none:=DP.2 fun x hx=>by rw[(hE x hx).1];simp
   rw[this];rfl
  | cons h _ ih =>
   rw[kH,kH,h.loop,h.fn];split
   ·rfl
   ·exact ih
 have e:=key h.frames;cases h1:a.frames.find? (fun x=>x.loop && decide (x.fn=f)) with
 | none =>
  rw[h1] at e;cases h2:b.frames.find? (fun x=>x.loop && decide (x.fn=f)) with
  | none=>exact rfl
  | some _=>rw[h2] at e;cases e
 | some _ =>
  rw[h1] at e;cases h2:b.frames.find? (fun x=>x.loop && decide (x.fn=f)) with
  | none=>rw[h2] at e;cases e
  | some _=>exact h.use _ _ _ _
theorem AH {ks ls:List Lt} (h:dI ρ ks ls) (a j:Nat) (rep:Bool):lQ ls a j rep=lQ ks a j rep:=by
 have e1:ls.map isDecl=ks.map isDecl:=qd (fun t u h=>by unfold isDecl;rw[h.kind]) h
 have e2:ls.map (fun k=>decide (k.hd.kind=32))=ks.map fun k=>decide (k.hd.kind=32):=qd (fun t u h=>by rw[h.kind]) h
 have a1 :∀l:List Lt,l.any isDecl=(l.map isDecl).any id:=fun l=>by rw[List.any_map];rfl
 have a2 :∀l:List Lt,(l.all fun k=>decide (k.hd.kind=32))=(l.map fun k=>decide (k.hd.kind=32)).all id:=fun l=>by rw[List.all_map];rfl
 unfold lQ;rw[a1,a1,a2,a2,DW,List.map_take,DW,DW,List.map_take,DW,e1,e2]
include jR in
theorem Ni {i j f:Nat} {s:ByteArray} {l l':Int} {a b:aF} (h:SR ρ a b) :∀{A B:List e8},UJ ρ A B→RR (SR ρ) (dm i f s l a A) (dm j f (ρ s) l' b B):=by
 intro A B hf;induction hf with
 | nil hE =>
  have key :∀{X:List e8},Blank X→dm j f (ρ s) l' b X=.error (8,l'):=by
   intro X hX;induction X with
   | nil=>rfl
   | cons x X ih =>
    rw[dm,(hX x (bV ..)).2];simp only[ih fun y hy=>hX y (bY _ hy),ite_self]
  rw[key hE];exact rfl
 | cons h1 _ ih =>
  rw[dm,dm,h1.loop,h1.fn,rj jR s h1.kids];split
  ·exact ih
  ·split
   ·exact ih
   ·rw[AH h1.kids,h1.at_,h1.rep]
    split
    ·exact rfl
    ·exact h.use _ _ _ _
end
end Go.Proofs.YteflkdlaoiijbaaGreatDoor
namespace Go.Proofs.YteflkdlaoiijbaaGreatDoor
section
variable {ρ:ByteArray→ByteArray}
theorem Iu {i j f:Nat} {h g:Nd} {a b:aF} (hs:SR ρ a b) (h1:g.num=h.num) (h2:g.names=h.names.map ρ):SR ρ (ez i f h a) (ez j f g b) :=
 ⟨hs.fns.app ⟨rfl,by show g.names.length=h.names.length;rw[h2,cD],by show decide (g.num=1)=decide (h.num=1);rw[h1],rfl,rfl⟩,hs.names,hs.frames⟩
mutual
theorem kY (jR :∀a b,ρ a=ρ b→a=b) :∀(t u:Lt),yT ρ t u→∀(f:Nat) {a b:aF},SR ρ a b→RR (SR ρ) (aV t f a) (aV u f b)
 | .mk i h ks,.mk j g ls,hs,f,a0,b0,h0=>by
  unfold yT at hs;obtain⟨e1,e2,e3,e4,hk⟩:=hs;have e1:g.kind=h.kind:=e1;have e2:g.num=h.num:=e2;have e3:g.s=ρ h.s:=e3;have e4:g.names=h.names.map ρ:=e4;have hk:dI ρ ks ls:=hk;have hst:=h0.of_ i j f f;unfold aV;rw[e1,e3];generalize a0.setOf i f=a at *;generalize b0.setOf j f=b at *;by_cases h6:h.kind=6
  ·rw[al h6,al h6,(hst.fn f).many]
   split
   ·exact hst
   ·exact rfl
  rw[af h6,af h6];by_cases h7:h.kind=7
  ·rw[al h7,al h7]
   exact Sx jR hst
  rw[af h7,af h7];by_cases h11:h.kind=11
  ·rw[al h11,al h11,hst.fns.1,e4]
   exact RR.bind (nP _ (Iu hst e2 e4)) fun a1 b1 h1=>RR.map (jk jR ks ls hk _ h1) fun a2 b2 h2=>h2.back hst
  rw[af h11,af h11];by_cases mc:h.kind=18
  ·rw[al mc,al mc]
   exact RR.bind (wL jR hst hk) fun a1 b1 h1=>RR.map (rk jR ks ls hk 0 f h1) fun a2 b2 h2=>h2.back hst
  rw[af mc,af mc];by_cases Lf:h.kind=19
  ·rw[al Lf,al Lf,e4]
   exact RR.bind (jk jR ks ls hk f hst) fun a1 b1 h1=>nP _ h1
  rw[af Lf,af Lf];by_cases PD:h.kind=23
  ·rw[al PD,al PD]
   exact RR.map (jk jR ks ls hk f (hst.dt i j f)) fun a2 b2 h2=>h2.back hst
  rw[af PD,af PD];by_cases Nb:h.kind=24
  ·rw[al Nb,al Nb]
   exact RR.map (Sy jR ks ls hk f (hst.dt i j f)) fun a2 b2 h2=>h2.back hst
  rw[af Nb,af Nb];by_cases PE:h.kind=26∨h.kind=27
  ·rw[al PE,al PE,e4]
   exact AI jR ks ls hk f hst
  rw[af PE,af PE];by_cases PF:h.kind=28
  ·rw[al PF,al PF,e4]
   exact RR.bind (nP _ hst) fun a1 b1 h1=>jk jR ks ls hk f h1
  rw[af PF,af PF];by_cases EO:h.kind=30
  ·rw[al EO,al EO]
   exact Is hst
  rw[af EO,af EO];by_cases EP:h.kind=31
  ·rw[al EP,al EP]
   exact Ni jR hst hst.frames
  rw[af EP,af EP];exact jk jR ks ls hk f hst
termination_by structural t=>t
theorem jk (jR :∀a b,ρ a=ρ b→a=b) :∀(ks ls:List Lt),dI ρ ks ls→∀(f:Nat) {a b:aF},SR ρ a b→RR (SR ρ) (aE ks f a) (aE ls f b)
 | [],ls,hs,f,a,b,h=>by
  unfold dI at hs;subst hs;unfold aE;exact h
 | k::ks,ls,hs,f,a,b,h=>by
  unfold dI at hs;obtain⟨l,Iq,rfl,h0,hs⟩:=hs;unfold aE;exact RR.bind (kY jR k l h0 f h) fun a1 b1 h1=>jk jR ks Iq hs f h1
termination_by structural ks=>ks
theorem rk (jR :∀a b,ρ a=ρ b→a=b) :∀(ks ls:List Lt),dI ρ ks ls→∀(n f:Nat) {a b:aF},SR ρ a b→RR (SR ρ) (bz ks n f a) (bz ls n f b)
 | [],ls,hs,n,f,a,b,h=>by
  unfold dI at hs;subst hs;unfold bz;exact h
 | k::ks,ls,hs,n,f,a,b,h=>by
  unfold dI at hs;obtain⟨l,Iq,rfl,h0,hs⟩:=hs;unfold bz;exact RR.bind (kY jR k l h0 f (h.at_ n)) fun a1 b1 h1=>rk jR ks Iq hs (n+1) f h1
termination_by structural ks=>ks
theorem Sy (jR :∀a b,ρ a=ρ b→a=b) :∀(ks ls:List Lt),dI ρ ks ls→∀(f:Nat) {a b:aF},SR ρ a b→RR (SR ρ) (kq ks f a) (kq ls f b)
 | [],ls,hs,f,a,b,h=>by
  unfold dI at hs;subst hs;unfold kq;exact h
 | [.mk _ _ _],ls,hs,f,a,b,h=>by
  unfold dI dI at hs;obtain⟨l,Iq,rfl,h0,rfl⟩:=hs;cases l;unfold kq;exact h
 | .mk _ _ _::_::_::_,ls,hs,f,a,b,h=>by
  unfold dI dI dI at hs;obtain⟨l,Iq,rfl,h0,l1,ls1,rfl,h1,l2,ls2,rfl,_⟩:=hs;cases l;unfold kq;exact h
 | [.mk i h ks,t],ls,hs,f,a,b,hab=>by
  unfold dI dI dI at hs;obtain⟨l,Iq,rfl,h0,u,ls1,rfl,h1,rfl⟩:=hs;obtain⟨j,g,ms⟩:=l;unfold yT at h0;obtain⟨_,_,_,_,hk⟩:=h0;have hk:dI ρ ks ms:=hk;unfold kq;exact RR.bind (wL jR (hab.of_ i j f f) hk) fun a1 b1 h2=>RR.bind (rk jR ks ms hk 0 f h2) fun a2 b2 h3=>kY jR t u h1 f h3
termination_by structural ks=>ks
theorem AI (jR :∀a b,ρ a=ρ b→a=b) {i j:Nat} {line aaF:Int} {names:List ByteArray} :∀(ks ls:List Lt),dI ρ ks ls→∀(f:Nat) {a b:aF},SR ρ a b→RR (SR ρ) (iH i line names ks f a) (iH j aaF (names.map ρ) ls f b)
 | [],ls,hs,f,a,b,h=>by
  unfold dI at hs;subst hs;unfold iH;exact h
 | [k],ls,hs,f,a,b,h=>by
  unfold dI dI at hs;obtain⟨l,Iq,rfl,h0,rfl⟩:=hs;unfold iH;exact RR.bind (nP _ (h.dt i j f)) fun a1 b1 h1=>RR.map (kY jR k l h0 f h1) fun a2 b2 h2=>h2.back h
 | k::k2::ks,ls,hs,f,a,b,h=>by
  unfold dI at hs;obtain⟨l,Iq,rfl,h0,hs⟩:=hs;have hs':=hs;unfold dI at hs';obtain⟨l2,ls2,rfl,_,_⟩:=hs';unfold iH;exact RR.bind (kY jR k l h0 f h) fun a1 b1 h1=>AI jR (k2::ks) (l2::ls2) hs f h1
termination_by structural ks=>ks
end
end
end Go.Proofs.YteflkdlaoiijbaaGreatDoor
namespace Go.Proofs.YteflkdlaoiijbaaGreatDoor
theorem jl (n f:Nat) (st:aF):bz [] n f st=.ok st:=by unfold bz;rfl
theorem dD (k:Lt) (ks:List Lt) (n f:Nat) (st:aF):bz (k::ks) n f st=(aV k f (st.at n)).bind fun s=>bz ks (n+1) f s:=by conv=>lhs;unfold bz
theorem eE (f:Nat) (st:aF):aE [] f st=.ok st:=by unfold aE;rfl
theorem dP (k:Lt) (ks:List Lt) (f:Nat) (st:aF):aE (k::ks) f st=(aV k f st).bind fun s=>aE ks f s:=by conv=>lhs;unfold aE
theorem np (i:Nat) (line:Int) (names:List ByteArray) (b:Lt) (f:Nat) (st:aF):iH i line names [b] f st=(bo i f line names (dt i f st)).bind fun st1=>(aV b f st1).map fun st2=>st2.back st:=by conv=>lhs;unfold iH
theorem jm (i:Nat) (line:Int) (names:List ByteArray) (a b:Lt) (l:List Lt) (f:Nat) (st:aF):iH i line names (a::b::l) f st=(aV a f st).bind fun st1=>iH i line names (b::l) f st1:=by conv=>lhs;unfold iH
theorem yl (i:Nat) (h:Nd) (ks:List Lt) (t:Lt) (f:Nat) (st:aF):kq [.mk i h ks,t] f st=(ft i f true ks (st.setOf i f)).bind fun st1=>(bz ks 0 f st1).bind fun st2=>aV t f st2:=by conv=>lhs;unfold kq
section
variable (i:Nat) (h:Nd) (ks:List Lt) (f:Nat) (st:aF)
theorem cb:aV (.mk i h ks) f st =
  if h.kind=6 then (if ((st.setOf i f).fn f).many then .ok (st.setOf i f) else .error (14,h.line))
  else if h.kind=7 then lP i f h.s h.line (st.setOf i f)
  else if h.kind=11 then
   (bo i (st.setOf i f).fns.length h.line h.names (ez i f h (st.setOf i f))).bind fun st1=>(aE ks (st.setOf i f).fns.length st1).map fun st2=>st2.back (st.setOf i f)
  else if h.kind=18 then (ft i f false ks (st.setOf i f)).bind fun st1=>(bz ks 0 f st1).map fun st2=>st2.back (st.setOf i f)
  else if h.kind=19 then (aE ks f (st.setOf i f)).bind fun st1=>bo i f h.line h.names st1
  else if h.kind=23 then (aE ks f (dt i f (st.setOf i f))).map fun st1=>st1.back (st.setOf i f)
  else if h.kind=24 then (kq ks f (dt i f (st.setOf i f))).map fun st1=>st1.back (st.setOf i f)
  else if h.kind=26∨h.kind=27 then iH i h.line h.names ks f (st.setOf i f)
  else if h.kind=28 then (bo i f h.line h.names (st.setOf i f)).bind fun st1=>aE ks f st1
  else if h.kind=30 then dY i f h.line (st.setOf i f)
  else if h.kind=31 then dm i f h.s h.line (st.setOf i f) (st.setOf i f).frames
  else aE ks f (st.setOf i f):=by conv=>lhs;unfold aV
theorem Sz (hk:h.kind=11):aV (.mk i h ks) f st=(bo i (st.setOf i f).fns.length h.line h.names (ez i f h (st.setOf i f))).bind fun st1=>(aE ks (st.setOf i f).fns.length st1).map fun st2=>st2.back (st.setOf i f):=by
 rw[cb,af (by omega),af (by omega),al hk]
theorem ET (hk:h.kind=18):aV (.mk i h ks) f st=(ft i f false ks (st.setOf i f)).bind fun st1=>(bz ks 0 f st1).map fun st2=>st2.back (st.setOf i f):=by
 rw[cb,af (by omega),af (by omega),af (by omega),al hk]
theorem SB (hk:h.kind=19):aV (.mk i h ks) f st=(aE ks f (st.setOf i f)).bind fun st1=>bo i f h.line h.names st1:=by
 rw[cb,af (by omega),af (by omega),af (by omega),af (by omega),al hk]
theorem Di (hk:h.kind≠6∧h.kind≠7∧h.kind≠11∧h.kind≠18∧h.kind≠19∧h.kind≠23∧h.kind≠24∧h.kind≠26∧h.kind≠27∧h.kind≠28∧h.kind≠30∧h.kind≠31):aV (.mk i h ks) f st=aE ks f (st.setOf i f):=by
 rw[cb,af (by omega),af (by omega),af (by omega),af (by omega),af (by omega),af (by omega),af (by omega),af (by omega),af (by omega),af (by omega),af (by omega)]
end
end Go.Proofs.YteflkdlaoiijbaaGreatDoor
namespace Go.Proofs.YteflkdlaoiijbaaGreatDoor
theorem FS.start (ρ:ByteArray→ByteArray) (i j:Nat):FS ρ ⟨i,-1,0,true,[],[]⟩ ⟨j,-1,0,true,[],[]⟩:=⟨rfl,rfl,rfl,rfl,rfl⟩
theorem FR.one {ρ:ByteArray→ByteArray} {x y:dr} (h:FS ρ x y):FR ρ [x] [y] :=
 FR.app (a:=[]) (b:=[]) ⟨rfl,fun f=>by simp;exact⟨rfl,rfl,rfl,rfl,rfl⟩⟩ h
theorem SC {ρ:ByteArray→ByteArray} (jR :∀a b,ρ a=ρ b→a=b) {t u:Lt} (h:yT ρ t u):RR (fun a b=>FR ρ a.fns b.fns) (lR t) (lR u):=by
 have h1:SR ρ (gZ t.loc) (gZ u.loc):=⟨.one (.start ρ _ _),rfl,.nil fun x hx=>by simp[gZ] at hx⟩
 have:=kY jR t u h 0 h1;unfold lR;revert this
 cases aV t 0 (gZ t.loc)<;>cases aV u 0 (gZ u.loc)
 ·exact id
 ·exact id
 ·exact id
 ·exact fun h=>h.fns
mutual
def Lt.wt:Lt→Nat
 | .mk _ h ks=>h.names.length+Lt.ec ks
def Lt.ec:List Lt→Nat
 | []=>0
 | k::ks=>Lt.wt k+Lt.ec ks
end
def dQ (F:List dr):Prop:=∀(g:Nat) x,F[g]? = some x→x.vars.length≤200∧x.cz.length≤60
theorem dQ.set {F:List dr} (h:dQ F) {f:Nat} {x:dr} (hx:x.vars.length≤200∧x.cz.length≤60):dQ (F.set f x):=fun g y hy=>by
 by_cases e:f=g
 ·subst e
  by_cases hl:f<F.length
  ·rw[dR hl] at hy
   injection hy with hy;subst hy;exact hx
  ·rw[DK (by omega)] at hy
   exact h _ _ hy
 ·rw[fD e] at hy
  exact h _ _ hy
theorem dQ.app {F:List dr} (h:dQ F) {x:dr} (hx:x.vars.length≤200∧x.cz.length≤60):dQ (F++[x]):=fun g y hy=>by
 rw[List.getElem?_append] at hy;split at hy
 ·exact h _ _ hy
 ·have:=(aK.1 hy).1
  simp at this;rw[show g-F.length=0 by omega] at hy
  injection hy with hy;subst hy;exact hx
theorem dQ.getD {F:List dr} (h:dQ F) (f:Nat):(F.getD f ⟨0,0,0,false,[],[]⟩).vars.length≤200∧(F.getD f ⟨0,0,0,false,[],[]⟩).cz.length≤60:=by
 rw[kB];cases e:F[f]? with
 | none=>exact⟨bK _,bK _⟩
 | some x=>exact h f x e
structure Mk (a b:Nat) (st st':aF):Prop where
 few:dQ st'.fns
 names:st'.names.length≤st.names.length+a
 fns:st'.fns.length≤st.fns.length+b
 least:st.fns.length≤st'.fns.length
 frames:st'.frames.length=st.frames.length
theorem Mk.trans {a b c d:Nat} {x y z:aF} (h:Mk a b x y) (k:Mk c d y z):Mk (a+c) (b+d) x z:=⟨k.few,by have:=h.names;have:=k.names;omega,by have:=h.fns;have:=k.fns;omega,aL h.least k.least,k.frames.trans h.frames⟩
theorem Iv {n f:Nat} {l:Int} :∀(ns:List ByteArray) {st st':aF},du n f l ns st=.ok st'→dQ st.fns→Mk ns.length 0 st st':=by
 intro ns;induction ns with
 | nil =>
  intro st st' h hF;rw[du] at h;injection h with h;subst h;exact⟨hF,by simp,by simp,ah _,rfl⟩
 | cons s ns ih =>
  intro st st' h hF;rw[du] at h;split at h
  ·cases h
  ·rename_i hlt
   have h1:=ih h (hF.set ⟨by simp;omega,(hF.getD f).2⟩)
   refine⟨h1.few,?_,?_,?_,h1.frames⟩
   ·have:=h1.names
    simp only[List.length_cons] at this ⊢;omega
   ·have:=h1.fns
    simp only[aF.oB,kG] at this;omega
   ·have:=h1.least
    simp only[aF.oB,kG] at this;omega
theorem jI {n f:Nat} {l:Int} {ns:List ByteArray} {st st':aF} (h:bo n f l ns st=.ok st') (hF:dQ st.fns):Mk ns.length 0 st st':=by
 have:=Iv ns h hF;exact⟨this.few,this.names,this.fns,this.least,this.frames⟩
theorem wM {F F':List dr} {f k:Nat} {u:sd} (h:gz F f u=some (F',k)) (hF:dQ F):dQ F'∧F'.length=F.length:=by
 unfold gz at h;dsimp only at h
 split at h
 ·injection h with h
  injection h with h1 _;subst h1;exact⟨hF,rfl⟩
 ·split at h
  ·cases h
  ·injection h with h
   injection h with h1 _;subst h1;rename_i hlt;exact⟨hF.set ⟨(hF.getD f).1,by rw[cC,mw];omega⟩,by simp⟩
theorem AJ {n:jj} :∀(g:Nat) {F F':List dr} {f k:Nat},lO n g F f=some (F',k)→dQ F→dQ F'∧F'.length=F.length:=by
 intro g;induction g with
 | zero=>intro F F' f k h;cases h
 | succ g ih =>
  intro F F' f k h hF;rw[lO] at h;split at h
  ·exact wM h hF
  ·split at h
   ·cases h
   ·rename_i F1 k1 h1
    obtain⟨a1,a2⟩:=ih h1 hF;obtain⟨b1,b2⟩:=wM h a1;exact⟨b1,b2.trans a2⟩
theorem rl (x:dr) (i:Nat):(cZ x i).vars.length=x.vars.length∧(cZ x i).cz=x.cz:=by
 unfold cZ;refine⟨?_,rfl⟩;dsimp only
 split<;>simp
theorem Xw {n f:Nat} {s:ByteArray} {l:Int} {st st':aF} (h:lP n f s l st=.ok st') (hF:dQ st.fns):Mk 0 0 st st':=by
 unfold lP at h;split at h
 ·injection h with h
  subst h;exact⟨hF,ah _,ah _,ah _,rfl⟩
 ·rename_i x _
  split at h
  ·injection h with h
   subst h;exact⟨hF,ah _,ah _,ah _,rfl⟩
  ·split at h
   ·cases h
   ·rename_i F k hk
    injection h with h;subst h;have e:=rl (st.fn x.fn) x.i;obtain⟨a1,a2⟩:=AJ _ hk (hF.set ⟨by rw[e.1];exact(hF.getD x.fn).1,by rw[e.2];exact(hF.getD x.fn).2⟩)
    rw[kG] at a2;exact⟨a1,ah _,Nat.le_of_eq a2,Nat.le_of_eq a2.symm,rfl⟩
theorem Nj {n f:Nat} {l:Int} {st st':aF} (h:dY n f l st=.ok st') (hF:dQ st.fns):Mk 0 0 st st':=by
 unfold dY at h;split at h
 ·cases h
 ·injection h with h
  subst h;exact⟨hF,ah _,ah _,ah _,rfl⟩
theorem SD {n f:Nat} {s:ByteArray} {l:Int} {st st':aF} (hF:dQ st.fns) :∀(fr:List e8),dm n f s l st fr=.ok st'→Mk 0 0 st st':=by
 intro fr;induction fr with
 | nil=>intro h;cases h
 | cons x fr ih =>
  intro h;rw[dm] at h;split at h
  ·exact ih h
  ·split at h
   ·exact ih h
   ·split at h
    ·cases h
    ·injection h with h
     subst h;exact⟨hF,ah _,ah _,ah _,rfl⟩
theorem AK {i f:Nat} {rep:Bool} {ks:List Lt} {st st':aF} (h:ft i f rep ks st=.ok st'):st'={ st with frames:=⟨f,i,0,false,rep,ks⟩::st.frames}:=by
 unfold ft at h;split at h
 ·cases h
 ·injection h with h
  exact h.symm
theorem eu {α β:Type} {x:Rs α} {g:α→β} {y:β} (h:x.map g=.ok y) :∃a,x=.ok a∧y=g a:=by
 cases x with
 | error e=>cases h
 | ok a=>injection h with h;exact⟨a,rfl,h.symm⟩
theorem cf {α β:Type} {x:Rs α} {g:α→Rs β} {y:β} (h:x.bind g=.ok y) :∃a,x=.ok a∧g a=.ok y:=by
 cases x with
 | error e=>cases h
 | ok a=>exact⟨a,rfl,h⟩
theorem aaG {a b:Nat} {st st':aF} {n:Nat} (h:Mk a b (st.at n) st'):Mk a b st st':=⟨h.few,h.names,h.fns,h.least,h.frames.trans (by unfold aF.at;cases st.frames<;>rfl)⟩
theorem back_mk {a b:Nat} {st st':aF} {fr:List e8} (h:Mk a b { st with frames:=fr} st'):Mk 0 b st (st'.back st):=⟨h.few,ah _,h.fns,h.least,rfl⟩
mutual
theorem nQ :∀(t:Lt) {f:Nat} {st st':aF},aV t f st=.ok st'→dQ st.fns→Mk t.wt t.size st st'
 | .mk i h ks,f,mg,st',hr,hF=>by
  rw[cb] at hr;rw[Lt.wt,Lt.size];have hF:dQ (mg.setOf i f).fns:=hF;have key :∀{a b:Nat},Mk a b (mg.setOf i f) st'→a≤h.names.length+Lt.ec ks→b≤Lt.ak ks+1→Mk (h.names.length+Lt.ec ks) (Lt.ak ks+1) mg st':=fun h h1 h2=>⟨h.few,by have:_≤mg.names.length+_:=h.names;omega,by have:_≤mg.fns.length+_:=h.fns;omega,h.least,h.frames⟩
  generalize mg.setOf i f=st at *;split at hr
  ·split at hr
   ·injection hr with hr
    subst hr;exact key (a:=0) (b:=0) ⟨hF,ah _,ah _,ah _,rfl⟩ (bK _) (bK _)
   ·cases hr
  split at hr
  ·exact key (Xw hr hF) (bK _) (bK _)
  split at hr
  ·obtain⟨s1,e1,hr⟩:=cf hr
   obtain⟨s2,e2,rfl⟩:=eu hr;have h1:=jI e1 (show dQ (st.fns++[_]) from hF.app ⟨bK _,bK _⟩)
   have h2:=iI ks e2 h1.few;refine key (a:=0) (b:=Lt.ak ks+1) ⟨h2.few,ah _,?_,?_,rfl⟩ (bK _) (ah _)
   ·have h3:s1.fns.length≤(st.fns++[_]).length+0:=h1.fns
    have h4:=h2.fns;rw[cC,mw] at h3;show s2.fns.length≤_
    omega
   ·have h3:(st.fns++[_]).length≤s1.fns.length:=h1.least
    have h4:=h2.least;rw[cC,mw] at h3;show _≤s2.fns.length
    omega
  split at hr
  ·obtain⟨s1,e1,hr⟩:=cf hr
   obtain⟨s2,e2,rfl⟩:=eu hr;have e1:=AK e1;subst e1;exact key (back_mk (uA ks e2 hF)) (bK _) (by omega)
  split at hr
  ·obtain⟨s1,e1,e2⟩:=cf hr
   have h1:=iI ks e1 hF;exact key (h1.trans (jI e2 h1.few)) (by omega) (by omega)
  split at hr
  ·obtain⟨s2,e2,rfl⟩:=eu hr
   exact key (back_mk (iI ks e2 hF)) (bK _) (by omega)
  split at hr
  ·obtain⟨s2,e2,rfl⟩:=eu hr
   obtain⟨a1,a2,a3⟩:=Xx ks e2 hF;exact key (a:=0) (b:=Lt.ak ks) ⟨a1,ah _,a2,a3,rfl⟩ (bK _) (by omega)
  split at hr
  ·exact key (Nk ks hr hF) (by omega) (by omega)
  split at hr
  ·obtain⟨s1,e1,e2⟩:=cf hr
   have h1:=jI e1 hF;exact key (h1.trans (iI ks e2 h1.few)) (by omega) (by omega)
  split at hr
  ·exact key (Nj hr hF) (bK _) (bK _)
  split at hr
  ·exact key (SD hF _ hr) (bK _) (bK _)
  exact key (iI ks hr hF) (by omega) (by omega)
theorem iI :∀(ks:List Lt) {f:Nat} {st st':aF},aE ks f st=.ok st'→dQ st.fns→Mk (Lt.ec ks) (Lt.ak ks) st st'
 | [],f,st,st',hr,hF=>by
  rw[eE] at hr;injection hr with hr;subst hr;exact⟨hF,gp _ _,gp _ _,ah _,rfl⟩
 | k::ks,f,st,st',hr,hF=>by
  rw[dP] at hr;obtain⟨s1,e1,e2⟩:=cf hr;rw[Lt.ec,Lt.ak];have h1:=nQ k e1 hF;exact h1.trans (iI ks e2 h1.few)
theorem uA :∀(ks:List Lt) {n f:Nat} {st st':aF},bz ks n f st=.ok st'→dQ st.fns→Mk (Lt.ec ks) (Lt.ak ks) st st'
 | [],n,f,st,st',hr,hF=>by
  rw[jl] at hr;injection hr with hr;subst hr;exact⟨hF,gp _ _,gp _ _,ah _,rfl⟩
 | k::ks,n,f,st,st',hr,hF=>by
  rw[dD] at hr;obtain⟨s1,e1,e2⟩:=cf hr;rw[Lt.ec,Lt.ak];have h1:=aaG (nQ k e1 hF);exact h1.trans (uA ks e2 h1.few)
theorem Xx :∀(ks:List Lt) {f:Nat} {st st':aF},kq ks f st=.ok st'→dQ st.fns→dQ st'.fns∧st'.fns.length≤st.fns.length+Lt.ak ks∧st.fns.length≤st'.fns.length
 | [],f,st,st',hr,hF=>by
  unfold kq at hr;injection hr with hr;subst hr;exact⟨hF,gp _ _,ah _⟩
 | [.mk _ _ _],f,st,st',hr,hF=>by
  unfold kq at hr;injection hr with hr;subst hr;exact⟨hF,gp _ _,ah _⟩
 | .mk _ _ _::_::_::_,f,st,st',hr,hF=>by
  unfold kq at hr;injection hr with hr;subst hr;exact⟨hF,gp _ _,ah _⟩
 | [.mk i h ks,t],f,st,st',hr,hF=>by
  rw[yl] at hr;obtain⟨s1,e1,hr⟩:=cf hr;obtain⟨s2,e2,e3⟩:=cf hr;have e1:=AK e1;subst e1;have h1:=uA ks e2 hF;have h2:=nQ t e3 h1.few;refine⟨h2.few,?_,?_⟩
  ·have h3:s2.fns.length≤st.fns.length+_:=h1.fns
   have:=h2.fns;simp only[Lt.ak,Lt.size];omega
  ·exact aL (show st.fns.length≤s2.fns.length from h1.least) h2.least
theorem Nk {i:Nat} {line:Int} {names:List ByteArray} :∀(ks:List Lt) {f:Nat} {st st':aF},iH i line names ks f st=.ok st'→dQ st.fns→Mk (Lt.ec ks) (Lt.ak ks) st st'
 | [],f,st,st',hr,hF=>by
  unfold iH at hr;injection hr with hr;subst hr;exact⟨hF,gp _ _,gp _ _,ah _,rfl⟩
 | [b],f,st,st',hr,hF=>by
  rw[np] at hr;obtain⟨s1,e1,hr⟩:=cf hr;obtain⟨s2,e2,rfl⟩:=eu hr;have h1:=jI e1 (show dQ (dt i f st).fns from hF)
  have h2:=nQ b e2 h1.few;simp only[Lt.ec,Lt.ak];refine⟨h2.few,gp _ _,?_,?_,rfl⟩
  ·have h3:s1.fns.length≤st.fns.length+0:=h1.fns
   have:=h2.fns;show s2.fns.length≤_
   omega
  ·exact aL (show st.fns.length≤s1.fns.length from h1.least) h2.least
 | a::b::l,f,st,st',hr,hF=>by
  rw[jm] at hr;obtain⟨s1,e1,e2⟩:=cf hr;have h1:=nQ a e1 hF;rw[Lt.ec,Lt.ak];exact h1.trans (Nk (b::l) e2 h1.few)
end
mutual
def Ast.lt:Ast→Lt
 | .mk h ks=>.mk 0 h (Ast.yU ks)
def Ast.yU:List Ast→List Lt
 | []=>[]
 | a::xz=>Ast.lt a::Ast.yU xz
end
mutual
theorem Nl {T:List Nd} :∀(a:Ast) (i:Nat) (js:List Nat),gJ T a i js→∃t:Lt,Lt.In T t∧t.loc=i∧t.gM=js∧yT id a.lt t
 | .mk h xz,i,js,hr=>by
  unfold gJ at hr;obtain⟨x,rK,hx,he,hs,rfl⟩:=hr;obtain⟨ts,h1,h2,h3,h4⟩:=EU xz x.kids rK hs;refine⟨.mk i x ts,?_,rfl,?_,?_⟩
  ·unfold Lt.In
   exact⟨hx,h2,h1⟩
  ·rw[Lt.gM,h3]
  ·rw[Ast.lt]
   unfold yT;have e1:x.kind=h.kind:=by rw[he]
   have e2:x.num=h.num:=by rw[he]
   have e3:x.s=h.s:=by rw[he]
   have e4:x.names=h.names:=by rw[he]
   exact⟨e1,e2,e3,by rw[List.map_id];exact e4,h4⟩
theorem EU {T:List Nd} :∀(xz:List Ast) (ks:List Int) (js:List Nat),bs T xz ks js→∃ts:List Lt,Lt.uq T ts∧ks=ts.map (fun k=>(k.loc:Int))∧Lt.bx ts=js∧dI id (Ast.yU xz) ts
 | [],ks,js,hr=>by
  unfold bs at hr;obtain⟨rfl,rfl⟩:=hr;refine⟨[],?_,rfl,?_,?_⟩
  ·unfold Lt.uq;trivial
  ·rw[Lt.bx]
  ·rw[Ast.yU];unfold dI;rfl
 | a::xz,ks,js,hr=>by
  unfold bs at hr;obtain⟨k,ic,j1,j2,rfl,h1,h2,rfl⟩:=hr;obtain⟨t,a1,a2,a3,a4⟩:=Nl a k j1 h1;obtain⟨ts,b1,b2,b3,b4⟩:=EU xz ic j2 h2;refine⟨t::ts,?_,?_,?_,?_⟩
  ·unfold Lt.uq;exact⟨a1,b1⟩
  ·rw[fW,a2,b2]
  ·rw[Lt.bx,a3,b3]
  ·rw[Ast.yU];unfold dI;exact⟨t,ts,rfl,a4,b4⟩
end
def ku (r:Rs aF):Prop:=∀x,r=.error x→∃k:Nat,x.1=(k:Int)∧8≤k∧k≤14
theorem eL (st:aF):ku (.ok st):=fun x h=>by cases h
theorem lS {k:Nat} {l:Int} (h:8≤k∧k≤14):ku (.error ((k:Int),l)):=fun x e=>by injection e with e;exact⟨k,by rw[←e],h.1,h.2⟩
theorem nr {r:Rs aF} (h:ku r) (g:aF→aF):ku (r.map g):=fun x e=>by
 cases r with
 | ok s=>cases e
 | error y=>injection e with e;exact h x (by rw[e])
theorem eF {r:Rs aF} (h:ku r) {g:aF→Rs aF} (hg :∀s,ku (g s)):ku (r.bind g):=fun x e=>by
 cases r with
 | ok s=>exact hg s x e
 | error y=>injection e with e;exact h x (by rw[e])
theorem jJ {n f:Nat} {l:Int} :∀(ns:List ByteArray) (st:aF),ku (du n f l ns st)
 | [],st=>eL _
 | s::ns,st=>by
  rw[du];split
  ·exact lS (k:=11) (by omega)
  ·exact jJ ns _
theorem Nn {n f:Nat} {s:ByteArray} {l:Int} (st:aF):ku (lP n f s l st):=by
 unfold lP;split
 ·exact eL _
 ·split
  ·exact eL _
  ·split
   ·exact lS (k:=12) (by omega)
   ·exact eL _
theorem Dj {n f:Nat} {l:Int} (st:aF):ku (dY n f l st):=by
 unfold dY;split
 ·exact lS (k:=8) (by omega)
 ·exact eL _
theorem wN {i f:Nat} {rep:Bool} {ks:List Lt} (st:aF):ku (ft i f rep ks st):=by
 unfold ft;split
 ·exact lS (k:=9) (by omega)
 ·exact eL _
theorem pd {n f:Nat} {s:ByteArray} {l:Int} (st:aF) :∀fr:List e8,ku (dm n f s l st fr)
 | []=>by rw[dm];exact lS (k:=8) (by omega)
 | x::fr=>by
  rw[dm];split
  ·exact pd st fr
  ·split
   ·exact pd st fr
   ·split
    ·exact lS (k:=10) (by omega)
    ·exact eL _
mutual
theorem kZ :∀(t:Lt) (f:Nat) (st:aF),ku (aV t f st)
 | .mk i h ks,f,mg=>by
  rw[cb];generalize mg.setOf i f=st;split
  ·split
   ·exact eL _
   ·exact lS (k:=14) (by omega)
  split
  ·exact Nn _
  split
  ·exact eF (jJ _ _) fun s=>nr (jn ks _ s) _
  split
  ·exact eF (wN _) fun s=>nr (rm ks _ _ s) _
  split
  ·exact eF (jn ks _ _) fun s=>jJ _ _
  split
  ·exact nr (jn ks _ _) _
  split
  ·exact nr (SE ks _ _) _
  split
  ·exact EV ks _ _
  split
  ·exact eF (jJ _ _) fun s=>jn ks _ s
  split
  ·exact Dj _
  split
  ·exact pd _ _
  exact jn ks _ _
theorem jn :∀(ks:List Lt) (f:Nat) (st:aF),ku (aE ks f st)
 | [],f,st=>by rw[eE];exact eL _
 | k::ks,f,st=>by rw[dP];exact eF (kZ k f st) fun s=>jn ks f s
theorem rm :∀(ks:List Lt) (n f:Nat) (st:aF),ku (bz ks n f st)
 | [],n,f,st=>by rw[jl];exact eL _
 | k::ks,n,f,st=>by rw[dD];exact eF (kZ k f _) fun s=>rm ks _ f s
theorem SE :∀(ks:List Lt) (f:Nat) (st:aF),ku (kq ks f st)
 | [],f,st=>by unfold kq;exact eL _
 | [.mk _ _ _],f,st=>by unfold kq;exact eL _
 | [.mk i h ks,t],f,st=>by
  rw[yl];exact eF (wN _) fun s=>eF (rm ks _ _ s) fun s=>kZ t f s
 | .mk _ _ _::_::_::_,f,st=>by unfold kq;exact eL _
theorem EV {i:Nat} {line:Int} {names:List ByteArray} :∀(ks:List Lt) (f:Nat) (st:aF),ku (iH i line names ks f st)
 | [],f,st=>by unfold iH;exact eL _
 | [b],f,st=>by rw[np];exact eF (jJ _ _) fun s=>nr (kZ b f s) _
 | a::b::l,f,st=>by rw[jm];exact eF (kZ a f st) fun s=>EV (b::l) f s
end
theorem ym (t:Lt):ku (lR t):=kZ t 0 _
def sZ (k:Int):Prop:=1≤k∧k≤15
def StK (k:Int):Prop:=19≤k∧k≤32∧k≠29
structure gR (k n:Int) (kk:List Int):Prop where
 none:(k=1∨k=2∨k=3∨k=4∨k=5∨k=6∨k=7∨k=30∨k=31∨k=32)→kk=[]
 two:(k=8∨k=12∨k=17)→∃a b,kk=[a,b]∧sZ a∧sZ b
 call:(k=9∨k=10)→1≤kk.length∧∀a∈kk,sZ a
 body:(k=11∨k=22)→kk=[18]
 one:(k=13∨k=14∨k=16)→∃a,kk=[a]∧sZ a
 items:k=15→∀a∈kk,a=16∨a=17
 block:k=18→∃l r,kk=l++r∧(∀a∈l,StK a)∧(r=[]∨r=[29])
 list:(k=19∨k=29)→∀a∈kk,sZ a
 assign:k=20→∃l r,kk=l++r∧(∀a∈l,a=7∨a=8)∧(1≤n→(l.length:Int)=n)∧1≤r.length∧∀a∈r,sZ a
 Xy:k=21→∃a,kk=[a]∧(a=9∨a=10)
 Xz:k=23→∃a,kk=[a,18]∧sZ a
 EW:k=24→∃a,kk=[18,a]∧sZ a
 if_:k=25→∃(ps:List (Int×Int)) (r:List Int),kk=(ps.flatMap fun p:Int×Int=>[p.1,p.2])++r∧1≤ps.length∧(∀p∈ps,sZ p.1∧p.2=18)∧(r=[]∨r=[18])
 for_:k=26→∃l,kk=l++[18]∧(l.length=2∨l.length=3)∧∀a∈l,sZ a
 each:k=27→∃l,kk=l++[18]∧(1≤n→(l.length:Int)=n)∧∀a∈l,sZ a
 func:k=28→kk=[11]
def iU (ks:List Lt):List Int:=ks.map fun k=>k.hd.kind
mutual
/-- A tree all of whose nodes have such Kids. -/
def Lt.uB:Lt→Prop
 | .mk _ h ks=>gR h.kind h.num (iU ks)∧Lt.ir ks
def Lt.ir:List Lt→Prop
 | []=>True
 | k::ks=>Lt.uB k∧Lt.ir ks
end
open Go.RowKit
def JA (ty:TypeId) (W W':World):Prop:=W.heap.size≤W'.heap.size∧∀(k:Nat) c e fz,W.heap[k]? = some (.cells c e fz)→e≠ty→W'.heap[k]? = some (.cells c e fz)
theorem JA.set {ty:TypeId} {W:World} {g:Nat} {cs:Array Value} {fz:Nat×Nat} (h:W.heap[g]? = some (.cells cs ty fz)) (j:Nat) (v:Value):JA ty W (W.setCell ⟨g,j,none⟩ v) :=
 ⟨by simp[World.setCell],fun k c e f hk he=>(Below.heap_setCell W ⟨g,j,none⟩ v k (fun(e':k=g)=>by
  subst e';rw[h] at hk;injection hk with hk;injection hk with _ hk;exact he hk.symm)).trans hk⟩
theorem da {W W':World} {B e s n:Nat} {ty:TypeId} {v:Value} {xs:List Value} (h:W.ownsRow B e s v n xs) (ho:JA ty W W') (he:e≠ty):W'.ownsRow B e s v n xs:=by
 refine⟨h.1,?_⟩;rcases h.2 with hn | ⟨g,cap,cur,rfl,hB,hg,rest⟩
 ·exact .inl hn
 ·exact .inr ⟨g,cap,cur,rfl,hB,ho.2 g _ _ _ hg he,rest⟩
def sG (v:mq):List Value:=[.string v.name,.int .i64 (v.node:Int),.bool v.cap]
def EX (u:sd):List Value:=[.bool u.loc,.int .i64 (u.idx:Int)]
abbrev oC:=dr×Value×Value
def No (t:oC):List Value:=[.int .i64 (t.1.node:Int),.int .i64 t.1.parent,.int .i64 (t.1.params:Int),.bool t.1.many,t.2.1,t.2.2]
def fA (W:World) (B:Nat) (ty:TypeId) (s b n:Nat) (f:Nat→Value):Prop:=W.ownsRow B ty s (.slice (some ⟨b,0,none⟩) n n) n ((List.range (n*s)).map f)
def vw (u:Nat→Int×Int):Nat→Value:=fun j=>if j % 2=0 then .int .i64 (u (j / 2)).1 else .int .i64 (u (j / 2)).2
def SF (o:Nat→Int):Nat→Value:=fun j=>.int .i64 (o j)
def AM (W:World) (B:Nat) (v:Value) (xs:List ByteArray):Prop :=
 ∃A c,v=.slice A xs.length c∧xs.length≤c∧(xs=[]∨∃bk o,A=some ⟨bk,o,none⟩∧bk<B∧∀(j:Nat) x,xs[j]? = some x→W.cell? ⟨bk,o+j,none⟩=some (.string x))
def gB (W:World) (B:Nat) (v:Value) (xs:List Int):Prop :=
 ∃A c,v=.slice A xs.length c∧xs.length≤c∧(xs=[]∨∃bk o,A=some ⟨bk,o,none⟩∧bk<B∧∀(j:Nat) x,xs[j]? = some x→W.cell? ⟨bk,o+j,none⟩=some (.int .i64 x))
theorem AM.below {W W':World} {B:Nat} {v:Value} {xs:List ByteArray} (h:AM W B v xs) (hb:Below B W W'):AM W' B v xs:=by
 obtain⟨A,c,e,hc,h | ⟨bk,o,e2,hk,hx⟩⟩:=h
 ·exact⟨A,c,e,hc,.inl h⟩
 ·exact⟨A,c,e,hc,.inr ⟨bk,o,e2,hk,fun j x hj=>(hb.cell (p:=⟨bk,o+j,none⟩) hk).trans (hx j x hj)⟩⟩
theorem gB.below {W W':World} {B:Nat} {v:Value} {xs:List Int} (h:gB W B v xs) (hb:Below B W W'):gB W' B v xs:=by
 obtain⟨A,c,e,hc,h | ⟨bk,o,e2,hk,hx⟩⟩:=h
 ·exact⟨A,c,e,hc,.inl h⟩
 ·exact⟨A,c,e,hc,.inr ⟨bk,o,e2,hk,fun j x hj=>(hb.cell (p:=⟨bk,o+j,none⟩) hk).trans (hx j x hj)⟩⟩
structure vx (W:World) (B:Nat) (nv:Value) (T:List Nd):Prop where
 ex :∃W0 bk o c,nv=.slice (some ⟨bk,o,none⟩) T.length c∧bk<B∧W0.heap.size=B∧sS W0 bk o T∧Below B W0 W
 few:T.length≤20000
 small :∀x∈T,x.kids.length≤20000∧x.names.length≤20000
theorem vx.nodes {W:World} {B:Nat} {nv:Value} {T:List Nd} (h:vx W B nv T) :∃bk o c,nv=.slice (some ⟨bk,o,none⟩) T.length c∧bk<B∧B≤W.heap.size∧∀(i:Nat) x,T[i]? = some x→∃nv kv,lG W bk (o+i*7) x nv kv∧AM W B nv x.names∧gB W B kv x.kids:=by
 obtain⟨W0,bk,o,c,e,hb,hs,hn,hbl⟩:=h.ex;refine⟨bk,o,c,e,hb,by have:=hbl.size;omega,fun i x hx=>?_⟩
 obtain⟨nv,kv,h1,⟨A,c1,e1,hc1,h2⟩,⟨A',c2,e2,hc2,h3⟩⟩:=hn i x hx;refine⟨nv,kv,h1.below hbl hb,AM.below (B:=B) ⟨A,c1,e1,hc1,?_⟩ hbl,gB.below (B:=B) ⟨A',c2,e2,hc2,?_⟩ hbl⟩
 ·rcases h2 with h2 | ⟨x1,x2,x3,x4,x5⟩
  ·exact .inl h2
  ·exact .inr ⟨x1,x2,x3,by omega,x5⟩
 ·rcases h3 with h3 | ⟨x1,x2,x3,x4,x5⟩
  ·exact .inl h3
  ·exact .inr ⟨x1,x2,x3,by omega,x5⟩
theorem vx.below {W W':World} {B:Nat} {nv:Value} {T:List Nd} (h:vx W B nv T) (hb:Below B W W'):vx W' B nv T:=by
 obtain⟨W0,bk,o,c,e,h1,hs,hn,hbl⟩:=h.ex;exact⟨⟨W0,bk,o,c,e,h1,hs,hn,hbl.trans hb⟩,h.few,h.small⟩
theorem bJ {W:World} {B:Nat} {ty:TypeId} {s b n:Nat} {f:Nat→Value} (h:fA W B ty s b n f) {j:Nat} (hj:j<n*s):W.cell? ⟨b,j,none⟩=some (f j)∧W.frozen? ⟨b,j,none⟩=false:=by
 refine⟨?_,World.ownsRow.frozenAt h j⟩;rw[World.ownsRow.cellAt h j hj,iA,JP hj];rfl
theorem EY {W:World} {B:Nat} {ty:TypeId} {s b n:Nat} {f g:Nat→Value} (h:fA W B ty s b n f) (he :∀j,j<n*s→f j=g j):fA W B ty s b n g:=by
 unfold fA at h ⊢;rw[show(List.range (n*s)).map g=(List.range (n*s)).map f from List.map_congr_left fun j hj=>(he j (DV.1 hj)).symm]
 exact h
theorem qe {W:World} {B:Nat} {ty:TypeId} {s b n:Nat} {f:Nat→Value} (h:fA W B ty s b n f) (j:Nat) (v:Value):fA (W.setCell ⟨b,j,none⟩ v) B ty s b n (fun i=>if i=j then v else f i):=by
 have h1:=(World.ownsRow.stored h j v).1;unfold fA;rw[show(List.range (n*s)).map (fun i=>if i=j then v else f i)=((List.range (n*s)).map f).set j v from ?_]
 ·exact h1
 ·refine JX fun i=>?_
  rw[iA,List.getElem?_set];by_cases hi:j=i
  ·subst hi
   rw[al rfl,cD,List.length_range];by_cases hl:j<n*s
   ·rw[al hl,JP hl];simp
   ·rw[af hl,vF (by simpa using hl)];rfl
  ·rw[af hi,iA]
   by_cases hl:i<n*s
   ·rw[JP hl]
    simp only[pB];rw[af fun e=>hi e.symm]
   ·rw[vF (by simpa using hl)];rfl
theorem ld {W:World} {B:Nat} {ty:TypeId} {s b n:Nat} {f:Nat→Value} (h:fA W B ty s b n f) :∃cs,W.heap[b]? = some (.cells cs ty (0,0)):=by
 rcases h.2 with ⟨e,_⟩ | ⟨g,cap,cur,e,_,hg,_⟩
 ·cases e
 ·injection e with e
  injection e with e;injection e with e _;subst e;exact⟨cur,hg⟩
theorem Nq {W:World} {B b n:Nat} {ty:TypeId} {u:Nat→Int×Int} (h:fA W B ty 2 b n (vw u)) (i:Nat) (x:Int×Int) :
  fA ((W.setCell ⟨b,i*2,none⟩ (.int .i64 x.1)).setCell ⟨b,i*2+1,none⟩ (.int .i64 x.2)) B ty 2 b n (vw fun j=>if j=i then x else u j):=by
 refine EY (qe (qe h (i*2) (.int .i64 x.1)) (i*2+1) (.int .i64 x.2)) fun j _=>?_
 unfold vw;by_cases h1:j=i*2+1
 ·subst h1
  rw[al rfl,af (by omega)]
  dsimp only
  rw[al (by omega)]
 ·rw[af h1]
  by_cases h2:j=i*2
  ·subst h2
   rw[al rfl,al (by omega)]
   dsimp only
   rw[al (by omega)]
  ·rw[af h2]
   by_cases h3:j % 2=0
   ·rw[al h3,al h3]
    dsimp only
    rw[af (by omega)]
   ·rw[af h3,af h3]
    dsimp only
    rw[af (by omega)]
theorem XA {W:World} {B b n:Nat} {ty:TypeId} {o:Nat→Int} (h:fA W B ty 1 b n (SF o)) (i:Nat) (x:Int):fA (W.setCell ⟨b,i,none⟩ (.int .i64 x)) B ty 1 b n (SF fun j=>if j=i then x else o j):=by
 refine EY (qe h i (.int .i64 x)) fun j _=>?_
 unfold SF;by_cases h1:j=i
 ·rw[al h1]
  dsimp only
  rw[al h1]
 ·rw[af h1]
  dsimp only
  rw[af h1]
theorem lf {W W':World} {B:Nat} {ty ty':TypeId} {s g n:Nat} {f:Nat→Value} (h:fA W B ty s g n f) (ho:JA ty' W W') (he:ty≠ty'):fA W' B ty s g n f:=da h ho he
theorem iu {α:Type} {f:α→List Value} {s:Nat} (hs :∀a,(f a).length=s) :∀(l:List α) (i j:Nat) (a:α),l[i]? = some a→j<s→(l.flatMap f)[i*s+j]? = (f a)[j]?
 | [],i,j,a,h,_=>by simp at h
 | x::l,0,j,a,h,hj=>by
  injection h with h;subst h;rw[iW,Nat.zero_mul,iY,kC (by rw[hs];exact hj)]
 | x::l,i+1,j,a,h,hj=>by
  rw[iW,yX (by rw[hs,D0];omega),hs,show(i+1)*s+j-s=i*s+j by rw[D0];omega]
  exact iu hs l i j a h hj
theorem qf (x:oC):(No x).length=6:=rfl
theorem AN (x:mq):(sG x).length=3:=rfl
theorem EZ (x:sd):(EX x).length=2:=rfl
theorem uC {T:List Nd} {ks:List Lt} (fJ:Lt.uq T ks) {k:Nat} {x:Lt} (hx:ks[k]? = some x):Lt.In T x∧T[x.loc]? = some x.hd:=by
 have h:=ES fJ x (aM hx);exact⟨h,(Dh h).2.1⟩
theorem ab {W:World} {g:Nat} {cs:Array Value} {ty:TypeId} (h:W.heap[g]? = some (.cells cs ty (0,0))) (j:Nat):W.cell? ⟨g,j,none⟩=cs[j]?:=cell_of_row W g j cs ty (0,0) h
theorem aw {W:World} {g:Nat} {cs:Array Value} {ty:TypeId} (h:W.heap[g]? = some (.cells cs ty (0,0))) (j:Nat):W.frozen? ⟨g,j,none⟩=false:=frozen_of_row W g j cs ty h
theorem bA {W:World} {g:Nat} {cs:Array Value} {ty:TypeId} (h:W.heap[g]? = some (.cells cs ty (0,0))) (j:Nat) (v:Value):(W.setCell ⟨g,j,none⟩ v).heap[g]? = some (.cells (cs.setIfInBounds j v) ty (0,0)):=by
 simp[World.setCell,Array.getElem?_modify,h]
theorem eA {W:World} {B e s n:Nat} {v:Value} {xs:List Value} (h:W.ownsRow B e s v n xs) :∃A c,v=.slice A n c∧n≤c∧(n=0∨∃g,A=some ⟨g,0,none⟩∧B≤g∧g<W.heap.size∧∀j,j<n*s→W.cell? ⟨g,j,none⟩=xs[j]?):=by
 rcases h.2 with ⟨rfl,h0⟩ | ⟨g,cap,cur,rfl,hB,hg,hn,hc,hs,ht⟩
 ·exact⟨none,0,by rw[h0],by omega,.inl h0⟩
 ·exact⟨_,cap,rfl,hn,.inr ⟨g,rfl,hB,(aJ.1 hg).1,fun j hj=>World.ownsRow.cellAt h j hj⟩⟩
def qB (o:Option Nat) (W W':World):Prop:=W.heap.size≤W'.heap.size∧∀k,k<W.heap.size→o≠some k→W'.heap[k]? = W.heap[k]?
theorem qB.set (W:World) (g j:Nat) (v:Value):qB (some g) W (W.setCell ⟨g,j,none⟩ v):=⟨by simp[World.setCell],fun k _ hn=>Below.heap_setCell W ⟨g,j,none⟩ v k fun e=>hn (by rw[e])⟩
theorem qB.row {W W':World} {o:Option Nat} {B e s n:Nat} {v:Value} {xs:List Value} (hb:qB o W W') (h:W.ownsRow B e s v n xs) (hd :∀g,v.ownBlock=some g→o≠some g):W'.ownsRow B e s v n xs:=by
 refine⟨h.1,?_⟩;rcases h.2 with hn | ⟨g,cap,cur,rfl,hB,hg,rest⟩
 ·exact .inl hn
 ·exact .inr ⟨g,cap,cur,rfl,hB,(hb.2 g (aJ.1 hg).1 (hd g rfl)).trans hg,rest⟩
theorem eh {W:World} {B B' e e' s s' n n':Nat} {v v':Value} {xs xs':List Value} (h:W.ownsRow B e s v n xs) (h':W.ownsRow B' e' s' v' n' xs') (he:e≠e') :∀g,v.ownBlock=some g→v'.ownBlock≠some g:=fun g hg vh=>by
 obtain⟨c,fz,h1⟩:=Lib.ownsRow_kind h g hg;obtain⟨c',XB,h2⟩:=Lib.ownsRow_kind h' g vh;rw[h1] at h2;injection h2 with h2;injection h2 with _ h2;exact he h2
theorem qg {α:Type} {f:α→List Value} {s:Nat} (hs :∀a,(f a).length=s) :∀(l:List α) (i j:Nat) (a b:α) (v:Value),l[i]? = some a→j<s→f b=(f a).set j v→(l.set i b).flatMap f=(l.flatMap f).set (i*s+j) v
 | [],i,j,a,b,v,h,_,_=>by simp at h
 | x::l,0,j,a,b,v,h,hj,hb=>by
  injection h with h;subst h;rw[dK,iW,iW,Nat.zero_mul,iY,hb,List.set_append_left _ _ (by rw[hs];exact hj)]
 | x::l,i+1,j,a,b,v,h,hj,hb=>by
  rw[dL,iW,iW,List.set_append_right _ _ (by rw[hs,D0];omega),qg hs l i j a b v h hj hb,hs,show(i+1)*s+j-s=i*s+j by rw[D0];omega]
theorem qB.XC {W W1:World} {o:Option Nat} {ty:TypeId} (h:qB o W W1) (hk :∀k,o=some k→∃c fz,W.heap[k]? = some (.cells c ty fz)):JA ty W W1 :=
 ⟨h.1,fun k c e fz hc he=>(h.2 k (aJ.1 hc).1 fun ek=>by
  obtain⟨c',XB,h1⟩:=hk k ek;rw[hc] at h1;injection h1 with h1;injection h1 with _ h1;exact he h1).trans hc⟩
theorem qB.da {W W1:World} {B ty s n:Nat} {v:Value} {xs:List Value} (hr:W.ownsRow B ty s v n xs) (h:qB v.ownBlock W W1):JA ty W W1:=h.XC fun k hk=>Lib.ownsRow_kind hr k hk
theorem nw {L:List oC} {f:Nat} {x:oC}:(L.set f x).map (·.1)=(L.map (·.1)).set f x.1:=by rw[List.map_set]
theorem AO {ops:Array Oper} {o:Oper} {a:Act} {K:Act→World→Prop} {Q:Exit→Act→World→Prop} {E:Prop} (w0 w1:World) (cs:List Value) (hgd:o.guard=none) (sl y:Operand) (tS ty:TypeId) (i0:TypeInfo) (z:Value) (s bytes:Nat)
  (ho:o.op=.call { callee:=.builtin .append,args:=#[sl,y],argTypes:=#[tS,tS]}) (ht:Tryz.prog.underlying tS=some (.slice ty)) (hi:Tryz.prog.info? ty=some i0) (hz:i0.zero=some z) (hsz:i0.size=s) (hby:i0.bytes=bytes) (hzs:z.cells.size=s) (hs0:0<s) (Nr:bytes≤100)
  (B:Nat) (v:Value) (n:Nat) (xs:List Value) (hs:a.eval sl=v) (hown:w0.ownsRow B ty s v n xs) (dZ :∀(i:Nat),i<w0.heap.size→w1.heap[i]? = w0.heap[i]?) (g:Nat) (hg:g=w0.heap.size) (hy:a.eval y=.slice (some ⟨g,0,none⟩) 1 1)
  (hcell:w1.heap[g]? = some (.cells cs.toArray ty (0,0))) (B9:cs.length=s) (h1c :∀u∈cs,u.oneCell'=true) (hlen:n≤1000000) (hB:B≤w0.heap.size) (hle:w0.heap.size≤w1.heap.size) (XD:w1.os=w0.os∧w1.tape=w0.tape∧w1.output=w0.output)
  (h :∀g' c' w',w'.ownsRow B ty s (.slice (some ⟨g',0,none⟩) (n+1) c') (n+1) (xs++cs)→qB v.ownBlock w0 w'→Below B w0 w'→(v.ownBlock=some g'∨w0.heap.size≤g')→K (a.put o.dst (.slice (some ⟨g',0,none⟩) (n+1) c')) w') :
  if Region.wanted o (yielded ops a.tmps)=true then Oper.wp Tryz.prog o a w1 K Q else E:=by
 subst hg;have hown1:w1.ownsRow B ty s v n xs:=qB.row (o:=none) ⟨hle,fun k hk _=>dZ k hk⟩ hown (fun _ _ e=>by cases e)
 have hpl :∀j:Nat,(⟨w0.heap.size,0,none⟩:Addr).add j=⟨w0.heap.size,j,none⟩:=fun j=>by unfold Addr.add;split<;>simp_all
 refine step_append_lies (P:=Tryz.prog) w1 hgd sl y tS ho B ty i0 z s bytes ht hi hz hsz hby hzs hs0 v n xs hs hown1 ⟨w0.heap.size,0,none⟩ 1 1 cs hy (by rw[B9,D3])
  (fun j u hj=>by rw[hpl];simpa[World.cell?,hcell] using hj) h1c (by omega) (by unfold maxLen;omega) (aL (Nat.mul_le_mul_left _ Nr) (by omega)) (by omega) w1.heap.size rfl ?_
 intro g' c' w' r1 r2 r3 _;refine h g' c' w' r1 ⟨aL hle r2.size,fun k hk hn=>(r2.block k (by omega) fun e=>hn e.symm).trans (dZ k hk)⟩ ⟨?_,?_,?_,aL hle r2.size,fun k hk=>?_⟩ (r3.imp id fun e=>by omega)
 ·exact r2.os.trans XD.1
 ·exact r2.tape.trans XD.2.1
 ·exact r2.output.trans XD.2.2
 ·refine(r2.block k (by omega) fun e=>?_).trans (dZ k (by omega))
  have:=(hown.lt k e.symm).1;omega
theorem XE {ops:Array Oper} {rest:List Oper} {o:Oper} {a:Act} {Q:Exit→Act→World→Prop} (w:World) (cs:List Value) (hgd:o.guard=none) (sl y:Operand) (tS ty:TypeId) (i0:TypeInfo) (z:Value) (s bytes:Nat)
  (ho:o.op=.call { callee:=.builtin .append,args:=#[sl,y],argTypes:=#[tS,tS]}) (ht:Tryz.prog.underlying tS=some (.slice ty)) (hi:Tryz.prog.info? ty=some i0) (hz:i0.zero=some z) (hsz:i0.size=s) (hby:i0.bytes=bytes) (hzs:z.cells.size=s) (hs0:0<s) (Nr:bytes≤100)
  (B:Nat) (v:Value) (n:Nat) (xs:List Value) (hs:a.eval sl=v) (hown:w.ownsRow B ty s v n xs) (g:Nat) (hg:g=w.heap.size) (hy:a.eval y=.slice (some ⟨g,0,none⟩) 1 1)
  (B9:cs.length=s) (h1c :∀u∈cs,u.oneCell'=true) (hlen:n≤1000000) (hB:B≤w.heap.size)
  (h :∀g' c' w',w'.ownsRow B ty s (.slice (some ⟨g',0,none⟩) (n+1) c') (n+1) (xs++cs)→qB v.ownBlock w w'→Below B w w'→(v.ownBlock=some g'∨w.heap.size≤g')→wpList Tryz.prog ops Q rest (a.put o.dst (.slice (some ⟨g',0,none⟩) (n+1) c')) w') :
  wpList Tryz.prog ops Q (o::rest) a (w.alloc (.cells cs.toArray ty)):=by
 subst hg;have hcell:=heap_alloc_new w (.cells cs.toArray ty);have hpl :∀j:Nat,(⟨w.heap.size,0,none⟩:Addr).add j=⟨w.heap.size,j,none⟩:=fun j=>by unfold Addr.add;split<;>simp_all
 have CE:(w.alloc (.cells cs.toArray ty)).heap.size=w.heap.size+1:=ao _ _;refine wpList_append_lies (P:=Tryz.prog) _ hgd sl y tS ho B ty i0 z s bytes ht hi hz hsz hby hzs hs0 v n xs hs (hown.alloc _) ⟨w.heap.size,0,none⟩ 1 1 cs hy (by rw[B9,D3])
  (fun j u hj=>by rw[hpl,cell_of_row _ _ j _ ty (0,0) hcell];simpa using hj) h1c (by omega) (by unfold maxLen;omega) (aL (Nat.mul_le_mul_left _ Nr) (by omega)) (by omega) (w.heap.size+1) CE ?_
 intro g' c' w' r1 r2 r3 _;have xL:=r2.size;refine h g' c' w' r1 ⟨by omega,fun k hk hn=>(r2.block k (by omega) fun e=>hn e.symm).trans (Below.heap_alloc w _ k hk)⟩ ⟨r2.os,r2.tape,r2.output,by omega,fun k hk=>?_⟩ (r3.imp id fun e=>by omega)
 refine(r2.block k (by omega) fun e=>?_).trans (Below.heap_alloc w _ k (by omega))
 have:=(hown.lt k e.symm).1;omega
theorem wO {α:Type} {f:α→List Value} :∀(l:List α) (i:Nat) (a b:α),l[i]? = some a→f b=f a→(l.set i b).flatMap f=l.flatMap f
 | [],i,a,b,h,_=>by simp at h
 | x::l,0,a,b,h,hb=>by
  injection h with h;subst h;rw[dK,iW,iW,hb]
 | x::l,i+1,a,b,h,hb=>by rw[dL,iW,iW,wO l i a b h hb]
end Go.Proofs.YteflkdlaoiijbaaGreatDoor
namespace Go.Proofs.YteflkdlaoiijbaaGreatDoor
open Go.RowKit Go.Maps
def uD:Value→Option (DataW Unit)
 | .int .i64 a=>some (.lit (.int .i64 a))
 | .agg c=>match c.toList with
  | [.int .i64 a,.int .i64 b]=>some (.agg [.lit (.int .i64 a),.lit (.int .i64 b)])
  | _=>none
 | _=>none
theorem uG {v:Value} {d:DataW Unit} (h:uD v=some d):(∃a,v=.int .i64 a∧d=.lit (.int .i64 a))∨∃a b,v=.agg #[.int .i64 a,.int .i64 b]∧d=.agg [.lit (.int .i64 a),.lit (.int .i64 b)]:=by
 unfold uD at h;split at h
 ·injection h with h
  exact .inl ⟨_,rfl,h.symm⟩
 ·rename_i c
  split at h
  ·rename_i a b hc
   injection h with h;refine .inr ⟨a,b,?_,h.symm⟩;obtain⟨l⟩:=c;have:l=[.int .i64 a,.int .i64 b]:=hc;rw[this]
  ·cases h
 ·cases h
theorem AP {u v:Value} {d:DataW Unit} (hu:uD u=some d) (hv:uD v=some d):u=v:=by
 rcases uG hu with ⟨a,rfl,h1⟩ | ⟨a,b,rfl,h1⟩<;>rcases uG hv with ⟨c,rfl,h2⟩ | ⟨c,e,rfl,h2⟩
 ·rw[h1] at h2;injection h2 with h2;injection h2 with _ h2;rw[h2]
 ·rw[h1] at h2;cases h2
 ·rw[h1] at h2;cases h2
 ·rw[h1] at h2
  injection h2 with h2;injection h2 with h2 h3;injection h3 with h3 _;injection h2 with h2;injection h2 with _ h2;injection h3 with h3;injection h3 with _ h3;rw[h2,h3]
def Ns (v:Value):Option (DataW Unit×List MemPlace):=(uD v).map fun d=>(d,[])
theorem Iw {v:Value} {d:DataW Unit} {ps:List MemPlace} (h:Ns v=some (d,ps)):uD v=some d:=by
 unfold Ns at h;cases e:uD v with
 | none=>rw[e] at h;cases h
 | some x=>rw[e] at h;injection h with h;injection h with h _;rw[h]
def dJ (P:Program) (k:TypeId) (W:World) (b n:Nat) (f:ByteArray→Option Value):Prop :=
 ∃D:DataW Unit,W.ownsMap P k Ns b n D∧∀s:ByteArray,s.size≤maxLen→match f s with
  | some v=>(uD v).isSome=true∧∀z,D.atKey (.string s.data.toList) z=(uD v).getD z
  | none=>∀z,D.atKey (.string s.data.toList) z=z
section
variable {P:Program} {k:TypeId} {W:World} {b n:Nat} {f:ByteArray→Option Value}
theorem dJ.lt (h:dJ P k W b n f):b<W.heap.size:=by obtain⟨D,h1,_⟩:=h;exact h1.lt
theorem dJ.made (W:World) (P:Program) (k:TypeId):dJ P k (W.alloc (.map #[] 0)) W.heap.size 0 (fun _=>none) :=
 ⟨_,World.ownsMap_made _ _ _ _,fun s _ z=>by simp[DataW.atKey]⟩
theorem dJ.same {W':World} (h:dJ P k W b n f) (hb:W'.heap[b]? = W.heap[b]?):dJ P k W' b n f:=by
 obtain⟨D,⟨es,clock,h1,h2,h3,h4⟩,h5⟩:=h;exact⟨D,⟨es,clock,hb.trans h1,h2,h3,h4⟩,h5⟩
theorem dJ.ext {g:ByteArray→Option Value} (h:dJ P k W b n f) (he :∀s,f s=g s):dJ P k W b n g:=by
 have:f=g:=funext he;rwa[←this]
theorem dJ.mono {m:Nat} (h:dJ P k W b n f) (he:n≤m):dJ P k W b m f:=by
 obtain⟨D,h1,h2⟩:=h;exact⟨D,h1.mono he,h2⟩
theorem dJ.isMap (h:dJ P k W b n f) :∃es c,W.heap[b]? = some (.map es c):=by
 obtain⟨D,⟨es,clock,h1,_⟩,_⟩:=h;exact⟨es,clock,h1⟩
theorem dJ.look {t e:TypeId} (h:dJ P k W b n f) (hk:P.underlying k=some .string) (ht:P.underlying t=some (.map k e)) {z:Value} (hz:(zeroValue e).run P W=.ok z W) (hze:(uD z).isSome=true) (s:ByteArray) (hs:s.size≤maxLen) :
  (Instr.lookup t (.map (some b)) (.string s) true).run P W=.ok (.tuple #[(f s).getD z,.bool (f s).isSome]) W:=by
 obtain⟨D,h1,h2⟩:=h;obtain⟨zd,hzd⟩:=y7.1 hze;obtain⟨v,ps,hr,hv⟩:=h1.look_ok (string_keyed hk) ht hz (zd:=zd) (zp:=[]) (by unfold Ns;rw[hzd];rfl) (Go.WideMaps.keyOf_string_mk hk hs)
 have hv:=Iw hv;have h3:=h2 s hs;cases e1:f s with
 | none =>
  rw[e1] at h3;rw[h3 zd] at hv;rw[hr,has_false_of_atKey h3,AP hv hzd];rfl
 | some u =>
  rw[e1] at h3;obtain⟨ud,hud⟩:=y7.1 h3.1;have h4 :∀z,D.atKey (.string s.data.toList) z=ud:=fun z=>by rw[h3.2 z,hud];rfl
  rw[h4 zd] at hv;rw[hr,has_true_of_atKey h4,AP hv hud];rfl
theorem Nt {a b:ByteArray} (h:a.data.toList=b.data.toList):a=b:=by
 cases a;cases b;exact az ByteArray.mk (Array.toList_inj.1 h)
theorem dJ.put {t e:TypeId} (h:dJ P k W b n f) (hk:P.underlying k=some .string) (ht:P.underlying t=some (.map k e)) (hn:n<maxLen) (s:ByteArray) (hs:s.size≤maxLen) (v:Value) (hv:(uD v).isSome=true) :
  ∃W',(Instr.mapUpdate t (.map (some b)) (.string s) v).run P W=.ok () W'∧dJ P k W' b (n+1) (fun x=>if x=s then some v else f x)∧W.grownBy W' (some b):=by
 obtain⟨D,h1,h2⟩:=h;obtain⟨d,hd⟩:=y7.1 hv;obtain⟨W',hr,h3,h4⟩:=h1.update (string_keyed hk) ht hn (d:=d) (ps:=[]) (Go.WideMaps.keyOf_string_mk hk hs) (by unfold Ns;rw[hd];rfl)
 refine⟨W',hr,⟨_,h3,fun x hx=>?_⟩,h4⟩
 have hD:IsMap D:=h1.isMap;by_cases e:x=s
 ·subst e
  dsimp only
  rw[al rfl];refine⟨hv,fun z=>?_⟩
  rw[atKey_put_same hD (by unfold WideAt.IsKeyLit;trivial),hd]
  rfl
 ·dsimp only
  rw[af e];have hne:(Lit.string x.data.toList) ≠ .string s.data.toList:=fun e1=>e (Nt (by injection e1))
  have h5:=h2 x hx;cases e2:f x with
  | none =>
   rw[e2] at h5;exact fun z=>by rw[atKey_put_other hne];exact h5 z
  | some u =>
   rw[e2] at h5;exact⟨h5.1,fun z=>by rw[atKey_put_other hne];exact h5.2 z⟩
end
end Go.Proofs.YteflkdlaoiijbaaGreatDoor
namespace Go.Proofs.YteflkdlaoiijbaaGreatDoor
open Go.RowKit
def acv (o:Obj):Prop:=∀c e fz,o ≠ .cells c e fz
structure Fr (E:List Nat) (W W':World):Prop where
 size:W.heap.size≤W'.heap.size
 cells :∀(k:Nat) c (e:TypeId) fz,W.heap[k]? = some (.cells c e fz)→e∉E→W'.heap[k]? = some (.cells c e fz)
 others :∀(k:Nat) o,W.heap[k]? = some o→acv o→W'.heap[k]? = some o
theorem Fr.maps {E:List Nat} {W W':World} (h:Fr E W W') :∀(k:Nat) es c,W.heap[k]? = some (.map es c)→W'.heap[k]? = some (.map es c):=fun k _ _ hk=>h.others k _ hk fun _ _ _ e=>by cases e
section
variable {E E':List Nat} {W W' W2:World}
theorem Fr.refl (E:List Nat) (W:World):Fr E W W:=⟨ah _,fun _ _ _ _ h _=>h,fun _ _ h _=>h⟩
theorem Fr.trans (h:Fr E W W') (k:Fr E W' W2):Fr E W W2:=⟨aL h.size k.size,fun i c e fz hi he=>k.cells i c e fz (h.cells i c e fz hi he) he,fun i o hi ho=>k.others i o (h.others i o hi ho) ho⟩
theorem Fr.mono (h:Fr E W W') (he :∀e∈E,e∈E'):Fr E' W W':=⟨h.size,fun i c e fz hi hn=>h.cells i c e fz hi fun hm=>hn (he e hm),h.others⟩
theorem Fr.ae (h:Below W.heap.size W W'):Fr E W W':=⟨h.size,fun k _ _ _ hk _=>(h.block k (aJ.1 hk).1).trans hk,fun k _ hk _=>(h.block k (aJ.1 hk).1).trans hk⟩
theorem Fr.alloc (o:Obj):Fr E W (W.alloc o):=Fr.ae ((Below.refl _ W).alloc (ah _) o)
theorem Fr.drew (h:Fr E W W'):Fr E W W'.drew:=⟨h.size,h.cells,h.others⟩
theorem Fr.set {g:Nat} {cs:Array Value} {ty:TypeId} {fz:Nat×Nat} (h:W.heap[g]? = some (.cells cs ty fz)) (he:ty∈E) (j:Nat) (v:Value):Fr E W (W.setCell ⟨g,j,none⟩ v) :=
 ⟨by simp[World.setCell],fun k c e f hk hn=>(Below.heap_setCell W ⟨g,j,none⟩ v k (fun(e':k=g)=>by
  subst e';rw[h] at hk;injection hk with hk;injection hk with _ hk;exact hn (hk▸he))).trans hk,fun k o hk ho=>(Below.heap_setCell W ⟨g,j,none⟩ v k (fun(e':k=g)=>by
  subst e';rw[h] at hk;injection hk with hk;exact ho _ _ _ hk.symm)).trans hk⟩
theorem Fr.but {B ty s n:Nat} {v:Value} {xs:List Value} (hr:W.ownsRow B ty s v n xs) (he:ty∈E) (h:qB v.ownBlock W W'):Fr E W W':=by
 have key :∀(k:Nat) (o:Obj),W.heap[k]? = some o→(∀c fz,o ≠ .cells c ty fz)→W'.heap[k]? = some o:=fun k o hk ho=>(h.2 k (aJ.1 hk).1 fun ek=>by
  obtain⟨c,fz,h1⟩:=Lib.ownsRow_kind hr k ek;rw[hk] at h1;injection h1 with h1;exact ho _ _ h1).trans hk
 exact⟨h.1,fun k c e fz hk hn=>key k _ hk fun c' XB e1=>by injection e1 with _ e1;exact hn (e1▸he),fun k o hk ho=>key k _ hk fun _ _ e1=>ho _ _ _ e1⟩
theorem Fr.row {B e s n:Nat} {v:Value} {xs:List Value} (h:Fr E W W') (hr:W.ownsRow B e s v n xs) (he:e∉E):W'.ownsRow B e s v n xs:=by
 refine⟨hr.1,?_⟩;rcases hr.2 with hn | ⟨g,cap,cur,rfl,hB,hg,rest⟩
 ·exact .inl hn
 ·exact .inr ⟨g,cap,cur,rfl,hB,h.cells g _ _ _ hg he,rest⟩
theorem Fr.map {P:Program} {k:TypeId} {b n:Nat} {f:ByteArray→Option Value} (h:Fr E W W') (hm:dJ P k W b n f):dJ P k W' b n f:=by
 obtain⟨es,c,h1⟩:=hm.isMap;exact hm.same ((h.maps b es c h1).trans h1.symm)
theorem Fr.XC {ty:TypeId} (h:Fr [ty] W W'):JA ty W W':=⟨h.size,fun k c e fz hk he=>h.cells k c e fz hk (by simpa using he)⟩
end
structure qh (W:World) (B:Nat) (v:Value) (L:List oC):Prop where
 row:W.ownsRow B 52 6 v L.length (L.flatMap No)
 vars :∀t∈L,W.ownsRow B 61 3 t.2.1 t.1.vars.length (t.1.vars.flatMap sG)
 cz :∀t∈L,W.ownsRow B 59 2 t.2.2 t.1.cz.length (t.1.cz.flatMap EX)
 qi :∀(i j:Nat) t u,i≠j→L[i]? = some t→L[j]? = some u→∀g,t.2.1.ownBlock=some g→u.2.1.ownBlock≠some g
 rn :∀(i j:Nat) t u,i≠j→L[i]? = some t→L[j]? = some u→∀g,t.2.2.ownBlock=some g→u.2.2.ownBlock≠some g
theorem qh.XC {W W':World} {B:Nat} {ty:TypeId} {v:Value} {L:List oC} (h:qh W B v L) (ho:JA ty W W') (h1:(52:Nat)≠ty) (h2:(61:Nat)≠ty) (h3:(59:Nat)≠ty):qh W' B v L :=
 ⟨da h.row ho h1,fun t ht=>da (h.vars t ht) ho h2,fun t ht=>da (h.cz t ht) ho h3,h.qi,h.rn⟩
theorem qh.form {W:World} {B:Nat} {fv:Value} {L:List oC} (h:qh W B fv L) {f:Nat} {t:oC} (hf:L[f]? = some t) :∃g c,fv=.slice (some ⟨g,0,none⟩) L.length c∧B≤g∧g<W.heap.size∧∀j,j<6→W.cell? ⟨g,f*6+j,none⟩=(No t)[j]?∧W.frozen? ⟨g,f*6+j,none⟩=false:=by
 have hl:=(aK.1 hf).1;rcases h.row.2 with ⟨_,h0⟩ | ⟨g,cap,cur,rfl,hB,hg,_⟩
 ·omega
 ·refine⟨g,cap,rfl,hB,(aJ.1 hg).1,fun j hj=>⟨?_,World.ownsRow.frozenAt h.row _⟩⟩
  rw[World.ownsRow.cellAt h.row (f*6+j) (by omega)]
  exact iu qf L f j t hf hj
theorem qh.Nu {W W1:World} {B:Nat} {g c f:Nat} {L:List oC} {t:oC} (h:qh W B (.slice (some ⟨g,0,none⟩) L.length c) L) (hf:L[f]? = some t) (hb:qB t.2.1.ownBlock W W1) {v':Value} {vs:List mq} (hv:W1.ownsRow B 61 3 v' vs.length (vs.flatMap sG)) (hn :∀k,v'.ownBlock=some k→t.2.1.ownBlock=some k∨W.heap.size≤k) :
  qh (W1.setCell ⟨g,f*6+4,none⟩ v') B (.slice (some ⟨g,0,none⟩) L.length c) (L.set f ({ t.1 with vars:=vs},v',t.2.2)):=by
 have hl:=(aK.1 hf).1;have Ix:=aM hf;have qj:=hb.row h.row (fun k hk e=>eh h.row (h.vars t Ix) (by decide) k hk e)
 have hst:=(World.ownsRow.stored qj (f*6+4) v').1;have MA :∃cs fz,W1.heap[g]? = some (.cells cs 52 fz):=Lib.ownsRow_kind qj g rfl;obtain⟨cs,fz,SG⟩:=MA;have Dk:=JA.set SG (f*6+4) v';refine⟨?_,fun u hu=>?_,fun u hu=>?_,fun i j u w' vl hi hj k hk=>?_,fun i j u w' vl hi hj k hk=>?_⟩
 ·rw[kG,qg qf L f 4 t _ v' hf (by omega) rfl]
  exact hst
 ·obtain⟨i,hi⟩:=kD.1 hu
  by_cases e:f=i
  ·subst e
   rw[dR hl] at hi;injection hi with hi;subst hi;exact da hv Dk (by decide)
  ·rw[fD e] at hi
   exact da (hb.row (h.vars u (aM hi)) (fun k hk=>fun ek=>h.qi i f u t (fun e'=>e e'.symm) hi hf k hk ek)) Dk (by decide)
 ·obtain⟨i,hi⟩:=kD.1 hu
  have key :∀u∈L,(W1.setCell ⟨g,f*6+4,none⟩ v').ownsRow B 59 2 u.2.2 u.1.cz.length (u.1.cz.flatMap EX):=fun u hu=>da (hb.row (h.cz u hu) (fun k hk e=>eh (h.cz u hu) (h.vars t Ix) (by decide) k hk e)) Dk (by decide)
  by_cases e:f=i
  ·subst e
   rw[dR hl] at hi;injection hi with hi;subst hi;exact key t Ix
  ·rw[fD e] at hi
   exact key u (aM hi)
 ·by_cases e1:f=i
  ·subst e1
   rw[dR hl] at hi;injection hi with hi;subst hi;rw[fD vl] at hj;intro hk2;rcases hn k hk with h1|h1
   ·exact h.qi f j t w' vl hf hj k h1 hk2
   ·have:=((h.vars w' (aM hj)).lt k hk2).2
    omega
  ·rw[fD e1] at hi
   by_cases e2:f=j
   ·subst e2
    rw[dR hl] at hj;injection hj with hj;subst hj;intro hk2;rcases hn k hk2 with h1|h1
    ·exact h.qi i f u t vl hi hf k hk h1
    ·have:=((h.vars u (aM hi)).lt k hk).2
     omega
   ·rw[fD e2] at hj
    exact h.qi i j u w' vl hi hj k hk
 ·have key :∀(i:Nat) u,(L.set f ({ t.1 with vars:=vs},v',t.2.2))[i]? = some u→∃u',L[i]? = some u'∧u.2.2=u'.2.2:=fun i u hi=>by
   by_cases e1:f=i
   ·subst e1
    rw[dR hl] at hi;injection hi with hi;subst hi;exact⟨t,hf,rfl⟩
   ·rw[fD e1] at hi
    exact⟨u,hi,rfl⟩
  obtain⟨u1,a1,a2⟩:=key i u hi;obtain⟨u2,b1,b2⟩:=key j w' hj;rw[a2] at hk;rw[b2];exact h.rn i j u1 u2 vl a1 b1 k hk
theorem qh.SH {W W1:World} {B:Nat} {g c f:Nat} {L:List oC} {t:oC} (h:qh W B (.slice (some ⟨g,0,none⟩) L.length c) L) (hf:L[f]? = some t) (hb:qB t.2.2.ownBlock W W1) {v':Value} {vs:List sd} (hv:W1.ownsRow B 59 2 v' vs.length (vs.flatMap EX)) (hn :∀k,v'.ownBlock=some k→t.2.2.ownBlock=some k∨W.heap.size≤k) :
  qh (W1.setCell ⟨g,f*6+5,none⟩ v') B (.slice (some ⟨g,0,none⟩) L.length c) (L.set f ({ t.1 with cz:=vs},t.2.1,v')):=by
 have hl:=(aK.1 hf).1;have Ix:=aM hf;have qj:=hb.row h.row (fun k hk e=>eh h.row (h.cz t Ix) (by decide) k hk e)
 have hst:=(World.ownsRow.stored qj (f*6+5) v').1;obtain⟨cs,fz,SG⟩ :∃cs fz,W1.heap[g]? = some (.cells cs 52 fz):=Lib.ownsRow_kind qj g rfl;have Dk:=JA.set SG (f*6+5) v';refine⟨?_,fun u hu=>?_,fun u hu=>?_,fun i j u w' vl hi hj k hk=>?_,fun i j u w' vl hi hj k hk=>?_⟩
 ·rw[kG,qg qf L f 5 t _ v' hf (by omega) rfl]
  exact hst
 ·obtain⟨i,hi⟩:=kD.1 hu
  have key :∀u∈L,(W1.setCell ⟨g,f*6+5,none⟩ v').ownsRow B 61 3 u.2.1 u.1.vars.length (u.1.vars.flatMap sG):=fun u hu=>da (hb.row (h.vars u hu) (fun k hk e=>eh (h.vars u hu) (h.cz t Ix) (by decide) k hk e)) Dk (by decide)
  by_cases e:f=i
  ·subst e
   rw[dR hl] at hi;injection hi with hi;subst hi;exact key t Ix
  ·rw[fD e] at hi
   exact key u (aM hi)
 ·obtain⟨i,hi⟩:=kD.1 hu
  by_cases e:f=i
  ·subst e
   rw[dR hl] at hi;injection hi with hi;subst hi;exact da hv Dk (by decide)
  ·rw[fD e] at hi
   exact da (hb.row (h.cz u (aM hi)) (fun k hk=>fun ek=>h.rn i f u t (fun e'=>e e'.symm) hi hf k hk ek)) Dk (by decide)
 ·have key :∀(i:Nat) u,(L.set f ({ t.1 with cz:=vs},t.2.1,v'))[i]? = some u→∃u',L[i]? = some u'∧u.2.1=u'.2.1:=fun i u hi=>by
   by_cases e1:f=i
   ·subst e1
    rw[dR hl] at hi;injection hi with hi;subst hi;exact⟨t,hf,rfl⟩
   ·rw[fD e1] at hi
    exact⟨u,hi,rfl⟩
  obtain⟨u1,a1,a2⟩:=key i u hi;obtain⟨u2,b1,b2⟩:=key j w' hj;rw[a2] at hk;rw[b2];exact h.qi i j u1 u2 vl a1 b1 k hk
 ·by_cases e1:f=i
  ·subst e1
   rw[dR hl] at hi;injection hi with hi;subst hi;rw[fD vl] at hj;intro hk2;rcases hn k hk with h1|h1
   ·exact h.rn f j t w' vl hf hj k h1 hk2
   ·have:=((h.cz w' (aM hj)).lt k hk2).2
    omega
  ·rw[fD e1] at hi
   by_cases e2:f=j
   ·subst e2
    rw[dR hl] at hj;injection hj with hj;subst hj;intro hk2;rcases hn k hk2 with h1|h1
    ·exact h.rn i f u t vl hi hf k hk h1
    ·have:=((h.cz u (aM hi)).lt k hk).2
     omega
   ·rw[fD e2] at hj
    exact h.rn i j u w' vl hi hj k hk
structure eV (W:World) (B b:Nat) (nv:Value) (N:Nat) (st:aF) (fv:Value) (ub ob:Nat) (L:List oC):Prop where
 blk:W.heap[b]? = some (.cells #[nv,fv,.slice (some ⟨ub,0,none⟩) N N,.slice (some ⟨ob,0,none⟩) N N] 87 (0,0))
 fns:qh W B fv L
 are:L.map (·.1)=st.fns
 uses:fA W B 57 2 ub N (vw st.uses)
 pe:fA W B 3 1 ob N (SF st.of)
 pos:B≤b
section
variable {W W1 W':World} {B b:Nat} {nv:Value} {N:Nat} {st:aF} {fv:Value} {ub ob:Nat} {L:List oC}
theorem eV.on {s2:aF} (h:eV W B b nv N st fv ub ob L) (e1:s2.fns=st.fns) (e2:s2.uses=st.uses) (e3:s2.of=st.of):eV W B b nv N s2 fv ub ob L :=
 ⟨h.blk,h.fns,by rw[e1];exact h.are,by rw[e2];exact h.uses,by rw[e3];exact h.pe,h.pos⟩
theorem eV.fr {E:List Nat} (h:eV W B b nv N st fv ub ob L) (k:Fr E W W') (he:(87:Nat)∉E∧(52:Nat)∉E∧(61:Nat)∉E∧(59:Nat)∉E∧(57:Nat)∉E∧(3:Nat)∉E):eV W' B b nv N st fv ub ob L :=
 ⟨k.cells b _ _ _ h.blk he.1,⟨k.row h.fns.row he.2.1,fun t ht=>k.row (h.fns.vars t ht) he.2.2.1,fun t ht=>k.row (h.fns.cz t ht) he.2.2.2.1,h.fns.qi,h.fns.rn⟩,h.are,k.row h.uses he.2.2.2.2.1,k.row h.pe he.2.2.2.2.2,h.pos⟩
theorem eV.drew (h:eV W B b nv N st fv ub ob L):eV W.drew B b nv N st fv ub ob L:=h.fr (E:=[]) (Fr.refl _ W).drew (by decide)
theorem eV.alloc (h:eV W B b nv N st fv ub ob L) (o:Obj):eV (W.alloc o) B b nv N st fv ub ob L:=h.fr (E:=[]) (Fr.alloc o) (by decide)
theorem eV.later (h:eV W B b nv N st fv ub ob L) (hb:Below W.heap.size W W'):eV W' B b nv N st fv ub ob L:=h.fr (E:=[]) (Fr.ae hb) (by decide)
theorem eV.Nv (h:eV W B b nv N st fv ub ob L) (ho:Fr [57] W W') {u:Nat→Int×Int} (hu:fA W' B 57 2 ub N (vw u)):eV W' B b nv N { st with uses:=u} fv ub ob L :=
 ⟨ho.cells b _ _ _ h.blk (by decide),h.fns.XC ho.XC (by decide) (by decide) (by decide),h.are,hu,ho.row h.pe (by decide),h.pos⟩
theorem eV.SI (h:eV W B b nv N st fv ub ob L) (ho:Fr [3] W W') {o:Nat→Int} (hu:fA W' B 3 1 ob N (SF o)):eV W' B b nv N { st with of:=o} fv ub ob L :=
 ⟨ho.cells b _ _ _ h.blk (by decide),h.fns.XC ho.XC (by decide) (by decide) (by decide),h.are,ho.row h.uses (by decide),hu,h.pos⟩
theorem lT (h:eV W B b nv N st fv ub ob L) (i:Nat) (x y:Value):Fr [57] W ((W.setCell ⟨ub,i*2,none⟩ x).setCell ⟨ub,i*2+1,none⟩ y):=by
 obtain⟨cs,hc⟩:=ld h.uses;obtain⟨cs',hc'⟩:=ld (qe h.uses (i*2) x);exact(Fr.set hc (by decide) _ _).trans (Fr.set hc' (by decide) _ _)
theorem eV.use (h:eV W B b nv N st fv ub ob L) (i:Nat) (x:Int×Int):eV ((W.setCell ⟨ub,i*2,none⟩ (.int .i64 x.1)).setCell ⟨ub,i*2+1,none⟩ (.int .i64 x.2)) B b nv N (st.cK i x) fv ub ob L :=
 h.Nv (lT h i _ _) (Nq h.uses i x)
theorem uH (h:eV W B b nv N st fv ub ob L) (i:Nat) (x:Value):Fr [3] W (W.setCell ⟨ob,i,none⟩ x):=by
 obtain⟨cs,hc⟩:=ld h.pe;exact Fr.set hc (by decide) _ _
theorem eV.of_ (h:eV W B b nv N st fv ub ob L) (i f:Nat):eV (W.setCell ⟨ob,i,none⟩ (.int .i64 (f:Int))) B b nv N (st.setOf i f) fv ub ob L :=
 h.SI (uH h i _) (XA h.pe i (f:Int))
theorem eV.ja (h:eV W B b nv N st fv ub ob L):B≤ub∧B≤ob:=⟨(h.uses.lt ub rfl).1,(h.pe.lt ob rfl).1⟩
theorem uI (h:eV W B b nv N st fv ub ob L) (i:Nat) (x y:Value):Below B W ((W.setCell ⟨ub,i*2,none⟩ x).setCell ⟨ub,i*2+1,none⟩ y):=((Below.refl B W).setCell (p:=⟨ub,i*2,none⟩) h.ja.1 x).setCell (p:=⟨ub,i*2+1,none⟩) h.ja.1 y
theorem eV.AQ {W2:World} (h:eV W B b nv N st fv ub ob L) {ty:TypeId} (ho:Fr [ty] W W1) (h1:(87:Nat)≠ty∧(57:Nat)≠ty∧(3:Nat)≠ty) (Iy:Fr [52] W1 W2) {L':List oC} {F':List dr} (hF:qh W2 B fv L') (ha:L'.map (·.1)=F'):eV W2 B b nv N { st with fns:=F'} fv ub ob L' :=
 ⟨Iy.cells b _ _ _ (ho.cells b _ _ _ h.blk (by simpa using h1.1)) (by decide),hF,ha,Iy.row (ho.row h.uses (by simpa using h1.2.1)) (by decide),Iy.row (ho.row h.pe (by simpa using h1.2.2)) (by decide),h.pos⟩
theorem eV.si (h:eV W B b nv N st fv ub ob L) {f:Nat} {t:oC} (hf:L[f]? = some t):st.fns[f]? = some t.1∧st.fn f=t.1:=by
 have:st.fns[f]? = some t.1:=by rw[←h.are,iA,hf];rfl
 exact⟨this,by unfold aF.fn;rw[kB,this];rfl⟩
theorem eV.AR (h:eV W B b nv N st fv ub ob L) {f:Nat} (hf:f<st.fns.length) :∃t,L[f]? = some t:=⟨L[f]'(by have:=az List.length h.are;rw[cD] at this;omega),bX _⟩
theorem eV.len (h:eV W B b nv N st fv ub ob L):L.length=st.fns.length:=by have:=az List.length h.are;rwa[cD] at this
theorem eV.Nw {g c f:Nat} {t:oC} (h:eV W B b nv N st (.slice (some ⟨g,0,none⟩) L.length c) ub ob L) (hf:L[f]? = some t) (hb:qB t.2.1.ownBlock W W1) {v':Value} {vs:List mq} (hv:W1.ownsRow B 61 3 v' vs.length (vs.flatMap sG)) (hn :∀k,v'.ownBlock=some k→t.2.1.ownBlock=some k∨W.heap.size≤k) :
  eV (W1.setCell ⟨g,f*6+4,none⟩ v') B b nv N (st.oB f { t.1 with vars:=vs}) (.slice (some ⟨g,0,none⟩) L.length c) ub ob (L.set f ({ t.1 with vars:=vs},v',t.2.2))∧Fr [52,61,59] W (W1.setCell ⟨g,f*6+4,none⟩ v'):=by
 have Ix:=aM hf;have ho:Fr [61] W W1:=Fr.but (h.fns.vars t Ix) (by decide) hb
 have qj:=hb.row h.fns.row (fun k hk e=>eh h.fns.row (h.fns.vars t Ix) (by decide) k hk e)
 obtain⟨cs,fz,SG⟩ :∃cs fz,W1.heap[g]? = some (.cells cs 52 fz):=Lib.ownsRow_kind qj g rfl;refine⟨h.AQ ho (by decide) (Fr.set SG (by decide) (f*6+4) v') (h.fns.Nu hf hb hv hn) ?_,(ho.mono (by decide)).trans ((Fr.set (E:=[52]) SG (by decide) _ _).mono (by decide))⟩
 rw[nw,h.are]
theorem eV.SJ {g c f:Nat} {t:oC} (h:eV W B b nv N st (.slice (some ⟨g,0,none⟩) L.length c) ub ob L) (hf:L[f]? = some t) (hb:qB t.2.2.ownBlock W W1) {v':Value} {vs:List sd} (hv:W1.ownsRow B 59 2 v' vs.length (vs.flatMap EX)) (hn :∀k,v'.ownBlock=some k→t.2.2.ownBlock=some k∨W.heap.size≤k) :
  eV (W1.setCell ⟨g,f*6+5,none⟩ v') B b nv N (st.oB f { t.1 with cz:=vs}) (.slice (some ⟨g,0,none⟩) L.length c) ub ob (L.set f ({ t.1 with cz:=vs},t.2.1,v'))∧Fr [52,61,59] W (W1.setCell ⟨g,f*6+5,none⟩ v'):=by
 have Ix:=aM hf;have ho:Fr [59] W W1:=Fr.but (h.fns.cz t Ix) (by decide) hb
 have qj:=hb.row h.fns.row (fun k hk e=>eh h.fns.row (h.fns.cz t Ix) (by decide) k hk e)
 obtain⟨cs,fz,SG⟩ :∃cs fz,W1.heap[g]? = some (.cells cs 52 fz):=Lib.ownsRow_kind qj g rfl;refine⟨h.AQ ho (by decide) (Fr.set SG (by decide) (f*6+5) v') (h.fns.SH hf hb hv hn) ?_,(ho.mono (by decide)).trans ((Fr.set (E:=[52]) SG (by decide) _ _).mono (by decide))⟩
 rw[nw,h.are]
end
theorem eV.cap {W:World} {B b:Nat} {nv:Value} {N:Nat} {st:aF} {fv:Value} {ub ob:Nat} {L:List oC} {f i gv c:Nat} {y:dr} {yu:Value} {v:mq} (h:eV W B b nv N st fv ub ob L) (hf:L[f]? = some (y,.slice (some ⟨gv,0,none⟩) y.vars.length c,yu)) (hi:y.vars[i]? = some v) :
  eV (W.setCell ⟨gv,i*3+2,none⟩ (.bool true)) B b nv N (st.oB f (cZ y i)) fv ub ob (L.set f (cZ y i,.slice (some ⟨gv,0,none⟩) y.vars.length c,yu)):=by
 have hl:=(aK.1 hf).1;have hm:=aM hf;have hr:=h.fns.vars _ hm;obtain⟨cs,fz,hk⟩:=Lib.ownsRow_kind hr gv rfl;have ho:=JA.set hk (i*3+2) (.bool true);have hb:=qB.set W gv (i*3+2) (.bool true);have AS:cZ y i={ y with vars:=y.vars.set i { v with cap:=true}}:=by unfold cZ;rw[hi]
 have hst:=(World.ownsRow.stored hr (i*3+2) (.bool true)).1;have hlen:(cZ y i).vars.length=y.vars.length:=by rw[AS];simp
 have get :∀(j:Nat) t,(L.set f (cZ y i,.slice (some ⟨gv,0,none⟩) y.vars.length c,yu))[j]? = some t→(j=f∧t=(cZ y i,.slice (some ⟨gv,0,none⟩) y.vars.length c,yu))∨(j≠f∧L[j]? = some t):=fun j t hj=>by
  by_cases e:f=j
  ·subst e
   rw[dR hl] at hj;injection hj with hj;exact .inl ⟨rfl,hj.symm⟩
  ·rw[fD e] at hj
   exact .inr ⟨fun e'=>e e'.symm,hj⟩
 have vals :∀(j:Nat) t,(L.set f (cZ y i,.slice (some ⟨gv,0,none⟩) y.vars.length c,yu))[j]? = some t→∃t',L[j]? = some t'∧t.2=t'.2:=fun j t hj=>by
  rcases get j t hj with ⟨rfl,rfl⟩ | ⟨_,hj⟩
  ·exact⟨_,hf,rfl⟩
  ·exact⟨t,hj,rfl⟩
 refine⟨ho.2 b _ _ _ h.blk (by decide),⟨?_,fun t ht=>?_,fun t ht=>?_,fun p q t u hpq hp hq k iO=>?_,fun p q t u hpq hp hq k iO=>?_⟩,?_,lf h.uses ho (by decide),lf h.pe ho (by decide),h.pos⟩
 ·rw[kG,wO L f _ _ hf (by rw[AS];rfl)]
  exact da h.fns.row ho (by decide)
 ·obtain⟨j,hj⟩:=kD.1 ht
  rcases get j t hj with ⟨rfl,rfl⟩ | ⟨hne,hj⟩
  ·simp only
   rw[hlen,AS];simp only;rw[qg AN y.vars i 2 v _ (.bool true) hi (by omega) rfl]
   exact hst
  ·exact hb.row (h.fns.vars t (aM hj)) fun k hk e=>by
    injection e with e;subst e;exact h.fns.qi j f t _ hne hj hf gv hk rfl
 ·obtain⟨j,hj⟩:=kD.1 ht
  rcases get j t hj with ⟨rfl,rfl⟩ | ⟨hne,hj⟩
  ·have:=da (h.fns.cz _ hm) ho (by decide)
   simp only at this ⊢;rw[AS];exact this
  ·exact da (h.fns.cz t (aM hj)) ho (by decide)
 ·obtain⟨t',h1,e1⟩:=vals p t hp
  obtain⟨u',h2,e2⟩:=vals q u hq;rw[e1] at iO;rw[e2];exact h.fns.qi p q t' u' hpq h1 h2 k iO
 ·obtain⟨t',h1,e1⟩:=vals p t hp
  obtain⟨u',h2,e2⟩:=vals q u hq;rw[e1] at iO;rw[e2];exact h.fns.rn p q t' u' hpq h1 h2 k iO
 ·rw[nw,h.are]
  rfl
theorem Iz:(Tryz.prog.info? 61).map (fun i=>(i.zero,i.size,i.bytes))=some (some (.agg #[.string ⟨#[]⟩,.int .i64 0,.bool false]),3,32):=by kernel_rfl
theorem Nx:(Tryz.prog.info? 59).map (fun i=>(i.zero,i.size,i.bytes))=some (some (.agg #[.bool false,.int .i64 0]),2,16):=by kernel_rfl
theorem Ny:(Tryz.prog.info? 52).map (fun i=>(i.zero,i.size,i.bytes))=some (some (.agg #[.int .i64 0,.int .i64 0,.int .i64 0,.bool false,.slice none 0 0,.slice none 0 0]),6,80):=by kernel_rfl
theorem Dl:(Tryz.prog.info? 238).map (fun i=>(i.zero,i.size,i.bytes))=some (some (.agg #[.int .i64 0,.map none]),2,16):=by kernel_rfl
end Go.Proofs.YteflkdlaoiijbaaGreatDoor
