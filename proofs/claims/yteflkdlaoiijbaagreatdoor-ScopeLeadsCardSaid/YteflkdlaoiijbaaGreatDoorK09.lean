/- Parts of the proof. -/
import Derived.Lib.OthersKept
import Derived.Lib.OwnKind
import Derived.Deep.RegionLaw
import Derived.Maps.Own
import Derived.Maps.OwnSet
import Derived.StringKeys
import Derived.Test.YteflkdlaoiijbaaGreatDoorK08
set_option maxHeartbeats 16000000
set_option maxRecDepth 20000
namespace Go.Proofs.YteflkdlaoiijbaaGreatDoor
theorem Fh {f:Nat} {st:aH} (c:Cx f st) (i g:Nat):kE [i] f st (st.setOf i g) :=
 ⟨.refl _,c.ok,fun j hj=>⟨rfl,af (by simpa using hj)⟩,⟨[],rfl,fun n hn=>by simp at hn⟩,fun g x h1 h2=>by have h3:g<st.fns.length:=(aJ.1 h2).1;omega⟩
theorem tE {f:Nat} {st:aH} (c:Cx f st) (i:Nat) (u:Int×Int):kE [i] f st (st.dw i u) :=
 ⟨.refl _,c.ok,fun j hj=>⟨af (by simpa using hj),rfl⟩,⟨[],rfl,fun n hn=>by simp at hn⟩,fun g x h1 h2=>by have h3:g<st.fns.length:=(aJ.1 h2).1;omega⟩
theorem uX (st:aH) (i:Nat) (u:Int×Int):(st.dw i u).uses i=u:=al rfl
theorem Nn (st:aH) (i f:Nat):(st.setOf i f).of i=(f:Int):=al rfl
def kg (x:dr) (node:Nat) (l:List ByteArray):dr:={ x with vars:=x.vars++l.map fun s=>⟨s,node,false⟩}
theorem ID (x:dr) (node:Nat):kg x node []=x:=by unfold kg;simp
theorem A3 (x:dr) (node:Nat) (l:List ByteArray):qq x (kg x node l) :=
 ⟨rfl,rfl,rfl,rfl,fun j v h=>⟨v,by unfold kg;rw[kK (aJ.1 h).1];exact h,rfl,rfl,id⟩,fun _ _ h=>h⟩
theorem No {F:List dr} {f:Nat} {x:dr} (h:F[f]? = some x):F.set f x=F:=by
 refine Ee fun g=>?_
 by_cases hg:f=g
 ·subst hg
  rw[ec (aJ.1 h).1,h]
 ·rw[fJ hg]
theorem xp {node f:Nat} {line:Int} :∀(l:List ByteArray) {st st':aH} {x:dr},dV node f line l st=.ok st'→st.fns[f]? = some x →
  st'.fns=st.fns.set f (kg x node l)∧st'.uses=st.uses∧st'.of=st.of∧st'.frames=st.frames∧x.vars.length+l.length≤max 200 x.vars.length ∧
  ∃a,st'.names=a++st.names∧∀n∈a,n.fn=f∧∃v,(kg x node l).vars[n.i]? = some v∧v.name=n.s:=by
 intro l;induction l with
 | nil =>
  intro st st' x h hx;rw[dV] at h;injection h with h;subst h;exact⟨by rw[ID,No hx],rfl,rfl,rfl,by simp;omega,[],rfl,fun n hn=>by simp at hn⟩
 | cons s l ih =>
  intro st st' x h hx;rw[dV] at h;have e:st.fn f=x:=gG hx;rw[e] at h;split at h
  ·cases h
  ·rename_i hlt
   have hf:=(aJ.1 hx).1;have re:(st.oP f { x with vars:=x.vars++[⟨s,node,false⟩]}).fns[f]? = some { x with vars:=x.vars++[⟨s,node,false⟩]}:=ec hf;obtain⟨h1,h2,h3,h4,h5,a,h6,h7⟩:=ih h re;have e2:kg { x with vars:=x.vars++[⟨s,node,false⟩]} node l=kg x node (s::l):=by unfold kg;simp
   refine⟨?_,h2,h3,h4,?_,a++[⟨s,f,x.vars.length⟩],by rw[h6];simp,fun n hn=>?_⟩
   ·rw[h1,e2]
    show(st.fns.set f _).set f _=_
    rw[List.set_set]
   ·simp only[cI,List.length_cons,List.length_nil] at h5 ⊢
    omega
   ·rw[e2] at h7
    rcases cU.1 hn with hn|hn
    ·exact h7 n hn
    ·rw[bZ] at hn
     subst hn;refine⟨rfl,⟨s,node,false⟩,?_,rfl⟩;unfold kg;simp
theorem nI {node f:Nat} {line:Int} {l:List ByteArray} {st st':aH} (h:bF node f line l st=.ok st') (c:Cx f st):kE [node] f st st'∧st'.frames=st.frames∧st'.of=st.of:=by
 obtain⟨x,hx⟩ :∃x,st.fns[f]? = some x:=⟨_,bE c.lt⟩;unfold bF at h;obtain⟨h1,h2,h3,h4,_,a,h6,h7⟩:=xp l h (x:=x) hx;have h1:st'.fns=st.fns.set f (kg x node l):=h1;refine⟨⟨?_,?_,fun j hj=>⟨?_,congrFun h3 j⟩,⟨a,h6,fun n hn=>?_⟩,fun g y k1 k2=>?_⟩,h4,h3⟩
 ·rw[h1];exact .set hx (A3 x node l)
 ·rw[h1];exact c.ok.set hx (A3 x node l)
 ·rw[h2];exact af (by simpa using hj)
 ·obtain⟨e,v,k1,k2⟩:=h7 n hn
  rw[h1];unfold IC;exact⟨by rw[e];exact .same,_,v,by rw[e,ec c.lt],k1,k2⟩
 ·have:=(aJ.1 k2).1
  rw[h1,mg] at this;omega
theorem xq {i f:Nat} {h:Nd} {st st':aH} (e:bF i st.fns.length h.line h.names (jI i f h st)=.ok st') (c:Cx f st) :
  Cx st.fns.length st'∧uW st.fns st'.fns∧st'.fns.length=st.fns.length+1∧st'.of=st.of∧(∀j,j≠i→st'.uses j=st.uses j)∧st'.frames=st.frames∧(∃x,st'.fns[st.fns.length]? = some x∧x.node=i∧x.parent=(f:Int)):=by
 unfold bF at e;have hx:((jI i f h st).dw i (2,(((jI i f h st).fn st.fns.length).vars.length:Int))).fns[st.fns.length]? = some ⟨i,(f:Int),h.names.length,decide (h.num=1),[],[]⟩:=by
  show(st.fns++[_])[st.fns.length]? = _
  simp
 obtain⟨h1,h2,h3,h4,_,a,h6,h7⟩:=xp _ e hx;have hF:st'.fns=st.fns++[kg ⟨i,(f:Int),h.names.length,decide (h.num=1),[],[]⟩ i h.names]:=by
  rw[h1];show(st.fns++[_]).set st.fns.length _=_
  rw[List.set_append_right _ _ (ah _)];simp
 have hE:uW st.fns st'.fns:=by rw[hF];exact .app _ _
 have hl:st'.fns[st.fns.length]? = some (kg ⟨i,(f:Int),h.names.length,decide (h.num=1),[],[]⟩ i h.names):=by rw[hF];simp
 refine⟨⟨⟨by rw[hF];simp,fun g y hy=>?_⟩,by rw[hF];simp,fun n hn=>?_⟩,hE,by rw[hF];simp,h3,fun j hj=>by rw[h2];exact af hj,h4,_,hl,rfl,rfl⟩
 ·by_cases hg:g<st.fns.length
  ·have hy':st.fns[g]? = some y:=by rw[hF,kK hg] at hy;exact hy
   obtain⟨p,q⟩:=c.ok.each _ _ hy';exact⟨p,q⟩
  ·have hlt:=(aJ.1 hy).1
   rw[hF] at hlt;simp only[cI,List.length_cons,List.length_nil] at hlt;have vO:g=st.fns.length:=by omega
   subst vO;rw[hl] at hy;injection hy with hy;subst hy;exact⟨.inr ⟨f,rfl,c.lt⟩,by unfold kg;simp⟩
 ·rw[h6] at hn
  rcases cU.1 hn with hn|hn
  ·obtain⟨k1,v,k2,k3⟩:=h7 n hn
   exact⟨by rw[k1];exact .same,_,v,by rw[k1];exact hl,k2,k3⟩
  ·obtain⟨k1,k2⟩:=(c.names n hn).ext hE
   exact⟨.up hl rfl k1,k2⟩
theorem qv (x:dr) (i:Nat):qq x (da x i):=by
 unfold da;split
 ·rename_i v hv
  refine⟨rfl,rfl,rfl,rfl,fun j w hw=>?_,fun _ _ h=>h⟩
  by_cases hj:j=i
  ·subst hj
   rw[hv] at hw;injection hw with hw;subst hw;exact⟨_,ec (aJ.1 hv).1,rfl,rfl,fun _=>rfl⟩
  ·exact⟨w,by rw[fJ (fun e=>hj e.symm)];exact hw,rfl,rfl,id⟩
 ·exact .refl x
theorem XP {i f:Nat} {s:ByteArray} {line:Int} {st st':aH} (h:lR i f s line st=.ok st') (c:Cx f st) (hi:st.of i=(f:Int)):kE [i] f st st'∧st'.frames=st.frames∧st'.of=st.of∧XN st' s i:=by
 unfold lR at h;split at h
 ·injection h with h
  subst h;exact⟨tE c _ _,rfl,rfl,f,hi,.inl (uX _ _ _)⟩
 ·rename_i n hn
  have hs:n.s=s:=gU (by simpa using List.find?_some hn)
  obtain⟨ha,y,v,hy,hv,SI⟩:=c.names n (JT hn);split at h
  ·rename_i hf
   injection h with h;subst h;refine⟨tE c _ _,rfl,rfl,f,hi,.inr (.inl ⟨n.i,uX _ _ _,y,v,?_,hv,SI.trans hs⟩)⟩;rw[←hf];exact hy
  ·rename_i hf
   split at h
   ·cases h
   ·rename_i F k hk
    injection h with h;subst h;have e0:st.fn n.fn=y:=gG hy;rw[e0] at hk;have hyl:=(aJ.1 hy).1;have hE0:uW st.fns (st.fns.set n.fn (da y n.i)):=.set hy (qv y n.i);obtain⟨e1,e2,e3,hl⟩:=Fg _ hk (c.ok.set hy (qv y n.i)) (ha.ext hE0) hf (by rw[mg];exact c.lt) ⟨da y n.i,{ v with cap:=true},ec hyl,by
     unfold da;rw[hv];exact ec (aJ.1 hv).1,SI,rfl⟩
    refine⟨⟨hE0.trans e1,e2,fun j hj=>⟨af (by simpa using hj),rfl⟩,⟨[],rfl,fun n hn=>by simp at hn⟩,fun g x k1 k2=>?_⟩,rfl,rfl,f,hi,.inr (.inr ⟨k,uX _ _ _,by rw[←hs];exact hl⟩)⟩
    have:=(aJ.1 k2).1;have e4:F.length=st.fns.length:=by rw[e3,mg]
    have e5:(({ st with fns:=F}:aH).dw i (3,(k:Int))).fns=F:=rfl;rw[e5] at this;omega
theorem Nq {i f:Nat} {line:Int} {st st':aH} (h:ee i f line st=.ok st') (c:Cx f st) (hi:st.of i=(f:Int)):kE [i] f st st'∧st'.frames=st.frames∧st'.of=st.of∧∀V,XO V st.fr st' i:=by
 unfold ee at h;split at h
 ·cases h
 ·rename_i x hx
  injection h with h;subst h;have h1:=List.find?_some hx;simp only[dj,iH] at h1;exact⟨tE c _ _,rfl,rfl,fun V=>⟨f,x.node,hi,uX _ _ _,.inr ⟨x.core,jW (JT hx),h1.2,.inl ⟨h1.1,rfl⟩⟩⟩⟩
theorem SJ {i f:Nat} {s:ByteArray} {line:Int} {st st':aH} (c:Cx f st) (hi:st.of i=(f:Int)) :∀(l:List fF),dm i f s line st l=.ok st'→(∀x∈l,x∈st.frames)→kE [i] f st st'∧st'.frames=st.frames∧st'.of=st.of∧∀V,XO V st.fr st' i:=by
 intro l;induction l with
 | nil=>intro h;cases h
 | cons x l ih =>
  intro h hl;rw[dm] at h;split at h
  ·exact ih h fun y hy=>hl y (cr _ hy)
  ·rename_i hc
   rw[sz,Decidable.not_not] at hc;split at h
   ·exact ih h fun y hy=>hl y (cr _ hy)
   ·rename_i j hj
    split at h
    ·cases h
    ·injection h with h
     subst h;obtain⟨hlt,he,_⟩:=zx.1 hj;refine⟨tE c _ _,rfl,rfl,fun V=>⟨f,_,hi,uX _ _ _,.inr ⟨x.core,jW (hl x (bT ..)),hc.2,(.inr ⟨show x.loop=false by simpa using hc.1,?_⟩)⟩⟩⟩
     have e:x.kids.getD j (.mk 0 ⟨0,0,0,0,⟨#[]⟩,[],[]⟩ [])=x.kids[j]:=by rw[jU,bE hlt];rfl
     rw[e];exact jW (Kb hlt)
theorem kE.uY {A B:List Nat} {f:Nat} {a b c:aH} (h:kE A f a b) (k:kE B f b c) (e:c.of=b.of):kE (A++B) f a c :=
 ⟨h.ext.trans k.ext,k.ok,fun j hj=>by
  rw[cU,sz] at hj;exact⟨(k.off j hj.2).1.trans (h.off j hj.1).1,(k.off j hj.2).2.trans (h.off j hj.1).2⟩,by
  obtain⟨x,e1,h1⟩:=h.names;obtain⟨y,e2,h2⟩:=k.names;refine⟨y++x,by rw[e2,e1,fK],fun n hn=>?_⟩
  rcases cU.1 hn with hn|hn
  ·exact h2 n hn
  ·exact(h1 n hn).ext k.ext,fun g x h1 h2=>by
  by_cases hg:b.fns.length≤g
  ·exact⟨iF _ (k.new g x hg h2).1,(k.new g x hg h2).2⟩
  ·obtain⟨y,hy⟩ :∃y,b.fns[g]? = some y:=⟨_,bE (by omega)⟩
   obtain⟨x',re,l⟩:=k.ext.2 g y hy;rw[h2] at re;injection re with re;subst re;obtain⟨m1,m2⟩:=h.new g y h1 hy;rw[←l.node] at m1 m2;exact⟨eO _ m1,by rw[e,m2,l.parent]⟩⟩
theorem kE.XQ {i:Nat} {L:List Nat} {f:Nat} {a b c:aH} (h:kE [i] f a b) (k:kE (i::L) f b c) (e:b.of i=(f:Int)) (e':c.of i=(f:Int)):kE (i::L) f a c :=
 ⟨h.ext.trans k.ext,k.ok,fun j hj=>by
  have hj':=hj;rw[bc,sz] at hj';have h1:=h.off j (by simpa using hj'.1)
  exact⟨(k.off j hj).1.trans h1.1,(k.off j hj).2.trans h1.2⟩,by
  obtain⟨x,e1,h1⟩:=h.names;obtain⟨y,e2,h2⟩:=k.names;refine⟨y++x,by rw[e2,e1,fK],fun n hn=>?_⟩
  rcases cU.1 hn with hn|hn
  ·exact h2 n hn
  ·exact(h1 n hn).ext k.ext,fun g x h1 h2=>by
  by_cases hg:b.fns.length≤g
  ·exact k.new g x hg h2
  ·obtain⟨y,hy⟩ :∃y,b.fns[g]? = some y:=⟨_,bE (by omega)⟩
   obtain⟨x',re,l⟩:=k.ext.2 g y hy;rw[h2] at re;injection re with re;subst re;obtain⟨m1,m2⟩:=h.new g y h1 hy;rw[bZ] at m1;rw[l.node,m1];rw[m1,e] at m2;exact⟨bT ..,by rw[e',m2,l.parent]⟩⟩
theorem kE.rH {L:List Nat} {f:Nat} {a b:aH} {fr:List fF} (h:kE L f { a with frames:=fr} b):kE L f a b:=⟨h.ext,h.ok,h.off,h.names,h.new⟩
theorem Cx.A4 {f:Nat} {a:aH} (fr:List fF) (h:Cx f a):Cx f { a with frames:=fr}:=⟨h.ok,h.lt,h.names⟩
theorem kE.at_ {L:List Nat} {f n:Nat} {a b:aH} (h:kE L f (a.at n) b):kE L f a b:=⟨h.ext,h.ok,h.off,h.names,h.new⟩
theorem Cx.at_ {f:Nat} {a:aH} (n:Nat) (h:Cx f a):Cx f (a.at n):=⟨h.ok,h.lt,h.names⟩
theorem quiet {V:List Nat} {fr:List fF} {st:aH} {i:Nat} {h:Nd} (h7:h.kind≠7) (Fi:h.kind≠30) (Fj:h.kind≠31):sP V fr st i h:=⟨fun e=>absurd e h7,fun e=>e.elim (fun e=>absurd e Fi) fun e=>absurd e Fj⟩
theorem uZ {α β:Type} {x:Rs α} {g:α→β} {y:β} (h:x.map g=.ok y) :∃a,x=.ok a∧y=g a:=by
 cases x with
 | error e=>cases h
 | ok a=>injection h with h;exact⟨a,rfl,h.symm⟩
theorem iA {α β:Type} {x:Rs α} {g:α→Rs β} {y:β} (h:x.bind g=.ok y) :∃a,x=.ok a∧g a=.ok y:=by
 cases x with
 | error e=>cases h
 | ok a=>exact⟨a,rfl,h⟩
theorem A7 {i f:Nat} {rep:Bool} {ks:List Lt} {st st':aH} (h:gZ i f rep ks st=.ok st'):st'={ st with frames:=⟨f,i,0,false,rep,ks⟩::st.frames}:=by
 unfold gZ at h;split at h
 ·cases h
 ·injection h with h
  exact h.symm
mutual
theorem jJ :∀(t:Lt) {f:Nat} {mn st':aH},bo t f mn=.ok st'→t.dI.Nodup→Cx f mn→t.Wf →
  kE t.dI f mn st'∧st'.frames=mn.frames∧st'.of t.loc=(f:Int)∧Lt.All (sP t.dI mn.fr st') t
 | .mk i h ks,f,mn,st',hr,hn,c0,hw=>by
  rw[Lt.dI,jt] at hn;obtain⟨tF,Cr⟩:=hn;unfold Lt.Wf at hw;obtain⟨⟨SK,acN⟩,UZ⟩:=hw;have S1:=Fh c0 i f;have c:=S1.cx c0;have hi:(mn.setOf i f).of i=(f:Int):=Nn _ _ _;have ou:(mn.setOf i f).fr=mn.fr:=rfl;have we:(mn.setOf i f).frames=mn.frames:=rfl;have JL:(mn.setOf i f).names=mn.names:=rfl;have hfn:(mn.setOf i f).fns=mn.fns:=rfl;rw[Lt.dI];unfold Lt.All;show _∧_∧st'.of i=(f:Int)∧_
  unfold bo at hr;generalize mn.setOf i f=st at *;rw[←ou];have hd :∀j∈[i],j∉Lt.aS ks:=fun j hj=>by rw[bZ] at hj;rw[hj];exact tF
  have up :∀{fr:List fF} {s:aH},Lt.dN (sP (Lt.aS ks) fr s) ks→Lt.dN (sP (i::Lt.aS ks) fr s) ks:=fun ha=>Lt.dN.imp ks (fun j _ h q=>q.more fun t ht=>cr _ ht) ha
  by_cases h6:h.kind=6
  ·rw[al h6] at hr
   split at hr
   ·injection hr with hr
    subst hr;have:=SK (.inl h6);subst this;exact⟨by simpa[Lt.aS] using S1,we,hi,quiet (by omega) (by omega) (by omega),by unfold Lt.dN;trivial⟩
   ·cases hr
  rw[af h6] at hr;by_cases h7:h.kind=7
  ·rw[al h7] at hr
   have:=SK (.inr (.inl h7));subst this;obtain⟨a1,a2,a3,a4⟩:=XP hr c hi;exact⟨(S1.uY a1 a3).more (by simp),a2.trans we,by rw[a3];exact hi,⟨fun _=>a4,fun e=>by omega⟩,by unfold Lt.dN;trivial⟩
  rw[af h7] at hr;by_cases h11:h.kind=11
  ·rw[al h11] at hr
   obtain⟨s1,e1,hr⟩:=iA hr;obtain⟨s2,e2,rfl⟩:=uZ hr;obtain⟨cx,b1,b2,b3,b4,b5,x,b6,b7,b8⟩:=xq e1 c;obtain⟨a1,_,a3,a4⟩:=gm ks e2 Cr cx UZ;have Aq:s2.of i=(f:Int):=by rw[(a1.off i tF).2,b3];exact hi
   refine⟨⟨S1.ext.trans (b1.trans a1.ext),a1.ok,fun j hj=>?_,⟨[],JL,fun n hn=>by simp at hn⟩,fun g y k1 k2=>?_⟩,we,Aq,quiet (by omega) (by omega) (by omega),?_⟩
   ·rw[bc,sz] at hj
    obtain⟨q1,q2⟩:=a1.off j hj.2;obtain⟨q3,q4⟩:=S1.off j (by simpa using hj.1)
    exact⟨by rw[←q3,←b4 j hj.1];exact q1,by rw[←q4,←b3];exact q2⟩
   ·have k2:s2.fns[g]? = some y:=k2
    by_cases hg:s1.fns.length≤g
    ·exact⟨cr _ (a1.new g y hg k2).1,(a1.new g y hg k2).2⟩
    ·have vO:g=st.fns.length:=by rw[←hfn] at k1;omega
     subst vO;obtain⟨x',m1,m2⟩:=a1.ext.2 _ _ b6;rw[k2] at m1;injection m1 with m1;subst m1;have e3:y.node=i:=m2.node.trans b7;exact⟨by rw[e3];exact bT ..,by rw[e3,m2.parent,b8];exact Aq⟩
   ·have e4:s1.fr=st.fr:=by unfold aH.fr;rw[b5]
    rw[e4] at a4;exact up (Lt.dN.imp ks (fun j _ _ q=>q.same rfl rfl rfl) a4)
  rw[af h11] at hr;by_cases mi:h.kind=18
  ·rw[al mi] at hr
   obtain⟨s1,e1,hr⟩:=iA hr;obtain⟨s2,e2,rfl⟩:=uZ hr;have e1:=A7 e1;subst e1;obtain⟨a1,_,a3,a4⟩:=rI ks e2 Cr (c.A4 _) UZ;have Aq:s2.of i=(f:Int):=by rw[(a1.off i tF).2];exact hi
   refine⟨S1.trans a1.rH.back hd |>.more (by simp),we,Aq,quiet (by omega) (by omega) (by omega),up (Lt.dN.imp ks (fun j _ _ q=>?_) a4)⟩
   have q:sP (Lt.aS ks) (_::st.fr) s2 _ _:=q;refine(q.left fun t ht=>?_).same rfl rfl rfl
   rcases ht with ⟨ht,_⟩ | ⟨_,ht⟩
   ·cases ht
   ·obtain⟨k,hk,rfl⟩:=eQ.1 ht
    exact⟨qt hk,a3 k hk⟩
  rw[af mi] at hr;by_cases Lr:h.kind=19
  ·rw[al Lr] at hr
   obtain⟨s1,e1,e2⟩:=iA hr;obtain⟨a1,a2,a3,a4⟩:=gm ks e1 Cr c UZ;have S2:=S1.trans a1 hd;obtain⟨b1,b2,b3⟩:=nI e2 (a1.cx c);refine⟨(S2.uY b1 b3).more (fun z hz=>by simp only[cU,bc,oG,oH] at hz ⊢;rcases hz with (hz|hz)|hz<;>simp[hz]),(b2.trans a2).trans we,by rw[b3,(a1.off i tF).2];exact hi,quiet (by omega) (by omega) (by omega),up (Lt.dN.imp ks (fun j hj _ q=>q.later b1 ?_ ?_) a4)⟩
   ·intro e;rw[bZ] at e;rw[e] at hj;exact tF hj
   ·intro t ht e;rw[bZ] at e;rw[e] at ht;exact tF ht
  rw[af Lr] at hr;by_cases PU:h.kind=23
  ·rw[al PU] at hr
   obtain⟨s2,e2,rfl⟩:=uZ hr;obtain⟨a1,_,a3,a4⟩:=gm ks e2 Cr (c.A4 _) UZ;have Aq:s2.of i=(f:Int):=by rw[(a1.off i tF).2];exact hi
   refine⟨S1.trans a1.rH.back hd |>.more (by simp),we,Aq,quiet (by omega) (by omega) (by omega),Lt.dN.imp ks (fun j _ _ q=>?_) (up a4)⟩
   have q:sP (i::Lt.aS ks) (_::st.fr) s2 _ _:=q;refine(q.left fun t ht=>?_).same rfl rfl rfl
   rcases ht with ⟨_,ht⟩ | ⟨ht,_⟩
   ·rw[ht];exact⟨bT ..,Aq⟩
   ·cases ht
  rw[af PU] at hr;by_cases Nr:h.kind=24
  ·rw[al Nr] at hr
   obtain⟨s2,e2,rfl⟩:=uZ hr;obtain⟨a1,a3,a4⟩:=SL ks e2 Cr (c.A4 _) UZ (acN Nr);have Aq:s2.of i=(f:Int):=by rw[(a1.off i tF).2];exact hi
   refine⟨S1.trans a1.rH.back hd |>.more (by simp),we,Aq,quiet (by omega) (by omega) (by omega),Lt.dN.imp ks (fun j _ _ q=>?_) (up a4)⟩
   have q:sP (i::Lt.aS ks) (_::st.fr) s2 _ _:=q;refine(q.left fun t ht=>?_).same rfl rfl rfl
   rcases ht with ⟨_,ht⟩ | ⟨ht,_⟩
   ·rw[ht];exact⟨bT ..,Aq⟩
   ·cases ht
  rw[af Nr] at hr;by_cases PV:h.kind=26∨h.kind=27
  ·rw[al PV] at hr
   obtain⟨a1,a2,a3,a4⟩:=A8 ks hr tF Cr c UZ hi;exact⟨(S1.XQ a1 hi a3).more (by simp),a2.trans we,a3,quiet (by omega) (by omega) (by omega),a4⟩
  rw[af PV] at hr;by_cases PW:h.kind=28
  ·rw[al PW] at hr
   obtain⟨s1,e1,e2⟩:=iA hr;obtain⟨b1,b2,b3⟩:=nI e1 c;obtain⟨a1,a2,a3,a4⟩:=gm ks e2 Cr (b1.cx c) UZ;have S2:=S1.uY b1 b3;have e4:s1.fr=st.fr:=by unfold aH.fr;rw[b2]
   rw[e4] at a4;exact⟨(S2.trans a1 (by simpa using tF)).more (by simp),(a2.trans b2).trans we,by rw[(a1.off i tF).2,b3];exact hi,quiet (by omega) (by omega) (by omega),up a4⟩
  rw[af PW] at hr;by_cases Fi:h.kind=30
  ·rw[al Fi] at hr
   have:=SK (.inr (.inr (.inl Fi)));subst this;obtain⟨a1,a2,a3,a4⟩:=Nq hr c hi;exact⟨(S1.uY a1 a3).more (by simp),a2.trans we,by rw[a3];exact hi,⟨fun e=>by omega,fun _=>a4 _⟩,by unfold Lt.dN;trivial⟩
  rw[af Fi] at hr;by_cases Fj:h.kind=31
  ·rw[al Fj] at hr
   have:=SK (.inr (.inr (.inr Fj)));subst this;obtain⟨a1,a2,a3,a4⟩:=SJ c hi _ hr (fun _ h=>h)
   exact⟨(S1.uY a1 a3).more (by simp),a2.trans we,by rw[a3];exact hi,⟨fun e=>by omega,fun _=>a4 _⟩,by unfold Lt.dN;trivial⟩
  rw[af Fj] at hr;obtain⟨a1,a2,a3,a4⟩:=gm ks hr Cr c UZ;exact⟨S1.trans a1 hd,a2.trans we,by rw[(a1.off i tF).2];exact hi,quiet h7 Fi Fj,up a4⟩
theorem gm :∀(ks:List Lt) {f:Nat} {st st':aH},aI ks f st=.ok st'→(Lt.aS ks).Nodup→Cx f st→Lt.yP ks →
  kE (Lt.aS ks) f st st'∧st'.frames=st.frames∧(∀k∈ks,st'.of k.loc=(f:Int))∧Lt.dN (sP (Lt.aS ks) st.fr st') ks
 | [],f,st,st',hr,_,c,_=>by
  unfold aI at hr;injection hr with hr;subst hr;exact⟨.refl c,rfl,fun k hk=>by simp at hk,by unfold Lt.dN;trivial⟩
 | k::ks,f,st,st',hr,hn,c,hw=>by
  unfold aI at hr;obtain⟨s1,e1,e2⟩:=iA hr;rw[Lt.aS,oF] at hn;obtain⟨n1,n2,n3⟩:=hn;unfold Lt.yP at hw;obtain⟨a1,a2,a3,a4⟩:=jJ k e1 n1 c hw.1;obtain⟨b1,b2,b3,b4⟩:=gm ks e2 n2 (a1.cx c) hw.2;have hd :∀j∈k.dI,j∉Lt.aS ks:=fun j h1 h2=>n3 j h1 j h2 rfl
  have ou:s1.fr=st.fr:=by unfold aH.fr;rw[a2]
  rw[Lt.aS];refine⟨a1.trans b1 hd,b2.trans a2,fun x hx=>?_,?_⟩
  ·rcases bc.1 hx with rfl|hx
   ·rw[(b1.off _ (hd _ (yQ _))).2];exact a3
   ·exact b3 x hx
  ·unfold Lt.dN
   rw[ou] at b4;exact⟨Lt.All.imp k (fun j hj _ q=>(q.later b1 (hd j hj) hd).more fun t ht=>eO _ ht) a4,Lt.dN.imp ks (fun j _ _ q=>q.more fun t ht=>iF _ ht) b4⟩
theorem rI :∀(ks:List Lt) {n f:Nat} {st st':aH},cY ks n f st=.ok st'→(Lt.aS ks).Nodup→Cx f st→Lt.yP ks →
  kE (Lt.aS ks) f st st'∧st'.fr=st.fr∧(∀k∈ks,st'.of k.loc=(f:Int))∧Lt.dN (sP (Lt.aS ks) st.fr st') ks
 | [],_,f,st,st',hr,_,c,_=>by
  unfold cY at hr;injection hr with hr;subst hr;exact⟨.refl c,rfl,fun k hk=>by simp at hk,by unfold Lt.dN;trivial⟩
 | k::ks,n,f,st,st',hr,hn,c,hw=>by
  unfold cY at hr;obtain⟨s1,e1,e2⟩:=iA hr;rw[Lt.aS,oF] at hn;obtain⟨n1,n2,n3⟩:=hn;unfold Lt.yP at hw;obtain⟨a1,a2,a3,a4⟩:=jJ k e1 n1 (c.at_ n) hw.1;have a1:=a1.at_;obtain⟨b1,b2,b3,b4⟩:=rI ks e2 n2 (a1.cx c) hw.2;have hd :∀j∈k.dI,j∉Lt.aS ks:=fun j h1 h2=>n3 j h1 j h2 rfl
  have ou:s1.fr=st.fr:=by unfold aH.fr;rw[a2];exact UY st n
  rw[Lt.aS];refine⟨a1.trans b1 hd,b2.trans ou,fun x hx=>?_,?_⟩
  ·rcases bc.1 hx with rfl|hx
   ·rw[(b1.off _ (hd _ (yQ _))).2];exact a3
   ·exact b3 x hx
  ·unfold Lt.dN
   rw[ou] at b4;rw[UY] at a4;exact⟨Lt.All.imp k (fun j hj _ q=>(q.later b1 (hd j hj) hd).more fun t ht=>eO _ ht) a4,Lt.dN.imp ks (fun j _ _ q=>q.more fun t ht=>iF _ ht) b4⟩
theorem SL :∀(ks:List Lt) {f:Nat} {st st':aH},kD ks f st=.ok st'→(Lt.aS ks).Nodup→Cx f st→Lt.yP ks→(∃b t,ks=[b,t]∧b.hd.kind=18) →
  kE (Lt.aS ks) f st st'∧(∀k∈ks,st'.of k.loc=(f:Int))∧Lt.dN (sP (Lt.aS ks) st.fr st') ks
 | [],f,st,st',hr,hn,c,hw,hk=>by obtain⟨b,t,hk,_⟩:=hk;cases hk
 | [_],f,st,st',hr,hn,c,hw,hk=>by obtain⟨b,t,hk,_⟩:=hk;cases hk
 | _::_::_::_,f,st,st',hr,hn,c,hw,hk=>by obtain⟨b,t,hk,_⟩:=hk;cases hk
 | [.mk i h ks,t],f,st,st',hr,hn,c,hw,hk=>by
  obtain⟨_,_,hk,mi⟩:=hk;injection hk with hk _;subst hk;have mi:h.kind=18:=mi;unfold kD at hr;obtain⟨s1,e1,hr⟩:=iA hr;obtain⟨s2,e2,e3⟩:=iA hr;have e1:=A7 e1;subst e1;simp only[Lt.aS,Lt.dI,jX] at hn ⊢;rw[oF,jt] at hn;obtain⟨⟨tF,Cr⟩,nt,n3⟩:=hn;simp only[Lt.yP,Lt.Wf] at hw;have S1:=Fh c i f;have c1:=S1.cx c;obtain⟨a1,a2,a3,a4⟩:=rI ks e2 Cr (c1.A4 _) hw.1.2;have A1:=S1.trans a1.rH (fun j hj=>by rw[bZ] at hj;rw[hj];exact tF)
  obtain⟨b1,b2,b3,b4⟩:=jJ t e3 nt (a1.rH.cx c1) hw.2.1;have hd :∀j∈i::Lt.aS ks,j∉t.dI:=fun j h1 h2=>n3 j h1 j h2 rfl
  have hi:st'.of i=(f:Int):=by rw[(b1.off i (hd i (bT ..))).2,(a1.off i tF).2];exact Nn _ _ _
  have JH :∀k∈ks,st'.of k.loc=(f:Int):=fun k hk=>by rw[(b1.off _ (hd _ (cr _ (qt hk)))).2];exact a3 k hk
  have U0 :∀{j:Nat} {x:Nd},sP (i::Lt.aS ks++t.dI) (⟨f,i,0,false,true,ks⟩::st.fr) st' j x→sP (i::Lt.aS ks++t.dI) st.fr st' j x:=fun q=>q.left fun z hz=>by
   rcases hz with ⟨hz,_⟩ | ⟨_,hz⟩
   ·cases hz
   ·obtain⟨k,hk,rfl⟩:=eQ.1 hz
    exact⟨eO _ (cr _ (qt hk)),JH k hk⟩
  refine⟨(A1.trans b1 hd),fun k hk=>?_,?_⟩
  ·rcases bc.1 hk with rfl|hk
   ·exact hi
   ·rw[bZ] at hk
    rw[hk];exact b3
  ·unfold Lt.dN Lt.All
   have e5:s2.fr=⟨f,i,0,false,true,ks⟩::st.fr:=a2;rw[e5] at b4;refine⟨⟨quiet (by omega) (by omega) (by omega),Lt.dN.imp ks (fun j hj _ q=>U0 ((q.later b1 (hd j (cr _ hj)) fun z hz=>hd z (cr _ hz)).more fun z hz=>eO _ (cr _ hz))) a4⟩,?_⟩
   unfold Lt.dN;exact⟨Lt.All.imp t (fun j _ _ q=>U0 (q.more fun z hz=>iF _ hz)) b4,by unfold Lt.dN;trivial⟩
theorem A8 {i:Nat} {line:Int} {names:List ByteArray} :∀(ks:List Lt) {f:Nat} {st st':aH},iO i line names ks f st=.ok st'→i∉Lt.aS ks→(Lt.aS ks).Nodup→Cx f st→Lt.yP ks→st.of i=(f:Int) →
  kE (i::Lt.aS ks) f st st'∧st'.frames=st.frames∧st'.of i=(f:Int)∧Lt.dN (sP (i::Lt.aS ks) st.fr st') ks
 | [],f,st,st',hr,_,_,c,_,hi=>by
  unfold iO at hr;injection hr with hr;subst hr;exact⟨(kE.refl c).more (by simp),rfl,hi,by unfold Lt.dN;trivial⟩
 | [b],f,st,st',hr,tF,hn,c,hw,hi=>by
  unfold iO at hr;obtain⟨s1,e1,hr⟩:=iA hr;obtain⟨s2,e2,rfl⟩:=uZ hr;simp only[Lt.aS,jX] at tF hn ⊢;simp only[Lt.yP] at hw;obtain⟨b1,b2,b3⟩:=nI e1 (c.A4 _);have b1:=b1.rH;obtain⟨a1,a2,a3,a4⟩:=jJ b e2 hn (b1.cx c) hw.1;have Aq:s2.of i=(f:Int):=by rw[(a1.off i tF).2,b3];exact hi
  refine⟨((b1.trans a1 (by simpa using tF)).more (by simp)).back,rfl,Aq,?_⟩
  unfold Lt.dN;have e4:s1.fr=⟨f,i,0,true,false,[]⟩::st.fr:=by unfold aH.fr;rw[b2];rfl
  rw[e4] at a4;refine⟨Lt.All.imp b (fun j _ _ q=>?_) a4,by unfold Lt.dN;trivial⟩
  refine((q.more fun z hz=>cr i hz).left fun t ht=>?_).same rfl rfl rfl
  rcases ht with ⟨_,ht⟩ | ⟨ht,_⟩
  ·rw[ht];exact⟨bT ..,Aq⟩
  ·cases ht
 | a::b::l,f,st,st',hr,tF,hn,c,hw,hi=>by
  unfold iO at hr;obtain⟨s1,e1,e2⟩:=iA hr;rw[Lt.aS,oF] at hn;rw[Lt.aS,cU,sz] at tF;obtain⟨n1,n2,n3⟩:=hn;unfold Lt.yP at hw;obtain⟨a1,a2,a3,a4⟩:=jJ a e1 n1 c hw.1;have hi1:s1.of i=(f:Int):=by rw[(a1.off i tF.1).2];exact hi
  obtain⟨b1,b2,b3,b4⟩:=A8 (b::l) e2 tF.2 n2 (a1.cx c) hw.2 hi1;have hd :∀j∈a.dI,j∉i::Lt.aS (b::l):=fun j h1 h2=>by
   rcases bc.1 h2 with rfl|h2
   ·exact tF.1 h1
   ·exact n3 j h1 j h2 rfl
  have ou:s1.fr=st.fr:=by unfold aH.fr;rw[a2]
  have hL :∀z,z∈a.dI++(i::Lt.aS (b::l))→z∈i::Lt.aS (a::b::l):=fun z hz=>by
   rw[Lt.aS];simp only[cU,bc] at hz ⊢;rcases hz with hz|hz|hz
   ·exact .inr (.inl hz)
   ·exact .inl hz
   ·exact .inr (.inr hz)
  refine⟨(a1.trans b1 hd).more hL,b2.trans a2,b3,?_⟩;rw[ou] at b4;unfold Lt.dN;exact⟨Lt.All.imp a (fun j hj _ q=>(q.later b1 (hd j hj) hd).more fun t ht=>hL t (eO _ ht)) a4,Lt.dN.imp (b::l) (fun j _ _ q=>q.more fun t ht=>hL t (iF _ ht)) b4⟩
end
def mkLt (T:List Nd):Nat→Nat→Lt
 | 0,i=>.mk i (T.getD i ⟨0,0,0,0,⟨#[]⟩,[],[]⟩) []
 | g+1,i=>.mk i (T.getD i ⟨0,0,0,0,⟨#[]⟩,[],[]⟩) ((bJ T i).map fun k=>mkLt T g k.toNat)
theorem qw (T:List Nd) (g i:Nat):(mkLt T g i).loc=i:=by cases g<;>rfl
theorem Ns {T:List Nd} :∀{ks:List Lt},(∀k∈ks,Lt.In T k)→Lt.nG T ks
 | [],_=>by unfold Lt.nG;trivial
 | k::ks,h=>by unfold Lt.nG;exact⟨h k (bT ..),Ns fun x hx=>h x (cr _ hx)⟩
theorem SM {T:List Nd} {r:Nat} {d:Nat→Nat} {m:List Nat} (hs:Ch T r d m) {D:Nat} (hD :∀i∈m,d i≤D) :∀(g i:Nat),i∈m→D≤d i+g→Lt.In T (mkLt T g i):=by
 intro g;induction g with
 | zero =>
  intro i hi hg;obtain⟨x,hx⟩ :∃x,T[i]? = some x:=⟨_,bE (hs.lt i hi)⟩;have hk:bJ T i=[]:=by
   cases e:bJ T i with
   | nil=>rfl
   | cons k ks =>
    obtain⟨k0,k1,k2⟩:=hs.kid i hi k (by rw[e];exact bT ..)
    have:=hD k.toNat (hs.mem (by omega))
    omega
  unfold mkLt Lt.In;rw[jU,hx];refine⟨rfl,?_,by unfold Lt.nG;trivial⟩
  rw[fQ hx] at hk;show x.kids=_
  rw[hk];rfl
 | succ g ih =>
  intro i hi hg;obtain⟨x,hx⟩ :∃x,T[i]? = some x:=⟨_,bE (hs.lt i hi)⟩;unfold mkLt Lt.In;rw[jU,hx];refine⟨rfl,?_,Ns fun k hk=>?_⟩
  ·show x.kids=_
   rw[tU,←fQ hx];refine(List.map_id _).symm.trans (wy fun k hk=>?_)
   obtain⟨k0,_,_⟩:=hs.kid i hi k hk;show k=((mkLt T g k.toNat).loc:Int)
   rw[qw];omega
  ·obtain⟨z,hz,rfl⟩:=eQ.1 hk
   obtain⟨k0,k1,k2⟩:=hs.kid i hi z hz;exact ih _ (hs.mem (by omega)) (by omega)
mutual
theorem Lt.perm {T:List Nd} :∀(t:Lt),Lt.In T t→t.dI.Perm (t.loc::t.dI.flatMap (gA T))
 | .mk i h ks,hi=>by
  unfold Lt.In at hi;obtain⟨hx,hk,hs⟩:=hi;rw[Lt.dI];show(i::_).Perm (i::_)
  refine List.Perm.cons i ?_;have h1:gA T i=ks.map Lt.loc:=by
   unfold gA;rw[fQ hx,hk,tU];exact wy fun k _=>by simp
  rw[iG,h1];exact Lt.U3 ks hs
theorem Lt.U3 {T:List Nd} :∀(ks:List Lt),Lt.nG T ks→(Lt.aS ks).Perm (ks.map Lt.loc++(Lt.aS ks).flatMap (gA T))
 | [],_=>by rw[Lt.aS];exact List.Perm.nil
 | k::ks,hi=>by
  unfold Lt.nG at hi;have p1:=Lt.perm k hi.1;have p2:=Lt.U3 ks hi.2;rw[Lt.aS,oE,eP,iJ];refine(p1.append p2).trans ?_;rw[iJ];refine List.Perm.cons _ ?_;rw[←fK,←fK];exact List.Perm.append_right _ JZ
end
mutual
theorem Lt.A9 {T:List Nd} :∀(t:Lt),Lt.In T t→∀j∈t.dI,j<T.length
 | .mk i h ks,hi=>by
  unfold Lt.In at hi;obtain⟨hx,hk,hs⟩:=hi;rw[Lt.dI];intro j hj;rcases bc.1 hj with rfl|hj
  ·exact(aJ.1 hx).1
  ·exact Lt.Nt ks hs j hj
theorem Lt.Nt {T:List Nd} :∀(ks:List Lt),Lt.nG T ks→∀j∈Lt.aS ks,j<T.length
 | [],_=>by rw[Lt.aS];intro j hj;simp at hj
 | k::ks,hi=>by
  unfold Lt.nG at hi;rw[Lt.aS];intro j hj;rcases cU.1 hj with hj|hj
  ·exact Lt.A9 k hi.1 j hj
  ·exact Lt.Nt ks hi.2 j hj
end
theorem Nu (p:Nat) :∀(l:List Nat),(l.map fun x=>if x=p then 1 else 0).sum=l.count p
 | []=>rfl
 | x::l=>by
  rw[eP,List.sum_cons,Nu p l,List.count_cons];by_cases h:x=p<;>simp[h]<;>omega
theorem Ba :∀l:List Nat,(l.map fun _=>0).sum=0
 | []=>rfl
 | _::l=>by rw[eP,List.sum_cons,Ba l]
theorem u7 {T:List Nd} {r:Nat} {d:Nat→Nat} {m:List Nat} (hs:Ch T r d m) {L:List Nat} (hp:L.Perm (r::L.flatMap (gA T))) (hL :∀j∈L,j<T.length) (hr:r<T.length) :∀(v j:Nat),j<T.length→d j≤v→L.count j=1:=by
 have qe :∀j p,j<T.length→p∈L→(gA T p).count j=if (j:Int)∈bJ T p then 1 else 0:=fun j p hj hpL=>by
  have hn:(gA T p).Nodup:=by
   have h1:=hs.nodup;rw[hs.eq,jt] at h1;exact oU h1.2 (hs.mem (hL p hpL))
  by_cases h:(j:Int)∈bJ T p
  ·rw[al h]
   have h1:j∈gA T p:=eQ.2 ⟨_,h,by simp⟩
   exact List.Nodup.count hn |>.trans (al h1)
  ·rw[af h]
   refine List.count_eq_zero.2 fun h1=>h ?_
   obtain⟨z,hz,e⟩:=eQ.1 h1;obtain⟨z0,_,_⟩:=hs.kid p (hs.mem (hL p hpL)) z hz;rw[show(j:Int)=z by omega]
   exact hz
 have acO :∀j,L.count j=(if r=j then 1 else 0)+((L.map fun p=>(gA T p).count j).sum):=fun j=>by
  rw[hp.count_eq,List.count_cons,List.count_flatMap];have:(L.map (List.count j ∘ gA T))=L.map fun p=>(gA T p).count j:=rfl
  rw[this,Nat.add_comm];simp
 intro v;induction v with
 | zero =>
  intro j hj h0;exfalso;by_cases h:j=r
  ·have:=hs.root;subst h;omega
  ·obtain⟨p,bY,oM⟩:=hs.parent hj h
   obtain⟨_,_,h2⟩:=hs.kid p (hs.mem bY) _ oM;simp at h2;omega
 | succ v ih =>
  intro j hj hv;rw[acO j];by_cases h:r=j
  ·subst h
   rw[al rfl];have:(L.map fun p=>(gA T p).count r)=L.map fun _=>0:=wy fun p hp=>by rw[qe r p hr hp,af (hs.VF (hL p hp))]
   rw[this,Ba]
  ·rw[af h]
   obtain⟨p,bY,oM⟩:=hs.parent hj (fun e=>h e.symm)
   obtain⟨_,_,h2⟩:=hs.kid p (hs.mem bY) _ oM;simp at h2;have:(L.map fun q=>(gA T q).count j)=L.map fun q=>if q=p then 1 else 0:=wy fun q hq=>by
    rw[qe j q hj hq];by_cases e:q=p
    ·rw[e,al oM,al rfl]
    ·rw[af e,af]
     intro hk;exact e (hs.once (hL q hq) bY hk oM)
   rw[this,Nu,ih p bY (by omega)]
theorem IE {T:List Nd} {r:Nat} {d:Nat→Nat} {m:List Nat} (hs:Ch T r d m) :∃t:Lt,Lt.In T t∧t.loc=r∧t.dI.Nodup∧(∀j,j<T.length↔j∈t.dI):=by
 have hr:r<T.length:=hs.lt r (by rw[hs.eq];exact bT ..)
 have h1:=SM hs (D:=T.length+1) (fun i _=>hs.bound i) (T.length+1) r (hs.mem hr) (by omega)
 refine⟨mkLt T (T.length+1) r,h1,qw _ _ _,?_,fun j=>⟨fun hj=>?_,Lt.A9 _ h1 j⟩⟩
 ·have hp:=Lt.perm _ h1
  rw[qw] at hp;refine List.nodup_iff_count.2 fun j=>?_
  by_cases hj:j<T.length
  ·exact En (u7 hs hp (Lt.A9 _ h1) hr (d j) j hj (ah _))
  ·rw[List.count_eq_zero.2 fun h=>hj (Lt.A9 _ h1 j h)]
   exact bB _
 ·have hp:=Lt.perm _ h1
  rw[qw] at hp;have:=u7 hs hp (Lt.A9 _ h1) hr (d j) j hj (ah _);exact List.count_pos_iff.1 (by omega)
mutual
def Lt.ast:Lt→Ast
 | .mk _ h ks=>.mk h (Lt.aaU ks)
def Lt.aaU:List Lt→List Ast
 | []=>[]
 | k::ks=>Lt.ast k::Lt.aaU ks
end
mutual
def Lt.size:Lt→Nat
 | .mk _ _ ks=>Lt.ak ks+1
def Lt.ak:List Lt→Nat
 | []=>0
 | k::ks=>Lt.size k+Lt.ak ks
end
mutual
theorem Lt.rJ :∀t:Lt,t.dI.length=t.size
 | .mk i h ks=>by rw[Lt.dI,Lt.size,List.length_cons,Lt.u9 ks]
theorem Lt.u9 :∀ks:List Lt,(Lt.aS ks).length=Lt.ak ks
 | []=>by rw[Lt.aS,Lt.ak];rfl
 | k::ks=>by rw[Lt.aS,Lt.ak,cI,Lt.rJ k,Lt.u9 ks]
end
theorem pA :∀a b:List Lt,Lt.ak (a++b)=Lt.ak a+Lt.ak b
 | [],b=>by rw[sj,show Lt.ak []=0 by rw[Lt.ak],jY]
 | k::a,b=>by rw[iJ,Lt.ak,Lt.ak,pA a b,sw]
theorem Fk {T:List Nd} :∀{ks:List Lt},Lt.nG T ks→∀k∈ks,Lt.In T k
 | [],_,k,h=>by simp at h
 | x::ks,hi,k,h=>by
  unfold Lt.nG at hi;rcases bc.1 h with rfl|h
  ·exact hi.1
  ·exact Fk hi.2 k h
theorem yR {T:List Nd} {t:Lt} (h:Lt.In T t):Lt.nG T t.sub∧T[t.loc]? = some t.hd∧t.hd.kids=t.sub.map (fun k=>(k.loc:Int)):=by
 cases t with
 | mk i h' ks=>unfold Lt.In at h;exact⟨h.2.2,h.1,h.2.1⟩
theorem Bb (t:Lt):t.size=Lt.ak t.sub+1:=by cases t with|mk i h ks=>rw[Lt.size];rfl
end Go.Proofs.YteflkdlaoiijbaaGreatDoor
namespace Go.Proofs.YteflkdlaoiijbaaGreatDoor
mutual
/-- Of one form; names are renamed. -/
def zw (ρ:ByteArray→ByteArray):Lt→Lt→Prop
 | .mk _ h ks,u=>u.hd.kind=h.kind∧u.hd.num=h.num∧u.hd.s=ρ h.s∧u.hd.names=h.names.map ρ∧dO ρ ks u.sub
def dO (ρ:ByteArray→ByteArray):List Lt→List Lt→Prop
 | [],ls=>ls=[]
 | k::ks,ls=>∃l IF,ls=l::IF∧zw ρ k l∧dO ρ ks IF
end
theorem zw.kind {ρ:ByteArray→ByteArray} {t u:Lt} (h:zw ρ t u):u.hd.kind=t.hd.kind:=by cases t;unfold zw at h;exact h.1
theorem zw.s {ρ:ByteArray→ByteArray} {t u:Lt} (h:zw ρ t u):u.hd.s=ρ t.hd.s:=by cases t;unfold zw at h;exact h.2.2.1
structure FS (ρ:ByteArray→ByteArray) (x y:dr):Prop where
 parent:y.parent=x.parent
 params:y.params=x.params
 many:y.many=x.many
 ch:y.ch=x.ch
 vars:y.vars.map (fun v=>(v.name,v.cap))=x.vars.map fun v=>(ρ v.name,v.cap)
theorem FS.len {ρ:ByteArray→ByteArray} {x y:dr} (h:FS ρ x y):y.vars.length=x.vars.length:=by
 have:=aB List.length h.vars;simpa using this
def FR (ρ:ByteArray→ByteArray) (a b:List dr):Prop:=b.length=a.length∧∀f,FS ρ (a.getD f ⟨0,0,0,false,[],[]⟩) (b.getD f ⟨0,0,0,false,[],[]⟩)
theorem FR.set {ρ:ByteArray→ByteArray} {a b:List dr} (h:FR ρ a b) {f:Nat} {x y:dr} (e:FS ρ x y):FR ρ (a.set f x) (b.set f y) :=
 ⟨by simp[h.1],fun g=>by
  have:=h.2 g;simp only[jU] at this ⊢;by_cases hg:f=g
  ·subst hg
   by_cases hl:f<a.length
   ·rw[ec hl,ec (by rw[h.1];exact hl)];exact e
   ·rw[D8 (by omega),D8 (by rw[h.1];omega)];exact this
  ·rw[fJ hg,fJ hg];exact this⟩
theorem FR.app {ρ:ByteArray→ByteArray} {a b:List dr} (h:FR ρ a b) {x y:dr} (e:FS ρ x y):FR ρ (a++[x]) (b++[y]) :=
 ⟨by simp[h.1],fun g=>by
  have:=h.2 g;simp only[jU] at this ⊢;rcases Nat.lt_trichotomy g a.length with hg|hg|hg
  ·rw[kK hg,kK (by rw[h.1];exact hg)];exact this
  ·subst hg
   have e1:(b++[y])[a.length]? = some y:=by rw[←h.1];simp
   rw[e1];simpa using e
  ·rw[si (by simp;omega),si (by simp[h.1];omega)]
   exact⟨rfl,rfl,rfl,rfl,rfl⟩⟩
structure FrS (ρ:ByteArray→ByteArray) (x y:fF):Prop where
 fn:y.fn=x.fn
 at_:y.at_=x.at_
 loop:y.loop=x.loop
 rep:y.rep=x.rep
 kids:dO ρ x.kids y.kids
def Blank (E:List fF):Prop:=∀x∈E,x.loop=false∧∀s,cA x.kids s=none
inductive U4 (ρ:ByteArray→ByteArray):List fF→List fF→Prop
 | nil {B:List fF}:Blank B→U4 ρ [] B
 | cons {x y:fF} {l m:List fF}:FrS ρ x y→U4 ρ l m→U4 ρ (x::l) (y::m)
structure SR (ρ:ByteArray→ByteArray) (a b:aH):Prop where
 fns:FR ρ a.fns b.fns
 names:b.names=a.names.map fun n=>⟨ρ n.s,n.fn,n.i⟩
 frames:U4 ρ a.frames b.frames
def RR {α β:Type} (Q:α→β→Prop):Rs α→Rs β→Prop
 | .ok a,.ok b=>Q a b
 | .error e,.error e'=>e.1=e'.1
 | _,_=>False
theorem RR.bind {α β γ δ:Type} {Q:α→β→Prop} {Q':γ→δ→Prop} {x:Rs α} {y:Rs β} {g:α→Rs γ} {k:β→Rs δ} (h:RR Q x y) (hg :∀a b,Q a b→RR Q' (g a) (k b)):RR Q' (x.bind g) (y.bind k):=by
 cases x<;>cases y
 ·exact h
 ·exact h.elim
 ·exact h.elim
 ·exact hg _ _ h
theorem RR.map {α β γ δ:Type} {Q:α→β→Prop} {Q':γ→δ→Prop} {x:Rs α} {y:Rs β} {g:α→γ} {k:β→δ} (h:RR Q x y) (hg :∀a b,Q a b→Q' (g a) (k b)):RR Q' (x.map g) (y.map k):=by
 cases x<;>cases y
 ·exact h
 ·exact h.elim
 ·exact h.elim
 ·exact hg _ _ h
section
variable {ρ:ByteArray→ByteArray} (jS :∀a b,ρ a=ρ b→a=b)
theorem SR.fn {a b:aH} (h:SR ρ a b) (f:Nat):FS ρ (a.fn f) (b.fn f):=h.fns.2 f
theorem SR.use {a b:aH} (h:SR ρ a b) (i j:Nat) (u v:Int×Int):SR ρ (a.dw i u) (b.dw j v):=⟨h.fns,h.names,h.frames⟩
theorem SR.of_ {a b:aH} (h:SR ρ a b) (i j f g:Nat):SR ρ (a.setOf i f) (b.setOf j g):=⟨h.fns,h.names,h.frames⟩
theorem Nv {n n' f:Nat} {l l':Int} :∀(ns:List ByteArray) {a b:aH},SR ρ a b→RR (SR ρ) (dV n f l ns a) (dV n' f l' (ns.map ρ) b):=by
 intro ns;induction ns with
 | nil=>intro a b h;exact h
 | cons s ns ih =>
  intro a b h;rw[eP,dV,dV,(h.fn f).len];split
  ·exact rfl
  ·refine ih ⟨h.fns.set ⟨(h.fn f).parent,(h.fn f).params,(h.fn f).many,(h.fn f).ch,?_⟩,?_,h.frames⟩
   ·rw[me,me,(h.fn f).vars];rfl
   ·show _::b.names=List.map _ (_::a.names)
    rw[h.names];rfl
theorem n7 {n n' f:Nat} {l l':Int} (ns:List ByteArray) {a b:aH} (h:SR ρ a b):RR (SR ρ) (bF n f l ns a) (bF n' f l' (ns.map ρ) b):=Nv ns (h.use _ _ _ _)
theorem xt {A B:List dr} (h:FR ρ A B) (f:Nat) (u:sO):(gE A f u=none∧gE B f u=none)∨∃A' B' k,gE A f u=some (A',k)∧gE B f u=some (B',k)∧FR ρ A' B':=by
 have e:=(h.2 f).ch;unfold gE;simp only[e];split
 ·exact .inr ⟨A,B,_,rfl,rfl,h⟩
 ·split
  ·exact .inl ⟨rfl,rfl⟩
  ·exact .inr ⟨_,_,_,rfl,rfl,h.set ⟨(h.2 f).parent,(h.2 f).params,(h.2 f).many,rfl,(h.2 f).vars⟩⟩
theorem Nw {n n':jn} (hf:n'.fn=n.fn) (hi:n'.i=n.i) :∀(g:Nat) {A B:List dr} (f:Nat),FR ρ A B→(lQ n g A f=none∧lQ n' g B f=none)∨∃A' B' k,lQ n g A f=some (A',k)∧lQ n' g B f=some (B',k)∧FR ρ A' B':=by
 intro g;induction g with
 | zero=>intro A B f _;exact .inl ⟨rfl,rfl⟩
 | succ g ih =>
  intro A B f h;rw[lQ,lQ];simp only[(h.2 f).parent,hf,hi];split
  ·exact xt h f _
  ·rcases ih ((A.getD f ⟨0,0,0,false,[],[]⟩).parent.toNat) h with ⟨h1,h2⟩ | ⟨A',B',k,h1,h2,h3⟩
   ·rw[h1,h2];exact .inl ⟨rfl,rfl⟩
   ·rw[h1,h2];exact xt h3 f _
theorem SN {x y:dr} (h:FS ρ x y) (i:Nat):FS ρ (da x i) (da y i):=by
 refine⟨h.parent,h.params,h.many,h.ch,?_⟩;unfold da;dsimp only
 have e:(y.vars.map fun v=>(v.name,v.cap))[i]? = (x.vars.map fun v=>(ρ v.name,v.cap))[i]?:=by rw[h.vars]
 rw[fw,fw] at e;cases hx:x.vars[i]? with
 | none =>
  rw[hx] at e;cases hy:y.vars[i]? with
  | none=>exact h.vars
  | some w=>rw[hy] at e;cases e
 | some v =>
  rw[hx] at e;cases hy:y.vars[i]? with
  | none=>rw[hy] at e;cases e
  | some w =>
   rw[hy] at e;injection e with e;injection e with e1 e2;dsimp only
   rw[List.map_set,List.map_set,h.vars,e1]
include jS in
theorem Nx (s:ByteArray) :∀(l:List jn),(l.map fun n=>(⟨ρ n.s,n.fn,n.i⟩:jn)).find? (fun n=>decide (n.s=ρ s))=(l.find? fun n=>decide (n.s=s)).map fun n=>⟨ρ n.s,n.fn,n.i⟩:=by
 intro l;induction l with
 | nil=>rfl
 | cons n l ih =>
  rw[eP,kM,kM];have e:decide (ρ n.s=ρ s)=decide (n.s=s):=by
   by_cases h:n.s=s
   ·rw[h];simp
   ·rw[bU h,bU fun e=>h (jS _ _ e)]
  simp only[e];cases decide (n.s=s) with
  | true=>rfl
  | false=>exact ih
include jS in
theorem SO {n n' f:Nat} {s:ByteArray} {l l':Int} {a b:aH} (h:SR ρ a b):RR (SR ρ) (lR n f s l a) (lR n' f (ρ s) l' b):=by
 unfold lR;have e:b.names.find? (fun n=>decide (n.s=ρ s))=(a.names.find? fun n=>decide (n.s=s)).map fun n=>⟨ρ n.s,n.fn,n.i⟩:=by rw[h.names,Nx jS]
 rw[e];cases hx:a.names.find? (fun n=>decide (n.s=s)) with
 | none=>exact h.use _ _ _ _
 | some x =>
  simp only[pQ];by_cases hf:x.fn=f
  ·rw[al hf,al hf]
   exact h.use _ _ _ _
  ·rw[af hf,af hf,h.fns.1]
   rcases Nw (n:=x) (n':=⟨ρ x.s,x.fn,x.i⟩) rfl rfl a.fns.length f (h.fns.set (f:=x.fn) (SN (h.fn x.fn) x.i)) with ⟨h1,h2⟩ | ⟨A',B',k,h1,h2,h3⟩
   ·rw[h1,h2];exact rfl
   ·rw[h1,h2]
    exact⟨h3,h.names,h.frames⟩
theorem qx {β:Type} {g g':Lt→β} (hg :∀t u,zw ρ t u→g' u=g t) :∀{ks ls:List Lt},dO ρ ks ls→ls.map g'=ks.map g
 | [],ls,h=>by unfold dO at h;rw[h];rfl
 | k::ks,ls,h=>by
  unfold dO at h;obtain⟨l,IF,rfl,h0,h⟩:=h;rw[eP,eP,hg _ _ h0,qx hg h]
include jS in
theorem IG {t u:Lt} (s:ByteArray) (h:zw ρ t u):ml (ρ s) u=ml s t:=by
 unfold ml;rw[h.kind,h.s];congr 1
 by_cases e:t.hd.s=s
 ·rw[e];simp
 ·rw[bU e,bU fun k=>e (jS _ _ k)]
theorem findIdx_map {α:Type} (g:α→Bool) :∀l:List α,l.findIdx? g=(l.map g).findIdx? id:=by
 intro l;induction l with
 | nil=>rfl
 | cons x l ih =>
  rw[eP,List.findIdx?_cons,List.findIdx?_cons,ih];rfl
include jS in
theorem rK {ks ls:List Lt} (s:ByteArray) (h:dO ρ ks ls):cA ls (ρ s)=cA ks s:=by
 unfold cA;rw[findIdx_map,findIdx_map (ml s),qx (fun _ _ h=>IG jS s h) h]
include jS in
theorem Ny {A B:List fF} (f:Nat) (s:ByteArray) (h:U4 ρ A B):(∃x∈B,x.loop=false∧x.fn=f∧(cA x.kids (ρ s)).isSome)↔∃x∈A,x.loop=false∧x.fn=f∧(cA x.kids s).isSome:=by
 induction h with
 | nil hE =>
  refine⟨fun⟨x,hx,_,_,h⟩=>?_,fun⟨x,hx,_⟩=>by simp at hx⟩
  rw[(hE x hx).2] at h;cases h
 | cons h _ ih =>
  simp only[bc,exists_eq_or_imp,h.loop,h.fn,rK jS s h.kids,ih]
include jS in
theorem va {A B:List fF} (h:U4 ρ A B) (f:Nat) {all XS:List Lt} (ha:dO ρ all XS) :∀{ks ls:List Lt} (n:Nat),dO ρ ks ls→(cM B f XS n ls).isSome=(cM A f all n ks).isSome
 | [],ls,n,hs=>by unfold dO at hs;rw[hs];rfl
 | k::ks,ls,n,hs=>by
  unfold dO at hs;obtain⟨l,IF,rfl,h0,hs⟩:=hs;rw[cM,cM];have e1:(∃j,cA XS l.hd.s=some j∧j<n)↔∃j,cA all k.hd.s=some j∧j<n:=by rw[h0.s,rK jS _ ha]
  have e2:=Ny jS f k.hd.s h;rw[←h0.s] at e2;simp only[h0.kind,e1,e2];split
  ·rfl
  ·exact va h f ha (n+1) hs
include jS in
theorem xu {i i' f:Nat} {rep:Bool} {ks ls:List Lt} {a b:aH} (h:SR ρ a b) (hs:dO ρ ks ls):RR (SR ρ) (gZ i f rep ks a) (gZ i' f rep ls b):=by
 unfold gZ;have e:=va jS h.frames f hs 0 hs;cases h1:cM a.frames f ks 0 ks with
 | none =>
  rw[h1] at e;cases h2:cM b.frames f ls 0 ls with
  | none=>exact⟨h.fns,h.names,.cons ⟨rfl,rfl,rfl,rfl,hs⟩ h.frames⟩
  | some _=>rw[h2] at e;cases e
 | some _ =>
  rw[h1] at e;cases h2:cM b.frames f ls 0 ls with
  | none=>rw[h2] at e;cases e
  | some _=>exact rfl
theorem SR.at_ {a b:aH} (h:SR ρ a b) (n:Nat):SR ρ (a.at n) (b.at n):=by
 refine⟨h.fns,h.names,?_⟩;have hf:=h.frames;unfold aH.at;dsimp only
 revert hf
 generalize a.frames=A;generalize b.frames=B;cases A with
 | nil =>
  intro hf;cases hf with
  | nil hB =>
   cases B with
   | nil=>exact .nil hB
   | cons y m =>
    refine .nil fun z hz=>?_
    rcases bc.1 hz with rfl|hz
    ·exact hB y (bT ..)
    ·exact hB z (cr _ hz)
 | cons x l =>
  intro hf;cases hf with
  | cons h1 h2=>exact .cons ⟨h1.fn,rfl,h1.loop,h1.rep,h1.kids⟩ h2
theorem SR.du {a b:aH} (h:SR ρ a b) (i j f:Nat):SR ρ (du i f a) (du j f b):=⟨h.fns,h.names,.cons ⟨rfl,rfl,rfl,rfl,by unfold dO;rfl⟩ h.frames⟩
theorem SR.back {a b a0 b0:aH} (h:SR ρ a b) (h0:SR ρ a0 b0):SR ρ (a.back a0) (b.back b0):=⟨h.fns,h0.names,h0.frames⟩
theorem IH {i j f:Nat} {l l':Int} {a b:aH} (h:SR ρ a b):RR (SR ρ) (ee i f l a) (ee j f l' b):=by
 unfold ee;have key :∀{A B:List fF},U4 ρ A B→(B.find? fun x=>x.loop && decide (x.fn=f)).isSome=(A.find? fun x=>x.loop && decide (x.fn=f)).isSome:=by
  intro A B h;induction h with
  | @nil E hE =>
   have:E.find? (fun x=>x.loop && decide (x.fn=f))=none:=Ec.2 fun x hx=>by rw[(hE x hx).1];simp
   rw[this];rfl
  | cons h _ ih =>
   rw[kM,kM,h.loop,h.fn];split
   ·rfl
   ·exact ih
 have e:=key h.frames;cases h1:a.frames.find? (fun x=>x.loop && decide (x.fn=f)) with
 | none =>
  rw[h1] at e;cases h2:b.frames.find? (fun x=>x.loop && decide (x.fn=f)) with
  | none=>exact rfl
  | some _=>rw[h2] at e;cases e
 | some _ =>
  rw[h1] at e;cases h2:b.frames.find? (fun x=>x.loop && decide (x.fn=f)) with
  | none=>rw[h2] at e;cases e
  | some _=>exact h.use _ _ _ _
theorem Bc {ks ls:List Lt} (h:dO ρ ks ls) (a j:Nat) (rep:Bool):lS ls a j rep=lS ks a j rep:=by
 have e1:ls.map isDecl=ks.map isDecl:=qx (fun t u h=>by unfold isDecl;rw[h.kind]) h
 have e2:ls.map (fun k=>decide (k.hd.kind=32))=ks.map fun k=>decide (k.hd.kind=32):=qx (fun t u h=>by rw[h.kind]) h
 have a1 :∀l:List Lt,l.any isDecl=(l.map isDecl).any id:=fun l=>by rw[List.any_map];rfl
 have a2 :∀l:List Lt,(l.all fun k=>decide (k.hd.kind=32))=(l.map fun k=>decide (k.hd.kind=32)).all id:=fun l=>by rw[List.all_map];rfl
 unfold lS;rw[a1,a1,a2,a2,Ej,List.map_take,Ej,Ej,List.map_take,Ej,e1,e2]
include jS in
theorem Nz {i j f:Nat} {s:ByteArray} {l l':Int} {a b:aH} (h:SR ρ a b) :∀{A B:List fF},U4 ρ A B→RR (SR ρ) (dm i f s l a A) (dm j f (ρ s) l' b B):=by
 intro A B hf;induction hf with
 | nil hE =>
  have key :∀{X:List fF},Blank X→dm j f (ρ s) l' b X=.error (8,l'):=by
   intro X hX;induction X with
   | nil=>rfl
   | cons x X ih =>
    rw[dm,(hX x (bT ..)).2];simp only[ih fun y hy=>hX y (cr _ hy),ite_self]
  rw[key hE];exact rfl
 | cons h1 _ ih =>
  rw[dm,dm,h1.loop,h1.fn,rK jS s h1.kids];split
  ·exact ih
  ·split
   ·exact ih
   ·rw[Bc h1.kids,h1.at_,h1.rep]
    split
    ·exact rfl
    ·exact h.use _ _ _ _
end
end Go.Proofs.YteflkdlaoiijbaaGreatDoor
namespace Go.Proofs.YteflkdlaoiijbaaGreatDoor
section
variable {ρ:ByteArray→ByteArray}
theorem II {i j f:Nat} {h g:Nd} {a b:aH} (hs:SR ρ a b) (h1:g.num=h.num) (h2:g.names=h.names.map ρ):SR ρ (jI i f h a) (jI j f g b) :=
 ⟨hs.fns.app ⟨rfl,by show g.names.length=h.names.length;rw[h2,cy],by show decide (g.num=1)=decide (h.num=1);rw[h1],rfl,rfl⟩,hs.names,hs.frames⟩
mutual
theorem lg (jS :∀a b,ρ a=ρ b→a=b) :∀(t u:Lt),zw ρ t u→∀(f:Nat) {a b:aH},SR ρ a b→RR (SR ρ) (bo t f a) (bo u f b)
 | .mk i h ks,.mk j g ls,hs,f,a0,b0,h0=>by
  unfold zw at hs;obtain⟨e1,e2,e3,e4,hk⟩:=hs;have e1:g.kind=h.kind:=e1;have e2:g.num=h.num:=e2;have e3:g.s=ρ h.s:=e3;have e4:g.names=h.names.map ρ:=e4;have hk:dO ρ ks ls:=hk;have hst:=h0.of_ i j f f;unfold bo;rw[e1,e3];generalize a0.setOf i f=a at *;generalize b0.setOf j f=b at *;by_cases h6:h.kind=6
  ·rw[al h6,al h6,(hst.fn f).many]
   split
   ·exact hst
   ·exact rfl
  rw[af h6,af h6];by_cases h7:h.kind=7
  ·rw[al h7,al h7]
   exact SO jS hst
  rw[af h7,af h7];by_cases h11:h.kind=11
  ·rw[al h11,al h11,hst.fns.1,e4]
   exact RR.bind (n7 _ (II hst e2 e4)) fun a1 b1 h1=>RR.map (jo jS ks ls hk _ h1) fun a2 b2 h2=>h2.back hst
  rw[af h11,af h11];by_cases mi:h.kind=18
  ·rw[al mi,al mi]
   exact RR.bind (xu jS hst hk) fun a1 b1 h1=>RR.map (rL jS ks ls hk 0 f h1) fun a2 b2 h2=>h2.back hst
  rw[af mi,af mi];by_cases Lr:h.kind=19
  ·rw[al Lr,al Lr,e4]
   exact RR.bind (jo jS ks ls hk f hst) fun a1 b1 h1=>n7 _ h1
  rw[af Lr,af Lr];by_cases PU:h.kind=23
  ·rw[al PU,al PU]
   exact RR.map (jo jS ks ls hk f (hst.du i j f)) fun a2 b2 h2=>h2.back hst
  rw[af PU,af PU];by_cases Nr:h.kind=24
  ·rw[al Nr,al Nr]
   exact RR.map (SP jS ks ls hk f (hst.du i j f)) fun a2 b2 h2=>h2.back hst
  rw[af Nr,af Nr];by_cases PV:h.kind=26∨h.kind=27
  ·rw[al PV,al PV,e4]
   exact Bd jS ks ls hk f hst
  rw[af PV,af PV];by_cases PW:h.kind=28
  ·rw[al PW,al PW,e4]
   exact RR.bind (n7 _ hst) fun a1 b1 h1=>jo jS ks ls hk f h1
  rw[af PW,af PW];by_cases Fi:h.kind=30
  ·rw[al Fi,al Fi]
   exact IH hst
  rw[af Fi,af Fi];by_cases Fj:h.kind=31
  ·rw[al Fj,al Fj]
   exact Nz jS hst hst.frames
  rw[af Fj,af Fj];exact jo jS ks ls hk f hst
termination_by structural t=>t
theorem jo (jS :∀a b,ρ a=ρ b→a=b) :∀(ks ls:List Lt),dO ρ ks ls→∀(f:Nat) {a b:aH},SR ρ a b→RR (SR ρ) (aI ks f a) (aI ls f b)
 | [],ls,hs,f,a,b,h=>by
  unfold dO at hs;subst hs;unfold aI;exact h
 | k::ks,ls,hs,f,a,b,h=>by
  unfold dO at hs;obtain⟨l,IF,rfl,h0,hs⟩:=hs;unfold aI;exact RR.bind (lg jS k l h0 f h) fun a1 b1 h1=>jo jS ks IF hs f h1
termination_by structural ks=>ks
theorem rL (jS :∀a b,ρ a=ρ b→a=b) :∀(ks ls:List Lt),dO ρ ks ls→∀(n f:Nat) {a b:aH},SR ρ a b→RR (SR ρ) (cY ks n f a) (cY ls n f b)
 | [],ls,hs,n,f,a,b,h=>by
  unfold dO at hs;subst hs;unfold cY;exact h
 | k::ks,ls,hs,n,f,a,b,h=>by
  unfold dO at hs;obtain⟨l,IF,rfl,h0,hs⟩:=hs;unfold cY;exact RR.bind (lg jS k l h0 f (h.at_ n)) fun a1 b1 h1=>rL jS ks IF hs (n+1) f h1
termination_by structural ks=>ks
theorem SP (jS :∀a b,ρ a=ρ b→a=b) :∀(ks ls:List Lt),dO ρ ks ls→∀(f:Nat) {a b:aH},SR ρ a b→RR (SR ρ) (kD ks f a) (kD ls f b)
 | [],ls,hs,f,a,b,h=>by
  unfold dO at hs;subst hs;unfold kD;exact h
 | [.mk _ _ _],ls,hs,f,a,b,h=>by
  unfold dO dO at hs;obtain⟨l,IF,rfl,h0,rfl⟩:=hs;cases l;unfold kD;exact h
 | .mk _ _ _::_::_::_,ls,hs,f,a,b,h=>by
  unfold dO dO dO at hs;obtain⟨l,IF,rfl,h0,l1,ls1,rfl,h1,l2,ls2,rfl,_⟩:=hs;cases l;unfold kD;exact h
 | [.mk i h ks,t],ls,hs,f,a,b,hab=>by
  unfold dO dO dO at hs;obtain⟨l,IF,rfl,h0,u,ls1,rfl,h1,rfl⟩:=hs;obtain⟨j,g,ms⟩:=l;unfold zw at h0;obtain⟨_,_,_,_,hk⟩:=h0;have hk:dO ρ ks ms:=hk;unfold kD;exact RR.bind (xu jS (hab.of_ i j f f) hk) fun a1 b1 h2=>RR.bind (rL jS ks ms hk 0 f h2) fun a2 b2 h3=>lg jS t u h1 f h3
termination_by structural ks=>ks
theorem Bd (jS :∀a b,ρ a=ρ b→a=b) {i j:Nat} {line aaV:Int} {names:List ByteArray} :∀(ks ls:List Lt),dO ρ ks ls→∀(f:Nat) {a b:aH},SR ρ a b→RR (SR ρ) (iO i line names ks f a) (iO j aaV (names.map ρ) ls f b)
 | [],ls,hs,f,a,b,h=>by
  unfold dO at hs;subst hs;unfold iO;exact h
 | [k],ls,hs,f,a,b,h=>by
  unfold dO dO at hs;obtain⟨l,IF,rfl,h0,rfl⟩:=hs;unfold iO;exact RR.bind (n7 _ (h.du i j f)) fun a1 b1 h1=>RR.map (lg jS k l h0 f h1) fun a2 b2 h2=>h2.back h
 | k::k2::ks,ls,hs,f,a,b,h=>by
  unfold dO at hs;obtain⟨l,IF,rfl,h0,hs⟩:=hs;have hs':=hs;unfold dO at hs';obtain⟨l2,ls2,rfl,_,_⟩:=hs';unfold iO;exact RR.bind (lg jS k l h0 f h) fun a1 b1 h1=>Bd jS (k2::ks) (l2::ls2) hs f h1
termination_by structural ks=>ks
end
end
end Go.Proofs.YteflkdlaoiijbaaGreatDoor
namespace Go.Proofs.YteflkdlaoiijbaaGreatDoor
theorem rM (n f:Nat) (st:aH):cY [] n f st=.ok st:=by unfold cY;rfl
theorem im (k:Lt) (ks:List Lt) (n f:Nat) (st:aH):cY (k::ks) n f st=(bo k f (st.at n)).bind fun s=>cY ks (n+1) f s:=by conv=>lhs;unfold cY
theorem fm (f:Nat) (st:aH):aI [] f st=.ok st:=by unfold aI;rfl
theorem e7 (k:Lt) (ks:List Lt) (f:Nat) (st:aH):aI (k::ks) f st=(bo k f st).bind fun s=>aI ks f s:=by conv=>lhs;unfold aI
theorem nJ (i:Nat) (line:Int) (names:List ByteArray) (b:Lt) (f:Nat) (st:aH):iO i line names [b] f st=(bF i f line names (du i f st)).bind fun st1=>(bo b f st1).map fun st2=>st2.back st:=by conv=>lhs;unfold iO
theorem jq (i:Nat) (line:Int) (names:List ByteArray) (a b:Lt) (l:List Lt) (f:Nat) (st:aH):iO i line names (a::b::l) f st=(bo a f st).bind fun st1=>iO i line names (b::l) f st1:=by conv=>lhs;unfold iO
theorem yS (i:Nat) (h:Nd) (ks:List Lt) (t:Lt) (f:Nat) (st:aH):kD [.mk i h ks,t] f st=(gZ i f true ks (st.setOf i f)).bind fun st1=>(cY ks 0 f st1).bind fun st2=>bo t f st2:=by conv=>lhs;unfold kD
section
variable (i:Nat) (h:Nd) (ks:List Lt) (f:Nat) (st:aH)
theorem cV:bo (.mk i h ks) f st =
  if h.kind=6 then (if ((st.setOf i f).fn f).many then .ok (st.setOf i f) else .error (14,h.line))
  else if h.kind=7 then lR i f h.s h.line (st.setOf i f)
  else if h.kind=11 then
   (bF i (st.setOf i f).fns.length h.line h.names (jI i f h (st.setOf i f))).bind fun st1=>(aI ks (st.setOf i f).fns.length st1).map fun st2=>st2.back (st.setOf i f)
  else if h.kind=18 then (gZ i f false ks (st.setOf i f)).bind fun st1=>(cY ks 0 f st1).map fun st2=>st2.back (st.setOf i f)
  else if h.kind=19 then (aI ks f (st.setOf i f)).bind fun st1=>bF i f h.line h.names st1
  else if h.kind=23 then (aI ks f (du i f (st.setOf i f))).map fun st1=>st1.back (st.setOf i f)
  else if h.kind=24 then (kD ks f (du i f (st.setOf i f))).map fun st1=>st1.back (st.setOf i f)
  else if h.kind=26∨h.kind=27 then iO i h.line h.names ks f (st.setOf i f)
  else if h.kind=28 then (bF i f h.line h.names (st.setOf i f)).bind fun st1=>aI ks f st1
  else if h.kind=30 then ee i f h.line (st.setOf i f)
  else if h.kind=31 then dm i f h.s h.line (st.setOf i f) (st.setOf i f).frames
  else aI ks f (st.setOf i f):=by conv=>lhs;unfold bo
end
end Go.Proofs.YteflkdlaoiijbaaGreatDoor
namespace Go.Proofs.YteflkdlaoiijbaaGreatDoor
theorem FS.start (ρ:ByteArray→ByteArray) (i j:Nat):FS ρ ⟨i,-1,0,true,[],[]⟩ ⟨j,-1,0,true,[],[]⟩:=⟨rfl,rfl,rfl,rfl,rfl⟩
theorem FR.one {ρ:ByteArray→ByteArray} {x y:dr} (h:FS ρ x y):FR ρ [x] [y] :=
 FR.app (a:=[]) (b:=[]) ⟨rfl,fun f=>by simp;exact⟨rfl,rfl,rfl,rfl,rfl⟩⟩ h
theorem SQ {ρ:ByteArray→ByteArray} (jS :∀a b,ρ a=ρ b→a=b) {t u:Lt} (h:zw ρ t u):RR (fun a b=>FR ρ a.fns b.fns) (my t) (my u):=by
 have h1:SR ρ (gF t.loc) (gF u.loc):=⟨.one (.start ρ _ _),rfl,.nil fun x hx=>by simp[gF] at hx⟩
 have:=lg jS t u h 0 h1;unfold my;revert this
 cases bo t 0 (gF t.loc)<;>cases bo u 0 (gF u.loc)
 ·exact id
 ·exact id
 ·exact id
 ·exact fun h=>h.fns
mutual
def Lt.wt:Lt→Nat
 | .mk _ h ks=>h.names.length+Lt.eD ks
def Lt.eD:List Lt→Nat
 | []=>0
 | k::ks=>Lt.wt k+Lt.eD ks
end
def dW (F:List dr):Prop:=∀(g:Nat) x,F[g]? = some x→x.vars.length≤200∧x.ch.length≤60
theorem dW.set {F:List dr} (h:dW F) {f:Nat} {x:dr} (hx:x.vars.length≤200∧x.ch.length≤60):dW (F.set f x):=fun g y hy=>by
 by_cases e:f=g
 ·subst e
  by_cases hl:f<F.length
  ·rw[ec hl] at hy
   injection hy with hy;subst hy;exact hx
  ·rw[D8 (by omega)] at hy
   exact h _ _ hy
 ·rw[fJ e] at hy
  exact h _ _ hy
theorem dW.app {F:List dr} (h:dW F) {x:dr} (hx:x.vars.length≤200∧x.ch.length≤60):dW (F++[x]):=fun g y hy=>by
 rw[List.getElem?_append] at hy;split at hy
 ·exact h _ _ hy
 ·have:=(aJ.1 hy).1
  simp at this;rw[show g-F.length=0 by omega] at hy
  injection hy with hy;subst hy;exact hx
theorem dW.getD {F:List dr} (h:dW F) (f:Nat):(F.getD f ⟨0,0,0,false,[],[]⟩).vars.length≤200∧(F.getD f ⟨0,0,0,false,[],[]⟩).ch.length≤60:=by
 rw[jU];cases e:F[f]? with
 | none=>exact⟨bB _,bB _⟩
 | some x=>exact h f x e
structure Mk (a b:Nat) (st st':aH):Prop where
 few:dW st'.fns
 names:st'.names.length≤st.names.length+a
 fns:st'.fns.length≤st.fns.length+b
 least:st.fns.length≤st'.fns.length
 frames:st'.frames.length=st.frames.length
theorem Mk.trans {a b c d:Nat} {x y z:aH} (h:Mk a b x y) (k:Mk c d y z):Mk (a+c) (b+d) x z:=⟨k.few,by have:=h.names;have:=k.names;omega,by have:=h.fns;have:=k.fns;omega,aM h.least k.least,k.frames.trans h.frames⟩
theorem IJ {n f:Nat} {l:Int} :∀(ns:List ByteArray) {st st':aH},dV n f l ns st=.ok st'→dW st.fns→Mk ns.length 0 st st':=by
 intro ns;induction ns with
 | nil =>
  intro st st' h hF;rw[dV] at h;injection h with h;subst h;exact⟨hF,by simp,by simp,ah _,rfl⟩
 | cons s ns ih =>
  intro st st' h hF;rw[dV] at h;split at h
  ·cases h
  ·rename_i hlt
   have h1:=ih h (hF.set ⟨by simp;omega,(hF.getD f).2⟩)
   refine⟨h1.few,?_,?_,?_,h1.frames⟩
   ·have:=h1.names
    simp only[List.length_cons] at this ⊢;omega
   ·have:=h1.fns
    simp only[aH.oP,mg] at this;omega
   ·have:=h1.least
    simp only[aH.oP,mg] at this;omega
theorem jK {n f:Nat} {l:Int} {ns:List ByteArray} {st st':aH} (h:bF n f l ns st=.ok st') (hF:dW st.fns):Mk ns.length 0 st st':=by
 have:=IJ ns h hF;exact⟨this.few,this.names,this.fns,this.least,this.frames⟩
theorem xw {F F':List dr} {f k:Nat} {u:sO} (h:gE F f u=some (F',k)) (hF:dW F):dW F'∧F'.length=F.length:=by
 unfold gE at h;dsimp only at h
 split at h
 ·injection h with h
  injection h with h1 _;subst h1;exact⟨hF,rfl⟩
 ·split at h
  ·cases h
  ·injection h with h
   injection h with h1 _;subst h1;rename_i hlt;exact⟨hF.set ⟨(hF.getD f).1,by rw[cI,mF];omega⟩,by simp⟩
theorem Be {n:jn} :∀(g:Nat) {F F':List dr} {f k:Nat},lQ n g F f=some (F',k)→dW F→dW F'∧F'.length=F.length:=by
 intro g;induction g with
 | zero=>intro F F' f k h;cases h
 | succ g ih =>
  intro F F' f k h hF;rw[lQ] at h;split at h
  ·exact xw h hF
  ·split at h
   ·cases h
   ·rename_i F1 k1 h1
    obtain⟨a1,a2⟩:=ih h1 hF;obtain⟨b1,b2⟩:=xw h a1;exact⟨b1,b2.trans a2⟩
theorem rN (x:dr) (i:Nat):(da x i).vars.length=x.vars.length∧(da x i).ch=x.ch:=by
 unfold da;refine⟨?_,rfl⟩;dsimp only
 split<;>simp
theorem XT {n f:Nat} {s:ByteArray} {l:Int} {st st':aH} (h:lR n f s l st=.ok st') (hF:dW st.fns):Mk 0 0 st st':=by
 unfold lR at h;split at h
 ·injection h with h
  subst h;exact⟨hF,ah _,ah _,ah _,rfl⟩
 ·rename_i x _
  split at h
  ·injection h with h
   subst h;exact⟨hF,ah _,ah _,ah _,rfl⟩
  ·split at h
   ·cases h
   ·rename_i F k hk
    injection h with h;subst h;have e:=rN (st.fn x.fn) x.i;obtain⟨a1,a2⟩:=Be _ hk (hF.set ⟨by rw[e.1];exact(hF.getD x.fn).1,by rw[e.2];exact(hF.getD x.fn).2⟩)
    rw[mg] at a2;exact⟨a1,ah _,En a2,En a2.symm,rfl⟩
theorem NB {n f:Nat} {l:Int} {st st':aH} (h:ee n f l st=.ok st') (hF:dW st.fns):Mk 0 0 st st':=by
 unfold ee at h;split at h
 ·cases h
 ·injection h with h
  subst h;exact⟨hF,ah _,ah _,ah _,rfl⟩
theorem SS {n f:Nat} {s:ByteArray} {l:Int} {st st':aH} (hF:dW st.fns) :∀(fr:List fF),dm n f s l st fr=.ok st'→Mk 0 0 st st':=by
 intro fr;induction fr with
 | nil=>intro h;cases h
 | cons x fr ih =>
  intro h;rw[dm] at h;split at h
  ·exact ih h
  ·split at h
   ·exact ih h
   ·split at h
    ·cases h
    ·injection h with h
     subst h;exact⟨hF,ah _,ah _,ah _,rfl⟩
theorem Bf {i f:Nat} {rep:Bool} {ks:List Lt} {st st':aH} (h:gZ i f rep ks st=.ok st'):st'={ st with frames:=⟨f,i,0,false,rep,ks⟩::st.frames}:=by
 unfold gZ at h;split at h
 ·cases h
 ·injection h with h
  exact h.symm
theorem ey {α β:Type} {x:Rs α} {g:α→β} {y:β} (h:x.map g=.ok y) :∃a,x=.ok a∧y=g a:=by
 cases x with
 | error e=>cases h
 | ok a=>injection h with h;exact⟨a,rfl,h.symm⟩
theorem cb {α β:Type} {x:Rs α} {g:α→Rs β} {y:β} (h:x.bind g=.ok y) :∃a,x=.ok a∧g a=.ok y:=by
 cases x with
 | error e=>cases h
 | ok a=>exact⟨a,rfl,h⟩
theorem aaW {a b:Nat} {st st':aH} {n:Nat} (h:Mk a b (st.at n) st'):Mk a b st st':=⟨h.few,h.names,h.fns,h.least,h.frames.trans (by unfold aH.at;cases st.frames<;>rfl)⟩
theorem back_mk {a b:Nat} {st st':aH} {fr:List fF} (h:Mk a b { st with frames:=fr} st'):Mk 0 b st (st'.back st):=⟨h.few,ah _,h.fns,h.least,rfl⟩
mutual
theorem lT :∀(t:Lt) {f:Nat} {st st':aH},bo t f st=.ok st'→dW st.fns→Mk t.wt t.size st st'
 | .mk i h ks,f,mn,st',hr,hF=>by
  rw[cV] at hr;rw[Lt.wt,Lt.size];have hF:dW (mn.setOf i f).fns:=hF;have key :∀{a b:Nat},Mk a b (mn.setOf i f) st'→a≤h.names.length+Lt.eD ks→b≤Lt.ak ks+1→Mk (h.names.length+Lt.eD ks) (Lt.ak ks+1) mn st':=fun h h1 h2=>⟨h.few,by have:_≤mn.names.length+_:=h.names;omega,by have:_≤mn.fns.length+_:=h.fns;omega,h.least,h.frames⟩
  generalize mn.setOf i f=st at *;split at hr
  ·split at hr
   ·injection hr with hr
    subst hr;exact key (a:=0) (b:=0) ⟨hF,ah _,ah _,ah _,rfl⟩ (bB _) (bB _)
   ·cases hr
  split at hr
  ·exact key (XT hr hF) (bB _) (bB _)
  split at hr
  ·obtain⟨s1,e1,hr⟩:=cb hr
   obtain⟨s2,e2,rfl⟩:=ey hr;have h1:=jK e1 (show dW (st.fns++[_]) from hF.app ⟨bB _,bB _⟩)
   have h2:=iP ks e2 h1.few;refine key (a:=0) (b:=Lt.ak ks+1) ⟨h2.few,ah _,?_,?_,rfl⟩ (bB _) (ah _)
   ·have h3:s1.fns.length≤(st.fns++[_]).length+0:=h1.fns
    have h4:=h2.fns;rw[cI,mF] at h3;show s2.fns.length≤_
    omega
   ·have h3:(st.fns++[_]).length≤s1.fns.length:=h1.least
    have h4:=h2.least;rw[cI,mF] at h3;show _≤s2.fns.length
    omega
  split at hr
  ·obtain⟨s1,e1,hr⟩:=cb hr
   obtain⟨s2,e2,rfl⟩:=ey hr;have e1:=Bf e1;subst e1;exact key (back_mk (vb ks e2 hF)) (bB _) (by omega)
  split at hr
  ·obtain⟨s1,e1,e2⟩:=cb hr
   have h1:=iP ks e1 hF;exact key (h1.trans (jK e2 h1.few)) (by omega) (by omega)
  split at hr
  ·obtain⟨s2,e2,rfl⟩:=ey hr
   exact key (back_mk (iP ks e2 hF)) (bB _) (by omega)
  split at hr
  ·obtain⟨s2,e2,rfl⟩:=ey hr
   obtain⟨a1,a2,a3⟩:=XU ks e2 hF;exact key (a:=0) (b:=Lt.ak ks) ⟨a1,ah _,a2,a3,rfl⟩ (bB _) (by omega)
  split at hr
  ·exact key (NC ks hr hF) (by omega) (by omega)
  split at hr
  ·obtain⟨s1,e1,e2⟩:=cb hr
   have h1:=jK e1 hF;exact key (h1.trans (iP ks e2 h1.few)) (by omega) (by omega)
  split at hr
  ·exact key (NB hr hF) (bB _) (bB _)
  split at hr
  ·exact key (SS hF _ hr) (bB _) (bB _)
  exact key (iP ks hr hF) (by omega) (by omega)
theorem iP :∀(ks:List Lt) {f:Nat} {st st':aH},aI ks f st=.ok st'→dW st.fns→Mk (Lt.eD ks) (Lt.ak ks) st st'
 | [],f,st,st',hr,hF=>by
  rw[fm] at hr;injection hr with hr;subst hr;exact⟨hF,gy _ _,gy _ _,ah _,rfl⟩
 | k::ks,f,st,st',hr,hF=>by
  rw[e7] at hr;obtain⟨s1,e1,e2⟩:=cb hr;rw[Lt.eD,Lt.ak];have h1:=lT k e1 hF;exact h1.trans (iP ks e2 h1.few)
theorem vb :∀(ks:List Lt) {n f:Nat} {st st':aH},cY ks n f st=.ok st'→dW st.fns→Mk (Lt.eD ks) (Lt.ak ks) st st'
 | [],n,f,st,st',hr,hF=>by
  rw[rM] at hr;injection hr with hr;subst hr;exact⟨hF,gy _ _,gy _ _,ah _,rfl⟩
 | k::ks,n,f,st,st',hr,hF=>by
  rw[im] at hr;obtain⟨s1,e1,e2⟩:=cb hr;rw[Lt.eD,Lt.ak];have h1:=aaW (lT k e1 hF);exact h1.trans (vb ks e2 h1.few)
theorem XU :∀(ks:List Lt) {f:Nat} {st st':aH},kD ks f st=.ok st'→dW st.fns→dW st'.fns∧st'.fns.length≤st.fns.length+Lt.ak ks∧st.fns.length≤st'.fns.length
 | [],f,st,st',hr,hF=>by
  unfold kD at hr;injection hr with hr;subst hr;exact⟨hF,gy _ _,ah _⟩
 | [.mk _ _ _],f,st,st',hr,hF=>by
  unfold kD at hr;injection hr with hr;subst hr;exact⟨hF,gy _ _,ah _⟩
 | .mk _ _ _::_::_::_,f,st,st',hr,hF=>by
  unfold kD at hr;injection hr with hr;subst hr;exact⟨hF,gy _ _,ah _⟩
 | [.mk i h ks,t],f,st,st',hr,hF=>by
  rw[yS] at hr;obtain⟨s1,e1,hr⟩:=cb hr;obtain⟨s2,e2,e3⟩:=cb hr;have e1:=Bf e1;subst e1;have h1:=vb ks e2 hF;have h2:=lT t e3 h1.few;refine⟨h2.few,?_,?_⟩
  ·have h3:s2.fns.length≤st.fns.length+_:=h1.fns
   have:=h2.fns;simp only[Lt.ak,Lt.size];omega
  ·exact aM (show st.fns.length≤s2.fns.length from h1.least) h2.least
theorem NC {i:Nat} {line:Int} {names:List ByteArray} :∀(ks:List Lt) {f:Nat} {st st':aH},iO i line names ks f st=.ok st'→dW st.fns→Mk (Lt.eD ks) (Lt.ak ks) st st'
 | [],f,st,st',hr,hF=>by
  unfold iO at hr;injection hr with hr;subst hr;exact⟨hF,gy _ _,gy _ _,ah _,rfl⟩
 | [b],f,st,st',hr,hF=>by
  rw[nJ] at hr;obtain⟨s1,e1,hr⟩:=cb hr;obtain⟨s2,e2,rfl⟩:=ey hr;have h1:=jK e1 (show dW (du i f st).fns from hF)
  have h2:=lT b e2 h1.few;simp only[Lt.eD,Lt.ak];refine⟨h2.few,gy _ _,?_,?_,rfl⟩
  ·have h3:s1.fns.length≤st.fns.length+0:=h1.fns
   have:=h2.fns;show s2.fns.length≤_
   omega
  ·exact aM (show st.fns.length≤s1.fns.length from h1.least) h2.least
 | a::b::l,f,st,st',hr,hF=>by
  rw[jq] at hr;obtain⟨s1,e1,e2⟩:=cb hr;have h1:=lT a e1 hF;rw[Lt.eD,Lt.ak];exact h1.trans (NC (b::l) e2 h1.few)
end
mutual
def Ast.lt:Ast→Lt
 | .mk h ks=>.mk 0 h (Ast.SU ks)
def Ast.SU:List Ast→List Lt
 | []=>[]
 | a::xz=>Ast.lt a::Ast.SU xz
end
mutual
theorem ND {T:List Nd} :∀(a:Ast) (i:Nat) (js:List Nat),gQ T a i js→∃t:Lt,Lt.In T t∧t.loc=i∧t.dI=js∧zw id a.lt t
 | .mk h xz,i,js,hr=>by
  unfold gQ at hr;obtain⟨x,sA,hx,he,hs,rfl⟩:=hr;obtain⟨ts,h1,h2,h3,h4⟩:=Fl xz x.kids sA hs;refine⟨.mk i x ts,?_,rfl,?_,?_⟩
  ·unfold Lt.In
   exact⟨hx,h2,h1⟩
  ·rw[Lt.dI,h3]
  ·rw[Ast.lt]
   unfold zw;have e1:x.kind=h.kind:=by rw[he]
   have e2:x.num=h.num:=by rw[he]
   have e3:x.s=h.s:=by rw[he]
   have e4:x.names=h.names:=by rw[he]
   exact⟨e1,e2,e3,by rw[List.map_id];exact e4,h4⟩
theorem Fl {T:List Nd} :∀(xz:List Ast) (ks:List Int) (js:List Nat),bu T xz ks js→∃ts:List Lt,Lt.nG T ts∧ks=ts.map (fun k=>(k.loc:Int))∧Lt.aS ts=js∧dO id (Ast.SU xz) ts
 | [],ks,js,hr=>by
  unfold bu at hr;obtain⟨rfl,rfl⟩:=hr;refine⟨[],?_,rfl,?_,?_⟩
  ·unfold Lt.nG;trivial
  ·rw[Lt.aS]
  ·rw[Ast.SU];unfold dO;rfl
 | a::xz,ks,js,hr=>by
  unfold bu at hr;obtain⟨k,iu,j1,j2,rfl,h1,h2,rfl⟩:=hr;obtain⟨t,a1,a2,a3,a4⟩:=ND a k j1 h1;obtain⟨ts,b1,b2,b3,b4⟩:=Fl xz iu j2 h2;refine⟨t::ts,?_,?_,?_,?_⟩
  ·unfold Lt.nG;exact⟨a1,b1⟩
  ·rw[eP,a2,b2]
  ·rw[Lt.aS,a3,b3]
  ·rw[Ast.SU];unfold dO;exact⟨t,ts,rfl,a4,b4⟩
end
def kF (r:Rs aH):Prop:=∀x,r=.error x→∃k:Nat,x.1=(k:Int)∧8≤k∧k≤14
theorem eR (st:aH):kF (.ok st):=fun x h=>by cases h
theorem lU {k:Nat} {l:Int} (h:8≤k∧k≤14):kF (.error ((k:Int),l)):=fun x e=>by injection e with e;exact⟨k,by rw[←e],h.1,h.2⟩
theorem nK {r:Rs aH} (h:kF r) (g:aH→aH):kF (r.map g):=fun x e=>by
 cases r with
 | ok s=>cases e
 | error y=>injection e with e;exact h x (by rw[e])
theorem eG {r:Rs aH} (h:kF r) {g:aH→Rs aH} (hg :∀s,kF (g s)):kF (r.bind g):=fun x e=>by
 cases r with
 | ok s=>exact hg s x e
 | error y=>injection e with e;exact h x (by rw[e])
theorem jL {n f:Nat} {l:Int} :∀(ns:List ByteArray) (st:aH),kF (dV n f l ns st)
 | [],st=>eR _
 | s::ns,st=>by
  rw[dV];split
  ·exact lU (k:=11) (by omega)
  ·exact jL ns _
theorem NG {n f:Nat} {s:ByteArray} {l:Int} (st:aH):kF (lR n f s l st):=by
 unfold lR;split
 ·exact eR _
 ·split
  ·exact eR _
  ·split
   ·exact lU (k:=12) (by omega)
   ·exact eR _
theorem DD {n f:Nat} {l:Int} (st:aH):kF (ee n f l st):=by
 unfold ee;split
 ·exact lU (k:=8) (by omega)
 ·exact eR _
theorem xx {i f:Nat} {rep:Bool} {ks:List Lt} (st:aH):kF (gZ i f rep ks st):=by
 unfold gZ;split
 ·exact lU (k:=9) (by omega)
 ·exact eR _
theorem pB {n f:Nat} {s:ByteArray} {l:Int} (st:aH) :∀fr:List fF,kF (dm n f s l st fr)
 | []=>by rw[dm];exact lU (k:=8) (by omega)
 | x::fr=>by
  rw[dm];split
  ·exact pB st fr
  ·split
   ·exact pB st fr
   ·split
    ·exact lU (k:=10) (by omega)
    ·exact eR _
mutual
theorem lh :∀(t:Lt) (f:Nat) (st:aH),kF (bo t f st)
 | .mk i h ks,f,mn=>by
  rw[cV];generalize mn.setOf i f=st;split
  ·split
   ·exact eR _
   ·exact lU (k:=14) (by omega)
  split
  ·exact NG _
  split
  ·exact eG (jL _ _) fun s=>nK (jr ks _ s) _
  split
  ·exact eG (xx _) fun s=>nK (rO ks _ _ s) _
  split
  ·exact eG (jr ks _ _) fun s=>jL _ _
  split
  ·exact nK (jr ks _ _) _
  split
  ·exact nK (SV ks _ _) _
  split
  ·exact Fm ks _ _
  split
  ·exact eG (jL _ _) fun s=>jr ks _ s
  split
  ·exact DD _
  split
  ·exact pB _ _
  exact jr ks _ _
theorem jr :∀(ks:List Lt) (f:Nat) (st:aH),kF (aI ks f st)
 | [],f,st=>by rw[fm];exact eR _
 | k::ks,f,st=>by rw[e7];exact eG (lh k f st) fun s=>jr ks f s
theorem rO :∀(ks:List Lt) (n f:Nat) (st:aH),kF (cY ks n f st)
 | [],n,f,st=>by rw[rM];exact eR _
 | k::ks,n,f,st=>by rw[im];exact eG (lh k f _) fun s=>rO ks _ f s
theorem SV :∀(ks:List Lt) (f:Nat) (st:aH),kF (kD ks f st)
 | [],f,st=>by unfold kD;exact eR _
 | [.mk _ _ _],f,st=>by unfold kD;exact eR _
 | [.mk i h ks,t],f,st=>by
  rw[yS];exact eG (xx _) fun s=>eG (rO ks _ _ s) fun s=>lh t f s
 | .mk _ _ _::_::_::_,f,st=>by unfold kD;exact eR _
theorem Fm {i:Nat} {line:Int} {names:List ByteArray} :∀(ks:List Lt) (f:Nat) (st:aH),kF (iO i line names ks f st)
 | [],f,st=>by unfold iO;exact eR _
 | [b],f,st=>by rw[nJ];exact eG (jL _ _) fun s=>nK (lh b f s) _
 | a::b::l,f,st=>by rw[jq];exact eG (lh a f st) fun s=>Fm (b::l) f s
end
theorem yT (t:Lt):kF (my t):=lh t 0 _
def tG (k:Int):Prop:=1≤k∧k≤15
def StK (k:Int):Prop:=19≤k∧k≤32∧k≠29
structure hH (k n:Int) (kk:List Int):Prop where
 none:(k=1∨k=2∨k=3∨k=4∨k=5∨k=6∨k=7∨k=30∨k=31∨k=32)→kk=[]
 two:(k=8∨k=12∨k=17)→∃a b,kk=[a,b]∧tG a∧tG b
 call:(k=9∨k=10)→1≤kk.length∧∀a∈kk,tG a
 body:(k=11∨k=22)→kk=[18]
 one:(k=13∨k=14∨k=16)→∃a,kk=[a]∧tG a
 items:k=15→∀a∈kk,a=16∨a=17
 block:k=18→∃l r,kk=l++r∧(∀a∈l,StK a)∧(r=[]∨r=[29])
 list:(k=19∨k=29)→∀a∈kk,tG a
 assign:k=20→∃l r,kk=l++r∧(∀a∈l,a=7∨a=8)∧(1≤n→(l.length:Int)=n)∧1≤r.length∧∀a∈r,tG a
 XV:k=21→∃a,kk=[a]∧(a=9∨a=10)
 XX:k=23→∃a,kk=[a,18]∧tG a
 Fo:k=24→∃a,kk=[18,a]∧tG a
 if_:k=25→∃(ps:List (Int×Int)) (r:List Int),kk=(ps.flatMap fun p:Int×Int=>[p.1,p.2])++r∧1≤ps.length∧(∀p∈ps,tG p.1∧p.2=18)∧(r=[]∨r=[18])
 for_:k=26→∃l,kk=l++[18]∧(l.length=2∨l.length=3)∧∀a∈l,tG a
 each:k=27→∃l,kk=l++[18]∧(1≤n→(l.length:Int)=n)∧∀a∈l,tG a
 func:k=28→kk=[11]
def jd (ks:List Lt):List Int:=ks.map fun k=>k.hd.kind
mutual
/-- A tree all of whose nodes have such Kids. -/
def Lt.vd:Lt→Prop
 | .mk _ h ks=>hH h.kind h.num (jd ks)∧Lt.iB ks
def Lt.iB:List Lt→Prop
 | []=>True
 | k::ks=>Lt.vd k∧Lt.iB ks
end
open Go.RowKit
def JM (ty:TypeId) (W W':World):Prop:=W.heap.size≤W'.heap.size∧∀(k:Nat) c e fz,W.heap[k]? = some (.cells c e fz)→e≠ty→W'.heap[k]? = some (.cells c e fz)
theorem JM.set {ty:TypeId} {W:World} {g:Nat} {cs:Array Value} {fz:Nat×Nat} (h:W.heap[g]? = some (.cells cs ty fz)) (j:Nat) (v:Value):JM ty W (W.setCell ⟨g,j,none⟩ v) :=
 ⟨by simp[World.setCell],fun k c e f hk he=>(Below.heap_setCell W ⟨g,j,none⟩ v k (fun(e':k=g)=>by
  subst e';rw[h] at hk;injection hk with hk;injection hk with _ hk;exact he hk.symm)).trans hk⟩
theorem dd {W W':World} {B e s n:Nat} {ty:TypeId} {v:Value} {xs:List Value} (h:W.ownsRow B e s v n xs) (ho:JM ty W W') (he:e≠ty):W'.ownsRow B e s v n xs:=by
 refine⟨h.1,?_⟩;rcases h.2 with hn | ⟨g,cap,cur,rfl,hB,hg,rest⟩
 ·exact .inl hn
 ·exact .inr ⟨g,cap,cur,rfl,hB,ho.2 g _ _ _ hg he,rest⟩
def th (v:mw):List Value:=[.string v.name,.int .i64 (v.node:Int),.bool v.cap]
def Fp (u:sO):List Value:=[.bool u.loc,.int .i64 (u.idx:Int)]
abbrev mB:=dr×Value×Value
def NH (t:mB):List Value:=[.int .i64 (t.1.node:Int),.int .i64 t.1.parent,.int .i64 (t.1.params:Int),.bool t.1.many,t.2.1,t.2.2]
def e8 (W:World) (B:Nat) (ty:TypeId) (s b n:Nat) (f:Nat→Value):Prop:=W.ownsRow B ty s (.slice (some ⟨b,0,none⟩) n n) n ((List.range (n*s)).map f)
def pC (u:Nat→Int×Int):Nat→Value:=fun j=>if j % 2=0 then .int .i64 (u (j / 2)).1 else .int .i64 (u (j / 2)).2
def PX (o:Nat→Int):Nat→Value:=fun j=>.int .i64 (o j)
def Bg (W:World) (B:Nat) (v:Value) (xs:List ByteArray):Prop :=
 ∃A c,v=.slice A xs.length c∧xs.length≤c∧(xs=[]∨∃bk o,A=some ⟨bk,o,none⟩∧bk<B∧∀(j:Nat) x,xs[j]? = some x→W.cell? ⟨bk,o+j,none⟩=some (.string x))
def gH (W:World) (B:Nat) (v:Value) (xs:List Int):Prop :=
 ∃A c,v=.slice A xs.length c∧xs.length≤c∧(xs=[]∨∃bk o,A=some ⟨bk,o,none⟩∧bk<B∧∀(j:Nat) x,xs[j]? = some x→W.cell? ⟨bk,o+j,none⟩=some (.int .i64 x))
theorem Bg.below {W W':World} {B:Nat} {v:Value} {xs:List ByteArray} (h:Bg W B v xs) (hb:Below B W W'):Bg W' B v xs:=by
 obtain⟨A,c,e,hc,h | ⟨bk,o,e2,hk,hx⟩⟩:=h
 ·exact⟨A,c,e,hc,.inl h⟩
 ·exact⟨A,c,e,hc,.inr ⟨bk,o,e2,hk,fun j x hj=>(hb.cell (p:=⟨bk,o+j,none⟩) hk).trans (hx j x hj)⟩⟩
theorem gH.below {W W':World} {B:Nat} {v:Value} {xs:List Int} (h:gH W B v xs) (hb:Below B W W'):gH W' B v xs:=by
 obtain⟨A,c,e,hc,h | ⟨bk,o,e2,hk,hx⟩⟩:=h
 ·exact⟨A,c,e,hc,.inl h⟩
 ·exact⟨A,c,e,hc,.inr ⟨bk,o,e2,hk,fun j x hj=>(hb.cell (p:=⟨bk,o+j,none⟩) hk).trans (hx j x hj)⟩⟩
structure wg (W:World) (B:Nat) (nv:Value) (T:List Nd):Prop where
 ex :∃W0 bk o c,nv=.slice (some ⟨bk,o,none⟩) T.length c∧bk<B∧W0.heap.size=B∧tz W0 bk o T∧Below B W0 W
 few:T.length≤20000
 small :∀x∈T,x.kids.length≤20000∧x.names.length≤20000
theorem wg.nodes {W:World} {B:Nat} {nv:Value} {T:List Nd} (h:wg W B nv T) :∃bk o c,nv=.slice (some ⟨bk,o,none⟩) T.length c∧bk<B∧B≤W.heap.size∧∀(i:Nat) x,T[i]? = some x→∃nv kv,lJ W bk (o+i*7) x nv kv∧Bg W B nv x.names∧gH W B kv x.kids:=by
 obtain⟨W0,bk,o,c,e,hb,hs,hn,hbl⟩:=h.ex;refine⟨bk,o,c,e,hb,by have:=hbl.size;omega,fun i x hx=>?_⟩
 obtain⟨nv,kv,h1,⟨A,c1,e1,hc1,h2⟩,⟨A',c2,e2,hc2,h3⟩⟩:=hn i x hx;refine⟨nv,kv,h1.below hbl hb,Bg.below (B:=B) ⟨A,c1,e1,hc1,?_⟩ hbl,gH.below (B:=B) ⟨A',c2,e2,hc2,?_⟩ hbl⟩
 ·rcases h2 with h2 | ⟨x1,x2,x3,x4,x5⟩
  ·exact .inl h2
  ·exact .inr ⟨x1,x2,x3,by omega,x5⟩
 ·rcases h3 with h3 | ⟨x1,x2,x3,x4,x5⟩
  ·exact .inl h3
  ·exact .inr ⟨x1,x2,x3,by omega,x5⟩
theorem wg.below {W W':World} {B:Nat} {nv:Value} {T:List Nd} (h:wg W B nv T) (hb:Below B W W'):wg W' B nv T:=by
 obtain⟨W0,bk,o,c,e,h1,hs,hn,hbl⟩:=h.ex;exact⟨⟨W0,bk,o,c,e,h1,hs,hn,hbl.trans hb⟩,h.few,h.small⟩
theorem bA {W:World} {B:Nat} {ty:TypeId} {s b n:Nat} {f:Nat→Value} (h:e8 W B ty s b n f) {j:Nat} (hj:j<n*s):W.cell? ⟨b,j,none⟩=some (f j)∧W.frozen? ⟨b,j,none⟩=false:=by
 refine⟨?_,World.ownsRow.frozenAt h j⟩;rw[World.ownsRow.cellAt h j hj,fw,zE hj];rfl
theorem Fq {W:World} {B:Nat} {ty:TypeId} {s b n:Nat} {f g:Nat→Value} (h:e8 W B ty s b n f) (he :∀j,j<n*s→f j=g j):e8 W B ty s b n g:=by
 unfold e8 at h ⊢;rw[show(List.range (n*s)).map g=(List.range (n*s)).map f from wy fun j hj=>(he j (sr.1 hj)).symm]
 exact h
theorem qy {W:World} {B:Nat} {ty:TypeId} {s b n:Nat} {f:Nat→Value} (h:e8 W B ty s b n f) (j:Nat) (v:Value):e8 (W.setCell ⟨b,j,none⟩ v) B ty s b n (fun i=>if i=j then v else f i):=by
 have h1:=(World.ownsRow.stored h j v).1;unfold e8;rw[show(List.range (n*s)).map (fun i=>if i=j then v else f i)=((List.range (n*s)).map f).set j v from ?_]
 ·exact h1
 ·refine Ee fun i=>?_
  rw[fw,List.getElem?_set];by_cases hi:j=i
  ·subst hi
   rw[al rfl,cy,List.length_range];by_cases hl:j<n*s
   ·rw[al hl,zE hl];simp
   ·rw[af hl,si (by simpa using hl)];rfl
  ·rw[af hi,fw]
   by_cases hl:i<n*s
   ·rw[zE hl]
    simp only[pQ];rw[af fun e=>hi e.symm]
   ·rw[si (by simpa using hl)];rfl
theorem lj {W:World} {B:Nat} {ty:TypeId} {s b n:Nat} {f:Nat→Value} (h:e8 W B ty s b n f) :∃cs,W.heap[b]? = some (.cells cs ty (0,0)):=by
 rcases h.2 with ⟨e,_⟩ | ⟨g,cap,cur,e,_,hg,_⟩
 ·cases e
 ·injection e with e
  injection e with e;injection e with e _;subst e;exact⟨cur,hg⟩
theorem NI {W:World} {B b n:Nat} {ty:TypeId} {u:Nat→Int×Int} (h:e8 W B ty 2 b n (pC u)) (i:Nat) (x:Int×Int) :
  e8 ((W.setCell ⟨b,i*2,none⟩ (.int .i64 x.1)).setCell ⟨b,i*2+1,none⟩ (.int .i64 x.2)) B ty 2 b n (pC fun j=>if j=i then x else u j):=by
 refine Fq (qy (qy h (i*2) (.int .i64 x.1)) (i*2+1) (.int .i64 x.2)) fun j _=>?_
 unfold pC;by_cases h1:j=i*2+1
 ·subst h1
  rw[al rfl,af (by omega)]
  dsimp only
  rw[al (by omega)]
 ·rw[af h1]
  by_cases h2:j=i*2
  ·subst h2
   rw[al rfl,al (by omega)]
   dsimp only
   rw[al (by omega)]
  ·rw[af h2]
   by_cases h3:j % 2=0
   ·rw[al h3,al h3]
    dsimp only
    rw[af (by omega)]
   ·rw[af h3,af h3]
    dsimp only
    rw[af (by omega)]
theorem XY {W:World} {B b n:Nat} {ty:TypeId} {o:Nat→Int} (h:e8 W B ty 1 b n (PX o)) (i:Nat) (x:Int):e8 (W.setCell ⟨b,i,none⟩ (.int .i64 x)) B ty 1 b n (PX fun j=>if j=i then x else o j):=by
 refine Fq (qy h i (.int .i64 x)) fun j _=>?_
 unfold PX;by_cases h1:j=i
 ·rw[al h1]
  dsimp only
  rw[al h1]
 ·rw[af h1]
  dsimp only
  rw[af h1]
theorem lk {W W':World} {B:Nat} {ty ty':TypeId} {s g n:Nat} {f:Nat→Value} (h:e8 W B ty s g n f) (ho:JM ty' W W') (he:ty≠ty'):e8 W' B ty s g n f:=dd h ho he
theorem ez {α:Type} {f:α→List Value} {s:Nat} (hs :∀a,(f a).length=s) :∀(l:List α) (i j:Nat) (a:α),l[i]? = some a→j<s→(l.flatMap f)[i*s+j]? = (f a)[j]?
 | [],i,j,a,h,_=>by simp at h
 | x::l,0,j,a,h,hj=>by
  injection h with h;subst h;rw[iG,Eo,jY,kK (by rw[hs];exact hj)]
 | x::l,i+1,j,a,h,hj=>by
  rw[iG,zy (by rw[hs,Ep];omega),hs,show(i+1)*s+j-s=i*s+j by rw[Ep];omega]
  exact ez hs l i j a h hj
theorem qz (x:mB):(NH x).length=6:=rfl
theorem nL (x:mw):(th x).length=3:=rfl
theorem tH (x:sO):(Fp x).length=2:=rfl
theorem ve {T:List Nd} {ks:List Lt} (fD:Lt.nG T ks) {k:Nat} {x:Lt} (hx:ks[k]? = some x):Lt.In T x∧T[x.loc]? = some x.hd:=by
 have h:=Fk fD x (aL hx);exact⟨h,(yR h).2.1⟩
theorem ab {W:World} {g:Nat} {cs:Array Value} {ty:TypeId} (h:W.heap[g]? = some (.cells cs ty (0,0))) (j:Nat):W.cell? ⟨g,j,none⟩=cs[j]?:=cell_of_row W g j cs ty (0,0) h
theorem av {W:World} {g:Nat} {cs:Array Value} {ty:TypeId} (h:W.heap[g]? = some (.cells cs ty (0,0))) (j:Nat):W.frozen? ⟨g,j,none⟩=false:=frozen_of_row W g j cs ty h
theorem bt {W:World} {g:Nat} {cs:Array Value} {ty:TypeId} (h:W.heap[g]? = some (.cells cs ty (0,0))) (j:Nat) (v:Value):(W.setCell ⟨g,j,none⟩ v).heap[g]? = some (.cells (cs.setIfInBounds j v) ty (0,0)):=by
 simp[World.setCell,Array.getElem?_modify,h]
theorem dv {W:World} {B e s n:Nat} {v:Value} {xs:List Value} (h:W.ownsRow B e s v n xs) :∃A c,v=.slice A n c∧n≤c∧(n=0∨∃g,A=some ⟨g,0,none⟩∧B≤g∧g<W.heap.size∧∀j,j<n*s→W.cell? ⟨g,j,none⟩=xs[j]?):=by
 rcases h.2 with ⟨rfl,h0⟩ | ⟨g,cap,cur,rfl,hB,hg,hn,hc,hs,ht⟩
 ·exact⟨none,0,by rw[h0],by omega,.inl h0⟩
 ·exact⟨_,cap,rfl,hn,.inr ⟨g,rfl,hB,(aF.1 hg).1,fun j hj=>World.ownsRow.cellAt h j hj⟩⟩
def qW (o:Option Nat) (W W':World):Prop:=W.heap.size≤W'.heap.size∧∀k,k<W.heap.size→o≠some k→W'.heap[k]? = W.heap[k]?
theorem qW.set (W:World) (g j:Nat) (v:Value):qW (some g) W (W.setCell ⟨g,j,none⟩ v):=⟨by simp[World.setCell],fun k _ hn=>Below.heap_setCell W ⟨g,j,none⟩ v k fun e=>hn (by rw[e])⟩
theorem qW.row {W W':World} {o:Option Nat} {B e s n:Nat} {v:Value} {xs:List Value} (hb:qW o W W') (h:W.ownsRow B e s v n xs) (hd :∀g,v.ownBlock=some g→o≠some g):W'.ownsRow B e s v n xs:=by
 refine⟨h.1,?_⟩;rcases h.2 with hn | ⟨g,cap,cur,rfl,hB,hg,rest⟩
 ·exact .inl hn
 ·exact .inr ⟨g,cap,cur,rfl,hB,(hb.2 g (aF.1 hg).1 (hd g rfl)).trans hg,rest⟩
theorem eo {W:World} {B B' e e' s s' n n':Nat} {v v':Value} {xs xs':List Value} (h:W.ownsRow B e s v n xs) (h':W.ownsRow B' e' s' v' n' xs') (he:e≠e') :∀g,v.ownBlock=some g→v'.ownBlock≠some g:=fun g hg vO=>by
 obtain⟨c,fz,h1⟩:=Lib.ownsRow_kind h g hg;obtain⟨c',XZ,h2⟩:=Lib.ownsRow_kind h' g vO;rw[h1] at h2;injection h2 with h2;injection h2 with _ h2;exact he h2
theorem qA {α:Type} {f:α→List Value} {s:Nat} (hs :∀a,(f a).length=s) :∀(l:List α) (i j:Nat) (a b:α) (v:Value),l[i]? = some a→j<s→f b=(f a).set j v→(l.set i b).flatMap f=(l.flatMap f).set (i*s+j) v
 | [],i,j,a,b,v,h,_,_=>by simp at h
 | x::l,0,j,a,b,v,h,hj,hb=>by
  injection h with h;subst h;rw[dQ,iG,iG,Eo,jY,hb,List.set_append_left _ _ (by rw[hs];exact hj)]
 | x::l,i+1,j,a,b,v,h,hj,hb=>by
  rw[dR,iG,iG,List.set_append_right _ _ (by rw[hs,Ep];omega),qA hs l i j a b v h hj hb,hs,show(i+1)*s+j-s=i*s+j by rw[Ep];omega]
theorem qW.DE {W W1:World} {o:Option Nat} {ty:TypeId} (h:qW o W W1) (hk :∀k,o=some k→∃c fz,W.heap[k]? = some (.cells c ty fz)):JM ty W W1 :=
 ⟨h.1,fun k c e fz hc he=>(h.2 k (aF.1 hc).1 fun ek=>by
  obtain⟨c',XZ,h1⟩:=hk k ek;rw[hc] at h1;injection h1 with h1;injection h1 with _ h1;exact he h1).trans hc⟩
theorem qW.dd {W W1:World} {B ty s n:Nat} {v:Value} {xs:List Value} (hr:W.ownsRow B ty s v n xs) (h:qW v.ownBlock W W1):JM ty W W1:=h.DE fun k hk=>Lib.ownsRow_kind hr k hk
theorem nM {L:List mB} {f:Nat} {x:mB}:(L.set f x).map (·.1)=(L.map (·.1)).set f x.1:=by rw[List.map_set]
theorem Bh {ops:Array Oper} {o:Oper} {a:Act} {K:Act→World→Prop} {Q:Exit→Act→World→Prop} {E:Prop} (w0 w1:World) (cs:List Value) (hgd:o.guard=none) (sl y:Operand) (tS ty:TypeId) (i0:TypeInfo) (z:Value) (s bytes:Nat)
  (ho:o.op=.call { callee:=.builtin .append,args:=#[sl,y],argTypes:=#[tS,tS]}) (ht:Tryz.prog.underlying tS=some (.slice ty)) (hi:Tryz.prog.info? ty=some i0) (hz:i0.zero=some z) (hsz:i0.size=s) (hby:i0.bytes=bytes) (hzs:z.cells.size=s) (hs0:0<s) (NJ:bytes≤100)
  (B:Nat) (v:Value) (n:Nat) (xs:List Value) (hs:a.eval sl=v) (hown:w0.ownsRow B ty s v n xs) (ef :∀(i:Nat),i<w0.heap.size→w1.heap[i]? = w0.heap[i]?) (g:Nat) (hg:g=w0.heap.size) (hy:a.eval y=.slice (some ⟨g,0,none⟩) 1 1)
  (hcell:w1.heap[g]? = some (.cells cs.toArray ty (0,0))) (Cs:cs.length=s) (h1c :∀u∈cs,u.oneCell'=true) (hlen:n≤1000000) (hB:B≤w0.heap.size) (hle:w0.heap.size≤w1.heap.size) (X6:w1.os=w0.os∧w1.tape=w0.tape∧w1.output=w0.output)
  (h :∀g' c' w',w'.ownsRow B ty s (.slice (some ⟨g',0,none⟩) (n+1) c') (n+1) (xs++cs)→qW v.ownBlock w0 w'→Below B w0 w'→(v.ownBlock=some g'∨w0.heap.size≤g')→K (a.put o.dst (.slice (some ⟨g',0,none⟩) (n+1) c')) w') :
  if Region.wanted o (yielded ops a.tmps)=true then Oper.wp Tryz.prog o a w1 K Q else E:=by
 subst hg;have hown1:w1.ownsRow B ty s v n xs:=qW.row (o:=none) ⟨hle,fun k hk _=>ef k hk⟩ hown (fun _ _ e=>by cases e)
 have hpl :∀j:Nat,(⟨w0.heap.size,0,none⟩:Addr).add j=⟨w0.heap.size,j,none⟩:=fun j=>by unfold Addr.add;split<;>simp_all
 refine step_append_lies (P:=Tryz.prog) w1 hgd sl y tS ho B ty i0 z s bytes ht hi hz hsz hby hzs hs0 v n xs hs hown1 ⟨w0.heap.size,0,none⟩ 1 1 cs hy (by rw[Cs,Es])
  (fun j u hj=>by rw[hpl];simpa[World.cell?,hcell] using hj) h1c (by omega) (by unfold maxLen;omega) (aM (Nat.mul_le_mul_left _ NJ) (by omega)) (by omega) w1.heap.size rfl ?_
 intro g' c' w' r1 r2 r3 _;refine h g' c' w' r1 ⟨aM hle r2.size,fun k hk hn=>(r2.block k (by omega) fun e=>hn e.symm).trans (ef k hk)⟩ ⟨?_,?_,?_,aM hle r2.size,fun k hk=>?_⟩ (r3.imp id fun e=>by omega)
 ·exact r2.os.trans X6.1
 ·exact r2.tape.trans X6.2.1
 ·exact r2.output.trans X6.2.2
 ·refine(r2.block k (by omega) fun e=>?_).trans (ef k (by omega))
  have:=(hown.lt k e.symm).1;omega
theorem X9 {ops:Array Oper} {rest:List Oper} {o:Oper} {a:Act} {Q:Exit→Act→World→Prop} (w:World) (cs:List Value) (hgd:o.guard=none) (sl y:Operand) (tS ty:TypeId) (i0:TypeInfo) (z:Value) (s bytes:Nat)
  (ho:o.op=.call { callee:=.builtin .append,args:=#[sl,y],argTypes:=#[tS,tS]}) (ht:Tryz.prog.underlying tS=some (.slice ty)) (hi:Tryz.prog.info? ty=some i0) (hz:i0.zero=some z) (hsz:i0.size=s) (hby:i0.bytes=bytes) (hzs:z.cells.size=s) (hs0:0<s) (NJ:bytes≤100)
  (B:Nat) (v:Value) (n:Nat) (xs:List Value) (hs:a.eval sl=v) (hown:w.ownsRow B ty s v n xs) (g:Nat) (hg:g=w.heap.size) (hy:a.eval y=.slice (some ⟨g,0,none⟩) 1 1)
  (Cs:cs.length=s) (h1c :∀u∈cs,u.oneCell'=true) (hlen:n≤1000000) (hB:B≤w.heap.size)
  (h :∀g' c' w',w'.ownsRow B ty s (.slice (some ⟨g',0,none⟩) (n+1) c') (n+1) (xs++cs)→qW v.ownBlock w w'→Below B w w'→(v.ownBlock=some g'∨w.heap.size≤g')→wpList Tryz.prog ops Q rest (a.put o.dst (.slice (some ⟨g',0,none⟩) (n+1) c')) w') :
  wpList Tryz.prog ops Q (o::rest) a (w.alloc (.cells cs.toArray ty)):=by
 subst hg;have hcell:=heap_alloc_new w (.cells cs.toArray ty);have hpl :∀j:Nat,(⟨w.heap.size,0,none⟩:Addr).add j=⟨w.heap.size,j,none⟩:=fun j=>by unfold Addr.add;split<;>simp_all
 have CZ:(w.alloc (.cells cs.toArray ty)).heap.size=w.heap.size+1:=an _ _;refine wpList_append_lies (P:=Tryz.prog) _ hgd sl y tS ho B ty i0 z s bytes ht hi hz hsz hby hzs hs0 v n xs hs (hown.alloc _) ⟨w.heap.size,0,none⟩ 1 1 cs hy (by rw[Cs,Es])
  (fun j u hj=>by rw[hpl,cell_of_row _ _ j _ ty (0,0) hcell];simpa using hj) h1c (by omega) (by unfold maxLen;omega) (aM (Nat.mul_le_mul_left _ NJ) (by omega)) (by omega) (w.heap.size+1) CZ ?_
 intro g' c' w' r1 r2 r3 _;have yn:=r2.size;refine h g' c' w' r1 ⟨by omega,fun k hk hn=>(r2.block k (by omega) fun e=>hn e.symm).trans (Below.heap_alloc w _ k hk)⟩ ⟨r2.os,r2.tape,r2.output,by omega,fun k hk=>?_⟩ (r3.imp id fun e=>by omega)
 refine(r2.block k (by omega) fun e=>?_).trans (Below.heap_alloc w _ k (by omega))
 have:=(hown.lt k e.symm).1;omega
theorem xy {α:Type} {f:α→List Value} :∀(l:List α) (i:Nat) (a b:α),l[i]? = some a→f b=f a→(l.set i b).flatMap f=l.flatMap f
 | [],i,a,b,h,_=>by simp at h
 | x::l,0,a,b,h,hb=>by
  injection h with h;subst h;rw[dQ,iG,iG,hb]
 | x::l,i+1,a,b,h,hb=>by rw[dR,iG,iG,xy l i a b h hb]
end Go.Proofs.YteflkdlaoiijbaaGreatDoor
namespace Go.Proofs.YteflkdlaoiijbaaGreatDoor
open Go.RowKit Go.Maps
def vg:Value→Option (DataW Unit)
 | .int .i64 a=>some (.lit (.int .i64 a))
 | .agg c=>match c.toList with
  | [.int .i64 a,.int .i64 b]=>some (.agg [.lit (.int .i64 a),.lit (.int .i64 b)])
  | _=>none
 | _=>none
theorem vh {v:Value} {d:DataW Unit} (h:vg v=some d):(∃a,v=.int .i64 a∧d=.lit (.int .i64 a))∨∃a b,v=.agg #[.int .i64 a,.int .i64 b]∧d=.agg [.lit (.int .i64 a),.lit (.int .i64 b)]:=by
 unfold vg at h;split at h
 ·injection h with h
  exact .inl ⟨_,rfl,h.symm⟩
 ·rename_i c
  split at h
  ·rename_i a b hc
   injection h with h;refine .inr ⟨a,b,?_,h.symm⟩;obtain⟨l⟩:=c;have:l=[.int .i64 a,.int .i64 b]:=hc;rw[this]
  ·cases h
 ·cases h
theorem Bi {u v:Value} {d:DataW Unit} (hu:vg u=some d) (hv:vg v=some d):u=v:=by
 rcases vh hu with ⟨a,rfl,h1⟩ | ⟨a,b,rfl,h1⟩<;>rcases vh hv with ⟨c,rfl,h2⟩ | ⟨c,e,rfl,h2⟩
 ·rw[h1] at h2;injection h2 with h2;injection h2 with _ h2;rw[h2]
 ·rw[h1] at h2;cases h2
 ·rw[h1] at h2;cases h2
 ·rw[h1] at h2
  injection h2 with h2;injection h2 with h2 h3;injection h3 with h3 _;injection h2 with h2;injection h2 with _ h2;injection h3 with h3;injection h3 with _ h3;rw[h2,h3]
def NK (v:Value):Option (DataW Unit×List MemPlace):=(vg v).map fun d=>(d,[])
theorem IK {v:Value} {d:DataW Unit} {ps:List MemPlace} (h:NK v=some (d,ps)):vg v=some d:=by
 unfold NK at h;cases e:vg v with
 | none=>rw[e] at h;cases h
 | some x=>rw[e] at h;injection h with h;injection h with h _;rw[h]
def dP (P:Program) (k:TypeId) (W:World) (b n:Nat) (f:ByteArray→Option Value):Prop :=
 ∃D:DataW Unit,W.ownsMap P k NK b n D∧∀s:ByteArray,s.size≤maxLen→match f s with
  | some v=>(vg v).isSome=true∧∀z,D.atKey (.string s.data.toList) z=(vg v).getD z
  | none=>∀z,D.atKey (.string s.data.toList) z=z
section
variable {P:Program} {k:TypeId} {W:World} {b n:Nat} {f:ByteArray→Option Value}
theorem dP.lt (h:dP P k W b n f):b<W.heap.size:=by obtain⟨D,h1,_⟩:=h;exact h1.lt
theorem dP.made (W:World) (P:Program) (k:TypeId):dP P k (W.alloc (.map #[] 0)) W.heap.size 0 (fun _=>none) :=
 ⟨_,World.ownsMap_made _ _ _ _,fun s _ z=>by simp[DataW.atKey]⟩
theorem dP.same {W':World} (h:dP P k W b n f) (hb:W'.heap[b]? = W.heap[b]?):dP P k W' b n f:=by
 obtain⟨D,⟨es,clock,h1,h2,h3,h4⟩,h5⟩:=h;exact⟨D,⟨es,clock,hb.trans h1,h2,h3,h4⟩,h5⟩
theorem dP.ext {g:ByteArray→Option Value} (h:dP P k W b n f) (he :∀s,f s=g s):dP P k W b n g:=by
 have:f=g:=funext he;rwa[←this]
theorem dP.mono {m:Nat} (h:dP P k W b n f) (he:n≤m):dP P k W b m f:=by
 obtain⟨D,h1,h2⟩:=h;exact⟨D,h1.mono he,h2⟩
theorem dP.isMap (h:dP P k W b n f) :∃es c,W.heap[b]? = some (.map es c):=by
 obtain⟨D,⟨es,clock,h1,_⟩,_⟩:=h;exact⟨es,clock,h1⟩
theorem dP.look {t e:TypeId} (h:dP P k W b n f) (hk:P.underlying k=some .string) (ht:P.underlying t=some (.map k e)) {z:Value} (hz:(zeroValue e).run P W=.ok z W) (hze:(vg z).isSome=true) (s:ByteArray) (hs:s.size≤maxLen) :
  (Instr.lookup t (.map (some b)) (.string s) true).run P W=.ok (.tuple #[(f s).getD z,.bool (f s).isSome]) W:=by
 obtain⟨D,h1,h2⟩:=h;obtain⟨zd,hzd⟩:=zB.1 hze;obtain⟨v,ps,hr,hv⟩:=h1.look_ok (string_keyed hk) ht hz (zd:=zd) (zp:=[]) (by unfold NK;rw[hzd];rfl) (Go.WideMaps.keyOf_string_mk hk hs)
 have hv:=IK hv;have h3:=h2 s hs;cases e1:f s with
 | none =>
  rw[e1] at h3;rw[h3 zd] at hv;rw[hr,has_false_of_atKey h3,Bi hv hzd];rfl
 | some u =>
  rw[e1] at h3;obtain⟨ud,hud⟩:=zB.1 h3.1;have h4 :∀z,D.atKey (.string s.data.toList) z=ud:=fun z=>by rw[h3.2 z,hud];rfl
  rw[h4 zd] at hv;rw[hr,has_true_of_atKey h4,Bi hv hud];rfl
theorem NL {a b:ByteArray} (h:a.data.toList=b.data.toList):a=b:=by
 cases a;cases b;exact aB ByteArray.mk (Array.toList_inj.1 h)
theorem dP.put {t e:TypeId} (h:dP P k W b n f) (hk:P.underlying k=some .string) (ht:P.underlying t=some (.map k e)) (hn:n<maxLen) (s:ByteArray) (hs:s.size≤maxLen) (v:Value) (hv:(vg v).isSome=true) :
  ∃W',(Instr.mapUpdate t (.map (some b)) (.string s) v).run P W=.ok () W'∧dP P k W' b (n+1) (fun x=>if x=s then some v else f x)∧W.grownBy W' (some b):=by
 obtain⟨D,h1,h2⟩:=h;obtain⟨d,hd⟩:=zB.1 hv;obtain⟨W',hr,h3,h4⟩:=h1.update (string_keyed hk) ht hn (d:=d) (ps:=[]) (Go.WideMaps.keyOf_string_mk hk hs) (by unfold NK;rw[hd];rfl)
 refine⟨W',hr,⟨_,h3,fun x hx=>?_⟩,h4⟩
 have hD:IsMap D:=h1.isMap;by_cases e:x=s
 ·subst e
  dsimp only
  rw[al rfl];refine⟨hv,fun z=>?_⟩
  rw[atKey_put_same hD (by unfold WideAt.IsKeyLit;trivial),hd]
  rfl
 ·dsimp only
  rw[af e];have hne:(Lit.string x.data.toList) ≠ .string s.data.toList:=fun e1=>e (NL (by injection e1))
  have h5:=h2 x hx;cases e2:f x with
  | none =>
   rw[e2] at h5;exact fun z=>by rw[atKey_put_other hne];exact h5 z
  | some u =>
   rw[e2] at h5;exact⟨h5.1,fun z=>by rw[atKey_put_other hne];exact h5.2 z⟩
end
end Go.Proofs.YteflkdlaoiijbaaGreatDoor
