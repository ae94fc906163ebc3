/- Parts of the proof. -/
import Derived.Lib.OthersKept
import Derived.Lib.OwnKind
import Derived.Deep.RegionLaw
import Derived.Maps.Own
import Derived.Maps.OwnSet
import Derived.StringKeys
import Derived.Test.YteflkdlaoiijbaaGreatDoorN08
set_option maxHeartbeats 16000000
set_option maxRecDepth 20000
namespace Go.Proofs.YteflkdlaoiijbaaGreatDoor
mutual
def Lt.gR:Lt→List Nat
 | .mk i _ ks=>i::Lt.bs ks
def Lt.bs:List Lt→List Nat
 | []=>[]
 | k::ks=>Lt.gR k++Lt.bs ks
end
mutual
def Lt.All (Q:Nat→Nd→Prop):Lt→Prop
 | .mk i h ks=>Q i h∧Lt.dX Q ks
def Lt.dX (Q:Nat→Nd→Prop):List Lt→Prop
 | []=>True
 | k::ks=>Lt.All Q k∧Lt.dX Q ks
end
mutual
theorem Lt.All.imp {Q Q':Nat→Nd→Prop} :∀(t:Lt),(∀i∈t.gR,∀h,Q i h→Q' i h)→Lt.All Q t→Lt.All Q' t
 | .mk i h ks,hi,ha=>by
  unfold Lt.All at ha ⊢;exact⟨hi i (by rw[Lt.gR];exact bU ..) h ha.1,Lt.dX.imp ks (fun j hj=>hi j (by rw[Lt.gR];exact bY _ hj)) ha.2⟩
theorem Lt.dX.imp {Q Q':Nat→Nd→Prop} :∀(ks:List Lt),(∀i∈Lt.bs ks,∀h,Q i h→Q' i h)→Lt.dX Q ks→Lt.dX Q' ks
 | [],_,_=>by unfold Lt.dX;trivial
 | k::ks,hi,ha=>by
  unfold Lt.dX at ha ⊢;exact⟨Lt.All.imp k (fun j hj=>hi j (by rw[Lt.bs];exact fV _ hj)) ha.1,Lt.dX.imp ks (fun j hj=>hi j (by rw[Lt.bs];exact jb _ hj)) ha.2⟩
end
def Kok (h:Nd) (ks:List Lt):Prop:=((h.kind=6∨h.kind=7∨h.kind=30∨h.kind=31)→ks=[])∧(h.kind=24→∃b t,ks=[b,t]∧b.hd.kind=18)
mutual
def Lt.Wf:Lt→Prop
 | .mk _ h ks=>Kok h ks∧Lt.yQ ks
def Lt.yQ:List Lt→Prop
 | []=>True
 | k::ks=>Lt.Wf k∧Lt.yQ ks
end
theorem yR (t:Lt):t.loc∈t.gR:=by cases t with|mk i h ks=>rw[Lt.gR];exact bU ..
theorem qq :∀{ks:List Lt} {t:Lt},t∈ks→t.loc∈Lt.bs ks
 | k::ks,t,h=>by
  rw[Lt.bs];rcases bn.1 h with rfl|h
  ·exact fV _ (yR _)
  ·exact jb _ (qq h)
def fw.core (x:fw):fw:={ x with at_:=0}
def aG.fr (st:aG):List fw:=st.frames.map fw.core
theorem Vo (st:aG) (n:Nat):(st.at n).fr=st.fr:=by
 unfold aG.at aG.fr;cases st.frames with
 | nil=>rfl
 | cons x l=>rfl
def IS (F:List cI) (f:Nat) (n:jr):Prop:=NG F n.fn f∧∃y v,F[n.fn]? = some y∧y.vars[n.i]? = some v∧v.name=n.s
theorem IS.ext {F F':List cI} (h:uQ F F') {f:Nat} {n:jr} (k:IS F f n):IS F' f n:=by
 obtain⟨a,y,v,h1,h2,h3⟩:=k;obtain⟨y',e1,l⟩:=h.2 _ _ h1;obtain⟨v',e2,e3,_⟩:=l.vars _ _ h2;exact⟨a.ext h,y',v',e1,e2,e3.trans h3⟩
structure Cx (f:Nat) (st:aG):Prop where
 ok:Cr st.fns
 lt:f<st.fns.length
 names :∀n∈st.names,IS st.fns f n
def ZZ (st:aG) (s:ByteArray) (j:Nat):Prop:=∃f:Nat,st.of j=(f:Int)∧(st.uses j=(1,0)∨(∃k:Nat,st.uses j=(2,(k:Int))∧∃y v,st.fns[f]? = some y∧y.vars[k]? = some v∧v.name=s)∨∃k:Nat,st.uses j=(3,(k:Int))∧sH st.fns s f k)
def Yk (V:List Nat) (fr:List fw) (st:aG) (j:Nat):Prop :=
 ∃f t:Nat,st.of j=(f:Int)∧st.uses j=(4,(t:Int))∧((t∈V∧st.of t=(f:Int))∨∃x∈fr,x.fn=f∧((x.loop=true∧t=x.node)∨(x.loop=false∧t∈x.kids.map Lt.loc)))
def sI (V:List Nat) (fr:List fw) (st:aG) (i:Nat) (h:Nd):Prop:=(h.kind=7→ZZ st h.s i)∧(h.kind=30∨h.kind=31→Yk V fr st i)
structure kB (L:List Nat) (f:Nat) (st st':aG):Prop where
 ext:uQ st.fns st'.fns
 ok:Cr st'.fns
 off :∀j,j∉L→st'.uses j=st.uses j∧st'.of j=st.of j
 names :∃a,st'.names=a++st.names∧∀n∈a,IS st'.fns f n
 new :∀(g:Nat) x,st.fns.length≤g→st'.fns[g]? = some x→x.node∈L∧st'.of x.node=x.parent
theorem kB.cx {L:List Nat} {f:Nat} {st st':aG} (h:kB L f st st') (c:Cx f st):Cx f st' :=
 ⟨h.ok,cy c.lt h.ext.1,fun n hn=>by
  obtain⟨a,e,ha⟩:=h.names;rw[e] at hn;rcases dd.1 hn with hn|hn
  ·exact ha n hn
  ·exact(c.names n hn).ext h.ext⟩
theorem kB.refl {f:Nat} {st:aG} (c:Cx f st):kB [] f st st:=⟨.refl _,c.ok,fun _ _=>⟨rfl,rfl⟩,⟨[],rfl,fun n hn=>by simp at hn⟩,fun g x h1 h2=>by have:=(aL.1 h2).1;omega⟩
theorem kB.more {L L':List Nat} {f:Nat} {st st':aG} (h:kB L f st st') (hL :∀j∈L,j∈L'):kB L' f st st' :=
 ⟨h.ext,h.ok,fun j hj=>h.off j fun e=>hj (hL j e),h.names,fun g x h1 h2=>⟨hL _ (h.new g x h1 h2).1,(h.new g x h1 h2).2⟩⟩
theorem kB.trans {A B:List Nat} {f:Nat} {a b c:aG} (h:kB A f a b) (k:kB B f b c) (hd :∀j∈A,j∉B):kB (A++B) f a c :=
 ⟨h.ext.trans k.ext,k.ok,fun j hj=>by
  rw[dd,not_or] at hj;exact⟨(k.off j hj.2).1.trans (h.off j hj.1).1,(k.off j hj.2).2.trans (h.off j hj.1).2⟩,by
  obtain⟨x,e1,h1⟩:=h.names;obtain⟨y,e2,h2⟩:=k.names;refine⟨y++x,by rw[e2,e1,fe],fun n hn=>?_⟩
  rcases dd.1 hn with hn|hn
  ·exact h2 n hn
  ·exact(h1 n hn).ext k.ext,fun g x h1 h2=>by
  by_cases hg:b.fns.length≤g
  ·exact⟨jb _ (k.new g x hg h2).1,(k.new g x hg h2).2⟩
  ·obtain⟨y,hy⟩ :∃y,b.fns[g]? = some y:=⟨_,bE (by omega)⟩
   obtain⟨x',sQ,l⟩:=k.ext.2 g y hy;rw[h2] at sQ;injection sQ with sQ;subst sQ;obtain⟨m1,m2⟩:=h.new g y h1 hy;rw[←l.node] at m1 m2;exact⟨fV _ m1,by rw[(k.off _ (hd _ m1)).2,m2,l.parent]⟩⟩
theorem ZZ.later {B:List Nat} {f:Nat} {b c:aG} {s:ByteArray} {j:Nat} (h:ZZ b s j) (k:kB B f b c) (hj:j∉B):ZZ c s j:=by
 obtain⟨g,h1,h2⟩:=h;obtain⟨e1,e2⟩:=k.off j hj;refine⟨g,by rw[e2];exact h1,?_⟩
 rw[e1];rcases h2 with h2 | ⟨n,h2,y,v,h3,h4,h5⟩ | ⟨n,h2,h3⟩
 ·exact .inl h2
 ·obtain⟨y',e3,l⟩:=k.ext.2 _ _ h3
  obtain⟨v',e4,e5,_⟩:=l.vars _ _ h4;exact .inr (.inl ⟨n,h2,y',v',e3,e4,e5.trans h5⟩)
 ·exact .inr (.inr ⟨n,h2,h3.ext k.ext⟩)
theorem Yk.later {B V:List Nat} {fr:List fw} {f:Nat} {b c:aG} {j:Nat} (h:Yk V fr b j) (k:kB B f b c) (hj:j∉B) (hV :∀t∈V,t∉B):Yk V fr c j:=by
 obtain⟨g,t,h1,h2,h3⟩:=h;obtain⟨e1,e2⟩:=k.off j hj;refine⟨g,t,by rw[e2];exact h1,by rw[e1];exact h2,?_⟩
 rcases h3 with ⟨h3,h4⟩|h3
 ·exact .inl ⟨h3,by rw[(k.off t (hV t h3)).2];exact h4⟩
 ·exact .inr h3
theorem sI.later {B V:List Nat} {fr:List fw} {f:Nat} {b c:aG} {j:Nat} {h:Nd} (q:sI V fr b j h) (k:kB B f b c) (hj:j∉B) (hV :∀t∈V,t∉B):sI V fr c j h :=
 ⟨fun e=>(q.1 e).later k hj,fun e=>(q.2 e).later k hj hV⟩
theorem sI.more {V V':List Nat} {fr:List fw} {b:aG} {j:Nat} {h:Nd} (q:sI V fr b j h) (hV :∀t∈V,t∈V'):sI V' fr b j h :=
 ⟨q.1,fun e=>by
  obtain⟨g,t,h1,h2,h3⟩:=q.2 e;exact⟨g,t,h1,h2,h3.imp (fun h=>⟨hV t h.1,h.2⟩) id⟩⟩
theorem sI.left {V:List Nat} {x:fw} {fr:List fw} {b:aG} {j:Nat} {h:Nd} (q:sI V (x::fr) b j h) (hx :∀t,((x.loop=true∧t=x.node)∨(x.loop=false∧t∈x.kids.map Lt.loc))→t∈V∧b.of t=(x.fn:Int)):sI V fr b j h :=
 ⟨q.1,fun e=>by
  obtain⟨g,t,h1,h2,h3⟩:=q.2 e;refine⟨g,t,h1,h2,?_⟩;rcases h3 with h3 | ⟨y,hy,h4,h5⟩
  ·exact .inl h3
  ·rcases bn.1 hy with rfl|hy
   ·obtain⟨k1,k2⟩:=hx t h5
    exact .inl ⟨k1,by rw[k2,h4]⟩
   ·exact .inr ⟨y,hy,h4,h5⟩⟩
theorem sI.same {V:List Nat} {fr:List fw} {b c:aG} {j:Nat} {h:Nd} (q:sI V fr b j h) (e1:c.fns=b.fns) (e2:c.uses=b.uses) (e3:c.of=b.of):sI V fr c j h:=by
 unfold sI ZZ Yk at *;rw[e1,e2,e3];exact q
theorem kB.back {L:List Nat} {f:Nat} {st st':aG} (h:kB L f st st'):kB L f st (st'.back st) :=
 ⟨h.ext,h.ok,h.off,⟨[],rfl,fun n hn=>by simp at hn⟩,h.new⟩
theorem Fl {f:Nat} {st:aG} (c:Cx f st) (i g:Nat):kB [i] f st (st.setOf i g) :=
 ⟨.refl _,c.ok,fun j hj=>⟨rfl,af (by simpa using hj)⟩,⟨[],rfl,fun n hn=>by simp at hn⟩,fun g x h1 h2=>by have h3:g<st.fns.length:=(aL.1 h2).1;omega⟩
theorem tw {f:Nat} {st:aG} (c:Cx f st) (i:Nat) (u:Int×Int):kB [i] f st (st.dj i u) :=
 ⟨.refl _,c.ok,fun j hj=>⟨af (by simpa using hj),rfl⟩,⟨[],rfl,fun n hn=>by simp at hn⟩,fun g x h1 h2=>by have h3:g<st.fns.length:=(aL.1 h2).1;omega⟩
theorem uR (st:aG) (i:Nat) (u:Int×Int):(st.dj i u).uses i=u:=ak rfl
theorem NH (st:aG) (i f:Nat):(st.setOf i f).of i=(f:Int):=ak rfl
def kf (x:cI) (node:Nat) (l:List ByteArray):cI:={ x with vars:=x.vars++l.map fun s=>⟨s,node,false⟩}
theorem IT (x:cI) (node:Nat):kf x node []=x:=by unfold kf;simp
theorem Bb (x:cI) (node:Nat) (l:List ByteArray):qp x (kf x node l) :=
 ⟨rfl,rfl,rfl,rfl,fun j v h=>⟨v,by unfold kf;rw[kF (aL.1 h).1];exact h,rfl,rfl,id⟩,fun _ _ h=>h⟩
theorem NI {F:List cI} {f:Nat} {x:cI} (h:F[f]? = some x):F.set f x=F:=by
 refine Km fun g=>?_
 by_cases hg:f=g
 ·subst hg
  rw[dQ (aL.1 h).1,h]
 ·rw[fC hg]
theorem xq {node f:Nat} {line:Int} :∀(l:List ByteArray) {st st':aG} {x:cI},dJ node f line l st=.ok st'→st.fns[f]? = some x →
  st'.fns=st.fns.set f (kf x node l)∧st'.uses=st.uses∧st'.of=st.of∧st'.frames=st.frames∧x.vars.length+l.length≤max 200 x.vars.length ∧
  ∃a,st'.names=a++st.names∧∀n∈a,n.fn=f∧∃v,(kf x node l).vars[n.i]? = some v∧v.name=n.s:=by
 intro l;induction l with
 | nil =>
  intro st st' x h hx;rw[dJ] at h;injection h with h;subst h;exact⟨by rw[IT,NI hx],rfl,rfl,rfl,by simp;omega,[],rfl,fun n hn=>by simp at hn⟩
 | cons s l ih =>
  intro st st' x h hx;rw[dJ] at h;have e:st.fn f=x:=gE hx;rw[e] at h;split at h
  ·cases h
  ·rename_i hlt
   have hf:=(aL.1 hx).1;have sQ:(st.oX f { x with vars:=x.vars++[⟨s,node,false⟩]}).fns[f]? = some { x with vars:=x.vars++[⟨s,node,false⟩]}:=dQ hf;obtain⟨h1,h2,h3,h4,h5,a,h6,h7⟩:=ih h sQ;have e2:kf { x with vars:=x.vars++[⟨s,node,false⟩]} node l=kf x node (s::l):=by unfold kf;simp
   refine⟨?_,h2,h3,h4,?_,a++[⟨s,f,x.vars.length⟩],by rw[h6];simp,fun n hn=>?_⟩
   ·rw[h1,e2]
    show(st.fns.set f _).set f _=_
    rw[List.set_set]
   ·simp only[bV,List.length_cons,List.length_nil] at h5 ⊢
    omega
   ·rw[e2] at h7
    rcases dd.1 hn with hn|hn
    ·exact h7 n hn
    ·rw[bP] at hn
     subst hn;refine⟨rfl,⟨s,node,false⟩,?_,rfl⟩;unfold kf;simp
theorem nK {node f:Nat} {line:Int} {l:List ByteArray} {st st':aG} (h:bw node f line l st=.ok st') (c:Cx f st):kB [node] f st st'∧st'.frames=st.frames∧st'.of=st.of:=by
 obtain⟨x,hx⟩ :∃x,st.fns[f]? = some x:=⟨_,bE c.lt⟩;unfold bw at h;obtain⟨h1,h2,h3,h4,_,a,h6,h7⟩:=xq l h (x:=x) hx;have h1:st'.fns=st.fns.set f (kf x node l):=h1;refine⟨⟨?_,?_,fun j hj=>⟨?_,congrFun h3 j⟩,⟨a,h6,fun n hn=>?_⟩,fun g y k1 k2=>?_⟩,h4,h3⟩
 ·rw[h1];exact .set hx (Bb x node l)
 ·rw[h1];exact c.ok.set hx (Bb x node l)
 ·rw[h2];exact af (by simpa using hj)
 ·obtain⟨e,v,k1,k2⟩:=h7 n hn
  rw[h1];unfold IS;exact⟨by rw[e];exact .same,_,v,by rw[e,dQ c.lt],k1,k2⟩
 ·have:=(aL.1 k2).1
  rw[h1,mn] at this;omega
theorem xt {i f:Nat} {h:Nd} {st st':aG} (e:bw i st.fns.length h.line h.names (jK i f h st)=.ok st') (c:Cx f st) :
  Cx st.fns.length st'∧uQ st.fns st'.fns∧st'.fns.length=st.fns.length+1∧st'.of=st.of∧(∀j,j≠i→st'.uses j=st.uses j)∧st'.frames=st.frames∧(∃x,st'.fns[st.fns.length]? = some x∧x.node=i∧x.parent=(f:Int)):=by
 unfold bw at e;have hx:((jK i f h st).dj i (2,(((jK i f h st).fn st.fns.length).vars.length:Int))).fns[st.fns.length]? = some ⟨i,(f:Int),h.names.length,decide (h.num=1),[],[]⟩:=by
  show(st.fns++[_])[st.fns.length]? = _
  simp
 obtain⟨h1,h2,h3,h4,_,a,h6,h7⟩:=xq _ e hx;have hF:st'.fns=st.fns++[kf ⟨i,(f:Int),h.names.length,decide (h.num=1),[],[]⟩ i h.names]:=by
  rw[h1];show(st.fns++[_]).set st.fns.length _=_
  rw[List.set_append_right _ _ (ah _)];simp
 have hE:uQ st.fns st'.fns:=by rw[hF];exact .app _ _
 have hl:st'.fns[st.fns.length]? = some (kf ⟨i,(f:Int),h.names.length,decide (h.num=1),[],[]⟩ i h.names):=by rw[hF];simp
 refine⟨⟨⟨by rw[hF];simp,fun g y hy=>?_⟩,by rw[hF];simp,fun n hn=>?_⟩,hE,by rw[hF];simp,h3,fun j hj=>by rw[h2];exact af hj,h4,_,hl,rfl,rfl⟩
 ·by_cases hg:g<st.fns.length
  ·have hy':st.fns[g]? = some y:=by rw[hF,kF hg] at hy;exact hy
   obtain⟨p,q⟩:=c.ok.each _ _ hy';exact⟨p,q⟩
  ·have hlt:=(aL.1 hy).1
   rw[hF] at hlt;simp only[bV,List.length_cons,List.length_nil] at hlt;have vI:g=st.fns.length:=by omega
   subst vI;rw[hl] at hy;injection hy with hy;subst hy;exact⟨.inr ⟨f,rfl,c.lt⟩,by unfold kf;simp⟩
 ·rw[h6] at hn
  rcases dd.1 hn with hn|hn
  ·obtain⟨k1,v,k2,k3⟩:=h7 n hn
   exact⟨by rw[k1];exact .same,_,v,by rw[k1];exact hl,k2,k3⟩
  ·obtain⟨k1,k2⟩:=(c.names n hn).ext hE
   exact⟨.up hl rfl k1,k2⟩
theorem qt (x:cI) (i:Nat):qp x (cP x i):=by
 unfold cP;split
 ·rename_i v hv
  refine⟨rfl,rfl,rfl,rfl,fun j w hw=>?_,fun _ _ h=>h⟩
  by_cases hj:j=i
  ·subst hj
   rw[hv] at hw;injection hw with hw;subst hw;exact⟨_,dQ (aL.1 hv).1,rfl,rfl,fun _=>rfl⟩
  ·exact⟨w,by rw[fC (fun e=>hj e.symm)];exact hw,rfl,rfl,id⟩
 ·exact .refl x
theorem Yl {i f:Nat} {s:ByteArray} {line:Int} {st st':aG} (h:lY i f s line st=.ok st') (c:Cx f st) (hi:st.of i=(f:Int)):kB [i] f st st'∧st'.frames=st.frames∧st'.of=st.of∧ZZ st' s i:=by
 unfold lY at h;split at h
 ·injection h with h
  subst h;exact⟨tw c _ _,rfl,rfl,f,hi,.inl (uR _ _ _)⟩
 ·rename_i n hn
  have hs:n.s=s:=iG (by simpa using List.find?_some hn)
  obtain⟨ha,y,v,hy,hv,Ti⟩:=c.names n (J6 hn);split at h
  ·rename_i hf
   injection h with h;subst h;refine⟨tw c _ _,rfl,rfl,f,hi,.inr (.inl ⟨n.i,uR _ _ _,y,v,?_,hv,Ti.trans hs⟩)⟩;rw[←hf];exact hy
  ·rename_i hf
   split at h
   ·cases h
   ·rename_i F k hk
    injection h with h;subst h;have e0:st.fn n.fn=y:=gE hy;rw[e0] at hk;have hyl:=(aL.1 hy).1;have hE0:uQ st.fns (st.fns.set n.fn (cP y n.i)):=.set hy (qt y n.i);obtain⟨e1,e2,e3,hl⟩:=Fk _ hk (c.ok.set hy (qt y n.i)) (ha.ext hE0) hf (by rw[mn];exact c.lt) ⟨cP y n.i,{ v with cap:=true},dQ hyl,by
     unfold cP;rw[hv];exact dQ (aL.1 hv).1,Ti,rfl⟩
    refine⟨⟨hE0.trans e1,e2,fun j hj=>⟨af (by simpa using hj),rfl⟩,⟨[],rfl,fun n hn=>by simp at hn⟩,fun g x k1 k2=>?_⟩,rfl,rfl,f,hi,.inr (.inr ⟨k,uR _ _ _,by rw[←hs];exact hl⟩)⟩
    have:=(aL.1 k2).1;have e4:F.length=st.fns.length:=by rw[e3,mn]
    have e5:(({ st with fns:=F}:aG).dj i (3,(k:Int))).fns=F:=rfl;rw[e5] at this;omega
theorem NJ {i f:Nat} {line:Int} {st st':aG} (h:dT i f line st=.ok st') (c:Cx f st) (hi:st.of i=(f:Int)):kB [i] f st st'∧st'.frames=st.frames∧st'.of=st.of∧∀V,Yk V st.fr st' i:=by
 unfold dT at h;split at h
 ·cases h
 ·rename_i x hx
  injection h with h;subst h;have h1:=List.find?_some hx;simp only[cX,iE] at h1;exact⟨tw c _ _,rfl,rfl,fun V=>⟨f,x.node,hi,uR _ _ _,.inr ⟨x.core,jV (J6 hx),h1.2,.inl ⟨h1.1,rfl⟩⟩⟩⟩
theorem Tj {i f:Nat} {s:ByteArray} {line:Int} {st st':aG} (c:Cx f st) (hi:st.of i=(f:Int)) :∀(l:List fw),db i f s line st l=.ok st'→(∀x∈l,x∈st.frames)→kB [i] f st st'∧st'.frames=st.frames∧st'.of=st.of∧∀V,Yk V st.fr st' i:=by
 intro l;induction l with
 | nil=>intro h;cases h
 | cons x l ih =>
  intro h hl;rw[db] at h;split at h
  ·exact ih h fun y hy=>hl y (bY _ hy)
  ·rename_i hc
   rw[not_or,Decidable.not_not] at hc;split at h
   ·exact ih h fun y hy=>hl y (bY _ hy)
   ·rename_i j hj
    split at h
    ·cases h
    ·injection h with h
     subst h;obtain⟨hlt,he,_⟩:=zz.1 hj;refine⟨tw c _ _,rfl,rfl,fun V=>⟨f,_,hi,uR _ _ _,.inr ⟨x.core,jV (hl x (bU ..)),hc.2,(.inr ⟨show x.loop=false by simpa using hc.1,?_⟩)⟩⟩⟩
     have e:x.kids.getD j (.mk 0 ⟨0,0,0,0,⟨#[]⟩,[],[]⟩ [])=x.kids[j]:=by rw[jU,bE hlt];rfl
     rw[e];exact jV (Ko hlt)
theorem kB.uS {A B:List Nat} {f:Nat} {a b c:aG} (h:kB A f a b) (k:kB B f b c) (e:c.of=b.of):kB (A++B) f a c :=
 ⟨h.ext.trans k.ext,k.ok,fun j hj=>by
  rw[dd,not_or] at hj;exact⟨(k.off j hj.2).1.trans (h.off j hj.1).1,(k.off j hj.2).2.trans (h.off j hj.1).2⟩,by
  obtain⟨x,e1,h1⟩:=h.names;obtain⟨y,e2,h2⟩:=k.names;refine⟨y++x,by rw[e2,e1,fe],fun n hn=>?_⟩
  rcases dd.1 hn with hn|hn
  ·exact h2 n hn
  ·exact(h1 n hn).ext k.ext,fun g x h1 h2=>by
  by_cases hg:b.fns.length≤g
  ·exact⟨jb _ (k.new g x hg h2).1,(k.new g x hg h2).2⟩
  ·obtain⟨y,hy⟩ :∃y,b.fns[g]? = some y:=⟨_,bE (by omega)⟩
   obtain⟨x',sQ,l⟩:=k.ext.2 g y hy;rw[h2] at sQ;injection sQ with sQ;subst sQ;obtain⟨m1,m2⟩:=h.new g y h1 hy;rw[←l.node] at m1 m2;exact⟨fV _ m1,by rw[e,m2,l.parent]⟩⟩
theorem kB.Ym {i:Nat} {L:List Nat} {f:Nat} {a b c:aG} (h:kB [i] f a b) (k:kB (i::L) f b c) (e:b.of i=(f:Int)) (e':c.of i=(f:Int)):kB (i::L) f a c :=
 ⟨h.ext.trans k.ext,k.ok,fun j hj=>by
  have hj':=hj;rw[bn,not_or] at hj';have h1:=h.off j (by simpa using hj'.1)
  exact⟨(k.off j hj).1.trans h1.1,(k.off j hj).2.trans h1.2⟩,by
  obtain⟨x,e1,h1⟩:=h.names;obtain⟨y,e2,h2⟩:=k.names;refine⟨y++x,by rw[e2,e1,fe],fun n hn=>?_⟩
  rcases dd.1 hn with hn|hn
  ·exact h2 n hn
  ·exact(h1 n hn).ext k.ext,fun g x h1 h2=>by
  by_cases hg:b.fns.length≤g
  ·exact k.new g x hg h2
  ·obtain⟨y,hy⟩ :∃y,b.fns[g]? = some y:=⟨_,bE (by omega)⟩
   obtain⟨x',sQ,l⟩:=k.ext.2 g y hy;rw[h2] at sQ;injection sQ with sQ;subst sQ;obtain⟨m1,m2⟩:=h.new g y h1 hy;rw[bP] at m1;rw[l.node,m1];rw[m1,e] at m2;exact⟨bU ..,by rw[e',m2,l.parent]⟩⟩
theorem kB.rE {L:List Nat} {f:Nat} {a b:aG} {fr:List fw} (h:kB L f { a with frames:=fr} b):kB L f a b:=⟨h.ext,h.ok,h.off,h.names,h.new⟩
theorem Cx.Bc {f:Nat} {a:aG} (fr:List fw) (h:Cx f a):Cx f { a with frames:=fr}:=⟨h.ok,h.lt,h.names⟩
theorem kB.at_ {L:List Nat} {f n:Nat} {a b:aG} (h:kB L f (a.at n) b):kB L f a b:=⟨h.ext,h.ok,h.off,h.names,h.new⟩
theorem Cx.at_ {f:Nat} {a:aG} (n:Nat) (h:Cx f a):Cx f (a.at n):=⟨h.ok,h.lt,h.names⟩
theorem quiet {V:List Nat} {fr:List fw} {st:aG} {i:Nat} {h:Nd} (h7:h.kind≠7) (Fm:h.kind≠30) (Fo:h.kind≠31):sI V fr st i h:=⟨fun e=>absurd e h7,fun e=>e.elim (fun e=>absurd e Fm) fun e=>absurd e Fo⟩
theorem uT {α β:Type} {x:Rs α} {g:α→β} {y:β} (h:x.map g=.ok y) :∃a,x=.ok a∧y=g a:=by
 cases x with
 | error e=>cases h
 | ok a=>injection h with h;exact⟨a,rfl,h.symm⟩
theorem iA {α β:Type} {x:Rs α} {g:α→Rs β} {y:β} (h:x.bind g=.ok y) :∃a,x=.ok a∧g a=.ok y:=by
 cases x with
 | error e=>cases h
 | ok a=>exact⟨a,rfl,h⟩
theorem Bd {i f:Nat} {rep:Bool} {ks:List Lt} {st st':aG} (h:gX i f rep ks st=.ok st'):st'={ st with frames:=⟨f,i,0,false,rep,ks⟩::st.frames}:=by
 unfold gX at h;split at h
 ·cases h
 ·injection h with h
  exact h.symm
mutual
theorem kY :∀(t:Lt) {f:Nat} {mu st':aG},bg t f mu=.ok st'→t.gR.Nodup→Cx f mu→t.Wf →
  kB t.gR f mu st'∧st'.frames=mu.frames∧st'.of t.loc=(f:Int)∧Lt.All (sI t.gR mu.fr st') t
 | .mk i h ks,f,mu,st',hr,hn,c0,hw=>by
  rw[Lt.gR,ml] at hn;obtain⟨tx,Cz⟩:=hn;unfold Lt.Wf at hw;obtain⟨⟨hk0,ac5⟩,Vp⟩:=hw;have S1:=Fl c0 i f;have c:=S1.cx c0;have hi:(mu.setOf i f).of i=(f:Int):=NH _ _ _;have oD:(mu.setOf i f).fr=mu.fr:=rfl;have Fp:(mu.setOf i f).frames=mu.frames:=rfl;have Qs:(mu.setOf i f).names=mu.names:=rfl;have hfn:(mu.setOf i f).fns=mu.fns:=rfl;rw[Lt.gR];unfold Lt.All;show _∧_∧st'.of i=(f:Int)∧_
  unfold bg at hr;generalize mu.setOf i f=st at *;rw[←oD];have hd :∀j∈[i],j∉Lt.bs ks:=fun j hj=>by rw[bP] at hj;rw[hj];exact tx
  have up :∀{fr:List fw} {s:aG},Lt.dX (sI (Lt.bs ks) fr s) ks→Lt.dX (sI (i::Lt.bs ks) fr s) ks:=fun ha=>Lt.dX.imp ks (fun j _ h q=>q.more fun t ht=>bY _ ht) ha
  by_cases h6:h.kind=6
  ·rw[ak h6] at hr
   split at hr
   ·injection hr with hr
    subst hr;have:=hk0 (.inl h6);subst this;exact⟨by simpa[Lt.bs] using S1,Fp,hi,quiet (by omega) (by omega) (by omega),by unfold Lt.dX;trivial⟩
   ·cases hr
  rw[af h6] at hr;by_cases h7:h.kind=7
  ·rw[ak h7] at hr
   have:=hk0 (.inr (.inl h7));subst this;obtain⟨a1,a2,a3,a4⟩:=Yl hr c hi;exact⟨(S1.uS a1 a3).more (by simp),a2.trans Fp,by rw[a3];exact hi,⟨fun _=>a4,fun e=>by omega⟩,by unfold Lt.dX;trivial⟩
  rw[af h7] at hr;by_cases h11:h.kind=11
  ·rw[ak h11] at hr
   obtain⟨s1,e1,hr⟩:=iA hr;obtain⟨s2,e2,rfl⟩:=uT hr;obtain⟨cx,b1,b2,b3,b4,b5,x,b6,b7,b8⟩:=xt e1 c;obtain⟨a1,_,a3,a4⟩:=gj ks e2 Cz cx Vp;have Aw:s2.of i=(f:Int):=by rw[(a1.off i tx).2,b3];exact hi
   refine⟨⟨S1.ext.trans (b1.trans a1.ext),a1.ok,fun j hj=>?_,⟨[],Qs,fun n hn=>by simp at hn⟩,fun g y k1 k2=>?_⟩,Fp,Aw,quiet (by omega) (by omega) (by omega),?_⟩
   ·rw[bn,not_or] at hj
    obtain⟨q1,q2⟩:=a1.off j hj.2;obtain⟨q3,q4⟩:=S1.off j (by simpa using hj.1)
    exact⟨by rw[←q3,←b4 j hj.1];exact q1,by rw[←q4,←b3];exact q2⟩
   ·have k2:s2.fns[g]? = some y:=k2
    by_cases hg:s1.fns.length≤g
    ·exact⟨bY _ (a1.new g y hg k2).1,(a1.new g y hg k2).2⟩
    ·have vI:g=st.fns.length:=by rw[←hfn] at k1;omega
     subst vI;obtain⟨x',m1,m2⟩:=a1.ext.2 _ _ b6;rw[k2] at m1;injection m1 with m1;subst m1;have e3:y.node=i:=m2.node.trans b7;exact⟨by rw[e3];exact bU ..,by rw[e3,m2.parent,b8];exact Aw⟩
   ·have e4:s1.fr=st.fr:=by unfold aG.fr;rw[b5]
    rw[e4] at a4;exact up (Lt.dX.imp ks (fun j _ _ q=>q.same rfl rfl rfl) a4)
  rw[af h11] at hr;by_cases mo:h.kind=18
  ·rw[ak mo] at hr
   obtain⟨s1,e1,hr⟩:=iA hr;obtain⟨s2,e2,rfl⟩:=uT hr;have e1:=Bd e1;subst e1;obtain⟨a1,_,a3,a4⟩:=rF ks e2 Cz (c.Bc _) Vp;have Aw:s2.of i=(f:Int):=by rw[(a1.off i tx).2];exact hi
   refine⟨S1.trans a1.rE.back hd |>.more (by simp),Fp,Aw,quiet (by omega) (by omega) (by omega),up (Lt.dX.imp ks (fun j _ _ q=>?_) a4)⟩
   have q:sI (Lt.bs ks) (_::st.fr) s2 _ _:=q;refine(q.left fun t ht=>?_).same rfl rfl rfl
   rcases ht with ⟨ht,_⟩ | ⟨_,ht⟩
   ·cases ht
   ·obtain⟨k,hk,rfl⟩:=jd.1 ht
    exact⟨qq hk,a3 k hk⟩
  rw[af mo] at hr;by_cases LI:h.kind=19
  ·rw[ak LI] at hr
   obtain⟨s1,e1,e2⟩:=iA hr;obtain⟨a1,a2,a3,a4⟩:=gj ks e1 Cz c Vp;have S2:=S1.trans a1 hd;obtain⟨b1,b2,b3⟩:=nK e2 (a1.cx c);refine⟨(S2.uS b1 b3).more (fun z hz=>by simp only[dd,bn,oM,oP] at hz ⊢;rcases hz with (hz|hz)|hz<;>simp[hz]),(b2.trans a2).trans Fp,by rw[b3,(a1.off i tx).2];exact hi,quiet (by omega) (by omega) (by omega),up (Lt.dX.imp ks (fun j hj _ q=>q.later b1 ?_ ?_) a4)⟩
   ·intro e;rw[bP] at e;rw[e] at hj;exact tx hj
   ·intro t ht e;rw[bP] at e;rw[e] at ht;exact tx ht
  rw[af LI] at hr;by_cases Qt:h.kind=23
  ·rw[ak Qt] at hr
   obtain⟨s2,e2,rfl⟩:=uT hr;obtain⟨a1,_,a3,a4⟩:=gj ks e2 Cz (c.Bc _) Vp;have Aw:s2.of i=(f:Int):=by rw[(a1.off i tx).2];exact hi
   refine⟨S1.trans a1.rE.back hd |>.more (by simp),Fp,Aw,quiet (by omega) (by omega) (by omega),Lt.dX.imp ks (fun j _ _ q=>?_) (up a4)⟩
   have q:sI (i::Lt.bs ks) (_::st.fr) s2 _ _:=q;refine(q.left fun t ht=>?_).same rfl rfl rfl
   rcases ht with ⟨_,ht⟩ | ⟨ht,_⟩
   ·rw[ht];exact⟨bU ..,Aw⟩
   ·cases ht
  rw[af Qt] at hr;by_cases NK:h.kind=24
  ·rw[ak NK] at hr
   obtain⟨s2,e2,rfl⟩:=uT hr;obtain⟨a1,a3,a4⟩:=Tl ks e2 Cz (c.Bc _) Vp (ac5 NK);have Aw:s2.of i=(f:Int):=by rw[(a1.off i tx).2];exact hi
   refine⟨S1.trans a1.rE.back hd |>.more (by simp),Fp,Aw,quiet (by omega) (by omega) (by omega),Lt.dX.imp ks (fun j _ _ q=>?_) (up a4)⟩
   have q:sI (i::Lt.bs ks) (_::st.fr) s2 _ _:=q;refine(q.left fun t ht=>?_).same rfl rfl rfl
   rcases ht with ⟨_,ht⟩ | ⟨ht,_⟩
   ·rw[ht];exact⟨bU ..,Aw⟩
   ·cases ht
  rw[af NK] at hr;by_cases Qu:h.kind=26∨h.kind=27
  ·rw[ak Qu] at hr
   obtain⟨a1,a2,a3,a4⟩:=Be ks hr tx Cz c Vp hi;exact⟨(S1.Ym a1 hi a3).more (by simp),a2.trans Fp,a3,quiet (by omega) (by omega) (by omega),a4⟩
  rw[af Qu] at hr;by_cases Qv:h.kind=28
  ·rw[ak Qv] at hr
   obtain⟨s1,e1,e2⟩:=iA hr;obtain⟨b1,b2,b3⟩:=nK e1 c;obtain⟨a1,a2,a3,a4⟩:=gj ks e2 Cz (b1.cx c) Vp;have S2:=S1.uS b1 b3;have e4:s1.fr=st.fr:=by unfold aG.fr;rw[b2]
   rw[e4] at a4;exact⟨(S2.trans a1 (by simpa using tx)).more (by simp),(a2.trans b2).trans Fp,by rw[(a1.off i tx).2,b3];exact hi,quiet (by omega) (by omega) (by omega),up a4⟩
  rw[af Qv] at hr;by_cases Fm:h.kind=30
  ·rw[ak Fm] at hr
   have:=hk0 (.inr (.inr (.inl Fm)));subst this;obtain⟨a1,a2,a3,a4⟩:=NJ hr c hi;exact⟨(S1.uS a1 a3).more (by simp),a2.trans Fp,by rw[a3];exact hi,⟨fun e=>by omega,fun _=>a4 _⟩,by unfold Lt.dX;trivial⟩
  rw[af Fm] at hr;by_cases Fo:h.kind=31
  ·rw[ak Fo] at hr
   have:=hk0 (.inr (.inr (.inr Fo)));subst this;obtain⟨a1,a2,a3,a4⟩:=Tj c hi _ hr (fun _ h=>h)
   exact⟨(S1.uS a1 a3).more (by simp),a2.trans Fp,by rw[a3];exact hi,⟨fun e=>by omega,fun _=>a4 _⟩,by unfold Lt.dX;trivial⟩
  rw[af Fo] at hr;obtain⟨a1,a2,a3,a4⟩:=gj ks hr Cz c Vp;exact⟨S1.trans a1 hd,a2.trans Fp,by rw[(a1.off i tx).2];exact hi,quiet h7 Fm Fo,up a4⟩
theorem gj :∀(ks:List Lt) {f:Nat} {st st':aG},aH ks f st=.ok st'→(Lt.bs ks).Nodup→Cx f st→Lt.yQ ks →
  kB (Lt.bs ks) f st st'∧st'.frames=st.frames∧(∀k∈ks,st'.of k.loc=(f:Int))∧Lt.dX (sI (Lt.bs ks) st.fr st') ks
 | [],f,st,st',hr,_,c,_=>by
  unfold aH at hr;injection hr with hr;subst hr;exact⟨.refl c,rfl,fun k hk=>by simp at hk,by unfold Lt.dX;trivial⟩
 | k::ks,f,st,st',hr,hn,c,hw=>by
  unfold aH at hr;obtain⟨s1,e1,e2⟩:=iA hr;rw[Lt.bs,oK] at hn;obtain⟨n1,n2,n3⟩:=hn;unfold Lt.yQ at hw;obtain⟨a1,a2,a3,a4⟩:=kY k e1 n1 c hw.1;obtain⟨b1,b2,b3,b4⟩:=gj ks e2 n2 (a1.cx c) hw.2;have hd :∀j∈k.gR,j∉Lt.bs ks:=fun j h1 h2=>n3 j h1 j h2 rfl
  have oD:s1.fr=st.fr:=by unfold aG.fr;rw[a2]
  rw[Lt.bs];refine⟨a1.trans b1 hd,b2.trans a2,fun x hx=>?_,?_⟩
  ·rcases bn.1 hx with rfl|hx
   ·rw[(b1.off _ (hd _ (yR _))).2];exact a3
   ·exact b3 x hx
  ·unfold Lt.dX
   rw[oD] at b4;exact⟨Lt.All.imp k (fun j hj _ q=>(q.later b1 (hd j hj) hd).more fun t ht=>fV _ ht) a4,Lt.dX.imp ks (fun j _ _ q=>q.more fun t ht=>jb _ ht) b4⟩
theorem rF :∀(ks:List Lt) {n f:Nat} {st st':aG},cM ks n f st=.ok st'→(Lt.bs ks).Nodup→Cx f st→Lt.yQ ks →
  kB (Lt.bs ks) f st st'∧st'.fr=st.fr∧(∀k∈ks,st'.of k.loc=(f:Int))∧Lt.dX (sI (Lt.bs ks) st.fr st') ks
 | [],_,f,st,st',hr,_,c,_=>by
  unfold cM at hr;injection hr with hr;subst hr;exact⟨.refl c,rfl,fun k hk=>by simp at hk,by unfold Lt.dX;trivial⟩
 | k::ks,n,f,st,st',hr,hn,c,hw=>by
  unfold cM at hr;obtain⟨s1,e1,e2⟩:=iA hr;rw[Lt.bs,oK] at hn;obtain⟨n1,n2,n3⟩:=hn;unfold Lt.yQ at hw;obtain⟨a1,a2,a3,a4⟩:=kY k e1 n1 (c.at_ n) hw.1;have a1:=a1.at_;obtain⟨b1,b2,b3,b4⟩:=rF ks e2 n2 (a1.cx c) hw.2;have hd :∀j∈k.gR,j∉Lt.bs ks:=fun j h1 h2=>n3 j h1 j h2 rfl
  have oD:s1.fr=st.fr:=by unfold aG.fr;rw[a2];exact Vo st n
  rw[Lt.bs];refine⟨a1.trans b1 hd,b2.trans oD,fun x hx=>?_,?_⟩
  ·rcases bn.1 hx with rfl|hx
   ·rw[(b1.off _ (hd _ (yR _))).2];exact a3
   ·exact b3 x hx
  ·unfold Lt.dX
   rw[oD] at b4;rw[Vo] at a4;exact⟨Lt.All.imp k (fun j hj _ q=>(q.later b1 (hd j hj) hd).more fun t ht=>fV _ ht) a4,Lt.dX.imp ks (fun j _ _ q=>q.more fun t ht=>jb _ ht) b4⟩
theorem Tl :∀(ks:List Lt) {f:Nat} {st st':aG},kA ks f st=.ok st'→(Lt.bs ks).Nodup→Cx f st→Lt.yQ ks→(∃b t,ks=[b,t]∧b.hd.kind=18) →
  kB (Lt.bs ks) f st st'∧(∀k∈ks,st'.of k.loc=(f:Int))∧Lt.dX (sI (Lt.bs ks) st.fr st') ks
 | [],f,st,st',hr,hn,c,hw,hk=>by obtain⟨b,t,hk,_⟩:=hk;cases hk
 | [_],f,st,st',hr,hn,c,hw,hk=>by obtain⟨b,t,hk,_⟩:=hk;cases hk
 | _::_::_::_,f,st,st',hr,hn,c,hw,hk=>by obtain⟨b,t,hk,_⟩:=hk;cases hk
 | [.mk i h ks,t],f,st,st',hr,hn,c,hw,hk=>by
  obtain⟨_,_,hk,mo⟩:=hk;injection hk with hk _;subst hk;have mo:h.kind=18:=mo;unfold kA at hr;obtain⟨s1,e1,hr⟩:=iA hr;obtain⟨s2,e2,e3⟩:=iA hr;have e1:=Bd e1;subst e1;simp only[Lt.bs,Lt.gR,jW] at hn ⊢;rw[oK,ml] at hn;obtain⟨⟨tx,Cz⟩,nt,n3⟩:=hn;simp only[Lt.yQ,Lt.Wf] at hw;have S1:=Fl c i f;have c1:=S1.cx c;obtain⟨a1,a2,a3,a4⟩:=rF ks e2 Cz (c1.Bc _) hw.1.2;have A1:=S1.trans a1.rE (fun j hj=>by rw[bP] at hj;rw[hj];exact tx)
  obtain⟨b1,b2,b3,b4⟩:=kY t e3 nt (a1.rE.cx c1) hw.2.1;have hd :∀j∈i::Lt.bs ks,j∉t.gR:=fun j h1 h2=>n3 j h1 j h2 rfl
  have hi:st'.of i=(f:Int):=by rw[(b1.off i (hd i (bU ..))).2,(a1.off i tx).2];exact NH _ _ _
  have JU :∀k∈ks,st'.of k.loc=(f:Int):=fun k hk=>by rw[(b1.off _ (hd _ (bY _ (qq hk)))).2];exact a3 k hk
  have Vq :∀{j:Nat} {x:Nd},sI (i::Lt.bs ks++t.gR) (⟨f,i,0,false,true,ks⟩::st.fr) st' j x→sI (i::Lt.bs ks++t.gR) st.fr st' j x:=fun q=>q.left fun z hz=>by
   rcases hz with ⟨hz,_⟩ | ⟨_,hz⟩
   ·cases hz
   ·obtain⟨k,hk,rfl⟩:=jd.1 hz
    exact⟨fV _ (bY _ (qq hk)),JU k hk⟩
  refine⟨(A1.trans b1 hd),fun k hk=>?_,?_⟩
  ·rcases bn.1 hk with rfl|hk
   ·exact hi
   ·rw[bP] at hk
    rw[hk];exact b3
  ·unfold Lt.dX Lt.All
   have e5:s2.fr=⟨f,i,0,false,true,ks⟩::st.fr:=a2;rw[e5] at b4;refine⟨⟨quiet (by omega) (by omega) (by omega),Lt.dX.imp ks (fun j hj _ q=>Vq ((q.later b1 (hd j (bY _ hj)) fun z hz=>hd z (bY _ hz)).more fun z hz=>fV _ (bY _ hz))) a4⟩,?_⟩
   unfold Lt.dX;exact⟨Lt.All.imp t (fun j _ _ q=>Vq (q.more fun z hz=>jb _ hz)) b4,by unfold Lt.dX;trivial⟩
theorem Be {i:Nat} {line:Int} {names:List ByteArray} :∀(ks:List Lt) {f:Nat} {st st':aG},iL i line names ks f st=.ok st'→i∉Lt.bs ks→(Lt.bs ks).Nodup→Cx f st→Lt.yQ ks→st.of i=(f:Int) →
  kB (i::Lt.bs ks) f st st'∧st'.frames=st.frames∧st'.of i=(f:Int)∧Lt.dX (sI (i::Lt.bs ks) st.fr st') ks
 | [],f,st,st',hr,_,_,c,_,hi=>by
  unfold iL at hr;injection hr with hr;subst hr;exact⟨(kB.refl c).more (by simp),rfl,hi,by unfold Lt.dX;trivial⟩
 | [b],f,st,st',hr,tx,hn,c,hw,hi=>by
  unfold iL at hr;obtain⟨s1,e1,hr⟩:=iA hr;obtain⟨s2,e2,rfl⟩:=uT hr;simp only[Lt.bs,jW] at tx hn ⊢;simp only[Lt.yQ] at hw;obtain⟨b1,b2,b3⟩:=nK e1 (c.Bc _);have b1:=b1.rE;obtain⟨a1,a2,a3,a4⟩:=kY b e2 hn (b1.cx c) hw.1;have Aw:s2.of i=(f:Int):=by rw[(a1.off i tx).2,b3];exact hi
  refine⟨((b1.trans a1 (by simpa using tx)).more (by simp)).back,rfl,Aw,?_⟩
  unfold Lt.dX;have e4:s1.fr=⟨f,i,0,true,false,[]⟩::st.fr:=by unfold aG.fr;rw[b2];rfl
  rw[e4] at a4;refine⟨Lt.All.imp b (fun j _ _ q=>?_) a4,by unfold Lt.dX;trivial⟩
  refine((q.more fun z hz=>bY i hz).left fun t ht=>?_).same rfl rfl rfl
  rcases ht with ⟨_,ht⟩ | ⟨ht,_⟩
  ·rw[ht];exact⟨bU ..,Aw⟩
  ·cases ht
 | a::b::l,f,st,st',hr,tx,hn,c,hw,hi=>by
  unfold iL at hr;obtain⟨s1,e1,e2⟩:=iA hr;rw[Lt.bs,oK] at hn;rw[Lt.bs,dd,not_or] at tx;obtain⟨n1,n2,n3⟩:=hn;unfold Lt.yQ at hw;obtain⟨a1,a2,a3,a4⟩:=kY a e1 n1 c hw.1;have hi1:s1.of i=(f:Int):=by rw[(a1.off i tx.1).2];exact hi
  obtain⟨b1,b2,b3,b4⟩:=Be (b::l) e2 tx.2 n2 (a1.cx c) hw.2 hi1;have hd :∀j∈a.gR,j∉i::Lt.bs (b::l):=fun j h1 h2=>by
   rcases bn.1 h2 with rfl|h2
   ·exact tx.1 h1
   ·exact n3 j h1 j h2 rfl
  have oD:s1.fr=st.fr:=by unfold aG.fr;rw[a2]
  have hL :∀z,z∈a.gR++(i::Lt.bs (b::l))→z∈i::Lt.bs (a::b::l):=fun z hz=>by
   rw[Lt.bs];simp only[dd,bn] at hz ⊢;rcases hz with hz|hz|hz
   ·exact .inr (.inl hz)
   ·exact .inl hz
   ·exact .inr (.inr hz)
  refine⟨(a1.trans b1 hd).more hL,b2.trans a2,b3,?_⟩;rw[oD] at b4;unfold Lt.dX;exact⟨Lt.All.imp a (fun j hj _ q=>(q.later b1 (hd j hj) hd).more fun t ht=>hL t (fV _ ht)) a4,Lt.dX.imp (b::l) (fun j _ _ q=>q.more fun t ht=>hL t (jb _ ht)) b4⟩
end
mutual
def Lt.ast:Lt→Ast
 | .mk _ h ks=>.mk h (Lt.aa4 ks)
def Lt.aa4:List Lt→List Ast
 | []=>[]
 | k::ks=>Lt.ast k::Lt.aa4 ks
end
mutual
def Lt.size:Lt→Nat
 | .mk _ _ ks=>Lt.al ks+1
def Lt.al:List Lt→Nat
 | []=>0
 | k::ks=>Lt.size k+Lt.al ks
end
mutual
theorem Lt.xu :∀t:Lt,t.gR.length=t.size
 | .mk i h ks=>by rw[Lt.gR,Lt.size,List.length_cons,Lt.uU ks]
theorem Lt.uU :∀ks:List Lt,(Lt.bs ks).length=Lt.al ks
 | []=>by rw[Lt.bs,Lt.al];rfl
 | k::ks=>by rw[Lt.bs,Lt.al,bV,Lt.xu k,Lt.uU ks]
end
theorem pE :∀a b:List Lt,Lt.al (a++b)=Lt.al a+Lt.al b
 | [],b=>by rw[mQ,show Lt.al []=0 by rw[Lt.al],jX]
 | k::a,b=>by rw[gU,Lt.al,Lt.al,pE a b,r9]
theorem Fq {T:List Nd} :∀{ks:List Lt},Lt.uP T ks→∀k∈ks,Lt.In T k
 | [],_,k,h=>by simp at h
 | x::ks,hi,k,h=>by
  unfold Lt.uP at hi;rcases bn.1 h with rfl|h
  ·exact hi.1
  ·exact Fq hi.2 k h
theorem DG {T:List Nd} {t:Lt} (h:Lt.In T t):Lt.uP T t.sub∧T[t.loc]? = some t.hd∧t.hd.kids=t.sub.map (fun k=>(k.loc:Int)):=by
 cases t with
 | mk i h' ks=>unfold Lt.In at h;exact⟨h.2.2,h.1,h.2.1⟩
theorem NL (t:Lt):t.size=Lt.al t.sub+1:=by cases t with|mk i h ks=>rw[Lt.size];rfl
end Go.Proofs.YteflkdlaoiijbaaGreatDoor
namespace Go.Proofs.YteflkdlaoiijbaaGreatDoor
mutual
/-- Of one form; names are renamed. -/
def mD (ρ:ByteArray→ByteArray):Lt→Lt→Prop
 | .mk _ h ks,u=>u.hd.kind=h.kind∧u.hd.num=h.num∧u.hd.s=ρ h.s∧u.hd.names=h.names.map ρ∧cW ρ ks u.sub
def cW (ρ:ByteArray→ByteArray):List Lt→List Lt→Prop
 | [],ls=>ls=[]
 | k::ks,ls=>∃l IU,ls=l::IU∧mD ρ k l∧cW ρ ks IU
end
theorem mD.kind {ρ:ByteArray→ByteArray} {t u:Lt} (h:mD ρ t u):u.hd.kind=t.hd.kind:=by cases t;unfold mD at h;exact h.1
theorem mD.s {ρ:ByteArray→ByteArray} {t u:Lt} (h:mD ρ t u):u.hd.s=ρ t.hd.s:=by cases t;unfold mD at h;exact h.2.2.1
structure FS (ρ:ByteArray→ByteArray) (x y:cI):Prop where
 parent:y.parent=x.parent
 params:y.params=x.params
 many:y.many=x.many
 bz:y.bz=x.bz
 vars:y.vars.map (fun v=>(v.name,v.cap))=x.vars.map fun v=>(ρ v.name,v.cap)
theorem FS.len {ρ:ByteArray→ByteArray} {x y:cI} (h:FS ρ x y):y.vars.length=x.vars.length:=by
 have:=ax List.length h.vars;simpa using this
def FR (ρ:ByteArray→ByteArray) (a b:List cI):Prop:=b.length=a.length∧∀f,FS ρ (a.getD f ⟨0,0,0,false,[],[]⟩) (b.getD f ⟨0,0,0,false,[],[]⟩)
theorem FR.set {ρ:ByteArray→ByteArray} {a b:List cI} (h:FR ρ a b) {f:Nat} {x y:cI} (e:FS ρ x y):FR ρ (a.set f x) (b.set f y) :=
 ⟨by simp[h.1],fun g=>by
  have:=h.2 g;simp only[jU] at this ⊢;by_cases hg:f=g
  ·subst hg
   by_cases hl:f<a.length
   ·rw[dQ hl,dQ (by rw[h.1];exact hl)];exact e
   ·rw[D7 (by omega),D7 (by rw[h.1];omega)];exact this
  ·rw[fC hg,fC hg];exact this⟩
theorem FR.app {ρ:ByteArray→ByteArray} {a b:List cI} (h:FR ρ a b) {x y:cI} (e:FS ρ x y):FR ρ (a++[x]) (b++[y]) :=
 ⟨by simp[h.1],fun g=>by
  have:=h.2 g;simp only[jU] at this ⊢;rcases Nat.lt_trichotomy g a.length with hg|hg|hg
  ·rw[kF hg,kF (by rw[h.1];exact hg)];exact this
  ·subst hg
   have e1:(b++[y])[a.length]? = some y:=by rw[←h.1];simp
   rw[e1];simpa using e
  ·rw[wo (by simp;omega),wo (by simp[h.1];omega)]
   exact⟨rfl,rfl,rfl,rfl,rfl⟩⟩
structure FrS (ρ:ByteArray→ByteArray) (x y:fw):Prop where
 fn:y.fn=x.fn
 at_:y.at_=x.at_
 loop:y.loop=x.loop
 rep:y.rep=x.rep
 kids:cW ρ x.kids y.kids
def Blank (E:List fw):Prop:=∀x∈E,x.loop=false∧∀s,bZ x.kids s=none
inductive Vr (ρ:ByteArray→ByteArray):List fw→List fw→Prop
 | nil {B:List fw}:Blank B→Vr ρ [] B
 | cons {x y:fw} {l m:List fw}:FrS ρ x y→Vr ρ l m→Vr ρ (x::l) (y::m)
structure SR (ρ:ByteArray→ByteArray) (a b:aG):Prop where
 fns:FR ρ a.fns b.fns
 names:b.names=a.names.map fun n=>⟨ρ n.s,n.fn,n.i⟩
 frames:Vr ρ a.frames b.frames
def RR {α β:Type} (Q:α→β→Prop):Rs α→Rs β→Prop
 | .ok a,.ok b=>Q a b
 | .error e,.error e'=>e.1=e'.1
 | _,_=>False
theorem RR.bind {α β γ δ:Type} {Q:α→β→Prop} {Q':γ→δ→Prop} {x:Rs α} {y:Rs β} {g:α→Rs γ} {k:β→Rs δ} (h:RR Q x y) (hg :∀a b,Q a b→RR Q' (g a) (k b)):RR Q' (x.bind g) (y.bind k):=by
 cases x<;>cases y
 ·exact h
 ·exact h.elim
 ·exact h.elim
 ·exact hg _ _ h
theorem RR.map {α β γ δ:Type} {Q:α→β→Prop} {Q':γ→δ→Prop} {x:Rs α} {y:Rs β} {g:α→γ} {k:β→δ} (h:RR Q x y) (hg :∀a b,Q a b→Q' (g a) (k b)):RR Q' (x.map g) (y.map k):=by
 cases x<;>cases y
 ·exact h
 ·exact h.elim
 ·exact h.elim
 ·exact hg _ _ h
section
variable {ρ:ByteArray→ByteArray} (jS :∀a b,ρ a=ρ b→a=b)
theorem SR.fn {a b:aG} (h:SR ρ a b) (f:Nat):FS ρ (a.fn f) (b.fn f):=h.fns.2 f
theorem SR.use {a b:aG} (h:SR ρ a b) (i j:Nat) (u v:Int×Int):SR ρ (a.dj i u) (b.dj j v):=⟨h.fns,h.names,h.frames⟩
theorem SR.of_ {a b:aG} (h:SR ρ a b) (i j f g:Nat):SR ρ (a.setOf i f) (b.setOf j g):=⟨h.fns,h.names,h.frames⟩
theorem NM {n n' f:Nat} {l l':Int} :∀(ns:List ByteArray) {a b:aG},SR ρ a b→RR (SR ρ) (dJ n f l ns a) (dJ n' f l' (ns.map ρ) b):=by
 intro ns;induction ns with
 | nil=>intro a b h;exact h
 | cons s ns ih =>
  intro a b h;rw[fX,dJ,dJ,(h.fn f).len];split
  ·exact rfl
  ·refine ih ⟨h.fns.set ⟨(h.fn f).parent,(h.fn f).params,(h.fn f).many,(h.fn f).bz,?_⟩,?_,h.frames⟩
   ·rw[mP,mP,(h.fn f).vars];rfl
   ·show _::b.names=List.map _ (_::a.names)
    rw[h.names];rfl
theorem oe {n n' f:Nat} {l l':Int} (ns:List ByteArray) {a b:aG} (h:SR ρ a b):RR (SR ρ) (bw n f l ns a) (bw n' f l' (ns.map ρ) b):=NM ns (h.use _ _ _ _)
theorem xw {A B:List cI} (h:FR ρ A B) (f:Nat) (u:sG):(gD A f u=none∧gD B f u=none)∨∃A' B' k,gD A f u=some (A',k)∧gD B f u=some (B',k)∧FR ρ A' B':=by
 have e:=(h.2 f).bz;unfold gD;simp only[e];split
 ·exact .inr ⟨A,B,_,rfl,rfl,h⟩
 ·split
  ·exact .inl ⟨rfl,rfl⟩
  ·exact .inr ⟨_,_,_,rfl,rfl,h.set ⟨(h.2 f).parent,(h.2 f).params,(h.2 f).many,rfl,(h.2 f).vars⟩⟩
theorem NN {n n':jr} (hf:n'.fn=n.fn) (hi:n'.i=n.i) :∀(g:Nat) {A B:List cI} (f:Nat),FR ρ A B→(lX n g A f=none∧lX n' g B f=none)∨∃A' B' k,lX n g A f=some (A',k)∧lX n' g B f=some (B',k)∧FR ρ A' B':=by
 intro g;induction g with
 | zero=>intro A B f _;exact .inl ⟨rfl,rfl⟩
 | succ g ih =>
  intro A B f h;rw[lX,lX];simp only[(h.2 f).parent,hf,hi];split
  ·exact xw h f _
  ·rcases ih ((A.getD f ⟨0,0,0,false,[],[]⟩).parent.toNat) h with ⟨h1,h2⟩ | ⟨A',B',k,h1,h2,h3⟩
   ·rw[h1,h2];exact .inl ⟨rfl,rfl⟩
   ·rw[h1,h2];exact xw h3 f _
theorem Tm {x y:cI} (h:FS ρ x y) (i:Nat):FS ρ (cP x i) (cP y i):=by
 refine⟨h.parent,h.params,h.many,h.bz,?_⟩;unfold cP;dsimp only
 have e:(y.vars.map fun v=>(v.name,v.cap))[i]? = (x.vars.map fun v=>(ρ v.name,v.cap))[i]?:=by rw[h.vars]
 rw[gw,gw] at e;cases hx:x.vars[i]? with
 | none =>
  rw[hx] at e;cases hy:y.vars[i]? with
  | none=>exact h.vars
  | some w=>rw[hy] at e;cases e
 | some v =>
  rw[hx] at e;cases hy:y.vars[i]? with
  | none=>rw[hy] at e;cases e
  | some w =>
   rw[hy] at e;injection e with e;injection e with e1 e2;dsimp only
   rw[List.map_set,List.map_set,h.vars,e1]
include jS in
theorem NO (s:ByteArray) :∀(l:List jr),(l.map fun n=>(⟨ρ n.s,n.fn,n.i⟩:jr)).find? (fun n=>decide (n.s=ρ s))=(l.find? fun n=>decide (n.s=s)).map fun n=>⟨ρ n.s,n.fn,n.i⟩:=by
 intro l;induction l with
 | nil=>rfl
 | cons n l ih =>
  rw[fX,kI,kI];have e:decide (ρ n.s=ρ s)=decide (n.s=s):=by
   by_cases h:n.s=s
   ·rw[h];simp
   ·rw[bL h,bL fun e=>h (jS _ _ e)]
  simp only[e];cases decide (n.s=s) with
  | true=>rfl
  | false=>exact ih
include jS in
theorem Tn {n n' f:Nat} {s:ByteArray} {l l':Int} {a b:aG} (h:SR ρ a b):RR (SR ρ) (lY n f s l a) (lY n' f (ρ s) l' b):=by
 unfold lY;have e:b.names.find? (fun n=>decide (n.s=ρ s))=(a.names.find? fun n=>decide (n.s=s)).map fun n=>⟨ρ n.s,n.fn,n.i⟩:=by rw[h.names,NO jS]
 rw[e];cases hx:a.names.find? (fun n=>decide (n.s=s)) with
 | none=>exact h.use _ _ _ _
 | some x =>
  simp only[oN];by_cases hf:x.fn=f
  ·rw[ak hf,ak hf]
   exact h.use _ _ _ _
  ·rw[af hf,af hf,h.fns.1]
   rcases NN (n:=x) (n':=⟨ρ x.s,x.fn,x.i⟩) rfl rfl a.fns.length f (h.fns.set (f:=x.fn) (Tm (h.fn x.fn) x.i)) with ⟨h1,h2⟩ | ⟨A',B',k,h1,h2,h3⟩
   ·rw[h1,h2];exact rfl
   ·rw[h1,h2]
    exact⟨h3,h.names,h.frames⟩
theorem qv {β:Type} {g g':Lt→β} (hg :∀t u,mD ρ t u→g' u=g t) :∀{ks ls:List Lt},cW ρ ks ls→ls.map g'=ks.map g
 | [],ls,h=>by unfold cW at h;rw[h];rfl
 | k::ks,ls,h=>by
  unfold cW at h;obtain⟨l,IU,rfl,h0,h⟩:=h;rw[fX,fX,hg _ _ h0,qv hg h]
include jS in
theorem IV {t u:Lt} (s:ByteArray) (h:mD ρ t u):mr (ρ s) u=mr s t:=by
 unfold mr;rw[h.kind,h.s];congr 1
 by_cases e:t.hd.s=s
 ·rw[e];simp
 ·rw[bL e,bL fun k=>e (jS _ _ k)]
theorem findIdx_map {α:Type} (g:α→Bool) :∀l:List α,l.findIdx? g=(l.map g).findIdx? id:=by
 intro l;induction l with
 | nil=>rfl
 | cons x l ih =>
  rw[fX,List.findIdx?_cons,List.findIdx?_cons,ih];rfl
include jS in
theorem rG {ks ls:List Lt} (s:ByteArray) (h:cW ρ ks ls):bZ ls (ρ s)=bZ ks s:=by
 unfold bZ;rw[findIdx_map,findIdx_map (mr s),qv (fun _ _ h=>IV jS s h) h]
include jS in
theorem NP {A B:List fw} (f:Nat) (s:ByteArray) (h:Vr ρ A B):(∃x∈B,x.loop=false∧x.fn=f∧(bZ x.kids (ρ s)).isSome)↔∃x∈A,x.loop=false∧x.fn=f∧(bZ x.kids s).isSome:=by
 induction h with
 | nil hE =>
  refine⟨fun⟨x,hx,_,_,h⟩=>?_,fun⟨x,hx,_⟩=>by simp at hx⟩
  rw[(hE x hx).2] at h;cases h
 | cons h _ ih =>
  simp only[bn,exists_eq_or_imp,h.loop,h.fn,rG jS s h.kids,ih]
include jS in
theorem uV {A B:List fw} (h:Vr ρ A B) (f:Nat) {all Yn:List Lt} (ha:cW ρ all Yn) :∀{ks ls:List Lt} (n:Nat),cW ρ ks ls→(cA B f Yn n ls).isSome=(cA A f all n ks).isSome
 | [],ls,n,hs=>by unfold cW at hs;rw[hs];rfl
 | k::ks,ls,n,hs=>by
  unfold cW at hs;obtain⟨l,IU,rfl,h0,hs⟩:=hs;rw[cA,cA];have e1:(∃j,bZ Yn l.hd.s=some j∧j<n)↔∃j,bZ all k.hd.s=some j∧j<n:=by rw[h0.s,rG jS _ ha]
  have e2:=NP jS f k.hd.s h;rw[←h0.s] at e2;simp only[h0.kind,e1,e2];split
  ·rfl
  ·exact uV h f ha (n+1) hs
include jS in
theorem xx {i i' f:Nat} {rep:Bool} {ks ls:List Lt} {a b:aG} (h:SR ρ a b) (hs:cW ρ ks ls):RR (SR ρ) (gX i f rep ks a) (gX i' f rep ls b):=by
 unfold gX;have e:=uV jS h.frames f hs 0 hs;cases h1:cA a.frames f ks 0 ks with
 | none =>
  rw[h1] at e;cases h2:cA b.frames f ls 0 ls with
  | none=>exact⟨h.fns,h.names,.cons ⟨rfl,rfl,rfl,rfl,hs⟩ h.frames⟩
  | some _=>rw[h2] at e;cases e
 | some _ =>
  rw[h1] at e;cases h2:cA b.frames f ls 0 ls with
  | none=>rw[h2] at e;cases e
  | some _=>exact rfl
theorem SR.at_ {a b:aG} (h:SR ρ a b) (n:Nat):SR ρ (a.at n) (b.at n):=by
 refine⟨h.fns,h.names,?_⟩;have hf:=h.frames;unfold aG.at;dsimp only
 revert hf
 generalize a.frames=A;generalize b.frames=B;cases A with
 | nil =>
  intro hf;cases hf with
  | nil hB =>
   cases B with
   | nil=>exact .nil hB
   | cons y m =>
    refine .nil fun z hz=>?_
    rcases bn.1 hz with rfl|hz
    ·exact hB y (bU ..)
    ·exact hB z (bY _ hz)
 | cons x l =>
  intro hf;cases hf with
  | cons h1 h2=>exact .cons ⟨h1.fn,rfl,h1.loop,h1.rep,h1.kids⟩ h2
theorem SR.di {a b:aG} (h:SR ρ a b) (i j f:Nat):SR ρ (di i f a) (di j f b):=⟨h.fns,h.names,.cons ⟨rfl,rfl,rfl,rfl,by unfold cW;rfl⟩ h.frames⟩
theorem SR.back {a b a0 b0:aG} (h:SR ρ a b) (h0:SR ρ a0 b0):SR ρ (a.back a0) (b.back b0):=⟨h.fns,h0.names,h0.frames⟩
theorem IW {i j f:Nat} {l l':Int} {a b:aG} (h:SR ρ a b):RR (SR ρ) (dT i f l a) (dT j f l' b):=by
 unfold dT;have key :∀{A B:List fw},Vr ρ A B→(B.find? fun x=>x.loop && decide (x.fn=f)).isSome=(A.find? fun x=>x.loop && decide (x.fn=f)).isSome:=by
  intro A B h;induction h with
  | @nil E hE =>
   have:E.find? (fun x=>x.loop && decide (x.fn=f))=none:=Ec.2 fun x hx=>by rw[(hE x hx).1];simp
   rw[this];rfl
  | cons h _ ih =>
   rw[kI,kI,h.loop,h.fn];split
   ·rfl
   ·exact ih
 have e:=key h.frames;cases h1:a.frames.find? (fun x=>x.loop && decide (x.fn=f)) with
 | none =>
  rw[h1] at e;cases h2:b.frames.find? (fun x=>x.loop && decide (x.fn=f)) with
  | none=>exact rfl
  | some _=>rw[h2] at e;cases e
 | some _ =>
  rw[h1] at e;cases h2:b.frames.find? (fun x=>x.loop && decide (x.fn=f)) with
  | none=>rw[h2] at e;cases e
  | some _=>exact h.use _ _ _ _
theorem Bf {ks ls:List Lt} (h:cW ρ ks ls) (a j:Nat) (rep:Bool):lZ ls a j rep=lZ ks a j rep:=by
 have e1:ls.map isDecl=ks.map isDecl:=qv (fun t u h=>by unfold isDecl;rw[h.kind]) h
 have e2:ls.map (fun k=>decide (k.hd.kind=32))=ks.map fun k=>decide (k.hd.kind=32):=qv (fun t u h=>by rw[h.kind]) h
 have a1 :∀l:List Lt,l.any isDecl=(l.map isDecl).any id:=fun l=>by rw[List.any_map];rfl
 have a2 :∀l:List Lt,(l.all fun k=>decide (k.hd.kind=32))=(l.map fun k=>decide (k.hd.kind=32)).all id:=fun l=>by rw[List.all_map];rfl
 unfold lZ;rw[a1,a1,a2,a2,Ej,List.map_take,Ej,Ej,List.map_take,Ej,e1,e2]
include jS in
theorem NR {i j f:Nat} {s:ByteArray} {l l':Int} {a b:aG} (h:SR ρ a b) :∀{A B:List fw},Vr ρ A B→RR (SR ρ) (db i f s l a A) (db j f (ρ s) l' b B):=by
 intro A B hf;induction hf with
 | nil hE =>
  have key :∀{X:List fw},Blank X→db j f (ρ s) l' b X=.error (8,l'):=by
   intro X hX;induction X with
   | nil=>rfl
   | cons x X ih =>
    rw[db,(hX x (bU ..)).2];simp only[ih fun y hy=>hX y (bY _ hy),ite_self]
  rw[key hE];exact rfl
 | cons h1 _ ih =>
  rw[db,db,h1.loop,h1.fn,rG jS s h1.kids];split
  ·exact ih
  ·split
   ·exact ih
   ·rw[Bf h1.kids,h1.at_,h1.rep]
    split
    ·exact rfl
    ·exact h.use _ _ _ _
end
end Go.Proofs.YteflkdlaoiijbaaGreatDoor
namespace Go.Proofs.YteflkdlaoiijbaaGreatDoor
section
variable {ρ:ByteArray→ByteArray}
theorem IX {i j f:Nat} {h g:Nd} {a b:aG} (hs:SR ρ a b) (h1:g.num=h.num) (h2:g.names=h.names.map ρ):SR ρ (jK i f h a) (jK j f g b) :=
 ⟨hs.fns.app ⟨rfl,by show g.names.length=h.names.length;rw[h2,cN],by show decide (g.num=1)=decide (h.num=1);rw[h1],rfl,rfl⟩,hs.names,hs.frames⟩
mutual
theorem kZ (jS :∀a b,ρ a=ρ b→a=b) :∀(t u:Lt),mD ρ t u→∀(f:Nat) {a b:aG},SR ρ a b→RR (SR ρ) (bg t f a) (bg u f b)
 | .mk i h ks,.mk j g ls,hs,f,a0,b0,h0=>by
  unfold mD at hs;obtain⟨e1,e2,e3,e4,hk⟩:=hs;have e1:g.kind=h.kind:=e1;have e2:g.num=h.num:=e2;have e3:g.s=ρ h.s:=e3;have e4:g.names=h.names.map ρ:=e4;have hk:cW ρ ks ls:=hk;have hst:=h0.of_ i j f f;unfold bg;rw[e1,e3];generalize a0.setOf i f=a at *;generalize b0.setOf j f=b at *;by_cases h6:h.kind=6
  ·rw[ak h6,ak h6,(hst.fn f).many]
   split
   ·exact hst
   ·exact rfl
  rw[af h6,af h6];by_cases h7:h.kind=7
  ·rw[ak h7,ak h7]
   exact Tn jS hst
  rw[af h7,af h7];by_cases h11:h.kind=11
  ·rw[ak h11,ak h11,hst.fns.1,e4]
   exact RR.bind (oe _ (IX hst e2 e4)) fun a1 b1 h1=>RR.map (jt jS ks ls hk _ h1) fun a2 b2 h2=>h2.back hst
  rw[af h11,af h11];by_cases mo:h.kind=18
  ·rw[ak mo,ak mo]
   exact RR.bind (xx jS hst hk) fun a1 b1 h1=>RR.map (rH jS ks ls hk 0 f h1) fun a2 b2 h2=>h2.back hst
  rw[af mo,af mo];by_cases LI:h.kind=19
  ·rw[ak LI,ak LI,e4]
   exact RR.bind (jt jS ks ls hk f hst) fun a1 b1 h1=>oe _ h1
  rw[af LI,af LI];by_cases Qt:h.kind=23
  ·rw[ak Qt,ak Qt]
   exact RR.map (jt jS ks ls hk f (hst.di i j f)) fun a2 b2 h2=>h2.back hst
  rw[af Qt,af Qt];by_cases NK:h.kind=24
  ·rw[ak NK,ak NK]
   exact RR.map (To jS ks ls hk f (hst.di i j f)) fun a2 b2 h2=>h2.back hst
  rw[af NK,af NK];by_cases Qu:h.kind=26∨h.kind=27
  ·rw[ak Qu,ak Qu,e4]
   exact Bg jS ks ls hk f hst
  rw[af Qu,af Qu];by_cases Qv:h.kind=28
  ·rw[ak Qv,ak Qv,e4]
   exact RR.bind (oe _ hst) fun a1 b1 h1=>jt jS ks ls hk f h1
  rw[af Qv,af Qv];by_cases Fm:h.kind=30
  ·rw[ak Fm,ak Fm]
   exact IW hst
  rw[af Fm,af Fm];by_cases Fo:h.kind=31
  ·rw[ak Fo,ak Fo]
   exact NR jS hst hst.frames
  rw[af Fo,af Fo];exact jt jS ks ls hk f hst
termination_by structural t=>t
theorem jt (jS :∀a b,ρ a=ρ b→a=b) :∀(ks ls:List Lt),cW ρ ks ls→∀(f:Nat) {a b:aG},SR ρ a b→RR (SR ρ) (aH ks f a) (aH ls f b)
 | [],ls,hs,f,a,b,h=>by
  unfold cW at hs;subst hs;unfold aH;exact h
 | k::ks,ls,hs,f,a,b,h=>by
  unfold cW at hs;obtain⟨l,IU,rfl,h0,hs⟩:=hs;unfold aH;exact RR.bind (kZ jS k l h0 f h) fun a1 b1 h1=>jt jS ks IU hs f h1
termination_by structural ks=>ks
theorem rH (jS :∀a b,ρ a=ρ b→a=b) :∀(ks ls:List Lt),cW ρ ks ls→∀(n f:Nat) {a b:aG},SR ρ a b→RR (SR ρ) (cM ks n f a) (cM ls n f b)
 | [],ls,hs,n,f,a,b,h=>by
  unfold cW at hs;subst hs;unfold cM;exact h
 | k::ks,ls,hs,n,f,a,b,h=>by
  unfold cW at hs;obtain⟨l,IU,rfl,h0,hs⟩:=hs;unfold cM;exact RR.bind (kZ jS k l h0 f (h.at_ n)) fun a1 b1 h1=>rH jS ks IU hs (n+1) f h1
termination_by structural ks=>ks
theorem To (jS :∀a b,ρ a=ρ b→a=b) :∀(ks ls:List Lt),cW ρ ks ls→∀(f:Nat) {a b:aG},SR ρ a b→RR (SR ρ) (kA ks f a) (kA ls f b)
 | [],ls,hs,f,a,b,h=>by
  unfold cW at hs;subst hs;unfold kA;exact h
 | [.mk _ _ _],ls,hs,f,a,b,h=>by
  unfold cW cW at hs;obtain⟨l,IU,rfl,h0,rfl⟩:=hs;cases l;unfold kA;exact h
 | .mk _ _ _::_::_::_,ls,hs,f,a,b,h=>by
  unfold cW cW cW at hs;obtain⟨l,IU,rfl,h0,l1,ls1,rfl,h1,l2,ls2,rfl,_⟩:=hs;cases l;unfold kA;exact h
 | [.mk i h ks,t],ls,hs,f,a,b,hab=>by
  unfold cW cW cW at hs;obtain⟨l,IU,rfl,h0,u,ls1,rfl,h1,rfl⟩:=hs;obtain⟨j,g,ms⟩:=l;unfold mD at h0;obtain⟨_,_,_,_,hk⟩:=h0;have hk:cW ρ ks ms:=hk;unfold kA;exact RR.bind (xx jS (hab.of_ i j f f) hk) fun a1 b1 h2=>RR.bind (rH jS ks ms hk 0 f h2) fun a2 b2 h3=>kZ jS t u h1 f h3
termination_by structural ks=>ks
theorem Bg (jS :∀a b,ρ a=ρ b→a=b) {i j:Nat} {line aa5:Int} {names:List ByteArray} :∀(ks ls:List Lt),cW ρ ks ls→∀(f:Nat) {a b:aG},SR ρ a b→RR (SR ρ) (iL i line names ks f a) (iL j aa5 (names.map ρ) ls f b)
 | [],ls,hs,f,a,b,h=>by
  unfold cW at hs;subst hs;unfold iL;exact h
 | [k],ls,hs,f,a,b,h=>by
  unfold cW cW at hs;obtain⟨l,IU,rfl,h0,rfl⟩:=hs;unfold iL;exact RR.bind (oe _ (h.di i j f)) fun a1 b1 h1=>RR.map (kZ jS k l h0 f h1) fun a2 b2 h2=>h2.back h
 | k::k2::ks,ls,hs,f,a,b,h=>by
  unfold cW at hs;obtain⟨l,IU,rfl,h0,hs⟩:=hs;have hs':=hs;unfold cW at hs';obtain⟨l2,ls2,rfl,_,_⟩:=hs';unfold iL;exact RR.bind (kZ jS k l h0 f h) fun a1 b1 h1=>Bg jS (k2::ks) (l2::ls2) hs f h1
termination_by structural ks=>ks
end
end
end Go.Proofs.YteflkdlaoiijbaaGreatDoor
namespace Go.Proofs.YteflkdlaoiijbaaGreatDoor
theorem rI (n f:Nat) (st:aG):cM [] n f st=.ok st:=by unfold cM;rfl
theorem il (k:Lt) (ks:List Lt) (n f:Nat) (st:aG):cM (k::ks) n f st=(bg k f (st.at n)).bind fun s=>cM ks (n+1) f s:=by conv=>lhs;unfold cM
theorem eZ (f:Nat) (st:aG):aH [] f st=.ok st:=by unfold aH;rfl
theorem eP (k:Lt) (ks:List Lt) (f:Nat) (st:aG):aH (k::ks) f st=(bg k f st).bind fun s=>aH ks f s:=by conv=>lhs;unfold aH
theorem nL (i:Nat) (line:Int) (names:List ByteArray) (b:Lt) (f:Nat) (st:aG):iL i line names [b] f st=(bw i f line names (di i f st)).bind fun st1=>(bg b f st1).map fun st2=>st2.back st:=by conv=>lhs;unfold iL
theorem ju (i:Nat) (line:Int) (names:List ByteArray) (a b:Lt) (l:List Lt) (f:Nat) (st:aG):iL i line names (a::b::l) f st=(bg a f st).bind fun st1=>iL i line names (b::l) f st1:=by conv=>lhs;unfold iL
theorem yS (i:Nat) (h:Nd) (ks:List Lt) (t:Lt) (f:Nat) (st:aG):kA [.mk i h ks,t] f st=(gX i f true ks (st.setOf i f)).bind fun st1=>(cM ks 0 f st1).bind fun st2=>bg t f st2:=by conv=>lhs;unfold kA
section
variable (i:Nat) (h:Nd) (ks:List Lt) (f:Nat) (st:aG)
theorem cK:bg (.mk i h ks) f st =
  if h.kind=6 then (if ((st.setOf i f).fn f).many then .ok (st.setOf i f) else .error (14,h.line))
  else if h.kind=7 then lY i f h.s h.line (st.setOf i f)
  else if h.kind=11 then
   (bw i (st.setOf i f).fns.length h.line h.names (jK i f h (st.setOf i f))).bind fun st1=>(aH ks (st.setOf i f).fns.length st1).map fun st2=>st2.back (st.setOf i f)
  else if h.kind=18 then (gX i f false ks (st.setOf i f)).bind fun st1=>(cM ks 0 f st1).map fun st2=>st2.back (st.setOf i f)
  else if h.kind=19 then (aH ks f (st.setOf i f)).bind fun st1=>bw i f h.line h.names st1
  else if h.kind=23 then (aH ks f (di i f (st.setOf i f))).map fun st1=>st1.back (st.setOf i f)
  else if h.kind=24 then (kA ks f (di i f (st.setOf i f))).map fun st1=>st1.back (st.setOf i f)
  else if h.kind=26∨h.kind=27 then iL i h.line h.names ks f (st.setOf i f)
  else if h.kind=28 then (bw i f h.line h.names (st.setOf i f)).bind fun st1=>aH ks f st1
  else if h.kind=30 then dT i f h.line (st.setOf i f)
  else if h.kind=31 then db i f h.s h.line (st.setOf i f) (st.setOf i f).frames
  else aH ks f (st.setOf i f):=by conv=>lhs;unfold bg
end
end Go.Proofs.YteflkdlaoiijbaaGreatDoor
namespace Go.Proofs.YteflkdlaoiijbaaGreatDoor
theorem FS.start (ρ:ByteArray→ByteArray) (i j:Nat):FS ρ ⟨i,-1,0,true,[],[]⟩ ⟨j,-1,0,true,[],[]⟩:=⟨rfl,rfl,rfl,rfl,rfl⟩
theorem FR.one {ρ:ByteArray→ByteArray} {x y:cI} (h:FS ρ x y):FR ρ [x] [y] :=
 FR.app (a:=[]) (b:=[]) ⟨rfl,fun f=>by simp;exact⟨rfl,rfl,rfl,rfl,rfl⟩⟩ h
theorem Fs {ρ:ByteArray→ByteArray} (jS :∀a b,ρ a=ρ b→a=b) {t u:Lt} (h:mD ρ t u):RR (fun a b=>FR ρ a.fns b.fns) (kX t) (kX u):=by
 have h1:SR ρ (iZ t.loc) (iZ u.loc):=⟨.one (.start ρ _ _),rfl,.nil fun x hx=>by simp[iZ] at hx⟩
 have:=kZ jS t u h 0 h1;unfold kX;revert this
 cases bg t 0 (iZ t.loc)<;>cases bg u 0 (iZ u.loc)
 ·exact id
 ·exact id
 ·exact id
 ·exact fun h=>h.fns
mutual
def Lt.wt:Lt→Nat
 | .mk _ h ks=>h.names.length+Lt.eY ks
def Lt.eY:List Lt→Nat
 | []=>0
 | k::ks=>Lt.wt k+Lt.eY ks
end
def dK (F:List cI):Prop:=∀(g:Nat) x,F[g]? = some x→x.vars.length≤200∧x.bz.length≤60
theorem dK.set {F:List cI} (h:dK F) {f:Nat} {x:cI} (hx:x.vars.length≤200∧x.bz.length≤60):dK (F.set f x):=fun g y hy=>by
 by_cases e:f=g
 ·subst e
  by_cases hl:f<F.length
  ·rw[dQ hl] at hy
   injection hy with hy;subst hy;exact hx
  ·rw[D7 (by omega)] at hy
   exact h _ _ hy
 ·rw[fC e] at hy
  exact h _ _ hy
theorem dK.app {F:List cI} (h:dK F) {x:cI} (hx:x.vars.length≤200∧x.bz.length≤60):dK (F++[x]):=fun g y hy=>by
 rw[List.getElem?_append] at hy;split at hy
 ·exact h _ _ hy
 ·have:=(aL.1 hy).1
  simp at this;rw[show g-F.length=0 by omega] at hy
  injection hy with hy;subst hy;exact hx
theorem dK.getD {F:List cI} (h:dK F) (f:Nat):(F.getD f ⟨0,0,0,false,[],[]⟩).vars.length≤200∧(F.getD f ⟨0,0,0,false,[],[]⟩).bz.length≤60:=by
 rw[jU];cases e:F[f]? with
 | none=>exact⟨aR _,aR _⟩
 | some x=>exact h f x e
structure Mk (a b:Nat) (st st':aG):Prop where
 few:dK st'.fns
 names:st'.names.length≤st.names.length+a
 fns:st'.fns.length≤st.fns.length+b
 least:st.fns.length≤st'.fns.length
 frames:st'.frames.length=st.frames.length
theorem Mk.trans {a b c d:Nat} {x y z:aG} (h:Mk a b x y) (k:Mk c d y z):Mk (a+c) (b+d) x z:=⟨k.few,by have:=h.names;have:=k.names;omega,by have:=h.fns;have:=k.fns;omega,aK h.least k.least,k.frames.trans h.frames⟩
theorem IY {n f:Nat} {l:Int} :∀(ns:List ByteArray) {st st':aG},dJ n f l ns st=.ok st'→dK st.fns→Mk ns.length 0 st st':=by
 intro ns;induction ns with
 | nil =>
  intro st st' h hF;rw[dJ] at h;injection h with h;subst h;exact⟨hF,by simp,by simp,ah _,rfl⟩
 | cons s ns ih =>
  intro st st' h hF;rw[dJ] at h;split at h
  ·cases h
  ·rename_i hlt
   have h1:=ih h (hF.set ⟨by simp;omega,(hF.getD f).2⟩)
   refine⟨h1.few,?_,?_,?_,h1.frames⟩
   ·have:=h1.names
    simp only[List.length_cons] at this ⊢;omega
   ·have:=h1.fns
    simp only[aG.oX,mn] at this;omega
   ·have:=h1.least
    simp only[aG.oX,mn] at this;omega
theorem jL {n f:Nat} {l:Int} {ns:List ByteArray} {st st':aG} (h:bw n f l ns st=.ok st') (hF:dK st.fns):Mk ns.length 0 st st':=by
 have:=IY ns h hF;exact⟨this.few,this.names,this.fns,this.least,this.frames⟩
theorem xy {F F':List cI} {f k:Nat} {u:sG} (h:gD F f u=some (F',k)) (hF:dK F):dK F'∧F'.length=F.length:=by
 unfold gD at h;dsimp only at h
 split at h
 ·injection h with h
  injection h with h1 _;subst h1;exact⟨hF,rfl⟩
 ·split at h
  ·cases h
  ·injection h with h
   injection h with h1 _;subst h1;rename_i hlt;exact⟨hF.set ⟨(hF.getD f).1,by rw[bV,mM];omega⟩,by simp⟩
theorem Bh {n:jr} :∀(g:Nat) {F F':List cI} {f k:Nat},lX n g F f=some (F',k)→dK F→dK F'∧F'.length=F.length:=by
 intro g;induction g with
 | zero=>intro F F' f k h;cases h
 | succ g ih =>
  intro F F' f k h hF;rw[lX] at h;split at h
  ·exact xy h hF
  ·split at h
   ·cases h
   ·rename_i F1 k1 h1
    obtain⟨a1,a2⟩:=ih h1 hF;obtain⟨b1,b2⟩:=xy h a1;exact⟨b1,b2.trans a2⟩
theorem rJ (x:cI) (i:Nat):(cP x i).vars.length=x.vars.length∧(cP x i).bz=x.bz:=by
 unfold cP;refine⟨?_,rfl⟩;dsimp only
 split<;>simp
theorem Yo {n f:Nat} {s:ByteArray} {l:Int} {st st':aG} (h:lY n f s l st=.ok st') (hF:dK st.fns):Mk 0 0 st st':=by
 unfold lY at h;split at h
 ·injection h with h
  subst h;exact⟨hF,ah _,ah _,ah _,rfl⟩
 ·rename_i x _
  split at h
  ·injection h with h
   subst h;exact⟨hF,ah _,ah _,ah _,rfl⟩
  ·split at h
   ·cases h
   ·rename_i F k hk
    injection h with h;subst h;have e:=rJ (st.fn x.fn) x.i;obtain⟨a1,a2⟩:=Bh _ hk (hF.set ⟨by rw[e.1];exact(hF.getD x.fn).1,by rw[e.2];exact(hF.getD x.fn).2⟩)
    rw[mn] at a2;exact⟨a1,ah _,Nat.le_of_eq a2,Nat.le_of_eq a2.symm,rfl⟩
theorem NS {n f:Nat} {l:Int} {st st':aG} (h:dT n f l st=.ok st') (hF:dK st.fns):Mk 0 0 st st':=by
 unfold dT at h;split at h
 ·cases h
 ·injection h with h
  subst h;exact⟨hF,ah _,ah _,ah _,rfl⟩
theorem Tp {n f:Nat} {s:ByteArray} {l:Int} {st st':aG} (hF:dK st.fns) :∀(fr:List fw),db n f s l st fr=.ok st'→Mk 0 0 st st':=by
 intro fr;induction fr with
 | nil=>intro h;cases h
 | cons x fr ih =>
  intro h;rw[db] at h;split at h
  ·exact ih h
  ·split at h
   ·exact ih h
   ·split at h
    ·cases h
    ·injection h with h
     subst h;exact⟨hF,ah _,ah _,ah _,rfl⟩
theorem Bi {i f:Nat} {rep:Bool} {ks:List Lt} {st st':aG} (h:gX i f rep ks st=.ok st'):st'={ st with frames:=⟨f,i,0,false,rep,ks⟩::st.frames}:=by
 unfold gX at h;split at h
 ·cases h
 ·injection h with h
  exact h.symm
theorem eh {α β:Type} {x:Rs α} {g:α→β} {y:β} (h:x.map g=.ok y) :∃a,x=.ok a∧y=g a:=by
 cases x with
 | error e=>cases h
 | ok a=>injection h with h;exact⟨a,rfl,h.symm⟩
theorem bQ {α β:Type} {x:Rs α} {g:α→Rs β} {y:β} (h:x.bind g=.ok y) :∃a,x=.ok a∧g a=.ok y:=by
 cases x with
 | error e=>cases h
 | ok a=>exact⟨a,rfl,h⟩
theorem aa6 {a b:Nat} {st st':aG} {n:Nat} (h:Mk a b (st.at n) st'):Mk a b st st':=⟨h.few,h.names,h.fns,h.least,h.frames.trans (by unfold aG.at;cases st.frames<;>rfl)⟩
theorem back_mk {a b:Nat} {st st':aG} {fr:List fw} (h:Mk a b { st with frames:=fr} st'):Mk 0 b st (st'.back st):=⟨h.few,ah _,h.fns,h.least,rfl⟩
mutual
theorem og :∀(t:Lt) {f:Nat} {st st':aG},bg t f st=.ok st'→dK st.fns→Mk t.wt t.size st st'
 | .mk i h ks,f,mu,st',hr,hF=>by
  rw[cK] at hr;rw[Lt.wt,Lt.size];have hF:dK (mu.setOf i f).fns:=hF;have key :∀{a b:Nat},Mk a b (mu.setOf i f) st'→a≤h.names.length+Lt.eY ks→b≤Lt.al ks+1→Mk (h.names.length+Lt.eY ks) (Lt.al ks+1) mu st':=fun h h1 h2=>⟨h.few,by have:_≤mu.names.length+_:=h.names;omega,by have:_≤mu.fns.length+_:=h.fns;omega,h.least,h.frames⟩
  generalize mu.setOf i f=st at *;split at hr
  ·split at hr
   ·injection hr with hr
    subst hr;exact key (a:=0) (b:=0) ⟨hF,ah _,ah _,ah _,rfl⟩ (aR _) (aR _)
   ·cases hr
  split at hr
  ·exact key (Yo hr hF) (aR _) (aR _)
  split at hr
  ·obtain⟨s1,e1,hr⟩:=bQ hr
   obtain⟨s2,e2,rfl⟩:=eh hr;have h1:=jL e1 (show dK (st.fns++[_]) from hF.app ⟨aR _,aR _⟩)
   have h2:=iM ks e2 h1.few;refine key (a:=0) (b:=Lt.al ks+1) ⟨h2.few,ah _,?_,?_,rfl⟩ (aR _) (ah _)
   ·have h3:s1.fns.length≤(st.fns++[_]).length+0:=h1.fns
    have h4:=h2.fns;rw[bV,mM] at h3;show s2.fns.length≤_
    omega
   ·have h3:(st.fns++[_]).length≤s1.fns.length:=h1.least
    have h4:=h2.least;rw[bV,mM] at h3;show _≤s2.fns.length
    omega
  split at hr
  ·obtain⟨s1,e1,hr⟩:=bQ hr
   obtain⟨s2,e2,rfl⟩:=eh hr;have e1:=Bi e1;subst e1;exact key (back_mk (uW ks e2 hF)) (aR _) (by omega)
  split at hr
  ·obtain⟨s1,e1,e2⟩:=bQ hr
   have h1:=iM ks e1 hF;exact key (h1.trans (jL e2 h1.few)) (by omega) (by omega)
  split at hr
  ·obtain⟨s2,e2,rfl⟩:=eh hr
   exact key (back_mk (iM ks e2 hF)) (aR _) (by omega)
  split at hr
  ·obtain⟨s2,e2,rfl⟩:=eh hr
   obtain⟨a1,a2,a3⟩:=Yp ks e2 hF;exact key (a:=0) (b:=Lt.al ks) ⟨a1,ah _,a2,a3,rfl⟩ (aR _) (by omega)
  split at hr
  ·exact key (NW ks hr hF) (by omega) (by omega)
  split at hr
  ·obtain⟨s1,e1,e2⟩:=bQ hr
   have h1:=jL e1 hF;exact key (h1.trans (iM ks e2 h1.few)) (by omega) (by omega)
  split at hr
  ·exact key (NS hr hF) (aR _) (aR _)
  split at hr
  ·exact key (Tp hF _ hr) (aR _) (aR _)
  exact key (iM ks hr hF) (by omega) (by omega)
theorem iM :∀(ks:List Lt) {f:Nat} {st st':aG},aH ks f st=.ok st'→dK st.fns→Mk (Lt.eY ks) (Lt.al ks) st st'
 | [],f,st,st',hr,hF=>by
  rw[eZ] at hr;injection hr with hr;subst hr;exact⟨hF,gy _ _,gy _ _,ah _,rfl⟩
 | k::ks,f,st,st',hr,hF=>by
  rw[eP] at hr;obtain⟨s1,e1,e2⟩:=bQ hr;rw[Lt.eY,Lt.al];have h1:=og k e1 hF;exact h1.trans (iM ks e2 h1.few)
theorem uW :∀(ks:List Lt) {n f:Nat} {st st':aG},cM ks n f st=.ok st'→dK st.fns→Mk (Lt.eY ks) (Lt.al ks) st st'
 | [],n,f,st,st',hr,hF=>by
  rw[rI] at hr;injection hr with hr;subst hr;exact⟨hF,gy _ _,gy _ _,ah _,rfl⟩
 | k::ks,n,f,st,st',hr,hF=>by
  rw[il] at hr;obtain⟨s1,e1,e2⟩:=bQ hr;rw[Lt.eY,Lt.al];have h1:=aa6 (og k e1 hF);exact h1.trans (uW ks e2 h1.few)
theorem Yp :∀(ks:List Lt) {f:Nat} {st st':aG},kA ks f st=.ok st'→dK st.fns→dK st'.fns∧st'.fns.length≤st.fns.length+Lt.al ks∧st.fns.length≤st'.fns.length
 | [],f,st,st',hr,hF=>by
  unfold kA at hr;injection hr with hr;subst hr;exact⟨hF,gy _ _,ah _⟩
 | [.mk _ _ _],f,st,st',hr,hF=>by
  unfold kA at hr;injection hr with hr;subst hr;exact⟨hF,gy _ _,ah _⟩
 | .mk _ _ _::_::_::_,f,st,st',hr,hF=>by
  unfold kA at hr;injection hr with hr;subst hr;exact⟨hF,gy _ _,ah _⟩
 | [.mk i h ks,t],f,st,st',hr,hF=>by
  rw[yS] at hr;obtain⟨s1,e1,hr⟩:=bQ hr;obtain⟨s2,e2,e3⟩:=bQ hr;have e1:=Bi e1;subst e1;have h1:=uW ks e2 hF;have h2:=og t e3 h1.few;refine⟨h2.few,?_,?_⟩
  ·have h3:s2.fns.length≤st.fns.length+_:=h1.fns
   have:=h2.fns;simp only[Lt.al,Lt.size];omega
  ·exact aK (show st.fns.length≤s2.fns.length from h1.least) h2.least
theorem NW {i:Nat} {line:Int} {names:List ByteArray} :∀(ks:List Lt) {f:Nat} {st st':aG},iL i line names ks f st=.ok st'→dK st.fns→Mk (Lt.eY ks) (Lt.al ks) st st'
 | [],f,st,st',hr,hF=>by
  unfold iL at hr;injection hr with hr;subst hr;exact⟨hF,gy _ _,gy _ _,ah _,rfl⟩
 | [b],f,st,st',hr,hF=>by
  rw[nL] at hr;obtain⟨s1,e1,hr⟩:=bQ hr;obtain⟨s2,e2,rfl⟩:=eh hr;have h1:=jL e1 (show dK (di i f st).fns from hF)
  have h2:=og b e2 h1.few;simp only[Lt.eY,Lt.al];refine⟨h2.few,gy _ _,?_,?_,rfl⟩
  ·have h3:s1.fns.length≤st.fns.length+0:=h1.fns
   have:=h2.fns;show s2.fns.length≤_
   omega
  ·exact aK (show st.fns.length≤s1.fns.length from h1.least) h2.least
 | a::b::l,f,st,st',hr,hF=>by
  rw[ju] at hr;obtain⟨s1,e1,e2⟩:=bQ hr;have h1:=og a e1 hF;rw[Lt.eY,Lt.al];exact h1.trans (NW (b::l) e2 h1.few)
end
mutual
def Ast.lt:Ast→Lt
 | .mk h ks=>.mk 0 h (Ast.Tq ks)
def Ast.Tq:List Ast→List Lt
 | []=>[]
 | a::xz=>Ast.lt a::Ast.Tq xz
end
mutual
theorem NX {T:List Nd} :∀(a:Ast) (i:Nat) (js:List Nat),gO T a i js→∃t:Lt,Lt.In T t∧t.loc=i∧t.gR=js∧mD id a.lt t
 | .mk h xz,i,js,hr=>by
  unfold gO at hr;obtain⟨x,sd,hx,he,hs,rfl⟩:=hr;obtain⟨ts,h1,h2,h3,h4⟩:=Ft xz x.kids sd hs;refine⟨.mk i x ts,?_,rfl,?_,?_⟩
  ·unfold Lt.In
   exact⟨hx,h2,h1⟩
  ·rw[Lt.gR,h3]
  ·rw[Ast.lt]
   unfold mD;have e1:x.kind=h.kind:=by rw[he]
   have e2:x.num=h.num:=by rw[he]
   have e3:x.s=h.s:=by rw[he]
   have e4:x.names=h.names:=by rw[he]
   exact⟨e1,e2,e3,by rw[List.map_id];exact e4,h4⟩
theorem Ft {T:List Nd} :∀(xz:List Ast) (ks:List Int) (js:List Nat),bj T xz ks js→∃ts:List Lt,Lt.uP T ts∧ks=ts.map (fun k=>(k.loc:Int))∧Lt.bs ts=js∧cW id (Ast.Tq xz) ts
 | [],ks,js,hr=>by
  unfold bj at hr;obtain⟨rfl,rfl⟩:=hr;refine⟨[],?_,rfl,?_,?_⟩
  ·unfold Lt.uP;trivial
  ·rw[Lt.bs]
  ·rw[Ast.Tq];unfold cW;rfl
 | a::xz,ks,js,hr=>by
  unfold bj at hr;obtain⟨k,ir,j1,j2,rfl,h1,h2,rfl⟩:=hr;obtain⟨t,a1,a2,a3,a4⟩:=NX a k j1 h1;obtain⟨ts,b1,b2,b3,b4⟩:=Ft xz ir j2 h2;refine⟨t::ts,?_,?_,?_,?_⟩
  ·unfold Lt.uP;exact⟨a1,b1⟩
  ·rw[fX,a2,b2]
  ·rw[Lt.bs,a3,b3]
  ·rw[Ast.Tq];unfold cW;exact⟨t,ts,rfl,a4,b4⟩
end
def kC (r:Rs aG):Prop:=∀x,r=.error x→∃k:Nat,x.1=(k:Int)∧8≤k∧k≤14
theorem eE (st:aG):kC (.ok st):=fun x h=>by cases h
theorem ma {k:Nat} {l:Int} (h:8≤k∧k≤14):kC (.error ((k:Int),l)):=fun x e=>by injection e with e;exact⟨k,by rw[←e],h.1,h.2⟩
theorem nM {r:Rs aG} (h:kC r) (g:aG→aG):kC (r.map g):=fun x e=>by
 cases r with
 | ok s=>cases e
 | error y=>injection e with e;exact h x (by rw[e])
theorem ey {r:Rs aG} (h:kC r) {g:aG→Rs aG} (hg :∀s,kC (g s)):kC (r.bind g):=fun x e=>by
 cases r with
 | ok s=>exact hg s x e
 | error y=>injection e with e;exact h x (by rw[e])
theorem jM {n f:Nat} {l:Int} :∀(ns:List ByteArray) (st:aG),kC (dJ n f l ns st)
 | [],st=>eE _
 | s::ns,st=>by
  rw[dJ];split
  ·exact ma (k:=11) (by omega)
  ·exact jM ns _
theorem NY {n f:Nat} {s:ByteArray} {l:Int} (st:aG):kC (lY n f s l st):=by
 unfold lY;split
 ·exact eE _
 ·split
  ·exact eE _
  ·split
   ·exact ma (k:=12) (by omega)
   ·exact eE _
theorem DH {n f:Nat} {l:Int} (st:aG):kC (dT n f l st):=by
 unfold dT;split
 ·exact ma (k:=8) (by omega)
 ·exact eE _
theorem xA {i f:Nat} {rep:Bool} {ks:List Lt} (st:aG):kC (gX i f rep ks st):=by
 unfold gX;split
 ·exact ma (k:=9) (by omega)
 ·exact eE _
theorem pF {n f:Nat} {s:ByteArray} {l:Int} (st:aG) :∀fr:List fw,kC (db n f s l st fr)
 | []=>by rw[db];exact ma (k:=8) (by omega)
 | x::fr=>by
  rw[db];split
  ·exact pF st fr
  ·split
   ·exact pF st fr
   ·split
    ·exact ma (k:=10) (by omega)
    ·exact eE _
mutual
theorem ld :∀(t:Lt) (f:Nat) (st:aG),kC (bg t f st)
 | .mk i h ks,f,mu=>by
  rw[cK];generalize mu.setOf i f=st;split
  ·split
   ·exact eE _
   ·exact ma (k:=14) (by omega)
  split
  ·exact NY _
  split
  ·exact ey (jM _ _) fun s=>nM (jw ks _ s) _
  split
  ·exact ey (xA _) fun s=>nM (rK ks _ _ s) _
  split
  ·exact ey (jw ks _ _) fun s=>jM _ _
  split
  ·exact nM (jw ks _ _) _
  split
  ·exact nM (Ts ks _ _) _
  split
  ·exact Fu ks _ _
  split
  ·exact ey (jM _ _) fun s=>jw ks _ s
  split
  ·exact DH _
  split
  ·exact pF _ _
  exact jw ks _ _
theorem jw :∀(ks:List Lt) (f:Nat) (st:aG),kC (aH ks f st)
 | [],f,st=>by rw[eZ];exact eE _
 | k::ks,f,st=>by rw[eP];exact ey (ld k f st) fun s=>jw ks f s
theorem rK :∀(ks:List Lt) (n f:Nat) (st:aG),kC (cM ks n f st)
 | [],n,f,st=>by rw[rI];exact eE _
 | k::ks,n,f,st=>by rw[il];exact ey (ld k f _) fun s=>rK ks _ f s
theorem Ts :∀(ks:List Lt) (f:Nat) (st:aG),kC (kA ks f st)
 | [],f,st=>by unfold kA;exact eE _
 | [.mk _ _ _],f,st=>by unfold kA;exact eE _
 | [.mk i h ks,t],f,st=>by
  rw[yS];exact ey (xA _) fun s=>ey (rK ks _ _ s) fun s=>ld t f s
 | .mk _ _ _::_::_::_,f,st=>by unfold kA;exact eE _
theorem Fu {i:Nat} {line:Int} {names:List ByteArray} :∀(ks:List Lt) (f:Nat) (st:aG),kC (iL i line names ks f st)
 | [],f,st=>by unfold iL;exact eE _
 | [b],f,st=>by rw[nL];exact ey (jM _ _) fun s=>nM (ld b f s) _
 | a::b::l,f,st=>by rw[ju];exact ey (ld a f st) fun s=>Fu (b::l) f s
end
theorem tz (t:Lt):kC (kX t):=ld t 0 _
def tA (k:Int):Prop:=1≤k∧k≤15
def StK (k:Int):Prop:=19≤k∧k≤32∧k≠29
structure qw (k n:Int) (kk:List Int):Prop where
 none:(k=1∨k=2∨k=3∨k=4∨k=5∨k=6∨k=7∨k=30∨k=31∨k=32)→kk=[]
 two:(k=8∨k=12∨k=17)→∃a b,kk=[a,b]∧tA a∧tA b
 call:(k=9∨k=10)→1≤kk.length∧∀a∈kk,tA a
 body:(k=11∨k=22)→kk=[18]
 one:(k=13∨k=14∨k=16)→∃a,kk=[a]∧tA a
 items:k=15→∀a∈kk,a=16∨a=17
 block:k=18→∃l r,kk=l++r∧(∀a∈l,StK a)∧(r=[]∨r=[29])
 list:(k=19∨k=29)→∀a∈kk,tA a
 assign:k=20→∃l r,kk=l++r∧(∀a∈l,a=7∨a=8)∧(1≤n→(l.length:Int)=n)∧1≤r.length∧∀a∈r,tA a
 Yq:k=21→∃a,kk=[a]∧(a=9∨a=10)
 Yr:k=23→∃a,kk=[a,18]∧tA a
 Fv:k=24→∃a,kk=[18,a]∧tA a
 if_:k=25→∃(ps:List (Int×Int)) (r:List Int),kk=(ps.flatMap fun p:Int×Int=>[p.1,p.2])++r∧1≤ps.length∧(∀p∈ps,tA p.1∧p.2=18)∧(r=[]∨r=[18])
 for_:k=26→∃l,kk=l++[18]∧(l.length=2∨l.length=3)∧∀a∈l,tA a
 each:k=27→∃l,kk=l++[18]∧(1≤n→(l.length:Int)=n)∧∀a∈l,tA a
 func:k=28→kk=[11]
def oG (ks:List Lt):List Int:=ks.map fun k=>k.hd.kind
mutual
/-- A tree all of whose nodes have such Kids. -/
def Lt.uX:Lt→Prop
 | .mk _ h ks=>qw h.kind h.num (oG ks)∧Lt.iB ks
def Lt.iB:List Lt→Prop
 | []=>True
 | k::ks=>Lt.uX k∧Lt.iB ks
end
open Go.RowKit
def JZ (ty:TypeId) (W W':World):Prop:=W.heap.size≤W'.heap.size∧∀(k:Nat) c e fz,W.heap[k]? = some (.cells c e fz)→e≠ty→W'.heap[k]? = some (.cells c e fz)
theorem JZ.set {ty:TypeId} {W:World} {g:Nat} {cs:Array Value} {fz:Nat×Nat} (h:W.heap[g]? = some (.cells cs ty fz)) (j:Nat) (v:Value):JZ ty W (W.setCell ⟨g,j,none⟩ v) :=
 ⟨by simp[World.setCell],fun k c e f hk he=>(Below.heap_setCell W ⟨g,j,none⟩ v k (fun(e':k=g)=>by
  subst e';rw[h] at hk;injection hk with hk;injection hk with _ hk;exact he hk.symm)).trans hk⟩
theorem cQ {W W':World} {B e s n:Nat} {ty:TypeId} {v:Value} {xs:List Value} (h:W.ownsRow B e s v n xs) (ho:JZ ty W W') (he:e≠ty):W'.ownsRow B e s v n xs:=by
 refine⟨h.1,?_⟩;rcases h.2 with hn | ⟨g,cap,cur,rfl,hB,hg,rest⟩
 ·exact .inl hn
 ·exact .inr ⟨g,cap,cur,rfl,hB,ho.2 g _ _ _ hg he,rest⟩
def s6 (v:jn):List Value:=[.string v.name,.int .i64 (v.node:Int),.bool v.cap]
def Fw (u:sG):List Value:=[.bool u.loc,.int .i64 (u.idx:Int)]
abbrev mF:=cI×Value×Value
def NZ (t:mF):List Value:=[.int .i64 (t.1.node:Int),.int .i64 t.1.parent,.int .i64 (t.1.params:Int),.bool t.1.many,t.2.1,t.2.2]
def fx (W:World) (B:Nat) (ty:TypeId) (s b n:Nat) (f:Nat→Value):Prop:=W.ownsRow B ty s (.slice (some ⟨b,0,none⟩) n n) n ((List.range (n*s)).map f)
def vX (u:Nat→Int×Int):Nat→Value:=fun j=>if j % 2=0 then .int .i64 (u (j / 2)).1 else .int .i64 (u (j / 2)).2
def Qw (o:Nat→Int):Nat→Value:=fun j=>.int .i64 (o j)
def Bj (W:World) (B:Nat) (v:Value) (xs:List ByteArray):Prop :=
 ∃A c,v=.slice A xs.length c∧xs.length≤c∧(xs=[]∨∃bk o,A=some ⟨bk,o,none⟩∧bk<B∧∀(j:Nat) x,xs[j]? = some x→W.cell? ⟨bk,o+j,none⟩=some (.string x))
def gF (W:World) (B:Nat) (v:Value) (xs:List Int):Prop :=
 ∃A c,v=.slice A xs.length c∧xs.length≤c∧(xs=[]∨∃bk o,A=some ⟨bk,o,none⟩∧bk<B∧∀(j:Nat) x,xs[j]? = some x→W.cell? ⟨bk,o+j,none⟩=some (.int .i64 x))
theorem Bj.below {W W':World} {B:Nat} {v:Value} {xs:List ByteArray} (h:Bj W B v xs) (hb:Below B W W'):Bj W' B v xs:=by
 obtain⟨A,c,e,hc,h | ⟨bk,o,e2,hk,hx⟩⟩:=h
 ·exact⟨A,c,e,hc,.inl h⟩
 ·exact⟨A,c,e,hc,.inr ⟨bk,o,e2,hk,fun j x hj=>(hb.cell (p:=⟨bk,o+j,none⟩) hk).trans (hx j x hj)⟩⟩
theorem gF.below {W W':World} {B:Nat} {v:Value} {xs:List Int} (h:gF W B v xs) (hb:Below B W W'):gF W' B v xs:=by
 obtain⟨A,c,e,hc,h | ⟨bk,o,e2,hk,hx⟩⟩:=h
 ·exact⟨A,c,e,hc,.inl h⟩
 ·exact⟨A,c,e,hc,.inr ⟨bk,o,e2,hk,fun j x hj=>(hb.cell (p:=⟨bk,o+j,none⟩) hk).trans (hx j x hj)⟩⟩
structure vY (W:World) (B:Nat) (nv:Value) (T:List Nd):Prop where
 ex :∃W0 bk o c,nv=.slice (some ⟨bk,o,none⟩) T.length c∧bk<B∧W0.heap.size=B∧tl W0 bk o T∧Below B W0 W
 few:T.length≤20000
 small :∀x∈T,x.kids.length≤20000∧x.names.length≤20000
theorem vY.nodes {W:World} {B:Nat} {nv:Value} {T:List Nd} (h:vY W B nv T) :∃bk o c,nv=.slice (some ⟨bk,o,none⟩) T.length c∧bk<B∧B≤W.heap.size∧∀(i:Nat) x,T[i]? = some x→∃nv kv,lQ W bk (o+i*7) x nv kv∧Bj W B nv x.names∧gF W B kv x.kids:=by
 obtain⟨W0,bk,o,c,e,hb,hs,hn,hbl⟩:=h.ex;refine⟨bk,o,c,e,hb,by have:=hbl.size;omega,fun i x hx=>?_⟩
 obtain⟨nv,kv,h1,⟨A,c1,e1,hc1,h2⟩,⟨A',c2,e2,hc2,h3⟩⟩:=hn i x hx;refine⟨nv,kv,h1.below hbl hb,Bj.below (B:=B) ⟨A,c1,e1,hc1,?_⟩ hbl,gF.below (B:=B) ⟨A',c2,e2,hc2,?_⟩ hbl⟩
 ·rcases h2 with h2 | ⟨x1,x2,x3,x4,x5⟩
  ·exact .inl h2
  ·exact .inr ⟨x1,x2,x3,by omega,x5⟩
 ·rcases h3 with h3 | ⟨x1,x2,x3,x4,x5⟩
  ·exact .inl h3
  ·exact .inr ⟨x1,x2,x3,by omega,x5⟩
theorem vY.below {W W':World} {B:Nat} {nv:Value} {T:List Nd} (h:vY W B nv T) (hb:Below B W W'):vY W' B nv T:=by
 obtain⟨W0,bk,o,c,e,h1,hs,hn,hbl⟩:=h.ex;exact⟨⟨W0,bk,o,c,e,h1,hs,hn,hbl.trans hb⟩,h.few,h.small⟩
theorem cZ {W:World} {B:Nat} {ty:TypeId} {s b n:Nat} {f:Nat→Value} (h:fx W B ty s b n f) {j:Nat} (hj:j<n*s):W.cell? ⟨b,j,none⟩=some (f j)∧W.frozen? ⟨b,j,none⟩=false:=by
 refine⟨?_,World.ownsRow.frozenAt h j⟩;rw[World.ownsRow.cellAt h j hj,gw,Kf hj];rfl
theorem Fx {W:World} {B:Nat} {ty:TypeId} {s b n:Nat} {f g:Nat→Value} (h:fx W B ty s b n f) (he :∀j,j<n*s→f j=g j):fx W B ty s b n g:=by
 unfold fx at h ⊢;rw[show(List.range (n*s)).map g=(List.range (n*s)).map f from List.map_congr_left fun j hj=>(he j (Ei.1 hj)).symm]
 exact h
theorem qx {W:World} {B:Nat} {ty:TypeId} {s b n:Nat} {f:Nat→Value} (h:fx W B ty s b n f) (j:Nat) (v:Value):fx (W.setCell ⟨b,j,none⟩ v) B ty s b n (fun i=>if i=j then v else f i):=by
 have h1:=(World.ownsRow.stored h j v).1;unfold fx;rw[show(List.range (n*s)).map (fun i=>if i=j then v else f i)=((List.range (n*s)).map f).set j v from ?_]
 ·exact h1
 ·refine Km fun i=>?_
  rw[gw,List.getElem?_set];by_cases hi:j=i
  ·subst hi
   rw[ak rfl,cN,List.length_range];by_cases hl:j<n*s
   ·rw[ak hl,Kf hl];simp
   ·rw[af hl,wo (by simpa using hl)];rfl
  ·rw[af hi,gw]
   by_cases hl:i<n*s
   ·rw[Kf hl]
    simp only[oN];rw[af fun e=>hi e.symm]
   ·rw[wo (by simpa using hl)];rfl
theorem lf {W:World} {B:Nat} {ty:TypeId} {s b n:Nat} {f:Nat→Value} (h:fx W B ty s b n f) :∃cs,W.heap[b]? = some (.cells cs ty (0,0)):=by
 rcases h.2 with ⟨e,_⟩ | ⟨g,cap,cur,e,_,hg,_⟩
 ·cases e
 ·injection e with e
  injection e with e;injection e with e _;subst e;exact⟨cur,hg⟩
theorem N0 {W:World} {B b n:Nat} {ty:TypeId} {u:Nat→Int×Int} (h:fx W B ty 2 b n (vX u)) (i:Nat) (x:Int×Int) :
  fx ((W.setCell ⟨b,i*2,none⟩ (.int .i64 x.1)).setCell ⟨b,i*2+1,none⟩ (.int .i64 x.2)) B ty 2 b n (vX fun j=>if j=i then x else u j):=by
 refine Fx (qx (qx h (i*2) (.int .i64 x.1)) (i*2+1) (.int .i64 x.2)) fun j _=>?_
 unfold vX;by_cases h1:j=i*2+1
 ·subst h1
  rw[ak rfl,af (by omega)]
  dsimp only
  rw[ak (by omega)]
 ·rw[af h1]
  by_cases h2:j=i*2
  ·subst h2
   rw[ak rfl,ak (by omega)]
   dsimp only
   rw[ak (by omega)]
  ·rw[af h2]
   by_cases h3:j % 2=0
   ·rw[ak h3,ak h3]
    dsimp only
    rw[af (by omega)]
   ·rw[af h3,af h3]
    dsimp only
    rw[af (by omega)]
theorem Ys {W:World} {B b n:Nat} {ty:TypeId} {o:Nat→Int} (h:fx W B ty 1 b n (Qw o)) (i:Nat) (x:Int):fx (W.setCell ⟨b,i,none⟩ (.int .i64 x)) B ty 1 b n (Qw fun j=>if j=i then x else o j):=by
 refine Fx (qx h i (.int .i64 x)) fun j _=>?_
 unfold Qw;by_cases h1:j=i
 ·rw[ak h1]
  dsimp only
  rw[ak h1]
 ·rw[af h1]
  dsimp only
  rw[af h1]
theorem lh {W W':World} {B:Nat} {ty ty':TypeId} {s g n:Nat} {f:Nat→Value} (h:fx W B ty s g n f) (ho:JZ ty' W W') (he:ty≠ty'):fx W' B ty s g n f:=cQ h ho he
theorem e7 {α:Type} {f:α→List Value} {s:Nat} (hs :∀a,(f a).length=s) :∀(l:List α) (i j:Nat) (a:α),l[i]? = some a→j<s→(l.flatMap f)[i*s+j]? = (f a)[j]?
 | [],i,j,a,h,_=>by simp at h
 | x::l,0,j,a,h,hj=>by
  injection h with h;subst h;rw[jc,Nat.zero_mul,jX,kF (by rw[hs];exact hj)]
 | x::l,i+1,j,a,h,hj=>by
  rw[jc,zA (by rw[hs,En];omega),hs,show(i+1)*s+j-s=i*s+j by rw[En];omega]
  exact e7 hs l i j a h hj
theorem qy (x:mF):(NZ x).length=6:=rfl
theorem uY (x:jn):(s6 x).length=3:=rfl
theorem tB (x:sG):(Fw x).length=2:=rfl
theorem uZ {T:List Nd} {ks:List Lt} (oa:Lt.uP T ks) {k:Nat} {x:Lt} (hx:ks[k]? = some x):Lt.In T x∧T[x.loc]? = some x.hd:=by
 have h:=Fq oa x (ba hx);exact⟨h,(DG h).2.1⟩
theorem ab {W:World} {g:Nat} {cs:Array Value} {ty:TypeId} (h:W.heap[g]? = some (.cells cs ty (0,0))) (j:Nat):W.cell? ⟨g,j,none⟩=cs[j]?:=cell_of_row W g j cs ty (0,0) h
theorem aw {W:World} {g:Nat} {cs:Array Value} {ty:TypeId} (h:W.heap[g]? = some (.cells cs ty (0,0))) (j:Nat):W.frozen? ⟨g,j,none⟩=false:=frozen_of_row W g j cs ty h
theorem bt {W:World} {g:Nat} {cs:Array Value} {ty:TypeId} (h:W.heap[g]? = some (.cells cs ty (0,0))) (j:Nat) (v:Value):(W.setCell ⟨g,j,none⟩ v).heap[g]? = some (.cells (cs.setIfInBounds j v) ty (0,0)):=by
 simp[World.setCell,Array.getElem?_modify,h]
theorem dE {W:World} {B e s n:Nat} {v:Value} {xs:List Value} (h:W.ownsRow B e s v n xs) :∃A c,v=.slice A n c∧n≤c∧(n=0∨∃g,A=some ⟨g,0,none⟩∧B≤g∧g<W.heap.size∧∀j,j<n*s→W.cell? ⟨g,j,none⟩=xs[j]?):=by
 rcases h.2 with ⟨rfl,h0⟩ | ⟨g,cap,cur,rfl,hB,hg,hn,hc,hs,ht⟩
 ·exact⟨none,0,by rw[h0],by omega,.inl h0⟩
 ·exact⟨_,cap,rfl,hn,.inr ⟨g,rfl,hB,(aI.1 hg).1,fun j hj=>World.ownsRow.cellAt h j hj⟩⟩
def qT (o:Option Nat) (W W':World):Prop:=W.heap.size≤W'.heap.size∧∀k,k<W.heap.size→o≠some k→W'.heap[k]? = W.heap[k]?
theorem qT.set (W:World) (g j:Nat) (v:Value):qT (some g) W (W.setCell ⟨g,j,none⟩ v):=⟨by simp[World.setCell],fun k _ hn=>Below.heap_setCell W ⟨g,j,none⟩ v k fun e=>hn (by rw[e])⟩
theorem qT.row {W W':World} {o:Option Nat} {B e s n:Nat} {v:Value} {xs:List Value} (hb:qT o W W') (h:W.ownsRow B e s v n xs) (hd :∀g,v.ownBlock=some g→o≠some g):W'.ownsRow B e s v n xs:=by
 refine⟨h.1,?_⟩;rcases h.2 with hn | ⟨g,cap,cur,rfl,hB,hg,rest⟩
 ·exact .inl hn
 ·exact .inr ⟨g,cap,cur,rfl,hB,(hb.2 g (aI.1 hg).1 (hd g rfl)).trans hg,rest⟩
theorem ed {W:World} {B B' e e' s s' n n':Nat} {v v':Value} {xs xs':List Value} (h:W.ownsRow B e s v n xs) (h':W.ownsRow B' e' s' v' n' xs') (he:e≠e') :∀g,v.ownBlock=some g→v'.ownBlock≠some g:=fun g hg vI=>by
 obtain⟨c,fz,h1⟩:=Lib.ownsRow_kind h g hg;obtain⟨c',Yt,h2⟩:=Lib.ownsRow_kind h' g vI;rw[h1] at h2;injection h2 with h2;injection h2 with _ h2;exact he h2
theorem qz {α:Type} {f:α→List Value} {s:Nat} (hs :∀a,(f a).length=s) :∀(l:List α) (i j:Nat) (a b:α) (v:Value),l[i]? = some a→j<s→f b=(f a).set j v→(l.set i b).flatMap f=(l.flatMap f).set (i*s+j) v
 | [],i,j,a,b,v,h,_,_=>by simp at h
 | x::l,0,j,a,b,v,h,hj,hb=>by
  injection h with h;subst h;rw[dB,jc,jc,Nat.zero_mul,jX,hb,List.set_append_left _ _ (by rw[hs];exact hj)]
 | x::l,i+1,j,a,b,v,h,hj,hb=>by
  rw[dC,jc,jc,List.set_append_right _ _ (by rw[hs,En];omega),qz hs l i j a b v h hj hb,hs,show(i+1)*s+j-s=i*s+j by rw[En];omega]
theorem qT.Yu {W W1:World} {o:Option Nat} {ty:TypeId} (h:qT o W W1) (hk :∀k,o=some k→∃c fz,W.heap[k]? = some (.cells c ty fz)):JZ ty W W1 :=
 ⟨h.1,fun k c e fz hc he=>(h.2 k (aI.1 hc).1 fun ek=>by
  obtain⟨c',Yt,h1⟩:=hk k ek;rw[hc] at h1;injection h1 with h1;injection h1 with _ h1;exact he h1).trans hc⟩
theorem qT.cQ {W W1:World} {B ty s n:Nat} {v:Value} {xs:List Value} (hr:W.ownsRow B ty s v n xs) (h:qT v.ownBlock W W1):JZ ty W W1:=h.Yu fun k hk=>Lib.ownsRow_kind hr k hk
theorem nN {L:List mF} {f:Nat} {x:mF}:(L.set f x).map (·.1)=(L.map (·.1)).set f x.1:=by rw[List.map_set]
theorem Bk {ops:Array Oper} {o:Oper} {a:Act} {K:Act→World→Prop} {Q:Exit→Act→World→Prop} {E:Prop} (w0 w1:World) (cs:List Value) (hgd:o.guard=none) (sl y:Operand) (tS ty:TypeId) (i0:TypeInfo) (z:Value) (s bytes:Nat)
  (ho:o.op=.call { callee:=.builtin .append,args:=#[sl,y],argTypes:=#[tS,tS]}) (ht:Tryz.prog.underlying tS=some (.slice ty)) (hi:Tryz.prog.info? ty=some i0) (hz:i0.zero=some z) (hsz:i0.size=s) (hby:i0.bytes=bytes) (hzs:z.cells.size=s) (hs0:0<s) (N3:bytes≤100)
  (B:Nat) (v:Value) (n:Nat) (xs:List Value) (hs:a.eval sl=v) (hown:w0.ownsRow B ty s v n xs) (dW :∀(i:Nat),i<w0.heap.size→w1.heap[i]? = w0.heap[i]?) (g:Nat) (hg:g=w0.heap.size) (hy:a.eval y=.slice (some ⟨g,0,none⟩) 1 1)
  (hcell:w1.heap[g]? = some (.cells cs.toArray ty (0,0))) (CA:cs.length=s) (h1c :∀u∈cs,u.oneCell'=true) (hlen:n≤1000000) (hB:B≤w0.heap.size) (hle:w0.heap.size≤w1.heap.size) (Yv:w1.os=w0.os∧w1.tape=w0.tape∧w1.output=w0.output)
  (h :∀g' c' w',w'.ownsRow B ty s (.slice (some ⟨g',0,none⟩) (n+1) c') (n+1) (xs++cs)→qT v.ownBlock w0 w'→Below B w0 w'→(v.ownBlock=some g'∨w0.heap.size≤g')→K (a.put o.dst (.slice (some ⟨g',0,none⟩) (n+1) c')) w') :
  if Region.wanted o (yielded ops a.tmps)=true then Oper.wp Tryz.prog o a w1 K Q else E:=by
 subst hg;have hown1:w1.ownsRow B ty s v n xs:=qT.row (o:=none) ⟨hle,fun k hk _=>dW k hk⟩ hown (fun _ _ e=>by cases e)
 have hpl :∀j:Nat,(⟨w0.heap.size,0,none⟩:Addr).add j=⟨w0.heap.size,j,none⟩:=fun j=>by unfold Addr.add;split<;>simp_all
 refine step_append_lies (P:=Tryz.prog) w1 hgd sl y tS ho B ty i0 z s bytes ht hi hz hsz hby hzs hs0 v n xs hs hown1 ⟨w0.heap.size,0,none⟩ 1 1 cs hy (by rw[CA,Ep])
  (fun j u hj=>by rw[hpl];simpa[World.cell?,hcell] using hj) h1c (by omega) (by unfold maxLen;omega) (aK (Nat.mul_le_mul_left _ N3) (by omega)) (by omega) w1.heap.size rfl ?_
 intro g' c' w' r1 r2 r3 _;refine h g' c' w' r1 ⟨aK hle r2.size,fun k hk hn=>(r2.block k (by omega) fun e=>hn e.symm).trans (dW k hk)⟩ ⟨?_,?_,?_,aK hle r2.size,fun k hk=>?_⟩ (r3.imp id fun e=>by omega)
 ·exact r2.os.trans Yv.1
 ·exact r2.tape.trans Yv.2.1
 ·exact r2.output.trans Yv.2.2
 ·refine(r2.block k (by omega) fun e=>?_).trans (dW k (by omega))
  have:=(hown.lt k e.symm).1;omega
theorem Yw {ops:Array Oper} {rest:List Oper} {o:Oper} {a:Act} {Q:Exit→Act→World→Prop} (w:World) (cs:List Value) (hgd:o.guard=none) (sl y:Operand) (tS ty:TypeId) (i0:TypeInfo) (z:Value) (s bytes:Nat)
  (ho:o.op=.call { callee:=.builtin .append,args:=#[sl,y],argTypes:=#[tS,tS]}) (ht:Tryz.prog.underlying tS=some (.slice ty)) (hi:Tryz.prog.info? ty=some i0) (hz:i0.zero=some z) (hsz:i0.size=s) (hby:i0.bytes=bytes) (hzs:z.cells.size=s) (hs0:0<s) (N3:bytes≤100)
  (B:Nat) (v:Value) (n:Nat) (xs:List Value) (hs:a.eval sl=v) (hown:w.ownsRow B ty s v n xs) (g:Nat) (hg:g=w.heap.size) (hy:a.eval y=.slice (some ⟨g,0,none⟩) 1 1)
  (CA:cs.length=s) (h1c :∀u∈cs,u.oneCell'=true) (hlen:n≤1000000) (hB:B≤w.heap.size)
  (h :∀g' c' w',w'.ownsRow B ty s (.slice (some ⟨g',0,none⟩) (n+1) c') (n+1) (xs++cs)→qT v.ownBlock w w'→Below B w w'→(v.ownBlock=some g'∨w.heap.size≤g')→wpList Tryz.prog ops Q rest (a.put o.dst (.slice (some ⟨g',0,none⟩) (n+1) c')) w') :
  wpList Tryz.prog ops Q (o::rest) a (w.alloc (.cells cs.toArray ty)):=by
 subst hg;have hcell:=heap_alloc_new w (.cells cs.toArray ty);have hpl :∀j:Nat,(⟨w.heap.size,0,none⟩:Addr).add j=⟨w.heap.size,j,none⟩:=fun j=>by unfold Addr.add;split<;>simp_all
 have C8:(w.alloc (.cells cs.toArray ty)).heap.size=w.heap.size+1:=ao _ _;refine wpList_append_lies (P:=Tryz.prog) _ hgd sl y tS ho B ty i0 z s bytes ht hi hz hsz hby hzs hs0 v n xs hs (hown.alloc _) ⟨w.heap.size,0,none⟩ 1 1 cs hy (by rw[CA,Ep])
  (fun j u hj=>by rw[hpl,cell_of_row _ _ j _ ty (0,0) hcell];simpa using hj) h1c (by omega) (by unfold maxLen;omega) (aK (Nat.mul_le_mul_left _ N3) (by omega)) (by omega) (w.heap.size+1) C8 ?_
 intro g' c' w' r1 r2 r3 _;have yq:=r2.size;refine h g' c' w' r1 ⟨by omega,fun k hk hn=>(r2.block k (by omega) fun e=>hn e.symm).trans (Below.heap_alloc w _ k hk)⟩ ⟨r2.os,r2.tape,r2.output,by omega,fun k hk=>?_⟩ (r3.imp id fun e=>by omega)
 refine(r2.block k (by omega) fun e=>?_).trans (Below.heap_alloc w _ k (by omega))
 have:=(hown.lt k e.symm).1;omega
theorem xB {α:Type} {f:α→List Value} :∀(l:List α) (i:Nat) (a b:α),l[i]? = some a→f b=f a→(l.set i b).flatMap f=l.flatMap f
 | [],i,a,b,h,_=>by simp at h
 | x::l,0,a,b,h,hb=>by
  injection h with h;subst h;rw[dB,jc,jc,hb]
 | x::l,i+1,a,b,h,hb=>by rw[dC,jc,jc,xB l i a b h hb]
end Go.Proofs.YteflkdlaoiijbaaGreatDoor
namespace Go.Proofs.YteflkdlaoiijbaaGreatDoor
open Go.RowKit Go.Maps
def u4:Value→Option (DataW Unit)
 | .int .i64 a=>some (.lit (.int .i64 a))
 | .agg c=>match c.toList with
  | [.int .i64 a,.int .i64 b]=>some (.agg [.lit (.int .i64 a),.lit (.int .i64 b)])
  | _=>none
 | _=>none
theorem u5 {v:Value} {d:DataW Unit} (h:u4 v=some d):(∃a,v=.int .i64 a∧d=.lit (.int .i64 a))∨∃a b,v=.agg #[.int .i64 a,.int .i64 b]∧d=.agg [.lit (.int .i64 a),.lit (.int .i64 b)]:=by
 unfold u4 at h;split at h
 ·injection h with h
  exact .inl ⟨_,rfl,h.symm⟩
 ·rename_i c
  split at h
  ·rename_i a b hc
   injection h with h;refine .inr ⟨a,b,?_,h.symm⟩;obtain⟨l⟩:=c;have:l=[.int .i64 a,.int .i64 b]:=hc;rw[this]
  ·cases h
 ·cases h
theorem Bm {u v:Value} {d:DataW Unit} (hu:u4 u=some d) (hv:u4 v=some d):u=v:=by
 rcases u5 hu with ⟨a,rfl,h1⟩ | ⟨a,b,rfl,h1⟩<;>rcases u5 hv with ⟨c,rfl,h2⟩ | ⟨c,e,rfl,h2⟩
 ·rw[h1] at h2;injection h2 with h2;injection h2 with _ h2;rw[h2]
 ·rw[h1] at h2;cases h2
 ·rw[h1] at h2;cases h2
 ·rw[h1] at h2
  injection h2 with h2;injection h2 with h2 h3;injection h3 with h3 _;injection h2 with h2;injection h2 with _ h2;injection h3 with h3;injection h3 with _ h3;rw[h2,h3]
def N9 (v:Value):Option (DataW Unit×List MemPlace):=(u4 v).map fun d=>(d,[])
theorem IZ {v:Value} {d:DataW Unit} {ps:List MemPlace} (h:N9 v=some (d,ps)):u4 v=some d:=by
 unfold N9 at h;cases e:u4 v with
 | none=>rw[e] at h;cases h
 | some x=>rw[e] at h;injection h with h;injection h with h _;rw[h]
def dA (P:Program) (k:TypeId) (W:World) (b n:Nat) (f:ByteArray→Option Value):Prop :=
 ∃D:DataW Unit,W.ownsMap P k N9 b n D∧∀s:ByteArray,s.size≤maxLen→match f s with
  | some v=>(u4 v).isSome=true∧∀z,D.atKey (.string s.data.toList) z=(u4 v).getD z
  | none=>∀z,D.atKey (.string s.data.toList) z=z
section
variable {P:Program} {k:TypeId} {W:World} {b n:Nat} {f:ByteArray→Option Value}
theorem dA.lt (h:dA P k W b n f):b<W.heap.size:=by obtain⟨D,h1,_⟩:=h;exact h1.lt
theorem dA.made (W:World) (P:Program) (k:TypeId):dA P k (W.alloc (.map #[] 0)) W.heap.size 0 (fun _=>none) :=
 ⟨_,World.ownsMap_made _ _ _ _,fun s _ z=>by simp[DataW.atKey]⟩
theorem dA.same {W':World} (h:dA P k W b n f) (hb:W'.heap[b]? = W.heap[b]?):dA P k W' b n f:=by
 obtain⟨D,⟨es,clock,h1,h2,h3,h4⟩,h5⟩:=h;exact⟨D,⟨es,clock,hb.trans h1,h2,h3,h4⟩,h5⟩
theorem dA.ext {g:ByteArray→Option Value} (h:dA P k W b n f) (he :∀s,f s=g s):dA P k W b n g:=by
 have:f=g:=funext he;rwa[←this]
theorem dA.mono {m:Nat} (h:dA P k W b n f) (he:n≤m):dA P k W b m f:=by
 obtain⟨D,h1,h2⟩:=h;exact⟨D,h1.mono he,h2⟩
theorem dA.isMap (h:dA P k W b n f) :∃es c,W.heap[b]? = some (.map es c):=by
 obtain⟨D,⟨es,clock,h1,_⟩,_⟩:=h;exact⟨es,clock,h1⟩
theorem dA.look {t e:TypeId} (h:dA P k W b n f) (hk:P.underlying k=some .string) (ht:P.underlying t=some (.map k e)) {z:Value} (hz:(zeroValue e).run P W=.ok z W) (hze:(u4 z).isSome=true) (s:ByteArray) (hs:s.size≤maxLen) :
  (Instr.lookup t (.map (some b)) (.string s) true).run P W=.ok (.tuple #[(f s).getD z,.bool (f s).isSome]) W:=by
 obtain⟨D,h1,h2⟩:=h;obtain⟨zd,hzd⟩:=zD.1 hze;obtain⟨v,ps,hr,hv⟩:=h1.look_ok (string_keyed hk) ht hz (zd:=zd) (zp:=[]) (by unfold N9;rw[hzd];rfl) (Go.WideMaps.keyOf_string_mk hk hs)
 have hv:=IZ hv;have h3:=h2 s hs;cases e1:f s with
 | none =>
  rw[e1] at h3;rw[h3 zd] at hv;rw[hr,has_false_of_atKey h3,Bm hv hzd];rfl
 | some u =>
  rw[e1] at h3;obtain⟨ud,hud⟩:=zD.1 h3.1;have h4 :∀z,D.atKey (.string s.data.toList) z=ud:=fun z=>by rw[h3.2 z,hud];rfl
  rw[h4 zd] at hv;rw[hr,has_true_of_atKey h4,Bm hv hud];rfl
theorem Oa {a b:ByteArray} (h:a.data.toList=b.data.toList):a=b:=by
 cases a;cases b;exact ax ByteArray.mk (Array.toList_inj.1 h)
theorem dA.put {t e:TypeId} (h:dA P k W b n f) (hk:P.underlying k=some .string) (ht:P.underlying t=some (.map k e)) (hn:n<maxLen) (s:ByteArray) (hs:s.size≤maxLen) (v:Value) (hv:(u4 v).isSome=true) :
  ∃W',(Instr.mapUpdate t (.map (some b)) (.string s) v).run P W=.ok () W'∧dA P k W' b (n+1) (fun x=>if x=s then some v else f x)∧W.grownBy W' (some b):=by
 obtain⟨D,h1,h2⟩:=h;obtain⟨d,hd⟩:=zD.1 hv;obtain⟨W',hr,h3,h4⟩:=h1.update (string_keyed hk) ht hn (d:=d) (ps:=[]) (Go.WideMaps.keyOf_string_mk hk hs) (by unfold N9;rw[hd];rfl)
 refine⟨W',hr,⟨_,h3,fun x hx=>?_⟩,h4⟩
 have hD:IsMap D:=h1.isMap;by_cases e:x=s
 ·subst e
  dsimp only
  rw[ak rfl];refine⟨hv,fun z=>?_⟩
  rw[atKey_put_same hD (by unfold WideAt.IsKeyLit;trivial),hd]
  rfl
 ·dsimp only
  rw[af e];have hne:(Lit.string x.data.toList) ≠ .string s.data.toList:=fun e1=>e (Oa (by injection e1))
  have h5:=h2 x hx;cases e2:f x with
  | none =>
   rw[e2] at h5;exact fun z=>by rw[atKey_put_other hne];exact h5 z
  | some u =>
   rw[e2] at h5;exact⟨h5.1,fun z=>by rw[atKey_put_other hne];exact h5.2 z⟩
end
end Go.Proofs.YteflkdlaoiijbaaGreatDoor
