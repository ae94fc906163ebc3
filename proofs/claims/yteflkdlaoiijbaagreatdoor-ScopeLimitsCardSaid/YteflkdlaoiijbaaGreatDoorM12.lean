/- Parts of the proof. -/
import Derived.StillTailTactics
import Derived.Test.YteflkdlaoiijbaaGreatDoorM11
set_option maxHeartbeats 16000000
set_option maxRecDepth 20000
namespace Go.Proofs.YteflkdlaoiijbaaGreatDoor
open Go.RowKit
theorem nC {k:Int} (h:gr (gg k) 1=true):sZ k:=by
 unfold sZ;unfold gg at h;repeat' split at h
 all_goals first|omega|exact absurd h (by decide +kernel)
theorem aaX {k:Int} (h:gr (gg k) 2=true):k=7∨k=8:=by
 unfold gg at h;repeat' split at h
 all_goals first|omega|exact absurd h (by decide +kernel)
theorem aaY {k:Int} (h:gr (gg k) 4=true):k=9∨k=10:=by
 unfold gg at h;repeat' split at h
 all_goals first|omega|exact absurd h (by decide +kernel)
theorem aaZ {k:Int} (h:gr (gg k) 8=true):k=11:=by
 unfold gg at h;repeat' split at h
 all_goals first|omega|exact absurd h (by decide +kernel)
theorem Yd {k:Int} (h:gr (gg k) 16=true):k=16∨k=17:=by
 unfold gg at h;repeat' split at h
 all_goals first|omega|exact absurd h (by decide +kernel)
theorem uU {k:Int} (h:gr (gg k) 32=true):k=18:=by
 unfold gg at h;repeat' split at h
 all_goals first|omega|exact absurd h (by decide +kernel)
theorem Ye {k:Int} (h:gr (gg k) 64=true):StK k:=by
 unfold StK;unfold gg at h;repeat' split at h
 all_goals first|omega|exact absurd h (by decide +kernel)
theorem Te {k:Int} (h:gr (gg k) 128=true):k=29:=by
 unfold gg at h;repeat' split at h
 all_goals first|omega|exact absurd h (by decide +kernel)
theorem Bd {r most:Int} :∀(f:Nat) (t:Int) (ks:List Int),∃a,ks=a++(kh [r] most f t ks).2∧(kh [r] most f t ks).1=t+(a.length:Int)∧(∀x∈a,gr x r=true)∧(a=[]∨t+(a.length:Int)≤most):=by
 intro f;induction f with
 | zero=>intro t ks;exact⟨[],rfl,by rw[kh];simp,fun x hx=>by simp at hx,.inl rfl⟩
 | succ f ih =>
  intro t ks;rw[kh];split
  ·rename_i hc
   obtain⟨h1,h2⟩:=hc;cases ks with
   | nil=>cases h2
   | cons k ks =>
    rw[iQ,di] at h2;obtain⟨a,e1,e2,e3,e4⟩:=ih (t+1) ks;refine⟨k::a,?_,?_,fun x hx=>?_,.inr ?_⟩
    ·show k::ks=k::(a++(kh [r] most f (t+1) ks).2)
     rw[←e1]
    ·show(kh [r] most f (t+1) ks).1=_
     rw[e2,List.length_cons];omega
    ·rcases bq.1 hx with rfl|hx
     ·exact h2.1
     ·exact e3 x hx
    ·rw[List.length_cons]
     rcases e4 with e4|e4
     ·subst e4
      simp;omega
     ·omega
  ·exact⟨[],rfl,by simp,fun x hx=>by simp at hx,.inl rfl⟩
theorem Be {r s most:Int} :∀(f:Nat) (t:Int) (ks:List Int),∃ps:List (Int×Int),ks=(ps.flatMap fun p=>[p.1,p.2])++(kh [r,s] most f t ks).2∧(kh [r,s] most f t ks).1=t+(ps.length:Int)∧(∀p∈ps,gr p.1 r=true∧gr p.2 s=true)∧(ps=[]∨t+(ps.length:Int)≤most):=by
 intro f;induction f with
 | zero=>intro t ks;exact⟨[],rfl,by rw[kh];simp,fun x hx=>by simp at hx,.inl rfl⟩
 | succ f ih =>
  intro t ks;rw[kh];split
  ·rename_i hc
   obtain⟨h1,h2⟩:=hc;match ks,h2 with
   | [],h2=>cases h2
   | [k],h2=>rw[iQ,iQ,di] at h2;exact absurd h2.2 (by simp)
   | k::l::ks,h2 =>
    rw[iQ,iQ,di,di] at h2;obtain⟨a,e1,e2,e3,e4⟩:=ih (t+1) ks;refine⟨(k,l)::a,?_,?_,fun x hx=>?_,.inr ?_⟩
    ·show k::l::ks=k::l::((a.flatMap fun p=>[p.1,p.2])++(kh [r,s] most f (t+1) ks).2)
     rw[←e1]
    ·show(kh [r,s] most f (t+1) ks).1=_
     rw[e2,List.length_cons];omega
    ·rcases bq.1 hx with rfl|hx
     ·exact⟨h2.1,h2.2.1⟩
     ·exact e3 x hx
    ·rw[List.length_cons]
     rcases e4 with e4|e4
     ·subst e4
      simp;omega
     ·omega
  ·exact⟨[],rfl,by simp,fun x hx=>by simp at hx,.inl rfl⟩
theorem gH {a most r:Int} {l:List Int} (h:fk [(a,most,[r])] l=true):(∀x∈l,gr x r=true)∧a≤(l.length:Int)∧(l=[]∨(l.length:Int)≤most):=by
 rw[fk,fk,di] at h;obtain⟨h1,h2⟩:=h;obtain⟨b,e1,e2,e3,e4⟩:=Bd (r:=r) (most:=most) (l.length+1) 0 l;have h3:=DS.1 h2;have h1:=iB h1;have e5:(kh [r] most (l.length+1) 0 l).2=[]:=h3;rw[e5,iX] at e1;have h1:a≤(kh [r] most (l.length+1) 0 l).1:=h1;rw[e2] at h1;subst e1;exact⟨e3,by omega,e4.imp id (by omega)⟩
theorem qw {a most r b Bf s:Int} {l:List Int} (h:fk [(a,most,[r]),(b,Bf,[s])] l=true) :∃l1 l2,l=l1++l2∧(∀x∈l1,gr x r=true)∧a≤(l1.length:Int)∧(l1=[]∨(l1.length:Int)≤most)∧(∀x∈l2,gr x s=true)∧b≤(l2.length:Int)∧(l2=[]∨(l2.length:Int)≤Bf):=by
 rw[fk,di] at h;obtain⟨h1,h2⟩:=h;obtain⟨c,e1,e2,e3,e4⟩:=Bd (r:=r) (most:=most) (l.length+1) 0 l;have h1:a≤(kh [r] most (l.length+1) 0 l).1:=iB h1;obtain⟨k1,k2,k3⟩:=gH h2;rw[e2] at h1;exact⟨c,_,e1,e3,by omega,e4.imp id (by omega),k1,k2,k3⟩
theorem OC {a most r s b Bf q:Int} {l:List Int} (h:fk [(a,most,[r,s]),(b,Bf,[q])] l=true) :∃(ps:List (Int×Int)) (l2:List Int),l=(ps.flatMap fun p:Int×Int=>[p.1,p.2])++l2∧(∀p∈ps,gr p.1 r=true∧gr p.2 s=true)∧a≤(ps.length:Int)∧(∀x∈l2,gr x q=true)∧b≤(l2.length:Int)∧(l2=[]∨(l2.length:Int)≤Bf):=by
 rw[fk,di] at h;obtain⟨h1,h2⟩:=h;obtain⟨c,e1,e2,e3,e4⟩:=Be (r:=r) (s:=s) (most:=most) (l.length+1) 0 l;have h1:a≤(kh [r,s] most (l.length+1) 0 l).1:=iB h1;obtain⟨k1,k2,k3⟩:=gH h2;rw[e2] at h1;exact⟨c,_,e1,e3,by omega,k1,k2,k3⟩
theorem uV {r s:Int} {l:List Int} (h:fk [(1,1,[r,s])] l=true) :∃a b,l=[a,b]∧gr a r=true∧gr b s=true:=by
 rw[fk,fk,di] at h;obtain⟨h1,h2⟩:=h;obtain⟨c,e1,e2,e3,e4⟩:=Be (r:=r) (s:=s) (most:=1) (l.length+1) 0 l;have h1:1≤(kh [r,s] 1 (l.length+1) 0 l).1:=iB h1;have h3:(kh [r,s] 1 (l.length+1) 0 l).2=[]:=DS.1 h2;rw[e2] at h1;rw[h3,iX] at e1;match c,e1,e3,e4,h1 with
 | [p],e1,e3,_,_=>exact⟨p.1,p.2,e1,e3 p (bR.2 rfl)⟩
 | [],_,_,_,h1=>simp at h1
 | _::_::_,_,_,e4,_ =>
  rcases e4 with e4|e4
  ·cases e4
  ·simp at e4;omega
theorem nU {l:List Int} (h:1≤(l.length:Int)) (h':l=[]∨(l.length:Int)≤1):l.length=1:=by
 rcases h' with h'|h'
 ·rw[h'] at h;simp at h
 ·omega
theorem nV {kk:List Int} {p:Int→Prop} (h:(kk.map gg).length=1) (hp :∀x∈kk,p x) :∃a,kk=[a]∧p a:=by
 match kk,h,hp with
 | [a],_,hp=>exact⟨a,rfl,hp a (bR.2 rfl)⟩
 | [],h,_=>cases h
 | _::_::_,h,_=>simp at h
theorem OD {l:List Int} {n:Int} (h:n≤(l.length:Int)) (h':l.map gg=[]∨(l.length:Int)≤n) (hn:1≤n):(l.length:Int)=n:=by
 rcases h' with h'|h'
 ·rw[pz] at h'
  subst h';simp at h;omega
 ·omega
theorem Tf {k n:Int} {kk:List Int} (h:pt k n (kk.map gg)=true):gR k n kk:=by
 have all :∀{r:Int} {p:Int→Prop},(∀{k},gr (gg k) r=true→p k)→∀{l:List Int},(∀x∈l.map gg,gr x r=true)→∀a∈l,p a:=fun hp l hl a ha=>hp (hl _ (jT ha))
 unfold pt at h;refine⟨fun e=>?_,fun e=>?_,fun e=>?_,fun e=>?_,fun e=>?_,fun e=>?_,fun e=>?_,fun e=>?_,fun e=>?_,fun e=>?_,fun e=>?_,fun e=>?_,fun e=>?_,fun e=>?_,fun e=>?_,fun e=>?_⟩
 ·rw[show aY k n=[] by unfold aY;repeat rw[af (by omega)]] at h
  rw[fk] at h;exact pz.1 (DS.1 h)
 ·rw[show aY k n=[(1,1,[1,1])] by rcases e with rfl|rfl|rfl<;>simp[aY]] at h
  obtain⟨a,b,e1,e2,e3⟩:=uV h;match kk,e1 with
  | [x,y],e1 =>
   injection e1 with e4 e5;injection e5 with e5 _;exact⟨x,y,rfl,nC (by rw[e4];exact e2),nC (by rw[e5];exact e3)⟩
  | [],e1=>cases e1
  | [_],e1=>cases e1
  | _::_::_::_,e1=>cases e1
 ·rw[show aY k n=[(1,big,[1])] by rcases e with rfl|rfl<;>simp[aY]] at h
  obtain⟨h1,h2,_⟩:=gH h;rw[cD] at h2;exact⟨by omega,all nC h1⟩
 ·rw[show aY k n=[(1,1,[32])] by rcases e with rfl|rfl<;>simp[aY]] at h
  obtain⟨h1,h2,h3⟩:=gH h;obtain⟨a,e1,e2⟩:=nV (kk:=kk) (nU h2 h3) (all uU h1);rw[e1,e2]
 ·rw[show aY k n=[(1,1,[1])] by rcases e with rfl|rfl|rfl<;>simp[aY]] at h
  obtain⟨h1,h2,h3⟩:=gH h;exact nV (kk:=kk) (nU h2 h3) (all nC h1)
 ·rw[show aY k n=[(0,big,[16])] by rw[e];simp[aY]] at h
  exact all Yd (gH h).1
 ·rw[show aY k n=[(0,big,[64]),(0,1,[128])] by rw[e];simp[aY]] at h
  obtain⟨l1,l2,e1,h1,_,_,h2,h3,h4⟩:=qw h;obtain⟨k1,k2,rfl,rfl,rfl⟩:=vD.1 e1;refine⟨k1,k2,rfl,all Ye h1,?_⟩;have h5:=all Te h2;match k2,h4,h5 with
  | [],_,_=>exact .inl rfl
  | [a],_,h5=>exact .inr (by rw[h5 a (bR.2 rfl)])
  | _::_::_,h4,_ =>
   rcases h4 with h4|h4
   ·cases h4
   ·simp at h4;omega
 ·rw[show aY k n=[(0,big,[1])] by rcases e with rfl|rfl<;>simp[aY]] at h
  exact all nC (gH h).1
 ·rw[show aY k n=[(n,n,[2]),(1,big,[1])] by rw[e];simp[aY]] at h
  obtain⟨l1,l2,e1,h1,h1a,Tg,h2,h3,h4⟩:=qw h;obtain⟨k1,k2,rfl,rfl,rfl⟩:=vD.1 e1;rw[cD] at *;exact⟨k1,k2,rfl,all aaX h1,OD h1a Tg,by omega,all nC h2⟩
 ·rw[show aY k n=[(1,1,[4])] by rw[e];simp[aY]] at h
  obtain⟨h1,h2,h3⟩:=gH h;exact nV (kk:=kk) (nU h2 h3) (all aaY h1)
 ·rw[show aY k n=[(1,1,[1,32])] by rw[e];simp[aY]] at h
  obtain⟨a,b,e1,e2,e3⟩:=uV h;match kk,e1 with
  | [x,y],e1 =>
   injection e1 with e4 e5;injection e5 with e5 _;exact⟨x,by rw[uU (k:=y) (by rw[e5];exact e3)],nC (by rw[e4];exact e2)⟩
  | [],e1=>cases e1
  | [_],e1=>cases e1
  | _::_::_::_,e1=>cases e1
 ·rw[show aY k n=[(1,1,[32,1])] by rw[e];simp[aY]] at h
  obtain⟨a,b,e1,e2,e3⟩:=uV h;match kk,e1 with
  | [x,y],e1 =>
   injection e1 with e4 e5;injection e5 with e5 _;exact⟨y,by rw[uU (k:=x) (by rw[e4];exact e2)],nC (by rw[e5];exact e3)⟩
  | [],e1=>cases e1
  | [_],e1=>cases e1
  | _::_::_::_,e1=>cases e1
 ·rw[show aY k n=[(1,big,[1,32]),(0,1,[32])] by rw[e];simp[aY]] at h
  obtain⟨ps,l2,e1,h1,h2,h3,_,h4⟩:=OC h;obtain⟨k1,k2,rfl,e2,rfl⟩:=vD.1 e1;have key :∀(ps:List (Int×Int)) (k1:List Int),k1.map gg=(ps.flatMap fun p=>[p.1,p.2])→(∀p∈ps,gr p.1 1=true∧gr p.2 32=true)→∃qs:List (Int×Int),k1=(qs.flatMap fun p=>[p.1,p.2])∧qs.length=ps.length∧∀p∈qs,sZ p.1∧p.2=18:=by
   intro ps;induction ps with
   | nil=>intro k1 e _;exact⟨[],pz.1 e,rfl,fun p hp=>by simp at hp⟩
   | cons p ps ih =>
    intro k1 e hp;match k1,e with
    | [],e=>exact absurd (az List.length e) (by simp)
    | [_],e=>exact absurd (az List.length e) (by simp)
    | x::y::k1,e =>
     have e:gg x::gg y::k1.map gg=p.1::p.2::(ps.flatMap fun p=>[p.1,p.2]):=e
     have a1:=(zg e).1;have a2:=(zg (zg e).2).1;have e:=(zg (zg e).2).2;obtain⟨qs,b1,b2,b3⟩:=ih k1 e fun q hq=>hp q (bY _ hq)
     have h0:=hp p (bV ..);refine⟨(x,y)::qs,by rw[b1];rfl,by simp[b2],fun q hq=>?_⟩
     rcases bq.1 hq with rfl|hq
     ·exact⟨nC (by rw[a1];exact h0.1),uU (by rw[a2];exact h0.2)⟩
     ·exact b3 q hq
  obtain⟨qs,b1,b2,b3⟩:=key ps k1 e2 h1;refine⟨qs,k2,by rw[b1],by omega,b3,?_⟩
  have h5:=all uU h3;match k2,h4,h5 with
  | [],_,_=>exact .inl rfl
  | [a],_,h5=>exact .inr (by rw[h5 a (bR.2 rfl)])
  | _::_::_,h4,_ =>
   rcases h4 with h4|h4
   ·cases h4
   ·simp at h4;omega
 ·rw[show aY k n=[(2,3,[1]),(1,1,[32])] by rw[e];simp[aY]] at h
  obtain⟨l1,l2,e1,h1,h1a,Tg,h2,h3,h4⟩:=qw h;obtain⟨k1,k2,rfl,rfl,rfl⟩:=vD.1 e1;obtain⟨a,e2,e3⟩:=nV (kk:=k2) (nU h3 h4) (all uU h2);rw[cD] at *;refine⟨k1,by rw[e2,e3],?_,all nC h1⟩
  rcases Tg with Tg|Tg
  ·rw[pz] at Tg
   subst Tg;simp at h1a
  ·omega
 ·rw[show aY k n=[(n,n,[1]),(1,1,[32])] by rw[e];simp[aY]] at h
  obtain⟨l1,l2,e1,h1,h1a,Tg,h2,h3,h4⟩:=qw h;obtain⟨k1,k2,rfl,rfl,rfl⟩:=vD.1 e1;obtain⟨a,e2,e3⟩:=nV (kk:=k2) (nU h3 h4) (all uU h2);rw[cD] at *;exact⟨k1,by rw[e2,e3],OD h1a Tg,all nC h1⟩
 ·rw[show aY k n=[(1,1,[8])] by rw[e];simp[aY]] at h
  obtain⟨h1,h2,h3⟩:=gH h;obtain⟨a,e1,e2⟩:=nV (kk:=kk) (nU h2 h3) (all aaZ h1);rw[e1,e2]
def Yf (F:Int):Prop:=F=0∨F=1∨F=2∨F=4∨F=8∨F=10∨F=20
theorem Th (k:Int):Yf (ki k):=by
 unfold Yf ki;repeat' split
 all_goals decide
theorem Ti {F:Int} (hF:Yf F) {a b c d nb na o:Bool} (h:flB F a b c d nb na o=true):(a=true→F=1)∧(b=true→F=2∨F=10)∧(c=true→F=4∨F=20)∧(d=true→F=8∨F=10)∧(F=20→nb=true)∧na=true∧o=true:=by
 rcases hF with rfl|rfl|rfl|rfl|rfl|rfl|rfl<;>cases a<;>cases b<;>cases c<;>cases d<;>cases nb<;>cases na<;>cases o<;>first|exact absurd h (by decide +kernel)|(clear h;decide)
structure aa0 (x:Nd):Prop where
 op:x.op≠0→x.kind=12∨x.kind=13
 num:x.num≠0→x.kind=4∨x.kind=11∨x.kind=20∨x.kind=27
 s:x.s≠⟨#[]⟩→x.kind=5∨x.kind=7∨x.kind=10∨x.kind=31∨x.kind=32
 names:x.names≠[]→x.kind=11∨x.kind=19∨x.kind=26∨x.kind=27∨x.kind=28
 name:(x.kind=7∨x.kind=10∨x.kind=31∨x.kind=32)→gw x.s=true
 all :∀y∈x.names,gw y=true
 bin:x.kind=12→1≤x.op∧x.op≤19
 una:x.kind=13→20≤x.op∧x.op≤23
 many:x.kind=11→x.num=0∨x.num=1
 count:(x.kind=20∨x.kind=27)→1≤x.num
 least:(x.kind=19∨x.kind=27)→1≤x.names.length
 just:(x.kind=26∨x.kind=28)→x.names.length=1
theorem OE {x:Nd} (h:cR x=true):aa0 x:=by
 have h:flB (ki x.kind) (x.op != 0) (x.num != 0) (!x.s.toList.isEmpty) (decide (0<x.names.length)) (gw x.s) (x.names.all gw) (Wr x.kind x.op && oR x.kind x.num && oS x.kind x.names.length)=true:=h;obtain⟨h1,h2,h3,h4,h5,h6,h7⟩:=Ti (Th _) h;rw[di,di] at h7;obtain⟨⟨h7,h8⟩,h9⟩:=h7;have F1:ki x.kind=1→x.kind=12∨x.kind=13:=fun e=>by
  unfold ki at e;repeat' split at e
  all_goals first|assumption|(exfalso;revert e;decide)
 have F2:ki x.kind=2→x.kind=4∨x.kind=20:=fun e=>by
  unfold ki at e;repeat' split at e
  all_goals first|assumption|(exfalso;revert e;decide)
 have F10:ki x.kind=10→x.kind=11∨x.kind=27:=fun e=>by
  unfold ki at e;repeat' split at e
  all_goals first|assumption|(exfalso;revert e;decide)
 have F8:ki x.kind=8→x.kind=19∨x.kind=26∨x.kind=28:=fun e=>by
  unfold ki at e;repeat' split at e
  all_goals first|assumption|(exfalso;revert e;decide)
 have F20:ki x.kind=20→x.kind=7∨x.kind=10∨x.kind=31∨x.kind=32:=fun e=>by
  unfold ki at e;repeat' split at e
  all_goals first|assumption|(exfalso;revert e;decide)
 have F4:ki x.kind=4→x.kind=5:=fun e=>by
  unfold ki at e;repeat' split at e
  all_goals first|assumption|(exfalso;revert e;decide)
 refine⟨fun e=>F1 (h1 (by simpa using e)),fun e=>?_,fun e=>?_,fun e=>?_,fun e=>h5 ?_,fun y hy=>List.all_eq_true.1 h6 y hy,fun e=>?_,fun e=>?_,fun e=>?_,fun e=>?_,fun e=>?_,fun e=>?_⟩
 ·rcases h2 (by simpa using e) with e|e
  ·have:=F2 e;omega
  ·have:=F10 e;omega
 ·have e':(!x.s.toList.isEmpty)=true:=by
   cases hs:x.s.toList with
   | nil =>
    exfalso;apply e;rw[Lib.toList_data] at hs;cases hx:x.s with
    | mk a =>
     rw[hx] at hs;have:a=#[]:=Array.toList_eq_nil_iff.1 hs;rw[this]
   | cons a l=>rfl
  rcases h3 e' with e|e
  ·have:=F4 e;omega
  ·have:=F20 e;omega
 ·rcases h4 (bZ (vG.2 e)) with e|e
  ·have:=F8 e;omega
  ·have:=F10 e;omega
 ·unfold ki
  rw[af (by omega),af (by omega),af (by omega),af (by omega),al e]
 ·unfold Wr at h7
  rw[al e,di] at h7;exact⟨iB h7.1,iB h7.2⟩
 ·unfold Wr at h7
  rw[af (by omega),al e,di] at h7
  exact⟨iB h7.1,iB h7.2⟩
 ·unfold oR at h8
  rw[al e,Bool.or_eq_true] at h8;rcases h8 with h8|h8
  ·exact .inl (by simpa using h8)
  ·exact .inr (by simpa using h8)
 ·unfold oR at h8
  rw[af (by omega),al e] at h8
  exact iB h8
 ·unfold oS at h9
  rw[al e] at h9;exact iB h9
 ·unfold oS at h9
  rw[af (by omega),al e] at h9
  exact iB h9
theorem Bg {T:List Nd} :∀{ks:List Lt},Lt.uq T ks→(ks.map fun k=>(k.loc:Int)).map (fun k=>gg (dH T k.toNat))=(iU ks).map gg
 | [],_=>rfl
 | .mk i h l::ks,hi=>by
  unfold Lt.uq at hi;have h1:=hi.1;unfold Lt.In at h1;unfold iU;rw[fW,fW,fW,fW];have h2:=Bg hi.2;unfold iU at h2;rw[h2];congr 1
  show gg (dH T (((i:Nat):Int)).toNat)=gg h.kind
  rw[iz,nH h1.1]
mutual
theorem wX {T:List Nd} (hT :∀x∈T,pt x.kind x.num (x.kids.map fun k=>gg (dH T k.toNat))=true) :∀(t:Lt),Lt.In T t→t.uB
 | .mk i h ks,hi=>by
  unfold Lt.In at hi;obtain⟨hx,hk,hs⟩:=hi;unfold Lt.uB;have h1:=hT h (aM hx);rw[hk,Bg hs] at h1;exact⟨Tf h1,uW hT ks hs⟩
theorem uW {T:List Nd} (hT :∀x∈T,pt x.kind x.num (x.kids.map fun k=>gg (dH T k.toNat))=true) :∀(ks:List Lt),Lt.uq T ks→Lt.ir ks
 | [],_=>by unfold Lt.ir;trivial
 | k::ks,hi=>by
  unfold Lt.uq at hi;unfold Lt.ir;exact⟨wX hT k hi.1,uW hT ks hi.2⟩
end
theorem Yg {T:List Nd} (hT :∀x∈T,pt x.kind x.num (x.kids.map fun k=>gg (dH T k.toNat))=true) {t:Lt} (hi:Lt.In T t) (hn:t.gM.Nodup) (hk:1≤t.hd.kind∧t.hd.kind≤32):lq T t:=⟨hi,wX hT t hi,UR hT t hi,hn,hk⟩
theorem s8 {f:Nat} {st st':aF} (h:st'.frames=st.frames):bM f st'.frames=bM f st.frames:=by rw[h]
theorem qx {x:List jj} {L:List cV} (h:L≠[]):grow x L≠[]:=by
 cases L with
 | nil=>exact absurd rfl h
 | cons l r=>intro e;cases e
theorem qy {T:List Nd} {B b:Nat} {nv:Value} {ub ob:Nat} (f:Nat) (loop:Int) (pa la:Option Addr) (lc:Nat) (ms:List Nat) (L:List cV) (st:aF) (w:World) (kv:Value) (ks:List Lt) (hr:eC T B b nv ub ob f pa (.slice la L.length lc) ms L st w (Lt.ec ks) (Lt.ak ks)) (hn:dT T ks) (hV :∀k∈ks,bI T B b nv ub ob k) (hu:qt B ob (.slice la L.length lc) L.length (eB L) w kv (ks.map fun k=>(k.loc:Int)))
  (hl :∀k∈ks,18≤k.hd.kind→loop=bM f st.frames) (ht :∀k∈ks,L≠[]∨k.hd.kind=18) (vY:ks.length≤20000) :
  Calls Tryz.prog 111 #[.pointer (some ⟨b,0,none⟩),kv,.agg #[.int .i64 (f:Int),.int .i64 loop,.pointer pa,.slice la L.length lc]] w (aq B b nv T.length ub ob (.slice la L.length lc) L st (aE ks f st) w):=by
 have HNK:=aa hu;obtain⟨UA,uc,rfl,XJ,_⟩:=hu;have HR:=aa hr;have HN:=aa hn;have HV:=aa hV;have HL:=aa hl;have kx:=aa ht;simp only[cD] at XJ ⊢;obtain⟨R,hR⟩ :∃R,R=aE ks f st:=⟨_,rfl⟩;have HRS:=aa hR;rw[←hR];have cB:B≤w.heap.size:=by obtain⟨_,_,_,_,_,h,_⟩:=hr.dy.nodes;exact h
 clear hr hn hV hl ht hR;go_enter Tryz.func111,Tryz.ntmps111
 go_wp2_with fail
 have dh:=heap_alloc_new w (.cells #[.int .i64 (f:Int),.int .i64 loop,.pointer pa,.slice la L.length lc] 92);have Sh:cW B ob (.slice la L.length lc) L.length (eB L) w (w.alloc (.cells #[.int .i64 (f:Int),.int .i64 loop,.pointer pa,.slice la L.length lc] 92)):=cW.bP ((Below.refl _ _).alloc (ah _) _) cB;have hs1:(w.alloc (.cells #[.int .i64 (f:Int),.int .i64 loop,.pointer pa,.slice la L.length lc] 92)).heap.size=w.heap.size+1:=ao _ _;generalize hW1:w.alloc (.cells #[.int .i64 (f:Int),.int .i64 loop,.pointer pa,.slice la L.length lc] 92)=W1 at dh Sh hs1 ⊢;have HF0:=aa Sh;have pR:=aa dh;have iZ:=aa hW1;clear dh Sh hs1 hW1;go_loopw [12] (fun tk wr=>∃(n:Nat) (s1:aF) (x:List jj),tk=.int .i64 (n:Int)∧n≤ks.length∧cW B ob (.slice la L.length lc) L.length (eB L) W1 wr∧eC T B b nv ub ob f pa (.slice la L.length lc) ms (grow x L) s1 wr (Lt.ec (ks.drop n)) (Lt.ak (ks.drop n))∧s1.names=x++st.names∧(L=[]→x=[])∧s1.frames=st.frames∧aE (ks.drop n) f s1=R) (fun tk _=>ks.length-(intOf tk).toNat)
 case atStart =>
  refine⟨0,st,[],rfl,bK _,cW.refl _ _ _ _ _ _,?_,rfl,fun _=>rfl,rfl,by rw[tj];exact HRS.out.symm⟩
  rw[tj,jK];have h:=HR.out;refine⟨h.dy.below HF0.out.below,?_,?_,h.hd,h.cx,h.few,h.fr,h.names,h.fns,h.fu⟩
  ·obtain⟨fv,FL,hw⟩:=h.rs
   exact⟨fv,FL,by rw[←iZ.out];exact hw.alloc _⟩
  ·have h2:cW B ob (.slice la L.length lc) L.length none w W1:=by rw[←iZ.out];exact cW.bP ((Below.refl _ _).alloc (ah _) _) cB
   exact⟨h.pos.fu.jh h2 (ah _),h.pos.blk.jh h2 (by simp),h.pos.names,h.pos.apart⟩
 case round =>
  obtain⟨n,s1,x,rfl,BZ,hf,hr1,hx1,hx2,nZ,PJ⟩:=hrel;have OF:=hf.cells _ _ _ _ pR.out (by decide)
  have p0:=ab OF 0;have p1:=ab OF 1;have p2:=ab OF 2;have p3:=ab OF 3;replace p0:_=some (Value.int .i64 (f:Int)):=p0;replace p1:_=some (Value.int .i64 loop):=p1;replace p2:_=some (Value.pointer pa):=p2;replace p3:_=some (Value.slice la L.length lc):=p3;have HF:=aa hf;have mY:=aa hr1;have OG:=aa hx1;have HX2:=aa hx2;have HFR:=aa nZ;have Tj:=aa PJ;clear hf hr1 hx1 hx2 nZ PJ OF;by_cases hlt:n<ks.length
  ·obtain⟨k,hk⟩ :∃k,ks[n]? = some k:=⟨ks[n],bX hlt⟩
   have xu:=aM hk;have hdr:=drop_at hk;have acN:=aa (HNK.out.later (HF0.out.trans HF.out));obtain⟨A',c',he,_,iT⟩:=acN.out;injection he with tR _ he2;subst tR he2;rcases iT with h0 | ⟨sb,so,rfl,hsc⟩
   ·rw[pz] at h0
    rw[h0] at hlt;exact absurd hlt (by simp)
   have cs:wr.cell? ⟨sb,so+n,none⟩=some (.int .i64 (k.loc:Int)):=hsc wr (cW.refl _ _ _ _ _ _) n _ (by rw[iA,hk];rfl)
   have hrk:=mY.out;rw[(qv hk).1,(qv hk).2] at hrk;have aa1:=HN.out.at_ k xu;have bw:=HV.out k xu f loop pa la lc ms (grow x L) s1 wr (by rw[cG];exact hrk.mono (gp _ _) (gp _ _)) (fun h=>(HL.out k xu h).trans (s8 HFR.out).symm) ((kx.out k xu).imp qx id)
   rw[cG] at bw;have rX:=aa bw;have HRK:=aa hrk;have HK:=aa aa1;have tK:=aa hdr;have mu:=aa hlt;clear bw hrk aa1 hdr hk xu hsc;go_wp2_with fail
   refine rX.out.mono ?_;intro e w2 hp;cases cN:aV k f s1 with
   | error y =>
    rw[cN] at hp;obtain⟨hb,v,rfl,g2,rfl,h2⟩:=hp;have H2:=aa h2;have HB:=aa hb;have HND:=aa cN;clear h2 hb cN;go_wp2_with fail
    go_ret
    have hE:R=.error y:=by rw[←Tj.out,tK.out,dP,HND.out];rfl
    rw[hE];exact⟨(HF0.out.below.trans HF.out.below).trans HB.out,_,rfl,_,rfl,H2.out⟩
   | ok s2 =>
    rw[cN] at hp;obtain⟨rfl,y,hy1,hy2,hr2,hf2,qW⟩:=eC.next HRK.out HK.out cN hp;rw[grow_grow] at hr2;rw[cG,nS] at hf2;have vq:=aa hr2;have lM:=aa hf2;have HY1:=aa hy1;have HY2:=aa hy2;have acO:=aa qW;have HND:=aa cN;clear hp hr2 hf2 hy1 hy2 qW cN;go_wp2_with fail
    refine⟨⟨n+1,s2,y++x,by go_num,mu.out,HF.out.trans lM.out,vq.out,by rw[HY1.out,OG.out,fg],fun e=>?_,acO.out.trans HFR.out,?_⟩,by have:=mu.out;simp[intOf];omega⟩
    ·rw[HX2.out e,HY2.out (by rw[e];rfl)];rfl
    ·rw[←Tj.out,tK.out,dP,HND.out];rfl
  ·have yO:n=ks.length:=by omega
   go_wp2_with fail
   go_ret
   have hE:R=.ok s1:=by rw[←Tj.out,yO,vI,eE]
   rw[hE];exact⟨(HF0.out.below.trans HF.out.below),rfl,mY.out.rs,HF0.out.trans HF.out,x,OG.out,HX2.out,mY.out.pos.fu⟩
theorem all_nil (b f:Nat) (loop:Int) (pa la A:Option Addr) (ln lc c:Nat) (w:World) :
  Calls Tryz.prog 111 #[.pointer (some ⟨b,0,none⟩),.slice A 0 c,.agg #[.int .i64 (f:Int),.int .i64 loop,.pointer pa,.slice la ln lc]] w fun e w'=>e=.returned .nilIface∧Below w.heap.size w w':=by
 go_enter Tryz.func111,Tryz.ntmps111
 go_wp2_with fail
 go_loopw [12] (fun tk wr=>tk=.int .i64 0∧Below w.heap.size w wr) (fun _ _=>0)
 case atStart=>exact⟨rfl,(Below.refl _ _).alloc (ah _) _⟩
 case round =>
  obtain⟨rfl,hb⟩:=hrel;go_wp2_with fail
  go_ret
  exact⟨rfl,hb⟩
theorem eC.dp {T:List Nd} {B b:Nat} {nv:Value} {ub ob f:Nat} {pa:Option Addr} {lv:Value} {ms:List Nat} {L:List cV} {st:aF} {w w':World} {a s:Nat} (h:eC T B b nv ub ob f pa lv ms L st w a s) (hb:Below w.heap.size w w'):eC T B b nv ub ob f pa lv ms L st w' a s:=by
 have cB:B≤w.heap.size:=by obtain⟨_,_,_,_,_,h,_⟩:=h.dy.nodes;exact h
 have h2:cW B ob lv L.length none w w':=cW.bP hb cB;refine⟨h.dy.below h2.below,?_,⟨h.pos.fu.jh h2 (ah _),h.pos.blk.jh h2 (by simp),h.pos.names,h.pos.apart⟩,h.hd,h.cx,h.few,h.fr,h.names,h.fns,h.fu⟩
 obtain⟨fv,FL,hw⟩:=h.rs;exact⟨fv,FL,hw.later hb⟩
theorem aq.from {B b:Nat} {nv:Value} {N ub ob:Nat} {lv:Value} {L:List cV} {st:aF} {r:Rs aF} {w w1 w2:World} {e:Ending} (hb:Below w.heap.size w w1) (hB:B≤w.heap.size) (h:aq B b nv N ub ob lv L st r w1 e w2):aq B b nv N ub ob lv L st r w e w2:=by
 refine⟨(hb.mono hB).trans h.1,?_⟩;have h2:=h.2;cases r with
 | error y=>exact h2
 | ok s =>
  obtain⟨k1,k2,k3,k4⟩:=h2;exact⟨k1,k2,(cW.bP hb hB).trans k3,k4⟩
theorem aq.ret {B b:Nat} {nv:Value} {N ub ob:Nat} {lv:Value} {L:List cV} {st:aF} {r:Rs aF} {w w2:World} {e:Ending} (h:aq B b nv N ub ob lv L st r w e w2) :∃v,e=.returned v:=by
 have h2:=h.2;cases r with
 | error y=>obtain⟨v,h3,_⟩:=h2;exact⟨v,h3⟩
 | ok s=>exact⟨_,h2.1⟩
structure eX (w W:World) (p q:Nat) (f:Nat) (loop:Int) (pa:Option Addr) (lv kv nv:Value) (d0 d1 d2:Value):Prop where
 pos:W.heap[w.heap.size]? = some (.cells #[.int .i64 (f:Int),.int .i64 loop,.pointer pa,lv] 92 (0,0))
 kids :∃a b c d e,W.heap[p]? = some (.cells #[a,b,c,d,e,nv,kv] 55 (0,0))
 dec:W.heap[q]? = some (.cells #[d0,d1,d2] 189 (0,0))
 pne:p=w.heap.size+1
 qne:w.heap.size+1<q
theorem lk {w W0 w1:World} {f:Nat} {loop:Int} {pa:Option Addr} {lv a b c d e nv kv:Value} (hW:W0=(w.alloc (.cells #[.int .i64 (f:Int),.int .i64 loop,.pointer pa,lv] 92)).alloc (.cells #[a,b,c,d,e,nv,kv] 55)) (h1:Below W0.heap.size W0 w1) (d0 d1 d2:Value):Below w.heap.size w (w1.alloc (.cells #[d0,d1,d2] 189))∧eX w (w1.alloc (.cells #[d0,d1,d2] 189)) (w.heap.size+1) w1.heap.size f loop pa lv kv nv d0 d1 d2:=by
 have hs:W0.heap.size=w.heap.size+1+1:=by rw[hW,ao,ao]
 have hb0:Below w.heap.size w W0:=by rw[hW];exact Below.two _ _
 have h0:W0.heap[w.heap.size]? = some (.cells #[.int .i64 (f:Int),.int .i64 loop,.pointer pa,lv] 92 (0,0)):=by
  rw[hW];exact(Below.heap_alloc _ _ _ (by rw[ao];omega)).trans (heap_alloc_new w _)
 have h2:W0.heap[w.heap.size+1]? = some (.cells #[a,b,c,d,e,nv,kv] 55 (0,0)):=by
  rw[hW];have:=heap_alloc_new (w.alloc (.cells #[.int .i64 (f:Int),.int .i64 loop,.pointer pa,lv] 92)) (.cells #[a,b,c,d,e,nv,kv] 55);rwa[ao] at this
 have hl:=h1.size;have hb:=hb0.trans (h1.mono (by omega))
 have k :∀j,j<W0.heap.size→(w1.alloc (.cells #[d0,d1,d2] 189)).heap[j]? = W0.heap[j]?:=fun j hj=>(Below.heap_alloc _ _ _ (by omega)).trans (h1.block j hj)
 exact⟨hb.alloc (by omega) _,(k _ (by omega)).trans h0,⟨_,_,_,_,_,(k _ (by omega)).trans h2⟩,heap_alloc_new _ _,rfl,by omega⟩
theorem eX.cells {w W:World} {p q f:Nat} {loop:Int} {pa:Option Addr} {lv kv nv d0 d1 d2:Value} (h:eX w W p q f loop pa lv kv nv d0 d1 d2):W.cell? ⟨w.heap.size,0,none⟩=some (.int .i64 (f:Int))∧W.cell? ⟨w.heap.size,1,none⟩=some (.int .i64 loop)∧W.cell? ⟨w.heap.size,2,none⟩=some (.pointer pa)∧W.cell? ⟨w.heap.size,3,none⟩=some lv∧W.cell? ⟨p,5,none⟩=some nv∧W.cell? ⟨p,6,none⟩=some kv∧W.cell? ⟨q,0,none⟩=some d0∧W.cell? ⟨q,1,none⟩=some d1∧W.cell? ⟨q,2,none⟩=some d2:=by
 obtain⟨a,b,c,d,e,hk⟩:=h.kids;exact⟨ab h.pos 0,ab h.pos 1,ab h.pos 2,ab h.pos 3,ab hk 5,ab hk 6,ab h.dec 0,ab h.dec 1,ab h.dec 2⟩
theorem eX.on {w W W':World} {p q f:Nat} {loop:Int} {pa:Option Addr} {lv kv nv d0 d1 d2:Value} (h:eX w W p q f loop pa lv kv nv d0 d1 d2) (hk :∀(k:Nat) c (e:TypeId) fz,W.heap[k]? = some (.cells c e fz)→e∉[52,61,59,57,87,3,238]→W'.heap[k]? = some (.cells c e fz)):eX w W' p q f loop pa lv kv nv d0 d1 d2:=by
 obtain⟨a,b,c,d,e,hk5⟩:=h.kids;exact⟨hk _ _ _ _ h.pos (by decide),⟨a,b,c,d,e,hk _ _ _ _ hk5 (by decide)⟩,hk _ _ _ _ h.dec (by decide),h.pne,h.qne⟩
theorem eX.later {w W W':World} {p q f:Nat} {loop:Int} {pa:Option Addr} {lv kv nv d0 d1 d2:Value} (h:eX w W p q f loop pa lv kv nv d0 d1 d2) (hb:Below W.heap.size W W'):eX w W' p q f loop pa lv kv nv d0 d1 d2 :=
 h.on fun k _ _ _ hk _=>(hb.block k (aJ.1 hk).1).trans hk
theorem eX.jh {w W W':World} {p q f:Nat} {loop:Int} {pa:Option Addr} {lv kv nv d0 d1 d2:Value} {B ob n:Nat} {v:Value} {top:Option Nat} (h:eX w W p q f loop pa lv kv nv d0 d1 d2) (hf:cW B ob v n top W W'):eX w W' p q f loop pa lv kv nv d0 d1 d2:=h.on hf.cells
theorem eC.step {T:List Nd} {B b:Nat} {nv:Value} {ub ob f:Nat} {pa:Option Addr} {lv:Value} {ms:List Nat} {L:List cV} {st st':aF} {w w':World} {a s a1 s1:Nat} {e:Ending} (h:eC T B b nv ub ob f pa lv ms L st w (a1+a) (s1+s)) (vX:Mk a1 s1 st st') (CN:Cx f st') (hf:st'.frames=st.frames) (hp:aq B b nv T.length ub ob lv L st (.ok st') w e w') :
  e=.returned .nilIface∧∃x,st'.names=x++st.names∧(L=[]→x=[])∧eC T B b nv ub ob f pa lv ms (grow x L) st' w' a s∧cW B ob lv L.length (eB L) w w':=by
 obtain⟨hb,rfl,PJ,nZ,x,hx1,hx2,hx3⟩:=hp;refine⟨rfl,x,hx1,hx2,⟨h.dy.below hb,PJ,h.pos.on nZ hx3 hx1 hx2 hf,h.hd.grow x,CN,vX.few,fun y hy=>?_,?_,?_,?_⟩,nZ⟩
 ·rw[hf] at hy
  exact cL (h.fr y hy) vX.least
 ·have:=vX.names;have:=h.names;omega
 ·have:=vX.fns;have:=h.fns;omega
 ·rw[cG];have:=h.fu;omega
theorem Dx {T:List Nd} {B b:Nat} {nv:Value} {ub ob:Nat} (f:Nat) (loop:Int) (pa la:Option Addr) (lc:Nat) (ms:List Nat) (L:List cV) (x:List jj) (st:aF) (w:World) (kv:Value) (ks:List Lt) (hr:eC T B b nv ub ob f pa (.slice la L.length lc) ms (grow x L) st w (Lt.ec ks) (Lt.ak ks)) (hn:dT T ks) (hV :∀k∈ks,bI T B b nv ub ob k) (hu:gB w B kv (ks.map fun k=>(k.loc:Int)))
  (hl :∀k∈ks,18≤k.hd.kind→loop=bM f st.frames) (ht :∀k∈ks,L≠[]∨k.hd.kind=18) (vY:ks.length≤20000) :
  Calls Tryz.prog 111 #[.pointer (some ⟨b,0,none⟩),kv,.agg #[.int .i64 (f:Int),.int .i64 loop,.pointer pa,.slice la L.length lc]] w (aq B b nv T.length ub ob (.slice la L.length lc) (grow x L) st (aE ks f st) w):=by
 have:=qy f loop pa la lc ms (grow x L) st w kv ks (by rw[cG];exact hr) hn hV hu.keeps hl (fun k hk=>(ht k hk).imp qx id) vY
 rw[cG] at this;exact this
theorem eC.world {T:List Nd} {B b:Nat} {nv:Value} {ub ob f:Nat} {pa:Option Addr} {lv:Value} {ms:List Nat} {L:List cV} {st:aF} {w:World} {a s:Nat} (h:eC T B b nv ub ob f pa lv ms L st w a s):B≤w.heap.size:=by obtain⟨_,_,_,_,_,h,_⟩:=h.dy.nodes;exact h
theorem oE.iv {W:World} {B f:Nat} {p lv:Value} {ms:List Nat} {l:cV} {r:List cV} {st:aF} (h:oE W B f p lv ms (l::r) st):l.iv.length≤st.names.length:=by
 rw[h.names];show _≤(l.iv++mh r).length
 rw[cC];omega
theorem Fi {T:List Nd} {B b:Nat} {nv:Value} {ub ob:Nat} (i f:Nat) (h:Nd) (ks:List Lt) (loop:Int) (pa la:Option Addr) (lc:Nat) (ms:List Nat) (L:List cV) (st:aF) (w:World) (hr:eC T B b nv ub ob f pa (.slice la L.length lc) ms L st w (Lt.ec ks) (Lt.ak ks)) (hx:T[i]? = some h) (hk:h.kids=ks.map fun k=>(k.loc:Int)) (hn:dT T ks) (hV :∀k∈ks,bI T B b nv ub ob k)
  (hl :∀k∈ks,18≤k.hd.kind→loop=bM f st.frames) (ht :∀k∈ks,L≠[]∨k.hd.kind=18) (hd:gD h.kind h.kids.length=(false,0,false)) :
  Calls Tryz.prog 55 #[.pointer (some ⟨b,0,none⟩),.int .i64 (i:Int),.agg #[.int .i64 (f:Int),.int .i64 loop,.pointer pa,.slice la L.length lc]] w (aq B b nv T.length ub ob (.slice la L.length lc) L st (aE ks f st) w):=by
 obtain⟨bk,o,c,rfl,bS,cB,cN⟩:=hr.dy.nodes;obtain⟨qD,qE,dS,⟨NA,nc,kA,_⟩,fy⟩:=cN i h hx;have sK:h.kids.length≤20000:=(hr.dy.small h (aM hx)).1;have vY:ks.length≤20000:=by rw[hk,cD] at sK;exact sK
 obtain⟨KA,kc,jw,rT,_⟩:=id fy;subst kA jw;obtain⟨x0,x1,x2,x3,x4,x5,x6⟩:=dS;have yx:i<T.length:=(aK.1 hx).1;have qF:=hr.dy.few;have hbl:b<w.heap.size:=by obtain⟨_,_,hw⟩:=hr.rs;exact hw.gK.1
 have d0:w.cell? ⟨b,0,none⟩=some (.slice (some ⟨bk,o,none⟩) T.length c):=by obtain⟨_,_,hw⟩:=hr.rs;exact ab hw.blk 0
 have iK:bk<w.heap.size:=by omega
 have HD:=aa (gE h.kind h.line h.op h.num h.s NA KA h.names.length nc h.kids.length kc);have HR:=aa hr;have HN:=aa hn;have HV:=aa hV;have HL:=aa hl;have kx:=aa ht;have IY:=aa fy;have Tl:=aa hd;have HK:=aa hk;have yA:Hid (∀W,Below w.heap.size w W→Calls Tryz.prog 111 #[.pointer (some ⟨b,0,none⟩),.slice KA h.kids.length kc,.agg #[.int .i64 (f:Int),.int .i64 loop,.pointer pa,.slice la L.length lc]] W (aq B b (.slice (some ⟨bk,o,none⟩) T.length c) T.length ub ob (.slice la L.length lc) L st (aE ks f st) w)):=aa fun W hW =>
  (qy f loop pa la lc ms L st W (.slice KA h.kids.length kc) ks (hr.dp hW) hn hV (by rw[←hk];exact(fy.below (hW.mono cB)).keeps) hl ht vY).mono fun e w' h=>h.from hW cB
 clear hr hn hV hl ht fy hd cN hk;go_enter Tryz.func55,Tryz.ntmps55
 go_wp2_with fail
 refine(HD.out _ (by omega)).mono ?_
 rw[Tl.out];rintro e w1 ⟨rfl,hb1⟩;have dU:=aa hb1;clear hb1;go_wp2_with fail
 have yC:=lk rfl dU.out (.bool false) (.int .i64 0) (.bool false);have qz:=aa yC.2;have oF:=aa yC.1;clear yC;clear d0 x0 x1 x2 x3 x4 x5 x6;generalize w1.alloc (.cells #[.bool false,.int .i64 0,.bool false] 189)=W2 at qz oF ⊢;generalize w1.heap.size=q at qz ⊢;generalize w.heap.size+1=p at qz ⊢;obtain⟨k0,k1,k2,k3,k4,k5,k6,k7,k8⟩:=qz.out.cells;have hKc:h.kids.length≤kc:=rT;go_still_tail 7,(by kernel_rfl)
 change wpList _ _ _ _ _ W2.drew;have D2:=aa (show Below W2.heap.size W2 W2.drew from(Below.refl _ _).drew)
 generalize W2.drew=W3 at D2 ⊢;go_wp2_with fail
 refine(all_nil b f loop pa la KA L.length lc kc W3).mono ?_;rintro e w4 ⟨rfl,hb4⟩;have B4:=aa (D2.out.trans (hb4.mono D2.out.size));have P4:=aa (qz.out.later B4.out);clear hb4 k0 k1 k2 k3 k4 k5 k6 k7 k8;obtain⟨k0,k1,k2,k3,k4,k5,k6,k7,k8⟩:=P4.out.cells;go_wp2_with fail
 go_still_tail 7,(by kernel_rfl)
 change wpList _ _ _ _ _ w4.drew;have HC:=aa (yA.out w4.drew (oF.out.trans (B4.out.mono oF.out.size)).drew);generalize w4.drew=W5 at HC ⊢;go_wp2_with fail
 refine HC.out.mono ?_;intro e w6 hp;obtain⟨v,rfl⟩:=hp.ret;have HP:=aa hp;clear hp;go_wp2_with fail
 go_ret
 exact HP.out
theorem aq.aa2 {B b:Nat} {nv:Value} {N ub ob:Nat} {lv:Value} {L:List cV} {st:aF} {r:Rs aF} {w w1 w2:World} (h:aq B b nv N ub ob lv L st r w (.returned .nilIface) w1) (hb:Below w1.heap.size w1 w2):aq B b nv N ub ob lv L st r w (.returned .nilIface) w2:=by
 have h2:=h.2;cases r with
 | error y =>
  obtain⟨v,hv,g,rfl,_⟩:=h2;injection hv with hv;cases hv
 | ok s =>
  obtain⟨k1,⟨fv,FL,k2⟩,k3,x,k4,k5,k6⟩:=h2;have hB:B≤w1.heap.size:=by have:=k2.gK.1;have:=k2.pos;omega
  have hf:cW B ob lv L.length none w1 w2:=cW.bP hb hB;exact⟨h.1.trans hf.below,k1,⟨fv,FL,k2.later hb⟩,k3.trans (hf.E5 _),x,k4,k5,k6.jh hf (by rw[cG];exact ah _)⟩
theorem OH {T:List Nd} {B b:Nat} {nv:Value} {ub ob:Nat} (i f:Nat) (h:Nd) (ks:List Lt) (loop:Int) (pa la:Option Addr) (lc:Nat) (ms:List Nat) (l:cV) (r:List cV) (st:aF) (w:World) (hr:eC T B b nv ub ob f pa (.slice la (l::r).length lc) ms (l::r) st w (h.names.length+Lt.ec ks) (Lt.ak ks)) (hx:T[i]? = some h) (hk:h.kids=ks.map fun k=>(k.loc:Int)) (hn:dT T ks) (hV :∀k∈ks,bI T B b nv ub ob k)
  (hl :∀k∈ks,18≤k.hd.kind→loop=bM f st.frames) (hsz :∀s∈h.names,s.size≤65536) (hd:gD h.kind h.kids.length=(true,(h.kids.length:Int),false)) :
  Calls Tryz.prog 55 #[.pointer (some ⟨b,0,none⟩),.int .i64 (i:Int),.agg #[.int .i64 (f:Int),.int .i64 loop,.pointer pa,.slice la (l::r).length lc]] w (aq B b nv T.length ub ob (.slice la (l::r).length lc) (l::r) st ((aE ks f st).bind fun s1=>bo i f h.line h.names s1) w):=by
 obtain⟨bk,o,c,rfl,bS,cB,cN⟩:=hr.dy.nodes;obtain⟨qD,qE,dS,⟨NA,nc,kA,_⟩,fy⟩:=cN i h hx;have sK:h.kids.length≤20000:=(hr.dy.small h (aM hx)).1;have vY:ks.length≤20000:=by rw[hk,cD] at sK;exact sK
 obtain⟨KA,kc,jw,rT,_⟩:=id fy;subst kA jw;obtain⟨x0,x1,x2,x3,x4,x5,x6⟩:=dS;have yx:i<T.length:=(aK.1 hx).1;have qF:=hr.dy.few;have hbl:b<w.heap.size:=by obtain⟨_,_,hw⟩:=hr.rs;exact hw.gK.1
 have d0:w.cell? ⟨b,0,none⟩=some (.slice (some ⟨bk,o,none⟩) T.length c):=by obtain⟨_,_,hw⟩:=hr.rs;exact ab hw.blk 0
 have iK:bk<w.heap.size:=by omega
 have HD:=aa (gE h.kind h.line h.op h.num h.s NA KA h.names.length nc h.kids.length kc);have yA:Hid (∀W,Below w.heap.size w W→Calls Tryz.prog 111 #[.pointer (some ⟨b,0,none⟩),.slice KA h.kids.length kc,.agg #[.int .i64 (f:Int),.int .i64 loop,.pointer pa,.slice la (l::r).length lc]] W (aq B b (.slice (some ⟨bk,o,none⟩) T.length c) T.length ub ob (.slice la (l::r).length lc) (l::r) st (aE ks f st) W)):=aa fun W hW =>
  qy f loop pa la lc ms (l::r) st W (.slice KA h.kids.length kc) ks ((hr.dp hW).mono (vK _ _) (ah _)) hn hV (by rw[←hk];exact(fy.below (hW.mono cB)).keeps) hl (fun k _=>.inl (by simp)) vY
 have HR:=aa hr;have HN:=aa hn;have HV:=aa hV;have HL:=aa hl;have IY:=aa fy;have Tl:=aa hd;have HK:=aa hk;clear hr hn hV hl fy hd cN hk;generalize KQ:(l::r).length=ln at *;have Gx:=aa KQ;clear KQ;go_enter Tryz.func55,Tryz.ntmps55
 go_wp2_with fail
 refine(HD.out _ (by omega)).mono ?_
 rw[Tl.out];rintro e w1 ⟨rfl,hb1⟩;have dU:=aa hb1;clear hb1;go_wp2_with fail
 have yC:=lk rfl dU.out (.bool true) (.int .i64 (h.kids.length:Int)) (.bool false);have qz:=aa yC.2;have oF:=aa yC.1;clear yC;clear d0 x0 x1 x2 x3 x4 x5 x6;generalize w1.alloc (.cells #[.bool true,.int .i64 (h.kids.length:Int),.bool false] 189)=W2 at qz oF ⊢;generalize w1.heap.size=q at qz ⊢;generalize w.heap.size+1=p at qz ⊢;obtain⟨k0,k1,k2,k3,k4,k5,k6,k7,k8⟩:=qz.out.cells;have hKc:h.kids.length≤kc:=rT;go_still_tail 7,(by kernel_rfl)
 change wpList _ _ _ _ _ W2.drew;have D2:=aa (show Below W2.heap.size W2 W2.drew from(Below.refl _ _).drew)
 generalize W2.drew=W3 at D2 ⊢;go_wp2_with fail
 have lo:=aa (oF.out.trans (D2.out.mono oF.out.size));refine(yA.out W3 lo.out).mono ?_;intro e w4 hp;cases oA:aE ks f st with
 | error y =>
  rw[oA] at hp;obtain⟨hb,v,rfl,g2,rfl,h2⟩:=hp;have H2:=aa h2;have HB:=aa hb;have HE:Hid (((aE ks f st).bind fun s1=>bo i f h.line h.names s1)=.error y):=aa (by rw[oA];rfl)
  clear h2 hb oA;go_wp2_with fail
  go_ret
  rw[HE.out];exact⟨(lo.out.mono cB).trans HB.out,_,rfl,_,rfl,H2.out⟩
 | ok s1 =>
  rw[oA] at hp;have hr4:=HR.out.dp lo.out;have hst:=(gi ks oA HN.out.nodup hr4.cx HN.out.wf).1;obtain⟨rfl,x,hx1,hx2,vy,Dy⟩:=eC.step (a1:=Lt.ec ks) (s1:=Lt.ak ks) (a:=h.names.length) (s:=0) (by rw[Nat.add_comm];exact hr4) (iI ks oA hr4.few) (hst.cx hr4.cx) (lg ks oA) hp
  have P5:=aa ((qz.out.later D2.out).jh Dy);have US:=aa ((lo.out.mono cB).trans Dy.below);have hdec:Calls Tryz.prog 113 #[.pointer (some ⟨b,0,none⟩),.int .i64 (i:Int),.agg #[.int .i64 (f:Int),.int .i64 loop,.pointer pa,.slice la (l::r).length lc]] w4 (aq B b (.slice (some ⟨bk,o,none⟩) T.length c) T.length ub ob (.slice la (l::r).length lc) (grow x (l::r)) s1 (bo i f h.line h.names s1) w4):=by
   have hsg:oE w4 B f (.pointer pa) (.slice la ln lc) ms ({ l with iv:=x++l.iv}::r) s1:=vy.pos;have hlv:dk w4 B (.slice la ln lc) ({ l with iv:=x++l.iv}::r):=vy.pos.fu;rw[←Gx.out] at hlv hsg;exact j7 b i f h loop pa la lc { l with iv:=x++l.iv} r s1 w4 vy.dy vy.rs hx vy.cx.lt hlv (vy.hd _ r rfl) (by have:=vy.fu;rw[cG] at this;exact this) vy.few (by have:=hsg.iv;have:=vy.names;omega) hsz
  rw[Gx.out] at hdec;have Yh:=aa hdec;have Lv:=aa vy;have OI:=aa Dy;have OG:=aa hx1;have HE:Hid (((aE ks f st).bind fun s1=>bo i f h.line h.names s1)=bo i f h.line h.names s1):=aa (by rw[oA];rfl)
  clear hp hr4 vy Dy hst hx1 hx2 oA hdec k0 k1 k2 k3 k4 k5 k6 k7 k8;obtain⟨k0,k1,k2,k3,k4,k5,k6,k7,k8⟩:=P5.out.cells;go_wp2_with fail
  refine Yh.out.mono ?_;intro e w6 hp;obtain⟨v,rfl⟩:=hp.ret;cases jM:bo i f h.line h.names s1 with
  | error y =>
   have HP:=aa hp;rw[jM] at hp;obtain⟨_,v',hv',g2,rfl,_⟩:=hp;injection hv' with hv';subst hv';clear jM;go_wp2_with fail
   go_ret
   rw[HE.out];exact aq.from lo.out cB (aq.trans (st1:=s1) (x:=x) OI.out.below OI.out OG.out (fun e=>by cases e) HP.out)
  | ok s2 =>
   have HP:=aa hp;rw[jM] at hp;have PK:=hp.2.2.2.1;have hv':=hp.2.1;injection hv' with hv';subst hv';have P6:=aa (P5.out.jh PK);clear hp PK jM k0 k1 k2 k3 k4 k5 k6 k7 k8;obtain⟨k0,k1,k2,k3,k4,k5,k6,k7,k8⟩:=P6.out.cells;go_wp2_with fail
   go_still_tail 7,(by kernel_rfl)
   change wpList _ _ _ _ _ w6.drew;have D6:=aa (show Below w6.heap.size w6 w6.drew from(Below.refl _ _).drew)
   generalize w6.drew=W6 at D6 ⊢;go_wp2_with fail
   all_goals
    refine(all_nil b f loop pa la _ ln lc _ W6).mono ?_;rintro e w7 ⟨rfl,Fj⟩;have B7:=aa (D6.out.trans (Fj.mono D6.out.size));clear Fj;go_wp2_with fail
    go_ret
    rw[HE.out];exact aq.from lo.out cB (aq.trans (st1:=s1) (x:=x) OI.out.below OI.out OG.out (fun e=>by cases e) (HP.out.aa2 B7.out))
theorem OJ {T:List Nd} {B b:Nat} {nv:Value} {ub ob:Nat} (i f:Nat) (h:Nd) (ks:List Lt) (loop:Int) (pa la:Option Addr) (lc:Nat) (ms:List Nat) (l:cV) (r:List cV) (st:aF) (w:World) (hr:eC T B b nv ub ob f pa (.slice la (l::r).length lc) ms (l::r) st w (h.names.length+Lt.ec ks) (Lt.ak ks)) (hx:T[i]? = some h) (hk:h.kids=ks.map fun k=>(k.loc:Int)) (hn:dT T ks) (hV :∀k∈ks,bI T B b nv ub ob k)
  (hl :∀k∈ks,18≤k.hd.kind→loop=bM f st.frames) (hsz :∀s∈h.names,s.size≤65536) (hd:gD h.kind h.kids.length=(true,0,false)) :
  Calls Tryz.prog 55 #[.pointer (some ⟨b,0,none⟩),.int .i64 (i:Int),.agg #[.int .i64 (f:Int),.int .i64 loop,.pointer pa,.slice la (l::r).length lc]] w (aq B b nv T.length ub ob (.slice la (l::r).length lc) (l::r) st ((bo i f h.line h.names st).bind fun s1=>aE ks f s1) w):=by
 obtain⟨bk,o,c,rfl,bS,cB,cN⟩:=hr.dy.nodes;obtain⟨qD,qE,dS,⟨NA,nc,kA,_⟩,fy⟩:=cN i h hx;have sK:h.kids.length≤20000:=(hr.dy.small h (aM hx)).1;have vY:ks.length≤20000:=by rw[hk,cD] at sK;exact sK
 obtain⟨KA,kc,jw,rT,_⟩:=id fy;subst kA jw;obtain⟨x0,x1,x2,x3,x4,x5,x6⟩:=dS;have yx:i<T.length:=(aK.1 hx).1;have qF:=hr.dy.few;have hbl:b<w.heap.size:=by obtain⟨_,_,hw⟩:=hr.rs;exact hw.gK.1
 have d0:w.cell? ⟨b,0,none⟩=some (.slice (some ⟨bk,o,none⟩) T.length c):=by obtain⟨_,_,hw⟩:=hr.rs;exact ab hw.blk 0
 have iK:bk<w.heap.size:=by omega
 have HD:=aa (gE h.kind h.line h.op h.num h.s NA KA h.names.length nc h.kids.length kc);have Yh:Hid (∀W,Below w.heap.size w W→Calls Tryz.prog 113 #[.pointer (some ⟨b,0,none⟩),.int .i64 (i:Int),.agg #[.int .i64 (f:Int),.int .i64 loop,.pointer pa,.slice la (l::r).length lc]] W (aq B b (.slice (some ⟨bk,o,none⟩) T.length c) T.length ub ob (.slice la (l::r).length lc) (l::r) st (bo i f h.line h.names st) W)):=aa fun W hW=>by
  have h2:=hr.dp hW;exact j7 b i f h loop pa la lc l r st W h2.dy h2.rs hx h2.cx.lt h2.pos.fu (h2.hd l r rfl) (by have:=h2.fu;omega) h2.few (by have:=h2.pos.iv;have:=h2.names;omega) hsz
 have HR:=aa hr;have HN:=aa hn;have HV:=aa hV;have HL:=aa hl;have IY:=aa fy;have Tl:=aa hd;have HK:=aa hk;clear hr hn hV hl fy hd cN hk;generalize KQ:(l::r).length=ln at *;have Gx:=aa KQ;clear KQ;go_enter Tryz.func55,Tryz.ntmps55
 go_wp2_with fail
 refine(HD.out _ (by omega)).mono ?_
 rw[Tl.out];rintro e w1 ⟨rfl,hb1⟩;have dU:=aa hb1;clear hb1;go_wp2_with fail
 have yC:=lk rfl dU.out (.bool true) (.int .i64 0) (.bool false);have qz:=aa yC.2;have oF:=aa yC.1;clear yC;clear d0 x0 x1 x2 x3 x4 x5 x6;generalize w1.alloc (.cells #[.bool true,.int .i64 0,.bool false] 189)=W2 at qz oF ⊢;generalize w1.heap.size=q at qz ⊢;generalize w.heap.size+1=p at qz ⊢;obtain⟨k0,k1,k2,k3,k4,k5,k6,k7,k8⟩:=qz.out.cells;have hKc:h.kids.length≤kc:=rT;go_still_tail 7,(by kernel_rfl)
 change wpList _ _ _ _ _ W2.drew;have D2:=aa (show Below W2.heap.size W2 W2.drew from(Below.refl _ _).drew)
 generalize W2.drew=W3 at D2 ⊢;go_wp2_with fail
 refine(all_nil b f loop pa la KA ln lc kc W3).mono ?_;rintro e w4 ⟨rfl,hb4⟩;have B4:=aa (D2.out.trans (hb4.mono D2.out.size));have P4:=aa (qz.out.later B4.out);clear hb4 k0 k1 k2 k3 k4 k5 k6 k7 k8;obtain⟨k0,k1,k2,k3,k4,k5,k6,k7,k8⟩:=P4.out.cells;have lo:=aa (oF.out.trans (B4.out.mono oF.out.size));go_wp2_with fail
 refine(Yh.out w4 lo.out).mono ?_;intro e w5 hp;cases oA:bo i f h.line h.names st with
 | error y =>
  rw[oA] at hp;obtain⟨hb,v,rfl,g2,rfl,h2⟩:=hp;have H2:=aa h2;have HB:=aa hb;have HE:Hid (((bo i f h.line h.names st).bind fun s1=>aE ks f s1)=.error y):=aa (by rw[oA];rfl)
  clear h2 hb oA;go_wp2_with fail
  go_ret
  rw[HE.out];exact⟨(lo.out.mono cB).trans HB.out,_,rfl,_,rfl,H2.out⟩
 | ok s1 =>
  rw[oA] at hp;have hr4:=HR.out.dp lo.out;obtain⟨OK,uX,_⟩:=nm oA hr4.cx;obtain⟨rfl,x,hx1,hx2,vy,Dy⟩:=eC.step (a1:=h.names.length) (s1:=0) (by rw[iY];exact hr4) (jI oA hr4.few) (OK.cx hr4.cx) uX hp
  have P5:=aa (P4.out.jh Dy);have US:=aa ((lo.out.mono cB).trans Dy.below);have HC:Hid (∀W,Below w5.heap.size w5 W→Calls Tryz.prog 111 #[.pointer (some ⟨b,0,none⟩),.slice KA h.kids.length kc,.agg #[.int .i64 (f:Int),.int .i64 loop,.pointer pa,.slice la ln lc]] W (aq B b (.slice (some ⟨bk,o,none⟩) T.length c) T.length ub ob (.slice la ln lc) (grow x (l::r)) s1 (aE ks f s1) w5)):=aa fun W hW=>by
   have h6:=Dx f loop pa la lc ms (l::r) x s1 W (.slice KA h.kids.length kc) ks (by rw[Gx.out];exact vy.dp hW) HN.out HV.out (by rw[←HK.out];exact IY.out.below (US.out.trans (hW.mono vy.world))) (fun k hk mc=>(HL.out k hk mc).trans (s8 uX).symm) (fun k _=>.inl (by simp)) vY
   rw[Gx.out] at h6;exact h6.mono fun e w' h=>h.from hW vy.world
  have OI:=aa Dy;have OG:=aa hx1;have HE:Hid (((bo i f h.line h.names st).bind fun s1=>aE ks f s1)=aE ks f s1):=aa (by rw[oA];rfl)
  clear hp hr4 vy Dy OK uX hx1 hx2 oA k0 k1 k2 k3 k4 k5 k6 k7 k8;obtain⟨k0,k1,k2,k3,k4,k5,k6,k7,k8⟩:=P5.out.cells;go_wp2_with fail
  go_still_tail 7,(by kernel_rfl)
  change wpList _ _ _ _ _ w5.drew;have UT:=aa (HC.out w5.drew (Below.refl _ _).drew);generalize w5.drew=W6 at UT ⊢;go_wp2_with fail
  refine UT.out.mono ?_;intro e w7 hp;obtain⟨v,rfl⟩:=hp.ret;have HP:=aa hp;clear hp;go_wp2_with fail
  go_ret
  rw[HE.out];exact aq.from lo.out cB (aq.trans (st1:=s1) (x:=x) OI.out.below OI.out OG.out (fun e=>by cases e) HP.out)
theorem wY {B:Nat} (f:Nat) (loop:Int) (pa la:Option Addr) (lc:Nat) (L:List cV) (w:World) (hl:dk w B (.slice la L.length lc) L) (hlen:L.length≤100000) (hB:B≤w.heap.size) :
  Calls Tryz.prog 112 #[.agg #[.int .i64 (f:Int),.int .i64 loop,.pointer pa,.slice la L.length lc]] w fun e w'=>∃g c m,e=.returned (.agg #[.int .i64 (f:Int),.int .i64 loop,.pointer pa,.slice (some ⟨g,0,none⟩) (L.length+1) c])∧dk w' B (.slice (some ⟨g,0,none⟩) (L.length+1) c) (⟨f,m,[]⟩::L)∧w.heap.size≤m∧((Value.slice la L.length lc).ownBlock=some g∨w.heap.size≤g)∧(∀ob,cW B ob (.slice la L.length lc) L.length none w w')∧Fr [238] w w':=by
 have HL:=aa hl;clear hl;have hmm:=@run_makeMap Tryz.prog;obtain⟨o1,YW⟩ :∃o1,o1=Obj.cells #[.int .i64 (f:Int),.int .i64 loop,.pointer pa,.slice la L.length lc] 92:=⟨_,rfl⟩;obtain⟨o2,Iy⟩ :∃o2,o2=Obj.cells #[.int .i64 0,.int .i64 0,.pointer none,.slice none 0 0] 92:=⟨_,rfl⟩;obtain⟨W3,hW3⟩ :∃W3,W3=((w.alloc o1).alloc o2).alloc (.map #[] 0):=⟨_,rfl⟩;have hs3:W3.heap.size=w.heap.size+1+1+1:=by rw[hW3,ao,ao,ao]
 have hb3:Below w.heap.size w W3:=by rw[hW3];exact Below.three _ _ _
 have hb1:W3.heap[w.heap.size]? = some o1:=by
  rw[hW3];exact(Below.heap_alloc _ _ _ (by rw[ao,ao];omega)).trans ((Below.heap_alloc _ _ _ (by rw[ao];omega)).trans (heap_alloc_new w o1))
 have hb2:W3.heap[w.heap.size+1]? = some o2:=by
  rw[hW3];refine(Below.heap_alloc _ _ _ (by rw[ao,ao];omega)).trans ?_
  have:=heap_alloc_new (w.alloc o1) o2;rwa[ao] at this
 have Za:dJ Tryz.prog 9 W3 (w.heap.size+1+1) 0 (fun _=>none):=by
  have:=dJ.made ((w.alloc o1).alloc o2) Tryz.prog 9;rw[ao,ao] at this;rw[hW3];exact this
 have HR3:=aa (qB.row (o:=none) ⟨hb3.size,fun k hk _=>hb3.block k hk⟩ HL.out.row (fun _ _ e=>by cases e))
 have hlt :∀k,(Value.slice la L.length lc).ownBlock=some k→k<w.heap.size:=fun k hk=>(HL.out.row.lt k hk).2
 rw[YW] at hb1;rw[Iy] at hb2;have dU:=aa hb1;have oF:=aa hb2;have HMP:=aa Za;have mu:=aa hlt;have xR:=aa hb3;have nW:=aa hs3;rw[YW,Iy] at hW3;have QO:=aa hW3;clear hb1 hb2 Za hlt hb3 hs3 hW3 YW Iy;go_enter Tryz.func112,Tryz.ntmps112
 go_wp2_with (at_builtin;rw[←QO.out];refine NO W3 ⟨f,w.heap.size+1+1,[]⟩ rfl _ _ rfl B (.slice la L.length lc) L rfl HR3.out (w.heap.size+1+1+1) nW.out.symm rfl (by omega) (by rw[nW.out];omega) ?_;intro g8 c8 w8 r8 b8 UM n8 o8;have IZ:=(b8.2 w.heap.size (by rw[nW.out];omega) (fun e=>by have:=mu.out _ e;omega)).trans dU.out;have hres:=(b8.2 (w.heap.size+1) (by rw[nW.out];omega) (fun e=>by have:=mu.out _ e;omega)).trans oF.out;have e0:=ab IZ 0;have e1:=ab IZ 1;have e2:=ab IZ 2;have e3:=ab IZ 3;have f3:=aw IZ 3;have y0:=ab hres 0;have y1:=ab hres 1;have y2:=ab hres 2;have y3:=ab hres 3;have z0:=aw hres 0;have z1:=aw hres 1;have z2:=aw hres 2;have z3:=aw hres 3;have R8:=aa r8;have B8:=aa b8;have PH:=aa UM;have N8:=aa n8;have O8:=aa o8;clear r8 b8 UM n8 o8 IZ hres)
 refine bodyPost_ret (v:=.agg #[.int .i64 (f:Int),.int .i64 loop,.pointer pa,.slice (some ⟨g8,0,none⟩) (L.length+1) c8]) (by simp[results,Tryz.results112,go_sem,y0,y1,y2,y3]) rfl ?_
 have k1:vi w8 w.heap.size 92:=⟨_,_,(B8.out.2 w.heap.size (by rw[nW.out];omega) (fun e=>by have:=mu.out _ e;omega)).trans dU.out⟩
 have k2:vi w8 (w.heap.size+1) 92:=⟨_,_,(B8.out.2 (w.heap.size+1) (by rw[nW.out];omega) (fun e=>by have:=mu.out _ e;omega)).trans oF.out⟩
 have hF:Fr [92] w8 (((((w8.setCell ⟨w.heap.size,3,none⟩ (.slice (some ⟨g8,0,none⟩) (L.length+1) c8)).setCell ⟨w.heap.size+1,0,none⟩ (.int .i64 (f:Int))).setCell ⟨w.heap.size+1,1,none⟩ (.int .i64 loop)).setCell ⟨w.heap.size+1,2,none⟩ (.pointer pa)).setCell ⟨w.heap.size+1,3,none⟩ (.slice (some ⟨g8,0,none⟩) (L.length+1) c8)) :=
  (k1.fr (by decide) _ _).trans (((k2.set _ _ _).fr (by decide) _ _).trans ((((k2.set _ _ _).set _ _ _).fr (by decide) _ _).trans (((((k2.set _ _ _).set _ _ _).set _ _ _).fr (by decide) _ _).trans ((((((k2.set _ _ _).set _ _ _).set _ _ _).set _ _ _)).fr (by decide) _ _))))
 have hK :∀k,k<w.heap.size→(((((w8.setCell ⟨w.heap.size,3,none⟩ (.slice (some ⟨g8,0,none⟩) (L.length+1) c8)).setCell ⟨w.heap.size+1,0,none⟩ (.int .i64 (f:Int))).setCell ⟨w.heap.size+1,1,none⟩ (.int .i64 loop)).setCell ⟨w.heap.size+1,2,none⟩ (.pointer pa)).setCell ⟨w.heap.size+1,3,none⟩ (.slice (some ⟨g8,0,none⟩) (L.length+1) c8)).heap[k]? = w8.heap[k]?:=fun k hk=>by
  rw[Below.heap_setCell _ _ _ k (by show k≠w.heap.size+1;omega),Below.heap_setCell _ _ _ k (by show k≠w.heap.size+1;omega),Below.heap_setCell _ _ _ k (by show k≠w.heap.size+1;omega),Below.heap_setCell _ _ _ k (by show k≠w.heap.size+1;omega),Below.heap_setCell _ _ _ k (by show k≠w.heap.size;omega)]
 have hO :∀W:World,W.os=w8.os→W.tape=w8.tape→W.output=w8.output→W.os=w.os∧W.tape=w.tape∧W.output=w.output:=fun W h1 h2 h3=>⟨h1.trans (PH.out.os.trans xR.out.os),h2.trans (PH.out.tape.trans xR.out.tape),h3.trans (PH.out.output.trans xR.out.output)⟩
 have hO9:=hO _ (show(((((w8.setCell ⟨w.heap.size,3,none⟩ (.slice (some ⟨g8,0,none⟩) (L.length+1) c8)).setCell ⟨w.heap.size+1,0,none⟩ (.int .i64 (f:Int))).setCell ⟨w.heap.size+1,1,none⟩ (.int .i64 loop)).setCell ⟨w.heap.size+1,2,none⟩ (.pointer pa)).setCell ⟨w.heap.size+1,3,none⟩ (.slice (some ⟨g8,0,none⟩) (L.length+1) c8)).os=w8.os from rfl) rfl rfl
 generalize (((((w8.setCell ⟨w.heap.size,3,none⟩ (.slice (some ⟨g8,0,none⟩) (L.length+1) c8)).setCell ⟨w.heap.size+1,0,none⟩ (.int .i64 (f:Int))).setCell ⟨w.heap.size+1,1,none⟩ (.int .i64 loop)).setCell ⟨w.heap.size+1,2,none⟩ (.pointer pa)).setCell ⟨w.heap.size+1,3,none⟩ (.slice (some ⟨g8,0,none⟩) (L.length+1) c8))=W9 at *;have key :∀k,k<w.heap.size→(Value.slice la L.length lc).ownBlock≠some k→W9.heap[k]? = w.heap[k]?:=fun k hk hn=>(hK k hk).trans ((B8.out.2 k (by rw[nW.out];omega) hn).trans (xR.out.block k hk))
 have far :∀(k:Nat) (o:Obj),w.heap[k]? = some o→(∀c fz,o ≠ .cells c 238 fz)→W9.heap[k]? = some o:=fun k o hk ho=>(key k (aJ.1 hk).1 fun e=>by
  obtain⟨c,fz,h1⟩:=Lib.ownsRow_kind HL.out.row k e;rw[hk] at h1;injection h1 with h1;exact ho _ _ h1).trans hk
 refine⟨g8,c8,w.heap.size+1+1,rfl,⟨hF.row R8.out (by decide),fun l hl=>?_,fun l hl n hn=>?_,?_⟩,by omega,N8.out.imp id (fun h=>by rw[nW.out] at h;omega),fun ob=>⟨?_,fun k c e fz hk he=>far k _ hk (fun c' XB e'=>he (by injection e' with _ e';rw[e'];decide)),fun k c fz hk _=>far k _ hk (fun c' XB e'=>by injection e' with _ e';exact absurd e' (by decide)),fun u m xs hu hm=>hF.row (O8.out u m xs (qB.row (o:=none) ⟨xR.out.size,fun k hk _=>xR.out.block k hk⟩ hu (fun _ _ e=>by cases e)) hm) (by decide),fun k es c hk _=>far k _ hk (fun _ _ e=>by cases e)⟩,⟨?_,fun k c e fz hk he=>far k _ hk (fun c' XB e'=>he (by injection e' with _ e';rw[e'];exact bR.2 rfl)),fun k o hk ho=>far k _ hk (fun c' XB=>ho c' _ XB)⟩⟩
 ·rcases bq.1 hl with rfl|hl
  ·refine⟨hF.map (HMP.out.same (B8.out.2 _ (by rw[nW.out];omega) fun e=>by have:=mu.out _ e;omega)),by show B≤w.heap.size+1+1;omega⟩
  ·obtain⟨h1,h2⟩:=HL.out.maps l hl
   obtain⟨es,c,hm⟩:=h1.isMap;exact⟨h1.same ((far _ _ hm (fun _ _ e=>by cases e)).trans hm.symm),h2⟩
 ·rcases bq.1 hl with rfl|hl
  ·cases hn
  ·exact HL.out.own l hl n hn
 ·rw[fW,lZ]
  refine⟨fun hm=>?_,HL.out.apart⟩
  obtain⟨l,hl,e⟩:=jr.1 hm;have:=(HL.out.maps l hl).1.lt;simp only at e;omega
 ·refine⟨hO9.1,hO9.2.1,hO9.2.2,aL (by rw[nW.out];omega) (aL PH.out.size hF.size),fun k hk=>key k (by omega) fun e=>?_⟩
  have:=(HL.out.row.lt k e).1;omega
 ·exact aL (by rw[nW.out];omega) (aL PH.out.size hF.size)
structure yD (T:List Nd) (B b:Nat) (nv:Value) (ub ob f:Nat) (pa:Option Addr) (lv:Value) (ms:List Nat) (L:List cV) (st:aF) (w:World) (a s:Nat):Prop where
 dy:vx w B nv T
 rs:jL w B b nv T.length st ub ob
 pos:oE w B f (.pointer pa) lv ms L st
 cx:Cx f st
 few:dQ st.fns
 fr :∀x∈st.frames,x.fn<st.fns.length
 names:st.names.length+a≤100000
 fns:st.fns.length+s≤100000
 fu:L.length+1+s≤100000
theorem cw.lt {W:World} {B:Nat} :∀{fs:List (Nat×Nat×(ByteArray→Option Value))} {ms:List Nat} {p:Value},cw W B fs ms p→∀m∈ms,m<W.heap.size
 | [],_,_,h,m,hm=>by rw[h.1] at hm;cases hm
 | x::fs,ms,p,h,m,hm=>by
  obtain⟨k',p',m',BQ,rfl,rfl,_,_,h3,_,_,h6⟩:=h;rcases bq.1 hm with rfl|hm
  ·exact h3.lt
  ·exact cw.lt h6 m hm
theorem wZ {T:List Nd} {B b:Nat} {nv:Value} {ub ob f:Nat} {pa la:Option Addr} {lc:Nat} {ms:List Nat} {L:List cV} {st:aF} {w:World} {a s:Nat} (loop:Int) (h:yD T B b nv ub ob f pa (.slice la L.length lc) ms L st w a s) :
  Calls Tryz.prog 112 #[.agg #[.int .i64 (f:Int),.int .i64 loop,.pointer pa,.slice la L.length lc]] w fun e w'=>∃g c m,e=.returned (.agg #[.int .i64 (f:Int),.int .i64 loop,.pointer pa,.slice (some ⟨g,0,none⟩) (L.length+1) c])∧eC T B b nv ub ob f pa (.slice (some ⟨g,0,none⟩) (L.length+1) c) ms (⟨f,m,[]⟩::L) st w' a s∧w.heap.size≤m∧((Value.slice la L.length lc).ownBlock=some g∨w.heap.size≤g)∧cW B ob (.slice la L.length lc) L.length none w w':=by
 have cB:B≤w.heap.size:=by obtain⟨_,_,_,_,_,h,_⟩:=h.dy.nodes;exact h
 refine(wY f loop pa la lc L w h.pos.fu (by have:=h.fu;omega) cB).mono ?_
 rintro e w' ⟨g,c,m,he,h1,h2,h3,h4,h5⟩;have hf:=h4 ob;refine⟨g,c,m,he,⟨h.dy.below hf.below,?_,⟨h1,h.pos.blk.jh hf (by simp),h.pos.names,?_⟩,?_,h.cx,h.few,h.fr,h.names,h.fns,?_⟩,h2,h3,hf⟩
 ·obtain⟨fv,FL,hw⟩:=h.rs
  exact⟨fv,FL,hw.fr h5 (by decide)⟩
 ·intro m' hm' l hl
  rcases bq.1 hl with rfl|hl
  ·have:=cw.lt h.pos.blk m' hm'
   show m'≠m
   omega
  ·exact h.pos.apart m' hm' l hl
 ·intro l r e
  injection e with e _;rw[←e]
 ·have:=h.fu
  rw[List.length_cons];omega
theorem eC.zero {T:List Nd} {B b:Nat} {nv:Value} {ub ob f:Nat} {pa:Option Addr} {lv:Value} {ms:List Nat} {L:List cV} {st:aF} {w:World} {a s:Nat} (h:eC T B b nv ub ob f pa lv ms L st w a (s+1)):yD T B b nv ub ob f pa lv ms L st w a s :=
 ⟨h.dy,h.rs,h.pos,h.cx,h.few,h.fr,h.names,by have:=h.fns;omega,by have:=h.fu;omega⟩
theorem cW.inner {B ob n g c m:Nat} {lv:Value} {w w1 w2:World} {top:Option Nat} (h1:cW B ob lv n top w w1) (hg:lv.ownBlock=some g∨w.heap.size≤g) (hm:w.heap.size≤m) (h2:cW B ob (.slice (some ⟨g,0,none⟩) (n+1) c) (n+1) (some m) w1 w2):cW B ob lv n top w w2:=by
 refine⟨h1.below.trans h2.below,fun k c e fz hk he=>h2.cells k c e fz (h1.cells k c e fz hk he) he,fun k c fz hk ho=>h2.ints k c fz (h1.ints k c fz hk ho) ho,fun u k xs hu hk=>h2.lvl u k xs (h1.lvl u k xs hu hk) fun e=>?_,fun k es c hk ht=>h2.maps k es c (h1.maps k es c hk ht) fun e=>?_⟩
 ·replace e:u.ownBlock=some g:=e
  rcases hg with hg|hg
  ·exact Nat.le_succ_of_le (hk (e.trans hg.symm))
  ·have:=(hu.lt g e).2
   omega
 ·injection e with e
  have:=(aJ.1 hk).1;omega
theorem dk.inner {B ob g c m:Nat} {lv:Value} {L:List cV} {w1 w2:World} (h:dk w1 B lv L) (hne :∀l∈L,l.blk≠m) (h2:cW B ob (.slice (some ⟨g,0,none⟩) (L.length+1) c) (L.length+1) (some m) w1 w2):dk w2 B lv L :=
 ⟨h2.lvl _ _ _ h.row fun _=>fX _,fun l hl=>⟨h2.map (h.maps l hl).1 fun e=>hne l hl (by injection e),(h.maps l hl).2⟩,h.own,h.apart⟩
theorem aq.inner {B b:Nat} {nv:Value} {N ub ob g c m f:Nat} {lv:Value} {L:List cV} {st st1:aF} {r:Rs aF} {w w1 w2:World} {e:Ending} (h1:cW B ob lv L.length (eB L) w w1) (hl:dk w1 B lv L) (hne :∀l∈L,l.blk≠m) (hg:lv.ownBlock=some g∨w.heap.size≤g) (hm:w.heap.size≤m) (h:aq B b nv N ub ob (.slice (some ⟨g,0,none⟩) (L.length+1) c) (⟨f,m,[]⟩::L) st1 r w1 e w2):aq B b nv N ub ob lv L st (r.map fun s=>s.back st) w e w2:=by
 refine⟨h1.below.trans h.1,?_⟩;have h2:=h.2;cases r with
 | error y=>exact h2
 | ok s =>
  obtain⟨k1,⟨fv,FL,k2⟩,k3,_⟩:=h2;refine⟨k1,⟨fv,FL,k2.on rfl rfl rfl⟩,h1.inner hg hm k3,[],rfl,fun _=>rfl,?_⟩
  rw[jK];exact hl.inner hne k3
theorem cW.past {B ob n:Nat} {v:Value} {top:Option Nat} {w W X:World} (h:cW B ob v n top w W) (hb:Below B W X) (hk :∀k,k<w.heap.size→X.heap[k]? = W.heap[k]?):cW B ob v n top w X:=by
 refine⟨h.below.trans hb,fun k c e fz hc he=>(hk k (aJ.1 hc).1).trans (h.cells k c e fz hc he),fun k c fz hc ho=>(hk k (aJ.1 hc).1).trans (h.ints k c fz hc ho),fun u m xs hu hm=>?_,fun k es c hc ht=>(hk k (aJ.1 hc).1).trans (h.maps k es c hc ht)⟩
 have h1:=h.lvl u m xs hu hm;refine⟨h1.1,?_⟩;rcases h1.2 with hn | ⟨g,cap,cur,rfl,hB,hg,rest⟩
 ·exact .inl hn
 ·exact .inr ⟨g,cap,cur,rfl,hB,(hk g (hu.lt g rfl).2).trans hg,rest⟩
theorem cw.fr {W W':World} {B:Nat} {E:List Nat} (k:Fr E W W') (he:(195:Nat)∉E) :∀{fs:List (Nat×Nat×(ByteArray→Option Value))} {ms:List Nat} {p:Value},cw W B fs ms p→cw W' B fs ms p
 | [],_,_,h=>h
 | x::fs,ms,p,h=>by
  obtain⟨k',p',m,BQ,rfl,rfl,h1,h2,h3,h4,h5,h6⟩:=h;exact⟨k',p',m,BQ,rfl,rfl,h1,k.cells k' _ _ _ h2 he,k.map h3,h4,h5,cw.fr k he h6⟩
theorem dk.fr {W W':World} {B:Nat} {v:Value} {L:List cV} {E:List Nat} (h:dk W B v L) (k:Fr E W W') (he:(238:Nat)∉E):dk W' B v L :=
 ⟨k.row h.row he,fun l hl=>⟨k.map (h.maps l hl).1,(h.maps l hl).2⟩,h.own,h.apart⟩
theorem eC.Tm {T:List Nd} {B b:Nat} {nv:Value} {ub ob f:Nat} {pa:Option Addr} {lv:Value} {ms:List Nat} {L:List cV} {st:aF} {w w':World} {a s:Nat} (h:eC T B b nv ub ob f pa lv ms L st w a s) (k:Fr [92] w w') (hb:Below B w w'):eC T B b nv ub ob f pa lv ms L st w' a s:=by
 refine⟨h.dy.below hb,?_,⟨h.pos.fu.fr k (by decide),cw.fr k (by decide) h.pos.blk,h.pos.names,h.pos.apart⟩,h.hd,h.cx,h.few,h.fr,h.names,h.fns,h.fu⟩
 obtain⟨fv,FL,hw⟩:=h.rs;exact⟨fv,FL,hw.fr k (by decide)⟩
theorem eC.nX {T:List Nd} {B b:Nat} {nv:Value} {ub ob f:Nat} {pa:Option Addr} {lv:Value} {ms:List Nat} {L:List cV} {st:aF} {w:World} {a s:Nat} (i:Nat) (h:eC T B b nv ub ob f pa lv ms L st w a s):eC T B b nv ub ob f pa lv ms L (dt i f st) w a s:=by
 refine⟨h.dy,?_,⟨h.pos.fu,?_,h.pos.names,h.pos.apart⟩,h.hd,⟨h.cx.ok,h.cx.lt,h.cx.names⟩,h.few,fun x hx=>?_,h.names,h.fns,h.fu⟩
 ·obtain⟨fv,FL,hw⟩:=h.rs
  exact⟨fv,FL,hw.on rfl rfl rfl⟩
 ·show oD w B (dE f (⟨f,i,0,true,false,[]⟩::st.frames)) ms _
  rw[rr (.inl rfl)];exact h.pos.blk
 ·rcases bq.1 hx with rfl|hx
  ·exact h.cx.lt
  ·exact h.fr x hx
def four (W:World) (r:Nat) (a c d e:Value):World:=(((W.setCell ⟨r,0,none⟩ a).setCell ⟨r,1,none⟩ c).setCell ⟨r,2,none⟩ d).setCell ⟨r,3,none⟩ e
theorem uY {W:World} {r:Nat} (k:vi W r 92) (a c d e:Value):Fr [92] W (four W r a c d e):=(k.fr (by decide) _ _).trans (((k.set _ _ _).fr (by decide) _ _).trans ((((k.set _ _ _).set _ _ _).fr (by decide) _ _).trans ((((k.set _ _ _).set _ _ _).set _ _ _).fr (by decide) _ _)))
theorem pj {B r:Nat} (W:World) (hB:B≤r) (a c d e:Value):Below B W (four W r a c d e):=((((Below.refl B W).setCell (p:=⟨r,0,none⟩) hB a).setCell (p:=⟨r,1,none⟩) hB c).setCell (p:=⟨r,2,none⟩) hB d).setCell (p:=⟨r,3,none⟩) hB e
theorem eX.four {w W:World} {p q f:Nat} {loop:Int} {pa:Option Addr} {lv kv nv d0 d1 d2:Value} (h:eX w W p q f loop pa lv kv nv d0 d1 d2) (OL:Int) (S3:Option Addr) (lv':Value):eX w (four W w.heap.size (.int .i64 (f:Int)) (.int .i64 OL) (.pointer S3) lv') p q f OL S3 lv' kv nv d0 d1 d2:=by
 obtain⟨a,b,c,d,e,hk⟩:=h.kids;have hp:=h.pne;have hq:=h.qne;have k :∀j,j≠w.heap.size→(Go.Proofs.YteflkdlaoiijbaaGreatDoor.four W w.heap.size (.int .i64 (f:Int)) (.int .i64 OL) (.pointer S3) lv').heap[j]? = W.heap[j]?:=fun j hj=>nB W _ _ _ _ _ j hj
 exact⟨bA (bA (bA (bA h.pos 0 _) 1 _) 2 _) 3 _,⟨a,b,c,d,e,(k _ (by omega)).trans hk⟩,(k _ (by omega)).trans h.dec,hp,hq⟩
theorem gB.first {W:World} {B sb so n kc:Nat} {xs ys:List Int} (h:gB W B (.slice (some ⟨sb,so,none⟩) n kc) (xs++ys)):gB W B (.slice (some ⟨sb,so,none⟩) xs.length kc) xs:=by
 obtain⟨A,c,e,hc,h1⟩:=h;injection e with e1 e2 e3;subst e1 e3;rw[cC] at hc;refine⟨_,_,rfl,by omega,?_⟩
 rcases h1 with h1 | ⟨bk,o,e4,hb,hx⟩
 ·exact .inl (JK.1 h1).1
 ·exact .inr ⟨bk,o,e4,hb,fun j x hj=>hx j x (by rw[kC (aK.1 hj).1];exact hj)⟩
theorem gB.last {W:World} {B sb so n kc:Nat} {xs ys:List Int} (h:gB W B (.slice (some ⟨sb,so,none⟩) n kc) (xs++ys)):gB W B (.slice (some ⟨sb,so+xs.length,none⟩) ys.length (kc-xs.length)) ys:=by
 obtain⟨A,c,e,hc,h1⟩:=h;injection e with e1 e2 e3;subst e1 e3;rw[cC] at hc;refine⟨_,_,rfl,by omega,?_⟩
 rcases h1 with h1 | ⟨bk,o,e4,hb,hx⟩
 ·exact .inl (JK.1 h1).2
 ·injection e4 with e4
  injection e4 with e4 e5 _;subst e4 e5;exact .inr ⟨_,_,rfl,hb,fun j x hj=>by have:=hx (xs.length+j) x (by rw[yX (by omega),Nat.add_sub_cancel_left];exact hj);rwa[←pC] at this⟩
theorem Yi {α:Type} {x l:List α} (h:l=x++l):x=[]:=by
 have:=az List.length h;rw[cC] at this;exact List.length_eq_zero_iff.1 (by omega)
theorem aq.same {B b:Nat} {nv:Value} {N ub ob:Nat} {lv:Value} {L:List cV} {st st':aF} {r r':Rs aF} {w w2:World} {e:Ending} (h:aq B b nv N ub ob lv L st r w e w2) (hn:st'.names=st.names) (hr:match r,r' with | .ok a,.ok c=>c.fns=a.fns∧c.uses=a.uses∧c.of=a.of∧c.names=a.names | .error a,.error c=>a=c|_,_=>False):aq B b nv N ub ob lv L st' r' w e w2:=by
 refine⟨h.1,?_⟩;have h2:=h.2;cases r with
 | error y =>
  cases r' with
  | error z=>cases hr;exact h2
  | ok z=>exact hr.elim
 | ok s =>
  cases r' with
  | error z=>exact hr.elim
  | ok z =>
   obtain⟨k1,⟨fv,FL,k2⟩,k3,x,k4,k5,k6⟩:=h2;obtain⟨e1,e2,e3,e4⟩:=hr;exact⟨k1,⟨fv,FL,k2.on e1 e2 e3⟩,k3,x,by rw[e4,k4,hn],k5,k6⟩
theorem rD {f:Nat} (t:Lt) (st:aF):aE [t] f st=aV t f st:=by
 rw[dP];cases aV t f st with
 | error y=>rfl
 | ok s=>show aE [] f s=_;rw[eE]
theorem qA {i f:Nat} {line:Int} {names:List ByteArray} (blk:Lt) :∀(vals:List Lt) (st:aF),iH i line names (vals++[blk]) f st=(aE vals f st).bind fun s1=>((bo i f line names (dt i f s1)).bind fun s2=>aE [blk] f s2).map fun s=>s.back s1
 | [],st=>by
  rw[kF,np,eE];show _=Except.map _ (Except.bind _ _)
  cases bo i f line names (dt i f st) with
  | error y=>rfl
  | ok s2=>show(aV blk f s2).map _=(aE [blk] f s2).map _;rw[rD]
 | [a],st=>by
  rw[List.singleton_append,jm,rD];cases aV a f st with
  | error y=>rfl
  | ok s =>
   have:=qA (i:=i) (f:=f) (line:=line) (names:=names) blk [] s;rw[kF,eE] at this;exact this
 | a::c::l,st=>by
  rw[fh,fh,jm,dP];cases aV a f st with
  | error y=>rfl
  | ok s=>exact qA blk (c::l) s
theorem yD.levels {T:List Nd} {B b:Nat} {nv:Value} {ub ob f:Nat} {pa:Option Addr} {lv:Value} {ms:List Nat} {L:List cV} {st:aF} {w:World} {a s:Nat} (h:yD T B b nv ub ob f pa lv ms L st w a s) :∀l∈L,l.blk<w.heap.size:=fun l hl=>(h.pos.fu.maps l hl).1.lt
theorem aq.Tn {B b:Nat} {nv:Value} {N ub ob:Nat} {lv:Value} {L:List cV} {st s1:aF} {r:Rs aF} {w w2:World} {e:Ending} (h:aq B b nv N ub ob lv L st (r.map fun s=>s.back st) w e w2) (hn:s1.names=st.names):aq B b nv N ub ob lv L st (r.map fun s=>s.back s1) w e w2:=by
 refine h.same rfl ?_;cases r with
 | error y=>rfl
 | ok s=>exact⟨rfl,rfl,rfl,hn⟩
theorem Bh {T:List Nd} {B b:Nat} {nv:Value} {ub ob:Nat} (i f:Nat) (h:Nd) (vals rest:List Lt) (loop:Int) (pa la:Option Addr) (lc:Nat) (ms:List Nat) (L:List cV) (st:aF) (w:World) (hr:eC T B b nv ub ob f pa (.slice la L.length lc) ms L st w (Lt.ec vals+(h.names.length+Lt.ec rest)) (Lt.ak vals+(Lt.ak rest+1))) (hx:T[i]? = some h) (hk:h.kids=(vals.map fun k=>(k.loc:Int))++rest.map fun k=>(k.loc:Int)) (Bi:rest≠[]) (hn:dT T vals) (qS:dT T rest) (hV :∀k∈vals,bI T B b nv ub ob k) (hV2 :∀k∈rest,bI T B b nv ub ob k)
  (hl :∀k∈vals,k.hd.kind<18) (hst :∀k∈vals,Still k) (hL:L≠[]) (hsz :∀s∈h.names,s.size≤65536) (Uo:loop=(i:Int)) (hd:gD h.kind h.kids.length=(true,(vals.length:Int),true)) :
  Calls Tryz.prog 55 #[.pointer (some ⟨b,0,none⟩),.int .i64 (i:Int),.agg #[.int .i64 (f:Int),.int .i64 loop,.pointer pa,.slice la L.length lc]] w (aq B b nv T.length ub ob (.slice la L.length lc) L st ((aE vals f st).bind fun s1=>((bo i f h.line h.names (dt i f s1)).bind fun s2=>aE rest f s2).map fun s=>s.back s1) w):=by
 obtain⟨bk,o,c,rfl,bS,cB,cN⟩:=hr.dy.nodes;obtain⟨qD,qE,dS,⟨NA,nc,kA,_⟩,fy⟩:=cN i h hx;have sK:h.kids.length≤20000:=(hr.dy.small h (aM hx)).1;have fR:h.kids.length=vals.length+rest.length:=by rw[hk,cC,cD,cD]
 have hr1:1≤rest.length:=vG.2 Bi;obtain⟨KA,kc,jw,rT,j9⟩:=id fy;subst kA jw;obtain⟨sb,so,rfl⟩ :∃sb so,KA=some ⟨sb,so,none⟩:=by
  rcases j9 with h0 | ⟨sb,so,h1,_⟩
  ·rw[h0] at fR;simp at fR;omega
  ·exact⟨sb,so,h1⟩
 obtain⟨x0,x1,x2,x3,x4,x5,x6⟩:=dS;have yx:i<T.length:=(aK.1 hx).1;have qF:=hr.dy.few;have hbl:b<w.heap.size:=by obtain⟨_,_,hw⟩:=hr.rs;exact hw.gK.1
 have d0:w.cell? ⟨b,0,none⟩=some (.slice (some ⟨bk,o,none⟩) T.length c):=by obtain⟨_,_,hw⟩:=hr.rs;exact ab hw.blk 0
 have iK:bk<w.heap.size:=by omega
 have HD:=aa (gE h.kind h.line h.op h.num h.s NA (some ⟨sb,so,none⟩) h.names.length nc h.kids.length kc);have UU:gB w B (.slice (some ⟨sb,so,none⟩) vals.length kc) (vals.map fun k=>(k.loc:Int)):=by
  rw[hk] at fy;have:=fy.first
  rwa[cD] at this
 have Bj:gB w B (.slice (some ⟨sb,so+vals.length,none⟩) rest.length (kc-vals.length)) (rest.map fun k=>(k.loc:Int)):=by
  rw[hk] at fy;have:=fy.last;rwa[cD,cD] at this
 have yA:Hid (∀W,Below w.heap.size w W→Calls Tryz.prog 111 #[.pointer (some ⟨b,0,none⟩),.slice (some ⟨sb,so,none⟩) vals.length kc,.agg #[.int .i64 (f:Int),.int .i64 loop,.pointer pa,.slice la L.length lc]] W (aq B b (.slice (some ⟨bk,o,none⟩) T.length c) T.length ub ob (.slice la L.length lc) L st (aE vals f st) W)):=aa fun W hW =>
  qy f loop pa la lc ms L st W (.slice (some ⟨sb,so,none⟩) vals.length kc) vals ((hr.dp hW).mono (gp _ _) (gp _ _)) hn hV (UU.below (hW.mono cB)).keeps (fun k hk mc=>by have:=hl k hk;omega) (fun k _=>.inl hL) (by omega)
 have HR:=aa hr;have HN:=aa hn;have QX:=aa qS;have HV2:=aa hV2;have HST:=aa hst;have OM:=aa Bj;have Tl:=aa hd;have HLI:=aa Uo;have HK:=aa hk;have hvl:vals.length≤kc:=by omega
 have Ss:vals.length≤h.kids.length:=by omega
 have mY:=aa hr1;have HL:=aa hL;have qm:=aa hsz;have HX:=aa hx;have sr:=aa fR;have HRL:Hid (h.kids.length-vals.length=rest.length):=aa (by omega)
 have hv2:vals.length≤20000:=by omega
 clear hr1 fR hr hn hV hl fy UU Bj hd cN hk qS hV2 hst j9 Uo hL hsz hx Bi;go_enter Tryz.func55,Tryz.ntmps55
 go_wp2_with fail
 refine(HD.out _ (by omega)).mono ?_
 rw[Tl.out];rintro e w1 ⟨rfl,hb1⟩;have dU:=aa hb1;clear hb1;go_wp2_with fail
 have yC:=lk rfl dU.out (.bool true) (.int .i64 (vals.length:Int)) (.bool true);have qz:=aa yC.2;have oF:=aa yC.1;clear yC;clear d0 x0 x1 x2 x3 x4 x5 x6;generalize w1.alloc (.cells #[.bool true,.int .i64 (vals.length:Int),.bool true] 189)=W2 at qz oF ⊢;generalize w1.heap.size=q at qz ⊢;generalize w.heap.size+1=p at qz ⊢;obtain⟨k0,k1,k2,k3,k4,k5,k6,k7,k8⟩:=qz.out.cells;go_still_tail 7,(by kernel_rfl)
 change wpList _ _ _ _ _ W2.drew;have D2:=aa (show Below W2.heap.size W2 W2.drew from(Below.refl _ _).drew)
 generalize W2.drew=W3 at D2 ⊢;go_wp2_with fail
 have lo:=aa (oF.out.trans (D2.out.mono oF.out.size));refine(yA.out W3 lo.out).mono ?_;intro e w4 hp;cases oA:aE vals f st with
 | error y =>
  rw[oA] at hp;obtain⟨hb,v,rfl,g2,rfl,h2⟩:=hp;have H2:=aa h2;have HB:=aa hb;have HE:Hid (((aE vals f st).bind fun s1=>((bo i f h.line h.names (dt i f s1)).bind fun s2=>aE rest f s2).map fun s=>s.back s1)=.error y):=aa (by rw[oA];rfl)
  clear h2 hb oA;go_wp2_with fail
  go_ret
  rw[HE.out];exact⟨(lo.out.mono cB).trans HB.out,_,rfl,_,rfl,H2.out⟩
 | ok s1 =>
  rw[oA] at hp;have hr4:=HR.out.dp lo.out;have hst:=(gi vals oA HN.out.nodup hr4.cx HN.out.wf).1;have PC:=qk vals HN.out.quiet HST.out oA;obtain⟨rfl,x,hx1,hx2,vy,Dy⟩:=eC.step (a1:=Lt.ec vals) (s1:=Lt.ak vals) hr4 (iI vals oA hr4.few) (hst.cx hr4.cx) (lg vals oA) hp;rw[PC] at hx1;have hx0:=Yi hx1;subst hx0;rw[jK] at vy;have P5:=aa ((qz.out.later D2.out).jh Dy);have US:=aa ((lo.out.mono cB).trans Dy.below);have OI:Hid (cW B ob (.slice la L.length lc) L.length (eB L) w w4):=aa ((cW.bP lo.out cB).trans Dy);have Lv:=aa (vy.nX i);have hz:=(vy.nX i).zero;have HZ:=aa hz;have Zf:=aa (wZ loop hz);have HNM:=aa PC;have PB:=aa oA;have hsz5:=Dy.below.size;have acP:=lo.out.size;clear hp hr4 vy Dy hst hx1 hx2 oA hz PC k0 k1 k2 k3 k4 k5 k6 k7 k8;obtain⟨k0,k1,k2,k3,k4,k5,k6,k7,k8⟩:=P5.out.cells;go_wp2_with fail
  refine Zf.out.mono ?_;rintro e w6 ⟨g,c6,m,rfl,Oc,hm,hg,PK⟩;have P6:=aa (P5.out.jh PK);have y0:=aw P6.out.pos 0;have y1:=aw P6.out.pos 1;have y2:=aw P6.out.pos 2;have y3:=aw P6.out.pos 3;have HR6:=aa Oc;have HM:=aa hm;have HG:=aa hg;have Od:=aa PK;clear Oc hm hg PK k0 k1 k2 k3 k4 k5 k6 k7 k8;obtain⟨k0,k1,k2,k3,k4,k5,k6,k7,k8⟩:=P6.out.cells;obtain⟨W7,vz⟩ :∃W7,W7=four w6 w.heap.size (.int .i64 (f:Int)) (.int .i64 loop) (.pointer pa) (.slice (some ⟨g,0,none⟩) (L.length+1) c6):=⟨_,rfl⟩;have P7:Hid (eX w W7 p q f loop pa (.slice (some ⟨g,0,none⟩) (L.length+1) c6) (.slice (some ⟨sb,so,none⟩) h.kids.length kc) (.slice NA h.names.length nc) (.bool true) (.int .i64 (vals.length:Int)) (.bool true)):=aa (by rw[vz];exact P6.out.four _ _ _)
  have kn:vi w6 w.heap.size 92:=⟨_,_,P6.out.pos⟩;have F7:Hid (Fr [92] w6 W7):=aa (by rw[vz];exact uY kn _ _ _ _)
  have B7:Hid (Below B w6 W7):=aa (by rw[vz];exact pj w6 cB _ _ _ _)
  have K7:Hid (∀k,k≠w.heap.size→W7.heap[k]? = w6.heap[k]?):=aa (by rw[vz];exact fun k hk=>nB w6 _ _ _ _ _ k hk)
  unfold four at vz;have HW7:=aa vz;clear vz kn;have YS:p≠w.heap.size:=by have:=P5.out.pne;omega
  have hqn:q≠w.heap.size:=by have:=P5.out.qne;omega
  go_wp2_with fail
  rw[←HW7.out];have HZ0:=HZ.out;have hlt :∀l∈L,l.blk≠m:=fun l hl=>by have:=HZ.out.levels l hl;have:=HM.out;omega
  have Bk:=HR6.out.Tm F7.out B7.out;have UQ:cW B ob (.slice la L.length lc) L.length (eB L) w W7:=(OI.out.trans (Od.out.E5 _)).past B7.out fun k hk=>K7.out k (by omega)
  have hLV:dk W7 B (.slice la L.length lc) L:=((HZ.out.pos.fu).jh Od.out (ah _)).fr F7.out (by decide)
  have UW:(Value.slice la L.length lc).ownBlock=some g∨w.heap.size≤g:=HG.out.imp id fun h=>by omega
  have UX:w.heap.size≤m:=by have:=HM.out;omega
  have To:=aa Bk;have Yj:=aa UQ;have UY:=aa hLV;have HOW:=aa UW;have UZ:=aa UX;have mu:=aa hlt;have hdec:Calls Tryz.prog 113 #[.pointer (some ⟨b,0,none⟩),.int .i64 (i:Int),.agg #[.int .i64 (f:Int),.int .i64 loop,.pointer pa,.slice (some ⟨g,0,none⟩) (L.length+1) c6]] W7 (aq B b (.slice (some ⟨bk,o,none⟩) T.length c) T.length ub ob (.slice (some ⟨g,0,none⟩) (L.length+1) c6) (⟨f,m,[]⟩::L) (dt i f s1) (bo i f h.line h.names (dt i f s1)) W7) :=
   j7 b i f h loop pa (some ⟨g,0,none⟩) c6 ⟨f,m,[]⟩ L (dt i f s1) W7 Bk.dy Bk.rs HX.out Bk.cx.lt Bk.pos.fu rfl (by have:=Bk.fu;omega) Bk.few (by simp) qm.out
  clear Bk UQ hLV UW UX hlt HZ0 k0 k1 k2 k3 k4 k5 k6 k7 k8 y0 y1 y2 y3;refine hdec.mono ?_;intro e w8 hp;clear hdec;cases jM:bo i f h.line h.names (dt i f s1) with
  | error y =>
   rw[jM] at hp;have HP:=aa hp;obtain⟨_,v,rfl,g2,rfl,_⟩:=hp;have HE:Hid (((aE vals f st).bind fun s1=>((bo i f h.line h.names (dt i f s1)).bind fun s2=>aE rest f s2).map fun s=>s.back s1)=.error y):=aa (by rw[PB.out];show Except.map _ (Except.bind _ _)=_;rw[jM];rfl)
   clear jM;go_wp2_with fail
   go_ret
   rw[HE.out];exact(aq.inner (st:=st) Yj.out UY.out mu.out HOW.out UZ.out HP.out).same rfl rfl
  | ok s2 =>
   rw[jM] at hp;obtain⟨OK,uX,_⟩:=nm jM To.out.cx;obtain⟨rfl,x,hx1,hx2,Tp,Tq⟩:=eC.step (a1:=h.names.length) (s1:=0) (by rw[iY];exact To.out) (jI jM To.out.few) (OK.cx To.out.cx) uX hp
   have P9:=aa (P7.out.jh Tq);have HC:Hid (∀W,Below w8.heap.size w8 W→Calls Tryz.prog 111 #[.pointer (some ⟨b,0,none⟩),.slice (some ⟨sb,so+vals.length,none⟩) rest.length (kc-vals.length),.agg #[.int .i64 (f:Int),.int .i64 loop,.pointer pa,.slice (some ⟨g,0,none⟩) (L.length+1) c6]] W (aq B b (.slice (some ⟨bk,o,none⟩) T.length c) T.length ub ob (.slice (some ⟨g,0,none⟩) (L.length+1) c6) (grow x (⟨f,m,[]⟩::L)) s2 (aE rest f s2) w8)):=aa fun W hW =>
    (Dx f loop pa (some ⟨g,0,none⟩) c6 ms (⟨f,m,[]⟩::L) x s2 W (.slice (some ⟨sb,so+vals.length,none⟩) rest.length (kc-vals.length)) rest (Tp.dp hW) QX.out HV2.out (OM.out.below ((Yj.out.below.trans Tq.below).trans (hW.mono Tp.world))) (fun k hk mc=>by rw[s8 uX,HLI.out];exact(uO f i _).symm) (fun k _=>.inl (by simp)) (by have:=sr.out;omega)).mono fun e w' h=>h.from hW Tp.world
   have XL:=aa Tq;have OG:=aa hx1;have HE:Hid (((aE vals f st).bind fun s1=>((bo i f h.line h.names (dt i f s1)).bind fun s2=>aE rest f s2).map fun s=>s.back s1)=(aE rest f s2).map fun s=>s.back s1):=aa (by rw[PB.out];show Except.map _ (Except.bind _ _)=_;rw[jM];rfl)
   clear hp Tp Tq OK uX hx1 hx2 jM;obtain⟨k0,k1,k2,k3,k4,k5,k6,k7,k8⟩:=P9.out.cells;go_wp2_with fail
   have Px:vals.length<kc:=by have:=mY.out;have:=sr.out;omega
   go_still_tail 7,(by kernel_rfl)
   change wpList _ _ _ _ _ w8.drew;have UT:=aa (HC.out w8.drew (Below.refl _ _).drew);generalize w8.drew=W9 at UT ⊢;go_wp2_with fail
   rw[HRL.out];refine UT.out.mono ?_;intro e w10 hp;obtain⟨v,rfl⟩:=hp.ret;have HP:=aa hp;clear hp;go_wp2_with fail
   go_ret
   rw[HE.out];exact(aq.inner (st:=st) Yj.out UY.out mu.out HOW.out UZ.out (aq.trans (L:=⟨f,m,[]⟩::L) (st1:=s2) (x:=x) XL.out.below XL.out OG.out (fun e=>by cases e) HP.out)).Tn HNM.out
end Go.Proofs.YteflkdlaoiijbaaGreatDoor
namespace Go.Proofs.YteflkdlaoiijbaaGreatDoor
open Go.RowKit
def vA (i f:Nat) (rep:Bool) (ks tests:List Lt) (st:aF):Rs aF:=(ft i f rep ks (st.setOf i f)).bind fun s1=>(bz ks 0 f s1).bind fun s2=>aE tests f s2
theorem cw.but {W W':World} {B kb:Nat} (h2 :∀k,k≠kb→k<W.heap.size→W'.heap[k]? = W.heap[k]?) :∀{fs:List (Nat×Nat×(ByteArray→Option Value))} {ms:List Nat} {p:Option Addr},cw W B fs ms (.pointer p)→(∀a,p=some a→a.block<kb)→(∀m∈ms,m≠kb)→cw W' B fs ms (.pointer p)
 | [],_,_,h,_,_=>h
 | x::fs,ms,p,h,hp,hm=>by
  obtain⟨k',p',m,BQ,e,rfl,h1,h3,h4,h5,h6,h7⟩:=h;injection e with e;have hk:=hp _ e;replace hk:k' < kb:=hk;exact⟨k',p',m,BQ,by rw[e],rfl,h1,(h2 k' (by omega) (aJ.1 h3).1).trans h3,h4.same (h2 m (hm m (bV ..)) h4.lt),h5,h6,cw.but h2 h7 (fun a ha=>Nat.lt_trans (h6 a ha) hk) fun x hx=>hm x (bY _ hx)⟩
theorem cw.first {W:World} {B:Nat} {fs:List (Nat×Nat×(ByteArray→Option Value))} {ms:List Nat} {p:Option Addr} (h:cw W B fs ms (.pointer p)) :∀a,p=some a→a.block<W.heap.size:=by
 intro a ha;cases fs with
 | nil=>rw[ha] at h;cases h.2
 | cons x fs =>
  obtain⟨k',_,_,_,e,_,_,h3,_⟩:=h;injection e with e;rw[ha] at e;injection e with e;rw[e];exact(aJ.1 h3).1
section
variable {T:List Nd} {B b:Nat} {nv:Value} {ub ob f kb mb i n:Nat} {rep:Bool} {ks:List Lt} {pa:Option Addr} {lv:Value} {ms:List Nat} {L:List cV} {st:aF} {w w':World} {a s:Nat}
theorem eC.Bl (h:eC T B b nv ub ob f pa lv ms L st w a s) (hk:w.heap[kb]? = some (.cells #[.pointer pa,.map (some mb),.int .i64 (gN ks (n+1):Int)] 195 (0,0))) (hm:dJ Tryz.prog 9 w mb ks.length (fB ks rep ks.length)) (hBk:B≤kb) (hBm:B≤mb) (S8 :∀a,pa=some a→a.block<kb) (hap :∀l∈L,mb≠l.blk) :
  eC T B b nv ub ob f (some ⟨kb,0,none⟩) lv (mb::ms) L { st with frames:=⟨f,i,n,false,rep,ks⟩::st.frames} w a s:=by
 refine⟨h.dy,?_,⟨h.pos.fu,?_,h.pos.names,fun m hm l hl=>?_⟩,h.hd,⟨h.cx.ok,h.cx.lt,h.cx.names⟩,h.few,fun x hx=>?_,h.names,h.fns,h.fu⟩
 ·obtain⟨fv,FL,hw⟩:=h.rs
  exact⟨fv,FL,hw.on rfl rfl rfl⟩
 ·show oD w B (dE f (⟨f,i,n,false,rep,ks⟩::st.frames)) (mb::ms) _
  rw[uK (f:=f) (x:=⟨f,i,n,false,rep,ks⟩) rfl rfl];exact⟨kb,pa,mb,ms,rfl,rfl,hBk,hk,hm,hBm,S8,h.pos.blk⟩
 ·rcases bq.1 hm with rfl|hm
  ·exact hap l hl
  ·exact h.pos.apart m hm l hl
 ·rcases bq.1 hx with rfl|hx
  ·exact h.cx.lt
  ·exact h.fr x hx
theorem eC.Ts {ON:List e8} {v:Value} (h:eC T B b nv ub ob f (some ⟨kb,0,none⟩) lv (mb::ms) L st w a s) (hf:st.frames=⟨f,i,n,false,rep,ks⟩::ON) (hk:w.heap[kb]? = some (.cells #[.pointer pa,.map (some mb),v] 195 (0,0))) :
  eC T B b nv ub ob f pa lv ms L { st with frames:=ON} w a s∧dJ Tryz.prog 9 w mb ks.length (fB ks rep ks.length):=by
 have hb:oD w B (dE f st.frames) (mb::ms) (.pointer (some ⟨kb,0,none⟩)):=h.pos.blk;rw[hf,uK (f:=f) (x:=⟨f,i,n,false,rep,ks⟩) rfl rfl] at hb;obtain⟨k',p',m,BQ,e,e2,h1,h3,h4,h5,h6,h7⟩:=hb;injection e with e;injection e with e;injection e with e;subst e;injection e2 with e2 e3;subst e2 e3;rw[hk] at h3;injection h3 with h3;injection h3 with h3;have h8:[Value.pointer pa,.map (some mb),v]=[.pointer p',.map (some mb),.int .i64 (gN ks (n+1):Int)]:=az Array.toList h3;injection h8 with h8 _;injection h8 with h8;subst h8;refine⟨⟨h.dy,?_,⟨h.pos.fu,h7,h.pos.names,fun m hm l hl=>h.pos.apart m (bY _ hm) l hl⟩,h.hd,⟨h.cx.ok,h.cx.lt,h.cx.names⟩,h.few,fun x hx=>h.fr x (by rw[hf];exact bY _ hx),h.names,h.fns,h.fu⟩,h4⟩
 obtain⟨fv,FL,hw⟩:=h.rs;exact⟨fv,FL,hw.on rfl rfl rfl⟩
theorem eC.but (h:eC T B b nv ub ob f pa lv ms L st w a s) (k:Fr [195] w w') (hb:Below B w w') (h2 :∀j,j≠kb→j<w.heap.size→w'.heap[j]? = w.heap[j]?) (S8 :∀a,pa=some a→a.block<kb) (hm :∀m∈ms,m≠kb):eC T B b nv ub ob f pa lv ms L st w' a s:=by
 refine⟨h.dy.below hb,?_,⟨h.pos.fu.fr k (by decide),cw.but h2 h.pos.blk S8 hm,h.pos.names,h.pos.apart⟩,h.hd,h.cx,h.few,h.fr,h.names,h.fns,h.fu⟩
 obtain⟨fv,FL,hw⟩:=h.rs;exact⟨fv,FL,hw.fr k (by decide)⟩
theorem eC.grown (h:eC T B b nv ub ob f pa lv ms L st w a s) (hg:w.grownBy w' (some mb)) (hm :∃es c,w.heap[mb]? = some (.map es c)) (hB:B≤mb) (h1:mb∉ms) (h2 :∀l∈L,mb≠l.blk):eC T B b nv ub ob f pa lv ms L st w' a s:=by
 have cB:=h.world;refine⟨h.dy.below (j8 hg hB cB),?_,⟨⟨hH (eW hg hm) h.pos.fu.row,fun l hl=>⟨(h.pos.fu.maps l hl).1.same (hg.block _ (h.pos.fu.maps l hl).1.lt fun e=>h2 l hl (by injection e with e;exact e.symm)),(h.pos.fu.maps l hl).2⟩,h.pos.fu.own,h.pos.fu.apart⟩,cw.grown hg hm h.pos.blk h1,h.pos.names,h.pos.apart⟩,h.hd,h.cx,h.few,h.fr,h.names,h.fns,h.fu⟩
 obtain⟨fv,FL,hw⟩:=h.rs;exact⟨fv,FL,hw.keep (eW hg hm)⟩
theorem dk.grown (h:dk w B lv L) (hg:w.grownBy w' (some mb)) (hm :∃es c,w.heap[mb]? = some (.map es c)) (h2 :∀l∈L,mb≠l.blk):dk w' B lv L :=
 ⟨hH (eW hg hm) h.row,fun l hl=>⟨(h.maps l hl).1.same (hg.block _ (h.maps l hl).1.lt fun e=>h2 l hl (by injection e with e;exact e.symm)),(h.maps l hl).2⟩,h.own,h.apart⟩
end
theorem qt.inner {B ob g c m n:Nat} {lv kv:Value} {top:Option Nat} {w w1:World} {xs:List Int} (h:qt B ob lv n top w kv xs) (h1:cW B ob lv n top w w1) (hg:lv.ownBlock=some g∨w.heap.size≤g) (hm:w.heap.size≤m):qt B ob (.slice (some ⟨g,0,none⟩) (n+1) c) (n+1) (some m) w1 kv xs:=by
 obtain⟨A,c',e,hc,h2⟩:=h;refine⟨A,c',e,hc,h2.imp id ?_⟩;rintro⟨bk,o,e2,hx⟩;exact⟨bk,o,e2,fun w' hf=>hx w' (h1.inner hg hm hf)⟩
theorem Bm {i f:Nat} {rep:Bool} {ks:List Lt} {st:aF}:ft i f rep ks st=match cA st.frames f ks 0 ks with|some l=>.error (9,l)|none=>.ok { st with frames:=⟨f,i,0,false,rep,ks⟩::st.frames}:=rfl
end Go.Proofs.YteflkdlaoiijbaaGreatDoor
namespace Go.Proofs.YteflkdlaoiijbaaGreatDoor
open Go.RowKit
structure BI (T:List Nd) (B b:Nat) (nv:Value) (ub ob f i mb g c6 m:Nat) (rep:Bool) (ks tests:List Lt) (pa:Option Addr) (lv:Value) (ms:List Nat) (L:List cV) (ON:List e8) (loop:Int) (w:World) (n:Nat) (x:List jj) (s1:aF) (wr:World):Prop where
 rd:eC T B b nv ub ob f pa (.slice (some ⟨g,0,none⟩) (L.length+1) c6) ms (grow x (⟨f,m,[]⟩::L)) { s1 with frames:=ON} wr (Lt.ec (ks.drop n)+Lt.ec tests) (Lt.ak (ks.drop n)+Lt.ak tests)
 frames:s1.frames=⟨f,i,n-1,false,rep,ks⟩::ON
 kb:wr.heap[mb+1]? = some (.cells #[.pointer pa,.map (some mb),.int .i64 (gN ks n:Int)] 195 (0,0))
 mp:dJ Tryz.prog 9 wr mb ks.length (fB ks rep ks.length)
 box:wr.heap[w.heap.size]? = some (.cells #[.int .i64 (f:Int),.int .i64 loop,.pointer (some ⟨mb+1,0,none⟩),.slice (some ⟨g,0,none⟩) (L.length+1) c6] 92 (0,0))
 jh:cW B ob lv L.length (eB L) w wr
 fu:dk wr B lv L
structure BS (B mb g m:Nat) (pa:Option Addr) (lv:Value) (ms:List Nat) (L:List cV) (w:World):Prop where
 own:lv.ownBlock=some g∨w.heap.size≤g
 top:w.heap.size≤m
 old:w.heap.size≤mb
 low:B≤mb
 ptr :∀a,pa=some a→a.block<mb+1
 maps :∀x∈ms,x<mb
 acQ :∀l∈L,l.blk<mb
 mlt:m<mb
 apart :∀l∈L,l.blk≠m
 base:B≤w.heap.size
section
variable {T:List Nd} {B b:Nat} {nv:Value} {ub ob f i mb g c6 m:Nat} {rep:Bool} {ks tests:List Lt} {pa:Option Addr} {lv:Value} {ms:List Nat} {L:List cV} {ON:List e8} {loop:Int} {w:World} {n:Nat} {x:List jj} {s1:aF} {wr wr':World}
theorem BS.grow (h:BS B mb g m pa lv ms L w) (x:List jj) :∀l∈grow x (⟨f,m,[]⟩::L),mb≠l.blk:=by
 intro l hl;have h1:l.blk∈(Go.Proofs.YteflkdlaoiijbaaGreatDoor.grow x (⟨f,m,[]⟩::L)).map cV.blk:=jT hl;rw[uQ] at h1;rcases bq.1 h1 with h1|h1
 ·have:=h.mlt
  replace h1:l.blk=m:=h1;omega
 ·obtain⟨u,hu,e⟩:=jr.1 h1
  have:=h.acQ u hu;omega
theorem Fk {s:aF} {y:e8} {l:List e8} (h:s.frames=y::l) (n:Nat):s.at n={ s with frames:={ y with at_:=n}::l}:=by
 unfold aF.at;rw[h]
theorem BI.ready (h:BI T B b nv ub ob f i mb g c6 m rep ks tests pa lv ms L ON loop w n x s1 wr) (hb:BS B mb g m pa lv ms L w) {k:Lt} (hk:ks[n]? = some k) (hw:(wr'=wr∧isDecl k=false)∨(wr'=wr.setCell ⟨mb+1,2,none⟩ (.int .i64 ((gN ks n:Int)+1))∧isDecl k=true)) :
  eC T B b nv ub ob f (some ⟨mb+1,0,none⟩) (.slice (some ⟨g,0,none⟩) (L.length+1) c6) (mb::ms) (grow x (⟨f,m,[]⟩::L)) (s1.at n) wr' (k.wt+(Lt.ec (ks.drop (n+1))+Lt.ec tests)) (k.size+(Lt.ak (ks.drop (n+1))+Lt.ak tests))∧wr'.heap[mb+1]? = some (.cells #[.pointer pa,.map (some mb),.int .i64 (gN ks (n+1):Int)] 195 (0,0))∧wr'.heap[w.heap.size]? = some (.cells #[.int .i64 (f:Int),.int .i64 loop,.pointer (some ⟨mb+1,0,none⟩),.slice (some ⟨g,0,none⟩) (L.length+1) c6] 92 (0,0))∧cW B ob lv L.length (eB L) w wr'∧dk wr' B lv L:=by
 have vj:=uL hk;have PM:=h.rd;rw[(qv hk).1,(qv hk).2,pC,pC] at PM;have hmb:=hb.low;have tH:=hb.old;have key :∀(W:World),eC T B b nv ub ob f pa (.slice (some ⟨g,0,none⟩) (L.length+1) c6) ms (Go.Proofs.YteflkdlaoiijbaaGreatDoor.grow x (⟨f,m,[]⟩::L)) { s1 with frames:=ON} W (k.wt+(Lt.ec (ks.drop (n+1))+Lt.ec tests)) (k.size+(Lt.ak (ks.drop (n+1))+Lt.ak tests))→W.heap[mb+1]? = some (.cells #[.pointer pa,.map (some mb),.int .i64 (gN ks (n+1):Int)] 195 (0,0))→dJ Tryz.prog 9 W mb ks.length (fB ks rep ks.length)→eC T B b nv ub ob f (some ⟨mb+1,0,none⟩) (.slice (some ⟨g,0,none⟩) (L.length+1) c6) (mb::ms) (Go.Proofs.YteflkdlaoiijbaaGreatDoor.grow x (⟨f,m,[]⟩::L)) (s1.at n) W (k.wt+(Lt.ec (ks.drop (n+1))+Lt.ec tests)) (k.size+(Lt.ak (ks.drop (n+1))+Lt.ak tests)):=fun W h1 h2 h3=>by
  rw[Fk h.frames n];exact h1.Bl (i:=i) (n:=n) (rep:=rep) h2 h3 (by omega) hmb hb.ptr (hb.grow x)
 rcases hw with ⟨rfl,hd⟩ | ⟨rfl,hd⟩
 ·rw[hd] at vj
  have vj:gN ks (n+1)=gN ks n:=vj;have hkb:=h.kb;rw[←vj] at hkb;exact⟨key _ PM hkb h.mp,hkb,h.box,h.jh,h.fu⟩
 ·rw[hd] at vj
  have vj:gN ks (n+1)=gN ks n+1:=vj;have hF:Fr [195] wr (wr.setCell ⟨mb+1,2,none⟩ (.int .i64 ((gN ks n:Int)+1))):=Fr.set h.kb (by decide) _ _
  have hB:Below B wr (wr.setCell ⟨mb+1,2,none⟩ (.int .i64 ((gN ks n:Int)+1))):=(Below.refl B wr).setCell (p:=⟨mb+1,2,none⟩) (by show B≤mb+1;omega) _
  have hK :∀j,j≠mb+1→(wr.setCell ⟨mb+1,2,none⟩ (.int .i64 ((gN ks n:Int)+1))).heap[j]? = wr.heap[j]?:=fun j hj=>Below.heap_setCell _ _ _ j hj
  have hkb:(wr.setCell ⟨mb+1,2,none⟩ (.int .i64 ((gN ks n:Int)+1))).heap[mb+1]? = some (.cells #[.pointer pa,.map (some mb),.int .i64 (gN ks (n+1):Int)] 195 (0,0)):=by
   have:=bA h.kb 2 (.int .i64 ((gN ks n:Int)+1));rw[vj];exact this
  exact⟨key _ (PM.but hF hB (fun j hj _=>hK j hj) hb.ptr (fun y hy=>by have:=hb.maps y hy;omega)) hkb (hF.map h.mp),hkb,(hK _ (by omega)).trans h.box,h.jh.past hB fun j hj=>hK j (by omega),h.fu.fr hF (by decide)⟩
theorem BI.next {k:Lt} {s2:aF} {w2:World} {e:Ending} (hb:BS B mb g m pa lv ms L w) (hn:lq T k) (nZ:s1.frames=⟨f,i,n-1,false,rep,ks⟩::ON)
  (h1:eC T B b nv ub ob f (some ⟨mb+1,0,none⟩) (.slice (some ⟨g,0,none⟩) (L.length+1) c6) (mb::ms) (grow x (⟨f,m,[]⟩::L)) (s1.at n) wr' (k.wt+(Lt.ec (ks.drop (n+1))+Lt.ec tests)) (k.size+(Lt.ak (ks.drop (n+1))+Lt.ak tests))) (h2:wr'.heap[mb+1]? = some (.cells #[.pointer pa,.map (some mb),.int .i64 (gN ks (n+1):Int)] 195 (0,0))) (h3:wr'.heap[w.heap.size]? = some (.cells #[.int .i64 (f:Int),.int .i64 loop,.pointer (some ⟨mb+1,0,none⟩),.slice (some ⟨g,0,none⟩) (L.length+1) c6] 92 (0,0))) (h4:cW B ob lv L.length (eB L) w wr') (h5:dk wr' B lv L)
  (hr:aV k f (s1.at n)=.ok s2) (hp:aq B b nv T.length ub ob (.slice (some ⟨g,0,none⟩) (L.length+1) c6) (grow x (⟨f,m,[]⟩::L)) (s1.at n) (.ok s2) wr' e w2) :
  e=.returned .nilIface∧∃y,BI T B b nv ub ob f i mb g c6 m rep ks tests pa lv ms L ON loop w (n+1) (y++x) s2 w2:=by
 obtain⟨he,y,_,_,hr2,hf2,qW⟩:=eC.next h1 hn hr hp;rw[grow_grow] at hr2;rw[cG,nS] at hf2;rw[Fk nZ n] at qW;replace qW:s2.frames=⟨f,i,n,false,rep,ks⟩::ON:=qW;have hkb:=hf2.cells _ _ _ _ h2 (by decide)
 obtain⟨q1,q2⟩:=hr2.Ts (pa:=pa) qW hkb;exact⟨he,y,⟨q1,qW,hkb,q2,hf2.cells _ _ _ _ h3 (by decide),h4.inner hb.own hb.top hf2,h5.inner hb.apart hf2⟩⟩
end
theorem aq.Yk {B b:Nat} {nv:Value} {N ub ob g c:Nat} {lv:Value} {L:List cV} {l:cV} {st st1:aF} {r:Rs aF} {w w1 w2:World} {e:Ending} (h1:cW B ob lv L.length (eB L) w w1) (hl:dk w1 B lv L) (hne :∀u∈L,u.blk≠l.blk) (hg:lv.ownBlock=some g∨w.heap.size≤g) (hm:w.heap.size≤l.blk) (h:aq B b nv N ub ob (.slice (some ⟨g,0,none⟩) (L.length+1) c) (l::L) st1 r w1 e w2):aq B b nv N ub ob lv L st (r.map fun s=>s.back st) w e w2:=by
 refine⟨h1.below.trans h.1,?_⟩;have h2:=h.2;cases r with
 | error y=>exact h2
 | ok s =>
  obtain⟨k1,⟨fv,FL,k2⟩,k3,_⟩:=h2;refine⟨k1,⟨fv,FL,k2.on rfl rfl rfl⟩,h1.inner hg hm k3,[],rfl,fun _=>rfl,?_⟩
  rw[jK];exact hl.inner hne k3
theorem OO (ks:List Lt):gN ks (ks.length-1+1)=gN ks ks.length:=by
 rcases rH ks.length with h|h
 ·rw[List.length_eq_zero_iff.1 h];rfl
 ·rw[show ks.length-1+1=ks.length by omega]
end Go.Proofs.YteflkdlaoiijbaaGreatDoor
