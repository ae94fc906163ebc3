/- Parts of the proof. -/
import Derived.StillTail
import Derived.Test.YtodmcdfeldkocaaGreatDoorK06
set_option maxHeartbeats 16000000
set_option maxRecDepth 20000
namespace Go.Proofs.YtodmcdfeldkocaaGreatDoor
open Go.RowKit
theorem xK {f:Nat} :∀{fr:List fC},(∀x∈fr,x.fn<f)→dC f fr=[]
 | [],_=>rfl
 | x::fr,h=>by
  rw[rL (.inr (jz (h x (bH ..))))];exact xK fun y hy=>h y (bQ _ hy)
theorem II {f:Nat} {fr:List fC} (h :∀x∈fr,x.fn<f):cK f fr = -1:=by
 unfold cK;have:fr.find? (fun x=>x.loop && decide (x.fn=f))=none:=by
  rw[EM];intro x hx;have:=h x hx;simp;intro _;omega
 rw[this]
theorem Nu {T:List Nd} {B b:Nat} {nv:Value} {ub ob:Nat} (gj :∀x∈T,x.s.size≤65536∧∀s∈x.names,s.size≤65536) (i:Nat) (h:Nd) (ks:List Lt) (hn:gW T (.mk i h ks)) (gX :∀u:Lt,u.size<Lt.al ks+1→gW T u→bA T B b nv ub ob u) (hk:h.kind=11):bA T B b nv ub ob (.mk i h ks):=by
 intro f loop pa la lc ms L st w hr bT cr;show Calls Tryz.prog 18 #[.pointer (some ⟨b,0,none⟩),.int .i64 (i:Int),.agg #[.int .i64 (f:Int),.int .i64 loop,.pointer pa,.slice la L.length lc]] w (aq B b nv T.length ub ob (.slice la L.length lc) L st (bh (.mk i h ks) f st) w)
 obtain⟨bk,o,c,NA,nc,KA,kc,rfl,dH,ca,x0,x1,x2,x3,x4,x5,x6,rS,wC,pU,hbl,po,tm,d0,d3,u0,v0,gP,HR,HN,tQ,iN,kG,fj,tL,o0,fK,qG,HX,yY,Dz⟩:=gL gj hn gX hr bT cr;clear hr hn gX bT cr gj;have q6:(h.kind == 6)=false:=by rw[hk];rfl
 have q7:(h.kind == 7)=false:=by rw[hk];rfl
 have yZ:(h.kind == 11)=true:=by rw[hk];rfl
 have bO:=aa hk;clear hk;go_enter Tryz.func18,Tryz.ntmps18
 go_wp2_with fail
 go_region
 obtain⟨W1,hW1,HZ,fy,pE,Br,K,y0,tz,oF,tA,k0,k1,k2,k3⟩:=dZ loop i HR.out dH;rw[←hW1];have x0:=K _ _ x0;have x1:=K _ _ x1;have x2:=K _ _ x2;have x3:=K _ _ x3;have x4:=K _ _ x4;have x5:=K _ _ x5;have x6:=K _ _ x6;clear hW1 K d0 d3 u0 v0;have d0:=y0;clear y0;have gn:(h.num == 1)=decide (h.num=1):=rfl;go_wp2_with fail
 obtain⟨W3,hW3⟩ :∃W3,W3=(W1.alloc (.cells #[.int .i64 h.kind,.int .i64 h.line,.int .i64 h.op,.int .i64 h.num,.string h.s,.slice NA h.names.length nc,.slice KA h.kids.length kc] 54)).alloc (.cells #[.int .i64 (i:Int),.int .i64 (f:Int),.int .i64 (h.names.length:Int),.bool (decide (h.num=1)),.slice none 0 0,.slice none 0 0] 43):=⟨_,rfl⟩;have df:Below W1.heap.size W1 W3:=by rw[hW3];exact Below.two _ _
 rw[←hW3];clear hW3;have hr3:=HZ.out.dt df;have hf3:cQ B ob (.slice la L.length lc) L.length (ep L) w W3:=fy.out.trans (cQ.bJ df HZ.out.world);have tB :∀k∈ks,bA T B b (.slice (some ⟨bk,o,none⟩) T.length c) ub ob k:=fun k hk=>tQ.out k (by have:=eX hk;omega) (fj.out.at_ k hk)
 refine(xu b ⟨i,(f:Int),h.names.length,decide (h.num=1),[],[]⟩ la L.length lc (st.setOf i f) W3 hr3.rs rfl rfl (by have:=hr3.fns;omega)).mono ?_
 rintro e w5 ⟨rfl,h1,h2,h3⟩;have hfa :∀top,cQ B ob (.slice la L.length lc) L.length top W3 w5:=fun top=>cQ.uQ h3 (by decide) h2
 have h1:jG w5 B b (.slice (some ⟨bk,o,none⟩) T.length c) T.length (jB i f h (st.setOf i f)) ub ob:=h1;have Kl:ks≠[]:=by
  have:=o0.out.body (.inl bO.out);intro e;rw[e] at this;cases this
 have FI:sU T B b (.slice (some ⟨bk,o,none⟩) T.length c) ub ob (st.setOf i f).fns.length none (.slice la L.length lc) [] L (jB i f h (st.setOf i f)) w5 (h.names.length+Lt.fu ks) (Lt.al ks):=by
  have hlen:(jB i f h (st.setOf i f)).fns.length=(st.setOf i f).fns.length+1:=by unfold jB;simp
  refine⟨hr3.fA.below h2,h1,⟨hr3.pos.fw.jk (hfa none) (ag _),?_,hr3.pos.names,fun m hm=>by cases hm⟩,by omega,hr3.few.app ⟨bg _,bg _⟩,fun x hx=>?_,hr3.names,?_,?_⟩
  ·show oU w5 B (dC (st.setOf i f).fns.length (st.setOf i f).frames) [] _
   rw[xK hr3.fr];exact⟨rfl,rfl⟩
  ·have:=hr3.fr x hx
   omega
  ·have:=hr3.fns;omega
  ·have:=hr3.fw;omega
 have mz:=aa (IG i (st.setOf i f).fns.length h ks (-1) none la lc [] L (jB i f h (st.setOf i f)) w5 FI HX.out fK.out Kl fj.out tB (fun k hk kJ=>(II (fr:=(st.setOf i f).frames) hr3.fr).symm) yY.out.2 (fun s2 e=>(xf e hr3.cx).1) (by
  unfold gE;rw[ae (by have:=bO.out;omega),aj bO.out]))
 have lR:=aa (hf3.trans (hfa (ep L)));clear hr3 hf3 tB h1 h2 h3 hfa FI Kl;go_wp2_with fail
 refine mz.out.mono ?_;intro e w6 hp;obtain⟨v,rfl⟩:=hp.ret;have HV:=aa hp;clear hp;go_wp2_with fail
 go_ret
 have hE:bh (.mk i h ks) f st=((bz i (st.setOf i f).fns.length h.line h.names (jB i f h (st.setOf i f))).bind fun s2=>aG ks (st.setOf i f).fns.length s2).map fun s=>s.back (jB i f h (st.setOf i f)):=by
  rw[cV];rw[ae (by have:=bO.out;omega)]
  rw[ae (by have:=bO.out;omega)]
  rw[aj bO.out];cases bz i (st.setOf i f).fns.length h.line h.names (jB i f h (st.setOf i f)) with
  | error y=>rfl
  | ok s1=>rfl
 rw[hE];exact aq.after lR.out rfl HV.out
def Wj (T:List Nd) (B b:Nat) (nv:Value) (ub ob:Nat):Prop:=∀(i:Nat) (h:Nd) (ks:List Lt),gW T (.mk i h ks)→(∀u:Lt,u.size<Lt.al ks+1→gW T u→bA T B b nv ub ob u)→h.kind=24→bA T B b nv ub ob (.mk i h ks)
theorem xL {T:List Nd} {B b:Nat} {nv:Value} {ub ob:Nat} (gj :∀x∈T,x.s.size≤65536∧∀s∈x.names,s.size≤65536) (Lh:Wj T B b nv ub ob) :∀(n:Nat) (t:Lt),t.size≤n→gW T t→bA T B b nv ub ob t
 | 0,t,hs,_=>by rw[uG] at hs;omega
 | n+1,.mk i h ks,hs,hn=>by
  have gX :∀u:Lt,u.size<Lt.al ks+1→gW T u→bA T B b nv ub ob u:=fun u hu y8=>xL gj Lh n u (by rw[Lt.size] at hs;omega) y8
  have hk:1≤h.kind∧h.kind≤32:=hn.kind;by_cases h6:h.kind=6
  ·exact SF gj i h ks hn gX h6
  by_cases h7:h.kind=7
  ·exact SG gj i h ks hn gX h7
  by_cases h11:h.kind=11
  ·exact Nu gj i h ks hn gX h11
  by_cases kJ:h.kind=18
  ·exact Nq gj i h ks hn gX kJ
  by_cases Lg:h.kind=19
  ·exact Nn gj i h ks hn gX Lg
  by_cases QY:h.kind=23
  ·exact Nr gj i h ks hn gX QY
  by_cases aaK:h.kind=24
  ·exact Lh i h ks hn gX aaK
  by_cases QZ:h.kind=26
  ·exact Ns gj i h ks hn gX QZ
  by_cases h27:h.kind=27
  ·exact Nt gj i h ks hn gX h27
  by_cases Q0:h.kind=28
  ·exact No gj i h ks hn gX Q0
  by_cases E9:h.kind=30
  ·exact Nj gj i h ks hn gX E9
  by_cases Fa:h.kind=31
  ·exact Nk gj i h ks hn gX Fa
  ·exact DK gj i h ks hn gX ⟨h6,h7,h11,kJ,Lg,QY,aaK,QZ,h27,Q0,E9,Fa⟩
end Go.Proofs.YtodmcdfeldkocaaGreatDoor
namespace Go.Proofs.YtodmcdfeldkocaaGreatDoor
section
variable {P:Program} {ops:Array Oper} {Q:Exit→Act→World→Prop} {md:Region.Mode} {S:World→Prop} {n:Nat}
def bx (P:Program) (md:Region.Mode) (ops:Array Oper) (Q:Exit→Act→World→Prop) (S:World→Prop) (n:Nat):Nat→Array Bool→Act→World→Prop
 | 0,listed,a,w=>Region.ready md ops listed=[]∧Q .normal a w
 | g+1,listed,a,w=>(Region.ready md ops listed=[]→Q .normal a w) ∧
  ∀i∈Region.ready md ops listed,wpOp P ops Q i (fun a' w'=>(i<n→S w')∧bx P md ops Q S n g (listed.setIfInBounds i true) a' w') a w
theorem bx.any :∀(g:Nat) (listed:Array Bool) (a:Act) (w:World),bx P md ops Q S n g listed a w→wpAny P md ops Q g listed a w
 | 0,_,_,_,h=>h
 | g+1,_,_,_,h=>⟨h.1,fun i hi=>wpOp_mono (fun _ _ k=>bx.any g _ _ _ k.2) (h.2 i hi)⟩
def FN (md:Region.Mode) (ops:Array Oper) (n:Nat):Bool:=Region.noSelect ops && decide (n<ops.size) && Region.sinkB md ops n && Region.chainB md ops n
def FQ (md:Region.Mode) (ops:Array Oper) (n:Nat) (listed:Array Bool):Bool :=
 listed.size == ops.size && (List.range ops.size).all (fun j=>match ops[j]? with
  | some o=>!listed.getD j false || o.after.all fun e=>!Region.binds md e || listed.getD e.on false
  | none=>true) && (List.range ops.size).all fun t=>decide (t<n) || !listed.getD t true
theorem IJ {listed:Array Bool} (h:FQ md ops n listed=true):HeadInv md ops n listed:=by
 unfold FQ at h;simp only[dk,xd] at h;obtain⟨⟨h1,h2⟩,h3⟩:=h;refine⟨h1,fun j o hj hl e he hb=>?_,fun t ht VI=>?_⟩
 ·have hjl:=(aM.1 hj).1
  have h4:=List.all_eq_true.1 h2 j (sI.2 hjl);rw[hj] at h4;simp only[hl,Bool.not_true,Bool.false_or] at h4;have h5:=Array.all_eq_true'.1 h4 e he;rw[hb] at h5;simpa using h5
 ·have h4:=List.all_eq_true.1 h3 t (sI.2 VI)
  rw[bM (by omega)] at h4
  simpa using h4
theorem bx.first {i:Nat} {oi:Oper} {v:Value} (hi:ops[i]? = some oi) (ht:FN md ops n=true) (mD:i<n)
  (hQ :∀c a w,Q (.panic c) (a.put oi.dst v) w→Q (.panic c) a w) :
  ∀(g:Nat) (listed:Array Bool) (a:Act) (w:World),HeadInv md ops n listed →
   (∀j oj,ops[j]? = some oj→j≠i→listed.getD j true=false→(∀e∈oj.after,Region.binds md e=true→e.on≠i)→oi.apart ops oj=true) →
   i∈Region.ready md ops listed→YieldsIf P ops S oi v a→S w →
   bx P md ops Q S n g (listed.setIfInBounds i true) (a.put oi.dst v) w→bx P md ops Q S n (g+1) listed a w:=by
 have VI:=ht;unfold FN at VI;simp only[dk,iD] at VI;obtain⟨⟨⟨acL,iV⟩,hsk⟩,hch⟩:=VI;have sel:=Region.noSelect_spec acL;intro g;induction g with
 | zero =>
  intro listed a w inv _ hr hy hS H;refine⟨fun h=>(by rw[h] at hr;cases hr),fun j hj=>?_⟩
  by_cases Wk:j=i
  ·subst Wk;exact hy.wpOp hi hS ⟨fun _=>hS,H⟩
  ·have h1:=ready_mono hj Wk
   rw[H.1] at h1;cases h1
 | succ g ih =>
  intro listed a w inv Wl hr hy hS H;have Kt:=(mem_ready.1 hr).1;refine⟨fun h=>(by rw[h] at hr;cases hr),fun j hj=>?_⟩
  by_cases Wk:j=i
  ·subst Wk;exact hy.wpOp hi hS ⟨fun _=>hS,H⟩
  ·have hjn:j<n:=by
    rcases EW j n with h|h
    ·exact h
    ·exact absurd hj (tail_waits hsk hch iV inv _ i rfl mD Kt j h)
   obtain⟨aaL,oj,hoj,hall⟩:=mem_ready.1 hj;have acM :∀e∈oj.after,Region.binds md e=true→e.on≠i:=fun e he hb heq=>by
    have h1:=hall e he hb;rw[heq,getD_both Kt] at h1;cases h1
   refine wpOp_mono (fun a' w' k=>⟨fun _=>k.2.1 hjn,ih _ a' w' (inv.set hj hjn) (fun x ox hx XQ hxu hno=>Wl x ox hx XQ ?_ hno) (ready_mono hr (Ne.symm Wk)) k.1 (k.2.1 hjn) ?_⟩)
    (wpOp_putIf hoj (Wl j oj hoj Wk aaL acM) (fun cs b=>sel i oi cs b hi) (fun cs b=>sel j oj cs b hoj) hQ hy (H.2 j (ready_mono hj Wk)))
   ·by_cases hjx:j=x
    ·subst hjx;exact aaL
    ·rw[getD_set_ne true hjx] at hxu;exact hxu
   ·rw[Array.setIfInBounds_comm _ _ Wk]
    exact k.2.2
theorem bx.take {i:Nat} {oi:Oper} {v:Value} {g:Nat} {listed:Array Bool} {a:Act} {w:World} (hi:ops[i]? = some oi) (ht:FN md ops n=true) (mD:i<n)
  (hh:FQ md ops n listed=true) (hf:Region.free md ops listed i=true) (hr:(Region.ready md ops listed).contains i=true)
  (hQ :∀c a w,Q (.panic c) (a.put oi.dst v) w→Q (.panic c) a w) (hw:Region.wanted oi (yielded ops a.tmps)=true) (hy :∀w,S w→(execOp a.eval oi).run P w=.ok (.value v) w) (hS:S w)
  (h:bx P md ops Q S n g (listed.setIfInBounds i true) (a.put oi.dst v) w):bx P md ops Q S n (g+1) listed a w :=
 bx.first hi ht mD hQ g listed a w (IJ hh) (Region.free_spec hi hf) (by simpa using hr) (.inl ⟨hw,hy⟩) hS h
theorem bx.one {i:Nat} {o:Oper} {g:Nat} {listed:Array Bool} {a:Act} {w:World} (hr:Region.ready md ops listed=[i]) (ho:ops[i]? = some o)
  (h :∀K:Act→World→Prop,Shut (∀a w,(i<n→S w)→bx P md ops Q S n g (listed.setIfInBounds i true) a w→K a w)→if Region.wanted o (yielded ops a.tmps)=true then Oper.wp P o a w K Q else K (a.put o.dst undef) w):bx P md ops Q S n (g+1) listed a w:=by
 refine⟨fun h0=>(by rw[hr] at h0;cases h0),fun j hj=>?_⟩
 rw[hr,bR] at hj;subst hj;exact wpOp_step ho fun K hK=>h K fun a w h1 h2=>hK a w ⟨h1,h2⟩
theorem bx.two {i j:Nat} {o o':Oper} {g:Nat} {listed:Array Bool} {a:Act} {w:World} (hr:Region.ready md ops listed=[i,j]) (ho:ops[i]? = some o) (ho':ops[j]? = some o')
  (h :∀K:Act→World→Prop,Shut (∀a w,(i<n→S w)→bx P md ops Q S n g (listed.setIfInBounds i true) a w→K a w)→if Region.wanted o (yielded ops a.tmps)=true then Oper.wp P o a w K Q else K (a.put o.dst undef) w)
  (h' :∀K:Act→World→Prop,Shut (∀a w,(j<n→S w)→bx P md ops Q S n g (listed.setIfInBounds j true) a w→K a w)→if Region.wanted o' (yielded ops a.tmps)=true then Oper.wp P o' a w K Q else K (a.put o'.dst undef) w):bx P md ops Q S n (g+1) listed a w:=by
 refine⟨fun h0=>(by rw[hr] at h0;cases h0),fun x hx=>?_⟩
 rw[hr] at hx;simp only[ba,oL,oP] at hx;rcases hx with rfl|rfl
 ·exact wpOp_step ho fun K hK=>h K fun a w h1 h2=>hK a w ⟨h1,h2⟩
 ·exact wpOp_step ho' fun K hK=>h' K fun a w h1 h2=>hK a w ⟨h1,h2⟩
theorem bx.done {listed:Array Bool} {a:Act} {w:World} (hr:Region.ready md ops listed=[]) (h:Q .normal a w) :∀g,bx P md ops Q S n g listed a w
 | 0=>⟨hr,h⟩
 | _+1=>⟨fun _=>h,by rw[hr];simp⟩
theorem bx.DN {id:Nat} {a:Act} {w:World} (hm:P.follows .mixedOrders=true) (h:bx P .any ops Q S n ops.size (Array.replicate ops.size false) a w.drew):(Code.region id ops true).wp P Q a w :=
 wp_region_any hm (bx.any _ _ _ _ h)
def dj (ops:Array Oper) (i:Nat) (F:Oper→Prop):Prop:=match ops[i]? with|some o=>F o|none=>False
theorem dj.ex {i:Nat} {F:Oper→Prop} (h:dj ops i F) :∃o,ops[i]? = some o∧F o:=by
 unfold dj at h;split at h
 ·exact⟨_,‹_›,h⟩
 ·cases h
theorem bx.db {g:Nat} {listed:Array Bool} {a:Act} {w:World} (i:Nat) (v:Value) (ht:FN md ops n=true) (mD:i<n)
  (hh:FQ md ops n listed=true) (hf:Region.free md ops listed i=true) (hr:(Region.ready md ops listed).contains i=true)
  (hQ :∀c a d w,Q (.panic c) (Act.put a (some d) v) w→Q (.panic c) a w) (hS:S w)
  (h:dj ops i fun oi=>oi.dst.isSome=true∧Region.wanted oi (yielded ops a.tmps)=true∧(∀w,S w→(execOp a.eval oi).run P w=.ok (.value v) w)∧bx P md ops Q S n g (listed.setIfInBounds i true) (a.put oi.dst v) w):bx P md ops Q S n (g+1) listed a w:=by
 obtain⟨o,ho,h0,h1,h2,h3⟩:=h.ex;obtain⟨d,hd⟩:=zX.1 h0;exact bx.take ho ht mD hh hf hr (fun c a w hp=>hQ c a d w (by rw[hd] at hp;exact hp)) h1 h2 hS h3
theorem bx.fF {g:Nat} {listed:Array Bool} {a:Act} {w:World} (i:Nat) (hr:Region.ready md ops listed=[i])
  (h :∀K:Act→World→Prop,Shut (∀a w,(i<n→S w)→bx P md ops Q S n g (listed.setIfInBounds i true) a w→K a w)→dj ops i fun o=>if Region.wanted o (yielded ops a.tmps)=true then Oper.wp P o a w K Q else K (a.put o.dst undef) w):bx P md ops Q S n (g+1) listed a w:=by
 cases ho:ops[i]? with
 | none =>
  have h1:=h (fun _ _=>True) (fun _ _ _ _=>trivial)
  unfold dj at h1;rw[ho] at h1;cases h1
 | some o =>
  refine bx.one hr ho fun K hK=>?_
  have h1:=h K hK;unfold dj at h1;rw[ho] at h1;exact h1
theorem bx.Yu {g:Nat} {listed:Array Bool} {a:Act} {w:World} (i j:Nat) (hr:Region.ready md ops listed=[i,j])
  (h :∀K:Act→World→Prop,Shut (∀a w,(i<n→S w)→bx P md ops Q S n g (listed.setIfInBounds i true) a w→K a w)→dj ops i fun o=>if Region.wanted o (yielded ops a.tmps)=true then Oper.wp P o a w K Q else K (a.put o.dst undef) w)
  (h' :∀K:Act→World→Prop,Shut (∀a w,(j<n→S w)→bx P md ops Q S n g (listed.setIfInBounds j true) a w→K a w)→dj ops j fun o=>if Region.wanted o (yielded ops a.tmps)=true then Oper.wp P o a w K Q else K (a.put o.dst undef) w):bx P md ops Q S n (g+1) listed a w:=by
 cases ho:ops[i]? with
 | none =>
  have h1:=h (fun _ _=>True) (fun _ _ _ _=>trivial)
  unfold dj at h1;rw[ho] at h1;cases h1
 | some o =>
  cases ho':ops[j]? with
  | none =>
   have h1:=h' (fun _ _=>True) (fun _ _ _ _=>trivial)
   unfold dj at h1;rw[ho'] at h1;cases h1
  | some o' =>
   refine bx.two hr ho ho' (fun K hK=>?_) fun K hK=>?_
   ·have h1:=h K hK
    unfold dj at h1;rw[ho] at h1;exact h1
   ·have h1:=h' K hK
    unfold dj at h1;rw[ho'] at h1;exact h1
end
end Go.Proofs.YtodmcdfeldkocaaGreatDoor
namespace Go.Proofs.YtodmcdfeldkocaaGreatDoor
open Go.RowKit
def eY (T:List Nd) (r:Int):Bool:=pj cL pw gM T r
def okK (T:List Nd) (x:Nd):Bool:=kz cL pw gM T x
theorem Yv (T:List Nd) (x:Nd):okK T x=(decide (1≤x.line) && cL x && pw x.kind x.num (ia T x)):=rfl
theorem vp {T:List Nd} {r:Int} (h:eN T r=0∨100<eN T r∨dB T r.toNat≠18):eY T r=false:=by
 rw[Bool.eq_false_iff];intro hh;obtain⟨h1,h2,h3,_⟩:=(eh cL pw gM).1 hh;rcases h with h|h|h
 ·exact h1 h
 ·omega
 ·exact h h3
theorem IK {T:List Nd} {r:Int} (h1:eN T r≠0) (h2:¬ 100<eN T r) (h3:dB T r.toNat=18):eY T r=T.all (okK T):=by
 unfold eY pj;rw[bN h1,bN (show eN T r≤100 by omega),bN h3]
 rfl
def Szd (T:List Nd):Prop:=∀x∈T,x.names.length≤140737488355328
theorem Bt {T:List Nd} {r:Nat} {d:Nat→Nat} {m:List Nat} (hs:CR T r d m) {i:Nat} {x:Nd} (hx:T[i]? = some x):(∀k∈x.kids,0≤k∧k<(T.length:Int))∧x.kids.length≤T.length:=by
 have hi:=(aJ.1 hx).1;have h1 :∀k∈x.kids,0≤k∧k<(T.length:Int):=fun k hk=>by
  obtain⟨a,b,_⟩:=hs.kid i (hs.mem hi) k (by rw[fM hx];exact hk)
  exact⟨a,b⟩
 refine⟨h1,?_⟩;have hn:=hs.GU hi;rw[fM hx] at hn;have h2:=uq T.length (x.kids.map Int.toNat) (by
  rw[List.Nodup,List.pairwise_map];refine KH ?_ hn;intro a b ha hb hab e;have:=h1 a ha;have:=h1 b hb;exact hab (by omega)) (fun j hj=>by
  obtain⟨k,hk,rfl⟩:=eJ.1 hj;have:=h1 k hk;omega)
 rw[bS] at h2;exact h2
theorem xM (v:Value) (T:List Nd) (r:Int) (w:World) (h:iI w v T r) (hz:Szd T):Calls Tryz.prog 17 #[v] w fun e w'=>e=.returned (.bool (eY T r))∧Below w.heap.size w w':=by
 have Re:=aa (fun W (hW:iI W v T r)=>Az v T r W hW)
 have HTV:=aa h;obtain⟨nv,rfl,A,c,rfl,hc,hn⟩:=h;have HN:=aa hn;have HZ:=aa hz;obtain⟨D,hD⟩ :∃D,D=eN T r:=⟨_,rfl⟩;rw[←hD] at Re;have HD:=aa hD;obtain⟨R,hR⟩ :∃R,R=eY T r:=⟨_,rfl⟩;rw[←hR];have HR:=aa hR;clear hR;have eB :∀W,Below (w.heap.size+1) (w.alloc (.cells #[.slice A T.length c,.int .i64 r] 24)) W→W.cell? ⟨w.heap.size,0,none⟩=some (.slice A T.length c)∧W.cell? ⟨w.heap.size,1,none⟩=some (.int .i64 r):=fun W hW =>
  ⟨(hW.cell (p:=⟨w.heap.size,0,none⟩) (dA _)).trans (dG w _ _ _),(hW.cell (p:=⟨w.heap.size,1,none⟩) (dA _)).trans (dG w _ _ _)⟩
 have mw:=aa eB;have B0:=aa (bu w (.cells #[.slice A T.length c,.int .i64 r] 24));clear hD eB hn hz;go_enter Tryz.func17,Tryz.ntmps17
 go_wp2_with fail
 refine(Re.out _ (HTV.out.below B0.out)).mono ?_;rintro e w1 ⟨rfl,b1⟩;rw[ao] at b1;have BW1:=aa b1;have B1:=aa (B0.out.trans (b1.mono (iG _)));have Dc:=b1.size;rw[ao] at Dc;obtain⟨x0,x1⟩:=mw.out _ b1;clear b1 Re;by_cases h0:D=0
 ·have Vx:R=false:=HR.out.trans <| vp (.inl (by rw[←HD.out];exact h0))
  subst Vx;subst h0;go_wp2_with fail
  go_ret
  exact⟨rfl,B1.out⟩
 ·have g0:((D:Int) == 0)=false:=aC.2 (by omega)
  by_cases h1:100<D
  ·have Vx:R=false:=HR.out.trans <| vp (.inr (.inl (by rw[←HD.out];exact h1)))
   subst Vx;have g1:decide ((100:Int)<(D:Int))=true:=bN (by omega)
   go_wp2_with fail
   go_ret
   exact⟨rfl,B1.out⟩
  ·have g1:decide ((100:Int)<(D:Int))=false:=bM (by omega)
   obtain⟨hN,Vx,hr1,d,m,hs⟩:=ur (T:=T) (r:=r) (by rw[←HD.out];exact h0)
   rcases HN.out with hT | ⟨b,o,rfl,hb,hx⟩
   ·rw[hT] at hr1;simp at hr1;omega
   obtain⟨q,rfl⟩ :∃q:Nat,r=(q:Int):=⟨r.toNat,by omega⟩
   have hq:q<T.length:=by omega
   have hxq:=bt hq;obtain⟨nvq,kvq,eL,_,_⟩:=hx q _ hxq;have ck:=(B1.out.cell (p:=⟨b,o+q*7,none⟩) hb).trans eL.c0;obtain⟨kd,qA⟩ :∃kd,kd=T[q].kind:=⟨_,rfl⟩;rw[←qA] at ck;have rz:dB T (q:Int).toNat=kd:=by rw[gS,lG hxq,qA]
   have HX:=aa hx;have HSn:=aa hs;clear eL hx hs hxq qA;by_cases kJ:kd=18
   ·have hry:R=T.all (okK T):=HR.out.trans <| IK (T:=T) (r:=(q:Int)) (by rw[←HD.out];exact h0) (by rw[←HD.out];exact h1) (by rw[rz,kJ])
    have HAL:=aa hry;subst kJ;clear rz hry HR;go_wp2_with fail
    go_loopw [27] (fun i wr=>∃k:Nat,k≤T.length∧i=.int .i64 (k:Int)∧(T.drop k).all (okK T)=R∧Below (w.heap.size+1) (w.alloc (.cells #[.slice (some ⟨b,o,none⟩) T.length c,.int .i64 (q:Int)] 24)) wr) (fun i _=>T.length-(intOf i).toNat)
    case atStart=>exact⟨0,bg _,rfl,HAL.out.symm,BW1.out⟩
    case round =>
     obtain⟨k,hk,rfl,ha,hbr⟩:=hrel;have HA:=aa ha;have oD:=aa hbr;have BR:=aa (B0.out.trans (hbr.mono (iG _)));have Yw:=hbr.size;rw[ao] at Yw;clear ha hbr x0 x1 ck;by_cases hlt:k<T.length
     ·obtain⟨x,Rh⟩ :∃x,T[k]? = some x:=⟨T[k],bt hlt⟩
      obtain⟨u7,u9,eL,hst,y8⟩:=HX.out k x Rh;obtain⟨c0,c1,c2,c3,c4,c5,c6⟩:=eL.below BR.out hb;have HST:=aa (xC (p:=okK T) Rh);have hxz:=HZ.out x (aV Rh);have Ah:=Bt HSn.out Rh;have HSS:=aa hst;have HNU:=aa y8;obtain⟨SA,sc,rfl,_,_⟩:=hst;obtain⟨UA,uc,rfl,_,_⟩:=y8;clear Rh eL;have Yx:=aa (bu wr (.cells #[.int .i64 x.kind,.int .i64 x.line,.int .i64 x.op,.int .i64 x.num,.string x.s,.slice SA x.names.length sc,.slice UA x.kids.length uc] 54));have Nv:=aa (DE x _ (.slice UA x.kids.length uc) (wr.alloc (.cells #[.int .i64 x.kind,.int .i64 x.line,.int .i64 x.op,.int .i64 x.num,.string x.s,.slice SA x.names.length sc,.slice UA x.kids.length uc] 54)) ((HSS.out.below BR.out).below Yx.out) ⟨_,_,_,rfl⟩ hxz);have HBQ:=aa (fun W (h:Below (wr.heap.size+1) (wr.alloc (.cells #[.int .i64 x.kind,.int .i64 x.line,.int .i64 x.op,.int .i64 x.num,.string x.s,.slice SA x.names.length sc,.slice UA x.kids.length uc] 54)) W)=>xD (dA _) h)
      have bO:=aa (fun W hA hB hC=>MR x (.slice SA x.names.length sc) (.slice UA x.kids.length uc) (.slice (some ⟨b,o,none⟩) T.length c) T W hA hB hC Ah.1 (by have:=Ah.2;omega))
      have Hu:=aa (Yv T x);obtain⟨FL,hFL⟩ :∃FL,FL=cL x:=⟨_,rfl⟩;obtain⟨KD,hKD⟩ :∃KD,KD=pw x.kind x.num (ia T x):=⟨_,rfl⟩;rw[←hFL] at Nv Hu;rw[←hKD] at bO Hu;obtain⟨x0,x1⟩:=mw.out _ (oD.out.trans (Yx.out.mono Yw));unfold cZ at Nv bO;clear hFL hKD Ah hxz;by_cases qv:x.line<1
      ·go_wp2_with fail
       go_ret
       exact⟨cM (by rw[←HA.out,HST.out,Hu.out,bM (by omega)];rfl),BR.out.trans (Yx.out.mono BR.out.size)⟩
      ·have gl:decide (1≤x.line)=true:=bN (by omega)
       rw[gl,kP] at Hu;go_wp2_with fail
       refine Nv.out.mono ?_;rintro e w3 ⟨rfl,b3⟩;have B3:=aa ((BR.out.trans (Yx.out.mono BR.out.size)).trans (b3.mono (by rw[ao];have:=BR.out.size;omega)))
       have BB3:=aa ((oD.out.trans (Yx.out.mono Yw)).trans (b3.mono (by rw[ao];omega)))
       have HQ3:=aa (HBQ.out _ (by rw[ao] at b3;exact b3))
       clear b3 x0 x1 c0 c1 c2 c3 c4 c5 c6;cases FL with
       | false =>
        go_wp2_with fail
        go_ret
        exact⟨cM (by rw[←HA.out,HST.out,Hu.out];rfl),B3.out⟩
       | true =>
        rw[kP] at Hu;obtain⟨c0,c1,c2,c3,c4,c5,c6⟩:=HQ3.out;obtain⟨x0,x1⟩:=mw.out _ BB3.out;go_wp2_with fail
        refine(bO.out _ (HSS.out.below B3.out) (HNU.out.below B3.out) ?_).mono ?_
        ·exact eO.below (W:=w) ⟨some ⟨b,o,none⟩,c,rfl,hc,.inr ⟨b,o,rfl,hb,HX.out⟩⟩ B3.out
        rintro e w4 ⟨rfl,b4⟩;have B4:=aa (jj B3.out (ag _) b4);have BB4:=aa (BB3.out.trans (b4.mono (by have:=BB3.out.size;rw[ao] at this;exact this)))
        clear b4 x0 x1 c0 c1 c2 c3 c4 c5 c6;cases KD with
        | false =>
         go_wp2_with fail
         go_ret
         exact⟨cM (by rw[←HA.out,HST.out,Hu.out];rfl),B4.out⟩
        | true =>
         go_wp2_with fail
         go_roundw
         case rel=>exact⟨k+1,by omega,by go_num,by rw[←HA.out,HST.out,Hu.out,kP],BB4.out⟩
         case measure=>simp[intOf];omega
     ·have hd:R=true:=by rw[←HA.out,mn (by omega)];rfl
      subst hd;go_wp2_with fail
      go_ret
      exact⟨rfl,BR.out⟩
   ·have Vx:R=false:=HR.out.trans <| vp (.inr (.inr (by rw[rz];exact kJ)))
    subst Vx;have g18:(kd != 18)=true:=oO.2 kJ;clear HR rz;go_wp2_with fail
    go_ret
    exact⟨rfl,B1.out⟩
end Go.Proofs.YtodmcdfeldkocaaGreatDoor
namespace Go.Proofs.YtodmcdfeldkocaaGreatDoor
open Go.RowKit
theorem Wm {z:Array Value} {v:Value} (m:Nat) (hz:0<z.size) (h :∀j,j<z.size→z[j]? = some v) (f:Nat→Value) (hf :∀j,f j=v):(madeCells z m).toList=(List.range m).map f:=by
 unfold madeCells;rw[Array.toList_map,Array.toList_range];refine wU fun j _=>?_
 rw[hf j];have h1:=h (j % z.size) (Nat.mod_lt _ hz);rw[getElem!_def,h1]
theorem IL:(Tryz.prog.info? 140).map (fun i=>(i.zero,i.size,i.bytes))=some (some (.agg #[.int .i64 0,.int .i64 0]),2,16):=by kernel_rfl
theorem IM:(Tryz.prog.info? 3).map (fun i=>(i.zero,i.size,i.bytes))=some (some (.int .i64 0),1,8):=by kernel_rfl
theorem IN (n:Nat) (hn:n≤1000000) :∃M:Array Value,∀w:World,(Instr.makeSlice 33 (.int .i64 (n:Int)) (.int .i64 (n:Int))).run Tryz.prog w=.ok (.slice (some ⟨w.heap.size,0,none⟩) n n) (w.alloc (.cells M 140)) ∧
  ∀base,base≤w.heap.size→eR (w.alloc (.cells M 140)) base 140 2 w.heap.size n (wq fun _=>(0,0)):=by
 obtain⟨i0,mC,hz0,hz1,hz2⟩:=info_parts IL;refine⟨madeCells (Value.cells (.agg #[.int .i64 0,.int .i64 0])) (n*i0.size),fun w=>?_⟩
 have hr:=run_make (P:=Tryz.prog) w 33 140 i0 _ Tryz.underlying33 mC hz0 .i64 .i64 (n:Int) (n:Int) (by omega) (Int.le_refl _) (by rw[hz2];omega) (by omega)
 simp only[gS] at hr;refine⟨hr,fun base hb=>?_⟩
 obtain⟨W,h1,h2,_⟩:=run_make_full (P:=Tryz.prog) w base 33 140 i0 _ 2 Tryz.underlying33 mC hz0 hz1 .i64 .i64 n (by rw[hz2];omega) (by unfold maxLen;omega) hb
 rw[hr] at h1;injection h1 with _ h1;rw[h1];have e:(madeCells (Value.cells (.agg #[.int .i64 0,.int .i64 0])) (n*2)).toList=(List.range (n*2)).map (wq fun _=>(0,0)):=Wm (v:=.int .i64 0) _ (by decide) (fun j hj=>by
  have hj:j<2:=hj;match j,hj with
  | 0,_=>rfl
  | 1,_=>rfl) _ fun j=>by unfold wq;split<;>rfl
 rw[e] at h2;exact h2
theorem Bu (n:Nat) (hn:n≤1000000) :∃M:Array Value,∀w:World,(Instr.makeSlice 27 (.int .i64 (n:Int)) (.int .i64 (n:Int))).run Tryz.prog w=.ok (.slice (some ⟨w.heap.size,0,none⟩) n n) (w.alloc (.cells M 3)) ∧
  ∀base,base≤w.heap.size→eR (w.alloc (.cells M 3)) base 3 1 w.heap.size n (Hi fun _=>0):=by
 obtain⟨i0,mC,hz0,hz1,hz2⟩:=info_parts IM;refine⟨madeCells (Value.cells (.int .i64 0)) (n*i0.size),fun w=>?_⟩
 have hr:=run_make (P:=Tryz.prog) w 27 3 i0 _ Tryz.underlying27 mC hz0 .i64 .i64 (n:Int) (n:Int) (by omega) (Int.le_refl _) (by rw[hz2];omega) (by omega)
 simp only[gS] at hr;refine⟨hr,fun base hb=>?_⟩
 obtain⟨W,h1,h2,_⟩:=run_make_full (P:=Tryz.prog) w base 27 3 i0 _ 1 Tryz.underlying27 mC hz0 hz1 .i64 .i64 n (by rw[hz2];omega) (by unfold maxLen;omega) hb
 rw[hr] at h1;injection h1 with _ h1;rw[h1];have e:(madeCells (Value.cells (.int .i64 0)) (n*1)).toList=(List.range (n*1)).map (Hi fun _=>0):=Wm (v:=.int .i64 0) _ (by decide) (fun j hj=>by
  have hj:j<1:=hj;match j,hj with
  | 0,_=>rfl) _ fun j=>rfl
 rw[e] at h2;exact h2
def Nw (W:World) (B N:Nat) (v:Value) (st:aI):Prop:=∃fv ub ob L,v=.agg #[fv,.slice (some ⟨ub,0,none⟩) N N,.slice (some ⟨ob,0,none⟩) N N]∧lN W B fv L∧L.map (·.1)=st.fns∧eR W B 140 2 ub N (wq st.uses)∧eR W B 3 1 ob N (Hi st.of)
theorem eS.scope {W:World} {B b:Nat} {nv:Value} {N:Nat} {st:aI} {fv:Value} {ub ob:Nat} {L:List nX} (h:eS W B b nv N st fv ub ob L):Nw W B N (.agg #[fv,.slice (some ⟨ub,0,none⟩) N N,.slice (some ⟨ob,0,none⟩) N N]) st:=⟨fv,ub,ob,L,rfl,h.fns,h.are,h.uses,h.wy⟩
def qH:Value:=.agg #[.slice none 0 0,.slice none 0 0,.slice none 0 0]
def FT (B N:Nat) (r:Rs aI) (e:Ending) (w':World):Prop :=
 match r with
 | .ok st=>∃v B',B≤B'∧e=.returned (.tuple #[v,.nilIface])∧Nw w' B' N v st
 | .error x=>∃v,e=.returned (.tuple #[qH,v])∧tl w' v x.2 x.1
theorem Nx {T:List Nd} {r:Int} (h:eY T r=true) :∃t:Lt,Lt.In T t∧(t.loc:Int)=r∧t.dr.Nodup∧(∀j,j<T.length↔j∈t.dr)∧gW T t∧t.hd.kind=18:=by
 obtain⟨h1,h2,h3,h4⟩:=(eh cL pw gM).1 h;obtain⟨hl,h0,hlt,d,m,hs⟩:=ur h1;obtain⟨t,hi,e,hn,hall⟩:=Hb hs;have hT :∀x∈T,pw x.kind x.num (x.kids.map fun k=>gM (dB T k.toNat))=true:=fun x hx=>by
  obtain⟨i,hi⟩:=jc.1 hx;exact((lF cL pw gM).1 (h4 i x hi)).2.2
 have hk:t.hd.kind=18:=by
  have:=(kC hi).2.1;rw[e] at this;rw[←h3,lG this]
 exact⟨t,hi,by rw[e];omega,hn,hall,MX hT hi hn (by rw[hk];decide),hk⟩
theorem Bv (w:World) (X Y Z:Obj):Below w.heap.size w (((w.alloc X).alloc Y).alloc Z).drew:=((((Below.refl _ _).alloc (ag _) _).alloc (by rw[ao];omega) _).alloc (by rw[ao,ao];omega) _).drew
theorem SI (w:World) (X Y Z:Obj):(((w.alloc X).alloc Y).alloc Z).drew.heap[w.heap.size]? = some X :=
 (Below.heap_alloc ((w.alloc X).alloc Y) Z _ (by rw[ao,ao];omega)).trans ((Below.heap_alloc (w.alloc X) Y _ (by rw[ao];omega)).trans (heap_alloc_new w X))
theorem SJ (w:World) (X Y Z:Obj):(((w.alloc X).alloc Y).alloc Z).drew.heap[w.heap.size+1]? = some Y:=by
 have h:=heap_alloc_new (w.alloc X) Y;rw[ao] at h;exact(Below.heap_alloc ((w.alloc X).alloc Y) Z _ (by rw[ao,ao];omega)).trans h
theorem SK (w:World) (X Y Z:Obj):(((w.alloc X).alloc Y).alloc Z).drew.heap[w.heap.size+1+1]? = some Z:=by
 have h:=heap_alloc_new ((w.alloc X).alloc Y) Z;rw[ao,ao] at h;exact h
theorem eR.later {W W':World} {B b n s:Nat} {ty:TypeId} {f:Nat→Value} (h:eR W B ty s b n f) (hb:Below W.heap.size W W'):eR W' B ty s b n f:=(Fr.af (E:=[]) hb).row h (by simp)
section
variable {B n s:Nat} {ty:TypeId} {f:Nat→Value}
theorem Wn (w:World) (X Y Z:Obj) (h:eR (w.alloc X) B ty s w.heap.size n f):eR (((w.alloc X).alloc Y).alloc Z).drew B ty s w.heap.size n f:=h.later (Below.two Y Z).drew
theorem Wo (w:World) (X Y Z:Obj) (h:eR ((w.alloc X).alloc Y) B ty s (w.alloc X).heap.size n f):eR (((w.alloc X).alloc Y).alloc Z).drew B ty s (w.heap.size+1) n f:=by
 rw[ao] at h;exact h.later ((Below.refl _ _).alloc (ag _) Z).drew
theorem Wq (w:World) (X Y Z:Obj) (h:eR (((w.alloc X).alloc Y).alloc Z) B ty s ((w.alloc X).alloc Y).heap.size n f):eR (((w.alloc X).alloc Y).alloc Z).drew B ty s (w.heap.size+1+1) n f:=by
 rw[ao,ao] at h;exact h.later (Below.refl _ _).drew
end
structure MkZ (w2 W:World) (B:Nat) (nv:Value) (N ub ob b:Nat):Prop where
 below:Below w2.heap.size w2 W
 le:w2.heap.size≤b
 blk:W.heap[b]? = some (.cells #[nv,.slice none 0 0,.slice (some ⟨ub,0,none⟩) N N,.slice (some ⟨ob,0,none⟩) N N] 64 (0,0))
 uses:eR W B 140 2 ub N (wq fun _=>(0,0))
 wy:eR W B 3 1 ob N (Hi fun _=>0)
theorem IP {P:Program} {id:Nat} {ops:Array Oper} {Q:Exit→Act→World→Prop} {a:Act} {w:World} {F:Nat→Nat→Nat→Act} {H:Nat→Nat→Nat→World→Prop} (hr:(∀ub ob b W,H ub ob b W→Q .normal (F ub ob b) W)→(Code.region id ops true).wp P Q a w) (h :∀ub ob b W,H ub ob b W→Q .normal (F ub ob b) W):(Code.region id ops true).wp P Q a w:=hr h
end Go.Proofs.YtodmcdfeldkocaaGreatDoor
namespace Go.Proofs.YtodmcdfeldkocaaGreatDoor
open Go.RowKit
def Bw (nv:Value) (T:List Nd) (t:Lt):Prop:=∀w:World,eO w nv T→Calls Tryz.prog 15 #[.agg #[nv],.int .i64 (t.loc:Int)] w fun e w'=>e=.returned (.int .i64 (aH t:Int))∧Below w.heap.size w w'
theorem Ny {l:List Nat} {n a h:Nat} (hn:l[n]? = some a):dY h (l.drop n)=max (h+a) (dY (h+1) (l.drop (n+1))):=by
 obtain⟨hlt,rfl⟩:=aJ.1 hn;rw[pX hlt,dY]
theorem IQ {l:List Nat} {n a:Nat} (hn:l[n]? = some a):gA (l.drop n)=max a (gA (l.drop (n+1))):=by
 obtain⟨hlt,rfl⟩:=aJ.1 hn;rw[pX hlt,gA]
theorem max_1 (m q:Nat):(if m<q then (q:Int) else (m:Int))=((max m q:Nat):Int):=by split<;>omega
theorem aaM (m h n q:Nat):(if (m:Int)<(h:Int)+(n:Int)+(q:Int) then (h:Int)+(n:Int)+(q:Int) else (m:Int))=((max m (h+n+q):Nat):Int):=by split<;>omega
theorem og {T:List Nd} {nv:Value} (ks:List Lt) (kv:Value) (held:Nat) (w:World) (hT:eO w nv T) (hk:cE w kv (ks.map fun k=>(k.loc:Int))) (hV :∀k∈ks,Bw nv T k) (hb :∀k∈ks,aH k≤1000000) (hl:ks.length≤1000000) (hh:held≤1000000) :
  Calls Tryz.prog 29 #[.agg #[nv],kv,.int .i64 (held:Int)] w fun e w'=>e=.returned (.int .i64 (dY held (ks.map aH):Int))∧Below w.heap.size w w':=by
 have HT:=aa hT;have HK:=aa hk;have HV:=aa hV;have HB:=aa hb;obtain⟨A,c,rfl,hc,hcell⟩:=hk;simp only[bS] at hc ⊢;obtain⟨R,hR⟩ :∃R,R=dY held (ks.map aH):=⟨_,rfl⟩;have HR:=aa hR;rw[←hR];clear hT hV hb hR hcell;go_enter Tryz.func29,Tryz.ntmps29
 go_wp2_with fail
 have eB:=heap_alloc_new w (.cells #[nv] 56);have hb0:Below w.heap.size w (w.alloc (.cells #[nv] 56)):=(Below.refl _ _).alloc (ag _) _;generalize hW1:w.alloc (.cells #[nv] 56)=W1 at eB hb0 ⊢;have mw:=aa eB;have tP:=aa hb0;clear eB hb0 hW1;go_loopw [7,12] (fun m i wr=>∃n mm:Nat,i=.int .i64 (n:Int)∧m=.int .i64 (mm:Int)∧n≤ks.length∧Below W1.heap.size W1 wr∧max mm (dY (held+n) ((ks.map aH).drop n))=R∧mm≤3000000) (fun _ i _=>ks.length-(intOf i).toNat)
 case atStart=>exact⟨0,0,rfl,rfl,bg _,Below.refl _ _,by rw[oM,EX,HR.out];omega,by omega⟩
 case round =>
  obtain⟨n,mm,rfl,rfl,hn,hb,hm,hm3⟩:=hrel;have pC:=(hb.block _ (aM.1 mw.out).1).trans mw.out;have p0:=ab pC 0;replace p0:_=some nv:=p0;have oD:=aa hb;have HM:=aa hm;clear hb pC hm;by_cases hlt:n<ks.length
  ·obtain⟨k,hk⟩ :∃k,ks[n]? = some k:=⟨ks[n],bt hlt⟩
   have oA:=aV hk;have pq:=tP.out.trans (oD.out.mono tP.out.size);have DF:=aa (HK.out.below pq);obtain⟨A',c',he,_,eD⟩:=DF.out;injection he with qx _ Ms;subst qx Ms;rcases eD with h0 | ⟨sb,so,rfl,Rb,hsc⟩
   ·rw[kM] at h0
    rw[h0] at hlt;exact absurd hlt (by simp)
   have cs:wr.cell? ⟨sb,so+n,none⟩=some (.int .i64 (k.loc:Int)):=hsc n _ (by rw[ef,hk];rfl)
   have mz:=aa (HV.out k oA wr (HT.out.below pq));have hkb:=HB.out k oA;have sV:=aa (Ny (l:=ks.map aH) (n:=n) (a:=aH k) (h:=held+n) (by rw[ef,hk];rfl))
   obtain⟨q,hq⟩ :∃q,aH k=q:=⟨_,rfl⟩;rw[hq] at hkb;have HQ:=aa hq;have iM:=aa hlt;clear hk oA hsc hq pq;go_wp2_with fail
   refine mz.out.mono ?_;rintro e w2 ⟨rfl,b2⟩;rw[HQ.out];have B2:=aa (oD.out.trans (b2.mono oD.out.size));clear b2;go_wp2_with fail
   refine⟨⟨n+1,max mm (held+n+q),by go_num,by rw[aaM],iM.out,B2.out,?_,by omega⟩,by have:=iM.out;simp[intOf];omega⟩
   rw[←HM.out,sV.out,HQ.out,oN held n 1,Nat.max_assoc]
  ·have rm:n=ks.length:=by omega
   go_wp2_with fail
   go_ret
   have hE:R=mm:=by rw[←HM.out,rm,mn (by simp),dY];omega
   rw[hE];exact⟨rfl,tP.out.trans (oD.out.mono tP.out.size)⟩
theorem By {T:List Nd} {nv:Value} (ks:List Lt) (kv:Value) (w:World) (hT:eO w nv T) (hk:cE w kv (ks.map fun k=>(k.loc:Int))) (hV :∀k∈ks,Bw nv T k) (hb :∀k∈ks,aH k≤1000000) (hl:ks.length≤1000000) :
  Calls Tryz.prog 30 #[.agg #[nv],kv] w fun e w'=>e=.returned (.int .i64 (gA (ks.map aH):Int))∧Below w.heap.size w w':=by
 have HT:=aa hT;have HK:=aa hk;have HV:=aa hV;have HB:=aa hb;obtain⟨A,c,rfl,hc,hcell⟩:=hk;simp only[bS] at hc ⊢;obtain⟨R,hR⟩ :∃R,R=gA (ks.map aH):=⟨_,rfl⟩;have HR:=aa hR;rw[←hR];clear hT hV hb hR hcell;go_enter Tryz.func30,Tryz.ntmps30
 go_wp2_with fail
 have eB:=heap_alloc_new w (.cells #[nv] 56);have hb0:Below w.heap.size w (w.alloc (.cells #[nv] 56)):=(Below.refl _ _).alloc (ag _) _;generalize hW1:w.alloc (.cells #[nv] 56)=W1 at eB hb0 ⊢;have mw:=aa eB;have tP:=aa hb0;clear eB hb0 hW1;go_loopw [5,10] (fun m i wr=>∃n mm:Nat,i=.int .i64 (n:Int)∧m=.int .i64 (mm:Int)∧n≤ks.length∧Below W1.heap.size W1 wr∧max mm (gA ((ks.map aH).drop n))=R∧mm≤3000000) (fun _ i _=>ks.length-(intOf i).toNat)
 case atStart=>exact⟨0,0,rfl,rfl,bg _,Below.refl _ _,by rw[oM,HR.out];omega,by omega⟩
 case round =>
  obtain⟨n,mm,rfl,rfl,hn,hb,hm,hm3⟩:=hrel;have pC:=(hb.block _ (aM.1 mw.out).1).trans mw.out;have p0:=ab pC 0;replace p0:_=some nv:=p0;have oD:=aa hb;have HM:=aa hm;clear hb pC hm;by_cases hlt:n<ks.length
  ·obtain⟨k,hk⟩ :∃k,ks[n]? = some k:=⟨ks[n],bt hlt⟩
   have oA:=aV hk;have pq:=tP.out.trans (oD.out.mono tP.out.size);have DF:=aa (HK.out.below pq);obtain⟨A',c',he,_,eD⟩:=DF.out;injection he with qx _ Ms;subst qx Ms;rcases eD with h0 | ⟨sb,so,rfl,Rb,hsc⟩
   ·rw[kM] at h0
    rw[h0] at hlt;exact absurd hlt (by simp)
   have cs:wr.cell? ⟨sb,so+n,none⟩=some (.int .i64 (k.loc:Int)):=hsc n _ (by rw[ef,hk];rfl)
   have mz:=aa (HV.out k oA wr (HT.out.below pq));have hkb:=HB.out k oA;have sV:=aa (IQ (l:=ks.map aH) (n:=n) (a:=aH k) (by rw[ef,hk];rfl))
   obtain⟨q,hq⟩ :∃q,aH k=q:=⟨_,rfl⟩;rw[hq] at hkb;have HQ:=aa hq;have iM:=aa hlt;clear hk oA hsc hq pq;go_wp2_with fail
   refine mz.out.mono ?_;rintro e w2 ⟨rfl,b2⟩;rw[HQ.out];have B2:=aa (oD.out.trans (b2.mono oD.out.size));clear b2;go_wp2_with fail
   refine⟨⟨n+1,max mm q,by go_num,by rw[max_1],iM.out,B2.out,?_,by omega⟩,by have:=iM.out;simp[intOf];omega⟩
   rw[←HM.out,sV.out,HQ.out,Nat.max_assoc]
  ·have rm:n=ks.length:=by omega
   go_wp2_with fail
   go_ret
   have hE:R=mm:=by rw[←HM.out,rm,mn (by simp),gA];omega
   rw[hE];exact⟨rfl,tP.out.trans (oD.out.mono tP.out.size)⟩
theorem xN :∀(l:List Nat) (h d:Nat),l≠[]→dY (h+d) l=d+dY h l
 | [],_,_,hl=>absurd rfl hl
 | [a],h,d,_=>by rw[dY,dY,dY,dY];omega
 | a::b::l,h,d,_=>by
  have:=xN (b::l) (h+1) d (by simp)
  show max (h+d+a) (dY (h+d+1) (b::l))=d+max (h+a) (dY (h+1) (b::l))
  rw[show h+d+1=h+1+d by omega,this]
  omega
theorem IS {vals:List Nat} {l:List (Int×Nat)} {n a h:Nat} (hn:l[n]? = some (8,a)):mB vals h (l.drop n)=max (h+a) (mB vals (h+2) (l.drop (n+1))):=by
 obtain⟨hlt,e⟩:=aJ.1 hn;rw[pX hlt,e,mB,aj rfl]
theorem Nz {vals:List Nat} {l:List (Int×Nat)} {n a h:Nat} {k:Int} (hk:k≠8) (hn:l[n]? = some (k,a)):mB vals h (l.drop n)=mB vals h (l.drop (n+1)):=by
 obtain⟨hlt,e⟩:=aJ.1 hn;rw[pX hlt,e,mB,ae hk]
structure aaN (nv:Value) (T:List Nd) (k:Lt):Prop where
 at_:T[k.loc]? = some k.hd
 kids:k.hd.kids=k.sub.map fun x=>(x.loc:Int)
 two:k.hd.kind=8→k.sub≠[]∧k.sub.length≤1000000
 ok :∀x∈k.sub,Bw nv T x
 le :∀x∈k.sub,aH x≤1000000
 small:aH k≤1000000
theorem SL {k:Lt} (h8:k.hd.kind=8):aH k=dY 0 (k.sub.map aH):=by
 rw[fN,gB];rw[ae (by omega),ae (by omega),ae (by omega),ae (by omega),ae (by omega),ae (by omega),ae (by omega),aj (.inl h8),uo]
 rfl
theorem DO {T:List Nd} {nv:Value} (ts vs:List Lt) (tv vv:Value) (w:World) (hT:eO w nv T) (ht:cE w tv (ts.map fun k=>(k.loc:Int))) (hv:cE w vv (vs.map fun k=>(k.loc:Int))) (SM :∀k∈ts,aaN nv T k) (hV :∀k∈vs,Bw nv T k) (hb :∀k∈vs,aH k≤1000000) (hl:ts.length≤100000) (hl2:vs.length≤1000000) :
  Calls Tryz.prog 28 #[.agg #[nv],tv,vv] w fun e w'=>e=.returned (.int .i64 (mB (vs.map aH) 0 (ts.map fun k=>(k.hd.kind,aH k)):Int))∧Below w.heap.size w w':=by
 have HT:=aa hT;have HK:=aa ht;have HVV:=aa hv;have HTG:=aa SM;have HV:=aa hV;have HB:=aa hb;obtain⟨A,c,rfl,hc,hcell⟩:=ht;obtain⟨A2,c2,rfl,hc2,Yy⟩:=hv;simp only[bS] at hc hc2 ⊢;obtain⟨R,hR⟩ :∃R,R=mB (vs.map aH) 0 (ts.map fun k=>(k.hd.kind,aH k)):=⟨_,rfl⟩
 have HR:=aa hR;rw[←hR];clear hT SM hV hb hR hcell Yy;go_enter Tryz.func28,Tryz.ntmps28
 go_wp2_with fail
 have eB:=heap_alloc_new w (.cells #[nv] 56);have hb0:Below w.heap.size w (w.alloc (.cells #[nv] 56)):=(Below.refl _ _).alloc (ag _) _;generalize hW1:w.alloc (.cells #[nv] 56)=W1 at eB hb0 ⊢;have mw:=aa eB;have tP:=aa hb0;clear eB hb0 hW1;go_loopw [7,8,14] (fun m hd i wr=>∃n mm h:Nat,i=.int .i64 (n:Int)∧m=.int .i64 (mm:Int)∧hd=.int .i64 (h:Int)∧n≤ts.length∧Below W1.heap.size W1 wr∧max mm (mB (vs.map aH) h ((ts.map fun k=>(k.hd.kind,aH k)).drop n))=R∧mm≤3000000∧h≤2*n) (fun _ _ i _=>ts.length-(intOf i).toNat)
 case atStart=>exact⟨0,0,0,rfl,rfl,rfl,bg _,Below.refl _ _,by rw[oM,HR.out];omega,by omega,by omega⟩
 case round =>
  obtain⟨n,mm,h,rfl,rfl,rfl,hn,hb,hm,hm3,hh⟩:=hrel;have pC:=(hb.block _ (aM.1 mw.out).1).trans mw.out;have p0:=ab pC 0;replace p0:_=some nv:=p0;have lp:w.heap.size<wr.heap.size:=(aM.1 pC).1;have oD:=aa hb;have HM:=aa hm;have pq:=tP.out.trans (oD.out.mono tP.out.size);have iL:=aa pq;clear hb pC hm pq;by_cases hlt:n<ts.length
  ·obtain⟨k,hk⟩ :∃k,ts[n]? = some k:=⟨ts[n],bt hlt⟩
   have oA:=aV hk;have DF:=aa (HK.out.below iL.out);obtain⟨A',c',he,_,eD⟩:=DF.out;injection he with qx _ Ms;subst qx Ms;rcases eD with h0 | ⟨sb,so,rfl,Rb,hsc⟩
   ·rw[kM] at h0
    rw[h0] at hlt;exact absurd hlt (by simp)
   have cs:wr.cell? ⟨sb,so+n,none⟩=some (.int .i64 (k.loc:Int)):=hsc n _ (by rw[ef,hk];rfl)
   have htg:=HTG.out k oA;have Wr:=aa htg;obtain⟨NA,nc,rfl,Xz,hX⟩:=HT.out.below iL.out;have hkt:=htg.at_;have hktl:=(aJ.1 hkt).1;rcases hX with h0 | ⟨bk,o,rfl,dH,hX⟩
   ·rw[h0] at hkt;cases hkt
   obtain⟨u7,u9,eL,⟨SA,sc,hse,_,_⟩,Kt⟩:=hX k.loc k.hd hkt;have HUN:=aa Kt;obtain⟨UA,uc,Yz,Fq,_⟩:=Kt;obtain⟨c0,c1,cc2,c3,c4,c5,c6⟩:=eL;rw[hse] at c5;rw[Yz] at c6 HUN;obtain⟨x,hx⟩ :∃x,x=k.hd:=⟨_,rfl⟩;rw[←hx] at c0 c1 cc2 c3 c4 c5 c6 Fq HUN;have HX:=aa hx;have hi:((k.loc:Int)<0)=False:=eK (by omega)
   have rl:(T.length≤k.loc)=False:=eK (by omega)
   have iM:=aa hlt;clear oA htg hx hkt hse Yz hX hsc;by_cases h8:x.kind=8
   ·rw[h8] at c0
    have SN:=Wr.out.two (by rw[←HX.out];exact h8)
    have NB:=Wr.out.small;have sV:=aa (IS (vals:=vs.map aH) (l:=ts.map fun k=>(k.hd.kind,aH k)) (n:=n) (a:=aH k) (h:=h) (by rw[ef,hk];show some (k.hd.kind,aH k)=_;rw[←HX.out,h8]))
    have hrow:dY h (k.sub.map aH)=h+aH k:=by
     have:=xN (k.sub.map aH) 0 h (by simp[SN.1])
     rw[SL (by rw[←HX.out];exact h8),←this,jg]
    have IT:=aa (fun W (hW:Below wr.heap.size wr W)=>og (T:=T) (nv:=.slice (some ⟨bk,o,none⟩) T.length nc) k.sub (.slice UA x.kids.length uc) h W (HT.out.below (iL.out.trans (hW.mono iL.out.size))) (by
     have:=HUN.out.below hW;rw[HX.out,Wr.out.kids] at this ⊢;exact this) Wr.out.ok Wr.out.le SN.2 (by omega))
    rw[hrow] at IT;obtain⟨q,hq⟩ :∃q,h+aH k=q:=⟨_,rfl⟩;rw[hq] at IT sV;have hql:q≤2000000:=by omega
    clear hq SN hrow hk NB;go_wp2_with fail
    refine(IT.out _ ((Below.refl _ _).alloc (ag _) _)).mono ?_;rintro e w2 ⟨rfl,b2⟩;have B2:=aa (oD.out.trans ((((Below.refl _ _).alloc (ag _) _).trans (b2.mono (by rw[ao];omega))).mono oD.out.size))
    clear b2;go_wp2_with fail
    refine⟨⟨n+1,max mm q,h+2,by go_num,by rw[max_1],by go_num,by have:=iM.out;omega,B2.out,?_,by omega,by omega⟩,by have:=iM.out;simp[intOf];omega⟩
    rw[←HM.out,sV.out,Nat.max_assoc]
   ·have g8:(x.kind == 8)=false:=aC.2 h8
    have sV:=aa (Nz (vals:=vs.map aH) (l:=ts.map fun k=>(k.hd.kind,aH k)) (n:=n) (a:=aH k) (h:=h) (k:=k.hd.kind) (by rw[←HX.out];exact h8) (by rw[ef,hk];rfl))
    clear h8 hk;go_wp2_with fail
    refine⟨⟨n+1,mm,h,by go_num,rfl,rfl,by have:=iM.out;omega,oD.out.alloc oD.out.size _,?_,by omega,by omega⟩,by have:=iM.out;simp[intOf];omega⟩
    rw[←HM.out,sV.out]
  ·have rm:n=ts.length:=by omega
   have IT:=aa (og (T:=T) (nv:=nv) vs (.slice A2 vs.length c2) h wr (HT.out.below iL.out) (by have:=HVV.out.below iL.out;rw[bS] at this;exact this) HV.out HB.out hl2 (by omega))
   obtain⟨q,hq⟩ :∃q,dY h (vs.map aH)=q:=⟨_,rfl⟩;rw[hq] at IT;have HQ:=aa hq;clear hq;go_wp2_with fail
   refine IT.out.mono ?_;rintro e w2 ⟨rfl,b2⟩;have B2:=aa (iL.out.trans (b2.mono iL.out.size));clear b2;have hE:R=max mm q:=by rw[←HM.out,rm,mn (by simp),mB,HQ.out]
   have HE:=aa hE;clear hE;go_wp2_with fail
   all_goals
    go_ret
    refine⟨?_,B2.out⟩;rw[HE.out];first
     | (rw[show max mm q=q by omega];rfl)
     | (rw[show max mm q=mm by omega];rfl)
end Go.Proofs.YtodmcdfeldkocaaGreatDoor
namespace Go.Proofs.YtodmcdfeldkocaaGreatDoor
open Go.RowKit
theorem kf (t:Lt):(t.sub.map fun k=>(k.hd.kind,aH k)).map (·.2)=t.sub.map aH:=by rw[uo];rfl
section
variable {t:Lt}
theorem IU (h:t.hd.kind=30∨t.hd.kind=31∨t.hd.kind=32):aH t=0:=by rw[fN,gB,aj h]
theorem NC (h:t.hd.kind=20):aH t=mB ((t.sub.drop t.hd.num.toNat).map aH) 0 ((t.sub.take t.hd.num.toNat).map fun k=>(k.hd.kind,aH k)):=by
 rw[fN,gB,ae (by omega),aj h,←xc,←Af,uo];rfl
theorem ND (h:t.hd.kind=10):aH t=max 2 (max ((t.sub.map aH).headD 0) (dY 2 ((t.sub.map aH).drop 1))):=by
 rw[fN,gB,ae (by omega),ae (by omega),aj h,kf]
theorem IV (h:t.hd.kind=27):aH t=max 6 (max (dY 0 (t.sub.map aH).dropLast) (3+(t.sub.map aH).getLastD 0)):=by
 rw[fN,gB,ae (by omega),ae (by omega),ae (by omega),aj h,kf]
theorem NG (h:t.hd.kind=26):aH t=max (dY 0 (t.sub.map aH).dropLast) (3+(t.sub.map aH).getLastD 0):=by
 rw[fN,gB,ae (by omega),ae (by omega),ae (by omega),ae (by omega),aj h,kf]
theorem NH (h:t.hd.kind=12):aH t=if t.hd.op=18∨t.hd.op=19 then gA (t.sub.map aH) else dY 0 (t.sub.map aH):=by
 rw[fN,gB,ae (by omega),ae (by omega),ae (by omega),ae (by omega),ae (by omega),aj h,kf]
theorem IW (h:t.hd.kind=16∨t.hd.kind=17):aH t=dY 1 (t.sub.map aH):=by
 rw[fN,gB,ae (by omega),ae (by omega),ae (by omega),ae (by omega),ae (by omega),ae (by omega),aj h,kf]
theorem NI (h:t.hd.kind=8∨t.hd.kind=9∨t.hd.kind=19∨t.hd.kind=29):aH t=dY 0 (t.sub.map aH):=by
 rw[fN,gB,ae (by omega),ae (by omega),ae (by omega),ae (by omega),ae (by omega),ae (by omega),ae (by omega),aj h,kf]
theorem NJ (h:t.hd.kind=15):aH t=max 1 (gA (t.sub.map aH)):=by
 rw[fN,gB,ae (by omega),ae (by omega),ae (by omega),ae (by omega),ae (by omega),ae (by omega),ae (by omega),ae (by omega),aj h,kf]
theorem IX (h:t.hd.kind=13∨t.hd.kind=14∨t.hd.kind=18∨t.hd.kind=21∨t.hd.kind=22∨t.hd.kind=23∨t.hd.kind=24∨t.hd.kind=25):aH t=gA (t.sub.map aH):=by
 rw[fN,gB,ae (by omega),ae (by omega),ae (by omega),ae (by omega),ae (by omega),ae (by omega),ae (by omega),ae (by omega),ae (by omega),aj h,kf]
theorem NK (h:t.hd.kind=1∨t.hd.kind=2∨t.hd.kind=3∨t.hd.kind=4∨t.hd.kind=5∨t.hd.kind=6∨t.hd.kind=7∨t.hd.kind=11∨t.hd.kind=28):aH t=1:=by
 rw[fN,gB,ae (by omega),ae (by omega),ae (by omega),ae (by omega),ae (by omega),ae (by omega),ae (by omega),ae (by omega),ae (by omega),ae (by omega)]
end
theorem Bz :∀l:List Lt,l.length≤Lt.al l
 | []=>bg _
 | a::l=>by
  rw[Lt.al,List.length_cons];have h1:1≤a.size:=by cases a;rw[Lt.size];omega
  have:=Bz l;omega
theorem FU (t:Lt):t.sub.length<t.size:=by
 rw[uG t];have:=Bz t.sub;omega
theorem xO {k:Lt} :∀{l:List Lt},k∈l→k.size≤Lt.al l
 | a::l,h=>by
  rw[Lt.al];rcases ba.1 h with rfl|h
  ·omega
  ·have:=xO h;omega
theorem jI {t k:Lt} (h:k∈t.sub):k.size<t.size:=by
 rw[uG t];have:=xO h;omega
structure SO (T:List Nd) (nv:Value) (t:Lt) (bk o nc:Nat) (SA UA:Option Addr) (sc uc:Nat) (w:World):Prop where
 nv_:nv=.slice (some ⟨bk,o,none⟩) T.length nc
 lt:t.loc<T.length
 few:T.length≤1000000
 hb:bk<w.heap.size
 c0:w.cell? ⟨bk,o+t.loc*7,none⟩=some (.int .i64 t.hd.kind)
 c1:w.cell? ⟨bk,o+t.loc*7+1,none⟩=some (.int .i64 t.hd.line)
 c2:w.cell? ⟨bk,o+t.loc*7+2,none⟩=some (.int .i64 t.hd.op)
 c3:w.cell? ⟨bk,o+t.loc*7+3,none⟩=some (.int .i64 t.hd.num)
 c4:w.cell? ⟨bk,o+t.loc*7+4,none⟩=some (.string t.hd.s)
 c5:w.cell? ⟨bk,o+t.loc*7+5,none⟩=some (.slice SA t.hd.names.length sc)
 c6:w.cell? ⟨bk,o+t.loc*7+6,none⟩=some (.slice UA t.sub.length uc)
 kids:cE w (.slice UA t.sub.length uc) (t.sub.map fun k=>(k.loc:Int))
 len:t.sub.length≤uc∧t.sub.length≤20000
 ok :∀k∈t.sub,Bw nv T k
 le :∀k∈t.sub,aH k≤1000000
theorem SP {T:List Nd} {nv:Value} {t:Lt} {w:World} (hT:eO w nv T) (hn:gW T t) (hl:T.length≤1000000) (hs:t.size≤16384) (IH :∀s:Lt,s.size<t.size→gW T s→Bw nv T s) :
  ∃bk o nc SA UA sc uc,SO T nv t bk o nc SA UA sc uc w:=by
 obtain⟨h1,h2,h3⟩:=kC hn.yT;have hlt:=(aJ.1 h2).1;obtain⟨NA,nc,rfl,Xz,hX⟩:=hT;rcases hX with h0 | ⟨bk,o,rfl,dH,hX⟩
 ·rw[h0] at hlt;cases hlt
 obtain⟨u7,u9,⟨c0,c1,c2,c3,c4,c5,c6⟩,⟨SA,sc,hse,_,_⟩,Kt⟩:=hX t.loc t.hd h2;rw[h3] at Kt;have acN:=Kt;obtain⟨UA,uc,Yz,Fq,_⟩:=acN;rw[bS] at Yz Fq;rw[hse] at c5;rw[Yz] at c6 Kt;have hsz:=FU t;exact⟨bk,o,nc,SA,UA,sc,uc,rfl,hlt,hl,dH,c0,c1,c2,c3,c4,c5,c6,Kt,⟨Fq,by omega⟩,fun k hk=>IH k (jI hk) (hn.sub.1.at_ k hk),fun k hk=>by have:=qf k;have:=jI hk;omega⟩
section
variable {T:List Nd} {nv:Value} {t:Lt} {bk o nc:Nat} {SA UA:Option Addr} {sc uc:Nat} {w:World}
theorem IY (hT:eO w nv T) (hI:SO T nv t bk o nc SA UA sc uc w) (hk:t.hd.kind=30∨t.hd.kind=31∨t.hd.kind=32) :
  Calls Tryz.prog 15 #[.agg #[nv],.int .i64 (t.loc:Int)] w fun e w'=>e=.returned (.int .i64 (aH t:Int))∧Below w.heap.size w w':=by
 rw[IU hk];obtain⟨rfl,hlt,jl,dH,c0,c1,c2,c3,c4,c5,c6,_,_,_,_⟩:=hI;have hi:((t.loc:Int)<0)=False:=eK (by omega)
 have rl:(T.length≤t.loc)=False:=eK (by omega)
 clear hT;rcases hk with hk|hk|hk;all_goals
  rw[hk] at c0;clear hk;go_enter Tryz.func15,Tryz.ntmps15
  go_wp2_with fail
  go_ret
  exact⟨rfl,Below.two _ _⟩
theorem NL (hT:eO w nv T) (hI:SO T nv t bk o nc SA UA sc uc w) (hk:t.hd.kind=1∨t.hd.kind=2∨t.hd.kind=3∨t.hd.kind=4∨t.hd.kind=5∨t.hd.kind=6∨t.hd.kind=7∨t.hd.kind=11∨t.hd.kind=28) :
  Calls Tryz.prog 15 #[.agg #[nv],.int .i64 (t.loc:Int)] w fun e w'=>e=.returned (.int .i64 (aH t:Int))∧Below w.heap.size w w':=by
 rw[NK hk];obtain⟨rfl,hlt,jl,dH,c0,c1,c2,c3,c4,c5,c6,_,_,_,_⟩:=hI;have hi:((t.loc:Int)<0)=False:=eK (by omega)
 have rl:(T.length≤t.loc)=False:=eK (by omega)
 clear hT;rcases hk with hk|hk|hk|hk|hk|hk|hk|hk|hk;all_goals
  rw[hk] at c0;clear hk;go_enter Tryz.func15,Tryz.ntmps15
  go_wp2_with fail
  go_ret
  exact⟨rfl,Below.two _ _⟩
theorem xP (d:Nat) (hT:eO w nv T) (hI:SO T nv t bk o nc SA UA sc uc w) (hk:(t.hd.kind=13∨t.hd.kind=14∨t.hd.kind=18∨t.hd.kind=21∨t.hd.kind=22∨t.hd.kind=23∨t.hd.kind=24∨t.hd.kind=25)∧d=0∨t.hd.kind=15∧d=1) :
  Calls Tryz.prog 15 #[.agg #[nv],.int .i64 (t.loc:Int)] w fun e w'=>e=.returned (.int .i64 (aH t:Int))∧Below w.heap.size w w':=by
 have kg:aH t=max d (gA (t.sub.map aH)):=by
  rcases hk with ⟨hk,rfl⟩ | ⟨hk,rfl⟩
  ·rw[IX hk];omega
  ·exact NJ hk
 rw[kg];clear kg;have hI':=hI;obtain⟨rfl,hlt,jl,dH,c0,c1,c2,c3,c4,c5,c6,_,_,_,_⟩:=hI';have HT:=aa hT;have HI:=aa hI;have hi:((t.loc:Int)<0)=False:=eK (by omega)
 have rl:(T.length≤t.loc)=False:=eK (by omega)
 have HC:=aa (fun W (hW:Below w.heap.size w W)=>By (T:=T) (nv:=.slice (some ⟨bk,o,none⟩) T.length nc) t.sub (.slice UA t.sub.length uc) W (HT.out.below hW) (HI.out.kids.below hW) HI.out.ok HI.out.le (by have:=HI.out.len.2;omega))
 obtain⟨q,hq⟩ :∃q,gA (t.sub.map aH)=q:=⟨_,rfl⟩;rw[hq] at HC ⊢;clear hT hI hq;rcases hk with ⟨hk|hk|hk|hk|hk|hk|hk|hk,rfl⟩ | ⟨hk,rfl⟩;all_goals
  rw[hk] at c0;clear hk;go_enter Tryz.func15,Tryz.ntmps15
  go_wp2_with fail
  refine(HC.out _ (Below.two _ _)).mono ?_;rintro e w2 ⟨rfl,b2⟩;have B2:=aa ((Below.two _ _).trans (b2.mono (Below.two _ _).size));clear b2;go_wp2_with fail
  all_goals
   go_ret
   refine⟨az (fun z:Int=>Ending.returned (Value.int .i64 z)) ?_,B2.out⟩
   omega
theorem BA (d:Nat) (hT:eO w nv T) (hI:SO T nv t bk o nc SA UA sc uc w) (hk:(t.hd.kind=8∨t.hd.kind=9∨t.hd.kind=19∨t.hd.kind=29)∧d=0∨(t.hd.kind=16∨t.hd.kind=17)∧d=1) :
  Calls Tryz.prog 15 #[.agg #[nv],.int .i64 (t.loc:Int)] w fun e w'=>e=.returned (.int .i64 (aH t:Int))∧Below w.heap.size w w':=by
 have kg:aH t=dY d (t.sub.map aH):=by
  rcases hk with ⟨hk,rfl⟩ | ⟨hk,rfl⟩
  ·exact NI hk
  ·exact IW hk
 rw[kg];clear kg;have hI':=hI;obtain⟨rfl,hlt,jl,dH,c0,c1,c2,c3,c4,c5,c6,_,_,_,_⟩:=hI';have HT:=aa hT;have HI:=aa hI;have hi:((t.loc:Int)<0)=False:=eK (by omega)
 have rl:(T.length≤t.loc)=False:=eK (by omega)
 have HC:=aa (fun W (hW:Below w.heap.size w W)=>og (T:=T) (nv:=.slice (some ⟨bk,o,none⟩) T.length nc) t.sub (.slice UA t.sub.length uc) d W (HT.out.below hW) (HI.out.kids.below hW) HI.out.ok HI.out.le (by have:=HI.out.len.2;omega) (by omega))
 obtain⟨q,hq⟩ :∃q,dY d (t.sub.map aH)=q:=⟨_,rfl⟩;rw[hq] at HC ⊢;clear hT hI hq;rcases hk with ⟨hk|hk|hk|hk,rfl⟩ | ⟨hk|hk,rfl⟩;all_goals
  rw[hk] at c0;clear hk;go_enter Tryz.func15,Tryz.ntmps15
  go_wp2_with fail
  refine(HC.out _ (Below.two _ _)).mono ?_;rintro e w2 ⟨rfl,b2⟩;have B2:=aa ((Below.two _ _).trans (b2.mono (Below.two _ _).size));clear b2;go_wp2_with fail
  go_ret
  exact⟨rfl,B2.out⟩
end
end Go.Proofs.YtodmcdfeldkocaaGreatDoor
namespace Go.Proofs.YtodmcdfeldkocaaGreatDoor
open Go.RowKit
section
variable {T:List Nd} {nv:Value} {t:Lt} {bk o nc:Nat} {SA UA:Option Addr} {sc uc:Nat} {w:World}
theorem NM (hT:eO w nv T) (hI:SO T nv t bk o nc SA UA sc uc w) (hk:t.hd.kind=12) :
  Calls Tryz.prog 15 #[.agg #[nv],.int .i64 (t.loc:Int)] w fun e w'=>e=.returned (.int .i64 (aH t:Int))∧Below w.heap.size w w':=by
 rw[NH hk];have hI':=hI;obtain⟨rfl,hlt,jl,dH,c0,c1,c2,c3,c4,c5,c6,_,_,_,_⟩:=hI';have HT:=aa hT;have HI:=aa hI;have hi:((t.loc:Int)<0)=False:=eK (by omega)
 have rl:(T.length≤t.loc)=False:=eK (by omega)
 have HC:=aa (fun W (hW:Below w.heap.size w W)=>og (T:=T) (nv:=.slice (some ⟨bk,o,none⟩) T.length nc) t.sub (.slice UA t.sub.length uc) 0 W (HT.out.below hW) (HI.out.kids.below hW) HI.out.ok HI.out.le (by have:=HI.out.len.2;omega) (by omega))
 have HD:=aa (fun W (hW:Below w.heap.size w W)=>By (T:=T) (nv:=.slice (some ⟨bk,o,none⟩) T.length nc) t.sub (.slice UA t.sub.length uc) W (HT.out.below hW) (HI.out.kids.below hW) HI.out.ok HI.out.le (by have:=HI.out.len.2;omega))
 rw[hk] at c0;clear hT hI hk;by_cases h1:t.hd.op=18
 ·rw[aj (.inl h1)]
  rw[h1] at c2;clear h1;go_enter Tryz.func15,Tryz.ntmps15
  go_wp2_with fail
  refine(HD.out _ (Below.two _ _)).mono ?_;rintro e w2 ⟨rfl,b2⟩;have B2:=aa ((Below.two _ _).trans (b2.mono (Below.two _ _).size));clear b2;go_wp2_with fail
  go_ret
  exact⟨rfl,B2.out⟩
 by_cases h2:t.hd.op=19
 ·rw[aj (.inr h2)]
  rw[h2] at c2;clear h1 h2;go_enter Tryz.func15,Tryz.ntmps15
  go_wp2_with fail
  refine(HD.out _ (Below.two _ _)).mono ?_;rintro e w2 ⟨rfl,b2⟩;have B2:=aa ((Below.two _ _).trans (b2.mono (Below.two _ _).size));clear b2;go_wp2_with fail
  go_ret
  exact⟨rfl,B2.out⟩
 ·rw[ae (by omega)]
  have g1:(t.hd.op == 18)=false:=aC.2 h1;have g2:(t.hd.op == 19)=false:=aC.2 h2;clear h1 h2;go_enter Tryz.func15,Tryz.ntmps15
  go_wp2_with fail
  refine(HC.out _ (Below.two _ _)).mono ?_;rintro e w2 ⟨rfl,b2⟩;have B2:=aa ((Below.two _ _).trans (b2.mono (Below.two _ _).size));clear b2;go_wp2_with fail
  go_ret
  exact⟨rfl,B2.out⟩
theorem FV {W:World} {b so c:Nat} {zs:List Int} (h:cE W (.slice (some ⟨b,so,none⟩) zs.length c) zs) (hb:b<W.heap.size) (n:Nat) (hn:n≤zs.length):cE W (.slice (some ⟨b,so,none⟩) n c) (zs.take n):=by
 obtain⟨A,c',e,hc,hx⟩:=h;injection e with e1 _ e2;subst e1 e2;refine⟨_,_,by rw[jd,Ab hn],by rw[jd];omega,.inr ⟨b,so,rfl,hb,fun j z hj=>?_⟩⟩
 have hjn:=(aJ.1 hj).1;rw[jd] at hjn;rw[EH (by omega)] at hj
 rcases hx with h0 | ⟨bk,o,e,_,hx⟩
 ·rw[h0] at hj;cases hj
 ·injection e with e
  injection e with e1 e2;subst e1 e2;exact hx j z hj
theorem FW {W:World} {b so c:Nat} {zs:List Int} (h:cE W (.slice (some ⟨b,so,none⟩) zs.length c) zs) (hb:b<W.heap.size) (n m:Nat) (hn:n+m=zs.length):cE W (.slice (some ⟨b,so+n,none⟩) m (c-n)) (zs.drop n):=by
 obtain⟨A,c',e,hc,hx⟩:=h;injection e with e1 _ e2;subst e1 e2;refine⟨_,_,by rw[je,show zs.length-n=m by omega],by rw[je];omega,.inr ⟨b,so+n,rfl,hb,fun j z hj=>?_⟩⟩
 rw[wW] at hj;rcases hx with h0 | ⟨bk,o,e,_,hx⟩
 ·rw[h0] at hj;simp at hj
 ·injection e with e
  injection e with e1 e2;subst e1 e2;rw[oN];exact hx (n+j) z hj
theorem BB (hT:eO w nv T) (hI:SO T nv t bk o nc SA UA sc uc w) (hk:t.hd.kind=26∨t.hd.kind=27) (hne:t.sub≠[]) :
  Calls Tryz.prog 15 #[.agg #[nv],.int .i64 (t.loc:Int)] w fun e w'=>e=.returned (.int .i64 (aH t:Int))∧Below w.heap.size w w':=by
 obtain⟨l,b,hs⟩ :∃l b,t.sub=l++[b]:=by
  rcases List.eq_nil_or_concat t.sub with h | ⟨l,b,h⟩
  ·exact absurd h hne
  ·exact⟨l,b,by rw[h,List.concat_eq_append]⟩
 have kg:aH t=max (if t.hd.kind=27 then 6 else 0) (max (dY 0 (l.map aH)) (3+aH b)):=by
  rcases hk with hk|hk
  ·rw[NG hk,hs,ae (by omega)];simp
  ·rw[IV hk,hs,aj hk];simp
 rw[kg];have hI':=hI;obtain⟨rfl,hlt,jl,dH,c0,c1,c2,c3,c4,c5,c6,dd,hlen,rq,hle⟩:=hI';rw[hs] at dd hlen rq hle c6;have vq:=dd;obtain⟨A,c',e,hc,hx⟩:=vq;injection e with e1 e3 e2;subst e1 e2;rcases hx with h0 | ⟨sb,so,rfl,yR,hx⟩
 ·simp at h0
 have Ls:w.cell? ⟨sb,so+l.length,none⟩=some (.int .i64 (b.loc:Int)):=hx l.length _ (by simp)
 simp only[cb,List.length_cons,List.length_nil,jg,bS] at dd hlen c6 hc;have kW:cE w (.slice (some ⟨sb,so,none⟩) l.length uc) (l.map fun k=>(k.loc:Int)):=by
  have:=FV (zs:=(l++[b]).map fun k=>(k.loc:Int)) (by simpa using dd) yR l.length (by simp)
  rw[←Af,List.take_left] at this;exact this
 have HT:=aa hT;have hi:((t.loc:Int)<0)=False:=eK (by omega)
 have rl:(T.length≤t.loc)=False:=eK (by omega)
 have HC:=aa (fun W (hW:Below w.heap.size w W)=>og (T:=T) (nv:=.slice (some ⟨bk,o,none⟩) T.length nc) l (.slice (some ⟨sb,so,none⟩) l.length uc) 0 W (HT.out.below hW) (kW.below hW) (fun k hk=>rq k (dW _ hk)) (fun k hk=>hle k (dW _ hk)) (by omega) (by omega))
 have HD:=aa (fun W (hW:Below w.heap.size w W)=>rq b (by simp) W (HT.out.below hW))
 have hbl:=hle b (by simp)
 obtain⟨q,hq⟩ :∃q,dY 0 (l.map aH)=q:=⟨_,rfl⟩;obtain⟨r,hr⟩ :∃r,aH b=r:=⟨_,rfl⟩;rw[hq] at HC ⊢;rw[hr] at HD hbl ⊢;have Ri:=hlen.2;clear e3 hT hI hq hr kg hs hx dd kW rq hle hlen hne;rcases hk with hk|hk
 ·rw[hk] at c0 ⊢
  clear hk;go_enter Tryz.func15,Tryz.ntmps15
  go_wp2_with fail
  go_quiet (fail)
  go_wp2_with fail
  obtain⟨W,hW⟩ :∃W,W=((w.alloc (.cells #[.slice (some ⟨bk,o,none⟩) T.length nc] 56)).alloc (.cells #[.int .i64 26,.int .i64 t.hd.line,.int .i64 t.hd.op,.int .i64 t.hd.num,.string t.hd.s,.slice SA t.hd.names.length sc,.slice (some ⟨sb,so,none⟩) (l.length+1) uc] 54)).drewN nq:=⟨_,rfl⟩;rw[←hW];have z0:=cell_regrown (show W.cell? ⟨w.heap.size,0,none⟩=some (.slice (some ⟨bk,o,none⟩) T.length nc) by rw[hW];simp[go_sem])
  have HB:=aa (show Below w.heap.size w W by rw[hW];exact below_drewN (Below.two _ _) _)
  clear hW;refine wp_region_quiet_below (by kernel_rfl) (by kernel_rfl) ?_
  repeat (go_big_quiet_step (first
   | (go_at_call 29;exact Calls.regrown_of (HC.out _ (HB.out.trans ((below_regrown _ _ _).mono HB.out.size))))
   | (go_at_call 15;exact Calls.regrown_of (HD.out _ (HB.out.trans ((below_regrown _ _ _).mono HB.out.size))))))
  refine wpQuiet_nil ?_;intro w4 hw';obtain⟨⟨dq,osq⟩,hw''⟩:=hw';have bb:=aa (HB.out.trans ((below_regrown W dq osq).mono HB.out.size));rw[←hw''] at bb;clear hw'' z0;go_wp2_with fail
  all_goals
   go_ret
   refine⟨az (fun z:Int=>Ending.returned (Value.int .i64 z)) ?_,bb.out⟩
   omega
 ·rw[hk] at c0 ⊢
  clear hk;go_enter Tryz.func15,Tryz.ntmps15
  go_wp2_with fail
  go_quiet (fail)
  go_wp2_with fail
  obtain⟨W,hW⟩ :∃W,W=((w.alloc (.cells #[.slice (some ⟨bk,o,none⟩) T.length nc] 56)).alloc (.cells #[.int .i64 27,.int .i64 t.hd.line,.int .i64 t.hd.op,.int .i64 t.hd.num,.string t.hd.s,.slice SA t.hd.names.length sc,.slice (some ⟨sb,so,none⟩) (l.length+1) uc] 54)).drewN nq:=⟨_,rfl⟩;rw[←hW];have z0:=cell_regrown (show W.cell? ⟨w.heap.size,0,none⟩=some (.slice (some ⟨bk,o,none⟩) T.length nc) by rw[hW];simp[go_sem])
  have HB:=aa (show Below w.heap.size w W by rw[hW];exact below_drewN (Below.two _ _) _)
  clear hW;refine wp_region_quiet_below (by kernel_rfl) (by kernel_rfl) ?_
  repeat (go_big_quiet_step (first
   | (go_at_call 29;exact Calls.regrown_of (HC.out _ (HB.out.trans ((below_regrown _ _ _).mono HB.out.size))))
   | (go_at_call 15;exact Calls.regrown_of (HD.out _ (HB.out.trans ((below_regrown _ _ _).mono HB.out.size))))))
  refine wpQuiet_nil ?_;intro w4 hw';obtain⟨⟨dq,osq⟩,hw''⟩:=hw';have bb:=aa (HB.out.trans ((below_regrown W dq osq).mono HB.out.size));rw[←hw''] at bb;clear hw'' z0;go_wp2_with fail
  all_goals
   go_ret
   refine⟨az (fun z:Int=>Ending.returned (Value.int .i64 z)) ?_,bb.out⟩
   omega
end
end Go.Proofs.YtodmcdfeldkocaaGreatDoor
namespace Go.Proofs.YtodmcdfeldkocaaGreatDoor
open Go.RowKit
section
variable {T:List Nd} {nv:Value} {t:Lt} {bk o nc:Nat} {SA UA:Option Addr} {sc uc:Nat} {w:World}
theorem NN (hT:eO w nv T) (hI:SO T nv t bk o nc SA UA sc uc w) (hk:t.hd.kind=10) (hne:t.sub≠[]) :
  Calls Tryz.prog 15 #[.agg #[nv],.int .i64 (t.loc:Int)] w fun e w'=>e=.returned (.int .i64 (aH t:Int))∧Below w.heap.size w w':=by
 obtain⟨b,l,hs⟩ :∃b l,t.sub=b::l:=by
  cases h:t.sub with
  | nil=>exact absurd h hne
  | cons b l=>exact⟨b,l,rfl⟩
 have kg:aH t=max 2 (max (aH b) (dY 2 (l.map aH))):=by rw[ND hk,hs];rfl
 rw[kg];have hI':=hI;obtain⟨rfl,hlt,jl,dH,c0,c1,c2,c3,c4,c5,c6,dd,hlen,rq,hle⟩:=hI';rw[hs] at dd hlen rq hle c6;have vq:=dd;obtain⟨A,c',e,hc,hx⟩:=vq;injection e with e1 e3 e2;subst e1 e2;rcases hx with h0 | ⟨sb,so,rfl,yR,hx⟩
 ·simp at h0
 have YA:w.cell? ⟨sb,so,none⟩=some (.int .i64 (b.loc:Int)):=hx 0 _ (by simp)
 have Ws:cE w (.slice (some ⟨sb,so+1,none⟩) l.length (uc-1)) (l.map fun k=>(k.loc:Int)):=FW (zs:=(b::l).map fun k=>(k.loc:Int)) (by simpa using dd) yR 1 l.length (by simp;omega)
 simp only[List.length_cons,bS] at dd hlen c6 hc;obtain⟨P,hP,kW⟩ :∃P,((uc=1)=True∧P=so∨(uc=1)=False∧P=so+1)∧cE w (.slice (some ⟨sb,P,none⟩) l.length (uc-1)) (l.map fun k=>(k.loc:Int)):=by
  by_cases hu:uc=1
  ·have hl0:l=[]:=kK (by omega)
   subst hl0;exact⟨so,.inl ⟨eq_true hu,rfl⟩,_,_,rfl,bg _,.inl rfl⟩
  ·exact⟨so+1,.inr ⟨eK hu,rfl⟩,Ws⟩
 have HT:=aa hT;have hi:((t.loc:Int)<0)=False:=eK (by omega)
 have rl:(T.length≤t.loc)=False:=eK (by omega)
 have HC:=aa (fun W (hW:Below w.heap.size w W)=>og (T:=T) (nv:=.slice (some ⟨bk,o,none⟩) T.length nc) l (.slice (some ⟨sb,P,none⟩) l.length (uc-1)) 2 W (HT.out.below hW) (kW.below hW) (fun k hk=>rq k (bQ _ hk)) (fun k hk=>hle k (bQ _ hk)) (by omega) (by omega))
 have HD:=aa (fun W (hW:Below w.heap.size w W)=>rq b (bH ..) W (HT.out.below hW))
 have hbl:=hle b (bH ..);obtain⟨q,hq⟩ :∃q,dY 2 (l.map aH)=q:=⟨_,rfl⟩;obtain⟨r,hr⟩ :∃r,aH b=r:=⟨_,rfl⟩;rw[hq] at HC ⊢;rw[hr] at HD hbl ⊢;have Ri:=hlen.2;rw[hk] at c0;clear e3 hT hI hq hr kg hs hx dd Ws kW rq hle hlen hne hk;rcases hP with ⟨hu,hP⟩ | ⟨hu,hP⟩;all_goals
  rw[hP] at HC;clear hP;go_enter Tryz.func15,Tryz.ntmps15
  go_wp2_with fail
  obtain⟨W,hW⟩ :∃W,W=((w.alloc (.cells #[.slice (some ⟨bk,o,none⟩) T.length nc] 56)).alloc (.cells #[.int .i64 10,.int .i64 t.hd.line,.int .i64 t.hd.op,.int .i64 t.hd.num,.string t.hd.s,.slice SA t.hd.names.length sc,.slice (some ⟨sb,so,none⟩) (l.length+1) uc] 54)):=⟨_,rfl⟩;rw[←hW];have z0:=cell_regrown (show W.cell? ⟨w.heap.size,0,none⟩=some (.slice (some ⟨bk,o,none⟩) T.length nc) by rw[hW];simp[go_sem])
  have z1:=cell_regrown (show W.cell? ⟨w.heap.size+1,6,none⟩=some (.slice (some ⟨sb,so,none⟩) (l.length+1) uc) by rw[hW];simp[go_sem])
  have HB:=aa (show Below w.heap.size w W by rw[hW];exact Below.two _ _)
  have z2:=cell_regrown ((HB.out.cell (p:=⟨sb,so,none⟩) yR).trans YA);clear hW;refine wp_region_quiet_below (by kernel_rfl) (by kernel_rfl) ?_
  repeat (go_big_quiet_step (first
   | (go_at_call 29;exact Calls.regrown_of (HC.out _ (HB.out.trans ((below_regrown _ _ _).mono HB.out.size))))
   | (go_at_call 15;exact Calls.regrown_of (HD.out _ (HB.out.trans ((below_regrown _ _ _).mono HB.out.size))))))
  refine wpQuiet_nil ?_;intro w4 hw';obtain⟨⟨dq,osq⟩,hw''⟩:=hw';have bb:=aa (HB.out.trans ((below_regrown W dq osq).mono HB.out.size));rw[←hw''] at bb;clear hw'' z0 z1 z2;go_wp2_with fail
  all_goals
   go_ret
   refine⟨az (fun z:Int=>Ending.returned (Value.int .i64 z)) ?_,bb.out⟩
   omega
end
end Go.Proofs.YtodmcdfeldkocaaGreatDoor
namespace Go.Proofs.YtodmcdfeldkocaaGreatDoor
open Go.RowKit
section
variable {T:List Nd} {nv:Value} {t:Lt} {bk o nc:Nat} {SA UA:Option Addr} {sc uc:Nat} {w:World}
theorem NO (hT:eO w nv T) (hI:SO T nv t bk o nc SA UA sc uc w) (hk:t.hd.kind=20) (n m:Nat) (hn:t.hd.num=(n:Int)) (hm:n+m=t.sub.length) (h1:1≤n) (h2:1≤m) (SM :∀k∈t.sub.take n,aaN nv T k) :
  Calls Tryz.prog 15 #[.agg #[nv],.int .i64 (t.loc:Int)] w fun e w'=>e=.returned (.int .i64 (aH t:Int))∧Below w.heap.size w w':=by
 rw[NC hk,hn,gS];have hI':=hI;obtain⟨rfl,hlt,jl,dH,c0,c1,c2,c3,c4,c5,c6,dd,hlen,rq,hle⟩:=hI';have vq:=dd;obtain⟨A,c',e,hc,hx⟩:=vq;injection e with e1 e3 e2;subst e1 e2;rcases hx with h0 | ⟨sb,so,rfl,yR,hx⟩
 ·rw[kM] at h0
  rw[h0] at hm;simp at hm;omega
 have hk2:cE w (.slice (some ⟨sb,so,none⟩) (t.sub.map fun k=>(k.loc:Int)).length uc) (t.sub.map fun k=>(k.loc:Int)):=by rw[bS];exact dd
 have kW:cE w (.slice (some ⟨sb,so,none⟩) n uc) ((t.sub.take n).map fun k=>(k.loc:Int)):=by
  have:=FV hk2 yR n (by rw[bS];omega)
  rw[←Af] at this;exact this
 have aaO:cE w (.slice (some ⟨sb,so+n,none⟩) m (uc-n)) ((t.sub.drop n).map fun k=>(k.loc:Int)):=by
  have:=FW hk2 yR n m (by rw[bS];omega)
  rw[←xc] at this;exact this
 rw[bS] at hc;have HT:=aa hT;have hi:((t.loc:Int)<0)=False:=eK (by omega)
 have rl:(T.length≤t.loc)=False:=eK (by omega)
 have HC:=aa (fun W (hW:Below w.heap.size w W)=>DO (T:=T) (nv:=.slice (some ⟨bk,o,none⟩) T.length nc) (t.sub.take n) (t.sub.drop n) (.slice (some ⟨sb,so,none⟩) n uc) (.slice (some ⟨sb,so+n,none⟩) m (uc-n)) W (HT.out.below hW) (kW.below hW) (aaO.below hW) SM (fun k hk=>rq k (List.mem_of_mem_drop hk)) (fun k hk=>hle k (List.mem_of_mem_drop hk)) (by rw[jd];omega) (by rw[je];omega))
 obtain⟨q,hq⟩ :∃q,mB ((t.sub.drop n).map aH) 0 ((t.sub.take n).map fun k=>(k.hd.kind,aH k))=q:=⟨_,rfl⟩
 rw[hq] at HC ⊢;have Ri:=hlen.2;rw[hk] at c0;rw[hn] at c3;rw[←hm] at c6 hc;have hu:(uc=n)=False:=eK (by omega)
 clear e3 hT hI hq hx dd hk2 kW aaO rq hle hlen hk SM hn hm;go_enter Tryz.func15,Tryz.ntmps15
 go_wp2_with fail
 obtain⟨W,hW⟩ :∃W,W=((w.alloc (.cells #[.slice (some ⟨bk,o,none⟩) T.length nc] 56)).alloc (.cells #[.int .i64 20,.int .i64 t.hd.line,.int .i64 t.hd.op,.int .i64 (n:Int),.string t.hd.s,.slice SA t.hd.names.length sc,.slice (some ⟨sb,so,none⟩) (n+m) uc] 54)):=⟨_,rfl⟩;rw[←hW];have z0:=cell_regrown (show W.cell? ⟨w.heap.size,0,none⟩=some (.slice (some ⟨bk,o,none⟩) T.length nc) by rw[hW];simp[go_sem])
 have z1:=cell_regrown (show W.cell? ⟨w.heap.size+1,6,none⟩=some (.slice (some ⟨sb,so,none⟩) (n+m) uc) by rw[hW];simp[go_sem])
 have z2:=cell_regrown (show W.cell? ⟨w.heap.size+1,3,none⟩=some (.int .i64 (n:Int)) by rw[hW];simp[go_sem])
 have HB:=aa (show Below w.heap.size w W by rw[hW];exact Below.two _ _)
 clear hW;refine wp_region_quiet_below (by kernel_rfl) (by kernel_rfl) ?_
 repeat (go_big_quiet_step (first
  | (go_at_call 28;exact Calls.regrown_of (HC.out _ (HB.out.trans ((below_regrown _ _ _).mono HB.out.size))))))
 refine wpQuiet_nil ?_;intro w4 hw';obtain⟨⟨dq,osq⟩,hw''⟩:=hw';have bb:=aa (HB.out.trans ((below_regrown W dq osq).mono HB.out.size));rw[←hw''] at bb;clear hw'' z0 z1 z2;go_wp2_with fail
 go_ret
 exact⟨rfl,bb.out⟩
end
end Go.Proofs.YtodmcdfeldkocaaGreatDoor
namespace Go.Proofs.YtodmcdfeldkocaaGreatDoor
open Go.RowKit
theorem kk_ne {ks:List Lt} {l:List Int} {a:Int} (h:jE ks=l++[a]):ks≠[]:=by
 rintro rfl;simp[jE] at h
theorem NP {T:List Nd} {nv:Value} (hF :∀x∈T,x.kind=20→1≤x.num) (hl:T.length≤1000000) :∀(n:Nat) (t:Lt),t.size≤n→t.size≤16384→gW T t→Bw nv T t:=by
 intro n;induction n with
 | zero=>intro t h;cases t;rw[Lt.size] at h;omega
 | succ n ih =>
  intro t ht hs hn w hT;have IH :∀s:Lt,s.size<t.size→gW T s→Bw nv T s:=fun s h1 h2=>ih s (by omega) (by omega) h2
  obtain⟨bk,o,nc,SA,UA,sc,uc,hI⟩:=SP hT hn hl hs IH;obtain⟨p9,_,FX⟩:=hn.sub;have hk:=hn.kind;have hx:t.hd∈T:=aV (kC hn.yT).2.1;by_cases c1:t.hd.kind=30∨t.hd.kind=31∨t.hd.kind=32
  ·exact IY hT hI c1
  by_cases c2:t.hd.kind=20
  ·obtain⟨l,r,e,hl7,hlen,hr1,_⟩:=FX.assign c2
   have h1:=hF _ hx c2;have eW:=hlen h1;have Fh:l.length+r.length=t.sub.length:=by
    have:=az List.length e;rw[cb] at this;rw[←this];unfold jE;rw[bS]
   refine NO hT hI c2 l.length r.length eW.symm Fh (by omega) hr1 fun k hk=>?_
   have oA:=KM hk;have zM:=p9.at_ k oA;obtain⟨_,a2,a3⟩:=kC zM.yT;have hsz:=jI oA;obtain⟨acO,_,aaP⟩:=zM.sub;refine⟨a2,a3,fun h8=>⟨?_,?_⟩,fun x hx=>IH x (by have:=jI hx;omega) (acO.at_ x hx),fun x hx=>?_,?_⟩
   ·obtain⟨a,b,e,_⟩:=aaP.two (.inl h8)
    intro h0;rw[h0] at e;simp[jE] at e
   ·have:=FU k;omega
   ·have:=qf x;have:=jI hx;omega
   ·have:=qf k;omega
  by_cases c3:t.hd.kind=10
  ·refine NN hT hI c3 ?_
   have h1:=(FX.call (.inr c3)).1;intro h0;rw[h0] at h1;simp[jE] at h1
  by_cases c4:t.hd.kind=26
  ·obtain⟨l,e,_⟩:=FX.for_ c4
   exact BB hT hI (.inl c4) (kk_ne e)
  by_cases c5:t.hd.kind=27
  ·obtain⟨l,e,_⟩:=FX.each c5
   exact BB hT hI (.inr c5) (kk_ne e)
  by_cases c6:t.hd.kind=12
  ·exact NM hT hI c6
  by_cases c7:t.hd.kind=16∨t.hd.kind=17
  ·exact BA 1 hT hI (.inr ⟨c7,rfl⟩)
  by_cases c8:t.hd.kind=8∨t.hd.kind=9∨t.hd.kind=19∨t.hd.kind=29
  ·exact BA 0 hT hI (.inl ⟨c8,rfl⟩)
  by_cases c9:t.hd.kind=15
  ·exact xP 1 hT hI (.inr ⟨c9,rfl⟩)
  by_cases c10:t.hd.kind=13∨t.hd.kind=14∨t.hd.kind=18∨t.hd.kind=21∨t.hd.kind=22∨t.hd.kind=23∨t.hd.kind=24∨t.hd.kind=25
  ·exact xP 0 hT hI (.inl ⟨c10,rfl⟩)
  ·exact NL hT hI (by omega)
theorem cP {W w':World} (h:Below W.heap.size W w'):(∀b i:Nat,b<W.heap.size→w'.cell? ⟨b,i,none⟩=W.cell? ⟨b,i,none⟩)∧∀b i:Nat,b<W.heap.size→w'.frozen? ⟨b,i,none⟩=W.frozen? ⟨b,i,none⟩:=⟨fun b i hb=>h.cell (p:=⟨b,i,none⟩) hb,fun b i hb=>h.frozen (p:=⟨b,i,none⟩) hb⟩
theorem aq.rename {B b:Nat} {nv:Value} {N ub ob:Nat} {lv:Value} {L:List cO} {st s1 s2:aI} {r:Rs aI} {w w2:World} {e:Ending} (h:aq B b nv N ub ob lv L st (r.map fun s=>s.back s1) w e w2) (hn:s2.names=s1.names):aq B b nv N ub ob lv L st (r.map fun s=>s.back s2) w e w2:=by
 refine h.same rfl ?_;cases r with
 | error y=>rfl
 | ok s=>exact⟨rfl,rfl,rfl,hn⟩
theorem FY {ib f:Nat} {hb:Nd} {kb:List Lt} {t:Lt} {s:aI}:kA [.mk ib hb kb,t] f s=wF ib f true kb [t] s:=by
 rw[yF];unfold wF;congr 1
 funext s1
 congr 1
 funext s2
 rw[rU]
theorem YB {ks:List Lt} {a:Int} (h:jE ks=[18,a]) :∃ib hb kb t,ks=[.mk ib hb kb,t]∧hb.kind=18∧t.hd.kind=a:=by
 unfold jE at h;match ks,h with
 | [.mk ib hb kb,t],h =>
  injection h with h1 h2;injection h2 with h2 _;exact⟨ib,hb,kb,t,rfl,h1,h2⟩
 | [],h=>exact absurd (az List.length h) (by simp)
 | [.mk _ _ _],h=>exact absurd (az List.length h) (by simp)
 | .mk _ _ _::_::_::_,h=>exact absurd (az List.length h) (by simp)
theorem NR {T:List Nd} {B b:Nat} {nv:Value} {ub ob:Nat} (gj :∀x∈T,x.s.size≤65536∧∀s∈x.names,s.size≤65536) (i:Nat) (h:Nd) (ks:List Lt) (hn:gW T (.mk i h ks)) (gX :∀u:Lt,u.size<Lt.al ks+1→gW T u→bA T B b nv ub ob u) (hk:h.kind=24):bA T B b nv ub ob (.mk i h ks):=by
 intro f loop pa la lc ms L st w hr bT cr;show Calls Tryz.prog 18 #[.pointer (some ⟨b,0,none⟩),.int .i64 (i:Int),.agg #[.int .i64 (f:Int),.int .i64 loop,.pointer pa,.slice la L.length lc]] w (aq B b nv T.length ub ob (.slice la L.length lc) L st (bh (.mk i h ks) f st) w)
 have p9:=hn.sub;have mD:=hn.yT;unfold Lt.In at mD;obtain⟨hx,dd,_⟩:=mD;replace hr:eU T B b nv ub ob f pa (.slice la L.length lc) ms L st w (h.names.length+Lt.fu ks) (Lt.al ks+1):=by have h1:=hr;rw[Lt.wt,Lt.size] at h1;exact h1
 replace bT:18≤h.kind→loop=cK f st.frames:=bT;replace cr:L≠[]∨h.kind=18:=cr;obtain⟨lf,lg,lh⟩:=p9;replace lf:fE T ks:=lf;replace lg:h.kind≠18→∀k∈ks,Still k:=lg;replace lh:qh h.kind h.num (jE ks):=lh;have FK:=gj h (aV hx);obtain⟨bk,o,c,rfl,dH,ca,dJ⟩:=hr.fA.nodes;obtain⟨u7,u9,eL,⟨NA,nc,wg,_⟩,⟨KA,kc,rz,uC,IC⟩⟩:=dJ i h hx;have rS:h.kids.length≤20000:=(hr.fA.small h (aV hx)).1;have oW:h.kids.length=ks.length:=by rw[dd,bS]
 subst wg rz;obtain⟨x0,x1,x2,x3,x4,x5,x6⟩:=eL;have wC:i<T.length:=(aJ.1 hx).1;have pU:=hr.fA.few;obtain⟨fv,FL,hw⟩:=id hr.rs;obtain⟨hbl,po,tm⟩:=hw.mN;have d0:w.cell? ⟨b,0,none⟩=some (.slice (some ⟨bk,o,none⟩) T.length c):=ab hw.blk 0;have d3:w.cell? ⟨b,3,none⟩=some (.slice (some ⟨ob,0,none⟩) T.length T.length):=ab hw.blk 3;obtain⟨u0,v0⟩:=bZ hw.wy (j:=i) (by omega)
 have gP:bk<w.heap.size:=by omega
 have qo:=aa gj;have HR:=aa hr;have HN:=aa hn;have tQ:=aa gX;have iN:=aa bT;have kG:=aa cr;have fj:=aa lf;have tL:=aa lg;have o0:=aa lh;have fK:=aa dd;have qG:=aa oW;have HX:=aa hx;have yY:=aa FK;have Dz:=aa IC;clear hr hn gX bT cr lf lg lh dd oW hx FK dJ hw gj IC;have q6:(h.kind == 6)=false:=by rw[hk];rfl
 have q7:(h.kind == 7)=false:=by rw[hk];rfl
 have yZ:(h.kind == 11)=false:=by rw[hk];rfl
 have zO:(h.kind == 18)=false:=by rw[hk];rfl
 have Wg:(h.kind == 23)=false:=by rw[hk];rfl
 have Yt:(h.kind == 26)=false:=by rw[hk];rfl
 have q27:(h.kind == 27)=false:=by rw[hk];rfl
 have q24:(h.kind == 24)=true:=by rw[hk];rfl
 have bO:=aa hk;clear hk;go_enter Tryz.func18,Tryz.ntmps18
 go_wp2_with fail
 go_region
 obtain⟨W1,hW1,HZ,fy,pE,Br,K,y0,tz,oF,tA,k0,k1,k2,k3⟩:=dZ loop i HR.out dH;rw[←hW1];have x0:=K _ _ x0;have x1:=K _ _ x1;have x2:=K _ _ x2;have x3:=K _ _ x3;have x4:=K _ _ x4;have x5:=K _ _ x5;have x6:=K _ _ x6;clear hW1 K d0 d3 u0 v0;have d0:=y0;clear y0;obtain⟨ea,hl0,hea⟩:=o0.out.Fj bO.out;obtain⟨ib,hb,kb,t,rfl,aaQ,aaR⟩:=YB hl0;have dd:h.kids=[(ib:Int),(t.loc:Int)]:=fK.out;obtain⟨sb,so,hKA,yR,YC⟩ :∃sb so,KA=some ⟨sb,so,none⟩∧sb<B∧∀(j:Nat) x,h.kids[j]? = some x→w.cell? ⟨sb,so+j,none⟩=some (.int .i64 x):=by
  rcases Dz.out with h0 | ⟨sb,so,h1,h2,h3⟩
  ·rw[dd] at h0;cases h0
  ·exact⟨sb,so,h1,h2,h3⟩
 subst hKA;have y0:=(fy.out.below.cell (p:=⟨sb,so,none⟩) yR).trans (YC 0 (ib:Int) (by rw[dd];rfl))
 have y1:=(fy.out.below.cell (p:=⟨sb,so+1,none⟩) yR).trans (YC 1 (t.loc:Int) (by rw[dd];rfl))
 have aaS:h.kids.length=2:=by rw[dd];rfl
 have acP:=aa aaS;have hkg0:0<h.kids.length:=by omega
 have hkg1:1<h.kids.length:=by omega
 have aaT:sb<W1.heap.size:=by omega
 have HHK:=aa dd;have HEA:=aa hea;have acQ:=aa aaR;have HB18:=aa aaQ;clear YC dd aaS hea aaR aaQ hl0;go_wp2_with fail
 obtain⟨W2,hW2⟩ :∃W2,W2=W1.alloc (.cells #[.int .i64 h.kind,.int .i64 h.line,.int .i64 h.op,.int .i64 h.num,.string h.s,.slice NA h.names.length nc,.slice (some ⟨sb,so,none⟩) h.kids.length kc] 54):=⟨_,rfl⟩;have df:Below W1.heap.size W1 W2:=by rw[hW2];exact(Below.refl _ _).alloc (ag _) _
 rw[←hW2];have hz2:=heap_alloc_new W1 (.cells #[.int .i64 h.kind,.int .i64 h.line,.int .i64 h.op,.int .i64 h.num,.string h.s,.slice NA h.names.length nc,.slice (some ⟨sb,so,none⟩) h.kids.length kc] 54);rw[←hW2] at hz2;have n6:=ab hz2 6;rw[acP.out] at n6;replace n6:W2.cell? ⟨W1.heap.size,6,none⟩=some (.slice (some ⟨sb,so,none⟩) 2 kc):=n6;have p0:=(df.cell (p:=⟨w.heap.size,0,none⟩) oF).trans k0;have p1:=(df.cell (p:=⟨w.heap.size,1,none⟩) oF).trans k1;have p2:=(df.cell (p:=⟨w.heap.size,2,none⟩) oF).trans k2;have p3:=(df.cell (p:=⟨w.heap.size,3,none⟩) oF).trans k3;have y0:=(df.cell (p:=⟨sb,so,none⟩) aaT).trans y0;have y1:=(df.cell (p:=⟨sb,so+1,none⟩) aaT).trans y1;have hl2:W1.heap.size<W2.heap.size:=by rw[hW2,ao];omega
 have aaU:=aa df;have BC:sb<W2.heap.size:=by omega
 have oG:w.heap.size<W2.heap.size:=by omega
 clear hW2 hz2 df x0 x1 x2 x3 x4 x5 x6 d0 k0 k1 k2 k3;have YD:Hid (∀W,Calls Tryz.prog 37 #[.agg #[.int .i64 (f:Int),.int .i64 loop,.pointer pa,.slice la L.length lc],.int .i64 (i:Int)] W fun e w'=>e=.returned (.agg #[.int .i64 (f:Int),.int .i64 (i:Int),.pointer pa,.slice la L.length lc])∧Below W.heap.size W w'):=aa fun W=>lQ f loop (i:Int) pa la L.length lc W
 have aaV:Hid (∀W g,Below W2.heap.size W2 W→W.heap[g]? = some (.cells #[.int .i64 (t.loc:Int)] 3 (0,0))→W2.heap.size≤g→Calls Tryz.prog 36 #[.pointer (some ⟨b,0,none⟩),.int .i64 (ib:Int),.agg #[.int .i64 (f:Int),.int .i64 (i:Int),.pointer pa,.slice la L.length lc],.slice (some ⟨g,0,none⟩) 1 1] W (aq B b (.slice (some ⟨bk,o,none⟩) T.length c) T.length ub ob (.slice la L.length lc) L st ((wF ib f true kb [t] (du i f (st.setOf i f))).map fun s=>s.back (du i f (st.setOf i f))) w)):=aa fun W g hW hg hge=>by
  have hW1:=aaU.out.trans (hW.mono aaU.out.size);have XJ:=(HZ.out.dt hW1).oe i;have Nh:Lt.mk ib hb kb∈[Lt.mk ib hb kb,t]:=bH ..;have A4:=fj.out.at_ _ Nh;have hnt:=fj.out.cons.2;have mD:=A4.yT;unfold Lt.In at mD;have hsz:Lt.al [Lt.mk ib hb kb,t]=Lt.al kb+1+t.size:=by simp[Lt.al,Lt.size]
  have hwt:Lt.fu [Lt.mk ib hb kb,t]=hb.names.length+Lt.fu kb+t.wt:=by simp[Lt.fu,Lt.wt]
  have hs1:Lt.al [t]=t.size:=by simp[Lt.al]
  have ee:Lt.fu [t]=t.wt:=by simp[Lt.fu]
  have acR:g≠ob:=by
   obtain⟨_,_,hw⟩:=HZ.out.rs;have:=hw.mN;omega
  refine(xH ib f hb kb [t] true (i:Int) pa la lc ms L (du i f (st.setOf i f)) W (.slice (some ⟨g,0,none⟩) 1 1) (XJ.Wh (by rw[hwt,ee];omega) (by rw[hsz,hs1];omega)) mD.1 mD.2.1 A4.sub.1 hnt (fun k hk=>tQ.out k (by have:=eX hk;rw[hsz];omega) (A4.sub.1.at_ k hk)) (fun k hk=>tQ.out k (by have:=eX hk;rw[hs1] at this;rw[hsz];omega) (hnt.at_ k hk)) ⟨_,_,rfl,ag _,.inr ⟨g,0,rfl,fun w' hf j x hj=>?_⟩⟩ rfl (fun k hk kJ=>(uX f i _).symm) (fun k hk kJ=>?_) (fun x hx=>(qo.out x.hd (aV (uN mD.2.2 (List.getElem?_of_mem hx).choose_spec).2)).1) (by simp)).mono fun e w' hp=>aq.after (fy.out.trans (cQ.bJ hW1 HZ.out.world)) rfl hp
  ·have h1:=hf.ints g _ _ hg acR
   cases j with
   | zero =>
    injection hj with hj;rw[←hj];exact ab h1 0
   | succ j=>cases hj
  ·rw[bR] at hk
   have:=HEA.out;rw[←acQ.out,←hk] at this;unfold tM at this;omega
 refine bx.DN (n:=13) (S:=(fun W=>W.cell? ⟨W1.heap.size,6,none⟩=some (.slice (some ⟨sb,so,none⟩) 2 kc)∧W.cell? ⟨w.heap.size,0,none⟩=some (.int .i64 (f:Int))∧W.cell? ⟨w.heap.size,1,none⟩=some (.int .i64 loop)∧W.cell? ⟨w.heap.size,2,none⟩=some (.pointer pa)∧W.cell? ⟨w.heap.size,3,none⟩=some (.slice la L.length lc)∧W.cell? ⟨sb,so,none⟩=some (.int .i64 (ib:Int))∧W.cell? ⟨sb,so+1,none⟩=some (.int .i64 (t.loc:Int)))) (by kernel_rfl) ?_
 have tW:(fun W=>W.cell? ⟨W1.heap.size,6,none⟩=some (.slice (some ⟨sb,so,none⟩) 2 kc)∧W.cell? ⟨w.heap.size,0,none⟩=some (.int .i64 (f:Int))∧W.cell? ⟨w.heap.size,1,none⟩=some (.int .i64 loop)∧W.cell? ⟨w.heap.size,2,none⟩=some (.pointer pa)∧W.cell? ⟨w.heap.size,3,none⟩=some (.slice la L.length lc)∧W.cell? ⟨sb,so,none⟩=some (.int .i64 (ib:Int))∧W.cell? ⟨sb,so+1,none⟩=some (.int .i64 (t.loc:Int))) W2.drew:=⟨n6,p0,p1,p2,p3,y0,y1⟩
 refine bx.db 0 (.pointer (some ⟨b,0,none⟩)) (by kernel_rfl) (by decide) (by kernel_rfl) (by kernel_rfl) (by kernel_rfl) (fun _ _ _ _ h=>h) tW ?_
 simp only[dj,cI,cG,cH];refine⟨by rfl,by rfl,?_,?_⟩
 ·intro w hSw
  (try dsimp only at hSw)
  go_simp
 simp only[Act.put,cD,cf,cg];refine bx.db 1 (.pointer (some ⟨W1.heap.size,6,none⟩)) (by kernel_rfl) (by decide) (by kernel_rfl) (by kernel_rfl) (by kernel_rfl) (fun _ _ _ _ h=>h) tW ?_
 simp only[dj,cI,cG,cH];refine⟨by rfl,by rfl,?_,?_⟩
 ·intro w hSw
  (try dsimp only at hSw)
  go_simp
 simp only[Act.put,cD,cf,cg];refine bx.db 2 (.slice (some ⟨sb,so,none⟩) 2 kc) (by kernel_rfl) (by decide) (by kernel_rfl) (by kernel_rfl) (by kernel_rfl) (fun _ _ _ _ h=>h) tW ?_
 simp only[dj,cI,cG,cH];refine⟨by rfl,by rfl,?_,?_⟩
 ·intro w hSw
  (try dsimp only at hSw)
  go_simp
 simp only[Act.put,cD,cf,cg];refine bx.db 3 (.pointer (some ⟨sb,so,none⟩)) (by kernel_rfl) (by decide) (by kernel_rfl) (by kernel_rfl) (by kernel_rfl) (fun _ _ _ _ h=>h) tW ?_
 simp only[dj,cI,cG,cH];refine⟨by rfl,by rfl,?_,?_⟩
 ·intro w hSw
  (try dsimp only at hSw)
  go_simp
 simp only[Act.put,cD,cf,cg];refine bx.db 4 (.int .i64 (ib:Int)) (by kernel_rfl) (by decide) (by kernel_rfl) (by kernel_rfl) (by kernel_rfl) (fun _ _ _ _ h=>h) tW ?_
 simp only[dj,cI,cG,cH];refine⟨by rfl,by rfl,?_,?_⟩
 ·intro w hSw
  (try dsimp only at hSw)
  go_simp
 simp only[Act.put,cD,cf,cg];refine bx.db 5 (.agg #[.int .i64 (f:Int),.int .i64 loop,.pointer pa,.slice la L.length lc]) (by kernel_rfl) (by decide) (by kernel_rfl) (by kernel_rfl) (by kernel_rfl) (fun _ _ _ _ h=>h) tW ?_
 simp only[dj,cI,cG,cH];refine⟨by rfl,by rfl,?_,?_⟩
 ·intro w hSw
  (try dsimp only at hSw)
  go_simp
 simp only[Act.put,cD,cf,cg];refine bx.db 6 (.int .i64 (i:Int)) (by kernel_rfl) (by decide) (by kernel_rfl) (by kernel_rfl) (by kernel_rfl) (fun _ _ _ _ h=>h) tW ?_
 simp only[dj,cI,cG,cH];refine⟨by rfl,by rfl,?_,?_⟩
 ·intro w hSw
  (try dsimp only at hSw)
  go_simp
 simp only[Act.put,cD,cf,cg];refine bx.db 8 (.pointer (some ⟨W1.heap.size,6,none⟩)) (by kernel_rfl) (by decide) (by kernel_rfl) (by kernel_rfl) (by kernel_rfl) (fun _ _ _ _ h=>h) tW ?_
 simp only[dj,cI,cG,cH];refine⟨by rfl,by rfl,?_,?_⟩
 ·intro w hSw
  (try dsimp only at hSw)
  go_simp
 simp only[Act.put,cD,cf,cg];refine bx.db 9 (.slice (some ⟨sb,so,none⟩) 2 kc) (by kernel_rfl) (by decide) (by kernel_rfl) (by kernel_rfl) (by kernel_rfl) (fun _ _ _ _ h=>h) tW ?_
 simp only[dj,cI,cG,cH];refine⟨by rfl,by rfl,?_,?_⟩
 ·intro w hSw
  (try dsimp only at hSw)
  go_simp
 simp only[Act.put,cD,cf,cg];refine bx.db 10 (.pointer (some ⟨sb,so+1,none⟩)) (by kernel_rfl) (by decide) (by kernel_rfl) (by kernel_rfl) (by kernel_rfl) (fun _ _ _ _ h=>h) tW ?_
 simp only[dj,cI,cG,cH];refine⟨by rfl,by rfl,?_,?_⟩
 ·intro w hSw
  (try dsimp only at hSw)
  go_simp
 simp only[Act.put,cD,cf,cg];refine bx.db 11 (.int .i64 (t.loc:Int)) (by kernel_rfl) (by decide) (by kernel_rfl) (by kernel_rfl) (by kernel_rfl) (fun _ _ _ _ h=>h) tW ?_
 simp only[dj,cI,cG,cH];refine⟨by rfl,by rfl,?_,?_⟩
 ·intro w hSw
  (try dsimp only at hSw)
  go_simp
 simp only[Act.put,cD,cf,cg];refine bx.Yu 7 12 (by kernel_rfl) (fun K hK=>?_) fun K hK=>?_
 ·simp only[dj,cI,cG,cH]
  go_simp
  go_at_call 37
  with_reducible refine(YD.out _).mono ?_
  rintro e w3 ⟨rfl,hb3⟩;go_wp2_with fail
  have wH:Below W2.heap.size W2 w3:=iy hb3;refine hK.out _ _ (fun _=>⟨((cP wH).1 _ 6 hl2).trans n6,((cP wH).1 _ 0 oG).trans p0,((cP wH).1 _ 1 oG).trans p1,((cP wH).1 _ 2 oG).trans p2,((cP wH).1 _ 3 oG).trans p3,((cP wH).1 sb so BC).trans y0,((cP wH).1 sb (so+1) BC).trans y1⟩) ?_
  clear hK K
  (try simp only[Act.put,cD,cf,cg])
  refine bx.fF 12 (by kernel_rfl) fun K hK=>?_
  simp only[dj,cI,cG,cH];go_simp
  have YE:=wH.alloc wH.size (.cells #[.int .i64 (t.loc:Int)] 3);refine hK.out _ _ (fun _=>⟨((cP YE).1 _ 6 hl2).trans n6,((cP YE).1 _ 0 oG).trans p0,((cP YE).1 _ 1 oG).trans p1,((cP YE).1 _ 2 oG).trans p2,((cP YE).1 _ 3 oG).trans p3,((cP YE).1 sb so BC).trans y0,((cP YE).1 sb (so+1) BC).trans y1⟩) ?_
  clear hK K
  (try simp only[Act.put,cD,cf,cg])
  refine bx.fF 13 (by kernel_rfl) fun K hK=>?_
  simp only[dj,cI,cG,cH];go_simp
  go_at_call 36
  with_reducible refine(aaV.out _ w3.heap.size (wH.alloc wH.size _) (heap_alloc_new _ _) wH.size).mono ?_
  intro e w4 hp;obtain⟨v,rfl⟩:=hp.ret;have HV:=aa hp;clear hp;go_wp2_with fail
  refine hK.out _ _ (fun h=>absurd h (by decide)) ?_
  clear hK K
  (try simp only[Act.put,cD,cf,cg])
  refine bx.fF 14 (by kernel_rfl) fun K hK=>?_
  simp only[dj,cI,cG,cH];go_simp
  refine hK.out _ _ (fun h=>absurd h (by decide)) ?_
  clear hK K
  (try simp only[Act.put,cD,cf,cg])
  refine bx.done (by kernel_rfl) ?_ _
  go_wp2_with fail
  go_ret
  have hE:bh (.mk i h [.mk ib hb kb,t]) f st=(wF ib f true kb [t] (du i f (st.setOf i f))).map fun s=>s.back (st.setOf i f):=by
   rw[cV];rw[ae (by have:=bO.out;omega)]
   rw[ae (by have:=bO.out;omega)]
   rw[ae (by have:=bO.out;omega)]
   rw[ae (by have:=bO.out;omega)]
   rw[ae (by have:=bO.out;omega)]
   rw[ae (by have:=bO.out;omega)]
   rw[aj bO.out];rw[FY]
  rw[hE];exact HV.out.rename rfl
 ·simp only[dj,cI,cG,cH]
  go_simp
  have pn:Below W2.heap.size W2 (W2.drew.alloc (.cells #[.int .i64 (t.loc:Int)] 3)):=((Below.refl _ W2).drew).alloc (ag _) _;refine hK.out _ _ (fun _=>⟨((cP pn).1 _ 6 hl2).trans n6,((cP pn).1 _ 0 oG).trans p0,((cP pn).1 _ 1 oG).trans p1,((cP pn).1 _ 2 oG).trans p2,((cP pn).1 _ 3 oG).trans p3,((cP pn).1 sb so BC).trans y0,((cP pn).1 sb (so+1) BC).trans y1⟩) ?_
  clear hK K
  (try simp only[Act.put,cD,cf,cg])
  refine bx.fF 7 (by kernel_rfl) fun K hK=>?_
  simp only[dj,cI,cG,cH];go_simp
  go_at_call 37
  with_reducible refine(YD.out _).mono ?_
  rintro e w3 ⟨rfl,hb3⟩;go_wp2_with fail
  have hrow:=((iy hb3).block W2.heap.size (by rw[ao];omega)).trans (heap_alloc_new W2 (.cells #[.int .i64 (t.loc:Int)] 3))
  have wH:Below W2.heap.size W2 w3:=((Below.refl _ _).alloc (ag _) _).trans ((iy hb3).mono (by rw[ao];omega))
  refine hK.out _ _ (fun _=>⟨((cP wH).1 _ 6 hl2).trans n6,((cP wH).1 _ 0 oG).trans p0,((cP wH).1 _ 1 oG).trans p1,((cP wH).1 _ 2 oG).trans p2,((cP wH).1 _ 3 oG).trans p3,((cP wH).1 sb so BC).trans y0,((cP wH).1 sb (so+1) BC).trans y1⟩) ?_
  clear hK K
  (try simp only[Act.put,cD,cf,cg])
  refine bx.fF 13 (by kernel_rfl) fun K hK=>?_
  simp only[dj,cI,cG,cH];go_simp
  go_at_call 36
  with_reducible refine(aaV.out _ W2.heap.size wH hrow (ag _)).mono ?_
  intro e w4 hp;obtain⟨v,rfl⟩:=hp.ret;have HV:=aa hp;clear hp;go_wp2_with fail
  refine hK.out _ _ (fun h=>absurd h (by decide)) ?_
  clear hK K
  (try simp only[Act.put,cD,cf,cg])
  refine bx.fF 14 (by kernel_rfl) fun K hK=>?_
  simp only[dj,cI,cG,cH];go_simp
  refine hK.out _ _ (fun h=>absurd h (by decide)) ?_
  clear hK K
  (try simp only[Act.put,cD,cf,cg])
  refine bx.done (by kernel_rfl) ?_ _
  go_wp2_with fail
  go_ret
  have hE:bh (.mk i h [.mk ib hb kb,t]) f st=(wF ib f true kb [t] (du i f (st.setOf i f))).map fun s=>s.back (st.setOf i f):=by
   rw[cV];rw[ae (by have:=bO.out;omega)]
   rw[ae (by have:=bO.out;omega)]
   rw[ae (by have:=bO.out;omega)]
   rw[ae (by have:=bO.out;omega)]
   rw[ae (by have:=bO.out;omega)]
   rw[ae (by have:=bO.out;omega)]
   rw[aj bO.out];rw[FY]
  rw[hE];exact HV.out.rename rfl
end Go.Proofs.YtodmcdfeldkocaaGreatDoor
