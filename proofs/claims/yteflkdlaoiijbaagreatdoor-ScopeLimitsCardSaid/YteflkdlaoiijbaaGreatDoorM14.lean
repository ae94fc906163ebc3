/- Parts of the proof. -/
import Derived.StillTail
import Derived.Lib.IfaceEq
import Derived.Test.YteflkdlaoiijbaaGreatDoorM13
set_option maxHeartbeats 16000000
set_option maxRecDepth 20000
namespace Go.Proofs.YteflkdlaoiijbaaGreatDoor
open Go.RowKit
theorem xe {f:Nat} :∀{fr:List e8},(∀x∈fr,x.fn<f)→dE f fr=[]
 | [],_=>rfl
 | x::fr,h=>by
  rw[rr (.inr (jt (h x (bV ..))))];exact xe fun y hy=>h y (bY _ hy)
theorem I5 {f:Nat} {fr:List e8} (h :∀x∈fr,x.fn<f):bM f fr = -1:=by
 unfold bM;have:fr.find? (fun x=>x.loop && decide (x.fn=f))=none:=by
  rw[DP];intro x hx;have:=h x hx;simp;intro _;omega
 rw[this]
theorem OZ {T:List Nd} {B b:Nat} {nv:Value} {ub ob:Nat} (gI :∀x∈T,x.s.size≤65536∧∀s∈x.names,s.size≤65536) (i:Nat) (h:Nd) (ks:List Lt) (hn:lq T (.mk i h ks)) (ix :∀u:Lt,u.size<Lt.ak ks+1→lq T u→bI T B b nv ub ob u) (hk:h.kind=11):bI T B b nv ub ob (.mk i h ks):=by
 intro f loop pa la lc ms L st w hr bc bD;show Calls Tryz.prog 26 #[.pointer (some ⟨b,0,none⟩),.int .i64 (i:Int),.agg #[.int .i64 (f:Int),.int .i64 loop,.pointer pa,.slice la L.length lc]] w (aq B b nv T.length ub ob (.slice la L.length lc) L st (aV (.mk i h ks) f st) w)
 have fE:=hn.sub;have fJ:=hn.vk;unfold Lt.In at fJ;obtain⟨hx,bt,_⟩:=fJ;replace hr:eC T B b nv ub ob f pa (.slice la L.length lc) ms L st w (h.names.length+Lt.ec ks) (Lt.ak ks+1):=by have h1:=hr;rw[Lt.wt,Lt.size] at h1;exact h1
 replace bc:18≤h.kind→loop=bM f st.frames:=bc;replace bD:L≠[]∨h.kind=18:=bD;obtain⟨bg,bh,bj⟩:=fE;replace bg:dT T ks:=bg;replace bh:h.kind≠18→∀k∈ks,Still k:=bh;replace bj:gR h.kind h.num (iU ks):=bj;have mi:=gI h (aM hx);obtain⟨bk,o,c,rfl,bS,cB,cN⟩:=hr.dy.nodes;obtain⟨qD,qE,dS,⟨NA,nc,kA,_⟩,⟨KA,kc,jw,rT,j9⟩⟩:=cN i h hx;have sK:h.kids.length≤20000:=(hr.dy.small h (aM hx)).1;have fR:h.kids.length=ks.length:=by rw[bt,cD]
 subst kA jw;obtain⟨x0,x1,x2,x3,x4,x5,x6⟩:=dS;have yx:i<T.length:=(aK.1 hx).1;have qF:=hr.dy.few;obtain⟨fv,FL,hw⟩:=id hr.rs;obtain⟨hbl,pg,tH⟩:=hw.gK;have d0:w.cell? ⟨b,0,none⟩=some (.slice (some ⟨bk,o,none⟩) T.length c):=ab hw.blk 0;have d3:w.cell? ⟨b,3,none⟩=some (.slice (some ⟨ob,0,none⟩) T.length T.length):=ab hw.blk 3;obtain⟨u0,v0⟩:=bJ hw.pe (j:=i) (by omega)
 have iK:bk<w.heap.size:=by omega
 have HR:=aa hr;have HN:=aa hn;have s6:=aa ix;have iL:=aa bc;have kx:=aa bD;have eM:=aa bg;have rU:=aa bh;have nW:=aa bj;have fH:=aa bt;have sr:=aa fR;have HX:=aa hx;have yE:=aa mi;have Cz:=aa j9;clear hr hn ix bc bD bg bh bj bt fR hx mi cN hw gI j9;have q6:(h.kind == 6)=false:=by rw[hk];rfl
 have q7:(h.kind == 7)=false:=by rw[hk];rfl
 have x9:(h.kind == 11)=true:=by rw[hk];rfl
 have bT:=aa hk;clear hk;go_enter Tryz.func26,Tryz.ntmps26
 go_wp2_with fail
 go_region
 have aT:=HR.out.hJ i (.cells #[.int .i64 (f:Int),.int .i64 loop,.pointer pa,.slice la L.length lc] 92);have dh:=heap_alloc_new (w.setCell ⟨ob,i,none⟩ (.int .i64 (f:Int))) (.cells #[.int .i64 (f:Int),.int .i64 loop,.pointer pa,.slice la L.length lc] 92);obtain⟨W1,hW1⟩ :∃W1,W1=((w.setCell ⟨ob,i,none⟩ (.int .i64 (f:Int))).alloc (.cells #[.int .i64 (f:Int),.int .i64 loop,.pointer pa,.slice la L.length lc] 92)).drew:=⟨_,rfl⟩;rw[←hW1] at aT;have b9:W1.heap[w.heap.size]? = some (.cells #[.int .i64 (f:Int),.int .i64 loop,.pointer pa,.slice la L.length lc] 92 (0,0)):=by
  rw[hW1];have e:(w.setCell ⟨ob,i,none⟩ (.int .i64 (f:Int))).heap.size=w.heap.size:=by simp[World.setCell]
  rw[e] at dh;exact dh
 rw[←hW1];have x0:=(aT.2.1.below.cell (p:=⟨bk,o+i*7,none⟩) bS).trans x0;have x1:=(aT.2.1.below.cell (p:=⟨bk,o+i*7+1,none⟩) bS).trans x1;have x2:=(aT.2.1.below.cell (p:=⟨bk,o+i*7+2,none⟩) bS).trans x2;have x3:=(aT.2.1.below.cell (p:=⟨bk,o+i*7+3,none⟩) bS).trans x3;have x4:=(aT.2.1.below.cell (p:=⟨bk,o+i*7+4,none⟩) bS).trans x4;have x5:=(aT.2.1.below.cell (p:=⟨bk,o+i*7+5,none⟩) bS).trans x5;have x6:=(aT.2.1.below.cell (p:=⟨bk,o+i*7+6,none⟩) bS).trans x6;clear hW1 dh d0 d3 u0 v0;have d0:W1.cell? ⟨b,0,none⟩=some (.slice (some ⟨bk,o,none⟩) T.length c):=by obtain⟨_,_,hw⟩:=aT.1.rs;exact ab hw.blk 0
 have sL:b<W1.heap.size:=by obtain⟨_,_,hw⟩:=aT.1.rs;exact hw.gK.1
 have oa:w.heap.size<W1.heap.size:=(aJ.1 b9).1;have sM:bk<W1.heap.size:=by omega
 have k0:W1.cell? ⟨w.heap.size,0,none⟩=some (.int .i64 (f:Int)):=ab b9 0;have k1:W1.cell? ⟨w.heap.size,1,none⟩=some (.int .i64 loop):=ab b9 1;have k2:W1.cell? ⟨w.heap.size,2,none⟩=some (.pointer pa):=ab b9 2;have k3:W1.cell? ⟨w.heap.size,3,none⟩=some (.slice la L.length lc):=ab b9 3;have HZ:=aa aT.1;have fm:=aa aT.2.1;have pk:=aa aT.2.2;have Ac:=aa b9;clear aT b9;have gn:(h.num == 1)=decide (h.num=1):=rfl;go_wp2_with fail
 obtain⟨W3,hW3⟩ :∃W3,W3=(W1.alloc (.cells #[.int .i64 h.kind,.int .i64 h.line,.int .i64 h.op,.int .i64 h.num,.string h.s,.slice NA h.names.length nc,.slice KA h.kids.length kc] 55)).alloc (.cells #[.int .i64 (i:Int),.int .i64 (f:Int),.int .i64 (h.names.length:Int),.bool (decide (h.num=1)),.slice none 0 0,.slice none 0 0] 52):=⟨_,rfl⟩;have df:Below W1.heap.size W1 W3:=by rw[hW3];exact Below.two _ _
 rw[←hW3];clear hW3;have hr3:=HZ.out.dp df;have hf3:cW B ob (.slice la L.length lc) L.length (eB L) w W3:=fm.out.trans (cW.bP df HZ.out.world);have sN :∀k∈ks,bI T B b (.slice (some ⟨bk,o,none⟩) T.length c) ub ob k:=fun k hk=>s6.out k (by have:=eY hk;omega) (eM.out.at_ k hk)
 refine(wW b ⟨i,(f:Int),h.names.length,decide (h.num=1),[],[]⟩ la L.length lc (st.setOf i f) W3 hr3.rs rfl rfl (by have:=hr3.fns;omega)).mono ?_
 rintro e w5 ⟨rfl,h1,h2,h3⟩;have hfa :∀top,cW B ob (.slice la L.length lc) L.length top W3 w5:=fun top=>cW.uH h3 (by decide) h2
 have h1:jL w5 B b (.slice (some ⟨bk,o,none⟩) T.length c) T.length (ez i f h (st.setOf i f)) ub ob:=h1;have Jt:ks≠[]:=by
  have:=nW.out.body (.inl bT.out);intro e;rw[e] at this;cases this
 have PM:su T B b (.slice (some ⟨bk,o,none⟩) T.length c) ub ob (st.setOf i f).fns.length none (.slice la L.length lc) [] L (ez i f h (st.setOf i f)) w5 (h.names.length+Lt.ec ks) (Lt.ak ks):=by
  have hlen:(ez i f h (st.setOf i f)).fns.length=(st.setOf i f).fns.length+1:=by unfold ez;simp
  refine⟨hr3.dy.below h2,h1,⟨hr3.pos.fu.jh (hfa none) (ah _),?_,hr3.pos.names,fun m hm=>by cases hm⟩,by omega,hr3.few.app ⟨bK _,bK _⟩,fun x hx=>?_,hr3.names,?_,?_⟩
  ·show oD w5 B (dE (st.setOf i f).fns.length (st.setOf i f).frames) [] _
   rw[xe hr3.fr];exact⟨rfl,rfl⟩
  ·have:=hr3.fr x hx
   omega
  ·have:=hr3.fns;omega
  ·have:=hr3.fu;omega
 have rX:=aa (I4 i (st.setOf i f).fns.length h ks (-1) none la lc [] L (ez i f h (st.setOf i f)) w5 PM HX.out fH.out Jt eM.out sN (fun k hk mc=>(I5 (fr:=(st.setOf i f).frames) hr3.fr).symm) yE.out.2 (fun s2 e=>(wI e hr3.cx).1) (by
  unfold gD;rw[af (by have:=bT.out;omega),al bT.out]))
 have lM:=aa (hf3.trans (hfa (eB L)));clear hr3 hf3 sN h1 h2 h3 hfa PM Jt;go_wp2_with fail
 refine rX.out.mono ?_;intro e w6 hp;obtain⟨v,rfl⟩:=hp.ret;have HV:=aa hp;clear hp;go_wp2_with fail
 go_ret
 have hE:aV (.mk i h ks) f st=((bo i (st.setOf i f).fns.length h.line h.names (ez i f h (st.setOf i f))).bind fun s2=>aE ks (st.setOf i f).fns.length s2).map fun s=>s.back (ez i f h (st.setOf i f)):=by
  rw[cb];rw[af (by have:=bT.out;omega)]
  rw[af (by have:=bT.out;omega)]
  rw[al bT.out];cases bo i (st.setOf i f).fns.length h.line h.names (ez i f h (st.setOf i f)) with
  | error y=>rfl
  | ok s1=>rfl
 rw[hE];exact aq.after lM.out rfl HV.out
def U8 (T:List Nd) (B b:Nat) (nv:Value) (ub ob:Nat):Prop:=∀(i:Nat) (h:Nd) (ks:List Lt),lq T (.mk i h ks)→(∀u:Lt,u.size<Lt.ak ks+1→lq T u→bI T B b nv ub ob u)→h.kind=24→bI T B b nv ub ob (.mk i h ks)
theorem xf {T:List Nd} {B b:Nat} {nv:Value} {ub ob:Nat} (gI :∀x∈T,x.s.size≤65536∧∀s∈x.names,s.size≤65536) (Nb:U8 T B b nv ub ob) :∀(n:Nat) (t:Lt),t.size≤n→lq T t→bI T B b nv ub ob t
 | 0,t,hs,_=>by rw[AG] at hs;omega
 | n+1,.mk i h ks,hs,hn=>by
  have ix :∀u:Lt,u.size<Lt.ak ks+1→lq T u→bI T B b nv ub ob u:=fun u hu Ad=>xf gI Nb n u (by rw[Lt.size] at hs;omega) Ad
  have hk:1≤h.kind∧h.kind≤32:=hn.kind;by_cases h6:h.kind=6
  ·exact Tv gI i h ks hn ix h6
  by_cases h7:h.kind=7
  ·exact Tw gI i h ks hn ix h7
  by_cases h11:h.kind=11
  ·exact OZ gI i h ks hn ix h11
  by_cases mc:h.kind=18
  ·exact OV gI i h ks hn ix mc
  by_cases Lf:h.kind=19
  ·exact OT gI i h ks hn ix Lf
  by_cases PD:h.kind=23
  ·exact OW gI i h ks hn ix PD
  by_cases aa3:h.kind=24
  ·exact Nb i h ks hn ix aa3
  by_cases PE:h.kind=26
  ·exact OX gI i h ks hn ix PE
  by_cases h27:h.kind=27
  ·exact OY gI i h ks hn ix h27
  by_cases PF:h.kind=28
  ·exact OU gI i h ks hn ix PF
  by_cases EO:h.kind=30
  ·exact OQ gI i h ks hn ix EO
  by_cases EP:h.kind=31
  ·exact OR gI i h ks hn ix EP
  ·exact Dz gI i h ks hn ix ⟨h6,h7,h11,mc,Lf,PD,aa3,PE,h27,PF,EO,EP⟩
end Go.Proofs.YteflkdlaoiijbaaGreatDoor
namespace Go.Proofs.YteflkdlaoiijbaaGreatDoor
section
variable {P:Program} {ops:Array Oper} {Q:Exit→Act→World→Prop} {md:Region.Mode} {S:World→Prop} {n:Nat}
def ch (P:Program) (md:Region.Mode) (ops:Array Oper) (Q:Exit→Act→World→Prop) (S:World→Prop) (n:Nat):Nat→Array Bool→Act→World→Prop
 | 0,listed,a,w=>Region.ready md ops listed=[]∧Q .normal a w
 | g+1,listed,a,w=>(Region.ready md ops listed=[]→Q .normal a w) ∧
  ∀i∈Region.ready md ops listed,wpOp P ops Q i (fun a' w'=>(i<n→S w')∧ch P md ops Q S n g (listed.setIfInBounds i true) a' w') a w
theorem ch.any :∀(g:Nat) (listed:Array Bool) (a:Act) (w:World),ch P md ops Q S n g listed a w→wpAny P md ops Q g listed a w
 | 0,_,_,_,h=>h
 | g+1,_,_,_,h=>⟨h.1,fun i hi=>wpOp_mono (fun _ _ k=>ch.any g _ _ _ k.2) (h.2 i hi)⟩
def Fm (md:Region.Mode) (ops:Array Oper) (n:Nat):Bool:=Region.noSelect ops && decide (n<ops.size) && Region.sinkB md ops n && Region.chainB md ops n
def Fo (md:Region.Mode) (ops:Array Oper) (n:Nat) (listed:Array Bool):Bool :=
 listed.size == ops.size && (List.range ops.size).all (fun j=>match ops[j]? with
  | some o=>!listed.getD j false || o.after.all fun e=>!Region.binds md e || listed.getD e.on false
  | none=>true) && (List.range ops.size).all fun t=>decide (t<n) || !listed.getD t true
theorem I6 {listed:Array Bool} (h:Fo md ops n listed=true):HeadInv md ops n listed:=by
 unfold Fo at h;simp only[di,vL] at h;obtain⟨⟨h1,h2⟩,h3⟩:=h;refine⟨h1,fun j o hj hl e he hb=>?_,fun t ht UK=>?_⟩
 ·have hjl:=(aJ.1 hj).1
  have h4:=List.all_eq_true.1 h2 j (DV.2 hjl);rw[hj] at h4;simp only[hl,Bool.not_true,Bool.false_or] at h4;have h5:=Array.all_eq_true'.1 h4 e he;rw[hb] at h5;simpa using h5
 ·have h4:=List.all_eq_true.1 h3 t (DV.2 UK)
  rw[cr (by omega)] at h4
  simpa using h4
theorem ch.first {i:Nat} {oi:Oper} {v:Value} (hi:ops[i]? = some oi) (ht:Fm md ops n=true) (fJ:i<n)
  (hQ :∀c a w,Q (.panic c) (a.put oi.dst v) w→Q (.panic c) a w) :
  ∀(g:Nat) (listed:Array Bool) (a:Act) (w:World),HeadInv md ops n listed →
   (∀j oj,ops[j]? = some oj→j≠i→listed.getD j true=false→(∀e∈oj.after,Region.binds md e=true→e.on≠i)→oi.apart ops oj=true) →
   i∈Region.ready md ops listed→YieldsIf P ops S oi v a→S w →
   ch P md ops Q S n g (listed.setIfInBounds i true) (a.put oi.dst v) w→ch P md ops Q S n (g+1) listed a w:=by
 have UK:=ht;unfold Fm at UK;simp only[di,iy] at UK;obtain⟨⟨⟨acR,jz⟩,hsk⟩,hch⟩:=UK;have sel:=Region.noSelect_spec acR;intro g;induction g with
 | zero =>
  intro listed a w inv _ hr hy hS H;refine⟨fun h=>(by rw[h] at hr;cases hr),fun j hj=>?_⟩
  by_cases U9:j=i
  ·subst U9;exact hy.wpOp hi hS ⟨fun _=>hS,H⟩
  ·have h1:=ready_mono hj U9
   rw[H.1] at h1;cases h1
 | succ g ih =>
  intro listed a w inv Va hr hy hS H;have hun:=(mem_ready.1 hr).1;refine⟨fun h=>(by rw[h] at hr;cases hr),fun j hj=>?_⟩
  by_cases U9:j=i
  ·subst U9;exact hy.wpOp hi hS ⟨fun _=>hS,H⟩
  ·have hjn:j<n:=by
    rcases DZ j n with h|h
    ·exact h
    ·exact absurd hj (tail_waits hsk hch jz inv _ i rfl fJ hun j h)
   obtain⟨aa4,oj,hoj,hall⟩:=mem_ready.1 hj;have acS :∀e∈oj.after,Region.binds md e=true→e.on≠i:=fun e he hb heq=>by
    have h1:=hall e he hb;rw[heq,getD_both hun] at h1;cases h1
   refine wpOp_mono (fun a' w' k=>⟨fun _=>k.2.1 hjn,ih _ a' w' (inv.set hj hjn) (fun x ox hx X6 hxu hno=>Va x ox hx X6 ?_ hno) (ready_mono hr (Ne.symm U9)) k.1 (k.2.1 hjn) ?_⟩)
    (wpOp_putIf hoj (Va j oj hoj U9 aa4 acS) (fun cs b=>sel i oi cs b hi) (fun cs b=>sel j oj cs b hoj) hQ hy (H.2 j (ready_mono hj U9)))
   ·by_cases hjx:j=x
    ·subst hjx;exact aa4
    ·rw[getD_set_ne true hjx] at hxu;exact hxu
   ·rw[Array.setIfInBounds_comm _ _ U9]
    exact k.2.2
theorem ch.take {i:Nat} {oi:Oper} {v:Value} {g:Nat} {listed:Array Bool} {a:Act} {w:World} (hi:ops[i]? = some oi) (ht:Fm md ops n=true) (fJ:i<n)
  (hh:Fo md ops n listed=true) (hf:Region.free md ops listed i=true) (hr:(Region.ready md ops listed).contains i=true)
  (hQ :∀c a w,Q (.panic c) (a.put oi.dst v) w→Q (.panic c) a w) (hw:Region.wanted oi (yielded ops a.tmps)=true) (hy :∀w,S w→(execOp a.eval oi).run P w=.ok (.value v) w) (hS:S w)
  (h:ch P md ops Q S n g (listed.setIfInBounds i true) (a.put oi.dst v) w):ch P md ops Q S n (g+1) listed a w :=
 ch.first hi ht fJ hQ g listed a w (I6 hh) (Region.free_spec hi hf) (by simpa using hr) (.inl ⟨hw,hy⟩) hS h
theorem ch.one {i:Nat} {o:Oper} {g:Nat} {listed:Array Bool} {a:Act} {w:World} (hr:Region.ready md ops listed=[i]) (ho:ops[i]? = some o)
  (h :∀K:Act→World→Prop,Shut (∀a w,(i<n→S w)→ch P md ops Q S n g (listed.setIfInBounds i true) a w→K a w)→if Region.wanted o (yielded ops a.tmps)=true then Oper.wp P o a w K Q else K (a.put o.dst undef) w):ch P md ops Q S n (g+1) listed a w:=by
 refine⟨fun h0=>(by rw[hr] at h0;cases h0),fun j hj=>?_⟩
 rw[hr,bR] at hj;subst hj;exact wpOp_step ho fun K hK=>h K fun a w h1 h2=>hK a w ⟨h1,h2⟩
theorem ch.two {i j:Nat} {o o':Oper} {g:Nat} {listed:Array Bool} {a:Act} {w:World} (hr:Region.ready md ops listed=[i,j]) (ho:ops[i]? = some o) (ho':ops[j]? = some o')
  (h :∀K:Act→World→Prop,Shut (∀a w,(i<n→S w)→ch P md ops Q S n g (listed.setIfInBounds i true) a w→K a w)→if Region.wanted o (yielded ops a.tmps)=true then Oper.wp P o a w K Q else K (a.put o.dst undef) w)
  (h' :∀K:Act→World→Prop,Shut (∀a w,(j<n→S w)→ch P md ops Q S n g (listed.setIfInBounds j true) a w→K a w)→if Region.wanted o' (yielded ops a.tmps)=true then Oper.wp P o' a w K Q else K (a.put o'.dst undef) w):ch P md ops Q S n (g+1) listed a w:=by
 refine⟨fun h0=>(by rw[hr] at h0;cases h0),fun x hx=>?_⟩
 rw[hr] at hx;simp only[bq,oh,oo] at hx;rcases hx with rfl|rfl
 ·exact wpOp_step ho fun K hK=>h K fun a w h1 h2=>hK a w ⟨h1,h2⟩
 ·exact wpOp_step ho' fun K hK=>h' K fun a w h1 h2=>hK a w ⟨h1,h2⟩
theorem ch.done {listed:Array Bool} {a:Act} {w:World} (hr:Region.ready md ops listed=[]) (h:Q .normal a w) :∀g,ch P md ops Q S n g listed a w
 | 0=>⟨hr,h⟩
 | _+1=>⟨fun _=>h,by rw[hr];simp⟩
theorem ch.O0 {id:Nat} {a:Act} {w:World} (hm:P.follows .mixedOrders=true) (h:ch P .any ops Q S n ops.size (Array.replicate ops.size false) a w.drew):(Code.region id ops true).wp P Q a w :=
 wp_region_any hm (ch.any _ _ _ _ h)
def ew (ops:Array Oper) (i:Nat) (F:Oper→Prop):Prop:=match ops[i]? with|some o=>F o|none=>False
theorem ew.ex {i:Nat} {F:Oper→Prop} (h:ew ops i F) :∃o,ops[i]? = some o∧F o:=by
 unfold ew at h;split at h
 ·exact⟨_,‹_›,h⟩
 ·cases h
theorem ch.fe {g:Nat} {listed:Array Bool} {a:Act} {w:World} (i:Nat) (v:Value) (ht:Fm md ops n=true) (fJ:i<n)
  (hh:Fo md ops n listed=true) (hf:Region.free md ops listed i=true) (hr:(Region.ready md ops listed).contains i=true)
  (hQ :∀c a d w,Q (.panic c) (Act.put a (some d) v) w→Q (.panic c) a w) (hS:S w)
  (h:ew ops i fun oi=>oi.dst.isSome=true∧Region.wanted oi (yielded ops a.tmps)=true∧(∀w,S w→(execOp a.eval oi).run P w=.ok (.value v) w)∧ch P md ops Q S n g (listed.setIfInBounds i true) (a.put oi.dst v) w):ch P md ops Q S n (g+1) listed a w:=by
 obtain⟨o,ho,h0,h1,h2,h3⟩:=h.ex;obtain⟨d,hd⟩:=y7.1 h0;exact ch.take ho ht fJ hh hf hr (fun c a w hp=>hQ c a d w (by rw[hd] at hp;exact hp)) h1 h2 hS h3
theorem ch.jN {g:Nat} {listed:Array Bool} {a:Act} {w:World} (i:Nat) (hr:Region.ready md ops listed=[i])
  (h :∀K:Act→World→Prop,Shut (∀a w,(i<n→S w)→ch P md ops Q S n g (listed.setIfInBounds i true) a w→K a w)→ew ops i fun o=>if Region.wanted o (yielded ops a.tmps)=true then Oper.wp P o a w K Q else K (a.put o.dst undef) w):ch P md ops Q S n (g+1) listed a w:=by
 cases ho:ops[i]? with
 | none =>
  have h1:=h (fun _ _=>True) (fun _ _ _ _=>trivial)
  unfold ew at h1;rw[ho] at h1;cases h1
 | some o =>
  refine ch.one hr ho fun K hK=>?_
  have h1:=h K hK;unfold ew at h1;rw[ho] at h1;exact h1
theorem ch.Yp {g:Nat} {listed:Array Bool} {a:Act} {w:World} (i j:Nat) (hr:Region.ready md ops listed=[i,j])
  (h :∀K:Act→World→Prop,Shut (∀a w,(i<n→S w)→ch P md ops Q S n g (listed.setIfInBounds i true) a w→K a w)→ew ops i fun o=>if Region.wanted o (yielded ops a.tmps)=true then Oper.wp P o a w K Q else K (a.put o.dst undef) w)
  (h' :∀K:Act→World→Prop,Shut (∀a w,(j<n→S w)→ch P md ops Q S n g (listed.setIfInBounds j true) a w→K a w)→ew ops j fun o=>if Region.wanted o (yielded ops a.tmps)=true then Oper.wp P o a w K Q else K (a.put o.dst undef) w):ch P md ops Q S n (g+1) listed a w:=by
 cases ho:ops[i]? with
 | none =>
  have h1:=h (fun _ _=>True) (fun _ _ _ _=>trivial)
  unfold ew at h1;rw[ho] at h1;cases h1
 | some o =>
  cases ho':ops[j]? with
  | none =>
   have h1:=h' (fun _ _=>True) (fun _ _ _ _=>trivial)
   unfold ew at h1;rw[ho'] at h1;cases h1
  | some o' =>
   refine ch.two hr ho ho' (fun K hK=>?_) fun K hK=>?_
   ·have h1:=h K hK
    unfold ew at h1;rw[ho] at h1;exact h1
   ·have h1:=h' K hK
    unfold ew at h1;rw[ho'] at h1;exact h1
end
end Go.Proofs.YteflkdlaoiijbaaGreatDoor
namespace Go.Proofs.YteflkdlaoiijbaaGreatDoor
open Go.RowKit
def ky (T:List Nd) (r:Int):Bool:=oH cR pt gg T r
def okK (T:List Nd) (x:Nd):Bool:=kf cR pt gg T x
theorem Yq (T:List Nd) (x:Nd):okK T x=(decide (1≤x.line) && cR x && pt x.kind x.num (gU T x)):=rfl
theorem u4 {T:List Nd} {r:Int} (h:eN T r=0∨100<eN T r∨dH T r.toNat≠18):ky T r=false:=by
 rw[Bool.eq_false_iff];intro hh;obtain⟨h1,h2,h3,_⟩:=(fZ cR pt gg).1 hh;rcases h with h|h|h
 ·exact h1 h
 ·omega
 ·exact h h3
theorem I7 {T:List Nd} {r:Int} (h1:eN T r≠0) (h2:¬ 100<eN T r) (h3:dH T r.toNat=18):ky T r=T.all (okK T):=by
 unfold ky oH;rw[bZ h1,bZ (show eN T r≤100 by omega),bZ h3]
 rfl
def Szd (T:List Nd):Prop:=∀x∈T,x.names.length≤140737488355328
theorem Bn {T:List Nd} {r:Nat} {d:Nat→Nat} {m:List Nat} (hs:Vk T r d m) {i:Nat} {x:Nd} (hx:T[i]? = some x):(∀k∈x.kids,0≤k∧k<(T.length:Int))∧x.kids.length≤T.length:=by
 have hi:=(aK.1 hx).1;have h1 :∀k∈x.kids,0≤k∧k<(T.length:Int):=fun k hk=>by
  obtain⟨a,b,_⟩:=hs.kid i (hs.mem hi) k (by rw[jb hx];exact hk)
  exact⟨a,b⟩
 refine⟨h1,?_⟩;have hn:=hs.FI hi;rw[jb hx] at hn;have h2:=tl T.length (x.kids.map Int.toNat) (by
  rw[List.Nodup,List.pairwise_map];refine JH ?_ hn;intro a b ha hb hab e;have:=h1 a ha;have:=h1 b hb;exact hab (by omega)) (fun j hj=>by
  obtain⟨k,hk,rfl⟩:=jr.1 hj;have:=h1 k hk;omega)
 rw[cD] at h2;exact h2
theorem I8 (v:Value) (T:List Nd) (r:Int) (w:World) (h:ow w v T r) (hz:Szd T):Calls Tryz.prog 25 #[v] w fun e w'=>e=.returned (.bool (ky T r))∧Below w.heap.size w w':=by
 have PB:=aa (fun W (hW:ow W v T r)=>zT v T r W hW)
 have HTV:=aa h;obtain⟨nv,rfl,A,c,rfl,hc,hn⟩:=h;have HN:=aa hn;have HZ:=aa hz;obtain⟨D,hD⟩ :∃D,D=eN T r:=⟨_,rfl⟩;rw[←hD] at PB;have HD:=aa hD;obtain⟨R,hR⟩ :∃R,R=ky T r:=⟨_,rfl⟩;rw[←hR];have HR:=aa hR;clear hR;have dh :∀W,Below (w.heap.size+1) (w.alloc (.cells #[.slice A T.length c,.int .i64 r] 25)) W→W.cell? ⟨w.heap.size,0,none⟩=some (.slice A T.length c)∧W.cell? ⟨w.heap.size,1,none⟩=some (.int .i64 r):=fun W hW =>
  ⟨(hW.cell (p:=⟨w.heap.size,0,none⟩) (dz _)).trans (dF w _ _ _),(hW.cell (p:=⟨w.heap.size,1,none⟩) (dz _)).trans (dF w _ _ _)⟩
 have pR:=aa dh;have B0:=aa (bH w (.cells #[.slice A T.length c,.int .i64 r] 25));clear hD dh hn hz;go_enter Tryz.func25,Tryz.ntmps25
 go_wp2_with fail
 refine(PB.out _ (HTV.out.below B0.out)).mono ?_;rintro e w1 ⟨rfl,b1⟩;rw[ao] at b1;have BW1:=aa b1;have B1:=aa (B0.out.trans (b1.mono (fX _)));have CE:=b1.size;rw[ao] at CE;obtain⟨x0,x1⟩:=pR.out _ b1;clear b1 PB;by_cases h0:D=0
 ·have TR:R=false:=HR.out.trans <| u4 (.inl (by rw[←HD.out];exact h0))
  subst TR;subst h0;go_wp2_with fail
  go_ret
  exact⟨rfl,B1.out⟩
 ·have g0:((D:Int) == 0)=false:=aG.2 (by omega)
  by_cases h1:100<D
  ·have TR:R=false:=HR.out.trans <| u4 (.inr (.inl (by rw[←HD.out];exact h1)))
   subst TR;have g1:decide ((100:Int)<(D:Int))=true:=bZ (by omega)
   go_wp2_with fail
   go_ret
   exact⟨rfl,B1.out⟩
  ·have g1:decide ((100:Int)<(D:Int))=false:=cr (by omega)
   obtain⟨hN,TR,hr1,d,m,hs⟩:=zi (T:=T) (r:=r) (by rw[←HD.out];exact h0)
   rcases HN.out with hT | ⟨b,o,rfl,hb,hx⟩
   ·rw[hT] at hr1;simp at hr1;omega
   obtain⟨q,rfl⟩ :∃q:Nat,r=(q:Int):=⟨r.toNat,by omega⟩
   have hq:q<T.length:=by omega
   have hxq:=bX hq;obtain⟨nvq,kvq,dS,_,_⟩:=hx q _ hxq;have ck:=(B1.out.cell (p:=⟨b,o+q*7,none⟩) hb).trans dS.c0;obtain⟨kd,pO⟩ :∃kd,kd=T[q].kind:=⟨_,rfl⟩;rw[←pO] at ck;have jw:dH T (q:Int).toNat=kd:=by rw[iz,nH hxq,pO]
   have HX:=aa hx;have HSn:=aa hs;clear dS hx hs hxq pO;by_cases mc:kd=18
   ·have hry:R=T.all (okK T):=HR.out.trans <| I7 (T:=T) (r:=(q:Int)) (by rw[←HD.out];exact h0) (by rw[←HD.out];exact h1) (by rw[jw,mc])
    have Z6:=aa hry;subst mc;clear jw hry HR;go_wp2_with fail
    go_loopw [27] (fun i wr=>∃k:Nat,k≤T.length∧i=.int .i64 (k:Int)∧(T.drop k).all (okK T)=R∧Below (w.heap.size+1) (w.alloc (.cells #[.slice (some ⟨b,o,none⟩) T.length c,.int .i64 (q:Int)] 25)) wr) (fun i _=>T.length-(intOf i).toNat)
    case atStart=>exact⟨0,bK _,rfl,Z6.out.symm,BW1.out⟩
    case round =>
     obtain⟨k,hk,rfl,ha,hbr⟩:=hrel;have HA:=aa ha;have QY:=aa hbr;have BR:=aa (B0.out.trans (hbr.mono (fX _)));have Yr:=hbr.size;rw[ao] at Yr;clear ha hbr x0 x1 ck;by_cases hlt:k<T.length
     ·obtain⟨x,hxk⟩ :∃x,T[k]? = some x:=⟨T[k],bX hlt⟩
      obtain⟨qD,qE,dS,hst,Ad⟩:=HX.out k x hxk;obtain⟨c0,c1,c2,c3,c4,c5,c6⟩:=dS.below BR.out hb;have HST:=aa (wc (p:=okK T) hxk);have hxz:=HZ.out x (aM hxk);have zk:=Bn HSn.out hxk;have HSS:=aa hst;have HNU:=aa Ad;obtain⟨SA,sc,rfl,_,_⟩:=hst;obtain⟨UA,uc,rfl,_,_⟩:=Ad;clear hxk dS;have HWN:=aa (bH wr (.cells #[.int .i64 x.kind,.int .i64 x.line,.int .i64 x.op,.int .i64 x.num,.string x.s,.slice SA x.names.length sc,.slice UA x.kids.length uc] 55));have HFL:=aa (CD x _ (.slice UA x.kids.length uc) (wr.alloc (.cells #[.int .i64 x.kind,.int .i64 x.line,.int .i64 x.op,.int .i64 x.num,.string x.s,.slice SA x.names.length sc,.slice UA x.kids.length uc] 55)) ((HSS.out.below BR.out).below HWN.out) ⟨_,_,_,rfl⟩ hxz);have HBQ:=aa (fun W (h:Below (wr.heap.size+1) (wr.alloc (.cells #[.int .i64 x.kind,.int .i64 x.line,.int .i64 x.op,.int .i64 x.num,.string x.s,.slice SA x.names.length sc,.slice UA x.kids.length uc] 55)) W)=>we (dz _) h)
      have bT:=aa (fun W hA hB hC=>Lh x (.slice SA x.names.length sc) (.slice UA x.kids.length uc) (.slice (some ⟨b,o,none⟩) T.length c) T W hA hB hC zk.1 (by have:=zk.2;omega))
      have GX:=aa (Yq T x);obtain⟨FL,hFL⟩ :∃FL,FL=cR x:=⟨_,rfl⟩;obtain⟨KD,hKD⟩ :∃KD,KD=pt x.kind x.num (gU T x):=⟨_,rfl⟩;rw[←hFL] at HFL GX;rw[←hKD] at bT GX;obtain⟨x0,x1⟩:=pR.out _ (QY.out.trans (HWN.out.mono Yr));unfold cY at HFL bT;clear hFL hKD zk hxz;by_cases xU:x.line<1
      ·go_wp2_with fail
       go_ret
       exact⟨cO (by rw[←HA.out,HST.out,GX.out,cr (by omega)];rfl),BR.out.trans (HWN.out.mono BR.out.size)⟩
      ·have gl:decide (1≤x.line)=true:=bZ (by omega)
       rw[gl,kI] at GX;go_wp2_with fail
       refine HFL.out.mono ?_;rintro e w3 ⟨rfl,b3⟩;have B3:=aa ((BR.out.trans (HWN.out.mono BR.out.size)).trans (b3.mono (by rw[ao];have:=BR.out.size;omega)))
       have BB3:=aa ((QY.out.trans (HWN.out.mono Yr)).trans (b3.mono (by rw[ao];omega)))
       have HQ3:=aa (HBQ.out _ (by rw[ao] at b3;exact b3))
       clear b3 x0 x1 c0 c1 c2 c3 c4 c5 c6;cases FL with
       | false =>
        go_wp2_with fail
        go_ret
        exact⟨cO (by rw[←HA.out,HST.out,GX.out];rfl),B3.out⟩
       | true =>
        rw[kI] at GX;obtain⟨c0,c1,c2,c3,c4,c5,c6⟩:=HQ3.out;obtain⟨x0,x1⟩:=pR.out _ BB3.out;go_wp2_with fail
        refine(bT.out _ (HSS.out.below B3.out) (HNU.out.below B3.out) ?_).mono ?_
        ·exact rS.below (W:=w) ⟨some ⟨b,o,none⟩,c,rfl,hc,.inr ⟨b,o,rfl,hb,HX.out⟩⟩ B3.out
        rintro e w4 ⟨rfl,b4⟩;have B4:=aa (je B3.out (ah _) b4);have BB4:=aa (BB3.out.trans (b4.mono (by have:=BB3.out.size;rw[ao] at this;exact this)))
        clear b4 x0 x1 c0 c1 c2 c3 c4 c5 c6;cases KD with
        | false =>
         go_wp2_with fail
         go_ret
         exact⟨cO (by rw[←HA.out,HST.out,GX.out];rfl),B4.out⟩
        | true =>
         go_wp2_with fail
         go_roundw
         case rel=>exact⟨k+1,by omega,by go_num,by rw[←HA.out,HST.out,GX.out,kI],BB4.out⟩
         case measure=>simp[intOf];omega
     ·have hd:R=true:=by rw[←HA.out,px (by omega)];rfl
      subst hd;go_wp2_with fail
      go_ret
      exact⟨rfl,BR.out⟩
   ·have TR:R=false:=HR.out.trans <| u4 (.inr (.inr (by rw[jw];exact mc)))
    subst TR;have g18:(kd != 18)=true:=om.2 mc;clear HR jw;go_wp2_with fail
    go_ret
    exact⟨rfl,B1.out⟩
end Go.Proofs.YteflkdlaoiijbaaGreatDoor
namespace Go.Proofs.YteflkdlaoiijbaaGreatDoor
open Go.RowKit
theorem Vb {z:Array Value} {v:Value} (m:Nat) (hz:0<z.size) (h :∀j,j<z.size→z[j]? = some v) (f:Nat→Value) (hf :∀j,f j=v):(madeCells z m).toList=(List.range m).map f:=by
 unfold madeCells;rw[Array.toList_map,Array.toList_range];refine List.map_congr_left fun j _=>?_
 rw[hf j];have h1:=h (j % z.size) (Nat.mod_lt _ hz);rw[getElem!_def,h1]
theorem I9:(Tryz.prog.info? 57).map (fun i=>(i.zero,i.size,i.bytes))=some (some (.agg #[.int .i64 0,.int .i64 0]),2,16):=by kernel_rfl
theorem Ja:(Tryz.prog.info? 3).map (fun i=>(i.zero,i.size,i.bytes))=some (some (.int .i64 0),1,8):=by kernel_rfl
theorem Jb (n:Nat) (hn:n≤1000000) :∃M:Array Value,∀w:World,(Instr.makeSlice 32 (.int .i64 (n:Int)) (.int .i64 (n:Int))).run Tryz.prog w=.ok (.slice (some ⟨w.heap.size,0,none⟩) n n) (w.alloc (.cells M 57)) ∧
  ∀base,base≤w.heap.size→fA (w.alloc (.cells M 57)) base 57 2 w.heap.size n (vw fun _=>(0,0)):=by
 obtain⟨i0,mL,hz0,hz1,hz2⟩:=info_parts I9;refine⟨madeCells (Value.cells (.agg #[.int .i64 0,.int .i64 0])) (n*i0.size),fun w=>?_⟩
 have hr:=run_make (P:=Tryz.prog) w 32 57 i0 _ Tryz.underlying32 mL hz0 .i64 .i64 (n:Int) (n:Int) (by omega) (Int.le_refl _) (by rw[hz2];omega) (by omega)
 simp only[iz] at hr;refine⟨hr,fun base hb=>?_⟩
 obtain⟨W,h1,h2,_⟩:=run_make_full (P:=Tryz.prog) w base 32 57 i0 _ 2 Tryz.underlying32 mL hz0 hz1 .i64 .i64 n (by rw[hz2];omega) (by unfold maxLen;omega) hb
 rw[hr] at h1;injection h1 with _ h1;rw[h1];have e:(madeCells (Value.cells (.agg #[.int .i64 0,.int .i64 0])) (n*2)).toList=(List.range (n*2)).map (vw fun _=>(0,0)):=Vb (v:=.int .i64 0) _ (by decide) (fun j hj=>by
  have hj:j<2:=hj;match j,hj with
  | 0,_=>rfl
  | 1,_=>rfl) _ fun j=>by unfold vw;split<;>rfl
 rw[e] at h2;exact h2
theorem O9 (n:Nat) (hn:n≤1000000) :∃M:Array Value,∀w:World,(Instr.makeSlice 33 (.int .i64 (n:Int)) (.int .i64 (n:Int))).run Tryz.prog w=.ok (.slice (some ⟨w.heap.size,0,none⟩) n n) (w.alloc (.cells M 3)) ∧
  ∀base,base≤w.heap.size→fA (w.alloc (.cells M 3)) base 3 1 w.heap.size n (SF fun _=>0):=by
 obtain⟨i0,mL,hz0,hz1,hz2⟩:=info_parts Ja;refine⟨madeCells (Value.cells (.int .i64 0)) (n*i0.size),fun w=>?_⟩
 have hr:=run_make (P:=Tryz.prog) w 33 3 i0 _ Tryz.underlying33 mL hz0 .i64 .i64 (n:Int) (n:Int) (by omega) (Int.le_refl _) (by rw[hz2];omega) (by omega)
 simp only[iz] at hr;refine⟨hr,fun base hb=>?_⟩
 obtain⟨W,h1,h2,_⟩:=run_make_full (P:=Tryz.prog) w base 33 3 i0 _ 1 Tryz.underlying33 mL hz0 hz1 .i64 .i64 n (by rw[hz2];omega) (by unfold maxLen;omega) hb
 rw[hr] at h1;injection h1 with _ h1;rw[h1];have e:(madeCells (Value.cells (.int .i64 0)) (n*1)).toList=(List.range (n*1)).map (SF fun _=>0):=Vb (v:=.int .i64 0) _ (by decide) (fun j hj=>by
  have hj:j<1:=hj;match j,hj with
  | 0,_=>rfl) _ fun j=>rfl
 rw[e] at h2;exact h2
def kz (W:World) (B N:Nat) (v:Value) (st:aF):Prop:=∃fv ub ob L,v=.agg #[fv,.slice (some ⟨ub,0,none⟩) N N,.slice (some ⟨ob,0,none⟩) N N]∧qh W B fv L∧L.map (·.1)=st.fns∧fA W B 57 2 ub N (vw st.uses)∧fA W B 3 1 ob N (SF st.of)
theorem eV.scope {W:World} {B b:Nat} {nv:Value} {N:Nat} {st:aF} {fv:Value} {ub ob:Nat} {L:List oC} (h:eV W B b nv N st fv ub ob L):kz W B N (.agg #[fv,.slice (some ⟨ub,0,none⟩) N N,.slice (some ⟨ob,0,none⟩) N N]) st:=⟨fv,ub,ob,L,rfl,h.fns,h.are,h.uses,h.pe⟩
def jO:Value:=.agg #[.slice none 0 0,.slice none 0 0,.slice none 0 0]
def Ty (B N:Nat) (r:Rs aF) (e:Ending) (w':World):Prop :=
 match r with
 | .ok st=>∃v B',B≤B'∧e=.returned (.tuple #[v,.nilIface])∧kz w' B' N v st
 | .error x=>∃v,e=.returned (.tuple #[jO,v])∧IE w' v x.2 x.1
theorem Bo (w:World) (X Y Z:Obj):Below w.heap.size w (((w.alloc X).alloc Y).alloc Z).drew:=((((Below.refl _ _).alloc (ah _) _).alloc (by rw[ao];omega) _).alloc (by rw[ao,ao];omega) _).drew
theorem Tz (w:World) (X Y Z:Obj):(((w.alloc X).alloc Y).alloc Z).drew.heap[w.heap.size]? = some X :=
 (Below.heap_alloc ((w.alloc X).alloc Y) Z _ (by rw[ao,ao];omega)).trans ((Below.heap_alloc (w.alloc X) Y _ (by rw[ao];omega)).trans (heap_alloc_new w X))
theorem TB (w:World) (X Y Z:Obj):(((w.alloc X).alloc Y).alloc Z).drew.heap[w.heap.size+1]? = some Y:=by
 have h:=heap_alloc_new (w.alloc X) Y;rw[ao] at h;exact(Below.heap_alloc ((w.alloc X).alloc Y) Z _ (by rw[ao,ao];omega)).trans h
theorem TC (w:World) (X Y Z:Obj):(((w.alloc X).alloc Y).alloc Z).drew.heap[w.heap.size+1+1]? = some Z:=by
 have h:=heap_alloc_new ((w.alloc X).alloc Y) Z;rw[ao,ao] at h;exact h
theorem fA.later {W W':World} {B b n s:Nat} {ty:TypeId} {f:Nat→Value} (h:fA W B ty s b n f) (hb:Below W.heap.size W W'):fA W' B ty s b n f:=(Fr.ae (E:=[]) hb).row h (by simp)
section
variable {B n s:Nat} {ty:TypeId} {f:Nat→Value}
theorem Vc (w:World) (X Y Z:Obj) (h:fA (w.alloc X) B ty s w.heap.size n f):fA (((w.alloc X).alloc Y).alloc Z).drew B ty s w.heap.size n f:=h.later (Below.two Y Z).drew
theorem Vd (w:World) (X Y Z:Obj) (h:fA ((w.alloc X).alloc Y) B ty s (w.alloc X).heap.size n f):fA (((w.alloc X).alloc Y).alloc Z).drew B ty s (w.heap.size+1) n f:=by
 rw[ao] at h;exact h.later ((Below.refl _ _).alloc (ah _) Z).drew
theorem Ve (w:World) (X Y Z:Obj) (h:fA (((w.alloc X).alloc Y).alloc Z) B ty s ((w.alloc X).alloc Y).heap.size n f):fA (((w.alloc X).alloc Y).alloc Z).drew B ty s (w.heap.size+1+1) n f:=by
 rw[ao,ao] at h;exact h.later (Below.refl _ _).drew
end
structure MkZ (w2 W:World) (B:Nat) (nv:Value) (N ub ob b:Nat):Prop where
 below:Below w2.heap.size w2 W
 le:w2.heap.size≤b
 blk:W.heap[b]? = some (.cells #[nv,.slice none 0 0,.slice (some ⟨ub,0,none⟩) N N,.slice (some ⟨ob,0,none⟩) N N] 87 (0,0))
 uses:fA W B 57 2 ub N (vw fun _=>(0,0))
 pe:fA W B 3 1 ob N (SF fun _=>0)
theorem Jc {P:Program} {id:Nat} {ops:Array Oper} {Q:Exit→Act→World→Prop} {a:Act} {w:World} {F:Nat→Nat→Nat→Act} {H:Nat→Nat→Nat→World→Prop} (hr:(∀ub ob b W,H ub ob b W→Q .normal (F ub ob b) W)→(Code.region id ops true).wp P Q a w) (h :∀ub ob b W,H ub ob b W→Q .normal (F ub ob b) W):(Code.region id ops true).wp P Q a w:=hr h
end Go.Proofs.YteflkdlaoiijbaaGreatDoor
namespace Go.Proofs.YteflkdlaoiijbaaGreatDoor
open Go.RowKit
theorem cQ {W w':World} (h:Below W.heap.size W w'):(∀b i:Nat,b<W.heap.size→w'.cell? ⟨b,i,none⟩=W.cell? ⟨b,i,none⟩)∧∀b i:Nat,b<W.heap.size→w'.frozen? ⟨b,i,none⟩=W.frozen? ⟨b,i,none⟩:=⟨fun b i hb=>h.cell (p:=⟨b,i,none⟩) hb,fun b i hb=>h.frozen (p:=⟨b,i,none⟩) hb⟩
theorem aq.rename {B b:Nat} {nv:Value} {N ub ob:Nat} {lv:Value} {L:List cV} {st s1 s2:aF} {r:Rs aF} {w w2:World} {e:Ending} (h:aq B b nv N ub ob lv L st (r.map fun s=>s.back s1) w e w2) (hn:s2.names=s1.names):aq B b nv N ub ob lv L st (r.map fun s=>s.back s2) w e w2:=by
 refine h.same rfl ?_;cases r with
 | error y=>rfl
 | ok s=>exact⟨rfl,rfl,rfl,hn⟩
theorem Fp {ib f:Nat} {hb:Nd} {kb:List Lt} {t:Lt} {s:aF}:kq [.mk ib hb kb,t] f s=vA ib f true kb [t] s:=by
 rw[yl];unfold vA;congr 1
 funext s1
 congr 1
 funext s2
 rw[rD]
theorem Ys {ks:List Lt} {a:Int} (h:iU ks=[18,a]) :∃ib hb kb t,ks=[.mk ib hb kb,t]∧hb.kind=18∧t.hd.kind=a:=by
 unfold iU at h;match ks,h with
 | [.mk ib hb kb,t],h =>
  injection h with h1 h2;injection h2 with h2 _;exact⟨ib,hb,kb,t,rfl,h1,h2⟩
 | [],h=>exact absurd (az List.length h) (by simp)
 | [.mk _ _ _],h=>exact absurd (az List.length h) (by simp)
 | .mk _ _ _::_::_::_,h=>exact absurd (az List.length h) (by simp)
theorem Pa {T:List Nd} {B b:Nat} {nv:Value} {ub ob:Nat} (gI :∀x∈T,x.s.size≤65536∧∀s∈x.names,s.size≤65536) (i:Nat) (h:Nd) (ks:List Lt) (hn:lq T (.mk i h ks)) (ix :∀u:Lt,u.size<Lt.ak ks+1→lq T u→bI T B b nv ub ob u) (hk:h.kind=24):bI T B b nv ub ob (.mk i h ks):=by
 intro f loop pa la lc ms L st w hr bc bD;show Calls Tryz.prog 26 #[.pointer (some ⟨b,0,none⟩),.int .i64 (i:Int),.agg #[.int .i64 (f:Int),.int .i64 loop,.pointer pa,.slice la L.length lc]] w (aq B b nv T.length ub ob (.slice la L.length lc) L st (aV (.mk i h ks) f st) w)
 have fE:=hn.sub;have fJ:=hn.vk;unfold Lt.In at fJ;obtain⟨hx,bt,_⟩:=fJ;replace hr:eC T B b nv ub ob f pa (.slice la L.length lc) ms L st w (h.names.length+Lt.ec ks) (Lt.ak ks+1):=by have h1:=hr;rw[Lt.wt,Lt.size] at h1;exact h1
 replace bc:18≤h.kind→loop=bM f st.frames:=bc;replace bD:L≠[]∨h.kind=18:=bD;obtain⟨bg,bh,bj⟩:=fE;replace bg:dT T ks:=bg;replace bh:h.kind≠18→∀k∈ks,Still k:=bh;replace bj:gR h.kind h.num (iU ks):=bj;have mi:=gI h (aM hx);obtain⟨bk,o,c,rfl,bS,cB,cN⟩:=hr.dy.nodes;obtain⟨qD,qE,dS,⟨NA,nc,kA,_⟩,⟨KA,kc,jw,rT,j9⟩⟩:=cN i h hx;have sK:h.kids.length≤20000:=(hr.dy.small h (aM hx)).1;have fR:h.kids.length=ks.length:=by rw[bt,cD]
 subst kA jw;obtain⟨x0,x1,x2,x3,x4,x5,x6⟩:=dS;have yx:i<T.length:=(aK.1 hx).1;have qF:=hr.dy.few;obtain⟨fv,FL,hw⟩:=id hr.rs;obtain⟨hbl,pg,tH⟩:=hw.gK;have d0:w.cell? ⟨b,0,none⟩=some (.slice (some ⟨bk,o,none⟩) T.length c):=ab hw.blk 0;have d3:w.cell? ⟨b,3,none⟩=some (.slice (some ⟨ob,0,none⟩) T.length T.length):=ab hw.blk 3;obtain⟨u0,v0⟩:=bJ hw.pe (j:=i) (by omega)
 have iK:bk<w.heap.size:=by omega
 have qm:=aa gI;have HR:=aa hr;have HN:=aa hn;have s6:=aa ix;have iL:=aa bc;have kx:=aa bD;have eM:=aa bg;have rU:=aa bh;have nW:=aa bj;have fH:=aa bt;have sr:=aa fR;have HX:=aa hx;have yE:=aa mi;have Cz:=aa j9;clear hr hn ix bc bD bg bh bj bt fR hx mi cN hw gI j9;have q6:(h.kind == 6)=false:=by rw[hk];rfl
 have q7:(h.kind == 7)=false:=by rw[hk];rfl
 have x9:(h.kind == 11)=false:=by rw[hk];rfl
 have yR:(h.kind == 18)=false:=by rw[hk];rfl
 have U4:(h.kind == 23)=false:=by rw[hk];rfl
 have Yo:(h.kind == 26)=false:=by rw[hk];rfl
 have Zh:(h.kind == 27)=false:=by rw[hk];rfl
 have q24:(h.kind == 24)=true:=by rw[hk];rfl
 have bT:=aa hk;clear hk;go_enter Tryz.func26,Tryz.ntmps26
 go_wp2_with fail
 go_region
 have aT:=HR.out.hJ i (.cells #[.int .i64 (f:Int),.int .i64 loop,.pointer pa,.slice la L.length lc] 92);have dh:=heap_alloc_new (w.setCell ⟨ob,i,none⟩ (.int .i64 (f:Int))) (.cells #[.int .i64 (f:Int),.int .i64 loop,.pointer pa,.slice la L.length lc] 92);obtain⟨W1,hW1⟩ :∃W1,W1=((w.setCell ⟨ob,i,none⟩ (.int .i64 (f:Int))).alloc (.cells #[.int .i64 (f:Int),.int .i64 loop,.pointer pa,.slice la L.length lc] 92)).drew:=⟨_,rfl⟩;rw[←hW1] at aT;have b9:W1.heap[w.heap.size]? = some (.cells #[.int .i64 (f:Int),.int .i64 loop,.pointer pa,.slice la L.length lc] 92 (0,0)):=by
  rw[hW1];have e:(w.setCell ⟨ob,i,none⟩ (.int .i64 (f:Int))).heap.size=w.heap.size:=by simp[World.setCell]
  rw[e] at dh;exact dh
 rw[←hW1];have x0:=(aT.2.1.below.cell (p:=⟨bk,o+i*7,none⟩) bS).trans x0;have x1:=(aT.2.1.below.cell (p:=⟨bk,o+i*7+1,none⟩) bS).trans x1;have x2:=(aT.2.1.below.cell (p:=⟨bk,o+i*7+2,none⟩) bS).trans x2;have x3:=(aT.2.1.below.cell (p:=⟨bk,o+i*7+3,none⟩) bS).trans x3;have x4:=(aT.2.1.below.cell (p:=⟨bk,o+i*7+4,none⟩) bS).trans x4;have x5:=(aT.2.1.below.cell (p:=⟨bk,o+i*7+5,none⟩) bS).trans x5;have x6:=(aT.2.1.below.cell (p:=⟨bk,o+i*7+6,none⟩) bS).trans x6;clear hW1 dh d0 d3 u0 v0;have d0:W1.cell? ⟨b,0,none⟩=some (.slice (some ⟨bk,o,none⟩) T.length c):=by obtain⟨_,_,hw⟩:=aT.1.rs;exact ab hw.blk 0
 have sL:b<W1.heap.size:=by obtain⟨_,_,hw⟩:=aT.1.rs;exact hw.gK.1
 have oa:w.heap.size<W1.heap.size:=(aJ.1 b9).1;have sM:bk<W1.heap.size:=by omega
 have k0:W1.cell? ⟨w.heap.size,0,none⟩=some (.int .i64 (f:Int)):=ab b9 0;have k1:W1.cell? ⟨w.heap.size,1,none⟩=some (.int .i64 loop):=ab b9 1;have k2:W1.cell? ⟨w.heap.size,2,none⟩=some (.pointer pa):=ab b9 2;have k3:W1.cell? ⟨w.heap.size,3,none⟩=some (.slice la L.length lc):=ab b9 3;have HZ:=aa aT.1;have fm:=aa aT.2.1;have pk:=aa aT.2.2;have Ac:=aa b9;clear aT b9;obtain⟨ea,hl0,hea⟩:=nW.out.EW bT.out;obtain⟨ib,hb,kb,t,rfl,aa5,aa6⟩:=Ys hl0;have bt:h.kids=[(ib:Int),(t.loc:Int)]:=fH.out;obtain⟨sb,so,hKA,XZ,Yt⟩ :∃sb so,KA=some ⟨sb,so,none⟩∧sb<B∧∀(j:Nat) x,h.kids[j]? = some x→w.cell? ⟨sb,so+j,none⟩=some (.int .i64 x):=by
  rcases Cz.out with h0 | ⟨sb,so,h1,h2,h3⟩
  ·rw[bt] at h0;cases h0
  ·exact⟨sb,so,h1,h2,h3⟩
 subst hKA;have y0:=(fm.out.below.cell (p:=⟨sb,so,none⟩) XZ).trans (Yt 0 (ib:Int) (by rw[bt];rfl))
 have y1:=(fm.out.below.cell (p:=⟨sb,so+1,none⟩) XZ).trans (Yt 1 (t.loc:Int) (by rw[bt];rfl))
 have aa7:h.kids.length=2:=by rw[bt];rfl
 have acT:=aa aa7;have hkg0:0<h.kids.length:=by omega
 have hkg1:1<h.kids.length:=by omega
 have aa8:sb<W1.heap.size:=by omega
 have HHK:=aa bt;have HEA:=aa hea;have acU:=aa aa6;have HB18:=aa aa5;clear Yt bt aa7 hea aa6 aa5 hl0;go_wp2_with fail
 obtain⟨W2,hW2⟩ :∃W2,W2=W1.alloc (.cells #[.int .i64 h.kind,.int .i64 h.line,.int .i64 h.op,.int .i64 h.num,.string h.s,.slice NA h.names.length nc,.slice (some ⟨sb,so,none⟩) h.kids.length kc] 55):=⟨_,rfl⟩;have df:Below W1.heap.size W1 W2:=by rw[hW2];exact(Below.refl _ _).alloc (ah _) _
 rw[←hW2];have hz2:=heap_alloc_new W1 (.cells #[.int .i64 h.kind,.int .i64 h.line,.int .i64 h.op,.int .i64 h.num,.string h.s,.slice NA h.names.length nc,.slice (some ⟨sb,so,none⟩) h.kids.length kc] 55);rw[←hW2] at hz2;have n6:=ab hz2 6;rw[acT.out] at n6;replace n6:W2.cell? ⟨W1.heap.size,6,none⟩=some (.slice (some ⟨sb,so,none⟩) 2 kc):=n6;have p0:=(df.cell (p:=⟨w.heap.size,0,none⟩) oa).trans k0;have p1:=(df.cell (p:=⟨w.heap.size,1,none⟩) oa).trans k1;have p2:=(df.cell (p:=⟨w.heap.size,2,none⟩) oa).trans k2;have p3:=(df.cell (p:=⟨w.heap.size,3,none⟩) oa).trans k3;have y0:=(df.cell (p:=⟨sb,so,none⟩) aa8).trans y0;have y1:=(df.cell (p:=⟨sb,so+1,none⟩) aa8).trans y1;have hl2:W1.heap.size<W2.heap.size:=by rw[hW2,ao];omega
 have aa9:=aa df;have Bp:sb<W2.heap.size:=by omega
 have oc:w.heap.size<W2.heap.size:=by omega
 clear hW2 hz2 df x0 x1 x2 x3 x4 x5 x6 d0 k0 k1 k2 k3;have WV:Hid (∀W,Calls Tryz.prog 57 #[.agg #[.int .i64 (f:Int),.int .i64 loop,.pointer pa,.slice la L.length lc],.int .i64 (i:Int)] W fun e w'=>e=.returned (.agg #[.int .i64 (f:Int),.int .i64 (i:Int),.pointer pa,.slice la L.length lc])∧Below W.heap.size W w'):=aa fun W=>lV f loop (i:Int) pa la L.length lc W
 have aba:Hid (∀W g,Below W2.heap.size W2 W→W.heap[g]? = some (.cells #[.int .i64 (t.loc:Int)] 3 (0,0))→W2.heap.size≤g→Calls Tryz.prog 56 #[.pointer (some ⟨b,0,none⟩),.int .i64 (ib:Int),.agg #[.int .i64 (f:Int),.int .i64 (i:Int),.pointer pa,.slice la L.length lc],.slice (some ⟨g,0,none⟩) 1 1] W (aq B b (.slice (some ⟨bk,o,none⟩) T.length c) T.length ub ob (.slice la L.length lc) L st ((vA ib f true kb [t] (dt i f (st.setOf i f))).map fun s=>s.back (dt i f (st.setOf i f))) w)):=aa fun W g hW hg hge=>by
  have hW1:=aa9.out.trans (hW.mono aa9.out.size);have XT:=(HZ.out.dp hW1).nX i;have OP:Lt.mk ib hb kb∈[Lt.mk ib hb kb,t]:=bV ..;have En:=eM.out.at_ _ OP;have ZX:=eM.out.cons.2;have fJ:=En.vk;unfold Lt.In at fJ;have hsz:Lt.ak [Lt.mk ib hb kb,t]=Lt.ak kb+1+t.size:=by simp[Lt.ak,Lt.size]
  have hwt:Lt.ec [Lt.mk ib hb kb,t]=hb.names.length+Lt.ec kb+t.wt:=by simp[Lt.ec,Lt.wt]
  have hs1:Lt.ak [t]=t.size:=by simp[Lt.ak]
  have dZ:Lt.ec [t]=t.wt:=by simp[Lt.ec]
  have acV:g≠ob:=by
   obtain⟨_,_,hw⟩:=HZ.out.rs;have:=hw.gK;omega
  refine(xc ib f hb kb [t] true (i:Int) pa la lc ms L (dt i f (st.setOf i f)) W (.slice (some ⟨g,0,none⟩) 1 1) (XT.U6 (by rw[hwt,dZ];omega) (by rw[hsz,hs1];omega)) fJ.1 fJ.2.1 En.sub.1 ZX (fun k hk=>s6.out k (by have:=eY hk;rw[hsz];omega) (En.sub.1.at_ k hk)) (fun k hk=>s6.out k (by have:=eY hk;rw[hs1] at this;rw[hsz];omega) (ZX.at_ k hk)) ⟨_,_,rfl,ah _,.inr ⟨g,0,rfl,fun w' hf j x hj=>?_⟩⟩ rfl (fun k hk mc=>(uO f i _).symm) (fun k hk mc=>?_) (fun x hx=>(qm.out x.hd (aM (uC fJ.2.2 (List.getElem?_of_mem hx).choose_spec).2)).1) (by simp)).mono fun e w' hp=>aq.after (fm.out.trans (cW.bP hW1 HZ.out.world)) rfl hp
  ·have h1:=hf.ints g _ _ hg acV
   cases j with
   | zero =>
    injection hj with hj;rw[←hj];exact ab h1 0
   | succ j=>cases hj
  ·rw[bR] at hk
   have:=HEA.out;rw[←acU.out,←hk] at this;unfold sZ at this;omega
 refine ch.O0 (n:=13) (S:=(fun W=>W.cell? ⟨W1.heap.size,6,none⟩=some (.slice (some ⟨sb,so,none⟩) 2 kc)∧W.cell? ⟨w.heap.size,0,none⟩=some (.int .i64 (f:Int))∧W.cell? ⟨w.heap.size,1,none⟩=some (.int .i64 loop)∧W.cell? ⟨w.heap.size,2,none⟩=some (.pointer pa)∧W.cell? ⟨w.heap.size,3,none⟩=some (.slice la L.length lc)∧W.cell? ⟨sb,so,none⟩=some (.int .i64 (ib:Int))∧W.cell? ⟨sb,so+1,none⟩=some (.int .i64 (t.loc:Int)))) (by kernel_rfl) ?_
 have Fq:(fun W=>W.cell? ⟨W1.heap.size,6,none⟩=some (.slice (some ⟨sb,so,none⟩) 2 kc)∧W.cell? ⟨w.heap.size,0,none⟩=some (.int .i64 (f:Int))∧W.cell? ⟨w.heap.size,1,none⟩=some (.int .i64 loop)∧W.cell? ⟨w.heap.size,2,none⟩=some (.pointer pa)∧W.cell? ⟨w.heap.size,3,none⟩=some (.slice la L.length lc)∧W.cell? ⟨sb,so,none⟩=some (.int .i64 (ib:Int))∧W.cell? ⟨sb,so+1,none⟩=some (.int .i64 (t.loc:Int))) W2.drew:=⟨n6,p0,p1,p2,p3,y0,y1⟩
 refine ch.fe 0 (.pointer (some ⟨b,0,none⟩)) (by kernel_rfl) (by decide) (by kernel_rfl) (by kernel_rfl) (by kernel_rfl) (fun _ _ _ _ h=>h) Fq ?_
 simp only[ew,ef,dW,ee];refine⟨by rfl,by rfl,?_,?_⟩
 ·intro w hSw
  (try dsimp only at hSw)
  go_simp
 simp only[Act.put,dV,dK,dL];refine ch.fe 1 (.pointer (some ⟨W1.heap.size,6,none⟩)) (by kernel_rfl) (by decide) (by kernel_rfl) (by kernel_rfl) (by kernel_rfl) (fun _ _ _ _ h=>h) Fq ?_
 simp only[ew,ef,dW,ee];refine⟨by rfl,by rfl,?_,?_⟩
 ·intro w hSw
  (try dsimp only at hSw)
  go_simp
 simp only[Act.put,dV,dK,dL];refine ch.fe 2 (.slice (some ⟨sb,so,none⟩) 2 kc) (by kernel_rfl) (by decide) (by kernel_rfl) (by kernel_rfl) (by kernel_rfl) (fun _ _ _ _ h=>h) Fq ?_
 simp only[ew,ef,dW,ee];refine⟨by rfl,by rfl,?_,?_⟩
 ·intro w hSw
  (try dsimp only at hSw)
  go_simp
 simp only[Act.put,dV,dK,dL];refine ch.fe 3 (.pointer (some ⟨sb,so,none⟩)) (by kernel_rfl) (by decide) (by kernel_rfl) (by kernel_rfl) (by kernel_rfl) (fun _ _ _ _ h=>h) Fq ?_
 simp only[ew,ef,dW,ee];refine⟨by rfl,by rfl,?_,?_⟩
 ·intro w hSw
  (try dsimp only at hSw)
  go_simp
 simp only[Act.put,dV,dK,dL];refine ch.fe 4 (.int .i64 (ib:Int)) (by kernel_rfl) (by decide) (by kernel_rfl) (by kernel_rfl) (by kernel_rfl) (fun _ _ _ _ h=>h) Fq ?_
 simp only[ew,ef,dW,ee];refine⟨by rfl,by rfl,?_,?_⟩
 ·intro w hSw
  (try dsimp only at hSw)
  go_simp
 simp only[Act.put,dV,dK,dL];refine ch.fe 5 (.agg #[.int .i64 (f:Int),.int .i64 loop,.pointer pa,.slice la L.length lc]) (by kernel_rfl) (by decide) (by kernel_rfl) (by kernel_rfl) (by kernel_rfl) (fun _ _ _ _ h=>h) Fq ?_
 simp only[ew,ef,dW,ee];refine⟨by rfl,by rfl,?_,?_⟩
 ·intro w hSw
  (try dsimp only at hSw)
  go_simp
 simp only[Act.put,dV,dK,dL];refine ch.fe 6 (.int .i64 (i:Int)) (by kernel_rfl) (by decide) (by kernel_rfl) (by kernel_rfl) (by kernel_rfl) (fun _ _ _ _ h=>h) Fq ?_
 simp only[ew,ef,dW,ee];refine⟨by rfl,by rfl,?_,?_⟩
 ·intro w hSw
  (try dsimp only at hSw)
  go_simp
 simp only[Act.put,dV,dK,dL];refine ch.fe 8 (.pointer (some ⟨W1.heap.size,6,none⟩)) (by kernel_rfl) (by decide) (by kernel_rfl) (by kernel_rfl) (by kernel_rfl) (fun _ _ _ _ h=>h) Fq ?_
 simp only[ew,ef,dW,ee];refine⟨by rfl,by rfl,?_,?_⟩
 ·intro w hSw
  (try dsimp only at hSw)
  go_simp
 simp only[Act.put,dV,dK,dL];refine ch.fe 9 (.slice (some ⟨sb,so,none⟩) 2 kc) (by kernel_rfl) (by decide) (by kernel_rfl) (by kernel_rfl) (by kernel_rfl) (fun _ _ _ _ h=>h) Fq ?_
 simp only[ew,ef,dW,ee];refine⟨by rfl,by rfl,?_,?_⟩
 ·intro w hSw
  (try dsimp only at hSw)
  go_simp
 simp only[Act.put,dV,dK,dL];refine ch.fe 10 (.pointer (some ⟨sb,so+1,none⟩)) (by kernel_rfl) (by decide) (by kernel_rfl) (by kernel_rfl) (by kernel_rfl) (fun _ _ _ _ h=>h) Fq ?_
 simp only[ew,ef,dW,ee];refine⟨by rfl,by rfl,?_,?_⟩
 ·intro w hSw
  (try dsimp only at hSw)
  go_simp
 simp only[Act.put,dV,dK,dL];refine ch.fe 11 (.int .i64 (t.loc:Int)) (by kernel_rfl) (by decide) (by kernel_rfl) (by kernel_rfl) (by kernel_rfl) (fun _ _ _ _ h=>h) Fq ?_
 simp only[ew,ef,dW,ee];refine⟨by rfl,by rfl,?_,?_⟩
 ·intro w hSw
  (try dsimp only at hSw)
  go_simp
 simp only[Act.put,dV,dK,dL];refine ch.Yp 7 12 (by kernel_rfl) (fun K hK=>?_) fun K hK=>?_
 ·simp only[ew,ef,dW,ee]
  go_simp
  go_at_call 57
  with_reducible refine(WV.out _).mono ?_
  rintro e w3 ⟨rfl,hb3⟩;go_wp2_with fail
  have vB:Below W2.heap.size W2 w3:=iw hb3;refine hK.out _ _ (fun _=>⟨((cQ vB).1 _ 6 hl2).trans n6,((cQ vB).1 _ 0 oc).trans p0,((cQ vB).1 _ 1 oc).trans p1,((cQ vB).1 _ 2 oc).trans p2,((cQ vB).1 _ 3 oc).trans p3,((cQ vB).1 sb so Bp).trans y0,((cQ vB).1 sb (so+1) Bp).trans y1⟩) ?_
  clear hK K
  (try simp only[Act.put,dV,dK,dL])
  refine ch.jN 12 (by kernel_rfl) fun K hK=>?_
  simp only[ew,ef,dW,ee];go_simp
  have Yu:=vB.alloc vB.size (.cells #[.int .i64 (t.loc:Int)] 3);refine hK.out _ _ (fun _=>⟨((cQ Yu).1 _ 6 hl2).trans n6,((cQ Yu).1 _ 0 oc).trans p0,((cQ Yu).1 _ 1 oc).trans p1,((cQ Yu).1 _ 2 oc).trans p2,((cQ Yu).1 _ 3 oc).trans p3,((cQ Yu).1 sb so Bp).trans y0,((cQ Yu).1 sb (so+1) Bp).trans y1⟩) ?_
  clear hK K
  (try simp only[Act.put,dV,dK,dL])
  refine ch.jN 13 (by kernel_rfl) fun K hK=>?_
  simp only[ew,ef,dW,ee];go_simp
  go_at_call 56
  with_reducible refine(aba.out _ w3.heap.size (vB.alloc vB.size _) (heap_alloc_new _ _) vB.size).mono ?_
  intro e w4 hp;obtain⟨v,rfl⟩:=hp.ret;have HV:=aa hp;clear hp;go_wp2_with fail
  refine hK.out _ _ (fun h=>absurd h (by decide)) ?_
  clear hK K
  (try simp only[Act.put,dV,dK,dL])
  refine ch.jN 14 (by kernel_rfl) fun K hK=>?_
  simp only[ew,ef,dW,ee];go_simp
  refine hK.out _ _ (fun h=>absurd h (by decide)) ?_
  clear hK K
  (try simp only[Act.put,dV,dK,dL])
  refine ch.done (by kernel_rfl) ?_ _
  go_wp2_with fail
  go_ret
  have hE:aV (.mk i h [.mk ib hb kb,t]) f st=(vA ib f true kb [t] (dt i f (st.setOf i f))).map fun s=>s.back (st.setOf i f):=by
   rw[cb];rw[af (by have:=bT.out;omega)]
   rw[af (by have:=bT.out;omega)]
   rw[af (by have:=bT.out;omega)]
   rw[af (by have:=bT.out;omega)]
   rw[af (by have:=bT.out;omega)]
   rw[af (by have:=bT.out;omega)]
   rw[al bT.out];rw[Fp]
  rw[hE];exact HV.out.rename rfl
 ·simp only[ew,ef,dW,ee]
  go_simp
  have oW:Below W2.heap.size W2 (W2.drew.alloc (.cells #[.int .i64 (t.loc:Int)] 3)):=((Below.refl _ W2).drew).alloc (ah _) _;refine hK.out _ _ (fun _=>⟨((cQ oW).1 _ 6 hl2).trans n6,((cQ oW).1 _ 0 oc).trans p0,((cQ oW).1 _ 1 oc).trans p1,((cQ oW).1 _ 2 oc).trans p2,((cQ oW).1 _ 3 oc).trans p3,((cQ oW).1 sb so Bp).trans y0,((cQ oW).1 sb (so+1) Bp).trans y1⟩) ?_
  clear hK K
  (try simp only[Act.put,dV,dK,dL])
  refine ch.jN 7 (by kernel_rfl) fun K hK=>?_
  simp only[ew,ef,dW,ee];go_simp
  go_at_call 57
  with_reducible refine(WV.out _).mono ?_
  rintro e w3 ⟨rfl,hb3⟩;go_wp2_with fail
  have hrow:=((iw hb3).block W2.heap.size (by rw[ao];omega)).trans (heap_alloc_new W2 (.cells #[.int .i64 (t.loc:Int)] 3))
  have vB:Below W2.heap.size W2 w3:=((Below.refl _ _).alloc (ah _) _).trans ((iw hb3).mono (by rw[ao];omega))
  refine hK.out _ _ (fun _=>⟨((cQ vB).1 _ 6 hl2).trans n6,((cQ vB).1 _ 0 oc).trans p0,((cQ vB).1 _ 1 oc).trans p1,((cQ vB).1 _ 2 oc).trans p2,((cQ vB).1 _ 3 oc).trans p3,((cQ vB).1 sb so Bp).trans y0,((cQ vB).1 sb (so+1) Bp).trans y1⟩) ?_
  clear hK K
  (try simp only[Act.put,dV,dK,dL])
  refine ch.jN 13 (by kernel_rfl) fun K hK=>?_
  simp only[ew,ef,dW,ee];go_simp
  go_at_call 56
  with_reducible refine(aba.out _ W2.heap.size vB hrow (ah _)).mono ?_
  intro e w4 hp;obtain⟨v,rfl⟩:=hp.ret;have HV:=aa hp;clear hp;go_wp2_with fail
  refine hK.out _ _ (fun h=>absurd h (by decide)) ?_
  clear hK K
  (try simp only[Act.put,dV,dK,dL])
  refine ch.jN 14 (by kernel_rfl) fun K hK=>?_
  simp only[ew,ef,dW,ee];go_simp
  refine hK.out _ _ (fun h=>absurd h (by decide)) ?_
  clear hK K
  (try simp only[Act.put,dV,dK,dL])
  refine ch.done (by kernel_rfl) ?_ _
  go_wp2_with fail
  go_ret
  have hE:aV (.mk i h [.mk ib hb kb,t]) f st=(vA ib f true kb [t] (dt i f (st.setOf i f))).map fun s=>s.back (st.setOf i f):=by
   rw[cb];rw[af (by have:=bT.out;omega)]
   rw[af (by have:=bT.out;omega)]
   rw[af (by have:=bT.out;omega)]
   rw[af (by have:=bT.out;omega)]
   rw[af (by have:=bT.out;omega)]
   rw[af (by have:=bT.out;omega)]
   rw[al bT.out];rw[Fp]
  rw[hE];exact HV.out.rename rfl
theorem Yv {T:List Nd} {B b:Nat} {nv:Value} {ub ob:Nat} (gI :∀x∈T,x.s.size≤65536∧∀s∈x.names,s.size≤65536):U8 T B b nv ub ob:=fun i h ks hn ix hk=>Pa gI i h ks hn ix hk
theorem Jd {T:List Nd} {B b:Nat} {nv:Value} {ub ob:Nat} (gI :∀x∈T,x.s.size≤65536∧∀s∈x.names,s.size≤65536) (t:Lt) (hn:lq T t):bI T B b nv ub ob t:=xf gI (Yv gI) t.size t (ah _) hn
structure Sml (T:List Nd):Prop where
 kids :∀x∈T,x.kids.length≤20000∧x.names.length≤20000
 size :∀x∈T,x.s.size≤65536∧∀s∈x.names,s.size≤65536
theorem Sml.szd {T:List Nd} (h:Sml T):Szd T:=fun x hx=>by have:=(h.kids x hx).2;omega
theorem Bq (v:Value) (T:List Nd) (r:Int) (w:World) (h:ow w v T r) (hs:Sml T) (hR:ky T r=true) (t:Lt) (hr:(t.loc:Int)=r) (hn:lq T t) (mc:t.hd.kind=18) (hN:T.length≤16384) (hwt:t.wt≤50000) (hsz:t.size=T.length):Calls Tryz.prog 11 #[v] w fun e w'=>Below w.heap.size w w'∧Ty w.heap.size T.length (lR t) e w':=by
 have HT:=aa h;have HS:=aa hs;have HR:=aa hR;have HND:=aa hn;have H18:=aa mc;have HWT:=aa hwt;have qm:=aa hsz;obtain⟨nv,rfl,A,c,rfl,hc,hX⟩:=h;have Pz:t.loc<T.length:=(aK.1 (Dh hn.vk).2.1).1;have hX2 :∃bk o,A=some ⟨bk,o,none⟩∧bk<w.heap.size∧sS w bk o T:=by
  rcases hX with hX | ⟨bk,o,e,hb,hX⟩
  ·rw[hX] at Pz;cases Pz
  ·exact⟨bk,o,e,hb,hX⟩
 obtain⟨bk,o,rfl,bS,hX3⟩:=hX2;have HX:=aa hX3;subst hr;clear hX hX3 hs hR hn mc hwt hsz;go_enter Tryz.func11,Tryz.ntmps11
 go_wp2_with fail
 obtain⟨W1,hW1⟩ :∃W1,W1=(w.alloc (.cells #[.slice (some ⟨bk,o,none⟩) T.length c,.int .i64 (t.loc:Int)] 25)).alloc (.cells #[.slice none 0 0,.slice none 0 0,.slice none 0 0] 35):=⟨_,rfl⟩;have hb1:Below w.heap.size w W1:=by rw[hW1];exact Below.two _ _
 have hs1:W1.heap.size=w.heap.size+1+1:=by rw[hW1,ao,ao]
 have htr:W1.heap[w.heap.size]? = some (.cells #[.slice (some ⟨bk,o,none⟩) T.length c,.int .i64 (t.loc:Int)] 25 (0,0)):=by
  rw[hW1];exact(Below.heap_alloc _ _ _ (by rw[ao];omega)).trans (heap_alloc_new w _)
 have hsc:W1.heap[w.heap.size+1]? = some (.cells #[.slice none 0 0,.slice none 0 0,.slice none 0 0] 35 (0,0)):=by
  rw[hW1];have:=heap_alloc_new (w.alloc (.cells #[.slice (some ⟨bk,o,none⟩) T.length c,.int .i64 (t.loc:Int)] 25)) (.cells #[.slice none 0 0,.slice none 0 0,.slice none 0 0] 35);rwa[ao] at this
 rw[←hW1];have dU:=aa hb1;have HTR:=aa htr;have HSC:=aa hsc;have eM:=aa hs1;clear hW1 hb1 hsc hs1 htr;refine(I8 _ T _ W1 (HT.out.below dU.out) HS.out.szd).mono ?_;rintro e w2 ⟨rfl,b2⟩;rw[HR.out];have DC:=(b2.block (w.heap.size+1) (by rw[eM.out];omega)).trans HSC.out
 have DD:=(b2.block w.heap.size (by rw[eM.out];omega)).trans HTR.out
 have hb2:Below w.heap.size w w2:=dU.out.trans (b2.mono dU.out.size);have B2:=aa hb2;have u5:=aa DC;have yG:=aa DD;have hl2:w.heap.size+1<w2.heap.size:=(aJ.1 DC).1;have t0:w2.cell? ⟨w.heap.size,0,none⟩=some (.slice (some ⟨bk,o,none⟩) T.length c):=ab DD 0;have t1:w2.cell? ⟨w.heap.size,1,none⟩=some (.int .i64 (t.loc:Int)):=ab DD 1;clear b2 DC DD hb2 dU HTR HSC eM;obtain⟨MU,hMU⟩:=Jb T.length (by omega)
 obtain⟨MO,hMO⟩:=O9 T.length (by omega)
 have mU:=fun W=>(hMU W).1
 have mO:=fun W=>(hMO W).1
 have HMU:=aa fun W=>(hMU W).2
 have HMO:=aa fun W=>(hMO W).2
 clear hMU hMO;go_wp2_with fail
 have hK :∀W,Below w2.heap.size w2 W→W.cell? ⟨w.heap.size,0,none⟩=some (.slice (some ⟨bk,o,none⟩) T.length c):=fun W hW=>(hW.cell (p:=⟨w.heap.size,0,none⟩) (by show w.heap.size<_;omega)).trans t0
 have HK:=aa hK;clear hK;refine Jc (F:=fun ub ob b=>⟨#[.agg #[.slice (some ⟨bk,o,none⟩) T.length c,.int .i64 (t.loc:Int)],.pointer (some ⟨w.heap.size,0,none⟩),.pointer (some ⟨w.heap.size+1,0,none⟩),.nilIface,.int .i64 (T.length:Int),
  .pointer (some ⟨b,0,none⟩),undef,undef,.agg #[.slice (some ⟨bk,o,none⟩) T.length c,.int .i64 (t.loc:Int)],.bool true,.bool false,undef,undef,undef,undef,undef,.pointer (some ⟨w.heap.size,0,none⟩),.slice (some ⟨bk,o,none⟩) T.length c,.int .i64 (T.length:Int),
  .pointer (some ⟨w.heap.size,0,none⟩),.slice (some ⟨bk,o,none⟩) T.length c,.int .i64 (T.length:Int),.slice (some ⟨ub,0,none⟩) T.length T.length,.int .i64 (T.length:Int),.slice (some ⟨ob,0,none⟩) T.length T.length,
  .agg #[.slice none 0 0,.slice (some ⟨ub,0,none⟩) T.length T.length,.slice (some ⟨ob,0,none⟩) T.length T.length],.agg #[.slice (some ⟨bk,o,none⟩) T.length c,.slice none 0 0,.slice (some ⟨ub,0,none⟩) T.length T.length,.slice (some ⟨ob,0,none⟩) T.length T.length],
  undef,undef,undef,undef,undef,undef,undef,undef,undef,undef,undef,undef,undef,undef],[]⟩) (H:=fun ub ob b W=>MkZ w2 W w2.heap.size (.slice (some ⟨bk,o,none⟩) T.length c) T.length ub ob b) (fun HQ=>?_) (fun ub ob b W hM=>?_)
 ·have HQ:=aa HQ
  go_region_held3 (fun W=>W.cell? ⟨w.heap.size,0,none⟩=some (.slice (some ⟨bk,o,none⟩) T.length c)) ((apply HK.out;(repeat (first|exact Below.refl _ _|refine Below.drew ?_|refine Below.alloc ?_ (by simp;try omega) _|refine Below.setCell ?_ (by simp;try omega) _)))) (fail)
  all_goals
   refine HQ.out _ _ _ _ ⟨Bo _ _ _ _,by omega,?_,?_,?_⟩
   ·first
     | exact Tz _ _ _ _
     | exact TB _ _ _ _
     | exact TC _ _ _ _
   ·first
     | exact Vc _ _ _ _ (HMU.out _ _ (ah _))
     | exact Vd _ _ _ _ (HMU.out _ _ (by rw[ao];omega))
     | exact Ve _ _ _ _ (HMU.out _ _ (by rw[ao,ao];omega))
   ·first
     | exact Vc _ _ _ _ (HMO.out _ _ (ah _))
     | exact Vd _ _ _ _ (HMO.out _ _ (by rw[ao];omega))
     | exact Ve _ _ _ _ (HMO.out _ _ (by rw[ao,ao];omega))
 ·dsimp only
  have HM:=aa hM;have hblk:=hM.blk;have acW:=hM.below;have TD:=(hM.below.block w.heap.size (by omega)).trans yG.out
  have abb:=(hM.below.block (w.heap.size+1) (by omega)).trans u5.out
  have t0:W.cell? ⟨w.heap.size,0,none⟩=some (.slice (some ⟨bk,o,none⟩) T.length c):=ab TD 0;have t1:W.cell? ⟨w.heap.size,1,none⟩=some (.int .i64 (t.loc:Int)):=ab TD 1;have hlW:w2.heap.size≤W.heap.size:=hM.below.size;have HTRW:=aa TD;have HSCW:=aa abb;clear hM hblk acW TD abb mU mO HMU HMO;go_wp2_with fail
  obtain⟨WF,hWF⟩ :∃WF,WF=W.alloc (.cells #[.int .i64 (t.loc:Int),.int .i64 (-1),.int .i64 0,.bool true,.slice none 0 0,.slice none 0 0] 52):=⟨_,rfl⟩;rw[←hWF];have hbF:Below W.heap.size W WF:=by rw[hWF];exact(Below.refl _ _).alloc (ah _) _
  have Vf:WF.heap[W.heap.size]? = some (.cells #[.int .i64 (t.loc:Int),.int .i64 (-1),.int .i64 0,.bool true,.slice none 0 0,.slice none 0 0] 52 (0,0)):=by rw[hWF];exact heap_alloc_new _ _
  have f0:WF.cell? ⟨W.heap.size,0,none⟩=some (.int .i64 (t.loc:Int)):=ab Vf 0;have f1:WF.cell? ⟨W.heap.size,1,none⟩=some (.int .i64 (-1)):=ab Vf 1;have f2:WF.cell? ⟨W.heap.size,2,none⟩=some (.int .i64 0):=ab Vf 2;have f3:WF.cell? ⟨W.heap.size,3,none⟩=some (.bool true):=ab Vf 3;have f4:WF.cell? ⟨W.heap.size,4,none⟩=some (.slice none 0 0):=ab Vf 4;have f5:WF.cell? ⟨W.heap.size,5,none⟩=some (.slice none 0 0):=ab Vf 5;have Yw:Below w2.heap.size w2 WF:=HM.out.below.trans (hbF.mono hlW);have hRX:eV WF w2.heap.size b (.slice (some ⟨bk,o,none⟩) T.length c) T.length ⟨[],fun _=>(0,0),fun _=>0,[],[]⟩ (.slice none 0 0) ub ob []:=by
   refine⟨(hbF.block b (aJ.1 HM.out.blk).1).trans HM.out.blk,⟨World.ownsRow_nil _ _ _ _,(fun _ h=>by cases h),(fun _ h=>by cases h),(fun _ _ _ _ _ h=>by cases h),(fun _ _ _ _ _ h=>by cases h)⟩,rfl,HM.out.uses.later hbF,HM.out.pe.later hbF,HM.out.le⟩
  have HRX:=aa hRX;have acX:=aa Yw;have abc:sS w2 bk o T:=fun j x hj=>by
   obtain⟨nv,kv,h1,h2,h3⟩:=HX.out j x hj;exact⟨nv,kv,h1.below B2.out bS,h2.below B2.out,h3.below B2.out⟩
  have HTI:=aa abc;have hK2 :∀W',Below w2.heap.size WF W'→W'.cell? ⟨w.heap.size,1,none⟩=some (.int .i64 (t.loc:Int)):=fun W' Yx=>(Yx.cell (p:=⟨w.heap.size,1,none⟩) (by show w.heap.size<_;omega)).trans (ab ((Yw.block w.heap.size (by omega)).trans yG.out) 1)
  have HK2:=aa hK2;have t1F:=hK2 WF (Below.refl _ _);have HEN:=aa (fun W' (Yx:Below w2.heap.size WF W') (hr:eV W' w2.heap.size b (.slice (some ⟨bk,o,none⟩) T.length c) T.length ⟨[],fun _=>(0,0),fun _=>0,[],[]⟩ (.slice none 0 0) ub ob [])=>wW b ⟨t.loc,-1,0,true,[],[]⟩ none 0 0 ⟨[],fun _=>(0,0),fun _=>0,[],[]⟩ W' ⟨_,_,hr⟩ rfl rfl (by show 0≤100000;omega))
  have hlF:W.heap.size<WF.heap.size:=(aJ.1 Vf).1;clear hWF hbF Vf hRX Yw abc hK2;refine ch.O0 (n:=4) (S:=fun W'=>W'.cell? ⟨w.heap.size,1,none⟩=some (.int .i64 (t.loc:Int))) (by kernel_rfl) ?_
  have Fq:(fun W':World=>W'.cell? ⟨w.heap.size,1,none⟩=some (.int .i64 (t.loc:Int))) WF.drew:=t1F
  refine ch.fe 0 (.pointer (some ⟨w.heap.size,1,none⟩)) (by kernel_rfl) (by decide) (by kernel_rfl) (by kernel_rfl) (by kernel_rfl) (fun _ _ _ _ h=>h) Fq ?_
  simp only[ew,ef,dW,ee];refine⟨by rfl,by rfl,?_,?_⟩
  ·intro w hSw
   go_simp
  (try simp only[Act.put,dV,dK,dL])
  refine ch.fe 1 (.int .i64 (t.loc:Int)) (by kernel_rfl) (by decide) (by kernel_rfl) (by kernel_rfl) (by kernel_rfl) (fun _ _ _ _ h=>h) Fq ?_
  simp only[ew,ef,dW,ee];refine⟨by rfl,by rfl,?_,?_⟩
  ·intro w hSw
   go_simp
  (try simp only[Act.put,dV,dK,dL])
  refine ch.jN 2 (by kernel_rfl) fun K hK=>?_
  simp only[ew,ef,dW,ee];go_simp
  refine hK.out _ _ (fun _=>t1F) ?_
  clear hK K
  (try simp only[Act.put,dV,dK,dL])
  refine ch.jN 3 (by kernel_rfl) fun K hK=>?_
  simp only[ew,ef,dW,ee];go_simp
  go_at_call 27
  refine(HEN.out _ ((Below.refl _ _).drew) HRX.out.drew).mono ?_;rintro e w5 ⟨rfl,h1,h2,h3⟩;have hS5:=HK2.out w5 (((Below.refl _ _).drew).trans h2);have H1:=aa h1;have H2:=aa h2;clear h1 h2 h3;go_wp2_with fail
  refine hK.out _ _ (fun _=>hS5) ?_
  clear hK K
  (try simp only[Act.put,dV,dK,dL])
  have uh:Below w2.heap.size w2 w5:=acX.out.trans ((Below.refl _ _).drew.trans H2.out);have abd:eC T w2.heap.size b (.slice (some ⟨bk,o,none⟩) T.length c) ub ob 0 none (.slice none 0 0) [] [] (gZ t.loc) w5 t.wt t.size:=by
   refine⟨⟨⟨w2,bk,o,c,rfl,by have:=B2.out.size;omega,rfl,HTI.out,uh⟩,by omega,HS.out.kids⟩,H1.out,⟨⟨World.ownsRow_nil _ _ _ _,(fun _ h=>by cases h),(fun _ h=>by cases h),DU⟩,⟨rfl,rfl⟩,rfl,(fun _ h=>by cases h)⟩,(fun _ _ h=>by cases h),Oz _,?_,(fun _ h=>by cases h),?_,?_,?_⟩
   ·intro g x hx
    match g,hx with
    | 0,hx=>injection hx with hx;rw[←hx];exact⟨bK _,bK _⟩
    | g+1,hx=>cases hx
   ·have:=HWT.out
    show 0+t.wt≤100000
    omega
   ·have:=qm.out
    show 1+t.size≤100000
    omega
   ·have:=qm.out
    show 0+t.size≤100000
    omega
  have HV:=aa (Jd HS.out.size t HND.out 0 (-1) none none 0 [] [] (gZ t.loc) w5 abd (fun _=>rfl) (.inr H18.out))
  have H5:=aa uh;clear abd uh;refine ch.jN 4 (by kernel_rfl) fun K hK=>?_
  simp only[ew,ef,dW,ee];go_simp
  go_at_call 26
  refine HV.out.mono ?_;intro e w6 hp;have hE:lR t=aV t 0 (gZ t.loc):=rfl;rw[←hE] at hp;obtain⟨b9,rW⟩:=hp;have hB6:=H5.out.trans b9;have Br:=(hB6.block (w.heap.size+1) (by omega)).trans u5.out
  have s0:w6.cell? ⟨w.heap.size+1,0,none⟩=some (.slice none 0 0):=ab Br 0;have s1:w6.cell? ⟨w.heap.size+1,1,none⟩=some (.slice none 0 0):=ab Br 1;have s2:w6.cell? ⟨w.heap.size+1,2,none⟩=some (.slice none 0 0):=ab Br 2;have u0:=aw Br 0;have u1:=aw Br 1;have u2:=aw Br 2;have H6:=aa hB6;have Bt:=aa Br;clear b9 hB6 Br;obtain⟨R,hR⟩ :∃R,R=lR t:=⟨_,rfl⟩;rw[←hR] at rW;have RC:=aa hR;clear hR;cases R with
  | error x =>
   obtain⟨v,rfl,abe⟩:=rW;have HFL:=aa abe;obtain⟨g6,rfl,_⟩:=abe;go_wp2_with fail
   refine hK.out _ _ (fun h=>absurd h (by decide)) ?_
   clear hK K
   (try simp only[Act.put,dV,dK,dL])
   refine ch.jN 5 (by kernel_rfl) fun K hK=>?_
   simp only[ew,ef,dW,ee];go_simp
   refine hK.out _ _ (fun h=>absurd h (by decide)) ?_
   clear hK K
   (try simp only[Act.put,dV,dK,dL])
   refine ch.done (by kernel_rfl) ?_ _
   go_wp2_with fail
   have h7:=bA (bA (bA Bt.out 0 (.slice none 0 0)) 1 (.slice none 0 0)) 2 (.slice none 0 0);have Fj:Below w.heap.size w6 (((w6.setCell ⟨w.heap.size+1,0,none⟩ (.slice none 0 0)).setCell ⟨w.heap.size+1,1,none⟩ (.slice none 0 0)).setCell ⟨w.heap.size+1,2,none⟩ (.slice none 0 0)):=(((Below.refl _ _).setCell (p:=⟨w.heap.size+1,0,none⟩) (by show _≤w.heap.size+1;omega) _).setCell (p:=⟨w.heap.size+1,1,none⟩) (by show _≤w.heap.size+1;omega) _).setCell (p:=⟨w.heap.size+1,2,none⟩) (by show _≤w.heap.size+1;omega) _
   have TE:Fr [35] w6 (((w6.setCell ⟨w.heap.size+1,0,none⟩ (.slice none 0 0)).setCell ⟨w.heap.size+1,1,none⟩ (.slice none 0 0)).setCell ⟨w.heap.size+1,2,none⟩ (.slice none 0 0)):=((Fr.set Bt.out (by decide) _ _).trans (Fr.set (bA Bt.out 0 _) (by decide) _ _)).trans (Fr.set (bA (bA Bt.out 0 _) 1 _) (by decide) _ _)
   generalize ((w6.setCell ⟨w.heap.size+1,0,none⟩ (.slice none 0 0)).setCell ⟨w.heap.size+1,1,none⟩ (.slice none 0 0)).setCell ⟨w.heap.size+1,2,none⟩ (.slice none 0 0)=W7 at h7 Fj TE ⊢;have c0:W7.cell? ⟨w.heap.size+1,0,none⟩=some (.slice none 0 0):=ab h7 0;have c1:W7.cell? ⟨w.heap.size+1,1,none⟩=some (.slice none 0 0):=ab h7 1;have c2:W7.cell? ⟨w.heap.size+1,2,none⟩=some (.slice none 0 0):=ab h7 2;refine bodyPost_ret (v:=.tuple #[jO,.iface 83 (.pointer (some ⟨g6,0,none⟩))]) (by simp[results,Tryz.results11,go_sem,jO,c0,c1,c2]) rfl ⟨(B2.out.trans (H6.out.mono B2.out.size)).trans Fj,?_⟩
   rw[←RC.out];refine⟨_,rfl,?_⟩;obtain⟨g,e1,e2⟩:=HFL.out;exact⟨g,e1,TE.cells g _ _ _ e2 (by decide)⟩
  | ok st =>
   obtain⟨rfl,PJ,acY,_⟩:=rW;obtain⟨fv,FL,Zi⟩:=PJ;obtain⟨FA,fc,hfv,_,_⟩:=eA Zi.fns.row;subst hfv;have r1:w6.cell? ⟨b,1,none⟩=some (.slice FA FL.length fc):=ab Zi.blk 1;have r2:w6.cell? ⟨b,2,none⟩=some (.slice (some ⟨ub,0,none⟩) T.length T.length):=ab Zi.blk 2;have r3:w6.cell? ⟨b,3,none⟩=some (.slice (some ⟨ob,0,none⟩) T.length T.length):=ab Zi.blk 3;have acZ:=aa Zi;clear Zi acY;go_wp2_with fail
   refine hK.out _ _ (fun h=>absurd h (by decide)) ?_
   clear hK K
   (try simp only[Act.put,dV,dK,dL])
   refine ch.jN 5 (by kernel_rfl) fun K hK=>?_
   simp only[ew,ef,dW,ee];go_simp
   refine hK.out _ _ (fun h=>absurd h (by decide)) ?_
   clear hK K
   (try simp only[Act.put,dV,dK,dL])
   refine ch.done (by kernel_rfl) ?_ _
   go_wp2_with fail
   have h7:=bA (bA (bA Bt.out 0 (.slice FA FL.length fc)) 1 (.slice (some ⟨ub,0,none⟩) T.length T.length)) 2 (.slice (some ⟨ob,0,none⟩) T.length T.length);have Fj:Below w.heap.size w6 (((w6.setCell ⟨w.heap.size+1,0,none⟩ (.slice FA FL.length fc)).setCell ⟨w.heap.size+1,1,none⟩ (.slice (some ⟨ub,0,none⟩) T.length T.length)).setCell ⟨w.heap.size+1,2,none⟩ (.slice (some ⟨ob,0,none⟩) T.length T.length)):=(((Below.refl _ _).setCell (p:=⟨w.heap.size+1,0,none⟩) (by show _≤w.heap.size+1;omega) _).setCell (p:=⟨w.heap.size+1,1,none⟩) (by show _≤w.heap.size+1;omega) _).setCell (p:=⟨w.heap.size+1,2,none⟩) (by show _≤w.heap.size+1;omega) _
   have TE:Fr [35] w6 (((w6.setCell ⟨w.heap.size+1,0,none⟩ (.slice FA FL.length fc)).setCell ⟨w.heap.size+1,1,none⟩ (.slice (some ⟨ub,0,none⟩) T.length T.length)).setCell ⟨w.heap.size+1,2,none⟩ (.slice (some ⟨ob,0,none⟩) T.length T.length)):=((Fr.set Bt.out (by decide) _ _).trans (Fr.set (bA Bt.out 0 _) (by decide) _ _)).trans (Fr.set (bA (bA Bt.out 0 _) 1 _) (by decide) _ _)
   generalize ((w6.setCell ⟨w.heap.size+1,0,none⟩ (.slice FA FL.length fc)).setCell ⟨w.heap.size+1,1,none⟩ (.slice (some ⟨ub,0,none⟩) T.length T.length)).setCell ⟨w.heap.size+1,2,none⟩ (.slice (some ⟨ob,0,none⟩) T.length T.length)=W7 at h7 Fj TE ⊢;have c0:W7.cell? ⟨w.heap.size+1,0,none⟩=some (.slice FA FL.length fc):=ab h7 0;have c1:W7.cell? ⟨w.heap.size+1,1,none⟩=some (.slice (some ⟨ub,0,none⟩) T.length T.length):=ab h7 1;have c2:W7.cell? ⟨w.heap.size+1,2,none⟩=some (.slice (some ⟨ob,0,none⟩) T.length T.length):=ab h7 2;refine bodyPost_ret (v:=.tuple #[.agg #[.slice FA FL.length fc,.slice (some ⟨ub,0,none⟩) T.length T.length,.slice (some ⟨ob,0,none⟩) T.length T.length],.nilIface]) (by simp[results,Tryz.results11,go_sem,c0,c1,c2]) rfl ⟨(B2.out.trans (H6.out.mono B2.out.size)).trans Fj,?_⟩
   rw[←RC.out];exact⟨_,_,B2.out.size,rfl,(acZ.out.fr TE (by decide)).scope⟩
mutual
def Every (Q:Nd→Prop):Ast→Prop
 | .mk h ks=>Q h∧pn Q ks
def pn (Q:Nd→Prop):List Ast→Prop
 | []=>True
 | a::xs=>Every Q a∧pn Q xs
end
mutual
theorem Bu :∀a:Ast,Ln a→Every Pr a
 | .mk h ks,hs=>by
  unfold Ln at hs;unfold Every;exact⟨hs.1,xg ks hs.2⟩
theorem xg :∀l:List Ast,Ju l→pn Pr l
 | [],_=>by unfold pn;trivial
 | a::l,hs=>by
  unfold Ju at hs;unfold pn;exact⟨Bu a hs.1,xg l hs.2⟩
end
mutual
theorem gJ.every {T:List Nd} {Q:Nd→Prop} (hQ :∀h ks,Q h→Q { h with kids:=ks}) :∀(a:Ast) (i:Nat) (js:List Nat),gJ T a i js→Every Q a→∀j∈js,∀x,T[j]? = some x→Q x
 | .mk h xs,i,js,hr,hs=>by
  unfold gJ at hr;unfold Every at hs;obtain⟨x,rK,hx,he,hr2,rfl⟩:=hr;intro j hj y hy;rcases bq.1 hj with rfl|hj
  ·rw[hx] at hy
   injection hy with hy;rw[←hy,he];exact hQ h _ hs.1
  ·exact bs.every hQ xs x.kids rK hr2 hs.2 j hj y hy
theorem bs.every {T:List Nd} {Q:Nd→Prop} (hQ :∀h ks,Q h→Q { h with kids:=ks}) :∀(l:List Ast) (ks:List Int) (js:List Nat),bs T l ks js→pn Q l→∀j∈js,∀x,T[j]? = some x→Q x
 | [],ks,js,hr,_=>by
  unfold bs at hr;obtain⟨_,rfl⟩:=hr;intro j hj;simp at hj
 | a::l,ks,js,hr,hs=>by
  unfold bs at hr;unfold pn at hs;obtain⟨k,ic,j1,j2,rfl,h1,h2,rfl⟩:=hr;intro j hj y hy;rcases dj.1 hj with hj|hj
  ·exact gJ.every hQ a k j1 h1 hs.1 j hj y hy
  ·exact bs.every hQ l ic j2 h2 hs.2 j hj y hy
end
theorem ei.alone {T:List Nd} {a:Ast} {p:Nat} (h:ei [] T [a] [(p:Int)]) :∃js,gJ T a p js∧js.Nodup∧js.length=T.length∧∀j,j<T.length→j∈js:=by
 obtain⟨_,js,hr,wG⟩:=h;unfold bs at hr;obtain⟨k,ic,j1,j2,ek,hr1,hr2,ej⟩:=hr;unfold bs at hr2;obtain⟨_,rfl⟩:=hr2;have ek2:k=p:=by injection ek with ek _;omega
 subst ek2;rw[iX] at ej;subst ej;exact⟨_,hr1,wG.nodup_iff.2 (List.nodup_range' ..),by rw[wG.length_eq,JU];simp,fun j hj=>wG.mem_iff.2 (by rw[List.mem_range'_1];simp;exact hj)⟩
theorem ei.every {T:List Nd} {a:Ast} {p:Nat} {Q:Nd→Prop} (h:ei [] T [a] [(p:Int)]) (hQ :∀h ks,Q h→Q { h with kids:=ks}) (hs:Every Q a) :∀x∈T,Q x:=fun x hx=>by
 obtain⟨js,h1,h2,h3,h4⟩:=h.alone;obtain⟨j,hj⟩:=kD.1 hx;exact gJ.every hQ a p js h1 hs j (h4 j (aK.1 hj).1) x hj
theorem yH (x:Nd) (ks:List Int):cR { x with kids:=ks}=cR x:=rfl
theorem DE {s:ByteArray} (h:gw s=true):s.size≤65536:=by
 unfold gw at h;simp only[di] at h;exact iB h.1.1.1.2
mutual
theorem Pb :∀(a:Ast) (t:Lt),yT id a.lt t→t.wt=a.wt
 | .mk h as',.mk i x ks,hs=>by
  rw[Ast.lt] at hs;unfold yT at hs;obtain⟨_,_,_,h4,h5⟩:=hs;have h4:x.names=h.names.map id:=h4;have h5:dI id (Ast.yU as') ks:=h5;rw[Lt.wt,Ast.wt,Fs as' ks h5,h4,List.map_id]
theorem Fs :∀(l:List Ast) (ks:List Lt),dI id (Ast.yU l) ks→Lt.ec ks=Ast.ec l
 | [],ks,hs=>by
  rw[Ast.yU] at hs;unfold dI at hs;rw[hs,Lt.ec,Ast.ec]
 | a::l,ks,hs=>by
  rw[Ast.yU] at hs;unfold dI at hs;obtain⟨t,ts,rfl,h1,h2⟩:=hs;rw[Lt.ec,Ast.ec,Pb a t h1,Fs l ts h2]
end
theorem Bv {T:List Nd} {r:Int} (h:ky T r=true) :∀x∈T,∀s∈x.names,s.size≤65536:=fun x hx s hs=>by
 obtain⟨h1,h2,h3,h4⟩:=(fZ cR pt gg).1 h;obtain⟨i,hi⟩:=kD.1 hx;exact DE ((OE ((tn cR pt gg).1 (h4 i x hi)).2.1).all s hs)
structure Bw (a:Ast):Prop where
 ok:Ast.ok cR pt gg a=true
 kind:a.hd.kind=18
 sm:Ln a
 size:a.size≤16384
 wt:a.wt≤50000
def abf (s:ByteArray):Prop:=∀(ts ax:List aj) (a:Ast),jQ (dc s) s.data.toList (.ok ts)→ts.length≤s.size+1→PL oM ts (.ok (a,ax))→Bw a
theorem TF {s:ByteArray} {ts ax:List aj} {a:Ast} (hl:jQ (dc s) s.data.toList (.ok ts)) (hp:PL oM ts (.ok (a,ax))) (ha:Bw a):abf s:=fun il ac0 a2 h1 _ h2=>by
 have e1:=hl.sA h1;injection e1 with e1;subst e1;have e2:=hp.one h2;injection e2 with e2;injection e2 with e2 _;subst e2;exact ha
structure abg (T:List Nd) (p:Nat) (a:Ast) (t:Lt):Prop where
 right:ky T (p:Int)=true
 sml:Sml T
 few:T.length≤16384
 vk:Lt.In T t
 loc:t.loc=p
 nodup:t.gM.Nodup
 all :∀j,j<T.length↔j∈t.gM
 nod:lq T t
 kind:t.hd.kind=18
 wt:t.wt≤50000
 size:t.size=T.length
 sim:yT id a.lt t
theorem Pc {a:Ast} {T:List Nd} {p:Nat} (hA:Bw a) (hd:a.depth≤100) (hL:ei [] T [a] [(p:Int)]) :∃t,abg T p a t:=by
 have hm:=hA.sm;have hN:T.length≤16384:=by
  have h1:=hL.len;have h2:=hA.size;rw[tX] at h1;simp at h1;omega
 obtain⟨js,r1,r2,r3,r4⟩:=hL.alone;have hrt:ky T (p:Int)=true:=by
  unfold ky;rw[FU yH r1 r2 r3 hN,hA.ok,bZ hd,bZ hA.kind];rfl
 have h1:=hL.every (Q:=Pr) (fun x ks hx=>hx) (Bu a hm)
 obtain⟨t,e1,e2,e3,e4⟩:=Nl a p js r1;have hlt:=gJ.lt a p js r1;have bt :∀x∈T,x.kids.length≤20000:=fun x hx=>by
  obtain⟨_,_,_,h4⟩:=(fZ cR pt gg).1 hrt;obtain⟨d,m,hs,_,_⟩:=FJ cR pt gg hrt;obtain⟨i,hi⟩:=kD.1 hx;have:=(Bn hs hi).2;omega
 have hk:t.hd.kind=18:=by
  obtain⟨_,_,h3,_⟩:=(fZ cR pt gg).1 hrt;have:=(Dh e1).2.1;rw[e2] at this;rw[←h3,iz,nH this]
 have hT :∀x∈T,pt x.kind x.num (x.kids.map fun k=>gg (dH T k.toNat))=true:=fun x hx=>by
  obtain⟨_,_,_,h4⟩:=(fZ cR pt gg).1 hrt;obtain⟨i,hi⟩:=kD.1 hx;exact((tn cR pt gg).1 (h4 i x hi)).2.2
 refine⟨t,hrt,⟨fun x hx=>⟨bt x hx,by have:=(h1 x hx).2.2.2.1;omega⟩,fun x hx=>⟨by have:=(h1 x hx).2.2.1;omega,Bv hrt x hx⟩⟩,hN,e1,e2,by rw[e3];exact r2,fun j=>by rw[e3];exact⟨r4 j,hlt j⟩,Yg hT e1 (by rw[e3];exact r2) (by rw[hk];decide),hk,?_,?_,e4⟩
 ·rw[Pb a t e4]
  exact hA.wt
 ·rw[←Lt.wJ,e3,r3]
theorem Je:(Tryz.prog.info? 79).map (·.comparable)=some true:=by kernel_rfl
theorem xh (m k:Int) (w:World):(binOp .eql 27 (.iface 79 (.int .i64 m)) (.iface 79 (.int .i64 k))).run Tryz.prog w=.ok (.bool (m == k)) w:=Lib.run_eql_iface_int w m k Tryz.underlying27 Je Tryz.underlying79
theorem Yy (v:Value) (n:Int) (k:Nat) (w:World) (h:nj w) (hf:MX w v n (k:Int)) (hk:1≤k∧k≤19):Calls Tryz.prog 13 #[v] w fun e w'=>e=.returned (.tuple #[.int .i64 (k:Int),.int .i64 n])∧Below w.heap.size w w':=by
 obtain⟨g,rfl,hg⟩:=hf;have qN:g<w.heap.size:=(aJ.1 hg).1;have A1:=aa (Sn g w h);have HG:=aa hg;clear h hg;go_enter Tryz.func13,Tryz.ntmps13
 go_wp2_with fail
 refine A1.out.mono ?_;rintro e w1 ⟨rfl,hc,hb⟩;have hg1:w1.heap[g]? = _:=(hb.block g qN).trans HG.out;have HB:=aa hb;have HI:=aa (Sq g n (k:Int) w1 (fun w=>by rw[xh];simp) hg1)
 have HN:=aa (fun(j:Nat) (hj:j<k)=>Sr g n (k:Int) (j:Int) w1 (fun w=>by rw[xh];congr 2;exact aG.2 (by omega)) hg1)
 have hc0:w1.cell? ⟨g,0,none⟩=some (.int .i64 n):=by simp[World.cell?,hg1]
 clear hg1 hb;go_wp2_with fail
 go_loop [5] (fun i=>∃j:Nat,1≤j∧j≤k∧i=.int .i64 j) (fun i=>k-(intOf i).toNat)
 case atStart=>exact⟨1,by omega,by omega,rfl⟩
 case round =>
  obtain⟨j,hj1,hj5,rfl⟩:=hrel;have hle:decide ((j:Int)≤19)=true:=bZ (by omega)
  by_cases hjk:j<k
  ·have N1:=aa (HN.out j hjk)
   go_wp2_with (go_at_call 30;refine N1.out.mono ?_;rintro e w' ⟨rfl,rfl⟩)
   go_round
   case rel=>exact⟨j+1,by omega,by omega,by go_num⟩
   case measure=>simp[intOf];omega
  ·obtain rfl:j=k:=by omega
   go_wp2_with (go_at_call 30;refine HI.out.mono ?_;rintro e w' ⟨rfl,rfl⟩)
   go_quiet (fail)
   go_wp2_with fail
   go_ret2
   exact⟨rfl,HB.out.trans ⟨rfl,rfl,rfl,ah _,fun _ _=>rfl⟩⟩
def abh (B N:Nat) (v:Value) (r:Rs aF) (e:Ending) (w':World):Prop :=
 match r with
 | .ok st=>∃sv B',B≤B'∧e=.returned (.tuple #[v,sv,.int .i64 0])∧kz w' B' N sv st
 | .error x=>e=.returned (.tuple #[v,jO,.int .i64 x.1])
def Ft (s:ByteArray):Prop:=∃o,jQ (dc s) s.data.toList o∧match o with
 | .error _=>True
 | .ok ts=>∃q,PL oM ts q∧match q with
  | .error _=>True
  | .ok (a,_)=>100<a.depth
def TG (s:ByteArray) (w:World) (e:Ending) (w':World):Prop :=
 Below w.heap.size w w'∧((Ft s∧e=.returned (.tuple #[gy,jO,.int .i64 (-1)])) ∨
  ∃(ts ax:List aj) (a:Ast) (v:Value) (T:List Nd) (p:Nat) (t:Lt),(∃A n c q,v=.agg #[.slice A n c,.int .i64 q])∧jQ (dc s) s.data.toList (.ok ts)∧ts.length≤s.size+1∧PL oM ts (.ok (a,ax))∧a.depth≤100∧abg T p a t∧abh w.heap.size T.length v (lR t) e w')
theorem kz.fr {E:List Nat} {W W':World} {B N:Nat} {v:Value} {st:aF} (h:kz W B N v st) (k:Fr E W W') (he:(52:Nat)∉E∧(61:Nat)∉E∧(59:Nat)∉E∧(57:Nat)∉E∧(3:Nat)∉E):kz W' B N v st:=by
 obtain⟨fv,ub,ob,L,e,h1,h2,h3,h4⟩:=h;exact⟨fv,ub,ob,L,e,⟨k.row h1.row he.1,fun t ht=>k.row (h1.vars t ht) he.2.1,fun t ht=>k.row (h1.cz t ht) he.2.2.1,h1.qi,h1.rn⟩,h2,k.row h3 he.2.2.2.1,k.row h4 he.2.2.2.2⟩
theorem kz.form {W:World} {B N:Nat} {v:Value} {st:aF} (h:kz W B N v st) :∃A n c ub ob,v=.agg #[.slice A n c,.slice (some ⟨ub,0,none⟩) N N,.slice (some ⟨ob,0,none⟩) N N]:=by
 obtain⟨fv,ub,ob,L,e,h1,_⟩:=h;obtain⟨A,c,rfl,_,_⟩:=eA h1.row;exact⟨A,_,c,ub,ob,e⟩
theorem rE {w w2:World} (hl:w.heap.size+1<w2.heap.size) {x0 x1 y0 y1 y2:Value} (h1:w2.heap[w.heap.size]? = some (.cells #[x0,x1] 25 (0,0))) (h2:w2.heap[w.heap.size+1]? = some (.cells #[y0,y1,y2] 35 (0,0))) (a b c d e:Value) :
  ∃W,W=((((w2.setCell ⟨w.heap.size,0,none⟩ a).setCell ⟨w.heap.size,1,none⟩ b).setCell ⟨w.heap.size+1,0,none⟩ c).setCell ⟨w.heap.size+1,1,none⟩ d).setCell ⟨w.heap.size+1,2,none⟩ e∧W.heap.size=w2.heap.size∧Below w.heap.size w2 W∧Fr [25,35] w2 W ∧
   (∀W',Below w2.heap.size W W'→W'.cell? ⟨w.heap.size,0,none⟩=some a∧W'.cell? ⟨w.heap.size,1,none⟩=some b∧W'.cell? ⟨w.heap.size+1,0,none⟩=some c∧W'.cell? ⟨w.heap.size+1,1,none⟩=some d∧W'.cell? ⟨w.heap.size+1,2,none⟩=some e):=by
 have t1:=bA h1 0 a;have t2:=bA t1 1 b;have far :∀(W:World) (j:Nat) (v:Value) (o:Obj),W.heap[w.heap.size+1]? = some o→(W.setCell ⟨w.heap.size,j,none⟩ v).heap[w.heap.size+1]? = some o:=fun W j v o h=>(Below.heap_setCell W ⟨w.heap.size,j,none⟩ v _ (by show w.heap.size+1≠w.heap.size;omega)).trans h
 have ql :∀(W:World) (j:Nat) (v:Value) (o:Obj),W.heap[w.heap.size]? = some o→(W.setCell ⟨w.heap.size+1,j,none⟩ v).heap[w.heap.size]? = some o:=fun W j v o h=>(Below.heap_setCell W ⟨w.heap.size+1,j,none⟩ v _ (by show w.heap.size≠w.heap.size+1;omega)).trans h
 have s0:=far _ 1 b _ (far _ 0 a _ h2);have s1:=bA s0 0 c;have s2:=bA s1 1 d;have s3:=bA s2 2 e;have u3:=ql _ 2 e _ (ql _ 1 d _ (ql _ 0 c _ t2));refine⟨_,rfl,by simp[World.setCell],?_,?_,fun W' hW=>?_⟩
 ·exact((((((Below.refl _ _).setCell (p:=⟨w.heap.size,0,none⟩) (ah _) _).setCell (p:=⟨w.heap.size,1,none⟩) (ah _) _).setCell (p:=⟨w.heap.size+1,0,none⟩) (fX _) _).setCell (p:=⟨w.heap.size+1,1,none⟩) (fX _) _).setCell (p:=⟨w.heap.size+1,2,none⟩) (fX _) _)
 ·exact((((Fr.set h1 (by decide) _ _).trans (Fr.set t1 (by decide) _ _)).trans (Fr.set s0 (by decide) _ _)).trans (Fr.set s1 (by decide) _ _)).trans (Fr.set s2 (by decide) _ _)
 ·have k1:=(hW.block w.heap.size (by omega)).trans u3
  have k2:=(hW.block (w.heap.size+1) (by omega)).trans s3
  exact⟨ab k1 0,ab k1 1,ab k2 0,ab k2 1,ab k2 2⟩
theorem ac1 (s:ByteArray) (w:World) (hs:s.size≤4000) (hE:nj w) (hK:abf s):Calls Tryz.prog 16 #[.string s] w (TG s w):=by
 have HE:=aa hE;have HS:=aa hs;have HK:=aa hK;clear hE hs hK;go_enter Tryz.func16,Tryz.ntmps16
 go_wp2_with fail
 obtain⟨W1,hW1⟩ :∃W1,W1=(w.alloc (.cells #[.slice none 0 0,.int .i64 0] 25)).alloc (.cells #[.slice none 0 0,.slice none 0 0,.slice none 0 0] 35):=⟨_,rfl⟩;have hb1:Below w.heap.size w W1:=by rw[hW1];exact Below.two _ _
 have hs1:W1.heap.size=w.heap.size+1+1:=by rw[hW1,ao,ao]
 have htr:W1.heap[w.heap.size]? = some (.cells #[.slice none 0 0,.int .i64 0] 25 (0,0)):=by
  rw[hW1];exact(Below.heap_alloc _ _ _ (by rw[ao];omega)).trans (heap_alloc_new w _)
 have hsc:W1.heap[w.heap.size+1]? = some (.cells #[.slice none 0 0,.slice none 0 0,.slice none 0 0] 35 (0,0)):=by
  rw[hW1];have:=heap_alloc_new (w.alloc (.cells #[.slice none 0 0,.int .i64 0] 25)) (.cells #[.slice none 0 0,.slice none 0 0,.slice none 0 0] 35);rwa[ao] at this
 rw[←hW1];have dU:=aa hb1;have HTR:=aa htr;have HSC:=aa hsc;have eM:=aa hs1;clear hW1 hb1 hsc hs1 htr;refine(So s W1 (by have:=HS.out;omega) (HE.out.below dU.out) fun ts ax a h1 h2 h3=>(HK.out ts ax a h1 h2 h3).size).mono ?_
 rintro e w2 ⟨b2,o,ho,hm⟩;have B2:=aa (dU.out.trans (b2.mono dU.out.size));have DD:=(b2.block w.heap.size (by rw[eM.out];omega)).trans HTR.out
 have DC:=(b2.block (w.heap.size+1) (by rw[eM.out];omega)).trans HSC.out
 have hl2:w.heap.size+1<w2.heap.size:=(aJ.1 DC).1;have hl0:w.heap.size<w2.heap.size:=by omega
 have key:(∃l m g,e=.returned (.tuple #[gy,.iface 83 (.pointer (some ⟨g,0,none⟩))])∧MX w2 (.iface 83 (.pointer (some ⟨g,0,none⟩))) l m∧Ft s)∨∃ts ax a v T p,e=.returned (.tuple #[v,.nilIface])∧jQ (dc s) s.data.toList (.ok ts)∧ts.length≤s.size+1∧PL oM ts (.ok (a,ax))∧a.depth≤100∧ow w2 v T ((p:Nat):Int)∧ei [] T [a] [((p:Nat):Int)]:=by
  cases o with
  | error n =>
   obtain⟨v,h1,h2⟩:=hm;obtain⟨g,rfl,h3⟩:=h2;exact .inl ⟨_,_,g,h1,⟨g,rfl,h3⟩,_,ho,trivial⟩
  | ok ts =>
   obtain⟨hlen,q,hq,hm⟩:=hm;cases q with
   | error l =>
    obtain⟨v,h1,h2⟩:=hm;obtain⟨g,rfl,h3⟩:=h2;exact .inl ⟨_,_,g,h1,⟨g,rfl,h3⟩,_,ho,_,hq,trivial⟩
   | ok z =>
    obtain⟨a,ax⟩:=z;rcases hm with ⟨hd,v,h1,h2⟩ | ⟨hd,v,T,p,h1,h2,h3⟩
    ·obtain⟨g,rfl,h3⟩:=h2
     exact .inl ⟨_,_,g,h1,⟨g,rfl,h3⟩,_,ho,_,hq,hd⟩
    ·exact .inr ⟨ts,ax,a,v,T,p,h1,ho,hlen,hq,hd,h2,h3⟩
 have yG:=aa DD;have u5:=aa DC;clear hm ho DD DC b2 HTR HSC eM dU;rcases key with ⟨l,m,g,rfl,_,hnr⟩ | ⟨ts,ax,a,v,T,p,rfl,hlx,hlen,hP,hd,hv,hL⟩
 ·have HNR:=aa hnr
  clear hnr;have x0:w2.cell? ⟨w.heap.size,0,none⟩=some (.slice none 0 0):=ab yG.out 0;have x1:w2.cell? ⟨w.heap.size,1,none⟩=some (.int .i64 0):=ab yG.out 1;have y0:w2.cell? ⟨w.heap.size+1,0,none⟩=some (.slice none 0 0):=ab u5.out 0;have y1:w2.cell? ⟨w.heap.size+1,1,none⟩=some (.slice none 0 0):=ab u5.out 1;have y2:w2.cell? ⟨w.heap.size+1,2,none⟩=some (.slice none 0 0):=ab u5.out 2;have f0:=aw yG.out 0;have f1:=aw yG.out 1;have g0:=aw u5.out 0;have g1:=aw u5.out 1;have g2:=aw u5.out 2;unfold gy;go_wp2_with fail
  obtain⟨W7,vz,hs7,Fj,TE,hc7⟩:=rE hl2 yG.out u5.out (.slice none 0 0) (.int .i64 0) (.slice none 0 0) (.slice none 0 0) (.slice none 0 0);rw[←vz];obtain⟨c0,c1,d0,d1,d2⟩:=hc7 (W7.alloc (.cells #[.slice none 0 0,.int .i64 0] 25)) ((Below.refl _ _).alloc (by rw[hs7];exact ah _) _)
  refine bodyPost_ret (v:=.tuple #[gy,jO,.int .i64 (-1)]) (by simp[results,Tryz.results16,go_sem,jO,gy,c0,c1,d0,d1,d2]) rfl ⟨(B2.out.trans Fj).trans ((Below.refl _ _).alloc (by rw[hs7];omega) _),.inl ⟨HNR.out,rfl⟩⟩
 ·obtain⟨t,hst⟩:=Pc (HK.out _ _ _ hlx hlen hP) hd hL
  obtain⟨nv,rfl,A,c,rfl,hc,hX⟩:=hv;have hA :∃bk o,A=some ⟨bk,o,none⟩:=by
   rcases hX with h0 | ⟨bk,o,e,_⟩
   ·have:=hst.size
    rw[h0] at this;rw[AG] at this;simp at this
   ·exact⟨bk,o,e⟩
  obtain⟨bk,o,rfl⟩:=hA;have hv:ow w2 (.agg #[.slice (some ⟨bk,o,none⟩) T.length c,.int .i64 ((p:Nat):Int)]) T ((p:Nat):Int):=⟨_,rfl,_,c,rfl,hc,hX⟩;have HV:=aa hv;have HST:=aa hst;have By:=aa (And.intro hlx (And.intro hlen (And.intro hP hd)));have To:=aa (fun W (hW:Below w2.heap.size w2 W)=>Bq _ T (p:Int) W (hv.below hW) hst.sml hst.right t (by rw[hst.loc]) hst.nod hst.kind hst.few hst.wt hst.size)
  clear hv hst hX hlx hlen hP hd hL;go_wp2_with fail
  refine(To.out _ ((Below.refl _ _).alloc (ah _) _)).mono ?_;rintro e w4 ⟨b4,h4⟩;have b4':=b4;rw[ao] at b4';have BX:Below w2.heap.size w2 w4:=((Below.refl _ _).alloc (ah _) _).trans (b4.mono (by rw[ao];omega))
  have abi:=(BX.block w.heap.size (by omega)).trans yG.out
  have abj:=(BX.block (w.heap.size+1) (by omega)).trans u5.out
  have Yz:=(b4'.block w2.heap.size (by omega)).trans (heap_alloc_new w2 (.cells #[.slice (some ⟨bk,o,none⟩) T.length c,.int .i64 ((p:Nat):Int)] 25))
  have hl4:w2.heap.size<w4.heap.size:=(aJ.1 Yz).1;have XP:=aa BX;have abk:=aa abi;have abl:=aa abj;have abm:=aa Yz;obtain⟨R,hR⟩ :∃R,R=lR t:=⟨_,rfl⟩;rw[←hR] at h4;have RC:=aa hR;have JC:=aa (ym t);rw[←hR] at JC;clear b4 b4' BX abi abj Yz hR;cases R with
  | error x =>
   obtain⟨v,rfl,hf⟩:=h4;obtain⟨k,hk,hk8⟩:=JC.out x rfl;have HF:=aa hf;obtain⟨g4,rfl,_⟩:=hf;unfold jO;go_wp2_with fail
   have hEn:nj (w4.alloc (.cells #[.slice none 0 0,.slice none 0 0,.slice none 0 0] 35)):=(HE.out.below ((B2.out.trans (XP.out.mono B2.out.size)).trans ((Below.refl _ _).alloc (by omega) _)))
   refine(Yy _ x.2 k _ hEn ?_ (by omega)).mono ?_
   ·obtain⟨g,e1,e2⟩:=HF.out
    exact⟨g,e1,(Below.heap_alloc w4 _ g (aJ.1 e2).1).trans (by rw[e2,hk])⟩
   rintro e w5 ⟨rfl,b5⟩;have uh:Below w4.heap.size w4 w5:=((Below.refl _ _).alloc (ah _) _).trans (b5.mono (by rw[ao];omega))
   have u7:=(b5.block w4.heap.size (by rw[ao];omega)).trans (heap_alloc_new w4 (.cells #[.slice none 0 0,.slice none 0 0,.slice none 0 0] 35))
   have u9:=(uh.block w.heap.size (by omega)).trans abk.out
   have po:=(uh.block (w.heap.size+1) (by omega)).trans abl.out
   have DF:=(uh.block w2.heap.size (by omega)).trans abm.out
   have hl5:w4.heap.size<w5.heap.size:=(aJ.1 u7).1;have q0:=ab u9 0;have q1:=ab u9 1;have q2:=aw u9 0;have q3:=aw u9 1;have r0:=ab po 0;have r1:=ab po 1;have r2:=ab po 2;have r3:=aw po 0;have r4:=aw po 1;have r5:=aw po 2;have p0:w5.cell? ⟨w2.heap.size,0,none⟩=some (.slice (some ⟨bk,o,none⟩) T.length c):=ab DF 0;have p1:w5.cell? ⟨w2.heap.size,1,none⟩=some (.int .i64 (p:Int)):=ab DF 1;have s0:w5.cell? ⟨w4.heap.size,0,none⟩=some (.slice none 0 0):=ab u7 0;have s1:w5.cell? ⟨w4.heap.size,1,none⟩=some (.slice none 0 0):=ab u7 1;have s2:w5.cell? ⟨w4.heap.size,2,none⟩=some (.slice none 0 0):=ab u7 2;replace q0:w5.cell? ⟨w.heap.size,0,none⟩=some (.slice none 0 0):=q0;replace q1:w5.cell? ⟨w.heap.size,1,none⟩=some (.int .i64 0):=q1;replace r0:w5.cell? ⟨w.heap.size+1,0,none⟩=some (.slice none 0 0):=r0;replace r1:w5.cell? ⟨w.heap.size+1,1,none⟩=some (.slice none 0 0):=r1;replace r2:w5.cell? ⟨w.heap.size+1,2,none⟩=some (.slice none 0 0):=r2;have US:=aa uh;clear b5 uh DF u7;go_wp2_with fail
   go_region
   go_wp2_with fail
   obtain⟨W7,vz,hs7,Fj,TE,hc7⟩:=rE (w:=w) (w2:=w5) (by omega) u9 po (.slice (some ⟨bk,o,none⟩) T.length c) (.int .i64 (p:Int)) (.slice none 0 0) (.slice none 0 0) (.slice none 0 0)
   rw[←vz];obtain⟨c0,c1,d0,d1,d2⟩:=hc7 W7.drew (Below.refl _ _).drew;refine bodyPost_ret (v:=.tuple #[.agg #[.slice (some ⟨bk,o,none⟩) T.length c,.int .i64 (p:Int)],jO,.int .i64 (k:Int)]) (by simp[results,Tryz.results16,go_sem,jO,c0,c1,d0,d1,d2]) rfl ⟨(((B2.out.trans (XP.out.mono B2.out.size)).trans (US.out.mono (by omega))).trans Fj).drew,.inr ⟨ts,ax,a,.agg #[.slice (some ⟨bk,o,none⟩) T.length c,.int .i64 (p:Int)],T,p,t,⟨_,_,_,_,rfl⟩,By.out.1,By.out.2.1,By.out.2.2.1,By.out.2.2.2,HST.out,?_⟩⟩
   rw[←RC.out];show _=_
   rw[hk]
  | ok st =>
   obtain⟨v,B',hB',rfl,hsz⟩:=h4;have qm:=aa hsz;rw[ao] at hB';obtain⟨FA,fn,fc,ub,ob,rfl⟩:=hsz.form;clear hsz;go_wp2_with fail
   refine(M5 _).mono ?_;rintro e w5 ⟨rfl,rfl⟩;obtain⟨w5,ik⟩ :∃w5,w5=w4.alloc (.cells #[.slice FA fn fc,.slice (some ⟨ub,0,none⟩) T.length T.length,.slice (some ⟨ob,0,none⟩) T.length T.length] 35):=⟨_,rfl⟩;have uh:Below w4.heap.size w4 w5:=by rw[ik];exact(Below.refl _ _).alloc (ah _) _
   have u7:w5.heap[w4.heap.size]? = some (.cells #[.slice FA fn fc,.slice (some ⟨ub,0,none⟩) T.length T.length,.slice (some ⟨ob,0,none⟩) T.length T.length] 35 (0,0)):=by rw[ik];exact heap_alloc_new _ _
   rw[←ik];clear ik;have u9:=(uh.block w.heap.size (by omega)).trans abk.out
   have po:=(uh.block (w.heap.size+1) (by omega)).trans abl.out
   have DF:=(uh.block w2.heap.size (by omega)).trans abm.out
   have hl5:w4.heap.size<w5.heap.size:=(aJ.1 u7).1;have q0:=ab u9 0;have q1:=ab u9 1;have q2:=aw u9 0;have q3:=aw u9 1;have r0:=ab po 0;have r1:=ab po 1;have r2:=ab po 2;have r3:=aw po 0;have r4:=aw po 1;have r5:=aw po 2;have p0:w5.cell? ⟨w2.heap.size,0,none⟩=some (.slice (some ⟨bk,o,none⟩) T.length c):=ab DF 0;have p1:w5.cell? ⟨w2.heap.size,1,none⟩=some (.int .i64 (p:Int)):=ab DF 1;have s0:w5.cell? ⟨w4.heap.size,0,none⟩=some (.slice FA fn fc):=ab u7 0;have s1:w5.cell? ⟨w4.heap.size,1,none⟩=some (.slice (some ⟨ub,0,none⟩) T.length T.length):=ab u7 1;have s2:w5.cell? ⟨w4.heap.size,2,none⟩=some (.slice (some ⟨ob,0,none⟩) T.length T.length):=ab u7 2;replace q0:w5.cell? ⟨w.heap.size,0,none⟩=some (.slice none 0 0):=q0;replace q1:w5.cell? ⟨w.heap.size,1,none⟩=some (.int .i64 0):=q1;replace r0:w5.cell? ⟨w.heap.size+1,0,none⟩=some (.slice none 0 0):=r0;replace r1:w5.cell? ⟨w.heap.size+1,1,none⟩=some (.slice none 0 0):=r1;replace r2:w5.cell? ⟨w.heap.size+1,2,none⟩=some (.slice none 0 0):=r2;have US:=aa uh;clear uh DF u7;go_wp2_with fail
   go_region
   go_wp2_with fail
   obtain⟨W7,vz,hs7,Fj,TE,hc7⟩:=rE (w:=w) (w2:=w5) (by omega) u9 po (.slice (some ⟨bk,o,none⟩) T.length c) (.int .i64 (p:Int)) (.slice FA fn fc) (.slice (some ⟨ub,0,none⟩) T.length T.length) (.slice (some ⟨ob,0,none⟩) T.length T.length)
   rw[←vz];obtain⟨c0,c1,d0,d1,d2⟩:=hc7 W7.drew (Below.refl _ _).drew;refine bodyPost_ret (v:=.tuple #[.agg #[.slice (some ⟨bk,o,none⟩) T.length c,.int .i64 (p:Int)],.agg #[.slice FA fn fc,.slice (some ⟨ub,0,none⟩) T.length T.length,.slice (some ⟨ob,0,none⟩) T.length T.length],.int .i64 0]) (by simp[results,Tryz.results16,go_sem,c0,c1,d0,d1,d2]) rfl ⟨(((B2.out.trans (XP.out.mono B2.out.size)).trans (US.out.mono (by omega))).trans Fj).drew,.inr ⟨ts,ax,a,.agg #[.slice (some ⟨bk,o,none⟩) T.length c,.int .i64 (p:Int)],T,p,t,⟨_,_,_,_,rfl⟩,By.out.1,By.out.2.1,By.out.2.2.1,By.out.2.2.2,HST.out,?_⟩⟩
   rw[←RC.out];exact⟨_,B',by have:=B2.out.size;omega,rfl,(qm.out.fr (E:=[25,35]) ((Fr.ae US.out).trans TE.drew) (by decide))⟩
def YA (q:UInt8):List UInt8→Option (List UInt8×List UInt8)
 | []=>none
 | c::r=>if c=q then some ([],r) else if c=10∨c=92 then none else (YA q r).map fun x=>(c::x.1,x.2)
theorem xi {q:UInt8} :∀{l:List UInt8} {z:List UInt8×List UInt8},YA q l=some z→xE q l (some z)
 | [],z,h=>by cases h
 | c::r,z,h=>by
  unfold YA at h;by_cases h1:c=q
  ·rw[al h1] at h
   injection h with h;rw[←h,h1];exact .shut
  ·rw[af h1] at h
   by_cases h2:c=10∨c=92
   ·rw[al h2] at h;cases h
   ·rw[af h2] at h
    cases hq:YA q r with
    | none=>rw[hq] at h;cases h
    | some x =>
     rw[hq] at h;injection h with h;rw[←h];exact .byte (o:=some x) h1 (fun e=>h2 (.inl e)) (fun e=>h2 (.inr e)) (xi hq)
def tkF:List UInt8→Option (Int×Int×List UInt8×List UInt8)
 | []=>none
 | c::r=>if vm c then some (if pK ((c::r).takeWhile mB) then 2 else 1,0,(c::r).takeWhile mB,(c::r).dropWhile mB)
  else if gj c then (if pF 9223372036854775807 ((c::r).takeWhile oN) then some (3,yL (tq 9223372036854775807 ((c::r).takeWhile oN):Int),[],(c::r).dropWhile oN) else none)
  else if D7 c then (YA c r).map fun x=>(4,0,x.1,x.2)
  else if 0<opn (c::r) then none
  else (sign (c::r)).map fun x=>(5,0,x.1,x.2)
theorem Jf {l:List UInt8} {z:Int×Int×List UInt8×List UInt8} (h:tkF l=some z):Tok l (some z):=by
 cases l with
 | nil=>cases h
 | cons c r =>
  change(if vm c=true then some (if pK ((c::r).takeWhile mB) then 2 else 1,0,(c::r).takeWhile mB,(c::r).dropWhile mB)
   else if gj c=true then (if pF 9223372036854775807 ((c::r).takeWhile oN)=true then some (3,yL (tq 9223372036854775807 ((c::r).takeWhile oN):Int),[],(c::r).dropWhile oN) else none)
   else if D7 c=true then (YA c r).map fun x=>(4,0,x.1,x.2)
   else if 0<opn (c::r) then none
   else (sign (c::r)).map fun x=>(5,0,x.1,x.2))=some z at h
  by_cases h1:vm c=true
  ·rw[al h1] at h
   rw[←h];exact .name h1
  ·rw[af h1] at h
   have h1:vm c=false:=by simpa using h1
   by_cases h2:gj c=true
   ·rw[al h2] at h
    by_cases h3:pF 9223372036854775807 ((c::r).takeWhile oN)=true
    ·rw[al h3] at h
     rw[←h];exact .num h1 h2 h3
    ·rw[af h3] at h;cases h
   ·rw[af h2] at h
    have h2:gj c=false:=by simpa using h2
    by_cases h3:D7 c=true
    ·rw[al h3] at h
     cases hq:YA c r with
     | none=>rw[hq] at h;cases h
     | some x =>
      rw[hq] at h;rw[←h];exact .text (o:=some x) h1 h2 h3 (xi hq)
    ·rw[af h3] at h
     have h3:D7 c=false:=by simpa using h3
     by_cases h4:0<opn (c::r)
     ·rw[al h4] at h;cases h
     ·rw[af h4] at h
      rw[←h];exact .sign h1 h2 h3 h4
def yV (L:Int):Nat→List UInt8→Option (List Tk)
 | 0,_=>none
 | n+1,l=>if Lib.hasPrefix (l.dropWhile pH) [45,45] then none else
  match l.dropWhile pH with
  | []=>some [(0,L,0,[])]
  | c::t=>match tkF (c::t) with
   | none=>none
   | some (k,m,s,r)=>(yV L n r).map ((k,L-nl (c::t),m,s) :: ·)
theorem jo {L:Int} :∀(n:Nat) (l:List UInt8) (ts:List Tk),yV L n l=some ts→jQ L l (.ok ts)
 | 0,l,ts,h=>by cases h
 | n+1,l,ts,h=>by
  unfold yV at h;by_cases hp:Lib.hasPrefix (l.dropWhile pH) [45,45]=true
  ·rw[al hp] at h;cases h
  ·rw[af hp] at h
   have hp:Lib.hasPrefix (l.dropWhile pH) [45,45]=false:=by simpa using hp
   cases hd:l.dropWhile pH with
   | nil =>
    rw[hd] at h hp;injection h with h;rw[←h];exact .eof (.done hd hp)
   | cons c t =>
    rw[hd] at h hp;dsimp only at h
    cases ht:tkF (c::t) with
    | none=>rw[ht] at h;cases h
    | some z =>
     obtain⟨k,m,s,r⟩:=z;rw[ht] at h;dsimp only at h
     cases hr:yV L n r with
     | none=>rw[hr] at h;cases h
     | some ax =>
      rw[hr] at h;injection h with h;rw[←h];exact .step (o:=.ok ax) (.done hd hp) (by simp) (Jf ht) (jo n r ax hr)
end Go.Proofs.YteflkdlaoiijbaaGreatDoor
namespace Go.Proofs.YteflkdlaoiijbaaGreatDoor
section
variable {N:Type} {V:N→Type} (body :∀n,G N V (V n))
def run:Nat→{α:Type}→G N V α→List aj→Option (Except Int (α×List aj))
 | 0,_,_,_=>none
 | _+1,_,.ret a,ts=>some (.ok (a,ts))
 | _+1,_,.bad,[]=>none
 | _+1,_,.bad,t::_=>some (.error t.2.1)
 | _+1,_,.tok _,[]=>none
 | n+1,_,.tok f,t::ts=>run n (f t) ts
 | _+1,_,.look _,[]=>none
 | n+1,_,.look f,t::ts=>run n (f t) (t::ts)
 | n+1,_,.call m k,ts=>match run n (body m) ts with
  | none=>none
  | some (.error e)=>some (.error e)
  | some (.ok p)=>run n (k p.1) p.2
variable {body}
theorem ia :∀(n:Nat) {α:Type} (g:G N V α) (ts:List aj) (r:Except Int (α×List aj)),run body n g ts=some r→P body g ts r:=by
 intro n;induction n with
 | zero=>intro α g ts r h;cases h
 | succ n ih =>
  intro α g ts r h;cases g with
  | ret a =>
   rw[run] at h;rw[←gO h];exact .ret
  | bad =>
   cases ts with
   | nil=>rw[run] at h;cases h
   | cons t ts =>
    rw[run] at h;rw[←gO h];exact .bad
  | tok f =>
   cases ts with
   | nil=>rw[run] at h;cases h
   | cons t ts=>rw[run] at h;exact .tok (ih _ _ _ h)
  | look f =>
   cases ts with
   | nil=>rw[run] at h;cases h
   | cons t ts=>rw[run] at h;exact .look (ih _ _ _ h)
  | call m k =>
   rw[run] at h;cases e:run body n (body m) ts with
   | none=>rw[e] at h;cases h
   | some q =>
    rw[e] at h;cases q with
    | error x =>
     rw[←gO h];exact .ie (ih _ _ _ e)
    | ok p=>exact .call (ih _ _ (.ok (p.1,p.2)) e) (ih _ _ _ h)
end
def mj (s:List UInt8):aj:=(1,1,0,s)
def nD (s:List UInt8):aj:=(5,1,0,s)
end Go.Proofs.YteflkdlaoiijbaaGreatDoor
namespace Go.Proofs.YteflkdlaoiijbaaGreatDoor
def wd (s:List UInt8):aj:=(2,1,0,s)
def nuT (n:Int):aj:=(3,1,n,[])
def Pd:ByteArray:=⟨#[108,111,99,97,108,32,97,59,32,114,101,116,117,114,110,32,102,117,110,99,116,105,111,110,40,41,32,114,101,116,117,114,110,32,97,44,32,98,32,101,110,100]⟩
def Pe:ByteArray:=⟨#[103,111,116,111,32,108,59,32,108,111,99,97,108,32,120,59,32,58,58,108,58,58,32,120,32,61,32,49]⟩
def Pf:ByteArray:=⟨#[103,111,116,111,32,108,59,32,108,111,99,97,108,32,120,59,32,58,58,108,58,58]⟩
def Vg:List aj:=[wd fx,mj [97],nD [59],wd ig,wd ba,nD [40],nD [41],wd ig,mj [97],nD [44],mj [98],wd iC,kj]
def Pg (r:List aj):List aj:=[wd rM,mj [108],nD [59],wd fx,mj [120],nD [59],nD [58,58],mj [108],nD [58,58]]++r
def Vh:List aj:=Pg [mj [120],nD [61],nuT 1,kj]
def Fu:Ast:=nd 18 1 [ve 19 1 0 [bC [97]] [],nd 29 1 [ve 11 1 0 [] [nd 18 1 [nd 29 1 [ma 7 1 (bC [97]) [],ma 7 1 (bC [98]) []]]]]]
def xj (r:List Ast):Ast:=nd 18 1 ([ma 31 1 (bC [108]) [],ve 19 1 0 [bC [120]] [],ma 32 1 (bC [108]) []]++r)
def Fv:Ast:=xj [Jm 20 1 1 [ma 7 1 (bC [120]) [],Jm 4 1 1 []]]
theorem abn:PL oM Vg (.ok (Fu,[kj])):=ia 100 _ _ _ rfl
theorem abo:PL oM Vh (.ok (Fv,[kj])):=ia 100 _ _ _ rfl
theorem abp:PL oM (Pg [kj]) (.ok (xj [],[kj])):=ia 100 _ _ _ rfl
theorem ac2:yV (dc Pd) (Pd.data.toList.length+1) Pd.data.toList=some Vg:=by decide +kernel
theorem ac3:yV (dc Pe) (Pe.data.toList.length+1) Pe.data.toList=some Vh:=by decide +kernel
theorem ac4:yV (dc Pf) (Pf.data.toList.length+1) Pf.data.toList=some (Pg [kj]):=by decide +kernel
def TH (a:Ast):Int×List (List Bool×List (Bool×Nat)) :=
 match lR a.lt with
 | .ok st=>(0,st.fns.map fun x=>(x.vars.map mq.cap,x.cz.map fun u=>(u.loc,u.idx)))
 | .error x=>(x.1,[])
theorem ac5:TH Fu=(0,[([true],[]),([],[(true,0)])]):=by rfl
theorem ac6:TH Fv=(10,[]):=by rfl
theorem ac7:TH (xj [])=(0,[([false],[])]):=by rfl
end Go.Proofs.YteflkdlaoiijbaaGreatDoor
