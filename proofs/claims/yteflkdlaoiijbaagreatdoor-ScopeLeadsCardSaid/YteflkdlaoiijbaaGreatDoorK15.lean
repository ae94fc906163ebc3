/- Parts of the proof. -/
import Derived.Test.YteflkdlaoiijbaaGreatDoorCards
import Derived.Test.YteflkdlaoiijbaaGreatDoorTie
import Derived.ProofKit
import Derived.LaidMore
import Derived.LaidHandle
import Derived.Lay
import Derived.OpenShut
import Derived.SizedLaws
import Derived.Stop.Joined
import Derived.Stop.LaidErr
import Derived.Lib.LaidTab
import Derived.Lib.SmallJoins
import Derived.ChangeSlices
import Derived.SliceStrings
import Derived.Deep.Slices
import Derived.Deep.Strs
import Derived.Test.YteflkdlaoiijbaaGreatDoorK14
set_option maxHeartbeats 16000000
set_option maxRecDepth 20000
namespace Go.Proofs.YteflkdlaoiijbaaGreatDoor
open Go.RowKit
def aby (B N:Nat) (v:Value) (r:Rs aH) (e:Ending) (w':World):Prop :=
 match r with
 | .ok st=>∃sv B',B≤B'∧e=.returned (.tuple #[v,sv,.int .i64 0])∧kH w' B' N sv st
 | .error x=>e=.returned (.tuple #[v,gP,.int .i64 x.1])
def FW (s:ByteArray):Prop:=∃o,ky (dy s) s.data.toList o∧match o with
 | .error _=>True
 | .ok ts=>∃q,PL rf ts q∧match q with
  | .error _=>True
  | .ok (a,_)=>100<a.depth
def TZ (s:ByteArray) (w:World) (e:Ending) (w':World):Prop :=
 Below w.heap.size w w'∧((FW s∧e=.returned (.tuple #[gD,gP,.int .i64 (-1)])) ∨
  ∃(ts ax:List aj) (a:Ast) (v:Value) (T:List Nd) (p:Nat) (t:Lt),(∃A n c q,v=.agg #[.slice A n c,.int .i64 q])∧ky (dy s) s.data.toList (.ok ts)∧ts.length≤s.size+1∧PL rf ts (.ok (a,ax))∧a.depth≤100∧abx T p a t∧aby w.heap.size T.length v (my t) e w')
theorem kH.fr {E:List Nat} {W W':World} {B N:Nat} {v:Value} {st:aH} (h:kH W B N v st) (k:Fr E W W') (he:(52:Nat)∉E∧(61:Nat)∉E∧(59:Nat)∉E∧(57:Nat)∉E∧(3:Nat)∉E):kH W' B N v st:=by
 obtain⟨fv,ub,ob,L,e,h1,h2,h3,h4⟩:=h;exact⟨fv,ub,ob,L,e,⟨k.row h1.row he.1,fun t ht=>k.row (h1.vars t ht) he.2.1,fun t ht=>k.row (h1.ch t ht) he.2.2.1,h1.pD,h1.qB⟩,h2,k.row h3 he.2.2.2.1,k.row h4 he.2.2.2.2⟩
theorem kH.form {W:World} {B N:Nat} {v:Value} {st:aH} (h:kH W B N v st) :∃A n c ub ob,v=.agg #[.slice A n c,.slice (some ⟨ub,0,none⟩) N N,.slice (some ⟨ob,0,none⟩) N N]:=by
 obtain⟨fv,ub,ob,L,e,h1,_⟩:=h;obtain⟨A,c,rfl,_,_⟩:=dv h1.row;exact⟨A,_,c,ub,ob,e⟩
theorem r9 {w w2:World} (hl:w.heap.size+1<w2.heap.size) {x0 x1 y0 y1 y2:Value} (h1:w2.heap[w.heap.size]? = some (.cells #[x0,x1] 25 (0,0))) (h2:w2.heap[w.heap.size+1]? = some (.cells #[y0,y1,y2] 35 (0,0))) (a b c d e:Value) :
  ∃W,W=((((w2.setCell ⟨w.heap.size,0,none⟩ a).setCell ⟨w.heap.size,1,none⟩ b).setCell ⟨w.heap.size+1,0,none⟩ c).setCell ⟨w.heap.size+1,1,none⟩ d).setCell ⟨w.heap.size+1,2,none⟩ e∧W.heap.size=w2.heap.size∧Below w.heap.size w2 W∧Fr [25,35] w2 W ∧
   (∀W',Below w2.heap.size W W'→W'.cell? ⟨w.heap.size,0,none⟩=some a∧W'.cell? ⟨w.heap.size,1,none⟩=some b∧W'.cell? ⟨w.heap.size+1,0,none⟩=some c∧W'.cell? ⟨w.heap.size+1,1,none⟩=some d∧W'.cell? ⟨w.heap.size+1,2,none⟩=some e):=by
 have t1:=bt h1 0 a;have t2:=bt t1 1 b;have far :∀(W:World) (j:Nat) (v:Value) (o:Obj),W.heap[w.heap.size+1]? = some o→(W.setCell ⟨w.heap.size,j,none⟩ v).heap[w.heap.size+1]? = some o:=fun W j v o h=>(Below.heap_setCell W ⟨w.heap.size,j,none⟩ v _ (by show w.heap.size+1≠w.heap.size;omega)).trans h
 have qE :∀(W:World) (j:Nat) (v:Value) (o:Obj),W.heap[w.heap.size]? = some o→(W.setCell ⟨w.heap.size+1,j,none⟩ v).heap[w.heap.size]? = some o:=fun W j v o h=>(Below.heap_setCell W ⟨w.heap.size+1,j,none⟩ v _ (by show w.heap.size≠w.heap.size+1;omega)).trans h
 have s0:=far _ 1 b _ (far _ 0 a _ h2);have s1:=bt s0 0 c;have s2:=bt s1 1 d;have s3:=bt s2 2 e;have u3:=qE _ 2 e _ (qE _ 1 d _ (qE _ 0 c _ t2));refine⟨_,rfl,by simp[World.setCell],?_,?_,fun W' hW=>?_⟩
 ·exact((((((Below.refl _ _).setCell (p:=⟨w.heap.size,0,none⟩) (ah _) _).setCell (p:=⟨w.heap.size,1,none⟩) (ah _) _).setCell (p:=⟨w.heap.size+1,0,none⟩) (gd _) _).setCell (p:=⟨w.heap.size+1,1,none⟩) (gd _) _).setCell (p:=⟨w.heap.size+1,2,none⟩) (gd _) _)
 ·exact((((Fr.set h1 (by decide) _ _).trans (Fr.set t1 (by decide) _ _)).trans (Fr.set s0 (by decide) _ _)).trans (Fr.set s1 (by decide) _ _)).trans (Fr.set s2 (by decide) _ _)
 ·have k1:=(hW.block w.heap.size (by omega)).trans u3
  have k2:=(hW.block (w.heap.size+1) (by omega)).trans s3
  exact⟨ab k1 0,ab k1 1,ab k2 0,ab k2 1,ab k2 2⟩
theorem adn (s:ByteArray) (w:World) (hs:s.size≤4000) (hE:oA w) (hK:abw s):Calls Tryz.prog 16 #[.string s] w (TZ s w):=by
 have HE:=aa hE;have HS:=aa hs;have HK:=aa hK;clear hE hs hK;go_enter Tryz.func16,Tryz.ntmps16
 go_wp2_with fail
 obtain⟨W1,hW1⟩ :∃W1,W1=(w.alloc (.cells #[.slice none 0 0,.int .i64 0] 25)).alloc (.cells #[.slice none 0 0,.slice none 0 0,.slice none 0 0] 35):=⟨_,rfl⟩;have hb1:Below w.heap.size w W1:=by rw[hW1];exact Below.two _ _
 have hs1:W1.heap.size=w.heap.size+1+1:=by rw[hW1,an,an]
 have Js:W1.heap[w.heap.size]? = some (.cells #[.slice none 0 0,.int .i64 0] 25 (0,0)):=by
  rw[hW1];exact(Below.heap_alloc _ _ _ (by rw[an];omega)).trans (heap_alloc_new w _)
 have hsc:W1.heap[w.heap.size+1]? = some (.cells #[.slice none 0 0,.slice none 0 0,.slice none 0 0] 35 (0,0)):=by
  rw[hW1];have:=heap_alloc_new (w.alloc (.cells #[.slice none 0 0,.int .i64 0] 25)) (.cells #[.slice none 0 0,.slice none 0 0,.slice none 0 0] 35);rwa[an] at this
 rw[←hW1];have dL:=aa hb1;have HTR:=aa Js;have YT:=aa hsc;have eM:=aa hs1;clear hW1 hb1 hsc hs1 Js;refine(SE s W1 (by have:=HS.out;omega) (HE.out.below dL.out) fun ts ax a h1 h2 h3=>(HK.out ts ax a h1 h2 h3).size).mono ?_
 rintro e w2 ⟨b2,o,ho,hm⟩;have B2:=aa (dL.out.trans (b2.mono dL.out.size));have D0:=(b2.block w.heap.size (by rw[eM.out];omega)).trans HTR.out
 have nS:=(b2.block (w.heap.size+1) (by rw[eM.out];omega)).trans YT.out
 have hl2:w.heap.size+1<w2.heap.size:=(aF.1 nS).1;have hl0:w.heap.size<w2.heap.size:=by omega
 have key:(∃l m g,e=.returned (.tuple #[gD,.iface 83 (.pointer (some ⟨g,0,none⟩))])∧Nc w2 (.iface 83 (.pointer (some ⟨g,0,none⟩))) l m∧FW s)∨∃ts ax a v T p,e=.returned (.tuple #[v,.nilIface])∧ky (dy s) s.data.toList (.ok ts)∧ts.length≤s.size+1∧PL rf ts (.ok (a,ax))∧a.depth≤100∧kU w2 v T ((p:Nat):Int)∧ep [] T [a] [((p:Nat):Int)]:=by
  cases o with
  | error n =>
   obtain⟨v,h1,h2⟩:=hm;obtain⟨g,rfl,h3⟩:=h2;exact .inl ⟨_,_,g,h1,⟨g,rfl,h3⟩,_,ho,trivial⟩
  | ok ts =>
   obtain⟨hlen,q,hq,hm⟩:=hm;cases q with
   | error l =>
    obtain⟨v,h1,h2⟩:=hm;obtain⟨g,rfl,h3⟩:=h2;exact .inl ⟨_,_,g,h1,⟨g,rfl,h3⟩,_,ho,_,hq,trivial⟩
   | ok z =>
    obtain⟨a,ax⟩:=z;rcases hm with ⟨hd,v,h1,h2⟩ | ⟨hd,v,T,p,h1,h2,h3⟩
    ·obtain⟨g,rfl,h3⟩:=h2
     exact .inl ⟨_,_,g,h1,⟨g,rfl,h3⟩,_,ho,_,hq,hd⟩
    ·exact .inr ⟨ts,ax,a,v,T,p,h1,ho,hlen,hq,hd,h2,h3⟩
 have zj:=aa D0;have rZ:=aa nS;clear hm ho D0 nS b2 HTR YT eM dL;rcases key with ⟨l,m,g,rfl,_,hnr⟩ | ⟨ts,ax,a,v,T,p,rfl,hlx,hlen,hP,hd,hv,hL⟩
 ·have HNR:=aa hnr
  clear hnr;have x0:w2.cell? ⟨w.heap.size,0,none⟩=some (.slice none 0 0):=ab zj.out 0;have x1:w2.cell? ⟨w.heap.size,1,none⟩=some (.int .i64 0):=ab zj.out 1;have y0:w2.cell? ⟨w.heap.size+1,0,none⟩=some (.slice none 0 0):=ab rZ.out 0;have y1:w2.cell? ⟨w.heap.size+1,1,none⟩=some (.slice none 0 0):=ab rZ.out 1;have y2:w2.cell? ⟨w.heap.size+1,2,none⟩=some (.slice none 0 0):=ab rZ.out 2;have f0:=av zj.out 0;have f1:=av zj.out 1;have g0:=av rZ.out 0;have g1:=av rZ.out 1;have g2:=av rZ.out 2;unfold gD;go_wp2_with fail
  obtain⟨W7,wi,hs7,FI,TX,hc7⟩:=r9 hl2 zj.out rZ.out (.slice none 0 0) (.int .i64 0) (.slice none 0 0) (.slice none 0 0) (.slice none 0 0);rw[←wi];obtain⟨c0,c1,d0,d1,d2⟩:=hc7 (W7.alloc (.cells #[.slice none 0 0,.int .i64 0] 25)) ((Below.refl _ _).alloc (by rw[hs7];exact ah _) _)
  refine bodyPost_ret (v:=.tuple #[gD,gP,.int .i64 (-1)]) (by simp[results,Tryz.results16,go_sem,gP,gD,c0,c1,d0,d1,d2]) rfl ⟨(B2.out.trans FI).trans ((Below.refl _ _).alloc (by rw[hs7];omega) _),.inl ⟨HNR.out,rfl⟩⟩
 ·obtain⟨t,hst⟩:=Pw (HK.out _ _ _ hlx hlen hP) hd hL
  obtain⟨nv,rfl,A,c,rfl,hc,hX⟩:=hv;have hA :∃bk o,A=some ⟨bk,o,none⟩:=by
   rcases hX with h0 | ⟨bk,o,e,_⟩
   ·have:=hst.size
    rw[h0] at this;rw[Bb] at this;simp at this
   ·exact⟨bk,o,e⟩
  obtain⟨bk,o,rfl⟩:=hA;have hv:kU w2 (.agg #[.slice (some ⟨bk,o,none⟩) T.length c,.int .i64 ((p:Nat):Int)]) T ((p:Nat):Int):=⟨_,rfl,_,c,rfl,hc,hX⟩;have HV:=aa hv;have HST:=aa hst;have Ca:=aa (And.intro hlx (And.intro hlen (And.intro hP hd)));have Jf:=aa (fun W (hW:Below w2.heap.size w2 W)=>sU _ T (p:Int) W (hv.below hW) hst.sml hst.right t (by rw[hst.loc]) hst.nod hst.kind hst.few hst.wt hst.size)
  clear hv hst hX hlx hlen hP hd hL;go_wp2_with fail
  refine(Jf.out _ ((Below.refl _ _).alloc (ah _) _)).mono ?_;rintro e w4 ⟨b4,h4⟩;have b4':=b4;rw[an] at b4';have Cq:Below w2.heap.size w2 w4:=((Below.refl _ _).alloc (ah _) _).trans (b4.mono (by rw[an];omega))
  have abz:=(Cq.block w.heap.size (by omega)).trans zj.out
  have abA:=(Cq.block (w.heap.size+1) (by omega)).trans rZ.out
  have YW:=(b4'.block w2.heap.size (by omega)).trans (heap_alloc_new w2 (.cells #[.slice (some ⟨bk,o,none⟩) T.length c,.int .i64 ((p:Nat):Int)] 25))
  have hl4:w2.heap.size<w4.heap.size:=(aF.1 YW).1;have Yj:=aa Cq;have abB:=aa abz;have abC:=aa abA;have abD:=aa YW;obtain⟨R,hR⟩ :∃R,R=my t:=⟨_,rfl⟩;rw[←hR] at h4;have RT:=aa hR;have JP:=aa (yT t);rw[←hR] at JP;clear b4 b4' Cq abz abA YW hR;cases R with
  | error x =>
   obtain⟨v,rfl,hf⟩:=h4;obtain⟨k,hk,hk8⟩:=JP.out x rfl;have HF:=aa hf;obtain⟨g4,rfl,_⟩:=hf;unfold gP;go_wp2_with fail
   have hEn:oA (w4.alloc (.cells #[.slice none 0 0,.slice none 0 0,.slice none 0 0] 35)):=(HE.out.below ((B2.out.trans (Yj.out.mono B2.out.size)).trans ((Below.refl _ _).alloc (by omega) _)))
   refine(YV _ x.2 k _ hEn ?_ (by omega)).mono ?_
   ·obtain⟨g,e1,e2⟩:=HF.out
    exact⟨g,e1,(Below.heap_alloc w4 _ g (aF.1 e2).1).trans (by rw[e2,hk])⟩
   rintro e w5 ⟨rfl,b5⟩;have uQ:Below w4.heap.size w4 w5:=((Below.refl _ _).alloc (ah _) _).trans (b5.mono (by rw[an];omega))
   have vF:=(b5.block w4.heap.size (by rw[an];omega)).trans (heap_alloc_new w4 (.cells #[.slice none 0 0,.slice none 0 0,.slice none 0 0] 35))
   have vG:=(uQ.block w.heap.size (by omega)).trans abB.out
   have pJ:=(uQ.block (w.heap.size+1) (by omega)).trans abC.out
   have D4:=(uQ.block w2.heap.size (by omega)).trans abD.out
   have hl5:w4.heap.size<w5.heap.size:=(aF.1 vF).1;have q0:=ab vG 0;have q1:=ab vG 1;have q2:=av vG 0;have q3:=av vG 1;have r0:=ab pJ 0;have r1:=ab pJ 1;have r2:=ab pJ 2;have r3:=av pJ 0;have r4:=av pJ 1;have r5:=av pJ 2;have p0:w5.cell? ⟨w2.heap.size,0,none⟩=some (.slice (some ⟨bk,o,none⟩) T.length c):=ab D4 0;have p1:w5.cell? ⟨w2.heap.size,1,none⟩=some (.int .i64 (p:Int)):=ab D4 1;have s0:w5.cell? ⟨w4.heap.size,0,none⟩=some (.slice none 0 0):=ab vF 0;have s1:w5.cell? ⟨w4.heap.size,1,none⟩=some (.slice none 0 0):=ab vF 1;have s2:w5.cell? ⟨w4.heap.size,2,none⟩=some (.slice none 0 0):=ab vF 2;replace q0:w5.cell? ⟨w.heap.size,0,none⟩=some (.slice none 0 0):=q0;replace q1:w5.cell? ⟨w.heap.size,1,none⟩=some (.int .i64 0):=q1;replace r0:w5.cell? ⟨w.heap.size+1,0,none⟩=some (.slice none 0 0):=r0;replace r1:w5.cell? ⟨w.heap.size+1,1,none⟩=some (.slice none 0 0):=r1;replace r2:w5.cell? ⟨w.heap.size+1,2,none⟩=some (.slice none 0 0):=r2;have Ve:=aa uQ;clear b5 uQ D4 vF;go_wp2_with fail
   go_region
   go_wp2_with fail
   obtain⟨W7,wi,hs7,FI,TX,hc7⟩:=r9 (w:=w) (w2:=w5) (by omega) vG pJ (.slice (some ⟨bk,o,none⟩) T.length c) (.int .i64 (p:Int)) (.slice none 0 0) (.slice none 0 0) (.slice none 0 0)
   rw[←wi];obtain⟨c0,c1,d0,d1,d2⟩:=hc7 W7.drew (Below.refl _ _).drew;refine bodyPost_ret (v:=.tuple #[.agg #[.slice (some ⟨bk,o,none⟩) T.length c,.int .i64 (p:Int)],gP,.int .i64 (k:Int)]) (by simp[results,Tryz.results16,go_sem,gP,c0,c1,d0,d1,d2]) rfl ⟨(((B2.out.trans (Yj.out.mono B2.out.size)).trans (Ve.out.mono (by omega))).trans FI).drew,.inr ⟨ts,ax,a,.agg #[.slice (some ⟨bk,o,none⟩) T.length c,.int .i64 (p:Int)],T,p,t,⟨_,_,_,_,rfl⟩,Ca.out.1,Ca.out.2.1,Ca.out.2.2.1,Ca.out.2.2.2,HST.out,?_⟩⟩
   rw[←RT.out];show _=_
   rw[hk]
  | ok st =>
   obtain⟨v,B',hB',rfl,hsz⟩:=h4;have qF:=aa hsz;rw[an] at hB';obtain⟨FA,fn,fc,ub,ob,rfl⟩:=hsz.form;clear hsz;go_wp2_with fail
   refine(Nk _).mono ?_;rintro e w5 ⟨rfl,rfl⟩;obtain⟨w5,ix⟩ :∃w5,w5=w4.alloc (.cells #[.slice FA fn fc,.slice (some ⟨ub,0,none⟩) T.length T.length,.slice (some ⟨ob,0,none⟩) T.length T.length] 35):=⟨_,rfl⟩;have uQ:Below w4.heap.size w4 w5:=by rw[ix];exact(Below.refl _ _).alloc (ah _) _
   have vF:w5.heap[w4.heap.size]? = some (.cells #[.slice FA fn fc,.slice (some ⟨ub,0,none⟩) T.length T.length,.slice (some ⟨ob,0,none⟩) T.length T.length] 35 (0,0)):=by rw[ix];exact heap_alloc_new _ _
   rw[←ix];clear ix;have vG:=(uQ.block w.heap.size (by omega)).trans abB.out
   have pJ:=(uQ.block (w.heap.size+1) (by omega)).trans abC.out
   have D4:=(uQ.block w2.heap.size (by omega)).trans abD.out
   have hl5:w4.heap.size<w5.heap.size:=(aF.1 vF).1;have q0:=ab vG 0;have q1:=ab vG 1;have q2:=av vG 0;have q3:=av vG 1;have r0:=ab pJ 0;have r1:=ab pJ 1;have r2:=ab pJ 2;have r3:=av pJ 0;have r4:=av pJ 1;have r5:=av pJ 2;have p0:w5.cell? ⟨w2.heap.size,0,none⟩=some (.slice (some ⟨bk,o,none⟩) T.length c):=ab D4 0;have p1:w5.cell? ⟨w2.heap.size,1,none⟩=some (.int .i64 (p:Int)):=ab D4 1;have s0:w5.cell? ⟨w4.heap.size,0,none⟩=some (.slice FA fn fc):=ab vF 0;have s1:w5.cell? ⟨w4.heap.size,1,none⟩=some (.slice (some ⟨ub,0,none⟩) T.length T.length):=ab vF 1;have s2:w5.cell? ⟨w4.heap.size,2,none⟩=some (.slice (some ⟨ob,0,none⟩) T.length T.length):=ab vF 2;replace q0:w5.cell? ⟨w.heap.size,0,none⟩=some (.slice none 0 0):=q0;replace q1:w5.cell? ⟨w.heap.size,1,none⟩=some (.int .i64 0):=q1;replace r0:w5.cell? ⟨w.heap.size+1,0,none⟩=some (.slice none 0 0):=r0;replace r1:w5.cell? ⟨w.heap.size+1,1,none⟩=some (.slice none 0 0):=r1;replace r2:w5.cell? ⟨w.heap.size+1,2,none⟩=some (.slice none 0 0):=r2;have Ve:=aa uQ;clear uQ D4 vF;go_wp2_with fail
   go_region
   go_wp2_with fail
   obtain⟨W7,wi,hs7,FI,TX,hc7⟩:=r9 (w:=w) (w2:=w5) (by omega) vG pJ (.slice (some ⟨bk,o,none⟩) T.length c) (.int .i64 (p:Int)) (.slice FA fn fc) (.slice (some ⟨ub,0,none⟩) T.length T.length) (.slice (some ⟨ob,0,none⟩) T.length T.length)
   rw[←wi];obtain⟨c0,c1,d0,d1,d2⟩:=hc7 W7.drew (Below.refl _ _).drew;refine bodyPost_ret (v:=.tuple #[.agg #[.slice (some ⟨bk,o,none⟩) T.length c,.int .i64 (p:Int)],.agg #[.slice FA fn fc,.slice (some ⟨ub,0,none⟩) T.length T.length,.slice (some ⟨ob,0,none⟩) T.length T.length],.int .i64 0]) (by simp[results,Tryz.results16,go_sem,c0,c1,d0,d1,d2]) rfl ⟨(((B2.out.trans (Yj.out.mono B2.out.size)).trans (Ve.out.mono (by omega))).trans FI).drew,.inr ⟨ts,ax,a,.agg #[.slice (some ⟨bk,o,none⟩) T.length c,.int .i64 (p:Int)],T,p,t,⟨_,_,_,_,rfl⟩,Ca.out.1,Ca.out.2.1,Ca.out.2.2.1,Ca.out.2.2.2,HST.out,?_⟩⟩
   rw[←RT.out];exact⟨_,B',by have:=B2.out.size;omega,rfl,(qF.out.fr (E:=[25,35]) ((Fr.ae Ve.out).trans TX.drew) (by decide))⟩
def YX (q:UInt8):List UInt8→Option (List UInt8×List UInt8)
 | []=>none
 | c::r=>if c=q then some ([],r) else if c=10∨c=92 then none else (YX q r).map fun x=>(c::x.1,x.2)
theorem xS {q:UInt8} :∀{l:List UInt8} {z:List UInt8×List UInt8},YX q l=some z→yg q l (some z)
 | [],z,h=>by cases h
 | c::r,z,h=>by
  unfold YX at h;by_cases h1:c=q
  ·rw[al h1] at h
   injection h with h;rw[←h,h1];exact .shut
  ·rw[af h1] at h
   by_cases h2:c=10∨c=92
   ·rw[al h2] at h;cases h
   ·rw[af h2] at h
    cases hq:YX q r with
    | none=>rw[hq] at h;cases h
    | some x =>
     rw[hq] at h;injection h with h;rw[←h];exact .byte (o:=some x) h1 (fun e=>h2 (.inl e)) (fun e=>h2 (.inr e)) (xS hq)
def tkF:List UInt8→Option (Int×Int×List UInt8×List UInt8)
 | []=>none
 | c::r=>if vS c then some (if pY ((c::r).takeWhile mP) then 2 else 1,0,(c::r).takeWhile mP,(c::r).dropWhile mP)
  else if gr c then (if pU 9223372036854775807 ((c::r).takeWhile o7) then some (3,zn (ua 9223372036854775807 ((c::r).takeWhile o7):Int),[],(c::r).dropWhile o7) else none)
  else if Ew c then (YX c r).map fun x=>(4,0,x.1,x.2)
  else if 0<opn (c::r) then none
  else (sign (c::r)).map fun x=>(5,0,x.1,x.2)
theorem Ju {l:List UInt8} {z:Int×Int×List UInt8×List UInt8} (h:tkF l=some z):Tok l (some z):=by
 cases l with
 | nil=>cases h
 | cons c r =>
  change(if vS c=true then some (if pY ((c::r).takeWhile mP) then 2 else 1,0,(c::r).takeWhile mP,(c::r).dropWhile mP)
   else if gr c=true then (if pU 9223372036854775807 ((c::r).takeWhile o7)=true then some (3,zn (ua 9223372036854775807 ((c::r).takeWhile o7):Int),[],(c::r).dropWhile o7) else none)
   else if Ew c=true then (YX c r).map fun x=>(4,0,x.1,x.2)
   else if 0<opn (c::r) then none
   else (sign (c::r)).map fun x=>(5,0,x.1,x.2))=some z at h
  by_cases h1:vS c=true
  ·rw[al h1] at h
   rw[←h];exact .name h1
  ·rw[af h1] at h
   have h1:vS c=false:=by simpa using h1
   by_cases h2:gr c=true
   ·rw[al h2] at h
    by_cases h3:pU 9223372036854775807 ((c::r).takeWhile o7)=true
    ·rw[al h3] at h
     rw[←h];exact .num h1 h2 h3
    ·rw[af h3] at h;cases h
   ·rw[af h2] at h
    have h2:gr c=false:=by simpa using h2
    by_cases h3:Ew c=true
    ·rw[al h3] at h
     cases hq:YX c r with
     | none=>rw[hq] at h;cases h
     | some x =>
      rw[hq] at h;rw[←h];exact .text (o:=some x) h1 h2 h3 (xS hq)
    ·rw[af h3] at h
     have h3:Ew c=false:=by simpa using h3
     by_cases h4:0<opn (c::r)
     ·rw[al h4] at h;cases h
     ·rw[af h4] at h
      rw[←h];exact .sign h1 h2 h3 h4
def YY (L:Int):Nat→List UInt8→Option (List Tk)
 | 0,_=>none
 | n+1,l=>if Lib.hasPrefix (l.dropWhile sZ) [45,45] then none else
  match l.dropWhile sZ with
  | []=>some [(0,L,0,[])]
  | c::t=>match tkF (c::t) with
   | none=>none
   | some (k,m,s,r)=>(YY L n r).map ((k,L-nl (c::t),m,s) :: ·)
theorem oo {L:Int} :∀(n:Nat) (l:List UInt8) (ts:List Tk),YY L n l=some ts→ky L l (.ok ts)
 | 0,l,ts,h=>by cases h
 | n+1,l,ts,h=>by
  unfold YY at h;by_cases hp:Lib.hasPrefix (l.dropWhile sZ) [45,45]=true
  ·rw[al hp] at h;cases h
  ·rw[af hp] at h
   have hp:Lib.hasPrefix (l.dropWhile sZ) [45,45]=false:=by simpa using hp
   cases hd:l.dropWhile sZ with
   | nil =>
    rw[hd] at h hp;injection h with h;rw[←h];exact .eof (.done hd hp)
   | cons c t =>
    rw[hd] at h hp;dsimp only at h
    cases ht:tkF (c::t) with
    | none=>rw[ht] at h;cases h
    | some z =>
     obtain⟨k,m,s,r⟩:=z;rw[ht] at h;dsimp only at h
     cases hr:YY L n r with
     | none=>rw[hr] at h;cases h
     | some ax =>
      rw[hr] at h;injection h with h;rw[←h];exact .step (o:=.ok ax) (.done hd hp) (by simp) (Ju ht) (oo n r ax hr)
end Go.Proofs.YteflkdlaoiijbaaGreatDoor
namespace Go.Proofs.YteflkdlaoiijbaaGreatDoor
section
variable {N:Type} {V:N→Type} (body :∀n,G N V (V n))
def run:Nat→{α:Type}→G N V α→List aj→Option (Except Int (α×List aj))
 | 0,_,_,_=>none
 | _+1,_,.ret a,ts=>some (.ok (a,ts))
 | _+1,_,.bad,[]=>none
 | _+1,_,.bad,t::_=>some (.error t.2.1)
 | _+1,_,.tok _,[]=>none
 | n+1,_,.tok f,t::ts=>run n (f t) ts
 | _+1,_,.look _,[]=>none
 | n+1,_,.look f,t::ts=>run n (f t) (t::ts)
 | n+1,_,.call m k,ts=>match run n (body m) ts with
  | none=>none
  | some (.error e)=>some (.error e)
  | some (.ok p)=>run n (k p.1) p.2
variable {body}
theorem sa :∀(n:Nat) {α:Type} (g:G N V α) (ts:List aj) (r:Except Int (α×List aj)),run body n g ts=some r→P body g ts r:=by
 intro n;induction n with
 | zero=>intro α g ts r h;cases h
 | succ n ih =>
  intro α g ts r h;cases g with
  | ret a =>
   rw[run] at h;rw[←gz h];exact .ret
  | bad =>
   cases ts with
   | nil=>rw[run] at h;cases h
   | cons t ts =>
    rw[run] at h;rw[←gz h];exact .bad
  | tok f =>
   cases ts with
   | nil=>rw[run] at h;cases h
   | cons t ts=>rw[run] at h;exact .tok (ih _ _ _ h)
  | look f =>
   cases ts with
   | nil=>rw[run] at h;cases h
   | cons t ts=>rw[run] at h;exact .look (ih _ _ _ h)
  | call m k =>
   rw[run] at h;cases e:run body n (body m) ts with
   | none=>rw[e] at h;cases h
   | some q =>
    rw[e] at h;cases q with
    | error x =>
     rw[←gz h];exact .iv (ih _ _ _ e)
    | ok p=>exact .call (ih _ _ (.ok (p.1,p.2)) e) (ih _ _ _ h)
end
def vH (s:List UInt8):aj:=(1,1,0,s)
def qS (s:List UInt8):aj:=(5,1,0,s)
end Go.Proofs.YteflkdlaoiijbaaGreatDoor
namespace Go.Proofs.YteflkdlaoiijbaaGreatDoor
def wd (s:List UInt8):aj:=(2,1,0,s)
def nuT (n:Int):aj:=(3,1,n,[])
def Px:ByteArray:=⟨#[108,111,99,97,108,32,97,59,32,114,101,116,117,114,110,32,102,117,110,99,116,105,111,110,40,41,32,114,101,116,117,114,110,32,97,44,32,98,32,101,110,100]⟩
def Py:ByteArray:=⟨#[103,111,116,111,32,108,59,32,108,111,99,97,108,32,120,59,32,58,58,108,58,58,32,120,32,61,32,49]⟩
def Pz:ByteArray:=⟨#[103,111,116,111,32,108,59,32,108,111,99,97,108,32,120,59,32,58,58,108,58,58]⟩
def Vz:List aj:=[wd lC,vH [97],qS [59],wd j3,wd bq,qS [40],qS [41],wd j3,vH [97],qS [44],vH [98],wd iU,C0]
def PB (r:List aj):List aj:=[wd sC,vH [108],qS [59],wd lC,vH [120],qS [59],qS [58,58],vH [108],qS [58,58]]++r
def VB:List aj:=PB [vH [120],qS [61],nuT 1,C0]
def FX:Ast:=nd 18 1 [zP 19 1 0 [bK [97]] [],nd 29 1 [zP 11 1 0 [] [nd 18 1 [nd 29 1 [mh 7 1 (bK [97]) [],mh 7 1 (bK [98]) []]]]]]
def xU (r:List Ast):Ast:=nd 18 1 ([mh 31 1 (bK [108]) [],zP 19 1 0 [bK [120]] [],mh 32 1 (bK [108]) []]++r)
def FY:Ast:=xU [JA 20 1 1 [mh 7 1 (bK [120]) [],JA 4 1 1 []]]
theorem abE:PL rf Vz (.ok (FX,[C0])):=sa 100 _ _ _ rfl
theorem abF:PL rf VB (.ok (FY,[C0])):=sa 100 _ _ _ rfl
theorem abG:PL rf (PB [C0]) (.ok (xU [],[C0])):=sa 100 _ _ _ rfl
theorem ado:YY (dy Px) (Px.data.toList.length+1) Px.data.toList=some Vz:=by decide +kernel
theorem adp:YY (dy Py) (Py.data.toList.length+1) Py.data.toList=some VB:=by decide +kernel
theorem adq:YY (dy Pz) (Pz.data.toList.length+1) Pz.data.toList=some (PB [C0]):=by decide +kernel
def T3 (a:Ast):Int×List (List Bool×List (Bool×Nat)) :=
 match my a.lt with
 | .ok st=>(0,st.fns.map fun x=>(x.vars.map mw.cap,x.ch.map fun u=>(u.loc,u.idx)))
 | .error x=>(x.1,[])
theorem adr:T3 FX=(0,[([true],[]),([],[(true,0)])]):=by rfl
theorem ads:T3 FY=(10,[]):=by rfl
theorem adt:T3 (xU [])=(0,[([false],[])]):=by rfl
open Go.RowKit
def adu (a:Ast) (w:World) (e:Ending) (w':World):Prop :=
 Below w.heap.size w w'∧∃(A:Option Addr) (n c:Nat) (q:Int) (r:Rs aH),RR (fun x y=>FR id x.fns y.fns) (my a.lt) r∧match r with
  | .ok st=>∃sv B' N,w.heap.size≤B'∧e=.returned (.tuple #[.agg #[.slice A n c,.int .i64 q],sv,.int .i64 0])∧kH w' B' N sv st
  | .error x=>e=.returned (.tuple #[.agg #[.slice A n c,.int .i64 q],gP,.int .i64 x.1])
theorem PC {s:ByteArray} {ts ax:List aj} {a:Ast} (hl:ky (dy s) s.data.toList (.ok ts)) (hp:PL rf ts (.ok (a,ax))) (hA:D3 a) (hd:a.depth≤100) (w:World) (hs:s.size≤4000) (hE:oA w):Calls Tryz.prog 16 #[.string s] w (adu a w):=by
 refine(adn s w hs hE (TY hl hp hA)).mono ?_;rintro e w' ⟨hb,h⟩;refine⟨hb,?_⟩;rcases h with ⟨⟨o,ho,hn⟩,_⟩ | ⟨iy,adm,a2,v,T,p,t,⟨A,n,c,q,rfl⟩,hlx,_,hP,_,hst,hres⟩
 ·have e1:=hl.s5 ho
  subst e1;obtain⟨q,hq,hn⟩:=hn;have e2:=hp.one hq;subst e2;exact absurd hd (by omega)
 ·have e1:=hl.s5 hlx
  injection e1 with e1;subst e1;have e2:=hp.one hP;injection e2 with e2;injection e2 with e2 _;subst e2;have h1:=SQ (ρ:=id) (fun _ _ h=>h) hst.sim
  refine⟨A,n,c,q,my t,h1,?_⟩;revert hres
  cases my t with
  | ok st=>exact fun⟨sv,B',h2,h3,h4⟩=>⟨sv,B',T.length,h2,h3,h4⟩
  | error x=>exact id
def PD (r:Rs aH):Int×List (List Bool×List (Bool×Nat)) :=
 match r with
 | .ok st=>(0,st.fns.map fun x=>(x.vars.map mw.cap,x.ch.map fun u=>(u.loc,u.idx)))
 | .error x=>(x.1,[])
theorem frA {a b:List dr} (h:FR id a b) (i:Nat) {y:dr} (hy:b[i]? = some y) :∃x,a[i]? = some x∧FS id x y:=by
 have hl:=(aJ.1 hy).1;have h2:=h.2 i;have h1:i<a.length:=by have:=h.1;omega
 refine⟨a[i],bE h1,?_⟩;rw[jU,jU,hy,bE h1] at h2;exact h2
theorem zl {a b:Rs aH} (h:RR (fun x y=>FR id x.fns y.fns) a b):PD b=PD a:=by
 cases a with
 | error x =>
  cases b with
  | error y=>have h:x.1=y.1:=h;show(y.1,[])=(x.1,[]);rw[h]
  | ok s=>exact h.elim
 | ok s =>
  cases b with
  | error y=>exact h.elim
  | ok s' =>
   have h:FR id s.fns s'.fns:=h;show(0,_)=(0,_)
   congr 1
   refine Ee fun i=>?_
   rw[fw,fw];cases e:s'.fns[i]? with
   | none =>
    have h1:=JS.1 e;rw[si (by have:=h.1;omega)]
   | some y =>
    obtain⟨x,hx,hs⟩:=frA h i e;rw[hx];have h3:y.vars.map mw.cap=x.vars.map mw.cap:=by
     have h3:=aB (List.map Prod.snd) hs.vars;rw[tU,tU] at h3;exact h3
    show some (y.vars.map mw.cap,y.ch.map fun u=>(u.loc,u.idx))=some (x.vars.map mw.cap,x.ch.map fun u=>(u.loc,u.idx))
    rw[h3,hs.ch]
theorem D5 (a:Ast):T3 a=PD (my a.lt):=rfl
structure vI (W:World) (g c gv cv gu cu:Nat):Prop where
 v0:W.cell? ⟨g,4,none⟩=some (.slice (some ⟨gv,0,none⟩) 1 cv)
 v1:W.cell? ⟨gv,2,none⟩=some (.bool true)
 u0:W.cell? ⟨g,11,none⟩=some (.slice (some ⟨gu,0,none⟩) 1 cu)
 u1:W.cell? ⟨gu,0,none⟩=some (.bool true)
 u2:W.cell? ⟨gu,1,none⟩=some (.int .i64 0)
theorem vI.later {W W':World} {g c gv cv gu cu:Nat} (h:vI W g c gv cv gu cu) (hb:Below W.heap.size W W'):vI W' g c gv cv gu cu :=
 ⟨(hb.cell (p:=⟨g,4,none⟩) (block_lt_of_cell h.v0)).trans h.v0,(hb.cell (p:=⟨gv,2,none⟩) (block_lt_of_cell h.v1)).trans h.v1,(hb.cell (p:=⟨g,11,none⟩) (block_lt_of_cell h.u0)).trans h.u0,(hb.cell (p:=⟨gu,0,none⟩) (block_lt_of_cell h.u1)).trans h.u1,(hb.cell (p:=⟨gu,1,none⟩) (block_lt_of_cell h.u2)).trans h.u2⟩
theorem T6 {W:World} {B N:Nat} {sv:Value} {st:aH} (h:kH W B N sv st) (hf:PD (.ok st)=(0,[([true],[]),([],[(true,0)])])) :∃g c gv cv gu cu U O,sv=.agg #[.slice (some ⟨g,0,none⟩) 2 c,.slice (some ⟨U,0,none⟩) N N,.slice (some ⟨O,0,none⟩) N N]∧vI W g c gv cv gu cu:=by
 obtain⟨fv,ub,ob,L,rfl,hF,ha,_,_⟩:=h;have hf:(0,st.fns.map fun x=>(x.vars.map mw.cap,x.ch.map fun u=>(u.loc,u.idx)))=((0:Int),[([true],[]),([],[(true,0)])]):=hf
 injection hf with _ hf;rw[←ha,tU] at hf;match L,hf with
 | [t0,t1],hf =>
  injection hf with h0 h1;injection h1 with h1 _;injection h0 with h0 _;injection h1 with _ h1;obtain⟨g,c,rfl,_,_,hc0⟩:=hF.form (f:=0) (t:=t0) rfl;obtain⟨g',c',e',_,_,hc1⟩:=hF.form (f:=1) (t:=t1) rfl;injection e' with e1 _ e2;injection e1 with e1;injection e1 with e1;subst e1 e2;have hv:=hF.vars t0 (bT ..);have hu:=hF.ch t1 (cr _ (bT ..));have hvl:t0.1.vars.length=1:=by have:=aB List.length h0;simpa using this
  have pE:t1.1.ch.length=1:=by have:=aB List.length h1;simpa using this
  match hvx:t0.1.vars,hvl with
  | [x],_ =>
   match hux:t1.1.ch,pE with
   | [y],_ =>
    rw[hvx] at hv h0;rw[hux] at hu h1;have hxc:x.cap=true:=by injection h0
    have hy:y.loc=true∧y.idx=0:=by injection h1 with h1 _;injection h1 with h2 h3;exact⟨h2,h3⟩
    obtain⟨A1,c1,e1,_,hA1⟩:=dv hv;obtain⟨A2,c2,e2,_,ZL⟩:=dv hu;rcases hA1 with hA1 | ⟨gv,rfl,_,_,hA1⟩
    ·exact absurd hA1 (by simp)
    rcases ZL with ZL | ⟨gu,rfl,_,_,ZL⟩
    ·exact absurd ZL (by simp)
    refine⟨g,c,gv,c1,gu,c2,ub,ob,rfl,?_,?_,?_,?_,?_⟩
    ·have:=(hc0 4 (by omega)).1
     rw[show(NH t0)[4]? = some t0.2.1 from rfl,e1] at this
     exact this
    ·have:=hA1 2 (by simp)
     rw[show(([x]:List mw).flatMap th)[2]? = some (.bool x.cap) from rfl,hxc] at this
     exact this
    ·have:=(hc1 5 (by omega)).1
     rw[show(NH t1)[5]? = some t1.2.2 from rfl,e2] at this
     exact this
    ·have:=ZL 0 (by simp)
     rw[show(([y]:List sO).flatMap Fp)[0]? = some (.bool y.loc) from rfl,hy.1] at this
     exact this
    ·have:=ZL 1 (by simp)
     rw[show(([y]:List sO).flatMap Fp)[1]? = some (.int .i64 (y.idx:Int)) from rfl,hy.2] at this
     exact this
 | [],hf=>exact absurd (aB List.length hf) (by simp)
 | [_],hf=>exact absurd (aB List.length hf) (by simp)
 | _::_::_::_,hf=>exact absurd (aB List.length hf) (by simp)
theorem xV {r:Rs aH} {l:List (List Bool×List (Bool×Nat))} (h:PD r=(0,l)) (he:kF r) :∃st,r=.ok st:=by
 cases r with
 | ok st=>exact⟨st,rfl⟩
 | error x =>
  obtain⟨k,h1,h2⟩:=he x rfl;have h:(x.1,[])=((0:Int),l):=h;injection h with h _;omega
theorem PE {a b:Rs aH} (h:RR (fun x y=>FR id x.fns y.fns) a b) (ha:kF a):kF b:=fun y hy=>by
 subst hy;cases a with
 | ok s=>exact h.elim
 | error x =>
  have h:x.1=y.1:=h;rw[←h];exact ha x rfl
theorem ok1:D3 FX:=⟨by decide +kernel,rfl,by simp[FX,WT,WU,WS,nd,zP,mh,bK];decide +kernel,by decide +kernel,by decide +kernel⟩
theorem ok2:D3 FY:=⟨by decide +kernel,rfl,by simp[FY,xU,WT,WU,WS,nd,zP,mh,JA,bK];decide +kernel,by decide +kernel,by decide +kernel⟩
theorem ok3:D3 (xU []):=⟨by decide +kernel,rfl,by simp[xU,WT,WU,WS,nd,zP,mh,bK];decide +kernel,by decide +kernel,by decide +kernel⟩
theorem adv (w:World) (hE:oA w):Calls Tryz.prog 16 #[.string Px] w fun e w'=>Below w.heap.size w w'∧∃A n c q g c1 gv cv gu cu U O N,e=.returned (.tuple #[.agg #[.slice A n c,.int .i64 q],.agg #[.slice (some ⟨g,0,none⟩) 2 c1,.slice (some ⟨U,0,none⟩) N N,.slice (some ⟨O,0,none⟩) N N],.int .i64 0])∧vI w' g c1 gv cv gu cu :=
 (PC (oo _ _ _ ado) abE ok1 (by decide +kernel) w (by decide) hE).mono fun e w' ⟨hb,A,n,c,q,r,hr,h⟩=>by
  refine⟨hb,?_⟩;have hf:=zl hr;rw[←D5,adr] at hf;obtain⟨st,rfl⟩:=xV hf (PE hr (yT _));obtain⟨sv,B',N,_,rfl,hz⟩:=h;obtain⟨g,c1,gv,cv,gu,cu,U,O,rfl,h1⟩:=T6 hz hf;exact⟨A,n,c,q,g,c1,gv,cv,gu,cu,U,O,N,rfl,h1⟩
theorem adw (w:World) (hE:oA w):Calls Tryz.prog 16 #[.string Py] w fun e w'=>Below w.heap.size w w'∧∃A n c q,e=.returned (.tuple #[.agg #[.slice A n c,.int .i64 q],gP,.int .i64 10]) :=
 (PC (oo _ _ _ adp) abF ok2 (by decide +kernel) w (by decide) hE).mono fun e w' ⟨hb,A,n,c,q,r,hr,h⟩=>by
  refine⟨hb,A,n,c,q,?_⟩;have hf:=zl hr;rw[←D5,ads] at hf;cases r with
  | ok st=>injection hf with hf _;exact absurd hf (by decide)
  | error x =>
   injection hf with hf _;have h:e=.returned (.tuple #[.agg #[.slice A n c,.int .i64 q],gP,.int .i64 x.1]):=h;rw[h,hf]
theorem adx (w:World) (hE:oA w):Calls Tryz.prog 16 #[.string Pz] w fun e w'=>Below w.heap.size w w'∧∃A n c q F1 F2 F3 U O N,e=.returned (.tuple #[.agg #[.slice A n c,.int .i64 q],.agg #[.slice F1 F2 F3,.slice (some ⟨U,0,none⟩) N N,.slice (some ⟨O,0,none⟩) N N],.int .i64 0]) :=
 (PC (oo _ _ _ adq) abG ok3 (by decide +kernel) w (by decide) hE).mono fun e w' ⟨hb,A,n,c,q,r,hr,h⟩=>by
  refine⟨hb,A,n,c,q,?_⟩;have hf:=zl hr;rw[←D5,adt] at hf;obtain⟨st,rfl⟩:=xV hf (PE hr (yT _));obtain⟨sv,B',N,_,rfl,hz⟩:=h;obtain⟨F1,F2,F3,U,O,rfl⟩:=hz.form;exact⟨F1,F2,F3,U,O,N,rfl⟩
set_option maxRecDepth 100000 in
theorem T7 (w:World) (hE:oA w):Calls Tryz.prog 8 #[] w fun e w'=>e=.returned (.bool true)∧Below w.heap.size w w':=by
 have L1:=aa (fun W (b:Below w.heap.size w W)=>adv W (hE.below b))
 have L2:=aa (fun W (b:Below w.heap.size w W)=>adw W (hE.below b))
 have L3:=aa (fun W (b:Below w.heap.size w W)=>adx W (hE.below b))
 unfold Px at L1;unfold Py gP at L2;unfold Pz at L3;clear hE;go_enter Tryz.func8,Tryz.ntmps8
 go_wp2_with fail
 refine(L1.out _ (Below.refl ..)).mono ?_;rintro e w1 ⟨b1,A,n,c,q,g,c1,gv,cv,gu,cu,U,O,N,rfl,hS⟩;have B1:=aa b1;have eM:=aa hS;clear b1 hS;go_wp2_with fail
 obtain⟨w2,hw2⟩ :∃w2,w2=(w1.alloc (.cells #[.slice A n c,.int .i64 q] 25)).alloc (.cells #[.slice (some ⟨g,0,none⟩) 2 c1,.slice (some ⟨U,0,none⟩) N N,.slice (some ⟨O,0,none⟩) N N] 35):=⟨_,rfl⟩;have hb2:Below w1.heap.size w1 w2:=by rw[hw2];exact Below.two _ _
 have hs2:w2.heap[w1.heap.size+1]? = some (.cells #[.slice (some ⟨g,0,none⟩) 2 c1,.slice (some ⟨U,0,none⟩) N N,.slice (some ⟨O,0,none⟩) N N] 35 (0,0)):=by
  rw[hw2];have:=heap_alloc_new (w1.alloc (.cells #[.slice A n c,.int .i64 q] 25)) (.cells #[.slice (some ⟨g,0,none⟩) 2 c1,.slice (some ⟨U,0,none⟩) N N,.slice (some ⟨O,0,none⟩) N N] 35);rwa[an] at this
 rw[←hw2];have B2:=aa (B1.out.trans (hb2.mono B1.out.size));have sH:=aa (eM.out.later hb2);have X2:=aa hs2;clear hw2 hb2 hs2;refine(L2.out _ B2.out).mono ?_;rintro e w3 ⟨b3,A',n',c',q',rfl⟩;have B3:=aa (B2.out.trans (b3.mono B2.out.size));have oh:=aa (sH.out.later b3);have X3:=aa ((b3.block _ (aF.1 X2.out).1).trans X2.out);clear b3;go_wp2_with fail
 obtain⟨w4,hw4⟩ :∃w4,w4=(w3.alloc (.cells #[.slice A' n' c',.int .i64 q'] 25)).alloc (.cells #[.slice none 0 0,.slice none 0 0,.slice none 0 0] 35):=⟨_,rfl⟩;have hb4:Below w3.heap.size w3 w4:=by rw[hw4];exact Below.two _ _
 rw[←hw4];have B4:=aa (B3.out.trans (hb4.mono B3.out.size));have HS4:=aa (oh.out.later hb4);have X4:=aa ((hb4.block _ (aF.1 X3.out).1).trans X3.out);clear hw4 hb4;refine(L3.out _ B4.out).mono ?_;rintro e w5 ⟨b5,A5,n5,c5,q5,F1,F2,F3,U5,O5,N5,rfl⟩;have B5:=aa (B4.out.trans (b5.mono B4.out.size));have HS5:=aa (HS4.out.later b5);have X5:=aa ((b5.block _ (aF.1 X4.out).1).trans X4.out);clear b5;obtain⟨v0,v1,u0,u1,u2⟩:=HS5.out;have x0:w5.cell? ⟨w1.heap.size+1,0,none⟩=some (.slice (some ⟨g,0,none⟩) 2 c1):=ab X5.out 0;have l0:w1.heap.size+1<w5.heap.size:=(aF.1 X5.out).1;have l1:g<w5.heap.size:=block_lt_of_cell v0;have l2:gv<w5.heap.size:=block_lt_of_cell v1;have l3:gu<w5.heap.size:=block_lt_of_cell u1;have l4:w1.heap.size<w5.heap.size:=by omega
 have l5:g<w5.heap.size+1:=by omega
 have l6:gv<w5.heap.size+1:=by omega
 have l7:gu<w5.heap.size+1:=by omega
 go_wp2_with fail
 go_ret
 exact⟨rfl,(B5.out.trans ((Below.two _ _).mono B5.out.size))⟩
structure RdR (T:List Nd):Prop where
 nl :∀x∈T,x.names.length≤140737488355328
 kl :∀x∈T,x.kids.length≤140737488355328
def Ng (x:Nd):Prop:=x.s.size≤20000∧x.names.length≤4000∧x.kids.length≤4000
def T9 (l:List Nd):Nat:=(l.map fun x=>x.names.length).sum
theorem PF (l:List Nd) (x:Nd):T9 (l++[x])=T9 l+x.names.length:=by unfold T9;simp
def Jv (T:List Nd) (w:World) (e:Ending) (w':World):Prop:=∃b,e=.returned (.bool b)∧(b=false→T.length≤4000∧T9 T≤4000∧∀x∈T,Ng x)∧Below w.heap.size w w'
theorem D7 (v:Value) (T:List Nd) (r:Int) (w:World) (h:kU w v T r) (hr:RdR T):Calls Tryz.prog 10 #[v] w (Jv T w):=by
 obtain⟨nv,rfl,A,c,rfl,hc,hn⟩:=h;have HN:=aa hn;have HR:=aa hr;clear hn hr;go_enter Tryz.func10,Tryz.ntmps10
 go_wp2_with fail
 go_loopw [3,11] (fun n i wr=>∃(k:Nat) (N:Int),k≤T.length∧i=.int .i64 (k:Int)∧n=.int .i64 N∧(k:Int)+(T9 (T.take k):Int)≤N∧N≤4000∧(∀x∈T.take k,Ng x)∧Below w.heap.size w wr) (fun _ i _=>T.length-(intOf i).toNat)
 case atStart=>exact⟨0,0,bB _,rfl,rfl,by simp[T9],by decide,fun x hx=>by simp at hx,bC _ _⟩
 case round =>
  obtain⟨k,N,hk,rfl,rfl,abH,hN,hng,hbl⟩:=hrel;have qR:=aa abH;have hkN:(k:Int)≤N:=by omega
  clear abH;have HNG:=aa hng;have HB:=aa hbl;clear hng hbl;by_cases hlt:k<T.length
  ·obtain⟨x,Qe⟩ :∃x,T[k]? = some x:=⟨T[k],bE hlt⟩
   have kJ:=aL Qe;rcases HN.out with h0 | ⟨b,o,rfl,hb,hx⟩
   ·rw[h0] at hlt;exact absurd hlt (gV _)
   obtain⟨pL,pM,dM,hst,yA⟩:=hx k x Qe;obtain⟨c0,c1,c2,c3,c4,c5,c6⟩:=dM.below HB.out hb;have jl:=HR.out.nl x kJ;have vW:=HR.out.kl x kJ;have HTK:Hid (T.take (k+1)=T.take k++[x]):=aa (jw T k x Qe);obtain⟨SA,sc,rfl,_,YI⟩:=hst;obtain⟨UA,uc,rfl,_,_⟩:=yA;have HSA:=aa YI;have YO:=aa (bC wr (.cells #[.int .i64 x.kind,.int .i64 x.line,.int .i64 x.op,.int .i64 x.num,.string x.s,.slice SA x.names.length sc,.slice UA x.kids.length uc] 55));have hsz:=HB.out.size;have Vn:=aa (HB.out.trans (YO.out.mono hsz));have v8:=aa hlt;clear hx Qe dM YI kJ;by_cases hsl:20000<x.s.size
   ·have g:decide ((20000:Int)<(x.s.size:Int))=true:=bX (by omega)
    go_wp2_with fail
    go_ret
    exact⟨true,rfl,(fun h=>absurd h (by decide)),Vn.out⟩
   ·have g:decide ((20000:Int)<(x.s.size:Int))=false:=bU (by omega)
    go_wp2_with fail
    clear c0 c1 c2 c3 c4 c5 c6;go_loop [3,38] (fun n j=>∃(q:Nat) (M:Int),q≤x.names.length∧j=.int .i64 (q:Int)∧n=.int .i64 M∧N+(1+(x.kids.length:Int)+x.names.length)≤M∧M≤N+(1+(x.kids.length:Int)+(x.names.length:Int)+(x.s.size:Int) / 50)+2000*q) (fun _ j=>x.names.length-(intOf j).toNat)
    case atStart=>exact⟨0,_,bB _,rfl,rfl,by omega,by omega⟩
    case round =>
     obtain⟨q,M,hq,rfl,rfl,hM0,hM1⟩:=hrel;by_cases ZF:q<x.names.length
     ·obtain⟨y,hy⟩ :∃y,x.names[q]? = some y:=⟨x.names[q],bE ZF⟩
      rcases HSA.out with h0 | ⟨b2,o2,rfl,hb2,hc2⟩
      ·rw[h0] at ZF;exact absurd ZF (gV _)
      have ck:=(Vn.out.cell (p:=⟨b2,o2+q,none⟩) hb2).trans (hc2 q y hy);have HQ:=aa ZF;clear hc2 hy;by_cases hyl:y.size≤100000
      ·go_wp2_with fail
       exact⟨⟨q+1,_,by have:=HQ.out;omega,by go_num,rfl,by omega,by omega⟩,by have:=HQ.out;simp[intOf];omega⟩
      ·go_wp2_with fail
       exact⟨⟨q+1,_,by have:=HQ.out;omega,by go_num,rfl,by omega,by omega⟩,by have:=HQ.out;simp[intOf];omega⟩
     ·by_cases abI:4000<M
      ·have g4:decide ((4000:Int)<M)=true:=bX abI
       go_wp2_with fail
       go_ret
       exact⟨true,rfl,(fun h=>absurd h (by decide)),Vn.out⟩
      ·have g4:decide ((4000:Int)<M)=false:=bU abI
       go_wp2_with fail
       go_roundw
       case rel=>exact⟨k+1,M,by have:=v8.out;omega,by go_num,rfl,by have h1:=qR.out;have h2:=PF (T.take k) x;rw[←HTK.out] at h2;omega,by omega,by
        rw[HTK.out];intro z hz;rcases cU.1 hz with hz|hz
        ·exact HNG.out z hz
        ·obtain rfl:=bZ.1 hz
         exact⟨by omega,by omega,by omega⟩,Vn.out⟩
       case measure=>have:=v8.out;simp[intOf];omega
  ·have hall:T.take k=T:=sg (by omega)
   go_wp2_with fail
   go_ret
   exact⟨false,rfl,fun _=>⟨by omega,by have h1:=qR.out;rw[hall] at h1;omega,by rw[←hall];exact HNG.out⟩,HB.out⟩
mutual
theorem FZ {T:List Nd} :∀t:Lt,Lt.In T t→t.wt=(t.dI.map fun j=>(T[j]?.map fun x=>x.names.length).getD 0).sum
 | .mk i h ks,hi=>by
  unfold Lt.In at hi;obtain⟨hx,_,hs⟩:=hi;rw[Lt.wt,Lt.dI,eP,List.sum_cons,hx,Cb ks hs];rfl
theorem Cb {T:List Nd} :∀ks:List Lt,Lt.nG T ks→Lt.eD ks=((Lt.aS ks).map fun j=>(T[j]?.map fun x=>x.names.length).getD 0).sum
 | [],_=>by rw[Lt.eD,Lt.aS];rfl
 | k::ks,hi=>by
  unfold Lt.nG at hi;rw[Lt.eD,Lt.aS,me,List.sum_append,FZ k hi.1,Cb ks hi.2]
end
theorem PG (T:List Nd):((List.range T.length).map fun j=>(T[j]?.map fun x=>x.names.length).getD 0).sum=T9 T:=by
 unfold T9;congr 1
 refine Ee fun i=>?_
 rw[fw,fw];by_cases hi:i<T.length
 ·rw[zE hi,bE hi]
  simp[bE hi]
 ·rw[si (by simpa using hi),si (by omega)]
  rfl
theorem YZ {T:List Nd} {t:Lt} (hi:Lt.In T t) (hn:t.dI.Nodup) (ha :∀j,j<T.length↔j∈t.dI):t.wt=T9 T∧t.size=T.length:=by
 have hp:(List.range T.length).Perm t.dI:=(List.perm_ext_iff_of_nodup List.nodup_range hn).2 fun j=>by rw[sr];exact ha j
 exact⟨by rw[FZ t hi,←PG];exact((hp.map _).sum_nat).symm,by rw[←Lt.rJ,←hp.length_eq,List.length_range]⟩
theorem mz.later {W W':World} {B:Nat} {v:Value} {L:List mB} (h:mz W B v L) (hb:Below W.heap.size W W'):mz W' B v L :=
 have k:=Fr.ae (E:=[]) hb
 ⟨k.row h.row (by simp),fun t ht=>k.row (h.vars t ht) (by simp),fun t ht=>k.row (h.ch t ht) (by simp),h.pD,h.qB⟩
structure ZM (W:World) (T:List Nd) (B g c ub ob:Nat) (L:List mB) (st:aH):Prop where
 fns:mz W B (.slice (some ⟨g,0,none⟩) L.length c) L
 are:L.map (·.1)=st.fns
 uses:e8 W B 57 2 ub T.length (pC st.uses)
 mC:e8 W B 3 1 ob T.length (PX st.of)
 leads:OQ T st
 few:L.length≤5000
theorem ZM.later {W W':World} {T:List Nd} {B g c ub ob:Nat} {L:List mB} {st:aH} (h:ZM W T B g c ub ob L st) (hb:Below W.heap.size W W'):ZM W' T B g c ub ob L st:=⟨h.fns.later hb,h.are,h.uses.later hb,h.mC.later hb,h.leads,h.few⟩
theorem Y0 (u:Nat→Int×Int) (n:Nat):pC u (n*2)=.int .i64 (u n).1:=by
 unfold pC;rw[al (by omega),show n*2 / 2=n by omega]
theorem Y1 (u:Nat→Int×Int) (n:Nat):pC u (n*2+1)=.int .i64 (u n).2:=by
 unfold pC;rw[af (by omega),show(n*2+1) / 2=n by omega]
theorem ZM.fn {W:World} {T:List Nd} {B g c ub ob:Nat} {L:List mB} {st:aH} (h:ZM W T B g c ub ob L st) {f:Nat} {x:dr} (hx:st.fns[f]? = some x):f<L.length∧W.cell? ⟨g,f*6+1,none⟩=some (.int .i64 x.parent) ∧
  (∃VA vc,W.cell? ⟨g,f*6+4,none⟩=some (.slice VA x.vars.length vc)∧∀(j:Nat) v,x.vars[j]? = some v→∃gv,VA=some ⟨gv,0,none⟩∧W.cell? ⟨gv,j*3,none⟩=some (.string v.name)∧W.cell? ⟨gv,j*3+1,none⟩=some (.int .i64 (v.node:Int))∧W.cell? ⟨gv,j*3+2,none⟩=some (.bool v.cap)) ∧
  (∃UA uc,W.cell? ⟨g,f*6+5,none⟩=some (.slice UA x.ch.length uc)∧∀(j:Nat) v,x.ch[j]? = some v→∃gv,UA=some ⟨gv,0,none⟩∧W.cell? ⟨gv,j*2,none⟩=some (.bool v.loc)∧W.cell? ⟨gv,j*2+1,none⟩=some (.int .i64 (v.idx:Int))):=by
 rw[←h.are,fw] at hx;obtain⟨y,hy,rfl⟩:=Option.map_eq_some_iff.1 hx;have hl:=(aJ.1 hy).1;obtain⟨g',c',e',_,_,qV⟩:=h.fns.form hy;injection e' with e1 _ _;injection e1 with e1;injection e1 with e1;subst e1;have hv:=h.fns.vars y (aL hy);have hu:=h.fns.ch y (aL hy);obtain⟨VA,vc,hve,_,Te⟩:=dv hv;obtain⟨UA,uc,Y2,_,JO⟩:=dv hu;refine⟨hl,(qV 1 (by omega)).1,⟨VA,vc,by rw[(qV 4 (by omega)).1];show some y.2.1=_;rw[hve],fun j v hj=>?_⟩,⟨UA,uc,by rw[(qV 5 (by omega)).1];show some y.2.2=_;rw[Y2],fun j v hj=>?_⟩⟩
 ·have hjl:=(aJ.1 hj).1
  rcases Te with h0 | ⟨gv,rfl,_,_,Te⟩
  ·omega
  ·exact⟨gv,rfl,by rw[Te (j*3) (by omega),show j*3=j*3+0 by omega,ez nL _ j 0 v hj (by omega)];rfl,by rw[Te (j*3+1) (by omega),ez nL _ j 1 v hj (by omega)];rfl,by rw[Te (j*3+2) (by omega),ez nL _ j 2 v hj (by omega)];rfl⟩
 ·have hjl:=(aJ.1 hj).1
  rcases JO with h0 | ⟨gv,rfl,_,_,JO⟩
  ·omega
  ·exact⟨gv,rfl,by rw[JO (j*2) (by omega),show j*2=j*2+0 by omega,ez tH _ j 0 v hj (by omega)];rfl,by rw[JO (j*2+1) (by omega),ez tH _ j 1 v hj (by omega)];rfl⟩
theorem sd {B:Nat} {a w:World} (h:Below B a w) (hB:B≤w.heap.size) (o o':Obj) (n:Nat):Below B a (((w.alloc o).alloc o').drewN n):=below_drewN ((h.alloc hB o).alloc (by rw[an];omega) o') n
theorem Cc {B:Nat} {a w:World} (h:Below B a w) (hB:B≤w.heap.size) (o o':Obj):Below B a ((w.alloc o).alloc o'):=(h.alloc hB o).alloc (by rw[an];omega) o'
set_option maxRecDepth 100000 in
theorem Jw (v:Value) (T:List Nd) (r:Int) (w:World) (h:kU w v T r) (hr:RdR T) (hE:oA w):Calls Tryz.prog 4 #[v] w fun e w'=>e=.returned (.bool true)∧Below w.heap.size w w':=by
 have HT:=aa h;have HRD:=aa hr;have HE:=aa hE;obtain⟨nv,rfl,A,c,rfl,hc,hX⟩:=h;have HX:=aa hX;clear hr hE hX;go_enter Tryz.func4,Tryz.ntmps4
 go_wp2_with fail
 have db:=heap_alloc_new w (.cells #[.slice A T.length c,.int .i64 r] 25);have hb0:Below w.heap.size w (w.alloc (.cells #[.slice A T.length c,.int .i64 r] 25)):=(Below.refl _ _).alloc (ah _) _;have hs0:(w.alloc (.cells #[.slice A T.length c,.int .i64 r] 25)).heap.size=w.heap.size+1:=an _ _;generalize w.alloc (.cells #[.slice A T.length c,.int .i64 r] 25)=W0 at db hb0 hs0 ⊢;have B0:=aa hb0;have X0:=aa db;have S0:=aa hs0;clear db hb0 hs0;refine(T7 W0 (HE.out.below B0.out)).mono ?_;rintro e w1 ⟨rfl,b1⟩;have B1:=aa (B0.out.trans (b1.mono B0.out.size));have X1:=aa ((b1.block w.heap.size (by rw[S0.out];omega)).trans X0.out)
 have t0:w1.cell? ⟨w.heap.size,0,none⟩=some (.slice A T.length c):=ab X1.out 0;have t1:w1.cell? ⟨w.heap.size,1,none⟩=some (.int .i64 r):=ab X1.out 1;clear b1;go_wp2_with fail
 refine(D7 _ T r w1 (HT.out.below B1.out) HRD.out).mono ?_;rintro e w2 ⟨bb,rfl,hg,b2⟩;have B2:=aa (B1.out.trans (b2.mono B1.out.size));have X2:=aa ((b2.block w.heap.size (aF.1 X1.out).1).trans X1.out);have HG:=aa hg;clear b2 hg t0 t1;have t0:w2.cell? ⟨w.heap.size,0,none⟩=some (.slice A T.length c):=ab X2.out 0;have t1:w2.cell? ⟨w.heap.size,1,none⟩=some (.int .i64 r):=ab X2.out 1;cases bb with
 | true =>
  go_wp2_with fail
  go_ret
  exact⟨rfl,B2.out⟩
 | false =>
  have Y3:ZI T∨fH T r=false:=by
   by_cases hR:fH T r=true
   ·refine .inl ⟨fun x hx=>?_,fun x hx=>⟨?_,sV hR x hx⟩⟩
    ·have:=(HG.out rfl).2.2 x hx
     exact⟨by have:=this.2.2;omega,by have:=this.2.1;omega⟩
    ·have:=((HG.out rfl).2.2 x hx).1
     omega
   ·exact .inr (by simpa using hR)
  have FK:Szd T:=fun x hx=>by have:=((HG.out rfl).2.2 x hx).2.1;omega
  by_cases hR:fH T r=true
  ·have hsm:ZI T:=Y3.resolve_right (by rw[hR];decide)
   obtain⟨t,q1,q2,q3,q4,q5,q6⟩:=Pt hR;obtain⟨e1,e2⟩:=YZ q1 q3 q4;have hlen:=(HG.out rfl).1;have JL:=(HG.out rfl).2.1;have HLD:=aa (fun st (h:my t=.ok st)=>DS h q1 q3 q4 q5.wf)
   have HMK:=aa (fun st (h:my t=.ok st)=>(by
    have h1:=(lT t h (fun g x hx=>by
     match g,hx with
     | 0,hx=>injection hx with hx;rw[←hx];exact⟨bB _,bB _⟩
     | g+1,hx=>cases hx)).fns
    have h2:(gF t.loc).fns.length=1:=rfl;omega:st.fns.length≤5000))
   have Jf:=aa (sU _ T r w2 (HT.out.below B2.out) hsm hR t q2 q5 q6 (by omega) (by omega) e2)
   have HRR:=aa hR;have HLEN:=aa hlen;clear Y3 FK hR hsm q1 q2 q3 q4 q5 q6 e1 e2 JL hlen;go_wp2_with fail
   refine Jf.out.mono ?_;rintro e w3 ⟨b3,h3⟩;have B3:=aa (B2.out.trans (b3.mono B2.out.size));have X3:=aa ((b3.block w.heap.size (aF.1 X2.out).1).trans X2.out);clear b3 t0 t1;obtain⟨R,hRe⟩ :∃R,R=my t:=⟨_,rfl⟩;rw[←hRe] at h3 HLD HMK;clear hRe;cases R with
   | error x =>
    obtain⟨u,rfl,hf⟩:=h3;obtain⟨g,rfl,_⟩:=hf;unfold gP;go_wp2_with fail
    go_ret
    exact⟨rfl,B3.out.trans ((Below.refl _ _).alloc B3.out.size _)⟩
   | ok st =>
    obtain⟨u,B',hB',rfl,hz⟩:=h3;obtain⟨fv,ub,ob,L,rfl,hz1,hz2,hz3,y7⟩:=hz;have hld:=HLD.out st rfl;obtain⟨t0',hL0⟩ :∃x,L[0]? = some x:=by
     have h1:=hld.ok.pos;rw[←hz2,cy] at h1;exact⟨L[0],bE h1⟩
    obtain⟨g,cg,rfl,_,_,_⟩:=hz1.form hL0;have VC:L.length≤5000:=by
     have h1:=HMK.out st rfl;rw[←hz2,cy] at h1;exact h1
    have abJ:0<L.length:=(aJ.1 hL0).1;have HZ:=aa (⟨hz1,hz2,hz3,y7,hld,VC⟩:ZM w3 T B' g cg ub ob L st);clear hz1 hz2 hz3 y7 hld hL0;have t0:w3.cell? ⟨w.heap.size,0,none⟩=some (.slice A T.length c):=ab X3.out 0;have Cm:w.heap.size<w3.heap.size:=(aF.1 X3.out).1;have hL0:((L.length:Int) == 0)=false:=aC.2 (by omega)
    go_wp2_with fail
    obtain⟨w4,hw4⟩ :∃w4,w4=w3.alloc (.cells #[.slice (some ⟨g,0,none⟩) L.length cg,.slice (some ⟨ub,0,none⟩) T.length T.length,.slice (some ⟨ob,0,none⟩) T.length T.length] 35):=⟨_,rfl⟩;have hb4:Below w3.heap.size w3 w4:=by rw[hw4];exact(Below.refl _ _).alloc (ah _) _
    have hs4:w4.heap[w3.heap.size]? = some (.cells #[.slice (some ⟨g,0,none⟩) L.length cg,.slice (some ⟨ub,0,none⟩) T.length T.length,.slice (some ⟨ob,0,none⟩) T.length T.length] 35 (0,0)):=by rw[hw4];exact heap_alloc_new _ _
    rw[←hw4];have B4:=aa (B3.out.trans (hb4.mono B3.out.size));have Z4:=aa (HZ.out.later hb4);have X4:=aa ((hb4.block w.heap.size Cm).trans X3.out);have S4:=aa hs4;have HL3:=aa Cm;clear hw4 hb4 hs4 t0 hL0 Cm HZ;go_loopw [62] (fun i wr=>∃k:Nat,k≤L.length∧i=.int .i64 (k:Int)∧Below w4.heap.size w4 wr) (fun i _=>L.length-(intOf i).toNat)
    case atStart=>exact⟨0,bB _,rfl,Below.refl ..⟩
    case round =>
     obtain⟨k,hk,rfl,hbr⟩:=hrel;have VC:=Z4.out.few;have Dd:=aa hbr;have hZr:=Z4.out.later hbr;have Ga:=(hbr.block w3.heap.size (aF.1 S4.out).1).trans S4.out;have Js:=(hbr.block w.heap.size (aF.1 X4.out).1).trans X4.out;have s0:wr.cell? ⟨w3.heap.size,0,none⟩=some (.slice (some ⟨g,0,none⟩) L.length cg):=ab Ga 0;have s2:wr.cell? ⟨w3.heap.size,2,none⟩=some (.slice (some ⟨ob,0,none⟩) T.length T.length):=ab Ga 2;have t0:wr.cell? ⟨w.heap.size,0,none⟩=some (.slice A T.length c):=ab Js 0;have ls:w3.heap.size<wr.heap.size:=(aF.1 Ga).1;have lt:w.heap.size<wr.heap.size:=(aF.1 Js).1;have Cd:=aa hZr;clear hbr hZr Ga Js;by_cases hlt:k<L.length
     ·have mD:=aa hlt
      obtain⟨x,hx⟩ :∃x,L[k]? = some x:=⟨L[k],bE hlt⟩;obtain⟨g',c',e',_,qU,qV⟩:=Cd.out.fns.form hx;injection e' with e1 _ e2;injection e1 with e1;injection e1 with e1;subst e1 e2;have hfn:st.fns[k]? = some x.1:=by rw[←Cd.out.are,fw,hx];rfl
      have we:=Cd.out.leads.ok.each k x.1 hfn;have hvr:=Cd.out.fns.vars x (aL hx);obtain⟨VA,vc,hve,_,_⟩:=dv hvr;have c0:wr.cell? ⟨g,k*6,none⟩=some (.int .i64 (x.1.node:Int)):=(qV 0 (by omega)).1
      have c1:wr.cell? ⟨g,k*6+1,none⟩=some (.int .i64 x.1.parent):=(qV 1 (by omega)).1
      have c2:wr.cell? ⟨g,k*6+2,none⟩=some (.int .i64 (x.1.params:Int)):=(qV 2 (by omega)).1
      have c3:wr.cell? ⟨g,k*6+3,none⟩=some (.bool x.1.many):=(qV 3 (by omega)).1
      have c4:wr.cell? ⟨g,k*6+4,none⟩=some (.slice VA x.1.vars.length vc):=by rw[←hve];exact(qV 4 (by omega)).1
      have hur:=Cd.out.fns.ch x (aL hx);obtain⟨UA,uc,Y2,_,_⟩:=dv hur;have c5:wr.cell? ⟨g,k*6+5,none⟩=some (.slice UA x.1.ch.length uc):=by rw[←Y2];exact(qV 5 (by omega)).1
      have Ym:=aa qV;have HFF:=aa we;have HFN:=aa hfn;have gp:(x.1.vars.length<x.1.params)=False:=tV (by have:=we.acM;omega)
      clear qV we hvr hve hur Y2 hfn hx;generalize x.1.vars.length=vn at *;generalize x.1.ch.length=un at *;by_cases SK:k=0
      ·subst SK
       have hp:x.1.parent = -1:=by
        rcases HFF.out.par with ⟨_,h⟩ | ⟨p,_,h⟩
        ·exact h
        ·omega
       rw[hp] at c1;go_wp2_with fail
       go_quiet (fail)
       go_wp2_with fail
       exact⟨⟨1,abJ,rfl,Dd.out.trans ((below_drewN ((Below.refl _ _).alloc (ah _) _) _).mono Dd.out.size)⟩,by simp[intOf];omega⟩
      ·have hp :∃p:Nat,x.1.parent=(p:Int)∧p<k:=by
        rcases HFF.out.par with ⟨h,_⟩|h
        ·exact absurd h SK
        ·exact h
       obtain⟨p,hp,Qa⟩:=hp;have hfn:=Cd.out.leads.fn k x.1 SK HFN.out;have cL:=hfn.1;have o0:wr.cell? ⟨ob,x.1.node,none⟩=some (.int .i64 (p:Int)):=by rw[(bA Cd.out.mC (j:=x.1.node) (by omega)).1];show some (Value.int .i64 (st.of x.1.node))=_;rw[hfn.2,hp]
       have lo:ob<wr.heap.size:=block_lt_of_cell o0;rw[hp] at c1;have HNT:=aa cL;have gk:((k:Int) == 0)=false:=aC.2 (by omega)
       have gk2:(k=0)=False:=tV SK;have gk3:(0<k)=True:=eq_true (by omega)
       have gkp:(k≤p)=False:=tV (by omega)
       have gp0:decide ((p:Int)<0)=false:=bU (by omega)
       clear hfn hp;go_wp2_with fail
       go_quiet (fail)
       go_wp2_with fail
       exact⟨⟨k+1,by have:=mD.out;omega,by go_num,Dd.out.trans ((below_drewN ((Below.refl _ _).alloc (ah _) _) _).mono Dd.out.size)⟩,by have:=mD.out;simp[intOf];omega⟩
     ·go_wp2_with fail
      clear s0 s2 t0 ls lt Cd;have dL:=aa Dd.out;go_loopw [112] (fun i wr=>∃n:Nat,n≤T.length∧i=.int .i64 (n:Int)∧Below w4.heap.size w4 wr) (fun i _=>T.length-(intOf i).toNat)
      case atStart=>exact⟨0,bB _,rfl,dL.out⟩
      case round =>
       obtain⟨n,hn,rfl,hbq⟩:=hrel;have DY:=aa hbq;have hTl:=HLEN.out;have hZr:=Z4.out.later hbq;have Ga:=(hbq.block w3.heap.size (aF.1 S4.out).1).trans S4.out;have Js:=(hbq.block w.heap.size (aF.1 X4.out).1).trans X4.out;have s0:wr.cell? ⟨w3.heap.size,0,none⟩=some (.slice (some ⟨g,0,none⟩) L.length cg):=ab Ga 0;have s1:wr.cell? ⟨w3.heap.size,1,none⟩=some (.slice (some ⟨ub,0,none⟩) T.length T.length):=ab Ga 1;have s2:wr.cell? ⟨w3.heap.size,2,none⟩=some (.slice (some ⟨ob,0,none⟩) T.length T.length):=ab Ga 2;have t0:wr.cell? ⟨w.heap.size,0,none⟩=some (.slice A T.length c):=ab Js 0;have ls:w3.heap.size<wr.heap.size:=(aF.1 Ga).1;have lt:w.heap.size<wr.heap.size:=(aF.1 Js).1;have Cd:=aa hZr;clear hbq hZr Ga Js;by_cases CL:n<T.length
       ·have tt:=aa CL
        obtain⟨x,hx⟩ :∃x,T[n]? = some x:=⟨T[n],bE CL⟩;rcases HX.out with h0 | ⟨bk,o,rfl,hb,Tq⟩
        ·rw[h0] at CL;exact absurd CL (gV _)
        obtain⟨pL,pM,dM,⟨SA,sc,hse,_,_⟩,⟨UA,uc,Y2,_,_⟩⟩:=Tq n x hx;obtain⟨c0,c1,c2,c3,c4,c5,c6⟩:=dM.below (B4.out.trans (DY.out.mono B4.out.size)) hb;rw[hse] at c5;rw[Y2] at c6;have v0:wr.cell? ⟨ub,n*2,none⟩=some (.int .i64 (st.uses n).1):=by rw[(bA Cd.out.uses (j:=n*2) (by omega)).1,Y0]
        have v1:wr.cell? ⟨ub,n*2+1,none⟩=some (.int .i64 (st.uses n).2):=by rw[(bA Cd.out.uses (j:=n*2+1) (by omega)).1,Y1]
        have on:wr.cell? ⟨ob,n,none⟩=some (.int .i64 (st.of n)):=(bA Cd.out.mC (j:=n) (by omega)).1
        have lu:ub<wr.heap.size:=block_lt_of_cell v0;have lo:ob<wr.heap.size:=block_lt_of_cell on;have HXN:=aa hx;clear hx Tq dM hse Y2;by_cases hk:x.kind=30∨x.kind=31
        ·obtain⟨t',e1,e2,e3⟩:=Cd.out.leads.jump n x HXN.out hk
         rw[e1] at v0 v1;have ot:wr.cell? ⟨ob,t',none⟩=some (.int .i64 (st.of n)):=by rw[←e3];exact(bA Cd.out.mC (j:=t') (by omega)).1
         have e2':(T.length≤t')=False:=tV (by omega)
         have gt0:decide ((t':Int)<0)=false:=bU (by omega)
         have ow:=aa e1;have HE3:=aa e3;clear e1 e3;rcases hk with hk|hk
         ·have k1:(x.kind == 30)=true:=by rw[hk];rfl
          go_wp2_with fail
          go_quiet (fail)
          go_wp2_with fail
          exact⟨⟨n+1,by have:=tt.out;omega,by go_num,sd DY.out DY.out.size _ _ _⟩,by have:=tt.out;simp[intOf];omega⟩
         ·have k1:(x.kind == 30)=false:=by rw[hk];rfl
          have k2:(x.kind == 31)=true:=by rw[hk];rfl
          go_wp2_with fail
          go_quiet (fail)
          go_wp2_with fail
          exact⟨⟨n+1,by have:=tt.out;omega,by go_num,sd DY.out DY.out.size _ _ _⟩,by have:=tt.out;simp[intOf];omega⟩
        ·rw[sz] at hk
         have k1:(x.kind == 30)=false:=aC.2 hk.1;have k2:(x.kind == 31)=false:=aC.2 hk.2;by_cases h7:x.kind=7
         ·have k3:(x.kind != 7)=false:=by rw[h7];rfl
          obtain⟨f,hf,hu⟩:=Cd.out.leads.name n x HXN.out h7;rw[hf] at on;rcases Classical.em (st.uses n=(1,0)) with h1|h1
          ·rw[h1] at v0 v1
           go_wp2_with fail
           exact⟨⟨n+1,by have:=tt.out;omega,by go_num,Cc DY.out DY.out.size _ _⟩,by have:=tt.out;simp[intOf];omega⟩
          have key :∃(K:Int) (kk:Nat) (DE:Bool),st.uses n=(K,(kk:Int))∧(K == 1)=false∧(K == 3)=DE∧(DE=true→nH st.fns x.s f kk)∧(DE=false→∃y v,st.fns[f]? = some y∧y.vars[kk]? = some v∧v.name=x.s):=by
           rcases hu with h | ⟨kk,h,hv⟩ | ⟨kk,h,hv⟩
           ·exact absurd h h1
           ·exact⟨2,kk,false,h,rfl,rfl,(fun h=>by cases h),fun _=>hv⟩
           ·exact⟨3,kk,true,h,rfl,rfl,fun _=>hv,(fun h=>by cases h)⟩
          obtain⟨K,kk,DE,hK,k4,k5,hL1,hL2⟩:=key;rw[hK] at v0 v1;have HL1:=aa hL1;have HL2:=aa hL2;clear hu hf hK hL1 hL2 h1;replace v0:wr.cell? ⟨ub,n*2,none⟩=some (.int .i64 K):=v0;replace v1:wr.cell? ⟨ub,n*2+1,none⟩=some (.int .i64 (kk:Int)):=v1;go_wp2_with fail
          go_quiet (fail)
          go_wp2_with fail
          obtain⟨W1,hW1⟩ :∃W1,W1=((wr.alloc (.cells #[.int .i64 7,.int .i64 x.line,.int .i64 x.op,.int .i64 x.num,.string x.s,.slice SA x.names.length sc,.slice UA x.kids.length uc] 55)).alloc (.cells #[.int .i64 K,.int .i64 (kk:Int)] 57)).drewN nq:=⟨_,rfl⟩;have hBW:Below wr.heap.size wr W1:=by rw[hW1];exact sd (Below.refl _ _) (ah _) _ _ _
          have Oo:W1.heap[wr.heap.size]? = some (.cells #[.int .i64 7,.int .i64 x.line,.int .i64 x.op,.int .i64 x.num,.string x.s,.slice SA x.names.length sc,.slice UA x.kids.length uc] 55 (0,0)):=by
           rw[hW1];exact(Below.heap_alloc (wr.alloc (.cells #[.int .i64 7,.int .i64 x.line,.int .i64 x.op,.int .i64 x.num,.string x.s,.slice SA x.names.length sc,.slice UA x.kids.length uc] 55)) _ _ (by rw[an];omega)).trans (heap_alloc_new wr _)
          rw[←hW1];have BW:=aa (DY.out.trans (hBW.mono DY.out.size));have ZW:=aa (Cd.out.later hBW);have SW:=aa ((hBW.block _ ls).trans ((DY.out.block w3.heap.size (aF.1 S4.out).1).trans S4.out));have NX:=aa Oo;clear hW1 hBW Oo s0 s1 s2 t0 ls lt Cd c0 c1 c2 c3 c4 c5 c6 v0 v1 on lu lo;go_loopw [10,11,13] (fun a b c wq=>∃(fn k:Nat) (u:Bool),a=.int .i64 (fn:Int)∧b=.int .i64 (k:Int)∧c=.bool u∧Below W1.heap.size W1 wq∧(u=true→nH st.fns x.s fn k)∧(u=false→∃y v,st.fns[fn]? = some y∧y.vars[k]? = some v∧v.name=x.s∧(DE=true→v.cap=true))) (fun a _ _ _=>(intOf a).toNat)
          case atStart =>
           exact⟨f,kk,DE,rfl,rfl,rfl,Below.refl _ _,HL1.out,fun e=>by
            obtain⟨y,v,h1,h2,h3⟩:=HL2.out e;exact⟨y,v,h1,h2,h3,fun e'=>by rw[e] at e';cases e'⟩⟩
          case round =>
           obtain⟨fn,k,u,rfl,rfl,rfl,tb,hu1,hu2⟩:=hrel;have jR:=aa tb;have HU1:=aa hu1;have HU2:=aa hu2;have Ga:=(tb.block w3.heap.size (aF.1 SW.out).1).trans SW.out;have s0:wr.cell? ⟨w3.heap.size,0,none⟩=some (.slice (some ⟨g,0,none⟩) L.length cg):=ab Ga 0;have ls:w3.heap.size<wr.heap.size:=(aF.1 Ga).1;have Y4:=ZW.out.later tb;clear tb hu1 hu2 Ga;cases u with
           | true =>
            have key :∃(xf:dr) (j p:Nat) (loc:Bool),st.fns[fn]? = some xf∧xf.ch[k]? = some ⟨loc,j⟩∧xf.parent=(p:Int)∧(loc=false→nH st.fns x.s p j)∧(loc=true→∃y v,st.fns[p]? = some y∧y.vars[j]? = some v∧v.name=x.s∧v.cap=true):=by
             cases HU1.out rfl with
             | here h1 h2 h3 h4 h5 h6 h7=>exact⟨_,_,_,true,h1,h2,h3,(fun h=>by cases h),fun _=>⟨_,_,h4,h5,h6,h7⟩⟩
             | up h1 h2 h3 h4=>exact⟨_,_,_,false,h1,h2,h3,fun _=>h4,(fun h=>by cases h)⟩
            obtain⟨xf,j,p,loc,h1,h2,h3,h4,h5⟩:=key;have we:=Y4.leads.ok.each fn xf h1;have hpf:p<fn:=by
             rcases we.par with ⟨_,h⟩ | ⟨p',h,h'⟩
             ·rw[h] at h3;omega
             ·rw[h] at h3;omega
            obtain⟨IU,p1,_,⟨UA2,uc2,p5,hua⟩⟩:=Y4.fn h1;obtain⟨gu,rfl,q0,q1⟩:=hua k _ h2;have Zj:=(aJ.1 h2).1;rw[h3] at p1;have l1:g<wr.heap.size:=block_lt_of_cell p1;have l2:gu<wr.heap.size:=block_lt_of_cell q0;have H4:=aa h4;have H5:=aa h5;have hfw:=Y4.few;clear h1 h2 h3 h4 h5 we hua Y4;generalize xf.ch.length=un at *;have g0:decide ((k:Int)<0)=false:=bU (by omega)
            have g1:(un≤k)=False:=tV (by omega)
            have g2:((fn:Int) == 0)=false:=aC.2 (by omega)
            have g3:(fn=0)=False:=tV (by omega)
            have HPF:=aa hpf;clear hpf;go_wp2_with fail
            go_quiet (fail)
            go_wp2_with fail
            refine⟨⟨p,j,!loc,rfl,rfl,rfl,below_drewN (jR.out.alloc jR.out.size _) _,fun e=>H4.out (by simpa using e),fun e=>?_⟩,by have:=HPF.out;simp[intOf];omega⟩
            obtain⟨y,v,a1,a2,a3,a4⟩:=H5.out (by simpa using e)
            exact⟨y,v,a1,a2,a3,fun _=>a4⟩
           | false =>
            obtain⟨y,v,hy,hv,wJ,hc1⟩:=HU2.out rfl;obtain⟨IU,p1,⟨VA,vc,p4,hva⟩,_⟩:=Y4.fn hy;obtain⟨gv,rfl,q0,q1,q2⟩:=hva k v hv;have Zj:=(aJ.1 hv).1;have Oo:=(jR.out.block _ (aF.1 NX.out).1).trans NX.out;have b4:=ab Oo 4;replace b4:_=some (Value.string x.s):=b4;have lb:=(aF.1 Oo).1;rw[wJ] at q0;have l1:g<wr.heap.size:=block_lt_of_cell p4;have l2:gv<wr.heap.size:=block_lt_of_cell q0;have hfw:=Y4.few;clear hy hv hva Oo wJ Y4;generalize y.vars.length=vn at *;have g0:decide ((k:Int)<0)=false:=bU (by omega)
            have g1:(vn≤k)=False:=tV (by omega)
            have Ua:=aa (BW.out.trans (jR.out.mono BW.out.size));have HC1:=aa hc1;clear hc1;cases DE with
            | true =>
             rw[HC1.out rfl] at q2;go_wp2_with fail
             exact⟨⟨n+1,by have:=tt.out;omega,by go_num,Ua.out.alloc Ua.out.size _⟩,by have:=tt.out;simp[intOf];omega⟩
            | false =>
             go_wp2_with fail
             exact⟨⟨n+1,by have:=tt.out;omega,by go_num,Ua.out.alloc Ua.out.size _⟩,by have:=tt.out;simp[intOf];omega⟩
         ·have k3:(x.kind != 7)=true:=mL.2 h7
          go_wp2_with fail
          exact⟨⟨n+1,by have:=tt.out;omega,by go_num,Cc DY.out DY.out.size _ _⟩,by have:=tt.out;simp[intOf];omega⟩
       ·go_wp2_with fail
        go_ret
        exact⟨rfl,B4.out.trans (DY.out.mono B4.out.size)⟩
  ·have hR:fH T r=false:=by simpa using hR
   have Jf:=aa (DZ _ T r w2 (HT.out.below B2.out) FK hR);clear Y3 FK hR;go_wp2_with fail
   refine Jf.out.mono ?_;rintro e w3 ⟨b3,u,rfl,hf⟩;have B3:=aa (B2.out.trans (b3.mono B2.out.size));obtain⟨g,rfl,_⟩:=hf;unfold gP;clear b3 t0 t1;go_wp2_with fail
   go_ret
   exact⟨rfl,B3.out.trans ((Below.refl _ _).alloc B3.out.size _)⟩
end Go.Proofs.YteflkdlaoiijbaaGreatDoor
namespace Go.Proofs.YteflkdlaoiijbaaGreatDoor
open Go.ChangeShapes Go.WideShapes Go.ChangeAt Go.WideMaps Go.WideElems Go.RowKit Go.ChangeMaps
theorem own:ownKnob Tryz.prog.godebug=Option.none:=by kernel_rfl
theorem laidOut:laidOutB Tryz.prog=true:=by kernel_rfl
abbrev xW:List (String×DataW Unit):=[("unicode/utf8.acceptRanges",Rows.laid_unicode_utf8_acceptRanges),("errors.errorType",Rows.laid_errors_errorType),("unicode/utf8.first",Rows.laid_unicode_utf8_first)]
abbrev se:List (String×DataW Unit):=[("unicode/utf8.acceptRanges",Rows.laid_unicode_utf8_acceptRanges),("unicode/utf8.first",Rows.laid_unicode_utf8_first)]
noncomputable def hand (os:Os):World :=
 { World.holding Tryz.prog os ⟨#[],#[],[]⟩ with heap:=(World.holding Tryz.prog os ⟨#[],#[],[]⟩).heap.modify 0 fun
   | .cells _ t frozen=>.cells #[.iface 165 (.agg #[.pointer (some ⟨4,27,Option.none⟩)])] t frozen
   | o=>o}
noncomputable def door (os:Os) (l:List (String×DataW Unit)):World:=(hand os).layVars Tryz.prog l
theorem Ub (os:Os) (l:List (String×DataW Unit)):(door os l).os=os:=World.layVars_os _ _ _
theorem zm (os:Os):(door os se).Shaped Tryz.prog:=World.shaped_of_ZipB (by kernel_rfl) (by kernel_rfl)
theorem Jy (os:Os) (l:List (String×DataW Unit)) (hf:(hand os).layFits Tryz.prog l []=true) (hi:(hand os).layIfaces Tryz.prog l (door os l)=true):laidMet Tryz.prog l (door os l):=by
 have e1:(l.filter fun x=>(l.map (·.1)).contains x.1)=l:=List.filter_eq_self.2 fun x hx=>List.contains_iff_mem.2 (eQ.2 ⟨x,hx,rfl⟩)
 have e2:(l.filter fun x=>!(l.map (·.1)).contains x.1)=[]:=List.filter_eq_nil_iff.2 fun x hx=>by rw[List.contains_iff_mem.2 (eQ.2 ⟨x,hx,rfl⟩)];simp
 exact laidMet_layVars (w0:=hand os) (l.map (·.1)) [] (by rw[e1];rfl) (by rw[e1];exact hf) (by rw[e1];exact hi) (by rw[e2];exact LaidIn.none)
theorem Jz (os:Os) (args:Array Value):laidMetH Tryz.prog xW ((door os se).forCall (fun _ _=>0) ⟨#[],args,[]⟩).memory:=by
 have h:laidMetH Tryz.prog xW (door os se):=laidMetH_of_parts (Jy os se (by kernel_rfl) (by kernel_rfl)) (by kernel_rfl)
 exact h.of_heap (by simp[World.memory,World.forCall,Input.heap])
theorem abK {W:World} (h:W.ShapedOpen Tryz.prog):Mx W:=Go.Proofs.cell_of_shapedOpen_int (zero:=#[.int .i64 0]) (t:=3) h (gU (by kernel_rfl)) (by kernel_rfl) rfl (by kernel_rfl) (by kernel_rfl) Tryz.underlying3
theorem Y5 {W:World} (h:W.ShapedOpen Tryz.prog):4≤W.heap.size:=by
 have k:(((begin Tryz.prog (fun _ _=>0) default).world.heap[4-1]?).bind Obj.row?).isSome=true:=by kernel_rfl
 obtain⟨⟨zero,t⟩,hz⟩:=zB.1 k;obtain⟨cs,hc,_⟩:=h.1 (4-1) zero t (gU (by kernel_rfl)) hz
 have:=(aF.1 hc).1;omega
theorem Tryz.et:Tryz.prog.globalNamed "errors.errorType" = some 0:=by kernel_rfl
theorem Tryz.rt:(Tryz.prog.cutTypes.find? (·.1 == "internal/reflectlite.rtype")).map (·.2)=some 165:=by kernel_rfl
theorem Tryz.abL:Tryz.prog.types.size=(423-100):=by kernel_rfl
theorem Tryz.Y6:((List.range (423-100)).filter fun t=>Tryz.prog.rowNamed t [101,114,114,111,114])=[27]:=by kernel_rfl
theorem Ce {W:World} (h:handlesMet Tryz.prog [("errors.errorType",Rows.laid_errors_errorType)] W):W.cell? ⟨0,0,Option.none⟩=some (.iface 165 (.agg #[.pointer (some ⟨4,27,Option.none⟩)])):=by
 obtain⟨name,u,ty,e1,e2,e3,e4,e5⟩:=h _ (bZ.2 rfl);have en:name=[101,114,114,111,114]:=(gz e1).symm;subst en;obtain rfl:=gz (Tryz.rt.symm.trans e2);have hm:ty∈(List.range (423-100)).filter fun t=>Tryz.prog.rowNamed t [101,114,114,111,114]:=wB.2 ⟨sr.2 (by rw[←Tryz.abL];exact e3),e4⟩
 rw[Tryz.Y6] at hm;obtain rfl:=bZ.1 hm;have hh:typeHandle Tryz.prog 27=.pointer (some ⟨4,27,Option.none⟩):=by kernel_rfl
 rw[hh] at e5;simpa using World.var?_cell Tryz.et e5 0
theorem ady {W:World} (hs:W.ShapedOpen Tryz.prog) (h:laidMetH Tryz.prog xW W):oA W:=by
 have h':laidMet Tryz.prog se W∧handlesMet Tryz.prog [("errors.errorType",Rows.laid_errors_errorType)] W:=h;exact⟨abK hs,Ce h'.2,Y5 hs⟩
theorem handed {H:Type} {enc:TypeId×Value→H} {C:Checked} {os:Os} {f:FuncId} {fn:Func} {s:ChangeSpec} {X:World→Array Value→Prop}
  (hX :∀(w w':World) (args:Array Value),w.heap=w'.heap→X w args→X w' args) (own:ownKnob C.prog.godebug=Option.none) (started:os.Started) (Y7:C.prog.inits.idxOf? f=Option.none) (hfn:C.prog.funcs[f]? = some fn)
  (witness :∃(w:World) (tape:Tape) (i:Input),w.os=os∧(w.forCall tape i).Shaped C.prog∧i.vars=[]∧Input.okWide C.prog (w.forCall tape i) .any w.heap.size f i ∧
   ((s.pre enc C.prog fn [] false (w.forCall tape i).memory i.args∧X (w.forCall tape i).memory i.args)∧sizedMet enc C.prog fn (OpenSpec.ofChange s) false (w.forCall tape i).memory i.args)∧({}:Assume).holds C.prog (lone (Frame.enter C.prog f i.args .normal) [] (w.forCall tape i)))
  (contract :∀(W:World) (base:Nat) (args:Array Value) (ds gs:List (DataW H)) (before:List MemPlace),
   (∀(j:Nat) t v,fn.params[j]? = some t→args[j]? = some v→Value.okWide C.prog W .any base t v) →
   DataW.Whole enc C.prog fn.params.toList s.vars false W args.toList ds gs before→X W args→W.ShapedOpen C.prog →
   (DataW.weightsEach C.prog (fn.params.toList++(OpenSpec.ofChange s).bare.plain.varTypes C.prog) (ds++gs)).all (·≤reachBytes)=true →
   Calls C.prog f args W fun e W'=>∃v,e=.returned v∧s.post enc C.prog fn false true false false W args v W') :
  ReturnsInHanded {} C os f .any (fun w args=>(s.pre enc C.prog fn [] false w args∧X w args)∧sizedMet enc C.prog fn (OpenSpec.ofChange s) false w args) (s.post enc C.prog fn false true false false):=by
 refine returnsInHanded_of_calls own started Y7 witness ?_;intro w tape i _ hsh _ CD uk _;obtain⟨_,_,_,fn',adz,_,_,_,_,hval⟩:=CD;obtain rfl:fn'=fn:=gz (adz.symm.trans hfn);obtain⟨⟨_,hx⟩,_,ds,gs,before,hw,hwt⟩:=uk;have hw':=DataW.Whole.of_heap (w':=w.forCall tape i) (by rfl) hw
 refine(contract (w.forCall tape i) w.heap.size i.args ds gs before hval hw' (hX _ _ _ (by rfl) hx) hsh hwt).mono fun e W' ⟨v,he,hp⟩=>?_
 subst he;exact ChangeSpec.post_blind hp
theorem vJ {n:Int} (h:(Lit.int .i64 n).wf=true):-9223372036854775808≤n:=by
 have h':(decide (IntKind.i64.min≤n) && decide (n≤IntKind.i64.max))=true:=h;simp only[dj,iH] at h';exact h'.1
theorem vK {n:Int} (h:(Lit.int .i64 n).wf=true):n≤9223372036854775807:=by
 have h':(decide (IntKind.i64.min≤n) && decide (n≤IntKind.i64.max))=true:=h;simp only[dj,iH] at h';exact h'.2
end Go.Proofs.YteflkdlaoiijbaaGreatDoor
namespace Go.Proofs.YteflkdlaoiijbaaGreatDoor
open Go.Joins Go.ChangeShapes Go.WideShapes Go.ChangeAt Go.RowKit Go.ChangeMaps Go.Deep
theorem vL {w:World} {a:Addr} {v:Value} (h:w.cell? a=some v):a=⟨a.block,a.off,none⟩:=by
 have:=World.cell?_spot h;cases a;simp_all
theorem qT (a:Addr):a.add 0=a:=by unfold Addr.add;simp
section
variable {H:Type} {enc:TypeId×Value→H} {w:World} {base:Nat} {held:Bool}
theorem Uc {fuel:Nat} {v:Value} {x:DataW H×List MemPlace} (h:DataW.trod enc Tryz.prog w base (fun _=>true) held fuel 53 [v]=some x) (hlt :∀y∈x.2,y.block<w.heap.size) :
  ∃xs:List ByteArray,oL w v xs∧(xs=[]∨∃el sp:List (DataW H),x.1=.slice el sp∧el.length=xs.length):=by
 rcases open_strings Tryz.underlying53 Tryz.underlying9 (by kernel_rfl) h with ⟨hcs,hx⟩ | ⟨a,len,cap,ss,hcs,_,hl,hm,hz,hx,hcell,hws⟩
 ·simp only[sq,pR] at hcs
  subst hcs;exact⟨[],⟨none,0,rfl,ah _,.inl rfl⟩,.inl rfl⟩
 ·simp only[sq,pR] at hcs
  simp only[sy] at hz;subst hcs;have Y8:(ss.take len).length=len:=by rw[mc];omega
  refine⟨ss.take len,⟨some a,cap,by rw[Y8],by rw[Y8];exact hl,?_⟩,.inr ⟨strs (ss.take len),strs (ss.drop len),by rw[hx],by simp[strs]⟩⟩
  rcases mG len with h0|h0
  ·left;exact ma (by rw[Y8];exact h0)
  ·right
   have ha:=vL (hcell 0 (by omega))
   have ha0:a=⟨a.block,a.off,none⟩:=by
    rw[qT] at ha;exact ha
   have bN:a.block<w.heap.size:=by
    rw[hx] at hlt;exact hlt (.cell a.block a.off) (by
     rw[ha0];exact MemPlace.mem_row.2 ⟨0,by omega,by simp⟩)
   refine⟨a.block,a.off,by rw[←ha0],bN,fun j y hj=>?_⟩
   have hj':j<len:=by
    have:=(aJ.1 hj).1;omega
   have hc:=hcell j (by omega)
   rw[ha0,nj] at hc;rw[hc];rw[JV hj'] at hj;simp[List.getD,hj]
theorem Ud {fuel:Nat} {v:Value} {x:DataW H×List MemPlace} (h:DataW.trod enc Tryz.prog w base (fun _=>true) held fuel 33 [v]=some x) (hlt :∀y∈x.2,y.block<w.heap.size) :
  ∃xs:List Int,eC w v xs∧(xs=[]∨∃el sp:List (DataW H),x.1=.slice el sp∧el.length=xs.length):=by
 rcases open_ints Tryz.underlying33 Tryz.underlying3 (by kernel_rfl) h with ⟨hcs,hx⟩ | ⟨a,len,cap,ss,hcs,_,hl,hm,hz,hx,hcell,hws⟩
 ·simp only[sq,pR] at hcs
  subst hcs;exact⟨[],⟨none,0,rfl,ah _,.inl rfl⟩,.inl rfl⟩
 ·simp only[sq,pR] at hcs
  simp only[sy] at hz;subst hcs;have Y8:(ss.take len).length=len:=by rw[mc];omega
  refine⟨ss.take len,⟨some a,cap,by rw[Y8],by rw[Y8];exact hl,?_⟩,.inr ⟨lits .i64 (ss.take len),lits .i64 (ss.drop len),by rw[hx],by simp[lits]⟩⟩
  rcases mG len with h0|h0
  ·left;exact ma (by rw[Y8];exact h0)
  ·right
   have ha:=vL (hcell 0 (by omega))
   have ha0:a=⟨a.block,a.off,none⟩:=by
    rw[qT] at ha;exact ha
   have bN:a.block<w.heap.size:=by
    rw[hx] at hlt;exact hlt (.cell a.block a.off) (by
     rw[ha0];exact MemPlace.mem_row.2 ⟨0,by omega,by simp⟩)
   refine⟨a.block,a.off,by rw[←ha0],bN,fun j y hj=>?_⟩
   have hj':j<len:=by
    have:=(aJ.1 hj).1;omega
   have hc:=hcell j (by omega)
   rw[ha0,nj] at hc;rw[hc];rw[JV hj'] at hj;simp[List.getD,hj]
theorem seven {P:Program} {spare:Nat→Bool} {fuel:Nat} {t:TypeId} {f0 f1 f2 f3 f4 f5 f6:Field} {cs:List Value} {x:DataW H×List MemPlace} (hs:P.underlying t=some (.struct #[f0,f1,f2,f3,f4,f5,f6]))
  (vZ:oneCellFields P #[f0,f1,f2,f3,f4,f5,f6]=true) (hC:P.cellsOf t=7) (h:DataW.trod enc P w base spare held fuel t cs=some x) :
  ∃(u0 u1 u2 u3 u4 u5 u6:Value) (y0 y1 y2 y3 y4 y5 y6:DataW H×List MemPlace) (n:Nat),cs=[u0,u1,u2,u3,u4,u5,u6]∧x=(.agg [y0.1,y1.1,y2.1,y3.1,y4.1,y5.1,y6.1],[y0,y1,y2,y3,y4,y5,y6].flatMap (·.2)) ∧
   DataW.trod enc P w base spare held n f0.type [u0]=some y0∧DataW.trod enc P w base spare held n f1.type [u1]=some y1∧DataW.trod enc P w base spare held n f2.type [u2]=some y2 ∧
   DataW.trod enc P w base spare held n f3.type [u3]=some y3∧DataW.trod enc P w base spare held n f4.type [u4]=some y4∧DataW.trod enc P w base spare held n f5.type [u5]=some y5∧DataW.trod enc P w base spare held n f6.type [u6]=some y6:=by
 obtain⟨ys,n,_,hx,hlc,hlen,hg⟩:=DataW.trod_struct hs h;have hl:cs.length=7:=hlc.trans hC;obtain⟨u0,u1,u2,u3,u4,u5,u6,rfl⟩ :∃a b c d e f g,cs=[a,b,c,d,e,f,g]:=by
  match cs,hl with
  | [a,b,c,d,e,f,g],_=>exact⟨a,b,c,d,e,f,g,rfl⟩
 obtain⟨y0,y1,y2,y3,y4,y5,y6,rfl⟩ :∃a b c d e f g,ys=[a,b,c,d,e,f,g]:=by
  match ys,hlen with
  | [a,b,c,d,e,f,g],_=>exact⟨a,b,c,d,e,f,g,rfl⟩
 have go :∀(j:Nat) f,(#[f0,f1,f2,f3,f4,f5,f6]:Array Field)[j]? = some f→DataW.trod enc P w base spare held n f.type (List.take 1 (List.drop j [u0,u1,u2,u3,u4,u5,u6]))=[y0,y1,y2,y3,y4,y5,y6][j]?:=by
  intro j f hj;have h1:=hg j f hj;obtain⟨ho,hk⟩:=hone_of vZ j f hj;rw[ho,hk] at h1;exact h1
 exact⟨u0,u1,u2,u3,u4,u5,u6,y0,y1,y2,y3,y4,y5,y6,n,rfl,hx,go 0 f0 rfl,go 1 f1 rfl,go 2 f2 rfl,go 3 f3 rfl,go 4 f4 rfl,go 5 f5 rfl,go 6 f6 rfl⟩
structure NdR (W:World) (x:Nd) (nv kv:Value) (d:DataW H):Prop where
 names:oL W nv x.names
 kids:eC W kv x.kids
 l:-9223372036854775808≤x.line∧x.line≤9223372036854775807
 o:-9223372036854775808≤x.op∧x.op≤9223372036854775807
 n:-9223372036854775808≤x.num∧x.num≤9223372036854775807
 big:(∀n∈d.weights Tryz.prog 55,n≤reachBytes)→x.names.length≤140737488355328∧x.kids.length≤140737488355328
set_option maxRecDepth 100000 in
theorem Ue {fuel:Nat} {cs:List Value} {x:DataW H×List MemPlace} (h:DataW.trod enc Tryz.prog w base (fun _=>true) held fuel 55 cs=some x) (hlt :∀y∈x.2,y.block<w.heap.size) :
  ∃(nd:Nd) (nv kv:Value),cs=[.int .i64 nd.kind,.int .i64 nd.line,.int .i64 nd.op,.int .i64 nd.num,.string nd.s,nv,kv]∧NdR w nd nv kv x.1:=by
 obtain⟨u0,u1,u2,u3,u4,u5,u6,y0,y1,y2,y3,y4,y5,y6,n,rfl,hx,t0,t1,t2,t3,t4,t5,t6⟩:=seven Tryz.underlying55 (by kernel_rfl) (by kernel_rfl) h
 obtain⟨z0,e0,r0,w0⟩:=DataW.trod_int Tryz.underlying3 (show DataW.trod enc Tryz.prog w base (fun _=>true) held n 3 [u0]=some y0 from t0)
 obtain⟨z1,e1,r1,w1⟩:=DataW.trod_int Tryz.underlying3 (show DataW.trod enc Tryz.prog w base (fun _=>true) held n 3 [u1]=some y1 from t1)
 obtain⟨z2,e2,r2,w2⟩:=DataW.trod_int Tryz.underlying3 (show DataW.trod enc Tryz.prog w base (fun _=>true) held n 3 [u2]=some y2 from t2)
 obtain⟨z3,e3,r3,w3⟩:=DataW.trod_int Tryz.underlying2 (show DataW.trod enc Tryz.prog w base (fun _=>true) held n 2 [u3]=some y3 from t3)
 obtain⟨z4,e4,r4,_⟩:=DataW.trod_string Tryz.underlying9 (show DataW.trod enc Tryz.prog w base (fun _=>true) held n 9 [u4]=some y4 from t4)
 have fD :∀y∈[y0,y1,y2,y3,y4,y5,y6],∀q∈y.2,q∈x.2:=fun y hy q hq=>by
  rw[hx];exact mH.2 ⟨y,hy,hq⟩
 obtain⟨xs,hs1,hs3⟩:=Uc (show DataW.trod enc Tryz.prog w base (fun _=>true) held n 53 [u5]=some y5 from t5) (fun q hq=>hlt q (fD y5 (by simp) q hq))
 obtain⟨zs,hz1,hz3⟩:=Ud (show DataW.trod enc Tryz.prog w base (fun _=>true) held n 33 [u6]=some y6 from t6) (fun q hq=>hlt q (fD y6 (by simp) q hq))
 simp only[sq,pR] at e0 e1 e2 e3 e4;subst e0 e1 e2 e3 e4;refine⟨⟨z0,z1,z2,z3,z4,xs,zs⟩,u5,u6,rfl,hs1,hz1,⟨vJ w1,vK w1⟩,⟨vJ w2,vK w2⟩,⟨vJ w3,vK w3⟩,fun hw=>?_⟩
 have hw' :∀q∈DataW.weightsEach Tryz.prog [3,3,3,2,9,53,33] [y0.1,y1.1,y2.1,y3.1,y4.1,y5.1,y6.1],q≤reachBytes:=fun q hq=>hw q (by
  rw[hx];show q∈DataW.weights Tryz.prog 55 (.agg [y0.1,y1.1,y2.1,y3.1,y4.1,y5.1,y6.1])
  rw[DataW.weights,Tryz.underlying55];exact hq)
 have b9:Tryz.prog.bytesOf 9=16:=by kernel_rfl
 have b3:Tryz.prog.bytesOf 3=8:=by kernel_rfl
 constructor
 ·rcases hs3 with rfl | ⟨el,sp,e,hl⟩
  ·exact bB _
  ·have:=hw' ((el.length+sp.length)*Tryz.prog.bytesOf 9) (DataW.weights_mem_each (j:=5) (t:=53) (d:=y5.1) rfl rfl _ (by rw[e,DataW.weights,Tryz.underlying53];exact bT ..))
   rw[b9] at this;unfold reachBytes at this;show xs.length≤_
   omega
 ·rcases hz3 with rfl | ⟨el,sp,e,hl⟩
  ·exact bB _
  ·have:=hw' ((el.length+sp.length)*Tryz.prog.bytesOf 3) (DataW.weights_mem_each (j:=6) (t:=33) (d:=y6.1) rfl rfl _ (by rw[e,DataW.weights,Tryz.underlying33];exact bT ..))
   rw[b3] at this;unfold reachBytes at this;show zs.length≤_
   omega
structure TrR (W:World) (T:List Nd) (nv:Value):Prop where
 nodes:qc W nv T
 l :∀x∈T,-9223372036854775808≤x.line∧x.line≤9223372036854775807
 o :∀x∈T,-9223372036854775808≤x.op∧x.op≤9223372036854775807
 n :∀x∈T,-9223372036854775808≤x.num∧x.num≤9223372036854775807
theorem Cf {P:Program} {e:TypeId} :∀{l:List (DataW H)} {d:DataW H},d∈l→∀n∈d.weights P e,n∈DataW.weightsAll P e l:=by
 intro l;induction l with
 | nil=>intro d hd;cases hd
 | cons a t ih =>
  intro d hd n hn;rw[DataW.weightsAll,cU];rcases bc.1 hd with rfl|hd
  ·exact .inl hn
  ·exact .inr (ih hd n hn)
theorem Cg {a:Addr} {i:Nat} {cs:List Value} (ha:a=⟨a.block,a.off,none⟩) (h:w.cells? base (a.add (i*7)) 7=some cs) :∀(j:Nat) u,cs[j]? = some u→w.cell? ⟨a.block,a.off+i*7+j,none⟩=some u:=by
 intro j u hj;have hc:=World.cells?_some h;have h2:w.cell? ((a.add (i*7)).add j)=some u:=(hc.2.2 j (by have:=(aJ.1 hj).1;have:=hc.2.1;omega)).trans hj
 rw[ha] at h2;have e1:((⟨a.block,a.off,none⟩:Addr).add (i*7)).add j=⟨a.block,a.off+i*7+j,none⟩:=by rw[nj,nj]
 rw[e1] at h2;exact h2
set_option maxRecDepth 100000 in
theorem open_tree {r:Reach} {b0:Nat} {v:Value} {d:DataW H} {p:List MemPlace} (hv:Value.okWide Tryz.prog w r b0 25 v) (h:DataW.Trod enc Tryz.prog w base (fun _=>true) held 25 v d p) (hlt :∀y∈p,y.block<w.heap.size) :
  ∃(nv:Value) (T:List Nd) (q:Int),v=.agg #[nv,.int .i64 q]∧TrR w T nv∧-9223372036854775808≤q∧q≤9223372036854775807 ∧
   ((∀n∈d.weights Tryz.prog 25,n≤reachBytes)→∀x∈T,x.names.length≤140737488355328∧x.kids.length≤140737488355328):=by
 obtain⟨u0,u1,y0,y1,m,rfl,rfl,rfl,t0,t1⟩:=open_agg2 Tryz.underlying25 (by kernel_rfl) (by kernel_rfl) hv h
 obtain⟨q,e1,rfl,w1⟩:=DataW.trod_int Tryz.underlying3 t1;simp only[sq,pR] at e1;subst e1;rcases open_slice Tryz.underlying23 t0 with ⟨hcs,hx⟩ | ⟨a,len,cap,mm,n,D,Pl,hcs,_,hl,yU,hm,hx,hel⟩
 ·simp only[sq,pR] at hcs
  subst hcs;exact⟨_,[],q,rfl,⟨⟨none,0,rfl,ah _,.inl rfl⟩,(fun x hx=>by cases hx),(fun x hx=>by cases hx),(fun x hx=>by cases hx)⟩,vJ w1,vK w1,fun _ x hx=>by cases hx⟩
 ·simp only[sq,pR] at hcs
  subst hcs;simp only[sy] at hm;have c32:Tryz.prog.cellsOf 55=7:=by kernel_rfl
  rw[c32] at hel hx;have hPl :∀i,i<len→∀y∈Pl i,y.block<w.heap.size:=fun i hi y hy=>hlt y (by
   rw[hx];exact eO _ (iF _ (mH.2 ⟨i,sr.2 (by omega),hy⟩)))
  have hex :∀i:Nat,∃nd:Nd,i<len→∃nv kv,w.cells? base (a.add (i*7)) 7=some [.int .i64 nd.kind,.int .i64 nd.line,.int .i64 nd.op,.int .i64 nd.num,.string nd.s,nv,kv]∧NdR w nd nv kv (D i):=fun i=>by
   by_cases hi:i<len
   ·obtain⟨cs',h1,h2⟩:=hel i (by omega)
    obtain⟨nd,nv,kv,rfl,h3⟩:=Ue h2 (hPl i hi);exact⟨nd,fun _=>⟨nv,kv,h1,h3⟩⟩
   ·exact⟨⟨0,0,0,0,⟨#[]⟩,[],[]⟩,fun h=>absurd h hi⟩
  obtain⟨F,hF⟩:=Classical.axiomOfChoice hex;have hTl:((List.range len).map F).length=len:=by simp
  have hTi :∀(i:Nat) x,((List.range len).map F)[i]? = some x→i<len∧x=F i:=fun i x hx=>by
   have hi:=(aJ.1 hx).1;rw[hTl] at hi;rw[fw,zE hi] at hx;exact⟨hi,(gz hx).symm⟩
  have hTm :∀x∈(List.range len).map F,∃i,i<len∧x=F i:=fun x hx=>by
   obtain⟨i,hi,e⟩:=eQ.1 hx;exact⟨i,sr.1 hi,e.symm⟩
  refine⟨_,(List.range len).map F,q,rfl,⟨⟨some a,cap,by rw[hTl],by rw[hTl];exact hl,?_⟩,?_,?_,?_⟩,vJ w1,vK w1,?_⟩
  ·rcases mG len with h0|h0
   ·left;exact ma (by rw[hTl];exact h0)
   ·right
    obtain⟨nv0,kv0,hc0,_⟩:=hF 0 h0;have ha0:a=⟨a.block,a.off,none⟩:=by
     have h2:w.cell? ((a.add (0*7)).add 0)=some (.int .i64 (F 0).kind):=((World.cells?_some hc0).2.2 0 (by decide)).trans rfl
     rw[Eo,qT,qT] at h2;exact vL h2
    have bN:a.block<w.heap.size:=hlt (.cell a.block a.off) (by
     rw[hx];refine eO _ (eO _ ?_);rw[ha0];exact MemPlace.mem_row.2 ⟨0,by omega,by simp⟩)
    refine⟨a.block,a.off,by rw[←ha0],bN,fun i x hx=>?_⟩
    obtain⟨hi,rfl⟩:=hTi i x hx;obtain⟨nv,kv,hc,hr⟩:=hF i hi;have hs:=Cg ha0 hc;exact⟨nv,kv,⟨hs 0 _ rfl,hs 1 _ rfl,hs 2 _ rfl,hs 3 _ rfl,hs 4 _ rfl,hs 5 _ rfl,hs 6 _ rfl⟩,hr.names,hr.kids⟩
  ·intro x hx
   obtain⟨i,hi,rfl⟩:=hTm x hx;obtain⟨nv,kv,hc,hr⟩:=hF i hi;exact hr.l
  ·intro x hx
   obtain⟨i,hi,rfl⟩:=hTm x hx;obtain⟨nv,kv,hc,hr⟩:=hF i hi;exact hr.o
  ·intro x hx
   obtain⟨i,hi,rfl⟩:=hTm x hx;obtain⟨nv,kv,hc,hr⟩:=hF i hi;exact hr.n
  ·intro hw x re
   obtain⟨i,hi,rfl⟩:=hTm x re;obtain⟨nv,kv,hc,hr⟩:=hF i hi;refine hr.big fun k hk=>hw k ?_
   rw[DataW.weights,Tryz.underlying25];refine DataW.weights_mem_each (j:=0) (t:=23) (d:=y0.1) rfl rfl k ?_;rw[hx,DataW.weights,Tryz.underlying23];refine cr _ (eO _ (Cf (d:=D i) ?_ k hk));exact eQ.2 ⟨i,sr.2 hi,rfl⟩
end
theorem abM {H:Type} {T:List Nd} {ds:List (DataW H)} {d:DataW H} {ts:List TypeId} (iW:ts[0]? = some 25) (tK:ds[0]? = some d)
  (hw:(∀n∈d.weights Tryz.prog 25,n≤reachBytes)→∀x∈T,x.names.length≤140737488355328∧x.kids.length≤140737488355328) (hwt:(DataW.weightsEach Tryz.prog ts ds).all (·≤reachBytes)=true):RdR T:=by
 have h1:=hw fun n hn=>gU (List.all_eq_true.1 hwt n (DataW.weights_mem_each iW tK n hn))
 exact⟨fun x hx=>(h1 x hx).1,fun x hx=>(h1 x hx).2⟩
end Go.Proofs.YteflkdlaoiijbaaGreatDoor
