/- Parts of the proof. -/
import Derived.Test.YteflkdlaoiijbaaGreatDoorCards
import Derived.Test.YteflkdlaoiijbaaGreatDoorTie
import Derived.ProofKit
import Derived.LaidMore
import Derived.LaidHandle
import Derived.Lay
import Derived.OpenShut
import Derived.SizedLaws
import Derived.Stop.Joined
import Derived.Stop.LaidErr
import Derived.Lib.LaidTab
import Derived.Test.YteflkdlaoiijbaaGreatDoorB14
set_option maxHeartbeats 16000000
set_option maxRecDepth 20000
namespace Go.Proofs.YteflkdlaoiijbaaGreatDoor
open Go.RowKit
def ab4 (B N:Nat) (v:Value) (r:Rs aG) (e:Ending) (w':World):Prop :=
 match r with
 | .ok st=>∃sv B',B≤B'∧e=.returned (.tuple #[v,sv,.int .i64 0])∧kQ w' B' N sv st
 | .error x=>e=.returned (.tuple #[v,iU,.int .i64 x.1])
def GJ (s:ByteArray):Prop:=∃o,dO (cZ s) s.data.toList o∧match o with
 | .error _=>True
 | .ok ts=>∃q,PL kG ts q∧match q with
  | .error _=>True
  | .ok (a,_)=>100<a.depth
def Vv (s:ByteArray) (w:World) (e:Ending) (w':World):Prop :=
 Below w.heap.size w w'∧((GJ s∧e=.returned (.tuple #[gI,iU,.int .i64 (-1)])) ∨
  ∃(ts au:List ah) (a:Ast) (v:Value) (T:List Nd) (p:Nat) (r:Rs aG),(∃A n c q,v=.agg #[.slice A n c,.int .i64 q])∧dO (cZ s) s.data.toList (.ok ts)∧ts.length≤s.size+1∧PL kG ts (.ok (a,au))∧a.depth≤100∧ab3 T p a r∧ab4 w.heap.size T.length v r e w')
theorem kQ.fr {E:List Nat} {W W':World} {B N:Nat} {v:Value} {st:aG} (h:kQ W B N v st) (k:Fr E W W') (he:(52:Nat)∉E∧(61:Nat)∉E∧(59:Nat)∉E∧(57:Nat)∉E∧(3:Nat)∉E):kQ W' B N v st:=by
 obtain⟨fv,ub,ob,L,e,h1,h2,h3,h4⟩:=h;exact⟨fv,ub,ob,L,e,⟨k.row h1.row he.1,fun t ht=>k.row (h1.vars t ht) he.2.1,fun t ht=>k.row (h1.bR t ht) he.2.2.1,h1.pM,h1.qG⟩,h2,k.row h3 he.2.2.2.1,k.row h4 he.2.2.2.2⟩
theorem kQ.form {W:World} {B N:Nat} {v:Value} {st:aG} (h:kQ W B N v st) :∃A n c ub ob,v=.agg #[.slice A n c,.slice (some ⟨ub,0,none⟩) N N,.slice (some ⟨ob,0,none⟩) N N]:=by
 obtain⟨fv,ub,ob,L,e,h1,_⟩:=h;obtain⟨A,c,rfl,_,_⟩:=dy h1.row;exact⟨A,_,c,ub,ob,e⟩
theorem sq {w w2:World} (hl:w.heap.size+1<w2.heap.size) {x0 x1 y0 y1 y2:Value} (h1:w2.heap[w.heap.size]? = some (.cells #[x0,x1] 25 (0,0))) (h2:w2.heap[w.heap.size+1]? = some (.cells #[y0,y1,y2] 35 (0,0))) (a b c d e:Value) :
  ∃W,W=((((w2.setCell ⟨w.heap.size,0,none⟩ a).setCell ⟨w.heap.size,1,none⟩ b).setCell ⟨w.heap.size+1,0,none⟩ c).setCell ⟨w.heap.size+1,1,none⟩ d).setCell ⟨w.heap.size+1,2,none⟩ e∧W.heap.size=w2.heap.size∧Below w.heap.size w2 W∧Fr [25,35] w2 W ∧
   (∀W',Below w2.heap.size W W'→W'.cell? ⟨w.heap.size,0,none⟩=some a∧W'.cell? ⟨w.heap.size,1,none⟩=some b∧W'.cell? ⟨w.heap.size+1,0,none⟩=some c∧W'.cell? ⟨w.heap.size+1,1,none⟩=some d∧W'.cell? ⟨w.heap.size+1,2,none⟩=some e):=by
 have t1:=bn h1 0 a;have t2:=bn t1 1 b;have far :∀(W:World) (j:Nat) (v:Value) (o:Obj),W.heap[w.heap.size+1]? = some o→(W.setCell ⟨w.heap.size,j,none⟩ v).heap[w.heap.size+1]? = some o:=fun W j v o h=>(Below.heap_setCell W ⟨w.heap.size,j,none⟩ v _ (by show w.heap.size+1≠w.heap.size;omega)).trans h
 have qJ :∀(W:World) (j:Nat) (v:Value) (o:Obj),W.heap[w.heap.size]? = some o→(W.setCell ⟨w.heap.size+1,j,none⟩ v).heap[w.heap.size]? = some o:=fun W j v o h=>(Below.heap_setCell W ⟨w.heap.size+1,j,none⟩ v _ (by show w.heap.size≠w.heap.size+1;omega)).trans h
 have s0:=far _ 1 b _ (far _ 0 a _ h2);have s1:=bn s0 0 c;have s2:=bn s1 1 d;have s3:=bn s2 2 e;have u3:=qJ _ 2 e _ (qJ _ 1 d _ (qJ _ 0 c _ t2));refine⟨_,rfl,by simp[World.setCell],?_,?_,fun W' hW=>?_⟩
 ·exact((((((Below.refl _ _).setCell (p:=⟨w.heap.size,0,none⟩) (ai _) _).setCell (p:=⟨w.heap.size,1,none⟩) (ai _) _).setCell (p:=⟨w.heap.size+1,0,none⟩) (gj _) _).setCell (p:=⟨w.heap.size+1,1,none⟩) (gj _) _).setCell (p:=⟨w.heap.size+1,2,none⟩) (gj _) _)
 ·exact((((Fr.set h1 (by decide) _ _).trans (Fr.set t1 (by decide) _ _)).trans (Fr.set s0 (by decide) _ _)).trans (Fr.set s1 (by decide) _ _)).trans (Fr.set s2 (by decide) _ _)
 ·have k1:=(hW.block w.heap.size (by omega)).trans u3
  have k2:=(hW.block (w.heap.size+1) (by omega)).trans s3
  exact⟨ab k1 0,ab k1 1,ab k2 0,ab k2 1,ab k2 2⟩
theorem ab5 (s:ByteArray) (w:World) (hs:s.size≤4000) (hE:nU w) (hK:aah s):Calls Tryz.prog 16 #[.string s] w (Vv s w):=by
 have HE:=aa hE;have HS:=aa hs;have HK:=aa hK;clear hE hs hK;go_enter Tryz.func16,Tryz.ntmps16
 go_wp2_with fail
 obtain⟨W1,hW1⟩ :∃W1,W1=(w.alloc (.cells #[.slice none 0 0,.int .i64 0] 25)).alloc (.cells #[.slice none 0 0,.slice none 0 0,.slice none 0 0] 35):=⟨_,rfl⟩;have hb1:Below w.heap.size w W1:=by rw[hW1];exact Below.two _ _
 have hs1:W1.heap.size=w.heap.size+1+1:=by rw[hW1,an,an]
 have htr:W1.heap[w.heap.size]? = some (.cells #[.slice none 0 0,.int .i64 0] 25 (0,0)):=by
  rw[hW1];exact(Below.heap_alloc _ _ _ (by rw[an];omega)).trans (heap_alloc_new w _)
 have hsc:W1.heap[w.heap.size+1]? = some (.cells #[.slice none 0 0,.slice none 0 0,.slice none 0 0] 35 (0,0)):=by
  rw[hW1];have:=heap_alloc_new (w.alloc (.cells #[.slice none 0 0,.int .i64 0] 25)) (.cells #[.slice none 0 0,.slice none 0 0,.slice none 0 0] 35);rwa[an] at this
 rw[←hW1];have dK:=aa hb1;have HTR:=aa htr;have HSC:=aa hsc;have eK:=aa hs1;clear hW1 hb1 hsc hs1 htr;refine(Ui s W1 (by have:=HS.out;omega) (HE.out.below dK.out) fun ts au a h1 h2 h3=>(HK.out ts au a h1 h2 h3).size).mono ?_
 rintro e w2 ⟨b2,o,ho,hm⟩;have B2:=aa (dK.out.trans (b2.mono dK.out.size));have Er:=(b2.block w.heap.size (by rw[eK.out];omega)).trans HTR.out
 have oe:=(b2.block (w.heap.size+1) (by rw[eK.out];omega)).trans HSC.out
 have hl2:w.heap.size+1<w2.heap.size:=(aJ.1 oe).1;have hl0:w.heap.size<w2.heap.size:=by omega
 have key:(∃l m g,e=.returned (.tuple #[gI,.iface 83 (.pointer (some ⟨g,0,none⟩))])∧Oq w2 (.iface 83 (.pointer (some ⟨g,0,none⟩))) l m∧GJ s)∨∃ts au a v T p,e=.returned (.tuple #[v,.nilIface])∧dO (cZ s) s.data.toList (.ok ts)∧ts.length≤s.size+1∧PL kG ts (.ok (a,au))∧a.depth≤100∧mD w2 v T ((p:Nat):Int)∧dV [] T [a] [((p:Nat):Int)]:=by
  cases o with
  | error n =>
   obtain⟨v,h1,h2⟩:=hm;obtain⟨g,rfl,h3⟩:=h2;exact .inl ⟨_,_,g,h1,⟨g,rfl,h3⟩,_,ho,trivial⟩
  | ok ts =>
   obtain⟨hlen,q,hq,hm⟩:=hm;cases q with
   | error l =>
    obtain⟨v,h1,h2⟩:=hm;obtain⟨g,rfl,h3⟩:=h2;exact .inl ⟨_,_,g,h1,⟨g,rfl,h3⟩,_,ho,_,hq,trivial⟩
   | ok z =>
    obtain⟨a,au⟩:=z;rcases hm with ⟨hd,v,h1,h2⟩ | ⟨hd,v,T,p,h1,h2,h3⟩
    ·obtain⟨g,rfl,h3⟩:=h2
     exact .inl ⟨_,_,g,h1,⟨g,rfl,h3⟩,_,ho,_,hq,hd⟩
    ·exact .inr ⟨ts,au,a,v,T,p,h1,ho,hlen,hq,hd,h2,h3⟩
 have zv:=aa Er;have sj:=aa oe;clear hm ho Er oe b2 HTR HSC eK dK;rcases key with ⟨l,m,g,rfl,_,hnr⟩ | ⟨ts,au,a,v,T,p,rfl,hlx,hlen,hP,hd,hv,hL⟩
 ·have HNR:=aa hnr
  clear hnr;have x0:w2.cell? ⟨w.heap.size,0,none⟩=some (.slice none 0 0):=ab zv.out 0;have x1:w2.cell? ⟨w.heap.size,1,none⟩=some (.int .i64 0):=ab zv.out 1;have y0:w2.cell? ⟨w.heap.size+1,0,none⟩=some (.slice none 0 0):=ab sj.out 0;have y1:w2.cell? ⟨w.heap.size+1,1,none⟩=some (.slice none 0 0):=ab sj.out 1;have y2:w2.cell? ⟨w.heap.size+1,2,none⟩=some (.slice none 0 0):=ab sj.out 2;have f0:=aw zv.out 0;have f1:=aw zv.out 1;have g0:=aw sj.out 0;have g1:=aw sj.out 1;have g2:=aw sj.out 2;unfold gI;go_wp2_with fail
  obtain⟨W7,wA,hs7,Gy,Vt,hc7⟩:=sq hl2 zv.out sj.out (.slice none 0 0) (.int .i64 0) (.slice none 0 0) (.slice none 0 0) (.slice none 0 0);rw[←wA];obtain⟨c0,c1,d0,d1,d2⟩:=hc7 (W7.alloc (.cells #[.slice none 0 0,.int .i64 0] 25)) ((Below.refl _ _).alloc (by rw[hs7];exact ai _) _)
  refine bodyPost_ret (v:=.tuple #[gI,iU,.int .i64 (-1)]) (by simp[results,Tryz.results16,go_sem,iU,gI,c0,c1,d0,d1,d2]) rfl ⟨(B2.out.trans Gy).trans ((Below.refl _ _).alloc (by rw[hs7];omega) _),.inl ⟨HNR.out,rfl⟩⟩
 ·have hB:=HK.out _ _ _ hlx hlen hP
  obtain⟨r,hsr,ny,hres,her⟩ :∃r,ab3 T p a r∧0<T.length∧(∀v W,mD W v T (p:Int)→Calls Tryz.prog 11 #[v] W fun e w'=>Below W.heap.size W w'∧GD W.heap.size T.length r e w')∧∀x,r=.error x→∃k:Nat,x.1=(k:Int)∧1≤k∧k≤14:=by
   cases ho:Ast.ok bj kj eR a with
   | true =>
    obtain⟨t,hst⟩:=QE (hB.a ho) hd hL;refine⟨kM t,.inl ⟨t,ho,hst,rfl⟩,by rw[GI hL];cases a;rw[Ast.size];omega,fun v W h=>Cq v T (p:Int) W h hst.sml hst.right t (by rw[hst.loc]) hst.nod hst.kind hst.few hst.wt hst.size,fun x hx=>?_⟩
    obtain⟨k,h1,h2⟩:=tK t x hx;exact⟨k,h1,by omega⟩
   | false =>
    obtain⟨h1,h2,h3⟩:=aai hB ho hL;exact⟨.error (4,0),.inr ⟨ho,rfl⟩,h3,fun v W h=>Ep v T (p:Int) W h h2 h1,fun x hx=>⟨4,by injection hx with hx;rw[←hx];rfl,by omega⟩⟩
  obtain⟨nv,rfl,A,c,rfl,hc,hX⟩:=hv;have hA :∃bk o,A=some ⟨bk,o,none⟩:=by
   rcases hX with h0 | ⟨bk,o,e,_⟩
   ·rw[h0] at ny
    simp at ny
   ·exact⟨bk,o,e⟩
  obtain⟨bk,o,rfl⟩:=hA;have hv:mD w2 (.agg #[.slice (some ⟨bk,o,none⟩) T.length c,.int .i64 ((p:Nat):Int)]) T ((p:Nat):Int):=⟨_,rfl,_,c,rfl,hc,hX⟩;have HV:=aa hv;have HST:=aa hsr;have Cu:=aa (And.intro hlx (And.intro hlen (And.intro hP hd)));have Vg:=aa (fun W (hW:Below w2.heap.size w2 W)=>hres _ W (hv.below hW))
  have ad1:=aa her;clear hv hsr hX hlx hlen hP hd hL hres her hB ny;go_wp2_with fail
  refine(Vg.out _ ((Below.refl _ _).alloc (ai _) _)).mono ?_;rintro e w4 ⟨b4,h4⟩;have b4':=b4;rw[an] at b4';have CG:Below w2.heap.size w2 w4:=((Below.refl _ _).alloc (ai _) _).trans (b4.mono (by rw[an];omega))
  have ab6:=(CG.block w.heap.size (by omega)).trans zv.out
  have ab7:=(CG.block (w.heap.size+1) (by omega)).trans sj.out
  have aak:=(b4'.block w2.heap.size (by omega)).trans (heap_alloc_new w2 (.cells #[.slice (some ⟨bk,o,none⟩) T.length c,.int .i64 ((p:Nat):Int)] 25))
  have hl4:w2.heap.size<w4.heap.size:=(aJ.1 aak).1;have Rr:=aa CG;have ab8:=aa ab6;have ab9:=aa ab7;have aca:=aa aak;obtain⟨R,hR⟩ :∃R,R=r:=⟨_,rfl⟩;rw[←hR] at h4;have TB:=aa hR;have Kv:=ad1;rw[←hR] at Kv;clear b4 b4' CG ab6 ab7 aak hR;cases R with
  | error x =>
   obtain⟨v,rfl,hf⟩:=h4;obtain⟨k,hk,hk8⟩:=Kv.out x rfl;have HF:=aa hf;obtain⟨g4,rfl,_⟩:=hf;unfold iU;go_wp2_with fail
   have hEn:nU (w4.alloc (.cells #[.slice none 0 0,.slice none 0 0,.slice none 0 0] 35)):=(HE.out.below ((B2.out.trans (Rr.out.mono B2.out.size)).trans ((Below.refl _ _).alloc (by omega) _)))
   refine(aaj _ x.2 k _ hEn ?_ (by omega)).mono ?_
   ·obtain⟨g,e1,e2⟩:=HF.out
    exact⟨g,e1,(Below.heap_alloc w4 _ g (aJ.1 e2).1).trans (by rw[e2,hk])⟩
   rintro e w5 ⟨rfl,b5⟩;have uW:Below w4.heap.size w4 w5:=((Below.refl _ _).alloc (ai _) _).trans (b5.mono (by rw[an];omega))
   have vO:=(b5.block w4.heap.size (by rw[an];omega)).trans (heap_alloc_new w4 (.cells #[.slice none 0 0,.slice none 0 0,.slice none 0 0] 35))
   have vP:=(uW.block w.heap.size (by omega)).trans ab8.out
   have pR:=(uW.block (w.heap.size+1) (by omega)).trans ab9.out
   have Et:=(uW.block w2.heap.size (by omega)).trans aca.out
   have hl5:w4.heap.size<w5.heap.size:=(aJ.1 vO).1;have q0:=ab vP 0;have q1:=ab vP 1;have q2:=aw vP 0;have q3:=aw vP 1;have r0:=ab pR 0;have r1:=ab pR 1;have r2:=ab pR 2;have r3:=aw pR 0;have r4:=aw pR 1;have r5:=aw pR 2;have p0:w5.cell? ⟨w2.heap.size,0,none⟩=some (.slice (some ⟨bk,o,none⟩) T.length c):=ab Et 0;have p1:w5.cell? ⟨w2.heap.size,1,none⟩=some (.int .i64 (p:Int)):=ab Et 1;have s0:w5.cell? ⟨w4.heap.size,0,none⟩=some (.slice none 0 0):=ab vO 0;have s1:w5.cell? ⟨w4.heap.size,1,none⟩=some (.slice none 0 0):=ab vO 1;have s2:w5.cell? ⟨w4.heap.size,2,none⟩=some (.slice none 0 0):=ab vO 2;replace q0:w5.cell? ⟨w.heap.size,0,none⟩=some (.slice none 0 0):=q0;replace q1:w5.cell? ⟨w.heap.size,1,none⟩=some (.int .i64 0):=q1;replace r0:w5.cell? ⟨w.heap.size+1,0,none⟩=some (.slice none 0 0):=r0;replace r1:w5.cell? ⟨w.heap.size+1,1,none⟩=some (.slice none 0 0):=r1;replace r2:w5.cell? ⟨w.heap.size+1,2,none⟩=some (.slice none 0 0):=r2;have Qf:=aa uW;clear b5 uW Et vO;go_wp2_with fail
   go_region
   go_wp2_with fail
   obtain⟨W7,wA,hs7,Gy,Vt,hc7⟩:=sq (w:=w) (w2:=w5) (by omega) vP pR (.slice (some ⟨bk,o,none⟩) T.length c) (.int .i64 (p:Int)) (.slice none 0 0) (.slice none 0 0) (.slice none 0 0)
   rw[←wA];obtain⟨c0,c1,d0,d1,d2⟩:=hc7 W7.drew (Below.refl _ _).drew;refine bodyPost_ret (v:=.tuple #[.agg #[.slice (some ⟨bk,o,none⟩) T.length c,.int .i64 (p:Int)],iU,.int .i64 (k:Int)]) (by simp[results,Tryz.results16,go_sem,iU,c0,c1,d0,d1,d2]) rfl ⟨(((B2.out.trans (Rr.out.mono B2.out.size)).trans (Qf.out.mono (by omega))).trans Gy).drew,.inr ⟨ts,au,a,.agg #[.slice (some ⟨bk,o,none⟩) T.length c,.int .i64 (p:Int)],T,p,r,⟨_,_,_,_,rfl⟩,Cu.out.1,Cu.out.2.1,Cu.out.2.2.1,Cu.out.2.2.2,HST.out,?_⟩⟩
   rw[←TB.out];show _=_
   rw[hk]
  | ok st =>
   obtain⟨v,B',hB',rfl,hsz⟩:=h4;have qK:=aa hsz;rw[an] at hB';obtain⟨FA,fn,fc,ub,ob,rfl⟩:=hsz.form;clear hsz;go_wp2_with fail
   refine(Oy _).mono ?_;rintro e w5 ⟨rfl,rfl⟩;obtain⟨w5,iB⟩ :∃w5,w5=w4.alloc (.cells #[.slice FA fn fc,.slice (some ⟨ub,0,none⟩) T.length T.length,.slice (some ⟨ob,0,none⟩) T.length T.length] 35):=⟨_,rfl⟩;have uW:Below w4.heap.size w4 w5:=by rw[iB];exact(Below.refl _ _).alloc (ai _) _
   have vO:w5.heap[w4.heap.size]? = some (.cells #[.slice FA fn fc,.slice (some ⟨ub,0,none⟩) T.length T.length,.slice (some ⟨ob,0,none⟩) T.length T.length] 35 (0,0)):=by rw[iB];exact heap_alloc_new _ _
   rw[←iB];clear iB;have vP:=(uW.block w.heap.size (by omega)).trans ab8.out
   have pR:=(uW.block (w.heap.size+1) (by omega)).trans ab9.out
   have Et:=(uW.block w2.heap.size (by omega)).trans aca.out
   have hl5:w4.heap.size<w5.heap.size:=(aJ.1 vO).1;have q0:=ab vP 0;have q1:=ab vP 1;have q2:=aw vP 0;have q3:=aw vP 1;have r0:=ab pR 0;have r1:=ab pR 1;have r2:=ab pR 2;have r3:=aw pR 0;have r4:=aw pR 1;have r5:=aw pR 2;have p0:w5.cell? ⟨w2.heap.size,0,none⟩=some (.slice (some ⟨bk,o,none⟩) T.length c):=ab Et 0;have p1:w5.cell? ⟨w2.heap.size,1,none⟩=some (.int .i64 (p:Int)):=ab Et 1;have s0:w5.cell? ⟨w4.heap.size,0,none⟩=some (.slice FA fn fc):=ab vO 0;have s1:w5.cell? ⟨w4.heap.size,1,none⟩=some (.slice (some ⟨ub,0,none⟩) T.length T.length):=ab vO 1;have s2:w5.cell? ⟨w4.heap.size,2,none⟩=some (.slice (some ⟨ob,0,none⟩) T.length T.length):=ab vO 2;replace q0:w5.cell? ⟨w.heap.size,0,none⟩=some (.slice none 0 0):=q0;replace q1:w5.cell? ⟨w.heap.size,1,none⟩=some (.int .i64 0):=q1;replace r0:w5.cell? ⟨w.heap.size+1,0,none⟩=some (.slice none 0 0):=r0;replace r1:w5.cell? ⟨w.heap.size+1,1,none⟩=some (.slice none 0 0):=r1;replace r2:w5.cell? ⟨w.heap.size+1,2,none⟩=some (.slice none 0 0):=r2;have Qf:=aa uW;clear uW Et vO;go_wp2_with fail
   go_region
   go_wp2_with fail
   obtain⟨W7,wA,hs7,Gy,Vt,hc7⟩:=sq (w:=w) (w2:=w5) (by omega) vP pR (.slice (some ⟨bk,o,none⟩) T.length c) (.int .i64 (p:Int)) (.slice FA fn fc) (.slice (some ⟨ub,0,none⟩) T.length T.length) (.slice (some ⟨ob,0,none⟩) T.length T.length)
   rw[←wA];obtain⟨c0,c1,d0,d1,d2⟩:=hc7 W7.drew (Below.refl _ _).drew;refine bodyPost_ret (v:=.tuple #[.agg #[.slice (some ⟨bk,o,none⟩) T.length c,.int .i64 (p:Int)],.agg #[.slice FA fn fc,.slice (some ⟨ub,0,none⟩) T.length T.length,.slice (some ⟨ob,0,none⟩) T.length T.length],.int .i64 0]) (by simp[results,Tryz.results16,go_sem,c0,c1,d0,d1,d2]) rfl ⟨(((B2.out.trans (Rr.out.mono B2.out.size)).trans (Qf.out.mono (by omega))).trans Gy).drew,.inr ⟨ts,au,a,.agg #[.slice (some ⟨bk,o,none⟩) T.length c,.int .i64 (p:Int)],T,p,r,⟨_,_,_,_,rfl⟩,Cu.out.1,Cu.out.2.1,Cu.out.2.2.1,Cu.out.2.2.2,HST.out,?_⟩⟩
   rw[←TB.out];exact⟨_,B',by have:=B2.out.size;omega,rfl,(qK.out.fr (E:=[25,35]) ((Fr.ae Qf.out).trans Vt.drew) (by decide))⟩
def qtF (q:UInt8):List UInt8→Option (List UInt8×List UInt8)
 | []=>none
 | c::r=>if c=q then some ([],r) else if c=10∨c=92 then none else (qtF q r).map fun x=>(c::x.1,x.2)
theorem yi {q:UInt8} :∀{l:List UInt8} {z:List UInt8×List UInt8},qtF q l=some z→qZ q l (some z)
 | [],z,h=>by cases h
 | c::r,z,h=>by
  unfold qtF at h;by_cases h1:c=q
  ·rw[ak h1] at h
   injection h with h;rw[←h,h1];exact .shut
  ·rw[af h1] at h
   by_cases h2:c=10∨c=92
   ·rw[ak h2] at h;cases h
   ·rw[af h2] at h
    cases hq:qtF q r with
    | none=>rw[hq] at h;cases h
    | some x =>
     rw[hq] at h;injection h with h;rw[←h];exact .byte (o:=some x) h1 (fun e=>h2 (.inl e)) (fun e=>h2 (.inr e)) (yi hq)
def tkF:List UInt8→Option (Int×Int×List UInt8×List UInt8)
 | []=>none
 | c::r=>if uh c then some (if np ((c::r).takeWhile iM) then 2 else 1,0,(c::r).takeWhile iM,(c::r).dropWhile iM)
  else if gr c then (if p9 9223372036854775807 ((c::r).takeWhile pt) then some (3,wS (ug 9223372036854775807 ((c::r).takeWhile pt):Int),[],(c::r).dropWhile pt) else none)
  else if E3 c then (qtF c r).map fun x=>(4,0,x.1,x.2)
  else if 0<opn (c::r) then none
  else (sign (c::r)).map fun x=>(5,0,x.1,x.2)
theorem Ka {l:List UInt8} {z:Int×Int×List UInt8×List UInt8} (h:tkF l=some z):Tok l (some z):=by
 cases l with
 | nil=>cases h
 | cons c r =>
  change(if uh c=true then some (if np ((c::r).takeWhile iM) then 2 else 1,0,(c::r).takeWhile iM,(c::r).dropWhile iM)
   else if gr c=true then (if p9 9223372036854775807 ((c::r).takeWhile pt)=true then some (3,wS (ug 9223372036854775807 ((c::r).takeWhile pt):Int),[],(c::r).dropWhile pt) else none)
   else if E3 c=true then (qtF c r).map fun x=>(4,0,x.1,x.2)
   else if 0<opn (c::r) then none
   else (sign (c::r)).map fun x=>(5,0,x.1,x.2))=some z at h
  by_cases h1:uh c=true
  ·rw[ak h1] at h
   rw[←h];exact .name h1
  ·rw[af h1] at h
   have h1:uh c=false:=by simpa using h1
   by_cases h2:gr c=true
   ·rw[ak h2] at h
    by_cases h3:p9 9223372036854775807 ((c::r).takeWhile pt)=true
    ·rw[ak h3] at h
     rw[←h];exact .num h1 h2 h3
    ·rw[af h3] at h;cases h
   ·rw[af h2] at h
    have h2:gr c=false:=by simpa using h2
    by_cases h3:E3 c=true
    ·rw[ak h3] at h
     cases hq:qtF c r with
     | none=>rw[hq] at h;cases h
     | some x =>
      rw[hq] at h;rw[←h];exact .text (o:=some x) h1 h2 h3 (yi hq)
    ·rw[af h3] at h
     have h3:E3 c=false:=by simpa using h3
     by_cases h4:0<opn (c::r)
     ·rw[ak h4] at h;cases h
     ·rw[af h4] at h
      rw[←h];exact .sign h1 h2 h3 h4
def lxF (L:Int):Nat→List UInt8→Option (List Tk)
 | 0,_=>none
 | n+1,l=>if Lib.hasPrefix (l.dropWhile oX) [45,45] then none else
  match l.dropWhile oX with
  | []=>some [(0,L,0,[])]
  | c::t=>match tkF (c::t) with
   | none=>none
   | some (k,m,s,r)=>(lxF L n r).map ((k,L-nl (c::t),m,s) :: ·)
theorem lJ {L:Int} :∀(n:Nat) (l:List UInt8) (ts:List Tk),lxF L n l=some ts→dO L l (.ok ts)
 | 0,l,ts,h=>by cases h
 | n+1,l,ts,h=>by
  unfold lxF at h;by_cases hp:Lib.hasPrefix (l.dropWhile oX) [45,45]=true
  ·rw[ak hp] at h;cases h
  ·rw[af hp] at h
   have hp:Lib.hasPrefix (l.dropWhile oX) [45,45]=false:=by simpa using hp
   cases hd:l.dropWhile oX with
   | nil =>
    rw[hd] at h hp;injection h with h;rw[←h];exact .eof (.done hd hp)
   | cons c t =>
    rw[hd] at h hp;dsimp only at h
    cases ht:tkF (c::t) with
    | none=>rw[ht] at h;cases h
    | some z =>
     obtain⟨k,m,s,r⟩:=z;rw[ht] at h;dsimp only at h
     cases hr:lxF L n r with
     | none=>rw[hr] at h;cases h
     | some au =>
      rw[hr] at h;injection h with h;rw[←h];exact .step (o:=.ok au) (.done hd hp) (by simp) (Ka ht) (lJ n r au hr)
end Go.Proofs.YteflkdlaoiijbaaGreatDoor
namespace Go.Proofs.YteflkdlaoiijbaaGreatDoor
section
variable {N:Type} {V:N→Type} (body :∀n,G N V (V n))
def run:Nat→{α:Type}→G N V α→List ah→Option (Except Int (α×List ah))
 | 0,_,_,_=>none
 | _+1,_,.ret a,ts=>some (.ok (a,ts))
 | _+1,_,.bad,[]=>none
 | _+1,_,.bad,t::_=>some (.error t.2.1)
 | _+1,_,.tok _,[]=>none
 | n+1,_,.tok f,t::ts=>run n (f t) ts
 | _+1,_,.look _,[]=>none
 | n+1,_,.look f,t::ts=>run n (f t) (t::ts)
 | n+1,_,.call m k,ts=>match run n (body m) ts with
  | none=>none
  | some (.error e)=>some (.error e)
  | some (.ok p)=>run n (k p.1) p.2
variable {body}
theorem sr :∀(n:Nat) {α:Type} (g:G N V α) (ts:List ah) (r:Except Int (α×List ah)),run body n g ts=some r→P body g ts r:=by
 intro n;induction n with
 | zero=>intro α g ts r h;cases h
 | succ n ih =>
  intro α g ts r h;cases g with
  | ret a =>
   rw[run] at h;rw[←gG h];exact .ret
  | bad =>
   cases ts with
   | nil=>rw[run] at h;cases h
   | cons t ts =>
    rw[run] at h;rw[←gG h];exact .bad
  | tok f =>
   cases ts with
   | nil=>rw[run] at h;cases h
   | cons t ts=>rw[run] at h;exact .tok (ih _ _ _ h)
  | look f =>
   cases ts with
   | nil=>rw[run] at h;cases h
   | cons t ts=>rw[run] at h;exact .look (ih _ _ _ h)
  | call m k =>
   rw[run] at h;cases e:run body n (body m) ts with
   | none=>rw[e] at h;cases h
   | some q =>
    rw[e] at h;cases q with
    | error x =>
     rw[←gG h];exact .fQ (ih _ _ _ e)
    | ok p=>exact .call (ih _ _ (.ok (p.1,p.2)) e) (ih _ _ _ h)
end
def vQ (s:List UInt8):ah:=(1,1,0,s)
def qX (s:List UInt8):ah:=(5,1,0,s)
end Go.Proofs.YteflkdlaoiijbaaGreatDoor
namespace Go.Proofs.YteflkdlaoiijbaaGreatDoor
def wd (s:List UInt8):ah:=(2,1,0,s)
def nuT (n:Int):ah:=(3,1,n,[])
def QF:ByteArray:=⟨#[108,111,99,97,108,32,97,59,32,114,101,116,117,114,110,32,102,117,110,99,116,105,111,110,40,41,32,114,101,116,117,114,110,32,97,44,32,98,32,101,110,100]⟩
def QG:ByteArray:=⟨#[103,111,116,111,32,108,59,32,108,111,99,97,108,32,120,59,32,58,58,108,58,58,32,120,32,61,32,49]⟩
def QH:ByteArray:=⟨#[103,111,116,111,32,108,59,32,108,111,99,97,108,32,120,59,32,58,58,108,58,58]⟩
def Xe:List ah:=[wd lP,vQ [97],qX [59],wd jj,wd bc,qX [40],qX [41],wd jj,vQ [97],qX [44],vQ [98],wd ig,Dq]
def QI (r:List ah):List ah:=[wd pX,vQ [108],qX [59],wd lP,vQ [120],qX [59],qX [58,58],vQ [108],qX [58,58]]++r
def Xf:List ah:=QI [vQ [120],qX [61],nuT 1,Dq]
def GK:Ast:=nd 18 1 [vZ 19 1 0 [bu [97]] [],nd 29 1 [vZ 11 1 0 [] [nd 18 1 [nd 29 1 [kf 7 1 (bu [97]) [],kf 7 1 (bu [98]) []]]]]]
def yj (r:List Ast):Ast:=nd 18 1 ([kf 31 1 (bu [108]) [],vZ 19 1 0 [bu [120]] [],kf 32 1 (bu [108]) []]++r)
def GM:Ast:=yj [Cy 20 1 1 [kf 7 1 (bu [120]) [],Cy 4 1 1 []]]
theorem acb:PL kG Xe (.ok (GK,[Dq])):=sr 100 _ _ _ rfl
theorem acd:PL kG Xf (.ok (GM,[Dq])):=sr 100 _ _ _ rfl
theorem ace:PL kG (QI [Dq]) (.ok (yj [],[Dq])):=sr 100 _ _ _ rfl
theorem ad2:lxF (cZ QF) (QF.data.toList.length+1) QF.data.toList=some Xe:=by decide +kernel
theorem ad3:lxF (cZ QG) (QG.data.toList.length+1) QG.data.toList=some Xf:=by decide +kernel
theorem ad4:lxF (cZ QH) (QH.data.toList.length+1) QH.data.toList=some (QI [Dq]):=by decide +kernel
def Vw (a:Ast):Int×List (List Bool×List (Bool×Nat)) :=
 match kM a.lt with
 | .ok st=>(0,st.fns.map fun x=>(x.vars.map lq.cap,x.bR.map fun u=>(u.loc,u.idx)))
 | .error x=>(x.1,[])
theorem ad5:Vw GK=(0,[([true],[]),([],[(true,0)])]):=by rfl
theorem ad6:Vw GM=(10,[]):=by rfl
theorem ad7:Vw (yj [])=(0,[([false],[])]):=by rfl
open Go.RowKit
def ad8 (a:Ast) (w:World) (e:Ending) (w':World):Prop :=
 Below w.heap.size w w'∧∃(A:Option Addr) (n c:Nat) (q:Int) (r:Rs aG),RR (fun x y=>FR id x.fns y.fns) (kM a.lt) r∧match r with
  | .ok st=>∃sv B' N,w.heap.size≤B'∧e=.returned (.tuple #[.agg #[.slice A n c,.int .i64 q],sv,.int .i64 0])∧kQ w' B' N sv st
  | .error x=>e=.returned (.tuple #[.agg #[.slice A n c,.int .i64 q],iU,.int .i64 x.1])
theorem QJ {s:ByteArray} {ts au:List ah} {a:Ast} (hl:dO (cZ s) s.data.toList (.ok ts)) (hp:PL kG ts (.ok (a,au))) (hA:zw a) (hd:a.depth≤100) (w:World) (hs:s.size≤4000) (hE:nU w):Calls Tryz.prog 16 #[.string s] w (ad8 a w):=by
 refine(ab5 s w hs hE (Vu hl hp hA)).mono ?_;rintro e w' ⟨hb,h⟩;refine⟨hb,?_⟩;rcases h with ⟨⟨o,ho,hn⟩,_⟩ | ⟨eP,ad0,a2,v,T,p,r0,⟨A,n,c,q,rfl⟩,hlx,_,hP,_,hsr,hres⟩
 ·have e1:=hl.sB ho
  subst e1;obtain⟨q,hq,hn⟩:=hn;have e2:=hp.one hq;subst e2;exact absurd hd (by omega)
 ·have e1:=hl.sB hlx
  injection e1 with e1;subst e1;have e2:=hp.one hP;injection e2 with e2;injection e2 with e2 _;subst e2;rcases hsr with ⟨t,_,hst,rfl⟩ | ⟨ho,_⟩;case inr=>rw[hA.ok] at ho;cases ho
  have h1:=Gb (ρ:=id) (fun _ _ h=>h) hst.sim
  refine⟨A,n,c,q,kM t,h1,?_⟩;revert hres
  cases kM t with
  | ok st=>exact fun⟨sv,B',h2,h3,h4⟩=>⟨sv,B',T.length,h2,h3,h4⟩
  | error x=>exact id
def QK (r:Rs aG):Int×List (List Bool×List (Bool×Nat)) :=
 match r with
 | .ok st=>(0,st.fns.map fun x=>(x.vars.map lq.cap,x.bR.map fun u=>(u.loc,u.idx)))
 | .error x=>(x.1,[])
theorem frA {a b:List cR} (h:FR id a b) (i:Nat) {y:cR} (hy:b[i]? = some y) :∃x,a[i]? = some x∧FS id x y:=by
 have hl:=(aL.1 hy).1;have h2:=h.2 i;have h1:i<a.length:=by have:=h.1;omega
 refine⟨a[i],bH h1,?_⟩;rw[j5,j5,hy,bH h1] at h2;exact h2
theorem zx {a b:Rs aG} (h:RR (fun x y=>FR id x.fns y.fns) a b):QK b=QK a:=by
 cases a with
 | error x =>
  cases b with
  | error y=>have h:x.1=y.1:=h;show(y.1,[])=(x.1,[]);rw[h]
  | ok s=>exact h.elim
 | ok s =>
  cases b with
  | error y=>exact h.elim
  | ok s' =>
   have h:FR id s.fns s'.fns:=h;show(0,_)=(0,_)
   congr 1
   refine KY fun i=>?_
   rw[gE,gE];cases e:s'.fns[i]? with
   | none =>
    have h1:=Kz.1 e;rw[wH (by have:=h.1;omega)]
   | some y =>
    obtain⟨x,hx,hs⟩:=frA h i e;rw[hx];have h3:y.vars.map lq.cap=x.vars.map lq.cap:=by
     have h3:=ay (List.map Prod.snd) hs.vars;rw[zY,zY] at h3;exact h3
    show some (y.vars.map lq.cap,y.bR.map fun u=>(u.loc,u.idx))=some (x.vars.map lq.cap,x.bR.map fun u=>(u.loc,u.idx))
    rw[h3,hs.bR]
theorem Eu (a:Ast):Vw a=QK (kM a.lt):=rfl
structure vR (W:World) (g c gv cv gu cu:Nat):Prop where
 v0:W.cell? ⟨g,4,none⟩=some (.slice (some ⟨gv,0,none⟩) 1 cv)
 v1:W.cell? ⟨gv,2,none⟩=some (.bool true)
 u0:W.cell? ⟨g,11,none⟩=some (.slice (some ⟨gu,0,none⟩) 1 cu)
 u1:W.cell? ⟨gu,0,none⟩=some (.bool true)
 u2:W.cell? ⟨gu,1,none⟩=some (.int .i64 0)
theorem vR.later {W W':World} {g c gv cv gu cu:Nat} (h:vR W g c gv cv gu cu) (hb:Below W.heap.size W W'):vR W' g c gv cv gu cu :=
 ⟨(hb.cell (p:=⟨g,4,none⟩) (block_lt_of_cell h.v0)).trans h.v0,(hb.cell (p:=⟨gv,2,none⟩) (block_lt_of_cell h.v1)).trans h.v1,(hb.cell (p:=⟨g,11,none⟩) (block_lt_of_cell h.u0)).trans h.u0,(hb.cell (p:=⟨gu,0,none⟩) (block_lt_of_cell h.u1)).trans h.u1,(hb.cell (p:=⟨gu,1,none⟩) (block_lt_of_cell h.u2)).trans h.u2⟩
theorem Vx {W:World} {B N:Nat} {sv:Value} {st:aG} (h:kQ W B N sv st) (hf:QK (.ok st)=(0,[([true],[]),([],[(true,0)])])) :∃g c gv cv gu cu U O,sv=.agg #[.slice (some ⟨g,0,none⟩) 2 c,.slice (some ⟨U,0,none⟩) N N,.slice (some ⟨O,0,none⟩) N N]∧vR W g c gv cv gu cu:=by
 obtain⟨fv,ub,ob,L,rfl,hF,ha,_,_⟩:=h;have hf:(0,st.fns.map fun x=>(x.vars.map lq.cap,x.bR.map fun u=>(u.loc,u.idx)))=((0:Int),[([true],[]),([],[(true,0)])]):=hf
 injection hf with _ hf;rw[←ha,zY] at hf;match L,hf with
 | [t0,t1],hf =>
  injection hf with h0 h1;injection h1 with h1 _;injection h0 with h0 _;injection h1 with _ h1;obtain⟨g,c,rfl,_,_,hc0⟩:=hF.form (f:=0) (t:=t0) rfl;obtain⟨g',c',e',_,_,hc1⟩:=hF.form (f:=1) (t:=t1) rfl;injection e' with e1 _ e2;injection e1 with e1;injection e1 with e1;subst e1 e2;have hv:=hF.vars t0 (bQ ..);have hu:=hF.bR t1 (bX _ (bQ ..));have hvl:t0.1.vars.length=1:=by have:=ay List.length h0;simpa using this
  have oN:t1.1.bR.length=1:=by have:=ay List.length h1;simpa using this
  match hvx:t0.1.vars,hvl with
  | [x],_ =>
   match hux:t1.1.bR,oN with
   | [y],_ =>
    rw[hvx] at hv h0;rw[hux] at hu h1;have hxc:x.cap=true:=by injection h0
    have hy:y.loc=true∧y.idx=0:=by injection h1 with h1 _;injection h1 with h2 h3;exact⟨h2,h3⟩
    obtain⟨A1,c1,e1,_,hA1⟩:=dy hv;obtain⟨A2,c2,e2,_,hA2⟩:=dy hu;rcases hA1 with hA1 | ⟨gv,rfl,_,_,hA1⟩
    ·exact absurd hA1 (by simp)
    rcases hA2 with hA2 | ⟨gu,rfl,_,_,hA2⟩
    ·exact absurd hA2 (by simp)
    refine⟨g,c,gv,c1,gu,c2,ub,ob,rfl,?_,?_,?_,?_,?_⟩
    ·have:=(hc0 4 (by omega)).1
     rw[show(OS t0)[4]? = some t0.2.1 from rfl,e1] at this
     exact this
    ·have:=hA1 2 (by simp)
     rw[show(([x]:List lq).flatMap ti)[2]? = some (.bool x.cap) from rfl,hxc] at this
     exact this
    ·have:=(hc1 5 (by omega)).1
     rw[show(OS t1)[5]? = some t1.2.2 from rfl,e2] at this
     exact this
    ·have:=hA2 0 (by simp)
     rw[show(([y]:List sQ).flatMap Gf)[0]? = some (.bool y.loc) from rfl,hy.1] at this
     exact this
    ·have:=hA2 1 (by simp)
     rw[show(([y]:List sQ).flatMap Gf)[1]? = some (.int .i64 (y.idx:Int)) from rfl,hy.2] at this
     exact this
 | [],hf=>exact absurd (ay List.length hf) (by simp)
 | [_],hf=>exact absurd (ay List.length hf) (by simp)
 | _::_::_::_,hf=>exact absurd (ay List.length hf) (by simp)
theorem yk {r:Rs aG} {l:List (List Bool×List (Bool×Nat))} (h:QK r=(0,l)) (he:kO r) :∃st,r=.ok st:=by
 cases r with
 | ok st=>exact⟨st,rfl⟩
 | error x =>
  obtain⟨k,h1,h2⟩:=he x rfl;have h:(x.1,[])=((0:Int),l):=h;injection h with h _;omega
theorem QL {a b:Rs aG} (h:RR (fun x y=>FR id x.fns y.fns) a b) (ha:kO a):kO b:=fun y hy=>by
 subst hy;cases a with
 | ok s=>exact h.elim
 | error x =>
  have h:x.1=y.1:=h;rw[←h];exact ha x rfl
theorem ok1:zw GK:=⟨by decide +kernel,rfl,by simp[GK,jf,km,Ds,nd,vZ,kf,bu];decide +kernel,by decide +kernel,by decide +kernel⟩
theorem ok2:zw GM:=⟨by decide +kernel,rfl,by simp[GM,yj,jf,km,Ds,nd,vZ,kf,Cy,bu];decide +kernel,by decide +kernel,by decide +kernel⟩
theorem ok3:zw (yj []):=⟨by decide +kernel,rfl,by simp[yj,jf,km,Ds,nd,vZ,kf,bu];decide +kernel,by decide +kernel,by decide +kernel⟩
theorem ad9 (w:World) (hE:nU w):Calls Tryz.prog 16 #[.string QF] w fun e w'=>Below w.heap.size w w'∧∃A n c q g c1 gv cv gu cu U O N,e=.returned (.tuple #[.agg #[.slice A n c,.int .i64 q],.agg #[.slice (some ⟨g,0,none⟩) 2 c1,.slice (some ⟨U,0,none⟩) N N,.slice (some ⟨O,0,none⟩) N N],.int .i64 0])∧vR w' g c1 gv cv gu cu :=
 (QJ (lJ _ _ _ ad2) acb ok1 (by decide +kernel) w (by decide) hE).mono fun e w' ⟨hb,A,n,c,q,r,hr,h⟩=>by
  refine⟨hb,?_⟩;have hf:=zx hr;rw[←Eu,ad5] at hf;obtain⟨st,rfl⟩:=yk hf (QL hr (tK _));obtain⟨sv,B',N,_,rfl,hz⟩:=h;obtain⟨g,c1,gv,cv,gu,cu,U,O,rfl,h1⟩:=Vx hz hf;exact⟨A,n,c,q,g,c1,gv,cv,gu,cu,U,O,N,rfl,h1⟩
theorem aea (w:World) (hE:nU w):Calls Tryz.prog 16 #[.string QG] w fun e w'=>Below w.heap.size w w'∧∃A n c q,e=.returned (.tuple #[.agg #[.slice A n c,.int .i64 q],iU,.int .i64 10]) :=
 (QJ (lJ _ _ _ ad3) acd ok2 (by decide +kernel) w (by decide) hE).mono fun e w' ⟨hb,A,n,c,q,r,hr,h⟩=>by
  refine⟨hb,A,n,c,q,?_⟩;have hf:=zx hr;rw[←Eu,ad6] at hf;cases r with
  | ok st=>injection hf with hf _;exact absurd hf (by decide)
  | error x =>
   injection hf with hf _;have h:e=.returned (.tuple #[.agg #[.slice A n c,.int .i64 q],iU,.int .i64 x.1]):=h;rw[h,hf]
theorem aeb (w:World) (hE:nU w):Calls Tryz.prog 16 #[.string QH] w fun e w'=>Below w.heap.size w w'∧∃A n c q F1 F2 F3 U O N,e=.returned (.tuple #[.agg #[.slice A n c,.int .i64 q],.agg #[.slice F1 F2 F3,.slice (some ⟨U,0,none⟩) N N,.slice (some ⟨O,0,none⟩) N N],.int .i64 0]) :=
 (QJ (lJ _ _ _ ad4) ace ok3 (by decide +kernel) w (by decide) hE).mono fun e w' ⟨hb,A,n,c,q,r,hr,h⟩=>by
  refine⟨hb,A,n,c,q,?_⟩;have hf:=zx hr;rw[←Eu,ad7] at hf;obtain⟨st,rfl⟩:=yk hf (QL hr (tK _));obtain⟨sv,B',N,_,rfl,hz⟩:=h;obtain⟨F1,F2,F3,U,O,rfl⟩:=hz.form;exact⟨F1,F2,F3,U,O,N,rfl⟩
set_option maxRecDepth 100000 in
theorem Vy (w:World) (hE:nU w):Calls Tryz.prog 8 #[] w fun e w'=>e=.returned (.bool true)∧Below w.heap.size w w':=by
 have L1:=aa (fun W (b:Below w.heap.size w W)=>ad9 W (hE.below b))
 have L2:=aa (fun W (b:Below w.heap.size w W)=>aea W (hE.below b))
 have L3:=aa (fun W (b:Below w.heap.size w W)=>aeb W (hE.below b))
 unfold QF at L1;unfold QG iU at L2;unfold QH at L3;clear hE;go_enter Tryz.func8,Tryz.ntmps8
 go_wp2_with fail
 refine(L1.out _ (Below.refl ..)).mono ?_;rintro e w1 ⟨b1,A,n,c,q,g,c1,gv,cv,gu,cu,U,O,N,rfl,hS⟩;have B1:=aa b1;have eK:=aa hS;clear b1 hS;go_wp2_with fail
 obtain⟨w2,hw2⟩ :∃w2,w2=(w1.alloc (.cells #[.slice A n c,.int .i64 q] 25)).alloc (.cells #[.slice (some ⟨g,0,none⟩) 2 c1,.slice (some ⟨U,0,none⟩) N N,.slice (some ⟨O,0,none⟩) N N] 35):=⟨_,rfl⟩;have hb2:Below w1.heap.size w1 w2:=by rw[hw2];exact Below.two _ _
 have hs2:w2.heap[w1.heap.size+1]? = some (.cells #[.slice (some ⟨g,0,none⟩) 2 c1,.slice (some ⟨U,0,none⟩) N N,.slice (some ⟨O,0,none⟩) N N] 35 (0,0)):=by
  rw[hw2];have:=heap_alloc_new (w1.alloc (.cells #[.slice A n c,.int .i64 q] 25)) (.cells #[.slice (some ⟨g,0,none⟩) 2 c1,.slice (some ⟨U,0,none⟩) N N,.slice (some ⟨O,0,none⟩) N N] 35);rwa[an] at this
 rw[←hw2];have B2:=aa (B1.out.trans (hb2.mono B1.out.size));have sI:=aa (eK.out.later hb2);have X2:=aa hs2;clear hw2 hb2 hs2;refine(L2.out _ B2.out).mono ?_;rintro e w3 ⟨b3,A',n',c',q',rfl⟩;have B3:=aa (B2.out.trans (b3.mono B2.out.size));have oH:=aa (sI.out.later b3);have X3:=aa ((b3.block _ (aJ.1 X2.out).1).trans X2.out);clear b3;go_wp2_with fail
 obtain⟨w4,hw4⟩ :∃w4,w4=(w3.alloc (.cells #[.slice A' n' c',.int .i64 q'] 25)).alloc (.cells #[.slice none 0 0,.slice none 0 0,.slice none 0 0] 35):=⟨_,rfl⟩;have hb4:Below w3.heap.size w3 w4:=by rw[hw4];exact Below.two _ _
 rw[←hw4];have B4:=aa (B3.out.trans (hb4.mono B3.out.size));have HS4:=aa (oH.out.later hb4);have X4:=aa ((hb4.block _ (aJ.1 X3.out).1).trans X3.out);clear hw4 hb4;refine(L3.out _ B4.out).mono ?_;rintro e w5 ⟨b5,A5,n5,c5,q5,F1,F2,F3,U5,O5,N5,rfl⟩;have B5:=aa (B4.out.trans (b5.mono B4.out.size));have HS5:=aa (HS4.out.later b5);have X5:=aa ((b5.block _ (aJ.1 X4.out).1).trans X4.out);clear b5;obtain⟨v0,v1,u0,u1,u2⟩:=HS5.out;have x0:w5.cell? ⟨w1.heap.size+1,0,none⟩=some (.slice (some ⟨g,0,none⟩) 2 c1):=ab X5.out 0;have l0:w1.heap.size+1<w5.heap.size:=(aJ.1 X5.out).1;have l1:g<w5.heap.size:=block_lt_of_cell v0;have l2:gv<w5.heap.size:=block_lt_of_cell v1;have l3:gu<w5.heap.size:=block_lt_of_cell u1;have l4:w1.heap.size<w5.heap.size:=by omega
 have l5:g<w5.heap.size+1:=by omega
 have l6:gv<w5.heap.size+1:=by omega
 have l7:gu<w5.heap.size+1:=by omega
 go_wp2_with fail
 go_ret
 exact⟨rfl,(B5.out.trans ((Below.two _ _).mono B5.out.size))⟩
end Go.Proofs.YteflkdlaoiijbaaGreatDoor
namespace Go.Proofs.YteflkdlaoiijbaaGreatDoor
def oQ (L:Int):ah:=(2,L,0,ig)
section
variable {L1 L2:Int} {Y:List ah}
abbrev zK (L1 L2:Int) (Y:List ah) {α:Type} (g:GL α):Prop:=Ee bg Mt [dF L1] (oQ L2::Y) g
theorem aQ {α:Type} {c:Prop} [Decidable c] {g g':GL α} (h1:zK L1 L2 Y g) (h2:zK L1 L2 Y g'):zK L1 L2 Y (if c then g else g'):=by
 by_cases h:c
 ·rw[ak h];exact h1
 ·rw[af h];exact h2
theorem dj {α:Type} {f:ah→GL α} (h1 :∀t,zK L1 L2 Y (f t)) (h2 :∀a,PL (f (dF L1)) [dF L1] (.ok (a,[dF L1]))→False):zK L1 L2 Y (.look f):=⟨h1,fun a h=>(h2 a (dL h)).elim⟩
theorem iH {α:Type} {f:ah→GL α} (b:α) (h1 :∀t,zK L1 L2 Y (f t)) (hs:f (dF L1)=.ret b) (hr:f (oQ L2)=.ret b):zK L1 L2 Y (.look f):=⟨h1,fun a h=>by
 have h:=dL h;rw[hs] at h;obtain⟨rfl,_⟩:=qk h;refine .look ?_;rw[hr];exact .ret⟩
theorem Vz (s:List UInt8):ax s (dF L1)=false:=rfl
theorem iI {α:Type} {s:List UInt8} {k:ah→GL α} {a:α} {ts:List ah} (h:PL (want s k) [dF L1] (.ok (a,ts))):False:=by
 have h:=dL h;rw[Vz] at h;exact kl h
theorem zy {α:Type} {k:ah→GL α} {a:α} {ts:List ah} (h:PL (name k) [dF L1] (.ok (a,ts))):False:=kl (dL h)
theorem cU {α:Type} {s:List UInt8} {k:ah→GL α} (h :∀t,zK L1 L2 Y (k t)):zK L1 L2 Y (want s k):=dj (fun _=>aQ h trivial) fun _ h=>iI (s:=s) (k:=k) (.look h)
theorem gV {α:Type} {k:ah→GL α} (h :∀t,zK L1 L2 Y (k t)):zK L1 L2 Y (name k):=dj (fun _=>aQ h trivial) fun _ h=>kl h
theorem Ev {v:Ast} {ts:List ah} (h:PL (bg .wQ) [dF L1] (.ok (v,ts))):False:=kl (dL h)
theorem QM {v:Ast} {ts:List ah} (h:PL (bg .CN) [dF L1] (.ok (v,ts))):False:=by
 obtain⟨_,_,h1,_⟩:=cE (dL h);exact Ev h1
theorem aal {v:Ast} {ts:List ah} (h:PL (bg .una) [dF L1] (.ok (v,ts))):False:=by
 obtain⟨_,_,h1,_⟩:=cE (n:=.CN) (dL h);exact QM h1
theorem Ew {s:Nat} {v:Ast} {ts:List ah} (h:PL (bg (.exp s)) [dF L1] (.ok (v,ts))):False:=by
 obtain⟨_,_,h1,_⟩:=cE h;exact aal h1
theorem aam {v:List Ast} {ts:List ah} (h:PL (bg .v8) [dF L1] (.ok (v,ts))):False:=by
 obtain⟨_,_,h1,_⟩:=cE h;exact Ew h1
theorem aan {v:Ast} {ts:List ah} (h:PL (bg .GZ) [dF L1] (.ok (v,ts))):False:=by
 obtain⟨_,_,h1,_⟩:=cE (dL h);exact Ew h1
theorem aao {l v:List Ast} {ts:List ah} (h:PL (bg (.els l)) [dF L1] (.ok (v,ts))):False:=iI (dL h)
theorem aap {l:List ByteArray} {v:List ByteArray×Int} {ts:List ah} (h:PL (bg (.GX l)) [dF L1] (.ok (v,ts))):False:=zy (dL h)
theorem qY {α:Type} {s:List UInt8} {k:ah→GL α} (h :∀t,zK L1 L2 Y (k t)):zK L1 L2 Y (want s k)∧∀a,PL (want s k) [dF L1] (.ok (a,[dF L1]))→False:=⟨cU h,fun _ h=>iI h⟩
theorem Xg {α:Type} {l:List Ast} {k:List Ast→GL α} (h :∀v,zK L1 L2 Y (k v)):zK L1 L2 Y (.call (.els l) k)∧∀a,PL (.call (.els l) k) [dF L1] (.ok (a,[dF L1]))→False:=⟨h,fun _ h=>by
 obtain⟨_,_,h1,_⟩:=cE h;exact aao h1⟩
theorem QN (n:NT) (hn:Mt n=false):zK L1 L2 Y (bg n):=by
 cases n with
 | blk=>cases hn
 | nj l=>exact iH l (fun _=>aQ trivial (aQ (fun _ _=>trivial) (aQ (fun _ _=>trivial) (fun _ _=>trivial)))) rfl rfl
 | ret at_=>exact iH _ (fun _=>aQ trivial (aQ (fun _=>trivial) (fun _=>iH _ (fun _=>aQ (fun _=>trivial) trivial) rfl rfl))) rfl rfl
 | v7 =>
  refine dj (fun _=>aQ (fun _=>gV fun _=>cU fun _=>trivial) (aQ (fun _=>trivial) (aQ (fun _=>gV fun _=>trivial) (aQ (fun _ _=>qY fun _=>trivial) (aQ (fun _ _=>cU fun _ _=>qY fun _=>trivial) (aQ (fun _ _=>qY fun _ _=>trivial) (aQ (fun _ _=>cU fun _ _=>Xg fun _=>trivial) (aQ (fun _ _=>trivial) (aQ (fun _ _=>trivial) (aQ (fun _ _=>trivial) (fun _=>aQ trivial fun _=>trivial))))))))))) fun a h=>?_
  obtain⟨_,_,h1,_⟩:=cE (n:=.wQ) h;exact Ev h1
 | els l=>exact dj (fun _=>aQ (fun _ _=>cU fun _ _=>Xg fun _=>trivial) (aQ (fun _ _=>qY fun _=>trivial) (cU fun _=>trivial))) fun a h=>iI h
 | RC at_ =>
  refine fun ns=>dj (fun _=>aQ (fun _ _=>cU fun _ _=>dj (fun _=>aQ (fun _ _=>cU fun _ _=>qY fun _=>trivial) (cU fun _ _=>qY fun _=>trivial)) fun a h=>iI h) (cU fun _ _=>cU fun _ _=>qY fun _=>trivial)) fun a h=>?_
  rw[af (fun h=>by cases h.1)] at h
  exact iI h
 | RD at_=>exact gV fun _ _=>trivial
 | QZ at_ x =>
  refine dj (fun _=>aQ (fun _=>gV fun _ _=>trivial) (aQ (fun _=>gV fun _ _=>trivial) (fun _=>trivial))) fun a h=>?_
  obtain⟨_,_,h1,_⟩:=cE (n:=.Ac at_ []) h;exact iI h1
 | loc at_ =>
  refine dj (fun _=>aQ (fun _=>gV fun _ _=>trivial) (fun ns=>iH _ (fun _=>aQ (fun _ _=>trivial) trivial) rfl rfl)) fun a h=>?_
  obtain⟨_,_,h1,_⟩:=cE (n:=.GY) h;exact zy h1
 | Ac at_ s =>
  refine cU fun _=>dj (fun _=>aQ (fun _ _=>qY fun _=>trivial) (fun _=>cU fun _ _=>qY fun _=>trivial)) fun a h=>?_
  obtain⟨_,_,h1,_⟩:=cE (n:=.GX s) h;exact aap h1
 | GX l=>exact dj (fun _=>aQ (fun _=>trivial) (gV fun _=>iH _ (fun _=>aQ (fun _ _=>trivial) trivial) rfl rfl)) fun a h=>zy h
 | GY=>exact gV fun _ _=>trivial
 | Q0 l=>exact iH _ (fun _=>aQ (fun _=>gV fun _ _=>trivial) trivial) rfl rfl
 | v8=>exact fun _ _=>trivial
 | Q6 l=>exact iH _ (fun _=>aQ (fun _ _ _=>trivial) trivial) rfl rfl
 | Q7 at_ l =>
  refine dj (fun _=>aQ (aQ (fun _ _ _=>trivial) (cU fun _ _=>trivial)) trivial) fun a h=>?_
  by_cases hk:(l.getLastD (nd 0 0 [])).hd.kind=7∨(l.getLastD (nd 0 0 [])).hd.kind=8
  ·rw[ak hk] at h
   exact iI h
  ·rw[af hk] at h
   exact kl h
 | wQ=>exact dj (fun _=>aQ (fun _ _=>trivial) (aQ (fun _ _=>cU fun _ _=>trivial) trivial)) fun a h=>kl h
 | aR x=>exact iH _ (fun _=>aQ (fun _=>gV fun _ _=>trivial) (aQ (fun _ _=>cU fun _ _=>trivial) (aQ (fun _=>gV fun _ _ _=>trivial) (aQ (fun _ _=>trivial) trivial)))) rfl rfl
 | arg =>
  refine dj (fun _=>aQ (fun _=>trivial) (aQ (fun _ _=>trivial) (cU fun _=>dj (fun _=>aQ (fun _=>trivial) (fun _=>cU fun _=>trivial)) fun a h=>?_))) fun a h=>iI h
  obtain⟨_,_,h1,_⟩:=cE (n:=.v8) h;exact aam h1
 | Kf l =>
  refine dj (fun _=>aQ (fun _=>trivial) (fun _=>dj (fun _=>aQ (fun _ _=>trivial) (cU fun _=>trivial)) fun a h=>iI h)) fun a h=>?_
  obtain⟨_,_,h1,_⟩:=cE (n:=.GZ) h;exact aan h1
 | GZ =>
  refine dj (fun _=>aQ (fun _ _=>cU fun _=>cU fun _ _=>trivial) (fun x=>iH _ (fun _=>aQ (fun _ _=>trivial) trivial) (af (fun h=>by cases h.1)) (af (fun h=>by cases h.1)))) fun a h=>?_
  obtain⟨_,_,h1,_⟩:=cE (n:=.exp 1) h;exact Ew h1
 | exp s=>exact fun _ _=>trivial
 | lvm s x =>
  refine iH x (fun t=>?_) rfl rfl
  show zK L1 L2 Y (match jD t with|some o=>_|none=>_)
  cases jD t with
  | none=>trivial
  | some o=>exact aQ (fun _ _ _=>trivial) trivial
 | una =>
  refine dj (fun t=>?_) fun a h=>?_
  ·show zK L1 L2 Y (match jZ t with|some o=>_|none=>_)
   cases jZ t with
   | none=>exact fun _=>trivial
   | some o=>exact fun _ _=>trivial
  ·obtain⟨_,_,h1,_⟩:=cE (n:=.CN) h
   exact QM h1
 | CN =>
  refine dj (fun _=>aQ (fun _=>trivial) (aQ (fun _=>trivial) (aQ (fun _=>trivial) (aQ (fun _=>trivial) (aQ (fun _ _=>trivial) (aQ (fun _ _=>trivial) (aQ (fun _=>trivial) (aQ (fun _=>trivial) (fun _=>trivial))))))))) fun a h=>?_
  obtain⟨_,_,h1,_⟩:=cE (n:=.wQ) h;exact Ev h1
theorem VC {us:List ah} {v:List Ast} (h:PL (bg (.nj [])) (us++[dF L1]) (.ok (v,[dF L1]))):PL (bg (.nj [])) (us++oQ L2::Y) (.ok (v,oQ L2::Y)) :=
 h.aaT (sp:=Mt) (fun n hn=>QN n hn) v us rfl rfl (QN (.nj []) rfl)
end
end Go.Proofs.YteflkdlaoiijbaaGreatDoor
namespace Go.Proofs.YteflkdlaoiijbaaGreatDoor
open Go.RowKit
theorem QO {s:ByteArray} (hs:s.size≤4000):aah s:=fun ts au a hl hlen h=>by
 have hsz:s.data.toList.length=s.size:=by rw[←Lib.size_eq]
 have hsm:=Jj hl (by omega) ts rfl
 have hT:TS ts:=⟨fun t ht=>(hsm t ht).1,by omega⟩
 have h2:=MB h;have h3:=Zi h;obtain⟨t,SO,la,u,us,rfl,_,_,rfl,h4⟩:=Fq h;exact⟨rfl,V9 ((PL.small (n:=.nj []) h4 hT).2.2 ou),by omega,by omega⟩
theorem Kb {l:List UInt8} {k n:Int} {s r:List UInt8} (h:Tok l (some (k,n,s,r))) (hl:l≠[]):k≠0:=by
 generalize ho:some (k,n,s,r)=o at h;cases h with
 | eof=>exact absurd rfl hl
 | name _ =>
  simp only[eM,fw] at ho;rw[ho.1];split<;>decide
 | num _ _ _ =>
  simp only[eM,fw] at ho;rw[ho.1];decide
 | rk=>cases ho
 | @text c t o' _ _ _ _ =>
  cases o' with
  | none=>cases ho
  | some z =>
   simp only[fK,eM,fw] at ho;rw[ho.1];decide
 | @long c t _ _ _ _ =>
  cases e:wU (c::t) with
  | none=>rw[e] at ho;cases ho
  | some z =>
   rw[e] at ho;simp only[fK,eM,fw] at ho;rw[ho.1];decide
 | @sign c t _ _ _ _ =>
  cases e:Go.Proofs.YteflkdlaoiijbaaGreatDoor.sign (c::t) with
  | none=>rw[e] at ho;cases ho
  | some z =>
   rw[e] at ho;simp only[fK,eM,fw] at ho;rw[ho.1];decide
theorem Kc {L:Int} {l:List UInt8} {q:Except Int (List Tk)} (h:dO L l q) :∀{ts},q=.ok ts→∃T,ts=T++[(0,L,0,[])]∧∀t∈T,t.1≠0:=by
 induction h with
 | ei=>intro ts e;cases e
 | fW=>intro ts e;cases e
 | eof=>intro ts e;cases e;exact⟨[],rfl,fun t ht=>by cases ht⟩
 | @step l r r' s k n o' h1 h2 h3 h4 ih =>
  intro ts e;cases o' with
  | error=>cases e
  | ok au =>
   obtain⟨T,hT,hx⟩:=ih rfl;injection e with e;refine⟨(k,L-nl r,n,s)::T,by rw[←e,hT];rfl,fun t ht=>?_⟩
   rcases bb.1 ht with rfl|ht
   ·exact Kb h3 h2
   ·exact hx t ht
def Ry (l:List UInt8):List UInt8:=[100,111,32]++l++[10,32,101,110,100]
theorem aaq {l:List UInt8} {ts:List Tk} (h:dO (1+(nl l:Int)) l (.ok ts)) :∃T L1 L2 L3,ts=T++[(0,1+(nl l:Int),0,[])]∧(∀t∈T,t.1≠0)∧dO (1+(nl (Ry l):Int)) (Ry l) (.ok ((2,L1,0,pY)::T++[oQ L2,dF L3])):=by
 obtain⟨T,e1,hT⟩:=Kc h rfl;obtain⟨T',e2,hx⟩:=h.app rfl;have:T'=T:=by
  rw[e1] at e2;exact(KH e2).symm
 subst this;have hn:nl (10::[32,101,110,100])=1:=rfl;obtain⟨L2,L3,h3⟩ :∃L2 L3,dO (1+(nl l:Int)+nl (10::[32,101,110,100])) (10::[32,101,110,100]) (.ok [oQ L2,dF L3]):=⟨_,_,lJ 3 _ _ rfl⟩;have h4:dO (1+(nl l:Int)+nl (10::[32,101,110,100])) (l++10::[32,101,110,100]) (.ok (T'++[oQ L2,dF L3])):=hx _ _ h3;have e5:(1:Int)+(nl (Ry l):Int)=1+(nl l:Int)+nl (10::[32,101,110,100]):=by
  unfold Ry;rw[ui,ui,hn];have:nl [100,111,32]=0:=rfl;have:nl [10,32,101,110,100]=1:=rfl;omega
 rw[e5];have h5:dO (1+(nl l:Int)+nl (10::[32,101,110,100])) (32::(l++10::[32,101,110,100])) (.ok (T'++[oQ L2,dF L3])):=dO.RO (l:=l++10::[32,101,110,100]) (fun hs=>eO.VK (l:=l++10::[32,101,110,100]) (l':=32::(l++10::[32,101,110,100])) rfl hs) h4
 have e6:Ry l=100::111::32::(l++10::[32,101,110,100]):=by unfold Ry;rw[eS];rfl
 rw[e6];have h7:=dO.step (l:=100::111::32::(l++10::[32,101,110,100])) (r:=100::111::32::(l++10::[32,101,110,100])) (r':=32::(l++10::[32,101,110,100])) (s:=[100,111]) (k:=2) (n:=0) (.done rfl rfl) (by simp) (.name (c:=100) (r:=111::32::(l++10::[32,101,110,100])) rfl) h5
 exact⟨T',_,L2,L3,e1,hT,h7⟩
theorem VD {T:List ah} {L L1 L2 L3:Int} {a:Ast} {au:List ah} (hT :∀t∈T,t.1≠0) (h:PL kG (T++[dF L]) (.ok (a,au))) :∃la l l',a=nd 18 l la∧(∃t∈T++[dF L],t.2.1=l)∧(∃t∈T++[oQ L2,dF L3],t.2.1=l')∧PL kG ((2,L1,0,pY)::T++[oQ L2,dF L3]) (.ok (nd 18 L1 [nd 22 L1 [nd 18 l' la]],[dF L3])):=by
 obtain⟨t,SO,la,u,us,e1,e2,hu,rfl,h1⟩:=Fq h;obtain⟨c,hc⟩:=h1.tail _ _ rfl;have hus:u::us=[dF L]:=by
  have h2:T++[dF L]=c++u::us:=hc;rcases List.append_eq_append_iff.1 h2 with ⟨d,e3,e4⟩ | ⟨d,e3,e4⟩
  ·cases d with
   | nil=>exact e4.symm
   | cons x d =>
    have:=ay List.length e4;simp at this
  ·cases d with
   | nil=>exact e4
   | cons x d =>
    injection e4 with e5 _;subst e5;exact absurd hu (hT u (by rw[e3];simp))
 rw[hus] at h1;have h2:=VC (L2:=L2) (Y:=[dF L3]) h1;obtain⟨t2,eP,e3⟩ :∃t2 eP,T++[oQ L2,dF L3]=t2::eP:=by
  cases T with
  | nil=>exact⟨_,_,rfl⟩
  | cons x T=>exact⟨_,_,rfl⟩
 have h2:PL (bg (.nj [])) (t2::eP) (.ok (la,[oQ L2,dF L3])):=by rw[←e3];exact h2
 have h3:PL (bg .blk) (t2::eP) (.ok (nd 18 t2.2.1 la,[oQ L2,dF L3])):=.look (.call h2 .ret);have h4:PL (bg .v7) ((2,L1,0,pY)::t2::eP) (.ok (nd 22 L1 [nd 18 t2.2.1 la],[dF L3])):=by
  unfold bg;refine .look ?_;rw[af (c:=ax [58,58] (2,L1,0,pY)=true) ef,af (c:=ax nh (2,L1,0,pY)=true) ef,af (c:=ax pX (2,L1,0,pY)=true) ef,ak (c:=ax pY (2,L1,0,pY)=true) rfl];refine .tok (.call h3 (.look ?_));rw[ak (c:=ax ig (oQ L2)=true) rfl];exact .tok .ret
 have h5:PL (bg (.nj [nd 22 L1 [nd 18 t2.2.1 la]])) [dF L3] (.ok ([nd 22 L1 [nd 18 t2.2.1 la]],[dF L3])):=by
  unfold bg;refine .look ?_;rw[ak (c:=ij (dF L3)=true) rfl];exact .ret
 have h6:PL (bg (.nj [])) ((2,L1,0,pY)::t2::eP) (.ok ([nd 22 L1 [nd 18 t2.2.1 la]],[dF L3])):=by
  unfold bg;refine .look ?_;rw[af (c:=ij (2,L1,0,pY)=true) ef,af (c:=ax jj (2,L1,0,pY)=true) ef,af (c:=ax [59] (2,L1,0,pY)=true) ef];exact .call h4 (.call h5 .ret)
 refine⟨la,t.2.1,t2.2.1,rfl,⟨t,by rw[e1];exact bQ ..,rfl⟩,⟨t2,by rw[e3];exact bQ ..,rfl⟩,?_⟩
 rw[show(2,L1,0,pY)::T++[oQ L2,dF L3]=(2,L1,0,pY)::(T++[oQ L2,dF L3]) from rfl,e3]
 refine .call (n:=NT.blk) (.look (.call h6 .ret)) (.look ?_);rw[ak (show(dF L3).1=0 from rfl)]
 exact .ret
mutual
theorem Cv :∀t:Lt,vi id t t
 | .mk i h ks=>by unfold vi;exact⟨rfl,rfl,rfl,by show h.names=h.names.map id;rw[List.map_id],yl ks⟩
theorem yl :∀l:List Lt,dt id l l
 | []=>by unfold dt;rfl
 | k::ks=>by unfold dt;exact⟨k,ks,rfl,Cv k,yl ks⟩
end
def wD (a:Ast):Rs aG:=if Ast.ok bj kj eR a=true then kM a.lt else .error (4,0)
theorem QP {l:Int} (la:List Ast) (h:1≤l):Ast.ok bj kj eR (nd 18 l la)=(kj 18 0 (la.map fun k=>eR k.hd.kind) && Ast.QV bj kj eR la):=by
 have e:bj ⟨18,l,0,0,⟨#[]⟩,[],[]⟩=true:=by show bj ⟨18,1,0,0,⟨#[]⟩,[],[]⟩=true;decide +kernel
 unfold nd;rw[Ast.ok,e,bF h];rfl
theorem acf {l0 l1 l2:Int} (la:List Ast) (h0:1≤l0) (h1:1≤l1) (h2:1≤l2):Ast.ok bj kj eR (nd 18 l1 [nd 22 l1 [nd 18 l2 la]])=Ast.ok bj kj eR (nd 18 l0 la):=by
 have e:bj ⟨22,l1,0,0,⟨#[]⟩,[],[]⟩=true:=by show bj ⟨22,1,0,0,⟨#[]⟩,[],[]⟩=true;decide +kernel
 have k1:kj 18 0 [eR 22]=true:=by decide +kernel
 have k2:kj 22 0 [eR 18]=true:=by decide +kernel
 have e2:Ast.ok bj kj eR (nd 22 l1 [nd 18 l2 la])=Ast.ok bj kj eR (nd 18 l2 la):=by
  unfold nd;rw[Ast.ok,e,bF h1,Ast.QV,Ast.QV,Bool.and_true];show(true && true && kj 22 0 [eR 18] && _)=_
  rw[k2];simp
 rw[QP _ h1,QP _ h0,Ast.QV,Ast.QV,e2,QP _ h2];show(kj 18 0 [eR 22] && _)=_
 rw[k1,Bool.and_true];rfl
theorem QQ {l:List UInt8} {ts au us us':List ah} {a b:Ast} (h1:dO (1+(nl l:Int)) l (.ok ts)) (h2:PL kG ts (.ok (a,au))) (h3:dO (1+(nl (Ry l):Int)) (Ry l) (.ok us)) (h4:PL kG us (.ok (b,us'))):RR (fun x y=>FR id x.fns y.fns) (wD a) (wD b):=by
 have r1:=(h1.rising rfl).mem;have r3:=(h3.rising rfl).mem;obtain⟨T,L1,L2,L3,rfl,hT,h5⟩:=aaq h1;have e1:=h3.sB h5;injection e1 with e1;subst e1;obtain⟨la,l0,l',rfl,⟨t1,m1,q1⟩,⟨t2,m2,q2⟩,h6⟩:=VD (L1:=L1) (L2:=L2) (L3:=L3) hT h2;have e2:=h4.one h6;injection e2 with e2;injection e2 with e2 _;subst e2;have hs:vi id (nd 18 l0 la).lt (nd 18 l' la).lt:=by
  unfold nd;rw[Ast.lt,Ast.lt];have:=Cv (.mk 0 ⟨18,l0,0,0,⟨#[]⟩,[],[]⟩ (Ast.Rn la));unfold vi at this ⊢;exact this
 have p0:1≤l0:=by have:=(r1 t1 m1).1;omega
 have p1:1≤L1:=by have:=(r3 _ (bQ ..)).1;simp only at this;omega
 have p2:1≤l':=by have:=(r3 t2 (bX _ m2)).1;omega
 unfold wD;rw[acf la p0 p1 p2];split
 ·exact D3 hs rfl rfl
 ·show(4:Int)=4
  rfl
theorem mQ.on {W W':World} {B:Nat} {v:Value} {L:List mP} (h:mQ W B v L) (hb:Below W.heap.size W W'):mQ W' B v L :=
 have k:=Fr.ae (E:=[]) hb
 ⟨k.row h.row (by simp),fun t ht=>k.row (h.vars t ht) (by simp),fun t ht=>k.row (h.bR t ht) (by simp),h.pM,h.qG⟩
structure Kw (W:World) (B:Nat) (F:Option Addr) (c:Nat) (L:List mP) (fs:List cR):Prop where
 fns:mQ W B (.slice F L.length c) L
 are:L.map (·.1)=fs
theorem Kw.later {W W':World} {B c:Nat} {F:Option Addr} {L:List mP} {fs:List cR} (h:Kw W B F c L fs) (hb:Below W.heap.size W W'):Kw W' B F c L fs:=⟨h.fns.on hb,h.are⟩
theorem Kw.len {W:World} {B c:Nat} {F:Option Addr} {L:List mP} {fs:List cR} (h:Kw W B F c L fs):L.length=fs.length:=by rw[←h.are,dm]
theorem Kw.fn {W:World} {B c:Nat} {F:Option Addr} {L:List mP} {fs:List cR} (h:Kw W B F c L fs) {f:Nat} {x:cR} (hx:fs[f]? = some x) :∃g VA vc UA uc,F=some ⟨g,0,none⟩∧(W.cell? ⟨g,f*6,none⟩=some (.int .i64 (x.node:Int))∧W.cell? ⟨g,f*6+1,none⟩=some (.int .i64 x.parent)∧W.cell? ⟨g,f*6+2,none⟩=some (.int .i64 (x.params:Int))∧W.cell? ⟨g,f*6+3,none⟩=some (.bool x.many)∧W.cell? ⟨g,f*6+4,none⟩=some (.slice VA x.vars.length vc)∧W.cell? ⟨g,f*6+5,none⟩=some (.slice UA x.bR.length uc)) ∧
  ∀(j:Nat) v,x.vars[j]? = some v→∃gv,VA=some ⟨gv,0,none⟩∧W.cell? ⟨gv,j*3,none⟩=some (.string v.name)∧W.cell? ⟨gv,j*3+2,none⟩=some (.bool v.cap):=by
 rw[←h.are,gE] at hx;obtain⟨y,hy,rfl⟩:=Option.map_eq_some_iff.1 hx;obtain⟨g,c',e',_,_,vU⟩:=h.fns.form hy;injection e' with e1 _ _;obtain⟨VA,vc,hve,_,WH⟩:=dy (h.fns.vars y (ba hy));obtain⟨UA,uc,hue,_,_⟩:=dy (h.fns.bR y (ba hy));refine⟨g,VA,vc,UA,uc,e1,⟨(vU 0 (by omega)).1,(vU 1 (by omega)).1,(vU 2 (by omega)).1,(vU 3 (by omega)).1,by rw[(vU 4 (by omega)).1];show some y.2.1=_;rw[hve],by rw[(vU 5 (by omega)).1];show some y.2.2=_;rw[hue]⟩,fun j v hj=>?_⟩
 have hjl:=(aL.1 hj).1;rcases WH with h0 | ⟨gv,rfl,_,_,WH⟩
 ·omega
 ·exact⟨gv,rfl,by rw[WH (j*3) (by omega),show j*3=j*3+0 by omega,fU qE _ j 0 v hj (by omega)];rfl,by rw[WH (j*3+2) (by omega),fU qE _ j 2 v hj (by omega)];rfl⟩
def QR (s:ByteArray) (w':World) (n:Int) (F:Option Addr) (k c:Nat):Prop :=
 n = -1∨0≤n∧∃(ts au:List ah) (a:Ast) (r:Rs aG),dO (cZ s) s.data.toList (.ok ts)∧PL kG ts (.ok (a,au))∧RR (fun x y=>FR id x.fns y.fns) (wD a) r∧match r with
  | .ok st=>n=0∧st.fns.length≤20000∧dA st.fns∧∃B L,k=L.length∧Kw w' B F c L st.fns
  | .error x=>n=x.1∧k=0
theorem QS (s:ByteArray) (w:World) (hs:s.size≤4000) (hE:nU w):Calls Tryz.prog 16 #[.string s] w fun e w'=>Below w.heap.size w w'∧∃A m c q F k cf U U1 U2 O O1 O2 n,e=.returned (.tuple #[.agg #[.slice A m c,.int .i64 q],.agg #[.slice F k cf,.slice U U1 U2,.slice O O1 O2],.int .i64 n])∧QR s w' n F k cf:=by
 refine(ab5 s w hs hE (QO hs)).mono ?_;rintro e w' ⟨hb,h⟩;refine⟨hb,?_⟩;rcases h with ⟨_,rfl⟩ | ⟨ts,au,a,v,T,p,r,⟨A,m,c,q,rfl⟩,hlx,_,hP,_,hsr,hres⟩
 ·exact⟨_,_,_,_,_,_,_,_,_,_,_,_,_,_,rfl,.inl rfl⟩
 rcases hsr with ⟨t,ho,hst,rfl⟩ | ⟨ho,rfl⟩
 ·have h1:RR (fun x y=>FR id x.fns y.fns) (wD a) (kM t):=by
   unfold wD;rw[ak ho];exact Gb (ρ:=id) (fun _ _ h=>h) hst.sim
  have hk:=tK t;have hm:=fun st (h:kM t=.ok st)=>mh t h (fun g x hx=>by
   match g,hx with
   | 0,hx=>injection hx with hx;rw[←hx];exact⟨bx _,bx _⟩
   | g+1,hx=>cases hx)
  revert hres h1 hk hm
  cases kM t with
  | ok st =>
   intro⟨sv,B',h2,h3,h4⟩ h1 hk hm;obtain⟨fv,ub,ob,L,rfl,hF,ha,_,_⟩:=h4;obtain⟨F,cf,rfl,_,_⟩:=dy hF.row;refine⟨A,m,c,q,F,L.length,cf,_,_,_,_,_,_,0,h3,.inr ⟨EX _,ts,au,a,.ok st,hlx,hP,h1,rfl,?_,(hm st rfl).few,B',L,rfl,hF,ha⟩⟩;have h5:=(hm st rfl).fns;have h6:(gK t.loc).fns.length=1:=rfl;have h7:=hst.size;have h8:=hst.few;omega
  | error x =>
   intro h3 h1 hk _;obtain⟨k,h4,h5⟩:=hk x rfl;exact⟨A,m,c,q,_,_,_,_,_,_,_,_,_,x.1,h3,.inr ⟨by omega,ts,au,a,.error x,hlx,hP,h1,rfl,rfl⟩⟩
 ·have h1:RR (fun x y=>FR id x.fns y.fns) (wD a) (.error (4,0):Rs aG):=by
   unfold wD;rw[af (by rw[ho];decide)]
   show(4:Int)=4
   rfl
  exact⟨A,m,c,q,_,_,_,_,_,_,_,_,_,4,hres,.inr ⟨by omega,ts,au,a,.error (4,0),hlx,hP,h1,rfl,rfl⟩⟩
theorem VE {a b:List lq} (h:b.map (fun v=>(v.name,v.cap))=a.map fun v=>(id v.name,v.cap)) {j:Nat} {x y:lq} (hx:a[j]? = some x) (hy:b[j]? = some y):y.name=x.name∧y.cap=x.cap:=by
 have h1:=ay (·[j]?) h
 simp only[gE,hx,hy,fK] at h1;have h2:=gG h1;injection h2 with h3 h4;exact⟨h3,h4⟩
theorem FS.QT {x y:cR} (h:FS id x y):FS id y x:=⟨h.parent.symm,h.params.symm,h.many.symm,h.bR.symm,h.vars.symm⟩
theorem FS.zz {x y z:cR} (h:FS id x y) (k:FS id y z):FS id x z:=⟨k.parent.trans h.parent,k.params.trans h.params,k.many.trans h.many,k.bR.trans h.bR,k.vars.trans h.vars⟩
theorem FR.QT {a b:List cR} (h:FR id a b):FR id b a:=⟨h.1.symm,fun f=>(h.2 f).QT⟩
theorem FR.zz {a b c:List cR} (h:FR id a b) (k:FR id b c):FR id a c:=⟨k.1.trans h.1,fun f=>(h.2 f).zz (k.2 f)⟩
theorem VF {s s2:ByteArray} (hs:s2.data.toList=Ry s.data.toList) {w1 w2:World} {n1 n2:Int} {F1 F2:Option Addr} {k1 k2 c1 c2:Nat} (h1:QR s w1 n1 F1 k1 c1) (h2:QR s2 w2 n2 F2 k2 c2) (tz:¬ n1<0) (ra:¬ n2<0):n2=n1∧k2=k1∧k1≤20000∧(k1=0∨∃B1 B2 L1 L2 f1 f2,k1=L1.length∧k2=L2.length∧Kw w1 B1 F1 c1 L1 f1∧Kw w2 B2 F2 c2 L2 f2∧FR id f1 f2∧dA f1):=by
 rcases h1 with h1 | ⟨_,ts,au,a,r,a1,a2,a3,a4⟩
 ·omega
 rcases h2 with h2 | ⟨_,us,us',b,r2,b1,b2,b3,b4⟩
 ·omega
 unfold cZ at a1 b1;rw[hs] at b1;have hm:=QQ a1 a2 b1 b2;have hr:RR (fun x y=>FR id x.fns y.fns) r r2:=by
  revert a3 b3 hm
  cases wD a<;>cases wD b<;>cases r<;>cases r2<;>intro h1 h2 h3<;>first|exact h1.elim|exact h2.elim|exact h3.elim|skip
  ·have h1:_=_:=h1
   have h2:_=_:=h2;have h3:_=_:=h3;show _=_
   rw[←h1,←h2,h3]
  ·exact((FR.QT h1).zz h3).zz h2
 cases r with
 | error x =>
  cases r2 with
  | ok st=>exact hr.elim
  | error y =>
   have hr:x.1=y.1:=hr;obtain⟨e1,e2⟩:=a4;obtain⟨e3,e4⟩:=b4;exact⟨by omega,by omega,by omega,.inl e2⟩
 | ok st =>
  cases r2 with
  | error y=>exact hr.elim
  | ok st2 =>
   have hr:FR id st.fns st2.fns:=hr;obtain⟨e1,h3,h4,B1,L1,e2,hX1⟩:=a4;obtain⟨e3,_,_,B2,L2,e4,hX2⟩:=b4;have l1:=hX1.len;have l2:=hX2.len;have l3:=hr.1;exact⟨by omega,by omega,by omega,.inr ⟨B1,B2,L1,L2,_,_,e2,e4,hX1,hX2,hr,h4⟩⟩
theorem QU (a b:ByteArray):(a++b).data.toList=a.data.toList++b.data.toList:=by rw[ByteArray.data_append];simp
set_option maxRecDepth 100000 in
theorem Ex (s:ByteArray) (w:World) (hE:nU w):Calls Tryz.prog 5 #[.string s] w fun e w'=>e=.returned (.bool true)∧Below w.heap.size w w':=by
 have HE:=aa hE;have A1:=aa (Vy w hE);clear hE;go_enter Tryz.func5,Tryz.ntmps5
 go_wp2_with fail
 refine A1.out.mono ?_;rintro e w1 ⟨rfl,b1⟩;have B1:=aa b1;clear b1;by_cases hsz:2000<s.size
 ·have Kq:decide ((2000:Int)<(s.size:Int))=true:=bF (by omega)
  go_wp2_with fail
  go_ret
  exact⟨rfl,B1.out⟩
 ·have Kq:decide ((2000:Int)<(s.size:Int))=false:=bN (by omega)
  have hss:s.size≤2000:=by omega
  have HS:=aa hss;clear hsz;go_wp2_with fail
  refine(QS s w1 (by have:=HS.out;omega) (HE.out.below B1.out)).mono ?_;rintro e w3 ⟨b3,A,m,c',q,F,k,cf,U,U1,U2,O,O1,O2,n,rfl,hO⟩
  have B3:=aa (B1.out.trans (b3.mono B1.out.size));have O3:=aa hO;clear b3 hO;have l3:(⟨#[100,111,32]⟩:ByteArray).size=3:=rfl;have l5:(⟨#[10,32,101,110,100]⟩:ByteArray).size=5:=rfl;go_wp2_with fail
  obtain⟨w4,hw4⟩ :∃w4,w4=(w3.alloc (.cells #[.slice A m c',.int .i64 q] 25)).alloc (.cells #[.slice F k cf,.slice U U1 U2,.slice O O1 O2] 35):=⟨_,rfl⟩;have hb4:Below w3.heap.size w3 w4:=by rw[hw4];exact Below.two _ _
  have hs4:w4.heap[w3.heap.size+1]? = some (.cells #[.slice F k cf,.slice U U1 U2,.slice O O1 O2] 35 (0,0)):=by
   rw[hw4];have:=heap_alloc_new (w3.alloc (.cells #[.slice A m c',.int .i64 q] 25)) (.cells #[.slice F k cf,.slice U U1 U2,.slice O O1 O2] 35);rwa[an] at this
  rw[←hw4];have B4:=aa (B3.out.trans (hb4.mono B3.out.size));have Y4:=aa hs4;have Rr:=aa hb4;clear hw4 hb4 hs4;have mH:((⟨#[100,111,32]⟩:ByteArray)++s++⟨#[10,32,101,110,100]⟩).data.toList=Ry s.data.toList:=by rw[QU,QU];rfl
  have we:((⟨#[100,111,32]⟩:ByteArray)++s++⟨#[10,32,101,110,100]⟩).size≤4000:=by rw[ByteArray.size_append,ByteArray.size_append,l3,l5];omega
  generalize ((⟨#[100,111,32]⟩:ByteArray)++s++⟨#[10,32,101,110,100]⟩)=s2 at mH we ⊢;have HIN:=aa mH;refine(QS s2 w4 we (HE.out.below B4.out)).mono ?_;rintro e w5 ⟨b5,A5,m5,c5,q5,F5,k5,cf5,V,V1,V2,P,P1,P2,n5,rfl,hO⟩;have B5:=aa (B4.out.trans (b5.mono B4.out.size));have Y5:=aa ((b5.block (w3.heap.size+1) (aJ.1 Y4.out).1).trans Y4.out);have Qf:=aa (Rr.out.trans (b5.mono Rr.out.size));have O5:=aa hO;clear b5 hO mH we hss;have x0:w5.cell? ⟨w3.heap.size+1,0,none⟩=some (.slice F k cf):=ab Y5.out 0;have l0:w3.heap.size+1<w5.heap.size:=(aJ.1 Y5.out).1;have l4:w3.heap.size<w5.heap.size:=by omega
  have l5':w3.heap.size+1<w5.heap.size+1:=by omega
  by_cases tz:n<0
  ·have g1:decide (n<0)=true:=bF tz
   go_wp2_with fail
   go_ret
   exact⟨rfl,B5.out.trans ((Below.two _ _).mono B5.out.size)⟩
  by_cases ra:n5<0
  ·have g1:decide (n<0)=false:=bN tz
   have g2:decide (n5<0)=true:=bF ra;go_wp2_with fail
   go_ret
   exact⟨rfl,B5.out.trans ((Below.two _ _).mono B5.out.size)⟩
  have g1:decide (n<0)=false:=bN tz;obtain⟨e1,e2,hk,hX⟩:=VF HIN.out O3.out O5.out tz ra;rw[e1,e2];have HX:=aa (show k=0∨∃B1 B2 L1 L2 f1 f2,k=L1.length∧k=L2.length∧Kw w3 B1 F cf L1 f1∧Kw w5 B2 F5 cf5 L2 f2∧FR id f1 f2∧dA f1 by rw[e2] at hX;exact hX)
  clear tz ra e1 e2 hX O3 O5;go_wp2_with fail
  obtain⟨w6,Rf⟩ :∃w6,w6=(w5.alloc (.cells #[.slice A5 m5 c5,.int .i64 q5] 25)).alloc (.cells #[.slice F5 k cf5,.slice V V1 V2,.slice P P1 P2] 35):=⟨_,rfl⟩;have Dz:Below w5.heap.size w5 w6:=by rw[Rf];exact Below.two _ _
  have Rb:w6.heap[w5.heap.size+1]? = some (.cells #[.slice F5 k cf5,.slice V V1 V2,.slice P P1 P2] 35 (0,0)):=by
   rw[Rf];have:=heap_alloc_new (w5.alloc (.cells #[.slice A5 m5 c5,.int .i64 q5] 25)) (.cells #[.slice F5 k cf5,.slice V V1 V2,.slice P P1 P2] 35);rwa[an] at this
  rw[←Rf];have B6:=aa (B5.out.trans (Dz.mono B5.out.size));have Y6:=aa ((Dz.block (w3.heap.size+1) (aJ.1 Y5.out).1).trans Y5.out);have Z6:=aa Rb;have I4:=aa Dz;have HK:=aa hk;clear Rf Dz Rb x0 l0 l4 l5' g1 hk;go_loopw [53] (fun i wr=>∃j:Nat,j≤k∧i=.int .i64 (j:Int)∧Below w6.heap.size w6 wr) (fun i _=>k-(intOf i).toNat)
  case atStart=>exact⟨0,bx _,rfl,Below.refl ..⟩
  case round =>
   obtain⟨j,hj,rfl,hbr⟩:=hrel;have Is:=aa hbr;have hk:=HK.out;by_cases hlt:j<k
   ·have mW:=aa hlt
    have h1:=(hbr.block (w3.heap.size+1) (aJ.1 Y6.out).1).trans Y6.out;have h2:=(hbr.block (w5.heap.size+1) (aJ.1 Z6.out).1).trans Z6.out;have s0:wr.cell? ⟨w3.heap.size+1,0,none⟩=some (.slice F k cf):=ab h1 0;have t0:wr.cell? ⟨w5.heap.size+1,0,none⟩=some (.slice F5 k cf5):=ab h2 0;have ls:w3.heap.size+1<wr.heap.size:=(aJ.1 h1).1;have lt:w5.heap.size+1<wr.heap.size:=(aJ.1 h2).1;rcases HX.out with hz | ⟨B1',B2',L1,L2,f1,f2,e1,e2,X1,X2,mT,mo⟩
    ·omega
    have X1:=X1.later (Qf.out.trans ((I4.out.trans (hbr.mono I4.out.size)).mono Qf.out.size));have X2:=X2.later (I4.out.trans (hbr.mono I4.out.size));have h3:=X1.len;have h4:=X2.len;obtain⟨x,hx⟩ :∃x,f1[j]? = some x:=⟨f1[j]'(by omega),bH (by omega)⟩
    obtain⟨y,hy⟩ :∃y,f2[j]? = some y:=⟨f2[j]'(by omega),bH (by omega)⟩
    have vB:FS id x y:=by
     have h5:=mT.2 j;rwa[j5,j5,hx,hy] at h5
    obtain⟨g,VA,vc,UA,uc,rfl,⟨c0,c1,c2,c3,c4,c5⟩,hva⟩:=X1.fn hx;obtain⟨g5,VB,vd,UB,ud,rfl,⟨d0,d1,d2,d3,d4,d5⟩,hvb⟩:=X2.fn hy;have hxl:=(mo j x hx).1;rw[vB.parent] at d1;rw[vB.many] at d3;rw[vB.len] at d4;rw[vB.bR] at d5;have lg:g<wr.heap.size:=block_lt_of_cell c0;have lg5:g5<wr.heap.size:=block_lt_of_cell d0;have lg':g<wr.heap.size+1:=by omega
    have aec:g5<wr.heap.size+1:=by omega
    have lt':w5.heap.size+1<wr.heap.size+1:=by omega
    have HVA:=aa hva;have HVB:=aa hvb;have Kt:=aa vB;have HXL:=aa hxl;clear hbr h1 h2 h3 h4 hx hy hva hvb vB hxl e1 e2 X1 X2 mT mo HX;go_wp2_with fail
    obtain⟨W1,hW1⟩ :∃W1,W1=(wr.alloc (.cells #[.int .i64 (x.node:Int),.int .i64 x.parent,.int .i64 (x.params:Int),.bool x.many,.slice VA x.vars.length vc,.slice UA x.bR.length uc] 52)).alloc (.cells #[.int .i64 (y.node:Int),.int .i64 x.parent,.int .i64 (y.params:Int),.bool x.many,.slice VB x.vars.length vd,.slice UB x.bR.length ud] 52):=⟨_,rfl⟩;have hb1:Below wr.heap.size wr W1:=by rw[hW1];exact Below.two _ _
    have hg1:W1.heap[wr.heap.size]? = some (.cells #[.int .i64 (x.node:Int),.int .i64 x.parent,.int .i64 (x.params:Int),.bool x.many,.slice VA x.vars.length vc,.slice UA x.bR.length uc] 52 (0,0)):=by
     rw[hW1];exact(Below.heap_alloc (wr.alloc (.cells #[.int .i64 (x.node:Int),.int .i64 x.parent,.int .i64 (x.params:Int),.bool x.many,.slice VA x.vars.length vc,.slice UA x.bR.length uc] 52)) _ _ (by rw[an];omega)).trans (heap_alloc_new wr _)
    have hh1:W1.heap[wr.heap.size+1]? = some (.cells #[.int .i64 (y.node:Int),.int .i64 x.parent,.int .i64 (y.params:Int),.bool x.many,.slice VB x.vars.length vd,.slice UB x.bR.length ud] 52 (0,0)):=by
     rw[hW1];have:=heap_alloc_new (wr.alloc (.cells #[.int .i64 (x.node:Int),.int .i64 x.parent,.int .i64 (x.params:Int),.bool x.many,.slice VA x.vars.length vc,.slice UA x.bR.length uc] 52)) (.cells #[.int .i64 (y.node:Int),.int .i64 x.parent,.int .i64 (y.params:Int),.bool x.many,.slice VB x.vars.length vd,.slice UB x.bR.length ud] 52);rwa[an] at this
    rw[←hW1];have BR:=aa hb1;have G2:=aa hg1;have K2:=aa hh1;clear hW1 hb1 hg1 hh1 s0 t0 ls lt c0 c1 c2 c3 c4 c5 d0 d1 d2 d3 d4 d5 lg lg5 lg' aec lt' hlt;go_loopw [96] (fun i wz=>∃u:Nat,u≤x.vars.length∧i=.int .i64 (u:Int)∧Below W1.heap.size W1 wz) (fun i _=>x.vars.length-(intOf i).toNat)
    case atStart=>exact⟨0,bx _,rfl,Below.refl ..⟩
    case round =>
     rename World=>wz
     obtain⟨v,hv,rfl,hbz⟩:=hrel;have hxl:=HXL.out;have g1:=(hbz.block _ (aJ.1 G2.out).1).trans G2.out;have k1:=(hbz.block _ (aJ.1 K2.out).1).trans K2.out;have m4:wz.cell? ⟨wr.heap.size,4,none⟩=some (.slice VA x.vars.length vc):=ab g1 4;have n4:wz.cell? ⟨wr.heap.size+1,4,none⟩=some (.slice VB x.vars.length vd):=ab k1 4;have HBZ:=aa hbz;by_cases hlv:v<x.vars.length
     ·have Ql:=aa hlv
      obtain⟨z,hz⟩ :∃z,x.vars[v]? = some z:=⟨x.vars[v],bH hlv⟩;obtain⟨z',hz'⟩ :∃z',y.vars[v]? = some z':=⟨y.vars[v]'(by have:=Kt.out.len;omega),bH (by have:=Kt.out.len;omega)⟩
      obtain⟨ga,rfl,e0,e1⟩:=HVA.out v z hz;obtain⟨gb,rfl,f0,f1⟩:=HVB.out v z' hz';obtain⟨z1,z2⟩:=VE Kt.out.vars hz hz';rw[z1] at f0;rw[z2] at f1;have Rt:=BR.out.trans (hbz.mono BR.out.size);have e0:=(Rt.cell (block_lt_of_cell e0)).trans e0;have f0:=(Rt.cell (block_lt_of_cell f0)).trans f0;have e1:=(Rt.cell (block_lt_of_cell e1)).trans e1;have f1:=(Rt.cell (block_lt_of_cell f1)).trans f1;clear hbz Rt g1 k1 hz hz' z1 z2;generalize x.vars.length=vn at *;have gul:(vn≤v)=False:=eq_false (by omega)
      go_wp2_with fail
      go_quiet (fail)
      go_wp2_with fail
      exact⟨⟨v+1,by have:=Ql.out;omega,by go_num,below_drewN HBZ.out _⟩,by have:=Ql.out;simp[intOf];omega⟩
     ·have hlv2:decide ((v:Int)<(x.vars.length:Int))=false:=bN (by omega)
      clear hbz g1 k1;go_wp2_with fail
      exact⟨⟨j+1,by have:=mW.out;omega,by go_num,Is.out.trans ((BR.out.trans (HBZ.out.mono BR.out.size)).mono Is.out.size)⟩,by have:=mW.out;simp[intOf];omega⟩
   ·have hlk2:decide ((j:Int)<(k:Int))=false:=bN (by omega)
    clear hbr;go_wp2_with fail
    go_ret
    exact⟨rfl,B6.out.trans (Is.out.mono B6.out.size)⟩
end Go.Proofs.YteflkdlaoiijbaaGreatDoor
namespace Go.Proofs.YteflkdlaoiijbaaGreatDoor
open Go.ChangeShapes Go.WideShapes Go.ChangeAt Go.WideMaps Go.WideElems Go.RowKit Go.ChangeMaps
theorem own:ownKnob Tryz.prog.godebug=Option.none:=by kernel_rfl
theorem laidOut:laidOutB Tryz.prog=true:=by kernel_rfl
abbrev ym:List (String×DataW Unit):=[("unicode/utf8.acceptRanges",Rows.laid_unicode_utf8_acceptRanges),("errors.errorType",Rows.laid_errors_errorType),("unicode/utf8.first",Rows.laid_unicode_utf8_first)]
abbrev su:List (String×DataW Unit):=[("unicode/utf8.acceptRanges",Rows.laid_unicode_utf8_acceptRanges),("unicode/utf8.first",Rows.laid_unicode_utf8_first)]
noncomputable def hand (os:Os):World :=
 { World.holding Tryz.prog os ⟨#[],#[],[]⟩ with heap:=(World.holding Tryz.prog os ⟨#[],#[],[]⟩).heap.modify 0 fun
   | .cells _ t frozen=>.cells #[.iface 165 (.agg #[.pointer (some ⟨4,27,Option.none⟩)])] t frozen
   | o=>o}
noncomputable def door (os:Os) (l:List (String×DataW Unit)):World:=(hand os).layVars Tryz.prog l
theorem VG (os:Os) (l:List (String×DataW Unit)):(door os l).os=os:=World.layVars_os _ _ _
theorem zA (os:Os):(door os su).Shaped Tryz.prog:=World.shaped_of_ZipB (by kernel_rfl) (by kernel_rfl)
theorem Kd (os:Os) (l:List (String×DataW Unit)) (hf:(hand os).layFits Tryz.prog l []=true) (hi:(hand os).layIfaces Tryz.prog l (door os l)=true):laidMet Tryz.prog l (door os l):=by
 have e1:(l.filter fun x=>(l.map (·.1)).contains x.1)=l:=List.filter_eq_self.2 fun x hx=>KK.2 (jA.2 ⟨x,hx,rfl⟩)
 have e2:(l.filter fun x=>!(l.map (·.1)).contains x.1)=[]:=List.filter_eq_nil_iff.2 fun x hx=>by rw[KK.2 (jA.2 ⟨x,hx,rfl⟩)];simp
 exact laidMet_layVars (w0:=hand os) (l.map (·.1)) [] (by rw[e1];rfl) (by rw[e1];exact hf) (by rw[e1];exact hi) (by rw[e2];exact LaidIn.none)
theorem Ke (os:Os) (args:Array Value):laidMetH Tryz.prog ym ((door os su).forCall (fun _ _=>0) ⟨#[],args,[]⟩).memory:=by
 have h:laidMetH Tryz.prog ym (door os su):=laidMetH_of_parts (Kd os su (by kernel_rfl) (by kernel_rfl)) (by kernel_rfl)
 exact h.of_heap (by simp[World.memory,World.forCall,Input.heap])
theorem acg {W:World} (h:W.ShapedOpen Tryz.prog):Mx W:=Go.Proofs.cell_of_shapedOpen_int (zero:=#[.int .i64 0]) (t:=3) h (iK (by kernel_rfl)) (by kernel_rfl) rfl (by kernel_rfl) (by kernel_rfl) Tryz.underlying3
theorem aar {W:World} (h:W.ShapedOpen Tryz.prog):4≤W.heap.size:=by
 have k:(((begin Tryz.prog (fun _ _=>0) default).world.heap[4-1]?).bind Obj.row?).isSome=true:=by kernel_rfl
 obtain⟨⟨zero,t⟩,hz⟩:=zP.1 k;obtain⟨cs,hc,_⟩:=h.1 (4-1) zero t (iK (by kernel_rfl)) hz
 have:=(aJ.1 hc).1;omega
theorem Tryz.et:Tryz.prog.globalNamed "errors.errorType" = some 0:=by kernel_rfl
theorem Tryz.rt:(Tryz.prog.cutTypes.find? (·.1 == "internal/reflectlite.rtype")).map (·.2)=some 165:=by kernel_rfl
theorem Tryz.ach:Tryz.prog.types.size=(423-100):=by kernel_rfl
theorem Tryz.aas:((List.range (423-100)).filter fun t=>Tryz.prog.rowNamed t [101,114,114,111,114])=[27]:=by kernel_rfl
theorem Cw {W:World} (h:handlesMet Tryz.prog [("errors.errorType",Rows.laid_errors_errorType)] W):W.cell? ⟨0,0,Option.none⟩=some (.iface 165 (.agg #[.pointer (some ⟨4,27,Option.none⟩)])):=by
 obtain⟨name,u,ty,e1,e2,e3,e4,e5⟩:=h _ (bI.2 rfl);have en:name=[101,114,114,111,114]:=(gG e1).symm;subst en;obtain rfl:=gG (Tryz.rt.symm.trans e2);have hm:ty∈(List.range (423-100)).filter fun t=>Tryz.prog.rowNamed t [101,114,114,111,114]:=wK.2 ⟨EO.2 (by rw[←Tryz.ach];exact e3),e4⟩
 rw[Tryz.aas] at hm;obtain rfl:=bI.1 hm;have hh:typeHandle Tryz.prog 27=.pointer (some ⟨4,27,Option.none⟩):=by kernel_rfl
 rw[hh] at e5;simpa using World.var?_cell Tryz.et e5 0
theorem aed {W:World} (hs:W.ShapedOpen Tryz.prog) (h:laidMetH Tryz.prog ym W):nU W:=by
 have h':laidMet Tryz.prog su W∧handlesMet Tryz.prog [("errors.errorType",Rows.laid_errors_errorType)] W:=h;exact⟨acg hs,Cw h'.2,aar hs⟩
theorem handed {H:Type} {enc:TypeId×Value→H} {C:Checked} {os:Os} {f:FuncId} {fn:Func} {s:ChangeSpec} {X:World→Array Value→Prop}
  (hX :∀(w w':World) (args:Array Value),w.heap=w'.heap→X w args→X w' args) (own:ownKnob C.prog.godebug=Option.none) (started:os.Started) (aat:C.prog.inits.idxOf? f=Option.none) (hfn:C.prog.funcs[f]? = some fn)
  (witness :∃(w:World) (tape:Tape) (i:Input),w.os=os∧(w.forCall tape i).Shaped C.prog∧i.vars=[]∧Input.okWide C.prog (w.forCall tape i) .any w.heap.size f i ∧
   ((s.pre enc C.prog fn [] false (w.forCall tape i).memory i.args∧X (w.forCall tape i).memory i.args)∧sizedMet enc C.prog fn (OpenSpec.ofChange s) false (w.forCall tape i).memory i.args)∧({}:Assume).holds C.prog (lone (Frame.enter C.prog f i.args .normal) [] (w.forCall tape i)))
  (contract :∀(W:World) (base:Nat) (args:Array Value) (ds gs:List (DataW H)) (before:List MemPlace),
   (∀(j:Nat) t v,fn.params[j]? = some t→args[j]? = some v→Value.okWide C.prog W .any base t v) →
   DataW.Whole enc C.prog fn.params.toList s.vars false W args.toList ds gs before→X W args→W.ShapedOpen C.prog →
   (DataW.weightsEach C.prog (fn.params.toList++(OpenSpec.ofChange s).bare.plain.varTypes C.prog) (ds++gs)).all (·≤reachBytes)=true →
   Calls C.prog f args W fun e W'=>∃v,e=.returned v∧s.post enc C.prog fn false true false false W args v W') :
  ReturnsInHanded {} C os f .any (fun w args=>(s.pre enc C.prog fn [] false w args∧X w args)∧sizedMet enc C.prog fn (OpenSpec.ofChange s) false w args) (s.post enc C.prog fn false true false false):=by
 refine returnsInHanded_of_calls own started aat witness ?_;intro w tape i _ hsh _ CY ux _;obtain⟨_,_,_,fn',aee,_,_,_,_,hval⟩:=CY;obtain rfl:fn'=fn:=gG (aee.symm.trans hfn);obtain⟨⟨_,hx⟩,_,ds,gs,before,hw,hwt⟩:=ux;have hw':=DataW.Whole.of_heap (w':=w.forCall tape i) (by rfl) hw
 refine(contract (w.forCall tape i) w.heap.size i.args ds gs before hval hw' (hX _ _ _ (by rfl) hx) hsh hwt).mono fun e W' ⟨v,he,hp⟩=>?_
 subst he;exact ChangeSpec.post_blind hp
end Go.Proofs.YteflkdlaoiijbaaGreatDoor
