/- Parts of the proof. -/
import Derived.RegionTactic
import Derived.ChangeAlike
import Derived.Test.YtodmcdfeldkocaaGreatDoorM09
set_option maxHeartbeats 16000000
set_option maxRecDepth 20000
namespace Go.Proofs.YtodmcdfeldkocaaGreatDoor
open Go.RowKit
def Tb (W:World) (g:Nat) (a b c d:Value):Prop:=W.heap[g]? = some (.cells #[a,b,c,d] 114 (0,0))
theorem Tb.kp {W W':World} {g b:Nat} {x y z u:Value} (h:Tb W g x y z u) (hk:Kp b W W') (hne:g≠b):Tb W' g x y z u :=
 (hk.block g (aO.1 h).1 (by simpa using hne)).trans h
theorem Tb.new (w:World) (x y z u:Value):Tb (w.alloc (.cells #[x,y,z,u] 114)) w.heap.size x y z u:=World.alloc_heap_new w _
theorem Tb.alloc {W:World} {g:Nat} {x y z u:Value} (h:Tb W g x y z u) (o:Obj):Tb (W.alloc o) g x y z u:=(Below.heap_alloc W o g (aO.1 h).1).trans h
theorem Tb.cells {W:World} {g:Nat} {x y z u:Value} (h:Tb W g x y z u):W.cell? ⟨g,0,none⟩=some x∧W.cell? ⟨g,1,none⟩=some y∧W.cell? ⟨g,2,none⟩=some z∧W.cell? ⟨g,3,none⟩=some u:=by
 have h':W.heap[g]? = some (.cells #[x,y,z,u] 114 (0,0)):=h;refine⟨?_,?_,?_,?_⟩<;>simp[World.cell?,h']
theorem Tb.frozen {W:World} {g:Nat} {x y z u:Value} (h:Tb W g x y z u):W.frozen? ⟨g,0,none⟩=false∧W.frozen? ⟨g,1,none⟩=false∧W.frozen? ⟨g,2,none⟩=false∧W.frozen? ⟨g,3,none⟩=false:=by
 have h':W.heap[g]? = some (.cells #[x,y,z,u] 114 (0,0)):=h;refine⟨?_,?_,?_,?_⟩<;>simp[World.frozen?,h']
def kj (b:Nat) (s:ByteArray) (k:Nat) (w:World) (e:Ending) (w':World):Prop :=
 Kp b w w'∧((∃(kd n:Int) (t:List UInt8) (k':Nat),e=.returned (.tuple #[.agg #[.int .i64 kd,.int .i64 (dD s-nl (aR s k)),.int .i64 n,.string ⟨t.toArray⟩],.nilIface])∧Rd w' b s k'∧k≤k'∧(kd≠0→k<k')∧(kd=0→aR s k=[])∧Tok (aR s k) (some (kd,n,t,aR s k'))) ∨
  (∃v,e=.returned (.tuple #[.agg #[.int .i64 0,.int .i64 0,.int .i64 0,.string ⟨#[]⟩],v])∧B9 w' v (dD s-nl (aR s k))∧Tok (aR s k) none))
theorem Kp.bF {b:Nat} {w W:World} (h:Kp b w W) {g:Nat} (hg:w.heap.size≤g) (o:Nat) (v:Value):Kp b w (W.setCell ⟨g,o,none⟩ v) :=
 h.below ((Below.refl _ _).setCell (p:=⟨g,o,none⟩) hg v)
theorem Rd.bF {W:World} {b:Nat} {s:ByteArray} {k:Nat} (h:Rd W b s k) {g:Nat} (hg:b<g) (o:Nat) (v:Value):Rd (W.setCell ⟨g,o,none⟩ v) b s k :=
 h.y7 ((Below.refl g _).setCell (p:=⟨g,o,none⟩) (ah _) v) hg
abbrev Jt:Obj:=.cells #[.int .i64 0,.int .i64 0,.int .i64 0,.string ⟨#[]⟩] 114
abbrev Ua (n:Int):Obj:=.cells #[.int .i64 0,.int .i64 n,.int .i64 0,.string ⟨#[]⟩] 114
theorem jN (b:Nat) (s:ByteArray) (k:Nat) (w:World) (n:Int) (h:Rd w b s k):Rd ((w.alloc Jt).alloc (Ua n)) b s k∧Kp b w ((w.alloc Jt).alloc (Ua n)) ∧
  Tb ((w.alloc Jt).alloc (Ua n)) w.heap.size (.int .i64 0) (.int .i64 0) (.int .i64 0) (.string ⟨#[]⟩)∧Tb ((w.alloc Jt).alloc (Ua n)) (w.heap.size+1) (.int .i64 0) (.int .i64 n) (.int .i64 0) (.string ⟨#[]⟩):=by
 refine⟨(h.alloc _).alloc _,((Kp.refl _ _).alloc _).alloc _,(Tb.new w _ _ _ _).alloc _,?_⟩;have:=Tb.new (w.alloc Jt) (.int .i64 0) (.int .i64 n) (.int .i64 0) (.string ⟨#[]⟩);rwa[show(w.alloc Jt).heap.size=w.heap.size+1 by simp] at this
theorem Kp.gU {b:Nat} {w W:World} (h:Kp b w W) {g:Nat} (hg:w.heap.size≤g) (x y z u:Value):Kp b w ((((W.setCell ⟨g,0,none⟩ x).setCell ⟨g,1,none⟩ y).setCell ⟨g,2,none⟩ z).setCell ⟨g,3,none⟩ u) :=
 (((h.bF hg 0 x).bF hg 1 y).bF hg 2 z).bF hg 3 u
theorem Rd.gU {W:World} {b:Nat} {s:ByteArray} {k:Nat} (h:Rd W b s k) {g:Nat} (hg:b<g) (x y z u:Value):Rd ((((W.setCell ⟨g,0,none⟩ x).setCell ⟨g,1,none⟩ y).setCell ⟨g,2,none⟩ z).setCell ⟨g,3,none⟩ u) b s k :=
 (((h.bF hg 0 x).bF hg 1 y).bF hg 2 z).bF hg 3 u
theorem Tb.setOther {W:World} {g:Nat} {x y z u:Value} (h:Tb W g x y z u) {g':Nat} (hne:g≠g') (o:Nat) (v:Value):Tb (W.setCell ⟨g',o,none⟩ v) g x y z u :=
 (Below.heap_setCell _ _ _ g hne).trans h
theorem Tb.gU {W:World} {g:Nat} {x y z u:Value} (h:Tb W g x y z u) (x' y' z' u':Value):Tb ((((W.setCell ⟨g,0,none⟩ x').setCell ⟨g,1,none⟩ y').setCell ⟨g,2,none⟩ z').setCell ⟨g,3,none⟩ u') g x' y' z' u':=by
 have key :∀(W:World) (a b c d v:Value) (o:Nat),W.heap[g]? = some (.cells #[a,b,c,d] 114 (0,0))→(W.setCell ⟨g,o,none⟩ v).heap[g]? = some (.cells (#[a,b,c,d].setIfInBounds o v) 114 (0,0)):=by
  intro W a b c d v o h;obtain⟨hlt,hk⟩:=aO.1 h;show(W.heap.modify g _)[g]? = _
  rw[wC (by rw[zQ];exact hlt),zJ,hk]
  rfl
 have h0:=key W x y z u x' 0 h;have h1:=key _ x' y z u y' 1 h0;have h2:=key _ x' y' z u z' 2 h1;exact key _ x' y' z' u u' 3 h2
theorem B9.y8 (w:World) (n:Int) (g:Nat) (hg:g=w.heap.size):B9 (w.alloc (.cells #[.int .i64 n,.iface 60 (.int .i64 5)] 62)) (.iface 59 (.pointer (some ⟨g,0,none⟩))) n:=by
 subst hg;exact B9.new w n
theorem Tb.lt {W:World} {g:Nat} {x y z u:Value} (h:Tb W g x y z u):g<W.heap.size:=(aO.1 (show W.heap[g]? = _ from h)).1
theorem Tb.O0 {W:World} {g:Nat} {x y z u:Value} (h:Tb W g x y z u) (v:Value):Tb (W.setCell ⟨g,0,none⟩ v) g v y z u:=by
 obtain⟨hlt,hk⟩:=aO.1 (show W.heap[g]? = _ from h)
 show(W.heap.modify g _)[g]? = _
 rw[wC (by rw[zQ];exact hlt),zJ,hk]
 rfl
theorem Ju (b:Nat) (s:ByteArray) (k:Nat) (w:World) (h:Rd w b s k) (hk:k=s.size):Calls Tryz.prog 48 #[.pointer (some ⟨b,0,none⟩)] w (kj b s k w):=by
 have iP:=h.lt;have cw:=h.top;have c2:=(h.alloc (.cells #[.int .i64 0,.int .i64 0,.int .i64 0,.string ⟨#[]⟩] 114)).c2;rw[jq] at c2;obtain⟨n,hn⟩ :∃n:Int,n=dD s-nl (aR s k):=⟨_,rfl⟩;rw[←hn] at c2;obtain⟨Y,hY⟩ :∃Y:ByteArray,Y=s.extract k s.size:=⟨_,rfl⟩;have C1:=aa (fun W h=>az b s k W h)
 rw[←hY] at C1;have WZ:=vj Y (by rw[hY,aD s k (by omega)];omega)
 have HR:=aa h;have HN:=aa hn;clear hY h hn;have HL:=aa (jN b s k w n HR.out);go_enter Tryz.func48,Tryz.ntmps48
 go_wp2_with fail
 refine(C1.out _ HL.out.1).mono ?_;rintro e w1 ⟨rfl,r1,k1⟩;have R1:=aa r1;have K1:=aa (HL.out.2.1.trans k1);have T0:=aa (HL.out.2.2.1.kp k1 (by omega))
 have T1:=aa (HL.out.2.2.2.kp k1 (by omega))
 clear r1 k1 c2;obtain⟨a0,a1,a2,a3⟩:=T0.out.cells;obtain⟨f0,f1,f2,f3⟩:=T0.out.frozen;obtain⟨b0,b1,b2,b3⟩:=T1.out.cells;obtain⟨g0,g1,g2,g3⟩:=T1.out.frozen;go_wp2_with fail
 clear a0 a1 a2 a3 f0 f1 f2 f3 b0 b1 b2 b3 g0 g1 g2 g3;obtain⟨d0,d1,d2,d3⟩:=((T0.out.setOther (g':=w.heap.size+1) (by omega) 0 (.int .i64 0)).gU (.int .i64 0) (.int .i64 n) (.int .i64 0) (.string ⟨#[]⟩)).cells
 refine bodyPost_ret (v:=.tuple #[.agg #[.int .i64 0,.int .i64 n,.int .i64 0,.string ⟨#[]⟩],.nilIface]) (by simp[results,Tryz.results48,go_sem,d0,d1,d2,d3]) rfl ?_
 refine⟨(K1.out.bF (by omega) _ _).gU (ah _) _ _ _ _,.inl ⟨0,0,[],k,by rw[←HN.out],(R1.out.bF (by omega) _ _).gU iP _ _ _ _,ah _,fun h=>absurd rfl h,fun _=>tM s k (by omega),?_⟩⟩
 rw[tM s k (by omega)]
 exact .eof
theorem D5 (b:Nat) (s:ByteArray) (k:Nat) (w:World) (h:Rd w b s k) (hk:k<s.size) (c:UInt8) (hc:s[k]=c) (hl:wj c=true):Calls Tryz.prog 48 #[.pointer (some ⟨b,0,none⟩)] w (kj b s k w):=by
 have iP:=h.lt;have cw:=h.top;have c2:=(h.alloc (.cells #[.int .i64 0,.int .i64 0,.int .i64 0,.string ⟨#[]⟩] 114)).c2;rw[jq] at c2;obtain⟨n,hn⟩ :∃n:Int,n=dD s-nl (aR s k):=⟨_,rfl⟩;rw[←hn] at c2;obtain⟨Y,hY⟩ :∃Y:ByteArray,Y=s.extract k s.size:=⟨_,rfl⟩;have C1:=aa (fun W h=>az b s k W h)
 rw[←hY] at C1;have vS:0<Y.size:=by rw[hY,aD s k (by omega)];omega
 have hY0:Y[0]=c:=by subst hY;rw[aS s k hk vS];exact hc
 have WZ:=bE Y vS;have cH:=iO s k hk;rw[hc] at cH;have HC:=aa cH;have L1:=aa (fun W=>ij c true W hl)
 have N1:=aa (fun W h=>Js b s k W h)
 have hrun:1≤runN nC (aR s k):=by
  rw[cH];unfold runN;rw[KV (by unfold nC;rw[hl];rfl),List.length_cons]
  omega
 have hT:=Tok.name (c:=c) (r:=aR s (k+1)) hl;rw[←cH,←qG,fe] at hT;have qv:(if qH ((aR s k).takeWhile nC) then (2:Int) else 1)≠0:=by split<;>decide
 generalize (if qH ((aR s k).takeWhile nC) then (2:Int) else 1)=kd at *
 obtain⟨X,hX⟩ :∃X:ByteArray,X=⟨((aR s k).takeWhile nC).toArray⟩:=⟨_,rfl⟩;rw[←hX] at N1;have HX:=aa hX;have HT:=aa hT;clear hX hT cH hl hc;have HR:=aa h;have HN:=aa hn;clear hY h hn;have HL:=aa (jN b s k w n HR.out);go_enter Tryz.func48,Tryz.ntmps48
 go_wp2_with fail
 refine(C1.out _ HL.out.1).mono ?_;rintro e w1 ⟨rfl,r1,k1⟩;have R1:=aa r1;have K1:=aa (HL.out.2.1.trans k1);have T0:=aa (HL.out.2.2.1.kp k1 (by omega))
 have T1:=aa (HL.out.2.2.2.kp k1 (by omega))
 clear r1 k1 c2;obtain⟨a0,a1,a2,a3⟩:=T0.out.cells;obtain⟨f0,f1,f2,f3⟩:=T0.out.frozen;obtain⟨b0,b1,b2,b3⟩:=T1.out.cells;obtain⟨g0,g1,g2,g3⟩:=T1.out.frozen;go_wp2_with (go_at_call 87;refine(L1.out _).mono ?_;rintro e w' ⟨rfl,rfl⟩)
 clear a0 a1 a2 a3 f0 f1 f2 f3 b0 b1 b2 b3 g0 g1 g2 g3;refine(N1.out _ R1.out).mono ?_;rintro e w2 ⟨rfl,r2,k2⟩;have R2:=aa r2;have K2:=an K1 k2;have nM:=aa (T0.out.kp k2 (by omega))
 have sP:=aa (T1.out.kp k2 (by omega))
 clear r2 k2;obtain⟨a0,a1,a2,a3⟩:=nM.out.cells;obtain⟨f0,f1,f2,f3⟩:=nM.out.frozen;obtain⟨b0,b1,b2,b3⟩:=sP.out.cells;obtain⟨g0,g1,g2,g3⟩:=sP.out.frozen;go_wp2_with fail
 clear a0 a1 a2 a3 f0 f1 f2 f3 b0 b1 b2 b3 g0 g1 g2 g3;obtain⟨d0,d1,d2,d3⟩:=(((nM.out.setOther (g':=w.heap.size+1) (by omega) 0 (.int .i64 kd)).setOther (g':=w.heap.size+1) (by omega) 3 (.string X)).gU (.int .i64 kd) (.int .i64 n) (.int .i64 0) (.string X)).cells
 refine bodyPost_ret (v:=.tuple #[.agg #[.int .i64 kd,.int .i64 n,.int .i64 0,.string X],.nilIface]) (by simp[results,Tryz.results48,go_sem,d0,d1,d2,d3]) rfl ?_
 exact⟨((K2.out.bF (by omega) _ _).bF (by omega) _ _).gU (ah _) _ _ _ _,.inl ⟨kd,0,_,_,by rw[←HN.out,HX.out],((R2.out.bF (by omega) _ _).bF (by omega) _ _).gU iP _ _ _ _,by omega,fun _=>by omega,fun e=>absurd e qv,HT.out⟩⟩
theorem Jv (b:Nat) (s:ByteArray) (k:Nat) (w:World) (h:Rd w b s k) (hk:k<s.size) (c:UInt8) (hc:s[k]=c) (hl:wj c=false) (hd:gB c=true) (hno:qD 9223372036854775807 ((aR s k).takeWhile oD)=true):Calls Tryz.prog 48 #[.pointer (some ⟨b,0,none⟩)] w (kj b s k w):=by
 have iP:=h.lt;have cw:=h.top;have c2:=(h.alloc (.cells #[.int .i64 0,.int .i64 0,.int .i64 0,.string ⟨#[]⟩] 114)).c2;rw[jq] at c2;obtain⟨n,hn⟩ :∃n:Int,n=dD s-nl (aR s k):=⟨_,rfl⟩;rw[←hn] at c2;obtain⟨Y,hY⟩ :∃Y:ByteArray,Y=s.extract k s.size:=⟨_,rfl⟩;have C1:=aa (fun W h=>az b s k W h)
 rw[←hY] at C1;have vS:0<Y.size:=by rw[hY,aD s k (by omega)];omega
 have hY0:Y[0]=c:=by subst hY;rw[aS s k hk vS];exact hc
 have WZ:=bE Y vS;have cH:=iO s k hk;rw[hc] at cH;have HC:=aa cH;have L1:=aa (fun W=>ij c false W hl)
 have L2:=aa (fun W=>fP c true W hd)
 obtain⟨m,hm⟩ :∃m:Nat,m=runN oD (aR s k):=⟨_,rfl⟩;have U1:=aa (fun W=>vh Y W (by rw[hY,aD s _ (by omega)];omega))
 rw[show Y.data.toList=aR s k by rw[hY,dj],←hm] at U1
 have yn:=ig oD (aR s k);rw[fS,←hm] at yn;have hrun:1≤m:=by
  rw[hm,cH];unfold runN;rw[KV (by unfold oD nC;rw[hd];simp),List.length_cons]
  omega
 obtain⟨X,hX⟩ :∃X:ByteArray,X=s.extract k (k+m):=⟨_,rfl⟩;have hXl:X.data.toList=(aR s k).takeWhile oD:=by rw[hX,fg,hm,qF]
 have eG:X.size≤100000:=by rw[hX,tW];omega
 have V1:=aa (fun W h=>bt b s k m W h (by omega))
 rw[←hX] at V1;have M1:=aa (fun W=>BV X W (by omega))
 rw[hXl] at M1;rw[hno] at M1;have hT:=Tok.num (c:=c) (r:=aR s (k+1)) hl hd (by rw[←cH];exact hno)
 rw[←cH,←qG,fe,←hm] at hT;obtain⟨N,hN⟩ :∃N:Int,N=yQ (tn 9223372036854775807 ((aR s k).takeWhile oD):Int):=⟨_,rfl⟩;rw[←hN] at M1 hT;have HT:=aa hT;clear hm hX hXl hT cH hl hd hno hc hN;have HR:=aa h;have HN:=aa hn;clear hY h hn;have HL:=aa (jN b s k w n HR.out);go_enter Tryz.func48,Tryz.ntmps48
 go_wp2_with fail
 refine(C1.out _ HL.out.1).mono ?_;rintro e w1 ⟨rfl,r1,k1⟩;have R1:=aa r1;have K1:=aa (HL.out.2.1.trans k1);have T0:=aa (HL.out.2.2.1.kp k1 (by omega))
 have T1:=aa (HL.out.2.2.2.kp k1 (by omega))
 clear r1 k1 c2;obtain⟨a0,a1,a2,a3⟩:=T0.out.cells;obtain⟨f0,f1,f2,f3⟩:=T0.out.frozen;obtain⟨b0,b1,b2,b3⟩:=T1.out.cells;obtain⟨g0,g1,g2,g3⟩:=T1.out.frozen;go_wp2_with (first
  | (go_at_call 87;refine(L1.out _).mono ?_;rintro e w' ⟨rfl,rfl⟩)
  | (go_at_call 89;refine(L2.out _).mono ?_;rintro e w' ⟨rfl,rfl⟩))
 clear a0 a1 a2 a3 f0 f1 f2 f3 b0 b1 b2 b3 g0 g1 g2 g3;have Ub:=aa (R1.out.bF (g:=w.heap.size+1) (by omega) 0 (.int .i64 3))
 have KO:=aa (K1.out.bF (g:=w.heap.size+1) (by omega) 0 (.int .i64 3))
 have KP:=aa (T0.out.setOther (g':=w.heap.size+1) (by omega) 0 (.int .i64 3))
 have KQ:=aa (T1.out.O0 (.int .i64 3));generalize w1.setCell ⟨w.heap.size+1,0,none⟩ (.int .i64 3)=w1b at *;refine(U1.out _).mono ?_;rintro e CZ ⟨rfl,rfl⟩;go_wp2_with fail
 refine(V1.out _ Ub.out).mono ?_;rintro e w2 ⟨rfl,r2,k2⟩;have R2:=aa r2;have K2:=an KO k2;have nM:=aa (KP.out.kp k2 (by omega))
 have sP:=aa (KQ.out.kp k2 (by omega))
 clear r2 k2;go_wp2_with fail
 refine(M1.out _).mono ?_;rintro e OK ⟨rfl,rfl⟩;obtain⟨a0,a1,a2,a3⟩:=nM.out.cells;obtain⟨f0,f1,f2,f3⟩:=nM.out.frozen;obtain⟨b0,b1,b2,b3⟩:=sP.out.cells;obtain⟨g0,g1,g2,g3⟩:=sP.out.frozen;go_wp2_with fail
 clear a0 a1 a2 a3 f0 f1 f2 f3 b0 b1 b2 b3 g0 g1 g2 g3;obtain⟨d0,d1,d2,d3⟩:=((nM.out.setOther (g':=w.heap.size+1) (by omega) 2 (.int .i64 N)).gU (.int .i64 3) (.int .i64 n) (.int .i64 N) (.string ⟨#[]⟩)).cells
 refine bodyPost_ret (v:=.tuple #[.agg #[.int .i64 3,.int .i64 n,.int .i64 N,.string ⟨#[]⟩],.nilIface]) (by simp[results,Tryz.results48,go_sem,d0,d1,d2,d3]) rfl ?_
 exact⟨(K2.out.bF (by omega) _ _).gU (ah _) _ _ _ _,.inl ⟨3,N,_,_,by rw[←HN.out],(R2.out.bF (by omega) _ _).gU iP _ _ _ _,by omega,fun _=>by omega,fun e=>absurd e (by decide),HT.out⟩⟩
theorem wm (b:Nat) (s:ByteArray) (k:Nat) (w:World) (h:Rd w b s k) (hk:k<s.size) (c:UInt8) (hc:s[k]=c) (hl:wj c=false) (hd:gB c=true) (hno:qD 9223372036854775807 ((aR s k).takeWhile oD)=false):Calls Tryz.prog 48 #[.pointer (some ⟨b,0,none⟩)] w (kj b s k w):=by
 have iP:=h.lt;have cw:=h.top;have c2:=(h.alloc (.cells #[.int .i64 0,.int .i64 0,.int .i64 0,.string ⟨#[]⟩] 114)).c2;rw[jq] at c2;obtain⟨n,hn⟩ :∃n:Int,n=dD s-nl (aR s k):=⟨_,rfl⟩;rw[←hn] at c2;obtain⟨Y,hY⟩ :∃Y:ByteArray,Y=s.extract k s.size:=⟨_,rfl⟩;have C1:=aa (fun W h=>az b s k W h)
 rw[←hY] at C1;have vS:0<Y.size:=by rw[hY,aD s k (by omega)];omega
 have hY0:Y[0]=c:=by subst hY;rw[aS s k hk vS];exact hc
 have WZ:=bE Y vS;have cH:=iO s k hk;rw[hc] at cH;have HC:=aa cH;have L1:=aa (fun W=>ij c false W hl)
 have L2:=aa (fun W=>fP c true W hd)
 obtain⟨m,hm⟩ :∃m:Nat,m=runN oD (aR s k):=⟨_,rfl⟩;have U1:=aa (fun W=>vh Y W (by rw[hY,aD s _ (by omega)];omega))
 rw[show Y.data.toList=aR s k by rw[hY,dj],←hm] at U1
 have yn:=ig oD (aR s k);rw[fS,←hm] at yn;have hrun:1≤m:=by
  rw[hm,cH];unfold runN;rw[KV (by unfold oD nC;rw[hd];simp),List.length_cons]
  omega
 obtain⟨X,hX⟩ :∃X:ByteArray,X=s.extract k (k+m):=⟨_,rfl⟩;have hXl:X.data.toList=(aR s k).takeWhile oD:=by rw[hX,fg,hm,qF]
 have eG:X.size≤100000:=by rw[hX,tW];omega
 have V1:=aa (fun W h=>bt b s k m W h (by omega))
 rw[←hX] at V1;have M1:=aa (fun W=>BV X W (by omega))
 rw[hXl] at M1;rw[hno] at M1;have hT:=Tok.DX (c:=c) (r:=aR s (k+1)) hl hd (by rw[←cH];exact hno)
 rw[←cH] at hT;obtain⟨N,hN⟩ :∃N:Int,N=yQ (tn 9223372036854775807 ((aR s k).takeWhile oD):Int):=⟨_,rfl⟩;rw[←hN] at M1;have HT:=aa hT;clear hm hX hXl hT cH hl hd hno hc hN;have HR:=aa h;have HN:=aa hn;clear hY h hn;have HL:=aa (jN b s k w n HR.out);go_enter Tryz.func48,Tryz.ntmps48
 go_wp2_with fail
 refine(C1.out _ HL.out.1).mono ?_;rintro e w1 ⟨rfl,r1,k1⟩;have R1:=aa r1;have K1:=aa (HL.out.2.1.trans k1);have T0:=aa (HL.out.2.2.1.kp k1 (by omega))
 have T1:=aa (HL.out.2.2.2.kp k1 (by omega))
 clear r1 k1 c2;obtain⟨a0,a1,a2,a3⟩:=T0.out.cells;obtain⟨f0,f1,f2,f3⟩:=T0.out.frozen;obtain⟨b0,b1,b2,b3⟩:=T1.out.cells;obtain⟨g0,g1,g2,g3⟩:=T1.out.frozen;go_wp2_with (first
  | (go_at_call 87;refine(L1.out _).mono ?_;rintro e w' ⟨rfl,rfl⟩)
  | (go_at_call 89;refine(L2.out _).mono ?_;rintro e w' ⟨rfl,rfl⟩))
 clear a0 a1 a2 a3 f0 f1 f2 f3 b0 b1 b2 b3 g0 g1 g2 g3;have Ub:=aa (R1.out.bF (g:=w.heap.size+1) (by omega) 0 (.int .i64 3))
 have KO:=aa (K1.out.bF (g:=w.heap.size+1) (by omega) 0 (.int .i64 3))
 have KP:=aa (T0.out.setOther (g':=w.heap.size+1) (by omega) 0 (.int .i64 3))
 have KQ:=aa (T1.out.O0 (.int .i64 3));generalize w1.setCell ⟨w.heap.size+1,0,none⟩ (.int .i64 3)=w1b at *;refine(U1.out _).mono ?_;rintro e CZ ⟨rfl,rfl⟩;go_wp2_with fail
 refine(V1.out _ Ub.out).mono ?_;rintro e w2 ⟨rfl,r2,k2⟩;have R2:=aa r2;have K2:=an KO k2;have nM:=aa (KP.out.kp k2 (by omega))
 have sP:=aa (KQ.out.kp k2 (by omega))
 clear r2 k2;go_wp2_with fail
 refine(M1.out _).mono ?_;rintro e OK ⟨rfl,rfl⟩;obtain⟨a0,a1,a2,a3⟩:=nM.out.cells;obtain⟨f0,f1,f2,f3⟩:=nM.out.frozen;obtain⟨b0,b1,b2,b3⟩:=sP.out.cells;obtain⟨g0,g1,g2,g3⟩:=sP.out.frozen;go_wp2_with fail
 clear a0 a1 a2 a3 f0 f1 f2 f3 b0 b1 b2 b3 g0 g1 g2 g3;refine(lz _ _).mono ?_;rintro e w9 ⟨rfl,rfl⟩;have K8:=aa (K2.out.bF (g:=w.heap.size+1) (by omega) 2 (.int .i64 N))
 have T8:=aa (nM.out.setOther (g':=w.heap.size+1) (by omega) 2 (.int .i64 N))
 generalize w2.setCell ⟨w.heap.size+1,2,none⟩ (.int .i64 N)=w8 at *;have ZS:=T8.out.lt;obtain⟨a0,a1,a2,a3⟩:=T8.out.cells;obtain⟨f0,f1,f2,f3⟩:=T8.out.frozen;go_wp2_with fail
 clear a0 a1 a2 a3 f0 f1 f2 f3;obtain⟨d0,d1,d2,d3⟩:=((T8.out.gU (.int .i64 0) (.int .i64 0) (.int .i64 0) (.string ⟨#[]⟩)).alloc (.cells #[.int .i64 n,.iface 60 (.int .i64 5)] 62)).cells;refine bodyPost_ret (v:=.tuple #[.agg #[.int .i64 0,.int .i64 0,.int .i64 0,.string ⟨#[]⟩],.iface 59 (.pointer (some ⟨w8.heap.size,0,none⟩))]) (by simp[results,Tryz.results48,go_sem,d0,d1,d2,d3]) rfl ?_
 exact⟨(K8.out.gU (ah _) _ _ _ _).alloc _,.inr ⟨_,rfl,by rw[←HN.out];exact B9.y8 _ _ _ (by simp[World.setCell]),HT.out⟩⟩
theorem Jw (b:Nat) (s:ByteArray) (k:Nat) (w:World) (h:Rd w b s k) (hk:k<s.size) (c:UInt8) (hc:s[k]=c) (hl:wj c=false) (hd:gB c=false) (hq:Gh c=true):Calls Tryz.prog 48 #[.pointer (some ⟨b,0,none⟩)] w (kj b s k w):=by
 have iP:=h.lt;have cw:=h.top;have c2:=(h.alloc (.cells #[.int .i64 0,.int .i64 0,.int .i64 0,.string ⟨#[]⟩] 114)).c2;rw[jq] at c2;obtain⟨n,hn⟩ :∃n:Int,n=dD s-nl (aR s k):=⟨_,rfl⟩;rw[←hn] at c2;obtain⟨Y,hY⟩ :∃Y:ByteArray,Y=s.extract k s.size:=⟨_,rfl⟩;have C1:=aa (fun W h=>az b s k W h)
 rw[←hY] at C1;have vS:0<Y.size:=by rw[hY,aD s k (by omega)];omega
 have hY0:Y[0]=c:=by subst hY;rw[aS s k hk vS];exact hc
 have WZ:=bE Y vS;have cH:=iO s k hk;rw[hc] at cH;have HC:=aa cH;have L1:=aa (fun W=>ij c false W hl)
 have L2:=aa (fun W=>fP c false W hd)
 have L3:=aa (fun W=>ve c true W hq)
 have hq':c.toNat=39∨c.toNat=34:=by unfold Gh at hq;simpa using hq
 have Q1:=aa (fun W h=>D3 b s k W h hk c hc (by rintro rfl;revert hq';decide) (by rintro rfl;revert hq';decide))
 have HT:=aa (fun o (ho:yV c (aR s (k+1)) o)=>cH▸Tok.text hl hd hq ho)
 clear cH hl hd hq hc hq';have HR:=aa h;have HN:=aa hn;clear hY h hn;have HL:=aa (jN b s k w n HR.out);go_enter Tryz.func48,Tryz.ntmps48
 go_wp2_with fail
 refine(C1.out _ HL.out.1).mono ?_;rintro e w1 ⟨rfl,r1,k1⟩;have R1:=aa r1;have K1:=aa (HL.out.2.1.trans k1);have T0:=aa (HL.out.2.2.1.kp k1 (by omega))
 have T1:=aa (HL.out.2.2.2.kp k1 (by omega))
 clear r1 k1 c2;obtain⟨a0,a1,a2,a3⟩:=T0.out.cells;obtain⟨f0,f1,f2,f3⟩:=T0.out.frozen;obtain⟨b0,b1,b2,b3⟩:=T1.out.cells;obtain⟨g0,g1,g2,g3⟩:=T1.out.frozen;go_wp2_with (first
  | (go_at_call 87;refine(L1.out _).mono ?_;rintro e w' ⟨rfl,rfl⟩)
  | (go_at_call 89;refine(L2.out _).mono ?_;rintro e w' ⟨rfl,rfl⟩)
  | (go_at_call 92;refine(L3.out _).mono ?_;rintro e w' ⟨rfl,rfl⟩))
 clear a0 a1 a2 a3 f0 f1 f2 f3 b0 b1 b2 b3 g0 g1 g2 g3;have Ub:=aa (R1.out.bF (g:=w.heap.size+1) (by omega) 0 (.int .i64 4))
 have KO:=aa (K1.out.bF (g:=w.heap.size+1) (by omega) 0 (.int .i64 4))
 have KP:=aa (T0.out.setOther (g':=w.heap.size+1) (by omega) 0 (.int .i64 4))
 have KQ:=aa (T1.out.O0 (.int .i64 4));generalize w1.setCell ⟨w.heap.size+1,0,none⟩ (.int .i64 4)=w1b at *;refine(Q1.out _ Ub.out).mono ?_;rintro e w2 ⟨o,ho,Gq⟩;have HO:=aa (HT.out o ho);clear ho;rcases o with _ | ⟨t,r⟩
 ·obtain⟨rfl,k2⟩:=Gq.oh
  have K2:=an KO k2;have nM:=aa (KP.out.kp k2 (by omega))
  have sP:=aa (KQ.out.kp k2 (by omega))
  clear Gq k2;obtain⟨a0,a1,a2,a3⟩:=nM.out.cells;obtain⟨f0,f1,f2,f3⟩:=nM.out.frozen;obtain⟨b0,b1,b2,b3⟩:=sP.out.cells;obtain⟨g0,g1,g2,g3⟩:=sP.out.frozen;go_wp2_with fail
  clear a0 a1 a2 a3 f0 f1 f2 f3 b0 b1 b2 b3 g0 g1 g2 g3;refine(lz _ _).mono ?_;rintro e w9 ⟨rfl,rfl⟩;have K8:=aa (K2.out.bF (g:=w.heap.size+1) (by omega) 3 (.string ⟨#[]⟩))
  have T8:=aa (nM.out.setOther (g':=w.heap.size+1) (by omega) 3 (.string ⟨#[]⟩))
  generalize w2.setCell ⟨w.heap.size+1,3,none⟩ (.string ⟨#[]⟩)=w8 at *;have ZS:=T8.out.lt;obtain⟨a0,a1,a2,a3⟩:=T8.out.cells;obtain⟨f0,f1,f2,f3⟩:=T8.out.frozen;go_wp2_with fail
  clear a0 a1 a2 a3 f0 f1 f2 f3;obtain⟨d0,d1,d2,d3⟩:=((T8.out.gU (.int .i64 0) (.int .i64 0) (.int .i64 0) (.string ⟨#[]⟩)).alloc (.cells #[.int .i64 n,.iface 60 (.int .i64 5)] 62)).cells;refine bodyPost_ret (v:=.tuple #[.agg #[.int .i64 0,.int .i64 0,.int .i64 0,.string ⟨#[]⟩],.iface 59 (.pointer (some ⟨w8.heap.size,0,none⟩))]) (by simp[results,Tryz.results48,go_sem,d0,d1,d2,d3]) rfl ?_
  exact⟨(K8.out.gU (ah _) _ _ _ _).alloc _,.inr ⟨_,rfl,by rw[←HN.out];exact B9.y8 _ _ _ (by simp[World.setCell]),HO.out⟩⟩
 ·obtain⟨k',rfl,r2,hr2,Uc,k2⟩:=Gq.og
  have R2:=aa r2;have K2:=an KO k2;have nM:=aa (KP.out.kp k2 (by omega))
  have sP:=aa (KQ.out.kp k2 (by omega))
  have HE:=aa hr2;obtain⟨X,hX⟩ :∃X:ByteArray,X=⟨t.toArray⟩:=⟨_,rfl⟩;rw[←hX];have HX:=aa hX;clear Gq r2 k2 hr2 hX;obtain⟨a0,a1,a2,a3⟩:=nM.out.cells;obtain⟨f0,f1,f2,f3⟩:=nM.out.frozen;obtain⟨b0,b1,b2,b3⟩:=sP.out.cells;obtain⟨g0,g1,g2,g3⟩:=sP.out.frozen;go_wp2_with fail
  clear a0 a1 a2 a3 f0 f1 f2 f3 b0 b1 b2 b3 g0 g1 g2 g3;obtain⟨d0,d1,d2,d3⟩:=((nM.out.setOther (g':=w.heap.size+1) (by omega) 3 (.string X)).gU (.int .i64 4) (.int .i64 n) (.int .i64 0) (.string X)).cells
  refine bodyPost_ret (v:=.tuple #[.agg #[.int .i64 4,.int .i64 n,.int .i64 0,.string X],.nilIface]) (by simp[results,Tryz.results48,go_sem,d0,d1,d2,d3]) rfl ?_
  exact⟨(K2.out.bF (by omega) _ _).gU (ah _) _ _ _ _,.inl ⟨4,0,_,_,by rw[←HN.out,HX.out],(R2.out.bF (by omega) _ _).gU iP _ _ _ _,by omega,fun _=>by omega,fun e=>absurd e (by decide),by rw[HE.out];exact HO.out⟩⟩
theorem Jy (b:Nat) (s:ByteArray) (k:Nat) (w:World) (h:Rd w b s k) (hk:k<s.size) (c:UInt8) (hc:s[k]=c) (hl:wj c=false) (hd:gB c=false) (hq:Gh c=false) (hop:0<opn (aR s k)):Calls Tryz.prog 48 #[.pointer (some ⟨b,0,none⟩)] w (kj b s k w):=by
 have iP:=h.lt;have cw:=h.top;have c2:=(h.alloc (.cells #[.int .i64 0,.int .i64 0,.int .i64 0,.string ⟨#[]⟩] 114)).c2;rw[jq] at c2;obtain⟨n,hn⟩ :∃n:Int,n=dD s-nl (aR s k):=⟨_,rfl⟩;rw[←hn] at c2;obtain⟨Y,hY⟩ :∃Y:ByteArray,Y=s.extract k s.size:=⟨_,rfl⟩;have C1:=aa (fun W h=>az b s k W h)
 rw[←hY] at C1;have vS:0<Y.size:=by rw[hY,aD s k (by omega)];omega
 have hY0:Y[0]=c:=by subst hY;rw[aS s k hk vS];exact hc
 have WZ:=bE Y vS;have cH:=iO s k hk;rw[hc] at cH;have HC:=aa cH;have L1:=aa (fun W=>ij c false W hl)
 have L2:=aa (fun W=>fP c false W hd)
 have L3:=aa (fun W=>ve c false W hq)
 have T9:Y.data.toList=aR s k:=by rw[hY,dj]
 have hYz:Y.size≤100000:=by rw[hY,aD s _ (by omega)];omega
 have L4:=aa (fun W=>oe Y true W hYz (by rw[T9];exact bQ hop))
 have Q1:=aa (fun W h=>oW b s k W h hop)
 have HO:=aa (cH▸Tok.long hl hd hq (cH▸hop));clear T9 hYz hop;clear cH hl hd hq hc;have HR:=aa h;have HN:=aa hn;clear hY h hn;have HL:=aa (jN b s k w n HR.out);go_enter Tryz.func48,Tryz.ntmps48
 go_wp2_with fail
 refine(C1.out _ HL.out.1).mono ?_;rintro e w1 ⟨rfl,r1,k1⟩;have R1:=aa r1;have K1:=aa (HL.out.2.1.trans k1);have T0:=aa (HL.out.2.2.1.kp k1 (by omega))
 have T1:=aa (HL.out.2.2.2.kp k1 (by omega))
 clear r1 k1 c2;obtain⟨a0,a1,a2,a3⟩:=T0.out.cells;obtain⟨f0,f1,f2,f3⟩:=T0.out.frozen;obtain⟨b0,b1,b2,b3⟩:=T1.out.cells;obtain⟨g0,g1,g2,g3⟩:=T1.out.frozen;go_wp2_with (first
  | (go_at_call 87;refine(L1.out _).mono ?_;rintro e w' ⟨rfl,rfl⟩)
  | (go_at_call 89;refine(L2.out _).mono ?_;rintro e w' ⟨rfl,rfl⟩)
  | (go_at_call 92;refine(L3.out _).mono ?_;rintro e w' ⟨rfl,rfl⟩)
  | (go_at_call 94;refine(L4.out _).mono ?_;rintro e w' ⟨rfl,rfl⟩))
 clear a0 a1 a2 a3 f0 f1 f2 f3 b0 b1 b2 b3 g0 g1 g2 g3;have Ub:=aa (R1.out.bF (g:=w.heap.size+1) (by omega) 0 (.int .i64 4))
 have KO:=aa (K1.out.bF (g:=w.heap.size+1) (by omega) 0 (.int .i64 4))
 have KP:=aa (T0.out.setOther (g':=w.heap.size+1) (by omega) 0 (.int .i64 4))
 have KQ:=aa (T1.out.O0 (.int .i64 4));generalize w1.setCell ⟨w.heap.size+1,0,none⟩ (.int .i64 4)=w1b at *;refine(Q1.out _ Ub.out).mono ?_;intro e w2 Gq;generalize KN (aR s k)=o at *;rcases o with _ | ⟨t,r⟩
 ·obtain⟨rfl,k2⟩:=Gq.oh
  have K2:=an KO k2;have nM:=aa (KP.out.kp k2 (by omega))
  have sP:=aa (KQ.out.kp k2 (by omega))
  clear Gq k2;obtain⟨a0,a1,a2,a3⟩:=nM.out.cells;obtain⟨f0,f1,f2,f3⟩:=nM.out.frozen;obtain⟨b0,b1,b2,b3⟩:=sP.out.cells;obtain⟨g0,g1,g2,g3⟩:=sP.out.frozen;go_wp2_with fail
  clear a0 a1 a2 a3 f0 f1 f2 f3 b0 b1 b2 b3 g0 g1 g2 g3;refine(lz _ _).mono ?_;rintro e w9 ⟨rfl,rfl⟩;have K8:=aa (K2.out.bF (g:=w.heap.size+1) (by omega) 3 (.string ⟨#[]⟩))
  have T8:=aa (nM.out.setOther (g':=w.heap.size+1) (by omega) 3 (.string ⟨#[]⟩))
  generalize w2.setCell ⟨w.heap.size+1,3,none⟩ (.string ⟨#[]⟩)=w8 at *;have ZS:=T8.out.lt;obtain⟨a0,a1,a2,a3⟩:=T8.out.cells;obtain⟨f0,f1,f2,f3⟩:=T8.out.frozen;go_wp2_with fail
  clear a0 a1 a2 a3 f0 f1 f2 f3;obtain⟨d0,d1,d2,d3⟩:=((T8.out.gU (.int .i64 0) (.int .i64 0) (.int .i64 0) (.string ⟨#[]⟩)).alloc (.cells #[.int .i64 n,.iface 60 (.int .i64 5)] 62)).cells;refine bodyPost_ret (v:=.tuple #[.agg #[.int .i64 0,.int .i64 0,.int .i64 0,.string ⟨#[]⟩],.iface 59 (.pointer (some ⟨w8.heap.size,0,none⟩))]) (by simp[results,Tryz.results48,go_sem,d0,d1,d2,d3]) rfl ?_
  exact⟨(K8.out.gU (ah _) _ _ _ _).alloc _,.inr ⟨_,rfl,by rw[←HN.out];exact B9.y8 _ _ _ (by simp[World.setCell]),HO.out⟩⟩
 ·obtain⟨k',rfl,r2,hr2,Uc,k2⟩:=Gq.og
  have R2:=aa r2;have K2:=an KO k2;have nM:=aa (KP.out.kp k2 (by omega))
  have sP:=aa (KQ.out.kp k2 (by omega))
  have HE:=aa hr2;obtain⟨X,hX⟩ :∃X:ByteArray,X=⟨t.toArray⟩:=⟨_,rfl⟩;rw[←hX];have HX:=aa hX;clear Gq r2 k2 hr2 hX;obtain⟨a0,a1,a2,a3⟩:=nM.out.cells;obtain⟨f0,f1,f2,f3⟩:=nM.out.frozen;obtain⟨b0,b1,b2,b3⟩:=sP.out.cells;obtain⟨g0,g1,g2,g3⟩:=sP.out.frozen;go_wp2_with fail
  clear a0 a1 a2 a3 f0 f1 f2 f3 b0 b1 b2 b3 g0 g1 g2 g3;obtain⟨d0,d1,d2,d3⟩:=((nM.out.setOther (g':=w.heap.size+1) (by omega) 3 (.string X)).gU (.int .i64 4) (.int .i64 n) (.int .i64 0) (.string X)).cells
  refine bodyPost_ret (v:=.tuple #[.agg #[.int .i64 4,.int .i64 n,.int .i64 0,.string X],.nilIface]) (by simp[results,Tryz.results48,go_sem,d0,d1,d2,d3]) rfl ?_
  exact⟨(K2.out.bF (by omega) _ _).gU (ah _) _ _ _ _,.inl ⟨4,0,_,_,by rw[←HN.out,HX.out],(R2.out.bF (by omega) _ _).gU iP _ _ _ _,by omega,fun _=>by omega,fun e=>absurd e (by decide),by rw[HE.out];exact HO.out⟩⟩
theorem Jz (b:Nat) (s:ByteArray) (k:Nat) (w:World) (h:Rd w b s k) (hk:k<s.size) (c:UInt8) (hc:s[k]=c) (hl:wj c=false) (hd:gB c=false) (hq:Gh c=false) (hop:¬ 0<opn (aR s k)):Calls Tryz.prog 48 #[.pointer (some ⟨b,0,none⟩)] w (kj b s k w):=by
 have iP:=h.lt;have cw:=h.top;have c2:=(h.alloc (.cells #[.int .i64 0,.int .i64 0,.int .i64 0,.string ⟨#[]⟩] 114)).c2;rw[jq] at c2;obtain⟨n,hn⟩ :∃n:Int,n=dD s-nl (aR s k):=⟨_,rfl⟩;rw[←hn] at c2;obtain⟨Y,hY⟩ :∃Y:ByteArray,Y=s.extract k s.size:=⟨_,rfl⟩;have C1:=aa (fun W h=>az b s k W h)
 rw[←hY] at C1;have vS:0<Y.size:=by rw[hY,aD s k (by omega)];omega
 have hY0:Y[0]=c:=by subst hY;rw[aS s k hk vS];exact hc
 have WZ:=bE Y vS;have cH:=iO s k hk;rw[hc] at cH;have HC:=aa cH;have L1:=aa (fun W=>ij c false W hl)
 have L2:=aa (fun W=>fP c false W hd)
 have L3:=aa (fun W=>ve c false W hq)
 have T9:Y.data.toList=aR s k:=by rw[hY,dj]
 have hYz:Y.size≤100000:=by rw[hY,aD s _ (by omega)];omega
 have L4:=aa (fun W=>oe Y false W hYz (by rw[T9];exact bZ hop))
 have Q1:=aa (fun W h=>OZ b s k W h)
 have HO:=aa (cH▸Tok.sign hl hd hq (cH▸hop));clear T9 hYz hop;clear cH hl hd hq hc;have HR:=aa h;have HN:=aa hn;clear hY h hn;have HL:=aa (jN b s k w n HR.out);go_enter Tryz.func48,Tryz.ntmps48
 go_wp2_with fail
 refine(C1.out _ HL.out.1).mono ?_;rintro e w1 ⟨rfl,r1,k1⟩;have R1:=aa r1;have K1:=aa (HL.out.2.1.trans k1);have T0:=aa (HL.out.2.2.1.kp k1 (by omega))
 have T1:=aa (HL.out.2.2.2.kp k1 (by omega))
 clear r1 k1 c2;obtain⟨a0,a1,a2,a3⟩:=T0.out.cells;obtain⟨f0,f1,f2,f3⟩:=T0.out.frozen;obtain⟨b0,b1,b2,b3⟩:=T1.out.cells;obtain⟨g0,g1,g2,g3⟩:=T1.out.frozen;go_wp2_with (first
  | (go_at_call 87;refine(L1.out _).mono ?_;rintro e w' ⟨rfl,rfl⟩)
  | (go_at_call 89;refine(L2.out _).mono ?_;rintro e w' ⟨rfl,rfl⟩)
  | (go_at_call 92;refine(L3.out _).mono ?_;rintro e w' ⟨rfl,rfl⟩)
  | (go_at_call 94;refine(L4.out _).mono ?_;rintro e w' ⟨rfl,rfl⟩))
 clear a0 a1 a2 a3 f0 f1 f2 f3 b0 b1 b2 b3 g0 g1 g2 g3;have Ub:=aa (R1.out.bF (g:=w.heap.size+1) (by omega) 0 (.int .i64 5))
 have KO:=aa (K1.out.bF (g:=w.heap.size+1) (by omega) 0 (.int .i64 5))
 have KP:=aa (T0.out.setOther (g':=w.heap.size+1) (by omega) 0 (.int .i64 5))
 have KQ:=aa (T1.out.O0 (.int .i64 5));generalize w1.setCell ⟨w.heap.size+1,0,none⟩ (.int .i64 5)=w1b at *;refine(Q1.out _ Ub.out).mono ?_;intro e w2 Gq;generalize sign (aR s k)=o at *;rcases o with _ | ⟨t,r⟩
 ·obtain⟨rfl,k2⟩:=Gq.oh
  have K2:=an KO k2;have nM:=aa (KP.out.kp k2 (by omega))
  have sP:=aa (KQ.out.kp k2 (by omega))
  clear Gq k2;obtain⟨a0,a1,a2,a3⟩:=nM.out.cells;obtain⟨f0,f1,f2,f3⟩:=nM.out.frozen;obtain⟨b0,b1,b2,b3⟩:=sP.out.cells;obtain⟨g0,g1,g2,g3⟩:=sP.out.frozen;go_wp2_with fail
  clear a0 a1 a2 a3 f0 f1 f2 f3 b0 b1 b2 b3 g0 g1 g2 g3;refine(lz _ _).mono ?_;rintro e w9 ⟨rfl,rfl⟩;have K8:=aa (K2.out.bF (g:=w.heap.size+1) (by omega) 3 (.string ⟨#[]⟩))
  have T8:=aa (nM.out.setOther (g':=w.heap.size+1) (by omega) 3 (.string ⟨#[]⟩))
  generalize w2.setCell ⟨w.heap.size+1,3,none⟩ (.string ⟨#[]⟩)=w8 at *;have ZS:=T8.out.lt;obtain⟨a0,a1,a2,a3⟩:=T8.out.cells;obtain⟨f0,f1,f2,f3⟩:=T8.out.frozen;go_wp2_with fail
  clear a0 a1 a2 a3 f0 f1 f2 f3;obtain⟨d0,d1,d2,d3⟩:=((T8.out.gU (.int .i64 0) (.int .i64 0) (.int .i64 0) (.string ⟨#[]⟩)).alloc (.cells #[.int .i64 n,.iface 60 (.int .i64 5)] 62)).cells;refine bodyPost_ret (v:=.tuple #[.agg #[.int .i64 0,.int .i64 0,.int .i64 0,.string ⟨#[]⟩],.iface 59 (.pointer (some ⟨w8.heap.size,0,none⟩))]) (by simp[results,Tryz.results48,go_sem,d0,d1,d2,d3]) rfl ?_
  exact⟨(K8.out.gU (ah _) _ _ _ _).alloc _,.inr ⟨_,rfl,by rw[←HN.out];exact B9.y8 _ _ _ (by simp[World.setCell]),HO.out⟩⟩
 ·obtain⟨k',rfl,r2,hr2,Uc,k2⟩:=Gq.og
  have R2:=aa r2;have K2:=an KO k2;have nM:=aa (KP.out.kp k2 (by omega))
  have sP:=aa (KQ.out.kp k2 (by omega))
  have HE:=aa hr2;obtain⟨X,hX⟩ :∃X:ByteArray,X=⟨t.toArray⟩:=⟨_,rfl⟩;rw[←hX];have HX:=aa hX;clear Gq r2 k2 hr2 hX;obtain⟨a0,a1,a2,a3⟩:=nM.out.cells;obtain⟨f0,f1,f2,f3⟩:=nM.out.frozen;obtain⟨b0,b1,b2,b3⟩:=sP.out.cells;obtain⟨g0,g1,g2,g3⟩:=sP.out.frozen;go_wp2_with fail
  clear a0 a1 a2 a3 f0 f1 f2 f3 b0 b1 b2 b3 g0 g1 g2 g3;obtain⟨d0,d1,d2,d3⟩:=((nM.out.setOther (g':=w.heap.size+1) (by omega) 3 (.string X)).gU (.int .i64 5) (.int .i64 n) (.int .i64 0) (.string X)).cells
  refine bodyPost_ret (v:=.tuple #[.agg #[.int .i64 5,.int .i64 n,.int .i64 0,.string X],.nilIface]) (by simp[results,Tryz.results48,go_sem,d0,d1,d2,d3]) rfl ?_
  exact⟨(K2.out.bF (by omega) _ _).gU (ah _) _ _ _ _,.inl ⟨5,0,_,_,by rw[←HN.out,HX.out],(R2.out.bF (by omega) _ _).gU iP _ _ _ _,by omega,fun _=>by omega,fun e=>absurd e (by decide),by rw[HE.out];exact HO.out⟩⟩
theorem JA (b:Nat) (s:ByteArray) (k:Nat) (w:World) (h:Rd w b s k):Calls Tryz.prog 48 #[.pointer (some ⟨b,0,none⟩)] w (kj b s k w):=by
 by_cases hk:k=s.size
 ·exact Ju b s k w h hk
 ·have hk:k<s.size:=by have:=h.le;omega
  cases hl:wj s[k]
  ·cases hd:gB s[k]
   ·cases hq:Gh s[k]
    ·by_cases hop:0<opn (aR s k)
     ·exact Jy b s k w h hk _ rfl hl hd hq hop
     ·exact Jz b s k w h hk _ rfl hl hd hq hop
    ·exact Jw b s k w h hk _ rfl hl hd hq
   ·cases hno:qD 9223372036854775807 ((aR s k).takeWhile oD)
    ·exact wm b s k w h hk _ rfl hl hd hno
    ·exact Jv b s k w h hk _ rfl hl hd hno
  ·exact D5 b s k w h hk _ rfl hl
def iW (ts:List Tk):List Value:=ts.flatMap fun t=>[.int .i64 t.1,.int .i64 t.2.1,.int .i64 t.2.2.1,.string ⟨t.2.2.2.toArray⟩]
theorem D7 (a b:List Tk):iW (a++b)=iW a++iW b:=by simp[iW]
def qL (W:World) (B:Nat) (v:Value) (ts:List Tk):Prop:=W.ownsRow B 114 4 v ts.length (iW ts)
theorem qL.nil (W:World) (B:Nat):qL W B (.slice none 0 0) []:=World.ownsRow_nil W B 114 4
theorem qL.form {W:World} {B:Nat} {v:Value} {ts:List Tk} (h:qL W B v ts) :∃A c,v=.slice A ts.length c:=by
 rcases h.2 with ⟨rfl,h0⟩ | ⟨g,cap,_,rfl,_⟩
 ·exact⟨none,0,by rw[h0]⟩
 ·exact⟨_,_,rfl⟩
theorem qL.kp {b B:Nat} {W W':World} {v:Value} {ts:List Tk} (h:qL W B v ts) (hk:Kp b W W') (hb:b<B):qL W' B v ts:=by
 refine World.ownsRow.kept h hk ?_;rcases h.2 with ⟨rfl,_⟩ | ⟨g,_,_,rfl,hg,_⟩
 ·left;rfl
 ·right
  intro e;have:g=b:=by simpa[Value.ownBlock] using e
  omega
theorem ZT:(Tryz.prog.info? 114).map (fun i=>(i.zero,i.size,i.bytes))=some (some (.agg #[.int .i64 0,.int .i64 0,.int .i64 0,.string ⟨#[]⟩]),4,40):=by kernel_rfl
theorem O9 {ops:Array Oper} {rest:List Oper} {o:Oper} {a:Act} {Q:Exit→Act→World→Prop} (w:World) (kd ln n:Int) (X:ByteArray) (t:List UInt8) (hX:X=⟨t.toArray⟩) (hgd:o.guard=none) (sl y:Operand)
  (ho:o.op=.call { callee:=.builtin .append,args:=#[sl,y],argTypes:=#[74,74]}) (B:Nat) (v:Value) (ts:List Tk) (hs:a.eval sl=v) (hown:qL w B v ts) (g:Nat) (hg:g=w.heap.size) (hy:a.eval y=.slice (some ⟨g,0,none⟩) 1 1)
  (hlen:ts.length≤20000) (hB:B≤w.heap.size)
  (h :∀v' w',qL w' B v' (ts++[(kd,ln,n,t)])→Below B w w'→(∀i o,w.heap[i]? = some o→some i≠v.ownBlock→w'.heap[i]? = some o)→wpList Tryz.prog ops Q rest (a.put o.dst v') w'):wpList Tryz.prog ops Q (o::rest) a (w.alloc (.cells #[.int .i64 kd,.int .i64 ln,.int .i64 n,.string X] 114)):=by
 subst hX;subst hg;obtain⟨i0,mJ,hz0,hz1,hz2⟩:=info_parts ZT;have hc:=fun j=>cell_of_row (w.alloc (.cells #[.int .i64 kd,.int .i64 ln,.int .i64 n,.string ⟨t.toArray⟩] 114)) w.heap.size j _ 114 (0,0) (heap_alloc_new w _)
 have hpl :∀j:Nat,(⟨w.heap.size,0,none⟩:Addr).add j=⟨w.heap.size,j,none⟩:=fun j=>by unfold Addr.add;split<;>simp_all
 refine wpList_append_own (P:=Tryz.prog) _ hgd sl y 74 ho B 114 i0 (.agg #[.int .i64 0,.int .i64 0,.int .i64 0,.string ⟨#[]⟩]) 4 40 Tryz.underlying74 mJ hz0 hz1 hz2 rfl (by omega) v ts.length (iW ts) hs (hown.alloc _) ⟨w.heap.size,0,none⟩ 1 1 [.int .i64 kd,.int .i64 ln,.int .i64 n,.string ⟨t.toArray⟩] hy rfl
  (fun j u hj=>by
   rw[hpl,hc j];match j,hj with
   | 0,hj=>exact hj
   | 1,hj=>exact hj
   | 2,hj=>exact hj
   | 3,hj=>exact hj
   | j+4,hj=>simp at hj) (fun u hu=>by
    rcases bc.1 hu with rfl|hu
    ·rfl
    ·rcases bc.1 hu with rfl|hu
     ·rfl
     ·rcases bc.1 hu with rfl|hu
      ·rfl
      ·obtain rfl:=bK.1 hu
       rfl) (by unfold maxLen;omega) (by omega) (by simp;omega) ?_
 intro v' w' h1 h2 _;refine h v' w' ?_ (((Below.refl _ _).alloc hB _).grown h2 (by simp;omega) (fun k hk=>(hown.lt k hk).1)) (fun i ob hi hne=>by
  have hlt:=(aO.1 hi).1;exact(h2.block i (by simp;omega) hne).trans ((Below.heap_alloc w _ i hlt).trans hi))
 unfold qL;rw[bY,D7];exact h1
structure vk (W:World) (v:Value) (ts:List Tk):Prop where
 ex :∃g cap,v=.slice (some ⟨g,0,none⟩) ts.length cap∧ts.length≤cap∧g<W.heap.size∧∀(j:Nat) (t:Tk),ts[j]? = some t →
  W.cell? ⟨g,j*4,none⟩=some (.int .i64 t.1)∧W.cell? ⟨g,j*4+1,none⟩=some (.int .i64 t.2.1)∧W.cell? ⟨g,j*4+2,none⟩=some (.int .i64 t.2.2.1)∧W.cell? ⟨g,j*4+3,none⟩=some (.string ⟨t.2.2.2.toArray⟩)
theorem D8 :∀(ts:List Tk) (j:Nat) (t:Tk),ts[j]? = some t→(iW ts)[j*4]? = some (.int .i64 t.1)∧(iW ts)[j*4+1]? = some (.int .i64 t.2.1)∧(iW ts)[j*4+2]? = some (.int .i64 t.2.2.1)∧(iW ts)[j*4+3]? = some (.string ⟨t.2.2.2.toArray⟩):=by
 intro ts;induction ts with
 | nil=>intro j t h;simp at h
 | cons a r ih =>
  intro j t h;cases j with
  | zero =>
   obtain rfl:a=t:=by simpa using h
   exact⟨rfl,rfl,rfl,rfl⟩
  | succ j =>
   obtain⟨h0,h1,h2,h3⟩:=ih j t (by simpa using h)
   have e :∀i,(iW (a::r))[i+4]? = (iW r)[i]?:=fun i=>rfl
   rw[show(j+1)*4=j*4+4 by omega,show j*4+4+1=j*4+1+4 by omega,show j*4+4+2=j*4+2+4 by omega,show j*4+4+3=j*4+3+4 by omega,e,e,e,e]
   exact⟨h0,h1,h2,h3⟩
theorem qL.adK {W:World} {B:Nat} {v:Value} {ts:List Tk} (h:qL W B v ts) (h0:0<ts.length):vk W v ts:=by
 have hh:=h;rcases h.2 with ⟨rfl,h1⟩ | ⟨g,cap,cur,rfl,_,_,hc,_⟩
 ·omega
 ·refine⟨g,cap,rfl,hc,(World.ownsRow.lt hh g rfl).2,fun j t hj=>?_⟩
  have hj':j<ts.length:=(aK.1 hj).1;obtain⟨e0,e1,e2,e3⟩:=D8 ts j t hj;have c:=fun i hi=>World.ownsRow.cellAt hh i hi
  exact⟨(c _ (by omega)).trans e0,(c _ (by omega)).trans e1,(c _ (by omega)).trans e2,(c _ (by omega)).trans e3⟩
theorem vk.below {W W':World} {v:Value} {ts:List Tk} (h:vk W v ts) (hb:Below W.heap.size W W'):vk W' v ts:=by
 obtain⟨g,cap,h1,h2,h3,h4⟩:=h.ex;refine⟨g,cap,h1,h2,cG h3 hb.size,fun j t hj=>?_⟩
 obtain⟨e0,e1,e2,e3⟩:=h4 j t hj;exact⟨(hb.cell (p:=⟨g,_,none⟩) h3).trans e0,(hb.cell (p:=⟨g,_,none⟩) h3).trans e1,(hb.cell (p:=⟨g,_,none⟩) h3).trans e2,(hb.cell (p:=⟨g,_,none⟩) h3).trans e3⟩
theorem B9.below {W W':World} {v:Value} {n:Int} (h:B9 W v n) (hb:Below W.heap.size W W'):B9 W' v n:=by
 obtain⟨g,h1,h2⟩:=h;exact⟨g,h1,(hb.block g (aO.1 h2).1).trans h2⟩
def Ud (s:ByteArray) (w:World) (e:Ending) (w':World):Prop :=
 Below w.heap.size w w'∧∃o,l9 (dD s) s.data.toList o∧match o with
  | .ok ts=>ts.length≤s.size+1∧∃v,e=.returned (.tuple #[v,.nilIface])∧vk w' v ts
  | .error n=>∃v,e=.returned (.tuple #[.slice none 0 0,v])∧B9 w' v n
theorem Ue (o:Except Int (List Tk)):o.map (([]:List Tk) ++ ·)=o:=by cases o<;>rfl
theorem Uf (o:Except Int (List Tk)) (T:List Tk) (t:Tk):(o.map (t :: ·)).map (T ++ ·)=o.map ((T++[t]) ++ ·):=by
 cases o
 ·rfl
 ·simp[Except.map]
theorem ZU (w:World) (s:ByteArray) (hs:s.size≤10000) (h7:4≤w.heap.size) (hM:Mx w):Rd (w.alloc (.cells #[.string s,.int .i64 0,.int .i64 1] 111)) w.heap.size s 0 :=
 ⟨World.alloc_heap_new w _,bo _,by omega,h7,hM.below ((Below.refl _ _).alloc (ah _) _)⟩
theorem nN {w W:World} {o:Obj} (h:Kp w.heap.size (w.alloc o) W):Below w.heap.size w W:=by
 have h1:=(Below.refl w.heap.size w).alloc (ah _) o;exact h1.trans ⟨h.os,h.tape,h.output,h.size,fun k hk=>h.block k (by simp;omega) (by simp;omega)⟩
theorem Ug {kd n:Int} {t r:List UInt8} (h:Tok [] (some (kd,n,t,r))):n=0∧t=[]:=by
 cases h;exact⟨rfl,rfl⟩
theorem Uh (s:ByteArray) (w:World) (hs:s.size≤10000) (h7:4≤w.heap.size) (hM:Mx w):Calls Tryz.prog 22 #[.string s] w (Ud s w):=by
 have g0:decide (65536<s.size)=false:=bZ (by omega)
 have HR:=aa (ZU w s hs h7 hM);clear hM;go_enter Tryz.func22,Tryz.ntmps22
 go_wp2_with fail
 have SD:s.data.toList=aR s 0:=rfl;go_loopg [5] s.size (fun z tv wr=>∃(k1:Nat) (ts:List Tk),Rd wr w.heap.size s k1∧s.size-k1≤z∧Kp w.heap.size (w.alloc (.cells #[.string s,.int .i64 0,.int .i64 1] 111)) wr∧qL wr (w.heap.size+1) tv ts∧ts.length≤k1∧∀o,l9 (dD s) (aR s k1) o→l9 (dD s) s.data.toList (o.map (ts ++ ·)))
 case atStart=>exact⟨0,[],HR.out,by omega,Kp.refl _ _,qL.nil _ _,ah _,fun o h=>by rw[Ue];exact h⟩
 case round =>
  clear SD;obtain⟨k1,ts,hr,hz,TQ,hrow,hlen,abR⟩:=hrel;have TR:=hr.le;have R0:=aa hr;have K0:=aa TQ;have W0:=aa hrow;have HL:=aa abR;clear hr TQ hrow abR;obtain⟨A1,c1,rfl⟩:=W0.out.form;have aeu:((ts.length:Int) == 16384)=false:=aC.2 (by omega)
  go_wp2_with fail
  refine(ON _ _ _ _ R0.out).mono ?_;rintro e w1 ⟨kp1,⟨k2,rfl,r1,hk12,hsk⟩ | ⟨r,v,rfl,hf,hsk⟩⟩
  ·have hle2:=r1.le
   have R1:=aa r1;have K1:=an K0 kp1;have W1:=aa (W0.out.kp kp1 (by omega))
   have HS:=aa hsk;clear r1 kp1 hsk;go_wp2_with fail
   refine(JA _ _ _ _ R1.out).mono ?_;rintro e w2 ⟨kp2,⟨kd,n,t,k3,rfl,r2,hk23,rP,hzero,Pa⟩ | ⟨v,rfl,hf,Pa⟩⟩
   ·have hle3:=r2.le
    have R2:=aa r2;have K2:=an K1 kp2;have W2:=aa (W1.out.kp kp2 (by omega))
    have HT:=aa Pa;have HZ:=aa hzero;obtain⟨X,hX⟩ :∃X:ByteArray,X=⟨t.toArray⟩:=⟨_,rfl⟩;rw[←hX];have HX:=aa hX;obtain⟨ln,Ng⟩ :∃ln:Int,ln=dD s-nl (aR s k2):=⟨_,rfl⟩;rw[←Ng];have IL:=aa Ng;have yo:=K2.out.size;simp at yo;clear r2 kp2 Pa hzero hX Ng;have W3:=aa (World.ownsRow.alloc W2.out (.cells #[.int .i64 kd,.int .i64 ln,.int .i64 n,.string X] 114));by_cases qv:kd=0
    ·subst qv
     have key :∀w4:World,(∀i o,(w2.alloc (.cells #[.int .i64 0,.int .i64 ln,.int .i64 n,.string X] 114)).heap[i]? = some o→some i≠(Value.slice A1 ts.length c1).ownBlock→w4.heap[i]? = some o)→w4.cell? ⟨w2.heap.size,0,none⟩=some (.int .i64 0):=fun w4 h4=>by
      have hb:=h4 w2.heap.size _ (World.alloc_heap_new w2 _) (fun e=>by have:=(World.ownsRow.lt W2.out _ e.symm).2;omega)
      simp[World.cell?,hb]
     have KEY:=aa key;clear key;go_wp2_with (at_builtin;refine O9 _ 0 ln n X t HX.out rfl _ _ rfl (w.heap.size+1) _ ts rfl W3.out _ (by simp) rfl (by omega) (by simp;omega) ?_;intro v4 w4 h4 b4 i4;have ZV:=KEY.out w4 i4;have H4:=aa h4;clear h4 i4)
     go_ret2
     have hs0:aR s k2=[]:=HZ.out (by trivial)
     have ht:=HT.out;rw[hs0] at ht;have abS:=HS.out;rw[hs0] at abS;have hl:=HL.out _ (.eof abS);have hnt:=Ug ht;have Ng:ln=dD s:=by rw[IL.out,hs0,Zh];omega
     refine⟨(nN K2.out).trans (((Below.refl _ _).alloc (by omega) _).trans (b4.mono (by omega))),.ok (ts++[(0,ln,n,t)]),?_,by rw[bY];simp;omega,v4,rfl,H4.out.adK (by simp)⟩
     rw[Ng,hnt.1,hnt.2];exact hl
    ·have key :∀w4:World,(∀i o,(w2.alloc (.cells #[.int .i64 kd,.int .i64 ln,.int .i64 n,.string X] 114)).heap[i]? = some o→some i≠(Value.slice A1 ts.length c1).ownBlock→w4.heap[i]? = some o)→w4.cell? ⟨w2.heap.size,0,none⟩=some (.int .i64 kd):=fun w4 h4=>by
      have hb:=h4 w2.heap.size _ (World.alloc_heap_new w2 _) (fun e=>by have:=(World.ownsRow.lt W2.out _ e.symm).2;omega)
      simp[World.cell?,hb]
     have KEY:=aa key;clear key;have gk:(kd == 0)=false:=aC.2 qv;have hk3:=rP qv;go_wp2_with (at_builtin;refine O9 _ kd ln n X t HX.out rfl _ _ rfl (w.heap.size+1) _ ts rfl W3.out _ (by simp) rfl (by omega) (by simp;omega) ?_;intro v4 w4 h4 b4 i4;have ZV:=KEY.out w4 i4;have H4:=aa h4;have B4:=aa b4;clear h4 i4 b4)
     go_roundg (s.size-k3)
     case measure=>omega
     case rel=>exact⟨k3,ts++[(kd,ln,n,t)],(R2.out.alloc _).y7 B4.out (by omega),ah _,(K2.out.alloc _).below (by simpa using B4.out),H4.out,by rw[bY];simp;omega,fun o ho=>by
      have hne:aR s k2≠[]:=fun e=>by
       have:=aw List.length e;rw[fS,List.length_nil] at this;omega
      have:=HL.out _ (.step HS.out hne HT.out ho);rw[Uf,←IL.out] at this;exact this⟩
   ·obtain⟨g,rfl,hg⟩:=hf
    have K2:=an K1 kp2;have HT:=aa Pa;have HG:=aa hg;clear kp2 Pa hg;go_wp2_with fail
    go_ret2
    have hf':B9 w2 (.iface 59 (.pointer (some ⟨g,0,none⟩))) (dD s-nl (aR s k2)):=⟨g,rfl,HG.out⟩;have hb2:=(Below.refl w2.heap.size w2).alloc (ah _) (.cells #[.int .i64 0,.int .i64 0,.int .i64 0,.string ⟨#[]⟩] 114);exact⟨(nN K2.out).trans (hb2.mono (by have:=K2.out.size;simp at this;omega)),.error _,HL.out _ (.pD HS.out HT.out),_,rfl,hf'.below hb2⟩
  ·obtain⟨g,rfl,hg⟩:=hf
   have K1:=an K0 kp1;have HS:=aa hsk;have HG:=aa hg;clear kp1 hsk hg;go_wp2_with fail
   go_ret2
   exact⟨nN K1.out,.error _,HL.out _ (.ma HS.out),_,rfl,g,rfl,HG.out⟩
def Gr (w:World) (k:Nat):Prop:=∃s fz,w.heap[k]? = some (.cells #[.string s] 9 fz)
structure ax (O:Nat→Prop) (w w':World):Prop where
 os:w'.os=w.os
 tape:w'.tape=w.tape
 output:w'.output=w.output
 size:w.heap.size≤w'.heap.size
 block :∀k,k<w.heap.size→¬ O k→w'.heap[k]? = w.heap[k]?
 str :∀k,Gr w k→w'.heap[k]? = w.heap[k]?
def Ext (O O':Nat→Prop) (w:World):Prop:=∀k,O' k→O k∨w.heap.size≤k
theorem Ext.refl (O:Nat→Prop) (w:World):Ext O O w:=fun _ h=>.inl h
theorem Ext.trans {O O1 O2:Nat→Prop} {a b:World} (h:Ext O O1 a) (k:Ext O1 O2 b) (hs:a.heap.size≤b.heap.size):Ext O O2 a:=fun i hi=>by
 rcases k i hi with k|k
 ·exact h i k
 ·exact .inr (aL hs k)
theorem Gr.lt {w:World} {k:Nat} (h:Gr w k):k<w.heap.size:=by
 obtain⟨_,_,h⟩:=h;exact(aO.1 h).1
theorem ax.refl (O:Nat→Prop) (w:World):ax O w w:=⟨rfl,rfl,rfl,ah _,fun _ _ _=>rfl,fun _ _=>rfl⟩
theorem ax.trans {O O1:Nat→Prop} {a b c:World} (h:ax O a b) (k:ax O1 b c) (e:Ext O O1 a):ax O a c :=
 ⟨k.os.trans h.os,k.tape.trans h.tape,k.output.trans h.output,aL h.size k.size,fun i hi hO=>by
  refine(k.block i (cG hi h.size) (fun h1=>?_)).trans (h.block i hi hO)
  rcases e i h1 with h2|h2
  ·exact hO h2
  ·omega,fun i hi=>(k.str i (by obtain⟨c1,f1,h1⟩:=hi;exact⟨c1,f1,(h.str i ⟨c1,f1,h1⟩).trans h1⟩)).trans (h.str i hi)⟩
theorem ax.keeps {O:Nat→Prop} {a b:World} (h:ax O a b) {k:Nat} (hk:Gr a k):Gr b k:=by
 have:=h.str k hk;obtain⟨s,f,h1⟩:=hk;exact⟨s,f,this.trans h1⟩
theorem ax.mono {O O1:Nat→Prop} {a b:World} (h:ax O a b) (hO :∀k,O k→O1 k):ax O1 a b:=⟨h.os,h.tape,h.output,h.size,fun i hi hn=>h.block i hi (fun h1=>hn (hO i h1)),h.str⟩
theorem ax.af {O:Nat→Prop} {a b:World} (h:Below a.heap.size a b):ax O a b:=⟨h.os,h.tape,h.output,h.size,fun k hk _=>h.block k hk,fun k hk=>h.block k hk.lt⟩
theorem ax.drew {O:Nat→Prop} {a b:World} (h:ax O a b):ax O a b.drew:=⟨h.os,h.tape,h.output,h.size,h.block,h.str⟩
theorem ax.alloc {O:Nat→Prop} {a b:World} (h:ax O a b) (o:Obj):ax O a (b.alloc o) :=
 h.trans (O1:=O) (.af ((Below.refl _ _).alloc (ah _) _)) (Ext.refl _ _)
theorem ax.wo {a:World} {n:Nat} {cs:Array Value} {ty:TypeId} (h:a.heap[n]? = some (.cells cs ty (0,0))) (Ig:ty≠9) (j:Nat) (v:Value):ax (· = n) a (a.setCell ⟨n,j,none⟩ v) :=
 ⟨rfl,rfl,rfl,by simp[World.setCell],fun k _ hk=>Below.heap_setCell _ _ _ k hk,fun k hk=>Below.heap_setCell _ _ _ k (fun e=>by
  obtain⟨c1,f1,h1⟩:=hk;have e':k=n:=e;rw[e',h] at h1;injection h1 with h1;injection h1 with _ h1;exact Ig h1)⟩
theorem ax.below {O:Nat→Prop} {a b:World} {B:Nat} (h:ax O a b) (hO :∀k,O k→B≤k) (hB:B≤a.heap.size):Below B a b :=
 ⟨h.os,h.tape,h.output,h.size,fun k hk=>h.block k (by omega) (fun h1=>by have:=hO k h1;omega)⟩
theorem dk {W W':World} {B e s n:Nat} {v:Value} {xs:List Value} (h:W.ownsRow B e s v n xs) (hb :∀g,v.ownBlock=some g→W'.heap[g]? = W.heap[g]?):W'.ownsRow B e s v n xs:=by
 refine⟨h.1,?_⟩;rcases h.2 with hn | ⟨g,cap,cur,rfl,hB,hg,rest⟩
 ·exact .inl hn
 ·exact .inr ⟨g,cap,cur,rfl,hB,(hb g rfl).trans hg,rest⟩
theorem fh {W:World} {B e s n:Nat} {v:Value} {xs:List Value} (h:W.ownsRow B e s v n xs) {g:Nat} (hg:v.ownBlock=some g) :∃cur,W.heap[g]? = some (.cells cur e (0,0)):=by
 rcases h.2 with ⟨rfl,_⟩ | ⟨g',cap,cur,rfl,hB,hh,rest⟩
 ·simp[Value.ownBlock] at hg
 ·simp[Value.ownBlock] at hg
  subst hg;exact⟨cur,hh⟩
structure jO (W:World) (b:Nat) (O:Nat→Prop) (x:Nd) (nv kv:Value):Prop where
 names:W.ownsRow (b+1) 9 1 nv x.names.length (x.names.map Value.string)
 kids:W.ownsRow (b+1) 3 1 kv x.kids.length (x.kids.map (Value.int .i64))
 on :∀g,nv.ownBlock=some g→O g∨Gr W g
 nz :∀g,nv.ownBlock=some g→x.names≠[]
 ok :∀g,kv.ownBlock=some g→O g
theorem jO.kept {W W':World} {b:Nat} {O O' O1:Nat→Prop} {x:Nd} {nv kv:Value} (h:jO W b O x nv kv) (hf:ax O1 W W') (hd :∀g,O g→¬ O1 g) (hO :∀g,O g→O' g):jO W' b O' x nv kv :=
 ⟨dk h.names fun g hg=>(h.on g hg).elim (fun h1=>hf.block g (h.names.lt g hg).2 (hd g h1)) (hf.str g),dk h.kids fun g hg=>hf.block g (h.kids.lt g hg).2 (hd g (h.ok g hg)),fun g hg=>(h.on g hg).imp (hO g) hf.keeps,h.nz,fun g hg=>hO g (h.ok g hg)⟩
abbrev KS:=Nd×Value×Value
def aP (t:KS):List Value:=[.int .i64 t.1.kind,.int .i64 t.1.line,.int .i64 t.1.op,.int .i64 t.1.num,.string t.1.s,t.2.1,t.2.2]
structure Ui (W:World) (b:Nat) (O:Nat→Prop) (v:Value) (L:List KS):Prop where
 row:W.ownsRow (b+1) 54 7 v L.length (L.flatMap aP)
 own :∀g,v.ownBlock=some g→O g
 each :∀t∈L,jO W b O t.1 t.2.1 t.2.2
def Fin (ts:List ak):Prop:=∃us e,ts=us++[e]∧e.1=0∧∀u∈us,u.1≠0
theorem Fin.tail {t:ak} {ts:List ak} (h:Fin (t::ts)) (ht:t.1≠0):Fin ts:=by
 obtain⟨us,e,h1,h2,h3⟩:=h;cases us with
 | nil =>
  simp at h1;exact absurd (h1.1▸h2) ht
 | cons u us =>
  injection h1 with e1 e2;exact⟨us,e,e2,h2,fun x hx=>h3 x (bO _ hx)⟩
theorem Fin.ne {ts:List ak} (h:Fin ts):ts≠[]:=by
 obtain⟨us,e,h1,_⟩:=h;rw[h1];simp
structure PS (W:World) (b:Nat) (O:Nat→Prop) (ts:List ak) (T:List Nd):Prop where
 ex :∃(TS:List ak) (i g c:Nat) (nv:Value) (L:List KS),W.heap[b]? = some (.cells #[.slice (some ⟨g,0,none⟩) TS.length c,.int .i64 (i:Int),nv] 78 (0,0))∧vk W (.slice (some ⟨g,0,none⟩) TS.length c) TS∧g<b∧TS.drop i=ts∧TS.length≤20000∧Ui W b O nv L∧L.map (·.1)=T
 fin:Fin ts
 at_:O b
 own :∀k,O k→b≤k∧k<W.heap.size
structure NU (W:World) (b n:Nat) (O:Nat→Prop) (x:Nd):Prop where
 ex :∃nv kv,W.heap[n]? = some (.cells (aP (x,nv,kv)).toArray 54 (0,0))∧jO W b O x nv kv
 at_:O n
 own :∀k,O k→b<k∧k<W.heap.size
theorem vk.kept {W W':World} {g n c:Nat} {ts:List Tk} (h:vk W (.slice (some ⟨g,0,none⟩) n c) ts) (hb:W'.heap[g]? = W.heap[g]?) (hs:W.heap.size≤W'.heap.size):vk W' (.slice (some ⟨g,0,none⟩) n c) ts:=by
 obtain⟨g',cap,e,h1,h2,h3⟩:=h.ex;have hg:g=g':=by injection e with e1 _ _;injection e1 with e1;injection e1
 subst hg;refine⟨g,cap,e,h1,by omega,fun j t hj=>?_⟩
 have:=h3 j t hj;simpa[World.cell?,hb] using this
theorem PS.kept {W W':World} {b:Nat} {O O1:Nat→Prop} {ts:List ak} {T:List Nd} (h:PS W b O ts T) (hf:ax O1 W W') (hd :∀k,O k→¬ O1 k) (h1 :∀k,O1 k→b≤k):PS W' b O ts T:=by
 obtain⟨TS,i,g,c,nv,L,a1,a2,a3,a4,a5,a6,a7⟩:=h.ex;have hb :∀k,O k→W'.heap[k]? = W.heap[k]?:=fun k hk=>hf.block k (h.own k hk).2 (hd k hk)
 have hlt:b<W.heap.size:=(aO.1 a1).1;refine⟨⟨TS,i,g,c,nv,L,(hb b h.at_).trans a1,a2.kept (hf.block g (by omega) (fun h2=>by have:=h1 g h2;omega)) hf.size,a3,a4,a5,⟨dk a6.row fun k hk=>hb k (a6.own k hk),a6.own,fun t ht=>(a6.each t ht).kept hf hd (fun _ h=>h)⟩,a7⟩,h.fin,h.at_,fun k hk=>⟨(h.own k hk).1,cG (h.own k hk).2 hf.size⟩⟩
theorem PS.below {W W':World} {b:Nat} {O:Nat→Prop} {ts:List ak} {T:List Nd} (h:PS W b O ts T) (hf:Below W.heap.size W W'):PS W' b O ts T :=
 h.kept (O1:=fun _=>False) (ax.af hf) (fun _ _ h=>h) (fun _ h=>h.elim)
theorem PS.fr {W:World} {b:Nat} {O:Nat→Prop} {ts:List ak} {T:List Nd} (h:PS W b O ts T) (j:Nat) (v:Value):ax (· = b) W (W.setCell ⟨b,j,none⟩ v):=by
 obtain⟨TS,i,g,c,nv,L,a1,_⟩:=h.ex;exact ax.wo a1 (by decide) j v
theorem NU.fr {W:World} {b n:Nat} {O:Nat→Prop} {x:Nd} (h:NU W b n O x) (j:Nat) (v:Value):ax (· = n) W (W.setCell ⟨n,j,none⟩ v):=by
 obtain⟨nv,kv,a1,_⟩:=h.ex;exact ax.wo a1 (by decide) j v
theorem NU.kept {W W':World} {b n:Nat} {O O1:Nat→Prop} {x:Nd} (h:NU W b n O x) (hf:ax O1 W W') (hd :∀k,O k→¬ O1 k):NU W' b n O x:=by
 obtain⟨nv,kv,a1,a2⟩:=h.ex;exact⟨⟨nv,kv,(hf.block n (h.own n h.at_).2 (hd n h.at_)).trans a1,a2.kept hf hd (fun _ h=>h)⟩,h.at_,fun k hk=>⟨(h.own k hk).1,cG (h.own k hk).2 hf.size⟩⟩
theorem NU.below {W W':World} {b n:Nat} {O:Nat→Prop} {x:Nd} (h:NU W b n O x) (hf:Below W.heap.size W W'):NU W' b n O x:=h.kept (O1:=fun _=>False) (ax.af hf) (fun _ _ h=>h)
structure St where
 h:Nd
 xs:List Ast
 ts:List ak
 n:Nat
def eA (T0 T:List Nd) (xs:List Ast) (ks:List Int):Prop:=T0 <+: T∧∃js,bj T xs ks js∧js.Perm (List.range' T0.length (T.length-T0.length))
structure Real (W:World) (b n:Nat) (O:Nat→Prop) (T0:List Nd) (s:St):Prop where
 ex :∃(Op On:Nat→Prop) (T:List Nd) (ks:List Int),(∀k,O k↔Op k∨On k)∧(∀k,Op k→¬ On k)∧PS W b Op s.ts T∧NU W b n On { s.h with kids:=ks}∧eA T0 T s.xs ks∧T.length=s.n
def Uj (B:Nat) (W:World) (v:Value) (l:Int):Prop:=∃g,v=.iface 82 (.pointer (some ⟨g,0,none⟩))∧B≤g∧W.heap[g]? = some (.cells #[.int .i64 6,.int .i64 l] 86 (0,0))
def bB (b n:Nat) (O:Nat→Prop) (T0:List Nd) (K:St→Prop) (E:Int→Prop) (w:World) (e:Ending) (w':World):Prop :=
 ax O w w'∧((∃s' O',e=.returned .nilIface∧Real w' b n O' T0 s'∧Ext O O' w∧K s')∨(∃l v,e=.returned v∧Uj w.heap.size w' v l∧E l))
def Gs (v:Value) (args:Array Value) (w:World) (Q:Ending→World→Prop):Prop :=
 ∃f first cap,v=.func (.func f) first cap∧Enters Tryz.prog f∧Calls Tryz.prog f (first++args++cap) w Q
abbrev bW:=St→(St→Prop)→(Int→Prop)→Prop
def eH (W:World) (b:Nat) (O:Nat→Prop) (v:Value) (wp:bW):Prop :=
 ∀W1 O1 T0 s n K E,ax O W W1→Ext O O1 W→Real W1 b n O1 T0 s→wp s K E→Gs v #[.pointer (some ⟨n,0,none⟩)] W1 (bB b n O1 T0 K E W1)
theorem eH.later {W W':World} {b:Nat} {O O':Nat→Prop} {v:Value} {wp:bW} (h:eH W b O v wp) (hf:ax O W W') (he:Ext O O' W):eH W' b O' v wp :=
 fun W1 O1 T0 s n K E h1 h2 h3 h4=>h W1 O1 T0 s n K E (hf.trans h1 he) (he.trans h2 hf.size) h3 h4
def aJ:List bW→bW
 | [],s,K,_=>K s
 | wp::r,s,K,E=>wp s (fun s'=>aJ r s' K E) E
def Uk (W:World) (O:Nat→Prop) (v:Value) (vs:List Value):Prop:=(v=.slice none 0 0∧vs=[])∨∃g,v=.slice (some ⟨g,0,none⟩) vs.length vs.length∧W.heap[g]? = some (.cells vs.toArray 123 (0,0))∧¬ O g∧vs.length≤100
theorem Uk.later {W W':World} {O O':Nat→Prop} {v:Value} {vs:List Value} (h:Uk W O v vs) (hf:ax O W W') (he:Ext O O' W):Uk W' O' v vs:=by
 rcases h with h | ⟨g,h1,h2,h3,h4⟩
 ·exact .inl h
 ·have hlt:g<W.heap.size:=(aO.1 h2).1
  refine .inr ⟨g,h1,(hf.block g hlt h3).trans h2,fun h5=>?_,h4⟩
  rcases he g h5 with h6|h6
  ·exact h3 h6
  ·omega
def aF (b:Nat) (O:Nat→Prop) (T0:List Nd) (R:Except Int (Ast×List ak)→Prop) (w:World) (e:Ending) (w':World):Prop :=
 ax O w w'∧((∃(p:Nat) (a:Ast) (ts:List ak) (O':Nat→Prop) (T:List Nd),e=.returned (.tuple #[.int .i64 (p:Int),.nilIface])∧PS w' b O' ts T∧Ext O O' w∧eA T0 T [a] [(p:Int)]∧R (.ok (a,ts))) ∨
  (∃l v er,e=.returned (.tuple #[v,er])∧Uj w.heap.size w' er l∧R (.error l)))
end Go.Proofs.YtodmcdfeldkocaaGreatDoor
namespace Go.Proofs.YtodmcdfeldkocaaGreatDoor
open Go.RowKit
variable {M:Int}
theorem Ce {α:Type} {c:Prop} [Decidable c] {a o:α} {y:Option α} (h:(if c then some a else y)=some o):a=o∨y=some o:=by
 by_cases hc:c
 ·rw[ai hc] at h
  exact .inl (gW h)
 ·rw[ab hc] at h
  exact .inr h
theorem y9 {t:ak} {o:Int} (h:lf t=some o):20≤o∧o≤23:=by
 unfold lf at h;repeat
  obtain e|h:=Ce h
  ·rw[←e];exact⟨by decide,by decide⟩
 cases h
end Go.Proofs.YtodmcdfeldkocaaGreatDoor
namespace Go.Proofs.YtodmcdfeldkocaaGreatDoor
def iX:ak:=(0,1,0,[])
theorem kl (k l:Int) (ks:List Ast):(nd k l ks).size=Ast.al ks+1:=by unfold nd;rw[Ast.size]
theorem lA (k l:Int) (s:ByteArray) (ks:List Ast):(mS k l s ks).size=Ast.al ks+1:=by unfold mS;rw[Ast.size]
theorem Cf (k l o:Int) (ks:List Ast):(ndO k l o ks).size=Ast.al ks+1:=by unfold ndO;rw[Ast.size]
theorem Pb (k l n:Int) (ks:List Ast):(AX k l n ks).size=Ast.al ks+1:=by unfold AX;rw[Ast.size]
theorem Pc (k l n:Int) (ns:List ByteArray) (ks:List Ast):(Dz k l n ns ks).size=Ast.al ks+1:=by unfold Dz;rw[Ast.size]
theorem cA:Ast.al []=0:=by rw[Ast.al]
theorem ik (a:Ast) (l:List Ast):Ast.al (a::l)=a.size+Ast.al l:=by rw[Ast.al]
theorem fm :∀a b:List Ast,Ast.al (a++b)=Ast.al a+Ast.al b:=by
 intro a;induction a with
 | nil=>intro b;rw[kM,cA,gi]
 | cons x a ih=>intro b;rw[dT,ik,ik,ih,oK]
def ZlR (l:List Ast) (L:Nat) (v:List Ast) (L':Nat):Prop:=Ast.al v+2*L'≤Ast.al l+2*L
def ZaR (L:Nat) (v:List Ast) (L':Nat):Prop:=Ast.al v+2*L'+1≤2*L
def za:(n:NT)→Nat→VT n→Nat→Prop
 | .blk,L,v,L'=>Ast.size v+2*L'≤2*L+1
 | .uT l,L,v,L'=>ZlR l L v L'
 | .ret _,L,v,L'=>Ast.size v+2*L'≤2*L+1
 | .AY,L,v,L'=>Ast.size v+2*L'≤2*L
 | .els l,L,v,L'=>ZlR l L v L'
 | .loo _,L,v,L'=>Ast.size v+2*L'≤2*L+2
 | .fnm _,L,v,L'=>Ast.size v+2*L'≤2*L
 | .fnx _ x,L,v,L'=>Ast.size v+2*L'≤x.size+2*L+1
 | .loc _,L,v,L'=>Ast.size v+2*L'≤2*L+2
 | .KL _ _,L,v,L'=>Ast.size v+2*L'≤2*L
 | .Yy _,L,_,L'=>L'≤L
 | .Wr,L,_,L'=>L'≤L
 | .nmm _,L,_,L'=>L'≤L
 | .AZ,L,v,L'=>ZaR L v L'
 | .SF l,L,v,L'=>ZlR l L v L'
 | .tgs _ l,L,v,L'=>Ast.size v+2*L'≤Ast.al l+2*L
 | .FQ,L,v,L'=>Ast.size v+2*L'+1≤2*L
 | .aR x,L,v,L'=>Ast.size v+2*L'≤x.size+2*L
 | .arg,L,v,L'=>ZaR L v L'
 | .Ws l,L,v,L'=>ZlR l L v L'
 | .Yz,L,v,L'=>Ast.size v+2*L'≤2*L
 | .exp _,L,v,L'=>Ast.size v+2*L'+1≤2*L
 | .lvm _ x,L,v,L'=>Ast.size v+2*L'≤x.size+2*L
 | .una,L,v,L'=>Ast.size v+2*L'+1≤2*L
 | .SG,L,v,L'=>Ast.size v+2*L'+1≤2*L
def Pd (n:NT) (ts:List ak) (v:VT n) (aA:List ak):Prop:=za n ts.length v aA.length
abbrev Zp {α:Type} (g:GL α) (ts:List ak) (Q:α→List ak→Prop):Prop:=Wp Pd g ts Q
theorem zb {P:(n:NT)→List ak→VT n→List ak→Prop} {α:Type} {f:ak→GL α} {ts:List ak} {Q:α→List ak→Prop} (h :∀t aA,ts.length=aA.length+1→Wp P (f t) (t::aA) Q):Wp P (.look f) ts Q:=fun t aA e=>by
 subst e;exact h t aA rfl
theorem Gt {P:(n:NT)→List ak→VT n→List ak→Prop} {α:Type} {f:ak→GL α} {t:ak} {ts:List ak} {Q:α→List ak→Prop} (h:Wp P (f t) ts Q):Wp P (.tok f) (t::ts) Q:=fun u us e=>by
 injection e with e1 e2;subst e1 e2;exact h
theorem zc {P:(n:NT)→List ak→VT n→List ak→Prop} {α:Type} {n:NT} {k:VT n→GL α} {ts:List ak} {Q:α→List ak→Prop} (h :∀v aA,P n ts v aA→Wp P (k v) aA Q):Wp P (.call n k) ts Q:=h
theorem Gu {P:(n:NT)→List ak→VT n→List ak→Prop} {α:Type} {c:Prop} [Decidable c] {g g':GL α} {ts:List ak} {Q:α→List ak→Prop} (h1:Wp P g ts Q) (h2:Wp P g' ts Q):Wp P (if c then g else g') ts Q:=by
 by_cases h:c
 ·rw[ai h];exact h1
 ·rw[ab h];exact h2
theorem ZW {P:(n:NT)→List ak→VT n→List ak→Prop} {α:Type} {s:List UInt8} {k:ak→GL α} {ts:List ak} {Q:α→List ak→Prop} (h :∀t aA,ts.length=aA.length+1→Wp P (k t) aA Q):Wp P (want s k) ts Q:=zb fun t aA e=>Gu (Gt (h t aA e)) trivial
theorem ZX {P:(n:NT)→List ak→VT n→List ak→Prop} {α:Type} {k:ak→GL α} {ts:List ak} {Q:α→List ak→Prop} (h :∀t aA,ts.length=aA.length+1→Wp P (k t) aA Q):Wp P (name k) ts Q:=zb fun t aA e=>Gu (Gt (h t aA e)) trivial
theorem ZY {P:(n:NT)→List ak→VT n→List ak→Prop} {α:Type} {s:List UInt8} {a b:GL α} {ts:List ak} {Q:α→List ak→Prop} (h :∀t aA,ts.length=aA.length+1→Wp P a aA Q∧Wp P b (t::aA) Q):Wp P (take s a b) ts Q:=zb fun t aA e=>Gu (Gt (h t aA e).1) (h t aA e).2
theorem abT {P:(n:NT)→List ak→VT n→List ak→Prop} {α:Type} {ts:List ak} {Q:α→List ak→Prop}:Wp P (.bad:GL α) ts Q:=trivial
theorem abU {P:(n:NT)→List ak→VT n→List ak→Prop} {α:Type} {a:α} {ts:List ak} {Q:α→List ak→Prop} (h:Q a ts):Wp P (.ret a:GL α) ts Q:=h
theorem abV (n:NT) (ts:List ak):Zp (aT n) ts (Pd n ts):=by
 cases n<;>unfold aT;all_goals
  repeat' (first
   | with_reducible refine ZW fun _ _ _=>?_
   | with_reducible refine ZX fun _ _ _=>?_
   | with_reducible refine ZY fun _ _ _=>⟨?_,?_⟩
   | with_reducible refine zb fun _ _ _=>?_
   | with_reducible refine Gt ?_
   | with_reducible refine Gu ?_ ?_
   | (refine zc ?_;intro(v:Ast) ts h)
   | (refine zc ?_;intro(v:List Ast) ts h)
   | (refine zc ?_;intro(v:List ByteArray) ts h)
   | (refine zc ?_;intro(v:List ByteArray×Int) ts h)
   | refine abU ?_
   | exact abT
   | split)
 all_goals
  simp only[Pd,za,ZlR,ZaR,kl,lA,Cf,Pb,Pc,cA,ik,fm,List.length_cons] at *;omega
theorem Fin.cons {ts:List ak} (h:Fin ts) :∃t r,ts=t::r:=by
 cases ts with
 | nil=>exact absurd rfl h.ne
 | cons t r=>exact⟨t,r,rfl⟩
def W8 (n:NT) (ts:List ak) (_:VT n) (aA:List ak):Prop:=Fin ts→Fin aA
def Ff {α:Type} (g:GL α) (ts:List ak):Prop:=Fin ts→Wp W8 g ts (fun _ aA=>Fin aA)
theorem rS {α:Type} {a:α} {ts:List ak}:Ff (.ret a) ts:=fun h=>h
theorem D9 {α:Type} {ts:List ak}:Ff (.bad:GL α) ts:=fun _=>trivial
theorem om {α:Type} {f:ak→GL α} {ts:List ak} (h :∀t aA,Ff (f t) (t::aA)):Ff (.look f) ts:=fun hf t aA e=>by
 subst e;exact h t aA hf
theorem rT {α:Type} {f:ak→GL α} {t:ak} {ts:List ak} (ht:t.1≠0) (h:Ff (f t) ts):Ff (.tok f) (t::ts):=fun hf u us e=>by
 injection e with e1 e2;subst e1 e2;exact h (hf.tail ht)
theorem qM {α:Type} {n:NT} {k:VT n→GL α} {ts:List ak} (h :∀v aA,Ff (k v) aA):Ff (.call n k) ts:=fun hf v aA hp=>h v aA (hp hf)
theorem vl {α:Type} {c:Prop} [Decidable c] {g g':GL α} {ts:List ak} (h1:c→Ff g ts) (h2:¬ c→Ff g' ts):Ff (if c then g else g') ts:=by
 by_cases h:c
 ·rw[ai h];exact h1 h
 ·rw[ab h];exact h2 h
theorem aV {s:List UInt8} {t:ak} (h:av s t=true):t.1≠0:=fun e=>by simp[av,e] at h
theorem Ul {α:Type} {s:List UInt8} {k:ak→GL α} {ts:List ak} (h :∀t aA,Ff (k t) aA):Ff (want s k) ts:=om fun t aA=>vl (fun hc=>rT (aV hc) (h t aA)) fun _=>D9
theorem Um {α:Type} {k:ak→GL α} {ts:List ak} (h :∀t aA,Ff (k t) aA):Ff (name k) ts:=om fun t aA=>vl (fun hc=>rT (by rw[hc];decide) (h t aA)) fun _=>D9
theorem Un {α:Type} {s:List UInt8} {a b:GL α} {ts:List ak} (h1 :∀aA,Ff a aA) (h2 :∀aA,Ff b aA):Ff (take s a b) ts:=om fun _ aA=>vl (fun hc=>rT (aV hc) (h1 aA)) fun _=>h2 _
theorem Gv {t:ak} {o:Int×Nat×Nat} (h:mL t=some o):t.1≠0:=fun e=>by simp[mL,av,e] at h
theorem Gx {t:ak} {o:Int} (h:lf t=some o):t.1≠0:=fun e=>by simp[lf,av,e] at h
theorem ZZ (n:NT) (ts:List ak):Ff (aT n) ts:=by
 cases n<;>unfold aT;case lvm s x =>
  refine om fun t aA=>?_
  cases h:mL t with
  | none=>exact rS
  | some o=>exact vl (fun _=>rT (Gv h) (qM fun _ _=>qM fun _ _=>rS)) fun _=>rS
 case una =>
  refine om fun t aA=>?_
  cases h:lf t with
  | none=>exact qM fun _ _=>rS
  | some o=>exact rT (Gx h) (qM fun _ _=>rS)
 all_goals
  repeat' first
   | exact rS
   | exact D9
   | (refine Ul fun _ _=>?_)
   | (refine Um fun _ _=>?_)
   | (refine Un (fun _=>?_) (fun _=>?_))
   | (refine om fun _ _=>?_)
   | (refine qM fun _ _=>?_)
   | (refine vl (fun hc=>?_) (fun _=>?_))
   | (refine rT (by first|exact aV hc|(intro e;simp[av,e] at hc)) ?_)
theorem Wp.always {N:Type} {V:N→Type} {Post :∀n,List ak→V n→List ak→Prop} {α:Type} (g:G N V α) :∀(ts:List ak) (Q:α→List ak→Prop),(∀a aA,Q a aA)→Wp Post g ts Q:=by
 induction g with
 | ret a=>intro ts Q h;exact h a ts
 | bad=>intro ts Q h;trivial
 | tok f ih=>intro ts Q h t aA e;exact ih t aA Q h
 | look f ih=>intro ts Q h t aA e;exact ih t ts Q h
 | call n k ih=>intro ts Q h v aA hp;exact ih v aA Q h
theorem Wp.weak {N:Type} {V:N→Type} {Post :∀n,List ak→V n→List ak→Prop} {α:Type} (g:G N V α) :∀(ts:List ak) (Q Q':α→List ak→Prop),(∀a aA,Q a aA→Q' a aA)→Wp Post g ts Q→Wp Post g ts Q':=by
 induction g with
 | ret a=>intro ts Q Q' h hw;exact h a ts hw
 | bad=>intro ts Q Q' h hw;trivial
 | tok f ih=>intro ts Q Q' h hw t aA e;exact ih t aA Q Q' h (hw t aA e)
 | look f ih=>intro ts Q Q' h hw t aA e;exact ih t ts Q Q' h (hw t aA e)
 | call n k ih=>intro ts Q Q' h hw v aA hp;exact ih v aA Q Q' h (hw v aA hp)
theorem PL.fin {n:NT} {ts aA:List ak} {v:VT n} (h:PL (aT n) ts (.ok (v,aA))) (hf:Fin ts):Fin aA :=
 P.holds (Post:=W8) (fun n ts=>by
  by_cases hf:Fin ts
  ·exact Wp.weak _ _ _ _ (fun _ _ h _=>h) (ZZ n ts hf)
  ·exact Wp.always _ _ _ fun _ _ h=>(hf h).elim) h hf
end Go.Proofs.YtodmcdfeldkocaaGreatDoor
namespace Go.Proofs.YtodmcdfeldkocaaGreatDoor
def Gy (x:Nd):Prop:=-9223372036854775808≤x.num∧x.num≤9223372036854775807∧x.s.size≤8000∧x.names.length≤5000∧-9223372036854775808≤x.op∧x.op≤9223372036854775807
mutual
def Cg:Ast→Prop
 | .mk h ks=>Gy h∧vm ks
def vm:List Ast→Prop
 | []=>True
 | a::xs=>Cg a∧vm xs
end
theorem Uo:vm []:=by unfold vm;trivial
section
variable {α:Type} {Q:α→List ak→Prop}
end
end Go.Proofs.YtodmcdfeldkocaaGreatDoor
namespace Go.Proofs.YtodmcdfeldkocaaGreatDoor
open Go.RowKit
def gb (t:ak):Value:=.agg #[.int .i64 t.1,.int .i64 t.2.1,.int .i64 t.2.2.1,.string (bx t.2.2.2)]
theorem PS.look {W:World} {b:Nat} {O:Nat→Prop} {t:ak} {ts:List ak} {T:List Nd} (h:PS W b O (t::ts) T) :
  ∃(i g n c:Nat),W.cell? ⟨b,0,none⟩=some (.slice (some ⟨g,0,none⟩) n c)∧W.cell? ⟨b,1,none⟩=some (.int .i64 (i:Int))∧i<n∧n≤20000∧n≤c ∧
   W.cell? ⟨g,i*4,none⟩=some (.int .i64 t.1)∧W.cell? ⟨g,i*4+1,none⟩=some (.int .i64 t.2.1)∧W.cell? ⟨g,i*4+2,none⟩=some (.int .i64 t.2.2.1)∧W.cell? ⟨g,i*4+3,none⟩=some (.string (bx t.2.2.2)):=by
 obtain⟨TS,i,g,c,nv,L,a1,a2,a3,a4,a5,a6,a7⟩:=h.ex;obtain⟨g',cap,e,h1,h2,h3⟩:=a2.ex;have hg:g=g'∧c=cap:=by injection e with e1 _ e3;injection e1 with e1;injection e1 with e1;exact⟨e1,e3⟩
 obtain⟨rfl,rfl⟩:=hg;have hi:TS[i]? = some t:=by
  have:=aw (·[0]?) a4
  simpa[wF] using this
 have hlt:=(aK.1 hi).1;obtain⟨b0,b1,b2,b3⟩:=h3 i t hi;exact⟨i,g,TS.length,c,by simp[World.cell?,a1],by simp[World.cell?,a1],hlt,a5,h1,b0,b1,b2,b3⟩
theorem cC (b:Nat) (O:Nat→Prop) (t:ak) (ts:List ak) (T:List Nd) (w:World) (h:PS w b O (t::ts) T) :
  Calls Tryz.prog 49 #[.pointer (some ⟨b,0,none⟩)] w fun e w'=>e=.returned (gb t)∧Below w.heap.size w w':=by
 obtain⟨i,g,n,c,c0,c1,hi,hn,hc,d0,d1,d2,d3⟩:=h.look;obtain⟨t0,t1,t2,t3⟩:=t;have hb:b<w.heap.size:=World.block_lt_of_cell? w _ c1;have hg:g<w.heap.size:=World.block_lt_of_cell? w _ d0;clear h;go_enter Tryz.func49,Tryz.ntmps49
 go_wp2_with fail
 go_region
 all_goals go_wp2
 all_goals exact bodyPost_ret (v:=gb (t0,t1,t2,t3)) (by simp[results,Tryz.results49,go_sem,gb]) rfl ⟨rfl,((Below.refl _ _).alloc (ah _) _).drew⟩
def ag (t:ak):ByteArray:=if t.1=2∨t.1=5 then bx t.2.2.2 else ⟨#[]⟩
theorem bJ (b:Nat) (O:Nat→Prop) (t:ak) (ts:List ak) (T:List Nd) (w:World) (h:PS w b O (t::ts) T) :
  Calls Tryz.prog 53 #[.pointer (some ⟨b,0,none⟩)] w fun e w'=>e=.returned (.string (ag t))∧Below w.heap.size w w':=by
 obtain⟨t0,t1,t2,t3⟩:=t;have HA:=aa (cC b O (t0,t1,t2,t3) ts T w h);unfold gb at HA;obtain⟨S,hS⟩ :∃S,S=bx t3:=⟨_,rfl⟩;dsimp only at HA
 rw[←hS] at HA;by_cases h2:t0=2
 ·subst h2
  have hw:ag (2,t1,t2,t3)=S:=by subst hS;rfl
  have HW:=aa hw;clear hw h hS;go_enter Tryz.func53,Tryz.ntmps53
  go_wp2_with fail
  refine HA.out.mono ?_;rintro e w1 ⟨rfl,b1⟩;have B1:=aa b1;clear b1;go_wp2_with fail
  go_ret
  exact⟨(by rw[HW.out];rfl),ay B1.out ((Below.refl _ _).alloc (ah _) _)⟩
 ·have g2:(t0 == 2)=false:=aC.2 h2
  have g2':(t0 != 2)=true:=oL.2 h2;by_cases h5:t0=5
  ·subst h5
   have hw:ag (5,t1,t2,t3)=S:=by subst hS;rfl
   have HW:=aa hw;clear hw h hS;go_enter Tryz.func53,Tryz.ntmps53
   go_wp2_with fail
   refine HA.out.mono ?_;rintro e w1 ⟨rfl,b1⟩;have B1:=aa b1;clear b1;go_wp2_with fail
   go_ret
   exact⟨(by rw[HW.out];rfl),ay B1.out ((Below.refl _ _).alloc (ah _) _)⟩
  ·have g5:(t0 == 5)=false:=aC.2 h5
   have g5':(t0 != 5)=true:=oL.2 h5;have hw:ag (t0,t1,t2,t3)=⟨#[]⟩:=ab (by rintro(h|h)<;>contradiction)
   have HW:=aa hw;clear hw h h2 h5 hS;go_enter Tryz.func53,Tryz.ntmps53
   go_wp2_with fail
   refine HA.out.mono ?_;rintro e w1 ⟨rfl,b1⟩;have B1:=aa b1;clear b1;go_wp2_with fail
   go_ret
   exact⟨(by rw[HW.out];rfl),ay B1.out ((Below.refl _ _).alloc (ah _) _)⟩
theorem PS.step {W:World} {b:Nat} {O:Nat→Prop} {t:ak} {ts:List ak} {T:List Nd} (h:PS W b O (t::ts) T) (ht:t.1≠0) {i:Nat} (hi:W.cell? ⟨b,1,none⟩=some (.int .i64 (i:Int))) :
  PS (W.setCell ⟨b,1,none⟩ (.int .i64 ((i:Int)+1))) b O ts T:=by
 obtain⟨TS,i',g,c,nv,L,a1,a2,a3,a4,a5,a6,a7⟩:=h.ex;have hi':i'=i:=by
  simp[World.cell?,a1] at hi;omega
 subst hi';have hlt:b<W.heap.size:=(aO.1 a1).1;have hne :∀k,k≠b→(W.setCell ⟨b,1,none⟩ (.int .i64 ((i':Int)+1))).heap[k]? = W.heap[k]?:=fun k hk=>Below.heap_setCell _ _ _ k hk
 have Hj:=(yY a1 (.int .i64 ((i':Int)+1))).1;have hrow :∀{B e s n:Nat} {v:Value} {xs:List Value},W.ownsRow B e s v n xs→B=b+1→(W.setCell ⟨b,1,none⟩ (.int .i64 ((i':Int)+1))).ownsRow B e s v n xs:=fun h hB=>dk h fun k hk=>hne k (by have:=(h.lt k hk).1;omega)
 refine⟨⟨TS,i'+1,g,c,nv,L,Hj,?_,a3,?_,a5,⟨hrow a6.row rfl,a6.own,fun t ht=>?_⟩,a7⟩,h.fin.tail ht,h.at_,fun k hk=>⟨(h.own k hk).1,by simpa[World.setCell] using (h.own k hk).2⟩⟩
 ·exact a2.kept (hne g (by omega)) (by simp[World.setCell])
 ·rw[←List.drop_drop,a4];rfl
 ·have hn:=a6.each t ht
  exact⟨hrow hn.names rfl,hrow hn.kids rfl,fun g hg=>(hn.on g hg).imp id (h.fr 1 _).keeps,hn.nz,hn.ok⟩
theorem PS.place {W:World} {b:Nat} {O:Nat→Prop} {ts:List ak} {T:List Nd} (h:PS W b O ts T) :∃i:Nat,i≤20000∧W.cell? ⟨b,1,none⟩=some (.int .i64 (i:Int))∧W.frozen? ⟨b,1,none⟩=false∧b<W.heap.size:=by
 obtain⟨TS,i,g,c,nv,L,a1,a2,a3,a4,a5,a6,a7⟩:=h.ex;refine⟨i,?_,by simp[World.cell?,a1],by simp[World.frozen?,a1],(aO.1 a1).1⟩
 rcases E3 TS.length i with hi|hi
 ·exact absurd (by rw[←a4];exact mr (by omega)) h.fin.ne
 ·omega
theorem tN {s:List UInt8} (hs:s≠[]) (t:ak):((ag t).data.toList == s)=av s t:=by
 rw[mV];unfold ag av;by_cases h:t.1=2∨t.1=5
 ·rw[ai h]
  simp[h,bx]
 ·rw[ab h]
  simp[h];exact hs
theorem tP {s:List UInt8} {t:ak} (h:av s t=true):t.1≠0:=by
 unfold av at h;intro h0;simp[h0] at h
def lB (b:Nat) (O:Nat→Prop) (aA:List ak) (T:List Nd) (r:Bool) (w:World) (e:Ending) (w':World):Prop:=e=.returned (.bool r)∧PS w' b O aA T∧ax (· = b) w w'
theorem mh (b:Nat) (O:Nat→Prop) (t:ak) (ts:List ak) (T:List Nd) (s:List UInt8) (X:ByteArray) (hX:X=bx s) (w:World) (h:PS w b O (t::ts) T) (hs:s≠[]) (ht:av s t=true) :
  Calls Tryz.prog 52 #[.pointer (some ⟨b,0,none⟩),.string X] w (lB b O ts T true w):=by
 have HA:=aa (bJ b O t ts T w h);have hw:=tN hs t;have he:(ag t).data.toList=X.data.toList:=by
  rw[ht] at hw;rw[hX];exact eq_of_beq hw
 have he:ag t=X:=by
  cases h1:ag t with
  | mk d =>
   cases X with
   | mk d' =>
    rw[h1] at he;congr 1
    exact Array.ext' he
 rw[he] at HA;have HH:=aa h;have HT:=aa (tP ht);clear hw he hX h hs ht;go_enter Tryz.func52,Tryz.ntmps52
 go_wp2_with fail
 refine HA.out.mono ?_;rintro e w1 ⟨rfl,b1⟩;have h1:=HH.out.below b1;have B1:=aa b1;obtain⟨i,hi,c1,f1,hb⟩:=h1.place;have H1:=aa h1;have C1:=aa c1;clear b1 h1;go_wp2_with fail
 go_ret
 exact⟨rfl,H1.out.step HT.out C1.out,(ax.af (O:=(· = b)) B1.out).trans (H1.out.fr 1 _) (Ext.refl _ _)⟩
theorem oq (b:Nat) (O:Nat→Prop) (t:ak) (ts:List ak) (T:List Nd) (s:List UInt8) (X:ByteArray) (hX:X=bx s) (w:World) (h:PS w b O (t::ts) T) (hs:s≠[]) (ht:av s t=false) :
  Calls Tryz.prog 52 #[.pointer (some ⟨b,0,none⟩),.string X] w (lB b O (t::ts) T false w):=by
 have HA:=aa (bJ b O t ts T w h);have hw:=tN hs t;rw[ht] at hw;generalize ag t=Y at *;have hq:(Y.toList == X.toList)=false:=by rw[Lib.toList_data,Lib.toList_data,hX];exact hw
 have HH:=aa h;clear hw hX h hs ht;go_enter Tryz.func52,Tryz.ntmps52
 go_wp2_with fail
 refine HA.out.mono ?_;rintro e w1 ⟨rfl,b1⟩;have h1:=HH.out.below b1;have B1:=aa b1;have H1:=aa h1;clear b1 h1;go_wp2_with fail
 go_ret
 exact⟨rfl,H1.out,ax.af B1.out⟩
def Gz (w:World) (l:Int) (e:Ending) (w':World):Prop:=∃v,e=.returned v∧Uj w.heap.size w' v l∧Below w.heap.size w w'
theorem Ch (t0 t1 t2:Int) (S:ByteArray) (W:World):(Instr.field 114 (.agg #[.int .i64 t0,.int .i64 t1,.int .i64 t2,.string S]) 0).run Tryz.prog W=.ok (.int .i64 t0) W:=by kernel_rfl
theorem Pe (t0 t1 t2:Int) (S:ByteArray) (W:World):(Instr.field 114 (.agg #[.int .i64 t0,.int .i64 t1,.int .i64 t2,.string S]) 1).run Tryz.prog W=.ok (.int .i64 t1) W:=by kernel_rfl
theorem qN (b:Nat) (O:Nat→Prop) (t:ak) (ts:List ak) (T:List Nd) (w:World) (h:PS w b O (t::ts) T) :
  Calls Tryz.prog 60 #[.pointer (some ⟨b,0,none⟩)] w (Gz w t.2.1):=by
 obtain⟨t0,t1,t2,t3⟩:=t;have HA:=aa (cC b O (t0,t1,t2,t3) ts T w h);unfold gb at HA;dsimp only at HA ⊢
 have F1:=Pe t0 t1 t2 (bx t3);clear h;go_enter Tryz.func60,Tryz.ntmps60
 go_wp2_with fail
 refine HA.out.mono ?_;rintro e w1 ⟨rfl,b1⟩;have B1:=aa b1;clear b1;go_wp2_with fail
 go_ret
 exact⟨_,rfl,⟨w1.heap.size,rfl,B1.out.size,World.alloc_heap_new w1 _⟩,ay B1.out ((Below.refl _ _).alloc (ah _) _)⟩
theorem aj {s:List UInt8} (hs:s≠[]) (t:ak) {r:Bool} (h:av s t=r):((ag t).toList == s)=r:=by rw[Lib.toList_data,tN hs,h]
theorem bn {s s':List UInt8} {t:ak} (h:av s t=true) (hne:s'≠s):av s' t=false:=by
 unfold av at h ⊢;rw[dp,iF] at h;rw[h.2,Bool.and_eq_false_iff];exact .inr (bZ (fun e=>hne e.symm))
def nO (w:World) (r:Bool) (e:Ending) (w':World):Prop:=e=.returned (.bool r)∧Below w.heap.size w w'
theorem aQ (s:List UInt8) {q:List UInt8} {t:ak} (h:av q t=true) (d:s≠[]∧s≠q):((ag t).toList == s)=false:=aj d.1 t (bn h d.2)
theorem Z0 (b:Nat) (O:Nat→Prop) (t:ak) (ts:List ak) (T:List Nd) (w:World) (h:PS w b O (t::ts) T) :
  Calls Tryz.prog 51 #[.pointer (some ⟨b,0,none⟩)] w (nO w (iU t)):=by
 have HW:=aa (bJ b O t ts T w h);have HA:=aa (fun W hW=>cC b O t ts T W hW)
 have HP:=aa h;have hr :∀r,iU t=r→iU t=r:=fun _ h=>h
 by_cases k1:av jn t=true
 ·have g1:((ag t).toList == [101,110,100])=true:=aj (s:=jn) (by decide) t k1
  have HE:=aa (show iU t=true by unfold iU;simp[k1])
  clear h hr k1;generalize ag t=Y at *;go_enter Tryz.func51,Tryz.ntmps51
  go_wp2_with fail
  refine HW.out.mono ?_;rintro e w1 ⟨rfl,b1⟩;have B1:=aa b1;clear b1;go_wp2_with fail
  go_ret
  exact⟨by rw[HE.out];rfl,B1.out⟩
 ·have g1:((ag t).toList == [101,110,100])=false:=aj (s:=jn) (by decide) t (by simpa using k1)
  by_cases k2:av sH t=true
  ·have g2:((ag t).toList == [101,108,115,101])=true:=aj (s:=sH) (by decide) t k2
   have HE:=aa (show iU t=true by unfold iU;simp[k2])
   clear h hr k1 k2;generalize ag t=Y at *;go_enter Tryz.func51,Tryz.ntmps51
   go_wp2_with fail
   refine HW.out.mono ?_;rintro e w1 ⟨rfl,b1⟩;have B1:=aa b1;clear b1;go_wp2_with fail
   go_ret
   exact⟨by rw[HE.out];rfl,B1.out⟩
  ·have g2:((ag t).toList == [101,108,115,101])=false:=aj (s:=sH) (by decide) t (by simpa using k2)
   by_cases k3:av kf t=true
   ·have g3:((ag t).toList == [101,108,115,101,105,102])=true:=aj (s:=kf) (by decide) t k3
    have HE:=aa (show iU t=true by unfold iU;simp[k3])
    clear h hr k1 k2 k3;generalize ag t=Y at *;go_enter Tryz.func51,Tryz.ntmps51
    go_wp2_with fail
    refine HW.out.mono ?_;rintro e w1 ⟨rfl,b1⟩;have B1:=aa b1;clear b1;go_wp2_with fail
    go_ret
    exact⟨by rw[HE.out];rfl,B1.out⟩
   ·have g3:((ag t).toList == [101,108,115,101,105,102])=false:=aj (s:=kf) (by decide) t (by simpa using k3)
    by_cases k4:av po t=true
    ·have g4:((ag t).toList == [117,110,116,105,108])=true:=aj (s:=po) (by decide) t k4
     have HE:=aa (show iU t=true by unfold iU;simp[k4])
     clear h hr k1 k2 k3 k4;generalize ag t=Y at *;go_enter Tryz.func51,Tryz.ntmps51
     go_wp2_with fail
     refine HW.out.mono ?_;rintro e w1 ⟨rfl,b1⟩;have B1:=aa b1;clear b1;go_wp2_with fail
     go_ret
     exact⟨by rw[HE.out];rfl,B1.out⟩
    ·have g4:((ag t).toList == [117,110,116,105,108])=false:=aj (s:=po) (by decide) t (by simpa using k4)
     obtain⟨t0,t1,t2,t3⟩:=t;have HE:=aa (show iU (t0,t1,t2,t3)=decide (t0=0) by
      unfold iU;simp only[Bool.not_eq_true] at k1 k2 k3 k4;simp[k1,k2,k3,k4])
     unfold gb at HA;dsimp only at HA
     have F0:=Ch t0 t1 t2 (bx t3);clear h hr k1 k2 k3 k4;generalize ag (t0,t1,t2,t3)=Y at *;generalize bx t3=S at *;by_cases h0:t0=0
     ·subst h0
      go_enter Tryz.func51,Tryz.ntmps51
      go_wp2_with fail
      refine HW.out.mono ?_;rintro e w1 ⟨rfl,b1⟩;have B1:=aa b1;have P1:=aa (HP.out.below b1);clear b1;go_wp2_with fail
      refine(HA.out _ P1.out).mono ?_;rintro e w2 ⟨rfl,b2⟩;have B2:=aa (ay B1.out b2);clear b2;go_wp2_with fail
      go_ret
      exact⟨by rw[HE.out];rfl,B2.out⟩
     ·have g0:(t0 == 0)=false:=aC.2 h0
      have HN:=aa h0;clear h0;go_enter Tryz.func51,Tryz.ntmps51
      go_wp2_with fail
      refine HW.out.mono ?_;rintro e w1 ⟨rfl,b1⟩;have B1:=aa b1;have P1:=aa (HP.out.below b1);clear b1;go_wp2_with fail
      refine(HA.out _ P1.out).mono ?_;rintro e w2 ⟨rfl,b2⟩;have B2:=aa (ay B1.out b2);clear b2;go_wp2_with fail
      go_ret
      exact⟨by rw[HE.out,bZ HN.out];rfl,B2.out⟩
theorem Z1 (b:Nat) (O:Nat→Prop) (t:ak) (ts:List ak) (T:List Nd) (n:Value) (w:World) (h:PS w b O (t::ts) T) (ht:t.1≠0) :
  Calls Tryz.prog 55 #[.pointer (some ⟨b,0,none⟩),n] w fun e w'=>e=.returned .nilIface∧PS w' b O ts T∧ax (· = b) w w':=by
 obtain⟨i,hi,c1,f1,hb⟩:=h.place;have HH:=aa h;have HT:=aa ht;have C1:=aa c1;clear h ht;go_enter Tryz.func55,Tryz.ntmps55
 go_wp2_with fail
 go_ret
 exact⟨rfl,HH.out.step HT.out C1.out,HH.out.fr 1 _⟩
theorem km (b:Nat) (O:Nat→Prop) (t:ak) (ts:List ak) (T:List Nd) (w:World) (h:PS w b O (t::ts) T) (ht:av [44] t=true) :
  Calls Tryz.prog 132 #[.pointer (some ⟨b,0,none⟩)] w (lB b O ts T true w):=by
 have HC:=aa (mh b O t ts T [44] ⟨#[44]⟩ rfl w h (by decide) ht)
 clear h ht;go_enter Tryz.func132,Tryz.ntmps132
 go_wp2_with fail
 refine HC.out.mono ?_;rintro e w1 ⟨rfl,h1,h2⟩;have H1:=aa h1;have H2:=aa h2;clear h1 h2;go_wp2_with fail
 go_ret
 exact⟨rfl,H1.out,H2.out⟩
theorem mi (b:Nat) (O:Nat→Prop) (t:ak) (ts:List ak) (T:List Nd) (w:World) (h:PS w b O (t::ts) T) (ht:av [44] t=false) :
  Calls Tryz.prog 132 #[.pointer (some ⟨b,0,none⟩)] w (lB b O (t::ts) T false w):=by
 have HC:=aa (oq b O t ts T [44] ⟨#[44]⟩ rfl w h (by decide) ht)
 clear h ht;go_enter Tryz.func132,Tryz.ntmps132
 go_wp2_with fail
 refine HC.out.mono ?_;rintro e w1 ⟨rfl,h1,h2⟩;have H1:=aa h1;have H2:=aa h2;clear h1 h2;go_wp2_with fail
 go_ret
 exact⟨rfl,H1.out,H2.out⟩
def Pf (b:Nat) (O:Nat→Prop) (t:ak) (ts:List ak) (T:List Nd) (w:World) (e:Ending) (w':World):Prop :=
 ax (· = b) w w'∧((t.1=1∧e=.returned (.tuple #[.string (bx t.2.2.2),.nilIface])∧PS w' b O ts T)∨(t.1≠1∧∃er,e=.returned (.tuple #[.string ⟨#[]⟩,er])∧Uj w.heap.size w' er t.2.1))
theorem Ea (b:Nat) (O:Nat→Prop) (t:ak) (ts:List ak) (T:List Nd) (w:World) (h:PS w b O (t::ts) T) :
  Calls Tryz.prog 135 #[.pointer (some ⟨b,0,none⟩)] w (Pf b O t ts T w):=by
 obtain⟨t0,t1,t2,t3⟩:=t;have HA:=aa (cC b O (t0,t1,t2,t3) ts T w h);have HW:=aa (fun W hW=>qN b O (t0,t1,t2,t3) ts T W hW)
 unfold gb at HA;dsimp only at HA HW
 have HP:=aa h;clear h;obtain⟨S,hS⟩ :∃S,S=bx t3:=⟨_,rfl⟩;rw[←hS] at HA;have HS:=aa hS;clear hS;by_cases h1:t0=1
 ·subst h1
  go_enter Tryz.func135,Tryz.ntmps135
  go_wp2_with fail
  refine HA.out.mono ?_;rintro e w1 ⟨rfl,b1⟩;have B1:=aa b1;have h2:=HP.out.below b1;obtain⟨i,hi,c1,f1,hb⟩:=h2.place;have H2:=aa h2;have C1:=aa c1;clear h2 b1;go_wp2_with fail
  go_ret2
  have hB:=fun W:World=>(Below.refl W.heap.size W).alloc (ah _) (.cells #[.int .i64 1,.int .i64 t1,.int .i64 t2,.string S] 114)
  refine⟨?_,.inl ⟨rfl,by rw[←HS.out];rfl,(H2.out.step (show(1:Int)≠0 by decide) C1.out).below (hB _)⟩⟩
  exact((ax.af (O:=(· = b)) B1.out).trans (H2.out.fr 1 _) (Ext.refl _ _)).alloc _
 ·have g1:(t0 == 1)=false:=aC.2 h1
  have g1':(t0 != 1)=true:=oL.2 h1;have HN:=aa h1;clear h1;go_enter Tryz.func135,Tryz.ntmps135
  go_wp2_with fail
  refine HA.out.mono ?_;rintro e w1 ⟨rfl,b1⟩;have B2:=aa (ay b1 ((Below.refl w1.heap.size w1).alloc (ah _) (.cells #[.int .i64 t0,.int .i64 t1,.int .i64 t2,.string S] 114)));have H2:=aa (HP.out.below B2.out);clear b1;go_wp2_with fail
  refine(HW.out _ H2.out).mono ?_;rintro e w3 ⟨er,rfl,m,b3⟩;have M:=aa m;have B3:=aa (ay B2.out b3);clear m b3;go_wp2_with fail
  go_ret2
  refine⟨ax.af B3.out,.inr ⟨HN.out,_,rfl,?_⟩⟩;obtain⟨g,e1,e2,e3⟩:=M.out;exact⟨g,e1,aL B2.out.size e2,e3⟩
theorem il {W:World} {n k:Nat} {a:Array Value} {ty:TypeId} (h:W.heap[n]? = some (.cells a ty (0,0))) (v:Value):(W.setCell ⟨n,k,none⟩ v).heap[n]? = some (.cells (a.setIfInBounds k v) ty (0,0)):=by
 obtain⟨hlt,hk⟩:=aO.1 h;show(W.heap.modify n _)[n]? = _
 rw[wC (by rw[zQ];exact hlt),zJ,hk]
 rfl
theorem NU.cells {W:World} {b n:Nat} {O:Nat→Prop} {x:Nd} (h:NU W b n O x) :∃nv kv,lP W n 0 x nv kv∧jO W b O x nv kv∧(∀j,W.frozen? ⟨n,j,none⟩=false):=by
 obtain⟨nv,kv,a1,a2⟩:=h.ex;have hc :∀j,W.cell? ⟨n,j,none⟩=(aP (x,nv,kv))[j]?:=fun j=>by simp[World.cell?,a1]
 exact⟨nv,kv,⟨hc 0,hc 1,hc 2,hc 3,hc 4,hc 5,hc 6⟩,a2,fun j=>by simp[World.frozen?,a1]⟩
theorem jO.set {W:World} {b:Nat} {O:Nat→Prop} {x:Nd} {nv kv:Value} (h:jO W b O x nv kv) {n:Nat} {a:Array Value} (hn:W.heap[n]? = some (.cells a 54 (0,0))) (k:Nat) (v:Value):jO (W.setCell ⟨n,k,none⟩ v) b O x nv kv:=by
 have hne :∀g,g≠n→(W.setCell ⟨n,k,none⟩ v).heap[g]? = W.heap[g]?:=fun g hg=>Below.heap_setCell _ _ _ g hg
 have hf:=ax.wo hn (show(54:Nat)≠9 by decide) k v
 refine⟨dk h.names fun g hg=>hne g (fun e=>?_),dk h.kids fun g hg=>hne g (fun e=>?_),fun g hg=>(h.on g hg).imp id hf.keeps,h.nz,h.ok⟩
 ·obtain⟨cur,hc⟩:=fh h.names hg
  rw[e,hn] at hc;simp at hc
 ·obtain⟨cur,hc⟩:=fh h.kids hg
  rw[e,hn] at hc;simp at hc
theorem jO.head {W:World} {b:Nat} {O:Nat→Prop} {x y:Nd} {nv kv:Value} (h:jO W b O x nv kv) (h1:y.names=x.names) (h2:y.kids=x.kids):jO W b O y nv kv:=⟨h1▸h.names,h2▸h.kids,h.on,by rw[h1];exact h.nz,h.ok⟩
theorem NU.qO {W:World} {b n:Nat} {O:Nat→Prop} {x y:Nd} (h:NU W b n O x) (k:Nat) (v:Value) (h1:y.names=x.names) (h2:y.kids=x.kids)
  (hc :∀nv kv,(aP (x,nv,kv)).toArray.setIfInBounds k v=(aP (y,nv,kv)).toArray):NU (W.setCell ⟨n,k,none⟩ v) b n O y:=by
 obtain⟨nv,kv,a1,a2⟩:=h.ex;refine⟨⟨nv,kv,?_,(a2.set a1 k v).head h1 h2⟩,h.at_,fun i hi=>⟨(h.own i hi).1,by simpa[World.setCell] using (h.own i hi).2⟩⟩
 rw[il a1,hc]
def ba (f b:Nat):Value:=.func (.func f) #[.pointer (some ⟨b,0,none⟩)] #[]
def aB:bW:=fun s K _=>∃t ts,s.ts=t::ts∧t.1≠0∧K { s with ts:=ts}
def Pg:bW:=fun s K E=>∃t ts,s.ts=t::ts∧(t.1=0→K s)∧(t.1≠0→E t.2.1)
def cV:bW:=fun s K E=>∃t ts,s.ts=t::ts∧(t.1=1→K { s with h:={ s.h with s:=bx t.2.2.2},ts:=ts})∧(t.1≠1→E t.2.1)
def eo:bW:=fun s K _=>K { s with h:={ s.h with num:=(s.xs.length:Int)}}
theorem Real.own {W:World} {b n:Nat} {O:Nat→Prop} {T0:List Nd} {s:St} (h:Real W b n O T0 s) :∀k,O k→b≤k∧k<W.heap.size:=by
 obtain⟨Op,On,T,ks,hO,hd,hp,hn,hl,hc⟩:=h.ex;intro k hk;rcases(hO k).1 hk with hk|hk
 ·exact hp.own k hk
 ·exact⟨fu (hn.own k hk).1,(hn.own k hk).2⟩
theorem bg (W:World) (b:Nat) (O:Nat→Prop):eH W b O (ba 55 b) aB:=by
 rintro W1 O1 T0 s n K E _ _ hr ⟨t,ts,hs,h0,hk⟩;obtain⟨Op,On,T,ks,hO,hd,hp,hn,hl,hc⟩:=hr.ex;rw[hs] at hp;refine⟨55,_,_,rfl,enters_of Tryz.func55 (by kernel_rfl) rfl,(Z1 b Op t ts T _ W1 hp h0).mono ?_⟩
 rintro e w ⟨rfl,hp',hf⟩;refine⟨hf.mono fun k hk=>(hO k).2 (.inl (hk▸hp.at_)),.inl ⟨{ s with ts:=ts},O1,rfl,⟨Op,On,T,ks,hO,hd,hp',?_,hl,hc⟩,Ext.refl _ _,hk⟩⟩
 exact hn.kept hf fun k hk e=>hd b hp.at_ (e▸hk)
def Up (t:ak) (w:World) (e:Ending) (w':World):Prop:=Below w.heap.size w w'∧((t.1=0∧e=.returned .nilIface)∨(t.1≠0∧∃v,e=.returned v∧Uj w.heap.size w' v t.2.1))
theorem abW (b:Nat) (O:Nat→Prop) (t:ak) (ts:List ak) (T:List Nd) (n:Value) (w:World) (h:PS w b O (t::ts) T) :
  Calls Tryz.prog 25 #[.pointer (some ⟨b,0,none⟩),n] w (Up t w):=by
 obtain⟨t0,t1,t2,t3⟩:=t;have HA:=aa (cC b O (t0,t1,t2,t3) ts T w h);have HW:=aa (fun W hW=>qN b O (t0,t1,t2,t3) ts T W hW)
 unfold gb at HA;dsimp only at HA HW
 have F0:=Ch t0 t1 t2 (bx t3);generalize bx t3=S at *;have HP:=aa h;clear h;by_cases h0:t0=0
 ·subst h0
  go_enter Tryz.func25,Tryz.ntmps25
  go_wp2_with fail
  refine HA.out.mono ?_;rintro e w1 ⟨rfl,b1⟩;have B1:=aa b1;clear b1;go_wp2_with fail
  go_ret
  exact⟨B1.out,.inl ⟨rfl,rfl⟩⟩
 ·have g1:(t0 == 0)=false:=aC.2 h0
  have g1':(t0 != 0)=true:=oL.2 h0;have HN:=aa h0;clear h0;go_enter Tryz.func25,Tryz.ntmps25
  go_wp2_with fail
  refine HA.out.mono ?_;rintro e w1 ⟨rfl,b1⟩;have B1:=aa b1;have P1:=aa (HP.out.below b1);clear b1;go_wp2_with fail
  refine(HW.out _ P1.out).mono ?_;rintro e w2 ⟨v,rfl,m,b2⟩;have M:=aa m;have B2:=aa (ay B1.out b2);clear m b2;go_wp2_with fail
  go_ret
  obtain⟨g,e1,e2,e3⟩:=M.out;exact⟨B2.out,.inr ⟨HN.out,_,rfl,g,e1,aL B1.out.size e2,e3⟩⟩
theorem Ph (W:World) (b:Nat) (O:Nat→Prop):eH W b O (ba 25 b) Pg:=by
 rintro W1 O1 T0 s n K E _ _ hr ⟨t,ts,hs,hk,he⟩;obtain⟨Op,On,T,ks,hO,hd,hp,hn,hl,hc⟩:=hr.ex;have lH:=hp;rw[hs] at lH;refine⟨25,_,_,rfl,enters_of Tryz.func25 (by kernel_rfl) rfl,(abW b Op t ts T _ W1 lH).mono ?_⟩
 rintro e w ⟨hb,⟨h0,rfl⟩ | ⟨h0,v,rfl,hm⟩⟩
 ·exact⟨ax.af hb,.inl ⟨s,O1,rfl,⟨Op,On,T,ks,hO,hd,hp.below hb,hn.below hb,hl,hc⟩,Ext.refl _ _,hk h0⟩⟩
 ·exact⟨ax.af hb,.inr ⟨_,v,rfl,hm,he h0⟩⟩
def JB (b n:Nat) (Op On:Nat→Prop) (x:Nd) (t:ak) (ts:List ak) (T:List Nd) (w:World) (e:Ending) (w':World):Prop :=
 ax (fun k=>k=b∨k=n) w w'∧((t.1=1∧e=.returned .nilIface∧PS w' b Op ts T∧NU w' b n On { x with s:=bx t.2.2.2})∨(t.1≠1∧∃v,e=.returned v∧Uj w.heap.size w' v t.2.1))
theorem Uq (b n:Nat) (Op On:Nat→Prop) (x:Nd) (t:ak) (ts:List ak) (T:List Nd) (w:World) (h:PS w b Op (t::ts) T) (hn:NU w b n On x) (hd :∀k,Op k→¬ On k) :
  Calls Tryz.prog 102 #[.pointer (some ⟨b,0,none⟩),.pointer (some ⟨n,0,none⟩)] w (JB b n Op On x t ts T w):=by
 have HA:=aa (Ea b Op t ts T w h);have HN:=aa hn;have HP:=aa h;have hne :∀k,On k→¬ k=b:=fun k hk e=>hd b h.at_ (e▸hk)
 have AT:=(hn.own n hn.at_);have HNE:=aa hne;have HD:=aa hd;clear h hn hne hd;go_enter Tryz.func102,Tryz.ntmps102
 go_wp2_with fail
 refine HA.out.mono ?_;rintro e w1 ⟨f1,h1⟩;have F1:=aa f1;have n1:=HN.out.kept f1 HNE.out;have N1:=aa n1;obtain⟨nv,kv,hc,_,hz⟩:=n1.cells;have c4:=hc.c4;have z4:=hz 4;have jd:n<w1.heap.size:=(n1.own n n1.at_).2;clear hc hz n1;rcases h1 with ⟨g0,rfl,p1⟩ | ⟨g0,er,rfl,m⟩
 ·have P1:=aa p1
  clear p1 f1;go_wp2_with fail
  go_ret
  refine⟨(F1.out.mono fun k hk=>.inl hk).trans (N1.out.fr 4 _) (fun k hk=>.inl (.inr hk)),.inl ⟨g0,rfl,?_,N1.out.qO 4 _ rfl rfl fun _ _=>rfl⟩⟩
  exact P1.out.kept (O1:=(· = n)) (N1.out.fr 4 _) (fun k hk e=>HD.out k hk (e▸HN.out.at_)) fun k e=>by omega
 ·have M:=aa m
  clear m f1;go_wp2_with fail
  go_ret
  refine⟨(F1.out.mono fun k hk=>.inl hk).trans (N1.out.fr 4 _) (fun k hk=>.inl (.inr hk)),.inr ⟨g0,_,rfl,?_⟩⟩
  obtain⟨g,e1,e2,e3⟩:=M.out;exact⟨g,e1,e2,(Below.heap_setCell _ _ _ g (by show g≠n;omega)).trans e3⟩
theorem im (W:World) (b:Nat) (O:Nat→Prop):eH W b O (ba 102 b) cV:=by
 rintro W1 O1 T0 s n K E _ _ hr ⟨t,ts,hs,hk,he⟩;obtain⟨Op,On,T,ks,hO,hd,hp,hn,hl,hc⟩:=hr.ex;have lH:=hp;rw[hs] at lH;refine⟨102,_,_,rfl,enters_of Tryz.func102 (by kernel_rfl) rfl,(Uq b n Op On _ t ts T W1 lH hn hd).mono ?_⟩
 rintro e w ⟨hf,⟨h0,rfl,p1,n1⟩ | ⟨h0,v,rfl,hm⟩⟩
 ·exact⟨hf.mono fun k hk=>(hO k).2 (hk.elim (fun e=>.inl (e▸hp.at_)) fun e=>.inr (e▸hn.at_)),.inl ⟨{ s with h:={ s.h with s:=bx t.2.2.2},ts:=ts},O1,rfl,⟨Op,On,T,ks,hO,hd,p1,n1,hl,hc⟩,Ext.refl _ _,hk h0⟩⟩
 ·exact⟨hf.mono fun k hk=>(hO k).2 (hk.elim (fun e=>.inl (e▸hp.at_)) fun e=>.inr (e▸hn.at_)),.inr ⟨_,v,rfl,hm,he h0⟩⟩
theorem bj.count {T:List Nd} :∀(xs:List Ast) (ks:List Int) (js:List Nat),bj T xs ks js→ks.length=xs.length
 | [],ks,js,h=>by
  unfold bj at h;rw[h.1];rfl
 | a::xs,ks,js,h=>by
  unfold bj at h;obtain⟨k,gX,j1,j2,rfl,_,h2,_⟩:=h;rw[List.length_cons,List.length_cons,bj.count xs gX j2 h2]
theorem bC {W:World} {B e s n:Nat} {v:Value} {xs:List Value} (h:W.ownsRow B e s v n xs) :∃A c,v=.slice A n c∧n≤c:=by
 rcases h.2 with ⟨rfl,rfl⟩ | ⟨g,cap,cur,rfl,_,_,hc,_⟩
 ·exact⟨none,0,rfl,ah _⟩
 ·exact⟨_,_,rfl,hc⟩
theorem Ur (b n:Nat) (On:Nat→Prop) (x:Nd) (w:World) (hn:NU w b n On x) :
  Calls Tryz.prog 139 #[.pointer (some ⟨n,0,none⟩)] w fun e w'=>e=.returned .nilIface∧NU w' b n On { x with num:=(x.kids.length:Int)}∧ax (· = n) w w':=by
 obtain⟨nv,kv,hc,hi,hz⟩:=hn.cells;obtain⟨A,c,rfl,hlc⟩:=bC hi.kids;have c3:=hc.c3;have c6:=hc.c6;have z3:=hz 3;have jd:n<w.heap.size:=(hn.own n hn.at_).2;have HN:=aa hn;clear hn hi hc hz;go_enter Tryz.func139,Tryz.ntmps139
 go_wp2_with fail
 go_ret
 exact⟨rfl,HN.out.qO 3 _ rfl rfl fun _ _=>rfl,HN.out.fr 3 _⟩
theorem jP (W:World) (b:Nat) (O:Nat→Prop):eH W b O (.func (.func 139) #[] #[]) eo:=by
 rintro W1 O1 T0 s n K E _ _ hr hk;obtain⟨Op,On,T,ks,hO,hd,hp,hn,hl,hc⟩:=hr.ex;refine⟨139,_,_,rfl,enters_of Tryz.func139 (by kernel_rfl) rfl,(Ur b n On _ W1 hn).mono ?_⟩
 rintro e w ⟨rfl,n1,hf⟩;have KF:ks.length=s.xs.length:=by
  obtain⟨_,js,hj,_⟩:=hl;exact hj.count
 refine⟨hf.mono fun k hk=>(hO k).2 (.inr (hk▸hn.at_)),.inl ⟨{ s with h:={ s.h with num:=(s.xs.length:Int)}},O1,rfl,⟨Op,On,T,ks,hO,hd,?_,?_,hl,hc⟩,Ext.refl _ _,hk⟩⟩
 ·exact hp.kept hf (fun k hk e=>hd k hk (e▸hn.at_)) fun k e=>by have:=(hn.own n hn.at_).1;omega
 ·rw[←KF]
  exact n1
def jQ (W:World) (b:Nat) (O:Nat→Prop):List Value→List bW→Prop
 | [],[]=>True
 | v::vs,wp::cO=>eH W b O v wp∧jQ W b O vs cO
 | _,_=>False
theorem jQ.later {W W':World} {b:Nat} {O O':Nat→Prop} (hf:ax O W W') (he:Ext O O' W) :∀{vs:List Value} {cO:List bW},jQ W b O vs cO→jQ W' b O' vs cO
 | [],[],_=>trivial
 | _::_,_::_,h=>⟨h.1.later hf he,jQ.later hf he h.2⟩
theorem jQ.get {W:World} {b:Nat} {O:Nat→Prop} :∀{vs:List Value} {cO:List bW},jQ W b O vs cO→∀(j:Nat) (x:Value),vs[j]? = some x→∃y,cO[j]? = some y∧eH W b O x y
 | [],[],_,j,x,h=>by simp at h
 | a::_,c::_,h,j,x,hj=>by
  cases j with
  | zero =>
   obtain rfl:a=x:=by simpa using hj
   exact⟨c,rfl,h.1⟩
  | succ j=>exact jQ.get h.2 j x (by simpa using hj)
theorem jQ.len {W:World} {b:Nat} {O:Nat→Prop} :∀{vs:List Value} {cO:List bW},jQ W b O vs cO→vs.length=cO.length
 | [],[],_=>rfl
 | _::_,_::_,h=>by rw[List.length_cons,List.length_cons,jQ.len h.2]
structure aM (W:World) (b:Nat) (O:Nat→Prop) (v:Value) (cO:List bW):Prop where
 ex :∃vs,Uk W O v vs∧jQ W b O vs cO
theorem aM.later {W W':World} {b:Nat} {O O':Nat→Prop} {v:Value} {cO:List bW} (h:aM W b O v cO) (hf:ax O W W') (he:Ext O O' W):aM W' b O' v cO:=by
 obtain⟨vs,h1,h2⟩:=h.ex;exact⟨vs,h1.later hf he,h2.later hf he⟩
theorem aM.at_ {W W1:World} {b n:Nat} {O O1:Nat→Prop} {vs:List Value} {cO:List bW} {T0:List Nd} {s:St} {K:St→Prop} {E:Int→Prop} (h:jQ W b O vs cO) {j:Nat} (hj:j<vs.length)
  (hf:ax O W W1) (he:Ext O O1 W) (hr:Real W1 b n O1 T0 s) (hk:aJ (cO.drop j) s K E) :
  ∃f first cap,vs[j]? = some (.func (.func f) first cap)∧Enters Tryz.prog f∧Calls Tryz.prog f (first++#[.pointer (some ⟨n,0,none⟩)]++cap) W1 (bB b n O1 T0 (fun s'=>aJ (cO.drop (j+1)) s' K E) E W1):=by
 obtain⟨wp,hw,hp⟩:=jQ.get h j vs[j] (bG hj);have hd:cO.drop j=wp::cO.drop (j+1):=by
  obtain⟨hl,e⟩:=aK.1 hw;rw[pR hl,e]
 rw[hd] at hk;obtain⟨f,first,cap,e,h1,h2⟩:=hp W1 O1 T0 s n _ E hf he hr hk
 exact⟨f,first,cap,by rw[bG hj,e],h1,h2⟩
theorem vn (b n:Nat) (O:Nat→Prop) (T0:List Nd) (s:St) (K:St→Prop) (E:Int→Prop) (pv:Value) (cO:List bW) (w:World) (hr:Real w b n O T0 s) (hp:aM w b O pv cO) (hk:aJ cO s K E) :
  Calls Tryz.prog 50 #[.pointer (some ⟨n,0,none⟩),pv] w (bB b n O T0 K E w):=by
 obtain⟨vs,hfn,hall⟩:=hp.ex;have hlen:=hall.len;have hP :∃A,pv=.slice A vs.length vs.length∧vs.length≤100∧∀(W1:World) (O1:Nat→Prop),ax O w W1→Ext O O1 w→∀(j:Nat) v,vs[j]? = some v→∃g,A=some ⟨g,0,none⟩∧W1.cell? ⟨g,j,none⟩=some v:=by
  rcases hfn with ⟨rfl,rfl⟩ | ⟨g,rfl,h2,h3,h4⟩
  ·exact⟨none,rfl,by simp,fun W1 O1 _ _ j v h=>by simp at h⟩
  ·refine⟨_,rfl,h4,fun W1 O1 hf he j v hj=>⟨g,rfl,?_⟩⟩
   have:=hf.block g (aO.1 h2).1 h3;rw[h2] at this;simp[World.cell?,this,hj]
 obtain⟨A,rfl,aaU,hcell⟩:=hP;have HC:=aa hcell;have HA:=aa hall;have HR:=aa hr;have HK:=aa hk;have HL:=aa hlen;clear hfn hp hcell hall hr hk hlen;go_enter Tryz.func50,Tryz.ntmps50
 go_wp2_with fail
 go_loopg [10] vs.length (fun z jv wr=>∃(j:Nat) (O1:Nat→Prop) (s1:St),jv=.int .i64 (j:Int)∧j≤vs.length∧vs.length-j≤z∧Real wr b n O1 T0 s1∧ax O w wr∧Ext O O1 w∧aJ (cO.drop j) s1 K E)
 case atStart=>exact⟨0,O,s,rfl,bo _,ah _,HR.out,ax.refl _ _,Ext.refl _ _,HK.out⟩
 case round =>
  obtain⟨j,O1,s1,rfl,hj,hz,hr1,kQ,qp,iR⟩:=hrel;have nm:=aa hr1;have fB:=aa kQ;have oY:=aa qp;have RH:=aa iR;clear hr1 kQ qp iR;by_cases hlt:j<vs.length
  ·obtain⟨f,first,cap,hv,pE,bs⟩:=aM.at_ HA.out hlt fB.out oY.out nm.out RH.out
   obtain⟨g,rfl,hc⟩:=HC.out wr O1 fB.out oY.out j _ hv;rw[show first++#[Value.pointer (some ⟨n,0,none⟩)]=first.push (.pointer (some ⟨n,0,none⟩)) from by simp] at bs
   have dY:=aa bs;clear bs hv;unfold Enters at pE;go_wp2_with fail
   refine dY.out.mono ?_;rintro e w2 ⟨f2,hs⟩;have F2:=aa (fB.out.trans f2 oY.out);rcases hs with ⟨s2,O2,rfl,r2,x2,k2⟩ | ⟨l,v,rfl,m2,e2⟩
   ·have R2:=aa r2
    have X2:=aa (oY.out.trans x2 fB.out.size);have K2:=aa k2;clear f2 r2 x2 k2;go_wp2_with fail
    go_roundg (vs.length-(j+1))
    case measure=>omega
    case rel=>exact⟨j+1,O2,s2,by go_num,by omega,ah _,R2.out,F2.out,X2.out,K2.out⟩
   ·obtain⟨g',rfl,hg1,hg2⟩:=m2
    have M2:=aa hg2;have HG:=aa (aL fB.out.size hg1);have E2:=aa e2;clear f2 hg1 hg2 e2;go_wp2_with fail
    go_ret
    exact⟨F2.out,.inr ⟨l,_,rfl,⟨g',rfl,HG.out,M2.out⟩,E2.out⟩⟩
  ·obtain rfl:j=vs.length:=by omega
   go_wp2_with fail
   go_ret
   have hk:=RH.out;rw[mr (by rw[HL.out];exact ah _)] at hk
   exact⟨fB.out,.inl ⟨s1,O1,rfl,nm.out,oY.out,hk⟩⟩
end Go.Proofs.YtodmcdfeldkocaaGreatDoor
