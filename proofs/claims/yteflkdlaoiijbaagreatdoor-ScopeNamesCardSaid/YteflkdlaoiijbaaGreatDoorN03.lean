/- Parts of the proof. -/
import Derived.Lib.AppendStr
import Derived.Laws.Append
import Derived.Laws.MakeOwn
import Derived.OneCell
import Derived.Test.YteflkdlaoiijbaaGreatDoorN02
set_option maxHeartbeats 16000000
set_option maxRecDepth 20000
namespace Go.Proofs.YteflkdlaoiijbaaGreatDoor
open Go.RowKit
theorem Ar (l:List UInt8) (i:Nat):l.take i=l.take (min i l.length):=by
 by_cases h:i≤l.length
 ·rw[Eg h]
 ·rw[Nat.min_eq_right (by omega),tG (by omega),tG (ah _)]
theorem Lj:mT []=false:=by decide
theorem Lk {l:List UInt8} {j i:Nat} (h :∀m,j<m→m≤min 3 l.length→mT (l.take m)=false) (hi:i≤3) (hj:j<min i l.length):mT (l.take i)=false:=by
 rw[Ar];exact h _ hj (by omega)
theorem GQ {l:List UInt8} (h :∀m,0<m→m≤min 3 l.length→mT (l.take m)=false):sign l=none:=by
 have h' :∀i,i≤3→mT (l.take i)=false:=fun i hi=>by
  by_cases h0:0<min i l.length
  ·exact Lk h hi h0
  ·rw[Ar,show min i l.length=0 by omega]
   exact Lj
 unfold sign;rw[h' 3 (by omega),h' 2 (by omega),h' 1 (by omega)]
 rfl
theorem GR {l:List UInt8} {j:Nat} (h :∀m,j<m→m≤min 3 l.length→mT (l.take m)=false) (h0:0<j) (hj:j≤min 3 l.length) (hs:mT (l.take j)=true):sign l=some (l.take j,l.drop j):=by
 have big :∀i,j<i→i≤3→mT (l.take i)=true→l.take i=l.take j∧l.drop i=l.drop j:=fun i h1 h2 h3=>by
  by_cases hl:j<l.length
  ·rw[Lk h h2 (by omega)] at h3
   cases h3
  ·have e:l.length=j:=by omega
   rw[tG (by omega),tG (by omega),J9 (by omega),J9 (by omega)]
   exact⟨rfl,rfl⟩
 unfold sign;cases e3:mT (l.take 3)
 ·cases e2:mT (l.take 2)
  ·have:j=1:=by
    rcases(show j=1∨j=2∨j=3 by omega) with rfl|rfl|rfl
    ·rfl
    ·rw[hs] at e2;cases e2
    ·rw[hs] at e3;cases e3
   subst this;rw[hs];rfl
  ·by_cases h2:j=2
   ·subst h2;rfl
   ·by_cases h3:j=3
    ·subst h3;rw[hs] at e3;cases e3
    ·obtain⟨a,b⟩:=big 2 (by omega) (by omega) e2
     simp only[Kh,if_false,if_true];rw[a,b]
 ·by_cases h3:j=3
  ·subst h3;rfl
  ·obtain⟨a,b⟩:=big 3 (by omega) (by omega) e3
   simp only[if_true];rw[a,b]
theorem Ll (b:Nat) (s:ByteArray) (k:Nat) (w:World) (h:Rd w b s k):Calls Tryz.prog 82 #[.pointer (some ⟨b,0,none⟩)] w (jA b s k w (sign (aS s k))):=by
 have b9:=h.top;have hle:=h.le;have HR:=aa h;clear h;obtain⟨Y,hY⟩ :∃Y:ByteArray,Y=s.extract k s.size:=⟨_,rfl⟩;have C1:=aa (fun W h=>aA b s k W h)
 rw[←hY] at C1;have vH:Y.size=s.size-k:=by rw[hY,aD s k hle]
 have Rj:Y.data.toList=aS s k:=by rw[hY,cR]
 have HYl:=aa Rj;have S1:=aa (fun(n:Nat) W=>CP (Y.extract 0 n) W)
 obtain⟨M,hM⟩ :∃M:Nat,M=min 3 Y.size:=⟨_,rfl⟩;have hMi:min (3:Int) (Y.size:Int)=(M:Int):=by omega
 have hMl:M≤Y.size:=by omega
 have hM3:M≤3:=by omega
 have aaq:M=min 3 (aS s k).length:=by rw[hM,←Rj,←Lib.size_eq]
 have WW:=aa aaq;have hYk:k+Y.size≤s.size:=by omega
 clear hY vH Rj hM aaq;go_enter Tryz.func82,Tryz.ntmps82
 go_wp2_with fail
 refine(C1.out _ HR.out).mono ?_;rintro e w1 ⟨rfl,r1,k1⟩;have R1:=aa r1;have K1:=aa k1;clear r1 k1;go_wp2_with fail
 clear hMi;go_loop [5] (fun i=>∃n:Nat,n≤M∧i=.int .i64 n∧∀m,n<m→m≤M→mT ((aS s k).take m)=false) (fun i=>(intOf i).toNat)
 case atStart=>exact⟨M,ah _,rfl,fun m h1 h2=>by omega⟩
 case round =>
  obtain⟨n,hn,rfl,hall⟩:=hrel;have HA:=aa hall;clear hall;by_cases mz:0<n
  ·have EG:(Y.extract 0 n).data.toList=(aS s k).take n:=by
    rw[←HYl.out,J8];simp
   have S2:=aa (fun W=>S1.out n W)
   cases e:mT ((aS s k).take n)
   ·rw[EG,e] at S2
    have HE:=aa e;clear e EG;go_wp2_with (go_at_call 141;refine(S2.out _).mono ?_;rintro e w' ⟨rfl,rfl⟩)
    go_round
    case rel=>exact⟨n-1,by omega,by go_num,fun m h1 h2=>by
     by_cases hm:m=n
     ·rw[hm];exact HE.out
     ·exact HA.out m (by omega) h2⟩
    case measure=>simp[intOf];omega
   ·rw[EG,e] at S2
    have HS:=aa (GR (l:=aS s k) (j:=n) (by rw[←WW.out];exact HA.out) mz (by rw[←WW.out];exact hn) e)
    have T1:=aa (fun W h=>bo b s k n W h (by omega))
    clear e EG;go_wp2_with (first
     | (go_at_call 141;refine(S2.out _).mono ?_;rintro e w' ⟨rfl,rfl⟩)
     | (go_at_call 67;refine(T1.out _ R1.out).mono ?_;rintro e w2 ⟨rfl,r2,k2⟩))
    go_ret2
    refine⟨K1.out.trans k2,?_⟩;rw[HS.out];exact⟨k+n,by rw[←eK];rfl,r2,by rw[eJ],by omega⟩
  ·have hn0:n=0:=by omega
   have HS:=aa (GQ (l:=aS s k) (by rw[←WW.out,←hn0];exact HA.out))
   subst hn0;go_wp2_with fail
   go_ret2
   refine⟨K1.out,?_⟩;rw[HS.out];rfl
theorem GS (b:Nat) (s:ByteArray) (k:Nat) (w:World) (h:Rd w b s k):Calls Tryz.prog 74 #[.pointer (some ⟨b,0,none⟩)] w fun e w' =>
  e=.returned (.tuple #[.int .i64 (if gA ((aS s k).takeWhile jZ) then 2 else 1),.string ⟨((aS s k).takeWhile jZ).toArray⟩])∧Rd w' b s (k+runN jZ (aS s k))∧Kp b w w':=by
 have b9:=h.top;have hle:=h.le;have HR:=aa h;clear h;obtain⟨m,hm⟩ :∃m:Nat,m=runN jZ (aS s k):=⟨_,rfl⟩;have C1:=aa (fun W=>KW (s.extract k s.size) W (by rw[aD s _ hle];omega))
 rw[cR,←hm] at C1;have zq:=gZ jZ (aS s k);rw[fK,←hm] at zq;rw[←hm];obtain⟨X,hX⟩ :∃X:ByteArray,X=⟨((aS s k).takeWhile jZ).toArray⟩:=⟨_,rfl⟩;have ra:s.extract k (k+m)=X:=by
  rw[hX];apply QY;rw[eK,hm,pX]
 have T1:=aa (fun W h=>bo b s k m W h (by omega))
 rw[ra] at T1;have W1:=aa (fun W=>Li X W)
 rw[show X.data.toList=(aS s k).takeWhile jZ by rw[hX]] at W1
 rw[←hX];obtain⟨o,ho⟩ :∃o:Bool,o=gA ((aS s k).takeWhile jZ):=⟨_,rfl⟩;rw[←ho] at W1 ⊢;clear hm hX ra ho;cases o
 ·go_enter Tryz.func74,Tryz.ntmps74
  go_wp2_with fail
  refine(aA _ _ _ _ HR.out).mono ?_;rintro e w1 ⟨rfl,r1,k1⟩;have R1:=aa r1;have K1:=aa k1;clear r1 k1;go_wp2_with fail
  refine(C1.out _).mono ?_;rintro e Cl ⟨rfl,rfl⟩;go_wp2_with fail
  refine(T1.out _ R1.out).mono ?_;rintro e w2 ⟨rfl,r2,k2⟩;have R2:=aa r2;have K2:=an K1 k2;clear r2 k2;go_wp2_with (go_at_call 135;refine(W1.out _).mono ?_;rintro e w' ⟨rfl,rfl⟩)
  go_ret2
  exact⟨rfl,R2.out,K2.out⟩
 ·go_enter Tryz.func74,Tryz.ntmps74
  go_wp2_with fail
  refine(aA _ _ _ _ HR.out).mono ?_;rintro e w1 ⟨rfl,r1,k1⟩;have R1:=aa r1;have K1:=aa k1;clear r1 k1;go_wp2_with fail
  refine(C1.out _).mono ?_;rintro e Cl ⟨rfl,rfl⟩;go_wp2_with fail
  refine(T1.out _ R1.out).mono ?_;rintro e w2 ⟨rfl,r2,k2⟩;have R2:=aa r2;have K2:=an K1 k2;clear r2 k2;go_wp2_with (go_at_call 135;refine(W1.out _).mono ?_;rintro e w' ⟨rfl,rfl⟩)
  go_ret2
  exact⟨rfl,R2.out,K2.out⟩
def Tb (W:World) (g:Nat) (a b c d:Value):Prop:=W.heap[g]? = some (.cells #[a,b,c,d] 113 (0,0))
theorem Tb.kp {W W':World} {g b:Nat} {x y z u:Value} (h:Tb W g x y z u) (hk:Kp b W W') (hne:g≠b):Tb W' g x y z u :=
 (hk.block g (aI.1 h).1 (by simpa using hne)).trans h
theorem Tb.new (w:World) (x y z u:Value):Tb (w.alloc (.cells #[x,y,z,u] 113)) w.heap.size x y z u:=World.alloc_heap_new w _
theorem Tb.alloc {W:World} {g:Nat} {x y z u:Value} (h:Tb W g x y z u) (o:Obj):Tb (W.alloc o) g x y z u:=(Below.heap_alloc W o g (aI.1 h).1).trans h
theorem Tb.cells {W:World} {g:Nat} {x y z u:Value} (h:Tb W g x y z u):W.cell? ⟨g,0,none⟩=some x∧W.cell? ⟨g,1,none⟩=some y∧W.cell? ⟨g,2,none⟩=some z∧W.cell? ⟨g,3,none⟩=some u:=by
 have h':W.heap[g]? = some (.cells #[x,y,z,u] 113 (0,0)):=h;refine⟨?_,?_,?_,?_⟩<;>simp[World.cell?,h']
theorem Tb.frozen {W:World} {g:Nat} {x y z u:Value} (h:Tb W g x y z u):W.frozen? ⟨g,0,none⟩=false∧W.frozen? ⟨g,1,none⟩=false∧W.frozen? ⟨g,2,none⟩=false∧W.frozen? ⟨g,3,none⟩=false:=by
 have h':W.heap[g]? = some (.cells #[x,y,z,u] 113 (0,0)):=h;refine⟨?_,?_,?_,?_⟩<;>simp[World.frozen?,h']
def j4 (b:Nat) (s:ByteArray) (k:Nat) (w:World) (e:Ending) (w':World):Prop :=
 Kp b w w'∧((∃(kd n:Int) (t:List UInt8) (k':Nat),e=.returned (.tuple #[.agg #[.int .i64 kd,.int .i64 (cY s-nl (aS s k)),.int .i64 n,.string ⟨t.toArray⟩],.nilIface])∧Rd w' b s k'∧k≤k'∧(kd≠0→k<k')∧(kd=0→aS s k=[])∧Tok (aS s k) (some (kd,n,t,aS s k'))) ∨
  (∃v,e=.returned (.tuple #[.agg #[.int .i64 0,.int .i64 0,.int .i64 0,.string ⟨#[]⟩],v])∧Am w' v (cY s-nl (aS s k))∧Tok (aS s k) none))
theorem Kp.bF {b:Nat} {w W:World} (h:Kp b w W) {g:Nat} (hg:w.heap.size≤g) (o:Nat) (v:Value):Kp b w (W.setCell ⟨g,o,none⟩ v) :=
 h.below ((Below.refl _ _).setCell (p:=⟨g,o,none⟩) hg v)
theorem Rd.bF {W:World} {b:Nat} {s:ByteArray} {k:Nat} (h:Rd W b s k) {g:Nat} (hg:b<g) (o:Nat) (v:Value):Rd (W.setCell ⟨g,o,none⟩ v) b s k :=
 h.yn ((Below.refl g _).setCell (p:=⟨g,o,none⟩) (ah _) v) hg
abbrev GU:Obj:=.cells #[.int .i64 0,.int .i64 0,.int .i64 0,.string ⟨#[]⟩] 113
abbrev Rk (n:Int):Obj:=.cells #[.int .i64 0,.int .i64 n,.int .i64 0,.string ⟨#[]⟩] 113
theorem jC (b:Nat) (s:ByteArray) (k:Nat) (w:World) (n:Int) (h:Rd w b s k):Rd ((w.alloc GU).alloc (Rk n)) b s k∧Kp b w ((w.alloc GU).alloc (Rk n)) ∧
  Tb ((w.alloc GU).alloc (Rk n)) w.heap.size (.int .i64 0) (.int .i64 0) (.int .i64 0) (.string ⟨#[]⟩)∧Tb ((w.alloc GU).alloc (Rk n)) (w.heap.size+1) (.int .i64 0) (.int .i64 n) (.int .i64 0) (.string ⟨#[]⟩):=by
 refine⟨(h.alloc _).alloc _,((Kp.refl _ _).alloc _).alloc _,(Tb.new w _ _ _ _).alloc _,?_⟩;have:=Tb.new (w.alloc GU) (.int .i64 0) (.int .i64 n) (.int .i64 0) (.string ⟨#[]⟩);rwa[show(w.alloc GU).heap.size=w.heap.size+1 by simp] at this
theorem Kp.gQ {b:Nat} {w W:World} (h:Kp b w W) {g:Nat} (hg:w.heap.size≤g) (x y z u:Value):Kp b w ((((W.setCell ⟨g,0,none⟩ x).setCell ⟨g,1,none⟩ y).setCell ⟨g,2,none⟩ z).setCell ⟨g,3,none⟩ u) :=
 (((h.bF hg 0 x).bF hg 1 y).bF hg 2 z).bF hg 3 u
theorem Rd.gQ {W:World} {b:Nat} {s:ByteArray} {k:Nat} (h:Rd W b s k) {g:Nat} (hg:b<g) (x y z u:Value):Rd ((((W.setCell ⟨g,0,none⟩ x).setCell ⟨g,1,none⟩ y).setCell ⟨g,2,none⟩ z).setCell ⟨g,3,none⟩ u) b s k :=
 (((h.bF hg 0 x).bF hg 1 y).bF hg 2 z).bF hg 3 u
theorem Tb.setOther {W:World} {g:Nat} {x y z u:Value} (h:Tb W g x y z u) {g':Nat} (hne:g≠g') (o:Nat) (v:Value):Tb (W.setCell ⟨g',o,none⟩ v) g x y z u :=
 (Below.heap_setCell _ _ _ g hne).trans h
theorem Tb.gQ {W:World} {g:Nat} {x y z u:Value} (h:Tb W g x y z u) (x' y' z' u':Value):Tb ((((W.setCell ⟨g,0,none⟩ x').setCell ⟨g,1,none⟩ y').setCell ⟨g,2,none⟩ z').setCell ⟨g,3,none⟩ u') g x' y' z' u':=by
 have key :∀(W:World) (a b c d v:Value) (o:Nat),W.heap[g]? = some (.cells #[a,b,c,d] 113 (0,0))→(W.setCell ⟨g,o,none⟩ v).heap[g]? = some (.cells (#[a,b,c,d].setIfInBounds o v) 113 (0,0)):=by
  intro W a b c d v o h;obtain⟨hlt,hk⟩:=aI.1 h;show(W.heap.modify g _)[g]? = _
  rw[wj (by rw[zI];exact hlt),zB,hk]
  rfl
 have h0:=key W x y z u x' 0 h;have h1:=key _ x' y z u y' 1 h0;have h2:=key _ x' y' z u z' 2 h1;exact key _ x' y' z' u u' 3 h2
theorem Am.yo (w:World) (n:Int) (g:Nat) (hg:g=w.heap.size):Am (w.alloc (.cells #[.int .i64 n,.iface 79 (.int .i64 5)] 85)) (.iface 83 (.pointer (some ⟨g,0,none⟩))) n:=by
 subst hg;exact Am.new w n
theorem Tb.lt {W:World} {g:Nat} {x y z u:Value} (h:Tb W g x y z u):g<W.heap.size:=(aI.1 (show W.heap[g]? = _ from h)).1
theorem Tb.Lm {W:World} {g:Nat} {x y z u:Value} (h:Tb W g x y z u) (v:Value):Tb (W.setCell ⟨g,0,none⟩ v) g v y z u:=by
 obtain⟨hlt,hk⟩:=aI.1 (show W.heap[g]? = _ from h)
 show(W.heap.modify g _)[g]? = _
 rw[wj (by rw[zI];exact hlt),zB,hk]
 rfl
theorem GV (b:Nat) (s:ByteArray) (k:Nat) (w:World) (h:Rd w b s k) (hk:k=s.size):Calls Tryz.prog 33 #[.pointer (some ⟨b,0,none⟩)] w (j4 b s k w):=by
 have iK:=h.lt;have b9:=h.top;have c2:=(h.alloc (.cells #[.int .i64 0,.int .i64 0,.int .i64 0,.string ⟨#[]⟩] 113)).c2;rw[jj] at c2;obtain⟨n,hn⟩ :∃n:Int,n=cY s-nl (aS s k):=⟨_,rfl⟩;rw[←hn] at c2;obtain⟨Y,hY⟩ :∃Y:ByteArray,Y=s.extract k s.size:=⟨_,rfl⟩;have C1:=aa (fun W h=>aA b s k W h)
 rw[←hY] at C1;have UM:=uh Y (by rw[hY,aD s k (by omega)];omega)
 have HR:=aa h;have HN:=aa hn;clear hY h hn;have HL:=aa (jC b s k w n HR.out);go_enter Tryz.func33,Tryz.ntmps33
 go_wp2_with fail
 refine(C1.out _ HL.out.1).mono ?_;rintro e w1 ⟨rfl,r1,k1⟩;have R1:=aa r1;have K1:=aa (HL.out.2.1.trans k1);have T0:=aa (HL.out.2.2.1.kp k1 (by omega))
 have T1:=aa (HL.out.2.2.2.kp k1 (by omega))
 clear r1 k1 c2;obtain⟨a0,a1,a2,a3⟩:=T0.out.cells;obtain⟨f0,f1,f2,f3⟩:=T0.out.frozen;obtain⟨b0,b1,b2,b3⟩:=T1.out.cells;obtain⟨g0,g1,g2,g3⟩:=T1.out.frozen;go_wp2_with fail
 clear a0 a1 a2 a3 f0 f1 f2 f3 b0 b1 b2 b3 g0 g1 g2 g3;obtain⟨d0,d1,d2,d3⟩:=((T0.out.setOther (g':=w.heap.size+1) (by omega) 0 (.int .i64 0)).gQ (.int .i64 0) (.int .i64 n) (.int .i64 0) (.string ⟨#[]⟩)).cells
 refine bodyPost_ret (v:=.tuple #[.agg #[.int .i64 0,.int .i64 n,.int .i64 0,.string ⟨#[]⟩],.nilIface]) (by simp[results,Tryz.results33,go_sem,d0,d1,d2,d3]) rfl ?_
 refine⟨(K1.out.bF (by omega) _ _).gQ (ah _) _ _ _ _,.inl ⟨0,0,[],k,by rw[←HN.out],(R1.out.bF (by omega) _ _).gQ iK _ _ _ _,ah _,fun h=>absurd rfl h,fun _=>tj s k (by omega),?_⟩⟩
 rw[tj s k (by omega)]
 exact .eof
theorem CQ (b:Nat) (s:ByteArray) (k:Nat) (w:World) (h:Rd w b s k) (hk:k<s.size) (c:UInt8) (hc:s[k]=c) (hl:si c=true):Calls Tryz.prog 33 #[.pointer (some ⟨b,0,none⟩)] w (j4 b s k w):=by
 have iK:=h.lt;have b9:=h.top;have c2:=(h.alloc (.cells #[.int .i64 0,.int .i64 0,.int .i64 0,.string ⟨#[]⟩] 113)).c2;rw[jj] at c2;obtain⟨n,hn⟩ :∃n:Int,n=cY s-nl (aS s k):=⟨_,rfl⟩;rw[←hn] at c2;obtain⟨Y,hY⟩ :∃Y:ByteArray,Y=s.extract k s.size:=⟨_,rfl⟩;have C1:=aa (fun W h=>aA b s k W h)
 rw[←hY] at C1;have vH:0<Y.size:=by rw[hY,aD s k (by omega)];omega
 have hY0:Y[0]=c:=by subst hY;rw[aT s k hk vH];exact hc
 have UM:=bC Y vH;have cz:=iJ s k hk;rw[hc] at cz;have HC:=aa cz;have L1:=aa (fun W=>hH c true W hl)
 have N1:=aa (fun W h=>GS b s k W h)
 have hrun:1≤runN jZ (aS s k):=by
  rw[cz];unfold runN;rw[J4 (by unfold jZ;rw[hl];rfl),List.length_cons]
  omega
 have hT:=Tok.name (c:=c) (r:=aS s (k+1)) hl;rw[←cz,←pY,eJ] at hT;have qa:(if gA ((aS s k).takeWhile jZ) then (2:Int) else 1)≠0:=by split<;>decide
 generalize (if gA ((aS s k).takeWhile jZ) then (2:Int) else 1)=kd at *
 obtain⟨X,hX⟩ :∃X:ByteArray,X=⟨((aS s k).takeWhile jZ).toArray⟩:=⟨_,rfl⟩;rw[←hX] at N1;have HX:=aa hX;have HT:=aa hT;clear hX hT cz hl hc;have HR:=aa h;have HN:=aa hn;clear hY h hn;have HL:=aa (jC b s k w n HR.out);go_enter Tryz.func33,Tryz.ntmps33
 go_wp2_with fail
 refine(C1.out _ HL.out.1).mono ?_;rintro e w1 ⟨rfl,r1,k1⟩;have R1:=aa r1;have K1:=aa (HL.out.2.1.trans k1);have T0:=aa (HL.out.2.2.1.kp k1 (by omega))
 have T1:=aa (HL.out.2.2.2.kp k1 (by omega))
 clear r1 k1 c2;obtain⟨a0,a1,a2,a3⟩:=T0.out.cells;obtain⟨f0,f1,f2,f3⟩:=T0.out.frozen;obtain⟨b0,b1,b2,b3⟩:=T1.out.cells;obtain⟨g0,g1,g2,g3⟩:=T1.out.frozen;go_wp2_with (go_at_call 73;refine(L1.out _).mono ?_;rintro e w' ⟨rfl,rfl⟩)
 clear a0 a1 a2 a3 f0 f1 f2 f3 b0 b1 b2 b3 g0 g1 g2 g3;refine(N1.out _ R1.out).mono ?_;rintro e w2 ⟨rfl,r2,k2⟩;have R2:=aa r2;have K2:=an K1 k2;have nh:=aa (T0.out.kp k2 (by omega))
 have su:=aa (T1.out.kp k2 (by omega))
 clear r2 k2;obtain⟨a0,a1,a2,a3⟩:=nh.out.cells;obtain⟨f0,f1,f2,f3⟩:=nh.out.frozen;obtain⟨b0,b1,b2,b3⟩:=su.out.cells;obtain⟨g0,g1,g2,g3⟩:=su.out.frozen;go_wp2_with fail
 clear a0 a1 a2 a3 f0 f1 f2 f3 b0 b1 b2 b3 g0 g1 g2 g3;obtain⟨d0,d1,d2,d3⟩:=(((nh.out.setOther (g':=w.heap.size+1) (by omega) 0 (.int .i64 kd)).setOther (g':=w.heap.size+1) (by omega) 3 (.string X)).gQ (.int .i64 kd) (.int .i64 n) (.int .i64 0) (.string X)).cells
 refine bodyPost_ret (v:=.tuple #[.agg #[.int .i64 kd,.int .i64 n,.int .i64 0,.string X],.nilIface]) (by simp[results,Tryz.results33,go_sem,d0,d1,d2,d3]) rfl ?_
 exact⟨((K2.out.bF (by omega) _ _).bF (by omega) _ _).gQ (ah _) _ _ _ _,.inl ⟨kd,0,_,_,by rw[←HN.out,HX.out],((R2.out.bF (by omega) _ _).bF (by omega) _ _).gQ iK _ _ _ _,by omega,fun _=>by omega,fun e=>absurd e qa,HT.out⟩⟩
theorem GW (b:Nat) (s:ByteArray) (k:Nat) (w:World) (h:Rd w b s k) (hk:k<s.size) (c:UInt8) (hc:s[k]=c) (hl:si c=false) (hd:fQ c=true) (hno:oB 9223372036854775807 ((aS s k).takeWhile mJ)=true):Calls Tryz.prog 33 #[.pointer (some ⟨b,0,none⟩)] w (j4 b s k w):=by
 have iK:=h.lt;have b9:=h.top;have c2:=(h.alloc (.cells #[.int .i64 0,.int .i64 0,.int .i64 0,.string ⟨#[]⟩] 113)).c2;rw[jj] at c2;obtain⟨n,hn⟩ :∃n:Int,n=cY s-nl (aS s k):=⟨_,rfl⟩;rw[←hn] at c2;obtain⟨Y,hY⟩ :∃Y:ByteArray,Y=s.extract k s.size:=⟨_,rfl⟩;have C1:=aa (fun W h=>aA b s k W h)
 rw[←hY] at C1;have vH:0<Y.size:=by rw[hY,aD s k (by omega)];omega
 have hY0:Y[0]=c:=by subst hY;rw[aT s k hk vH];exact hc
 have UM:=bC Y vH;have cz:=iJ s k hk;rw[hc] at cz;have HC:=aa cz;have L1:=aa (fun W=>hH c false W hl)
 have L2:=aa (fun W=>fD c true W hd)
 obtain⟨m,hm⟩ :∃m:Nat,m=runN mJ (aS s k):=⟨_,rfl⟩;have U1:=aa (fun W=>ue Y W (by rw[hY,aD s _ (by omega)];omega))
 rw[show Y.data.toList=aS s k by rw[hY,cR],←hm] at U1
 have zq:=gZ mJ (aS s k);rw[fK,←hm] at zq;have hrun:1≤m:=by
  rw[hm,cz];unfold runN;rw[J4 (by unfold mJ jZ;rw[hd];simp),List.length_cons]
  omega
 obtain⟨X,hX⟩ :∃X:ByteArray,X=s.extract k (k+m):=⟨_,rfl⟩;have hXl:X.data.toList=(aS s k).takeWhile mJ:=by rw[hX,eK,hm,pX]
 have ew:X.size≤100000:=by rw[hX,tH];omega
 have V1:=aa (fun W h=>bo b s k m W h (by omega))
 rw[←hX] at V1;have M1:=aa (fun W=>Af X W (by omega))
 rw[hXl] at M1;rw[hno] at M1;have hT:=Tok.num (c:=c) (r:=aS s (k+1)) hl hd (by rw[←cz];exact hno)
 rw[←cz,←pY,eJ,←hm] at hT;obtain⟨N,hN⟩ :∃N:Int,N=wG (qY 9223372036854775807 ((aS s k).takeWhile mJ):Int):=⟨_,rfl⟩;rw[←hN] at M1 hT;have HT:=aa hT;clear hm hX hXl hT cz hl hd hno hc hN;have HR:=aa h;have HN:=aa hn;clear hY h hn;have HL:=aa (jC b s k w n HR.out);go_enter Tryz.func33,Tryz.ntmps33
 go_wp2_with fail
 refine(C1.out _ HL.out.1).mono ?_;rintro e w1 ⟨rfl,r1,k1⟩;have R1:=aa r1;have K1:=aa (HL.out.2.1.trans k1);have T0:=aa (HL.out.2.2.1.kp k1 (by omega))
 have T1:=aa (HL.out.2.2.2.kp k1 (by omega))
 clear r1 k1 c2;obtain⟨a0,a1,a2,a3⟩:=T0.out.cells;obtain⟨f0,f1,f2,f3⟩:=T0.out.frozen;obtain⟨b0,b1,b2,b3⟩:=T1.out.cells;obtain⟨g0,g1,g2,g3⟩:=T1.out.frozen;go_wp2_with (first
  | (go_at_call 73;refine(L1.out _).mono ?_;rintro e w' ⟨rfl,rfl⟩)
  | (go_at_call 75;refine(L2.out _).mono ?_;rintro e w' ⟨rfl,rfl⟩))
 clear a0 a1 a2 a3 f0 f1 f2 f3 b0 b1 b2 b3 g0 g1 g2 g3;have Rl:=aa (R1.out.bF (g:=w.heap.size+1) (by omega) 0 (.int .i64 3))
 have JP:=aa (K1.out.bF (g:=w.heap.size+1) (by omega) 0 (.int .i64 3))
 have JR:=aa (T0.out.setOther (g':=w.heap.size+1) (by omega) 0 (.int .i64 3))
 have JS:=aa (T1.out.Lm (.int .i64 3));generalize w1.setCell ⟨w.heap.size+1,0,none⟩ (.int .i64 3)=w1b at *;refine(U1.out _).mono ?_;rintro e Cl ⟨rfl,rfl⟩;go_wp2_with fail
 refine(V1.out _ Rl.out).mono ?_;rintro e w2 ⟨rfl,r2,k2⟩;have R2:=aa r2;have K2:=an JP k2;have nh:=aa (JR.out.kp k2 (by omega))
 have su:=aa (JS.out.kp k2 (by omega))
 clear r2 k2;go_wp2_with fail
 refine(M1.out _).mono ?_;rintro e KX ⟨rfl,rfl⟩;obtain⟨a0,a1,a2,a3⟩:=nh.out.cells;obtain⟨f0,f1,f2,f3⟩:=nh.out.frozen;obtain⟨b0,b1,b2,b3⟩:=su.out.cells;obtain⟨g0,g1,g2,g3⟩:=su.out.frozen;go_wp2_with fail
 clear a0 a1 a2 a3 f0 f1 f2 f3 b0 b1 b2 b3 g0 g1 g2 g3;obtain⟨d0,d1,d2,d3⟩:=((nh.out.setOther (g':=w.heap.size+1) (by omega) 2 (.int .i64 N)).gQ (.int .i64 3) (.int .i64 n) (.int .i64 N) (.string ⟨#[]⟩)).cells
 refine bodyPost_ret (v:=.tuple #[.agg #[.int .i64 3,.int .i64 n,.int .i64 N,.string ⟨#[]⟩],.nilIface]) (by simp[results,Tryz.results33,go_sem,d0,d1,d2,d3]) rfl ?_
 exact⟨(K2.out.bF (by omega) _ _).gQ (ah _) _ _ _ _,.inl ⟨3,N,_,_,by rw[←HN.out],(R2.out.bF (by omega) _ _).gQ iK _ _ _ _,by omega,fun _=>by omega,fun e=>absurd e (by decide),HT.out⟩⟩
theorem vP (b:Nat) (s:ByteArray) (k:Nat) (w:World) (h:Rd w b s k) (hk:k<s.size) (c:UInt8) (hc:s[k]=c) (hl:si c=false) (hd:fQ c=true) (hno:oB 9223372036854775807 ((aS s k).takeWhile mJ)=false):Calls Tryz.prog 33 #[.pointer (some ⟨b,0,none⟩)] w (j4 b s k w):=by
 have iK:=h.lt;have b9:=h.top;have c2:=(h.alloc (.cells #[.int .i64 0,.int .i64 0,.int .i64 0,.string ⟨#[]⟩] 113)).c2;rw[jj] at c2;obtain⟨n,hn⟩ :∃n:Int,n=cY s-nl (aS s k):=⟨_,rfl⟩;rw[←hn] at c2;obtain⟨Y,hY⟩ :∃Y:ByteArray,Y=s.extract k s.size:=⟨_,rfl⟩;have C1:=aa (fun W h=>aA b s k W h)
 rw[←hY] at C1;have vH:0<Y.size:=by rw[hY,aD s k (by omega)];omega
 have hY0:Y[0]=c:=by subst hY;rw[aT s k hk vH];exact hc
 have UM:=bC Y vH;have cz:=iJ s k hk;rw[hc] at cz;have HC:=aa cz;have L1:=aa (fun W=>hH c false W hl)
 have L2:=aa (fun W=>fD c true W hd)
 obtain⟨m,hm⟩ :∃m:Nat,m=runN mJ (aS s k):=⟨_,rfl⟩;have U1:=aa (fun W=>ue Y W (by rw[hY,aD s _ (by omega)];omega))
 rw[show Y.data.toList=aS s k by rw[hY,cR],←hm] at U1
 have zq:=gZ mJ (aS s k);rw[fK,←hm] at zq;have hrun:1≤m:=by
  rw[hm,cz];unfold runN;rw[J4 (by unfold mJ jZ;rw[hd];simp),List.length_cons]
  omega
 obtain⟨X,hX⟩ :∃X:ByteArray,X=s.extract k (k+m):=⟨_,rfl⟩;have hXl:X.data.toList=(aS s k).takeWhile mJ:=by rw[hX,eK,hm,pX]
 have ew:X.size≤100000:=by rw[hX,tH];omega
 have V1:=aa (fun W h=>bo b s k m W h (by omega))
 rw[←hX] at V1;have M1:=aa (fun W=>Af X W (by omega))
 rw[hXl] at M1;rw[hno] at M1;have hT:=Tok.CH (c:=c) (r:=aS s (k+1)) hl hd (by rw[←cz];exact hno)
 rw[←cz] at hT;obtain⟨N,hN⟩ :∃N:Int,N=wG (qY 9223372036854775807 ((aS s k).takeWhile mJ):Int):=⟨_,rfl⟩;rw[←hN] at M1;have HT:=aa hT;clear hm hX hXl hT cz hl hd hno hc hN;have HR:=aa h;have HN:=aa hn;clear hY h hn;have HL:=aa (jC b s k w n HR.out);go_enter Tryz.func33,Tryz.ntmps33
 go_wp2_with fail
 refine(C1.out _ HL.out.1).mono ?_;rintro e w1 ⟨rfl,r1,k1⟩;have R1:=aa r1;have K1:=aa (HL.out.2.1.trans k1);have T0:=aa (HL.out.2.2.1.kp k1 (by omega))
 have T1:=aa (HL.out.2.2.2.kp k1 (by omega))
 clear r1 k1 c2;obtain⟨a0,a1,a2,a3⟩:=T0.out.cells;obtain⟨f0,f1,f2,f3⟩:=T0.out.frozen;obtain⟨b0,b1,b2,b3⟩:=T1.out.cells;obtain⟨g0,g1,g2,g3⟩:=T1.out.frozen;go_wp2_with (first
  | (go_at_call 73;refine(L1.out _).mono ?_;rintro e w' ⟨rfl,rfl⟩)
  | (go_at_call 75;refine(L2.out _).mono ?_;rintro e w' ⟨rfl,rfl⟩))
 clear a0 a1 a2 a3 f0 f1 f2 f3 b0 b1 b2 b3 g0 g1 g2 g3;have Rl:=aa (R1.out.bF (g:=w.heap.size+1) (by omega) 0 (.int .i64 3))
 have JP:=aa (K1.out.bF (g:=w.heap.size+1) (by omega) 0 (.int .i64 3))
 have JR:=aa (T0.out.setOther (g':=w.heap.size+1) (by omega) 0 (.int .i64 3))
 have JS:=aa (T1.out.Lm (.int .i64 3));generalize w1.setCell ⟨w.heap.size+1,0,none⟩ (.int .i64 3)=w1b at *;refine(U1.out _).mono ?_;rintro e Cl ⟨rfl,rfl⟩;go_wp2_with fail
 refine(V1.out _ Rl.out).mono ?_;rintro e w2 ⟨rfl,r2,k2⟩;have R2:=aa r2;have K2:=an JP k2;have nh:=aa (JR.out.kp k2 (by omega))
 have su:=aa (JS.out.kp k2 (by omega))
 clear r2 k2;go_wp2_with fail
 refine(M1.out _).mono ?_;rintro e KX ⟨rfl,rfl⟩;obtain⟨a0,a1,a2,a3⟩:=nh.out.cells;obtain⟨f0,f1,f2,f3⟩:=nh.out.frozen;obtain⟨b0,b1,b2,b3⟩:=su.out.cells;obtain⟨g0,g1,g2,g3⟩:=su.out.frozen;go_wp2_with fail
 clear a0 a1 a2 a3 f0 f1 f2 f3 b0 b1 b2 b3 g0 g1 g2 g3;refine(kN _ _).mono ?_;rintro e w9 ⟨rfl,rfl⟩;have K8:=aa (K2.out.bF (g:=w.heap.size+1) (by omega) 2 (.int .i64 N))
 have T8:=aa (nh.out.setOther (g':=w.heap.size+1) (by omega) 2 (.int .i64 N))
 generalize w2.setCell ⟨w.heap.size+1,2,none⟩ (.int .i64 N)=w8 at *;have WX:=T8.out.lt;obtain⟨a0,a1,a2,a3⟩:=T8.out.cells;obtain⟨f0,f1,f2,f3⟩:=T8.out.frozen;go_wp2_with fail
 clear a0 a1 a2 a3 f0 f1 f2 f3;obtain⟨d0,d1,d2,d3⟩:=((T8.out.gQ (.int .i64 0) (.int .i64 0) (.int .i64 0) (.string ⟨#[]⟩)).alloc (.cells #[.int .i64 n,.iface 79 (.int .i64 5)] 85)).cells;refine bodyPost_ret (v:=.tuple #[.agg #[.int .i64 0,.int .i64 0,.int .i64 0,.string ⟨#[]⟩],.iface 83 (.pointer (some ⟨w8.heap.size,0,none⟩))]) (by simp[results,Tryz.results33,go_sem,d0,d1,d2,d3]) rfl ?_
 exact⟨(K8.out.gQ (ah _) _ _ _ _).alloc _,.inr ⟨_,rfl,by rw[←HN.out];exact Am.yo _ _ _ (by simp[World.setCell]),HT.out⟩⟩
theorem GX (b:Nat) (s:ByteArray) (k:Nat) (w:World) (h:Rd w b s k) (hk:k<s.size) (c:UInt8) (hc:s[k]=c) (hl:si c=false) (hd:fQ c=false) (hq:Ew c=true):Calls Tryz.prog 33 #[.pointer (some ⟨b,0,none⟩)] w (j4 b s k w):=by
 have iK:=h.lt;have b9:=h.top;have c2:=(h.alloc (.cells #[.int .i64 0,.int .i64 0,.int .i64 0,.string ⟨#[]⟩] 113)).c2;rw[jj] at c2;obtain⟨n,hn⟩ :∃n:Int,n=cY s-nl (aS s k):=⟨_,rfl⟩;rw[←hn] at c2;obtain⟨Y,hY⟩ :∃Y:ByteArray,Y=s.extract k s.size:=⟨_,rfl⟩;have C1:=aa (fun W h=>aA b s k W h)
 rw[←hY] at C1;have vH:0<Y.size:=by rw[hY,aD s k (by omega)];omega
 have hY0:Y[0]=c:=by subst hY;rw[aT s k hk vH];exact hc
 have UM:=bC Y vH;have cz:=iJ s k hk;rw[hc] at cz;have HC:=aa cz;have L1:=aa (fun W=>hH c false W hl)
 have L2:=aa (fun W=>fD c false W hd)
 have L3:=aa (fun W=>tZ c true W hq)
 have hq':c.toNat=39∨c.toNat=34:=by unfold Ew at hq;simpa using hq
 have Q1:=aa (fun W h=>CO b s k W h hk c hc (by rintro rfl;revert hq';decide) (by rintro rfl;revert hq';decide))
 have HT:=aa (fun o (ho:yi c (aS s (k+1)) o)=>cz▸Tok.text hl hd hq ho)
 clear cz hl hd hq hc hq';have HR:=aa h;have HN:=aa hn;clear hY h hn;have HL:=aa (jC b s k w n HR.out);go_enter Tryz.func33,Tryz.ntmps33
 go_wp2_with fail
 refine(C1.out _ HL.out.1).mono ?_;rintro e w1 ⟨rfl,r1,k1⟩;have R1:=aa r1;have K1:=aa (HL.out.2.1.trans k1);have T0:=aa (HL.out.2.2.1.kp k1 (by omega))
 have T1:=aa (HL.out.2.2.2.kp k1 (by omega))
 clear r1 k1 c2;obtain⟨a0,a1,a2,a3⟩:=T0.out.cells;obtain⟨f0,f1,f2,f3⟩:=T0.out.frozen;obtain⟨b0,b1,b2,b3⟩:=T1.out.cells;obtain⟨g0,g1,g2,g3⟩:=T1.out.frozen;go_wp2_with (first
  | (go_at_call 73;refine(L1.out _).mono ?_;rintro e w' ⟨rfl,rfl⟩)
  | (go_at_call 75;refine(L2.out _).mono ?_;rintro e w' ⟨rfl,rfl⟩)
  | (go_at_call 78;refine(L3.out _).mono ?_;rintro e w' ⟨rfl,rfl⟩))
 clear a0 a1 a2 a3 f0 f1 f2 f3 b0 b1 b2 b3 g0 g1 g2 g3;have Rl:=aa (R1.out.bF (g:=w.heap.size+1) (by omega) 0 (.int .i64 4))
 have JP:=aa (K1.out.bF (g:=w.heap.size+1) (by omega) 0 (.int .i64 4))
 have JR:=aa (T0.out.setOther (g':=w.heap.size+1) (by omega) 0 (.int .i64 4))
 have JS:=aa (T1.out.Lm (.int .i64 4));generalize w1.setCell ⟨w.heap.size+1,0,none⟩ (.int .i64 4)=w1b at *;refine(Q1.out _ Rl.out).mono ?_;rintro e w2 ⟨o,ho,EH⟩;have HO:=aa (HT.out o ho);clear ho;rcases o with _ | ⟨t,r⟩
 ·obtain⟨rfl,k2⟩:=EH.nX
  have K2:=an JP k2;have nh:=aa (JR.out.kp k2 (by omega))
  have su:=aa (JS.out.kp k2 (by omega))
  clear EH k2;obtain⟨a0,a1,a2,a3⟩:=nh.out.cells;obtain⟨f0,f1,f2,f3⟩:=nh.out.frozen;obtain⟨b0,b1,b2,b3⟩:=su.out.cells;obtain⟨g0,g1,g2,g3⟩:=su.out.frozen;go_wp2_with fail
  clear a0 a1 a2 a3 f0 f1 f2 f3 b0 b1 b2 b3 g0 g1 g2 g3;refine(kN _ _).mono ?_;rintro e w9 ⟨rfl,rfl⟩;have K8:=aa (K2.out.bF (g:=w.heap.size+1) (by omega) 3 (.string ⟨#[]⟩))
  have T8:=aa (nh.out.setOther (g':=w.heap.size+1) (by omega) 3 (.string ⟨#[]⟩))
  generalize w2.setCell ⟨w.heap.size+1,3,none⟩ (.string ⟨#[]⟩)=w8 at *;have WX:=T8.out.lt;obtain⟨a0,a1,a2,a3⟩:=T8.out.cells;obtain⟨f0,f1,f2,f3⟩:=T8.out.frozen;go_wp2_with fail
  clear a0 a1 a2 a3 f0 f1 f2 f3;obtain⟨d0,d1,d2,d3⟩:=((T8.out.gQ (.int .i64 0) (.int .i64 0) (.int .i64 0) (.string ⟨#[]⟩)).alloc (.cells #[.int .i64 n,.iface 79 (.int .i64 5)] 85)).cells;refine bodyPost_ret (v:=.tuple #[.agg #[.int .i64 0,.int .i64 0,.int .i64 0,.string ⟨#[]⟩],.iface 83 (.pointer (some ⟨w8.heap.size,0,none⟩))]) (by simp[results,Tryz.results33,go_sem,d0,d1,d2,d3]) rfl ?_
  exact⟨(K8.out.gQ (ah _) _ _ _ _).alloc _,.inr ⟨_,rfl,by rw[←HN.out];exact Am.yo _ _ _ (by simp[World.setCell]),HO.out⟩⟩
 ·obtain⟨k',rfl,r2,hr2,Rn,k2⟩:=EH.nW
  have R2:=aa r2;have K2:=an JP k2;have nh:=aa (JR.out.kp k2 (by omega))
  have su:=aa (JS.out.kp k2 (by omega))
  have HE:=aa hr2;obtain⟨X,hX⟩ :∃X:ByteArray,X=⟨t.toArray⟩:=⟨_,rfl⟩;rw[←hX];have HX:=aa hX;clear EH r2 k2 hr2 hX;obtain⟨a0,a1,a2,a3⟩:=nh.out.cells;obtain⟨f0,f1,f2,f3⟩:=nh.out.frozen;obtain⟨b0,b1,b2,b3⟩:=su.out.cells;obtain⟨g0,g1,g2,g3⟩:=su.out.frozen;go_wp2_with fail
  clear a0 a1 a2 a3 f0 f1 f2 f3 b0 b1 b2 b3 g0 g1 g2 g3;obtain⟨d0,d1,d2,d3⟩:=((nh.out.setOther (g':=w.heap.size+1) (by omega) 3 (.string X)).gQ (.int .i64 4) (.int .i64 n) (.int .i64 0) (.string X)).cells
  refine bodyPost_ret (v:=.tuple #[.agg #[.int .i64 4,.int .i64 n,.int .i64 0,.string X],.nilIface]) (by simp[results,Tryz.results33,go_sem,d0,d1,d2,d3]) rfl ?_
  exact⟨(K2.out.bF (by omega) _ _).gQ (ah _) _ _ _ _,.inl ⟨4,0,_,_,by rw[←HN.out,HX.out],(R2.out.bF (by omega) _ _).gQ iK _ _ _ _,by omega,fun _=>by omega,fun e=>absurd e (by decide),by rw[HE.out];exact HO.out⟩⟩
theorem GY (b:Nat) (s:ByteArray) (k:Nat) (w:World) (h:Rd w b s k) (hk:k<s.size) (c:UInt8) (hc:s[k]=c) (hl:si c=false) (hd:fQ c=false) (hq:Ew c=false) (hop:0<opn (aS s k)):Calls Tryz.prog 33 #[.pointer (some ⟨b,0,none⟩)] w (j4 b s k w):=by
 have iK:=h.lt;have b9:=h.top;have c2:=(h.alloc (.cells #[.int .i64 0,.int .i64 0,.int .i64 0,.string ⟨#[]⟩] 113)).c2;rw[jj] at c2;obtain⟨n,hn⟩ :∃n:Int,n=cY s-nl (aS s k):=⟨_,rfl⟩;rw[←hn] at c2;obtain⟨Y,hY⟩ :∃Y:ByteArray,Y=s.extract k s.size:=⟨_,rfl⟩;have C1:=aa (fun W h=>aA b s k W h)
 rw[←hY] at C1;have vH:0<Y.size:=by rw[hY,aD s k (by omega)];omega
 have hY0:Y[0]=c:=by subst hY;rw[aT s k hk vH];exact hc
 have UM:=bC Y vH;have cz:=iJ s k hk;rw[hc] at cz;have HC:=aa cz;have L1:=aa (fun W=>hH c false W hl)
 have L2:=aa (fun W=>fD c false W hd)
 have L3:=aa (fun W=>tZ c false W hq)
 have Rj:Y.data.toList=aS s k:=by rw[hY,cR]
 have hYz:Y.size≤100000:=by rw[hY,aD s _ (by omega)];omega
 have L4:=aa (fun W=>nV Y true W hYz (by rw[Rj];exact bM hop))
 have Q1:=aa (fun W h=>oS b s k W h hop)
 have HO:=aa (cz▸Tok.long hl hd hq (cz▸hop));clear Rj hYz hop;clear cz hl hd hq hc;have HR:=aa h;have HN:=aa hn;clear hY h hn;have HL:=aa (jC b s k w n HR.out);go_enter Tryz.func33,Tryz.ntmps33
 go_wp2_with fail
 refine(C1.out _ HL.out.1).mono ?_;rintro e w1 ⟨rfl,r1,k1⟩;have R1:=aa r1;have K1:=aa (HL.out.2.1.trans k1);have T0:=aa (HL.out.2.2.1.kp k1 (by omega))
 have T1:=aa (HL.out.2.2.2.kp k1 (by omega))
 clear r1 k1 c2;obtain⟨a0,a1,a2,a3⟩:=T0.out.cells;obtain⟨f0,f1,f2,f3⟩:=T0.out.frozen;obtain⟨b0,b1,b2,b3⟩:=T1.out.cells;obtain⟨g0,g1,g2,g3⟩:=T1.out.frozen;go_wp2_with (first
  | (go_at_call 73;refine(L1.out _).mono ?_;rintro e w' ⟨rfl,rfl⟩)
  | (go_at_call 75;refine(L2.out _).mono ?_;rintro e w' ⟨rfl,rfl⟩)
  | (go_at_call 78;refine(L3.out _).mono ?_;rintro e w' ⟨rfl,rfl⟩)
  | (go_at_call 80;refine(L4.out _).mono ?_;rintro e w' ⟨rfl,rfl⟩))
 clear a0 a1 a2 a3 f0 f1 f2 f3 b0 b1 b2 b3 g0 g1 g2 g3;have Rl:=aa (R1.out.bF (g:=w.heap.size+1) (by omega) 0 (.int .i64 4))
 have JP:=aa (K1.out.bF (g:=w.heap.size+1) (by omega) 0 (.int .i64 4))
 have JR:=aa (T0.out.setOther (g':=w.heap.size+1) (by omega) 0 (.int .i64 4))
 have JS:=aa (T1.out.Lm (.int .i64 4));generalize w1.setCell ⟨w.heap.size+1,0,none⟩ (.int .i64 4)=w1b at *;refine(Q1.out _ Rl.out).mono ?_;intro e w2 EH;generalize JO (aS s k)=o at *;rcases o with _ | ⟨t,r⟩
 ·obtain⟨rfl,k2⟩:=EH.nX
  have K2:=an JP k2;have nh:=aa (JR.out.kp k2 (by omega))
  have su:=aa (JS.out.kp k2 (by omega))
  clear EH k2;obtain⟨a0,a1,a2,a3⟩:=nh.out.cells;obtain⟨f0,f1,f2,f3⟩:=nh.out.frozen;obtain⟨b0,b1,b2,b3⟩:=su.out.cells;obtain⟨g0,g1,g2,g3⟩:=su.out.frozen;go_wp2_with fail
  clear a0 a1 a2 a3 f0 f1 f2 f3 b0 b1 b2 b3 g0 g1 g2 g3;refine(kN _ _).mono ?_;rintro e w9 ⟨rfl,rfl⟩;have K8:=aa (K2.out.bF (g:=w.heap.size+1) (by omega) 3 (.string ⟨#[]⟩))
  have T8:=aa (nh.out.setOther (g':=w.heap.size+1) (by omega) 3 (.string ⟨#[]⟩))
  generalize w2.setCell ⟨w.heap.size+1,3,none⟩ (.string ⟨#[]⟩)=w8 at *;have WX:=T8.out.lt;obtain⟨a0,a1,a2,a3⟩:=T8.out.cells;obtain⟨f0,f1,f2,f3⟩:=T8.out.frozen;go_wp2_with fail
  clear a0 a1 a2 a3 f0 f1 f2 f3;obtain⟨d0,d1,d2,d3⟩:=((T8.out.gQ (.int .i64 0) (.int .i64 0) (.int .i64 0) (.string ⟨#[]⟩)).alloc (.cells #[.int .i64 n,.iface 79 (.int .i64 5)] 85)).cells;refine bodyPost_ret (v:=.tuple #[.agg #[.int .i64 0,.int .i64 0,.int .i64 0,.string ⟨#[]⟩],.iface 83 (.pointer (some ⟨w8.heap.size,0,none⟩))]) (by simp[results,Tryz.results33,go_sem,d0,d1,d2,d3]) rfl ?_
  exact⟨(K8.out.gQ (ah _) _ _ _ _).alloc _,.inr ⟨_,rfl,by rw[←HN.out];exact Am.yo _ _ _ (by simp[World.setCell]),HO.out⟩⟩
 ·obtain⟨k',rfl,r2,hr2,Rn,k2⟩:=EH.nW
  have R2:=aa r2;have K2:=an JP k2;have nh:=aa (JR.out.kp k2 (by omega))
  have su:=aa (JS.out.kp k2 (by omega))
  have HE:=aa hr2;obtain⟨X,hX⟩ :∃X:ByteArray,X=⟨t.toArray⟩:=⟨_,rfl⟩;rw[←hX];have HX:=aa hX;clear EH r2 k2 hr2 hX;obtain⟨a0,a1,a2,a3⟩:=nh.out.cells;obtain⟨f0,f1,f2,f3⟩:=nh.out.frozen;obtain⟨b0,b1,b2,b3⟩:=su.out.cells;obtain⟨g0,g1,g2,g3⟩:=su.out.frozen;go_wp2_with fail
  clear a0 a1 a2 a3 f0 f1 f2 f3 b0 b1 b2 b3 g0 g1 g2 g3;obtain⟨d0,d1,d2,d3⟩:=((nh.out.setOther (g':=w.heap.size+1) (by omega) 3 (.string X)).gQ (.int .i64 4) (.int .i64 n) (.int .i64 0) (.string X)).cells
  refine bodyPost_ret (v:=.tuple #[.agg #[.int .i64 4,.int .i64 n,.int .i64 0,.string X],.nilIface]) (by simp[results,Tryz.results33,go_sem,d0,d1,d2,d3]) rfl ?_
  exact⟨(K2.out.bF (by omega) _ _).gQ (ah _) _ _ _ _,.inl ⟨4,0,_,_,by rw[←HN.out,HX.out],(R2.out.bF (by omega) _ _).gQ iK _ _ _ _,by omega,fun _=>by omega,fun e=>absurd e (by decide),by rw[HE.out];exact HO.out⟩⟩
theorem GZ (b:Nat) (s:ByteArray) (k:Nat) (w:World) (h:Rd w b s k) (hk:k<s.size) (c:UInt8) (hc:s[k]=c) (hl:si c=false) (hd:fQ c=false) (hq:Ew c=false) (hop:¬ 0<opn (aS s k)):Calls Tryz.prog 33 #[.pointer (some ⟨b,0,none⟩)] w (j4 b s k w):=by
 have iK:=h.lt;have b9:=h.top;have c2:=(h.alloc (.cells #[.int .i64 0,.int .i64 0,.int .i64 0,.string ⟨#[]⟩] 113)).c2;rw[jj] at c2;obtain⟨n,hn⟩ :∃n:Int,n=cY s-nl (aS s k):=⟨_,rfl⟩;rw[←hn] at c2;obtain⟨Y,hY⟩ :∃Y:ByteArray,Y=s.extract k s.size:=⟨_,rfl⟩;have C1:=aa (fun W h=>aA b s k W h)
 rw[←hY] at C1;have vH:0<Y.size:=by rw[hY,aD s k (by omega)];omega
 have hY0:Y[0]=c:=by subst hY;rw[aT s k hk vH];exact hc
 have UM:=bC Y vH;have cz:=iJ s k hk;rw[hc] at cz;have HC:=aa cz;have L1:=aa (fun W=>hH c false W hl)
 have L2:=aa (fun W=>fD c false W hd)
 have L3:=aa (fun W=>tZ c false W hq)
 have Rj:Y.data.toList=aS s k:=by rw[hY,cR]
 have hYz:Y.size≤100000:=by rw[hY,aD s _ (by omega)];omega
 have L4:=aa (fun W=>nV Y false W hYz (by rw[Rj];exact bL hop))
 have Q1:=aa (fun W h=>Ll b s k W h)
 have HO:=aa (cz▸Tok.sign hl hd hq (cz▸hop));clear Rj hYz hop;clear cz hl hd hq hc;have HR:=aa h;have HN:=aa hn;clear hY h hn;have HL:=aa (jC b s k w n HR.out);go_enter Tryz.func33,Tryz.ntmps33
 go_wp2_with fail
 refine(C1.out _ HL.out.1).mono ?_;rintro e w1 ⟨rfl,r1,k1⟩;have R1:=aa r1;have K1:=aa (HL.out.2.1.trans k1);have T0:=aa (HL.out.2.2.1.kp k1 (by omega))
 have T1:=aa (HL.out.2.2.2.kp k1 (by omega))
 clear r1 k1 c2;obtain⟨a0,a1,a2,a3⟩:=T0.out.cells;obtain⟨f0,f1,f2,f3⟩:=T0.out.frozen;obtain⟨b0,b1,b2,b3⟩:=T1.out.cells;obtain⟨g0,g1,g2,g3⟩:=T1.out.frozen;go_wp2_with (first
  | (go_at_call 73;refine(L1.out _).mono ?_;rintro e w' ⟨rfl,rfl⟩)
  | (go_at_call 75;refine(L2.out _).mono ?_;rintro e w' ⟨rfl,rfl⟩)
  | (go_at_call 78;refine(L3.out _).mono ?_;rintro e w' ⟨rfl,rfl⟩)
  | (go_at_call 80;refine(L4.out _).mono ?_;rintro e w' ⟨rfl,rfl⟩))
 clear a0 a1 a2 a3 f0 f1 f2 f3 b0 b1 b2 b3 g0 g1 g2 g3;have Rl:=aa (R1.out.bF (g:=w.heap.size+1) (by omega) 0 (.int .i64 5))
 have JP:=aa (K1.out.bF (g:=w.heap.size+1) (by omega) 0 (.int .i64 5))
 have JR:=aa (T0.out.setOther (g':=w.heap.size+1) (by omega) 0 (.int .i64 5))
 have JS:=aa (T1.out.Lm (.int .i64 5));generalize w1.setCell ⟨w.heap.size+1,0,none⟩ (.int .i64 5)=w1b at *;refine(Q1.out _ Rl.out).mono ?_;intro e w2 EH;generalize sign (aS s k)=o at *;rcases o with _ | ⟨t,r⟩
 ·obtain⟨rfl,k2⟩:=EH.nX
  have K2:=an JP k2;have nh:=aa (JR.out.kp k2 (by omega))
  have su:=aa (JS.out.kp k2 (by omega))
  clear EH k2;obtain⟨a0,a1,a2,a3⟩:=nh.out.cells;obtain⟨f0,f1,f2,f3⟩:=nh.out.frozen;obtain⟨b0,b1,b2,b3⟩:=su.out.cells;obtain⟨g0,g1,g2,g3⟩:=su.out.frozen;go_wp2_with fail
  clear a0 a1 a2 a3 f0 f1 f2 f3 b0 b1 b2 b3 g0 g1 g2 g3;refine(kN _ _).mono ?_;rintro e w9 ⟨rfl,rfl⟩;have K8:=aa (K2.out.bF (g:=w.heap.size+1) (by omega) 3 (.string ⟨#[]⟩))
  have T8:=aa (nh.out.setOther (g':=w.heap.size+1) (by omega) 3 (.string ⟨#[]⟩))
  generalize w2.setCell ⟨w.heap.size+1,3,none⟩ (.string ⟨#[]⟩)=w8 at *;have WX:=T8.out.lt;obtain⟨a0,a1,a2,a3⟩:=T8.out.cells;obtain⟨f0,f1,f2,f3⟩:=T8.out.frozen;go_wp2_with fail
  clear a0 a1 a2 a3 f0 f1 f2 f3;obtain⟨d0,d1,d2,d3⟩:=((T8.out.gQ (.int .i64 0) (.int .i64 0) (.int .i64 0) (.string ⟨#[]⟩)).alloc (.cells #[.int .i64 n,.iface 79 (.int .i64 5)] 85)).cells;refine bodyPost_ret (v:=.tuple #[.agg #[.int .i64 0,.int .i64 0,.int .i64 0,.string ⟨#[]⟩],.iface 83 (.pointer (some ⟨w8.heap.size,0,none⟩))]) (by simp[results,Tryz.results33,go_sem,d0,d1,d2,d3]) rfl ?_
  exact⟨(K8.out.gQ (ah _) _ _ _ _).alloc _,.inr ⟨_,rfl,by rw[←HN.out];exact Am.yo _ _ _ (by simp[World.setCell]),HO.out⟩⟩
 ·obtain⟨k',rfl,r2,hr2,Rn,k2⟩:=EH.nW
  have R2:=aa r2;have K2:=an JP k2;have nh:=aa (JR.out.kp k2 (by omega))
  have su:=aa (JS.out.kp k2 (by omega))
  have HE:=aa hr2;obtain⟨X,hX⟩ :∃X:ByteArray,X=⟨t.toArray⟩:=⟨_,rfl⟩;rw[←hX];have HX:=aa hX;clear EH r2 k2 hr2 hX;obtain⟨a0,a1,a2,a3⟩:=nh.out.cells;obtain⟨f0,f1,f2,f3⟩:=nh.out.frozen;obtain⟨b0,b1,b2,b3⟩:=su.out.cells;obtain⟨g0,g1,g2,g3⟩:=su.out.frozen;go_wp2_with fail
  clear a0 a1 a2 a3 f0 f1 f2 f3 b0 b1 b2 b3 g0 g1 g2 g3;obtain⟨d0,d1,d2,d3⟩:=((nh.out.setOther (g':=w.heap.size+1) (by omega) 3 (.string X)).gQ (.int .i64 5) (.int .i64 n) (.int .i64 0) (.string X)).cells
  refine bodyPost_ret (v:=.tuple #[.agg #[.int .i64 5,.int .i64 n,.int .i64 0,.string X],.nilIface]) (by simp[results,Tryz.results33,go_sem,d0,d1,d2,d3]) rfl ?_
  exact⟨(K2.out.bF (by omega) _ _).gQ (ah _) _ _ _ _,.inl ⟨5,0,_,_,by rw[←HN.out,HX.out],(R2.out.bF (by omega) _ _).gQ iK _ _ _ _,by omega,fun _=>by omega,fun e=>absurd e (by decide),by rw[HE.out];exact HO.out⟩⟩
theorem G8 (b:Nat) (s:ByteArray) (k:Nat) (w:World) (h:Rd w b s k):Calls Tryz.prog 33 #[.pointer (some ⟨b,0,none⟩)] w (j4 b s k w):=by
 by_cases hk:k=s.size
 ·exact GV b s k w h hk
 ·have hk:k<s.size:=by have:=h.le;omega
  cases hl:si s[k]
  ·cases hd:fQ s[k]
   ·cases hq:Ew s[k]
    ·by_cases hop:0<opn (aS s k)
     ·exact GY b s k w h hk _ rfl hl hd hq hop
     ·exact GZ b s k w h hk _ rfl hl hd hq hop
    ·exact GX b s k w h hk _ rfl hl hd hq
   ·cases hno:oB 9223372036854775807 ((aS s k).takeWhile mJ)
    ·exact vP b s k w h hk _ rfl hl hd hno
    ·exact GW b s k w h hk _ rfl hl hd hno
  ·exact CQ b s k w h hk _ rfl hl
def iU (ts:List Tk):List Value:=ts.flatMap fun t=>[.int .i64 t.1,.int .i64 t.2.1,.int .i64 t.2.2.1,.string ⟨t.2.2.2.toArray⟩]
theorem CR (a b:List Tk):iU (a++b)=iU a++iU b:=by simp[iU]
def qb (W:World) (B:Nat) (v:Value) (ts:List Tk):Prop:=W.ownsRow B 113 4 v ts.length (iU ts)
theorem qb.nil (W:World) (B:Nat):qb W B (.slice none 0 0) []:=World.ownsRow_nil W B 113 4
theorem qb.form {W:World} {B:Nat} {v:Value} {ts:List Tk} (h:qb W B v ts) :∃A c,v=.slice A ts.length c:=by
 rcases h.2 with ⟨rfl,h0⟩ | ⟨g,cap,_,rfl,_⟩
 ·exact⟨none,0,by rw[h0]⟩
 ·exact⟨_,_,rfl⟩
theorem qb.kp {b B:Nat} {W W':World} {v:Value} {ts:List Tk} (h:qb W B v ts) (hk:Kp b W W') (hb:b<B):qb W' B v ts:=by
 refine World.ownsRow.kept h hk ?_;rcases h.2 with ⟨rfl,_⟩ | ⟨g,_,_,rfl,hg,_⟩
 ·left;rfl
 ·right
  intro e;have:g=b:=by simpa[Value.ownBlock] using e
  omega
theorem WY:(Tryz.prog.info? 113).map (fun i=>(i.zero,i.size,i.bytes))=some (some (.agg #[.int .i64 0,.int .i64 0,.int .i64 0,.string ⟨#[]⟩]),4,40):=by kernel_rfl
theorem Lo {ops:Array Oper} {rest:List Oper} {o:Oper} {a:Act} {Q:Exit→Act→World→Prop} (w:World) (kd ln n:Int) (X:ByteArray) (t:List UInt8) (hX:X=⟨t.toArray⟩) (hgd:o.guard=none) (sl y:Operand)
  (ho:o.op=.call { callee:=.builtin .append,args:=#[sl,y],argTypes:=#[67,67]}) (B:Nat) (v:Value) (ts:List Tk) (hs:a.eval sl=v) (hown:qb w B v ts) (g:Nat) (hg:g=w.heap.size) (hy:a.eval y=.slice (some ⟨g,0,none⟩) 1 1)
  (hlen:ts.length≤20000) (hB:B≤w.heap.size)
  (h :∀v' w',qb w' B v' (ts++[(kd,ln,n,t)])→Below B w w'→(∀i o,w.heap[i]? = some o→some i≠v.ownBlock→w'.heap[i]? = some o)→wpList Tryz.prog ops Q rest (a.put o.dst v') w'):wpList Tryz.prog ops Q (o::rest) a (w.alloc (.cells #[.int .i64 kd,.int .i64 ln,.int .i64 n,.string X] 113)):=by
 subst hX;subst hg;obtain⟨i0,ng,hz0,hz1,hz2⟩:=info_parts WY;have hc:=fun j=>cell_of_row (w.alloc (.cells #[.int .i64 kd,.int .i64 ln,.int .i64 n,.string ⟨t.toArray⟩] 113)) w.heap.size j _ 113 (0,0) (heap_alloc_new w _)
 have hpl :∀j:Nat,(⟨w.heap.size,0,none⟩:Addr).add j=⟨w.heap.size,j,none⟩:=fun j=>by unfold Addr.add;split<;>simp_all
 refine wpList_append_own (P:=Tryz.prog) _ hgd sl y 67 ho B 113 i0 (.agg #[.int .i64 0,.int .i64 0,.int .i64 0,.string ⟨#[]⟩]) 4 40 Tryz.underlying67 ng hz0 hz1 hz2 rfl (by omega) v ts.length (iU ts) hs (hown.alloc _) ⟨w.heap.size,0,none⟩ 1 1 [.int .i64 kd,.int .i64 ln,.int .i64 n,.string ⟨t.toArray⟩] hy rfl
  (fun j u hj=>by
   rw[hpl,hc j];match j,hj with
   | 0,hj=>exact hj
   | 1,hj=>exact hj
   | 2,hj=>exact hj
   | 3,hj=>exact hj
   | j+4,hj=>simp at hj) (fun u hu=>by
    rcases bn.1 hu with rfl|hu
    ·rfl
    ·rcases bn.1 hu with rfl|hu
     ·rfl
     ·rcases bn.1 hu with rfl|hu
      ·rfl
      ·obtain rfl:=bP.1 hu
       rfl) (by unfold maxLen;omega) (by omega) (by simp;omega) ?_
 intro v' w' h1 h2 _;refine h v' w' ?_ (((Below.refl _ _).alloc hB _).grown h2 (by simp;omega) (fun k hk=>(hown.lt k hk).1)) (fun i ob hi hne=>by
  have hlt:=(aI.1 hi).1;exact(h2.block i (by simp;omega) hne).trans ((Below.heap_alloc w _ i hlt).trans hi))
 unfold qb;rw[bV,CR];exact h1
structure ui (W:World) (v:Value) (ts:List Tk):Prop where
 ex :∃g cap,v=.slice (some ⟨g,0,none⟩) ts.length cap∧ts.length≤cap∧g<W.heap.size∧∀(j:Nat) (t:Tk),ts[j]? = some t →
  W.cell? ⟨g,j*4,none⟩=some (.int .i64 t.1)∧W.cell? ⟨g,j*4+1,none⟩=some (.int .i64 t.2.1)∧W.cell? ⟨g,j*4+2,none⟩=some (.int .i64 t.2.2.1)∧W.cell? ⟨g,j*4+3,none⟩=some (.string ⟨t.2.2.2.toArray⟩)
theorem CS :∀(ts:List Tk) (j:Nat) (t:Tk),ts[j]? = some t→(iU ts)[j*4]? = some (.int .i64 t.1)∧(iU ts)[j*4+1]? = some (.int .i64 t.2.1)∧(iU ts)[j*4+2]? = some (.int .i64 t.2.2.1)∧(iU ts)[j*4+3]? = some (.string ⟨t.2.2.2.toArray⟩):=by
 intro ts;induction ts with
 | nil=>intro j t h;simp at h
 | cons a r ih =>
  intro j t h;cases j with
  | zero =>
   obtain rfl:a=t:=by simpa using h
   exact⟨rfl,rfl,rfl,rfl⟩
  | succ j =>
   obtain⟨h0,h1,h2,h3⟩:=ih j t (by simpa using h)
   have e :∀i,(iU (a::r))[i+4]? = (iU r)[i]?:=fun i=>rfl
   rw[show(j+1)*4=j*4+4 by omega,show j*4+4+1=j*4+1+4 by omega,show j*4+4+2=j*4+2+4 by omega,show j*4+4+3=j*4+3+4 by omega,e,e,e,e]
   exact⟨h0,h1,h2,h3⟩
theorem qb.acj {W:World} {B:Nat} {v:Value} {ts:List Tk} (h:qb W B v ts) (h0:0<ts.length):ui W v ts:=by
 have hh:=h;rcases h.2 with ⟨rfl,h1⟩ | ⟨g,cap,cur,rfl,_,_,hc,_⟩
 ·omega
 ·refine⟨g,cap,rfl,hc,(World.ownsRow.lt hh g rfl).2,fun j t hj=>?_⟩
  have hj':j<ts.length:=(aL.1 hj).1;obtain⟨e0,e1,e2,e3⟩:=CS ts j t hj;have c:=fun i hi=>World.ownsRow.cellAt hh i hi
  exact⟨(c _ (by omega)).trans e0,(c _ (by omega)).trans e1,(c _ (by omega)).trans e2,(c _ (by omega)).trans e3⟩
theorem ui.below {W W':World} {v:Value} {ts:List Tk} (h:ui W v ts) (hb:Below W.heap.size W W'):ui W' v ts:=by
 obtain⟨g,cap,h1,h2,h3,h4⟩:=h.ex;refine⟨g,cap,h1,h2,cy h3 hb.size,fun j t hj=>?_⟩
 obtain⟨e0,e1,e2,e3⟩:=h4 j t hj;exact⟨(hb.cell (p:=⟨g,_,none⟩) h3).trans e0,(hb.cell (p:=⟨g,_,none⟩) h3).trans e1,(hb.cell (p:=⟨g,_,none⟩) h3).trans e2,(hb.cell (p:=⟨g,_,none⟩) h3).trans e3⟩
theorem Am.below {W W':World} {v:Value} {n:Int} (h:Am W v n) (hb:Below W.heap.size W W'):Am W' v n:=by
 obtain⟨g,h1,h2⟩:=h;exact⟨g,h1,(hb.block g (aI.1 h2).1).trans h2⟩
def Ro (s:ByteArray) (w:World) (e:Ending) (w':World):Prop :=
 Below w.heap.size w w'∧∃o,kt (cY s) s.data.toList o∧match o with
  | .ok ts=>ts.length≤s.size+1∧∃v,e=.returned (.tuple #[v,.nilIface])∧ui w' v ts
  | .error n=>∃v,e=.returned (.tuple #[.slice none 0 0,v])∧Am w' v n
theorem Rp (o:Except Int (List Tk)):o.map (([]:List Tk) ++ ·)=o:=by cases o<;>rfl
theorem Rq (o:Except Int (List Tk)) (T:List Tk) (t:Tk):(o.map (t :: ·)).map (T ++ ·)=o.map ((T++[t]) ++ ·):=by
 cases o
 ·rfl
 ·simp[Except.map]
theorem WZ (w:World) (s:ByteArray) (hs:s.size≤10000) (h7:4≤w.heap.size) (hM:Mx w):Rd (w.alloc (.cells #[.string s,.int .i64 0,.int .i64 1] 110)) w.heap.size s 0 :=
 ⟨World.alloc_heap_new w _,aR _,by omega,h7,hM.below ((Below.refl _ _).alloc (ah _) _)⟩
theorem ni {w W:World} {o:Obj} (h:Kp w.heap.size (w.alloc o) W):Below w.heap.size w W:=by
 have h1:=(Below.refl w.heap.size w).alloc (ah _) o;exact h1.trans ⟨h.os,h.tape,h.output,h.size,fun k hk=>h.block k (by simp;omega) (by simp;omega)⟩
theorem Rr {kd n:Int} {t r:List UInt8} (h:Tok [] (some (kd,n,t,r))):n=0∧t=[]:=by
 cases h;exact⟨rfl,rfl⟩
theorem Rt (s:ByteArray) (w:World) (hs:s.size≤10000) (h7:4≤w.heap.size) (hM:Mx w):Calls Tryz.prog 18 #[.string s] w (Ro s w):=by
 have g0:decide (65536<s.size)=false:=bL (by omega)
 have HR:=aa (WZ w s hs h7 hM);clear hM;go_enter Tryz.func18,Tryz.ntmps18
 go_wp2_with fail
 have Ru:s.data.toList=aS s 0:=rfl;go_loopg [5] s.size (fun z tv wr=>∃(k1:Nat) (ts:List Tk),Rd wr w.heap.size s k1∧s.size-k1≤z∧Kp w.heap.size (w.alloc (.cells #[.string s,.int .i64 0,.int .i64 1] 110)) wr∧qb wr (w.heap.size+1) tv ts∧ts.length≤k1∧∀o,kt (cY s) (aS s k1) o→kt (cY s) s.data.toList (o.map (ts ++ ·)))
 case atStart=>exact⟨0,[],HR.out,by omega,Kp.refl _ _,qb.nil _ _,ah _,fun o h=>by rw[Rp];exact h⟩
 case round =>
  clear Ru;obtain⟨k1,ts,hr,hz,Q6,hrow,hlen,aar⟩:=hrel;have Q7:=hr.le;have R0:=aa hr;have K0:=aa Q6;have W0:=aa hrow;have HL:=aa aar;clear hr Q6 hrow aar;obtain⟨A1,c1,rfl⟩:=W0.out.form;have ad2:((ts.length:Int) == 16384)=false:=aE.2 (by omega)
  go_wp2_with fail
  refine(K9 _ _ _ _ R0.out).mono ?_;rintro e w1 ⟨kp1,⟨k2,rfl,r1,hk12,hsk⟩ | ⟨r,v,rfl,hf,hsk⟩⟩
  ·have hle2:=r1.le
   have R1:=aa r1;have K1:=an K0 kp1;have W1:=aa (W0.out.kp kp1 (by omega))
   have HS:=aa hsk;clear r1 kp1 hsk;go_wp2_with fail
   refine(G8 _ _ _ _ R1.out).mono ?_;rintro e w2 ⟨kp2,⟨kd,n,t,k3,rfl,r2,hk23,mz,hzero,Lp⟩ | ⟨v,rfl,hf,Lp⟩⟩
   ·have hle3:=r2.le
    have R2:=aa r2;have K2:=an K1 kp2;have W2:=aa (W1.out.kp kp2 (by omega))
    have HT:=aa Lp;have HZ:=aa hzero;obtain⟨X,hX⟩ :∃X:ByteArray,X=⟨t.toArray⟩:=⟨_,rfl⟩;rw[←hX];have HX:=aa hX;obtain⟨ln,Lq⟩ :∃ln:Int,ln=cY s-nl (aS s k2):=⟨_,rfl⟩;rw[←Lq];have G9:=aa Lq;have yq:=K2.out.size;simp at yq;clear r2 kp2 Lp hzero hX Lq;have W3:=aa (World.ownsRow.alloc W2.out (.cells #[.int .i64 kd,.int .i64 ln,.int .i64 n,.string X] 113));by_cases qa:kd=0
    ·subst qa
     have key :∀w4:World,(∀i o,(w2.alloc (.cells #[.int .i64 0,.int .i64 ln,.int .i64 n,.string X] 113)).heap[i]? = some o→some i≠(Value.slice A1 ts.length c1).ownBlock→w4.heap[i]? = some o)→w4.cell? ⟨w2.heap.size,0,none⟩=some (.int .i64 0):=fun w4 h4=>by
      have hb:=h4 w2.heap.size _ (World.alloc_heap_new w2 _) (fun e=>by have:=(World.ownsRow.lt W2.out _ e.symm).2;omega)
      simp[World.cell?,hb]
     have KEY:=aa key;clear key;go_wp2_with (at_builtin;refine Lo _ 0 ln n X t HX.out rfl _ _ rfl (w.heap.size+1) _ ts rfl W3.out _ (by simp) rfl (by omega) (by simp;omega) ?_;intro v4 w4 h4 b4 i4;have W8:=KEY.out w4 i4;have H4:=aa h4;clear h4 i4)
     go_ret2
     have hs0:aS s k2=[]:=HZ.out (by trivial)
     have ht:=HT.out;rw[hs0] at ht;have aas:=HS.out;rw[hs0] at aas;have hl:=HL.out _ (.eof aas);have hnt:=Rr ht;have Lq:ln=cY s:=by rw[G9.out,hs0,Wk];omega
     refine⟨(ni K2.out).trans (((Below.refl _ _).alloc (by omega) _).trans (b4.mono (by omega))),.ok (ts++[(0,ln,n,t)]),?_,by rw[bV];simp;omega,v4,rfl,H4.out.acj (by simp)⟩
     rw[Lq,hnt.1,hnt.2];exact hl
    ·have key :∀w4:World,(∀i o,(w2.alloc (.cells #[.int .i64 kd,.int .i64 ln,.int .i64 n,.string X] 113)).heap[i]? = some o→some i≠(Value.slice A1 ts.length c1).ownBlock→w4.heap[i]? = some o)→w4.cell? ⟨w2.heap.size,0,none⟩=some (.int .i64 kd):=fun w4 h4=>by
      have hb:=h4 w2.heap.size _ (World.alloc_heap_new w2 _) (fun e=>by have:=(World.ownsRow.lt W2.out _ e.symm).2;omega)
      simp[World.cell?,hb]
     have KEY:=aa key;clear key;have gk:(kd == 0)=false:=aE.2 qa;have hk3:=mz qa;go_wp2_with (at_builtin;refine Lo _ kd ln n X t HX.out rfl _ _ rfl (w.heap.size+1) _ ts rfl W3.out _ (by simp) rfl (by omega) (by simp;omega) ?_;intro v4 w4 h4 b4 i4;have W8:=KEY.out w4 i4;have H4:=aa h4;have B4:=aa b4;clear h4 i4 b4)
     go_roundg (s.size-k3)
     case measure=>omega
     case rel=>exact⟨k3,ts++[(kd,ln,n,t)],(R2.out.alloc _).yn B4.out (by omega),ah _,(K2.out.alloc _).below (by simpa using B4.out),H4.out,by rw[bV];simp;omega,fun o ho=>by
      have hne:aS s k2≠[]:=fun e=>by
       have:=ax List.length e;rw[fK,List.length_nil] at this;omega
      have:=HL.out _ (.step HS.out hne HT.out ho);rw[Rq,←G9.out] at this;exact this⟩
   ·obtain⟨g,rfl,hg⟩:=hf
    have K2:=an K1 kp2;have HT:=aa Lp;have HG:=aa hg;clear kp2 Lp hg;go_wp2_with fail
    go_ret2
    have hf':Am w2 (.iface 83 (.pointer (some ⟨g,0,none⟩))) (cY s-nl (aS s k2)):=⟨g,rfl,HG.out⟩;have hb2:=(Below.refl w2.heap.size w2).alloc (ah _) (.cells #[.int .i64 0,.int .i64 0,.int .i64 0,.string ⟨#[]⟩] 113);exact⟨(ni K2.out).trans (hb2.mono (by have:=K2.out.size;simp at this;omega)),.error _,HL.out _ (.pk HS.out HT.out),_,rfl,hf'.below hb2⟩
  ·obtain⟨g,rfl,hg⟩:=hf
   have K1:=an K0 kp1;have HS:=aa hsk;have HG:=aa hg;clear kp1 hsk hg;go_wp2_with fail
   go_ret2
   exact⟨ni K1.out,.error _,HL.out _ (.lM HS.out),_,rfl,g,rfl,HG.out⟩
theorem aB {a b c:World} (h:Below a.heap.size a b) (k:Below b.heap.size b c):Below a.heap.size a c:=h.trans (k.mono h.size)
theorem jk {B:Nat} {a b c:World} (h:Below B a b) (hB:B≤a.heap.size) (k:Below b.heap.size b c):Below B a c:=h.trans (k.mono (aK hB h.size))
theorem Lr {W:World} {B e n s:Nat} {v:Value} {xs:List Value} (h:W.ownsRow B e s v n xs) :∀k,v.ownBlock=some k→B≤k:=fun k hk=>(h.lt k hk).1
theorem ao (w:World) (o:Obj):(w.alloc o).heap.size=w.heap.size+1:=by simp
theorem dx (w:World) (cs:Array Value) (t:TypeId) (j:Nat):(w.alloc (.cells cs t)).cell? ⟨w.heap.size,j,none⟩=cs[j]?:=cell_of_row (w.alloc (.cells cs t)) w.heap.size j _ t (0,0) (heap_alloc_new w _)
def oC (W:World) (b n:Nat) (f:Nat→Value):Prop:=∀j,j<n→W.cell? ⟨b,j,none⟩=some (f j)∧W.frozen? ⟨b,j,none⟩=false
theorem oC.eq_ {W:World} {b n:Nat} {f g:Nat→Value} (h:oC W b n f) (he :∀j,j<n→f j=g j):oC W b n g:=fun j hj=>by rw[←he j hj];exact h j hj
theorem oC.Xa {W:World} {b n k:Nat} {f:Nat→Value} (h:oC W b n f) (hk:k<n) (u:Value):oC (W.setCell ⟨b,k,none⟩ u) b n (fun j=>if j=k then u else f j):=by
 intro j hj;rw[World.frozen?_setCell];show _=some (if j=k then u else f j)∧_
 by_cases e:j=k
 ·subst e
  rw[ak rfl];exact⟨World.cell?_setCell_same W _ _ (h j hj).1,(h j hj).2⟩
 ·rw[af e,World.cell?_setCell_other W _ _ _ (by intro e';injection e' with _ e2 _;omega)]
  exact h j hj
theorem oC.below {W W':World} {B b n:Nat} {f:Nat→Value} (h:oC W b n f) (hb:Below B W W') (hB:b<B):oC W' b n f:=fun j hj=>by
 rw[hb.cell (p:=⟨b,j,none⟩) hB,hb.frozen (p:=⟨b,j,none⟩) hB];exact h j hj
def eL (W:World) (v:Value) (zs:List Int):Prop :=
 ∃A c,v=.slice A zs.length c∧zs.length≤c∧(zs=[]∨∃bk o,A=some ⟨bk,o,none⟩∧bk<W.heap.size∧∀(j:Nat) z,zs[j]? = some z→W.cell? ⟨bk,o+j,none⟩=some (.int .i64 z))
theorem eL.below {W W':World} {v:Value} {zs:List Int} (h:eL W v zs) (hb:Below W.heap.size W W'):eL W' v zs:=by
 obtain⟨A,c,rfl,hc,h | ⟨bk,o,rfl,eG,hx⟩⟩:=h
 ·exact⟨A,c,rfl,hc,.inl h⟩
 ·exact⟨_,c,rfl,hc,.inr ⟨bk,o,rfl,cy eG hb.size,fun j x hj=>(hb.cell (p:=⟨bk,o+j,none⟩) eG).trans (hx j x hj)⟩⟩
def sx (W:World) (v:Value) (xs:List ByteArray):Prop :=
 ∃A c,v=.slice A xs.length c∧xs.length≤c∧(xs=[]∨∃bk o,A=some ⟨bk,o,none⟩∧bk<W.heap.size∧∀(j:Nat) x,xs[j]? = some x→W.cell? ⟨bk,o+j,none⟩=some (.string x))
theorem sx.below {W W':World} {v:Value} {xs:List ByteArray} (h:sx W v xs) (hb:Below W.heap.size W W'):sx W' v xs:=by
 obtain⟨A,c,rfl,hc,h | ⟨bk,o,rfl,eG,hx⟩⟩:=h
 ·exact⟨A,c,rfl,hc,.inl h⟩
 ·exact⟨_,c,rfl,hc,.inr ⟨bk,o,rfl,cy eG hb.size,fun j x hj=>(hb.cell (p:=⟨bk,o+j,none⟩) eG).trans (hx j x hj)⟩⟩
def cO (x:Nd) (nv kv:Value):Value:=.agg #[.int .i64 x.kind,.int .i64 x.line,.int .i64 x.op,.int .i64 x.num,.string x.s,nv,kv]
structure lQ (W:World) (b p:Nat) (x:Nd) (nv kv:Value):Prop where
 c0:W.cell? ⟨b,p,none⟩=some (.int .i64 x.kind)
 c1:W.cell? ⟨b,p+1,none⟩=some (.int .i64 x.line)
 c2:W.cell? ⟨b,p+2,none⟩=some (.int .i64 x.op)
 c3:W.cell? ⟨b,p+3,none⟩=some (.int .i64 x.num)
 c4:W.cell? ⟨b,p+4,none⟩=some (.string x.s)
 c5:W.cell? ⟨b,p+5,none⟩=some nv
 c6:W.cell? ⟨b,p+6,none⟩=some kv
theorem lQ.below {W W':World} {B b p:Nat} {x:Nd} {nv kv:Value} (h:lQ W b p x nv kv) (hb:Below B W W') (hB:b<B):lQ W' b p x nv kv :=
 ⟨(hb.cell (p:=⟨b,_,none⟩) hB).trans h.c0,(hb.cell (p:=⟨b,_,none⟩) hB).trans h.c1,(hb.cell (p:=⟨b,_,none⟩) hB).trans h.c2,(hb.cell (p:=⟨b,_,none⟩) hB).trans h.c3,(hb.cell (p:=⟨b,_,none⟩) hB).trans h.c4,(hb.cell (p:=⟨b,_,none⟩) hB).trans h.c5,(hb.cell (p:=⟨b,_,none⟩) hB).trans h.c6⟩
def sy (W:World) (v:Value) (T:List Nd):Prop :=
 ∃A c,v=.slice A T.length c∧T.length≤c∧(T=[]∨∃bk o,A=some ⟨bk,o,none⟩∧bk<W.heap.size∧∀(i:Nat) x,T[i]? = some x→∃nv kv,lQ W bk (o+i*7) x nv kv∧sx W nv x.names∧eL W kv x.kids)
theorem sy.below {W W':World} {v:Value} {T:List Nd} (h:sy W v T) (hb:Below W.heap.size W W'):sy W' v T:=by
 obtain⟨A,c,rfl,hc,h | ⟨bk,o,rfl,eG,hx⟩⟩:=h
 ·exact⟨A,c,rfl,hc,.inl h⟩
 ·exact⟨_,c,rfl,hc,.inr ⟨bk,o,rfl,cy eG hb.size,fun j x hj=>by
   obtain⟨nv,kv,h1,h2,h3⟩:=hx j x hj;exact⟨nv,kv,h1.below hb eG,h2.below hb,h3.below hb⟩⟩⟩
theorem info3:(Tryz.prog.info? 3).map (fun i=>(i.zero,i.size,i.bytes))=some (some (.int .i64 0),1,8):=by kernel_rfl
theorem Xb:(Tryz.prog.info? 180).map (fun i=>(i.zero,i.size,i.bytes))=some (some (.int .i64 0),1,8):=by kernel_rfl
theorem qc {w w':World} (h:w.grownBy w' none):Below w.heap.size w w':=⟨h.os,h.tape,h.output,h.size,fun i hi=>h.block i hi (by simp)⟩
theorem Ha (n:Nat) (hn:n≤1000000) (w:World) :∃W,(Instr.makeSlice 33 (.int .i64 (n:Int)) (.int .i64 (n:Int))).run Tryz.prog w=.ok (.slice (some ⟨w.heap.size,0,none⟩) n n) W∧Below w.heap.size w W∧w.heap.size<W.heap.size∧oC W w.heap.size n (fun _=>.int .i64 0):=by
 obtain⟨i0,ng,hz0,hz1,hz2⟩:=info_parts info3;obtain⟨W,h1,h2,h3⟩:=run_make_full (P:=Tryz.prog) w w.heap.size 33 3 i0 (.int .i64 0) 1 Tryz.underlying33 ng hz0 hz1 .i64 .i64 n (by rw[hz2];omega) (by unfold maxLen;omega) (ah _)
 refine⟨W,h1,qc h3,(h2.lt _ rfl).2,fun j hj=>⟨?_,h2.frozenAt j⟩⟩
 rw[h2.cellAt j (by omega)]
 show(madeCells #[.int .i64 0] (n*1)).toList[j]? = _
 rw[toList_madeCells_one,List.getElem?_replicate,ak (by omega)]
theorem CT (n:Nat) (hn:n≤1000000) (w:World) :∃W,(Instr.makeSlice 179 (.int .i64 (n:Int)) (.int .i64 (n:Int))).run Tryz.prog w=.ok (.slice (some ⟨w.heap.size,0,none⟩) n n) W∧Below w.heap.size w W∧w.heap.size<W.heap.size∧oC W w.heap.size n (fun _=>.int .i64 0):=by
 obtain⟨i0,ng,hz0,hz1,hz2⟩:=info_parts Xb;obtain⟨W,h1,h2,h3⟩:=run_make_full (P:=Tryz.prog) w w.heap.size 179 180 i0 (.int .i64 0) 1 Tryz.underlying179 ng hz0 hz1 .i64 .i64 n (by rw[hz2];omega) (by unfold maxLen;omega) (ah _)
 refine⟨W,h1,qc h3,(h2.lt _ rfl).2,fun j hj=>⟨?_,h2.frozenAt j⟩⟩
 rw[h2.cellAt j (by omega)]
 show(madeCells #[.int .i64 0] (n*1)).toList[j]? = _
 rw[toList_madeCells_one,List.getElem?_replicate,ak (by omega)]
def As (W:World) (B:Nat) (v:Value) (zs:List Int):Prop:=W.ownsRow B 3 1 v zs.length (zs.map (Value.int .i64))
theorem As.form {W:World} {B:Nat} {v:Value} {zs:List Int} (h:As W B v zs) (h0:0<zs.length) :∃g cap,v=.slice (some ⟨g,0,none⟩) zs.length cap∧B≤g∧g<W.heap.size∧∀(j:Nat) z,zs[j]? = some z→W.cell? ⟨g,j,none⟩=some (.int .i64 z):=by
 have hh:=h;rcases h.2 with ⟨rfl,h1⟩ | ⟨g,cap,cur,rfl,hg,_,hc,_⟩
 ·omega
 ·refine⟨g,cap,rfl,hg,(World.ownsRow.lt hh g rfl).2,fun j z hj=>?_⟩
  have hj':j<zs.length:=(aL.1 hj).1;rw[World.ownsRow.cellAt hh j (by omega),gw,hj]
  rfl
theorem Xc {ops:Array Oper} {rest:List Oper} {o:Oper} {a:Act} {Q:Exit→Act→World→Prop} (w:World) (z:Int) (hgd:o.guard=none) (sl y:Operand)
  (ho:o.op=.call { callee:=.builtin .append,args:=#[sl,y],argTypes:=#[33,33]}) (B:Nat) (v:Value) (zs:List Int) (hs:a.eval sl=v) (hown:As w B v zs) (g:Nat) (hg:g=w.heap.size) (hy:a.eval y=.slice (some ⟨g,0,none⟩) 1 1)
  (hlen:zs.length≤1000000) (hB:B≤w.heap.size)
  (h :∀v' w',As w' B v' (zs++[z])→Below B w w'→wpList Tryz.prog ops Q rest (a.put o.dst v') w'):wpList Tryz.prog ops Q (o::rest) a (w.alloc (.cells #[.int .i64 z] 3)):=by
 subst hg;obtain⟨i0,ng,hz0,hz1,hz2⟩:=info_parts info3;have hc:=cell_of_row (w.alloc (.cells #[.int .i64 z] 3)) w.heap.size 0 _ 3 (0,0) (heap_alloc_new w _);refine wpList_append_own (P:=Tryz.prog) _ hgd sl y 33 ho B 3 i0 (.int .i64 0) 1 8 Tryz.underlying33 ng hz0 hz1 hz2 rfl (by omega) v zs.length (zs.map (Value.int .i64)) hs (hown.alloc _) ⟨w.heap.size,0,none⟩ 1 1 [.int .i64 z] hy rfl
  (fun j u hj=>by
   cases j with
   | zero=>obtain rfl:=gz hj;exact hc
   | succ j=>simp at hj) (fun u hu=>by obtain rfl:=bP.1 hu;rfl) (by unfold maxLen;omega) (by omega) (by simp;omega) ?_
 intro v' w' h1 h2 _;refine h v' w' ?_ (((Below.refl _ _).alloc hB _).grown h2 (by simp;omega) (Lr hown))
 unfold As;rw[bV,mP];exact h1
def EI (w:World) (k:Nat):Prop:=∃s fz,w.heap[k]? = some (.cells #[.string s] 9 fz)
structure az (O:Nat→Prop) (w w':World):Prop where
 os:w'.os=w.os
 tape:w'.tape=w.tape
 output:w'.output=w.output
 size:w.heap.size≤w'.heap.size
 block :∀k,k<w.heap.size→¬ O k→w'.heap[k]? = w.heap[k]?
 str :∀k,EI w k→w'.heap[k]? = w.heap[k]?
def Ext (O O':Nat→Prop) (w:World):Prop:=∀k,O' k→O k∨w.heap.size≤k
theorem Ext.refl (O:Nat→Prop) (w:World):Ext O O w:=fun _ h=>.inl h
theorem Ext.trans {O O1 O2:Nat→Prop} {a b:World} (h:Ext O O1 a) (k:Ext O1 O2 b) (hs:a.heap.size≤b.heap.size):Ext O O2 a:=fun i hi=>by
 rcases k i hi with k|k
 ·exact h i k
 ·exact .inr (aK hs k)
theorem EI.lt {w:World} {k:Nat} (h:EI w k):k<w.heap.size:=by
 obtain⟨_,_,h⟩:=h;exact(aI.1 h).1
theorem az.refl (O:Nat→Prop) (w:World):az O w w:=⟨rfl,rfl,rfl,ah _,fun _ _ _=>rfl,fun _ _=>rfl⟩
theorem az.trans {O O1:Nat→Prop} {a b c:World} (h:az O a b) (k:az O1 b c) (e:Ext O O1 a):az O a c :=
 ⟨k.os.trans h.os,k.tape.trans h.tape,k.output.trans h.output,aK h.size k.size,fun i hi hO=>by
  refine(k.block i (cy hi h.size) (fun h1=>?_)).trans (h.block i hi hO)
  rcases e i h1 with h2|h2
  ·exact hO h2
  ·omega,fun i hi=>(k.str i (by obtain⟨c1,f1,h1⟩:=hi;exact⟨c1,f1,(h.str i ⟨c1,f1,h1⟩).trans h1⟩)).trans (h.str i hi)⟩
theorem az.keeps {O:Nat→Prop} {a b:World} (h:az O a b) {k:Nat} (hk:EI a k):EI b k:=by
 have:=h.str k hk;obtain⟨s,f,h1⟩:=hk;exact⟨s,f,this.trans h1⟩
theorem az.mono {O O1:Nat→Prop} {a b:World} (h:az O a b) (hO :∀k,O k→O1 k):az O1 a b:=⟨h.os,h.tape,h.output,h.size,fun i hi hn=>h.block i hi (fun h1=>hn (hO i h1)),h.str⟩
theorem az.ae {O:Nat→Prop} {a b:World} (h:Below a.heap.size a b):az O a b:=⟨h.os,h.tape,h.output,h.size,fun k hk _=>h.block k hk,fun k hk=>h.block k hk.lt⟩
theorem az.drew {O:Nat→Prop} {a b:World} (h:az O a b):az O a b.drew:=⟨h.os,h.tape,h.output,h.size,h.block,h.str⟩
theorem az.alloc {O:Nat→Prop} {a b:World} (h:az O a b) (o:Obj):az O a (b.alloc o) :=
 h.trans (O1:=O) (.ae ((Below.refl _ _).alloc (ah _) _)) (Ext.refl _ _)
theorem az.vQ {a:World} {n:Nat} {cs:Array Value} {ty:TypeId} (h:a.heap[n]? = some (.cells cs ty (0,0))) (Hb:ty≠9) (j:Nat) (v:Value):az (· = n) a (a.setCell ⟨n,j,none⟩ v) :=
 ⟨rfl,rfl,rfl,by simp[World.setCell],fun k _ hk=>Below.heap_setCell _ _ _ k hk,fun k hk=>Below.heap_setCell _ _ _ k (fun e=>by
  obtain⟨c1,f1,h1⟩:=hk;have e':k=n:=e;rw[e',h] at h1;injection h1 with h1;injection h1 with _ h1;exact Hb h1)⟩
theorem az.below {O:Nat→Prop} {a b:World} {B:Nat} (h:az O a b) (hO :∀k,O k→B≤k) (hB:B≤a.heap.size):Below B a b :=
 ⟨h.os,h.tape,h.output,h.size,fun k hk=>h.block k (by omega) (fun h1=>by have:=hO k h1;omega)⟩
theorem cS {W W':World} {B e s n:Nat} {v:Value} {xs:List Value} (h:W.ownsRow B e s v n xs) (hb :∀g,v.ownBlock=some g→W'.heap[g]? = W.heap[g]?):W'.ownsRow B e s v n xs:=by
 refine⟨h.1,?_⟩;rcases h.2 with hn | ⟨g,cap,cur,rfl,hB,hg,rest⟩
 ·exact .inl hn
 ·exact .inr ⟨g,cap,cur,rfl,hB,(hb g rfl).trans hg,rest⟩
theorem eM {W:World} {B e s n:Nat} {v:Value} {xs:List Value} (h:W.ownsRow B e s v n xs) {g:Nat} (hg:v.ownBlock=some g) :∃cur,W.heap[g]? = some (.cells cur e (0,0)):=by
 rcases h.2 with ⟨rfl,_⟩ | ⟨g',cap,cur,rfl,hB,hh,rest⟩
 ·simp[Value.ownBlock] at hg
 ·simp[Value.ownBlock] at hg
  subst hg;exact⟨cur,hh⟩
structure jD (W:World) (b:Nat) (O:Nat→Prop) (x:Nd) (nv kv:Value):Prop where
 names:W.ownsRow (b+1) 9 1 nv x.names.length (x.names.map Value.string)
 kids:W.ownsRow (b+1) 3 1 kv x.kids.length (x.kids.map (Value.int .i64))
 on :∀g,nv.ownBlock=some g→O g∨EI W g
 nz :∀g,nv.ownBlock=some g→x.names≠[]
 ok :∀g,kv.ownBlock=some g→O g
theorem jD.kept {W W':World} {b:Nat} {O O' O1:Nat→Prop} {x:Nd} {nv kv:Value} (h:jD W b O x nv kv) (hf:az O1 W W') (hd :∀g,O g→¬ O1 g) (hO :∀g,O g→O' g):jD W' b O' x nv kv :=
 ⟨cS h.names fun g hg=>(h.on g hg).elim (fun h1=>hf.block g (h.names.lt g hg).2 (hd g h1)) (hf.str g),cS h.kids fun g hg=>hf.block g (h.kids.lt g hg).2 (hd g (h.ok g hg)),fun g hg=>(h.on g hg).imp (hO g) hf.keeps,h.nz,fun g hg=>hO g (h.ok g hg)⟩
abbrev JT:=Nd×Value×Value
def aP (t:JT):List Value:=[.int .i64 t.1.kind,.int .i64 t.1.line,.int .i64 t.1.op,.int .i64 t.1.num,.string t.1.s,t.2.1,t.2.2]
structure Rv (W:World) (b:Nat) (O:Nat→Prop) (v:Value) (L:List JT):Prop where
 row:W.ownsRow (b+1) 55 7 v L.length (L.flatMap aP)
 own :∀g,v.ownBlock=some g→O g
 each :∀t∈L,jD W b O t.1 t.2.1 t.2.2
def Fin (ts:List aj):Prop:=∃us e,ts=us++[e]∧e.1=0∧∀u∈us,u.1≠0
theorem Fin.tail {t:aj} {ts:List aj} (h:Fin (t::ts)) (ht:t.1≠0):Fin ts:=by
 obtain⟨us,e,h1,h2,h3⟩:=h;cases us with
 | nil =>
  simp at h1;exact absurd (h1.1▸h2) ht
 | cons u us =>
  injection h1 with e1 e2;exact⟨us,e,e2,h2,fun x hx=>h3 x (bY _ hx)⟩
theorem Fin.ne {ts:List aj} (h:Fin ts):ts≠[]:=by
 obtain⟨us,e,h1,_⟩:=h;rw[h1];simp
structure PS (W:World) (b:Nat) (O:Nat→Prop) (ts:List aj) (T:List Nd):Prop where
 ex :∃(TS:List aj) (i g c:Nat) (nv:Value) (L:List JT),W.heap[b]? = some (.cells #[.slice (some ⟨g,0,none⟩) TS.length c,.int .i64 (i:Int),nv] 71 (0,0))∧ui W (.slice (some ⟨g,0,none⟩) TS.length c) TS∧g<b∧TS.drop i=ts∧TS.length≤20000∧Rv W b O nv L∧L.map (·.1)=T
 fin:Fin ts
 at_:O b
 own :∀k,O k→b≤k∧k<W.heap.size
structure NU (W:World) (b n:Nat) (O:Nat→Prop) (x:Nd):Prop where
 ex :∃nv kv,W.heap[n]? = some (.cells (aP (x,nv,kv)).toArray 55 (0,0))∧jD W b O x nv kv
 at_:O n
 own :∀k,O k→b<k∧k<W.heap.size
theorem ui.kept {W W':World} {g n c:Nat} {ts:List Tk} (h:ui W (.slice (some ⟨g,0,none⟩) n c) ts) (hb:W'.heap[g]? = W.heap[g]?) (hs:W.heap.size≤W'.heap.size):ui W' (.slice (some ⟨g,0,none⟩) n c) ts:=by
 obtain⟨g',cap,e,h1,h2,h3⟩:=h.ex;have hg:g=g':=by injection e with e1 _ _;injection e1 with e1;injection e1
 subst hg;refine⟨g,cap,e,h1,by omega,fun j t hj=>?_⟩
 have:=h3 j t hj;simpa[World.cell?,hb] using this
theorem PS.kept {W W':World} {b:Nat} {O O1:Nat→Prop} {ts:List aj} {T:List Nd} (h:PS W b O ts T) (hf:az O1 W W') (hd :∀k,O k→¬ O1 k) (h1 :∀k,O1 k→b≤k):PS W' b O ts T:=by
 obtain⟨TS,i,g,c,nv,L,a1,a2,a3,a4,a5,a6,a7⟩:=h.ex;have hb :∀k,O k→W'.heap[k]? = W.heap[k]?:=fun k hk=>hf.block k (h.own k hk).2 (hd k hk)
 have hlt:b<W.heap.size:=(aI.1 a1).1;refine⟨⟨TS,i,g,c,nv,L,(hb b h.at_).trans a1,a2.kept (hf.block g (by omega) (fun h2=>by have:=h1 g h2;omega)) hf.size,a3,a4,a5,⟨cS a6.row fun k hk=>hb k (a6.own k hk),a6.own,fun t ht=>(a6.each t ht).kept hf hd (fun _ h=>h)⟩,a7⟩,h.fin,h.at_,fun k hk=>⟨(h.own k hk).1,cy (h.own k hk).2 hf.size⟩⟩
theorem PS.below {W W':World} {b:Nat} {O:Nat→Prop} {ts:List aj} {T:List Nd} (h:PS W b O ts T) (hf:Below W.heap.size W W'):PS W' b O ts T :=
 h.kept (O1:=fun _=>False) (az.ae hf) (fun _ _ h=>h) (fun _ h=>h.elim)
theorem PS.fr {W:World} {b:Nat} {O:Nat→Prop} {ts:List aj} {T:List Nd} (h:PS W b O ts T) (j:Nat) (v:Value):az (· = b) W (W.setCell ⟨b,j,none⟩ v):=by
 obtain⟨TS,i,g,c,nv,L,a1,_⟩:=h.ex;exact az.vQ a1 (by decide) j v
theorem NU.fr {W:World} {b n:Nat} {O:Nat→Prop} {x:Nd} (h:NU W b n O x) (j:Nat) (v:Value):az (· = n) W (W.setCell ⟨n,j,none⟩ v):=by
 obtain⟨nv,kv,a1,_⟩:=h.ex;exact az.vQ a1 (by decide) j v
theorem NU.kept {W W':World} {b n:Nat} {O O1:Nat→Prop} {x:Nd} (h:NU W b n O x) (hf:az O1 W W') (hd :∀k,O k→¬ O1 k):NU W' b n O x:=by
 obtain⟨nv,kv,a1,a2⟩:=h.ex;exact⟨⟨nv,kv,(hf.block n (h.own n h.at_).2 (hd n h.at_)).trans a1,a2.kept hf hd (fun _ h=>h)⟩,h.at_,fun k hk=>⟨(h.own k hk).1,cy (h.own k hk).2 hf.size⟩⟩
theorem NU.below {W W':World} {b n:Nat} {O:Nat→Prop} {x:Nd} (h:NU W b n O x) (hf:Below W.heap.size W W'):NU W' b n O x:=h.kept (O1:=fun _=>False) (az.ae hf) (fun _ _ h=>h)
structure St where
 h:Nd
 xs:List Ast
 ts:List aj
 n:Nat
def dR (T0 T:List Nd) (xs:List Ast) (ks:List Int):Prop:=T0 <+: T∧∃js,bj T xs ks js∧js.Perm (List.range' T0.length (T.length-T0.length))
structure Real (W:World) (b n:Nat) (O:Nat→Prop) (T0:List Nd) (s:St):Prop where
 ex :∃(Op On:Nat→Prop) (T:List Nd) (ks:List Int),(∀k,O k↔Op k∨On k)∧(∀k,Op k→¬ On k)∧PS W b Op s.ts T∧NU W b n On { s.h with kids:=ks}∧dR T0 T s.xs ks∧T.length=s.n
def Rw (B:Nat) (W:World) (v:Value) (l:Int):Prop:=∃g,v=.iface 75 (.pointer (some ⟨g,0,none⟩))∧B≤g∧W.heap[g]? = some (.cells #[.int .i64 6,.int .i64 l] 81 (0,0))
def bx (b n:Nat) (O:Nat→Prop) (T0:List Nd) (K:St→Prop) (E:Int→Prop) (w:World) (e:Ending) (w':World):Prop :=
 az O w w'∧((∃s' O',e=.returned .nilIface∧Real w' b n O' T0 s'∧Ext O O' w∧K s')∨(∃l v,e=.returned v∧Rw w.heap.size w' v l∧E l))
def EJ (v:Value) (args:Array Value) (w:World) (Q:Ending→World→Prop):Prop :=
 ∃f first cap,v=.func (.func f) first cap∧Enters Tryz.prog f∧Calls Tryz.prog f (first++args++cap) w Q
abbrev bR:=St→(St→Prop)→(Int→Prop)→Prop
def eA (W:World) (b:Nat) (O:Nat→Prop) (v:Value) (wp:bR):Prop :=
 ∀W1 O1 T0 s n K E,az O W W1→Ext O O1 W→Real W1 b n O1 T0 s→wp s K E→EJ v #[.pointer (some ⟨n,0,none⟩)] W1 (bx b n O1 T0 K E W1)
theorem eA.later {W W':World} {b:Nat} {O O':Nat→Prop} {v:Value} {wp:bR} (h:eA W b O v wp) (hf:az O W W') (he:Ext O O' W):eA W' b O' v wp :=
 fun W1 O1 T0 s n K E h1 h2 h3 h4=>h W1 O1 T0 s n K E (hf.trans h1 he) (he.trans h2 hf.size) h3 h4
def aJ:List bR→bR
 | [],s,K,_=>K s
 | wp::r,s,K,E=>wp s (fun s'=>aJ r s' K E) E
def Rx (W:World) (O:Nat→Prop) (v:Value) (vs:List Value):Prop:=(v=.slice none 0 0∧vs=[])∨∃g,v=.slice (some ⟨g,0,none⟩) vs.length vs.length∧W.heap[g]? = some (.cells vs.toArray 122 (0,0))∧¬ O g∧vs.length≤100
theorem Rx.later {W W':World} {O O':Nat→Prop} {v:Value} {vs:List Value} (h:Rx W O v vs) (hf:az O W W') (he:Ext O O' W):Rx W' O' v vs:=by
 rcases h with h | ⟨g,h1,h2,h3,h4⟩
 ·exact .inl h
 ·have hlt:g<W.heap.size:=(aI.1 h2).1
  refine .inr ⟨g,h1,(hf.block g hlt h3).trans h2,fun h5=>?_,h4⟩
  rcases he g h5 with h6|h6
  ·exact h3 h6
  ·omega
def aF (b:Nat) (O:Nat→Prop) (T0:List Nd) (R:Except Int (Ast×List aj)→Prop) (w:World) (e:Ending) (w':World):Prop :=
 az O w w'∧((∃(p:Nat) (a:Ast) (ts:List aj) (O':Nat→Prop) (T:List Nd),e=.returned (.tuple #[.int .i64 (p:Int),.nilIface])∧PS w' b O' ts T∧Ext O O' w∧dR T0 T [a] [(p:Int)]∧R (.ok (a,ts))) ∨
  (∃l v er,e=.returned (.tuple #[v,er])∧Rw w.heap.size w' er l∧R (.error l)))
def tl (W:World) (b o:Nat) (T:List Nd):Prop:=∀(i:Nat) x,T[i]? = some x→∃nv kv,lQ W b (o+i*7) x nv kv∧sx W nv x.names∧eL W kv x.kids
def ints (m:List Nat):List Int:=m.map fun(j:Nat)=>(j:Int)
theorem nj (m:List Nat):(ints m).length=m.length:=by simp[ints]
theorem ints_at {m:List Nat} {a i:Nat} (h:m[a]? = some i):(ints m)[a]? = some (i:Int):=by simp[ints,h]
theorem Ls (m:List Nat) (j:Nat):ints (m++[j])=ints m++[(j:Int)]:=by simp[ints]
structure sW (w:World) (T:List Nd) (nv:Value) (r:Nat) (a:Nat) (d:Nat→Nat) (m:List Nat) (rf:Value) (wr:World):Prop where
 below:Below w.heap.size w wr
 size:w.heap.size+2≤wr.heap.size
 Hc:wr.cell? ⟨w.heap.size,0,none⟩=some nv
 Hd:wr.cell? ⟨w.heap.size,1,none⟩=some (.int .i64 (r:Int))
 Xd:oC wr (w.heap.size+1) T.length (fun j=>.int .i64 (d j:Int))
 row:As wr (w.heap.size+2) rf (ints m)
theorem sW.store {w wr:World} {T:List Nd} {nv:Value} {r a:Nat} {d:Nat→Nat} {m:List Nat} {rf:Value} (h:sW w T nv r a d m rf wr) {k v:Nat} (hk:k<T.length) {x:Int} (hx:x=(v:Int)):sW w T nv r a (upd d k v) m rf (wr.setCell ⟨w.heap.size+1,k,none⟩ (.int .i64 x)):=by
 subst hx;exact
 ⟨h.below.setCell (fY _) _,by have:=h.size;simpa using this,
  (World.cell?_setCell_other wr _ _ _ (by intro e;injection e with e1 _ _;omega)).trans h.Hc,(World.cell?_setCell_other wr _ _ _ (by intro e;injection e with e1 _ _;omega)).trans h.Hd,
  (h.Xd.Xa hk _).eq_ (fun j _=>by
  unfold upd;by_cases e:j=k
  ·rw[ak e,ak e]
  ·rw[af e,af e]),ownsRow_setCell_below h.row (by show w.heap.size+1<w.heap.size+2;omega) _⟩
theorem sW.grow {w wr w':World} {T:List Nd} {nv:Value} {r a:Nat} {d:Nat→Nat} {m:List Nat} {rf v':Value} (h:sW w T nv r a d m rf wr) {k:Nat} (hr:As w' (w.heap.size+2) v' (ints m++[(k:Int)])) (hb:Below (w.heap.size+2) wr w'):sW w T nv r a d (m++[k]) v' w' :=
 ⟨h.below.trans (hb.mono (by omega)),aK h.size hb.size,(hb.cell (p:=⟨_,0,none⟩) (by show w.heap.size<_;omega)).trans h.Hc,(hb.cell (p:=⟨_,1,none⟩) (by show w.heap.size<_;omega)).trans h.Hd,h.Xd.below hb (by omega),by rw[Ls];exact hr⟩
theorem CU (T:List Nd) (nv:Value) (r:Nat) (w w1:World) (hr:r<T.length) (hb1:Below (w.alloc (.cells #[nv,.int .i64 (r:Int)] 25)).heap.size (w.alloc (.cells #[nv,.int .i64 (r:Int)] 25)) w1) (hs1:w.heap.size+1<w1.heap.size)
  (h0:w1.cell? ⟨w.heap.size,0,none⟩=some nv) (h1:w1.cell? ⟨w.heap.size,1,none⟩=some (.int .i64 (r:Int))) (hf:oC w1 (w.alloc (.cells #[nv,.int .i64 (r:Int)] 25)).heap.size T.length (fun _=>.int .i64 0)) :
  sW w T nv r 0 (upd (fun _=>0) r 1) [r] (.slice (some ⟨w1.heap.size,0,none⟩) 1 1) ((w1.setCell ⟨w.heap.size+1,r,none⟩ (.int .i64 1)).alloc (.cells #[.int .i64 (r:Int)] 3)):=by
 rw[ao] at hf hb1;have hA:Below w.heap.size w w1:=((Below.refl _ _).alloc (ah _) _).trans (hb1.mono (by omega))
 have hB:Below (w.heap.size+2) (w1.setCell ⟨w.heap.size+1,r,none⟩ (.int .i64 1)) ((w1.setCell ⟨w.heap.size+1,r,none⟩ (.int .i64 1)).alloc (.cells #[.int .i64 (r:Int)] 3)):=(Below.refl _ _).alloc (by simp;omega) _
 have e1 :∀j:Nat,(⟨w.heap.size+1,r,none⟩:Addr)≠⟨w.heap.size,j,none⟩:=fun j e=>by injection e with e1 _ _;omega
 refine⟨(hA.setCell (fY _) _).trans (hB.mono (by omega)),by simp;omega,?_,?_,?_,?_⟩
 ·exact(hB.cell (p:=⟨_,0,none⟩) (by show w.heap.size<_;omega)).trans ((World.cell?_setCell_other w1 _ _ _ (e1 0)).trans h0)
 ·exact(hB.cell (p:=⟨_,1,none⟩) (by show w.heap.size<_;omega)).trans ((World.cell?_setCell_other w1 _ _ _ (e1 1)).trans h1)
 ·refine((hf.Xa hr (.int .i64 1)).eq_ (fun j _=>?_)).below hB (by omega)
  unfold upd;by_cases e:j=r
  ·rw[ak e,ak e];rfl
  ·rw[af e,af e];rfl
 ·have:=World.ownsRow_lit (base:=w.heap.size+2) (e:=3) (size:=1) (w1.setCell ⟨w.heap.size+1,r,none⟩ (.int .i64 1)) #[.int .i64 (r:Int)] 1 (by simp;omega) (by decide) rfl
  simpa[As,ints] using this
theorem eN {α:Type} {l:List α} {k:Nat} {x:α} (h:l[k]? = some x):l.drop k=x::l.drop (k+1):=by
 obtain⟨hk,rfl⟩:=aL.1 h;exact zC hk
theorem sW.drew {w wr:World} {T:List Nd} {nv:Value} {r a:Nat} {d:Nat→Nat} {m:List Nat} {rf:Value} (h:sW w T nv r a d m rf wr):sW w T nv r a d m rf wr.drew :=
 ⟨h.below.drew,h.size,h.Hc,h.Hd,h.Xd,h.row⟩
theorem At {T:List Nd} {a i:Nat} {d:Nat→Nat} {m:List Nat} (hi:m[a]? = some i) (ha:a≤T.length) (h:dy T.length (d i+1) (cw T i) d m=none):xY T (T.length+1-a) a d m=none:=by
 rw[show T.length+1-a=(T.length-a)+1 by omega]
 simp only[xY,hi,h]
theorem Lu {T:List Nd} {a i:Nat} {d d':Nat→Nat} {m m':List Nat} (hi:m[a]? = some i) (ha:a≤T.length) (h:dy T.length (d i+1) (cw T i) d m=some (d',m')):xY T (T.length+1-a) a d m=xY T (T.length+1-(a+1)) (a+1) d' m':=by
 rw[show T.length+1-a=(T.length-a)+1 by omega,show T.length+1-(a+1)=T.length-a by omega]
 simp only[xY,hi,h]
theorem Ry {T:List Nd} {a:Nat} {d:Nat→Nat} {m:List Nat} (hi:m.length≤a):xY T (T.length+1-a) a d m=some (d,m):=by
 cases e:T.length+1-a with
 | zero=>rfl
 | succ f=>simp only[xY,wo hi]
theorem rh (p:Int) (A:Option Addr) (n c:Nat) (w:World):Calls Tryz.prog 50 #[.int .i64 p,.slice A n c] w fun e w'=>e=.returned (.bool (decide (0≤p) && decide (p<(n:Int))))∧w=w':=by
 go_enter Tryz.func50,Tryz.ntmps50
 by_cases h:0≤p
 ·have g:decide (0≤p)=true:=bM h
  go_wp2_with fail
  go_ret
  exact⟨by simp[g],rfl⟩
 ·have g:decide (0≤p)=false:=bL h
  go_wp2_with fail
  go_ret
  exact⟨by simp,rfl⟩
theorem wO (p:Int) (A:Option Addr) (n c:Nat) (w:World) (h:0≤p∧p<(n:Int)):Calls Tryz.prog 50 #[.int .i64 p,.slice A n c] w fun e w'=>e=.returned (.bool true)∧w=w' :=
 (rh p A n c w).mono fun e w' hh=>⟨by rw[hh.1,bM h.1,bM h.2];rfl,hh.2⟩
theorem Au (p:Int) (A:Option Addr) (n c:Nat) (w:World) (h:¬ (0≤p∧p<(n:Int))):Calls Tryz.prog 50 #[.int .i64 p,.slice A n c] w fun e w'=>e=.returned (.bool false)∧w=w' :=
 (rh p A n c w).mono fun e w' hh=>⟨by
  rw[hh.1];by_cases h0:0≤p
  ·rw[bL (fun h1=>h ⟨h0,h1⟩),Bool.and_false]
  ·rw[bL h0,zL],hh.2⟩
theorem He (T:List Nd) (b o c r:Nat) (w:World) (hb:b<w.heap.size) (hN:T.length≤16384) (hr:r<T.length) (hn:tl w b o T) :
  Calls Tryz.prog 24 #[.agg #[.slice (some ⟨b,o,none⟩) T.length c,.int .i64 (r:Int)]] w fun e w'=>e=.returned (.int .i64 (eH T (r:Int):Int))∧Below w.heap.size w w':=by
 have HT:=aa hn;have uj:eH T (r:Int)=Er T.length (xY T (T.length+1) 0 (upd (fun _=>0) r 1) [r]):=by
  unfold eH;rw[ak ⟨hN,by omega,by omega⟩,iF]
 rw[uj];obtain⟨B,hB⟩ :∃B,B=xY T (T.length+1) 0 (upd (fun _=>0) r 1) [r]:=⟨_,rfl⟩
 rw[←hB];have HB:=aa hB;have g1:decide ((16384:Int)<(T.length:Int))=false:=bL (by omega)
 have g2:decide ((0:Int)≤(r:Int))=true:=bM (by omega)
 have g3:decide ((r:Int)<(T.length:Int))=true:=bM (by omega)
 obtain⟨w1,wP,hb1,hs1,kO⟩:=Ha T.length (by omega) (w.alloc (.cells #[.slice (some ⟨b,o,none⟩) T.length c,.int .i64 (r:Int)] 25))
 have UN:w1.cell? ⟨w.heap.size,0,none⟩=some (.slice (some ⟨b,o,none⟩) T.length c):=(hb1.cell (p:=⟨w.heap.size,0,none⟩) (by simp)).trans (dx w _ _ _)
 have UO:w1.cell? ⟨w.heap.size,1,none⟩=some (.int .i64 (r:Int)):=(hb1.cell (p:=⟨w.heap.size,1,none⟩) (by simp)).trans (dx w _ _ _)
 have qW:=kO r hr;have HF:=aa kO;have dM:=aa hb1;rw[ao] at hs1 qW wP;clear hn uj hB hb1 kO;go_enter Tryz.func24,Tryz.ntmps24
 go_wp2_with (go_at_call 50;refine(rh _ _ _ _ _).mono ?_;rintro e w' ⟨rfl,rfl⟩)
 clear wP;have HS:=aa (CU T (.slice (some ⟨b,o,none⟩) T.length c) r w w1 hr dM.out hs1 UN UO HF.out);clear dM HF qW UN UO g2 g3;go_loopg [4,5] T.length (fun z rf atv wr=>∃(a:Nat) (d:Nat→Nat) (m:List Nat),atv=.int .i64 (a:Int)∧sW w T (.slice (some ⟨b,o,none⟩) T.length c) r a d m rf wr∧Half T r a d m∧T.length-a≤z∧xY T (T.length+1-a) a d m=B)
 case atStart=>exact⟨0,_,[r],rfl,HS.out,Half.start hr,by omega,HB.out.symm⟩
 case round =>
  clear HS HB;obtain⟨a,d,m,rfl,hs,hh,hz,hbf⟩:=hrel;have zq:=hh.inv.len;have hal:=hh.le;have hm1:1≤m.length:=by rw[hh.eq];simp
  obtain⟨g,cap,rfl,hg,ri,sX⟩:=hs.row.form (by rw[nj];omega)
  rw[nj] at hs ⊢;have b0:=hs.Hc;have b1:=hs.Hd;have HS:=aa hs;have HH:=aa hh;have HGC:=aa sX;have HBF:=aa hbf;clear hs hh sX hbf;by_cases hlt:a<m.length
  ·obtain⟨i,hi⟩ :∃i,m[a]? = some i:=⟨m[a],bE hlt⟩
   have hiN:i<T.length:=HH.out.inv.lt i (ba hi);have hx:=bE hiN;obtain⟨nv,kv,fE,_,JU⟩:=HT.out i _ hx;have c6:=(HS.out.below.cell (p:=⟨b,o+i*7+6,none⟩) hb).trans fE.c6;have cm:=HGC.out a _ (ints_at hi);obtain⟨ks,Xe⟩ :∃ks,ks=T[i].kids:=⟨_,rfl⟩;rw[←Xe] at JU;have HKS:=aa Xe;clear Xe;obtain⟨KA,kc,rfl,Cm,hka⟩:=JU;have HX:=aa hx;have Xf:a≤T.length:=by omega
   clear hx;go_wp2_with fail
   go_region
   go_wp2_with fail
   go_loopg [4,47] ks.length (fun z rf kvv wr2=>∃(k:Nat) (d2:Nat→Nat) (m2:List Nat),kvv=.int .i64 (k:Int)∧k≤ks.length∧ks.length-k≤z∧sW w T (.slice (some ⟨b,o,none⟩) T.length c) r a d2 m2 rf wr2∧Inv T.length d2 m2∧m2.length=m.length+k∧m2[a]? = some i∧d2 i=d i∧(∀j,d2 j≤a+2) ∧
    dy T.length (d i+1) (ks.drop k) d2 m2=dy T.length (d i+1) ks d m)
   case atStart=>exact⟨0,d,m,rfl,aR _,ah _,HS.out.drew,HH.out.inv,rfl,hi,rfl,fun j=>by have:=HH.out.bound j;omega,rfl⟩
   case round =>
    obtain⟨k,d2,m2,rfl,hk,hz2,hs2,Lv,UP,Aw,hdi,aat,hgo⟩:=hrel;have hml2:=Lv.len;clear cm ri b0 b1 HGC;obtain⟨g2,CV,rfl,hg2,hgl2,Ax⟩:=hs2.row.form (by rw[nj];omega)
    rw[nj] at hs2 ⊢;have b0:=hs2.Hc;have b1:=hs2.Hd;have qd:=aa hs2;have HI2:=aa Lv;have UQ:=aa hgo;have HBD:=aa aat;have cm2:=Ax a _ (ints_at Aw);have HI:=aa Aw;have HDI:=aa hdi;have HLEN:=aa UP;have ack:a<m2.length:=(aL.1 HI.out).1;have hkN:k≤20000:=by omega
    clear UP hs2 Lv hgo aat Ax Aw hdi;by_cases wQ:k<ks.length
    ·obtain⟨z,hzk⟩ :∃z,ks[k]? = some z:=⟨ks[k],bE wQ⟩
     have hdr:=eN hzk;rcases hka with hnil | ⟨bk,ok,rfl,eG,hcell⟩
     ·rw[hnil] at wQ;exact absurd wQ (jx _)
     have ck:=(qd.out.below.cell (p:=⟨bk,ok+k,none⟩) eG).trans (hcell k z hzk);have HC:=aa hcell;have HZ:=aa hzk;have uk:=aa hdr;clear hcell hzk hdr;by_cases hp:0≤z∧z<(T.length:Int)
     ·obtain⟨q,rfl⟩ :∃q:Nat,z=(q:Int):=⟨z.toNat,by omega⟩
      have hq:q<T.length:=by omega
      obtain⟨cq,fq⟩:=qd.out.Xd q hq;replace cq:wr.cell? ⟨w.heap.size+1,q,none⟩=some (.int .i64 (d2 q:Int)):=cq;by_cases h0:d2 q=0
      ·rw[h0] at cq
       have hiN2:=hiN;obtain⟨ci,fi⟩:=qd.out.Xd i hiN;replace ci:wr.cell? ⟨w.heap.size+1,i,none⟩=some (.int .i64 (d i:Int)):=by rw[ci];show some (Value.int .i64 (d2 i:Int))=_;rw[HDI.out]
       have hdb:=HH.out.bound i;have yq:=qd.out.size;have acm:(ints m2).length≤1000000:=by rw[nj];omega
       have HST:=aa (qd.out.store (k:=q) (v:=d i+1) hq (x:=(d i:Int)+1) (by omega))
       go_wp2_with (first|(go_at_call 50;refine(wO _ _ _ _ _ hp).mono ?_;rintro e w' ⟨rfl,rfl⟩)|(at_builtin;refine Xc _ (q:Int) rfl _ _ rfl (w.heap.size+2) _ (ints m2) rfl HST.out.row _ (by simp) rfl acm (by simpa using yq) ?_;intro v' w' UR hb'))
       go_roundg (ks.length-(k+1))
       case measure=>omega
       case rel=>exact⟨k+1,upd d2 q (d i+1),m2++[q],by go_num,by omega,ah _,HST.out.grow UR hb',HI2.out.add hq h0 (by omega),by rw[bV,HLEN.out];rfl,by rw[kF ack];exact HI.out,by
        rw[fZ _ _ (fun e=>by subst e;have:=(HH.out.inv.iff i).2 (ba hi);have:=HDI.out;omega)];exact HDI.out,fun j=>by
        have:=HBD.out j;by_cases e:j=q
        ·subst e;rw[upd_same];omega
        ·rw[fZ _ _ e];exact this,by
        rw[←UQ.out,uk.out,dy,ak ⟨by omega,by omega,by simpa using h0⟩,iF]⟩
      ·have hne:((d2 q:Int) == 0)=false:=aE.2 (by omega)
       go_wp2_with (go_at_call 50;refine(wO _ _ _ _ _ hp).mono ?_;rintro e w' ⟨rfl,rfl⟩)
       go_ret
       have hg0:dy T.length (d i+1) ks d m=none:=by
        rw[←UQ.out,uk.out,dy,af (fun hh=>h0 (by simpa using hh.2.2))]
       exact⟨by rw[←HBF.out,At hi Xf (by rw[jg HX.out,←HKS.out];exact hg0)];rfl,qd.out.below⟩
     ·go_wp2_with (go_at_call 50;refine(Au _ _ _ _ _ hp).mono ?_;rintro e w' ⟨rfl,rfl⟩)
      go_ret
      have hg0:dy T.length (d i+1) ks d m=none:=by
       rw[←UQ.out,uk.out,dy,af (fun hh=>hp ⟨hh.1,hh.2.1⟩)]
      exact⟨by rw[←HBF.out,At hi Xf (by rw[jg HX.out,←HKS.out];exact hg0)];rfl,qd.out.below⟩
    ·have zr:k=ks.length:=by omega
     have hg1:dy T.length (d i+1) ks d m=some (d2,m2):=by
      rw[←UQ.out,zr,wy];rfl
     have hgk:dy T.length (d i+1) (cw T i) d m=some (d2,m2):=by rw[jg HX.out,←HKS.out];exact hg1
     have HHn:=aa (HH.out.step hi hgk);have HBn:=aa ((Lu hi Xf hgk).symm.trans HBF.out);clear hg1 hgk zr;go_wp2_with fail
     go_roundg (T.length-(a+1))
     case measure=>omega
     case rel=>exact⟨a+1,d2,m2,by go_num,(have h:=qd.out;⟨h.below,h.size,h.Hc,h.Hd,h.Xd,h.row⟩),HHn.out,ah _,HBn.out⟩
  ·have hae:a=m.length:=by omega
   have hB:B=some (d,m):=by rw[←HBF.out,Ry (by omega)]
   have um:=aa hB;clear hB HBF;by_cases EK:m.length<T.length
   ·have g5:decide ((m.length:Int)<(T.length:Int))=true:=bM (by omega)
    go_wp2_with fail
    go_ret
    exact⟨by rw[um.out];exact ax (fun x:Nat=>Ending.returned (.int .i64 (x:Int))) (ak EK).symm,HS.out.below⟩
   ·have g5:decide ((m.length:Int)<(T.length:Int))=false:=bL (by omega)
    obtain⟨l,hl⟩ :∃l,m[m.length-1]? = some l:=⟨m[m.length-1],bE (by omega)⟩
    have hlN:l<T.length:=HH.out.inv.lt l (ba hl);have cl:=HGC.out (m.length-1) _ (ints_at hl);have cd:wr.cell? ⟨w.heap.size+1,l,none⟩=some (.int .i64 (d l:Int)):=(HS.out.Xd l hlN).1;have EL:m.getLastD 0=l:=by
     rw[List.getLastD_eq_getLast?,List.getLast?_eq_getElem?,hl];rfl
    have HL:=aa EL;clear EL hl hae;go_wp2_with fail
    go_ret
    exact⟨by rw[um.out];exact ax (fun x:Nat=>Ending.returned (.int .i64 (x:Int))) (by rw[←HL.out];exact(af EK).symm),HS.out.below⟩
theorem Hf (T:List Nd) (A:Option Addr) (c:Nat) (r:Int) (w:World) (h:¬ (T.length≤16384∧0≤r∧r<(T.length:Int))) :
  Calls Tryz.prog 24 #[.agg #[.slice A T.length c,.int .i64 r]] w fun e w'=>e=.returned (.int .i64 (eH T r:Int))∧Below w.heap.size w w':=by
 have hd:eH T r=0:=by unfold eH;rw[af h]
 rw[hd];have b1:=(Below.refl w.heap.size w).alloc (ah _) (.cells #[.slice A T.length c,.int .i64 r] 25);by_cases hN:T.length≤16384
 ·have g1:decide ((16384:Int)<(T.length:Int))=false:=bL (by omega)
  have hp:¬ (0≤r∧r<(T.length:Int)):=fun hh=>h ⟨hN,hh⟩
  clear h hd;go_enter Tryz.func24,Tryz.ntmps24
  go_wp2_with (go_at_call 50;refine(Au _ _ _ _ _ hp).mono ?_;rintro e w' ⟨rfl,rfl⟩)
  go_ret
  exact⟨rfl,b1⟩
 ·have g1:decide ((16384:Int)<(T.length:Int))=true:=bM (by omega)
  clear h hd;go_enter Tryz.func24,Tryz.ntmps24
  go_wp2_with fail
  go_ret
  exact⟨rfl,b1⟩
def np (W:World) (v:Value) (T:List Nd) (r:Int):Prop:=∃nv,v=.agg #[nv,.int .i64 r]∧sy W nv T
theorem np.below {W W':World} {v:Value} {T:List Nd} {r:Int} (h:np W v T r) (hb:Below W.heap.size W W'):np W' v T r:=by
 obtain⟨nv,e,hn⟩:=h;exact⟨nv,e,hn.below hb⟩
theorem Ay (v:Value) (T:List Nd) (r:Int) (w:World) (h:np w v T r):Calls Tryz.prog 24 #[v] w fun e w'=>e=.returned (.int .i64 (eH T r:Int))∧Below w.heap.size w w':=by
 obtain⟨nv,rfl,A,c,rfl,hc,hn⟩:=h;by_cases hh:T.length≤16384∧0≤r∧r<(T.length:Int)
 ·rcases hn with rfl | ⟨b,o,rfl,hb,hx⟩
  ·exfalso
   have:=hh.2.2;simp at this;omega
  ·obtain⟨q,rfl⟩ :∃q:Nat,r=(q:Int):=⟨r.toNat,by omega⟩
   exact He T b o c q w hb hh.1 (by omega) hx
 ·exact Hf T A c r w hh
def dN (k:Int):Int :=
 if k=7∨k=8 then 3 else if k=9∨k=10 then 5 else if k=11 then 9 else if 1≤k∧k≤15 then 1 else if k=16∨k=17 then 16 else
 if k=18 then 32 else if k=29 then 128 else if 19≤k∧k≤32 then 64 else 0
def gB (a b:Int):Bool:=!(bits .and .i64 a b == 0)
def iV:List Int→List Int→Bool
 | _,[]=>true
 | [],_::_=>false
 | k::ks,r::rs=>gB k r && iV ks rs
theorem nr :∀{ks row:List Int},iV ks row=true→row.length≤ks.length:=by
 intro ks row;induction row generalizing ks with
 | nil=>intro _;exact aR _
 | cons r rs ih =>
  intro h;cases ks with
  | nil=>cases h
  | cons k ks =>
   rw[iV,cX] at h;have:=ih h.2;simp only[List.length_cons];omega
theorem uo :∀{ks row:List Int},ks.length<row.length→iV ks row=false:=by
 intro ks row h;cases e:iV ks row with
 | false=>rfl
 | true=>have:=nr e;omega
def ku (row:List Int) (most:Int):Nat→Int→List Int→Int×List Int
 | 0,t,ks=>(t,ks)
 | f+1,t,ks=>if t<most∧iV ks row=true then ku row most f (t+1) (ks.drop row.length) else (t,ks)
theorem Lw {row:List Int} {most:Int} (h0:0<row.length) :∀(n f:Nat) (t:Int) (ks:List Int),ks.length≤n→ks.length<f→ku row most f t ks=ku row most (ks.length+1) t ks:=by
 intro n;induction n with
 | zero =>
  intro f t ks hn hf;obtain⟨f,rfl⟩ :∃g,f=g+1:=⟨f-1,by omega⟩
  have hb:iV ks row=false:=uo (by omega)
  rw[ku,ku,af (by rw[hb];simp),af (by rw[hb];simp)]
 | succ n ih =>
  intro f t ks hn hf;obtain⟨f,rfl⟩ :∃g,f=g+1:=⟨f-1,by omega⟩
  rw[ku,ku];by_cases hc:t<most∧iV ks row=true
  ·have hl:=nr hc.2
   have hd:(ks.drop row.length).length=ks.length-row.length:=kH;rw[ak hc,ak hc,ih f _ _ (by omega) (by omega),ih ks.length _ _ (by omega) (by omega)]
  ·rw[af hc,af hc]
theorem Lx {row:List Int} {most t:Int} {ks:List Int} (h0:0<row.length) (ht:t<most) (hb:iV ks row=true):ku row most (ks.length+1) t ks=ku row most ((ks.drop row.length).length+1) (t+1) (ks.drop row.length):=by
 have hl:=nr hb;have hd:(ks.drop row.length).length=ks.length-row.length:=kH;rw[ku,ak ⟨ht,hb⟩,Lw h0 _ ks.length _ _ (ah _) (by omega)]
theorem EM {row:List Int} {most t:Int} {ks:List Int} (h:¬ (t<most∧iV ks row=true)):ku row most (ks.length+1) t ks=(t,ks):=by
 rw[ku,af h]
theorem Xg {row:List Int} {most:Int} :∀(f:Nat) (t:Int) (ks:List Int),(ku row most f t ks).2.length≤ks.length:=by
 intro f;induction f with
 | zero=>intro t ks;exact ah _
 | succ f ih =>
  intro t ks;rw[ku];split
  ·exact aK (ih _ _) (by rw[kH];omega)
  ·exact ah _
abbrev EN:=Int×Int×List Int
def fh:List EN→List Int→Bool
 | [],ks=>ks.isEmpty
 | p::ps,ks=>decide (p.1≤(ku p.2.2 p.2.1 (ks.length+1) 0 ks).1) && fh ps (ku p.2.2 p.2.1 (ks.length+1) 0 ks).2
def big:Int:=9223372036854775807
def aX (k n:Int):List EN :=
 if k=13∨k=14∨k=16 then [(1,1,[1])]
 else if k=8∨k=12∨k=17 then [(1,1,[1,1])]
 else if k=9∨k=10 then [(1,big,[1])]
 else if k=19∨k=29 then [(0,big,[1])]
 else if k=11∨k=22 then [(1,1,[32])]
 else if k=21 then [(1,1,[4])]
 else if k=28 then [(1,1,[8])]
 else if k=23 then [(1,1,[1,32])]
 else if k=24 then [(1,1,[32,1])]
 else if k=15 then [(0,big,[16])]
 else if k=18 then [(0,big,[64]),(0,1,[128])]
 else if k=25 then [(1,big,[1,32]),(0,1,[32])]
 else if k=26 then [(2,3,[1]),(1,1,[32])]
 else if k=27 then [(n,n,[1]),(1,1,[32])]
 else if k=20 then [(n,n,[2]),(1,big,[1])]
 else []
def iP (k n:Int) (ss:List Int):Bool:=fh (aX k n) ss
theorem cC {a b:Bool} (h:a=b):Ending.returned (.bool a)=.returned (.bool b):=by rw[h]
theorem Az {a b:Int} (h:a=b):Ending.returned (.int .i64 a)=.returned (.int .i64 b):=by rw[h]
theorem Hg (k:Int) (w:World):Calls Tryz.prog 106 #[.int .i64 k] w fun e w'=>e=.returned (.int .i64 (dN k))∧w=w':=by
 go_enter Tryz.func106,Tryz.ntmps106
 go_wp2_with fail
 all_goals
  go_ret
  refine⟨Az ?_,rfl⟩;simp only[dN];simp_all
  try omega
theorem Hh {ks row:List Int} {i:Nat} {k r:Int} (hk:ks[i]? = some k) (hr:row[i]? = some r):iV (ks.drop i) (row.drop i)=(gB k r && iV (ks.drop (i+1)) (row.drop (i+1))):=by
 rw[eN hk,eN hr,iV]
theorem CW (kv rv:Value) (ks row:List Int) (w:World) (hk:eL w kv ks) (hr:eL w rv row) (hl:ks.length≤1000000):Calls Tryz.prog 187 #[kv,rv] w fun e w'=>e=.returned (.bool (iV ks row))∧w=w':=by
 obtain⟨KA,kc,rfl,Cm,hka⟩:=hk;obtain⟨RA,rc,rfl,hrc,hra⟩:=hr;by_cases hlt:ks.length<row.length
 ·have hb:=uo hlt
  rw[hb];have g:decide ((ks.length:Int)<(row.length:Int))=true:=bM (by omega)
  clear hka hra hb;go_enter Tryz.func187,Tryz.ntmps187
  go_wp2_with fail
  go_ret
  exact⟨rfl,rfl⟩
 ·have g:decide ((ks.length:Int)<(row.length:Int))=false:=bL (by omega)
  have HK:=aa hka;have HR:=aa hra;clear hka hra;go_enter Tryz.func187,Tryz.ntmps187
  go_wp2_with fail
  go_loop [14] (fun i=>∃n:Nat,n≤row.length∧i=.int .i64 (n:Int)∧iV (ks.drop n) (row.drop n)=iV ks row) (fun i=>row.length-(intOf i).toNat)
  case atStart=>exact⟨0,aR _,rfl,rfl⟩
  case round =>
   obtain⟨n,hn,rfl,hb⟩:=hrel;have HB:=aa hb;clear hb;by_cases jB:n<row.length
   ·have hx:=bE jB
    have hy:=bE (show n<ks.length by omega)
    obtain⟨x,hxe⟩ :∃x,x=row[n]:=⟨_,rfl⟩;obtain⟨y,hye⟩ :∃y,y=ks[n]'(by omega):=⟨_,rfl⟩
    rw[←hxe] at hx;rw[←hye] at hy;clear hxe hye;rcases HK.out with h0 | ⟨b1,o1,rfl,_,hc1⟩
    ·rw[h0] at hy;simp at hy
    rcases HR.out with h0 | ⟨b2,o2,rfl,_,hc2⟩
    ·rw[h0] at hx;simp at hx
    have c1:=hc1 n _ hy;have c2:=hc2 n _ hx;have hstep:=Hh hy hx;have HS:=aa hstep;clear hc1 hc2 hstep hx hy HK HR;by_cases hh:bits .and .i64 y x=0
    ·go_wp2_with fail
     go_ret
     exact⟨cC (by rw[←HB.out,HS.out];simp[gB,hh]),rfl⟩
    ·have hhb:(bits .and .i64 y x == 0)=false:=aE.2 hh
     go_wp2_with fail
     go_round
     case rel=>exact⟨n+1,by omega,by go_num,by rw[←HB.out,HS.out];simp[gB,hh]⟩
     case measure=>simp[intOf];omega
   ·have he:iV (ks.drop n) (row.drop n)=true:=by
     rw[pP (show row.length≤n by omega)]
     cases ks.drop n<;>rfl
    have HE:=aa he;clear he;go_wp2_with fail
    go_ret
    exact⟨cC (by rw[←HB.out,HE.out]),rfl⟩
def Part (W:World) (v:Value) (p:EN):Prop :=
 ∃bm br bl rv,v=.func (.func 186) #[] #[.pointer (some ⟨bm,0,none⟩),.pointer (some ⟨br,0,none⟩),.pointer (some ⟨bl,0,none⟩)]∧bm<W.heap.size∧br<W.heap.size∧bl<W.heap.size ∧
  W.cell? ⟨bm,0,none⟩=some (.int .i64 p.2.1)∧W.cell? ⟨br,0,none⟩=some rv∧W.cell? ⟨bl,0,none⟩=some (.int .i64 p.1)∧eL W rv p.2.2
theorem Part.below {W W':World} {v:Value} {p:EN} (h:Part W v p) (hb:Below W.heap.size W W'):Part W' v p:=by
 obtain⟨bm,br,bl,rv,rfl,h1,h2,h3,c1,c2,c3,hn⟩:=h;have:=hb.size;exact⟨bm,br,bl,rv,rfl,by omega,by omega,by omega,(hb.cell (p:=⟨bm,0,none⟩) h1).trans c1,(hb.cell (p:=⟨br,0,none⟩) h2).trans c2,(hb.cell (p:=⟨bl,0,none⟩) h3).trans c3,hn.below hb⟩
theorem Ly (w w':World) (cs:Array Value) (t:TypeId) (j:Nat) (hb:Below (w.heap.size+1) (w.alloc (.cells cs t)) w'):w'.cell? ⟨w.heap.size,j,none⟩=cs[j]?:=(hb.cell (p:=⟨w.heap.size,j,none⟩) (dr _)).trans (dx w cs t j)
theorem kP (l m:Int) (rv:Value) (row:List Int) (w:World) (h:eL w rv row):Calls Tryz.prog 159 #[.int .i64 l,.int .i64 m,rv] w fun e w'=>∃v,e=.returned v∧Part w' v (l,m,row)∧Below w.heap.size w w':=by
 have HN:=aa h;obtain⟨A,c,rfl,hc,_⟩:=h;go_enter Tryz.func159,Tryz.ntmps159
 go_wp2_with fail
 go_ret
 have b1:=(Below.refl w.heap.size w).alloc (ah _) (.cells #[.int .i64 l] 2);have b2:=(Below.refl (w.heap.size+1) (w.alloc (.cells #[.int .i64 l] 2))).alloc (by rw[ao];exact ah _) (.cells #[.int .i64 m] 2)
 have b3:=(Below.refl (w.heap.size+1+1) ((w.alloc (.cells #[.int .i64 l] 2)).alloc (.cells #[.int .i64 m] 2))).alloc (by rw[ao,ao];exact ah _) (.cells #[.slice A row.length c] 179)
 have hb:=b1.trans ((b2.trans (b3.mono (by omega))).mono (fY _))
 refine⟨_,rfl,⟨_,_,_,_,rfl,by rw[ao,ao,ao];omega,by rw[ao,ao,ao];omega,by rw[ao,ao,ao];omega,?_,?_,?_,HN.out.below hb⟩,hb⟩
 ·have:=Ly (w.alloc (.cells #[.int .i64 l] 2)) _ #[.int .i64 m] 2 0 (by rw[ao];exact b3)
  rw[ao] at this;exact this
 ·have:=dx ((w.alloc (.cells #[.int .i64 l] 2)).alloc (.cells #[.int .i64 m] 2)) #[.slice A row.length c] 179 0
  rw[ao,ao] at this;exact this
 ·exact Ly w _ #[.int .i64 l] 2 0 (b2.trans (b3.mono (by omega)))
theorem Lz (b o j:Nat):(⟨b,o,none⟩:Addr).add j=⟨b,o+j,none⟩:=by unfold Addr.add;split<;>simp_all
theorem Hi {W:World} {A:Option Addr} {ks:List Int} {c L:Nat} (h:eL W (.slice A ks.length c) ks) (hl:L≤ks.length) (v:Value) (hv:v=.slice (if c=L then A else A.map fun a=>a.add L) (ks.length-L) (c-L)):eL W v (ks.drop L):=by
 obtain⟨A',c',e,hc,hh⟩:=h;injection e with e1 e2 e3;subst e1 e3 hv;refine⟨_,_,by rw[kH],by rw[kH];omega,?_⟩
 rcases hh with rfl | ⟨bk,o,rfl,eG,hx⟩
 ·left;simp
 ·by_cases hL:c=L
  ·left
   exact pP (by omega)
  ·right
   refine⟨bk,o+L,by rw[af hL,oN,Lz],eG,fun j z hj=>?_⟩
   rw[zH] at hj;have:=hx (L+j) z hj;rw[show o+L+j=o+(L+j) by omega]
   exact this
theorem LB {v:Value} {a b:Bool} (h:a=b):Ending.returned (.tuple #[v,.bool a])=.returned (.tuple #[v,.bool b]):=by rw[h]
theorem LC (kv:Value) (p:EN) (ks:List Int) (bm br bl:Nat) (rv:Value) (w:World) (hbm:w.cell? ⟨bm,0,none⟩=some (.int .i64 p.2.1)) (hbr:w.cell? ⟨br,0,none⟩=some rv) (hbl:w.cell? ⟨bl,0,none⟩=some (.int .i64 p.1)) (hr:eL w rv p.2.2)
  (hk:eL w kv ks) (hl:ks.length≤1000000) (h0:0<p.2.2.length) :
  Calls Tryz.prog 186 #[kv,.pointer (some ⟨bm,0,none⟩),.pointer (some ⟨br,0,none⟩),.pointer (some ⟨bl,0,none⟩)] w fun e w'=>∃kv',e=.returned (.tuple #[kv',.bool (decide (p.1≤(ku p.2.2 p.2.1 (ks.length+1) 0 ks).1))])∧eL w' kv' (ku p.2.2 p.2.1 (ks.length+1) 0 ks).2∧Below w.heap.size w w':=by
 obtain⟨least,most,row⟩:=p;simp only at hbm hbr hbl hr h0 ⊢;have HR:=aa hr;obtain⟨RA,rc,rfl,hrc,_⟩:=hr;go_enter Tryz.func186,Tryz.ntmps186
 go_wp2_with fail
 go_loop [0,7] (fun kv t=>∃(ir:List Int) (n:Nat),t=.int .i64 (n:Int)∧eL w kv ir∧ir.length+n≤ks.length∧ku row most (ir.length+1) (n:Int) ir=ku row most (ks.length+1) 0 ks) (fun _ t=>ks.length-(intOf t).toNat)
 case atStart=>exact⟨ks,0,rfl,hk,ah _,rfl⟩
 case round =>
  clear hk;obtain⟨ir,n,rfl,hk,hn,he⟩:=hrel;have HK:=aa hk;obtain⟨KA,kc,rfl,Cm,_⟩:=hk;have HE:=aa he;clear he;have HB:=aa (CW _ _ ir row w HK.out HR.out (by omega))
  by_cases hm:(n:Int)<most
  ·have g:decide ((n:Int)<most)=true:=bM hm
   cases hb:iV ir row with
   | true =>
    have acn:=nr hb;have HS:=aa (Lx h0 hm hb);have um:=aa hb;clear hb;go_wp2_with (go_at_call 187;refine HB.out.mono ?_;rintro e w' ⟨rfl,rfl⟩;rw[um.out])
    refine⟨⟨ir.drop row.length,n+1,by go_num,Hi HK.out acn _ rfl,by rw[kH];omega,?_⟩,by simp[intOf];omega⟩
    rw[←HE.out,HS.out];rfl
   | false =>
    have HS:=aa (EM (row:=row) (most:=most) (t:=(n:Int)) (ks:=ir) (by rw[hb];simp))
    have um:=aa hb;clear hb;go_wp2_with (go_at_call 187;refine HB.out.mono ?_;rintro e w' ⟨rfl,rfl⟩;rw[um.out])
    go_region
    go_wp2_with fail
    go_ret2
    exact⟨_,LB (by rw[←HE.out,HS.out]),by rw[←HE.out,HS.out];exact HK.out.below (Below.refl _ _).drew,(Below.refl _ _).drew⟩
  ·have g:decide ((n:Int)<most)=false:=bL hm
   have HS:=aa (EM (row:=row) (most:=most) (t:=(n:Int)) (ks:=ir) (fun hh=>hm hh.1))
   go_wp2_with fail
   go_region
   go_wp2_with fail
   go_ret2
   exact⟨_,LB (by rw[←HE.out,HS.out]),by rw[←HE.out,HS.out];exact HK.out.below (Below.refl _ _).drew,(Below.refl _ _).drew⟩
def sz (W:World) (v:Value) (ps:List EN):Prop :=
 ∃A c,v=.slice A ps.length c∧(ps=[]∨∃bk o,A=some ⟨bk,o,none⟩∧bk<W.heap.size∧∀(j:Nat) p,ps[j]? = some p→∃u,W.cell? ⟨bk,o+j,none⟩=some u∧Part W u p)
theorem sz.below {W W':World} {v:Value} {ps:List EN} (h:sz W v ps) (hb:Below W.heap.size W W'):sz W' v ps:=by
 obtain⟨A,c,rfl,h | ⟨bk,o,rfl,eG,hx⟩⟩:=h
 ·exact⟨A,c,rfl,.inl h⟩
 ·exact⟨_,c,rfl,.inr ⟨bk,o,rfl,cy eG hb.size,fun j p hj=>by
   obtain⟨u,h1,h2⟩:=hx j p hj;exact⟨u,(hb.cell (p:=⟨bk,o+j,none⟩) eG).trans h1,h2.below hb⟩⟩⟩
def Rz (W:World) (v:Value) (ps:List EN):Prop:=∃bp pv,v=.func (.func 185) #[] #[.pointer (some ⟨bp,0,none⟩)]∧bp<W.heap.size∧W.cell? ⟨bp,0,none⟩=some pv∧sz W pv ps
theorem nw (pv:Value) (ps:List EN) (w:World) (h:sz w pv ps):Calls Tryz.prog 158 #[pv] w fun e w'=>∃v,e=.returned v∧Rz w' v ps∧Below w.heap.size w w':=by
 have HN:=aa h;obtain⟨A,c,rfl,_⟩:=h;go_enter Tryz.func158,Tryz.ntmps158
 go_wp2_with fail
 go_ret
 have b1:=(Below.refl w.heap.size w).alloc (ah _) (.cells #[.slice A ps.length c] 256);exact⟨_,rfl,⟨_,_,rfl,by rw[ao];exact dr _,dx w _ _ _,HN.out.below b1⟩,b1⟩
theorem wR {W:World} {b:Nat} {u:Value} {p:EN} (hb:b<W.heap.size) (h:W.cell? ⟨b,0,none⟩=some u) (hp:Part W u p):sz W (.slice (some ⟨b,0,none⟩) 1 1) [p] :=
 ⟨_,1,rfl,.inr ⟨b,0,rfl,hb,fun j q hj=>by
  cases j with
  | zero=>obtain rfl:=gz hj;exact⟨u,h,hp⟩
  | succ j=>simp at hj⟩⟩
theorem wS {W:World} {b:Nat} {u1 u2:Value} {p1 p2:EN} (hb:b<W.heap.size) (h1:W.cell? ⟨b,0,none⟩=some u1) (h2:W.cell? ⟨b,1,none⟩=some u2) (lF:Part W u1 p1) (sA:Part W u2 p2):sz W (.slice (some ⟨b,0,none⟩) 2 2) [p1,p2] :=
 ⟨_,2,rfl,.inr ⟨b,0,rfl,hb,fun j q hj=>by
  match j,hj with
  | 0,hj=>obtain rfl:=gz hj;exact⟨u1,h1,lF⟩
  | 1,hj=>obtain rfl:=gz hj;exact⟨u2,h2,sA⟩
  | j+2,hj=>simp at hj⟩⟩
theorem nx (w:World) (z:Int) (t:TypeId) (g:Nat) (hg:g=w.heap.size):eL (w.alloc (.cells #[.int .i64 z] t)) (.slice (some ⟨g,0,none⟩) 1 1) [z]:=by
 subst hg;exact⟨_,1,rfl,ah _,.inr ⟨w.heap.size,0,rfl,by rw[ao];exact dr _,fun j q hj=>by
  cases j with
  | zero=>obtain rfl:=gz hj;exact dx w _ _ _
  | succ j=>simp at hj⟩⟩
theorem AA (w:World) (y z:Int) (t:TypeId) (g:Nat) (hg:g=w.heap.size):eL (w.alloc (.cells #[.int .i64 y,.int .i64 z] t)) (.slice (some ⟨g,0,none⟩) 2 2) [y,z]:=by
 subst hg;exact⟨_,2,rfl,ah _,.inr ⟨w.heap.size,0,rfl,by rw[ao];exact dr _,fun j q hj=>by
  match j,hj with
  | 0,hj=>obtain rfl:=gz hj;exact dx w _ _ _
  | 1,hj=>obtain rfl:=gz hj;exact dx w _ _ _
  | j+2,hj=>simp at hj⟩⟩
theorem AB (rv:Value) (row:List Int) (w:World) (h:eL w rv row):Calls Tryz.prog 157 #[rv] w fun e w'=>∃v,e=.returned v∧Rz w' v [(1,1,row)]∧Below w.heap.size w w':=by
 have HN:=aa (kP 1 1 rv row w h);obtain⟨A,c,rfl,_⟩:=h;go_enter Tryz.func157,Tryz.ntmps157
 go_wp2_with fail
 refine HN.out.mono ?_;rintro e w1 ⟨u,rfl,hp,b1⟩;have HP:=aa hp;have B1:=aa b1;obtain⟨bm,br,bl,rv',rfl,_⟩:=hp;clear b1;go_wp2_with fail
 have b2:=(Below.refl w1.heap.size w1).alloc (ah _) (.cells #[.func (.func 186) #[] #[.pointer (some ⟨bm,0,none⟩),.pointer (some ⟨br,0,none⟩),.pointer (some ⟨bl,0,none⟩)]] 231);refine(nw _ [(1,1,row)] _ (wR (b:=w1.heap.size) (by rw[ao];exact dr _) (dx w1 _ _ _) (HP.out.below b2))).mono ?_
 rintro e w2 ⟨v,rfl,hr,b3⟩;have HR:=aa hr;have B3:=aa (aB B1.out (aB b2 b3));obtain⟨bp,pv,rfl,_⟩:=hr;clear b2 b3;go_wp2_with fail
 go_ret
 exact⟨_,rfl,HR.out,B3.out⟩
theorem LD (pv kv:Value) (ps:List EN) (ks:List Int) (bp:Nat) (w:World) (hbp:w.cell? ⟨bp,0,none⟩=some pv) (hp:sz w pv ps) (hk:eL w kv ks) (hl:ks.length≤1000000) (h0 :∀p∈ps,0<p.2.2.length) (Xh:ps.length≤1000) :
  Calls Tryz.prog 185 #[kv,.pointer (some ⟨bp,0,none⟩)] w fun e w'=>e=.returned (.bool (fh ps ks))∧Below w.heap.size w w':=by
 have HP:=aa hp;obtain⟨PA,pc,rfl,hpa⟩:=hp;have HPA:=aa hpa;have H0:=aa h0;clear hpa h0;go_enter Tryz.func185,Tryz.ntmps185
 go_wp2_with fail
 go_loopw [0,10] (fun kv i wr=>∃(ir:List Int) (n:Nat),i=.int .i64 (n:Int)∧n≤ps.length∧eL wr kv ir∧ir.length≤1000000∧fh (ps.drop n) ir=fh ps ks∧Below w.heap.size w wr) (fun _ i _=>ps.length-(intOf i).toNat)
 case atStart=>exact⟨ks,0,rfl,aR _,hk,hl,rfl,Below.refl _ _⟩
 case round =>
  clear hk hl;obtain⟨ir,n,rfl,hn,hk,hl,he,hbl⟩:=hrel;have HK:=aa hk;obtain⟨KA,kc,rfl,Cm,_⟩:=hk;have HE:=aa he;have HB:=aa hbl;clear he hbl;by_cases jB:n<ps.length
  ·obtain⟨p,ZI⟩ :∃p,ps[n]? = some p:=⟨ps[n],bE jB⟩
   have hdr:=eN ZI;rcases HPA.out with hnil | ⟨b1,o1,rfl,hb1,hc1⟩
   ·rw[hnil] at jB;exact absurd jB (jx _)
   obtain⟨u,hcu,hpu⟩:=hc1 n p ZI;have aco:=hpu.below HB.out;have hcu':=(HB.out.cell (p:=⟨b1,o1+n,none⟩) hb1).trans hcu;obtain⟨bm,br,bl,rv,rfl,_,_,_,d1,d2,d3,dn⟩:=aco;have sB:=aa (LC _ p ir bm br bl rv wr d1 d2 d3 dn HK.out hl (H0.out p (ba ZI)));have uk:=aa hdr;obtain⟨q,hq⟩ :∃q,q=ku p.2.2 p.2.1 (ir.length+1) 0 ir:=⟨_,rfl⟩;rw[←hq] at sB;have HQ:=aa hq;have ad3:q.2.length≤ir.length:=by rw[hq];exact Xg _ _ _
   clear hc1 hcu hpu d1 d2 d3 dn hdr ZI hq;go_wp2_with fail
   refine sB.out.mono ?_;rintro e w2 ⟨kv',rfl,hk2,b2⟩;have HK2:=aa hk2;obtain⟨KA2,kc2,rfl,hkc2,_⟩:=hk2;have B2:=aa (jk HB.out (ah _) b2);clear b2;by_cases hle:p.1≤q.1
   ·have g:decide (p.1≤q.1)=true:=bM hle
    rw[g];go_wp2_with fail
    go_roundw
    case rel=>exact⟨q.2,n+1,by go_num,by omega,HK2.out,by omega,by rw[←HE.out,uk.out,fh,←HQ.out,g,kJ],B2.out⟩
    case measure=>simp[intOf];omega
   ·have g:decide (p.1≤q.1)=false:=bL hle
    rw[g];go_wp2_with fail
    go_ret
    exact⟨cC (by rw[←HE.out,uk.out,fh,←HQ.out,g,zL]),B2.out⟩
  ·have hdr:ps.drop n=[]:=pP (by omega)
   have uk:=aa hdr;clear hdr;go_wp2_with fail
   go_ret
   refine⟨cC ?_,HB.out⟩;rw[←HE.out,uk.out,fh];cases ir with
   | nil=>rfl
   | cons a t=>simp;omega
end Go.Proofs.YteflkdlaoiijbaaGreatDoor
