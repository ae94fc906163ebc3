/- Parts of the proof. -/
import Derived.Laws.IdiomStrings
import Derived.Laws.OwnMore
import Derived.Laws.AppendOwn
import Derived.OwnWalk
import Derived.Lib.AppendStr
import Derived.Laws.Append
import Derived.Laws.MakeOwn
import Derived.OneCell
import Derived.Test.YteflkdlaoiijbaaGreatDoorB02
set_option maxHeartbeats 16000000
set_option maxRecDepth 20000
namespace Go.Proofs.YteflkdlaoiijbaaGreatDoor
open Go.RowKit
theorem dv (c:UInt8) (r:List UInt8):mS (c::r)=lR c r:=rfl
theorem AF (b:Nat) (s:ByteArray) (k:Nat) (w:World) (h:Rd w b s k):Calls Tryz.prog 137 #[.pointer (some ⟨b,0,none⟩)] w (bP b s k w (mS (aR s k))):=by
 by_cases hk:k=s.size
 ·exact LO b s k w h hk
 ·have hk:k<s.size:=by have:=h.le;omega
  have hs:=iO s k hk;have acm:=XF b s k w h hk;have acn:=XG b s k w h hk;have aaz:=Sh b s k w h hk;have aaA:=Si b s k w h hk;have aaB:=Sj b s k w h hk;have aaC:=Sk b s k w h hk;have aaD:=Sl b s k w h hk;have aco:=XH b s k w h hk;have acp:=XI b s k w h hk;have acq:=XJ b s k w h hk;have acr:=XK b s k w h hk;have aaE:=Sm b s k w h hk;have aaF:=Sn b s k w h hk;have acs:=XL b s k w h hk;have acu:=XM b s k w h hk;have acv:=XN b s k w h hk;have acw:=XO b s k w h hk;have acx:=XP b s k w h hk;have acy:=XQ b s k w h hk;have acz:=XS b s k w h hk;have acA:=XT b s k w h hk;have acB:=XU b s k w h hk;have acC:=XV b s k w h hk;have other:=Hn b s k w h hk s[k] rfl;generalize s[k]=c at *;have o0 :∀c':UInt8,uj c'=none→oY c'=false→c'.toNat≠122→c'.toNat≠120→gr c'=true→c=c'→mS (aR s k)=code 10 gr 1 3 (aR s k):=fun c' a1 a2 a3 a4 a5 e=>by
   rw[hs,e];exact(dv _ _).trans (CW _ a1 a2 a3 a4 a5)
  have jY :∀v:UInt8,c.toNat=v.toNat→c=v:=fun v h=>zV.1 h
  by_cases e:c.toNat=97
  ·rw[hs,jY 97 e,show mS (97::aR s (k+1))=some ([7],aR s (k+1)) from(dv _ _).trans (fj _ (by decide))];exact acm (jY 97 e)
  by_cases e:c.toNat=98
  ·rw[hs,jY 98 e,show mS (98::aR s (k+1))=some ([8],aR s (k+1)) from(dv _ _).trans (fj _ (by decide))];exact acn (jY 98 e)
  by_cases e:c.toNat=102
  ·rw[hs,jY 102 e,show mS (102::aR s (k+1))=some ([12],aR s (k+1)) from(dv _ _).trans (fj _ (by decide))];exact aaz (jY 102 e)
  by_cases e:c.toNat=110
  ·rw[hs,jY 110 e,show mS (110::aR s (k+1))=some ([10],aR s (k+1)) from(dv _ _).trans (fj _ (by decide))];exact aaA (jY 110 e)
  by_cases e:c.toNat=114
  ·rw[hs,jY 114 e,show mS (114::aR s (k+1))=some ([13],aR s (k+1)) from(dv _ _).trans (fj _ (by decide))];exact aaB (jY 114 e)
  by_cases e:c.toNat=116
  ·rw[hs,jY 116 e,show mS (116::aR s (k+1))=some ([9],aR s (k+1)) from(dv _ _).trans (fj _ (by decide))];exact aaC (jY 116 e)
  by_cases e:c.toNat=118
  ·rw[hs,jY 118 e,show mS (118::aR s (k+1))=some ([11],aR s (k+1)) from(dv _ _).trans (fj _ (by decide))];exact aaD (jY 118 e)
  by_cases e:c.toNat=92
  ·rw[hs,jY 92 e,show mS (92::aR s (k+1))=some ([92],aR s (k+1)) from(dv _ _).trans (jr _ (by decide) (by decide))];exact aco (jY 92 e)
  by_cases e:c.toNat=39
  ·rw[hs,jY 39 e,show mS (39::aR s (k+1))=some ([39],aR s (k+1)) from(dv _ _).trans (jr _ (by decide) (by decide))];exact acp (jY 39 e)
  by_cases e:c.toNat=34
  ·rw[hs,jY 34 e,show mS (34::aR s (k+1))=some ([34],aR s (k+1)) from(dv _ _).trans (jr _ (by decide) (by decide))];exact acq (jY 34 e)
  by_cases e:c.toNat=10
  ·rw[hs,jY 10 e,show mS (10::aR s (k+1))=some ([10],aR s (k+1)) from(dv _ _).trans (jr _ (by decide) (by decide))];exact acr (jY 10 e)
  by_cases e:c.toNat=122
  ·rw[hs,jY 122 e,show mS (122::aR s (k+1))=some ([],(aR s (k+1)).dropWhile oX) from(dv _ _).trans (CU _ (by decide) (by decide) (by decide))];exact aaE (jY 122 e)
  by_cases e:c.toNat=120
  ·rw[hs,jY 120 e,show mS (120::aR s (k+1))=code 16 zB 2 2 (aR s (k+1)) from(dv _ _).trans (CV _ (by decide) (by decide) (by decide))];exact aaF (jY 120 e)
  by_cases e:c.toNat=48
  ·rw[o0 48 (by decide) (by decide) (by decide) (by decide) (by decide) (jY 48 e)];exact acs (jY 48 e)
  by_cases e:c.toNat=49
  ·rw[o0 49 (by decide) (by decide) (by decide) (by decide) (by decide) (jY 49 e)];exact acu (jY 49 e)
  by_cases e:c.toNat=50
  ·rw[o0 50 (by decide) (by decide) (by decide) (by decide) (by decide) (jY 50 e)];exact acv (jY 50 e)
  by_cases e:c.toNat=51
  ·rw[o0 51 (by decide) (by decide) (by decide) (by decide) (by decide) (jY 51 e)];exact acw (jY 51 e)
  by_cases e:c.toNat=52
  ·rw[o0 52 (by decide) (by decide) (by decide) (by decide) (by decide) (jY 52 e)];exact acx (jY 52 e)
  by_cases e:c.toNat=53
  ·rw[o0 53 (by decide) (by decide) (by decide) (by decide) (by decide) (jY 53 e)];exact acy (jY 53 e)
  by_cases e:c.toNat=54
  ·rw[o0 54 (by decide) (by decide) (by decide) (by decide) (by decide) (jY 54 e)];exact acz (jY 54 e)
  by_cases e:c.toNat=55
  ·rw[o0 55 (by decide) (by decide) (by decide) (by decide) (by decide) (jY 55 e)];exact acA (jY 55 e)
  by_cases e:c.toNat=56
  ·rw[o0 56 (by decide) (by decide) (by decide) (by decide) (by decide) (jY 56 e)];exact acB (jY 56 e)
  by_cases e:c.toNat=57
  ·rw[o0 57 (by decide) (by decide) (by decide) (by decide) (by decide) (jY 57 e)];exact acC (jY 57 e)
  have hno:mS (aR s k)=none:=by
   rw[hs,dv];refine yC _ ?_ ?_ (by assumption) (by assumption) ?_
   ·unfold uj;simp[*]
   ·unfold oY;simp[*]
   ·unfold gr;rw[zQ];omega
  rw[hno];refine other ?_;intro v hv;simp only[bb,oS,oV] at hv;rcases hv with rfl|rfl|rfl|rfl|rfl|rfl|rfl|rfl|rfl|rfl|rfl|rfl|rfl|rfl|rfl|rfl|rfl|rfl|rfl|rfl|rfl|rfl|rfl<;>assumption
def nA (l:List UInt8):List Value:=l.map fun b=>Value.int .u8 (b.toNat:Int)
theorem C5 (a b:List UInt8):nA (a++b)=nA a++nA b:=by simp[nA]
def rn (W:World) (B:Nat) (v:Value) (l:List UInt8):Prop:=W.ownsRow B 5 1 v l.length (nA l)
theorem rn.nil (W:World) (B:Nat):rn W B (.slice none 0 0) []:=World.ownsRow_nil W B 5 1
theorem So {W:World} {B e n size:Nat} {v:Value} {xs:List Value} (h:W.ownsRow B e size v n xs) :∀k,v.ownBlock=some k→B≤k:=fun k hk=>(h.lt k hk).1
theorem rn.kp {b B:Nat} {W W':World} {v:Value} {l:List UInt8} (h:rn W B v l) (hk:Kp b W W') (hb:b<B):rn W' B v l:=by
 refine World.ownsRow.kept h hk ?_;rcases h.2 with ⟨rfl,_⟩ | ⟨g,_,_,rfl,hg,_⟩
 ·left;rfl
 ·right
  intro e;have:g=b:=by simpa[Value.ownBlock] using e
  omega
theorem aaG:(Tryz.prog.info? 5).map (fun i=>(i.zero,i.size,i.bytes))=some (some (.int .u8 0),1,1):=by kernel_rfl
theorem LP {ops:Array Oper} {rest:List Oper} {o:Oper} {a:Act} {Q:Exit→Act→World→Prop} (w:World) (hgd:o.guard=none) (sl x:Operand)
  (ho:o.op=.call { callee:=.builtin .append,args:=#[sl,x],argTypes:=#[216,216]}) (B:Nat) (v:Value) (l:List UInt8) (hs:a.eval sl=v) (hown:rn w B v l) (y:Value) (hx:a.eval x=y) (m:List UInt8) (hm:Bts w y m)
  (hlen:l.length≤1000000) (hB:B≤w.heap.size)
  (h :∀v' w',rn w' B v' (l++m)→Below B w w'→wpList Tryz.prog ops Q rest (a.put o.dst v') w'):wpList Tryz.prog ops Q (o::rest) a w:=by
 obtain⟨i0,nB,hz0,hz1,hz2⟩:=info_parts aaG;rcases hm with ⟨rfl,rfl⟩ | ⟨g,u,rfl,rfl,hc⟩
 ·refine wpList_plain hgd fun _ hK=>?_
  have hr:=run_append_owned_none (P:=Tryz.prog) (w:=w) B 216 o.type 5 i0 1 Tryz.underlying216 nB v l.length (nA l) hown;unfold Oper.wp execOp;simp only[ho,resolve,invoke,builtin,Sem.run_bind,Sem.run_pure,Result.andThen_ok,La,gi,List.map_nil,hs,hx,hr];exact hK _ _ (h v w (by rw[j8];exact hown) (Below.refl _ _))
 ·refine wpList_append_own (P:=Tryz.prog) _ hgd sl x 216 ho B 5 i0 (.int .u8 0) 1 1 Tryz.underlying216 nB hz0 hz1 hz2 rfl (by omega) v l.length (nA l) hs hown ⟨g,0,none⟩ 1 1 [.int .u8 (u.toNat:Int)] hx rfl
   (fun j q hj=>by
    cases j with
    | zero=>obtain rfl:=gG hj;exact hc
    | succ j=>simp at hj) (fun q hq=>by obtain rfl:=bI.1 hq;rfl) (by unfold maxLen;omega) (by omega) hB ?_
  intro v' w' h1 h2 _;refine h v' w' ?_ ((Below.refl _ _).grown h2 hB (So hown));unfold rn;rw[bM,C5];exact h1
theorem C7 {W:World} {B:Nat} {v:Value} {l:List UInt8} (h:rn W B v l):(convert 216 9 v).run Tryz.prog W=.ok (.string ⟨l.toArray⟩) W:=by
 rcases h.2 with ⟨rfl,h0⟩ | ⟨g,cap,cur,rfl,_⟩
 ·obtain rfl:l=[]:=mw h0
  exact run_convert_bytes_nil W 216 5 Tryz.underlying216 Tryz.underlying5 0 0 9 Tryz.underlying9
 ·exact run_convert_bytes_back (P:=Tryz.prog) W 216 9 5 ⟨g,0,none⟩ cap l Tryz.underlying216 Tryz.underlying5 Tryz.underlying9 (fun j hj=>by
   have hc:=World.ownsRow.cells h (g:=g) rfl j (.int .u8 (l[j].toNat:Int)) (by simp[nA,hj])
   exact hc)
theorem Kp.below {b:Nat} {w0 w w':World} (h:Kp b w0 w) (k:Below w0.heap.size w w'):Kp b w0 w' :=
 ⟨k.os.trans h.os,k.tape.trans h.tape,k.output.trans h.output,aK h.size k.size,fun i hi hne=>(k.block i hi).trans (h.block i hi hne)⟩
theorem Rd.yI {W W':World} {B b:Nat} {s:ByteArray} {k:Nat} (h:Rd W b s k) (hb:Below B W W') (hB:b<B):Rd W' b s k:=by
 have hf:=h.far;obtain⟨m,hm⟩:=h.mx;exact⟨(hb.block b hB).trans h.blk,h.le,h.top,h.far,m,(hb.cell (p:=⟨1,0,none⟩) (by show 1<B;omega)).trans hm⟩
def Sq (q:UInt8) (b:Nat) (s:ByteArray) (k:Nat) (w:World) (e:Ending) (w':World):Prop:=∃o,qZ q (aR s (k+1)) o∧jF b s k w o e w'
theorem map_nil (o:Option (List UInt8×List UInt8)):o.map (fun x=>([]++x.1,x.2))=o:=by cases o<;>rfl
theorem Fc (o:Option (List UInt8×List UInt8)) (out m:List UInt8):(o.map fun x=>(m++x.1,x.2)).map (fun x=>(out++x.1,x.2))=o.map fun x=>((out++m)++x.1,x.2):=by
 cases o<;>simp
theorem LQ (s:ByteArray) (k:Nat) (h:k<s.size) (X:ByteArray) (hX:X=s.extract k (k+1)) (h':0<X.size):X[0]=s[k]:=by
 subst hX;rw[ByteArray.getElem_extract];simp
theorem LS (s:ByteArray) (k:Nat) (h:k<s.size):(s.extract k (k+1)).size=1:=by rw[tU];omega
theorem take_one (b:Nat) (s:ByteArray) (k:Nat) (hk:k<s.size) :∃X:ByteArray,∃hX:0<X.size,X[0]=s[k]∧∀W,Rd W b s k→Calls Tryz.prog 67 #[.pointer (some ⟨b,0,none⟩),.int .i64 1] W fun e w'=>e=.returned (.string X)∧Rd w' b s (k+1)∧Kp b W w':=by
 have hs:=LS s k hk;exact⟨s.extract k (k+1),by omega,LQ s k hk _ rfl (by omega),fun W h=>bq b s k 1 W h (by omega)⟩
theorem rn.form {W:World} {B:Nat} {v:Value} {l:List UInt8} (h:rn W B v l) :∃A c,v=.slice A l.length c:=by
 rcases h.2 with ⟨rfl,h0⟩ | ⟨g,cap,_,rfl,_⟩
 ·exact⟨none,0,by rw[h0]⟩
 ·exact⟨_,_,rfl⟩
theorem C8 (b:Nat) (s:ByteArray) (k:Nat) (w:World) (h:Rd w b s k) (hk:k<s.size) (q:UInt8) (hq:s[k]=q) (acD:q≠10) (aaH:q≠92) :
  Calls Tryz.prog 79 #[.pointer (some ⟨b,0,none⟩)] w (Sq q b s k w):=by
 have cb:=h.top;have iP:=h.lt;have HR:=aa h;obtain⟨X,eG,sE,hT⟩:=take_one b s k hk;rw[hq] at sE;have T1:=aa hT;clear h hT hq;go_enter Tryz.func79,Tryz.ntmps79
 go_wp2_with fail
 refine(T1.out _ HR.out).mono ?_;rintro e w1 ⟨rfl,r1,k1⟩;have R1:=aa r1;have K1:=aa k1;clear r1 k1;go_wp2_with fail
 clear sE eG;go_loopg [5] s.size (fun z tv wr=>∃(k1:Nat) (out:List UInt8),Rd wr b s k1∧k<k1∧s.size-k1≤z∧Kp b w wr∧rn wr w.heap.size tv out∧out.length+k≤k1∧∀o,qZ q (aR s k1) o→qZ q (aR s (k+1)) (o.map fun x=>(out++x.1,x.2)))
 case atStart=>exact⟨k+1,[],R1.out,by omega,by omega,K1.out,rn.nil _ _,by simp,fun o h=>by rw[map_nil];exact h⟩
 case round =>
  obtain⟨k1,out,hr,hlt,hz,Se,aaI,s9,aaJ⟩:=hrel;have Sf:=hr.le;have R0:=aa hr;have K0:=aa Se;have HB:=aa aaI;have HQ:=aa aaJ;have hsz0:=Se.size;clear hr Se aaI aaJ;obtain⟨Y,hY⟩ :∃Y:ByteArray,Y=s.extract k1 s.size:=⟨_,rfl⟩;have C1:=aa (fun W h=>aA b s k1 W h)
  rw[←hY] at C1;have vS:Y.size=s.size-k1:=by rw[hY,aD s k1 Sf]
  clear hY;by_cases hend:k1=s.size
  ·have VO:=uz Y (by omega)
   have hs0:=tB s k1 (by omega)
   have HE:=aa hs0;clear hs0 vS;go_wp2_with fail
   refine(C1.out _ R0.out).mono ?_;rintro e w2 ⟨rfl,r2,k2⟩;have K2:=ao K0 k2;clear r2 k2;go_wp2_with fail
   go_ret2
   exact⟨none,HQ.out none (by rw[HE.out];exact .none),K2.out,rfl⟩
  ·have iW:k1<s.size:=by omega
   have VO:=bD Y (by omega)
   have cD:=iO s k1 iW;obtain⟨Z,hZs,hZ0,hT⟩:=take_one b s k1 iW;have T2:=aa hT;obtain⟨c,hc⟩ :∃c:UInt8,c=s[k1]:=⟨_,rfl⟩;rw[←hc] at hZ0 cD;have HC:=aa cD;clear vS hT hc cD;have CJ:=c.toNat_lt;have hql:=q.toNat_lt;obtain⟨A1,c1,rfl⟩:=HB.out.form;by_cases hcq:c=q
   ·subst hcq
    go_wp2_with fail
    refine(C1.out _ R0.out).mono ?_;rintro e w2 ⟨rfl,r2,k2⟩;have R2:=aa r2;have K2:=ao K0 k2;have B2:=aa (HB.out.kp k2 iP);clear r2 k2;go_wp2_with fail
    refine(T2.out _ R2.out).mono ?_;rintro e w3 ⟨rfl,r3,k3⟩;have R3:=aa r3;have K3:=ao K2 k3;have B3:=aa (B2.out.kp k3 iP);clear r3 k3;have hcv:=C7 B3.out;go_wp2_with fail
    go_ret2
    refine⟨some (out,aR s (k1+1)),?_,K3.out,_,rfl,R3.out,rfl,by omega⟩
    have:=HQ.out (some ([],aR s (k1+1))) (by rw[HC.out];exact .shut)
    simpa using this
   ·have hcqn:c.toNat≠q.toNat:=fun e=>hcq (zV.1 e)
    by_cases XX:c=10
    ·subst XX
     have g1:((10:Int) == (q.toNat:Int))=false:=aE.2 (by have:(10:UInt8).toNat=10:=rfl;omega)
     go_wp2_with fail
     refine(C1.out _ R0.out).mono ?_;rintro e w2 ⟨rfl,r2,k2⟩;have R2:=aa r2;have K2:=ao K0 k2;have B2:=aa (HB.out.kp k2 iP);clear r2 k2;go_wp2_with fail
     refine(T2.out _ R2.out).mono ?_;rintro e w3 ⟨rfl,r3,k3⟩;have R3:=aa r3;have K3:=ao K2 k3;have B3:=aa (B2.out.kp k3 iP);clear r3 k3;go_wp2_with fail
     go_ret2
     exact⟨none,HQ.out none (by rw[HC.out];exact .line acD),K3.out,rfl⟩
    ·by_cases XY:c=92
     ·subst XY
      have g1:((92:Int) == (q.toNat:Int))=false:=aE.2 (by have:(92:UInt8).toNat=92:=rfl;omega)
      have E1:=aa (fun W h=>AF b s (k1+1) W h)
      cases hes:mS (aR s (k1+1)) with
      | none =>
       rw[hes] at E1;have HES:=aa hes;clear hes;go_wp2_with fail
       refine(C1.out _ R0.out).mono ?_;rintro e w2 ⟨rfl,r2,k2⟩;have R2:=aa r2;have K2:=ao K0 k2;have B2:=aa (HB.out.kp k2 iP);clear r2 k2;go_wp2_with fail
       refine(T2.out _ R2.out).mono ?_;rintro e w3 ⟨rfl,r3,k3⟩;have R3:=aa r3;have K3:=ao K2 k3;have B3:=aa (B2.out.kp k3 iP);clear r3 k3;go_wp2_with fail
       refine(E1.out _ R3.out).mono ?_;intro e w4 fX;obtain⟨k4,rfl⟩:=fX;have K4:=ao K3 k4;clear k4;go_wp2_with fail
       go_ret2
       exact⟨none,HQ.out none (by rw[HC.out];exact .bad aaH HES.out),K4.out,rfl⟩
      | some z =>
       obtain⟨m,r⟩:=z;rw[hes] at E1;have HES:=aa hes;clear hes;go_wp2_with fail
       refine(C1.out _ R0.out).mono ?_;rintro e w2 ⟨rfl,r2,k2⟩;have R2:=aa r2;have K2:=ao K0 k2;have B2:=aa (HB.out.kp k2 iP);clear r2 k2;go_wp2_with fail
       refine(T2.out _ R2.out).mono ?_;rintro e w3 ⟨rfl,r3,k3⟩;have R3:=aa r3;have K3:=ao K2 k3;have B3:=aa (B2.out.kp k3 iP);clear r3 k3;go_wp2_with fail
       refine(E1.out _ R3.out).mono ?_;intro e w4 fX;obtain⟨k4,k',v,rfl,hb4,r4,hr4,hl4⟩:=fX;have K4:=ao K3 k4;have R4:=aa r4;have B4:=aa (B3.out.kp k4 iP);have HE:=aa hr4;have zC:m.length≤1:=by
        rcases hb4 with ⟨_,rfl⟩ | ⟨_,_,rfl,_⟩<;>simp
       have HBT:=aa hb4;have acE:=K4.out.size;clear k4 r4 hb4 hr4;have aei:=R4.out.le;go_wp2_with (at_builtin;refine LP _ rfl _ _ rfl w.heap.size _ out rfl B4.out _ rfl m HBT.out (by omega) acE ?_;intro v5 w5 Fe iB)
       go_roundg (s.size-k')
       case measure=>omega
       case rel=>exact⟨k',out++m,R4.out.yI iB iP,by omega,ai _,K4.out.below iB,Fe,by rw[bM];omega,fun o ho=>by
        have:=HQ.out _ (by rw[HC.out];exact .mS aaH HES.out (HE.out▸ho))
        rwa[Fc] at this⟩
     ·have g1:((c.toNat:Int) == (q.toNat:Int))=false:=aE.2 (by omega)
      have g2:((c.toNat:Int) == 10)=false:=aE.2 (fun e=>XX (zV.1 (by show c.toNat=10;omega)))
      have g3:((c.toNat:Int) == 92)=false:=aE.2 (fun e=>XY (zV.1 (by show c.toNat=92;omega)))
      go_wp2_with fail
      refine(C1.out _ R0.out).mono ?_;rintro e w2 ⟨rfl,r2,k2⟩;have R2:=aa r2;have K2:=ao K0 k2;have B2:=aa (HB.out.kp k2 iP);clear r2 k2;go_wp2_with fail
      refine(T2.out _ R2.out).mono ?_;rintro e w3 ⟨rfl,r3,k3⟩;have R3:=aa r3;have K3:=ao K2 k3;have B3:=aa (B2.out.kp k3 iP);clear r3 k3;have hsz3:=K3.out.size;go_wp2_with (at_builtin;refine LP _ rfl _ _ rfl w.heap.size _ out rfl (World.ownsRow.alloc B3.out _) _ rfl [c] (dJ _ _ _ rfl) (by omega) (by simp;omega) ?_;intro v5 w5 Fe iB)
      go_roundg (s.size-(k1+1))
      case measure=>omega
      case rel=>exact⟨k1+1,out++[c],(R3.out.alloc _).yI iB iP,by omega,ai _,(K3.out.alloc _).below iB,Fe,by rw[bM];simp;omega,fun o ho=>by
       have:=HQ.out _ (by rw[HC.out];exact .byte hcq XX XY ho)
       rw[show(o.map fun x=>(c::x.1,x.2))=o.map fun x=>([c]++x.1,x.2) from rfl,Fc] at this
       exact this⟩
theorem LU (s:ByteArray) (w:World):Calls Tryz.prog 135 #[.string s] w fun e w'=>e=.returned (.bool (np s.data.toList))∧w=w':=by
 rw[←Lib.toList_data];go_enter Tryz.func135,Tryz.ntmps135
 go_wp2
 all_goals first
  | (go_ret;rename_i ha hb;rw[ha] at hb;cases hb;done)
  | (go_ret;exact⟨iN (by simp only[np,keys,KT,KX,Bool.or_false,Bool.true_or,Bool.or_true, *]),rfl⟩)
theorem C9 (s:ByteArray) (w:World):Calls Tryz.prog 141 #[.string s] w fun e w'=>e=.returned (.bool (gB s.data.toList))∧w=w':=by
 rw[←Lib.toList_data];go_enter Tryz.func141,Tryz.ntmps141
 go_wp2
 all_goals first
  | (go_ret;rename_i ha hb;rw[ha] at hb;cases hb;done)
  | (go_ret;exact⟨iN (by simp only[gB,signs,KT,KX,Bool.or_false,Bool.true_or,Bool.or_true, *]),rfl⟩)
theorem AG (l:List UInt8) (i:Nat):l.take i=l.take (min i l.length):=by
 by_cases h:i≤l.length
 ·rw[EM h]
 ·rw[Nat.min_eq_right (by omega),tR (by omega),tR (ai _)]
theorem LV:gB []=false:=by decide
theorem LW {l:List UInt8} {j i:Nat} (h :∀m,j<m→m≤min 3 l.length→gB (l.take m)=false) (hi:i≤3) (hj:j<min i l.length):gB (l.take i)=false:=by
 rw[AG];exact h _ hj (by omega)
theorem Ho {l:List UInt8} (h :∀m,0<m→m≤min 3 l.length→gB (l.take m)=false):sign l=none:=by
 have h' :∀i,i≤3→gB (l.take i)=false:=fun i hi=>by
  by_cases h0:0<min i l.length
  ·exact LW h hi h0
  ·rw[AG,show min i l.length=0 by omega]
   exact LV
 unfold sign;rw[h' 3 (by omega),h' 2 (by omega),h' 1 (by omega)]
 rfl
theorem Hp {l:List UInt8} {j:Nat} (h :∀m,j<m→m≤min 3 l.length→gB (l.take m)=false) (h0:0<j) (hj:j≤min 3 l.length) (hs:gB (l.take j)=true):sign l=some (l.take j,l.drop j):=by
 have big :∀i,j<i→i≤3→gB (l.take i)=true→l.take i=l.take j∧l.drop i=l.drop j:=fun i h1 h2 h3=>by
  by_cases hl:j<l.length
  ·rw[LW h h2 (by omega)] at h3
   cases h3
  ·have e:l.length=j:=by omega
   rw[tR (by omega),tR (by omega),EC (by omega),EC (by omega)]
   exact⟨rfl,rfl⟩
 unfold sign;cases e3:gB (l.take 3)
 ·cases e2:gB (l.take 2)
  ·have:j=1:=by
    rcases(show j=1∨j=2∨j=3 by omega) with rfl|rfl|rfl
    ·rfl
    ·rw[hs] at e2;cases e2
    ·rw[hs] at e3;cases e3
   subst this;rw[hs];rfl
  ·by_cases h2:j=2
   ·subst h2;rfl
   ·by_cases h3:j=3
    ·subst h3;rw[hs] at e3;cases e3
    ·obtain⟨a,b⟩:=big 2 (by omega) (by omega) e2
     simp only[KS,if_false,tY];rw[a,b]
 ·by_cases h3:j=3
  ·subst h3;rfl
  ·obtain⟨a,b⟩:=big 3 (by omega) (by omega) e3
   simp only[tY];rw[a,b]
theorem LX (b:Nat) (s:ByteArray) (k:Nat) (w:World) (h:Rd w b s k):Calls Tryz.prog 82 #[.pointer (some ⟨b,0,none⟩)] w (jF b s k w (sign (aR s k))):=by
 have cb:=h.top;have hle:=h.le;have HR:=aa h;clear h;obtain⟨Y,hY⟩ :∃Y:ByteArray,Y=s.extract k s.size:=⟨_,rfl⟩;have C1:=aa (fun W h=>aA b s k W h)
 rw[←hY] at C1;have vS:Y.size=s.size-k:=by rw[hY,aD s k hle]
 have Sr:Y.data.toList=aR s k:=by rw[hY,cV]
 have HYl:=aa Sr;have S1:=aa (fun(n:Nat) W=>C9 (Y.extract 0 n) W)
 obtain⟨M,hM⟩ :∃M:Nat,M=min 3 Y.size:=⟨_,rfl⟩;have hMi:min (3:Int) (Y.size:Int)=(M:Int):=by omega
 have hMl:M≤Y.size:=by omega
 have hM3:M≤3:=by omega
 have aaK:M=min 3 (aR s k).length:=by rw[hM,←Sr,←Lib.size_eq]
 have XZ:=aa aaK;have hYk:k+Y.size≤s.size:=by omega
 clear hY vS Sr hM aaK;go_enter Tryz.func82,Tryz.ntmps82
 go_wp2_with fail
 refine(C1.out _ HR.out).mono ?_;rintro e w1 ⟨rfl,r1,k1⟩;have R1:=aa r1;have K1:=aa k1;clear r1 k1;go_wp2_with fail
 clear hMi;go_loop [5] (fun i=>∃n:Nat,n≤M∧i=.int .i64 n∧∀m,n<m→m≤M→gB ((aR s k).take m)=false) (fun i=>(intOf i).toNat)
 case atStart=>exact⟨M,ai _,rfl,fun m h1 h2=>by omega⟩
 case round =>
  obtain⟨n,hn,rfl,hall⟩:=hrel;have HA:=aa hall;clear hall;by_cases ny:0<n
  ·have Fg:(Y.extract 0 n).data.toList=(aR s k).take n:=by
    rw[←HYl.out,KI];simp
   have S2:=aa (fun W=>S1.out n W)
   cases e:gB ((aR s k).take n)
   ·rw[Fg,e] at S2
    have HE:=aa e;clear e Fg;go_wp2_with (go_at_call 141;refine(S2.out _).mono ?_;rintro e w' ⟨rfl,rfl⟩)
    go_round
    case rel=>exact⟨n-1,by omega,by go_num,fun m h1 h2=>by
     by_cases hm:m=n
     ·rw[hm];exact HE.out
     ·exact HA.out m (by omega) h2⟩
    case measure=>simp[intOf];omega
   ·rw[Fg,e] at S2
    have HS:=aa (Hp (l:=aR s k) (j:=n) (by rw[←XZ.out];exact HA.out) ny (by rw[←XZ.out];exact hn) e)
    have T1:=aa (fun W h=>bq b s k n W h (by omega))
    clear e Fg;go_wp2_with (first
     | (go_at_call 141;refine(S2.out _).mono ?_;rintro e w' ⟨rfl,rfl⟩)
     | (go_at_call 67;refine(T1.out _ R1.out).mono ?_;rintro e w2 ⟨rfl,r2,k2⟩))
    go_ret2
    refine⟨K1.out.trans k2,?_⟩;rw[HS.out];exact⟨k+n,by rw[←eW];rfl,r2,by rw[eV],by omega⟩
  ·have hn0:n=0:=by omega
   have HS:=aa (Ho (l:=aR s k) (by rw[←XZ.out,←hn0];exact HA.out))
   subst hn0;go_wp2_with fail
   go_ret2
   refine⟨K1.out,?_⟩;rw[HS.out];rfl
theorem Hq (b:Nat) (s:ByteArray) (k:Nat) (w:World) (h:Rd w b s k):Calls Tryz.prog 74 #[.pointer (some ⟨b,0,none⟩)] w fun e w' =>
  e=.returned (.tuple #[.int .i64 (if np ((aR s k).takeWhile iM) then 2 else 1),.string ⟨((aR s k).takeWhile iM).toArray⟩])∧Rd w' b s (k+runN iM (aR s k))∧Kp b w w':=by
 have cb:=h.top;have hle:=h.le;have HR:=aa h;clear h;obtain⟨m,hm⟩ :∃m:Nat,m=runN iM (aR s k):=⟨_,rfl⟩;have C1:=aa (fun W=>LF (s.extract k s.size) W (by rw[aD s _ hle];omega))
 rw[cV,←hm] at C1;have zC:=ik iM (aR s k);rw[fR,←hm] at zC;rw[←hm];obtain⟨X,hX⟩ :∃X:ByteArray,X=⟨((aR s k).takeWhile iM).toArray⟩:=⟨_,rfl⟩;have rm:s.extract k (k+m)=X:=by
  rw[hX];apply Sb;rw[eW,hm,qb]
 have T1:=aa (fun W h=>bq b s k m W h (by omega))
 rw[rm] at T1;have W1:=aa (fun W=>LU X W)
 rw[show X.data.toList=(aR s k).takeWhile iM by rw[hX]] at W1
 rw[←hX];obtain⟨o,ho⟩ :∃o:Bool,o=np ((aR s k).takeWhile iM):=⟨_,rfl⟩;rw[←ho] at W1 ⊢;clear hm hX rm ho;cases o
 ·go_enter Tryz.func74,Tryz.ntmps74
  go_wp2_with fail
  refine(aA _ _ _ _ HR.out).mono ?_;rintro e w1 ⟨rfl,r1,k1⟩;have R1:=aa r1;have K1:=aa k1;clear r1 k1;go_wp2_with fail
  refine(C1.out _).mono ?_;rintro e Cz ⟨rfl,rfl⟩;go_wp2_with fail
  refine(T1.out _ R1.out).mono ?_;rintro e w2 ⟨rfl,r2,k2⟩;have R2:=aa r2;have K2:=ao K1 k2;clear r2 k2;go_wp2_with (go_at_call 135;refine(W1.out _).mono ?_;rintro e w' ⟨rfl,rfl⟩)
  go_ret2
  exact⟨rfl,R2.out,K2.out⟩
 ·go_enter Tryz.func74,Tryz.ntmps74
  go_wp2_with fail
  refine(aA _ _ _ _ HR.out).mono ?_;rintro e w1 ⟨rfl,r1,k1⟩;have R1:=aa r1;have K1:=aa k1;clear r1 k1;go_wp2_with fail
  refine(C1.out _).mono ?_;rintro e Cz ⟨rfl,rfl⟩;go_wp2_with fail
  refine(T1.out _ R1.out).mono ?_;rintro e w2 ⟨rfl,r2,k2⟩;have R2:=aa r2;have K2:=ao K1 k2;clear r2 k2;go_wp2_with (go_at_call 135;refine(W1.out _).mono ?_;rintro e w' ⟨rfl,rfl⟩)
  go_ret2
  exact⟨rfl,R2.out,K2.out⟩
def Tb (W:World) (g:Nat) (a b c d:Value):Prop:=W.heap[g]? = some (.cells #[a,b,c,d] 113 (0,0))
theorem Tb.kp {W W':World} {g b:Nat} {x y z u:Value} (h:Tb W g x y z u) (hk:Kp b W W') (hne:g≠b):Tb W' g x y z u :=
 (hk.block g (aJ.1 h).1 (by simpa using hne)).trans h
theorem Tb.new (w:World) (x y z u:Value):Tb (w.alloc (.cells #[x,y,z,u] 113)) w.heap.size x y z u:=World.alloc_heap_new w _
theorem Tb.alloc {W:World} {g:Nat} {x y z u:Value} (h:Tb W g x y z u) (o:Obj):Tb (W.alloc o) g x y z u:=(Below.heap_alloc W o g (aJ.1 h).1).trans h
theorem Tb.cells {W:World} {g:Nat} {x y z u:Value} (h:Tb W g x y z u):W.cell? ⟨g,0,none⟩=some x∧W.cell? ⟨g,1,none⟩=some y∧W.cell? ⟨g,2,none⟩=some z∧W.cell? ⟨g,3,none⟩=some u:=by
 have h':W.heap[g]? = some (.cells #[x,y,z,u] 113 (0,0)):=h;refine⟨?_,?_,?_,?_⟩<;>simp[World.cell?,h']
theorem Tb.frozen {W:World} {g:Nat} {x y z u:Value} (h:Tb W g x y z u):W.frozen? ⟨g,0,none⟩=false∧W.frozen? ⟨g,1,none⟩=false∧W.frozen? ⟨g,2,none⟩=false∧W.frozen? ⟨g,3,none⟩=false:=by
 have h':W.heap[g]? = some (.cells #[x,y,z,u] 113 (0,0)):=h;refine⟨?_,?_,?_,?_⟩<;>simp[World.frozen?,h']
def ki (b:Nat) (s:ByteArray) (k:Nat) (w:World) (e:Ending) (w':World):Prop :=
 Kp b w w'∧((∃(kd n:Int) (t:List UInt8) (k':Nat),e=.returned (.tuple #[.agg #[.int .i64 kd,.int .i64 (cZ s-nl (aR s k)),.int .i64 n,.string ⟨t.toArray⟩],.nilIface])∧Rd w' b s k'∧k≤k'∧(kd≠0→k<k')∧(kd=0→aR s k=[])∧Tok (aR s k) (some (kd,n,t,aR s k'))) ∨
  (∃v,e=.returned (.tuple #[.agg #[.int .i64 0,.int .i64 0,.int .i64 0,.string ⟨#[]⟩],v])∧AB w' v (cZ s-nl (aR s k))∧Tok (aR s k) none))
theorem Kp.bG {b:Nat} {w W:World} (h:Kp b w W) {g:Nat} (hg:w.heap.size≤g) (o:Nat) (v:Value):Kp b w (W.setCell ⟨g,o,none⟩ v) :=
 h.below ((Below.refl _ _).setCell (p:=⟨g,o,none⟩) hg v)
theorem Rd.bG {W:World} {b:Nat} {s:ByteArray} {k:Nat} (h:Rd W b s k) {g:Nat} (hg:b<g) (o:Nat) (v:Value):Rd (W.setCell ⟨g,o,none⟩ v) b s k :=
 h.yI ((Below.refl g _).setCell (p:=⟨g,o,none⟩) (ai _) v) hg
abbrev Hr:Obj:=.cells #[.int .i64 0,.int .i64 0,.int .i64 0,.string ⟨#[]⟩] 113
abbrev Ss (n:Int):Obj:=.cells #[.int .i64 0,.int .i64 n,.int .i64 0,.string ⟨#[]⟩] 113
theorem jH (b:Nat) (s:ByteArray) (k:Nat) (w:World) (n:Int) (h:Rd w b s k):Rd ((w.alloc Hr).alloc (Ss n)) b s k∧Kp b w ((w.alloc Hr).alloc (Ss n)) ∧
  Tb ((w.alloc Hr).alloc (Ss n)) w.heap.size (.int .i64 0) (.int .i64 0) (.int .i64 0) (.string ⟨#[]⟩)∧Tb ((w.alloc Hr).alloc (Ss n)) (w.heap.size+1) (.int .i64 0) (.int .i64 n) (.int .i64 0) (.string ⟨#[]⟩):=by
 refine⟨(h.alloc _).alloc _,((Kp.refl _ _).alloc _).alloc _,(Tb.new w _ _ _ _).alloc _,?_⟩;have:=Tb.new (w.alloc Hr) (.int .i64 0) (.int .i64 n) (.int .i64 0) (.string ⟨#[]⟩);rwa[show(w.alloc Hr).heap.size=w.heap.size+1 by simp] at this
theorem Kp.gX {b:Nat} {w W:World} (h:Kp b w W) {g:Nat} (hg:w.heap.size≤g) (x y z u:Value):Kp b w ((((W.setCell ⟨g,0,none⟩ x).setCell ⟨g,1,none⟩ y).setCell ⟨g,2,none⟩ z).setCell ⟨g,3,none⟩ u) :=
 (((h.bG hg 0 x).bG hg 1 y).bG hg 2 z).bG hg 3 u
theorem Rd.gX {W:World} {b:Nat} {s:ByteArray} {k:Nat} (h:Rd W b s k) {g:Nat} (hg:b<g) (x y z u:Value):Rd ((((W.setCell ⟨g,0,none⟩ x).setCell ⟨g,1,none⟩ y).setCell ⟨g,2,none⟩ z).setCell ⟨g,3,none⟩ u) b s k :=
 (((h.bG hg 0 x).bG hg 1 y).bG hg 2 z).bG hg 3 u
theorem Tb.setOther {W:World} {g:Nat} {x y z u:Value} (h:Tb W g x y z u) {g':Nat} (hne:g≠g') (o:Nat) (v:Value):Tb (W.setCell ⟨g',o,none⟩ v) g x y z u :=
 (Below.heap_setCell _ _ _ g hne).trans h
theorem Tb.gX {W:World} {g:Nat} {x y z u:Value} (h:Tb W g x y z u) (x' y' z' u':Value):Tb ((((W.setCell ⟨g,0,none⟩ x').setCell ⟨g,1,none⟩ y').setCell ⟨g,2,none⟩ z').setCell ⟨g,3,none⟩ u') g x' y' z' u':=by
 have key :∀(W:World) (a b c d v:Value) (o:Nat),W.heap[g]? = some (.cells #[a,b,c,d] 113 (0,0))→(W.setCell ⟨g,o,none⟩ v).heap[g]? = some (.cells (#[a,b,c,d].setIfInBounds o v) 113 (0,0)):=by
  intro W a b c d v o h;obtain⟨hlt,hk⟩:=aJ.1 h;show(W.heap.modify g _)[g]? = _
  rw[wF (by rw[zT];exact hlt),zN,hk]
  rfl
 have h0:=key W x y z u x' 0 h;have h1:=key _ x' y z u y' 1 h0;have h2:=key _ x' y' z u z' 2 h1;exact key _ x' y' z' u u' 3 h2
theorem AB.yJ (w:World) (n:Int) (g:Nat) (hg:g=w.heap.size):AB (w.alloc (.cells #[.int .i64 n,.iface 79 (.int .i64 5)] 85)) (.iface 83 (.pointer (some ⟨g,0,none⟩))) n:=by
 subst hg;exact AB.new w n
theorem Tb.lt {W:World} {g:Nat} {x y z u:Value} (h:Tb W g x y z u):g<W.heap.size:=(aJ.1 (show W.heap[g]? = _ from h)).1
theorem Tb.LY {W:World} {g:Nat} {x y z u:Value} (h:Tb W g x y z u) (v:Value):Tb (W.setCell ⟨g,0,none⟩ v) g v y z u:=by
 obtain⟨hlt,hk⟩:=aJ.1 (show W.heap[g]? = _ from h)
 show(W.heap.modify g _)[g]? = _
 rw[wF (by rw[zT];exact hlt),zN,hk]
 rfl
theorem Hs (b:Nat) (s:ByteArray) (k:Nat) (w:World) (h:Rd w b s k) (hk:k=s.size):Calls Tryz.prog 33 #[.pointer (some ⟨b,0,none⟩)] w (ki b s k w):=by
 have iP:=h.lt;have cb:=h.top;have c2:=(h.alloc (.cells #[.int .i64 0,.int .i64 0,.int .i64 0,.string ⟨#[]⟩] 113)).c2;rw[jl] at c2;obtain⟨n,hn⟩ :∃n:Int,n=cZ s-nl (aR s k):=⟨_,rfl⟩;rw[←hn] at c2;obtain⟨Y,hY⟩ :∃Y:ByteArray,Y=s.extract k s.size:=⟨_,rfl⟩;have C1:=aa (fun W h=>aA b s k W h)
 rw[←hY] at C1;have VO:=uz Y (by rw[hY,aD s k (by omega)];omega)
 have HR:=aa h;have HN:=aa hn;clear hY h hn;have HL:=aa (jH b s k w n HR.out);go_enter Tryz.func33,Tryz.ntmps33
 go_wp2_with fail
 refine(C1.out _ HL.out.1).mono ?_;rintro e w1 ⟨rfl,r1,k1⟩;have R1:=aa r1;have K1:=aa (HL.out.2.1.trans k1);have T0:=aa (HL.out.2.2.1.kp k1 (by omega))
 have T1:=aa (HL.out.2.2.2.kp k1 (by omega))
 clear r1 k1 c2;obtain⟨a0,a1,a2,a3⟩:=T0.out.cells;obtain⟨f0,f1,f2,f3⟩:=T0.out.frozen;obtain⟨b0,b1,b2,b3⟩:=T1.out.cells;obtain⟨g0,g1,g2,g3⟩:=T1.out.frozen;go_wp2_with fail
 clear a0 a1 a2 a3 f0 f1 f2 f3 b0 b1 b2 b3 g0 g1 g2 g3;obtain⟨d0,d1,d2,d3⟩:=((T0.out.setOther (g':=w.heap.size+1) (by omega) 0 (.int .i64 0)).gX (.int .i64 0) (.int .i64 n) (.int .i64 0) (.string ⟨#[]⟩)).cells
 refine bodyPost_ret (v:=.tuple #[.agg #[.int .i64 0,.int .i64 n,.int .i64 0,.string ⟨#[]⟩],.nilIface]) (by simp[results,Tryz.results33,go_sem,d0,d1,d2,d3]) rfl ?_
 refine⟨(K1.out.bG (by omega) _ _).gX (ai _) _ _ _ _,.inl ⟨0,0,[],k,by rw[←HN.out],(R1.out.bG (by omega) _ _).gX iP _ _ _ _,ai _,fun h=>absurd rfl h,fun _=>tB s k (by omega),?_⟩⟩
 rw[tB s k (by omega)]
 exact .eof
theorem Da (b:Nat) (s:ByteArray) (k:Nat) (w:World) (h:Rd w b s k) (hk:k<s.size) (c:UInt8) (hc:s[k]=c) (hl:uh c=true):Calls Tryz.prog 33 #[.pointer (some ⟨b,0,none⟩)] w (ki b s k w):=by
 have iP:=h.lt;have cb:=h.top;have c2:=(h.alloc (.cells #[.int .i64 0,.int .i64 0,.int .i64 0,.string ⟨#[]⟩] 113)).c2;rw[jl] at c2;obtain⟨n,hn⟩ :∃n:Int,n=cZ s-nl (aR s k):=⟨_,rfl⟩;rw[←hn] at c2;obtain⟨Y,hY⟩ :∃Y:ByteArray,Y=s.extract k s.size:=⟨_,rfl⟩;have C1:=aa (fun W h=>aA b s k W h)
 rw[←hY] at C1;have vS:0<Y.size:=by rw[hY,aD s k (by omega)];omega
 have hY0:Y[0]=c:=by subst hY;rw[aS s k hk vS];exact hc
 have VO:=bD Y vS;have cD:=iO s k hk;rw[hc] at cD;have HC:=aa cD;have L1:=aa (fun W=>il c true W hl)
 have N1:=aa (fun W h=>Hq b s k W h)
 have hrun:1≤runN iM (aR s k):=by
  rw[cD];unfold runN;rw[Ky (by unfold iM;rw[hl];rfl),List.length_cons]
  omega
 have hT:=Tok.name (c:=c) (r:=aR s (k+1)) hl;rw[←cD,←nm,eV] at hT;have qf:(if np ((aR s k).takeWhile iM) then (2:Int) else 1)≠0:=by split<;>decide
 generalize (if np ((aR s k).takeWhile iM) then (2:Int) else 1)=kd at *
 obtain⟨X,hX⟩ :∃X:ByteArray,X=⟨((aR s k).takeWhile iM).toArray⟩:=⟨_,rfl⟩;rw[←hX] at N1;have HX:=aa hX;have HT:=aa hT;clear hX hT cD hl hc;have HR:=aa h;have HN:=aa hn;clear hY h hn;have HL:=aa (jH b s k w n HR.out);go_enter Tryz.func33,Tryz.ntmps33
 go_wp2_with fail
 refine(C1.out _ HL.out.1).mono ?_;rintro e w1 ⟨rfl,r1,k1⟩;have R1:=aa r1;have K1:=aa (HL.out.2.1.trans k1);have T0:=aa (HL.out.2.2.1.kp k1 (by omega))
 have T1:=aa (HL.out.2.2.2.kp k1 (by omega))
 clear r1 k1 c2;obtain⟨a0,a1,a2,a3⟩:=T0.out.cells;obtain⟨f0,f1,f2,f3⟩:=T0.out.frozen;obtain⟨b0,b1,b2,b3⟩:=T1.out.cells;obtain⟨g0,g1,g2,g3⟩:=T1.out.frozen;go_wp2_with (go_at_call 73;refine(L1.out _).mono ?_;rintro e w' ⟨rfl,rfl⟩)
 clear a0 a1 a2 a3 f0 f1 f2 f3 b0 b1 b2 b3 g0 g1 g2 g3;refine(N1.out _ R1.out).mono ?_;rintro e w2 ⟨rfl,r2,k2⟩;have R2:=aa r2;have K2:=ao K1 k2;have nC:=aa (T0.out.kp k2 (by omega))
 have sF:=aa (T1.out.kp k2 (by omega))
 clear r2 k2;obtain⟨a0,a1,a2,a3⟩:=nC.out.cells;obtain⟨f0,f1,f2,f3⟩:=nC.out.frozen;obtain⟨b0,b1,b2,b3⟩:=sF.out.cells;obtain⟨g0,g1,g2,g3⟩:=sF.out.frozen;go_wp2_with fail
 clear a0 a1 a2 a3 f0 f1 f2 f3 b0 b1 b2 b3 g0 g1 g2 g3;obtain⟨d0,d1,d2,d3⟩:=(((nC.out.setOther (g':=w.heap.size+1) (by omega) 0 (.int .i64 kd)).setOther (g':=w.heap.size+1) (by omega) 3 (.string X)).gX (.int .i64 kd) (.int .i64 n) (.int .i64 0) (.string X)).cells
 refine bodyPost_ret (v:=.tuple #[.agg #[.int .i64 kd,.int .i64 n,.int .i64 0,.string X],.nilIface]) (by simp[results,Tryz.results33,go_sem,d0,d1,d2,d3]) rfl ?_
 exact⟨((K2.out.bG (by omega) _ _).bG (by omega) _ _).gX (ai _) _ _ _ _,.inl ⟨kd,0,_,_,by rw[←HN.out,HX.out],((R2.out.bG (by omega) _ _).bG (by omega) _ _).gX iP _ _ _ _,by omega,fun _=>by omega,fun e=>absurd e qf,HT.out⟩⟩
theorem Ht (b:Nat) (s:ByteArray) (k:Nat) (w:World) (h:Rd w b s k) (hk:k<s.size) (c:UInt8) (hc:s[k]=c) (hl:uh c=false) (hd:gr c=true) (hno:p9 9223372036854775807 ((aR s k).takeWhile pt)=true):Calls Tryz.prog 33 #[.pointer (some ⟨b,0,none⟩)] w (ki b s k w):=by
 have iP:=h.lt;have cb:=h.top;have c2:=(h.alloc (.cells #[.int .i64 0,.int .i64 0,.int .i64 0,.string ⟨#[]⟩] 113)).c2;rw[jl] at c2;obtain⟨n,hn⟩ :∃n:Int,n=cZ s-nl (aR s k):=⟨_,rfl⟩;rw[←hn] at c2;obtain⟨Y,hY⟩ :∃Y:ByteArray,Y=s.extract k s.size:=⟨_,rfl⟩;have C1:=aa (fun W h=>aA b s k W h)
 rw[←hY] at C1;have vS:0<Y.size:=by rw[hY,aD s k (by omega)];omega
 have hY0:Y[0]=c:=by subst hY;rw[aS s k hk vS];exact hc
 have VO:=bD Y vS;have cD:=iO s k hk;rw[hc] at cD;have HC:=aa cD;have L1:=aa (fun W=>il c false W hl)
 have L2:=aa (fun W=>fL c true W hd)
 obtain⟨m,hm⟩ :∃m:Nat,m=runN pt (aR s k):=⟨_,rfl⟩;have U1:=aa (fun W=>uw Y W (by rw[hY,aD s _ (by omega)];omega))
 rw[show Y.data.toList=aR s k by rw[hY,cV],←hm] at U1
 have zC:=ik pt (aR s k);rw[fR,←hm] at zC;have hrun:1≤m:=by
  rw[hm,cD];unfold runN;rw[Ky (by unfold pt iM;rw[hd];simp),List.length_cons]
  omega
 obtain⟨X,hX⟩ :∃X:ByteArray,X=s.extract k (k+m):=⟨_,rfl⟩;have hXl:X.data.toList=(aR s k).takeWhile pt:=by rw[hX,eW,hm,qb]
 have eG:X.size≤100000:=by rw[hX,tU];omega
 have V1:=aa (fun W h=>bq b s k m W h (by omega))
 rw[←hX] at V1;have M1:=aa (fun W=>Aw X W (by omega))
 rw[hXl] at M1;rw[hno] at M1;have hT:=Tok.num (c:=c) (r:=aR s (k+1)) hl hd (by rw[←cD];exact hno)
 rw[←cD,←nm,eV,←hm] at hT;obtain⟨N,hN⟩ :∃N:Int,N=wS (ug 9223372036854775807 ((aR s k).takeWhile pt):Int):=⟨_,rfl⟩;rw[←hN] at M1 hT;have HT:=aa hT;clear hm hX hXl hT cD hl hd hno hc hN;have HR:=aa h;have HN:=aa hn;clear hY h hn;have HL:=aa (jH b s k w n HR.out);go_enter Tryz.func33,Tryz.ntmps33
 go_wp2_with fail
 refine(C1.out _ HL.out.1).mono ?_;rintro e w1 ⟨rfl,r1,k1⟩;have R1:=aa r1;have K1:=aa (HL.out.2.1.trans k1);have T0:=aa (HL.out.2.2.1.kp k1 (by omega))
 have T1:=aa (HL.out.2.2.2.kp k1 (by omega))
 clear r1 k1 c2;obtain⟨a0,a1,a2,a3⟩:=T0.out.cells;obtain⟨f0,f1,f2,f3⟩:=T0.out.frozen;obtain⟨b0,b1,b2,b3⟩:=T1.out.cells;obtain⟨g0,g1,g2,g3⟩:=T1.out.frozen;go_wp2_with (first
  | (go_at_call 73;refine(L1.out _).mono ?_;rintro e w' ⟨rfl,rfl⟩)
  | (go_at_call 75;refine(L2.out _).mono ?_;rintro e w' ⟨rfl,rfl⟩))
 clear a0 a1 a2 a3 f0 f1 f2 f3 b0 b1 b2 b3 g0 g1 g2 g3;have Su:=aa (R1.out.bG (g:=w.heap.size+1) (by omega) 0 (.int .i64 3))
 have Kg:=aa (K1.out.bG (g:=w.heap.size+1) (by omega) 0 (.int .i64 3))
 have Kh:=aa (T0.out.setOther (g':=w.heap.size+1) (by omega) 0 (.int .i64 3))
 have Ki:=aa (T1.out.LY (.int .i64 3));generalize w1.setCell ⟨w.heap.size+1,0,none⟩ (.int .i64 3)=w1b at *;refine(U1.out _).mono ?_;rintro e Cz ⟨rfl,rfl⟩;go_wp2_with fail
 refine(V1.out _ Su.out).mono ?_;rintro e w2 ⟨rfl,r2,k2⟩;have R2:=aa r2;have K2:=ao Kg k2;have nC:=aa (Kh.out.kp k2 (by omega))
 have sF:=aa (Ki.out.kp k2 (by omega))
 clear r2 k2;go_wp2_with fail
 refine(M1.out _).mono ?_;rintro e LG ⟨rfl,rfl⟩;obtain⟨a0,a1,a2,a3⟩:=nC.out.cells;obtain⟨f0,f1,f2,f3⟩:=nC.out.frozen;obtain⟨b0,b1,b2,b3⟩:=sF.out.cells;obtain⟨g0,g1,g2,g3⟩:=sF.out.frozen;go_wp2_with fail
 clear a0 a1 a2 a3 f0 f1 f2 f3 b0 b1 b2 b3 g0 g1 g2 g3;obtain⟨d0,d1,d2,d3⟩:=((nC.out.setOther (g':=w.heap.size+1) (by omega) 2 (.int .i64 N)).gX (.int .i64 3) (.int .i64 n) (.int .i64 N) (.string ⟨#[]⟩)).cells
 refine bodyPost_ret (v:=.tuple #[.agg #[.int .i64 3,.int .i64 n,.int .i64 N,.string ⟨#[]⟩],.nilIface]) (by simp[results,Tryz.results33,go_sem,d0,d1,d2,d3]) rfl ?_
 exact⟨(K2.out.bG (by omega) _ _).gX (ai _) _ _ _ _,.inl ⟨3,N,_,_,by rw[←HN.out],(R2.out.bG (by omega) _ _).gX iP _ _ _ _,by omega,fun _=>by omega,fun e=>absurd e (by decide),HT.out⟩⟩
theorem wb (b:Nat) (s:ByteArray) (k:Nat) (w:World) (h:Rd w b s k) (hk:k<s.size) (c:UInt8) (hc:s[k]=c) (hl:uh c=false) (hd:gr c=true) (hno:p9 9223372036854775807 ((aR s k).takeWhile pt)=false):Calls Tryz.prog 33 #[.pointer (some ⟨b,0,none⟩)] w (ki b s k w):=by
 have iP:=h.lt;have cb:=h.top;have c2:=(h.alloc (.cells #[.int .i64 0,.int .i64 0,.int .i64 0,.string ⟨#[]⟩] 113)).c2;rw[jl] at c2;obtain⟨n,hn⟩ :∃n:Int,n=cZ s-nl (aR s k):=⟨_,rfl⟩;rw[←hn] at c2;obtain⟨Y,hY⟩ :∃Y:ByteArray,Y=s.extract k s.size:=⟨_,rfl⟩;have C1:=aa (fun W h=>aA b s k W h)
 rw[←hY] at C1;have vS:0<Y.size:=by rw[hY,aD s k (by omega)];omega
 have hY0:Y[0]=c:=by subst hY;rw[aS s k hk vS];exact hc
 have VO:=bD Y vS;have cD:=iO s k hk;rw[hc] at cD;have HC:=aa cD;have L1:=aa (fun W=>il c false W hl)
 have L2:=aa (fun W=>fL c true W hd)
 obtain⟨m,hm⟩ :∃m:Nat,m=runN pt (aR s k):=⟨_,rfl⟩;have U1:=aa (fun W=>uw Y W (by rw[hY,aD s _ (by omega)];omega))
 rw[show Y.data.toList=aR s k by rw[hY,cV],←hm] at U1
 have zC:=ik pt (aR s k);rw[fR,←hm] at zC;have hrun:1≤m:=by
  rw[hm,cD];unfold runN;rw[Ky (by unfold pt iM;rw[hd];simp),List.length_cons]
  omega
 obtain⟨X,hX⟩ :∃X:ByteArray,X=s.extract k (k+m):=⟨_,rfl⟩;have hXl:X.data.toList=(aR s k).takeWhile pt:=by rw[hX,eW,hm,qb]
 have eG:X.size≤100000:=by rw[hX,tU];omega
 have V1:=aa (fun W h=>bq b s k m W h (by omega))
 rw[←hX] at V1;have M1:=aa (fun W=>Aw X W (by omega))
 rw[hXl] at M1;rw[hno] at M1;have hT:=Tok.rk (c:=c) (r:=aR s (k+1)) hl hd (by rw[←cD];exact hno)
 rw[←cD] at hT;obtain⟨N,hN⟩ :∃N:Int,N=wS (ug 9223372036854775807 ((aR s k).takeWhile pt):Int):=⟨_,rfl⟩;rw[←hN] at M1;have HT:=aa hT;clear hm hX hXl hT cD hl hd hno hc hN;have HR:=aa h;have HN:=aa hn;clear hY h hn;have HL:=aa (jH b s k w n HR.out);go_enter Tryz.func33,Tryz.ntmps33
 go_wp2_with fail
 refine(C1.out _ HL.out.1).mono ?_;rintro e w1 ⟨rfl,r1,k1⟩;have R1:=aa r1;have K1:=aa (HL.out.2.1.trans k1);have T0:=aa (HL.out.2.2.1.kp k1 (by omega))
 have T1:=aa (HL.out.2.2.2.kp k1 (by omega))
 clear r1 k1 c2;obtain⟨a0,a1,a2,a3⟩:=T0.out.cells;obtain⟨f0,f1,f2,f3⟩:=T0.out.frozen;obtain⟨b0,b1,b2,b3⟩:=T1.out.cells;obtain⟨g0,g1,g2,g3⟩:=T1.out.frozen;go_wp2_with (first
  | (go_at_call 73;refine(L1.out _).mono ?_;rintro e w' ⟨rfl,rfl⟩)
  | (go_at_call 75;refine(L2.out _).mono ?_;rintro e w' ⟨rfl,rfl⟩))
 clear a0 a1 a2 a3 f0 f1 f2 f3 b0 b1 b2 b3 g0 g1 g2 g3;have Su:=aa (R1.out.bG (g:=w.heap.size+1) (by omega) 0 (.int .i64 3))
 have Kg:=aa (K1.out.bG (g:=w.heap.size+1) (by omega) 0 (.int .i64 3))
 have Kh:=aa (T0.out.setOther (g':=w.heap.size+1) (by omega) 0 (.int .i64 3))
 have Ki:=aa (T1.out.LY (.int .i64 3));generalize w1.setCell ⟨w.heap.size+1,0,none⟩ (.int .i64 3)=w1b at *;refine(U1.out _).mono ?_;rintro e Cz ⟨rfl,rfl⟩;go_wp2_with fail
 refine(V1.out _ Su.out).mono ?_;rintro e w2 ⟨rfl,r2,k2⟩;have R2:=aa r2;have K2:=ao Kg k2;have nC:=aa (Kh.out.kp k2 (by omega))
 have sF:=aa (Ki.out.kp k2 (by omega))
 clear r2 k2;go_wp2_with fail
 refine(M1.out _).mono ?_;rintro e LG ⟨rfl,rfl⟩;obtain⟨a0,a1,a2,a3⟩:=nC.out.cells;obtain⟨f0,f1,f2,f3⟩:=nC.out.frozen;obtain⟨b0,b1,b2,b3⟩:=sF.out.cells;obtain⟨g0,g1,g2,g3⟩:=sF.out.frozen;go_wp2_with fail
 clear a0 a1 a2 a3 f0 f1 f2 f3 b0 b1 b2 b3 g0 g1 g2 g3;refine(kZ _ _).mono ?_;rintro e w9 ⟨rfl,rfl⟩;have K8:=aa (K2.out.bG (g:=w.heap.size+1) (by omega) 2 (.int .i64 N))
 have T8:=aa (nC.out.setOther (g':=w.heap.size+1) (by omega) 2 (.int .i64 N))
 generalize w2.setCell ⟨w.heap.size+1,2,none⟩ (.int .i64 N)=w8 at *;have X0:=T8.out.lt;obtain⟨a0,a1,a2,a3⟩:=T8.out.cells;obtain⟨f0,f1,f2,f3⟩:=T8.out.frozen;go_wp2_with fail
 clear a0 a1 a2 a3 f0 f1 f2 f3;obtain⟨d0,d1,d2,d3⟩:=((T8.out.gX (.int .i64 0) (.int .i64 0) (.int .i64 0) (.string ⟨#[]⟩)).alloc (.cells #[.int .i64 n,.iface 79 (.int .i64 5)] 85)).cells;refine bodyPost_ret (v:=.tuple #[.agg #[.int .i64 0,.int .i64 0,.int .i64 0,.string ⟨#[]⟩],.iface 83 (.pointer (some ⟨w8.heap.size,0,none⟩))]) (by simp[results,Tryz.results33,go_sem,d0,d1,d2,d3]) rfl ?_
 exact⟨(K8.out.gX (ai _) _ _ _ _).alloc _,.inr ⟨_,rfl,by rw[←HN.out];exact AB.yJ _ _ _ (by simp[World.setCell]),HT.out⟩⟩
theorem Hu (b:Nat) (s:ByteArray) (k:Nat) (w:World) (h:Rd w b s k) (hk:k<s.size) (c:UInt8) (hc:s[k]=c) (hl:uh c=false) (hd:gr c=false) (hq:E3 c=true):Calls Tryz.prog 33 #[.pointer (some ⟨b,0,none⟩)] w (ki b s k w):=by
 have iP:=h.lt;have cb:=h.top;have c2:=(h.alloc (.cells #[.int .i64 0,.int .i64 0,.int .i64 0,.string ⟨#[]⟩] 113)).c2;rw[jl] at c2;obtain⟨n,hn⟩ :∃n:Int,n=cZ s-nl (aR s k):=⟨_,rfl⟩;rw[←hn] at c2;obtain⟨Y,hY⟩ :∃Y:ByteArray,Y=s.extract k s.size:=⟨_,rfl⟩;have C1:=aa (fun W h=>aA b s k W h)
 rw[←hY] at C1;have vS:0<Y.size:=by rw[hY,aD s k (by omega)];omega
 have hY0:Y[0]=c:=by subst hY;rw[aS s k hk vS];exact hc
 have VO:=bD Y vS;have cD:=iO s k hk;rw[hc] at cD;have HC:=aa cD;have L1:=aa (fun W=>il c false W hl)
 have L2:=aa (fun W=>fL c false W hd)
 have L3:=aa (fun W=>ur c true W hq)
 have hq':c.toNat=39∨c.toNat=34:=by unfold E3 at hq;simpa using hq
 have Q1:=aa (fun W h=>C8 b s k W h hk c hc (by rintro rfl;revert hq';decide) (by rintro rfl;revert hq';decide))
 have HT:=aa (fun o (ho:qZ c (aR s (k+1)) o)=>cD▸Tok.text hl hd hq ho)
 clear cD hl hd hq hc hq';have HR:=aa h;have HN:=aa hn;clear hY h hn;have HL:=aa (jH b s k w n HR.out);go_enter Tryz.func33,Tryz.ntmps33
 go_wp2_with fail
 refine(C1.out _ HL.out.1).mono ?_;rintro e w1 ⟨rfl,r1,k1⟩;have R1:=aa r1;have K1:=aa (HL.out.2.1.trans k1);have T0:=aa (HL.out.2.2.1.kp k1 (by omega))
 have T1:=aa (HL.out.2.2.2.kp k1 (by omega))
 clear r1 k1 c2;obtain⟨a0,a1,a2,a3⟩:=T0.out.cells;obtain⟨f0,f1,f2,f3⟩:=T0.out.frozen;obtain⟨b0,b1,b2,b3⟩:=T1.out.cells;obtain⟨g0,g1,g2,g3⟩:=T1.out.frozen;go_wp2_with (first
  | (go_at_call 73;refine(L1.out _).mono ?_;rintro e w' ⟨rfl,rfl⟩)
  | (go_at_call 75;refine(L2.out _).mono ?_;rintro e w' ⟨rfl,rfl⟩)
  | (go_at_call 78;refine(L3.out _).mono ?_;rintro e w' ⟨rfl,rfl⟩))
 clear a0 a1 a2 a3 f0 f1 f2 f3 b0 b1 b2 b3 g0 g1 g2 g3;have Su:=aa (R1.out.bG (g:=w.heap.size+1) (by omega) 0 (.int .i64 4))
 have Kg:=aa (K1.out.bG (g:=w.heap.size+1) (by omega) 0 (.int .i64 4))
 have Kh:=aa (T0.out.setOther (g':=w.heap.size+1) (by omega) 0 (.int .i64 4))
 have Ki:=aa (T1.out.LY (.int .i64 4));generalize w1.setCell ⟨w.heap.size+1,0,none⟩ (.int .i64 4)=w1b at *;refine(Q1.out _ Su.out).mono ?_;rintro e w2 ⟨o,ho,Fh⟩;have HO:=aa (HT.out o ho);clear ho;rcases o with _ | ⟨t,r⟩
 ·obtain⟨rfl,k2⟩:=Fh.om
  have K2:=ao Kg k2;have nC:=aa (Kh.out.kp k2 (by omega))
  have sF:=aa (Ki.out.kp k2 (by omega))
  clear Fh k2;obtain⟨a0,a1,a2,a3⟩:=nC.out.cells;obtain⟨f0,f1,f2,f3⟩:=nC.out.frozen;obtain⟨b0,b1,b2,b3⟩:=sF.out.cells;obtain⟨g0,g1,g2,g3⟩:=sF.out.frozen;go_wp2_with fail
  clear a0 a1 a2 a3 f0 f1 f2 f3 b0 b1 b2 b3 g0 g1 g2 g3;refine(kZ _ _).mono ?_;rintro e w9 ⟨rfl,rfl⟩;have K8:=aa (K2.out.bG (g:=w.heap.size+1) (by omega) 3 (.string ⟨#[]⟩))
  have T8:=aa (nC.out.setOther (g':=w.heap.size+1) (by omega) 3 (.string ⟨#[]⟩))
  generalize w2.setCell ⟨w.heap.size+1,3,none⟩ (.string ⟨#[]⟩)=w8 at *;have X0:=T8.out.lt;obtain⟨a0,a1,a2,a3⟩:=T8.out.cells;obtain⟨f0,f1,f2,f3⟩:=T8.out.frozen;go_wp2_with fail
  clear a0 a1 a2 a3 f0 f1 f2 f3;obtain⟨d0,d1,d2,d3⟩:=((T8.out.gX (.int .i64 0) (.int .i64 0) (.int .i64 0) (.string ⟨#[]⟩)).alloc (.cells #[.int .i64 n,.iface 79 (.int .i64 5)] 85)).cells;refine bodyPost_ret (v:=.tuple #[.agg #[.int .i64 0,.int .i64 0,.int .i64 0,.string ⟨#[]⟩],.iface 83 (.pointer (some ⟨w8.heap.size,0,none⟩))]) (by simp[results,Tryz.results33,go_sem,d0,d1,d2,d3]) rfl ?_
  exact⟨(K8.out.gX (ai _) _ _ _ _).alloc _,.inr ⟨_,rfl,by rw[←HN.out];exact AB.yJ _ _ _ (by simp[World.setCell]),HO.out⟩⟩
 ·obtain⟨k',rfl,r2,hr2,aaL,k2⟩:=Fh.kg
  have R2:=aa r2;have K2:=ao Kg k2;have nC:=aa (Kh.out.kp k2 (by omega))
  have sF:=aa (Ki.out.kp k2 (by omega))
  have HE:=aa hr2;obtain⟨X,hX⟩ :∃X:ByteArray,X=⟨t.toArray⟩:=⟨_,rfl⟩;rw[←hX];have HX:=aa hX;clear Fh r2 k2 hr2 hX;obtain⟨a0,a1,a2,a3⟩:=nC.out.cells;obtain⟨f0,f1,f2,f3⟩:=nC.out.frozen;obtain⟨b0,b1,b2,b3⟩:=sF.out.cells;obtain⟨g0,g1,g2,g3⟩:=sF.out.frozen;go_wp2_with fail
  clear a0 a1 a2 a3 f0 f1 f2 f3 b0 b1 b2 b3 g0 g1 g2 g3;obtain⟨d0,d1,d2,d3⟩:=((nC.out.setOther (g':=w.heap.size+1) (by omega) 3 (.string X)).gX (.int .i64 4) (.int .i64 n) (.int .i64 0) (.string X)).cells
  refine bodyPost_ret (v:=.tuple #[.agg #[.int .i64 4,.int .i64 n,.int .i64 0,.string X],.nilIface]) (by simp[results,Tryz.results33,go_sem,d0,d1,d2,d3]) rfl ?_
  exact⟨(K2.out.bG (by omega) _ _).gX (ai _) _ _ _ _,.inl ⟨4,0,_,_,by rw[←HN.out,HX.out],(R2.out.bG (by omega) _ _).gX iP _ _ _ _,by omega,fun _=>by omega,fun e=>absurd e (by decide),by rw[HE.out];exact HO.out⟩⟩
theorem Hv (b:Nat) (s:ByteArray) (k:Nat) (w:World) (h:Rd w b s k) (hk:k<s.size) (c:UInt8) (hc:s[k]=c) (hl:uh c=false) (hd:gr c=false) (hq:E3 c=false) (hop:0<opn (aR s k)):Calls Tryz.prog 33 #[.pointer (some ⟨b,0,none⟩)] w (ki b s k w):=by
 have iP:=h.lt;have cb:=h.top;have c2:=(h.alloc (.cells #[.int .i64 0,.int .i64 0,.int .i64 0,.string ⟨#[]⟩] 113)).c2;rw[jl] at c2;obtain⟨n,hn⟩ :∃n:Int,n=cZ s-nl (aR s k):=⟨_,rfl⟩;rw[←hn] at c2;obtain⟨Y,hY⟩ :∃Y:ByteArray,Y=s.extract k s.size:=⟨_,rfl⟩;have C1:=aa (fun W h=>aA b s k W h)
 rw[←hY] at C1;have vS:0<Y.size:=by rw[hY,aD s k (by omega)];omega
 have hY0:Y[0]=c:=by subst hY;rw[aS s k hk vS];exact hc
 have VO:=bD Y vS;have cD:=iO s k hk;rw[hc] at cD;have HC:=aa cD;have L1:=aa (fun W=>il c false W hl)
 have L2:=aa (fun W=>fL c false W hd)
 have L3:=aa (fun W=>ur c false W hq)
 have Sr:Y.data.toList=aR s k:=by rw[hY,cV]
 have hYz:Y.size≤100000:=by rw[hY,aD s _ (by omega)];omega
 have L4:=aa (fun W=>oh Y true W hYz (by rw[Sr];exact bF hop))
 have Q1:=aa (fun W h=>oZ b s k W h hop)
 have HO:=aa (cD▸Tok.long hl hd hq (cD▸hop));clear Sr hYz hop;clear cD hl hd hq hc;have HR:=aa h;have HN:=aa hn;clear hY h hn;have HL:=aa (jH b s k w n HR.out);go_enter Tryz.func33,Tryz.ntmps33
 go_wp2_with fail
 refine(C1.out _ HL.out.1).mono ?_;rintro e w1 ⟨rfl,r1,k1⟩;have R1:=aa r1;have K1:=aa (HL.out.2.1.trans k1);have T0:=aa (HL.out.2.2.1.kp k1 (by omega))
 have T1:=aa (HL.out.2.2.2.kp k1 (by omega))
 clear r1 k1 c2;obtain⟨a0,a1,a2,a3⟩:=T0.out.cells;obtain⟨f0,f1,f2,f3⟩:=T0.out.frozen;obtain⟨b0,b1,b2,b3⟩:=T1.out.cells;obtain⟨g0,g1,g2,g3⟩:=T1.out.frozen;go_wp2_with (first
  | (go_at_call 73;refine(L1.out _).mono ?_;rintro e w' ⟨rfl,rfl⟩)
  | (go_at_call 75;refine(L2.out _).mono ?_;rintro e w' ⟨rfl,rfl⟩)
  | (go_at_call 78;refine(L3.out _).mono ?_;rintro e w' ⟨rfl,rfl⟩)
  | (go_at_call 80;refine(L4.out _).mono ?_;rintro e w' ⟨rfl,rfl⟩))
 clear a0 a1 a2 a3 f0 f1 f2 f3 b0 b1 b2 b3 g0 g1 g2 g3;have Su:=aa (R1.out.bG (g:=w.heap.size+1) (by omega) 0 (.int .i64 4))
 have Kg:=aa (K1.out.bG (g:=w.heap.size+1) (by omega) 0 (.int .i64 4))
 have Kh:=aa (T0.out.setOther (g':=w.heap.size+1) (by omega) 0 (.int .i64 4))
 have Ki:=aa (T1.out.LY (.int .i64 4));generalize w1.setCell ⟨w.heap.size+1,0,none⟩ (.int .i64 4)=w1b at *;refine(Q1.out _ Su.out).mono ?_;intro e w2 Fh;generalize wU (aR s k)=o at *;rcases o with _ | ⟨t,r⟩
 ·obtain⟨rfl,k2⟩:=Fh.om
  have K2:=ao Kg k2;have nC:=aa (Kh.out.kp k2 (by omega))
  have sF:=aa (Ki.out.kp k2 (by omega))
  clear Fh k2;obtain⟨a0,a1,a2,a3⟩:=nC.out.cells;obtain⟨f0,f1,f2,f3⟩:=nC.out.frozen;obtain⟨b0,b1,b2,b3⟩:=sF.out.cells;obtain⟨g0,g1,g2,g3⟩:=sF.out.frozen;go_wp2_with fail
  clear a0 a1 a2 a3 f0 f1 f2 f3 b0 b1 b2 b3 g0 g1 g2 g3;refine(kZ _ _).mono ?_;rintro e w9 ⟨rfl,rfl⟩;have K8:=aa (K2.out.bG (g:=w.heap.size+1) (by omega) 3 (.string ⟨#[]⟩))
  have T8:=aa (nC.out.setOther (g':=w.heap.size+1) (by omega) 3 (.string ⟨#[]⟩))
  generalize w2.setCell ⟨w.heap.size+1,3,none⟩ (.string ⟨#[]⟩)=w8 at *;have X0:=T8.out.lt;obtain⟨a0,a1,a2,a3⟩:=T8.out.cells;obtain⟨f0,f1,f2,f3⟩:=T8.out.frozen;go_wp2_with fail
  clear a0 a1 a2 a3 f0 f1 f2 f3;obtain⟨d0,d1,d2,d3⟩:=((T8.out.gX (.int .i64 0) (.int .i64 0) (.int .i64 0) (.string ⟨#[]⟩)).alloc (.cells #[.int .i64 n,.iface 79 (.int .i64 5)] 85)).cells;refine bodyPost_ret (v:=.tuple #[.agg #[.int .i64 0,.int .i64 0,.int .i64 0,.string ⟨#[]⟩],.iface 83 (.pointer (some ⟨w8.heap.size,0,none⟩))]) (by simp[results,Tryz.results33,go_sem,d0,d1,d2,d3]) rfl ?_
  exact⟨(K8.out.gX (ai _) _ _ _ _).alloc _,.inr ⟨_,rfl,by rw[←HN.out];exact AB.yJ _ _ _ (by simp[World.setCell]),HO.out⟩⟩
 ·obtain⟨k',rfl,r2,hr2,aaL,k2⟩:=Fh.kg
  have R2:=aa r2;have K2:=ao Kg k2;have nC:=aa (Kh.out.kp k2 (by omega))
  have sF:=aa (Ki.out.kp k2 (by omega))
  have HE:=aa hr2;obtain⟨X,hX⟩ :∃X:ByteArray,X=⟨t.toArray⟩:=⟨_,rfl⟩;rw[←hX];have HX:=aa hX;clear Fh r2 k2 hr2 hX;obtain⟨a0,a1,a2,a3⟩:=nC.out.cells;obtain⟨f0,f1,f2,f3⟩:=nC.out.frozen;obtain⟨b0,b1,b2,b3⟩:=sF.out.cells;obtain⟨g0,g1,g2,g3⟩:=sF.out.frozen;go_wp2_with fail
  clear a0 a1 a2 a3 f0 f1 f2 f3 b0 b1 b2 b3 g0 g1 g2 g3;obtain⟨d0,d1,d2,d3⟩:=((nC.out.setOther (g':=w.heap.size+1) (by omega) 3 (.string X)).gX (.int .i64 4) (.int .i64 n) (.int .i64 0) (.string X)).cells
  refine bodyPost_ret (v:=.tuple #[.agg #[.int .i64 4,.int .i64 n,.int .i64 0,.string X],.nilIface]) (by simp[results,Tryz.results33,go_sem,d0,d1,d2,d3]) rfl ?_
  exact⟨(K2.out.bG (by omega) _ _).gX (ai _) _ _ _ _,.inl ⟨4,0,_,_,by rw[←HN.out,HX.out],(R2.out.bG (by omega) _ _).gX iP _ _ _ _,by omega,fun _=>by omega,fun e=>absurd e (by decide),by rw[HE.out];exact HO.out⟩⟩
theorem Hw (b:Nat) (s:ByteArray) (k:Nat) (w:World) (h:Rd w b s k) (hk:k<s.size) (c:UInt8) (hc:s[k]=c) (hl:uh c=false) (hd:gr c=false) (hq:E3 c=false) (hop:¬ 0<opn (aR s k)):Calls Tryz.prog 33 #[.pointer (some ⟨b,0,none⟩)] w (ki b s k w):=by
 have iP:=h.lt;have cb:=h.top;have c2:=(h.alloc (.cells #[.int .i64 0,.int .i64 0,.int .i64 0,.string ⟨#[]⟩] 113)).c2;rw[jl] at c2;obtain⟨n,hn⟩ :∃n:Int,n=cZ s-nl (aR s k):=⟨_,rfl⟩;rw[←hn] at c2;obtain⟨Y,hY⟩ :∃Y:ByteArray,Y=s.extract k s.size:=⟨_,rfl⟩;have C1:=aa (fun W h=>aA b s k W h)
 rw[←hY] at C1;have vS:0<Y.size:=by rw[hY,aD s k (by omega)];omega
 have hY0:Y[0]=c:=by subst hY;rw[aS s k hk vS];exact hc
 have VO:=bD Y vS;have cD:=iO s k hk;rw[hc] at cD;have HC:=aa cD;have L1:=aa (fun W=>il c false W hl)
 have L2:=aa (fun W=>fL c false W hd)
 have L3:=aa (fun W=>ur c false W hq)
 have Sr:Y.data.toList=aR s k:=by rw[hY,cV]
 have hYz:Y.size≤100000:=by rw[hY,aD s _ (by omega)];omega
 have L4:=aa (fun W=>oh Y false W hYz (by rw[Sr];exact bN hop))
 have Q1:=aa (fun W h=>LX b s k W h)
 have HO:=aa (cD▸Tok.sign hl hd hq (cD▸hop));clear Sr hYz hop;clear cD hl hd hq hc;have HR:=aa h;have HN:=aa hn;clear hY h hn;have HL:=aa (jH b s k w n HR.out);go_enter Tryz.func33,Tryz.ntmps33
 go_wp2_with fail
 refine(C1.out _ HL.out.1).mono ?_;rintro e w1 ⟨rfl,r1,k1⟩;have R1:=aa r1;have K1:=aa (HL.out.2.1.trans k1);have T0:=aa (HL.out.2.2.1.kp k1 (by omega))
 have T1:=aa (HL.out.2.2.2.kp k1 (by omega))
 clear r1 k1 c2;obtain⟨a0,a1,a2,a3⟩:=T0.out.cells;obtain⟨f0,f1,f2,f3⟩:=T0.out.frozen;obtain⟨b0,b1,b2,b3⟩:=T1.out.cells;obtain⟨g0,g1,g2,g3⟩:=T1.out.frozen;go_wp2_with (first
  | (go_at_call 73;refine(L1.out _).mono ?_;rintro e w' ⟨rfl,rfl⟩)
  | (go_at_call 75;refine(L2.out _).mono ?_;rintro e w' ⟨rfl,rfl⟩)
  | (go_at_call 78;refine(L3.out _).mono ?_;rintro e w' ⟨rfl,rfl⟩)
  | (go_at_call 80;refine(L4.out _).mono ?_;rintro e w' ⟨rfl,rfl⟩))
 clear a0 a1 a2 a3 f0 f1 f2 f3 b0 b1 b2 b3 g0 g1 g2 g3;have Su:=aa (R1.out.bG (g:=w.heap.size+1) (by omega) 0 (.int .i64 5))
 have Kg:=aa (K1.out.bG (g:=w.heap.size+1) (by omega) 0 (.int .i64 5))
 have Kh:=aa (T0.out.setOther (g':=w.heap.size+1) (by omega) 0 (.int .i64 5))
 have Ki:=aa (T1.out.LY (.int .i64 5));generalize w1.setCell ⟨w.heap.size+1,0,none⟩ (.int .i64 5)=w1b at *;refine(Q1.out _ Su.out).mono ?_;intro e w2 Fh;generalize sign (aR s k)=o at *;rcases o with _ | ⟨t,r⟩
 ·obtain⟨rfl,k2⟩:=Fh.om
  have K2:=ao Kg k2;have nC:=aa (Kh.out.kp k2 (by omega))
  have sF:=aa (Ki.out.kp k2 (by omega))
  clear Fh k2;obtain⟨a0,a1,a2,a3⟩:=nC.out.cells;obtain⟨f0,f1,f2,f3⟩:=nC.out.frozen;obtain⟨b0,b1,b2,b3⟩:=sF.out.cells;obtain⟨g0,g1,g2,g3⟩:=sF.out.frozen;go_wp2_with fail
  clear a0 a1 a2 a3 f0 f1 f2 f3 b0 b1 b2 b3 g0 g1 g2 g3;refine(kZ _ _).mono ?_;rintro e w9 ⟨rfl,rfl⟩;have K8:=aa (K2.out.bG (g:=w.heap.size+1) (by omega) 3 (.string ⟨#[]⟩))
  have T8:=aa (nC.out.setOther (g':=w.heap.size+1) (by omega) 3 (.string ⟨#[]⟩))
  generalize w2.setCell ⟨w.heap.size+1,3,none⟩ (.string ⟨#[]⟩)=w8 at *;have X0:=T8.out.lt;obtain⟨a0,a1,a2,a3⟩:=T8.out.cells;obtain⟨f0,f1,f2,f3⟩:=T8.out.frozen;go_wp2_with fail
  clear a0 a1 a2 a3 f0 f1 f2 f3;obtain⟨d0,d1,d2,d3⟩:=((T8.out.gX (.int .i64 0) (.int .i64 0) (.int .i64 0) (.string ⟨#[]⟩)).alloc (.cells #[.int .i64 n,.iface 79 (.int .i64 5)] 85)).cells;refine bodyPost_ret (v:=.tuple #[.agg #[.int .i64 0,.int .i64 0,.int .i64 0,.string ⟨#[]⟩],.iface 83 (.pointer (some ⟨w8.heap.size,0,none⟩))]) (by simp[results,Tryz.results33,go_sem,d0,d1,d2,d3]) rfl ?_
  exact⟨(K8.out.gX (ai _) _ _ _ _).alloc _,.inr ⟨_,rfl,by rw[←HN.out];exact AB.yJ _ _ _ (by simp[World.setCell]),HO.out⟩⟩
 ·obtain⟨k',rfl,r2,hr2,aaL,k2⟩:=Fh.kg
  have R2:=aa r2;have K2:=ao Kg k2;have nC:=aa (Kh.out.kp k2 (by omega))
  have sF:=aa (Ki.out.kp k2 (by omega))
  have HE:=aa hr2;obtain⟨X,hX⟩ :∃X:ByteArray,X=⟨t.toArray⟩:=⟨_,rfl⟩;rw[←hX];have HX:=aa hX;clear Fh r2 k2 hr2 hX;obtain⟨a0,a1,a2,a3⟩:=nC.out.cells;obtain⟨f0,f1,f2,f3⟩:=nC.out.frozen;obtain⟨b0,b1,b2,b3⟩:=sF.out.cells;obtain⟨g0,g1,g2,g3⟩:=sF.out.frozen;go_wp2_with fail
  clear a0 a1 a2 a3 f0 f1 f2 f3 b0 b1 b2 b3 g0 g1 g2 g3;obtain⟨d0,d1,d2,d3⟩:=((nC.out.setOther (g':=w.heap.size+1) (by omega) 3 (.string X)).gX (.int .i64 5) (.int .i64 n) (.int .i64 0) (.string X)).cells
  refine bodyPost_ret (v:=.tuple #[.agg #[.int .i64 5,.int .i64 n,.int .i64 0,.string X],.nilIface]) (by simp[results,Tryz.results33,go_sem,d0,d1,d2,d3]) rfl ?_
  exact⟨(K2.out.bG (by omega) _ _).gX (ai _) _ _ _ _,.inl ⟨5,0,_,_,by rw[←HN.out,HX.out],(R2.out.bG (by omega) _ _).gX iP _ _ _ _,by omega,fun _=>by omega,fun e=>absurd e (by decide),by rw[HE.out];exact HO.out⟩⟩
theorem Hx (b:Nat) (s:ByteArray) (k:Nat) (w:World) (h:Rd w b s k):Calls Tryz.prog 33 #[.pointer (some ⟨b,0,none⟩)] w (ki b s k w):=by
 by_cases hk:k=s.size
 ·exact Hs b s k w h hk
 ·have hk:k<s.size:=by have:=h.le;omega
  cases hl:uh s[k]
  ·cases hd:gr s[k]
   ·cases hq:E3 s[k]
    ·by_cases hop:0<opn (aR s k)
     ·exact Hv b s k w h hk _ rfl hl hd hq hop
     ·exact Hw b s k w h hk _ rfl hl hd hq hop
    ·exact Hu b s k w h hk _ rfl hl hd hq
   ·cases hno:p9 9223372036854775807 ((aR s k).takeWhile pt)
    ·exact wb b s k w h hk _ rfl hl hd hno
    ·exact Ht b s k w h hk _ rfl hl hd hno
  ·exact Da b s k w h hk _ rfl hl
def iX (ts:List Tk):List Value:=ts.flatMap fun t=>[.int .i64 t.1,.int .i64 t.2.1,.int .i64 t.2.2.1,.string ⟨t.2.2.2.toArray⟩]
theorem Db (a b:List Tk):iX (a++b)=iX a++iX b:=by simp[iX]
def qg (W:World) (B:Nat) (v:Value) (ts:List Tk):Prop:=W.ownsRow B 113 4 v ts.length (iX ts)
theorem qg.nil (W:World) (B:Nat):qg W B (.slice none 0 0) []:=World.ownsRow_nil W B 113 4
theorem qg.form {W:World} {B:Nat} {v:Value} {ts:List Tk} (h:qg W B v ts) :∃A c,v=.slice A ts.length c:=by
 rcases h.2 with ⟨rfl,h0⟩ | ⟨g,cap,_,rfl,_⟩
 ·exact⟨none,0,by rw[h0]⟩
 ·exact⟨_,_,rfl⟩
theorem qg.kp {b B:Nat} {W W':World} {v:Value} {ts:List Tk} (h:qg W B v ts) (hk:Kp b W W') (hb:b<B):qg W' B v ts:=by
 refine World.ownsRow.kept h hk ?_;rcases h.2 with ⟨rfl,_⟩ | ⟨g,_,_,rfl,hg,_⟩
 ·left;rfl
 ·right
  intro e;have:g=b:=by simpa[Value.ownBlock] using e
  omega
theorem X6:(Tryz.prog.info? 113).map (fun i=>(i.zero,i.size,i.bytes))=some (some (.agg #[.int .i64 0,.int .i64 0,.int .i64 0,.string ⟨#[]⟩]),4,40):=by kernel_rfl
theorem LZ {ops:Array Oper} {rest:List Oper} {o:Oper} {a:Act} {Q:Exit→Act→World→Prop} (w:World) (kd ln n:Int) (X:ByteArray) (t:List UInt8) (hX:X=⟨t.toArray⟩) (hgd:o.guard=none) (sl y:Operand)
  (ho:o.op=.call { callee:=.builtin .append,args:=#[sl,y],argTypes:=#[67,67]}) (B:Nat) (v:Value) (ts:List Tk) (hs:a.eval sl=v) (hown:qg w B v ts) (g:Nat) (hg:g=w.heap.size) (hy:a.eval y=.slice (some ⟨g,0,none⟩) 1 1)
  (hlen:ts.length≤20000) (hB:B≤w.heap.size)
  (h :∀v' w',qg w' B v' (ts++[(kd,ln,n,t)])→Below B w w'→(∀i o,w.heap[i]? = some o→some i≠v.ownBlock→w'.heap[i]? = some o)→wpList Tryz.prog ops Q rest (a.put o.dst v') w'):wpList Tryz.prog ops Q (o::rest) a (w.alloc (.cells #[.int .i64 kd,.int .i64 ln,.int .i64 n,.string X] 113)):=by
 subst hX;subst hg;obtain⟨i0,nB,hz0,hz1,hz2⟩:=info_parts X6;have hc:=fun j=>cell_of_row (w.alloc (.cells #[.int .i64 kd,.int .i64 ln,.int .i64 n,.string ⟨t.toArray⟩] 113)) w.heap.size j _ 113 (0,0) (heap_alloc_new w _)
 have hpl :∀j:Nat,(⟨w.heap.size,0,none⟩:Addr).add j=⟨w.heap.size,j,none⟩:=fun j=>by unfold Addr.add;split<;>simp_all
 refine wpList_append_own (P:=Tryz.prog) _ hgd sl y 67 ho B 113 i0 (.agg #[.int .i64 0,.int .i64 0,.int .i64 0,.string ⟨#[]⟩]) 4 40 Tryz.underlying67 nB hz0 hz1 hz2 rfl (by omega) v ts.length (iX ts) hs (hown.alloc _) ⟨w.heap.size,0,none⟩ 1 1 [.int .i64 kd,.int .i64 ln,.int .i64 n,.string ⟨t.toArray⟩] hy rfl
  (fun j u hj=>by
   rw[hpl,hc j];match j,hj with
   | 0,hj=>exact hj
   | 1,hj=>exact hj
   | 2,hj=>exact hj
   | 3,hj=>exact hj
   | j+4,hj=>simp at hj) (fun u hu=>by
    rcases bb.1 hu with rfl|hu
    ·rfl
    ·rcases bb.1 hu with rfl|hu
     ·rfl
     ·rcases bb.1 hu with rfl|hu
      ·rfl
      ·obtain rfl:=bI.1 hu
       rfl) (by unfold maxLen;omega) (by omega) (by simp;omega) ?_
 intro v' w' h1 h2 _;refine h v' w' ?_ (((Below.refl _ _).alloc hB _).grown h2 (by simp;omega) (fun k hk=>(hown.lt k hk).1)) (fun i ob hi hne=>by
  have hlt:=(aJ.1 hi).1;exact(h2.block i (by simp;omega) hne).trans ((Below.heap_alloc w _ i hlt).trans hi))
 unfold qg;rw[bM,Db];exact h1
structure uA (W:World) (v:Value) (ts:List Tk):Prop where
 ex :∃g cap,v=.slice (some ⟨g,0,none⟩) ts.length cap∧ts.length≤cap∧g<W.heap.size∧∀(j:Nat) (t:Tk),ts[j]? = some t →
  W.cell? ⟨g,j*4,none⟩=some (.int .i64 t.1)∧W.cell? ⟨g,j*4+1,none⟩=some (.int .i64 t.2.1)∧W.cell? ⟨g,j*4+2,none⟩=some (.int .i64 t.2.2.1)∧W.cell? ⟨g,j*4+3,none⟩=some (.string ⟨t.2.2.2.toArray⟩)
theorem Dc :∀(ts:List Tk) (j:Nat) (t:Tk),ts[j]? = some t→(iX ts)[j*4]? = some (.int .i64 t.1)∧(iX ts)[j*4+1]? = some (.int .i64 t.2.1)∧(iX ts)[j*4+2]? = some (.int .i64 t.2.2.1)∧(iX ts)[j*4+3]? = some (.string ⟨t.2.2.2.toArray⟩):=by
 intro ts;induction ts with
 | nil=>intro j t h;simp at h
 | cons a r ih =>
  intro j t h;cases j with
  | zero =>
   obtain rfl:a=t:=by simpa using h
   exact⟨rfl,rfl,rfl,rfl⟩
  | succ j =>
   obtain⟨h0,h1,h2,h3⟩:=ih j t (by simpa using h)
   have e :∀i,(iX (a::r))[i+4]? = (iX r)[i]?:=fun i=>rfl
   rw[show(j+1)*4=j*4+4 by omega,show j*4+4+1=j*4+1+4 by omega,show j*4+4+2=j*4+2+4 by omega,show j*4+4+3=j*4+3+4 by omega,e,e,e,e]
   exact⟨h0,h1,h2,h3⟩
theorem qg.acF {W:World} {B:Nat} {v:Value} {ts:List Tk} (h:qg W B v ts) (h0:0<ts.length):uA W v ts:=by
 have hh:=h;rcases h.2 with ⟨rfl,h1⟩ | ⟨g,cap,cur,rfl,_,_,hc,_⟩
 ·omega
 ·refine⟨g,cap,rfl,hc,(World.ownsRow.lt hh g rfl).2,fun j t hj=>?_⟩
  have hj':j<ts.length:=(aL.1 hj).1;obtain⟨e0,e1,e2,e3⟩:=Dc ts j t hj;have c:=fun i hi=>World.ownsRow.cellAt hh i hi
  exact⟨(c _ (by omega)).trans e0,(c _ (by omega)).trans e1,(c _ (by omega)).trans e2,(c _ (by omega)).trans e3⟩
theorem uA.below {W W':World} {v:Value} {ts:List Tk} (h:uA W v ts) (hb:Below W.heap.size W W'):uA W' v ts:=by
 obtain⟨g,cap,h1,h2,h3,h4⟩:=h.ex;refine⟨g,cap,h1,h2,cC h3 hb.size,fun j t hj=>?_⟩
 obtain⟨e0,e1,e2,e3⟩:=h4 j t hj;exact⟨(hb.cell (p:=⟨g,_,none⟩) h3).trans e0,(hb.cell (p:=⟨g,_,none⟩) h3).trans e1,(hb.cell (p:=⟨g,_,none⟩) h3).trans e2,(hb.cell (p:=⟨g,_,none⟩) h3).trans e3⟩
theorem AB.below {W W':World} {v:Value} {n:Int} (h:AB W v n) (hb:Below W.heap.size W W'):AB W' v n:=by
 obtain⟨g,h1,h2⟩:=h;exact⟨g,h1,(hb.block g (aJ.1 h2).1).trans h2⟩
def Sv (s:ByteArray) (w:World) (e:Ending) (w':World):Prop :=
 Below w.heap.size w w'∧∃o,dO (cZ s) s.data.toList o∧match o with
  | .ok ts=>ts.length≤s.size+1∧∃v,e=.returned (.tuple #[v,.nilIface])∧uA w' v ts
  | .error n=>∃v,e=.returned (.tuple #[.slice none 0 0,v])∧AB w' v n
theorem Sw (o:Except Int (List Tk)):o.map (([]:List Tk) ++ ·)=o:=by cases o<;>rfl
theorem Sx (o:Except Int (List Tk)) (T:List Tk) (t:Tk):(o.map (t :: ·)).map (T ++ ·)=o.map ((T++[t]) ++ ·):=by
 cases o
 ·rfl
 ·simp[Except.map]
theorem X9 (w:World) (s:ByteArray) (hs:s.size≤10000) (h7:4≤w.heap.size) (hM:Mx w):Rd (w.alloc (.cells #[.string s,.int .i64 0,.int .i64 1] 110)) w.heap.size s 0 :=
 ⟨World.alloc_heap_new w _,bx _,by omega,h7,hM.below ((Below.refl _ _).alloc (ai _) _)⟩
theorem nD {w W:World} {o:Obj} (h:Kp w.heap.size (w.alloc o) W):Below w.heap.size w W:=by
 have h1:=(Below.refl w.heap.size w).alloc (ai _) o;exact h1.trans ⟨h.os,h.tape,h.output,h.size,fun k hk=>h.block k (by simp;omega) (by simp;omega)⟩
theorem Sy {kd n:Int} {t r:List UInt8} (h:Tok [] (some (kd,n,t,r))):n=0∧t=[]:=by
 cases h;exact⟨rfl,rfl⟩
theorem Sz (s:ByteArray) (w:World) (hs:s.size≤10000) (h7:4≤w.heap.size) (hM:Mx w):Calls Tryz.prog 18 #[.string s] w (Sv s w):=by
 have g0:decide (65536<s.size)=false:=bN (by omega)
 have HR:=aa (X9 w s hs h7 hM);clear hM;go_enter Tryz.func18,Tryz.ntmps18
 go_wp2_with fail
 have SB:s.data.toList=aR s 0:=rfl;go_loopg [5] s.size (fun z tv wr=>∃(k1:Nat) (ts:List Tk),Rd wr w.heap.size s k1∧s.size-k1≤z∧Kp w.heap.size (w.alloc (.cells #[.string s,.int .i64 0,.int .i64 1] 110)) wr∧qg wr (w.heap.size+1) tv ts∧ts.length≤k1∧∀o,dO (cZ s) (aR s k1) o→dO (cZ s) s.data.toList (o.map (ts ++ ·)))
 case atStart=>exact⟨0,[],HR.out,by omega,Kp.refl _ _,qg.nil _ _,ai _,fun o h=>by rw[Sw];exact h⟩
 case round =>
  clear SB;obtain⟨k1,ts,hr,hz,Se,hrow,hlen,aaM⟩:=hrel;have Sf:=hr.le;have R0:=aa hr;have K0:=aa Se;have W0:=aa hrow;have HL:=aa aaM;clear hr Se hrow aaM;obtain⟨A1,c1,rfl⟩:=W0.out.form;have aej:((ts.length:Int) == 16384)=false:=aE.2 (by omega)
  go_wp2_with fail
  refine(LJ _ _ _ _ R0.out).mono ?_;rintro e w1 ⟨kp1,⟨k2,rfl,r1,hk12,hsk⟩ | ⟨r,v,rfl,hf,hsk⟩⟩
  ·have hle2:=r1.le
   have R1:=aa r1;have K1:=ao K0 kp1;have W1:=aa (W0.out.kp kp1 (by omega))
   have HS:=aa hsk;clear r1 kp1 hsk;go_wp2_with fail
   refine(Hx _ _ _ _ R1.out).mono ?_;rintro e w2 ⟨kp2,⟨kd,n,t,k3,rfl,r2,hk23,ny,hzero,L0⟩ | ⟨v,rfl,hf,L0⟩⟩
   ·have hle3:=r2.le
    have R2:=aa r2;have K2:=ao K1 kp2;have W2:=aa (W1.out.kp kp2 (by omega))
    have HT:=aa L0;have HZ:=aa hzero;obtain⟨X,hX⟩ :∃X:ByteArray,X=⟨t.toArray⟩:=⟨_,rfl⟩;rw[←hX];have HX:=aa hX;obtain⟨ln,L7⟩ :∃ln:Int,ln=cZ s-nl (aR s k2):=⟨_,rfl⟩;rw[←L7];have Hy:=aa L7;have yK:=K2.out.size;simp at yK;clear r2 kp2 L0 hzero hX L7;have W3:=aa (World.ownsRow.alloc W2.out (.cells #[.int .i64 kd,.int .i64 ln,.int .i64 n,.string X] 113));by_cases qf:kd=0
    ·subst qf
     have key :∀w4:World,(∀i o,(w2.alloc (.cells #[.int .i64 0,.int .i64 ln,.int .i64 n,.string X] 113)).heap[i]? = some o→some i≠(Value.slice A1 ts.length c1).ownBlock→w4.heap[i]? = some o)→w4.cell? ⟨w2.heap.size,0,none⟩=some (.int .i64 0):=fun w4 h4=>by
      have hb:=h4 w2.heap.size _ (World.alloc_heap_new w2 _) (fun e=>by have:=(World.ownsRow.lt W2.out _ e.symm).2;omega)
      simp[World.cell?,hb]
     have KEY:=aa key;clear key;go_wp2_with (at_builtin;refine LZ _ 0 ln n X t HX.out rfl _ _ rfl (w.heap.size+1) _ ts rfl W3.out _ (by simp) rfl (by omega) (by simp;omega) ?_;intro v4 w4 h4 b4 i4;have Ya:=KEY.out w4 i4;have H4:=aa h4;clear h4 i4)
     go_ret2
     have hs0:aR s k2=[]:=HZ.out (by trivial)
     have ht:=HT.out;rw[hs0] at ht;have aaN:=HS.out;rw[hs0] at aaN;have hl:=HL.out _ (.eof aaN);have hnt:=Sy ht;have L7:ln=cZ s:=by rw[Hy.out,hs0,Xn];omega
     refine⟨(nD K2.out).trans (((Below.refl _ _).alloc (by omega) _).trans (b4.mono (by omega))),.ok (ts++[(0,ln,n,t)]),?_,by rw[bM];simp;omega,v4,rfl,H4.out.acF (by simp)⟩
     rw[L7,hnt.1,hnt.2];exact hl
    ·have key :∀w4:World,(∀i o,(w2.alloc (.cells #[.int .i64 kd,.int .i64 ln,.int .i64 n,.string X] 113)).heap[i]? = some o→some i≠(Value.slice A1 ts.length c1).ownBlock→w4.heap[i]? = some o)→w4.cell? ⟨w2.heap.size,0,none⟩=some (.int .i64 kd):=fun w4 h4=>by
      have hb:=h4 w2.heap.size _ (World.alloc_heap_new w2 _) (fun e=>by have:=(World.ownsRow.lt W2.out _ e.symm).2;omega)
      simp[World.cell?,hb]
     have KEY:=aa key;clear key;have gk:(kd == 0)=false:=aE.2 qf;have hk3:=ny qf;go_wp2_with (at_builtin;refine LZ _ kd ln n X t HX.out rfl _ _ rfl (w.heap.size+1) _ ts rfl W3.out _ (by simp) rfl (by omega) (by simp;omega) ?_;intro v4 w4 h4 b4 i4;have Ya:=KEY.out w4 i4;have H4:=aa h4;have B4:=aa b4;clear h4 i4 b4)
     go_roundg (s.size-k3)
     case measure=>omega
     case rel=>exact⟨k3,ts++[(kd,ln,n,t)],(R2.out.alloc _).yI B4.out (by omega),ai _,(K2.out.alloc _).below (by simpa using B4.out),H4.out,by rw[bM];simp;omega,fun o ho=>by
      have hne:aR s k2≠[]:=fun e=>by
       have:=ay List.length e;rw[fR,List.length_nil] at this;omega
      have:=HL.out _ (.step HS.out hne HT.out ho);rw[Sx,←Hy.out] at this;exact this⟩
   ·obtain⟨g,rfl,hg⟩:=hf
    have K2:=ao K1 kp2;have HT:=aa L0;have HG:=aa hg;clear kp2 L0 hg;go_wp2_with fail
    go_ret2
    have hf':AB w2 (.iface 83 (.pointer (some ⟨g,0,none⟩))) (cZ s-nl (aR s k2)):=⟨g,rfl,HG.out⟩;have hb2:=(Below.refl w2.heap.size w2).alloc (ai _) (.cells #[.int .i64 0,.int .i64 0,.int .i64 0,.string ⟨#[]⟩] 113);exact⟨(nD K2.out).trans (hb2.mono (by have:=K2.out.size;simp at this;omega)),.error _,HL.out _ (.fW HS.out HT.out),_,rfl,hf'.below hb2⟩
  ·obtain⟨g,rfl,hg⟩:=hf
   have K1:=ao K0 kp1;have HS:=aa hsk;have HG:=aa hg;clear kp1 hsk hg;go_wp2_with fail
   go_ret2
   exact⟨nD K1.out,.error _,HL.out _ (.ei HS.out),_,rfl,g,rfl,HG.out⟩
theorem aB {a b c:World} (h:Below a.heap.size a b) (k:Below b.heap.size b c):Below a.heap.size a c:=h.trans (k.mono h.size)
theorem jm {B:Nat} {a b c:World} (h:Below B a b) (hB:B≤a.heap.size) (k:Below b.heap.size b c):Below B a c:=h.trans (k.mono (aK hB h.size))
theorem L9 {W:World} {B e n s:Nat} {v:Value} {xs:List Value} (h:W.ownsRow B e s v n xs) :∀k,v.ownBlock=some k→B≤k:=fun k hk=>(h.lt k hk).1
theorem an (w:World) (o:Obj):(w.alloc o).heap.size=w.heap.size+1:=by simp
theorem dC (w:World) (cs:Array Value) (t:TypeId) (j:Nat):(w.alloc (.cells cs t)).cell? ⟨w.heap.size,j,none⟩=cs[j]?:=cell_of_row (w.alloc (.cells cs t)) w.heap.size j _ t (0,0) (heap_alloc_new w _)
def oJ (W:World) (b n:Nat) (f:Nat→Value):Prop:=∀j,j<n→W.cell? ⟨b,j,none⟩=some (f j)∧W.frozen? ⟨b,j,none⟩=false
theorem oJ.eq_ {W:World} {b n:Nat} {f g:Nat→Value} (h:oJ W b n f) (he :∀j,j<n→f j=g j):oJ W b n g:=fun j hj=>by rw[←he j hj];exact h j hj
theorem oJ.Yb {W:World} {b n k:Nat} {f:Nat→Value} (h:oJ W b n f) (hk:k<n) (u:Value):oJ (W.setCell ⟨b,k,none⟩ u) b n (fun j=>if j=k then u else f j):=by
 intro j hj;rw[World.frozen?_setCell];show _=some (if j=k then u else f j)∧_
 by_cases e:j=k
 ·subst e
  rw[ak rfl];exact⟨World.cell?_setCell_same W _ _ (h j hj).1,(h j hj).2⟩
 ·rw[af e,World.cell?_setCell_other W _ _ _ (by intro e';injection e' with _ e2 _;omega)]
  exact h j hj
theorem oJ.below {W W':World} {B b n:Nat} {f:Nat→Value} (h:oJ W b n f) (hb:Below B W W') (hB:b<B):oJ W' b n f:=fun j hj=>by
 rw[hb.cell (p:=⟨b,j,none⟩) hB,hb.frozen (p:=⟨b,j,none⟩) hB];exact h j hj
def eX (W:World) (v:Value) (zs:List Int):Prop :=
 ∃A c,v=.slice A zs.length c∧zs.length≤c∧(zs=[]∨∃bk o,A=some ⟨bk,o,none⟩∧bk<W.heap.size∧∀(j:Nat) z,zs[j]? = some z→W.cell? ⟨bk,o+j,none⟩=some (.int .i64 z))
theorem eX.below {W W':World} {v:Value} {zs:List Int} (h:eX W v zs) (hb:Below W.heap.size W W'):eX W' v zs:=by
 obtain⟨A,c,rfl,hc,h | ⟨bk,o,rfl,eQ,hx⟩⟩:=h
 ·exact⟨A,c,rfl,hc,.inl h⟩
 ·exact⟨_,c,rfl,hc,.inr ⟨bk,o,rfl,cC eQ hb.size,fun j x hj=>(hb.cell (p:=⟨bk,o+j,none⟩) eQ).trans (hx j x hj)⟩⟩
def sG (W:World) (v:Value) (xs:List ByteArray):Prop :=
 ∃A c,v=.slice A xs.length c∧xs.length≤c∧(xs=[]∨∃bk o,A=some ⟨bk,o,none⟩∧bk<W.heap.size∧∀(j:Nat) x,xs[j]? = some x→W.cell? ⟨bk,o+j,none⟩=some (.string x))
theorem sG.below {W W':World} {v:Value} {xs:List ByteArray} (h:sG W v xs) (hb:Below W.heap.size W W'):sG W' v xs:=by
 obtain⟨A,c,rfl,hc,h | ⟨bk,o,rfl,eQ,hx⟩⟩:=h
 ·exact⟨A,c,rfl,hc,.inl h⟩
 ·exact⟨_,c,rfl,hc,.inr ⟨bk,o,rfl,cC eQ hb.size,fun j x hj=>(hb.cell (p:=⟨bk,o+j,none⟩) eQ).trans (hx j x hj)⟩⟩
def cP (x:Nd) (nv kv:Value):Value:=.agg #[.int .i64 x.kind,.int .i64 x.line,.int .i64 x.op,.int .i64 x.num,.string x.s,nv,kv]
structure lV (W:World) (b p:Nat) (x:Nd) (nv kv:Value):Prop where
 c0:W.cell? ⟨b,p,none⟩=some (.int .i64 x.kind)
 c1:W.cell? ⟨b,p+1,none⟩=some (.int .i64 x.line)
 c2:W.cell? ⟨b,p+2,none⟩=some (.int .i64 x.op)
 c3:W.cell? ⟨b,p+3,none⟩=some (.int .i64 x.num)
 c4:W.cell? ⟨b,p+4,none⟩=some (.string x.s)
 c5:W.cell? ⟨b,p+5,none⟩=some nv
 c6:W.cell? ⟨b,p+6,none⟩=some kv
theorem lV.below {W W':World} {B b p:Nat} {x:Nd} {nv kv:Value} (h:lV W b p x nv kv) (hb:Below B W W') (hB:b<B):lV W' b p x nv kv :=
 ⟨(hb.cell (p:=⟨b,_,none⟩) hB).trans h.c0,(hb.cell (p:=⟨b,_,none⟩) hB).trans h.c1,(hb.cell (p:=⟨b,_,none⟩) hB).trans h.c2,(hb.cell (p:=⟨b,_,none⟩) hB).trans h.c3,(hb.cell (p:=⟨b,_,none⟩) hB).trans h.c4,(hb.cell (p:=⟨b,_,none⟩) hB).trans h.c5,(hb.cell (p:=⟨b,_,none⟩) hB).trans h.c6⟩
def sH (W:World) (v:Value) (T:List Nd):Prop :=
 ∃A c,v=.slice A T.length c∧T.length≤c∧(T=[]∨∃bk o,A=some ⟨bk,o,none⟩∧bk<W.heap.size∧∀(i:Nat) x,T[i]? = some x→∃nv kv,lV W bk (o+i*7) x nv kv∧sG W nv x.names∧eX W kv x.kids)
theorem sH.below {W W':World} {v:Value} {T:List Nd} (h:sH W v T) (hb:Below W.heap.size W W'):sH W' v T:=by
 obtain⟨A,c,rfl,hc,h | ⟨bk,o,rfl,eQ,hx⟩⟩:=h
 ·exact⟨A,c,rfl,hc,.inl h⟩
 ·exact⟨_,c,rfl,hc,.inr ⟨bk,o,rfl,cC eQ hb.size,fun j x hj=>by
   obtain⟨nv,kv,h1,h2,h3⟩:=hx j x hj;exact⟨nv,kv,h1.below hb eQ,h2.below hb,h3.below hb⟩⟩⟩
theorem info3:(Tryz.prog.info? 3).map (fun i=>(i.zero,i.size,i.bytes))=some (some (.int .i64 0),1,8):=by kernel_rfl
theorem Yc:(Tryz.prog.info? 180).map (fun i=>(i.zero,i.size,i.bytes))=some (some (.int .i64 0),1,8):=by kernel_rfl
theorem qh {w w':World} (h:w.grownBy w' none):Below w.heap.size w w':=⟨h.os,h.tape,h.output,h.size,fun i hi=>h.block i hi (by simp)⟩
theorem Hz (n:Nat) (hn:n≤1000000) (w:World) :∃W,(Instr.makeSlice 33 (.int .i64 (n:Int)) (.int .i64 (n:Int))).run Tryz.prog w=.ok (.slice (some ⟨w.heap.size,0,none⟩) n n) W∧Below w.heap.size w W∧w.heap.size<W.heap.size∧oJ W w.heap.size n (fun _=>.int .i64 0):=by
 obtain⟨i0,nB,hz0,hz1,hz2⟩:=info_parts info3;obtain⟨W,h1,h2,h3⟩:=run_make_full (P:=Tryz.prog) w w.heap.size 33 3 i0 (.int .i64 0) 1 Tryz.underlying33 nB hz0 hz1 .i64 .i64 n (by rw[hz2];omega) (by unfold maxLen;omega) (ai _)
 refine⟨W,h1,qh h3,(h2.lt _ rfl).2,fun j hj=>⟨?_,h2.frozenAt j⟩⟩
 rw[h2.cellAt j (by omega)]
 show(madeCells #[.int .i64 0] (n*1)).toList[j]? = _
 rw[toList_madeCells_one,List.getElem?_replicate,ak (by omega)]
theorem Dd (n:Nat) (hn:n≤1000000) (w:World) :∃W,(Instr.makeSlice 179 (.int .i64 (n:Int)) (.int .i64 (n:Int))).run Tryz.prog w=.ok (.slice (some ⟨w.heap.size,0,none⟩) n n) W∧Below w.heap.size w W∧w.heap.size<W.heap.size∧oJ W w.heap.size n (fun _=>.int .i64 0):=by
 obtain⟨i0,nB,hz0,hz1,hz2⟩:=info_parts Yc;obtain⟨W,h1,h2,h3⟩:=run_make_full (P:=Tryz.prog) w w.heap.size 179 180 i0 (.int .i64 0) 1 Tryz.underlying179 nB hz0 hz1 .i64 .i64 n (by rw[hz2];omega) (by unfold maxLen;omega) (ai _)
 refine⟨W,h1,qh h3,(h2.lt _ rfl).2,fun j hj=>⟨?_,h2.frozenAt j⟩⟩
 rw[h2.cellAt j (by omega)]
 show(madeCells #[.int .i64 0] (n*1)).toList[j]? = _
 rw[toList_madeCells_one,List.getElem?_replicate,ak (by omega)]
def AH (W:World) (B:Nat) (v:Value) (zs:List Int):Prop:=W.ownsRow B 3 1 v zs.length (zs.map (Value.int .i64))
theorem AH.form {W:World} {B:Nat} {v:Value} {zs:List Int} (h:AH W B v zs) (h0:0<zs.length) :∃g cap,v=.slice (some ⟨g,0,none⟩) zs.length cap∧B≤g∧g<W.heap.size∧∀(j:Nat) z,zs[j]? = some z→W.cell? ⟨g,j,none⟩=some (.int .i64 z):=by
 have hh:=h;rcases h.2 with ⟨rfl,h1⟩ | ⟨g,cap,cur,rfl,hg,_,hc,_⟩
 ·omega
 ·refine⟨g,cap,rfl,hg,(World.ownsRow.lt hh g rfl).2,fun j z hj=>?_⟩
  have hj':j<zs.length:=(aL.1 hj).1;rw[World.ownsRow.cellAt hh j (by omega),gE,hj]
  rfl
theorem Yd {ops:Array Oper} {rest:List Oper} {o:Oper} {a:Act} {Q:Exit→Act→World→Prop} (w:World) (z:Int) (hgd:o.guard=none) (sl y:Operand)
  (ho:o.op=.call { callee:=.builtin .append,args:=#[sl,y],argTypes:=#[33,33]}) (B:Nat) (v:Value) (zs:List Int) (hs:a.eval sl=v) (hown:AH w B v zs) (g:Nat) (hg:g=w.heap.size) (hy:a.eval y=.slice (some ⟨g,0,none⟩) 1 1)
  (hlen:zs.length≤1000000) (hB:B≤w.heap.size)
  (h :∀v' w',AH w' B v' (zs++[z])→Below B w w'→wpList Tryz.prog ops Q rest (a.put o.dst v') w'):wpList Tryz.prog ops Q (o::rest) a (w.alloc (.cells #[.int .i64 z] 3)):=by
 subst hg;obtain⟨i0,nB,hz0,hz1,hz2⟩:=info_parts info3;have hc:=cell_of_row (w.alloc (.cells #[.int .i64 z] 3)) w.heap.size 0 _ 3 (0,0) (heap_alloc_new w _);refine wpList_append_own (P:=Tryz.prog) _ hgd sl y 33 ho B 3 i0 (.int .i64 0) 1 8 Tryz.underlying33 nB hz0 hz1 hz2 rfl (by omega) v zs.length (zs.map (Value.int .i64)) hs (hown.alloc _) ⟨w.heap.size,0,none⟩ 1 1 [.int .i64 z] hy rfl
  (fun j u hj=>by
   cases j with
   | zero=>obtain rfl:=gG hj;exact hc
   | succ j=>simp at hj) (fun u hu=>by obtain rfl:=bI.1 hu;rfl) (by unfold maxLen;omega) (by omega) (by simp;omega) ?_
 intro v' w' h1 h2 _;refine h v' w' ?_ (((Below.refl _ _).alloc hB _).grown h2 (by simp;omega) (L9 hown))
 unfold AH;rw[bM,mZ];exact h1
def Fi (w:World) (k:Nat):Prop:=∃s fz,w.heap[k]? = some (.cells #[.string s] 9 fz)
structure az (O:Nat→Prop) (w w':World):Prop where
 os:w'.os=w.os
 tape:w'.tape=w.tape
 output:w'.output=w.output
 size:w.heap.size≤w'.heap.size
 block :∀k,k<w.heap.size→¬ O k→w'.heap[k]? = w.heap[k]?
 str :∀k,Fi w k→w'.heap[k]? = w.heap[k]?
def Ext (O O':Nat→Prop) (w:World):Prop:=∀k,O' k→O k∨w.heap.size≤k
theorem Ext.refl (O:Nat→Prop) (w:World):Ext O O w:=fun _ h=>.inl h
theorem Ext.trans {O O1 O2:Nat→Prop} {a b:World} (h:Ext O O1 a) (k:Ext O1 O2 b) (hs:a.heap.size≤b.heap.size):Ext O O2 a:=fun i hi=>by
 rcases k i hi with k|k
 ·exact h i k
 ·exact .inr (aK hs k)
theorem Fi.lt {w:World} {k:Nat} (h:Fi w k):k<w.heap.size:=by
 obtain⟨_,_,h⟩:=h;exact(aJ.1 h).1
theorem az.refl (O:Nat→Prop) (w:World):az O w w:=⟨rfl,rfl,rfl,ai _,fun _ _ _=>rfl,fun _ _=>rfl⟩
theorem az.trans {O O1:Nat→Prop} {a b c:World} (h:az O a b) (k:az O1 b c) (e:Ext O O1 a):az O a c :=
 ⟨k.os.trans h.os,k.tape.trans h.tape,k.output.trans h.output,aK h.size k.size,fun i hi hO=>by
  refine(k.block i (cC hi h.size) (fun h1=>?_)).trans (h.block i hi hO)
  rcases e i h1 with h2|h2
  ·exact hO h2
  ·omega,fun i hi=>(k.str i (by obtain⟨c1,f1,h1⟩:=hi;exact⟨c1,f1,(h.str i ⟨c1,f1,h1⟩).trans h1⟩)).trans (h.str i hi)⟩
theorem az.keeps {O:Nat→Prop} {a b:World} (h:az O a b) {k:Nat} (hk:Fi a k):Fi b k:=by
 have:=h.str k hk;obtain⟨s,f,h1⟩:=hk;exact⟨s,f,this.trans h1⟩
theorem az.mono {O O1:Nat→Prop} {a b:World} (h:az O a b) (hO :∀k,O k→O1 k):az O1 a b:=⟨h.os,h.tape,h.output,h.size,fun i hi hn=>h.block i hi (fun h1=>hn (hO i h1)),h.str⟩
theorem az.ae {O:Nat→Prop} {a b:World} (h:Below a.heap.size a b):az O a b:=⟨h.os,h.tape,h.output,h.size,fun k hk _=>h.block k hk,fun k hk=>h.block k hk.lt⟩
theorem az.drew {O:Nat→Prop} {a b:World} (h:az O a b):az O a b.drew:=⟨h.os,h.tape,h.output,h.size,h.block,h.str⟩
theorem az.alloc {O:Nat→Prop} {a b:World} (h:az O a b) (o:Obj):az O a (b.alloc o) :=
 h.trans (O1:=O) (.ae ((Below.refl _ _).alloc (ai _) _)) (Ext.refl _ _)
theorem az.wc {a:World} {n:Nat} {cs:Array Value} {ty:TypeId} (h:a.heap[n]? = some (.cells cs ty (0,0))) (H7:ty≠9) (j:Nat) (v:Value):az (· = n) a (a.setCell ⟨n,j,none⟩ v) :=
 ⟨rfl,rfl,rfl,by simp[World.setCell],fun k _ hk=>Below.heap_setCell _ _ _ k hk,fun k hk=>Below.heap_setCell _ _ _ k (fun e=>by
  obtain⟨c1,f1,h1⟩:=hk;have e':k=n:=e;rw[e',h] at h1;injection h1 with h1;injection h1 with _ h1;exact H7 h1)⟩
theorem az.below {O:Nat→Prop} {a b:World} {B:Nat} (h:az O a b) (hO :∀k,O k→B≤k) (hB:B≤a.heap.size):Below B a b :=
 ⟨h.os,h.tape,h.output,h.size,fun k hk=>h.block k (by omega) (fun h1=>by have:=hO k h1;omega)⟩
theorem cW {W W':World} {B e s n:Nat} {v:Value} {xs:List Value} (h:W.ownsRow B e s v n xs) (hb :∀g,v.ownBlock=some g→W'.heap[g]? = W.heap[g]?):W'.ownsRow B e s v n xs:=by
 refine⟨h.1,?_⟩;rcases h.2 with hn | ⟨g,cap,cur,rfl,hB,hg,rest⟩
 ·exact .inl hn
 ·exact .inr ⟨g,cap,cur,rfl,hB,(hb g rfl).trans hg,rest⟩
theorem eY {W:World} {B e s n:Nat} {v:Value} {xs:List Value} (h:W.ownsRow B e s v n xs) {g:Nat} (hg:v.ownBlock=some g) :∃cur,W.heap[g]? = some (.cells cur e (0,0)):=by
 rcases h.2 with ⟨rfl,_⟩ | ⟨g',cap,cur,rfl,hB,hh,rest⟩
 ·simp[Value.ownBlock] at hg
 ·simp[Value.ownBlock] at hg
  subst hg;exact⟨cur,hh⟩
structure jI (W:World) (b:Nat) (O:Nat→Prop) (x:Nd) (nv kv:Value):Prop where
 names:W.ownsRow (b+1) 9 1 nv x.names.length (x.names.map Value.string)
 kids:W.ownsRow (b+1) 3 1 kv x.kids.length (x.kids.map (Value.int .i64))
 on :∀g,nv.ownBlock=some g→O g∨Fi W g
 nz :∀g,nv.ownBlock=some g→x.names≠[]
 ok :∀g,kv.ownBlock=some g→O g
theorem jI.kept {W W':World} {b:Nat} {O O' O1:Nat→Prop} {x:Nd} {nv kv:Value} (h:jI W b O x nv kv) (hf:az O1 W W') (hd :∀g,O g→¬ O1 g) (hO :∀g,O g→O' g):jI W' b O' x nv kv :=
 ⟨cW h.names fun g hg=>(h.on g hg).elim (fun h1=>hf.block g (h.names.lt g hg).2 (hd g h1)) (hf.str g),cW h.kids fun g hg=>hf.block g (h.kids.lt g hg).2 (hd g (h.ok g hg)),fun g hg=>(h.on g hg).imp (hO g) hf.keeps,h.nz,fun g hg=>hO g (h.ok g hg)⟩
abbrev Kj:=Nd×Value×Value
def aO (t:Kj):List Value:=[.int .i64 t.1.kind,.int .i64 t.1.line,.int .i64 t.1.op,.int .i64 t.1.num,.string t.1.s,t.2.1,t.2.2]
structure SC (W:World) (b:Nat) (O:Nat→Prop) (v:Value) (L:List Kj):Prop where
 row:W.ownsRow (b+1) 55 7 v L.length (L.flatMap aO)
 own :∀g,v.ownBlock=some g→O g
 each :∀t∈L,jI W b O t.1 t.2.1 t.2.2
def Fin (ts:List ah):Prop:=∃us e,ts=us++[e]∧e.1=0∧∀u∈us,u.1≠0
theorem Fin.tail {t:ah} {ts:List ah} (h:Fin (t::ts)) (ht:t.1≠0):Fin ts:=by
 obtain⟨us,e,h1,h2,h3⟩:=h;cases us with
 | nil =>
  simp at h1;exact absurd (h1.1▸h2) ht
 | cons u us =>
  injection h1 with e1 e2;exact⟨us,e,e2,h2,fun x hx=>h3 x (bX _ hx)⟩
theorem Fin.ne {ts:List ah} (h:Fin ts):ts≠[]:=by
 obtain⟨us,e,h1,_⟩:=h;rw[h1];simp
structure PS (W:World) (b:Nat) (O:Nat→Prop) (ts:List ah) (T:List Nd):Prop where
 ex :∃(TS:List ah) (i g c:Nat) (nv:Value) (L:List Kj),W.heap[b]? = some (.cells #[.slice (some ⟨g,0,none⟩) TS.length c,.int .i64 (i:Int),nv] 71 (0,0))∧uA W (.slice (some ⟨g,0,none⟩) TS.length c) TS∧g<b∧TS.drop i=ts∧TS.length≤20000∧SC W b O nv L∧L.map (·.1)=T
 fin:Fin ts
 at_:O b
 own :∀k,O k→b≤k∧k<W.heap.size
structure NU (W:World) (b n:Nat) (O:Nat→Prop) (x:Nd):Prop where
 ex :∃nv kv,W.heap[n]? = some (.cells (aO (x,nv,kv)).toArray 55 (0,0))∧jI W b O x nv kv
 at_:O n
 own :∀k,O k→b<k∧k<W.heap.size
theorem uA.kept {W W':World} {g n c:Nat} {ts:List Tk} (h:uA W (.slice (some ⟨g,0,none⟩) n c) ts) (hb:W'.heap[g]? = W.heap[g]?) (hs:W.heap.size≤W'.heap.size):uA W' (.slice (some ⟨g,0,none⟩) n c) ts:=by
 obtain⟨g',cap,e,h1,h2,h3⟩:=h.ex;have hg:g=g':=by injection e with e1 _ _;injection e1 with e1;injection e1
 subst hg;refine⟨g,cap,e,h1,by omega,fun j t hj=>?_⟩
 have:=h3 j t hj;simpa[World.cell?,hb] using this
theorem PS.kept {W W':World} {b:Nat} {O O1:Nat→Prop} {ts:List ah} {T:List Nd} (h:PS W b O ts T) (hf:az O1 W W') (hd :∀k,O k→¬ O1 k) (h1 :∀k,O1 k→b≤k):PS W' b O ts T:=by
 obtain⟨TS,i,g,c,nv,L,a1,a2,a3,a4,a5,a6,a7⟩:=h.ex;have hb :∀k,O k→W'.heap[k]? = W.heap[k]?:=fun k hk=>hf.block k (h.own k hk).2 (hd k hk)
 have hlt:b<W.heap.size:=(aJ.1 a1).1;refine⟨⟨TS,i,g,c,nv,L,(hb b h.at_).trans a1,a2.kept (hf.block g (by omega) (fun h2=>by have:=h1 g h2;omega)) hf.size,a3,a4,a5,⟨cW a6.row fun k hk=>hb k (a6.own k hk),a6.own,fun t ht=>(a6.each t ht).kept hf hd (fun _ h=>h)⟩,a7⟩,h.fin,h.at_,fun k hk=>⟨(h.own k hk).1,cC (h.own k hk).2 hf.size⟩⟩
theorem PS.below {W W':World} {b:Nat} {O:Nat→Prop} {ts:List ah} {T:List Nd} (h:PS W b O ts T) (hf:Below W.heap.size W W'):PS W' b O ts T :=
 h.kept (O1:=fun _=>False) (az.ae hf) (fun _ _ h=>h) (fun _ h=>h.elim)
theorem PS.fr {W:World} {b:Nat} {O:Nat→Prop} {ts:List ah} {T:List Nd} (h:PS W b O ts T) (j:Nat) (v:Value):az (· = b) W (W.setCell ⟨b,j,none⟩ v):=by
 obtain⟨TS,i,g,c,nv,L,a1,_⟩:=h.ex;exact az.wc a1 (by decide) j v
theorem NU.fr {W:World} {b n:Nat} {O:Nat→Prop} {x:Nd} (h:NU W b n O x) (j:Nat) (v:Value):az (· = n) W (W.setCell ⟨n,j,none⟩ v):=by
 obtain⟨nv,kv,a1,_⟩:=h.ex;exact az.wc a1 (by decide) j v
theorem NU.kept {W W':World} {b n:Nat} {O O1:Nat→Prop} {x:Nd} (h:NU W b n O x) (hf:az O1 W W') (hd :∀k,O k→¬ O1 k):NU W' b n O x:=by
 obtain⟨nv,kv,a1,a2⟩:=h.ex;exact⟨⟨nv,kv,(hf.block n (h.own n h.at_).2 (hd n h.at_)).trans a1,a2.kept hf hd (fun _ h=>h)⟩,h.at_,fun k hk=>⟨(h.own k hk).1,cC (h.own k hk).2 hf.size⟩⟩
theorem NU.below {W W':World} {b n:Nat} {O:Nat→Prop} {x:Nd} (h:NU W b n O x) (hf:Below W.heap.size W W'):NU W' b n O x:=h.kept (O1:=fun _=>False) (az.ae hf) (fun _ _ h=>h)
structure St where
 h:Nd
 xs:List Ast
 ts:List ah
 n:Nat
def dV (T0 T:List Nd) (xs:List Ast) (ks:List Int):Prop:=T0 <+: T∧∃js,bo T xs ks js∧js.Perm (List.range' T0.length (T.length-T0.length))
structure Real (W:World) (b n:Nat) (O:Nat→Prop) (T0:List Nd) (s:St):Prop where
 ex :∃(Op On:Nat→Prop) (T:List Nd) (ks:List Int),(∀k,O k↔Op k∨On k)∧(∀k,Op k→¬ On k)∧PS W b Op s.ts T∧NU W b n On { s.h with kids:=ks}∧dV T0 T s.xs ks∧T.length=s.n
def SD (B:Nat) (W:World) (v:Value) (l:Int):Prop:=∃g,v=.iface 75 (.pointer (some ⟨g,0,none⟩))∧B≤g∧W.heap[g]? = some (.cells #[.int .i64 6,.int .i64 l] 81 (0,0))
def bA (b n:Nat) (O:Nat→Prop) (T0:List Nd) (K:St→Prop) (E:Int→Prop) (w:World) (e:Ending) (w':World):Prop :=
 az O w w'∧((∃s' O',e=.returned .nilIface∧Real w' b n O' T0 s'∧Ext O O' w∧K s')∨(∃l v,e=.returned v∧SD w.heap.size w' v l∧E l))
def Fj (v:Value) (args:Array Value) (w:World) (Q:Ending→World→Prop):Prop :=
 ∃f first cap,v=.func (.func f) first cap∧Enters Tryz.prog f∧Calls Tryz.prog f (first++args++cap) w Q
abbrev bV:=St→(St→Prop)→(Int→Prop)→Prop
def eH (W:World) (b:Nat) (O:Nat→Prop) (v:Value) (wp:bV):Prop :=
 ∀W1 O1 T0 s n K E,az O W W1→Ext O O1 W→Real W1 b n O1 T0 s→wp s K E→Fj v #[.pointer (some ⟨n,0,none⟩)] W1 (bA b n O1 T0 K E W1)
theorem eH.later {W W':World} {b:Nat} {O O':Nat→Prop} {v:Value} {wp:bV} (h:eH W b O v wp) (hf:az O W W') (he:Ext O O' W):eH W' b O' v wp :=
 fun W1 O1 T0 s n K E h1 h2 h3 h4=>h W1 O1 T0 s n K E (hf.trans h1 he) (he.trans h2 hf.size) h3 h4
def aI:List bV→bV
 | [],s,K,_=>K s
 | wp::r,s,K,E=>wp s (fun s'=>aI r s' K E) E
def SE (W:World) (O:Nat→Prop) (v:Value) (vs:List Value):Prop:=(v=.slice none 0 0∧vs=[])∨∃g,v=.slice (some ⟨g,0,none⟩) vs.length vs.length∧W.heap[g]? = some (.cells vs.toArray 122 (0,0))∧¬ O g∧vs.length≤100
theorem SE.later {W W':World} {O O':Nat→Prop} {v:Value} {vs:List Value} (h:SE W O v vs) (hf:az O W W') (he:Ext O O' W):SE W' O' v vs:=by
 rcases h with h | ⟨g,h1,h2,h3,h4⟩
 ·exact .inl h
 ·have hlt:g<W.heap.size:=(aJ.1 h2).1
  refine .inr ⟨g,h1,(hf.block g hlt h3).trans h2,fun h5=>?_,h4⟩
  rcases he g h5 with h6|h6
  ·exact h3 h6
  ·omega
def aF (b:Nat) (O:Nat→Prop) (T0:List Nd) (R:Except Int (Ast×List ah)→Prop) (w:World) (e:Ending) (w':World):Prop :=
 az O w w'∧((∃(p:Nat) (a:Ast) (ts:List ah) (O':Nat→Prop) (T:List Nd),e=.returned (.tuple #[.int .i64 (p:Int),.nilIface])∧PS w' b O' ts T∧Ext O O' w∧dV T0 T [a] [(p:Int)]∧R (.ok (a,ts))) ∨
  (∃l v er,e=.returned (.tuple #[v,er])∧SD w.heap.size w' er l∧R (.error l)))
def tC (W:World) (b o:Nat) (T:List Nd):Prop:=∀(i:Nat) x,T[i]? = some x→∃nv kv,lV W b (o+i*7) x nv kv∧sG W nv x.names∧eX W kv x.kids
def ints (m:List Nat):List Int:=m.map fun(j:Nat)=>(j:Int)
theorem nG (m:List Nat):(ints m).length=m.length:=by simp[ints]
theorem ints_at {m:List Nat} {a i:Nat} (h:m[a]? = some i):(ints m)[a]? = some (i:Int):=by simp[ints,h]
theorem Ma (m:List Nat) (j:Nat):ints (m++[j])=ints m++[(j:Int)]:=by simp[ints]
structure tb (w:World) (T:List Nd) (nv:Value) (r:Nat) (a:Nat) (d:Nat→Nat) (m:List Nat) (rp:Value) (wr:World):Prop where
 below:Below w.heap.size w wr
 size:w.heap.size+2≤wr.heap.size
 H9:wr.cell? ⟨w.heap.size,0,none⟩=some nv
 Ia:wr.cell? ⟨w.heap.size,1,none⟩=some (.int .i64 (r:Int))
 Ye:oJ wr (w.heap.size+1) T.length (fun j=>.int .i64 (d j:Int))
 row:AH wr (w.heap.size+2) rp (ints m)
theorem tb.store {w wr:World} {T:List Nd} {nv:Value} {r a:Nat} {d:Nat→Nat} {m:List Nat} {rp:Value} (h:tb w T nv r a d m rp wr) {k v:Nat} (hk:k<T.length) {x:Int} (hx:x=(v:Int)):tb w T nv r a (upd d k v) m rp (wr.setCell ⟨w.heap.size+1,k,none⟩ (.int .i64 x)):=by
 subst hx;exact
 ⟨h.below.setCell (gj _) _,by have:=h.size;simpa using this,
  (World.cell?_setCell_other wr _ _ _ (by intro e;injection e with e1 _ _;omega)).trans h.H9,(World.cell?_setCell_other wr _ _ _ (by intro e;injection e with e1 _ _;omega)).trans h.Ia,
  (h.Ye.Yb hk _).eq_ (fun j _=>by
  unfold upd;by_cases e:j=k
  ·rw[ak e,ak e]
  ·rw[af e,af e]),ownsRow_setCell_below h.row (by show w.heap.size+1<w.heap.size+2;omega) _⟩
theorem tb.grow {w wr w':World} {T:List Nd} {nv:Value} {r a:Nat} {d:Nat→Nat} {m:List Nat} {rp v':Value} (h:tb w T nv r a d m rp wr) {k:Nat} (hr:AH w' (w.heap.size+2) v' (ints m++[(k:Int)])) (hb:Below (w.heap.size+2) wr w'):tb w T nv r a d (m++[k]) v' w' :=
 ⟨h.below.trans (hb.mono (by omega)),aK h.size hb.size,(hb.cell (p:=⟨_,0,none⟩) (by show w.heap.size<_;omega)).trans h.H9,(hb.cell (p:=⟨_,1,none⟩) (by show w.heap.size<_;omega)).trans h.Ia,h.Ye.below hb (by omega),by rw[Ma];exact hr⟩
theorem De (T:List Nd) (nv:Value) (r:Nat) (w w1:World) (hr:r<T.length) (hb1:Below (w.alloc (.cells #[nv,.int .i64 (r:Int)] 25)).heap.size (w.alloc (.cells #[nv,.int .i64 (r:Int)] 25)) w1) (hs1:w.heap.size+1<w1.heap.size)
  (h0:w1.cell? ⟨w.heap.size,0,none⟩=some nv) (h1:w1.cell? ⟨w.heap.size,1,none⟩=some (.int .i64 (r:Int))) (hf:oJ w1 (w.alloc (.cells #[nv,.int .i64 (r:Int)] 25)).heap.size T.length (fun _=>.int .i64 0)) :
  tb w T nv r 0 (upd (fun _=>0) r 1) [r] (.slice (some ⟨w1.heap.size,0,none⟩) 1 1) ((w1.setCell ⟨w.heap.size+1,r,none⟩ (.int .i64 1)).alloc (.cells #[.int .i64 (r:Int)] 3)):=by
 rw[an] at hf hb1;have hA:Below w.heap.size w w1:=((Below.refl _ _).alloc (ai _) _).trans (hb1.mono (by omega))
 have hB:Below (w.heap.size+2) (w1.setCell ⟨w.heap.size+1,r,none⟩ (.int .i64 1)) ((w1.setCell ⟨w.heap.size+1,r,none⟩ (.int .i64 1)).alloc (.cells #[.int .i64 (r:Int)] 3)):=(Below.refl _ _).alloc (by simp;omega) _
 have e1 :∀j:Nat,(⟨w.heap.size+1,r,none⟩:Addr)≠⟨w.heap.size,j,none⟩:=fun j e=>by injection e with e1 _ _;omega
 refine⟨(hA.setCell (gj _) _).trans (hB.mono (by omega)),by simp;omega,?_,?_,?_,?_⟩
 ·exact(hB.cell (p:=⟨_,0,none⟩) (by show w.heap.size<_;omega)).trans ((World.cell?_setCell_other w1 _ _ _ (e1 0)).trans h0)
 ·exact(hB.cell (p:=⟨_,1,none⟩) (by show w.heap.size<_;omega)).trans ((World.cell?_setCell_other w1 _ _ _ (e1 1)).trans h1)
 ·refine((hf.Yb hr (.int .i64 1)).eq_ (fun j _=>?_)).below hB (by omega)
  unfold upd;by_cases e:j=r
  ·rw[ak e,ak e];rfl
  ·rw[af e,af e];rfl
 ·have:=World.ownsRow_lit (base:=w.heap.size+2) (e:=3) (size:=1) (w1.setCell ⟨w.heap.size+1,r,none⟩ (.int .i64 1)) #[.int .i64 (r:Int)] 1 (by simp;omega) (by decide) rfl
  simpa[AH,ints] using this
theorem eZ {α:Type} {l:List α} {k:Nat} {x:α} (h:l[k]? = some x):l.drop k=x::l.drop (k+1):=by
 obtain⟨hk,rfl⟩:=aL.1 h;exact zO hk
theorem tb.drew {w wr:World} {T:List Nd} {nv:Value} {r a:Nat} {d:Nat→Nat} {m:List Nat} {rp:Value} (h:tb w T nv r a d m rp wr):tb w T nv r a d m rp wr.drew :=
 ⟨h.below.drew,h.size,h.H9,h.Ia,h.Ye,h.row⟩
theorem AI {T:List Nd} {a i:Nat} {d:Nat→Nat} {m:List Nat} (hi:m[a]? = some i) (ha:a≤T.length) (h:dD T.length (d i+1) (cB T i) d m=none):yn T (T.length+1-a) a d m=none:=by
 rw[show T.length+1-a=(T.length-a)+1 by omega]
 simp only[yn,hi,h]
theorem Mb {T:List Nd} {a i:Nat} {d d':Nat→Nat} {m m':List Nat} (hi:m[a]? = some i) (ha:a≤T.length) (h:dD T.length (d i+1) (cB T i) d m=some (d',m')):yn T (T.length+1-a) a d m=yn T (T.length+1-(a+1)) (a+1) d' m':=by
 rw[show T.length+1-a=(T.length-a)+1 by omega,show T.length+1-(a+1)=T.length-a by omega]
 simp only[yn,hi,h]
theorem SF {T:List Nd} {a:Nat} {d:Nat→Nat} {m:List Nat} (hi:m.length≤a):yn T (T.length+1-a) a d m=some (d,m):=by
 cases e:T.length+1-a with
 | zero=>rfl
 | succ f=>simp only[yn,wH hi]
theorem rq (p:Int) (A:Option Addr) (n c:Nat) (w:World):Calls Tryz.prog 50 #[.int .i64 p,.slice A n c] w fun e w'=>e=.returned (.bool (decide (0≤p) && decide (p<(n:Int))))∧w=w':=by
 go_enter Tryz.func50,Tryz.ntmps50
 by_cases h:0≤p
 ·have g:decide (0≤p)=true:=bF h
  go_wp2_with fail
  go_ret
  exact⟨by simp[g],rfl⟩
 ·have g:decide (0≤p)=false:=bN h
  go_wp2_with fail
  go_ret
  exact⟨by simp,rfl⟩
theorem xd (p:Int) (A:Option Addr) (n c:Nat) (w:World) (h:0≤p∧p<(n:Int)):Calls Tryz.prog 50 #[.int .i64 p,.slice A n c] w fun e w'=>e=.returned (.bool true)∧w=w' :=
 (rq p A n c w).mono fun e w' hh=>⟨by rw[hh.1,bF h.1,bF h.2];rfl,hh.2⟩
theorem AJ (p:Int) (A:Option Addr) (n c:Nat) (w:World) (h:¬ (0≤p∧p<(n:Int))):Calls Tryz.prog 50 #[.int .i64 p,.slice A n c] w fun e w'=>e=.returned (.bool false)∧w=w' :=
 (rq p A n c w).mono fun e w' hh=>⟨by
  rw[hh.1];by_cases h0:0≤p
  ·rw[bN (fun h1=>h ⟨h0,h1⟩),Bool.and_false]
  ·rw[bN h0,zW],hh.2⟩
theorem Ib (T:List Nd) (b o c r:Nat) (w:World) (hb:b<w.heap.size) (hN:T.length≤16384) (hr:r<T.length) (hn:tC w b o T) :
  Calls Tryz.prog 24 #[.agg #[.slice (some ⟨b,o,none⟩) T.length c,.int .i64 (r:Int)]] w fun e w'=>e=.returned (.int .i64 (eT T (r:Int):Int))∧Below w.heap.size w w':=by
 have HT:=aa hn;have uB:eT T (r:Int)=EY T.length (yn T (T.length+1) 0 (upd (fun _=>0) r 1) [r]):=by
  unfold eT;rw[ak ⟨hN,by omega,by omega⟩,iJ]
 rw[uB];obtain⟨B,hB⟩ :∃B,B=yn T (T.length+1) 0 (upd (fun _=>0) r 1) [r]:=⟨_,rfl⟩
 rw[←hB];have HB:=aa hB;have g1:decide ((16384:Int)<(T.length:Int))=false:=bN (by omega)
 have g2:decide ((0:Int)≤(r:Int))=true:=bF (by omega)
 have g3:decide ((r:Int)<(T.length:Int))=true:=bF (by omega)
 obtain⟨w1,xe,hb1,hs1,ld⟩:=Hz T.length (by omega) (w.alloc (.cells #[.slice (some ⟨b,o,none⟩) T.length c,.int .i64 (r:Int)] 25))
 have VP:w1.cell? ⟨w.heap.size,0,none⟩=some (.slice (some ⟨b,o,none⟩) T.length c):=(hb1.cell (p:=⟨w.heap.size,0,none⟩) (by simp)).trans (dC w _ _ _)
 have VQ:w1.cell? ⟨w.heap.size,1,none⟩=some (.int .i64 (r:Int)):=(hb1.cell (p:=⟨w.heap.size,1,none⟩) (by simp)).trans (dC w _ _ _)
 have ri:=ld r hr;have HF:=aa ld;have dK:=aa hb1;rw[an] at hs1 ri xe;clear hn uB hB hb1 ld;go_enter Tryz.func24,Tryz.ntmps24
 go_wp2_with (go_at_call 50;refine(rq _ _ _ _ _).mono ?_;rintro e w' ⟨rfl,rfl⟩)
 clear xe;have HS:=aa (De T (.slice (some ⟨b,o,none⟩) T.length c) r w w1 hr dK.out hs1 VP VQ HF.out);clear dK HF ri VP VQ g2 g3;go_loopg [4,5] T.length (fun z rp atv wr=>∃(a:Nat) (d:Nat→Nat) (m:List Nat),atv=.int .i64 (a:Int)∧tb w T (.slice (some ⟨b,o,none⟩) T.length c) r a d m rp wr∧Half T r a d m∧T.length-a≤z∧yn T (T.length+1-a) a d m=B)
 case atStart=>exact⟨0,_,[r],rfl,HS.out,Half.start hr,by omega,HB.out.symm⟩
 case round =>
  clear HS HB;obtain⟨a,d,m,rfl,hs,hh,hz,hbf⟩:=hrel;have zC:=hh.inv.len;have hal:=hh.le;have hm1:1≤m.length:=by rw[hh.eq];simp
  obtain⟨g,cap,rfl,hg,rr,te⟩:=hs.row.form (by rw[nG];omega)
  rw[nG] at hs ⊢;have b0:=hs.H9;have b1:=hs.Ia;have HS:=aa hs;have HH:=aa hh;have HGC:=aa te;have HBF:=aa hbf;clear hs hh te hbf;by_cases hlt:a<m.length
  ·obtain⟨i,hi⟩ :∃i,m[a]? = some i:=⟨m[a],bH hlt⟩
   have hiN:i<T.length:=HH.out.inv.lt i (ba hi);have hx:=bH hiN;obtain⟨nv,kv,fM,_,Kk⟩:=HT.out i _ hx;have c6:=(HS.out.below.cell (p:=⟨b,o+i*7+6,none⟩) hb).trans fM.c6;have cm:=HGC.out a _ (ints_at hi);obtain⟨ks,Yf⟩ :∃ks,ks=T[i].kids:=⟨_,rfl⟩;rw[←Yf] at Kk;have HKS:=aa Yf;clear Yf;obtain⟨KA,kc,rfl,CA,hka⟩:=Kk;have HX:=aa hx;have Yg:a≤T.length:=by omega
   clear hx;go_wp2_with fail
   go_region
   go_wp2_with fail
   go_loopg [4,47] ks.length (fun z rp kvv wr2=>∃(k:Nat) (d2:Nat→Nat) (m2:List Nat),kvv=.int .i64 (k:Int)∧k≤ks.length∧ks.length-k≤z∧tb w T (.slice (some ⟨b,o,none⟩) T.length c) r a d2 m2 rp wr2∧Inv T.length d2 m2∧m2.length=m.length+k∧m2[a]? = some i∧d2 i=d i∧(∀j,d2 j≤a+2) ∧
    dD T.length (d i+1) (ks.drop k) d2 m2=dD T.length (d i+1) ks d m)
   case atStart=>exact⟨0,d,m,rfl,bx _,ai _,HS.out.drew,HH.out.inv,rfl,hi,rfl,fun j=>by have:=HH.out.bound j;omega,rfl⟩
   case round =>
    obtain⟨k,d2,m2,rfl,hk,hz2,hs2,Mc,VR,we,hdi,aaO,hgo⟩:=hrel;have hml2:=Mc.len;clear cm rr b0 b1 HGC;obtain⟨g2,Df,rfl,hg2,hgl2,AK⟩:=hs2.row.form (by rw[nG];omega)
    rw[nG] at hs2 ⊢;have b0:=hs2.H9;have b1:=hs2.Ia;have sI:=aa hs2;have HI2:=aa Mc;have VS:=aa hgo;have HBD:=aa aaO;have cm2:=AK a _ (ints_at we);have HI:=aa we;have HDI:=aa hdi;have HLEN:=aa VR;have acG:a<m2.length:=(aL.1 HI.out).1;have hkN:k≤20000:=by omega
    clear VR hs2 Mc hgo aaO AK we hdi;by_cases xf:k<ks.length
    ·obtain⟨z,hzk⟩ :∃z,ks[k]? = some z:=⟨ks[k],bH xf⟩
     have hdr:=eZ hzk;rcases hka with hnil | ⟨bk,ok,rfl,eQ,hcell⟩
     ·rw[hnil] at xf;exact absurd xf (jz _)
     have ck:=(sI.out.below.cell (p:=⟨bk,ok+k,none⟩) eQ).trans (hcell k z hzk);have HC:=aa hcell;have HZ:=aa hzk;have uC:=aa hdr;clear hcell hzk hdr;by_cases hp:0≤z∧z<(T.length:Int)
     ·obtain⟨q,rfl⟩ :∃q:Nat,z=(q:Int):=⟨z.toNat,by omega⟩
      have hq:q<T.length:=by omega
      obtain⟨cq,fq⟩:=sI.out.Ye q hq;replace cq:wr.cell? ⟨w.heap.size+1,q,none⟩=some (.int .i64 (d2 q:Int)):=cq;by_cases h0:d2 q=0
      ·rw[h0] at cq
       have hiN2:=hiN;obtain⟨ci,fi⟩:=sI.out.Ye i hiN;replace ci:wr.cell? ⟨w.heap.size+1,i,none⟩=some (.int .i64 (d i:Int)):=by rw[ci];show some (Value.int .i64 (d2 i:Int))=_;rw[HDI.out]
       have hdb:=HH.out.bound i;have yK:=sI.out.size;have acH:(ints m2).length≤1000000:=by rw[nG];omega
       have HST:=aa (sI.out.store (k:=q) (v:=d i+1) hq (x:=(d i:Int)+1) (by omega))
       go_wp2_with (first|(go_at_call 50;refine(xd _ _ _ _ _ hp).mono ?_;rintro e w' ⟨rfl,rfl⟩)|(at_builtin;refine Yd _ (q:Int) rfl _ _ rfl (w.heap.size+2) _ (ints m2) rfl HST.out.row _ (by simp) rfl acH (by simpa using yK) ?_;intro v' w' SG hb'))
       go_roundg (ks.length-(k+1))
       case measure=>omega
       case rel=>exact⟨k+1,upd d2 q (d i+1),m2++[q],by go_num,by omega,ai _,HST.out.grow SG hb',HI2.out.add hq h0 (by omega),by rw[bM,HLEN.out];rfl,by rw[kS acG];exact HI.out,by
        rw[gm _ _ (fun e=>by subst e;have:=(HH.out.inv.iff i).2 (ba hi);have:=HDI.out;omega)];exact HDI.out,fun j=>by
        have:=HBD.out j;by_cases e:j=q
        ·subst e;rw[upd_same];omega
        ·rw[gm _ _ e];exact this,by
        rw[←VS.out,uC.out,dD,ak ⟨by omega,by omega,by simpa using h0⟩,iJ]⟩
      ·have hne:((d2 q:Int) == 0)=false:=aE.2 (by omega)
       go_wp2_with (go_at_call 50;refine(xd _ _ _ _ _ hp).mono ?_;rintro e w' ⟨rfl,rfl⟩)
       go_ret
       have hg0:dD T.length (d i+1) ks d m=none:=by
        rw[←VS.out,uC.out,dD,af (fun hh=>h0 (by simpa using hh.2.2))]
       exact⟨by rw[←HBF.out,AI hi Yg (by rw[ji HX.out,←HKS.out];exact hg0)];rfl,sI.out.below⟩
     ·go_wp2_with (go_at_call 50;refine(AJ _ _ _ _ _ hp).mono ?_;rintro e w' ⟨rfl,rfl⟩)
      go_ret
      have hg0:dD T.length (d i+1) ks d m=none:=by
       rw[←VS.out,uC.out,dD,af (fun hh=>hp ⟨hh.1,hh.2.1⟩)]
      exact⟨by rw[←HBF.out,AI hi Yg (by rw[ji HX.out,←HKS.out];exact hg0)];rfl,sI.out.below⟩
    ·have zD:k=ks.length:=by omega
     have hg1:dD T.length (d i+1) ks d m=some (d2,m2):=by
      rw[←VS.out,zD,wJ];rfl
     have hgk:dD T.length (d i+1) (cB T i) d m=some (d2,m2):=by rw[ji HX.out,←HKS.out];exact hg1
     have HHn:=aa (HH.out.step hi hgk);have HBn:=aa ((Mb hi Yg hgk).symm.trans HBF.out);clear hg1 hgk zD;go_wp2_with fail
     go_roundg (T.length-(a+1))
     case measure=>omega
     case rel=>exact⟨a+1,d2,m2,by go_num,(have h:=sI.out;⟨h.below,h.size,h.H9,h.Ia,h.Ye,h.row⟩),HHn.out,ai _,HBn.out⟩
  ·have hae:a=m.length:=by omega
   have hB:B=some (d,m):=by rw[←HBF.out,SF (by omega)]
   have uD:=aa hB;clear hB HBF;by_cases Fk:m.length<T.length
   ·have g5:decide ((m.length:Int)<(T.length:Int))=true:=bF (by omega)
    go_wp2_with fail
    go_ret
    exact⟨by rw[uD.out];exact ay (fun x:Nat=>Ending.returned (.int .i64 (x:Int))) (ak Fk).symm,HS.out.below⟩
   ·have g5:decide ((m.length:Int)<(T.length:Int))=false:=bN (by omega)
    obtain⟨l,hl⟩ :∃l,m[m.length-1]? = some l:=⟨m[m.length-1],bH (by omega)⟩
    have hlN:l<T.length:=HH.out.inv.lt l (ba hl);have cl:=HGC.out (m.length-1) _ (ints_at hl);have cd:wr.cell? ⟨w.heap.size+1,l,none⟩=some (.int .i64 (d l:Int)):=(HS.out.Ye l hlN).1;have VU:m.getLastD 0=l:=by
     rw[List.getLastD_eq_getLast?,List.getLast?_eq_getElem?,hl];rfl
    have HL:=aa VU;clear VU hl hae;go_wp2_with fail
    go_ret
    exact⟨by rw[uD.out];exact ay (fun x:Nat=>Ending.returned (.int .i64 (x:Int))) (by rw[←HL.out];exact(af Fk).symm),HS.out.below⟩
theorem Ic (T:List Nd) (A:Option Addr) (c:Nat) (r:Int) (w:World) (h:¬ (T.length≤16384∧0≤r∧r<(T.length:Int))) :
  Calls Tryz.prog 24 #[.agg #[.slice A T.length c,.int .i64 r]] w fun e w'=>e=.returned (.int .i64 (eT T r:Int))∧Below w.heap.size w w':=by
 have hd:eT T r=0:=by unfold eT;rw[af h]
 rw[hd];have b1:=(Below.refl w.heap.size w).alloc (ai _) (.cells #[.slice A T.length c,.int .i64 r] 25);by_cases hN:T.length≤16384
 ·have g1:decide ((16384:Int)<(T.length:Int))=false:=bN (by omega)
  have hp:¬ (0≤r∧r<(T.length:Int)):=fun hh=>h ⟨hN,hh⟩
  clear h hd;go_enter Tryz.func24,Tryz.ntmps24
  go_wp2_with (go_at_call 50;refine(AJ _ _ _ _ _ hp).mono ?_;rintro e w' ⟨rfl,rfl⟩)
  go_ret
  exact⟨rfl,b1⟩
 ·have g1:decide ((16384:Int)<(T.length:Int))=true:=bF (by omega)
  clear h hd;go_enter Tryz.func24,Tryz.ntmps24
  go_wp2_with fail
  go_ret
  exact⟨rfl,b1⟩
def mD (W:World) (v:Value) (T:List Nd) (r:Int):Prop:=∃nv,v=.agg #[nv,.int .i64 r]∧sH W nv T
theorem mD.below {W W':World} {v:Value} {T:List Nd} {r:Int} (h:mD W v T r) (hb:Below W.heap.size W W'):mD W' v T r:=by
 obtain⟨nv,e,hn⟩:=h;exact⟨nv,e,hn.below hb⟩
theorem AM (v:Value) (T:List Nd) (r:Int) (w:World) (h:mD w v T r):Calls Tryz.prog 24 #[v] w fun e w'=>e=.returned (.int .i64 (eT T r:Int))∧Below w.heap.size w w':=by
 obtain⟨nv,rfl,A,c,rfl,hc,hn⟩:=h;by_cases hh:T.length≤16384∧0≤r∧r<(T.length:Int)
 ·rcases hn with rfl | ⟨b,o,rfl,hb,hx⟩
  ·exfalso
   have:=hh.2.2;simp at this;omega
  ·obtain⟨q,rfl⟩ :∃q:Nat,r=(q:Int):=⟨r.toNat,by omega⟩
   exact Ib T b o c q w hb hh.1 (by omega) hx
 ·exact Ic T A c r w hh
end Go.Proofs.YteflkdlaoiijbaaGreatDoor
