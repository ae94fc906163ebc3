/- Parts of the proof. -/
import Derived.Laws.AppendOwn
import Derived.Test.YtodmcdfeldkocaaGreatDoorM08
set_option maxHeartbeats 16000000
set_option maxRecDepth 20000
namespace Go.Proofs.YtodmcdfeldkocaaGreatDoor
open Go.RowKit
def Bts (W:World) (v:Value) (m:List UInt8):Prop :=
 (v=.slice none 0 0∧m=[])∨(∃g x,m=[x]∧v=.slice (some ⟨g,0,none⟩) 1 1∧W.cell? ⟨g,0,none⟩=some (.int .u8 (x.toNat:Int)))
def bN (b:Nat) (s:ByteArray) (k:Nat) (w:World) (o:Option (List UInt8×List UInt8)) (e:Ending) (w':World):Prop :=
 Kp b w w'∧match o with
  | some (m,r)=>∃k' v,e=.returned (.tuple #[v,.bool true])∧Bts w' v m∧Rd w' b s k'∧aR s k'=r∧k≤k'
  | none=>e=.returned (.tuple #[.slice none 0 0,.bool false])
theorem vi {b:Nat} (hb:2≤b) (hb':b≤36) {d:List UInt8} (hd:iM b d=true) (hl:d.length≤3):0≤lq b d:=by
 by_cases h0:d=[]
 ·subst h0
  have:=(xK (l:=[]) (d:=[]) hb hb' rfl rfl).1;rw[this];rw[yO rfl];decide
 ·have ht:=Zv (OQ hb' hd) h0
  have hm:yR d=false:=by have:=Zu hb' hd [] h0;rwa[gh] at this
  rw[(xK hb hb' ht hm).1,DU (Gj h0 hd)];have hv:val b d<46657:=by
   have:val b d≤b ^ d.length:=by
    have h2 :∀(l:List UInt8),iM b l=true→val b l+1≤b ^ l.length:=by
     intro l;induction l with
     | nil=>intro _;simp[val]
     | cons c t ih =>
      intro h;simp only[iM,sw,dp,iF] at h;rw[OP,List.length_cons,E6];have i:=ih h.2;have h4:(oV c.toNat+1)*b ^ t.length≤b*b ^ t.length:=ES _ (by omega)
      rw[wK,E8] at h4;rw[E7 (b ^ t.length) b];omega
    have:=h2 d hd;omega
   have h3:b ^ d.length≤36 ^ 3:=aL (Nat.pow_le_pow_left hb' _) (Ld (by omega) hl)
   have h4:(36:Nat) ^ 3=46656:=by decide
   omega
  rw[Zt (by omega) (by omega)]
  omega
theorem Jo {p:UInt8→Bool} (l:List UInt8) (n:Nat) :∀c∈l.take (min n (runN p l)),p c=true:=by
 intro c hc;have h1:c∈l.take (runN p l):=(List.take_subset_take_left l (Nat.min_le_right n (runN p l))) hc;rw[qF] at h1;exact List.all_eq_true.1 List.all_takeWhile c h1
theorem Zw :∀c:UInt8,zD c=true→oV c.toNat<16:=DV (by decide +kernel)
theorem Zx :∀c:UInt8,gB c=true→oV c.toNat<10:=DV (by decide +kernel)
theorem xL {p:UInt8→Bool} {b:Nat} (h :∀c:UInt8,p c=true→oV c.toNat<b) (l:List UInt8) (n:Nat):iM b (l.take (min n (runN p l)))=true:=by
 unfold iM;rw[List.all_eq_true];intro c hc;exact bQ (h c (Jo l n c hc))
theorem dN (w:World) (x:Int) (u:UInt8) (h:x=(u.toNat:Int)):Bts (w.alloc (.cells #[.int .u8 x] 5)) (.slice (some ⟨w.heap.size,0,none⟩) 1 1) [u]:=by
 refine .inr ⟨_,u,rfl,rfl,?_⟩;rw[←h];unfold World.cell?;rw[World.alloc_heap_new];rfl
theorem WY {n:Int} (h0:0≤n) (h1:n≤255):n=((UInt8.ofNat n.toNat).toNat:Int):=by
 rw[UInt8.toNat_ofNat',Nat.mod_eq_of_lt (by omega)]
 omega
theorem OR (b:Nat) (s:ByteArray) (k:Nat) (w:World) (h:Rd w b s k) :
  Calls Tryz.prog 156 #[.pointer (some ⟨b,0,none⟩),.int .i64 16,.func (.func 157) #[] #[],.int .i64 2,.int .i64 2] w (bN b s k w (code 16 zD 2 2 (aR s k))):=by
 have cw:=h.top;have hle:=h.le;have HR:=aa h;clear h;obtain⟨m,hm⟩ :∃m:Nat,m=runN zD (aR s k):=⟨_,rfl⟩;have C1:=aa (fun W=>TP (s.extract k s.size) W (by rw[aD s _ hle];omega))
 rw[dj,←hm] at C1;have yn:=ig zD (aR s k);rw[fS,←hm] at yn;have hall:=xL (p:=zD) (b:=16) Zw (aR s k) 2;rw[←hm] at hall;obtain⟨c,hc⟩ :∃c:Nat,c=min 2 m:=⟨_,rfl⟩;have hT :∀W,Rd W b s k→Calls Tryz.prog 81 #[.pointer (some ⟨b,0,none⟩),.int .i64 (min 2 (m:Int))] W fun e w'=>e=.returned (.string (s.extract k (k+c)))∧Rd w' b s (k+c)∧Kp b W w':=fun W h=>by
  have:=bt b s k c W h (by omega)
  rwa[show(c:Int)=min 2 (m:Int) by omega] at this
 have qK:code 16 zD 2 2 (aR s k)=if qE 16 (s.extract k (k+c)).data.toList=true∧2≤c∧lq 16 (s.extract k (k+c)).data.toList≤255 then some ([UInt8.ofNat (lq 16 (s.extract k (k+c)).data.toList).toNat],aR s (k+c)) else none:=by
  unfold code;rw[←hm,←hc,←fg,fe]
 rw[←hc,←fg] at hall;have rP:=vi (b:=16) (by decide) (by decide) hall (by rw[fg,j4];omega)
 have Zy:(s.extract k (k+c)).size=c:=by rw[tW];omega
 obtain⟨D,hD⟩ :∃D:ByteArray,D=s.extract k (k+c):=⟨_,rfl⟩;rw[←hD] at hT qK rP Zy;have C2:=aa hT;have C3:=aa (fun W=>WW D 16 W (by omega))
 obtain⟨N,hN⟩ :∃N:Int,N=lq 16 D.data.toList:=⟨_,rfl⟩;obtain⟨o,ho⟩ :∃o:Bool,o=qE 16 D.data.toList:=⟨_,rfl⟩;rw[show((16:Nat):Int)=(16:Int) from rfl] at rP
 rw[←hN] at rP;rw[←hN,←ho] at C3 qK;have HC:=aa qK;clear hm hall hT qK hD hN ho;have Cb:o=false∨(o=true∧D.size<2)∨(o=true∧2≤D.size∧255<N)∨(o=true∧2≤D.size∧N≤255):=by
  cases o
  ·exact .inl rfl
  ·right
   by_cases h1:D.size<2
   ·exact .inl ⟨rfl,h1⟩
   ·right
    by_cases h2:255<N
    ·exact .inl ⟨rfl,by omega,h2⟩
    ·exact .inr ⟨rfl,by omega,by omega⟩
 rcases Cb with rfl | ⟨rfl,h1⟩ | ⟨rfl,h1,h2⟩ | ⟨rfl,h1,h2⟩;all_goals have HDs:=aa Zy
 all_goals have HCm:=aa hc
 all_goals clear Zy hc
 ·go_enter Tryz.func156,Tryz.ntmps156
  go_wp2_with fail
  refine(az _ _ _ _ HR.out).mono ?_;rintro e w1 ⟨rfl,r1,k1⟩;have R1:=aa r1;have K1:=aa k1;clear r1 k1;go_wp2_with fail
  refine(C1.out _).mono ?_;rintro e CZ ⟨rfl,rfl⟩;go_wp2_with fail
  refine(C2.out _ R1.out).mono ?_;rintro e w2 ⟨rfl,r2,k2⟩;have R2:=aa r2;have K2:=an K1 k2;clear r2 k2;go_wp2_with fail
  refine(C3.out _).mono ?_;rintro e w3 ⟨rfl,b3⟩;have K3:=an K2 (Kp.af b3);clear b3;go_wp2_with fail
  go_ret2
  refine⟨K3.out,?_⟩;rw[HC.out,ab (by simp)]
  rfl
 ·have g1:decide (D.size<2)=true:=bQ h1
  go_enter Tryz.func156,Tryz.ntmps156
  go_wp2_with fail
  refine(az _ _ _ _ HR.out).mono ?_;rintro e w1 ⟨rfl,r1,k1⟩;have R1:=aa r1;have K1:=aa k1;clear r1 k1;go_wp2_with fail
  refine(C1.out _).mono ?_;rintro e CZ ⟨rfl,rfl⟩;go_wp2_with fail
  refine(C2.out _ R1.out).mono ?_;rintro e w2 ⟨rfl,r2,k2⟩;have R2:=aa r2;have K2:=an K1 k2;clear r2 k2;go_wp2_with fail
  refine(C3.out _).mono ?_;rintro e w3 ⟨rfl,b3⟩;have K3:=an K2 (Kp.af b3);clear b3;go_wp2_with fail
  go_ret2
  refine⟨K3.out,?_⟩;rw[HC.out,ab (by have:=HDs.out;omega)]
  rfl
 ·have g1:decide (D.size<2)=false:=bZ (by omega)
  have g2:decide (255<N)=true:=bQ h2;go_enter Tryz.func156,Tryz.ntmps156
  go_wp2_with fail
  refine(az _ _ _ _ HR.out).mono ?_;rintro e w1 ⟨rfl,r1,k1⟩;have R1:=aa r1;have K1:=aa k1;clear r1 k1;go_wp2_with fail
  refine(C1.out _).mono ?_;rintro e CZ ⟨rfl,rfl⟩;go_wp2_with fail
  refine(C2.out _ R1.out).mono ?_;rintro e w2 ⟨rfl,r2,k2⟩;have R2:=aa r2;have K2:=an K1 k2;clear r2 k2;go_wp2_with fail
  refine(C3.out _).mono ?_;rintro e w3 ⟨rfl,b3⟩;have K3:=an K2 (Kp.af b3);clear b3;go_wp2_with fail
  go_ret2
  refine⟨K3.out,?_⟩;rw[HC.out,ab (by omega)]
  rfl
 ·have g1:decide (D.size<2)=false:=bZ (by omega)
  have g2:decide (255<N)=false:=bZ (by omega)
  go_enter Tryz.func156,Tryz.ntmps156
  go_wp2_with fail
  refine(az _ _ _ _ HR.out).mono ?_;rintro e w1 ⟨rfl,r1,k1⟩;have R1:=aa r1;have K1:=aa k1;clear r1 k1;go_wp2_with fail
  refine(C1.out _).mono ?_;rintro e CZ ⟨rfl,rfl⟩;go_wp2_with fail
  refine(C2.out _ R1.out).mono ?_;rintro e w2 ⟨rfl,r2,k2⟩;have R2:=aa r2;have K2:=an K1 k2;clear r2 k2;go_wp2_with fail
  refine(C3.out _).mono ?_;rintro e w3 ⟨rfl,b3⟩;have R3:=aa (R2.out.below b3);have K3:=an K2 (Kp.af b3);clear b3;go_wp2_with fail
  go_ret2
  refine⟨K3.out.alloc _,?_⟩;rw[HC.out,ai ⟨by trivial,by have:=HDs.out;omega,h2⟩]
  exact⟨_,_,rfl,dN _ _ _ (WY rP h2),R3.out.alloc _,rfl,by omega⟩
theorem dQ (b:Nat) (s:ByteArray) (k:Nat) (w:World) (h:Rd w b s k) :
  Calls Tryz.prog 156 #[.pointer (some ⟨b,0,none⟩),.int .i64 10,.func (.func 89) #[] #[],.int .i64 1,.int .i64 3] w (bN b s k w (code 10 gB 1 3 (aR s k))):=by
 have cw:=h.top;have hle:=h.le;have HR:=aa h;clear h;obtain⟨m,hm⟩ :∃m:Nat,m=runN gB (aR s k):=⟨_,rfl⟩;have C1:=aa (fun W=>Jm (s.extract k s.size) W (by rw[aD s _ hle];omega))
 rw[dj,←hm] at C1;have yn:=ig gB (aR s k);rw[fS,←hm] at yn;have hall:=xL (p:=gB) (b:=10) Zx (aR s k) 3;rw[←hm] at hall;obtain⟨c,hc⟩ :∃c:Nat,c=min 3 m:=⟨_,rfl⟩;have hT :∀W,Rd W b s k→Calls Tryz.prog 81 #[.pointer (some ⟨b,0,none⟩),.int .i64 (min 3 (m:Int))] W fun e w'=>e=.returned (.string (s.extract k (k+c)))∧Rd w' b s (k+c)∧Kp b W w':=fun W h=>by
  have:=bt b s k c W h (by omega)
  rwa[show(c:Int)=min 3 (m:Int) by omega] at this
 have qK:code 10 gB 1 3 (aR s k)=if qE 10 (s.extract k (k+c)).data.toList=true∧1≤c∧lq 10 (s.extract k (k+c)).data.toList≤255 then some ([UInt8.ofNat (lq 10 (s.extract k (k+c)).data.toList).toNat],aR s (k+c)) else none:=by
  unfold code;rw[←hm,←hc,←fg,fe]
 rw[←hc,←fg] at hall;have rP:=vi (b:=10) (by decide) (by decide) hall (by rw[fg,j4];omega)
 have Zy:(s.extract k (k+c)).size=c:=by rw[tW];omega
 obtain⟨D,hD⟩ :∃D:ByteArray,D=s.extract k (k+c):=⟨_,rfl⟩;rw[←hD] at hT qK rP Zy;have C2:=aa hT;have C3:=aa (fun W=>WW D 10 W (by omega))
 obtain⟨N,hN⟩ :∃N:Int,N=lq 10 D.data.toList:=⟨_,rfl⟩;obtain⟨o,ho⟩ :∃o:Bool,o=qE 10 D.data.toList:=⟨_,rfl⟩;rw[show((10:Nat):Int)=(10:Int) from rfl] at rP
 rw[←hN] at rP;rw[←hN,←ho] at C3 qK;have HC:=aa qK;clear hm hall hT qK hD hN ho;have Cb:o=false∨(o=true∧D.size<1)∨(o=true∧1≤D.size∧255<N)∨(o=true∧1≤D.size∧N≤255):=by
  cases o
  ·exact .inl rfl
  ·right
   by_cases h1:D.size<1
   ·exact .inl ⟨rfl,h1⟩
   ·right
    by_cases h2:255<N
    ·exact .inl ⟨rfl,by omega,h2⟩
    ·exact .inr ⟨rfl,by omega,by omega⟩
 rcases Cb with rfl | ⟨rfl,h1⟩ | ⟨rfl,h1,h2⟩ | ⟨rfl,h1,h2⟩;all_goals have HDs:=aa Zy
 all_goals have HCm:=aa hc
 all_goals clear Zy hc
 ·go_enter Tryz.func156,Tryz.ntmps156
  go_wp2_with fail
  refine(az _ _ _ _ HR.out).mono ?_;rintro e w1 ⟨rfl,r1,k1⟩;have R1:=aa r1;have K1:=aa k1;clear r1 k1;go_wp2_with fail
  refine(C1.out _).mono ?_;rintro e CZ ⟨rfl,rfl⟩;go_wp2_with fail
  refine(C2.out _ R1.out).mono ?_;rintro e w2 ⟨rfl,r2,k2⟩;have R2:=aa r2;have K2:=an K1 k2;clear r2 k2;go_wp2_with fail
  refine(C3.out _).mono ?_;rintro e w3 ⟨rfl,b3⟩;have K3:=an K2 (Kp.af b3);clear b3;go_wp2_with fail
  go_ret2
  refine⟨K3.out,?_⟩;rw[HC.out,ab (by simp)]
  rfl
 ·have g1:decide (D.size<1)=true:=bQ h1
  go_enter Tryz.func156,Tryz.ntmps156
  go_wp2_with fail
  refine(az _ _ _ _ HR.out).mono ?_;rintro e w1 ⟨rfl,r1,k1⟩;have R1:=aa r1;have K1:=aa k1;clear r1 k1;go_wp2_with fail
  refine(C1.out _).mono ?_;rintro e CZ ⟨rfl,rfl⟩;go_wp2_with fail
  refine(C2.out _ R1.out).mono ?_;rintro e w2 ⟨rfl,r2,k2⟩;have R2:=aa r2;have K2:=an K1 k2;clear r2 k2;go_wp2_with fail
  refine(C3.out _).mono ?_;rintro e w3 ⟨rfl,b3⟩;have K3:=an K2 (Kp.af b3);clear b3;go_wp2_with fail
  go_ret2
  refine⟨K3.out,?_⟩;rw[HC.out,ab (by have:=HDs.out;omega)]
  rfl
 ·have g1:decide (D.size<1)=false:=bZ (by omega)
  have g2:decide (255<N)=true:=bQ h2;go_enter Tryz.func156,Tryz.ntmps156
  go_wp2_with fail
  refine(az _ _ _ _ HR.out).mono ?_;rintro e w1 ⟨rfl,r1,k1⟩;have R1:=aa r1;have K1:=aa k1;clear r1 k1;go_wp2_with fail
  refine(C1.out _).mono ?_;rintro e CZ ⟨rfl,rfl⟩;go_wp2_with fail
  refine(C2.out _ R1.out).mono ?_;rintro e w2 ⟨rfl,r2,k2⟩;have R2:=aa r2;have K2:=an K1 k2;clear r2 k2;go_wp2_with fail
  refine(C3.out _).mono ?_;rintro e w3 ⟨rfl,b3⟩;have K3:=an K2 (Kp.af b3);clear b3;go_wp2_with fail
  go_ret2
  refine⟨K3.out,?_⟩;rw[HC.out,ab (by omega)]
  rfl
 ·have g1:decide (D.size<1)=false:=bZ (by omega)
  have g2:decide (255<N)=false:=bZ (by omega)
  go_enter Tryz.func156,Tryz.ntmps156
  go_wp2_with fail
  refine(az _ _ _ _ HR.out).mono ?_;rintro e w1 ⟨rfl,r1,k1⟩;have R1:=aa r1;have K1:=aa k1;clear r1 k1;go_wp2_with fail
  refine(C1.out _).mono ?_;rintro e CZ ⟨rfl,rfl⟩;go_wp2_with fail
  refine(C2.out _ R1.out).mono ?_;rintro e w2 ⟨rfl,r2,k2⟩;have R2:=aa r2;have K2:=an K1 k2;clear r2 k2;go_wp2_with fail
  refine(C3.out _).mono ?_;rintro e w3 ⟨rfl,b3⟩;have R3:=aa (R2.out.below b3);have K3:=an K2 (Kp.af b3);clear b3;go_wp2_with fail
  go_ret2
  refine⟨K3.out.alloc _,?_⟩;rw[HC.out,ai ⟨by trivial,by have:=HDs.out;omega,h2⟩]
  exact⟨_,_,rfl,dN _ _ _ (WY rP h2),R3.out.alloc _,rfl,by omega⟩
theorem iO (s:ByteArray) (k:Nat) (h:k<s.size):aR s k=s[k]::aR s (k+1):=by
 unfold aR;exact pR (l:=s.data.toList) (i:=k) (by simpa using h)
theorem aS (s:ByteArray) (k:Nat) (h:k<s.size) (h':0<(s.extract k s.size).size):(s.extract k s.size)[0]=s[k]:=by
 rw[ByteArray.getElem_extract];simp
theorem tM (s:ByteArray) (k:Nat) (h:s.size≤k):aR s k=[]:=K9 (by rw[←Lib.size_eq];exact h)
theorem bE (X:ByteArray) (h:0<X.size):X.toList.isEmpty=false:=by
 rw[Lib.toList_data];cases e:X.data.toList with
 | nil =>
  have:=Lib.size_eq X;rw[e,List.length_nil] at this;omega
 | cons=>rfl
theorem vj (X:ByteArray) (h:X.size=0):X.toList.isEmpty=true:=by
 rw[Lib.toList_data,oG (l:=X.data.toList) (by rw[←Lib.size_eq];exact h)]
 rfl
theorem OS (b:Nat) (s:ByteArray) (k:Nat) (w:World) (h:Rd w b s k) (hk:k=s.size):Calls Tryz.prog 126 #[.pointer (some ⟨b,0,none⟩)] w (bN b s k w (pQ (aR s k))):=by
 rw[tM s k (by omega)]
 obtain⟨X,hX⟩ :∃X:ByteArray,X=s.extract k s.size:=⟨_,rfl⟩;have C1:=aa (fun W h=>az b s k W h)
 rw[←hX] at C1;have rQ:=vj X (by rw[hX,aD s k (by omega)];omega)
 have HR:=aa h;clear hX h;go_enter Tryz.func126,Tryz.ntmps126
 go_wp2_with fail
 refine(C1.out _ HR.out).mono ?_;rintro e w1 ⟨rfl,r1,k1⟩;have K1:=aa k1;clear r1 k1;go_wp2_with fail
 go_ret2
 exact⟨K1.out,rfl⟩
theorem Zz (b:Nat) (s:ByteArray) (k:Nat) (w:World) (h:Rd w b s k) (hk:k<s.size) (hc:s[k]=97):Calls Tryz.prog 126 #[.pointer (some ⟨b,0,none⟩)] w (bN b s k w (some ([7],aR s (k+1)))):=by
 obtain⟨X,hX⟩ :∃X:ByteArray,X=s.extract k s.size:=⟨_,rfl⟩;have C1:=aa (fun W h=>az b s k W h)
 have eG:0<X.size:=by rw[hX,aD s k (by omega)];omega
 have sO:X[0]=97:=by subst hX;rw[aS s k hk eG];exact hc
 rw[←hX] at C1;have rQ:=bE X eG;have HR:=aa h;have I1:=aa (fun W=>e9 ⟨#[97,98,102,110,114,116,118]⟩ 97 W)
 have T1:=aa (fun W h=>bt b s k 1 W h (by omega))
 clear hX h hc;go_enter Tryz.func126,Tryz.ntmps126
 go_wp2_with fail
 refine(C1.out _ HR.out).mono ?_;rintro e w1 ⟨rfl,r1,k1⟩;have R1:=aa r1;have K1:=aa k1;clear r1 k1;go_wp2_with fail
 refine(C1.out _ R1.out).mono ?_;rintro e w2 ⟨rfl,r2,k2⟩;have R2:=aa r2;have K2:=an K1 k2;clear r2 k2;go_wp2_with fail
 refine(I1.out _).mono ?_;rintro e OK ⟨rfl,rfl⟩;rw[show Lib.indexByte (⟨#[97,98,102,110,114,116,118]⟩:ByteArray).data.toList 97=0 from by decide]
 go_wp2_with fail
 refine(T1.out _ R2.out).mono ?_;rintro e w3 ⟨rfl,r3,k3⟩;have R3:=aa r3;have K3:=an K2 k3;clear r3 k3;go_wp2_with fail
 go_ret2
 exact⟨K3.out.alloc _,_,_,rfl,dN _ _ _ rfl,R3.out.alloc _,rfl,by omega⟩
theorem ZA (b:Nat) (s:ByteArray) (k:Nat) (w:World) (h:Rd w b s k) (hk:k<s.size) (hc:s[k]=98):Calls Tryz.prog 126 #[.pointer (some ⟨b,0,none⟩)] w (bN b s k w (some ([8],aR s (k+1)))):=by
 obtain⟨X,hX⟩ :∃X:ByteArray,X=s.extract k s.size:=⟨_,rfl⟩;have C1:=aa (fun W h=>az b s k W h)
 have eG:0<X.size:=by rw[hX,aD s k (by omega)];omega
 have sO:X[0]=98:=by subst hX;rw[aS s k hk eG];exact hc
 rw[←hX] at C1;have rQ:=bE X eG;have HR:=aa h;have I1:=aa (fun W=>e9 ⟨#[97,98,102,110,114,116,118]⟩ 98 W)
 have T1:=aa (fun W h=>bt b s k 1 W h (by omega))
 clear hX h hc;go_enter Tryz.func126,Tryz.ntmps126
 go_wp2_with fail
 refine(C1.out _ HR.out).mono ?_;rintro e w1 ⟨rfl,r1,k1⟩;have R1:=aa r1;have K1:=aa k1;clear r1 k1;go_wp2_with fail
 refine(C1.out _ R1.out).mono ?_;rintro e w2 ⟨rfl,r2,k2⟩;have R2:=aa r2;have K2:=an K1 k2;clear r2 k2;go_wp2_with fail
 refine(I1.out _).mono ?_;rintro e OK ⟨rfl,rfl⟩;rw[show Lib.indexByte (⟨#[97,98,102,110,114,116,118]⟩:ByteArray).data.toList 98=1 from by decide]
 go_wp2_with fail
 refine(T1.out _ R2.out).mono ?_;rintro e w3 ⟨rfl,r3,k3⟩;have R3:=aa r3;have K3:=an K2 k3;clear r3 k3;go_wp2_with fail
 go_ret2
 exact⟨K3.out.alloc _,_,_,rfl,dN _ _ _ rfl,R3.out.alloc _,rfl,by omega⟩
theorem TU (b:Nat) (s:ByteArray) (k:Nat) (w:World) (h:Rd w b s k) (hk:k<s.size) (hc:s[k]=102):Calls Tryz.prog 126 #[.pointer (some ⟨b,0,none⟩)] w (bN b s k w (some ([12],aR s (k+1)))):=by
 obtain⟨X,hX⟩ :∃X:ByteArray,X=s.extract k s.size:=⟨_,rfl⟩;have C1:=aa (fun W h=>az b s k W h)
 have eG:0<X.size:=by rw[hX,aD s k (by omega)];omega
 have sO:X[0]=102:=by subst hX;rw[aS s k hk eG];exact hc
 rw[←hX] at C1;have rQ:=bE X eG;have HR:=aa h;have I1:=aa (fun W=>e9 ⟨#[97,98,102,110,114,116,118]⟩ 102 W)
 have T1:=aa (fun W h=>bt b s k 1 W h (by omega))
 clear hX h hc;go_enter Tryz.func126,Tryz.ntmps126
 go_wp2_with fail
 refine(C1.out _ HR.out).mono ?_;rintro e w1 ⟨rfl,r1,k1⟩;have R1:=aa r1;have K1:=aa k1;clear r1 k1;go_wp2_with fail
 refine(C1.out _ R1.out).mono ?_;rintro e w2 ⟨rfl,r2,k2⟩;have R2:=aa r2;have K2:=an K1 k2;clear r2 k2;go_wp2_with fail
 refine(I1.out _).mono ?_;rintro e OK ⟨rfl,rfl⟩;rw[show Lib.indexByte (⟨#[97,98,102,110,114,116,118]⟩:ByteArray).data.toList 102=2 from by decide]
 go_wp2_with fail
 refine(T1.out _ R2.out).mono ?_;rintro e w3 ⟨rfl,r3,k3⟩;have R3:=aa r3;have K3:=an K2 k3;clear r3 k3;go_wp2_with fail
 go_ret2
 exact⟨K3.out.alloc _,_,_,rfl,dN _ _ _ rfl,R3.out.alloc _,rfl,by omega⟩
theorem TV (b:Nat) (s:ByteArray) (k:Nat) (w:World) (h:Rd w b s k) (hk:k<s.size) (hc:s[k]=110):Calls Tryz.prog 126 #[.pointer (some ⟨b,0,none⟩)] w (bN b s k w (some ([10],aR s (k+1)))):=by
 obtain⟨X,hX⟩ :∃X:ByteArray,X=s.extract k s.size:=⟨_,rfl⟩;have C1:=aa (fun W h=>az b s k W h)
 have eG:0<X.size:=by rw[hX,aD s k (by omega)];omega
 have sO:X[0]=110:=by subst hX;rw[aS s k hk eG];exact hc
 rw[←hX] at C1;have rQ:=bE X eG;have HR:=aa h;have I1:=aa (fun W=>e9 ⟨#[97,98,102,110,114,116,118]⟩ 110 W)
 have T1:=aa (fun W h=>bt b s k 1 W h (by omega))
 clear hX h hc;go_enter Tryz.func126,Tryz.ntmps126
 go_wp2_with fail
 refine(C1.out _ HR.out).mono ?_;rintro e w1 ⟨rfl,r1,k1⟩;have R1:=aa r1;have K1:=aa k1;clear r1 k1;go_wp2_with fail
 refine(C1.out _ R1.out).mono ?_;rintro e w2 ⟨rfl,r2,k2⟩;have R2:=aa r2;have K2:=an K1 k2;clear r2 k2;go_wp2_with fail
 refine(I1.out _).mono ?_;rintro e OK ⟨rfl,rfl⟩;rw[show Lib.indexByte (⟨#[97,98,102,110,114,116,118]⟩:ByteArray).data.toList 110=3 from by decide]
 go_wp2_with fail
 refine(T1.out _ R2.out).mono ?_;rintro e w3 ⟨rfl,r3,k3⟩;have R3:=aa r3;have K3:=an K2 k3;clear r3 k3;go_wp2_with fail
 go_ret2
 exact⟨K3.out.alloc _,_,_,rfl,dN _ _ _ rfl,R3.out.alloc _,rfl,by omega⟩
theorem TW (b:Nat) (s:ByteArray) (k:Nat) (w:World) (h:Rd w b s k) (hk:k<s.size) (hc:s[k]=114):Calls Tryz.prog 126 #[.pointer (some ⟨b,0,none⟩)] w (bN b s k w (some ([13],aR s (k+1)))):=by
 obtain⟨X,hX⟩ :∃X:ByteArray,X=s.extract k s.size:=⟨_,rfl⟩;have C1:=aa (fun W h=>az b s k W h)
 have eG:0<X.size:=by rw[hX,aD s k (by omega)];omega
 have sO:X[0]=114:=by subst hX;rw[aS s k hk eG];exact hc
 rw[←hX] at C1;have rQ:=bE X eG;have HR:=aa h;have I1:=aa (fun W=>e9 ⟨#[97,98,102,110,114,116,118]⟩ 114 W)
 have T1:=aa (fun W h=>bt b s k 1 W h (by omega))
 clear hX h hc;go_enter Tryz.func126,Tryz.ntmps126
 go_wp2_with fail
 refine(C1.out _ HR.out).mono ?_;rintro e w1 ⟨rfl,r1,k1⟩;have R1:=aa r1;have K1:=aa k1;clear r1 k1;go_wp2_with fail
 refine(C1.out _ R1.out).mono ?_;rintro e w2 ⟨rfl,r2,k2⟩;have R2:=aa r2;have K2:=an K1 k2;clear r2 k2;go_wp2_with fail
 refine(I1.out _).mono ?_;rintro e OK ⟨rfl,rfl⟩;rw[show Lib.indexByte (⟨#[97,98,102,110,114,116,118]⟩:ByteArray).data.toList 114=4 from by decide]
 go_wp2_with fail
 refine(T1.out _ R2.out).mono ?_;rintro e w3 ⟨rfl,r3,k3⟩;have R3:=aa r3;have K3:=an K2 k3;clear r3 k3;go_wp2_with fail
 go_ret2
 exact⟨K3.out.alloc _,_,_,rfl,dN _ _ _ rfl,R3.out.alloc _,rfl,by omega⟩
theorem TX (b:Nat) (s:ByteArray) (k:Nat) (w:World) (h:Rd w b s k) (hk:k<s.size) (hc:s[k]=116):Calls Tryz.prog 126 #[.pointer (some ⟨b,0,none⟩)] w (bN b s k w (some ([9],aR s (k+1)))):=by
 obtain⟨X,hX⟩ :∃X:ByteArray,X=s.extract k s.size:=⟨_,rfl⟩;have C1:=aa (fun W h=>az b s k W h)
 have eG:0<X.size:=by rw[hX,aD s k (by omega)];omega
 have sO:X[0]=116:=by subst hX;rw[aS s k hk eG];exact hc
 rw[←hX] at C1;have rQ:=bE X eG;have HR:=aa h;have I1:=aa (fun W=>e9 ⟨#[97,98,102,110,114,116,118]⟩ 116 W)
 have T1:=aa (fun W h=>bt b s k 1 W h (by omega))
 clear hX h hc;go_enter Tryz.func126,Tryz.ntmps126
 go_wp2_with fail
 refine(C1.out _ HR.out).mono ?_;rintro e w1 ⟨rfl,r1,k1⟩;have R1:=aa r1;have K1:=aa k1;clear r1 k1;go_wp2_with fail
 refine(C1.out _ R1.out).mono ?_;rintro e w2 ⟨rfl,r2,k2⟩;have R2:=aa r2;have K2:=an K1 k2;clear r2 k2;go_wp2_with fail
 refine(I1.out _).mono ?_;rintro e OK ⟨rfl,rfl⟩;rw[show Lib.indexByte (⟨#[97,98,102,110,114,116,118]⟩:ByteArray).data.toList 116=5 from by decide]
 go_wp2_with fail
 refine(T1.out _ R2.out).mono ?_;rintro e w3 ⟨rfl,r3,k3⟩;have R3:=aa r3;have K3:=an K2 k3;clear r3 k3;go_wp2_with fail
 go_ret2
 exact⟨K3.out.alloc _,_,_,rfl,dN _ _ _ rfl,R3.out.alloc _,rfl,by omega⟩
theorem TY (b:Nat) (s:ByteArray) (k:Nat) (w:World) (h:Rd w b s k) (hk:k<s.size) (hc:s[k]=118):Calls Tryz.prog 126 #[.pointer (some ⟨b,0,none⟩)] w (bN b s k w (some ([11],aR s (k+1)))):=by
 obtain⟨X,hX⟩ :∃X:ByteArray,X=s.extract k s.size:=⟨_,rfl⟩;have C1:=aa (fun W h=>az b s k W h)
 have eG:0<X.size:=by rw[hX,aD s k (by omega)];omega
 have sO:X[0]=118:=by subst hX;rw[aS s k hk eG];exact hc
 rw[←hX] at C1;have rQ:=bE X eG;have HR:=aa h;have I1:=aa (fun W=>e9 ⟨#[97,98,102,110,114,116,118]⟩ 118 W)
 have T1:=aa (fun W h=>bt b s k 1 W h (by omega))
 clear hX h hc;go_enter Tryz.func126,Tryz.ntmps126
 go_wp2_with fail
 refine(C1.out _ HR.out).mono ?_;rintro e w1 ⟨rfl,r1,k1⟩;have R1:=aa r1;have K1:=aa k1;clear r1 k1;go_wp2_with fail
 refine(C1.out _ R1.out).mono ?_;rintro e w2 ⟨rfl,r2,k2⟩;have R2:=aa r2;have K2:=an K1 k2;clear r2 k2;go_wp2_with fail
 refine(I1.out _).mono ?_;rintro e OK ⟨rfl,rfl⟩;rw[show Lib.indexByte (⟨#[97,98,102,110,114,116,118]⟩:ByteArray).data.toList 118=6 from by decide]
 go_wp2_with fail
 refine(T1.out _ R2.out).mono ?_;rintro e w3 ⟨rfl,r3,k3⟩;have R3:=aa r3;have K3:=an K2 k3;clear r3 k3;go_wp2_with fail
 go_ret2
 exact⟨K3.out.alloc _,_,_,rfl,dN _ _ _ rfl,R3.out.alloc _,rfl,by omega⟩
theorem ZB (b:Nat) (s:ByteArray) (k:Nat) (w:World) (h:Rd w b s k) (hk:k<s.size) (hc:s[k]=92):Calls Tryz.prog 126 #[.pointer (some ⟨b,0,none⟩)] w (bN b s k w (some ([92],aR s (k+1)))):=by
 obtain⟨X,hX⟩ :∃X:ByteArray,X=s.extract k s.size:=⟨_,rfl⟩;have C1:=aa (fun W h=>az b s k W h)
 have eG:0<X.size:=by rw[hX,aD s k (by omega)];omega
 have sO:X[0]=92:=by subst hX;rw[aS s k hk eG];exact hc
 rw[←hX] at C1;have rQ:=bE X eG;have HR:=aa h;have T1:=aa (fun W h=>bt b s k 1 W h (by omega))
 clear hX h hc;go_enter Tryz.func126,Tryz.ntmps126
 go_wp2_with fail
 refine(C1.out _ HR.out).mono ?_;rintro e w1 ⟨rfl,r1,k1⟩;have R1:=aa r1;have K1:=aa k1;clear r1 k1;go_wp2_with fail
 refine(C1.out _ R1.out).mono ?_;rintro e w2 ⟨rfl,r2,k2⟩;have R2:=aa r2;have K2:=an K1 k2;clear r2 k2;go_wp2_with fail
 refine(T1.out _ R2.out).mono ?_;rintro e w3 ⟨rfl,r3,k3⟩;have R3:=aa r3;have K3:=an K2 k3;clear r3 k3;go_wp2_with fail
 go_ret2
 exact⟨K3.out.alloc _,_,_,rfl,dN _ _ _ rfl,R3.out.alloc _,rfl,by omega⟩
theorem ZC (b:Nat) (s:ByteArray) (k:Nat) (w:World) (h:Rd w b s k) (hk:k<s.size) (hc:s[k]=39):Calls Tryz.prog 126 #[.pointer (some ⟨b,0,none⟩)] w (bN b s k w (some ([39],aR s (k+1)))):=by
 obtain⟨X,hX⟩ :∃X:ByteArray,X=s.extract k s.size:=⟨_,rfl⟩;have C1:=aa (fun W h=>az b s k W h)
 have eG:0<X.size:=by rw[hX,aD s k (by omega)];omega
 have sO:X[0]=39:=by subst hX;rw[aS s k hk eG];exact hc
 rw[←hX] at C1;have rQ:=bE X eG;have HR:=aa h;have T1:=aa (fun W h=>bt b s k 1 W h (by omega))
 clear hX h hc;go_enter Tryz.func126,Tryz.ntmps126
 go_wp2_with fail
 refine(C1.out _ HR.out).mono ?_;rintro e w1 ⟨rfl,r1,k1⟩;have R1:=aa r1;have K1:=aa k1;clear r1 k1;go_wp2_with fail
 refine(C1.out _ R1.out).mono ?_;rintro e w2 ⟨rfl,r2,k2⟩;have R2:=aa r2;have K2:=an K1 k2;clear r2 k2;go_wp2_with fail
 refine(T1.out _ R2.out).mono ?_;rintro e w3 ⟨rfl,r3,k3⟩;have R3:=aa r3;have K3:=an K2 k3;clear r3 k3;go_wp2_with fail
 go_ret2
 exact⟨K3.out.alloc _,_,_,rfl,dN _ _ _ rfl,R3.out.alloc _,rfl,by omega⟩
theorem ZD (b:Nat) (s:ByteArray) (k:Nat) (w:World) (h:Rd w b s k) (hk:k<s.size) (hc:s[k]=34):Calls Tryz.prog 126 #[.pointer (some ⟨b,0,none⟩)] w (bN b s k w (some ([34],aR s (k+1)))):=by
 obtain⟨X,hX⟩ :∃X:ByteArray,X=s.extract k s.size:=⟨_,rfl⟩;have C1:=aa (fun W h=>az b s k W h)
 have eG:0<X.size:=by rw[hX,aD s k (by omega)];omega
 have sO:X[0]=34:=by subst hX;rw[aS s k hk eG];exact hc
 rw[←hX] at C1;have rQ:=bE X eG;have HR:=aa h;have T1:=aa (fun W h=>bt b s k 1 W h (by omega))
 clear hX h hc;go_enter Tryz.func126,Tryz.ntmps126
 go_wp2_with fail
 refine(C1.out _ HR.out).mono ?_;rintro e w1 ⟨rfl,r1,k1⟩;have R1:=aa r1;have K1:=aa k1;clear r1 k1;go_wp2_with fail
 refine(C1.out _ R1.out).mono ?_;rintro e w2 ⟨rfl,r2,k2⟩;have R2:=aa r2;have K2:=an K1 k2;clear r2 k2;go_wp2_with fail
 refine(T1.out _ R2.out).mono ?_;rintro e w3 ⟨rfl,r3,k3⟩;have R3:=aa r3;have K3:=an K2 k3;clear r3 k3;go_wp2_with fail
 go_ret2
 exact⟨K3.out.alloc _,_,_,rfl,dN _ _ _ rfl,R3.out.alloc _,rfl,by omega⟩
theorem ZE (b:Nat) (s:ByteArray) (k:Nat) (w:World) (h:Rd w b s k) (hk:k<s.size) (hc:s[k]=10):Calls Tryz.prog 126 #[.pointer (some ⟨b,0,none⟩)] w (bN b s k w (some ([10],aR s (k+1)))):=by
 obtain⟨X,hX⟩ :∃X:ByteArray,X=s.extract k s.size:=⟨_,rfl⟩;have C1:=aa (fun W h=>az b s k W h)
 have eG:0<X.size:=by rw[hX,aD s k (by omega)];omega
 have sO:X[0]=10:=by subst hX;rw[aS s k hk eG];exact hc
 rw[←hX] at C1;have rQ:=bE X eG;have HR:=aa h;have T1:=aa (fun W h=>bt b s k 1 W h (by omega))
 clear hX h hc;go_enter Tryz.func126,Tryz.ntmps126
 go_wp2_with fail
 refine(C1.out _ HR.out).mono ?_;rintro e w1 ⟨rfl,r1,k1⟩;have R1:=aa r1;have K1:=aa k1;clear r1 k1;go_wp2_with fail
 refine(C1.out _ R1.out).mono ?_;rintro e w2 ⟨rfl,r2,k2⟩;have R2:=aa r2;have K2:=an K1 k2;clear r2 k2;go_wp2_with fail
 refine(T1.out _ R2.out).mono ?_;rintro e w3 ⟨rfl,r3,k3⟩;have R3:=aa r3;have K3:=an K2 k3;clear r3 k3;go_wp2_with fail
 go_ret2
 exact⟨K3.out.alloc _,_,_,rfl,dN _ _ _ rfl,R3.out.alloc _,rfl,by omega⟩
theorem TZ (b:Nat) (s:ByteArray) (k:Nat) (w:World) (h:Rd w b s k) (hk:k<s.size) (hc:s[k]=122):Calls Tryz.prog 126 #[.pointer (some ⟨b,0,none⟩)] w (bN b s k w (some ([],(aR s (k+1)).dropWhile pB))):=by
 obtain⟨X,hX⟩ :∃X:ByteArray,X=s.extract k s.size:=⟨_,rfl⟩;have C1:=aa (fun W h=>az b s k W h)
 have eG:0<X.size:=by rw[hX,aD s k (by omega)];omega
 have sO:X[0]=122:=by subst hX;rw[aS s k hk eG];exact hc
 rw[←hX] at C1;have rQ:=bE X eG;have HR:=aa h;have T1:=aa (fun W h=>bt b s k 1 W h (by omega))
 obtain⟨m,hm⟩ :∃m:Nat,m=runN pB (aR s (k+1)):=⟨_,rfl⟩;have C2:=aa (fun W=>xJ (s.extract (k+1) s.size) W (by rw[aD s _ (by omega)];have:=h.top;omega))
 rw[dj,←hm] at C2;have yn:=ig pB (aR s (k+1));rw[fS,←hm] at yn;have hdw:(aR s (k+1)).dropWhile pB=aR s (k+1+m):=by rw[←qG,←hm,fe]
 have HD:=aa hdw;clear hX h hc hm hdw;go_enter Tryz.func126,Tryz.ntmps126
 go_wp2_with fail
 refine(C1.out _ HR.out).mono ?_;rintro e w1 ⟨rfl,r1,k1⟩;have R1:=aa r1;have K1:=aa k1;clear r1 k1;go_wp2_with fail
 refine(C1.out _ R1.out).mono ?_;rintro e w2 ⟨rfl,r2,k2⟩;have R2:=aa r2;have K2:=an K1 k2;clear r2 k2;go_wp2_with fail
 refine(T1.out _ R2.out).mono ?_;rintro e w3 ⟨rfl,r3,k3⟩;have R3:=aa r3;have K3:=an K2 k3;clear r3 k3;go_wp2_with fail
 refine(az _ _ _ _ R3.out).mono ?_;rintro e w4 ⟨rfl,r4,k4⟩;have R4:=aa r4;have K4:=an K3 k4;clear r4 k4;go_wp2_with fail
 refine(C2.out _).mono ?_;rintro e w4' ⟨rfl,rfl⟩;go_wp2_with fail
 refine(bt _ _ _ _ _ R4.out (by omega)).mono ?_;rintro e w5 ⟨rfl,r5,k5⟩
 have R5:=aa r5;have K5:=an K4 k5;clear r5 k5;go_wp2_with fail
 go_ret2
 exact⟨K5.out,_,_,rfl,.inl ⟨rfl,rfl⟩,R5.out,HD.out.symm,by omega⟩
theorem T3 (b:Nat) (s:ByteArray) (k:Nat) (w:World) (h:Rd w b s k) (hk:k<s.size) (hc:s[k]=120):Calls Tryz.prog 126 #[.pointer (some ⟨b,0,none⟩)] w (bN b s k w (code 16 zD 2 2 (aR s (k+1)))):=by
 obtain⟨X,hX⟩ :∃X:ByteArray,X=s.extract k s.size:=⟨_,rfl⟩;have C1:=aa (fun W h=>az b s k W h)
 have eG:0<X.size:=by rw[hX,aD s k (by omega)];omega
 have sO:X[0]=120:=by subst hX;rw[aS s k hk eG];exact hc
 rw[←hX] at C1;have rQ:=bE X eG;have HR:=aa h;have T1:=aa (fun W h=>bt b s k 1 W h (by omega))
 have C2:=aa (fun W h=>OR b s (k+1) W h)
 obtain⟨o,ho⟩ :∃o,o=code 16 zD 2 2 (aR s (k+1)):=⟨_,rfl⟩;rw[←ho] at C2 ⊢;clear hX h hc ho;rcases o with _ | ⟨m,r⟩
 ·go_enter Tryz.func126,Tryz.ntmps126
  go_wp2_with fail
  refine(C1.out _ HR.out).mono ?_;rintro e w1 ⟨rfl,r1,k1⟩;have R1:=aa r1;have K1:=aa k1;clear r1 k1;go_wp2_with fail
  refine(C1.out _ R1.out).mono ?_;rintro e w2 ⟨rfl,r2,k2⟩;have R2:=aa r2;have K2:=an K1 k2;clear r2 k2;go_wp2_with fail
  refine(T1.out _ R2.out).mono ?_;rintro e w3 ⟨rfl,r3,k3⟩;have R3:=aa r3;have K3:=an K2 k3;clear r3 k3;go_wp2_with fail
  refine(C2.out _ R3.out).mono ?_;intro e w4 fZ;obtain⟨k4,rfl⟩:=fZ;have K4:=an K3 k4;clear k4;go_wp2_with fail
  go_ret2
  exact⟨K4.out,rfl⟩
 ·go_enter Tryz.func126,Tryz.ntmps126
  go_wp2_with fail
  refine(C1.out _ HR.out).mono ?_;rintro e w1 ⟨rfl,r1,k1⟩;have R1:=aa r1;have K1:=aa k1;clear r1 k1;go_wp2_with fail
  refine(C1.out _ R1.out).mono ?_;rintro e w2 ⟨rfl,r2,k2⟩;have R2:=aa r2;have K2:=an K1 k2;clear r2 k2;go_wp2_with fail
  refine(T1.out _ R2.out).mono ?_;rintro e w3 ⟨rfl,r3,k3⟩;have R3:=aa r3;have K3:=an K2 k3;clear r3 k3;go_wp2_with fail
  refine(C2.out _ R3.out).mono ?_;intro e w4 fZ;obtain⟨k4,k',v,rfl,hb4,r4,hr4,hl4⟩:=fZ;have K4:=an K3 k4;have R4:=aa r4;have HB:=aa hb4;have HE:=aa hr4;clear k4 r4 hb4 hr4;go_wp2_with fail
  go_ret2
  exact⟨K4.out,_,_,rfl,HB.out,R4.out,HE.out,by omega⟩
theorem ZF (b:Nat) (s:ByteArray) (k:Nat) (w:World) (h:Rd w b s k) (hk:k<s.size) (hc:s[k]=48):Calls Tryz.prog 126 #[.pointer (some ⟨b,0,none⟩)] w (bN b s k w (code 10 gB 1 3 (aR s k))):=by
 obtain⟨X,hX⟩ :∃X:ByteArray,X=s.extract k s.size:=⟨_,rfl⟩;have C1:=aa (fun W h=>az b s k W h)
 have eG:0<X.size:=by rw[hX,aD s k (by omega)];omega
 have sO:X[0]=48:=by subst hX;rw[aS s k hk eG];exact hc
 rw[←hX] at C1;have rQ:=bE X eG;have HR:=aa h;have C2:=aa (fun W h=>dQ b s k W h)
 obtain⟨o,ho⟩ :∃o,o=code 10 gB 1 3 (aR s k):=⟨_,rfl⟩;rw[←ho] at C2 ⊢;clear hX h hc ho;rcases o with _ | ⟨m,r⟩
 ·go_enter Tryz.func126,Tryz.ntmps126
  go_wp2_with fail
  refine(C1.out _ HR.out).mono ?_;rintro e w1 ⟨rfl,r1,k1⟩;have R1:=aa r1;have K1:=aa k1;clear r1 k1;go_wp2_with fail
  refine(C1.out _ R1.out).mono ?_;rintro e w2 ⟨rfl,r2,k2⟩;have R2:=aa r2;have K2:=an K1 k2;clear r2 k2;go_wp2_with fail
  refine(C2.out _ R2.out).mono ?_;intro e w4 fZ;obtain⟨k4,rfl⟩:=fZ;have K4:=an K2 k4;clear k4;go_wp2_with fail
  go_ret2
  exact⟨K4.out,rfl⟩
 ·go_enter Tryz.func126,Tryz.ntmps126
  go_wp2_with fail
  refine(C1.out _ HR.out).mono ?_;rintro e w1 ⟨rfl,r1,k1⟩;have R1:=aa r1;have K1:=aa k1;clear r1 k1;go_wp2_with fail
  refine(C1.out _ R1.out).mono ?_;rintro e w2 ⟨rfl,r2,k2⟩;have R2:=aa r2;have K2:=an K1 k2;clear r2 k2;go_wp2_with fail
  refine(C2.out _ R2.out).mono ?_;intro e w4 fZ;obtain⟨k4,k',v,rfl,hb4,r4,hr4,hl4⟩:=fZ;have K4:=an K2 k4;have R4:=aa r4;have HB:=aa hb4;have HE:=aa hr4;clear k4 r4 hb4 hr4;go_wp2_with fail
  go_ret2
  exact⟨K4.out,_,_,rfl,HB.out,R4.out,HE.out,by omega⟩
theorem ZG (b:Nat) (s:ByteArray) (k:Nat) (w:World) (h:Rd w b s k) (hk:k<s.size) (hc:s[k]=49):Calls Tryz.prog 126 #[.pointer (some ⟨b,0,none⟩)] w (bN b s k w (code 10 gB 1 3 (aR s k))):=by
 obtain⟨X,hX⟩ :∃X:ByteArray,X=s.extract k s.size:=⟨_,rfl⟩;have C1:=aa (fun W h=>az b s k W h)
 have eG:0<X.size:=by rw[hX,aD s k (by omega)];omega
 have sO:X[0]=49:=by subst hX;rw[aS s k hk eG];exact hc
 rw[←hX] at C1;have rQ:=bE X eG;have HR:=aa h;have C2:=aa (fun W h=>dQ b s k W h)
 obtain⟨o,ho⟩ :∃o,o=code 10 gB 1 3 (aR s k):=⟨_,rfl⟩;rw[←ho] at C2 ⊢;clear hX h hc ho;rcases o with _ | ⟨m,r⟩
 ·go_enter Tryz.func126,Tryz.ntmps126
  go_wp2_with fail
  refine(C1.out _ HR.out).mono ?_;rintro e w1 ⟨rfl,r1,k1⟩;have R1:=aa r1;have K1:=aa k1;clear r1 k1;go_wp2_with fail
  refine(C1.out _ R1.out).mono ?_;rintro e w2 ⟨rfl,r2,k2⟩;have R2:=aa r2;have K2:=an K1 k2;clear r2 k2;go_wp2_with fail
  refine(C2.out _ R2.out).mono ?_;intro e w4 fZ;obtain⟨k4,rfl⟩:=fZ;have K4:=an K2 k4;clear k4;go_wp2_with fail
  go_ret2
  exact⟨K4.out,rfl⟩
 ·go_enter Tryz.func126,Tryz.ntmps126
  go_wp2_with fail
  refine(C1.out _ HR.out).mono ?_;rintro e w1 ⟨rfl,r1,k1⟩;have R1:=aa r1;have K1:=aa k1;clear r1 k1;go_wp2_with fail
  refine(C1.out _ R1.out).mono ?_;rintro e w2 ⟨rfl,r2,k2⟩;have R2:=aa r2;have K2:=an K1 k2;clear r2 k2;go_wp2_with fail
  refine(C2.out _ R2.out).mono ?_;intro e w4 fZ;obtain⟨k4,k',v,rfl,hb4,r4,hr4,hl4⟩:=fZ;have K4:=an K2 k4;have R4:=aa r4;have HB:=aa hb4;have HE:=aa hr4;clear k4 r4 hb4 hr4;go_wp2_with fail
  go_ret2
  exact⟨K4.out,_,_,rfl,HB.out,R4.out,HE.out,by omega⟩
theorem ZH (b:Nat) (s:ByteArray) (k:Nat) (w:World) (h:Rd w b s k) (hk:k<s.size) (hc:s[k]=50):Calls Tryz.prog 126 #[.pointer (some ⟨b,0,none⟩)] w (bN b s k w (code 10 gB 1 3 (aR s k))):=by
 obtain⟨X,hX⟩ :∃X:ByteArray,X=s.extract k s.size:=⟨_,rfl⟩;have C1:=aa (fun W h=>az b s k W h)
 have eG:0<X.size:=by rw[hX,aD s k (by omega)];omega
 have sO:X[0]=50:=by subst hX;rw[aS s k hk eG];exact hc
 rw[←hX] at C1;have rQ:=bE X eG;have HR:=aa h;have C2:=aa (fun W h=>dQ b s k W h)
 obtain⟨o,ho⟩ :∃o,o=code 10 gB 1 3 (aR s k):=⟨_,rfl⟩;rw[←ho] at C2 ⊢;clear hX h hc ho;rcases o with _ | ⟨m,r⟩
 ·go_enter Tryz.func126,Tryz.ntmps126
  go_wp2_with fail
  refine(C1.out _ HR.out).mono ?_;rintro e w1 ⟨rfl,r1,k1⟩;have R1:=aa r1;have K1:=aa k1;clear r1 k1;go_wp2_with fail
  refine(C1.out _ R1.out).mono ?_;rintro e w2 ⟨rfl,r2,k2⟩;have R2:=aa r2;have K2:=an K1 k2;clear r2 k2;go_wp2_with fail
  refine(C2.out _ R2.out).mono ?_;intro e w4 fZ;obtain⟨k4,rfl⟩:=fZ;have K4:=an K2 k4;clear k4;go_wp2_with fail
  go_ret2
  exact⟨K4.out,rfl⟩
 ·go_enter Tryz.func126,Tryz.ntmps126
  go_wp2_with fail
  refine(C1.out _ HR.out).mono ?_;rintro e w1 ⟨rfl,r1,k1⟩;have R1:=aa r1;have K1:=aa k1;clear r1 k1;go_wp2_with fail
  refine(C1.out _ R1.out).mono ?_;rintro e w2 ⟨rfl,r2,k2⟩;have R2:=aa r2;have K2:=an K1 k2;clear r2 k2;go_wp2_with fail
  refine(C2.out _ R2.out).mono ?_;intro e w4 fZ;obtain⟨k4,k',v,rfl,hb4,r4,hr4,hl4⟩:=fZ;have K4:=an K2 k4;have R4:=aa r4;have HB:=aa hb4;have HE:=aa hr4;clear k4 r4 hb4 hr4;go_wp2_with fail
  go_ret2
  exact⟨K4.out,_,_,rfl,HB.out,R4.out,HE.out,by omega⟩
theorem ZI (b:Nat) (s:ByteArray) (k:Nat) (w:World) (h:Rd w b s k) (hk:k<s.size) (hc:s[k]=51):Calls Tryz.prog 126 #[.pointer (some ⟨b,0,none⟩)] w (bN b s k w (code 10 gB 1 3 (aR s k))):=by
 obtain⟨X,hX⟩ :∃X:ByteArray,X=s.extract k s.size:=⟨_,rfl⟩;have C1:=aa (fun W h=>az b s k W h)
 have eG:0<X.size:=by rw[hX,aD s k (by omega)];omega
 have sO:X[0]=51:=by subst hX;rw[aS s k hk eG];exact hc
 rw[←hX] at C1;have rQ:=bE X eG;have HR:=aa h;have C2:=aa (fun W h=>dQ b s k W h)
 obtain⟨o,ho⟩ :∃o,o=code 10 gB 1 3 (aR s k):=⟨_,rfl⟩;rw[←ho] at C2 ⊢;clear hX h hc ho;rcases o with _ | ⟨m,r⟩
 ·go_enter Tryz.func126,Tryz.ntmps126
  go_wp2_with fail
  refine(C1.out _ HR.out).mono ?_;rintro e w1 ⟨rfl,r1,k1⟩;have R1:=aa r1;have K1:=aa k1;clear r1 k1;go_wp2_with fail
  refine(C1.out _ R1.out).mono ?_;rintro e w2 ⟨rfl,r2,k2⟩;have R2:=aa r2;have K2:=an K1 k2;clear r2 k2;go_wp2_with fail
  refine(C2.out _ R2.out).mono ?_;intro e w4 fZ;obtain⟨k4,rfl⟩:=fZ;have K4:=an K2 k4;clear k4;go_wp2_with fail
  go_ret2
  exact⟨K4.out,rfl⟩
 ·go_enter Tryz.func126,Tryz.ntmps126
  go_wp2_with fail
  refine(C1.out _ HR.out).mono ?_;rintro e w1 ⟨rfl,r1,k1⟩;have R1:=aa r1;have K1:=aa k1;clear r1 k1;go_wp2_with fail
  refine(C1.out _ R1.out).mono ?_;rintro e w2 ⟨rfl,r2,k2⟩;have R2:=aa r2;have K2:=an K1 k2;clear r2 k2;go_wp2_with fail
  refine(C2.out _ R2.out).mono ?_;intro e w4 fZ;obtain⟨k4,k',v,rfl,hb4,r4,hr4,hl4⟩:=fZ;have K4:=an K2 k4;have R4:=aa r4;have HB:=aa hb4;have HE:=aa hr4;clear k4 r4 hb4 hr4;go_wp2_with fail
  go_ret2
  exact⟨K4.out,_,_,rfl,HB.out,R4.out,HE.out,by omega⟩
theorem ZJ (b:Nat) (s:ByteArray) (k:Nat) (w:World) (h:Rd w b s k) (hk:k<s.size) (hc:s[k]=52):Calls Tryz.prog 126 #[.pointer (some ⟨b,0,none⟩)] w (bN b s k w (code 10 gB 1 3 (aR s k))):=by
 obtain⟨X,hX⟩ :∃X:ByteArray,X=s.extract k s.size:=⟨_,rfl⟩;have C1:=aa (fun W h=>az b s k W h)
 have eG:0<X.size:=by rw[hX,aD s k (by omega)];omega
 have sO:X[0]=52:=by subst hX;rw[aS s k hk eG];exact hc
 rw[←hX] at C1;have rQ:=bE X eG;have HR:=aa h;have C2:=aa (fun W h=>dQ b s k W h)
 obtain⟨o,ho⟩ :∃o,o=code 10 gB 1 3 (aR s k):=⟨_,rfl⟩;rw[←ho] at C2 ⊢;clear hX h hc ho;rcases o with _ | ⟨m,r⟩
 ·go_enter Tryz.func126,Tryz.ntmps126
  go_wp2_with fail
  refine(C1.out _ HR.out).mono ?_;rintro e w1 ⟨rfl,r1,k1⟩;have R1:=aa r1;have K1:=aa k1;clear r1 k1;go_wp2_with fail
  refine(C1.out _ R1.out).mono ?_;rintro e w2 ⟨rfl,r2,k2⟩;have R2:=aa r2;have K2:=an K1 k2;clear r2 k2;go_wp2_with fail
  refine(C2.out _ R2.out).mono ?_;intro e w4 fZ;obtain⟨k4,rfl⟩:=fZ;have K4:=an K2 k4;clear k4;go_wp2_with fail
  go_ret2
  exact⟨K4.out,rfl⟩
 ·go_enter Tryz.func126,Tryz.ntmps126
  go_wp2_with fail
  refine(C1.out _ HR.out).mono ?_;rintro e w1 ⟨rfl,r1,k1⟩;have R1:=aa r1;have K1:=aa k1;clear r1 k1;go_wp2_with fail
  refine(C1.out _ R1.out).mono ?_;rintro e w2 ⟨rfl,r2,k2⟩;have R2:=aa r2;have K2:=an K1 k2;clear r2 k2;go_wp2_with fail
  refine(C2.out _ R2.out).mono ?_;intro e w4 fZ;obtain⟨k4,k',v,rfl,hb4,r4,hr4,hl4⟩:=fZ;have K4:=an K2 k4;have R4:=aa r4;have HB:=aa hb4;have HE:=aa hr4;clear k4 r4 hb4 hr4;go_wp2_with fail
  go_ret2
  exact⟨K4.out,_,_,rfl,HB.out,R4.out,HE.out,by omega⟩
theorem ZK (b:Nat) (s:ByteArray) (k:Nat) (w:World) (h:Rd w b s k) (hk:k<s.size) (hc:s[k]=53):Calls Tryz.prog 126 #[.pointer (some ⟨b,0,none⟩)] w (bN b s k w (code 10 gB 1 3 (aR s k))):=by
 obtain⟨X,hX⟩ :∃X:ByteArray,X=s.extract k s.size:=⟨_,rfl⟩;have C1:=aa (fun W h=>az b s k W h)
 have eG:0<X.size:=by rw[hX,aD s k (by omega)];omega
 have sO:X[0]=53:=by subst hX;rw[aS s k hk eG];exact hc
 rw[←hX] at C1;have rQ:=bE X eG;have HR:=aa h;have C2:=aa (fun W h=>dQ b s k W h)
 obtain⟨o,ho⟩ :∃o,o=code 10 gB 1 3 (aR s k):=⟨_,rfl⟩;rw[←ho] at C2 ⊢;clear hX h hc ho;rcases o with _ | ⟨m,r⟩
 ·go_enter Tryz.func126,Tryz.ntmps126
  go_wp2_with fail
  refine(C1.out _ HR.out).mono ?_;rintro e w1 ⟨rfl,r1,k1⟩;have R1:=aa r1;have K1:=aa k1;clear r1 k1;go_wp2_with fail
  refine(C1.out _ R1.out).mono ?_;rintro e w2 ⟨rfl,r2,k2⟩;have R2:=aa r2;have K2:=an K1 k2;clear r2 k2;go_wp2_with fail
  refine(C2.out _ R2.out).mono ?_;intro e w4 fZ;obtain⟨k4,rfl⟩:=fZ;have K4:=an K2 k4;clear k4;go_wp2_with fail
  go_ret2
  exact⟨K4.out,rfl⟩
 ·go_enter Tryz.func126,Tryz.ntmps126
  go_wp2_with fail
  refine(C1.out _ HR.out).mono ?_;rintro e w1 ⟨rfl,r1,k1⟩;have R1:=aa r1;have K1:=aa k1;clear r1 k1;go_wp2_with fail
  refine(C1.out _ R1.out).mono ?_;rintro e w2 ⟨rfl,r2,k2⟩;have R2:=aa r2;have K2:=an K1 k2;clear r2 k2;go_wp2_with fail
  refine(C2.out _ R2.out).mono ?_;intro e w4 fZ;obtain⟨k4,k',v,rfl,hb4,r4,hr4,hl4⟩:=fZ;have K4:=an K2 k4;have R4:=aa r4;have HB:=aa hb4;have HE:=aa hr4;clear k4 r4 hb4 hr4;go_wp2_with fail
  go_ret2
  exact⟨K4.out,_,_,rfl,HB.out,R4.out,HE.out,by omega⟩
theorem ZL (b:Nat) (s:ByteArray) (k:Nat) (w:World) (h:Rd w b s k) (hk:k<s.size) (hc:s[k]=54):Calls Tryz.prog 126 #[.pointer (some ⟨b,0,none⟩)] w (bN b s k w (code 10 gB 1 3 (aR s k))):=by
 obtain⟨X,hX⟩ :∃X:ByteArray,X=s.extract k s.size:=⟨_,rfl⟩;have C1:=aa (fun W h=>az b s k W h)
 have eG:0<X.size:=by rw[hX,aD s k (by omega)];omega
 have sO:X[0]=54:=by subst hX;rw[aS s k hk eG];exact hc
 rw[←hX] at C1;have rQ:=bE X eG;have HR:=aa h;have C2:=aa (fun W h=>dQ b s k W h)
 obtain⟨o,ho⟩ :∃o,o=code 10 gB 1 3 (aR s k):=⟨_,rfl⟩;rw[←ho] at C2 ⊢;clear hX h hc ho;rcases o with _ | ⟨m,r⟩
 ·go_enter Tryz.func126,Tryz.ntmps126
  go_wp2_with fail
  refine(C1.out _ HR.out).mono ?_;rintro e w1 ⟨rfl,r1,k1⟩;have R1:=aa r1;have K1:=aa k1;clear r1 k1;go_wp2_with fail
  refine(C1.out _ R1.out).mono ?_;rintro e w2 ⟨rfl,r2,k2⟩;have R2:=aa r2;have K2:=an K1 k2;clear r2 k2;go_wp2_with fail
  refine(C2.out _ R2.out).mono ?_;intro e w4 fZ;obtain⟨k4,rfl⟩:=fZ;have K4:=an K2 k4;clear k4;go_wp2_with fail
  go_ret2
  exact⟨K4.out,rfl⟩
 ·go_enter Tryz.func126,Tryz.ntmps126
  go_wp2_with fail
  refine(C1.out _ HR.out).mono ?_;rintro e w1 ⟨rfl,r1,k1⟩;have R1:=aa r1;have K1:=aa k1;clear r1 k1;go_wp2_with fail
  refine(C1.out _ R1.out).mono ?_;rintro e w2 ⟨rfl,r2,k2⟩;have R2:=aa r2;have K2:=an K1 k2;clear r2 k2;go_wp2_with fail
  refine(C2.out _ R2.out).mono ?_;intro e w4 fZ;obtain⟨k4,k',v,rfl,hb4,r4,hr4,hl4⟩:=fZ;have K4:=an K2 k4;have R4:=aa r4;have HB:=aa hb4;have HE:=aa hr4;clear k4 r4 hb4 hr4;go_wp2_with fail
  go_ret2
  exact⟨K4.out,_,_,rfl,HB.out,R4.out,HE.out,by omega⟩
theorem ZM (b:Nat) (s:ByteArray) (k:Nat) (w:World) (h:Rd w b s k) (hk:k<s.size) (hc:s[k]=55):Calls Tryz.prog 126 #[.pointer (some ⟨b,0,none⟩)] w (bN b s k w (code 10 gB 1 3 (aR s k))):=by
 obtain⟨X,hX⟩ :∃X:ByteArray,X=s.extract k s.size:=⟨_,rfl⟩;have C1:=aa (fun W h=>az b s k W h)
 have eG:0<X.size:=by rw[hX,aD s k (by omega)];omega
 have sO:X[0]=55:=by subst hX;rw[aS s k hk eG];exact hc
 rw[←hX] at C1;have rQ:=bE X eG;have HR:=aa h;have C2:=aa (fun W h=>dQ b s k W h)
 obtain⟨o,ho⟩ :∃o,o=code 10 gB 1 3 (aR s k):=⟨_,rfl⟩;rw[←ho] at C2 ⊢;clear hX h hc ho;rcases o with _ | ⟨m,r⟩
 ·go_enter Tryz.func126,Tryz.ntmps126
  go_wp2_with fail
  refine(C1.out _ HR.out).mono ?_;rintro e w1 ⟨rfl,r1,k1⟩;have R1:=aa r1;have K1:=aa k1;clear r1 k1;go_wp2_with fail
  refine(C1.out _ R1.out).mono ?_;rintro e w2 ⟨rfl,r2,k2⟩;have R2:=aa r2;have K2:=an K1 k2;clear r2 k2;go_wp2_with fail
  refine(C2.out _ R2.out).mono ?_;intro e w4 fZ;obtain⟨k4,rfl⟩:=fZ;have K4:=an K2 k4;clear k4;go_wp2_with fail
  go_ret2
  exact⟨K4.out,rfl⟩
 ·go_enter Tryz.func126,Tryz.ntmps126
  go_wp2_with fail
  refine(C1.out _ HR.out).mono ?_;rintro e w1 ⟨rfl,r1,k1⟩;have R1:=aa r1;have K1:=aa k1;clear r1 k1;go_wp2_with fail
  refine(C1.out _ R1.out).mono ?_;rintro e w2 ⟨rfl,r2,k2⟩;have R2:=aa r2;have K2:=an K1 k2;clear r2 k2;go_wp2_with fail
  refine(C2.out _ R2.out).mono ?_;intro e w4 fZ;obtain⟨k4,k',v,rfl,hb4,r4,hr4,hl4⟩:=fZ;have K4:=an K2 k4;have R4:=aa r4;have HB:=aa hb4;have HE:=aa hr4;clear k4 r4 hb4 hr4;go_wp2_with fail
  go_ret2
  exact⟨K4.out,_,_,rfl,HB.out,R4.out,HE.out,by omega⟩
theorem ZN (b:Nat) (s:ByteArray) (k:Nat) (w:World) (h:Rd w b s k) (hk:k<s.size) (hc:s[k]=56):Calls Tryz.prog 126 #[.pointer (some ⟨b,0,none⟩)] w (bN b s k w (code 10 gB 1 3 (aR s k))):=by
 obtain⟨X,hX⟩ :∃X:ByteArray,X=s.extract k s.size:=⟨_,rfl⟩;have C1:=aa (fun W h=>az b s k W h)
 have eG:0<X.size:=by rw[hX,aD s k (by omega)];omega
 have sO:X[0]=56:=by subst hX;rw[aS s k hk eG];exact hc
 rw[←hX] at C1;have rQ:=bE X eG;have HR:=aa h;have C2:=aa (fun W h=>dQ b s k W h)
 obtain⟨o,ho⟩ :∃o,o=code 10 gB 1 3 (aR s k):=⟨_,rfl⟩;rw[←ho] at C2 ⊢;clear hX h hc ho;rcases o with _ | ⟨m,r⟩
 ·go_enter Tryz.func126,Tryz.ntmps126
  go_wp2_with fail
  refine(C1.out _ HR.out).mono ?_;rintro e w1 ⟨rfl,r1,k1⟩;have R1:=aa r1;have K1:=aa k1;clear r1 k1;go_wp2_with fail
  refine(C1.out _ R1.out).mono ?_;rintro e w2 ⟨rfl,r2,k2⟩;have R2:=aa r2;have K2:=an K1 k2;clear r2 k2;go_wp2_with fail
  refine(C2.out _ R2.out).mono ?_;intro e w4 fZ;obtain⟨k4,rfl⟩:=fZ;have K4:=an K2 k4;clear k4;go_wp2_with fail
  go_ret2
  exact⟨K4.out,rfl⟩
 ·go_enter Tryz.func126,Tryz.ntmps126
  go_wp2_with fail
  refine(C1.out _ HR.out).mono ?_;rintro e w1 ⟨rfl,r1,k1⟩;have R1:=aa r1;have K1:=aa k1;clear r1 k1;go_wp2_with fail
  refine(C1.out _ R1.out).mono ?_;rintro e w2 ⟨rfl,r2,k2⟩;have R2:=aa r2;have K2:=an K1 k2;clear r2 k2;go_wp2_with fail
  refine(C2.out _ R2.out).mono ?_;intro e w4 fZ;obtain⟨k4,k',v,rfl,hb4,r4,hr4,hl4⟩:=fZ;have K4:=an K2 k4;have R4:=aa r4;have HB:=aa hb4;have HE:=aa hr4;clear k4 r4 hb4 hr4;go_wp2_with fail
  go_ret2
  exact⟨K4.out,_,_,rfl,HB.out,R4.out,HE.out,by omega⟩
theorem ZO (b:Nat) (s:ByteArray) (k:Nat) (w:World) (h:Rd w b s k) (hk:k<s.size) (hc:s[k]=57):Calls Tryz.prog 126 #[.pointer (some ⟨b,0,none⟩)] w (bN b s k w (code 10 gB 1 3 (aR s k))):=by
 obtain⟨X,hX⟩ :∃X:ByteArray,X=s.extract k s.size:=⟨_,rfl⟩;have C1:=aa (fun W h=>az b s k W h)
 have eG:0<X.size:=by rw[hX,aD s k (by omega)];omega
 have sO:X[0]=57:=by subst hX;rw[aS s k hk eG];exact hc
 rw[←hX] at C1;have rQ:=bE X eG;have HR:=aa h;have C2:=aa (fun W h=>dQ b s k W h)
 obtain⟨o,ho⟩ :∃o,o=code 10 gB 1 3 (aR s k):=⟨_,rfl⟩;rw[←ho] at C2 ⊢;clear hX h hc ho;rcases o with _ | ⟨m,r⟩
 ·go_enter Tryz.func126,Tryz.ntmps126
  go_wp2_with fail
  refine(C1.out _ HR.out).mono ?_;rintro e w1 ⟨rfl,r1,k1⟩;have R1:=aa r1;have K1:=aa k1;clear r1 k1;go_wp2_with fail
  refine(C1.out _ R1.out).mono ?_;rintro e w2 ⟨rfl,r2,k2⟩;have R2:=aa r2;have K2:=an K1 k2;clear r2 k2;go_wp2_with fail
  refine(C2.out _ R2.out).mono ?_;intro e w4 fZ;obtain⟨k4,rfl⟩:=fZ;have K4:=an K2 k4;clear k4;go_wp2_with fail
  go_ret2
  exact⟨K4.out,rfl⟩
 ·go_enter Tryz.func126,Tryz.ntmps126
  go_wp2_with fail
  refine(C1.out _ HR.out).mono ?_;rintro e w1 ⟨rfl,r1,k1⟩;have R1:=aa r1;have K1:=aa k1;clear r1 k1;go_wp2_with fail
  refine(C1.out _ R1.out).mono ?_;rintro e w2 ⟨rfl,r2,k2⟩;have R2:=aa r2;have K2:=an K1 k2;clear r2 k2;go_wp2_with fail
  refine(C2.out _ R2.out).mono ?_;intro e w4 fZ;obtain⟨k4,k',v,rfl,hb4,r4,hr4,hl4⟩:=fZ;have K4:=an K2 k4;have R4:=aa r4;have HB:=aa hb4;have HE:=aa hr4;clear k4 r4 hb4 hr4;go_wp2_with fail
  go_ret2
  exact⟨K4.out,_,_,rfl,HB.out,R4.out,HE.out,by omega⟩
theorem Jp (b:Nat) (s:ByteArray) (k:Nat) (w:World) (h:Rd w b s k) (hk:k<s.size) (c:UInt8) (hc:s[k]=c) (hn :∀v∈[97,98,102,110,114,116,118,92,39,34,10,122,120,48,49,50,51,52,53,54,55,56,57],c.toNat≠v):Calls Tryz.prog 126 #[.pointer (some ⟨b,0,none⟩)] w (bN b s k w (none)):=by
 obtain⟨X,hX⟩ :∃X:ByteArray,X=s.extract k s.size:=⟨_,rfl⟩;have C1:=aa (fun W h=>az b s k W h)
 have eG:0<X.size:=by rw[hX,aD s k (by omega)];omega
 have sO:X[0]=c:=by subst hX;rw[aS s k hk eG];exact hc
 rw[←hX] at C1;have rQ:=bE X eG;have HR:=aa h;have g97:((c.toNat:Int) == 97)=false:=aC.2 (by have:=hn 97 (by decide);omega)
 have g98:((c.toNat:Int) == 98)=false:=aC.2 (by have:=hn 98 (by decide);omega)
 have g102:((c.toNat:Int) == 102)=false:=aC.2 (by have:=hn 102 (by decide);omega)
 have g110:((c.toNat:Int) == 110)=false:=aC.2 (by have:=hn 110 (by decide);omega)
 have g114:((c.toNat:Int) == 114)=false:=aC.2 (by have:=hn 114 (by decide);omega)
 have g116:((c.toNat:Int) == 116)=false:=aC.2 (by have:=hn 116 (by decide);omega)
 have g118:((c.toNat:Int) == 118)=false:=aC.2 (by have:=hn 118 (by decide);omega)
 have g92:((c.toNat:Int) == 92)=false:=aC.2 (by have:=hn 92 (by decide);omega)
 have g39:((c.toNat:Int) == 39)=false:=aC.2 (by have:=hn 39 (by decide);omega)
 have g34:((c.toNat:Int) == 34)=false:=aC.2 (by have:=hn 34 (by decide);omega)
 have g10:((c.toNat:Int) == 10)=false:=aC.2 (by have:=hn 10 (by decide);omega)
 have g122:((c.toNat:Int) == 122)=false:=aC.2 (by have:=hn 122 (by decide);omega)
 have g120:((c.toNat:Int) == 120)=false:=aC.2 (by have:=hn 120 (by decide);omega)
 have g48:((c.toNat:Int) == 48)=false:=aC.2 (by have:=hn 48 (by decide);omega)
 have g49:((c.toNat:Int) == 49)=false:=aC.2 (by have:=hn 49 (by decide);omega)
 have g50:((c.toNat:Int) == 50)=false:=aC.2 (by have:=hn 50 (by decide);omega)
 have g51:((c.toNat:Int) == 51)=false:=aC.2 (by have:=hn 51 (by decide);omega)
 have g52:((c.toNat:Int) == 52)=false:=aC.2 (by have:=hn 52 (by decide);omega)
 have g53:((c.toNat:Int) == 53)=false:=aC.2 (by have:=hn 53 (by decide);omega)
 have g54:((c.toNat:Int) == 54)=false:=aC.2 (by have:=hn 54 (by decide);omega)
 have g55:((c.toNat:Int) == 55)=false:=aC.2 (by have:=hn 55 (by decide);omega)
 have g56:((c.toNat:Int) == 56)=false:=aC.2 (by have:=hn 56 (by decide);omega)
 have g57:((c.toNat:Int) == 57)=false:=aC.2 (by have:=hn 57 (by decide);omega)
 clear hX h hc hn;go_enter Tryz.func126,Tryz.ntmps126
 go_wp2_with fail
 refine(C1.out _ HR.out).mono ?_;rintro e w1 ⟨rfl,r1,k1⟩;have R1:=aa r1;have K1:=aa k1;clear r1 k1;go_wp2_with fail
 refine(C1.out _ R1.out).mono ?_;rintro e w2 ⟨rfl,r2,k2⟩;have R2:=aa r2;have K2:=an K1 k2;clear r2 k2;go_wp2_with fail
 go_ret2
 exact⟨K2.out,rfl⟩
theorem dE (c:UInt8) (r:List UInt8):pQ (c::r)=pC c r:=rfl
theorem Cc (b:Nat) (s:ByteArray) (k:Nat) (w:World) (h:Rd w b s k):Calls Tryz.prog 126 #[.pointer (some ⟨b,0,none⟩)] w (bN b s k w (pQ (aR s k))):=by
 by_cases hk:k=s.size
 ·exact OS b s k w h hk
 ·have hk:k<s.size:=by have:=h.le;omega
  have hs:=iO s k hk;have ads:=Zz b s k w h hk;have adt:=ZA b s k w h hk;have abF:=TU b s k w h hk;have abG:=TV b s k w h hk;have abH:=TW b s k w h hk;have abI:=TX b s k w h hk;have abJ:=TY b s k w h hk;have adu:=ZB b s k w h hk;have adv:=ZC b s k w h hk;have adw:=ZD b s k w h hk;have adx:=ZE b s k w h hk;have abK:=TZ b s k w h hk;have abL:=T3 b s k w h hk;have ady:=ZF b s k w h hk;have adz:=ZG b s k w h hk;have adA:=ZH b s k w h hk;have adB:=ZI b s k w h hk;have adC:=ZJ b s k w h hk;have adD:=ZK b s k w h hk;have adE:=ZL b s k w h hk;have adF:=ZM b s k w h hk;have adG:=ZN b s k w h hk;have adH:=ZO b s k w h hk;have other:=Jp b s k w h hk s[k] rfl;generalize s[k]=c at *;have oX :∀c':UInt8,wk c'=none→qI c'=false→c'.toNat≠122→c'.toNat≠120→gB c'=true→c=c'→pQ (aR s k)=code 10 gB 1 3 (aR s k):=fun c' a1 a2 a3 a4 a5 e=>by
   rw[hs,e];exact(dE _ _).trans (Ol _ a1 a2 a3 a4 a5)
  have jW :∀v:UInt8,c.toNat=v.toNat→c=v:=fun v h=>zT.1 h
  by_cases e:c.toNat=97
  ·rw[hs,jW 97 e,show pQ (97::aR s (k+1))=some ([7],aR s (k+1)) from(dE _ _).trans (gr _ (by decide))];exact ads (jW 97 e)
  by_cases e:c.toNat=98
  ·rw[hs,jW 98 e,show pQ (98::aR s (k+1))=some ([8],aR s (k+1)) from(dE _ _).trans (gr _ (by decide))];exact adt (jW 98 e)
  by_cases e:c.toNat=102
  ·rw[hs,jW 102 e,show pQ (102::aR s (k+1))=some ([12],aR s (k+1)) from(dE _ _).trans (gr _ (by decide))];exact abF (jW 102 e)
  by_cases e:c.toNat=110
  ·rw[hs,jW 110 e,show pQ (110::aR s (k+1))=some ([10],aR s (k+1)) from(dE _ _).trans (gr _ (by decide))];exact abG (jW 110 e)
  by_cases e:c.toNat=114
  ·rw[hs,jW 114 e,show pQ (114::aR s (k+1))=some ([13],aR s (k+1)) from(dE _ _).trans (gr _ (by decide))];exact abH (jW 114 e)
  by_cases e:c.toNat=116
  ·rw[hs,jW 116 e,show pQ (116::aR s (k+1))=some ([9],aR s (k+1)) from(dE _ _).trans (gr _ (by decide))];exact abI (jW 116 e)
  by_cases e:c.toNat=118
  ·rw[hs,jW 118 e,show pQ (118::aR s (k+1))=some ([11],aR s (k+1)) from(dE _ _).trans (gr _ (by decide))];exact abJ (jW 118 e)
  by_cases e:c.toNat=92
  ·rw[hs,jW 92 e,show pQ (92::aR s (k+1))=some ([92],aR s (k+1)) from(dE _ _).trans (lx _ (by decide) (by decide))];exact adu (jW 92 e)
  by_cases e:c.toNat=39
  ·rw[hs,jW 39 e,show pQ (39::aR s (k+1))=some ([39],aR s (k+1)) from(dE _ _).trans (lx _ (by decide) (by decide))];exact adv (jW 39 e)
  by_cases e:c.toNat=34
  ·rw[hs,jW 34 e,show pQ (34::aR s (k+1))=some ([34],aR s (k+1)) from(dE _ _).trans (lx _ (by decide) (by decide))];exact adw (jW 34 e)
  by_cases e:c.toNat=10
  ·rw[hs,jW 10 e,show pQ (10::aR s (k+1))=some ([10],aR s (k+1)) from(dE _ _).trans (lx _ (by decide) (by decide))];exact adx (jW 10 e)
  by_cases e:c.toNat=122
  ·rw[hs,jW 122 e,show pQ (122::aR s (k+1))=some ([],(aR s (k+1)).dropWhile pB) from(dE _ _).trans (Oj _ (by decide) (by decide) (by decide))];exact abK (jW 122 e)
  by_cases e:c.toNat=120
  ·rw[hs,jW 120 e,show pQ (120::aR s (k+1))=code 16 zD 2 2 (aR s (k+1)) from(dE _ _).trans (Ok _ (by decide) (by decide) (by decide))];exact abL (jW 120 e)
  by_cases e:c.toNat=48
  ·rw[oX 48 (by decide) (by decide) (by decide) (by decide) (by decide) (jW 48 e)];exact ady (jW 48 e)
  by_cases e:c.toNat=49
  ·rw[oX 49 (by decide) (by decide) (by decide) (by decide) (by decide) (jW 49 e)];exact adz (jW 49 e)
  by_cases e:c.toNat=50
  ·rw[oX 50 (by decide) (by decide) (by decide) (by decide) (by decide) (jW 50 e)];exact adA (jW 50 e)
  by_cases e:c.toNat=51
  ·rw[oX 51 (by decide) (by decide) (by decide) (by decide) (by decide) (jW 51 e)];exact adB (jW 51 e)
  by_cases e:c.toNat=52
  ·rw[oX 52 (by decide) (by decide) (by decide) (by decide) (by decide) (jW 52 e)];exact adC (jW 52 e)
  by_cases e:c.toNat=53
  ·rw[oX 53 (by decide) (by decide) (by decide) (by decide) (by decide) (jW 53 e)];exact adD (jW 53 e)
  by_cases e:c.toNat=54
  ·rw[oX 54 (by decide) (by decide) (by decide) (by decide) (by decide) (jW 54 e)];exact adE (jW 54 e)
  by_cases e:c.toNat=55
  ·rw[oX 55 (by decide) (by decide) (by decide) (by decide) (by decide) (jW 55 e)];exact adF (jW 55 e)
  by_cases e:c.toNat=56
  ·rw[oX 56 (by decide) (by decide) (by decide) (by decide) (by decide) (jW 56 e)];exact adG (jW 56 e)
  by_cases e:c.toNat=57
  ·rw[oX 57 (by decide) (by decide) (by decide) (by decide) (by decide) (jW 57 e)];exact adH (jW 57 e)
  have hno:pQ (aR s k)=none:=by
   rw[hs,dE];refine Gi _ ?_ ?_ (by assumption) (by assumption) ?_
   ·unfold wk;simp[*]
   ·unfold qI;simp[*]
   ·unfold gB;rw[zL];omega
  rw[hno];refine other ?_;intro v hv;simp only[bc,oI,oM] at hv;rcases hv with rfl|rfl|rfl|rfl|rfl|rfl|rfl|rfl|rfl|rfl|rfl|rfl|rfl|rfl|rfl|rfl|rfl|rfl|rfl|rfl|rfl|rfl|rfl<;>assumption
def nL (l:List UInt8):List Value:=l.map fun b=>Value.int .u8 (b.toNat:Int)
theorem D0 (a b:List UInt8):nL (a++b)=nL a++nL b:=by simp[nL]
def rR (W:World) (B:Nat) (v:Value) (l:List UInt8):Prop:=W.ownsRow B 5 1 v l.length (nL l)
theorem rR.nil (W:World) (B:Nat):rR W B (.slice none 0 0) []:=World.ownsRow_nil W B 5 1
theorem T6 {W:World} {B e n size:Nat} {v:Value} {xs:List Value} (h:W.ownsRow B e size v n xs) :∀k,v.ownBlock=some k→B≤k:=fun k hk=>(h.lt k hk).1
theorem rR.kp {b B:Nat} {W W':World} {v:Value} {l:List UInt8} (h:rR W B v l) (hk:Kp b W W') (hb:b<B):rR W' B v l:=by
 refine World.ownsRow.kept h hk ?_;rcases h.2 with ⟨rfl,_⟩ | ⟨g,_,_,rfl,hg,_⟩
 ·left;rfl
 ·right
  intro e;have:g=b:=by simpa[Value.ownBlock] using e
  omega
theorem abM:(Tryz.prog.info? 5).map (fun i=>(i.zero,i.size,i.bytes))=some (some (.int .u8 0),1,1):=by kernel_rfl
theorem OT {ops:Array Oper} {rest:List Oper} {o:Oper} {a:Act} {Q:Exit→Act→World→Prop} (w:World) (hgd:o.guard=none) (sl x:Operand)
  (ho:o.op=.call { callee:=.builtin .append,args:=#[sl,x],argTypes:=#[208,208]}) (B:Nat) (v:Value) (l:List UInt8) (hs:a.eval sl=v) (hown:rR w B v l) (y:Value) (hx:a.eval x=y) (m:List UInt8) (hm:Bts w y m)
  (hlen:l.length≤1000000) (hB:B≤w.heap.size)
  (h :∀v' w',rR w' B v' (l++m)→Below B w w'→wpList Tryz.prog ops Q rest (a.put o.dst v') w'):wpList Tryz.prog ops Q (o::rest) a w:=by
 obtain⟨i0,mJ,hz0,hz1,hz2⟩:=info_parts abM;rcases hm with ⟨rfl,rfl⟩ | ⟨g,u,rfl,rfl,hc⟩
 ·refine wpList_plain hgd fun _ hK=>?_
  have hr:=run_append_owned_none (P:=Tryz.prog) (w:=w) B 208 o.type 5 i0 1 Tryz.underlying208 mJ v l.length (nL l) hown;unfold Oper.wp execOp;simp only[ho,resolve,invoke,builtin,Sem.run_bind,Sem.run_pure,Result.andThen_ok,Ln,dV,EZ,hs,hx,hr];exact hK _ _ (h v w (by rw[gh];exact hown) (Below.refl _ _))
 ·refine wpList_append_own (P:=Tryz.prog) _ hgd sl x 208 ho B 5 i0 (.int .u8 0) 1 1 Tryz.underlying208 mJ hz0 hz1 hz2 rfl (by omega) v l.length (nL l) hs hown ⟨g,0,none⟩ 1 1 [.int .u8 (u.toNat:Int)] hx rfl
   (fun j q hj=>by
    cases j with
    | zero=>obtain rfl:=gW hj;exact hc
    | succ j=>simp at hj) (fun q hq=>by obtain rfl:=bK.1 hq;rfl) (by unfold maxLen;omega) (by omega) hB ?_
  intro v' w' h1 h2 _;refine h v' w' ?_ ((Below.refl _ _).grown h2 hB (T6 hown));unfold rR;rw[bY,D0];exact h1
theorem D1 {W:World} {B:Nat} {v:Value} {l:List UInt8} (h:rR W B v l):(convert 208 9 v).run Tryz.prog W=.ok (.string ⟨l.toArray⟩) W:=by
 rcases h.2 with ⟨rfl,h0⟩ | ⟨g,cap,cur,rfl,_⟩
 ·obtain rfl:l=[]:=oG h0
  exact run_convert_bytes_nil W 208 5 Tryz.underlying208 Tryz.underlying5 0 0 9 Tryz.underlying9
 ·exact run_convert_bytes_back (P:=Tryz.prog) W 208 9 5 ⟨g,0,none⟩ cap l Tryz.underlying208 Tryz.underlying5 Tryz.underlying9 (fun j hj=>by
   have hc:=World.ownsRow.cells h (g:=g) rfl j (.int .u8 (l[j].toNat:Int)) (by simp[nL,hj])
   exact hc)
theorem Kp.below {b:Nat} {w0 w w':World} (h:Kp b w0 w) (k:Below w0.heap.size w w'):Kp b w0 w' :=
 ⟨k.os.trans h.os,k.tape.trans h.tape,k.output.trans h.output,aL h.size k.size,fun i hi hne=>(k.block i hi).trans (h.block i hi hne)⟩
theorem Rd.y7 {W W':World} {B b:Nat} {s:ByteArray} {k:Nat} (h:Rd W b s k) (hb:Below B W W') (hB:b<B):Rd W' b s k:=by
 have hf:=h.far;obtain⟨m,hm⟩:=h.mx;exact⟨(hb.block b hB).trans h.blk,h.le,h.top,h.far,m,(hb.cell (p:=⟨1,0,none⟩) (by show 1<B;omega)).trans hm⟩
def T7 (q:UInt8) (b:Nat) (s:ByteArray) (k:Nat) (w:World) (e:Ending) (w':World):Prop:=∃o,yV q (aR s (k+1)) o∧jM b s k w o e w'
theorem map_nil (o:Option (List UInt8×List UInt8)):o.map (fun x=>([]++x.1,x.2))=o:=by cases o<;>rfl
theorem Gn (o:Option (List UInt8×List UInt8)) (out m:List UInt8):(o.map fun x=>(m++x.1,x.2)).map (fun x=>(out++x.1,x.2))=o.map fun x=>((out++m)++x.1,x.2):=by
 cases o<;>simp
theorem OU (s:ByteArray) (k:Nat) (h:k<s.size) (X:ByteArray) (hX:X=s.extract k (k+1)) (h':0<X.size):X[0]=s[k]:=by
 subst hX;rw[ByteArray.getElem_extract];simp
theorem OV (s:ByteArray) (k:Nat) (h:k<s.size):(s.extract k (k+1)).size=1:=by rw[tW];omega
theorem take_one (b:Nat) (s:ByteArray) (k:Nat) (hk:k<s.size) :∃X:ByteArray,∃hX:0<X.size,X[0]=s[k]∧∀W,Rd W b s k→Calls Tryz.prog 81 #[.pointer (some ⟨b,0,none⟩),.int .i64 1] W fun e w'=>e=.returned (.string X)∧Rd w' b s (k+1)∧Kp b W w':=by
 have hs:=OV s k hk;exact⟨s.extract k (k+1),by omega,OU s k hk _ rfl (by omega),fun W h=>bt b s k 1 W h (by omega)⟩
theorem rR.form {W:World} {B:Nat} {v:Value} {l:List UInt8} (h:rR W B v l) :∃A c,v=.slice A l.length c:=by
 rcases h.2 with ⟨rfl,h0⟩ | ⟨g,cap,_,rfl,_⟩
 ·exact⟨none,0,by rw[h0]⟩
 ·exact⟨_,_,rfl⟩
theorem D3 (b:Nat) (s:ByteArray) (k:Nat) (w:World) (h:Rd w b s k) (hk:k<s.size) (q:UInt8) (hq:s[k]=q) (adI:q≠10) (abN:q≠92) :
  Calls Tryz.prog 93 #[.pointer (some ⟨b,0,none⟩)] w (T7 q b s k w):=by
 have cw:=h.top;have iP:=h.lt;have HR:=aa h;obtain⟨X,eG,sO,hT⟩:=take_one b s k hk;rw[hq] at sO;have T1:=aa hT;clear h hT hq;go_enter Tryz.func93,Tryz.ntmps93
 go_wp2_with fail
 refine(T1.out _ HR.out).mono ?_;rintro e w1 ⟨rfl,r1,k1⟩;have R1:=aa r1;have K1:=aa k1;clear r1 k1;go_wp2_with fail
 clear sO eG;go_loopg [5] s.size (fun z tv wr=>∃(k1:Nat) (out:List UInt8),Rd wr b s k1∧k<k1∧s.size-k1≤z∧Kp b w wr∧rR wr w.heap.size tv out∧out.length+k≤k1∧∀o,yV q (aR s k1) o→yV q (aR s (k+1)) (o.map fun x=>(out++x.1,x.2)))
 case atStart=>exact⟨k+1,[],R1.out,by omega,by omega,K1.out,rR.nil _ _,by simp,fun o h=>by rw[map_nil];exact h⟩
 case round =>
  obtain⟨k1,out,hr,hlt,hz,TQ,abO,sZ,abP⟩:=hrel;have TR:=hr.le;have R0:=aa hr;have K0:=aa TQ;have HB:=aa abO;have HQ:=aa abP;have hsz0:=TQ.size;clear hr TQ abO abP;obtain⟨Y,hY⟩ :∃Y:ByteArray,Y=s.extract k1 s.size:=⟨_,rfl⟩;have C1:=aa (fun W h=>az b s k1 W h)
  rw[←hY] at C1;have vS:Y.size=s.size-k1:=by rw[hY,aD s k1 TR]
  clear hY;by_cases hend:k1=s.size
  ·have WZ:=vj Y (by omega)
   have hs0:=tM s k1 (by omega)
   have HE:=aa hs0;clear hs0 vS;go_wp2_with fail
   refine(C1.out _ R0.out).mono ?_;rintro e w2 ⟨rfl,r2,k2⟩;have K2:=an K0 k2;clear r2 k2;go_wp2_with fail
   go_ret2
   exact⟨none,HQ.out none (by rw[HE.out];exact .none),K2.out,rfl⟩
  ·have iR:k1<s.size:=by omega
   have WZ:=bE Y (by omega)
   have cH:=iO s k1 iR;obtain⟨Z,hZs,hZ0,hT⟩:=take_one b s k1 iR;have T2:=aa hT;obtain⟨c,hc⟩ :∃c:UInt8,c=s[k1]:=⟨_,rfl⟩;rw[←hc] at hZ0 cH;have HC:=aa cH;clear vS hT hc cH;have C9:=c.toNat_lt;have hql:=q.toNat_lt;obtain⟨A1,c1,rfl⟩:=HB.out.form;by_cases hcq:c=q
   ·subst hcq
    go_wp2_with fail
    refine(C1.out _ R0.out).mono ?_;rintro e w2 ⟨rfl,r2,k2⟩;have R2:=aa r2;have K2:=an K0 k2;have B2:=aa (HB.out.kp k2 iP);clear r2 k2;go_wp2_with fail
    refine(T2.out _ R2.out).mono ?_;rintro e w3 ⟨rfl,r3,k3⟩;have R3:=aa r3;have K3:=an K2 k3;have B3:=aa (B2.out.kp k3 iP);clear r3 k3;have hcv:=D1 B3.out;go_wp2_with fail
    go_ret2
    refine⟨some (out,aR s (k1+1)),?_,K3.out,_,rfl,R3.out,rfl,by omega⟩
    have:=HQ.out (some ([],aR s (k1+1))) (by rw[HC.out];exact .shut)
    simpa using this
   ·have hcqn:c.toNat≠q.toNat:=fun e=>hcq (zT.1 e)
    by_cases ZP:c=10
    ·subst ZP
     have g1:((10:Int) == (q.toNat:Int))=false:=aC.2 (by have:(10:UInt8).toNat=10:=rfl;omega)
     go_wp2_with fail
     refine(C1.out _ R0.out).mono ?_;rintro e w2 ⟨rfl,r2,k2⟩;have R2:=aa r2;have K2:=an K0 k2;have B2:=aa (HB.out.kp k2 iP);clear r2 k2;go_wp2_with fail
     refine(T2.out _ R2.out).mono ?_;rintro e w3 ⟨rfl,r3,k3⟩;have R3:=aa r3;have K3:=an K2 k3;have B3:=aa (B2.out.kp k3 iP);clear r3 k3;go_wp2_with fail
     go_ret2
     exact⟨none,HQ.out none (by rw[HC.out];exact .line adI),K3.out,rfl⟩
    ·by_cases ZQ:c=92
     ·subst ZQ
      have g1:((92:Int) == (q.toNat:Int))=false:=aC.2 (by have:(92:UInt8).toNat=92:=rfl;omega)
      have E1:=aa (fun W h=>Cc b s (k1+1) W h)
      cases hes:pQ (aR s (k1+1)) with
      | none =>
       rw[hes] at E1;have HES:=aa hes;clear hes;go_wp2_with fail
       refine(C1.out _ R0.out).mono ?_;rintro e w2 ⟨rfl,r2,k2⟩;have R2:=aa r2;have K2:=an K0 k2;have B2:=aa (HB.out.kp k2 iP);clear r2 k2;go_wp2_with fail
       refine(T2.out _ R2.out).mono ?_;rintro e w3 ⟨rfl,r3,k3⟩;have R3:=aa r3;have K3:=an K2 k3;have B3:=aa (B2.out.kp k3 iP);clear r3 k3;go_wp2_with fail
       refine(E1.out _ R3.out).mono ?_;intro e w4 fZ;obtain⟨k4,rfl⟩:=fZ;have K4:=an K3 k4;clear k4;go_wp2_with fail
       go_ret2
       exact⟨none,HQ.out none (by rw[HC.out];exact .bad abN HES.out),K4.out,rfl⟩
      | some z =>
       obtain⟨m,r⟩:=z;rw[hes] at E1;have HES:=aa hes;clear hes;go_wp2_with fail
       refine(C1.out _ R0.out).mono ?_;rintro e w2 ⟨rfl,r2,k2⟩;have R2:=aa r2;have K2:=an K0 k2;have B2:=aa (HB.out.kp k2 iP);clear r2 k2;go_wp2_with fail
       refine(T2.out _ R2.out).mono ?_;rintro e w3 ⟨rfl,r3,k3⟩;have R3:=aa r3;have K3:=an K2 k3;have B3:=aa (B2.out.kp k3 iP);clear r3 k3;go_wp2_with fail
       refine(E1.out _ R3.out).mono ?_;intro e w4 fZ;obtain⟨k4,k',v,rfl,hb4,r4,hr4,hl4⟩:=fZ;have K4:=an K3 k4;have R4:=aa r4;have B4:=aa (B3.out.kp k4 iP);have HE:=aa hr4;have yn:m.length≤1:=by
        rcases hb4 with ⟨_,rfl⟩ | ⟨_,_,rfl,_⟩<;>simp
       have HBT:=aa hb4;have adJ:=K4.out.size;clear k4 r4 hb4 hr4;have aet:=R4.out.le;go_wp2_with (at_builtin;refine OT _ rfl _ _ rfl w.heap.size _ out rfl B4.out _ rfl m HBT.out (by omega) adJ ?_;intro v5 w5 zA jm)
       go_roundg (s.size-k')
       case measure=>omega
       case rel=>exact⟨k',out++m,R4.out.y7 jm iP,by omega,ah _,K4.out.below jm,zA,by rw[bY];omega,fun o ho=>by
        have:=HQ.out _ (by rw[HC.out];exact .pQ abN HES.out (HE.out▸ho))
        rwa[Gn] at this⟩
     ·have g1:((c.toNat:Int) == (q.toNat:Int))=false:=aC.2 (by omega)
      have g2:((c.toNat:Int) == 10)=false:=aC.2 (fun e=>ZP (zT.1 (by show c.toNat=10;omega)))
      have g3:((c.toNat:Int) == 92)=false:=aC.2 (fun e=>ZQ (zT.1 (by show c.toNat=92;omega)))
      go_wp2_with fail
      refine(C1.out _ R0.out).mono ?_;rintro e w2 ⟨rfl,r2,k2⟩;have R2:=aa r2;have K2:=an K0 k2;have B2:=aa (HB.out.kp k2 iP);clear r2 k2;go_wp2_with fail
      refine(T2.out _ R2.out).mono ?_;rintro e w3 ⟨rfl,r3,k3⟩;have R3:=aa r3;have K3:=an K2 k3;have B3:=aa (B2.out.kp k3 iP);clear r3 k3;have hsz3:=K3.out.size;go_wp2_with (at_builtin;refine OT _ rfl _ _ rfl w.heap.size _ out rfl (World.ownsRow.alloc B3.out _) _ rfl [c] (dN _ _ _ rfl) (by omega) (by simp;omega) ?_;intro v5 w5 zA jm)
      go_roundg (s.size-(k1+1))
      case measure=>omega
      case rel=>exact⟨k1+1,out++[c],(R3.out.alloc _).y7 jm iP,by omega,ah _,(K3.out.alloc _).below jm,zA,by rw[bY];simp;omega,fun o ho=>by
       have:=HQ.out _ (by rw[HC.out];exact .byte hcq ZP ZQ ho)
       rw[show(o.map fun x=>(c::x.1,x.2))=o.map fun x=>([c]++x.1,x.2) from rfl,Gn] at this
       exact this⟩
theorem OW (s:ByteArray) (w:World):Calls Tryz.prog 113 #[.string s] w fun e w'=>e=.returned (.bool (qH s.data.toList))∧w=w':=by
 rw[←Lib.toList_data];go_enter Tryz.func113,Tryz.ntmps113
 go_wp2
 all_goals first
  | (go_ret;rename_i ha hb;rw[ha] at hb;cases hb;done)
  | (go_ret;exact⟨iN (by simp only[qH,keys,Lh,Ll,Bool.or_false,Bool.true_or,Bool.or_true, *]),rfl⟩)
theorem D4 (s:ByteArray) (w:World):Calls Tryz.prog 130 #[.string s] w fun e w'=>e=.returned (.bool (nG s.data.toList))∧w=w':=by
 rw[←Lib.toList_data];go_enter Tryz.func130,Tryz.ntmps130
 go_wp2
 all_goals first
  | (go_ret;rename_i ha hb;rw[ha] at hb;cases hb;done)
  | (go_ret;exact⟨iN (by simp only[nG,signs,Lh,Ll,Bool.or_false,Bool.true_or,Bool.or_true, *]),rfl⟩)
theorem Cd (l:List UInt8) (i:Nat):l.take i=l.take (min i l.length):=by
 by_cases h:i≤l.length
 ·rw[zS h]
 ·rw[Nat.min_eq_right (by omega),tV (by omega),tV (ah _)]
theorem OX:nG []=false:=by decide
theorem OY {l:List UInt8} {j i:Nat} (h :∀m,j<m→m≤min 3 l.length→nG (l.take m)=false) (hi:i≤3) (hj:j<min i l.length):nG (l.take i)=false:=by
 rw[Cd];exact h _ hj (by omega)
theorem Jq {l:List UInt8} (h :∀m,0<m→m≤min 3 l.length→nG (l.take m)=false):sign l=none:=by
 have h' :∀i,i≤3→nG (l.take i)=false:=fun i hi=>by
  by_cases h0:0<min i l.length
  ·exact OY h hi h0
  ·rw[Cd,show min i l.length=0 by omega]
   exact OX
 unfold sign;rw[h' 3 (by omega),h' 2 (by omega),h' 1 (by omega)]
 rfl
theorem Jr {l:List UInt8} {j:Nat} (h :∀m,j<m→m≤min 3 l.length→nG (l.take m)=false) (h0:0<j) (hj:j≤min 3 l.length) (hs:nG (l.take j)=true):sign l=some (l.take j,l.drop j):=by
 have big :∀i,j<i→i≤3→nG (l.take i)=true→l.take i=l.take j∧l.drop i=l.drop j:=fun i h1 h2 h3=>by
  by_cases hl:j<l.length
  ·rw[OY h h2 (by omega)] at h3
   cases h3
  ·have e:l.length=j:=by omega
   rw[tV (by omega),tV (by omega),K9 (by omega),K9 (by omega)]
   exact⟨rfl,rfl⟩
 unfold sign;cases e3:nG (l.take 3)
 ·cases e2:nG (l.take 2)
  ·have:j=1:=by
    rcases(show j=1∨j=2∨j=3 by omega) with rfl|rfl|rfl
    ·rfl
    ·rw[hs] at e2;cases e2
    ·rw[hs] at e3;cases e3
   subst this;rw[hs];rfl
  ·by_cases h2:j=2
   ·subst h2;rfl
   ·by_cases h3:j=3
    ·subst h3;rw[hs] at e3;cases e3
    ·obtain⟨a,b⟩:=big 2 (by omega) (by omega) e2
     simp only[Li,if_false,if_true];rw[a,b]
 ·by_cases h3:j=3
  ·subst h3;rfl
  ·obtain⟨a,b⟩:=big 3 (by omega) (by omega) e3
   simp only[if_true];rw[a,b]
theorem OZ (b:Nat) (s:ByteArray) (k:Nat) (w:World) (h:Rd w b s k):Calls Tryz.prog 96 #[.pointer (some ⟨b,0,none⟩)] w (jM b s k w (sign (aR s k))):=by
 have cw:=h.top;have hle:=h.le;have HR:=aa h;clear h;obtain⟨Y,hY⟩ :∃Y:ByteArray,Y=s.extract k s.size:=⟨_,rfl⟩;have C1:=aa (fun W h=>az b s k W h)
 rw[←hY] at C1;have vS:Y.size=s.size-k:=by rw[hY,aD s k hle]
 have T9:Y.data.toList=aR s k:=by rw[hY,dj]
 have HYl:=aa T9;have S1:=aa (fun(n:Nat) W=>D4 (Y.extract 0 n) W)
 obtain⟨M,hM⟩ :∃M:Nat,M=min 3 Y.size:=⟨_,rfl⟩;have hMi:min (3:Int) (Y.size:Int)=(M:Int):=by omega
 have hMl:M≤Y.size:=by omega
 have hM3:M≤3:=by omega
 have abQ:M=min 3 (aR s k).length:=by rw[hM,←T9,←Lib.size_eq]
 have ZR:=aa abQ;have hYk:k+Y.size≤s.size:=by omega
 clear hY vS T9 hM abQ;go_enter Tryz.func96,Tryz.ntmps96
 go_wp2_with fail
 refine(C1.out _ HR.out).mono ?_;rintro e w1 ⟨rfl,r1,k1⟩;have R1:=aa r1;have K1:=aa k1;clear r1 k1;go_wp2_with fail
 clear hMi;go_loop [5] (fun i=>∃n:Nat,n≤M∧i=.int .i64 n∧∀m,n<m→m≤M→nG ((aR s k).take m)=false) (fun i=>(intOf i).toNat)
 case atStart=>exact⟨M,ah _,rfl,fun m h1 h2=>by omega⟩
 case round =>
  obtain⟨n,hn,rfl,hall⟩:=hrel;have HA:=aa hall;clear hall;by_cases rP:0<n
  ·have Gp:(Y.extract 0 n).data.toList=(aR s k).take n:=by
    rw[←HYl.out,KZ];simp
   have S2:=aa (fun W=>S1.out n W)
   cases e:nG ((aR s k).take n)
   ·rw[Gp,e] at S2
    have HE:=aa e;clear e Gp;go_wp2_with (go_at_call 130;refine(S2.out _).mono ?_;rintro e w' ⟨rfl,rfl⟩)
    go_round
    case rel=>exact⟨n-1,by omega,by go_num,fun m h1 h2=>by
     by_cases hm:m=n
     ·rw[hm];exact HE.out
     ·exact HA.out m (by omega) h2⟩
    case measure=>simp[intOf];omega
   ·rw[Gp,e] at S2
    have HS:=aa (Jr (l:=aR s k) (j:=n) (by rw[←ZR.out];exact HA.out) rP (by rw[←ZR.out];exact hn) e)
    have T1:=aa (fun W h=>bt b s k n W h (by omega))
    clear e Gp;go_wp2_with (first
     | (go_at_call 130;refine(S2.out _).mono ?_;rintro e w' ⟨rfl,rfl⟩)
     | (go_at_call 81;refine(T1.out _ R1.out).mono ?_;rintro e w2 ⟨rfl,r2,k2⟩))
    go_ret2
    refine⟨K1.out.trans k2,?_⟩;rw[HS.out];exact⟨k+n,by rw[←fg];rfl,r2,by rw[fe],by omega⟩
  ·have hn0:n=0:=by omega
   have HS:=aa (Jq (l:=aR s k) (by rw[←ZR.out,←hn0];exact HA.out))
   subst hn0;go_wp2_with fail
   go_ret2
   refine⟨K1.out,?_⟩;rw[HS.out];rfl
theorem Js (b:Nat) (s:ByteArray) (k:Nat) (w:World) (h:Rd w b s k):Calls Tryz.prog 88 #[.pointer (some ⟨b,0,none⟩)] w fun e w' =>
  e=.returned (.tuple #[.int .i64 (if qH ((aR s k).takeWhile nC) then 2 else 1),.string ⟨((aR s k).takeWhile nC).toArray⟩])∧Rd w' b s (k+runN nC (aR s k))∧Kp b w w':=by
 have cw:=h.top;have hle:=h.le;have HR:=aa h;clear h;obtain⟨m,hm⟩ :∃m:Nat,m=runN nC (aR s k):=⟨_,rfl⟩;have C1:=aa (fun W=>OJ (s.extract k s.size) W (by rw[aD s _ hle];omega))
 rw[dj,←hm] at C1;have yn:=ig nC (aR s k);rw[fS,←hm] at yn;rw[←hm];obtain⟨X,hX⟩ :∃X:ByteArray,X=⟨((aR s k).takeWhile nC).toArray⟩:=⟨_,rfl⟩;have rQ:s.extract k (k+m)=X:=by
  rw[hX];apply TN;rw[fg,hm,qF]
 have T1:=aa (fun W h=>bt b s k m W h (by omega))
 rw[rQ] at T1;have W1:=aa (fun W=>OW X W)
 rw[show X.data.toList=(aR s k).takeWhile nC by rw[hX]] at W1
 rw[←hX];obtain⟨o,ho⟩ :∃o:Bool,o=qH ((aR s k).takeWhile nC):=⟨_,rfl⟩;rw[←ho] at W1 ⊢;clear hm hX rQ ho;cases o
 ·go_enter Tryz.func88,Tryz.ntmps88
  go_wp2_with fail
  refine(az _ _ _ _ HR.out).mono ?_;rintro e w1 ⟨rfl,r1,k1⟩;have R1:=aa r1;have K1:=aa k1;clear r1 k1;go_wp2_with fail
  refine(C1.out _).mono ?_;rintro e CZ ⟨rfl,rfl⟩;go_wp2_with fail
  refine(T1.out _ R1.out).mono ?_;rintro e w2 ⟨rfl,r2,k2⟩;have R2:=aa r2;have K2:=an K1 k2;clear r2 k2;go_wp2_with (go_at_call 113;refine(W1.out _).mono ?_;rintro e w' ⟨rfl,rfl⟩)
  go_ret2
  exact⟨rfl,R2.out,K2.out⟩
 ·go_enter Tryz.func88,Tryz.ntmps88
  go_wp2_with fail
  refine(az _ _ _ _ HR.out).mono ?_;rintro e w1 ⟨rfl,r1,k1⟩;have R1:=aa r1;have K1:=aa k1;clear r1 k1;go_wp2_with fail
  refine(C1.out _).mono ?_;rintro e CZ ⟨rfl,rfl⟩;go_wp2_with fail
  refine(T1.out _ R1.out).mono ?_;rintro e w2 ⟨rfl,r2,k2⟩;have R2:=aa r2;have K2:=an K1 k2;clear r2 k2;go_wp2_with (go_at_call 113;refine(W1.out _).mono ?_;rintro e w' ⟨rfl,rfl⟩)
  go_ret2
  exact⟨rfl,R2.out,K2.out⟩
end Go.Proofs.YtodmcdfeldkocaaGreatDoor
