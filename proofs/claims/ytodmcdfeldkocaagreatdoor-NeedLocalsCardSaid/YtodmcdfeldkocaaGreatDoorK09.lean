/- Parts of the proof. -/
import Derived.Laws.AppendOwn
import Derived.Test.YtodmcdfeldkocaaGreatDoorK08
set_option maxHeartbeats 16000000
set_option maxRecDepth 20000
namespace Go.Proofs.YtodmcdfeldkocaaGreatDoor
open Go.RowKit
theorem iP {a b:Bool} (h:a=b):Ending.returned (.bool a)=.returned (.bool b):=by rw[h]
theorem Cd (c:UInt8) (r:Bool) (w:World) (h:tE c=r):Calls Tryz.prog 84 #[.int .u8 (c.toNat:Int)] w fun e w'=>e=.returned (.bool r)∧w=w':=by
 subst h;unfold tE;have hc:=c.toNat_lt;generalize c.toNat=n at *;go_enter Tryz.func84,Tryz.ntmps84
 go_wp2
 all_goals go_ret
 all_goals exact⟨iP (by unfold zb;rw[mT];simp;omega),rfl⟩
theorem ie (c:UInt8) (r:Bool) (w:World) (h:wJ c=r):Calls Tryz.prog 87 #[.int .u8 (c.toNat:Int)] w fun e w'=>e=.returned (.bool r)∧w=w':=by
 subst h;unfold wJ;have hc:=c.toNat_lt;generalize c.toNat=n at *;go_enter Tryz.func87,Tryz.ntmps87
 go_wp2
 all_goals go_ret
 all_goals exact⟨iP (by rw[mT];simp;omega),rfl⟩
theorem fL (c:UInt8) (r:Bool) (w:World) (h:gm c=r):Calls Tryz.prog 89 #[.int .u8 (c.toNat:Int)] w fun e w'=>e=.returned (.bool r)∧w=w':=by
 subst h;unfold gm;have hc:=c.toNat_lt;generalize c.toNat=n at *;go_enter Tryz.func89,Tryz.ntmps89
 go_wp2
 all_goals go_ret
 all_goals exact⟨iP (by rw[mT];simp;omega),rfl⟩
theorem vz (c:UInt8) (r:Bool) (w:World) (h:Gc c=r):Calls Tryz.prog 92 #[.int .u8 (c.toNat:Int)] w fun e w'=>e=.returned (.bool r)∧w=w':=by
 subst h;unfold Gc;have hc:=c.toNat_lt;generalize c.toNat=n at *;go_enter Tryz.func92,Tryz.ntmps92
 go_wp2
 all_goals go_ret
 all_goals exact⟨iP (by rw[mT];simp;omega),rfl⟩
theorem tY (c:UInt8) (r:Bool) (w:World) (h:nI c=r):Calls Tryz.prog 124 #[.int .u8 (c.toNat:Int)] w fun e w'=>e=.returned (.bool r)∧w=w':=by
 unfold nI at h;cases e1:wJ c<;>cases e2:gm c<;>rw[e1,e2] at h<;>subst h <;>
  (have L1:=aa (fun W=>ie c _ W e1)
   have L2:=aa (fun W=>fL c _ W e2)
   clear e1 e2;go_enter Tryz.func124,Tryz.ntmps124
   go_wp2_with (first
    | (go_at_call 87;refine(L1.out _).mono ?_;rintro e w' ⟨rfl,rfl⟩)
    | (go_at_call 89;refine(L2.out _).mono ?_;rintro e w' ⟨rfl,rfl⟩))
   go_ret
   exact⟨rfl,rfl⟩)
theorem xV (c:UInt8) (r:Bool) (w:World) (h:pG c=r):Calls Tryz.prog 91 #[.int .u8 (c.toNat:Int)] w fun e w'=>e=.returned (.bool r)∧w=w':=by
 unfold pG at h;cases e1:nI c<;>rw[e1] at h
 ·have L1:=aa (fun W=>tY c _ W e1)
  clear e1;subst h;go_enter Tryz.func91,Tryz.ntmps91
  go_wp2_with (go_at_call 124;refine(L1.out _).mono ?_;rintro e w' ⟨rfl,rfl⟩)
  go_ret
  exact⟨iP (by rw[mT];simp;omega),rfl⟩
 ·have L1:=aa (fun W=>tY c _ W e1)
  clear e1;subst h;go_enter Tryz.func91,Tryz.ntmps91
  go_wp2_with (go_at_call 124;refine(L1.out _).mono ?_;rintro e w' ⟨rfl,rfl⟩)
  go_ret
  exact⟨rfl,rfl⟩
theorem OA (c:UInt8) (r:Bool) (w:World) (h:zQ c=r):Calls Tryz.prog 157 #[.int .u8 (c.toNat:Int)] w fun e w'=>e=.returned (.bool r)∧w=w':=by
 unfold zQ at h;cases e1:gm c<;>rw[e1] at h
 ·have L1:=aa (fun W=>fL c _ W e1)
  clear e1;subst h;have hc:=c.toNat_lt;generalize c.toNat=n at *;go_enter Tryz.func157,Tryz.ntmps157
  go_wp2_with (go_at_call 89;refine(L1.out _).mono ?_;rintro e w' ⟨rfl,rfl⟩)
  all_goals go_ret
  all_goals exact⟨iP (by rw[mT];simp;omega),rfl⟩
 ·have L1:=aa (fun W=>fL c _ W e1)
  clear e1;subst h;go_enter Tryz.func157,Tryz.ntmps157
  go_wp2_with (go_at_call 89;refine(L1.out _).mono ?_;rintro e w' ⟨rfl,rfl⟩)
  go_ret
  exact⟨rfl,rfl⟩
def aS (s:ByteArray) (k:Nat):List UInt8:=s.data.toList.drop k
theorem dh (s:ByteArray) (k:Nat):(s.extract k s.size).data.toList=aS s k:=zj s k
theorem fQ (s:ByteArray) (k:Nat):(aS s k).length=s.size-k:=by unfold aS;rw[je,←Lib.size_eq]
theorem e7 (s:ByteArray) (k c:Nat):(aS s k).drop c=aS s (k+c):=by unfold aS;rw[List.drop_drop]
theorem e8 (s:ByteArray) (k c:Nat):(s.extract k (k+c)).data.toList=(aS s k).take c:=ma s k c
theorem aD (s:ByteArray) (k:Nat) (h:k≤s.size):(s.extract k s.size).size=s.size-k:=by rw[uh];omega
theorem zm (l:List UInt8):(⟨l.toArray⟩:ByteArray).data.toList=l:=rfl
theorem Gf (l:List UInt8):(⟨l.toArray⟩:ByteArray).size=l.length:=by show l.toArray.size=_;simp
theorem Tn {s:ByteArray} {l:List UInt8} (h:s.data.toList=l):s=⟨l.toArray⟩:=by subst h;rfl
theorem vA {a b:Int} (h:a=b):Ending.returned (.int .i64 a)=.returned (.int .i64 b):=by rw[h]
theorem sY (s:ByteArray) (w:World) (hs:s.size≤100000):Calls Tryz.prog 127 #[.string s] w fun e w'=>e=.returned (.int .i64 (opn s.data.toList:Int))∧w=w':=by
 obtain⟨n,hn⟩ :∃n:Nat,n=opn s.data.toList:=⟨_,rfl⟩;rw[←hn];unfold opn at hn;obtain⟨t1,ht1⟩ :∃t:ByteArray,t=⟨(Lib.trimPrefix s.data.toList [91]).toArray⟩:=⟨_,rfl⟩;cases e1:Lib.hasPrefix s.data.toList [91]
 ·have C1:=aa (fun W=>rW s ⟨#[91]⟩ W)
  rw[show(⟨#[91]⟩:ByteArray).data.toList=[91] from rfl,e1,←ht1] at C1
  rw[e1] at hn;have HN:=aa hn;clear hn e1 ht1;go_enter Tryz.func127,Tryz.ntmps127
  go_wp2_with (go_at_call 158;refine(C1.out _).mono ?_;rintro e w' ⟨rfl,rfl⟩)
  go_ret
  exact⟨vA (by rw[HN.out];rfl),rfl⟩
 ·have C1:=aa (fun W=>rW s ⟨#[91]⟩ W)
  rw[show(⟨#[91]⟩:ByteArray).data.toList=[91] from rfl,e1,←ht1] at C1
  have To:t1.data.toList=s.data.toList.drop 1:=by rw[ht1];show Lib.trimPrefix s.data.toList [91]=_;unfold Lib.trimPrefix;rw[aj e1];rfl
  rw[e1,aj rfl,←To] at hn;obtain⟨t2,SN⟩ :∃t:ByteArray,t=⟨(Lib.trimLeftB t1.data.toList 61).toArray⟩:=⟨_,rfl⟩;have C2:=aa (fun W=>Ow t1 W)
  rw[←SN] at C2;rw[show Lib.trimLeftB t1.data.toList 61=t2.data.toList by rw[SN]] at hn
  obtain⟨t3,ht3⟩ :∃t:ByteArray,t=⟨(Lib.trimPrefix t2.data.toList [91]).toArray⟩:=⟨_,rfl⟩;have C3:=aa (fun W=>rW t2 ⟨#[91]⟩ W)
  cases e2:Lib.hasPrefix t2.data.toList [91]
  ·rw[show(⟨#[91]⟩:ByteArray).data.toList=[91] from rfl,e2,←ht3] at C3
   rw[e2] at hn;have HN:=aa hn;clear hn e1 e2 ht1 SN ht3 To;go_enter Tryz.func127,Tryz.ntmps127
   go_wp2_with fail
   refine(C1.out _).mono ?_;rintro e w' ⟨rfl,rfl⟩;go_wp2_with fail
   refine(C2.out _).mono ?_;rintro e w' ⟨rfl,rfl⟩;go_wp2_with fail
   refine(C3.out _).mono ?_;rintro e w' ⟨rfl,rfl⟩;go_wp2_with fail
   go_ret
   exact⟨vA (by rw[HN.out];rfl),rfl⟩
  ·rw[show(⟨#[91]⟩:ByteArray).data.toList=[91] from rfl,e2,←ht3] at C3
   have YY:t3.data.toList=t2.data.toList.drop 1:=by rw[ht3];show Lib.trimPrefix t2.data.toList [91]=_;unfold Lib.trimPrefix;rw[aj e2];rfl
   rw[e2,aj rfl,←YY,←Lib.size_eq,←Lib.size_eq] at hn;have hle:t3.size≤s.size:=by
    rw[Lib.size_eq,YY,SN,zm,To,Lib.size_eq s,je];have h1:=(EJ (fun x=>x == 61) (l:=s.data.toList.drop 1)).length_le
    rw[je] at h1;unfold Lib.trimLeftB;omega
   have HN:=aa hn;clear hn e1 e2 ht1 SN ht3 To YY;go_enter Tryz.func127,Tryz.ntmps127
   go_wp2_with fail
   refine(C1.out _).mono ?_;rintro e w' ⟨rfl,rfl⟩;go_wp2_with fail
   refine(C2.out _).mono ?_;rintro e w' ⟨rfl,rfl⟩;go_wp2_with fail
   refine(C3.out _).mono ?_;rintro e w' ⟨rfl,rfl⟩;go_wp2_with fail
   go_ret
   exact⟨vA (by rw[HN.out];omega),rfl⟩
theorem oh (s:ByteArray) (r:Bool) (w:World) (hs:s.size≤100000) (h:decide (0<opn s.data.toList)=r):Calls Tryz.prog 94 #[.string s] w fun e w'=>e=.returned (.bool r)∧w=w':=by
 have C:=aa (fun W=>sY s W hs)
 generalize opn s.data.toList=n at *;go_enter Tryz.func94,Tryz.ntmps94
 go_wp2_with (go_at_call 127;refine(C.out _).mono ?_;rintro e w' ⟨rfl,rfl⟩)
 go_ret
 exact⟨rfl,rfl⟩
theorem OC {l sep:List UInt8} {t r:List UInt8} (h:Lib.cut l sep=(t,r,true)):t.length+sep.length≤l.length∧r=l.drop (t.length+sep.length):=by
 unfold Lib.cut at h;by_cases h0:0≤Lib.index l sep
 ·rw[aj h0] at h
  injection h with h1 h2;injection h2 with h2 _;have hr:=Lib.index_room l sep h0;have hlen:t.length=(Lib.index l sep).toNat:=by rw[←h1,jd];omega
  rw[hlen];exact⟨by omega,h2.symm⟩
 ·rw[ae h0] at h
  injection h with _ h2;injection h2 with _ h3;cases h3
def jK (b:Nat) (s:ByteArray) (k:Nat) (w:World) (o:Option (List UInt8×List UInt8)) (e:Ending) (w':World):Prop :=
 Kp b w w'∧match o with
  | some (t,r)=>∃k',e=.returned (.tuple #[.string ⟨t.toArray⟩,.bool true])∧Rd w' b s k'∧aS s k'=r∧k<k'
  | none=>e=.returned (.tuple #[.string ⟨#[]⟩,.bool false])
theorem jK.om {b:Nat} {s:ByteArray} {k:Nat} {w w':World} {t r:List UInt8} {e:Ending} (h:jK b s k w (some (t,r)) e w') :∃k',e=.returned (.tuple #[.string ⟨t.toArray⟩,.bool true])∧Rd w' b s k'∧aS s k'=r∧k<k'∧Kp b w w':=by
 obtain⟨h0,k',h1,h2,h3,h4⟩:=h;exact⟨k',h1,h2,h3,h4,h0⟩
theorem jK.oq {b:Nat} {s:ByteArray} {k:Nat} {w w':World} {e:Ending} (h:jK b s k w none e w'):e=.returned (.tuple #[.string ⟨#[]⟩,.bool false])∧Kp b w w':=⟨h.2,h.1⟩
theorem o9 (b:Nat) (s:ByteArray) (k:Nat) (w:World) (h:Rd w b s k) (hp:0<opn (aS s k)):Calls Tryz.prog 95 #[.pointer (some ⟨b,0,none⟩)] w (jK b s k w (Ku (aS s k))):=by
 have cr:=h.top;have hle:=h.le;have HR:=aa h;clear h;obtain⟨n,hn⟩ :∃n:Nat,n=opn (aS s k):=⟨_,rfl⟩;have iV:=YQ (aS s k);rw[←hn,fQ] at iV;rw[←hn] at hp;have C1:=aa (fun W=>sY (s.extract k s.size) W (by rw[aD s k hle];omega))
 rw[dh,←hn] at C1;obtain⟨cl,C7⟩ :∃cl:ByteArray,cl=⟨(clo (s.extract k (k+n)).data.toList).toArray⟩:=⟨_,rfl⟩;have C2:=aa (fun W hW=>Ja (s.extract k (k+n)) W (by rw[uh];omega) hW)
 rw[←C7] at C2;have hb:Ku (aS s k)=if (Lib.cut (aS s (k+n)) cl.data.toList).2.2 then some (Lib.trimPrefix (Lib.cut (aS s (k+n)) cl.data.toList).1 [10],(Lib.cut (aS s (k+n)) cl.data.toList).2.1) else none:=by
  unfold Ku;rw[←hn,C7,zm,e8,e7]
 have C3:=aa (fun W hW=>Cc (s.extract (k+n) s.size) cl W (by rw[aD s _ (by omega)];omega) hW)
 rw[dh] at C3;obtain⟨a,r,o,hq⟩ :∃a r o,Lib.cut (aS s (k+n)) cl.data.toList=(a,r,o):=⟨_,_,_,rfl⟩;rw[hq] at C3 hb;obtain⟨A,hA⟩ :∃A:ByteArray,A=⟨a.toArray⟩:=⟨_,rfl⟩;obtain⟨R,hR⟩ :∃R:ByteArray,R=⟨r.toArray⟩:=⟨_,rfl⟩;simp only[←hA,←hR] at C3;cases o
 ·have HB:=aa hb
  clear hn C7 hq hA hR hb;go_enter Tryz.func95,Tryz.ntmps95
  go_wp2_with fail
  refine(ay _ _ _ _ HR.out).mono ?_;rintro e w1 ⟨rfl,r1,k1⟩;have R1:=aa r1;have K1:=aa k1;clear r1 k1;go_wp2_with fail
  refine(C1.out _).mono ?_;rintro e CY ⟨rfl,rfl⟩;go_wp2_with fail
  refine(bs _ _ _ _ _ R1.out (by omega)).mono ?_;rintro e w2 ⟨rfl,r2,k2⟩
  have R2:=aa r2;have K2:=aa (K1.out.trans k2);clear r2 k2;go_wp2_with fail
  refine(C2.out _ R2.out.mx).mono ?_;rintro e w3 ⟨rfl,b3⟩;have R3:=aa (R2.out.below b3);have K3:=aa (K2.out.trans (Kp.af b3));clear b3;go_wp2_with fail
  refine(ay _ _ _ _ R3.out).mono ?_;rintro e w4 ⟨rfl,r4,k4⟩;have R4:=aa r4;have K4:=aa (K3.out.trans k4);clear r4 k4;go_wp2_with fail
  refine(C3.out _ R4.out.mx).mono ?_;rintro e w5 ⟨rfl,n5,rfl⟩;go_wp2_with fail
  go_ret2
  refine⟨K4.out.draws _,?_⟩;rw[HB.out];rfl
 ·obtain⟨hroom,hr⟩:=OC hq
  rw[fQ,←Lib.size_eq] at hroom;rw[e7,←Lib.size_eq] at hr;have hAs:A.size=a.length:=by rw[hA,Gf]
  have C4:=aa (fun W=>Ox A W)
  rw[hA,zm,←hA] at C4;obtain⟨T,hT⟩ :∃T:ByteArray,T=⟨(Lib.trimPrefix a [10]).toArray⟩:=⟨_,rfl⟩;rw[←hT] at C4;rw[←hAs] at hroom hr;have HB:=aa hb;have HE:=aa hr;have HT:=aa hT;clear hn C7 hq hA hR hb hr hAs hT;go_enter Tryz.func95,Tryz.ntmps95
  go_wp2_with fail
  refine(ay _ _ _ _ HR.out).mono ?_;rintro e w1 ⟨rfl,r1,k1⟩;have R1:=aa r1;have K1:=aa k1;clear r1 k1;go_wp2_with fail
  refine(C1.out _).mono ?_;rintro e CY ⟨rfl,rfl⟩;go_wp2_with fail
  refine(bs _ _ _ _ _ R1.out (by omega)).mono ?_;rintro e w2 ⟨rfl,r2,k2⟩
  have R2:=aa r2;have K2:=aa (K1.out.trans k2);clear r2 k2;go_wp2_with fail
  refine(C2.out _ R2.out.mx).mono ?_;rintro e w3 ⟨rfl,b3⟩;have R3:=aa (R2.out.below b3);have K3:=aa (K2.out.trans (Kp.af b3));clear b3;go_wp2_with fail
  refine(ay _ _ _ _ R3.out).mono ?_;rintro e w4 ⟨rfl,r4,k4⟩;have R4:=aa r4;have K4:=aa (K3.out.trans k4);clear r4 k4;go_wp2_with fail
  refine(C3.out _ R4.out.mx).mono ?_;rintro e w5 ⟨rfl,n5,rfl⟩;have R5:=aa (R4.out.draws n5);have K5:=aa (K4.out.draws n5);generalize w4.drewN n5=w5 at *;have Fp:=fun W h=>bs b s (k+n) (A.size+cl.size) W h (by omega)
  rw[show((A.size+cl.size:Nat):Int)=(A.size:Int)+(cl.size:Int) by omega] at Fp
  have C6:=aa Fp;clear Fp;go_wp2_with fail
  refine(C6.out _ R5.out).mono ?_;rintro e w6 ⟨rfl,r6,k6⟩;have R6:=aa r6;have K6:=aa (K5.out.trans k6);clear r6 k6;go_wp2_with fail
  refine(C4.out _).mono ?_;rintro e w6' ⟨rfl,rfl⟩;go_wp2_with fail
  go_ret2
  refine⟨K6.out,?_⟩;rw[HB.out];exact⟨_,by rw[HT.out];rfl,R6.out,HE.out.symm,by omega⟩
theorem nL {p:UInt8→Bool} {l:List UInt8} {k:Nat} {c:UInt8} (h:k≤runN p l) (hc:l[k]? = some c) (hp:p c=true):k+1≤runN p l:=by
 induction l generalizing k with
 | nil=>simp at hc
 | cons a t ih =>
  unfold runN at *;cases k with
  | zero =>
   simp at hc;subst hc;simp[hp]
  | succ k =>
   cases e:p a
   ·simp[e] at h
   ·simp[e] at h ⊢
    exact ih h (by simpa using hc)
theorem nM {p:UInt8→Bool} {l:List UInt8} {k:Nat} {c:UInt8} (h:k≤runN p l) (hc:l[k]? = some c) (hp:p c=false):k=runN p l:=by
 induction l generalizing k with
 | nil=>simp at hc
 | cons a t ih =>
  unfold runN at *;cases k with
  | zero =>
   simp at hc;subst hc;simp[hp]
  | succ k =>
   cases e:p a
   ·simp[e] at h
   ·simp[e] at h ⊢
    exact ih h (by simpa using hc)
theorem iA {a b:Int} (h:a=b):Ending.returned (.int .i64 a)=.returned (.int .i64 b):=by rw[h]
theorem xW (s:ByteArray) (w:World) (hs:s.size≤100000):Calls Tryz.prog 82 #[.string s,.func (.func 84) #[] #[]] w fun e w'=>e=.returned (.int .i64 (runN tE s.data.toList:Int))∧w=w':=by
 have hle:runN tE s.data.toList≤s.size:=by
  have:=ic tE s.data.toList;rwa[←Lib.size_eq] at this
 obtain⟨m,hm⟩ :∃m:Nat,m=runN tE s.data.toList:=⟨_,rfl⟩;rw[←hm] at hle ⊢;have HM:=aa hm;clear hm;go_enter Tryz.func82,Tryz.ntmps82
 go_wp2_with fail
 go_loop [5] (fun i=>∃k:Nat,k≤m∧i=.int .i64 k) (fun i=>s.size-(intOf i).toNat)
 case atStart=>exact⟨0,bg _,rfl⟩
 case round =>
  obtain⟨k,hk,rfl⟩:=hrel;by_cases hlt:k<s.size
  ·have hg:s.data.toList[k]? = some s[k]:=bt (l:=s.data.toList) (i:=k) (by simpa using hlt)
   cases e:tE s[k]
   ·have kh:=nM (by rw[←HM.out];exact hk) hg e
    have HK:=aa (fun W=>Cd s[k] _ W e)
    clear hg e;have HS:=aa (kh.trans HM.out.symm);clear kh;go_wp2_with (go_at_call 84;refine(HK.out _).mono ?_;rintro e w' ⟨rfl,rfl⟩)
    go_ret
    exact⟨iA (by rw[HS.out]),rfl⟩
   ·have gd:=nL (by rw[←HM.out];exact hk) hg e
    have HK:=aa (fun W=>Cd s[k] _ W e)
    clear hg e;rw[←HM.out] at gd;go_wp2_with (go_at_call 84;refine(HK.out _).mono ?_;rintro e w' ⟨rfl,rfl⟩)
    go_round
    case rel=>exact⟨k+1,gd,by go_num⟩
    case measure=>simp[intOf];omega
  ·have oA:k=m:=by omega
   go_wp2_with fail
   go_ret
   exact⟨iA (by omega),rfl⟩
theorem OD (s:ByteArray) (w:World) (hs:s.size≤100000):Calls Tryz.prog 82 #[.string s,.func (.func 124) #[] #[]] w fun e w'=>e=.returned (.int .i64 (runN nI s.data.toList:Int))∧w=w':=by
 have hle:runN nI s.data.toList≤s.size:=by
  have:=ic nI s.data.toList;rwa[←Lib.size_eq] at this
 obtain⟨m,hm⟩ :∃m:Nat,m=runN nI s.data.toList:=⟨_,rfl⟩;rw[←hm] at hle ⊢;have HM:=aa hm;clear hm;go_enter Tryz.func82,Tryz.ntmps82
 go_wp2_with fail
 go_loop [5] (fun i=>∃k:Nat,k≤m∧i=.int .i64 k) (fun i=>s.size-(intOf i).toNat)
 case atStart=>exact⟨0,bg _,rfl⟩
 case round =>
  obtain⟨k,hk,rfl⟩:=hrel;by_cases hlt:k<s.size
  ·have hg:s.data.toList[k]? = some s[k]:=bt (l:=s.data.toList) (i:=k) (by simpa using hlt)
   cases e:nI s[k]
   ·have kh:=nM (by rw[←HM.out];exact hk) hg e
    have HK:=aa (fun W=>tY s[k] _ W e)
    clear hg e;have HS:=aa (kh.trans HM.out.symm);clear kh;go_wp2_with (go_at_call 124;refine(HK.out _).mono ?_;rintro e w' ⟨rfl,rfl⟩)
    go_ret
    exact⟨iA (by rw[HS.out]),rfl⟩
   ·have gd:=nL (by rw[←HM.out];exact hk) hg e
    have HK:=aa (fun W=>tY s[k] _ W e)
    clear hg e;rw[←HM.out] at gd;go_wp2_with (go_at_call 124;refine(HK.out _).mono ?_;rintro e w' ⟨rfl,rfl⟩)
    go_round
    case rel=>exact⟨k+1,gd,by go_num⟩
    case measure=>simp[intOf];omega
  ·have oA:k=m:=by omega
   go_wp2_with fail
   go_ret
   exact⟨iA (by omega),rfl⟩
theorem vB (s:ByteArray) (w:World) (hs:s.size≤100000):Calls Tryz.prog 82 #[.string s,.func (.func 91) #[] #[]] w fun e w'=>e=.returned (.int .i64 (runN pG s.data.toList:Int))∧w=w':=by
 have hle:runN pG s.data.toList≤s.size:=by
  have:=ic pG s.data.toList;rwa[←Lib.size_eq] at this
 obtain⟨m,hm⟩ :∃m:Nat,m=runN pG s.data.toList:=⟨_,rfl⟩;rw[←hm] at hle ⊢;have HM:=aa hm;clear hm;go_enter Tryz.func82,Tryz.ntmps82
 go_wp2_with fail
 go_loop [5] (fun i=>∃k:Nat,k≤m∧i=.int .i64 k) (fun i=>s.size-(intOf i).toNat)
 case atStart=>exact⟨0,bg _,rfl⟩
 case round =>
  obtain⟨k,hk,rfl⟩:=hrel;by_cases hlt:k<s.size
  ·have hg:s.data.toList[k]? = some s[k]:=bt (l:=s.data.toList) (i:=k) (by simpa using hlt)
   cases e:pG s[k]
   ·have kh:=nM (by rw[←HM.out];exact hk) hg e
    have HK:=aa (fun W=>xV s[k] _ W e)
    clear hg e;have HS:=aa (kh.trans HM.out.symm);clear kh;go_wp2_with (go_at_call 91;refine(HK.out _).mono ?_;rintro e w' ⟨rfl,rfl⟩)
    go_ret
    exact⟨iA (by rw[HS.out]),rfl⟩
   ·have gd:=nL (by rw[←HM.out];exact hk) hg e
    have HK:=aa (fun W=>xV s[k] _ W e)
    clear hg e;rw[←HM.out] at gd;go_wp2_with (go_at_call 91;refine(HK.out _).mono ?_;rintro e w' ⟨rfl,rfl⟩)
    go_round
    case rel=>exact⟨k+1,gd,by go_num⟩
    case measure=>simp[intOf];omega
  ·have oA:k=m:=by omega
   go_wp2_with fail
   go_ret
   exact⟨iA (by omega),rfl⟩
theorem Jb (s:ByteArray) (w:World) (hs:s.size≤100000):Calls Tryz.prog 82 #[.string s,.func (.func 89) #[] #[]] w fun e w'=>e=.returned (.int .i64 (runN gm s.data.toList:Int))∧w=w':=by
 have hle:runN gm s.data.toList≤s.size:=by
  have:=ic gm s.data.toList;rwa[←Lib.size_eq] at this
 obtain⟨m,hm⟩ :∃m:Nat,m=runN gm s.data.toList:=⟨_,rfl⟩;rw[←hm] at hle ⊢;have HM:=aa hm;clear hm;go_enter Tryz.func82,Tryz.ntmps82
 go_wp2_with fail
 go_loop [5] (fun i=>∃k:Nat,k≤m∧i=.int .i64 k) (fun i=>s.size-(intOf i).toNat)
 case atStart=>exact⟨0,bg _,rfl⟩
 case round =>
  obtain⟨k,hk,rfl⟩:=hrel;by_cases hlt:k<s.size
  ·have hg:s.data.toList[k]? = some s[k]:=bt (l:=s.data.toList) (i:=k) (by simpa using hlt)
   cases e:gm s[k]
   ·have kh:=nM (by rw[←HM.out];exact hk) hg e
    have HK:=aa (fun W=>fL s[k] _ W e)
    clear hg e;have HS:=aa (kh.trans HM.out.symm);clear kh;go_wp2_with (go_at_call 89;refine(HK.out _).mono ?_;rintro e w' ⟨rfl,rfl⟩)
    go_ret
    exact⟨iA (by rw[HS.out]),rfl⟩
   ·have gd:=nL (by rw[←HM.out];exact hk) hg e
    have HK:=aa (fun W=>fL s[k] _ W e)
    clear hg e;rw[←HM.out] at gd;go_wp2_with (go_at_call 89;refine(HK.out _).mono ?_;rintro e w' ⟨rfl,rfl⟩)
    go_round
    case rel=>exact⟨k+1,gd,by go_num⟩
    case measure=>simp[intOf];omega
  ·have oA:k=m:=by omega
   go_wp2_with fail
   go_ret
   exact⟨iA (by omega),rfl⟩
theorem Tp (s:ByteArray) (w:World) (hs:s.size≤100000):Calls Tryz.prog 82 #[.string s,.func (.func 157) #[] #[]] w fun e w'=>e=.returned (.int .i64 (runN zQ s.data.toList:Int))∧w=w':=by
 have hle:runN zQ s.data.toList≤s.size:=by
  have:=ic zQ s.data.toList;rwa[←Lib.size_eq] at this
 obtain⟨m,hm⟩ :∃m:Nat,m=runN zQ s.data.toList:=⟨_,rfl⟩;rw[←hm] at hle ⊢;have HM:=aa hm;clear hm;go_enter Tryz.func82,Tryz.ntmps82
 go_wp2_with fail
 go_loop [5] (fun i=>∃k:Nat,k≤m∧i=.int .i64 k) (fun i=>s.size-(intOf i).toNat)
 case atStart=>exact⟨0,bg _,rfl⟩
 case round =>
  obtain⟨k,hk,rfl⟩:=hrel;by_cases hlt:k<s.size
  ·have hg:s.data.toList[k]? = some s[k]:=bt (l:=s.data.toList) (i:=k) (by simpa using hlt)
   cases e:zQ s[k]
   ·have kh:=nM (by rw[←HM.out];exact hk) hg e
    have HK:=aa (fun W=>OA s[k] _ W e)
    clear hg e;have HS:=aa (kh.trans HM.out.symm);clear kh;go_wp2_with (go_at_call 157;refine(HK.out _).mono ?_;rintro e w' ⟨rfl,rfl⟩)
    go_ret
    exact⟨iA (by rw[HS.out]),rfl⟩
   ·have gd:=nL (by rw[←HM.out];exact hk) hg e
    have HK:=aa (fun W=>OA s[k] _ W e)
    clear hg e;rw[←HM.out] at gd;go_wp2_with (go_at_call 157;refine(HK.out _).mono ?_;rintro e w' ⟨rfl,rfl⟩)
    go_round
    case rel=>exact⟨k+1,gd,by go_num⟩
    case measure=>simp[intOf];omega
  ·have oA:k=m:=by omega
   go_wp2_with fail
   go_ret
   exact⟨iA (by omega),rfl⟩
theorem an {b:Nat} {w u v:World} (h:Hid (Kp b w u)) (k:Kp b u v):Hid (Kp b w v):=aa (h.out.trans k)
def nN (b:Nat) (s:ByteArray) (k:Nat) (w:World) (o:Option (List UInt8)) (e:Ending) (w':World):Prop :=
 Kp b w w'∧match o with
  | some r=>∃k',e=.returned (.bool true)∧Rd w' b s k'∧aS s k'=r∧k<k'
  | none=>e=.returned (.bool false)
theorem nN.om {b:Nat} {s:ByteArray} {k:Nat} {w w':World} {r:List UInt8} {e:Ending} (h:nN b s k w (some r) e w') :∃k',e=.returned (.bool true)∧Rd w' b s k'∧aS s k'=r∧k<k'∧Kp b w w':=by
 obtain⟨h0,k',h1,h2,h3,h4⟩:=h;exact⟨k',h1,h2,h3,h4,h0⟩
theorem nN.oq {b:Nat} {s:ByteArray} {k:Nat} {w w':World} {e:Ending} (h:nN b s k w none e w'):e=.returned (.bool false)∧Kp b w w':=⟨h.2,h.1⟩
theorem Ce (b:Nat) (s:ByteArray) (k:Nat) (w:World) (h:Rd w b s k) (hk:k+2≤s.size):Calls Tryz.prog 86 #[.pointer (some ⟨b,0,none⟩)] w (nN b s k w (comm (aS s (k+2)))):=by
 have cr:=h.top;have HR:=aa h;clear h;have T1:=aa (fun W h=>bs b s k 2 W h hk)
 by_cases hp:0<opn (aS s (k+2))
 ·have B1:=aa (fun W=>oh (s.extract (k+2) s.size) true W (by rw[aD s _ hk];omega) (by rw[dh];exact bN hp))
  have K1:=aa (fun W h=>o9 b s (k+2) W h hp)
  have hc:comm (aS s (k+2))=(Ku (aS s (k+2))).map (·.2):=by unfold comm;rw[aj hp]
  cases hb:Ku (aS s (k+2)) with
  | none =>
   rw[hb] at hc;have HC:=aa hc;rw[hb] at K1;clear hb hc hp;go_enter Tryz.func86,Tryz.ntmps86
   go_wp2_with fail
   refine(T1.out _ HR.out).mono ?_;rintro e w1 ⟨rfl,r1,k1⟩;have R1:=aa r1;have KK1:=aa k1;clear r1 k1;go_wp2_with fail
   refine(ay _ _ _ _ R1.out).mono ?_;rintro e w2 ⟨rfl,r2,k2⟩;have R2:=aa r2;have KK2:=an KK1 k2;clear r2 k2;go_wp2_with fail
   refine(B1.out _).mono ?_;rintro e OE ⟨rfl,rfl⟩;go_wp2_with fail
   refine(K1.out _ R2.out).mono ?_;intro e w3 Bd;obtain⟨rfl,k3⟩:=Bd.oq;clear Bd;have KK3:=an KK2 k3;clear k3;go_wp2_with fail
   go_ret
   refine⟨KK3.out,?_⟩;rw[HC.out];rfl
  | some z =>
   obtain⟨t,r⟩:=z;rw[hb] at hc;have HC:=aa hc;rw[hb] at K1;clear hb hc hp;go_enter Tryz.func86,Tryz.ntmps86
   go_wp2_with fail
   refine(T1.out _ HR.out).mono ?_;rintro e w1 ⟨rfl,r1,k1⟩;have R1:=aa r1;have KK1:=aa k1;clear r1 k1;go_wp2_with fail
   refine(ay _ _ _ _ R1.out).mono ?_;rintro e w2 ⟨rfl,r2,k2⟩;have R2:=aa r2;have KK2:=an KK1 k2;clear r2 k2;go_wp2_with fail
   refine(B1.out _).mono ?_;rintro e OE ⟨rfl,rfl⟩;go_wp2_with fail
   refine(K1.out _ R2.out).mono ?_;intro e w3 Bd;obtain⟨k',rfl,r3,hr3,hlt,k3⟩:=Bd.om;clear Bd;have R3:=aa r3;have KK3:=an KK2 k3;have HE:=aa hr3;clear r3 k3 hr3;go_wp2_with fail
   go_ret
   refine⟨KK3.out,?_⟩;rw[HC.out];exact⟨k',rfl,R3.out,HE.out,by omega⟩
 ·have B1:=aa (fun W=>oh (s.extract (k+2) s.size) false W (by rw[aD s _ hk];omega) (by rw[dh];exact bM hp))
  obtain⟨A,hA⟩ :∃A:ByteArray,A=⟨(Lib.cut (aS s (k+2)) [10]).1.toArray⟩:=⟨_,rfl⟩;obtain⟨R,hR⟩ :∃R:ByteArray,R=⟨(Lib.cut (aS s (k+2)) [10]).2.1.toArray⟩:=⟨_,rfl⟩;obtain⟨o,ho⟩ :∃o:Bool,o=(Lib.cut (aS s (k+2)) [10]).2.2:=⟨_,rfl⟩;have C1:=aa (fun W hW=>Cc (s.extract (k+2) s.size) ⟨#[10]⟩ W (by rw[aD s _ hk];omega) hW)
  rw[dh,show(⟨#[10]⟩:ByteArray).data.toList=[10] from rfl,←hA,←hR,←ho] at C1
  have hAs:A.size=(Lib.cut (aS s (k+2)) [10]).1.length:=by rw[hA,Gf]
  have hc:comm (aS s (k+2))=some (aS s (k+2+A.size)):=by unfold comm;rw[ae hp,←hAs,e7]
  have hAl:k+2+A.size≤s.size:=by
   rw[hAs,YR];have:=ic (fun c=>c != 10) (aS s (k+2))
   rw[fQ] at this;unfold runN at this;omega
  have HC:=aa hc;have T2:=aa (fun W h=>bs b s (k+2) A.size W h hAl)
  clear hA hR ho hAs hc hp;go_enter Tryz.func86,Tryz.ntmps86
  go_wp2_with fail
  refine(T1.out _ HR.out).mono ?_;rintro e w1 ⟨rfl,r1,k1⟩;have R1:=aa r1;have KK1:=aa k1;clear r1 k1;go_wp2_with fail
  refine(ay _ _ _ _ R1.out).mono ?_;rintro e w2 ⟨rfl,r2,k2⟩;have R2:=aa r2;have KK2:=an KK1 k2;clear r2 k2;go_wp2_with fail
  refine(B1.out _).mono ?_;rintro e OE ⟨rfl,rfl⟩;go_wp2_with fail
  refine(ay _ _ _ _ R2.out).mono ?_;rintro e w3 ⟨rfl,r3,k3⟩;have R3:=aa r3;have KK3:=an KK2 k3;clear r3 k3;go_wp2_with fail
  refine(C1.out _ R3.out.mx).mono ?_;rintro e w4 ⟨rfl,n4,rfl⟩;have R4:=aa (R3.out.draws n4);have KK4:=aa (KK3.out.draws n4);generalize w3.drewN n4=w4 at *;go_wp2_with fail
  refine(T2.out _ R4.out).mono ?_;rintro e w5 ⟨rfl,r5,k5⟩;have R5:=aa r5;have KK5:=an KK4 k5;clear r5 k5;go_wp2_with fail
  go_ret
  refine⟨KK5.out,?_⟩;rw[HC.out];exact⟨_,rfl,R5.out,rfl,by omega⟩
def Cf (W:World) (v:Value) (n:Int):Prop:=∃g,v=.iface 59 (.pointer (some ⟨g,0,none⟩))∧W.heap[g]? = some (.cells #[.int .i64 n,.iface 60 (.int .i64 5)] 62 (0,0))
theorem lq (n:Int) (w:World):Calls Tryz.prog 46 #[.int .i64 n,.int .i64 5] w fun e w'=>e=.returned (.iface 59 (.pointer (some ⟨w.heap.size,0,none⟩)))∧w'=w.alloc (.cells #[.int .i64 n,.iface 60 (.int .i64 5)] 62):=by
 go_enter Tryz.func46,Tryz.ntmps46
 go_wp2
 go_ret
 exact⟨rfl,rfl⟩
theorem Cf.new (w:World) (n:Int):Cf (w.alloc (.cells #[.int .i64 n,.iface 60 (.int .i64 5)] 62)) (.iface 59 (.pointer (some ⟨w.heap.size,0,none⟩))) n:=⟨_,rfl,World.alloc_heap_new w _⟩
def dT (s:ByteArray):Int:=1+(nl s.data.toList:Int)
theorem jn (s:ByteArray) (k:Nat):((1+nl (s.data.toList.take k):Nat):Int)=dT s-nl (aS s k):=by
 unfold dT aS;have:=YP s.data.toList k;omega
def OF (b:Nat) (s:ByteArray) (k:Nat) (w:World) (e:Ending) (w':World):Prop :=
 Kp b w w'∧((∃k',e=.returned .nilIface∧Rd w' b s k'∧k≤k'∧nK (aS s k) (.ok (aS s k'))) ∨
  (∃r v,e=.returned v∧Cf w' v (dT s-nl r)∧nK (aS s k) (.error r)))
theorem OG {l:List UInt8} (h:Lib.hasPrefix l [45,45]=true):l=45::45::l.drop 2:=by
 match l with
 | []=>simp[Lib.hasPrefix] at h
 | [a]=>simp[Lib.hasPrefix] at h
 | a::b::t =>
  simp[Lib.hasPrefix,List.isPrefixOf] at h;simp[←h.1,←h.2]
theorem OH (b:Nat) (s:ByteArray) (k:Nat) (w:World) (h:Rd w b s k):Calls Tryz.prog 47 #[.pointer (some ⟨b,0,none⟩)] w (OF b s k w):=by
 have cr:=h.top;have hle:=h.le;have HR:=aa h;clear h;go_enter Tryz.func47,Tryz.ntmps47
 go_wp2_with fail
 go_loopg [] s.size (fun z wr=>∃k1,Rd wr b s k1∧s.size-k1≤z∧Kp b w wr∧k≤k1∧∀o,nK (aS s k1) o→nK (aS s k) o)
 case atStart=>exact⟨k,HR.out,by omega,Kp.refl _ _,ag _,fun _ h=>h⟩
 case round =>
  obtain⟨k1,hr,hz,Tq,rz,hsk⟩:=hrel;have Ts:=hr.le;have R0:=aa hr;have K0:=aa Tq;have HS:=aa hsk;clear hr Tq hsk;obtain⟨m,hm⟩ :∃m:Nat,m=runN tE (aS s k1):=⟨_,rfl⟩;have C1:=aa (fun W=>xW (s.extract k1 s.size) W (by rw[aD s _ Ts];omega))
  rw[dh,←hm] at C1;have yD:=ic tE (aS s k1);rw[fQ,←hm] at yD;have hdw:(aS s k1).dropWhile tE=aS s (k1+m):=by rw[←qN,←hm,e7]
  have HD:=aa hdw;clear hm hdw;cases kW:Lib.hasPrefix (aS s (k1+m)) [45,45]
  ·have P1:=aa (fun W=>l9 (s.extract (k1+m) s.size) ⟨#[45,45]⟩ W false (by rw[dh];exact kW))
   have HP:=aa kW;clear kW;go_wp2_with fail
   refine(ay _ _ _ _ R0.out).mono ?_;rintro e w1 ⟨rfl,r1,Wx⟩;have R1:=aa r1;have K1:=an K0 Wx;clear r1 Wx;go_wp2_with fail
   refine(C1.out _).mono ?_;rintro e CY ⟨rfl,rfl⟩;go_wp2_with fail
   refine(bs _ _ _ _ _ R1.out (by omega)).mono ?_;rintro e w2 ⟨rfl,r2,k2⟩
   have R2:=aa r2;have K2:=an K1 k2;clear r2 k2;go_wp2_with fail
   refine(ay _ _ _ _ R2.out).mono ?_;rintro e w3 ⟨rfl,r3,k3⟩;have R3:=aa r3;have K3:=an K2 k3;clear r3 k3;go_wp2_with fail
   refine(P1.out _).mono ?_;rintro e w3' ⟨rfl,rfl⟩;go_wp2_with fail
   go_ret
   exact⟨K3.out,.inl ⟨_,rfl,R3.out,by omega,HS.out _ (.done HD.out HP.out)⟩⟩
  ·have P1:=aa (fun W=>l9 (s.extract (k1+m) s.size) ⟨#[45,45]⟩ W true (by rw[dh];exact kW))
   have h2:=OG kW;rw[e7] at h2;have hroom:k1+m+2≤s.size:=by
    have:=az List.length h2;rw[fQ,List.length_cons,List.length_cons] at this;omega
   have HP:=aa h2;clear kW h2;have CM:=aa (fun W h=>Ce b s (k1+m) W h hroom)
   cases hcm:comm (aS s (k1+m+2)) with
   | none =>
    rw[hcm] at CM;have HCM:=aa hcm;clear hcm;go_wp2_with fail
    refine(ay _ _ _ _ R0.out).mono ?_;rintro e w1 ⟨rfl,r1,Wx⟩;have R1:=aa r1;have K1:=an K0 Wx;clear r1 Wx;go_wp2_with fail
    refine(C1.out _).mono ?_;rintro e CY ⟨rfl,rfl⟩;go_wp2_with fail
    refine(bs _ _ _ _ _ R1.out (by omega)).mono ?_;rintro e w2 ⟨rfl,r2,k2⟩
    have R2:=aa r2;have K2:=an K1 k2;clear r2 k2;go_wp2_with fail
    refine(ay _ _ _ _ R2.out).mono ?_;rintro e w3 ⟨rfl,r3,k3⟩;have R3:=aa r3;have K3:=an K2 k3;clear r3 k3;go_wp2_with fail
    refine(P1.out _).mono ?_;rintro e w3' ⟨rfl,rfl⟩;have c2:=R3.out.c2;rw[jn] at c2;generalize Gg:dT s-(nl (aS s (k1+m)):Int)=line at c2;have HL:=aa Gg;clear Gg;go_wp2_with fail
    clear c2;refine(CM.out _ R3.out).mono ?_;intro e w4 fV;obtain⟨rfl,k4⟩:=fV.oq;have K4:=an K3 k4;clear fV k4;go_wp2_with fail
    refine(lq _ _).mono ?_;rintro e w5 ⟨rfl,rfl⟩;go_wp2_with fail
    go_ret
    refine⟨K4.out.alloc _,.inr ⟨_,_,rfl,?_,HS.out _ (.bad (HD.out.trans HP.out) HCM.out)⟩⟩;rw[←HP.out,HL.out];exact Cf.new _ _
   | some r' =>
    rw[hcm] at CM;have HCM:=aa hcm;clear hcm;go_wp2_with fail
    refine(ay _ _ _ _ R0.out).mono ?_;rintro e w1 ⟨rfl,r1,Wx⟩;have R1:=aa r1;have K1:=an K0 Wx;clear r1 Wx;go_wp2_with fail
    refine(C1.out _).mono ?_;rintro e CY ⟨rfl,rfl⟩;go_wp2_with fail
    refine(bs _ _ _ _ _ R1.out (by omega)).mono ?_;rintro e w2 ⟨rfl,r2,k2⟩
    have R2:=aa r2;have K2:=an K1 k2;clear r2 k2;go_wp2_with fail
    refine(ay _ _ _ _ R2.out).mono ?_;rintro e w3 ⟨rfl,r3,k3⟩;have R3:=aa r3;have K3:=an K2 k3;clear r3 k3;go_wp2_with fail
    refine(P1.out _).mono ?_;rintro e w3' ⟨rfl,rfl⟩;have c2:=R3.out.c2;rw[jn] at c2;generalize Gg:dT s-(nl (aS s (k1+m)):Int)=line at c2;clear Gg;go_wp2_with fail
    clear c2;refine(CM.out _ R3.out).mono ?_;intro e w4 fV;obtain⟨k',rfl,r4,hr4,hlt,k4⟩:=fV.om;have R4:=aa r4;have K4:=an K3 k4;have HE:=aa hr4;clear fV k4 r4 hr4;go_wp2_with fail
    go_roundg (s.size-k')
    case measure=>have:=R4.out.le;omega
    case rel=>exact⟨k',R4.out,ag _,K4.out,by omega,fun o ho=>HS.out o (.more (HD.out.trans HP.out) HCM.out (HE.out▸ho))⟩
theorem Cg {b:Nat} {l:List UInt8} (h:iO b l=true) {c:UInt8} (hc:c∈l):o7 c.toNat<b:=by
 unfold iO at h;rw[List.all_eq_true] at h;simpa using h c hc
theorem OI {p:UInt8→Bool} (a b:List UInt8) (h :∀c∈a,p c=true):(a++b).dropWhile p=b.dropWhile p:=by
 induction a with
 | nil=>rfl
 | cons c t ih =>
  rw[iE,List.dropWhile,h c (by simp)]
  exact ih fun x hx=>h x (by simp[hx])
theorem Gh {p:UInt8→Bool} (a b:List UInt8) (ha:a≠[]) (h :∀c∈a,p c=false):(a++b).dropWhile p=a++b:=by
 cases a with
 | nil=>exact absurd rfl ha
 | cons c t=>rw[iE,List.dropWhile,h c (by simp)]
theorem Tt (p x q:List UInt8) (hp :∀c∈p,zb c.toNat=true) (hq :∀c∈q,zb c.toNat=true) (hx :∀c∈x,zb c.toNat=false) (hn:x≠[]):Gb (p++x++q)=x:=by
 rw[←xQ];unfold Lib.trimLeftS Lib.trimRightS;have e1:List.dropWhile (fun y=>blanks.contains y) (p++x++q)=x++q:=by
  rw[fI,OI p (x++q) (fun c hc=>by rw[lZ];exact hp c hc),Gh x q hn (fun c hc=>by rw[lZ];exact hx c hc)]
 rw[e1,List.reverse_append,OI q.reverse x.reverse (fun c hc=>by rw[lZ];exact hq c (by simpa using hc))]
 have e2:=Gh (p:=fun y=>blanks.contains y) x.reverse [] (by simpa using hn) (fun c hc=>by rw[lZ];exact hx c (by simpa using hc))
 rw[j4] at e2;rw[e2,List.reverse_reverse]
theorem xX {b:Nat} {l d:List UInt8} (h2:2≤b) (h36:b≤36) (ht:Gb l=d) (h:zc d=false):lk b l=zP (DR b d:Int)∧qL b l=tC b d:=by
 unfold lk qL;have e:Lib.trimPrefix d [45]=d:=by unfold Lib.trimPrefix;unfold zc at h;rw[h,ae (by decide)]
 have hb:2≤(b:Int)∧(b:Int)≤36:=by omega
 have hm:¬ zc d=true:=by rw[h];decide
 rw[ht,aj hb,aj hb,ae hm,e,gS];exact⟨rfl,rfl⟩
theorem YZ {n:Int} (h0:-9223372036854775808≤n) (h1:n≤9223372036854775807):zP n=n:=by unfold zP;omega
theorem Jc (b:Nat) (l:List UInt8) :∀n:Nat,l.foldl (fun n c=>n*b+o7 c.toNat) n=n*b ^ l.length+val b l:=by
 induction l with
 | nil=>intro n;simp[val]
 | cons c t ih =>
  intro n;have e:val b (c::t)=o7 c.toNat*b ^ t.length+val b t:=by
   show t.foldl _ (0*b+o7 c.toNat)=_
   rw[ih];simp
  rw[List.foldl_cons,ih,e,List.length_cons,EY,E3,Nat.mul_assoc,EZ b,oN]
theorem OJ (b:Nat) (c:UInt8) (l:List UInt8):val b (c::l)=o7 c.toNat*b ^ l.length+val b l:=by
 show l.foldl _ (0*b+o7 c.toNat)=_
 rw[Jc];simp
theorem OK {b:Nat} (hb:b≤36) {l:List UInt8} (h:iO b l=true) :∀c∈l,zb c.toNat=false:=by
 intro c hc;have:=Cg h hc;unfold zb;rw[Bool.or_eq_false_iff,zY,zY];unfold o7 at this;split at this
 ·omega
 ·split at this
  ·omega
  ·split at this<;>omega
theorem Y0 {b:Nat} (hb:b≤36) {l:List UInt8} (h:iO b l=true) (t:List UInt8) (hl:l≠[]):zc (l++t)=false:=by
 cases l with
 | nil=>exact absurd rfl hl
 | cons c r =>
  have h1:=Cg h (c:=c) (by simp)
  have hne:((45:UInt8) == c)=false:=by
   rw[aC];rintro rfl;have:o7 (45:UInt8).toNat=36:=by decide
   omega
  simp[zc,Lib.hasPrefix,List.isPrefixOf,hne]
theorem Y1 {x:List UInt8} (hx :∀c∈x,zb c.toNat=false) (hn:x≠[]):Gb x=x:=by
 have:=Tt [] x [] (fun c hc=>by cases hc) (fun c hc=>by cases hc) hx hn
 simpa using this
def Bts (W:World) (v:Value) (m:List UInt8):Prop :=
 (v=.slice none 0 0∧m=[])∨(∃g x,m=[x]∧v=.slice (some ⟨g,0,none⟩) 1 1∧W.cell? ⟨g,0,none⟩=some (.int .u8 (x.toNat:Int)))
def bP (b:Nat) (s:ByteArray) (k:Nat) (w:World) (o:Option (List UInt8×List UInt8)) (e:Ending) (w':World):Prop :=
 Kp b w w'∧match o with
  | some (m,r)=>∃k' v,e=.returned (.tuple #[v,.bool true])∧Bts w' v m∧Rd w' b s k'∧aS s k'=r∧k≤k'
  | none=>e=.returned (.tuple #[.slice none 0 0,.bool false])
theorem vC {b:Nat} (hb:2≤b) (hb':b≤36) {d:List UInt8} (hd:iO b d=true) (hl:d.length≤3):0≤lk b d:=by
 by_cases h0:d=[]
 ·subst h0
  have:=(xX (l:=[]) (d:=[]) hb hb' rfl rfl).1;rw[this];rw[za rfl];decide
 ·have ht:=Y1 (OK hb' hd) h0
  have hm:zc d=false:=by have:=Y0 hb' hd [] h0;rwa[j4] at this
  rw[(xX hb hb' ht hm).1,DS (Ge h0 hd)];have hv:val b d<46657:=by
   have:val b d≤b ^ d.length:=by
    have h2 :∀(l:List UInt8),iO b l=true→val b l+1≤b ^ l.length:=by
     intro l;induction l with
     | nil=>intro _;simp[val]
     | cons c t ih =>
      intro h;simp only[iO,sJ,dk,iD] at h;rw[OJ,List.length_cons,EY];have i:=ih h.2;have h4:(o7 c.toNat+1)*b ^ t.length≤b*b ^ t.length:=EL _ (by omega)
      rw[E3,E0] at h4;rw[EZ (b ^ t.length) b];omega
    have:=h2 d hd;omega
   have h3:b ^ d.length≤36 ^ 3:=aL (Nat.pow_le_pow_left hb' _) (KP (by omega) hl)
   have h4:(36:Nat) ^ 3=46656:=by decide
   omega
  rw[YZ (by omega) (by omega)]
  omega
theorem Jd {p:UInt8→Bool} (l:List UInt8) (n:Nat) :∀c∈l.take (min n (runN p l)),p c=true:=by
 intro c hc;have h1:c∈l.take (runN p l):=(List.take_subset_take_left l (Nat.min_le_right n (runN p l))) hc;rw[qM] at h1;exact List.all_eq_true.1 List.all_takeWhile c h1
theorem Y2 :∀c:UInt8,zQ c=true→o7 c.toNat<16:=DT (by decide +kernel)
theorem Y3 :∀c:UInt8,gm c=true→o7 c.toNat<10:=DT (by decide +kernel)
theorem xY {p:UInt8→Bool} {b:Nat} (h :∀c:UInt8,p c=true→o7 c.toNat<b) (l:List UInt8) (n:Nat):iO b (l.take (min n (runN p l)))=true:=by
 unfold iO;rw[List.all_eq_true];intro c hc;exact bN (h c (Jd l n c hc))
theorem dN (w:World) (x:Int) (u:UInt8) (h:x=(u.toNat:Int)):Bts (w.alloc (.cells #[.int .u8 x] 5)) (.slice (some ⟨w.heap.size,0,none⟩) 1 1) [u]:=by
 refine .inr ⟨_,u,rfl,rfl,?_⟩;rw[←h];unfold World.cell?;rw[World.alloc_heap_new];rfl
theorem Wy {n:Int} (h0:0≤n) (h1:n≤255):n=((UInt8.ofNat n.toNat).toNat:Int):=by
 rw[UInt8.toNat_ofNat',Nat.mod_eq_of_lt (by omega)]
 omega
theorem OL (b:Nat) (s:ByteArray) (k:Nat) (w:World) (h:Rd w b s k) :
  Calls Tryz.prog 156 #[.pointer (some ⟨b,0,none⟩),.int .i64 16,.func (.func 157) #[] #[],.int .i64 2,.int .i64 2] w (bP b s k w (code 16 zQ 2 2 (aS s k))):=by
 have cr:=h.top;have hle:=h.le;have HR:=aa h;clear h;obtain⟨m,hm⟩ :∃m:Nat,m=runN zQ (aS s k):=⟨_,rfl⟩;have C1:=aa (fun W=>Tp (s.extract k s.size) W (by rw[aD s _ hle];omega))
 rw[dh,←hm] at C1;have yD:=ic zQ (aS s k);rw[fQ,←hm] at yD;have hall:=xY (p:=zQ) (b:=16) Y2 (aS s k) 2;rw[←hm] at hall;obtain⟨c,hc⟩ :∃c:Nat,c=min 2 m:=⟨_,rfl⟩;have hT :∀W,Rd W b s k→Calls Tryz.prog 81 #[.pointer (some ⟨b,0,none⟩),.int .i64 (min 2 (m:Int))] W fun e w'=>e=.returned (.string (s.extract k (k+c)))∧Rd w' b s (k+c)∧Kp b W w':=fun W h=>by
  have:=bs b s k c W h (by omega)
  rwa[show(c:Int)=min 2 (m:Int) by omega] at this
 have qR:code 16 zQ 2 2 (aS s k)=if qL 16 (s.extract k (k+c)).data.toList=true∧2≤c∧lk 16 (s.extract k (k+c)).data.toList≤255 then some ([UInt8.ofNat (lk 16 (s.extract k (k+c)).data.toList).toNat],aS s (k+c)) else none:=by
  unfold code;rw[←hm,←hc,←e8,e7]
 rw[←hc,←e8] at hall;have rX:=vC (b:=16) (by decide) (by decide) hall (by rw[e8,jd];omega)
 have Y4:(s.extract k (k+c)).size=c:=by rw[uh];omega
 obtain⟨D,hD⟩ :∃D:ByteArray,D=s.extract k (k+c):=⟨_,rfl⟩;rw[←hD] at hT qR rX Y4;have C2:=aa hT;have C3:=aa (fun W=>Ww D 16 W (by omega))
 obtain⟨N,hN⟩ :∃N:Int,N=lk 16 D.data.toList:=⟨_,rfl⟩;obtain⟨o,ho⟩ :∃o:Bool,o=qL 16 D.data.toList:=⟨_,rfl⟩;rw[show((16:Nat):Int)=(16:Int) from rfl] at rX
 rw[←hN] at rX;rw[←hN,←ho] at C3 qR;have HC:=aa qR;clear hm hall hT qR hD hN ho;have Ch:o=false∨(o=true∧D.size<2)∨(o=true∧2≤D.size∧255<N)∨(o=true∧2≤D.size∧N≤255):=by
  cases o
  ·exact .inl rfl
  ·right
   by_cases h1:D.size<2
   ·exact .inl ⟨rfl,h1⟩
   ·right
    by_cases h2:255<N
    ·exact .inl ⟨rfl,by omega,h2⟩
    ·exact .inr ⟨rfl,by omega,by omega⟩
 rcases Ch with rfl | ⟨rfl,h1⟩ | ⟨rfl,h1,h2⟩ | ⟨rfl,h1,h2⟩;all_goals have HDs:=aa Y4
 all_goals have HCm:=aa hc
 all_goals clear Y4 hc
 ·go_enter Tryz.func156,Tryz.ntmps156
  go_wp2_with fail
  refine(ay _ _ _ _ HR.out).mono ?_;rintro e w1 ⟨rfl,r1,k1⟩;have R1:=aa r1;have K1:=aa k1;clear r1 k1;go_wp2_with fail
  refine(C1.out _).mono ?_;rintro e CY ⟨rfl,rfl⟩;go_wp2_with fail
  refine(C2.out _ R1.out).mono ?_;rintro e w2 ⟨rfl,r2,k2⟩;have R2:=aa r2;have K2:=an K1 k2;clear r2 k2;go_wp2_with fail
  refine(C3.out _).mono ?_;rintro e w3 ⟨rfl,b3⟩;have K3:=an K2 (Kp.af b3);clear b3;go_wp2_with fail
  go_ret2
  refine⟨K3.out,?_⟩;rw[HC.out,ae (by simp)]
  rfl
 ·have g1:decide (D.size<2)=true:=bN h1
  go_enter Tryz.func156,Tryz.ntmps156
  go_wp2_with fail
  refine(ay _ _ _ _ HR.out).mono ?_;rintro e w1 ⟨rfl,r1,k1⟩;have R1:=aa r1;have K1:=aa k1;clear r1 k1;go_wp2_with fail
  refine(C1.out _).mono ?_;rintro e CY ⟨rfl,rfl⟩;go_wp2_with fail
  refine(C2.out _ R1.out).mono ?_;rintro e w2 ⟨rfl,r2,k2⟩;have R2:=aa r2;have K2:=an K1 k2;clear r2 k2;go_wp2_with fail
  refine(C3.out _).mono ?_;rintro e w3 ⟨rfl,b3⟩;have K3:=an K2 (Kp.af b3);clear b3;go_wp2_with fail
  go_ret2
  refine⟨K3.out,?_⟩;rw[HC.out,ae (by have:=HDs.out;omega)]
  rfl
 ·have g1:decide (D.size<2)=false:=bM (by omega)
  have g2:decide (255<N)=true:=bN h2;go_enter Tryz.func156,Tryz.ntmps156
  go_wp2_with fail
  refine(ay _ _ _ _ HR.out).mono ?_;rintro e w1 ⟨rfl,r1,k1⟩;have R1:=aa r1;have K1:=aa k1;clear r1 k1;go_wp2_with fail
  refine(C1.out _).mono ?_;rintro e CY ⟨rfl,rfl⟩;go_wp2_with fail
  refine(C2.out _ R1.out).mono ?_;rintro e w2 ⟨rfl,r2,k2⟩;have R2:=aa r2;have K2:=an K1 k2;clear r2 k2;go_wp2_with fail
  refine(C3.out _).mono ?_;rintro e w3 ⟨rfl,b3⟩;have K3:=an K2 (Kp.af b3);clear b3;go_wp2_with fail
  go_ret2
  refine⟨K3.out,?_⟩;rw[HC.out,ae (by omega)]
  rfl
 ·have g1:decide (D.size<2)=false:=bM (by omega)
  have g2:decide (255<N)=false:=bM (by omega)
  go_enter Tryz.func156,Tryz.ntmps156
  go_wp2_with fail
  refine(ay _ _ _ _ HR.out).mono ?_;rintro e w1 ⟨rfl,r1,k1⟩;have R1:=aa r1;have K1:=aa k1;clear r1 k1;go_wp2_with fail
  refine(C1.out _).mono ?_;rintro e CY ⟨rfl,rfl⟩;go_wp2_with fail
  refine(C2.out _ R1.out).mono ?_;rintro e w2 ⟨rfl,r2,k2⟩;have R2:=aa r2;have K2:=an K1 k2;clear r2 k2;go_wp2_with fail
  refine(C3.out _).mono ?_;rintro e w3 ⟨rfl,b3⟩;have R3:=aa (R2.out.below b3);have K3:=an K2 (Kp.af b3);clear b3;go_wp2_with fail
  go_ret2
  refine⟨K3.out.alloc _,?_⟩;rw[HC.out,aj ⟨by trivial,by have:=HDs.out;omega,h2⟩]
  exact⟨_,_,rfl,dN _ _ _ (Wy rX h2),R3.out.alloc _,rfl,by omega⟩
theorem dQ (b:Nat) (s:ByteArray) (k:Nat) (w:World) (h:Rd w b s k) :
  Calls Tryz.prog 156 #[.pointer (some ⟨b,0,none⟩),.int .i64 10,.func (.func 89) #[] #[],.int .i64 1,.int .i64 3] w (bP b s k w (code 10 gm 1 3 (aS s k))):=by
 have cr:=h.top;have hle:=h.le;have HR:=aa h;clear h;obtain⟨m,hm⟩ :∃m:Nat,m=runN gm (aS s k):=⟨_,rfl⟩;have C1:=aa (fun W=>Jb (s.extract k s.size) W (by rw[aD s _ hle];omega))
 rw[dh,←hm] at C1;have yD:=ic gm (aS s k);rw[fQ,←hm] at yD;have hall:=xY (p:=gm) (b:=10) Y3 (aS s k) 3;rw[←hm] at hall;obtain⟨c,hc⟩ :∃c:Nat,c=min 3 m:=⟨_,rfl⟩;have hT :∀W,Rd W b s k→Calls Tryz.prog 81 #[.pointer (some ⟨b,0,none⟩),.int .i64 (min 3 (m:Int))] W fun e w'=>e=.returned (.string (s.extract k (k+c)))∧Rd w' b s (k+c)∧Kp b W w':=fun W h=>by
  have:=bs b s k c W h (by omega)
  rwa[show(c:Int)=min 3 (m:Int) by omega] at this
 have qR:code 10 gm 1 3 (aS s k)=if qL 10 (s.extract k (k+c)).data.toList=true∧1≤c∧lk 10 (s.extract k (k+c)).data.toList≤255 then some ([UInt8.ofNat (lk 10 (s.extract k (k+c)).data.toList).toNat],aS s (k+c)) else none:=by
  unfold code;rw[←hm,←hc,←e8,e7]
 rw[←hc,←e8] at hall;have rX:=vC (b:=10) (by decide) (by decide) hall (by rw[e8,jd];omega)
 have Y4:(s.extract k (k+c)).size=c:=by rw[uh];omega
 obtain⟨D,hD⟩ :∃D:ByteArray,D=s.extract k (k+c):=⟨_,rfl⟩;rw[←hD] at hT qR rX Y4;have C2:=aa hT;have C3:=aa (fun W=>Ww D 10 W (by omega))
 obtain⟨N,hN⟩ :∃N:Int,N=lk 10 D.data.toList:=⟨_,rfl⟩;obtain⟨o,ho⟩ :∃o:Bool,o=qL 10 D.data.toList:=⟨_,rfl⟩;rw[show((10:Nat):Int)=(10:Int) from rfl] at rX
 rw[←hN] at rX;rw[←hN,←ho] at C3 qR;have HC:=aa qR;clear hm hall hT qR hD hN ho;have Ch:o=false∨(o=true∧D.size<1)∨(o=true∧1≤D.size∧255<N)∨(o=true∧1≤D.size∧N≤255):=by
  cases o
  ·exact .inl rfl
  ·right
   by_cases h1:D.size<1
   ·exact .inl ⟨rfl,h1⟩
   ·right
    by_cases h2:255<N
    ·exact .inl ⟨rfl,by omega,h2⟩
    ·exact .inr ⟨rfl,by omega,by omega⟩
 rcases Ch with rfl | ⟨rfl,h1⟩ | ⟨rfl,h1,h2⟩ | ⟨rfl,h1,h2⟩;all_goals have HDs:=aa Y4
 all_goals have HCm:=aa hc
 all_goals clear Y4 hc
 ·go_enter Tryz.func156,Tryz.ntmps156
  go_wp2_with fail
  refine(ay _ _ _ _ HR.out).mono ?_;rintro e w1 ⟨rfl,r1,k1⟩;have R1:=aa r1;have K1:=aa k1;clear r1 k1;go_wp2_with fail
  refine(C1.out _).mono ?_;rintro e CY ⟨rfl,rfl⟩;go_wp2_with fail
  refine(C2.out _ R1.out).mono ?_;rintro e w2 ⟨rfl,r2,k2⟩;have R2:=aa r2;have K2:=an K1 k2;clear r2 k2;go_wp2_with fail
  refine(C3.out _).mono ?_;rintro e w3 ⟨rfl,b3⟩;have K3:=an K2 (Kp.af b3);clear b3;go_wp2_with fail
  go_ret2
  refine⟨K3.out,?_⟩;rw[HC.out,ae (by simp)]
  rfl
 ·have g1:decide (D.size<1)=true:=bN h1
  go_enter Tryz.func156,Tryz.ntmps156
  go_wp2_with fail
  refine(ay _ _ _ _ HR.out).mono ?_;rintro e w1 ⟨rfl,r1,k1⟩;have R1:=aa r1;have K1:=aa k1;clear r1 k1;go_wp2_with fail
  refine(C1.out _).mono ?_;rintro e CY ⟨rfl,rfl⟩;go_wp2_with fail
  refine(C2.out _ R1.out).mono ?_;rintro e w2 ⟨rfl,r2,k2⟩;have R2:=aa r2;have K2:=an K1 k2;clear r2 k2;go_wp2_with fail
  refine(C3.out _).mono ?_;rintro e w3 ⟨rfl,b3⟩;have K3:=an K2 (Kp.af b3);clear b3;go_wp2_with fail
  go_ret2
  refine⟨K3.out,?_⟩;rw[HC.out,ae (by have:=HDs.out;omega)]
  rfl
 ·have g1:decide (D.size<1)=false:=bM (by omega)
  have g2:decide (255<N)=true:=bN h2;go_enter Tryz.func156,Tryz.ntmps156
  go_wp2_with fail
  refine(ay _ _ _ _ HR.out).mono ?_;rintro e w1 ⟨rfl,r1,k1⟩;have R1:=aa r1;have K1:=aa k1;clear r1 k1;go_wp2_with fail
  refine(C1.out _).mono ?_;rintro e CY ⟨rfl,rfl⟩;go_wp2_with fail
  refine(C2.out _ R1.out).mono ?_;rintro e w2 ⟨rfl,r2,k2⟩;have R2:=aa r2;have K2:=an K1 k2;clear r2 k2;go_wp2_with fail
  refine(C3.out _).mono ?_;rintro e w3 ⟨rfl,b3⟩;have K3:=an K2 (Kp.af b3);clear b3;go_wp2_with fail
  go_ret2
  refine⟨K3.out,?_⟩;rw[HC.out,ae (by omega)]
  rfl
 ·have g1:decide (D.size<1)=false:=bM (by omega)
  have g2:decide (255<N)=false:=bM (by omega)
  go_enter Tryz.func156,Tryz.ntmps156
  go_wp2_with fail
  refine(ay _ _ _ _ HR.out).mono ?_;rintro e w1 ⟨rfl,r1,k1⟩;have R1:=aa r1;have K1:=aa k1;clear r1 k1;go_wp2_with fail
  refine(C1.out _).mono ?_;rintro e CY ⟨rfl,rfl⟩;go_wp2_with fail
  refine(C2.out _ R1.out).mono ?_;rintro e w2 ⟨rfl,r2,k2⟩;have R2:=aa r2;have K2:=an K1 k2;clear r2 k2;go_wp2_with fail
  refine(C3.out _).mono ?_;rintro e w3 ⟨rfl,b3⟩;have R3:=aa (R2.out.below b3);have K3:=an K2 (Kp.af b3);clear b3;go_wp2_with fail
  go_ret2
  refine⟨K3.out.alloc _,?_⟩;rw[HC.out,aj ⟨by trivial,by have:=HDs.out;omega,h2⟩]
  exact⟨_,_,rfl,dN _ _ _ (Wy rX h2),R3.out.alloc _,rfl,by omega⟩
theorem iQ (s:ByteArray) (k:Nat) (h:k<s.size):aS s k=s[k]::aS s (k+1):=by
 unfold aS;exact pX (l:=s.data.toList) (i:=k) (by simpa using h)
theorem aT (s:ByteArray) (k:Nat) (h:k<s.size) (h':0<(s.extract k s.size).size):(s.extract k s.size)[0]=s[k]:=by
 rw[ByteArray.getElem_extract];simp
theorem tZ (s:ByteArray) (k:Nat) (h:s.size≤k):aS s k=[]:=KK (by rw[←Lib.size_eq];exact h)
theorem bF (X:ByteArray) (h:0<X.size):X.toList.isEmpty=false:=by
 rw[Lib.toList_data];cases e:X.data.toList with
 | nil =>
  have:=Lib.size_eq X;rw[e,List.length_nil] at this;omega
 | cons=>rfl
theorem vD (X:ByteArray) (h:X.size=0):X.toList.isEmpty=true:=by
 rw[Lib.toList_data,kK (l:=X.data.toList) (by rw[←Lib.size_eq];exact h)]
 rfl
theorem OM (b:Nat) (s:ByteArray) (k:Nat) (w:World) (h:Rd w b s k) (hk:k=s.size):Calls Tryz.prog 126 #[.pointer (some ⟨b,0,none⟩)] w (bP b s k w (pW (aS s k))):=by
 rw[tZ s k (by omega)]
 obtain⟨X,hX⟩ :∃X:ByteArray,X=s.extract k s.size:=⟨_,rfl⟩;have C1:=aa (fun W h=>ay b s k W h)
 rw[←hX] at C1;have rY:=vD X (by rw[hX,aD s k (by omega)];omega)
 have HR:=aa h;clear hX h;go_enter Tryz.func126,Tryz.ntmps126
 go_wp2_with fail
 refine(C1.out _ HR.out).mono ?_;rintro e w1 ⟨rfl,r1,k1⟩;have K1:=aa k1;clear r1 k1;go_wp2_with fail
 go_ret2
 exact⟨K1.out,rfl⟩
theorem Y5 (b:Nat) (s:ByteArray) (k:Nat) (w:World) (h:Rd w b s k) (hk:k<s.size) (hc:s[k]=97):Calls Tryz.prog 126 #[.pointer (some ⟨b,0,none⟩)] w (bP b s k w (some ([7],aS s (k+1)))):=by
 obtain⟨X,hX⟩ :∃X:ByteArray,X=s.extract k s.size:=⟨_,rfl⟩;have C1:=aa (fun W h=>ay b s k W h)
 have eE:0<X.size:=by rw[hX,aD s k (by omega)];omega
 have sZ:X[0]=97:=by subst hX;rw[aT s k hk eE];exact hc
 rw[←hX] at C1;have rY:=bF X eE;have HR:=aa h;have I1:=aa (fun W=>eZ ⟨#[97,98,102,110,114,116,118]⟩ 97 W)
 have T1:=aa (fun W h=>bs b s k 1 W h (by omega))
 clear hX h hc;go_enter Tryz.func126,Tryz.ntmps126
 go_wp2_with fail
 refine(C1.out _ HR.out).mono ?_;rintro e w1 ⟨rfl,r1,k1⟩;have R1:=aa r1;have K1:=aa k1;clear r1 k1;go_wp2_with fail
 refine(C1.out _ R1.out).mono ?_;rintro e w2 ⟨rfl,r2,k2⟩;have R2:=aa r2;have K2:=an K1 k2;clear r2 k2;go_wp2_with fail
 refine(I1.out _).mono ?_;rintro e OE ⟨rfl,rfl⟩;rw[show Lib.indexByte (⟨#[97,98,102,110,114,116,118]⟩:ByteArray).data.toList 97=0 from by decide]
 go_wp2_with fail
 refine(T1.out _ R2.out).mono ?_;rintro e w3 ⟨rfl,r3,k3⟩;have R3:=aa r3;have K3:=an K2 k3;clear r3 k3;go_wp2_with fail
 go_ret2
 exact⟨K3.out.alloc _,_,_,rfl,dN _ _ _ rfl,R3.out.alloc _,rfl,by omega⟩
theorem Y6 (b:Nat) (s:ByteArray) (k:Nat) (w:World) (h:Rd w b s k) (hk:k<s.size) (hc:s[k]=98):Calls Tryz.prog 126 #[.pointer (some ⟨b,0,none⟩)] w (bP b s k w (some ([8],aS s (k+1)))):=by
 obtain⟨X,hX⟩ :∃X:ByteArray,X=s.extract k s.size:=⟨_,rfl⟩;have C1:=aa (fun W h=>ay b s k W h)
 have eE:0<X.size:=by rw[hX,aD s k (by omega)];omega
 have sZ:X[0]=98:=by subst hX;rw[aT s k hk eE];exact hc
 rw[←hX] at C1;have rY:=bF X eE;have HR:=aa h;have I1:=aa (fun W=>eZ ⟨#[97,98,102,110,114,116,118]⟩ 98 W)
 have T1:=aa (fun W h=>bs b s k 1 W h (by omega))
 clear hX h hc;go_enter Tryz.func126,Tryz.ntmps126
 go_wp2_with fail
 refine(C1.out _ HR.out).mono ?_;rintro e w1 ⟨rfl,r1,k1⟩;have R1:=aa r1;have K1:=aa k1;clear r1 k1;go_wp2_with fail
 refine(C1.out _ R1.out).mono ?_;rintro e w2 ⟨rfl,r2,k2⟩;have R2:=aa r2;have K2:=an K1 k2;clear r2 k2;go_wp2_with fail
 refine(I1.out _).mono ?_;rintro e OE ⟨rfl,rfl⟩;rw[show Lib.indexByte (⟨#[97,98,102,110,114,116,118]⟩:ByteArray).data.toList 98=1 from by decide]
 go_wp2_with fail
 refine(T1.out _ R2.out).mono ?_;rintro e w3 ⟨rfl,r3,k3⟩;have R3:=aa r3;have K3:=an K2 k3;clear r3 k3;go_wp2_with fail
 go_ret2
 exact⟨K3.out.alloc _,_,_,rfl,dN _ _ _ rfl,R3.out.alloc _,rfl,by omega⟩
theorem Tu (b:Nat) (s:ByteArray) (k:Nat) (w:World) (h:Rd w b s k) (hk:k<s.size) (hc:s[k]=102):Calls Tryz.prog 126 #[.pointer (some ⟨b,0,none⟩)] w (bP b s k w (some ([12],aS s (k+1)))):=by
 obtain⟨X,hX⟩ :∃X:ByteArray,X=s.extract k s.size:=⟨_,rfl⟩;have C1:=aa (fun W h=>ay b s k W h)
 have eE:0<X.size:=by rw[hX,aD s k (by omega)];omega
 have sZ:X[0]=102:=by subst hX;rw[aT s k hk eE];exact hc
 rw[←hX] at C1;have rY:=bF X eE;have HR:=aa h;have I1:=aa (fun W=>eZ ⟨#[97,98,102,110,114,116,118]⟩ 102 W)
 have T1:=aa (fun W h=>bs b s k 1 W h (by omega))
 clear hX h hc;go_enter Tryz.func126,Tryz.ntmps126
 go_wp2_with fail
 refine(C1.out _ HR.out).mono ?_;rintro e w1 ⟨rfl,r1,k1⟩;have R1:=aa r1;have K1:=aa k1;clear r1 k1;go_wp2_with fail
 refine(C1.out _ R1.out).mono ?_;rintro e w2 ⟨rfl,r2,k2⟩;have R2:=aa r2;have K2:=an K1 k2;clear r2 k2;go_wp2_with fail
 refine(I1.out _).mono ?_;rintro e OE ⟨rfl,rfl⟩;rw[show Lib.indexByte (⟨#[97,98,102,110,114,116,118]⟩:ByteArray).data.toList 102=2 from by decide]
 go_wp2_with fail
 refine(T1.out _ R2.out).mono ?_;rintro e w3 ⟨rfl,r3,k3⟩;have R3:=aa r3;have K3:=an K2 k3;clear r3 k3;go_wp2_with fail
 go_ret2
 exact⟨K3.out.alloc _,_,_,rfl,dN _ _ _ rfl,R3.out.alloc _,rfl,by omega⟩
theorem Tv (b:Nat) (s:ByteArray) (k:Nat) (w:World) (h:Rd w b s k) (hk:k<s.size) (hc:s[k]=110):Calls Tryz.prog 126 #[.pointer (some ⟨b,0,none⟩)] w (bP b s k w (some ([10],aS s (k+1)))):=by
 obtain⟨X,hX⟩ :∃X:ByteArray,X=s.extract k s.size:=⟨_,rfl⟩;have C1:=aa (fun W h=>ay b s k W h)
 have eE:0<X.size:=by rw[hX,aD s k (by omega)];omega
 have sZ:X[0]=110:=by subst hX;rw[aT s k hk eE];exact hc
 rw[←hX] at C1;have rY:=bF X eE;have HR:=aa h;have I1:=aa (fun W=>eZ ⟨#[97,98,102,110,114,116,118]⟩ 110 W)
 have T1:=aa (fun W h=>bs b s k 1 W h (by omega))
 clear hX h hc;go_enter Tryz.func126,Tryz.ntmps126
 go_wp2_with fail
 refine(C1.out _ HR.out).mono ?_;rintro e w1 ⟨rfl,r1,k1⟩;have R1:=aa r1;have K1:=aa k1;clear r1 k1;go_wp2_with fail
 refine(C1.out _ R1.out).mono ?_;rintro e w2 ⟨rfl,r2,k2⟩;have R2:=aa r2;have K2:=an K1 k2;clear r2 k2;go_wp2_with fail
 refine(I1.out _).mono ?_;rintro e OE ⟨rfl,rfl⟩;rw[show Lib.indexByte (⟨#[97,98,102,110,114,116,118]⟩:ByteArray).data.toList 110=3 from by decide]
 go_wp2_with fail
 refine(T1.out _ R2.out).mono ?_;rintro e w3 ⟨rfl,r3,k3⟩;have R3:=aa r3;have K3:=an K2 k3;clear r3 k3;go_wp2_with fail
 go_ret2
 exact⟨K3.out.alloc _,_,_,rfl,dN _ _ _ rfl,R3.out.alloc _,rfl,by omega⟩
theorem Tw (b:Nat) (s:ByteArray) (k:Nat) (w:World) (h:Rd w b s k) (hk:k<s.size) (hc:s[k]=114):Calls Tryz.prog 126 #[.pointer (some ⟨b,0,none⟩)] w (bP b s k w (some ([13],aS s (k+1)))):=by
 obtain⟨X,hX⟩ :∃X:ByteArray,X=s.extract k s.size:=⟨_,rfl⟩;have C1:=aa (fun W h=>ay b s k W h)
 have eE:0<X.size:=by rw[hX,aD s k (by omega)];omega
 have sZ:X[0]=114:=by subst hX;rw[aT s k hk eE];exact hc
 rw[←hX] at C1;have rY:=bF X eE;have HR:=aa h;have I1:=aa (fun W=>eZ ⟨#[97,98,102,110,114,116,118]⟩ 114 W)
 have T1:=aa (fun W h=>bs b s k 1 W h (by omega))
 clear hX h hc;go_enter Tryz.func126,Tryz.ntmps126
 go_wp2_with fail
 refine(C1.out _ HR.out).mono ?_;rintro e w1 ⟨rfl,r1,k1⟩;have R1:=aa r1;have K1:=aa k1;clear r1 k1;go_wp2_with fail
 refine(C1.out _ R1.out).mono ?_;rintro e w2 ⟨rfl,r2,k2⟩;have R2:=aa r2;have K2:=an K1 k2;clear r2 k2;go_wp2_with fail
 refine(I1.out _).mono ?_;rintro e OE ⟨rfl,rfl⟩;rw[show Lib.indexByte (⟨#[97,98,102,110,114,116,118]⟩:ByteArray).data.toList 114=4 from by decide]
 go_wp2_with fail
 refine(T1.out _ R2.out).mono ?_;rintro e w3 ⟨rfl,r3,k3⟩;have R3:=aa r3;have K3:=an K2 k3;clear r3 k3;go_wp2_with fail
 go_ret2
 exact⟨K3.out.alloc _,_,_,rfl,dN _ _ _ rfl,R3.out.alloc _,rfl,by omega⟩
theorem Tx (b:Nat) (s:ByteArray) (k:Nat) (w:World) (h:Rd w b s k) (hk:k<s.size) (hc:s[k]=116):Calls Tryz.prog 126 #[.pointer (some ⟨b,0,none⟩)] w (bP b s k w (some ([9],aS s (k+1)))):=by
 obtain⟨X,hX⟩ :∃X:ByteArray,X=s.extract k s.size:=⟨_,rfl⟩;have C1:=aa (fun W h=>ay b s k W h)
 have eE:0<X.size:=by rw[hX,aD s k (by omega)];omega
 have sZ:X[0]=116:=by subst hX;rw[aT s k hk eE];exact hc
 rw[←hX] at C1;have rY:=bF X eE;have HR:=aa h;have I1:=aa (fun W=>eZ ⟨#[97,98,102,110,114,116,118]⟩ 116 W)
 have T1:=aa (fun W h=>bs b s k 1 W h (by omega))
 clear hX h hc;go_enter Tryz.func126,Tryz.ntmps126
 go_wp2_with fail
 refine(C1.out _ HR.out).mono ?_;rintro e w1 ⟨rfl,r1,k1⟩;have R1:=aa r1;have K1:=aa k1;clear r1 k1;go_wp2_with fail
 refine(C1.out _ R1.out).mono ?_;rintro e w2 ⟨rfl,r2,k2⟩;have R2:=aa r2;have K2:=an K1 k2;clear r2 k2;go_wp2_with fail
 refine(I1.out _).mono ?_;rintro e OE ⟨rfl,rfl⟩;rw[show Lib.indexByte (⟨#[97,98,102,110,114,116,118]⟩:ByteArray).data.toList 116=5 from by decide]
 go_wp2_with fail
 refine(T1.out _ R2.out).mono ?_;rintro e w3 ⟨rfl,r3,k3⟩;have R3:=aa r3;have K3:=an K2 k3;clear r3 k3;go_wp2_with fail
 go_ret2
 exact⟨K3.out.alloc _,_,_,rfl,dN _ _ _ rfl,R3.out.alloc _,rfl,by omega⟩
theorem Ty (b:Nat) (s:ByteArray) (k:Nat) (w:World) (h:Rd w b s k) (hk:k<s.size) (hc:s[k]=118):Calls Tryz.prog 126 #[.pointer (some ⟨b,0,none⟩)] w (bP b s k w (some ([11],aS s (k+1)))):=by
 obtain⟨X,hX⟩ :∃X:ByteArray,X=s.extract k s.size:=⟨_,rfl⟩;have C1:=aa (fun W h=>ay b s k W h)
 have eE:0<X.size:=by rw[hX,aD s k (by omega)];omega
 have sZ:X[0]=118:=by subst hX;rw[aT s k hk eE];exact hc
 rw[←hX] at C1;have rY:=bF X eE;have HR:=aa h;have I1:=aa (fun W=>eZ ⟨#[97,98,102,110,114,116,118]⟩ 118 W)
 have T1:=aa (fun W h=>bs b s k 1 W h (by omega))
 clear hX h hc;go_enter Tryz.func126,Tryz.ntmps126
 go_wp2_with fail
 refine(C1.out _ HR.out).mono ?_;rintro e w1 ⟨rfl,r1,k1⟩;have R1:=aa r1;have K1:=aa k1;clear r1 k1;go_wp2_with fail
 refine(C1.out _ R1.out).mono ?_;rintro e w2 ⟨rfl,r2,k2⟩;have R2:=aa r2;have K2:=an K1 k2;clear r2 k2;go_wp2_with fail
 refine(I1.out _).mono ?_;rintro e OE ⟨rfl,rfl⟩;rw[show Lib.indexByte (⟨#[97,98,102,110,114,116,118]⟩:ByteArray).data.toList 118=6 from by decide]
 go_wp2_with fail
 refine(T1.out _ R2.out).mono ?_;rintro e w3 ⟨rfl,r3,k3⟩;have R3:=aa r3;have K3:=an K2 k3;clear r3 k3;go_wp2_with fail
 go_ret2
 exact⟨K3.out.alloc _,_,_,rfl,dN _ _ _ rfl,R3.out.alloc _,rfl,by omega⟩
theorem Y7 (b:Nat) (s:ByteArray) (k:Nat) (w:World) (h:Rd w b s k) (hk:k<s.size) (hc:s[k]=92):Calls Tryz.prog 126 #[.pointer (some ⟨b,0,none⟩)] w (bP b s k w (some ([92],aS s (k+1)))):=by
 obtain⟨X,hX⟩ :∃X:ByteArray,X=s.extract k s.size:=⟨_,rfl⟩;have C1:=aa (fun W h=>ay b s k W h)
 have eE:0<X.size:=by rw[hX,aD s k (by omega)];omega
 have sZ:X[0]=92:=by subst hX;rw[aT s k hk eE];exact hc
 rw[←hX] at C1;have rY:=bF X eE;have HR:=aa h;have T1:=aa (fun W h=>bs b s k 1 W h (by omega))
 clear hX h hc;go_enter Tryz.func126,Tryz.ntmps126
 go_wp2_with fail
 refine(C1.out _ HR.out).mono ?_;rintro e w1 ⟨rfl,r1,k1⟩;have R1:=aa r1;have K1:=aa k1;clear r1 k1;go_wp2_with fail
 refine(C1.out _ R1.out).mono ?_;rintro e w2 ⟨rfl,r2,k2⟩;have R2:=aa r2;have K2:=an K1 k2;clear r2 k2;go_wp2_with fail
 refine(T1.out _ R2.out).mono ?_;rintro e w3 ⟨rfl,r3,k3⟩;have R3:=aa r3;have K3:=an K2 k3;clear r3 k3;go_wp2_with fail
 go_ret2
 exact⟨K3.out.alloc _,_,_,rfl,dN _ _ _ rfl,R3.out.alloc _,rfl,by omega⟩
theorem Y8 (b:Nat) (s:ByteArray) (k:Nat) (w:World) (h:Rd w b s k) (hk:k<s.size) (hc:s[k]=39):Calls Tryz.prog 126 #[.pointer (some ⟨b,0,none⟩)] w (bP b s k w (some ([39],aS s (k+1)))):=by
 obtain⟨X,hX⟩ :∃X:ByteArray,X=s.extract k s.size:=⟨_,rfl⟩;have C1:=aa (fun W h=>ay b s k W h)
 have eE:0<X.size:=by rw[hX,aD s k (by omega)];omega
 have sZ:X[0]=39:=by subst hX;rw[aT s k hk eE];exact hc
 rw[←hX] at C1;have rY:=bF X eE;have HR:=aa h;have T1:=aa (fun W h=>bs b s k 1 W h (by omega))
 clear hX h hc;go_enter Tryz.func126,Tryz.ntmps126
 go_wp2_with fail
 refine(C1.out _ HR.out).mono ?_;rintro e w1 ⟨rfl,r1,k1⟩;have R1:=aa r1;have K1:=aa k1;clear r1 k1;go_wp2_with fail
 refine(C1.out _ R1.out).mono ?_;rintro e w2 ⟨rfl,r2,k2⟩;have R2:=aa r2;have K2:=an K1 k2;clear r2 k2;go_wp2_with fail
 refine(T1.out _ R2.out).mono ?_;rintro e w3 ⟨rfl,r3,k3⟩;have R3:=aa r3;have K3:=an K2 k3;clear r3 k3;go_wp2_with fail
 go_ret2
 exact⟨K3.out.alloc _,_,_,rfl,dN _ _ _ rfl,R3.out.alloc _,rfl,by omega⟩
theorem Y9 (b:Nat) (s:ByteArray) (k:Nat) (w:World) (h:Rd w b s k) (hk:k<s.size) (hc:s[k]=34):Calls Tryz.prog 126 #[.pointer (some ⟨b,0,none⟩)] w (bP b s k w (some ([34],aS s (k+1)))):=by
 obtain⟨X,hX⟩ :∃X:ByteArray,X=s.extract k s.size:=⟨_,rfl⟩;have C1:=aa (fun W h=>ay b s k W h)
 have eE:0<X.size:=by rw[hX,aD s k (by omega)];omega
 have sZ:X[0]=34:=by subst hX;rw[aT s k hk eE];exact hc
 rw[←hX] at C1;have rY:=bF X eE;have HR:=aa h;have T1:=aa (fun W h=>bs b s k 1 W h (by omega))
 clear hX h hc;go_enter Tryz.func126,Tryz.ntmps126
 go_wp2_with fail
 refine(C1.out _ HR.out).mono ?_;rintro e w1 ⟨rfl,r1,k1⟩;have R1:=aa r1;have K1:=aa k1;clear r1 k1;go_wp2_with fail
 refine(C1.out _ R1.out).mono ?_;rintro e w2 ⟨rfl,r2,k2⟩;have R2:=aa r2;have K2:=an K1 k2;clear r2 k2;go_wp2_with fail
 refine(T1.out _ R2.out).mono ?_;rintro e w3 ⟨rfl,r3,k3⟩;have R3:=aa r3;have K3:=an K2 k3;clear r3 k3;go_wp2_with fail
 go_ret2
 exact⟨K3.out.alloc _,_,_,rfl,dN _ _ _ rfl,R3.out.alloc _,rfl,by omega⟩
theorem Za (b:Nat) (s:ByteArray) (k:Nat) (w:World) (h:Rd w b s k) (hk:k<s.size) (hc:s[k]=10):Calls Tryz.prog 126 #[.pointer (some ⟨b,0,none⟩)] w (bP b s k w (some ([10],aS s (k+1)))):=by
 obtain⟨X,hX⟩ :∃X:ByteArray,X=s.extract k s.size:=⟨_,rfl⟩;have C1:=aa (fun W h=>ay b s k W h)
 have eE:0<X.size:=by rw[hX,aD s k (by omega)];omega
 have sZ:X[0]=10:=by subst hX;rw[aT s k hk eE];exact hc
 rw[←hX] at C1;have rY:=bF X eE;have HR:=aa h;have T1:=aa (fun W h=>bs b s k 1 W h (by omega))
 clear hX h hc;go_enter Tryz.func126,Tryz.ntmps126
 go_wp2_with fail
 refine(C1.out _ HR.out).mono ?_;rintro e w1 ⟨rfl,r1,k1⟩;have R1:=aa r1;have K1:=aa k1;clear r1 k1;go_wp2_with fail
 refine(C1.out _ R1.out).mono ?_;rintro e w2 ⟨rfl,r2,k2⟩;have R2:=aa r2;have K2:=an K1 k2;clear r2 k2;go_wp2_with fail
 refine(T1.out _ R2.out).mono ?_;rintro e w3 ⟨rfl,r3,k3⟩;have R3:=aa r3;have K3:=an K2 k3;clear r3 k3;go_wp2_with fail
 go_ret2
 exact⟨K3.out.alloc _,_,_,rfl,dN _ _ _ rfl,R3.out.alloc _,rfl,by omega⟩
theorem Tz (b:Nat) (s:ByteArray) (k:Nat) (w:World) (h:Rd w b s k) (hk:k<s.size) (hc:s[k]=122):Calls Tryz.prog 126 #[.pointer (some ⟨b,0,none⟩)] w (bP b s k w (some ([],(aS s (k+1)).dropWhile tE))):=by
 obtain⟨X,hX⟩ :∃X:ByteArray,X=s.extract k s.size:=⟨_,rfl⟩;have C1:=aa (fun W h=>ay b s k W h)
 have eE:0<X.size:=by rw[hX,aD s k (by omega)];omega
 have sZ:X[0]=122:=by subst hX;rw[aT s k hk eE];exact hc
 rw[←hX] at C1;have rY:=bF X eE;have HR:=aa h;have T1:=aa (fun W h=>bs b s k 1 W h (by omega))
 obtain⟨m,hm⟩ :∃m:Nat,m=runN tE (aS s (k+1)):=⟨_,rfl⟩;have C2:=aa (fun W=>xW (s.extract (k+1) s.size) W (by rw[aD s _ (by omega)];have:=h.top;omega))
 rw[dh,←hm] at C2;have yD:=ic tE (aS s (k+1));rw[fQ,←hm] at yD;have hdw:(aS s (k+1)).dropWhile tE=aS s (k+1+m):=by rw[←qN,←hm,e7]
 have HD:=aa hdw;clear hX h hc hm hdw;go_enter Tryz.func126,Tryz.ntmps126
 go_wp2_with fail
 refine(C1.out _ HR.out).mono ?_;rintro e w1 ⟨rfl,r1,k1⟩;have R1:=aa r1;have K1:=aa k1;clear r1 k1;go_wp2_with fail
 refine(C1.out _ R1.out).mono ?_;rintro e w2 ⟨rfl,r2,k2⟩;have R2:=aa r2;have K2:=an K1 k2;clear r2 k2;go_wp2_with fail
 refine(T1.out _ R2.out).mono ?_;rintro e w3 ⟨rfl,r3,k3⟩;have R3:=aa r3;have K3:=an K2 k3;clear r3 k3;go_wp2_with fail
 refine(ay _ _ _ _ R3.out).mono ?_;rintro e w4 ⟨rfl,r4,k4⟩;have R4:=aa r4;have K4:=an K3 k4;clear r4 k4;go_wp2_with fail
 refine(C2.out _).mono ?_;rintro e w4' ⟨rfl,rfl⟩;go_wp2_with fail
 refine(bs _ _ _ _ _ R4.out (by omega)).mono ?_;rintro e w5 ⟨rfl,r5,k5⟩
 have R5:=aa r5;have K5:=an K4 k5;clear r5 k5;go_wp2_with fail
 go_ret2
 exact⟨K5.out,_,_,rfl,.inl ⟨rfl,rfl⟩,R5.out,HD.out.symm,by omega⟩
theorem TB (b:Nat) (s:ByteArray) (k:Nat) (w:World) (h:Rd w b s k) (hk:k<s.size) (hc:s[k]=120):Calls Tryz.prog 126 #[.pointer (some ⟨b,0,none⟩)] w (bP b s k w (code 16 zQ 2 2 (aS s (k+1)))):=by
 obtain⟨X,hX⟩ :∃X:ByteArray,X=s.extract k s.size:=⟨_,rfl⟩;have C1:=aa (fun W h=>ay b s k W h)
 have eE:0<X.size:=by rw[hX,aD s k (by omega)];omega
 have sZ:X[0]=120:=by subst hX;rw[aT s k hk eE];exact hc
 rw[←hX] at C1;have rY:=bF X eE;have HR:=aa h;have T1:=aa (fun W h=>bs b s k 1 W h (by omega))
 have C2:=aa (fun W h=>OL b s (k+1) W h)
 obtain⟨o,ho⟩ :∃o,o=code 16 zQ 2 2 (aS s (k+1)):=⟨_,rfl⟩;rw[←ho] at C2 ⊢;clear hX h hc ho;rcases o with _ | ⟨m,r⟩
 ·go_enter Tryz.func126,Tryz.ntmps126
  go_wp2_with fail
  refine(C1.out _ HR.out).mono ?_;rintro e w1 ⟨rfl,r1,k1⟩;have R1:=aa r1;have K1:=aa k1;clear r1 k1;go_wp2_with fail
  refine(C1.out _ R1.out).mono ?_;rintro e w2 ⟨rfl,r2,k2⟩;have R2:=aa r2;have K2:=an K1 k2;clear r2 k2;go_wp2_with fail
  refine(T1.out _ R2.out).mono ?_;rintro e w3 ⟨rfl,r3,k3⟩;have R3:=aa r3;have K3:=an K2 k3;clear r3 k3;go_wp2_with fail
  refine(C2.out _ R3.out).mono ?_;intro e w4 fV;obtain⟨k4,rfl⟩:=fV;have K4:=an K3 k4;clear k4;go_wp2_with fail
  go_ret2
  exact⟨K4.out,rfl⟩
 ·go_enter Tryz.func126,Tryz.ntmps126
  go_wp2_with fail
  refine(C1.out _ HR.out).mono ?_;rintro e w1 ⟨rfl,r1,k1⟩;have R1:=aa r1;have K1:=aa k1;clear r1 k1;go_wp2_with fail
  refine(C1.out _ R1.out).mono ?_;rintro e w2 ⟨rfl,r2,k2⟩;have R2:=aa r2;have K2:=an K1 k2;clear r2 k2;go_wp2_with fail
  refine(T1.out _ R2.out).mono ?_;rintro e w3 ⟨rfl,r3,k3⟩;have R3:=aa r3;have K3:=an K2 k3;clear r3 k3;go_wp2_with fail
  refine(C2.out _ R3.out).mono ?_;intro e w4 fV;obtain⟨k4,k',v,rfl,hb4,r4,hr4,hl4⟩:=fV;have K4:=an K3 k4;have R4:=aa r4;have HB:=aa hb4;have HE:=aa hr4;clear k4 r4 hb4 hr4;go_wp2_with fail
  go_ret2
  exact⟨K4.out,_,_,rfl,HB.out,R4.out,HE.out,by omega⟩
theorem Zb (b:Nat) (s:ByteArray) (k:Nat) (w:World) (h:Rd w b s k) (hk:k<s.size) (hc:s[k]=48):Calls Tryz.prog 126 #[.pointer (some ⟨b,0,none⟩)] w (bP b s k w (code 10 gm 1 3 (aS s k))):=by
 obtain⟨X,hX⟩ :∃X:ByteArray,X=s.extract k s.size:=⟨_,rfl⟩;have C1:=aa (fun W h=>ay b s k W h)
 have eE:0<X.size:=by rw[hX,aD s k (by omega)];omega
 have sZ:X[0]=48:=by subst hX;rw[aT s k hk eE];exact hc
 rw[←hX] at C1;have rY:=bF X eE;have HR:=aa h;have C2:=aa (fun W h=>dQ b s k W h)
 obtain⟨o,ho⟩ :∃o,o=code 10 gm 1 3 (aS s k):=⟨_,rfl⟩;rw[←ho] at C2 ⊢;clear hX h hc ho;rcases o with _ | ⟨m,r⟩
 ·go_enter Tryz.func126,Tryz.ntmps126
  go_wp2_with fail
  refine(C1.out _ HR.out).mono ?_;rintro e w1 ⟨rfl,r1,k1⟩;have R1:=aa r1;have K1:=aa k1;clear r1 k1;go_wp2_with fail
  refine(C1.out _ R1.out).mono ?_;rintro e w2 ⟨rfl,r2,k2⟩;have R2:=aa r2;have K2:=an K1 k2;clear r2 k2;go_wp2_with fail
  refine(C2.out _ R2.out).mono ?_;intro e w4 fV;obtain⟨k4,rfl⟩:=fV;have K4:=an K2 k4;clear k4;go_wp2_with fail
  go_ret2
  exact⟨K4.out,rfl⟩
 ·go_enter Tryz.func126,Tryz.ntmps126
  go_wp2_with fail
  refine(C1.out _ HR.out).mono ?_;rintro e w1 ⟨rfl,r1,k1⟩;have R1:=aa r1;have K1:=aa k1;clear r1 k1;go_wp2_with fail
  refine(C1.out _ R1.out).mono ?_;rintro e w2 ⟨rfl,r2,k2⟩;have R2:=aa r2;have K2:=an K1 k2;clear r2 k2;go_wp2_with fail
  refine(C2.out _ R2.out).mono ?_;intro e w4 fV;obtain⟨k4,k',v,rfl,hb4,r4,hr4,hl4⟩:=fV;have K4:=an K2 k4;have R4:=aa r4;have HB:=aa hb4;have HE:=aa hr4;clear k4 r4 hb4 hr4;go_wp2_with fail
  go_ret2
  exact⟨K4.out,_,_,rfl,HB.out,R4.out,HE.out,by omega⟩
theorem Zc (b:Nat) (s:ByteArray) (k:Nat) (w:World) (h:Rd w b s k) (hk:k<s.size) (hc:s[k]=49):Calls Tryz.prog 126 #[.pointer (some ⟨b,0,none⟩)] w (bP b s k w (code 10 gm 1 3 (aS s k))):=by
 obtain⟨X,hX⟩ :∃X:ByteArray,X=s.extract k s.size:=⟨_,rfl⟩;have C1:=aa (fun W h=>ay b s k W h)
 have eE:0<X.size:=by rw[hX,aD s k (by omega)];omega
 have sZ:X[0]=49:=by subst hX;rw[aT s k hk eE];exact hc
 rw[←hX] at C1;have rY:=bF X eE;have HR:=aa h;have C2:=aa (fun W h=>dQ b s k W h)
 obtain⟨o,ho⟩ :∃o,o=code 10 gm 1 3 (aS s k):=⟨_,rfl⟩;rw[←ho] at C2 ⊢;clear hX h hc ho;rcases o with _ | ⟨m,r⟩
 ·go_enter Tryz.func126,Tryz.ntmps126
  go_wp2_with fail
  refine(C1.out _ HR.out).mono ?_;rintro e w1 ⟨rfl,r1,k1⟩;have R1:=aa r1;have K1:=aa k1;clear r1 k1;go_wp2_with fail
  refine(C1.out _ R1.out).mono ?_;rintro e w2 ⟨rfl,r2,k2⟩;have R2:=aa r2;have K2:=an K1 k2;clear r2 k2;go_wp2_with fail
  refine(C2.out _ R2.out).mono ?_;intro e w4 fV;obtain⟨k4,rfl⟩:=fV;have K4:=an K2 k4;clear k4;go_wp2_with fail
  go_ret2
  exact⟨K4.out,rfl⟩
 ·go_enter Tryz.func126,Tryz.ntmps126
  go_wp2_with fail
  refine(C1.out _ HR.out).mono ?_;rintro e w1 ⟨rfl,r1,k1⟩;have R1:=aa r1;have K1:=aa k1;clear r1 k1;go_wp2_with fail
  refine(C1.out _ R1.out).mono ?_;rintro e w2 ⟨rfl,r2,k2⟩;have R2:=aa r2;have K2:=an K1 k2;clear r2 k2;go_wp2_with fail
  refine(C2.out _ R2.out).mono ?_;intro e w4 fV;obtain⟨k4,k',v,rfl,hb4,r4,hr4,hl4⟩:=fV;have K4:=an K2 k4;have R4:=aa r4;have HB:=aa hb4;have HE:=aa hr4;clear k4 r4 hb4 hr4;go_wp2_with fail
  go_ret2
  exact⟨K4.out,_,_,rfl,HB.out,R4.out,HE.out,by omega⟩
theorem Zd (b:Nat) (s:ByteArray) (k:Nat) (w:World) (h:Rd w b s k) (hk:k<s.size) (hc:s[k]=50):Calls Tryz.prog 126 #[.pointer (some ⟨b,0,none⟩)] w (bP b s k w (code 10 gm 1 3 (aS s k))):=by
 obtain⟨X,hX⟩ :∃X:ByteArray,X=s.extract k s.size:=⟨_,rfl⟩;have C1:=aa (fun W h=>ay b s k W h)
 have eE:0<X.size:=by rw[hX,aD s k (by omega)];omega
 have sZ:X[0]=50:=by subst hX;rw[aT s k hk eE];exact hc
 rw[←hX] at C1;have rY:=bF X eE;have HR:=aa h;have C2:=aa (fun W h=>dQ b s k W h)
 obtain⟨o,ho⟩ :∃o,o=code 10 gm 1 3 (aS s k):=⟨_,rfl⟩;rw[←ho] at C2 ⊢;clear hX h hc ho;rcases o with _ | ⟨m,r⟩
 ·go_enter Tryz.func126,Tryz.ntmps126
  go_wp2_with fail
  refine(C1.out _ HR.out).mono ?_;rintro e w1 ⟨rfl,r1,k1⟩;have R1:=aa r1;have K1:=aa k1;clear r1 k1;go_wp2_with fail
  refine(C1.out _ R1.out).mono ?_;rintro e w2 ⟨rfl,r2,k2⟩;have R2:=aa r2;have K2:=an K1 k2;clear r2 k2;go_wp2_with fail
  refine(C2.out _ R2.out).mono ?_;intro e w4 fV;obtain⟨k4,rfl⟩:=fV;have K4:=an K2 k4;clear k4;go_wp2_with fail
  go_ret2
  exact⟨K4.out,rfl⟩
 ·go_enter Tryz.func126,Tryz.ntmps126
  go_wp2_with fail
  refine(C1.out _ HR.out).mono ?_;rintro e w1 ⟨rfl,r1,k1⟩;have R1:=aa r1;have K1:=aa k1;clear r1 k1;go_wp2_with fail
  refine(C1.out _ R1.out).mono ?_;rintro e w2 ⟨rfl,r2,k2⟩;have R2:=aa r2;have K2:=an K1 k2;clear r2 k2;go_wp2_with fail
  refine(C2.out _ R2.out).mono ?_;intro e w4 fV;obtain⟨k4,k',v,rfl,hb4,r4,hr4,hl4⟩:=fV;have K4:=an K2 k4;have R4:=aa r4;have HB:=aa hb4;have HE:=aa hr4;clear k4 r4 hb4 hr4;go_wp2_with fail
  go_ret2
  exact⟨K4.out,_,_,rfl,HB.out,R4.out,HE.out,by omega⟩
theorem Ze (b:Nat) (s:ByteArray) (k:Nat) (w:World) (h:Rd w b s k) (hk:k<s.size) (hc:s[k]=51):Calls Tryz.prog 126 #[.pointer (some ⟨b,0,none⟩)] w (bP b s k w (code 10 gm 1 3 (aS s k))):=by
 obtain⟨X,hX⟩ :∃X:ByteArray,X=s.extract k s.size:=⟨_,rfl⟩;have C1:=aa (fun W h=>ay b s k W h)
 have eE:0<X.size:=by rw[hX,aD s k (by omega)];omega
 have sZ:X[0]=51:=by subst hX;rw[aT s k hk eE];exact hc
 rw[←hX] at C1;have rY:=bF X eE;have HR:=aa h;have C2:=aa (fun W h=>dQ b s k W h)
 obtain⟨o,ho⟩ :∃o,o=code 10 gm 1 3 (aS s k):=⟨_,rfl⟩;rw[←ho] at C2 ⊢;clear hX h hc ho;rcases o with _ | ⟨m,r⟩
 ·go_enter Tryz.func126,Tryz.ntmps126
  go_wp2_with fail
  refine(C1.out _ HR.out).mono ?_;rintro e w1 ⟨rfl,r1,k1⟩;have R1:=aa r1;have K1:=aa k1;clear r1 k1;go_wp2_with fail
  refine(C1.out _ R1.out).mono ?_;rintro e w2 ⟨rfl,r2,k2⟩;have R2:=aa r2;have K2:=an K1 k2;clear r2 k2;go_wp2_with fail
  refine(C2.out _ R2.out).mono ?_;intro e w4 fV;obtain⟨k4,rfl⟩:=fV;have K4:=an K2 k4;clear k4;go_wp2_with fail
  go_ret2
  exact⟨K4.out,rfl⟩
 ·go_enter Tryz.func126,Tryz.ntmps126
  go_wp2_with fail
  refine(C1.out _ HR.out).mono ?_;rintro e w1 ⟨rfl,r1,k1⟩;have R1:=aa r1;have K1:=aa k1;clear r1 k1;go_wp2_with fail
  refine(C1.out _ R1.out).mono ?_;rintro e w2 ⟨rfl,r2,k2⟩;have R2:=aa r2;have K2:=an K1 k2;clear r2 k2;go_wp2_with fail
  refine(C2.out _ R2.out).mono ?_;intro e w4 fV;obtain⟨k4,k',v,rfl,hb4,r4,hr4,hl4⟩:=fV;have K4:=an K2 k4;have R4:=aa r4;have HB:=aa hb4;have HE:=aa hr4;clear k4 r4 hb4 hr4;go_wp2_with fail
  go_ret2
  exact⟨K4.out,_,_,rfl,HB.out,R4.out,HE.out,by omega⟩
theorem Zf (b:Nat) (s:ByteArray) (k:Nat) (w:World) (h:Rd w b s k) (hk:k<s.size) (hc:s[k]=52):Calls Tryz.prog 126 #[.pointer (some ⟨b,0,none⟩)] w (bP b s k w (code 10 gm 1 3 (aS s k))):=by
 obtain⟨X,hX⟩ :∃X:ByteArray,X=s.extract k s.size:=⟨_,rfl⟩;have C1:=aa (fun W h=>ay b s k W h)
 have eE:0<X.size:=by rw[hX,aD s k (by omega)];omega
 have sZ:X[0]=52:=by subst hX;rw[aT s k hk eE];exact hc
 rw[←hX] at C1;have rY:=bF X eE;have HR:=aa h;have C2:=aa (fun W h=>dQ b s k W h)
 obtain⟨o,ho⟩ :∃o,o=code 10 gm 1 3 (aS s k):=⟨_,rfl⟩;rw[←ho] at C2 ⊢;clear hX h hc ho;rcases o with _ | ⟨m,r⟩
 ·go_enter Tryz.func126,Tryz.ntmps126
  go_wp2_with fail
  refine(C1.out _ HR.out).mono ?_;rintro e w1 ⟨rfl,r1,k1⟩;have R1:=aa r1;have K1:=aa k1;clear r1 k1;go_wp2_with fail
  refine(C1.out _ R1.out).mono ?_;rintro e w2 ⟨rfl,r2,k2⟩;have R2:=aa r2;have K2:=an K1 k2;clear r2 k2;go_wp2_with fail
  refine(C2.out _ R2.out).mono ?_;intro e w4 fV;obtain⟨k4,rfl⟩:=fV;have K4:=an K2 k4;clear k4;go_wp2_with fail
  go_ret2
  exact⟨K4.out,rfl⟩
 ·go_enter Tryz.func126,Tryz.ntmps126
  go_wp2_with fail
  refine(C1.out _ HR.out).mono ?_;rintro e w1 ⟨rfl,r1,k1⟩;have R1:=aa r1;have K1:=aa k1;clear r1 k1;go_wp2_with fail
  refine(C1.out _ R1.out).mono ?_;rintro e w2 ⟨rfl,r2,k2⟩;have R2:=aa r2;have K2:=an K1 k2;clear r2 k2;go_wp2_with fail
  refine(C2.out _ R2.out).mono ?_;intro e w4 fV;obtain⟨k4,k',v,rfl,hb4,r4,hr4,hl4⟩:=fV;have K4:=an K2 k4;have R4:=aa r4;have HB:=aa hb4;have HE:=aa hr4;clear k4 r4 hb4 hr4;go_wp2_with fail
  go_ret2
  exact⟨K4.out,_,_,rfl,HB.out,R4.out,HE.out,by omega⟩
theorem Zg (b:Nat) (s:ByteArray) (k:Nat) (w:World) (h:Rd w b s k) (hk:k<s.size) (hc:s[k]=53):Calls Tryz.prog 126 #[.pointer (some ⟨b,0,none⟩)] w (bP b s k w (code 10 gm 1 3 (aS s k))):=by
 obtain⟨X,hX⟩ :∃X:ByteArray,X=s.extract k s.size:=⟨_,rfl⟩;have C1:=aa (fun W h=>ay b s k W h)
 have eE:0<X.size:=by rw[hX,aD s k (by omega)];omega
 have sZ:X[0]=53:=by subst hX;rw[aT s k hk eE];exact hc
 rw[←hX] at C1;have rY:=bF X eE;have HR:=aa h;have C2:=aa (fun W h=>dQ b s k W h)
 obtain⟨o,ho⟩ :∃o,o=code 10 gm 1 3 (aS s k):=⟨_,rfl⟩;rw[←ho] at C2 ⊢;clear hX h hc ho;rcases o with _ | ⟨m,r⟩
 ·go_enter Tryz.func126,Tryz.ntmps126
  go_wp2_with fail
  refine(C1.out _ HR.out).mono ?_;rintro e w1 ⟨rfl,r1,k1⟩;have R1:=aa r1;have K1:=aa k1;clear r1 k1;go_wp2_with fail
  refine(C1.out _ R1.out).mono ?_;rintro e w2 ⟨rfl,r2,k2⟩;have R2:=aa r2;have K2:=an K1 k2;clear r2 k2;go_wp2_with fail
  refine(C2.out _ R2.out).mono ?_;intro e w4 fV;obtain⟨k4,rfl⟩:=fV;have K4:=an K2 k4;clear k4;go_wp2_with fail
  go_ret2
  exact⟨K4.out,rfl⟩
 ·go_enter Tryz.func126,Tryz.ntmps126
  go_wp2_with fail
  refine(C1.out _ HR.out).mono ?_;rintro e w1 ⟨rfl,r1,k1⟩;have R1:=aa r1;have K1:=aa k1;clear r1 k1;go_wp2_with fail
  refine(C1.out _ R1.out).mono ?_;rintro e w2 ⟨rfl,r2,k2⟩;have R2:=aa r2;have K2:=an K1 k2;clear r2 k2;go_wp2_with fail
  refine(C2.out _ R2.out).mono ?_;intro e w4 fV;obtain⟨k4,k',v,rfl,hb4,r4,hr4,hl4⟩:=fV;have K4:=an K2 k4;have R4:=aa r4;have HB:=aa hb4;have HE:=aa hr4;clear k4 r4 hb4 hr4;go_wp2_with fail
  go_ret2
  exact⟨K4.out,_,_,rfl,HB.out,R4.out,HE.out,by omega⟩
theorem Zh (b:Nat) (s:ByteArray) (k:Nat) (w:World) (h:Rd w b s k) (hk:k<s.size) (hc:s[k]=54):Calls Tryz.prog 126 #[.pointer (some ⟨b,0,none⟩)] w (bP b s k w (code 10 gm 1 3 (aS s k))):=by
 obtain⟨X,hX⟩ :∃X:ByteArray,X=s.extract k s.size:=⟨_,rfl⟩;have C1:=aa (fun W h=>ay b s k W h)
 have eE:0<X.size:=by rw[hX,aD s k (by omega)];omega
 have sZ:X[0]=54:=by subst hX;rw[aT s k hk eE];exact hc
 rw[←hX] at C1;have rY:=bF X eE;have HR:=aa h;have C2:=aa (fun W h=>dQ b s k W h)
 obtain⟨o,ho⟩ :∃o,o=code 10 gm 1 3 (aS s k):=⟨_,rfl⟩;rw[←ho] at C2 ⊢;clear hX h hc ho;rcases o with _ | ⟨m,r⟩
 ·go_enter Tryz.func126,Tryz.ntmps126
  go_wp2_with fail
  refine(C1.out _ HR.out).mono ?_;rintro e w1 ⟨rfl,r1,k1⟩;have R1:=aa r1;have K1:=aa k1;clear r1 k1;go_wp2_with fail
  refine(C1.out _ R1.out).mono ?_;rintro e w2 ⟨rfl,r2,k2⟩;have R2:=aa r2;have K2:=an K1 k2;clear r2 k2;go_wp2_with fail
  refine(C2.out _ R2.out).mono ?_;intro e w4 fV;obtain⟨k4,rfl⟩:=fV;have K4:=an K2 k4;clear k4;go_wp2_with fail
  go_ret2
  exact⟨K4.out,rfl⟩
 ·go_enter Tryz.func126,Tryz.ntmps126
  go_wp2_with fail
  refine(C1.out _ HR.out).mono ?_;rintro e w1 ⟨rfl,r1,k1⟩;have R1:=aa r1;have K1:=aa k1;clear r1 k1;go_wp2_with fail
  refine(C1.out _ R1.out).mono ?_;rintro e w2 ⟨rfl,r2,k2⟩;have R2:=aa r2;have K2:=an K1 k2;clear r2 k2;go_wp2_with fail
  refine(C2.out _ R2.out).mono ?_;intro e w4 fV;obtain⟨k4,k',v,rfl,hb4,r4,hr4,hl4⟩:=fV;have K4:=an K2 k4;have R4:=aa r4;have HB:=aa hb4;have HE:=aa hr4;clear k4 r4 hb4 hr4;go_wp2_with fail
  go_ret2
  exact⟨K4.out,_,_,rfl,HB.out,R4.out,HE.out,by omega⟩
theorem Zi (b:Nat) (s:ByteArray) (k:Nat) (w:World) (h:Rd w b s k) (hk:k<s.size) (hc:s[k]=55):Calls Tryz.prog 126 #[.pointer (some ⟨b,0,none⟩)] w (bP b s k w (code 10 gm 1 3 (aS s k))):=by
 obtain⟨X,hX⟩ :∃X:ByteArray,X=s.extract k s.size:=⟨_,rfl⟩;have C1:=aa (fun W h=>ay b s k W h)
 have eE:0<X.size:=by rw[hX,aD s k (by omega)];omega
 have sZ:X[0]=55:=by subst hX;rw[aT s k hk eE];exact hc
 rw[←hX] at C1;have rY:=bF X eE;have HR:=aa h;have C2:=aa (fun W h=>dQ b s k W h)
 obtain⟨o,ho⟩ :∃o,o=code 10 gm 1 3 (aS s k):=⟨_,rfl⟩;rw[←ho] at C2 ⊢;clear hX h hc ho;rcases o with _ | ⟨m,r⟩
 ·go_enter Tryz.func126,Tryz.ntmps126
  go_wp2_with fail
  refine(C1.out _ HR.out).mono ?_;rintro e w1 ⟨rfl,r1,k1⟩;have R1:=aa r1;have K1:=aa k1;clear r1 k1;go_wp2_with fail
  refine(C1.out _ R1.out).mono ?_;rintro e w2 ⟨rfl,r2,k2⟩;have R2:=aa r2;have K2:=an K1 k2;clear r2 k2;go_wp2_with fail
  refine(C2.out _ R2.out).mono ?_;intro e w4 fV;obtain⟨k4,rfl⟩:=fV;have K4:=an K2 k4;clear k4;go_wp2_with fail
  go_ret2
  exact⟨K4.out,rfl⟩
 ·go_enter Tryz.func126,Tryz.ntmps126
  go_wp2_with fail
  refine(C1.out _ HR.out).mono ?_;rintro e w1 ⟨rfl,r1,k1⟩;have R1:=aa r1;have K1:=aa k1;clear r1 k1;go_wp2_with fail
  refine(C1.out _ R1.out).mono ?_;rintro e w2 ⟨rfl,r2,k2⟩;have R2:=aa r2;have K2:=an K1 k2;clear r2 k2;go_wp2_with fail
  refine(C2.out _ R2.out).mono ?_;intro e w4 fV;obtain⟨k4,k',v,rfl,hb4,r4,hr4,hl4⟩:=fV;have K4:=an K2 k4;have R4:=aa r4;have HB:=aa hb4;have HE:=aa hr4;clear k4 r4 hb4 hr4;go_wp2_with fail
  go_ret2
  exact⟨K4.out,_,_,rfl,HB.out,R4.out,HE.out,by omega⟩
theorem Zj (b:Nat) (s:ByteArray) (k:Nat) (w:World) (h:Rd w b s k) (hk:k<s.size) (hc:s[k]=56):Calls Tryz.prog 126 #[.pointer (some ⟨b,0,none⟩)] w (bP b s k w (code 10 gm 1 3 (aS s k))):=by
 obtain⟨X,hX⟩ :∃X:ByteArray,X=s.extract k s.size:=⟨_,rfl⟩;have C1:=aa (fun W h=>ay b s k W h)
 have eE:0<X.size:=by rw[hX,aD s k (by omega)];omega
 have sZ:X[0]=56:=by subst hX;rw[aT s k hk eE];exact hc
 rw[←hX] at C1;have rY:=bF X eE;have HR:=aa h;have C2:=aa (fun W h=>dQ b s k W h)
 obtain⟨o,ho⟩ :∃o,o=code 10 gm 1 3 (aS s k):=⟨_,rfl⟩;rw[←ho] at C2 ⊢;clear hX h hc ho;rcases o with _ | ⟨m,r⟩
 ·go_enter Tryz.func126,Tryz.ntmps126
  go_wp2_with fail
  refine(C1.out _ HR.out).mono ?_;rintro e w1 ⟨rfl,r1,k1⟩;have R1:=aa r1;have K1:=aa k1;clear r1 k1;go_wp2_with fail
  refine(C1.out _ R1.out).mono ?_;rintro e w2 ⟨rfl,r2,k2⟩;have R2:=aa r2;have K2:=an K1 k2;clear r2 k2;go_wp2_with fail
  refine(C2.out _ R2.out).mono ?_;intro e w4 fV;obtain⟨k4,rfl⟩:=fV;have K4:=an K2 k4;clear k4;go_wp2_with fail
  go_ret2
  exact⟨K4.out,rfl⟩
 ·go_enter Tryz.func126,Tryz.ntmps126
  go_wp2_with fail
  refine(C1.out _ HR.out).mono ?_;rintro e w1 ⟨rfl,r1,k1⟩;have R1:=aa r1;have K1:=aa k1;clear r1 k1;go_wp2_with fail
  refine(C1.out _ R1.out).mono ?_;rintro e w2 ⟨rfl,r2,k2⟩;have R2:=aa r2;have K2:=an K1 k2;clear r2 k2;go_wp2_with fail
  refine(C2.out _ R2.out).mono ?_;intro e w4 fV;obtain⟨k4,k',v,rfl,hb4,r4,hr4,hl4⟩:=fV;have K4:=an K2 k4;have R4:=aa r4;have HB:=aa hb4;have HE:=aa hr4;clear k4 r4 hb4 hr4;go_wp2_with fail
  go_ret2
  exact⟨K4.out,_,_,rfl,HB.out,R4.out,HE.out,by omega⟩
theorem Zk (b:Nat) (s:ByteArray) (k:Nat) (w:World) (h:Rd w b s k) (hk:k<s.size) (hc:s[k]=57):Calls Tryz.prog 126 #[.pointer (some ⟨b,0,none⟩)] w (bP b s k w (code 10 gm 1 3 (aS s k))):=by
 obtain⟨X,hX⟩ :∃X:ByteArray,X=s.extract k s.size:=⟨_,rfl⟩;have C1:=aa (fun W h=>ay b s k W h)
 have eE:0<X.size:=by rw[hX,aD s k (by omega)];omega
 have sZ:X[0]=57:=by subst hX;rw[aT s k hk eE];exact hc
 rw[←hX] at C1;have rY:=bF X eE;have HR:=aa h;have C2:=aa (fun W h=>dQ b s k W h)
 obtain⟨o,ho⟩ :∃o,o=code 10 gm 1 3 (aS s k):=⟨_,rfl⟩;rw[←ho] at C2 ⊢;clear hX h hc ho;rcases o with _ | ⟨m,r⟩
 ·go_enter Tryz.func126,Tryz.ntmps126
  go_wp2_with fail
  refine(C1.out _ HR.out).mono ?_;rintro e w1 ⟨rfl,r1,k1⟩;have R1:=aa r1;have K1:=aa k1;clear r1 k1;go_wp2_with fail
  refine(C1.out _ R1.out).mono ?_;rintro e w2 ⟨rfl,r2,k2⟩;have R2:=aa r2;have K2:=an K1 k2;clear r2 k2;go_wp2_with fail
  refine(C2.out _ R2.out).mono ?_;intro e w4 fV;obtain⟨k4,rfl⟩:=fV;have K4:=an K2 k4;clear k4;go_wp2_with fail
  go_ret2
  exact⟨K4.out,rfl⟩
 ·go_enter Tryz.func126,Tryz.ntmps126
  go_wp2_with fail
  refine(C1.out _ HR.out).mono ?_;rintro e w1 ⟨rfl,r1,k1⟩;have R1:=aa r1;have K1:=aa k1;clear r1 k1;go_wp2_with fail
  refine(C1.out _ R1.out).mono ?_;rintro e w2 ⟨rfl,r2,k2⟩;have R2:=aa r2;have K2:=an K1 k2;clear r2 k2;go_wp2_with fail
  refine(C2.out _ R2.out).mono ?_;intro e w4 fV;obtain⟨k4,k',v,rfl,hb4,r4,hr4,hl4⟩:=fV;have K4:=an K2 k4;have R4:=aa r4;have HB:=aa hb4;have HE:=aa hr4;clear k4 r4 hb4 hr4;go_wp2_with fail
  go_ret2
  exact⟨K4.out,_,_,rfl,HB.out,R4.out,HE.out,by omega⟩
theorem Je (b:Nat) (s:ByteArray) (k:Nat) (w:World) (h:Rd w b s k) (hk:k<s.size) (c:UInt8) (hc:s[k]=c) (hn :∀v∈[97,98,102,110,114,116,118,92,39,34,10,122,120,48,49,50,51,52,53,54,55,56,57],c.toNat≠v):Calls Tryz.prog 126 #[.pointer (some ⟨b,0,none⟩)] w (bP b s k w (none)):=by
 obtain⟨X,hX⟩ :∃X:ByteArray,X=s.extract k s.size:=⟨_,rfl⟩;have C1:=aa (fun W h=>ay b s k W h)
 have eE:0<X.size:=by rw[hX,aD s k (by omega)];omega
 have sZ:X[0]=c:=by subst hX;rw[aT s k hk eE];exact hc
 rw[←hX] at C1;have rY:=bF X eE;have HR:=aa h;have g97:((c.toNat:Int) == 97)=false:=aC.2 (by have:=hn 97 (by decide);omega)
 have g98:((c.toNat:Int) == 98)=false:=aC.2 (by have:=hn 98 (by decide);omega)
 have g102:((c.toNat:Int) == 102)=false:=aC.2 (by have:=hn 102 (by decide);omega)
 have g110:((c.toNat:Int) == 110)=false:=aC.2 (by have:=hn 110 (by decide);omega)
 have g114:((c.toNat:Int) == 114)=false:=aC.2 (by have:=hn 114 (by decide);omega)
 have g116:((c.toNat:Int) == 116)=false:=aC.2 (by have:=hn 116 (by decide);omega)
 have g118:((c.toNat:Int) == 118)=false:=aC.2 (by have:=hn 118 (by decide);omega)
 have g92:((c.toNat:Int) == 92)=false:=aC.2 (by have:=hn 92 (by decide);omega)
 have g39:((c.toNat:Int) == 39)=false:=aC.2 (by have:=hn 39 (by decide);omega)
 have g34:((c.toNat:Int) == 34)=false:=aC.2 (by have:=hn 34 (by decide);omega)
 have g10:((c.toNat:Int) == 10)=false:=aC.2 (by have:=hn 10 (by decide);omega)
 have g122:((c.toNat:Int) == 122)=false:=aC.2 (by have:=hn 122 (by decide);omega)
 have g120:((c.toNat:Int) == 120)=false:=aC.2 (by have:=hn 120 (by decide);omega)
 have g48:((c.toNat:Int) == 48)=false:=aC.2 (by have:=hn 48 (by decide);omega)
 have g49:((c.toNat:Int) == 49)=false:=aC.2 (by have:=hn 49 (by decide);omega)
 have g50:((c.toNat:Int) == 50)=false:=aC.2 (by have:=hn 50 (by decide);omega)
 have g51:((c.toNat:Int) == 51)=false:=aC.2 (by have:=hn 51 (by decide);omega)
 have g52:((c.toNat:Int) == 52)=false:=aC.2 (by have:=hn 52 (by decide);omega)
 have g53:((c.toNat:Int) == 53)=false:=aC.2 (by have:=hn 53 (by decide);omega)
 have g54:((c.toNat:Int) == 54)=false:=aC.2 (by have:=hn 54 (by decide);omega)
 have g55:((c.toNat:Int) == 55)=false:=aC.2 (by have:=hn 55 (by decide);omega)
 have g56:((c.toNat:Int) == 56)=false:=aC.2 (by have:=hn 56 (by decide);omega)
 have g57:((c.toNat:Int) == 57)=false:=aC.2 (by have:=hn 57 (by decide);omega)
 clear hX h hc hn;go_enter Tryz.func126,Tryz.ntmps126
 go_wp2_with fail
 refine(C1.out _ HR.out).mono ?_;rintro e w1 ⟨rfl,r1,k1⟩;have R1:=aa r1;have K1:=aa k1;clear r1 k1;go_wp2_with fail
 refine(C1.out _ R1.out).mono ?_;rintro e w2 ⟨rfl,r2,k2⟩;have R2:=aa r2;have K2:=an K1 k2;clear r2 k2;go_wp2_with fail
 go_ret2
 exact⟨K2.out,rfl⟩
theorem dE (c:UInt8) (r:List UInt8):pW (c::r)=pH c r:=rfl
theorem Ci (b:Nat) (s:ByteArray) (k:Nat) (w:World) (h:Rd w b s k):Calls Tryz.prog 126 #[.pointer (some ⟨b,0,none⟩)] w (bP b s k w (pW (aS s k))):=by
 by_cases hk:k=s.size
 ·exact OM b s k w h hk
 ·have hk:k<s.size:=by have:=h.le;omega
  have hs:=iQ s k hk;have ac1:=Y5 b s k w h hk;have ac2:=Y6 b s k w h hk;have aa9:=Tu b s k w h hk;have aba:=Tv b s k w h hk;have abb:=Tw b s k w h hk;have abc:=Tx b s k w h hk;have abd:=Ty b s k w h hk;have ac3:=Y7 b s k w h hk;have ac4:=Y8 b s k w h hk;have ac5:=Y9 b s k w h hk;have ac6:=Za b s k w h hk;have abe:=Tz b s k w h hk;have abf:=TB b s k w h hk;have ac7:=Zb b s k w h hk;have ac8:=Zc b s k w h hk;have ac9:=Zd b s k w h hk;have ada:=Ze b s k w h hk;have adb:=Zf b s k w h hk;have ade:=Zg b s k w h hk;have adf:=Zh b s k w h hk;have adg:=Zi b s k w h hk;have adh:=Zj b s k w h hk;have adi:=Zk b s k w h hk;have other:=Je b s k w h hk s[k] rfl;generalize s[k]=c at *;have pb :∀c':UInt8,wK c'=none→qP c'=false→c'.toNat≠122→c'.toNat≠120→gm c'=true→c=c'→pW (aS s k)=code 10 gm 1 3 (aS s k):=fun c' a1 a2 a3 a4 a5 e=>by
   rw[hs,e];exact(dE _ _).trans (Oe _ a1 a2 a3 a4 a5)
  have jW :∀v:UInt8,c.toNat=v.toNat→c=v:=fun v h=>Ac.1 h
  by_cases e:c.toNat=97
  ·rw[hs,jW 97 e,show pW (97::aS s (k+1))=some ([7],aS s (k+1)) from(dE _ _).trans (gb _ (by decide))];exact ac1 (jW 97 e)
  by_cases e:c.toNat=98
  ·rw[hs,jW 98 e,show pW (98::aS s (k+1))=some ([8],aS s (k+1)) from(dE _ _).trans (gb _ (by decide))];exact ac2 (jW 98 e)
  by_cases e:c.toNat=102
  ·rw[hs,jW 102 e,show pW (102::aS s (k+1))=some ([12],aS s (k+1)) from(dE _ _).trans (gb _ (by decide))];exact aa9 (jW 102 e)
  by_cases e:c.toNat=110
  ·rw[hs,jW 110 e,show pW (110::aS s (k+1))=some ([10],aS s (k+1)) from(dE _ _).trans (gb _ (by decide))];exact aba (jW 110 e)
  by_cases e:c.toNat=114
  ·rw[hs,jW 114 e,show pW (114::aS s (k+1))=some ([13],aS s (k+1)) from(dE _ _).trans (gb _ (by decide))];exact abb (jW 114 e)
  by_cases e:c.toNat=116
  ·rw[hs,jW 116 e,show pW (116::aS s (k+1))=some ([9],aS s (k+1)) from(dE _ _).trans (gb _ (by decide))];exact abc (jW 116 e)
  by_cases e:c.toNat=118
  ·rw[hs,jW 118 e,show pW (118::aS s (k+1))=some ([11],aS s (k+1)) from(dE _ _).trans (gb _ (by decide))];exact abd (jW 118 e)
  by_cases e:c.toNat=92
  ·rw[hs,jW 92 e,show pW (92::aS s (k+1))=some ([92],aS s (k+1)) from(dE _ _).trans (ll _ (by decide) (by decide))];exact ac3 (jW 92 e)
  by_cases e:c.toNat=39
  ·rw[hs,jW 39 e,show pW (39::aS s (k+1))=some ([39],aS s (k+1)) from(dE _ _).trans (ll _ (by decide) (by decide))];exact ac4 (jW 39 e)
  by_cases e:c.toNat=34
  ·rw[hs,jW 34 e,show pW (34::aS s (k+1))=some ([34],aS s (k+1)) from(dE _ _).trans (ll _ (by decide) (by decide))];exact ac5 (jW 34 e)
  by_cases e:c.toNat=10
  ·rw[hs,jW 10 e,show pW (10::aS s (k+1))=some ([10],aS s (k+1)) from(dE _ _).trans (ll _ (by decide) (by decide))];exact ac6 (jW 10 e)
  by_cases e:c.toNat=122
  ·rw[hs,jW 122 e,show pW (122::aS s (k+1))=some ([],(aS s (k+1)).dropWhile tE) from(dE _ _).trans (Oc _ (by decide) (by decide) (by decide))];exact abe (jW 122 e)
  by_cases e:c.toNat=120
  ·rw[hs,jW 120 e,show pW (120::aS s (k+1))=code 16 zQ 2 2 (aS s (k+1)) from(dE _ _).trans (Od _ (by decide) (by decide) (by decide))];exact abf (jW 120 e)
  by_cases e:c.toNat=48
  ·rw[pb 48 (by decide) (by decide) (by decide) (by decide) (by decide) (jW 48 e)];exact ac7 (jW 48 e)
  by_cases e:c.toNat=49
  ·rw[pb 49 (by decide) (by decide) (by decide) (by decide) (by decide) (jW 49 e)];exact ac8 (jW 49 e)
  by_cases e:c.toNat=50
  ·rw[pb 50 (by decide) (by decide) (by decide) (by decide) (by decide) (jW 50 e)];exact ac9 (jW 50 e)
  by_cases e:c.toNat=51
  ·rw[pb 51 (by decide) (by decide) (by decide) (by decide) (by decide) (jW 51 e)];exact ada (jW 51 e)
  by_cases e:c.toNat=52
  ·rw[pb 52 (by decide) (by decide) (by decide) (by decide) (by decide) (jW 52 e)];exact adb (jW 52 e)
  by_cases e:c.toNat=53
  ·rw[pb 53 (by decide) (by decide) (by decide) (by decide) (by decide) (jW 53 e)];exact ade (jW 53 e)
  by_cases e:c.toNat=54
  ·rw[pb 54 (by decide) (by decide) (by decide) (by decide) (by decide) (jW 54 e)];exact adf (jW 54 e)
  by_cases e:c.toNat=55
  ·rw[pb 55 (by decide) (by decide) (by decide) (by decide) (by decide) (jW 55 e)];exact adg (jW 55 e)
  by_cases e:c.toNat=56
  ·rw[pb 56 (by decide) (by decide) (by decide) (by decide) (by decide) (jW 56 e)];exact adh (jW 56 e)
  by_cases e:c.toNat=57
  ·rw[pb 57 (by decide) (by decide) (by decide) (by decide) (by decide) (jW 57 e)];exact adi (jW 57 e)
  have hno:pW (aS s k)=none:=by
   rw[hs,dE];refine Gd _ ?_ ?_ (by assumption) (by assumption) ?_
   ·unfold wK;simp[*]
   ·unfold qP;simp[*]
   ·unfold gm;rw[zY];omega
  rw[hno];refine other ?_;intro v hv;simp only[ba,oL,oP] at hv;rcases hv with rfl|rfl|rfl|rfl|rfl|rfl|rfl|rfl|rfl|rfl|rfl|rfl|rfl|rfl|rfl|rfl|rfl|rfl|rfl|rfl|rfl|rfl|rfl<;>assumption
def nO (l:List UInt8):List Value:=l.map fun b=>Value.int .u8 (b.toNat:Int)
theorem DY (a b:List UInt8):nO (a++b)=nO a++nO b:=by simp[nO]
def rZ (W:World) (B:Nat) (v:Value) (l:List UInt8):Prop:=W.ownsRow B 5 1 v l.length (nO l)
theorem rZ.nil (W:World) (B:Nat):rZ W B (.slice none 0 0) []:=World.ownsRow_nil W B 5 1
theorem TC {W:World} {B e n size:Nat} {v:Value} {xs:List Value} (h:W.ownsRow B e size v n xs) :∀k,v.ownBlock=some k→B≤k:=fun k hk=>(h.lt k hk).1
theorem rZ.kp {b B:Nat} {W W':World} {v:Value} {l:List UInt8} (h:rZ W B v l) (hk:Kp b W W') (hb:b<B):rZ W' B v l:=by
 refine World.ownsRow.kept h hk ?_;rcases h.2 with ⟨rfl,_⟩ | ⟨g,_,_,rfl,hg,_⟩
 ·left;rfl
 ·right
  intro e;have:g=b:=by simpa[Value.ownBlock] using e
  omega
theorem abg:(Tryz.prog.info? 5).map (fun i=>(i.zero,i.size,i.bytes))=some (some (.int .u8 0),1,1):=by kernel_rfl
theorem ON {ops:Array Oper} {rest:List Oper} {o:Oper} {a:Act} {Q:Exit→Act→World→Prop} (w:World) (hgd:o.guard=none) (sl x:Operand)
  (ho:o.op=.call { callee:=.builtin .append,args:=#[sl,x],argTypes:=#[208,208]}) (B:Nat) (v:Value) (l:List UInt8) (hs:a.eval sl=v) (hown:rZ w B v l) (y:Value) (hx:a.eval x=y) (m:List UInt8) (hm:Bts w y m)
  (hlen:l.length≤1000000) (hB:B≤w.heap.size)
  (h :∀v' w',rZ w' B v' (l++m)→Below B w w'→wpList Tryz.prog ops Q rest (a.put o.dst v') w'):wpList Tryz.prog ops Q (o::rest) a w:=by
 obtain⟨i0,mC,hz0,hz1,hz2⟩:=info_parts abg;rcases hm with ⟨rfl,rfl⟩ | ⟨g,u,rfl,rfl,hc⟩
 ·refine wpList_plain hgd fun _ hK=>?_
  have hr:=run_append_owned_none (P:=Tryz.prog) (w:=w) B 208 o.type 5 i0 1 Tryz.underlying208 mC v l.length (nO l) hown;unfold Oper.wp execOp;simp only[ho,resolve,invoke,builtin,Sem.run_bind,Sem.run_pure,Result.andThen_ok,K9,dS,ET,hs,hx,hr];exact hK _ _ (h v w (by rw[j4];exact hown) (Below.refl _ _))
 ·refine wpList_append_own (P:=Tryz.prog) _ hgd sl x 208 ho B 5 i0 (.int .u8 0) 1 1 Tryz.underlying208 mC hz0 hz1 hz2 rfl (by omega) v l.length (nO l) hs hown ⟨g,0,none⟩ 1 1 [.int .u8 (u.toNat:Int)] hx rfl
   (fun j q hj=>by
    cases j with
    | zero=>obtain rfl:=gu hj;exact hc
    | succ j=>simp at hj) (fun q hq=>by obtain rfl:=bR.1 hq;rfl) (by unfold maxLen;omega) (by omega) hB ?_
  intro v' w' h1 h2 _;refine h v' w' ?_ ((Below.refl _ _).grown h2 hB (TC hown));unfold rZ;rw[cb,DY];exact h1
theorem DZ {W:World} {B:Nat} {v:Value} {l:List UInt8} (h:rZ W B v l):(convert 208 9 v).run Tryz.prog W=.ok (.string ⟨l.toArray⟩) W:=by
 rcases h.2 with ⟨rfl,h0⟩ | ⟨g,cap,cur,rfl,_⟩
 ·obtain rfl:l=[]:=kK h0
  exact run_convert_bytes_nil W 208 5 Tryz.underlying208 Tryz.underlying5 0 0 9 Tryz.underlying9
 ·exact run_convert_bytes_back (P:=Tryz.prog) W 208 9 5 ⟨g,0,none⟩ cap l Tryz.underlying208 Tryz.underlying5 Tryz.underlying9 (fun j hj=>by
   have hc:=World.ownsRow.cells h (g:=g) rfl j (.int .u8 (l[j].toNat:Int)) (by simp[nO,hj])
   exact hc)
theorem Kp.below {b:Nat} {w0 w w':World} (h:Kp b w0 w) (k:Below w0.heap.size w w'):Kp b w0 w' :=
 ⟨k.os.trans h.os,k.tape.trans h.tape,k.output.trans h.output,aL h.size k.size,fun i hi hne=>(k.block i hi).trans (h.block i hi hne)⟩
theorem Rd.zn {W W':World} {B b:Nat} {s:ByteArray} {k:Nat} (h:Rd W b s k) (hb:Below B W W') (hB:b<B):Rd W' b s k:=by
 have hf:=h.far;obtain⟨m,hm⟩:=h.mx;exact⟨(hb.block b hB).trans h.blk,h.le,h.top,h.far,m,(hb.cell (p:=⟨1,0,none⟩) (by show 1<B;omega)).trans hm⟩
def TD (q:UInt8) (b:Nat) (s:ByteArray) (k:Nat) (w:World) (e:Ending) (w':World):Prop:=∃o,zh q (aS s (k+1)) o∧jK b s k w o e w'
theorem map_nil (o:Option (List UInt8×List UInt8)):o.map (fun x=>([]++x.1,x.2))=o:=by cases o<;>rfl
theorem Gi (o:Option (List UInt8×List UInt8)) (out m:List UInt8):(o.map fun x=>(m++x.1,x.2)).map (fun x=>(out++x.1,x.2))=o.map fun x=>((out++m)++x.1,x.2):=by
 cases o<;>simp
theorem OO (s:ByteArray) (k:Nat) (h:k<s.size) (X:ByteArray) (hX:X=s.extract k (k+1)) (h':0<X.size):X[0]=s[k]:=by
 subst hX;rw[ByteArray.getElem_extract];simp
theorem OP (s:ByteArray) (k:Nat) (h:k<s.size):(s.extract k (k+1)).size=1:=by rw[uh];omega
theorem take_one (b:Nat) (s:ByteArray) (k:Nat) (hk:k<s.size) :∃X:ByteArray,∃hX:0<X.size,X[0]=s[k]∧∀W,Rd W b s k→Calls Tryz.prog 81 #[.pointer (some ⟨b,0,none⟩),.int .i64 1] W fun e w'=>e=.returned (.string X)∧Rd w' b s (k+1)∧Kp b W w':=by
 have hs:=OP s k hk;exact⟨s.extract k (k+1),by omega,OO s k hk _ rfl (by omega),fun W h=>bs b s k 1 W h (by omega)⟩
theorem rZ.form {W:World} {B:Nat} {v:Value} {l:List UInt8} (h:rZ W B v l) :∃A c,v=.slice A l.length c:=by
 rcases h.2 with ⟨rfl,h0⟩ | ⟨g,cap,_,rfl,_⟩
 ·exact⟨none,0,by rw[h0]⟩
 ·exact⟨_,_,rfl⟩
theorem D0 (b:Nat) (s:ByteArray) (k:Nat) (w:World) (h:Rd w b s k) (hk:k<s.size) (q:UInt8) (hq:s[k]=q) (adj:q≠10) (abh:q≠92) :
  Calls Tryz.prog 93 #[.pointer (some ⟨b,0,none⟩)] w (TD q b s k w):=by
 have cr:=h.top;have iR:=h.lt;have HR:=aa h;obtain⟨X,eE,sZ,hT⟩:=take_one b s k hk;rw[hq] at sZ;have T1:=aa hT;clear h hT hq;go_enter Tryz.func93,Tryz.ntmps93
 go_wp2_with fail
 refine(T1.out _ HR.out).mono ?_;rintro e w1 ⟨rfl,r1,k1⟩;have R1:=aa r1;have K1:=aa k1;clear r1 k1;go_wp2_with fail
 clear sZ eE;go_loopg [5] s.size (fun z tv wr=>∃(k1:Nat) (out:List UInt8),Rd wr b s k1∧k<k1∧s.size-k1≤z∧Kp b w wr∧rZ wr w.heap.size tv out∧out.length+k≤k1∧∀o,zh q (aS s k1) o→zh q (aS s (k+1)) (o.map fun x=>(out++x.1,x.2)))
 case atStart=>exact⟨k+1,[],R1.out,by omega,by omega,K1.out,rZ.nil _ _,by simp,fun o h=>by rw[map_nil];exact h⟩
 case round =>
  obtain⟨k1,out,hr,hlt,hz,Tq,abi,tm,abj⟩:=hrel;have Ts:=hr.le;have R0:=aa hr;have K0:=aa Tq;have HB:=aa abi;have HQ:=aa abj;have hsz0:=Tq.size;clear hr Tq abi abj;obtain⟨Y,hY⟩ :∃Y:ByteArray,Y=s.extract k1 s.size:=⟨_,rfl⟩;have C1:=aa (fun W h=>ay b s k1 W h)
  rw[←hY] at C1;have wi:Y.size=s.size-k1:=by rw[hY,aD s k1 Ts]
  clear hY;by_cases hend:k1=s.size
  ·have Wz:=vD Y (by omega)
   have hs0:=tZ s k1 (by omega)
   have HE:=aa hs0;clear hs0 wi;go_wp2_with fail
   refine(C1.out _ R0.out).mono ?_;rintro e w2 ⟨rfl,r2,k2⟩;have K2:=an K0 k2;clear r2 k2;go_wp2_with fail
   go_ret2
   exact⟨none,HQ.out none (by rw[HE.out];exact .none),K2.out,rfl⟩
  ·have iU:k1<s.size:=by omega
   have Wz:=bF Y (by omega)
   have cF:=iQ s k1 iU;obtain⟨Z,hZs,hZ0,hT⟩:=take_one b s k1 iU;have T2:=aa hT;obtain⟨c,hc⟩ :∃c:UInt8,c=s[k1]:=⟨_,rfl⟩;rw[←hc] at hZ0 cF;have HC:=aa cF;clear wi hT hc cF;have C7:=c.toNat_lt;have hql:=q.toNat_lt;obtain⟨A1,c1,rfl⟩:=HB.out.form;by_cases hcq:c=q
   ·subst hcq
    go_wp2_with fail
    refine(C1.out _ R0.out).mono ?_;rintro e w2 ⟨rfl,r2,k2⟩;have R2:=aa r2;have K2:=an K0 k2;have B2:=aa (HB.out.kp k2 iR);clear r2 k2;go_wp2_with fail
    refine(T2.out _ R2.out).mono ?_;rintro e w3 ⟨rfl,r3,k3⟩;have R3:=aa r3;have K3:=an K2 k3;have B3:=aa (B2.out.kp k3 iR);clear r3 k3;have hcv:=DZ B3.out;go_wp2_with fail
    go_ret2
    refine⟨some (out,aS s (k1+1)),?_,K3.out,_,rfl,R3.out,rfl,by omega⟩
    have:=HQ.out (some ([],aS s (k1+1))) (by rw[HC.out];exact .shut)
    simpa using this
   ·have hcqn:c.toNat≠q.toNat:=fun e=>hcq (Ac.1 e)
    by_cases Zl:c=10
    ·subst Zl
     have g1:((10:Int) == (q.toNat:Int))=false:=aC.2 (by have:(10:UInt8).toNat=10:=rfl;omega)
     go_wp2_with fail
     refine(C1.out _ R0.out).mono ?_;rintro e w2 ⟨rfl,r2,k2⟩;have R2:=aa r2;have K2:=an K0 k2;have B2:=aa (HB.out.kp k2 iR);clear r2 k2;go_wp2_with fail
     refine(T2.out _ R2.out).mono ?_;rintro e w3 ⟨rfl,r3,k3⟩;have R3:=aa r3;have K3:=an K2 k3;have B3:=aa (B2.out.kp k3 iR);clear r3 k3;go_wp2_with fail
     go_ret2
     exact⟨none,HQ.out none (by rw[HC.out];exact .line adj),K3.out,rfl⟩
    ·by_cases Zm:c=92
     ·subst Zm
      have g1:((92:Int) == (q.toNat:Int))=false:=aC.2 (by have:(92:UInt8).toNat=92:=rfl;omega)
      have E1:=aa (fun W h=>Ci b s (k1+1) W h)
      cases hes:pW (aS s (k1+1)) with
      | none =>
       rw[hes] at E1;have HES:=aa hes;clear hes;go_wp2_with fail
       refine(C1.out _ R0.out).mono ?_;rintro e w2 ⟨rfl,r2,k2⟩;have R2:=aa r2;have K2:=an K0 k2;have B2:=aa (HB.out.kp k2 iR);clear r2 k2;go_wp2_with fail
       refine(T2.out _ R2.out).mono ?_;rintro e w3 ⟨rfl,r3,k3⟩;have R3:=aa r3;have K3:=an K2 k3;have B3:=aa (B2.out.kp k3 iR);clear r3 k3;go_wp2_with fail
       refine(E1.out _ R3.out).mono ?_;intro e w4 fV;obtain⟨k4,rfl⟩:=fV;have K4:=an K3 k4;clear k4;go_wp2_with fail
       go_ret2
       exact⟨none,HQ.out none (by rw[HC.out];exact .bad abh HES.out),K4.out,rfl⟩
      | some z =>
       obtain⟨m,r⟩:=z;rw[hes] at E1;have HES:=aa hes;clear hes;go_wp2_with fail
       refine(C1.out _ R0.out).mono ?_;rintro e w2 ⟨rfl,r2,k2⟩;have R2:=aa r2;have K2:=an K0 k2;have B2:=aa (HB.out.kp k2 iR);clear r2 k2;go_wp2_with fail
       refine(T2.out _ R2.out).mono ?_;rintro e w3 ⟨rfl,r3,k3⟩;have R3:=aa r3;have K3:=an K2 k3;have B3:=aa (B2.out.kp k3 iR);clear r3 k3;go_wp2_with fail
       refine(E1.out _ R3.out).mono ?_;intro e w4 fV;obtain⟨k4,k',v,rfl,hb4,r4,hr4,hl4⟩:=fV;have K4:=an K3 k4;have R4:=aa r4;have B4:=aa (B3.out.kp k4 iR);have HE:=aa hr4;have yD:m.length≤1:=by
        rcases hb4 with ⟨_,rfl⟩ | ⟨_,_,rfl,_⟩<;>simp
       have HBT:=aa hb4;have adk:=K4.out.size;clear k4 r4 hb4 hr4;have ad0:=R4.out.le;go_wp2_with (at_builtin;refine ON _ rfl _ _ rfl w.heap.size _ out rfl B4.out _ rfl m HBT.out (by omega) adk ?_;intro v5 w5 pV ix)
       go_roundg (s.size-k')
       case measure=>omega
       case rel=>exact⟨k',out++m,R4.out.zn ix iR,by omega,ag _,K4.out.below ix,pV,by rw[cb];omega,fun o ho=>by
        have:=HQ.out _ (by rw[HC.out];exact .pW abh HES.out (HE.out▸ho))
        rwa[Gi] at this⟩
     ·have g1:((c.toNat:Int) == (q.toNat:Int))=false:=aC.2 (by omega)
      have g2:((c.toNat:Int) == 10)=false:=aC.2 (fun e=>Zl (Ac.1 (by show c.toNat=10;omega)))
      have g3:((c.toNat:Int) == 92)=false:=aC.2 (fun e=>Zm (Ac.1 (by show c.toNat=92;omega)))
      go_wp2_with fail
      refine(C1.out _ R0.out).mono ?_;rintro e w2 ⟨rfl,r2,k2⟩;have R2:=aa r2;have K2:=an K0 k2;have B2:=aa (HB.out.kp k2 iR);clear r2 k2;go_wp2_with fail
      refine(T2.out _ R2.out).mono ?_;rintro e w3 ⟨rfl,r3,k3⟩;have R3:=aa r3;have K3:=an K2 k3;have B3:=aa (B2.out.kp k3 iR);clear r3 k3;have hsz3:=K3.out.size;go_wp2_with (at_builtin;refine ON _ rfl _ _ rfl w.heap.size _ out rfl (World.ownsRow.alloc B3.out _) _ rfl [c] (dN _ _ _ rfl) (by omega) (by simp;omega) ?_;intro v5 w5 pV ix)
      go_roundg (s.size-(k1+1))
      case measure=>omega
      case rel=>exact⟨k1+1,out++[c],(R3.out.alloc _).zn ix iR,by omega,ag _,(K3.out.alloc _).below ix,pV,by rw[cb];simp;omega,fun o ho=>by
       have:=HQ.out _ (by rw[HC.out];exact .byte hcq Zl Zm ho)
       rw[show(o.map fun x=>(c::x.1,x.2))=o.map fun x=>([c]++x.1,x.2) from rfl,Gi] at this
       exact this⟩
theorem OQ (s:ByteArray) (w:World):Calls Tryz.prog 113 #[.string s] w fun e w'=>e=.returned (.bool (qO s.data.toList))∧w=w':=by
 rw[←Lib.toList_data];go_enter Tryz.func113,Tryz.ntmps113
 go_wp2
 all_goals first
  | (go_ret;rename_i ha hb;rw[ha] at hb;cases hb;done)
  | (go_ret;exact⟨iP (by simp only[qO,keys,KT,KY,Bool.or_false,Bool.true_or,Bool.or_true, *]),rfl⟩)
theorem D1 (s:ByteArray) (w:World):Calls Tryz.prog 130 #[.string s] w fun e w'=>e=.returned (.bool (nJ s.data.toList))∧w=w':=by
 rw[←Lib.toList_data];go_enter Tryz.func130,Tryz.ntmps130
 go_wp2
 all_goals first
  | (go_ret;rename_i ha hb;rw[ha] at hb;cases hb;done)
  | (go_ret;exact⟨iP (by simp only[nJ,signs,KT,KY,Bool.or_false,Bool.true_or,Bool.or_true, *]),rfl⟩)
end Go.Proofs.YtodmcdfeldkocaaGreatDoor
