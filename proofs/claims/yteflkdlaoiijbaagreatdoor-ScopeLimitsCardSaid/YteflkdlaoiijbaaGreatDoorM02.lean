/- Parts of the proof. -/
import Derived.Deep.LoopGhost
import Derived.Laws.IdiomStrings
import Derived.Laws.OwnMore
import Derived.Laws.AppendOwn
import Derived.OwnWalk
import Derived.Test.YteflkdlaoiijbaaGreatDoorM01
set_option maxHeartbeats 16000000
set_option maxRecDepth 20000
namespace Go.Proofs.YteflkdlaoiijbaaGreatDoor
open Go.RowKit
def aR (s:ByteArray) (k:Nat):List UInt8:=s.data.toList.drop k
theorem db (s:ByteArray) (k:Nat):(s.extract k s.size).data.toList=aR s k:=xG s k
theorem fI (s:ByteArray) (k:Nat):(aR s k).length=s.size-k:=by unfold aR;rw[kE,←Lib.size_eq]
theorem eP (s:ByteArray) (k c:Nat):(aR s k).drop c=aR s (k+c):=by unfold aR;rw[List.drop_drop]
theorem eQ (s:ByteArray) (k c:Nat):(s.extract k (k+c)).data.toList=(aR s k).take c:=lF s k c
theorem aD (s:ByteArray) (k:Nat) (h:k≤s.size):(s.extract k s.size).size=s.size-k:=by rw[te];omega
theorem xI (l:List UInt8):(⟨l.toArray⟩:ByteArray).data.toList=l:=rfl
theorem Ea (l:List UInt8):(⟨l.toArray⟩:ByteArray).size=l.length:=by show l.toArray.size=_;simp
theorem Qg {s:ByteArray} {l:List UInt8} (h:s.data.toList=l):s=⟨l.toArray⟩:=by subst h;rfl
theorem tC {a b:Int} (h:a=b):Ending.returned (.int .i64 a)=.returned (.int .i64 b):=by rw[h]
theorem rO (s:ByteArray) (w:World) (hs:s.size≤100000):Calls Tryz.prog 138 #[.string s] w fun e w'=>e=.returned (.int .i64 (opn s.data.toList:Int))∧w=w':=by
 obtain⟨n,hn⟩ :∃n:Nat,n=opn s.data.toList:=⟨_,rfl⟩;rw[←hn];unfold opn at hn;obtain⟨t1,YQ⟩ :∃t:ByteArray,t=⟨(Lib.trimPrefix s.data.toList [91]).toArray⟩:=⟨_,rfl⟩;cases e1:Lib.hasPrefix s.data.toList [91]
 ·have C1:=aa (fun W=>qH s ⟨#[91]⟩ W)
  rw[show(⟨#[91]⟩:ByteArray).data.toList=[91] from rfl,e1,←YQ] at C1
  rw[e1] at hn;have HN:=aa hn;clear hn e1 YQ;go_enter Tryz.func138,Tryz.ntmps138
  go_wp2_with (go_at_call 174;refine(C1.out _).mono ?_;rintro e w' ⟨rfl,rfl⟩)
  go_ret
  exact⟨tC (by rw[HN.out];rfl),rfl⟩
 ·have C1:=aa (fun W=>qH s ⟨#[91]⟩ W)
  rw[show(⟨#[91]⟩:ByteArray).data.toList=[91] from rfl,e1,←YQ] at C1
  have Qh:t1.data.toList=s.data.toList.drop 1:=by rw[YQ];show Lib.trimPrefix s.data.toList [91]=_;unfold Lib.trimPrefix;rw[al e1];rfl
  rw[e1,al rfl,←Qh] at hn;obtain⟨t2,Zw⟩ :∃t:ByteArray,t=⟨(Lib.trimLeftB t1.data.toList 61).toArray⟩:=⟨_,rfl⟩;have C2:=aa (fun W=>Kl t1 W)
  rw[←Zw] at C2;rw[show Lib.trimLeftB t1.data.toList 61=t2.data.toList by rw[Zw]] at hn
  obtain⟨t3,Zx⟩ :∃t:ByteArray,t=⟨(Lib.trimPrefix t2.data.toList [91]).toArray⟩:=⟨_,rfl⟩;have C3:=aa (fun W=>qH t2 ⟨#[91]⟩ W)
  cases e2:Lib.hasPrefix t2.data.toList [91]
  ·rw[show(⟨#[91]⟩:ByteArray).data.toList=[91] from rfl,e2,←Zx] at C3
   rw[e2] at hn;have HN:=aa hn;clear hn e1 e2 YQ Zw Zx Qh;go_enter Tryz.func138,Tryz.ntmps138
   go_wp2_with fail
   refine(C1.out _).mono ?_;rintro e w' ⟨rfl,rfl⟩;go_wp2_with fail
   refine(C2.out _).mono ?_;rintro e w' ⟨rfl,rfl⟩;go_wp2_with fail
   refine(C3.out _).mono ?_;rintro e w' ⟨rfl,rfl⟩;go_wp2_with fail
   go_ret
   exact⟨tC (by rw[HN.out];rfl),rfl⟩
  ·rw[show(⟨#[91]⟩:ByteArray).data.toList=[91] from rfl,e2,←Zx] at C3
   have VC:t3.data.toList=t2.data.toList.drop 1:=by rw[Zx];show Lib.trimPrefix t2.data.toList [91]=_;unfold Lib.trimPrefix;rw[al e2];rfl
   rw[e2,al rfl,←VC,←Lib.size_eq,←Lib.size_eq] at hn;have hle:t3.size≤s.size:=by
    rw[Lib.size_eq,VC,Zw,xI,Qh,Lib.size_eq s,kE];have h1:=(DL (fun x=>x == 61) (l:=s.data.toList.drop 1)).length_le
    rw[kE] at h1;unfold Lib.trimLeftB;omega
   have HN:=aa hn;clear hn e1 e2 YQ Zw Zx Qh VC;go_enter Tryz.func138,Tryz.ntmps138
   go_wp2_with fail
   refine(C1.out _).mono ?_;rintro e w' ⟨rfl,rfl⟩;go_wp2_with fail
   refine(C2.out _).mono ?_;rintro e w' ⟨rfl,rfl⟩;go_wp2_with fail
   refine(C3.out _).mono ?_;rintro e w' ⟨rfl,rfl⟩;go_wp2_with fail
   go_ret
   exact⟨tC (by rw[HN.out];omega),rfl⟩
theorem nI (s:ByteArray) (r:Bool) (w:World) (hs:s.size≤100000) (h:decide (0<opn s.data.toList)=r):Calls Tryz.prog 80 #[.string s] w fun e w'=>e=.returned (.bool r)∧w=w':=by
 have C:=aa (fun W=>rO s W hs)
 generalize opn s.data.toList=n at *;go_enter Tryz.func80,Tryz.ntmps80
 go_wp2_with (go_at_call 138;refine(C.out _).mono ?_;rintro e w' ⟨rfl,rfl⟩)
 go_ret
 exact⟨rfl,rfl⟩
theorem Kr {l sep:List UInt8} {t r:List UInt8} (h:Lib.cut l sep=(t,r,true)):t.length+sep.length≤l.length∧r=l.drop (t.length+sep.length):=by
 unfold Lib.cut at h;by_cases h0:0≤Lib.index l sep
 ·rw[al h0] at h
  injection h with h1 h2;injection h2 with h2 _;have hr:=Lib.index_room l sep h0;have hlen:t.length=(Lib.index l sep).toNat:=by rw[←h1,og];omega
  rw[hlen];exact⟨by omega,h2.symm⟩
 ·rw[af h0] at h
  injection h with _ h2;injection h2 with _ h3;cases h3
def jy (b:Nat) (s:ByteArray) (k:Nat) (w:World) (o:Option (List UInt8×List UInt8)) (e:Ending) (w':World):Prop :=
 Kp b w w'∧match o with
  | some (t,r)=>∃k',e=.returned (.tuple #[.string ⟨t.toArray⟩,.bool true])∧Rd w' b s k'∧aR s k'=r∧k<k'
  | none=>e=.returned (.tuple #[.string ⟨#[]⟩,.bool false])
theorem jy.nJ {b:Nat} {s:ByteArray} {k:Nat} {w w':World} {t r:List UInt8} {e:Ending} (h:jy b s k w (some (t,r)) e w') :∃k',e=.returned (.tuple #[.string ⟨t.toArray⟩,.bool true])∧Rd w' b s k'∧aR s k'=r∧k<k'∧Kp b w w':=by
 obtain⟨h0,k',h1,h2,h3,h4⟩:=h;exact⟨k',h1,h2,h3,h4,h0⟩
theorem jy.nK {b:Nat} {s:ByteArray} {k:Nat} {w w':World} {e:Ending} (h:jy b s k w none e w'):e=.returned (.tuple #[.string ⟨#[]⟩,.bool false])∧Kp b w w':=⟨h.2,h.1⟩
theorem ot (b:Nat) (s:ByteArray) (k:Nat) (w:World) (h:Rd w b s k) (hp:0<opn (aR s k)):Calls Tryz.prog 81 #[.pointer (some ⟨b,0,none⟩)] w (jy b s k w (Jo (aR s k))):=by
 have bD:=h.top;have hle:=h.le;have HR:=aa h;clear h;obtain⟨n,hn⟩ :∃n:Nat,n=opn (aR s k):=⟨_,rfl⟩;have jz:=Vt (aR s k);rw[←hn,fI] at jz;rw[←hn] at hp;have C1:=aa (fun W=>rO (s.extract k s.size) W (by rw[aD s k hle];omega))
 rw[db,←hn] at C1;obtain⟨cl,B9⟩ :∃cl:ByteArray,cl=⟨(Zs (s.extract k (k+n)).data.toList).toArray⟩:=⟨_,rfl⟩;have C2:=aa (fun W hW=>Gg (s.extract k (k+n)) W (by rw[te];omega) hW)
 rw[←B9] at C2;have hb:Jo (aR s k)=if (Lib.cut (aR s (k+n)) cl.data.toList).2.2 then some (Lib.trimPrefix (Lib.cut (aR s (k+n)) cl.data.toList).1 [10],(Lib.cut (aR s (k+n)) cl.data.toList).2.1) else none:=by
  unfold Jo;rw[←hn,B9,xI,eQ,eP]
 have C3:=aa (fun W hW=>zE (s.extract (k+n) s.size) cl W (by rw[aD s _ (by omega)];omega) hW)
 rw[db] at C3;obtain⟨a,r,o,hq⟩ :∃a r o,Lib.cut (aR s (k+n)) cl.data.toList=(a,r,o):=⟨_,_,_,rfl⟩;rw[hq] at C3 hb;obtain⟨A,hA⟩ :∃A:ByteArray,A=⟨a.toArray⟩:=⟨_,rfl⟩;obtain⟨R,hR⟩ :∃R:ByteArray,R=⟨r.toArray⟩:=⟨_,rfl⟩;simp only[←hA,←hR] at C3;cases o
 ·have HB:=aa hb
  clear hn B9 hq hA hR hb;go_enter Tryz.func81,Tryz.ntmps81
  go_wp2_with fail
  refine(aA _ _ _ _ HR.out).mono ?_;rintro e w1 ⟨rfl,r1,k1⟩;have R1:=aa r1;have K1:=aa k1;clear r1 k1;go_wp2_with fail
  refine(C1.out _).mono ?_;rintro e BK ⟨rfl,rfl⟩;go_wp2_with fail
  refine(bu _ _ _ _ _ R1.out (by omega)).mono ?_;rintro e w2 ⟨rfl,r2,k2⟩
  have R2:=aa r2;have K2:=aa (K1.out.trans k2);clear r2 k2;go_wp2_with fail
  refine(C2.out _ R2.out.mx).mono ?_;rintro e w3 ⟨rfl,b3⟩;have R3:=aa (R2.out.below b3);have K3:=aa (K2.out.trans (Kp.ae b3));clear b3;go_wp2_with fail
  refine(aA _ _ _ _ R3.out).mono ?_;rintro e w4 ⟨rfl,r4,k4⟩;have R4:=aa r4;have K4:=aa (K3.out.trans k4);clear r4 k4;go_wp2_with fail
  refine(C3.out _ R4.out.mx).mono ?_;rintro e w5 ⟨rfl,n5,rfl⟩;go_wp2_with fail
  go_ret2
  refine⟨K4.out.draws _,?_⟩;rw[HB.out];rfl
 ·obtain⟨hroom,hr⟩:=Kr hq
  rw[fI,←Lib.size_eq] at hroom;rw[eP,←Lib.size_eq] at hr;have YR:A.size=a.length:=by rw[hA,Ea]
  have C4:=aa (fun W=>Km A W)
  rw[hA,xI,←hA] at C4;obtain⟨T,hT⟩ :∃T:ByteArray,T=⟨(Lib.trimPrefix a [10]).toArray⟩:=⟨_,rfl⟩;rw[←hT] at C4;rw[←YR] at hroom hr;have HB:=aa hb;have HE:=aa hr;have HT:=aa hT;clear hn B9 hq hA hR hb hr YR hT;go_enter Tryz.func81,Tryz.ntmps81
  go_wp2_with fail
  refine(aA _ _ _ _ HR.out).mono ?_;rintro e w1 ⟨rfl,r1,k1⟩;have R1:=aa r1;have K1:=aa k1;clear r1 k1;go_wp2_with fail
  refine(C1.out _).mono ?_;rintro e BK ⟨rfl,rfl⟩;go_wp2_with fail
  refine(bu _ _ _ _ _ R1.out (by omega)).mono ?_;rintro e w2 ⟨rfl,r2,k2⟩
  have R2:=aa r2;have K2:=aa (K1.out.trans k2);clear r2 k2;go_wp2_with fail
  refine(C2.out _ R2.out.mx).mono ?_;rintro e w3 ⟨rfl,b3⟩;have R3:=aa (R2.out.below b3);have K3:=aa (K2.out.trans (Kp.ae b3));clear b3;go_wp2_with fail
  refine(aA _ _ _ _ R3.out).mono ?_;rintro e w4 ⟨rfl,r4,k4⟩;have R4:=aa r4;have K4:=aa (K3.out.trans k4);clear r4 k4;go_wp2_with fail
  refine(C3.out _ R4.out.mx).mono ?_;rintro e w5 ⟨rfl,n5,rfl⟩;have R5:=aa (R4.out.draws n5);have K5:=aa (K4.out.draws n5);generalize w4.drewN n5=w5 at *;have Eb:=fun W h=>bu b s (k+n) (A.size+cl.size) W h (by omega)
  rw[show((A.size+cl.size:Nat):Int)=(A.size:Int)+(cl.size:Int) by omega] at Eb
  have C6:=aa Eb;clear Eb;go_wp2_with fail
  refine(C6.out _ R5.out).mono ?_;rintro e w6 ⟨rfl,r6,k6⟩;have R6:=aa r6;have K6:=aa (K5.out.trans k6);clear r6 k6;go_wp2_with fail
  refine(C4.out _).mono ?_;rintro e w6' ⟨rfl,rfl⟩;go_wp2_with fail
  go_ret2
  refine⟨K6.out,?_⟩;rw[HB.out];exact⟨_,by rw[HT.out];rfl,R6.out,HE.out.symm,by omega⟩
theorem mF {p:UInt8→Bool} {l:List UInt8} {k:Nat} {c:UInt8} (h:k≤runN p l) (hc:l[k]? = some c) (hp:p c=true):k+1≤runN p l:=by
 induction l generalizing k with
 | nil=>simp at hc
 | cons a t ih =>
  unfold runN at *;cases k with
  | zero =>
   simp at hc;subst hc;simp[hp]
  | succ k =>
   cases e:p a
   ·simp[e] at h
   ·simp[e] at h ⊢
    exact ih h (by simpa using hc)
theorem mG {p:UInt8→Bool} {l:List UInt8} {k:Nat} {c:UInt8} (h:k≤runN p l) (hc:l[k]? = some c) (hp:p c=false):k=runN p l:=by
 induction l generalizing k with
 | nil=>simp at hc
 | cons a t ih =>
  unfold runN at *;cases k with
  | zero =>
   simp at hc;subst hc;simp[hp]
  | succ k =>
   cases e:p a
   ·simp[e] at h
   ·simp[e] at h ⊢
    exact ih h (by simpa using hc)
theorem ij {a b:Int} (h:a=b):Ending.returned (.int .i64 a)=.returned (.int .i64 b):=by rw[h]
theorem vT (s:ByteArray) (w:World) (hs:s.size≤100000):Calls Tryz.prog 68 #[.string s,.func (.func 70) #[] #[]] w fun e w'=>e=.returned (.int .i64 (runN pH s.data.toList:Int))∧w=w':=by
 have hle:runN pH s.data.toList≤s.size:=by
  have:=gS pH s.data.toList;rwa[←Lib.size_eq] at this
 obtain⟨m,hm⟩ :∃m:Nat,m=runN pH s.data.toList:=⟨_,rfl⟩;rw[←hm] at hle ⊢;have HM:=aa hm;clear hm;go_enter Tryz.func68,Tryz.ntmps68
 go_wp2_with fail
 go_loop [5] (fun i=>∃k:Nat,k≤m∧i=.int .i64 k) (fun i=>s.size-(intOf i).toNat)
 case atStart=>exact⟨0,bK _,rfl⟩
 case round =>
  obtain⟨k,hk,rfl⟩:=hrel;by_cases hlt:k<s.size
  ·have hg:s.data.toList[k]? = some s[k]:=bX (l:=s.data.toList) (i:=k) (by simpa using hlt)
   cases e:pH s[k]
   ·have jV:=mG (by rw[←HM.out];exact hk) hg e
    have HK:=aa (fun W=>zG s[k] _ W e)
    clear hg e;have HS:=aa (jV.trans HM.out.symm);clear jV;go_wp2_with (go_at_call 70;refine(HK.out _).mono ?_;rintro e w' ⟨rfl,rfl⟩)
    go_ret
    exact⟨ij (by rw[HS.out]),rfl⟩
   ·have gd:=mF (by rw[←HM.out];exact hk) hg e
    have HK:=aa (fun W=>zG s[k] _ W e)
    clear hg e;rw[←HM.out] at gd;go_wp2_with (go_at_call 70;refine(HK.out _).mono ?_;rintro e w' ⟨rfl,rfl⟩)
    go_round
    case rel=>exact⟨k+1,gd,by go_num⟩
    case measure=>simp[intOf];omega
  ·have xu:k=m:=by omega
   go_wp2_with fail
   go_ret
   exact⟨ij (by omega),rfl⟩
theorem Ks (s:ByteArray) (w:World) (hs:s.size≤100000):Calls Tryz.prog 68 #[.string s,.func (.func 134) #[] #[]] w fun e w'=>e=.returned (.int .i64 (runN mB s.data.toList:Int))∧w=w':=by
 have hle:runN mB s.data.toList≤s.size:=by
  have:=gS mB s.data.toList;rwa[←Lib.size_eq] at this
 obtain⟨m,hm⟩ :∃m:Nat,m=runN mB s.data.toList:=⟨_,rfl⟩;rw[←hm] at hle ⊢;have HM:=aa hm;clear hm;go_enter Tryz.func68,Tryz.ntmps68
 go_wp2_with fail
 go_loop [5] (fun i=>∃k:Nat,k≤m∧i=.int .i64 k) (fun i=>s.size-(intOf i).toNat)
 case atStart=>exact⟨0,bK _,rfl⟩
 case round =>
  obtain⟨k,hk,rfl⟩:=hrel;by_cases hlt:k<s.size
  ·have hg:s.data.toList[k]? = some s[k]:=bX (l:=s.data.toList) (i:=k) (by simpa using hlt)
   cases e:mB s[k]
   ·have jV:=mG (by rw[←HM.out];exact hk) hg e
    have HK:=aa (fun W=>sQ s[k] _ W e)
    clear hg e;have HS:=aa (jV.trans HM.out.symm);clear jV;go_wp2_with (go_at_call 134;refine(HK.out _).mono ?_;rintro e w' ⟨rfl,rfl⟩)
    go_ret
    exact⟨ij (by rw[HS.out]),rfl⟩
   ·have gd:=mF (by rw[←HM.out];exact hk) hg e
    have HK:=aa (fun W=>sQ s[k] _ W e)
    clear hg e;rw[←HM.out] at gd;go_wp2_with (go_at_call 134;refine(HK.out _).mono ?_;rintro e w' ⟨rfl,rfl⟩)
    go_round
    case rel=>exact⟨k+1,gd,by go_num⟩
    case measure=>simp[intOf];omega
  ·have xu:k=m:=by omega
   go_wp2_with fail
   go_ret
   exact⟨ij (by omega),rfl⟩
theorem tD (s:ByteArray) (w:World) (hs:s.size≤100000):Calls Tryz.prog 68 #[.string s,.func (.func 77) #[] #[]] w fun e w'=>e=.returned (.int .i64 (runN oN s.data.toList:Int))∧w=w':=by
 have hle:runN oN s.data.toList≤s.size:=by
  have:=gS oN s.data.toList;rwa[←Lib.size_eq] at this
 obtain⟨m,hm⟩ :∃m:Nat,m=runN oN s.data.toList:=⟨_,rfl⟩;rw[←hm] at hle ⊢;have HM:=aa hm;clear hm;go_enter Tryz.func68,Tryz.ntmps68
 go_wp2_with fail
 go_loop [5] (fun i=>∃k:Nat,k≤m∧i=.int .i64 k) (fun i=>s.size-(intOf i).toNat)
 case atStart=>exact⟨0,bK _,rfl⟩
 case round =>
  obtain⟨k,hk,rfl⟩:=hrel;by_cases hlt:k<s.size
  ·have hg:s.data.toList[k]? = some s[k]:=bX (l:=s.data.toList) (i:=k) (by simpa using hlt)
   cases e:oN s[k]
   ·have jV:=mG (by rw[←HM.out];exact hk) hg e
    have HK:=aa (fun W=>vS s[k] _ W e)
    clear hg e;have HS:=aa (jV.trans HM.out.symm);clear jV;go_wp2_with (go_at_call 77;refine(HK.out _).mono ?_;rintro e w' ⟨rfl,rfl⟩)
    go_ret
    exact⟨ij (by rw[HS.out]),rfl⟩
   ·have gd:=mF (by rw[←HM.out];exact hk) hg e
    have HK:=aa (fun W=>vS s[k] _ W e)
    clear hg e;rw[←HM.out] at gd;go_wp2_with (go_at_call 77;refine(HK.out _).mono ?_;rintro e w' ⟨rfl,rfl⟩)
    go_round
    case rel=>exact⟨k+1,gd,by go_num⟩
    case measure=>simp[intOf];omega
  ·have xu:k=m:=by omega
   go_wp2_with fail
   go_ret
   exact⟨ij (by omega),rfl⟩
theorem Gh (s:ByteArray) (w:World) (hs:s.size≤100000):Calls Tryz.prog 68 #[.string s,.func (.func 75) #[] #[]] w fun e w'=>e=.returned (.int .i64 (runN gj s.data.toList:Int))∧w=w':=by
 have hle:runN gj s.data.toList≤s.size:=by
  have:=gS gj s.data.toList;rwa[←Lib.size_eq] at this
 obtain⟨m,hm⟩ :∃m:Nat,m=runN gj s.data.toList:=⟨_,rfl⟩;rw[←hm] at hle ⊢;have HM:=aa hm;clear hm;go_enter Tryz.func68,Tryz.ntmps68
 go_wp2_with fail
 go_loop [5] (fun i=>∃k:Nat,k≤m∧i=.int .i64 k) (fun i=>s.size-(intOf i).toNat)
 case atStart=>exact⟨0,bK _,rfl⟩
 case round =>
  obtain⟨k,hk,rfl⟩:=hrel;by_cases hlt:k<s.size
  ·have hg:s.data.toList[k]? = some s[k]:=bX (l:=s.data.toList) (i:=k) (by simpa using hlt)
   cases e:gj s[k]
   ·have jV:=mG (by rw[←HM.out];exact hk) hg e
    have HK:=aa (fun W=>fF s[k] _ W e)
    clear hg e;have HS:=aa (jV.trans HM.out.symm);clear jV;go_wp2_with (go_at_call 75;refine(HK.out _).mono ?_;rintro e w' ⟨rfl,rfl⟩)
    go_ret
    exact⟨ij (by rw[HS.out]),rfl⟩
   ·have gd:=mF (by rw[←HM.out];exact hk) hg e
    have HK:=aa (fun W=>fF s[k] _ W e)
    clear hg e;rw[←HM.out] at gd;go_wp2_with (go_at_call 75;refine(HK.out _).mono ?_;rintro e w' ⟨rfl,rfl⟩)
    go_round
    case rel=>exact⟨k+1,gd,by go_num⟩
    case measure=>simp[intOf];omega
  ·have xu:k=m:=by omega
   go_wp2_with fail
   go_ret
   exact⟨ij (by omega),rfl⟩
theorem Qi (s:ByteArray) (w:World) (hs:s.size≤100000):Calls Tryz.prog 68 #[.string s,.func (.func 173) #[] #[]] w fun e w'=>e=.returned (.int .i64 (runN yM s.data.toList:Int))∧w=w':=by
 have hle:runN yM s.data.toList≤s.size:=by
  have:=gS yM s.data.toList;rwa[←Lib.size_eq] at this
 obtain⟨m,hm⟩ :∃m:Nat,m=runN yM s.data.toList:=⟨_,rfl⟩;rw[←hm] at hle ⊢;have HM:=aa hm;clear hm;go_enter Tryz.func68,Tryz.ntmps68
 go_wp2_with fail
 go_loop [5] (fun i=>∃k:Nat,k≤m∧i=.int .i64 k) (fun i=>s.size-(intOf i).toNat)
 case atStart=>exact⟨0,bK _,rfl⟩
 case round =>
  obtain⟨k,hk,rfl⟩:=hrel;by_cases hlt:k<s.size
  ·have hg:s.data.toList[k]? = some s[k]:=bX (l:=s.data.toList) (i:=k) (by simpa using hlt)
   cases e:yM s[k]
   ·have jV:=mG (by rw[←HM.out];exact hk) hg e
    have HK:=aa (fun W=>Kq s[k] _ W e)
    clear hg e;have HS:=aa (jV.trans HM.out.symm);clear jV;go_wp2_with (go_at_call 173;refine(HK.out _).mono ?_;rintro e w' ⟨rfl,rfl⟩)
    go_ret
    exact⟨ij (by rw[HS.out]),rfl⟩
   ·have gd:=mF (by rw[←HM.out];exact hk) hg e
    have HK:=aa (fun W=>Kq s[k] _ W e)
    clear hg e;rw[←HM.out] at gd;go_wp2_with (go_at_call 173;refine(HK.out _).mono ?_;rintro e w' ⟨rfl,rfl⟩)
    go_round
    case rel=>exact⟨k+1,gd,by go_num⟩
    case measure=>simp[intOf];omega
  ·have xu:k=m:=by omega
   go_wp2_with fail
   go_ret
   exact⟨ij (by omega),rfl⟩
theorem an {b:Nat} {w u v:World} (h:Hid (Kp b w u)) (k:Kp b u v):Hid (Kp b w v):=aa (h.out.trans k)
def mH (b:Nat) (s:ByteArray) (k:Nat) (w:World) (o:Option (List UInt8)) (e:Ending) (w':World):Prop :=
 Kp b w w'∧match o with
  | some r=>∃k',e=.returned (.bool true)∧Rd w' b s k'∧aR s k'=r∧k<k'
  | none=>e=.returned (.bool false)
theorem mH.nJ {b:Nat} {s:ByteArray} {k:Nat} {w w':World} {r:List UInt8} {e:Ending} (h:mH b s k w (some r) e w') :∃k',e=.returned (.bool true)∧Rd w' b s k'∧aR s k'=r∧k<k'∧Kp b w w':=by
 obtain⟨h0,k',h1,h2,h3,h4⟩:=h;exact⟨k',h1,h2,h3,h4,h0⟩
theorem mH.nK {b:Nat} {s:ByteArray} {k:Nat} {w w':World} {e:Ending} (h:mH b s k w none e w'):e=.returned (.bool false)∧Kp b w w':=⟨h.2,h.1⟩
theorem zH (b:Nat) (s:ByteArray) (k:Nat) (w:World) (h:Rd w b s k) (hk:k+2≤s.size):Calls Tryz.prog 72 #[.pointer (some ⟨b,0,none⟩)] w (mH b s k w (comm (aR s (k+2)))):=by
 have bD:=h.top;have HR:=aa h;clear h;have T1:=aa (fun W h=>bu b s k 2 W h hk)
 by_cases hp:0<opn (aR s (k+2))
 ·have B1:=aa (fun W=>nI (s.extract (k+2) s.size) true W (by rw[aD s _ hk];omega) (by rw[db];exact bZ hp))
  have K1:=aa (fun W h=>ot b s (k+2) W h hp)
  have hc:comm (aR s (k+2))=(Jo (aR s (k+2))).map (·.2):=by unfold comm;rw[al hp]
  cases hb:Jo (aR s (k+2)) with
  | none =>
   rw[hb] at hc;have HC:=aa hc;rw[hb] at K1;clear hb hc hp;go_enter Tryz.func72,Tryz.ntmps72
   go_wp2_with fail
   refine(T1.out _ HR.out).mono ?_;rintro e w1 ⟨rfl,r1,k1⟩;have R1:=aa r1;have Zy:=aa k1;clear r1 k1;go_wp2_with fail
   refine(aA _ _ _ _ R1.out).mono ?_;rintro e w2 ⟨rfl,r2,k2⟩;have R2:=aa r2;have Zz:=an Zy k2;clear r2 k2;go_wp2_with fail
   refine(B1.out _).mono ?_;rintro e Kt ⟨rfl,rfl⟩;go_wp2_with fail
   refine(K1.out _ R2.out).mono ?_;intro e w3 zI;obtain⟨rfl,k3⟩:=zI.nK;clear zI;have ZA:=an Zz k3;clear k3;go_wp2_with fail
   go_ret
   refine⟨ZA.out,?_⟩;rw[HC.out];rfl
  | some z =>
   obtain⟨t,r⟩:=z;rw[hb] at hc;have HC:=aa hc;rw[hb] at K1;clear hb hc hp;go_enter Tryz.func72,Tryz.ntmps72
   go_wp2_with fail
   refine(T1.out _ HR.out).mono ?_;rintro e w1 ⟨rfl,r1,k1⟩;have R1:=aa r1;have Zy:=aa k1;clear r1 k1;go_wp2_with fail
   refine(aA _ _ _ _ R1.out).mono ?_;rintro e w2 ⟨rfl,r2,k2⟩;have R2:=aa r2;have Zz:=an Zy k2;clear r2 k2;go_wp2_with fail
   refine(B1.out _).mono ?_;rintro e Kt ⟨rfl,rfl⟩;go_wp2_with fail
   refine(K1.out _ R2.out).mono ?_;intro e w3 zI;obtain⟨k',rfl,r3,hr3,hlt,k3⟩:=zI.nJ;clear zI;have R3:=aa r3;have ZA:=an Zz k3;have HE:=aa hr3;clear r3 k3 hr3;go_wp2_with fail
   go_ret
   refine⟨ZA.out,?_⟩;rw[HC.out];exact⟨k',rfl,R3.out,HE.out,by omega⟩
 ·have B1:=aa (fun W=>nI (s.extract (k+2) s.size) false W (by rw[aD s _ hk];omega) (by rw[db];exact cr hp))
  obtain⟨A,hA⟩ :∃A:ByteArray,A=⟨(Lib.cut (aR s (k+2)) [10]).1.toArray⟩:=⟨_,rfl⟩;obtain⟨R,hR⟩ :∃R:ByteArray,R=⟨(Lib.cut (aR s (k+2)) [10]).2.1.toArray⟩:=⟨_,rfl⟩;obtain⟨o,ho⟩ :∃o:Bool,o=(Lib.cut (aR s (k+2)) [10]).2.2:=⟨_,rfl⟩;have C1:=aa (fun W hW=>zE (s.extract (k+2) s.size) ⟨#[10]⟩ W (by rw[aD s _ hk];omega) hW)
  rw[db,show(⟨#[10]⟩:ByteArray).data.toList=[10] from rfl,←hA,←hR,←ho] at C1
  have YR:A.size=(Lib.cut (aR s (k+2)) [10]).1.length:=by rw[hA,Ea]
  have hc:comm (aR s (k+2))=some (aR s (k+2+A.size)):=by unfold comm;rw[af hp,←YR,eP]
  have hAl:k+2+A.size≤s.size:=by
   rw[YR,Vu];have:=gS (fun c=>c != 10) (aR s (k+2))
   rw[fI] at this;unfold runN at this;omega
  have HC:=aa hc;have T2:=aa (fun W h=>bu b s (k+2) A.size W h hAl)
  clear hA hR ho YR hc hp;go_enter Tryz.func72,Tryz.ntmps72
  go_wp2_with fail
  refine(T1.out _ HR.out).mono ?_;rintro e w1 ⟨rfl,r1,k1⟩;have R1:=aa r1;have Zy:=aa k1;clear r1 k1;go_wp2_with fail
  refine(aA _ _ _ _ R1.out).mono ?_;rintro e w2 ⟨rfl,r2,k2⟩;have R2:=aa r2;have Zz:=an Zy k2;clear r2 k2;go_wp2_with fail
  refine(B1.out _).mono ?_;rintro e Kt ⟨rfl,rfl⟩;go_wp2_with fail
  refine(aA _ _ _ _ R2.out).mono ?_;rintro e w3 ⟨rfl,r3,k3⟩;have R3:=aa r3;have ZA:=an Zz k3;clear r3 k3;go_wp2_with fail
  refine(C1.out _ R3.out.mx).mono ?_;rintro e w4 ⟨rfl,n4,rfl⟩;have R4:=aa (R3.out.draws n4);have KK4:=aa (ZA.out.draws n4);generalize w3.drewN n4=w4 at *;go_wp2_with fail
  refine(T2.out _ R4.out).mono ?_;rintro e w5 ⟨rfl,r5,k5⟩;have R5:=aa r5;have KK5:=an KK4 k5;clear r5 k5;go_wp2_with fail
  go_ret
  refine⟨KK5.out,?_⟩;rw[HC.out];exact⟨_,rfl,R5.out,rfl,by omega⟩
def zJ (W:World) (v:Value) (n:Int):Prop:=∃g,v=.iface 83 (.pointer (some ⟨g,0,none⟩))∧W.heap[g]? = some (.cells #[.int .i64 n,.iface 79 (.int .i64 5)] 85 (0,0))
theorem kM (n:Int) (w:World):Calls Tryz.prog 31 #[.int .i64 n,.int .i64 5] w fun e w'=>e=.returned (.iface 83 (.pointer (some ⟨w.heap.size,0,none⟩)))∧w'=w.alloc (.cells #[.int .i64 n,.iface 79 (.int .i64 5)] 85):=by
 go_enter Tryz.func31,Tryz.ntmps31
 go_wp2
 go_ret
 exact⟨rfl,rfl⟩
theorem zJ.new (w:World) (n:Int):zJ (w.alloc (.cells #[.int .i64 n,.iface 79 (.int .i64 5)] 85)) (.iface 83 (.pointer (some ⟨w.heap.size,0,none⟩))) n:=⟨_,rfl,World.alloc_heap_new w _⟩
def dc (s:ByteArray):Int:=1+(nl s.data.toList:Int)
theorem jd (s:ByteArray) (k:Nat):((1+nl (s.data.toList.take k):Nat):Int)=dc s-nl (aR s k):=by
 unfold dc aR;have:=Vs s.data.toList k;omega
def Ku (b:Nat) (s:ByteArray) (k:Nat) (w:World) (e:Ending) (w':World):Prop :=
 Kp b w w'∧((∃k',e=.returned .nilIface∧Rd w' b s k'∧k≤k'∧mD (aR s k) (.ok (aR s k'))) ∨
  (∃r v,e=.returned v∧zJ w' v (dc s-nl r)∧mD (aR s k) (.error r)))
theorem Kv {l:List UInt8} (h:Lib.hasPrefix l [45,45]=true):l=45::45::l.drop 2:=by
 match l with
 | []=>simp[Lib.hasPrefix] at h
 | [a]=>simp[Lib.hasPrefix] at h
 | a::b::t =>
  simp[Lib.hasPrefix,List.isPrefixOf] at h;simp[←h.1,←h.2]
theorem Kw (b:Nat) (s:ByteArray) (k:Nat) (w:World) (h:Rd w b s k):Calls Tryz.prog 32 #[.pointer (some ⟨b,0,none⟩)] w (Ku b s k w):=by
 have bD:=h.top;have hle:=h.le;have HR:=aa h;clear h;go_enter Tryz.func32,Tryz.ntmps32
 go_wp2_with fail
 go_loopg [] s.size (fun z wr=>∃k1,Rd wr b s k1∧s.size-k1≤z∧Kp b w wr∧k≤k1∧∀o,mD (aR s k1) o→mD (aR s k) o)
 case atStart=>exact⟨k,HR.out,by omega,Kp.refl _ _,ah _,fun _ h=>h⟩
 case round =>
  obtain⟨k1,hr,hz,Qj,jw,hsk⟩:=hrel;have Qk:=hr.le;have R0:=aa hr;have K0:=aa Qj;have HS:=aa hsk;clear hr Qj hsk;obtain⟨m,hm⟩ :∃m:Nat,m=runN pH (aR s k1):=⟨_,rfl⟩;have C1:=aa (fun W=>vT (s.extract k1 s.size) W (by rw[aD s _ Qk];omega))
  rw[db,←hm] at C1;have yN:=gS pH (aR s k1);rw[fI,←hm] at yN;have ZB:(aR s k1).dropWhile pH=aR s (k1+m):=by rw[←pJ,←hm,eP]
  have HD:=aa ZB;clear hm ZB;cases tE:Lib.hasPrefix (aR s (k1+m)) [45,45]
  ·have P1:=aa (fun W=>lE (s.extract (k1+m) s.size) ⟨#[45,45]⟩ W false (by rw[db];exact tE))
   have HP:=aa tE;clear tE;go_wp2_with fail
   refine(aA _ _ _ _ R0.out).mono ?_;rintro e w1 ⟨rfl,r1,T3⟩;have R1:=aa r1;have K1:=an K0 T3;clear r1 T3;go_wp2_with fail
   refine(C1.out _).mono ?_;rintro e BK ⟨rfl,rfl⟩;go_wp2_with fail
   refine(bu _ _ _ _ _ R1.out (by omega)).mono ?_;rintro e w2 ⟨rfl,r2,k2⟩
   have R2:=aa r2;have K2:=an K1 k2;clear r2 k2;go_wp2_with fail
   refine(aA _ _ _ _ R2.out).mono ?_;rintro e w3 ⟨rfl,r3,k3⟩;have R3:=aa r3;have K3:=an K2 k3;clear r3 k3;go_wp2_with fail
   refine(P1.out _).mono ?_;rintro e w3' ⟨rfl,rfl⟩;go_wp2_with fail
   go_ret
   exact⟨K3.out,.inl ⟨_,rfl,R3.out,by omega,HS.out _ (.done HD.out HP.out)⟩⟩
  ·have P1:=aa (fun W=>lE (s.extract (k1+m) s.size) ⟨#[45,45]⟩ W true (by rw[db];exact tE))
   have h2:=Kv tE;rw[eP] at h2;have hroom:k1+m+2≤s.size:=by
    have:=az List.length h2;rw[fI,List.length_cons,List.length_cons] at this;omega
   have HP:=aa h2;clear tE h2;have CM:=aa (fun W h=>zH b s (k1+m) W h hroom)
   cases hcm:comm (aR s (k1+m+2)) with
   | none =>
    rw[hcm] at CM;have HCM:=aa hcm;clear hcm;go_wp2_with fail
    refine(aA _ _ _ _ R0.out).mono ?_;rintro e w1 ⟨rfl,r1,T3⟩;have R1:=aa r1;have K1:=an K0 T3;clear r1 T3;go_wp2_with fail
    refine(C1.out _).mono ?_;rintro e BK ⟨rfl,rfl⟩;go_wp2_with fail
    refine(bu _ _ _ _ _ R1.out (by omega)).mono ?_;rintro e w2 ⟨rfl,r2,k2⟩
    have R2:=aa r2;have K2:=an K1 k2;clear r2 k2;go_wp2_with fail
    refine(aA _ _ _ _ R2.out).mono ?_;rintro e w3 ⟨rfl,r3,k3⟩;have R3:=aa r3;have K3:=an K2 k3;clear r3 k3;go_wp2_with fail
    refine(P1.out _).mono ?_;rintro e w3' ⟨rfl,rfl⟩;have c2:=R3.out.c2;rw[jd] at c2;generalize Ec:dc s-(nl (aR s (k1+m)):Int)=line at c2;have HL:=aa Ec;clear Ec;go_wp2_with fail
    clear c2;refine(CM.out _ R3.out).mono ?_;intro e w4 fN;obtain⟨rfl,k4⟩:=fN.nK;have K4:=an K3 k4;clear fN k4;go_wp2_with fail
    refine(kM _ _).mono ?_;rintro e w5 ⟨rfl,rfl⟩;go_wp2_with fail
    go_ret
    refine⟨K4.out.alloc _,.inr ⟨_,_,rfl,?_,HS.out _ (.bad (HD.out.trans HP.out) HCM.out)⟩⟩;rw[←HP.out,HL.out];exact zJ.new _ _
   | some r' =>
    rw[hcm] at CM;have HCM:=aa hcm;clear hcm;go_wp2_with fail
    refine(aA _ _ _ _ R0.out).mono ?_;rintro e w1 ⟨rfl,r1,T3⟩;have R1:=aa r1;have K1:=an K0 T3;clear r1 T3;go_wp2_with fail
    refine(C1.out _).mono ?_;rintro e BK ⟨rfl,rfl⟩;go_wp2_with fail
    refine(bu _ _ _ _ _ R1.out (by omega)).mono ?_;rintro e w2 ⟨rfl,r2,k2⟩
    have R2:=aa r2;have K2:=an K1 k2;clear r2 k2;go_wp2_with fail
    refine(aA _ _ _ _ R2.out).mono ?_;rintro e w3 ⟨rfl,r3,k3⟩;have R3:=aa r3;have K3:=an K2 k3;clear r3 k3;go_wp2_with fail
    refine(P1.out _).mono ?_;rintro e w3' ⟨rfl,rfl⟩;have c2:=R3.out.c2;rw[jd] at c2;generalize Ec:dc s-(nl (aR s (k1+m)):Int)=line at c2;clear Ec;go_wp2_with fail
    clear c2;refine(CM.out _ R3.out).mono ?_;intro e w4 fN;obtain⟨k',rfl,r4,hr4,hlt,k4⟩:=fN.nJ;have R4:=aa r4;have K4:=an K3 k4;have HE:=aa hr4;clear fN k4 r4 hr4;go_wp2_with fail
    go_roundg (s.size-k')
    case measure=>have:=R4.out.le;omega
    case rel=>exact⟨k',R4.out,ah _,K4.out,by omega,fun o ho=>HS.out o (.more (HD.out.trans HP.out) HCM.out (HE.out▸ho))⟩
theorem zK {b:Nat} {l:List UInt8} (h:iD b l=true) {c:UInt8} (hc:c∈l):oq c.toNat<b:=by
 unfold iD at h;rw[List.all_eq_true] at h;simpa using h c hc
theorem Kx {p:UInt8→Bool} (a b:List UInt8) (h :∀c∈a,p c=true):(a++b).dropWhile p=b.dropWhile p:=by
 induction a with
 | nil=>rfl
 | cons c t ih =>
  rw[fh,List.dropWhile,h c (by simp)]
  exact ih fun x hx=>h x (by simp[hx])
theorem Ed {p:UInt8→Bool} (a b:List UInt8) (ha:a≠[]) (h :∀c∈a,p c=false):(a++b).dropWhile p=a++b:=by
 cases a with
 | nil=>exact absurd rfl ha
 | cons c t=>rw[fh,List.dropWhile,h c (by simp)]
theorem Ql (p x q:List UInt8) (hp :∀c∈p,xy c.toNat=true) (hq :∀c∈q,xy c.toNat=true) (hx :∀c∈x,xy c.toNat=false) (hn:x≠[]):D5 (p++x++q)=x:=by
 rw[←vO];unfold Lib.trimLeftS Lib.trimRightS;have e1:List.dropWhile (fun y=>blanks.contains y) (p++x++q)=x++q:=by
  rw[fg,Kx p (x++q) (fun c hc=>by rw[lB];exact hp c hc),Ed x q hn (fun c hc=>by rw[lB];exact hx c hc)]
 rw[e1,List.reverse_append,Kx q.reverse x.reverse (fun c hc=>by rw[lB];exact hq c (by simpa using hc))]
 have e2:=Ed (p:=fun y=>blanks.contains y) x.reverse [] (by simpa using hn) (fun c hc=>by rw[lB];exact hx c (by simpa using hc))
 rw[iX] at e2;rw[e2,List.reverse_reverse]
theorem vU {b:Nat} {l d:List UInt8} (h2:2≤b) (h36:b≤36) (ht:D5 l=d) (h:xA d=false):kJ b l=yL (Ce b d:Int)∧pG b l=sy b d:=by
 unfold kJ pG;have e:Lib.trimPrefix d [45]=d:=by unfold Lib.trimPrefix;unfold xA at h;rw[h,af (by decide)]
 have hb:2≤(b:Int)∧(b:Int)≤36:=by omega
 have hm:¬ xA d=true:=by rw[h];decide
 rw[ht,al hb,al hb,af hm,e,iz];exact⟨rfl,rfl⟩
theorem VD {n:Int} (h0:-9223372036854775808≤n) (h1:n≤9223372036854775807):yL n=n:=by unfold yL;omega
theorem Gi (b:Nat) (l:List UInt8) :∀n:Nat,l.foldl (fun n c=>n*b+oq c.toNat) n=n*b ^ l.length+val b l:=by
 induction l with
 | nil=>intro n;simp[val]
 | cons c t ih =>
  intro n;have e:val b (c::t)=oq c.toNat*b ^ t.length+val b t:=by
   show t.foldl _ (0*b+oq c.toNat)=_
   rw[ih];simp
  rw[List.foldl_cons,ih,e,List.length_cons,DX,D1,Nat.mul_assoc,DY b,pC]
theorem Ky (b:Nat) (c:UInt8) (l:List UInt8):val b (c::l)=oq c.toNat*b ^ l.length+val b l:=by
 show l.foldl _ (0*b+oq c.toNat)=_
 rw[Gi];simp
theorem Kz {b:Nat} (hb:b≤36) {l:List UInt8} (h:iD b l=true) :∀c∈l,xy c.toNat=false:=by
 intro c hc;have:=zK h hc;unfold xy;rw[Bool.or_eq_false_iff,y8,y8];unfold oq at this;split at this
 ·omega
 ·split at this
  ·omega
  ·split at this<;>omega
theorem VE {b:Nat} (hb:b≤36) {l:List UInt8} (h:iD b l=true) (t:List UInt8) (hl:l≠[]):xA (l++t)=false:=by
 cases l with
 | nil=>exact absurd rfl hl
 | cons c r =>
  have h1:=zK h (c:=c) (by simp)
  have hne:((45:UInt8) == c)=false:=by
   rw[aG];rintro rfl;have:oq (45:UInt8).toNat=36:=by decide
   omega
  simp[xA,Lib.hasPrefix,List.isPrefixOf,hne]
theorem VF {x:List UInt8} (hx :∀c∈x,xy c.toNat=false) (hn:x≠[]):D5 x=x:=by
 have:=Ql [] x [] (fun c hc=>by cases hc) (fun c hc=>by cases hc) hx hn
 simpa using this
def Bts (W:World) (v:Value) (m:List UInt8):Prop :=
 (v=.slice none 0 0∧m=[])∨(∃g x,m=[x]∧v=.slice (some ⟨g,0,none⟩) 1 1∧W.cell? ⟨g,0,none⟩=some (.int .u8 (x.toNat:Int)))
def bU (b:Nat) (s:ByteArray) (k:Nat) (w:World) (o:Option (List UInt8×List UInt8)) (e:Ending) (w':World):Prop :=
 Kp b w w'∧match o with
  | some (m,r)=>∃k' v,e=.returned (.tuple #[v,.bool true])∧Bts w' v m∧Rd w' b s k'∧aR s k'=r∧k≤k'
  | none=>e=.returned (.tuple #[.slice none 0 0,.bool false])
theorem tF {b:Nat} (hb:2≤b) (hb':b≤36) {d:List UInt8} (hd:iD b d=true) (hl:d.length≤3):0≤kJ b d:=by
 by_cases h0:d=[]
 ·subst h0
  have:=(vU (l:=[]) (d:=[]) hb hb' rfl rfl).1;rw[this];rw[xx rfl];decide
 ·have ht:=VF (Kz hb' hd) h0
  have hm:xA d=false:=by have:=VE hb' hd [] h0;rwa[iX] at this
  rw[(vU hb hb' ht hm).1,Cf (D9 h0 hd)];have hv:val b d<46657:=by
   have:val b d≤b ^ d.length:=by
    have h2 :∀(l:List UInt8),iD b l=true→val b l+1≤b ^ l.length:=by
     intro l;induction l with
     | nil=>intro _;simp[val]
     | cons c t ih =>
      intro h;simp only[iD,rI,di,iy] at h;rw[Ky,List.length_cons,DX];have i:=ih h.2;have h4:(oq c.toNat+1)*b ^ t.length≤b*b ^ t.length:=DN _ (by omega)
      rw[D1,D3] at h4;rw[DY (b ^ t.length) b];omega
    have:=h2 d hd;omega
   have h3:b ^ d.length≤36 ^ 3:=aL (Nat.pow_le_pow_left hb' _) (JM (by omega) hl)
   have h4:(36:Nat) ^ 3=46656:=by decide
   omega
  rw[VD (by omega) (by omega)]
  omega
theorem Gj {p:UInt8→Bool} (l:List UInt8) (n:Nat) :∀c∈l.take (min n (runN p l)),p c=true:=by
 intro c hc;have h1:c∈l.take (runN p l):=(List.take_subset_take_left l (Nat.min_le_right n (runN p l))) hc;rw[pI] at h1;exact List.all_eq_true.1 List.all_takeWhile c h1
theorem VG :∀c:UInt8,yM c=true→oq c.toNat<16:=Cg (by decide +kernel)
theorem VH :∀c:UInt8,gj c=true→oq c.toNat<10:=Cg (by decide +kernel)
theorem vV {p:UInt8→Bool} {b:Nat} (h :∀c:UInt8,p c=true→oq c.toNat<b) (l:List UInt8) (n:Nat):iD b (l.take (min n (runN p l)))=true:=by
 unfold iD;rw[List.all_eq_true];intro c hc;exact bZ (h c (Gj l n c hc))
theorem dM (w:World) (x:Int) (u:UInt8) (h:x=(u.toNat:Int)):Bts (w.alloc (.cells #[.int .u8 x] 5)) (.slice (some ⟨w.heap.size,0,none⟩) 1 1) [u]:=by
 refine .inr ⟨_,u,rfl,rfl,?_⟩;rw[←h];unfold World.cell?;rw[World.alloc_heap_new];rfl
theorem T6 {n:Int} (h0:0≤n) (h1:n≤255):n=((UInt8.ofNat n.toNat).toNat:Int):=by
 rw[UInt8.toNat_ofNat',Nat.mod_eq_of_lt (by omega)]
 omega
theorem KC (b:Nat) (s:ByteArray) (k:Nat) (w:World) (h:Rd w b s k) :
  Calls Tryz.prog 172 #[.pointer (some ⟨b,0,none⟩),.int .i64 16,.func (.func 173) #[] #[],.int .i64 2,.int .i64 2] w (bU b s k w (code 16 yM 2 2 (aR s k))):=by
 have bD:=h.top;have hle:=h.le;have HR:=aa h;clear h;obtain⟨m,hm⟩ :∃m:Nat,m=runN yM (aR s k):=⟨_,rfl⟩;have C1:=aa (fun W=>Qi (s.extract k s.size) W (by rw[aD s _ hle];omega))
 rw[db,←hm] at C1;have yN:=gS yM (aR s k);rw[fI,←hm] at yN;have hall:=vV (p:=yM) (b:=16) VG (aR s k) 2;rw[←hm] at hall;obtain⟨c,hc⟩ :∃c:Nat,c=min 2 m:=⟨_,rfl⟩;have hT :∀W,Rd W b s k→Calls Tryz.prog 67 #[.pointer (some ⟨b,0,none⟩),.int .i64 (min 2 (m:Int))] W fun e w'=>e=.returned (.string (s.extract k (k+c)))∧Rd w' b s (k+c)∧Kp b W w':=fun W h=>by
  have:=bu b s k c W h (by omega)
  rwa[show(c:Int)=min 2 (m:Int) by omega] at this
 have pN:code 16 yM 2 2 (aR s k)=if pG 16 (s.extract k (k+c)).data.toList=true∧2≤c∧kJ 16 (s.extract k (k+c)).data.toList≤255 then some ([UInt8.ofNat (kJ 16 (s.extract k (k+c)).data.toList).toNat],aR s (k+c)) else none:=by
  unfold code;rw[←hm,←hc,←eQ,eP]
 rw[←hc,←eQ] at hall;have qI:=tF (b:=16) (by decide) (by decide) hall (by rw[eQ,og];omega)
 have VI:(s.extract k (k+c)).size=c:=by rw[te];omega
 obtain⟨D,hD⟩ :∃D:ByteArray,D=s.extract k (k+c):=⟨_,rfl⟩;rw[←hD] at hT pN qI VI;have C2:=aa hT;have C3:=aa (fun W=>TZ D 16 W (by omega))
 obtain⟨N,hN⟩ :∃N:Int,N=kJ 16 D.data.toList:=⟨_,rfl⟩;obtain⟨o,ho⟩ :∃o:Bool,o=pG 16 D.data.toList:=⟨_,rfl⟩;rw[show((16:Nat):Int)=(16:Int) from rfl] at qI
 rw[←hN] at qI;rw[←hN,←ho] at C3 pN;have HC:=aa pN;clear hm hall hT pN hD hN ho;have zL:o=false∨(o=true∧D.size<2)∨(o=true∧2≤D.size∧255<N)∨(o=true∧2≤D.size∧N≤255):=by
  cases o
  ·exact .inl rfl
  ·right
   by_cases h1:D.size<2
   ·exact .inl ⟨rfl,h1⟩
   ·right
    by_cases h2:255<N
    ·exact .inl ⟨rfl,by omega,h2⟩
    ·exact .inr ⟨rfl,by omega,by omega⟩
 rcases zL with rfl | ⟨rfl,h1⟩ | ⟨rfl,h1,h2⟩ | ⟨rfl,h1,h2⟩;all_goals have ZC:=aa VI
 all_goals have HCm:=aa hc
 all_goals clear VI hc
 ·go_enter Tryz.func172,Tryz.ntmps172
  go_wp2_with fail
  refine(aA _ _ _ _ HR.out).mono ?_;rintro e w1 ⟨rfl,r1,k1⟩;have R1:=aa r1;have K1:=aa k1;clear r1 k1;go_wp2_with fail
  refine(C1.out _).mono ?_;rintro e BK ⟨rfl,rfl⟩;go_wp2_with fail
  refine(C2.out _ R1.out).mono ?_;rintro e w2 ⟨rfl,r2,k2⟩;have R2:=aa r2;have K2:=an K1 k2;clear r2 k2;go_wp2_with fail
  refine(C3.out _).mono ?_;rintro e w3 ⟨rfl,b3⟩;have K3:=an K2 (Kp.ae b3);clear b3;go_wp2_with fail
  go_ret2
  refine⟨K3.out,?_⟩;rw[HC.out,af (by simp)]
  rfl
 ·have g1:decide (D.size<2)=true:=bZ h1
  go_enter Tryz.func172,Tryz.ntmps172
  go_wp2_with fail
  refine(aA _ _ _ _ HR.out).mono ?_;rintro e w1 ⟨rfl,r1,k1⟩;have R1:=aa r1;have K1:=aa k1;clear r1 k1;go_wp2_with fail
  refine(C1.out _).mono ?_;rintro e BK ⟨rfl,rfl⟩;go_wp2_with fail
  refine(C2.out _ R1.out).mono ?_;rintro e w2 ⟨rfl,r2,k2⟩;have R2:=aa r2;have K2:=an K1 k2;clear r2 k2;go_wp2_with fail
  refine(C3.out _).mono ?_;rintro e w3 ⟨rfl,b3⟩;have K3:=an K2 (Kp.ae b3);clear b3;go_wp2_with fail
  go_ret2
  refine⟨K3.out,?_⟩;rw[HC.out,af (by have:=ZC.out;omega)]
  rfl
 ·have g1:decide (D.size<2)=false:=cr (by omega)
  have g2:decide (255<N)=true:=bZ h2;go_enter Tryz.func172,Tryz.ntmps172
  go_wp2_with fail
  refine(aA _ _ _ _ HR.out).mono ?_;rintro e w1 ⟨rfl,r1,k1⟩;have R1:=aa r1;have K1:=aa k1;clear r1 k1;go_wp2_with fail
  refine(C1.out _).mono ?_;rintro e BK ⟨rfl,rfl⟩;go_wp2_with fail
  refine(C2.out _ R1.out).mono ?_;rintro e w2 ⟨rfl,r2,k2⟩;have R2:=aa r2;have K2:=an K1 k2;clear r2 k2;go_wp2_with fail
  refine(C3.out _).mono ?_;rintro e w3 ⟨rfl,b3⟩;have K3:=an K2 (Kp.ae b3);clear b3;go_wp2_with fail
  go_ret2
  refine⟨K3.out,?_⟩;rw[HC.out,af (by omega)]
  rfl
 ·have g1:decide (D.size<2)=false:=cr (by omega)
  have g2:decide (255<N)=false:=cr (by omega)
  go_enter Tryz.func172,Tryz.ntmps172
  go_wp2_with fail
  refine(aA _ _ _ _ HR.out).mono ?_;rintro e w1 ⟨rfl,r1,k1⟩;have R1:=aa r1;have K1:=aa k1;clear r1 k1;go_wp2_with fail
  refine(C1.out _).mono ?_;rintro e BK ⟨rfl,rfl⟩;go_wp2_with fail
  refine(C2.out _ R1.out).mono ?_;rintro e w2 ⟨rfl,r2,k2⟩;have R2:=aa r2;have K2:=an K1 k2;clear r2 k2;go_wp2_with fail
  refine(C3.out _).mono ?_;rintro e w3 ⟨rfl,b3⟩;have R3:=aa (R2.out.below b3);have K3:=an K2 (Kp.ae b3);clear b3;go_wp2_with fail
  go_ret2
  refine⟨K3.out.alloc _,?_⟩;rw[HC.out,al ⟨by trivial,by have:=ZC.out;omega,h2⟩]
  exact⟨_,_,rfl,dM _ _ _ (T6 qI h2),R3.out.alloc _,rfl,by omega⟩
theorem dN (b:Nat) (s:ByteArray) (k:Nat) (w:World) (h:Rd w b s k) :
  Calls Tryz.prog 172 #[.pointer (some ⟨b,0,none⟩),.int .i64 10,.func (.func 75) #[] #[],.int .i64 1,.int .i64 3] w (bU b s k w (code 10 gj 1 3 (aR s k))):=by
 have bD:=h.top;have hle:=h.le;have HR:=aa h;clear h;obtain⟨m,hm⟩ :∃m:Nat,m=runN gj (aR s k):=⟨_,rfl⟩;have C1:=aa (fun W=>Gh (s.extract k s.size) W (by rw[aD s _ hle];omega))
 rw[db,←hm] at C1;have yN:=gS gj (aR s k);rw[fI,←hm] at yN;have hall:=vV (p:=gj) (b:=10) VH (aR s k) 3;rw[←hm] at hall;obtain⟨c,hc⟩ :∃c:Nat,c=min 3 m:=⟨_,rfl⟩;have hT :∀W,Rd W b s k→Calls Tryz.prog 67 #[.pointer (some ⟨b,0,none⟩),.int .i64 (min 3 (m:Int))] W fun e w'=>e=.returned (.string (s.extract k (k+c)))∧Rd w' b s (k+c)∧Kp b W w':=fun W h=>by
  have:=bu b s k c W h (by omega)
  rwa[show(c:Int)=min 3 (m:Int) by omega] at this
 have pN:code 10 gj 1 3 (aR s k)=if pG 10 (s.extract k (k+c)).data.toList=true∧1≤c∧kJ 10 (s.extract k (k+c)).data.toList≤255 then some ([UInt8.ofNat (kJ 10 (s.extract k (k+c)).data.toList).toNat],aR s (k+c)) else none:=by
  unfold code;rw[←hm,←hc,←eQ,eP]
 rw[←hc,←eQ] at hall;have qI:=tF (b:=10) (by decide) (by decide) hall (by rw[eQ,og];omega)
 have VI:(s.extract k (k+c)).size=c:=by rw[te];omega
 obtain⟨D,hD⟩ :∃D:ByteArray,D=s.extract k (k+c):=⟨_,rfl⟩;rw[←hD] at hT pN qI VI;have C2:=aa hT;have C3:=aa (fun W=>TZ D 10 W (by omega))
 obtain⟨N,hN⟩ :∃N:Int,N=kJ 10 D.data.toList:=⟨_,rfl⟩;obtain⟨o,ho⟩ :∃o:Bool,o=pG 10 D.data.toList:=⟨_,rfl⟩;rw[show((10:Nat):Int)=(10:Int) from rfl] at qI
 rw[←hN] at qI;rw[←hN,←ho] at C3 pN;have HC:=aa pN;clear hm hall hT pN hD hN ho;have zL:o=false∨(o=true∧D.size<1)∨(o=true∧1≤D.size∧255<N)∨(o=true∧1≤D.size∧N≤255):=by
  cases o
  ·exact .inl rfl
  ·right
   by_cases h1:D.size<1
   ·exact .inl ⟨rfl,h1⟩
   ·right
    by_cases h2:255<N
    ·exact .inl ⟨rfl,by omega,h2⟩
    ·exact .inr ⟨rfl,by omega,by omega⟩
 rcases zL with rfl | ⟨rfl,h1⟩ | ⟨rfl,h1,h2⟩ | ⟨rfl,h1,h2⟩;all_goals have ZC:=aa VI
 all_goals have HCm:=aa hc
 all_goals clear VI hc
 ·go_enter Tryz.func172,Tryz.ntmps172
  go_wp2_with fail
  refine(aA _ _ _ _ HR.out).mono ?_;rintro e w1 ⟨rfl,r1,k1⟩;have R1:=aa r1;have K1:=aa k1;clear r1 k1;go_wp2_with fail
  refine(C1.out _).mono ?_;rintro e BK ⟨rfl,rfl⟩;go_wp2_with fail
  refine(C2.out _ R1.out).mono ?_;rintro e w2 ⟨rfl,r2,k2⟩;have R2:=aa r2;have K2:=an K1 k2;clear r2 k2;go_wp2_with fail
  refine(C3.out _).mono ?_;rintro e w3 ⟨rfl,b3⟩;have K3:=an K2 (Kp.ae b3);clear b3;go_wp2_with fail
  go_ret2
  refine⟨K3.out,?_⟩;rw[HC.out,af (by simp)]
  rfl
 ·have g1:decide (D.size<1)=true:=bZ h1
  go_enter Tryz.func172,Tryz.ntmps172
  go_wp2_with fail
  refine(aA _ _ _ _ HR.out).mono ?_;rintro e w1 ⟨rfl,r1,k1⟩;have R1:=aa r1;have K1:=aa k1;clear r1 k1;go_wp2_with fail
  refine(C1.out _).mono ?_;rintro e BK ⟨rfl,rfl⟩;go_wp2_with fail
  refine(C2.out _ R1.out).mono ?_;rintro e w2 ⟨rfl,r2,k2⟩;have R2:=aa r2;have K2:=an K1 k2;clear r2 k2;go_wp2_with fail
  refine(C3.out _).mono ?_;rintro e w3 ⟨rfl,b3⟩;have K3:=an K2 (Kp.ae b3);clear b3;go_wp2_with fail
  go_ret2
  refine⟨K3.out,?_⟩;rw[HC.out,af (by have:=ZC.out;omega)]
  rfl
 ·have g1:decide (D.size<1)=false:=cr (by omega)
  have g2:decide (255<N)=true:=bZ h2;go_enter Tryz.func172,Tryz.ntmps172
  go_wp2_with fail
  refine(aA _ _ _ _ HR.out).mono ?_;rintro e w1 ⟨rfl,r1,k1⟩;have R1:=aa r1;have K1:=aa k1;clear r1 k1;go_wp2_with fail
  refine(C1.out _).mono ?_;rintro e BK ⟨rfl,rfl⟩;go_wp2_with fail
  refine(C2.out _ R1.out).mono ?_;rintro e w2 ⟨rfl,r2,k2⟩;have R2:=aa r2;have K2:=an K1 k2;clear r2 k2;go_wp2_with fail
  refine(C3.out _).mono ?_;rintro e w3 ⟨rfl,b3⟩;have K3:=an K2 (Kp.ae b3);clear b3;go_wp2_with fail
  go_ret2
  refine⟨K3.out,?_⟩;rw[HC.out,af (by omega)]
  rfl
 ·have g1:decide (D.size<1)=false:=cr (by omega)
  have g2:decide (255<N)=false:=cr (by omega)
  go_enter Tryz.func172,Tryz.ntmps172
  go_wp2_with fail
  refine(aA _ _ _ _ HR.out).mono ?_;rintro e w1 ⟨rfl,r1,k1⟩;have R1:=aa r1;have K1:=aa k1;clear r1 k1;go_wp2_with fail
  refine(C1.out _).mono ?_;rintro e BK ⟨rfl,rfl⟩;go_wp2_with fail
  refine(C2.out _ R1.out).mono ?_;rintro e w2 ⟨rfl,r2,k2⟩;have R2:=aa r2;have K2:=an K1 k2;clear r2 k2;go_wp2_with fail
  refine(C3.out _).mono ?_;rintro e w3 ⟨rfl,b3⟩;have R3:=aa (R2.out.below b3);have K3:=an K2 (Kp.ae b3);clear b3;go_wp2_with fail
  go_ret2
  refine⟨K3.out.alloc _,?_⟩;rw[HC.out,al ⟨by trivial,by have:=ZC.out;omega,h2⟩]
  exact⟨_,_,rfl,dM _ _ _ (T6 qI h2),R3.out.alloc _,rfl,by omega⟩
theorem iF (s:ByteArray) (k:Nat) (h:k<s.size):aR s k=s[k]::aR s (k+1):=by
 unfold aR;exact yZ (l:=s.data.toList) (i:=k) (by simpa using h)
theorem aS (s:ByteArray) (k:Nat) (h:k<s.size) (h':0<(s.extract k s.size).size):(s.extract k s.size)[0]=s[k]:=by
 rw[ByteArray.getElem_extract];simp
theorem sR (s:ByteArray) (k:Nat) (h:s.size≤k):aR s k=[]:=JJ (by rw[←Lib.size_eq];exact h)
theorem bG (X:ByteArray) (h:0<X.size):X.toList.isEmpty=false:=by
 rw[Lib.toList_data];cases e:X.data.toList with
 | nil =>
  have:=Lib.size_eq X;rw[e,List.length_nil] at this;omega
 | cons=>rfl
theorem tG (X:ByteArray) (h:X.size=0):X.toList.isEmpty=true:=by
 rw[Lib.toList_data,pw (l:=X.data.toList) (by rw[←Lib.size_eq];exact h)]
 rfl
theorem KF (b:Nat) (s:ByteArray) (k:Nat) (w:World) (h:Rd w b s k) (hk:k=s.size):Calls Tryz.prog 137 #[.pointer (some ⟨b,0,none⟩)] w (bU b s k w (pq (aR s k))):=by
 rw[sR s k (by omega)]
 obtain⟨X,hX⟩ :∃X:ByteArray,X=s.extract k s.size:=⟨_,rfl⟩;have C1:=aa (fun W h=>aA b s k W h)
 rw[←hX] at C1;have qJ:=tG X (by rw[hX,aD s k (by omega)];omega)
 have HR:=aa h;clear hX h;go_enter Tryz.func137,Tryz.ntmps137
 go_wp2_with fail
 refine(C1.out _ HR.out).mono ?_;rintro e w1 ⟨rfl,r1,k1⟩;have K1:=aa k1;clear r1 k1;go_wp2_with fail
 go_ret2
 exact⟨K1.out,rfl⟩
theorem VJ (b:Nat) (s:ByteArray) (k:Nat) (w:World) (h:Rd w b s k) (hk:k<s.size) (hc:s[k]=97):Calls Tryz.prog 137 #[.pointer (some ⟨b,0,none⟩)] w (bU b s k w (some ([7],aR s (k+1)))):=by
 obtain⟨X,hX⟩ :∃X:ByteArray,X=s.extract k s.size:=⟨_,rfl⟩;have C1:=aa (fun W h=>aA b s k W h)
 have eD:0<X.size:=by rw[hX,aD s k (by omega)];omega
 have rP:X[0]=97:=by subst hX;rw[aS s k hk eD];exact hc
 rw[←hX] at C1;have qJ:=bG X eD;have HR:=aa h;have I1:=aa (fun W=>eO ⟨#[97,98,102,110,114,116,118]⟩ 97 W)
 have T1:=aa (fun W h=>bu b s k 1 W h (by omega))
 clear hX h hc;go_enter Tryz.func137,Tryz.ntmps137
 go_wp2_with fail
 refine(C1.out _ HR.out).mono ?_;rintro e w1 ⟨rfl,r1,k1⟩;have R1:=aa r1;have K1:=aa k1;clear r1 k1;go_wp2_with fail
 refine(C1.out _ R1.out).mono ?_;rintro e w2 ⟨rfl,r2,k2⟩;have R2:=aa r2;have K2:=an K1 k2;clear r2 k2;go_wp2_with fail
 refine(I1.out _).mono ?_;rintro e Kt ⟨rfl,rfl⟩;rw[show Lib.indexByte (⟨#[97,98,102,110,114,116,118]⟩:ByteArray).data.toList 97=0 from by decide]
 go_wp2_with fail
 refine(T1.out _ R2.out).mono ?_;rintro e w3 ⟨rfl,r3,k3⟩;have R3:=aa r3;have K3:=an K2 k3;clear r3 k3;go_wp2_with fail
 go_ret2
 exact⟨K3.out.alloc _,_,_,rfl,dM _ _ _ rfl,R3.out.alloc _,rfl,by omega⟩
theorem VK (b:Nat) (s:ByteArray) (k:Nat) (w:World) (h:Rd w b s k) (hk:k<s.size) (hc:s[k]=98):Calls Tryz.prog 137 #[.pointer (some ⟨b,0,none⟩)] w (bU b s k w (some ([8],aR s (k+1)))):=by
 obtain⟨X,hX⟩ :∃X:ByteArray,X=s.extract k s.size:=⟨_,rfl⟩;have C1:=aa (fun W h=>aA b s k W h)
 have eD:0<X.size:=by rw[hX,aD s k (by omega)];omega
 have rP:X[0]=98:=by subst hX;rw[aS s k hk eD];exact hc
 rw[←hX] at C1;have qJ:=bG X eD;have HR:=aa h;have I1:=aa (fun W=>eO ⟨#[97,98,102,110,114,116,118]⟩ 98 W)
 have T1:=aa (fun W h=>bu b s k 1 W h (by omega))
 clear hX h hc;go_enter Tryz.func137,Tryz.ntmps137
 go_wp2_with fail
 refine(C1.out _ HR.out).mono ?_;rintro e w1 ⟨rfl,r1,k1⟩;have R1:=aa r1;have K1:=aa k1;clear r1 k1;go_wp2_with fail
 refine(C1.out _ R1.out).mono ?_;rintro e w2 ⟨rfl,r2,k2⟩;have R2:=aa r2;have K2:=an K1 k2;clear r2 k2;go_wp2_with fail
 refine(I1.out _).mono ?_;rintro e Kt ⟨rfl,rfl⟩;rw[show Lib.indexByte (⟨#[97,98,102,110,114,116,118]⟩:ByteArray).data.toList 98=1 from by decide]
 go_wp2_with fail
 refine(T1.out _ R2.out).mono ?_;rintro e w3 ⟨rfl,r3,k3⟩;have R3:=aa r3;have K3:=an K2 k3;clear r3 k3;go_wp2_with fail
 go_ret2
 exact⟨K3.out.alloc _,_,_,rfl,dM _ _ _ rfl,R3.out.alloc _,rfl,by omega⟩
theorem Qm (b:Nat) (s:ByteArray) (k:Nat) (w:World) (h:Rd w b s k) (hk:k<s.size) (hc:s[k]=102):Calls Tryz.prog 137 #[.pointer (some ⟨b,0,none⟩)] w (bU b s k w (some ([12],aR s (k+1)))):=by
 obtain⟨X,hX⟩ :∃X:ByteArray,X=s.extract k s.size:=⟨_,rfl⟩;have C1:=aa (fun W h=>aA b s k W h)
 have eD:0<X.size:=by rw[hX,aD s k (by omega)];omega
 have rP:X[0]=102:=by subst hX;rw[aS s k hk eD];exact hc
 rw[←hX] at C1;have qJ:=bG X eD;have HR:=aa h;have I1:=aa (fun W=>eO ⟨#[97,98,102,110,114,116,118]⟩ 102 W)
 have T1:=aa (fun W h=>bu b s k 1 W h (by omega))
 clear hX h hc;go_enter Tryz.func137,Tryz.ntmps137
 go_wp2_with fail
 refine(C1.out _ HR.out).mono ?_;rintro e w1 ⟨rfl,r1,k1⟩;have R1:=aa r1;have K1:=aa k1;clear r1 k1;go_wp2_with fail
 refine(C1.out _ R1.out).mono ?_;rintro e w2 ⟨rfl,r2,k2⟩;have R2:=aa r2;have K2:=an K1 k2;clear r2 k2;go_wp2_with fail
 refine(I1.out _).mono ?_;rintro e Kt ⟨rfl,rfl⟩;rw[show Lib.indexByte (⟨#[97,98,102,110,114,116,118]⟩:ByteArray).data.toList 102=2 from by decide]
 go_wp2_with fail
 refine(T1.out _ R2.out).mono ?_;rintro e w3 ⟨rfl,r3,k3⟩;have R3:=aa r3;have K3:=an K2 k3;clear r3 k3;go_wp2_with fail
 go_ret2
 exact⟨K3.out.alloc _,_,_,rfl,dM _ _ _ rfl,R3.out.alloc _,rfl,by omega⟩
theorem Qn (b:Nat) (s:ByteArray) (k:Nat) (w:World) (h:Rd w b s k) (hk:k<s.size) (hc:s[k]=110):Calls Tryz.prog 137 #[.pointer (some ⟨b,0,none⟩)] w (bU b s k w (some ([10],aR s (k+1)))):=by
 obtain⟨X,hX⟩ :∃X:ByteArray,X=s.extract k s.size:=⟨_,rfl⟩;have C1:=aa (fun W h=>aA b s k W h)
 have eD:0<X.size:=by rw[hX,aD s k (by omega)];omega
 have rP:X[0]=110:=by subst hX;rw[aS s k hk eD];exact hc
 rw[←hX] at C1;have qJ:=bG X eD;have HR:=aa h;have I1:=aa (fun W=>eO ⟨#[97,98,102,110,114,116,118]⟩ 110 W)
 have T1:=aa (fun W h=>bu b s k 1 W h (by omega))
 clear hX h hc;go_enter Tryz.func137,Tryz.ntmps137
 go_wp2_with fail
 refine(C1.out _ HR.out).mono ?_;rintro e w1 ⟨rfl,r1,k1⟩;have R1:=aa r1;have K1:=aa k1;clear r1 k1;go_wp2_with fail
 refine(C1.out _ R1.out).mono ?_;rintro e w2 ⟨rfl,r2,k2⟩;have R2:=aa r2;have K2:=an K1 k2;clear r2 k2;go_wp2_with fail
 refine(I1.out _).mono ?_;rintro e Kt ⟨rfl,rfl⟩;rw[show Lib.indexByte (⟨#[97,98,102,110,114,116,118]⟩:ByteArray).data.toList 110=3 from by decide]
 go_wp2_with fail
 refine(T1.out _ R2.out).mono ?_;rintro e w3 ⟨rfl,r3,k3⟩;have R3:=aa r3;have K3:=an K2 k3;clear r3 k3;go_wp2_with fail
 go_ret2
 exact⟨K3.out.alloc _,_,_,rfl,dM _ _ _ rfl,R3.out.alloc _,rfl,by omega⟩
theorem Qo (b:Nat) (s:ByteArray) (k:Nat) (w:World) (h:Rd w b s k) (hk:k<s.size) (hc:s[k]=114):Calls Tryz.prog 137 #[.pointer (some ⟨b,0,none⟩)] w (bU b s k w (some ([13],aR s (k+1)))):=by
 obtain⟨X,hX⟩ :∃X:ByteArray,X=s.extract k s.size:=⟨_,rfl⟩;have C1:=aa (fun W h=>aA b s k W h)
 have eD:0<X.size:=by rw[hX,aD s k (by omega)];omega
 have rP:X[0]=114:=by subst hX;rw[aS s k hk eD];exact hc
 rw[←hX] at C1;have qJ:=bG X eD;have HR:=aa h;have I1:=aa (fun W=>eO ⟨#[97,98,102,110,114,116,118]⟩ 114 W)
 have T1:=aa (fun W h=>bu b s k 1 W h (by omega))
 clear hX h hc;go_enter Tryz.func137,Tryz.ntmps137
 go_wp2_with fail
 refine(C1.out _ HR.out).mono ?_;rintro e w1 ⟨rfl,r1,k1⟩;have R1:=aa r1;have K1:=aa k1;clear r1 k1;go_wp2_with fail
 refine(C1.out _ R1.out).mono ?_;rintro e w2 ⟨rfl,r2,k2⟩;have R2:=aa r2;have K2:=an K1 k2;clear r2 k2;go_wp2_with fail
 refine(I1.out _).mono ?_;rintro e Kt ⟨rfl,rfl⟩;rw[show Lib.indexByte (⟨#[97,98,102,110,114,116,118]⟩:ByteArray).data.toList 114=4 from by decide]
 go_wp2_with fail
 refine(T1.out _ R2.out).mono ?_;rintro e w3 ⟨rfl,r3,k3⟩;have R3:=aa r3;have K3:=an K2 k3;clear r3 k3;go_wp2_with fail
 go_ret2
 exact⟨K3.out.alloc _,_,_,rfl,dM _ _ _ rfl,R3.out.alloc _,rfl,by omega⟩
theorem Qp (b:Nat) (s:ByteArray) (k:Nat) (w:World) (h:Rd w b s k) (hk:k<s.size) (hc:s[k]=116):Calls Tryz.prog 137 #[.pointer (some ⟨b,0,none⟩)] w (bU b s k w (some ([9],aR s (k+1)))):=by
 obtain⟨X,hX⟩ :∃X:ByteArray,X=s.extract k s.size:=⟨_,rfl⟩;have C1:=aa (fun W h=>aA b s k W h)
 have eD:0<X.size:=by rw[hX,aD s k (by omega)];omega
 have rP:X[0]=116:=by subst hX;rw[aS s k hk eD];exact hc
 rw[←hX] at C1;have qJ:=bG X eD;have HR:=aa h;have I1:=aa (fun W=>eO ⟨#[97,98,102,110,114,116,118]⟩ 116 W)
 have T1:=aa (fun W h=>bu b s k 1 W h (by omega))
 clear hX h hc;go_enter Tryz.func137,Tryz.ntmps137
 go_wp2_with fail
 refine(C1.out _ HR.out).mono ?_;rintro e w1 ⟨rfl,r1,k1⟩;have R1:=aa r1;have K1:=aa k1;clear r1 k1;go_wp2_with fail
 refine(C1.out _ R1.out).mono ?_;rintro e w2 ⟨rfl,r2,k2⟩;have R2:=aa r2;have K2:=an K1 k2;clear r2 k2;go_wp2_with fail
 refine(I1.out _).mono ?_;rintro e Kt ⟨rfl,rfl⟩;rw[show Lib.indexByte (⟨#[97,98,102,110,114,116,118]⟩:ByteArray).data.toList 116=5 from by decide]
 go_wp2_with fail
 refine(T1.out _ R2.out).mono ?_;rintro e w3 ⟨rfl,r3,k3⟩;have R3:=aa r3;have K3:=an K2 k3;clear r3 k3;go_wp2_with fail
 go_ret2
 exact⟨K3.out.alloc _,_,_,rfl,dM _ _ _ rfl,R3.out.alloc _,rfl,by omega⟩
theorem Qq (b:Nat) (s:ByteArray) (k:Nat) (w:World) (h:Rd w b s k) (hk:k<s.size) (hc:s[k]=118):Calls Tryz.prog 137 #[.pointer (some ⟨b,0,none⟩)] w (bU b s k w (some ([11],aR s (k+1)))):=by
 obtain⟨X,hX⟩ :∃X:ByteArray,X=s.extract k s.size:=⟨_,rfl⟩;have C1:=aa (fun W h=>aA b s k W h)
 have eD:0<X.size:=by rw[hX,aD s k (by omega)];omega
 have rP:X[0]=118:=by subst hX;rw[aS s k hk eD];exact hc
 rw[←hX] at C1;have qJ:=bG X eD;have HR:=aa h;have I1:=aa (fun W=>eO ⟨#[97,98,102,110,114,116,118]⟩ 118 W)
 have T1:=aa (fun W h=>bu b s k 1 W h (by omega))
 clear hX h hc;go_enter Tryz.func137,Tryz.ntmps137
 go_wp2_with fail
 refine(C1.out _ HR.out).mono ?_;rintro e w1 ⟨rfl,r1,k1⟩;have R1:=aa r1;have K1:=aa k1;clear r1 k1;go_wp2_with fail
 refine(C1.out _ R1.out).mono ?_;rintro e w2 ⟨rfl,r2,k2⟩;have R2:=aa r2;have K2:=an K1 k2;clear r2 k2;go_wp2_with fail
 refine(I1.out _).mono ?_;rintro e Kt ⟨rfl,rfl⟩;rw[show Lib.indexByte (⟨#[97,98,102,110,114,116,118]⟩:ByteArray).data.toList 118=6 from by decide]
 go_wp2_with fail
 refine(T1.out _ R2.out).mono ?_;rintro e w3 ⟨rfl,r3,k3⟩;have R3:=aa r3;have K3:=an K2 k3;clear r3 k3;go_wp2_with fail
 go_ret2
 exact⟨K3.out.alloc _,_,_,rfl,dM _ _ _ rfl,R3.out.alloc _,rfl,by omega⟩
theorem VL (b:Nat) (s:ByteArray) (k:Nat) (w:World) (h:Rd w b s k) (hk:k<s.size) (hc:s[k]=92):Calls Tryz.prog 137 #[.pointer (some ⟨b,0,none⟩)] w (bU b s k w (some ([92],aR s (k+1)))):=by
 obtain⟨X,hX⟩ :∃X:ByteArray,X=s.extract k s.size:=⟨_,rfl⟩;have C1:=aa (fun W h=>aA b s k W h)
 have eD:0<X.size:=by rw[hX,aD s k (by omega)];omega
 have rP:X[0]=92:=by subst hX;rw[aS s k hk eD];exact hc
 rw[←hX] at C1;have qJ:=bG X eD;have HR:=aa h;have T1:=aa (fun W h=>bu b s k 1 W h (by omega))
 clear hX h hc;go_enter Tryz.func137,Tryz.ntmps137
 go_wp2_with fail
 refine(C1.out _ HR.out).mono ?_;rintro e w1 ⟨rfl,r1,k1⟩;have R1:=aa r1;have K1:=aa k1;clear r1 k1;go_wp2_with fail
 refine(C1.out _ R1.out).mono ?_;rintro e w2 ⟨rfl,r2,k2⟩;have R2:=aa r2;have K2:=an K1 k2;clear r2 k2;go_wp2_with fail
 refine(T1.out _ R2.out).mono ?_;rintro e w3 ⟨rfl,r3,k3⟩;have R3:=aa r3;have K3:=an K2 k3;clear r3 k3;go_wp2_with fail
 go_ret2
 exact⟨K3.out.alloc _,_,_,rfl,dM _ _ _ rfl,R3.out.alloc _,rfl,by omega⟩
theorem VM (b:Nat) (s:ByteArray) (k:Nat) (w:World) (h:Rd w b s k) (hk:k<s.size) (hc:s[k]=39):Calls Tryz.prog 137 #[.pointer (some ⟨b,0,none⟩)] w (bU b s k w (some ([39],aR s (k+1)))):=by
 obtain⟨X,hX⟩ :∃X:ByteArray,X=s.extract k s.size:=⟨_,rfl⟩;have C1:=aa (fun W h=>aA b s k W h)
 have eD:0<X.size:=by rw[hX,aD s k (by omega)];omega
 have rP:X[0]=39:=by subst hX;rw[aS s k hk eD];exact hc
 rw[←hX] at C1;have qJ:=bG X eD;have HR:=aa h;have T1:=aa (fun W h=>bu b s k 1 W h (by omega))
 clear hX h hc;go_enter Tryz.func137,Tryz.ntmps137
 go_wp2_with fail
 refine(C1.out _ HR.out).mono ?_;rintro e w1 ⟨rfl,r1,k1⟩;have R1:=aa r1;have K1:=aa k1;clear r1 k1;go_wp2_with fail
 refine(C1.out _ R1.out).mono ?_;rintro e w2 ⟨rfl,r2,k2⟩;have R2:=aa r2;have K2:=an K1 k2;clear r2 k2;go_wp2_with fail
 refine(T1.out _ R2.out).mono ?_;rintro e w3 ⟨rfl,r3,k3⟩;have R3:=aa r3;have K3:=an K2 k3;clear r3 k3;go_wp2_with fail
 go_ret2
 exact⟨K3.out.alloc _,_,_,rfl,dM _ _ _ rfl,R3.out.alloc _,rfl,by omega⟩
theorem VN (b:Nat) (s:ByteArray) (k:Nat) (w:World) (h:Rd w b s k) (hk:k<s.size) (hc:s[k]=34):Calls Tryz.prog 137 #[.pointer (some ⟨b,0,none⟩)] w (bU b s k w (some ([34],aR s (k+1)))):=by
 obtain⟨X,hX⟩ :∃X:ByteArray,X=s.extract k s.size:=⟨_,rfl⟩;have C1:=aa (fun W h=>aA b s k W h)
 have eD:0<X.size:=by rw[hX,aD s k (by omega)];omega
 have rP:X[0]=34:=by subst hX;rw[aS s k hk eD];exact hc
 rw[←hX] at C1;have qJ:=bG X eD;have HR:=aa h;have T1:=aa (fun W h=>bu b s k 1 W h (by omega))
 clear hX h hc;go_enter Tryz.func137,Tryz.ntmps137
 go_wp2_with fail
 refine(C1.out _ HR.out).mono ?_;rintro e w1 ⟨rfl,r1,k1⟩;have R1:=aa r1;have K1:=aa k1;clear r1 k1;go_wp2_with fail
 refine(C1.out _ R1.out).mono ?_;rintro e w2 ⟨rfl,r2,k2⟩;have R2:=aa r2;have K2:=an K1 k2;clear r2 k2;go_wp2_with fail
 refine(T1.out _ R2.out).mono ?_;rintro e w3 ⟨rfl,r3,k3⟩;have R3:=aa r3;have K3:=an K2 k3;clear r3 k3;go_wp2_with fail
 go_ret2
 exact⟨K3.out.alloc _,_,_,rfl,dM _ _ _ rfl,R3.out.alloc _,rfl,by omega⟩
theorem VO (b:Nat) (s:ByteArray) (k:Nat) (w:World) (h:Rd w b s k) (hk:k<s.size) (hc:s[k]=10):Calls Tryz.prog 137 #[.pointer (some ⟨b,0,none⟩)] w (bU b s k w (some ([10],aR s (k+1)))):=by
 obtain⟨X,hX⟩ :∃X:ByteArray,X=s.extract k s.size:=⟨_,rfl⟩;have C1:=aa (fun W h=>aA b s k W h)
 have eD:0<X.size:=by rw[hX,aD s k (by omega)];omega
 have rP:X[0]=10:=by subst hX;rw[aS s k hk eD];exact hc
 rw[←hX] at C1;have qJ:=bG X eD;have HR:=aa h;have T1:=aa (fun W h=>bu b s k 1 W h (by omega))
 clear hX h hc;go_enter Tryz.func137,Tryz.ntmps137
 go_wp2_with fail
 refine(C1.out _ HR.out).mono ?_;rintro e w1 ⟨rfl,r1,k1⟩;have R1:=aa r1;have K1:=aa k1;clear r1 k1;go_wp2_with fail
 refine(C1.out _ R1.out).mono ?_;rintro e w2 ⟨rfl,r2,k2⟩;have R2:=aa r2;have K2:=an K1 k2;clear r2 k2;go_wp2_with fail
 refine(T1.out _ R2.out).mono ?_;rintro e w3 ⟨rfl,r3,k3⟩;have R3:=aa r3;have K3:=an K2 k3;clear r3 k3;go_wp2_with fail
 go_ret2
 exact⟨K3.out.alloc _,_,_,rfl,dM _ _ _ rfl,R3.out.alloc _,rfl,by omega⟩
theorem Qr (b:Nat) (s:ByteArray) (k:Nat) (w:World) (h:Rd w b s k) (hk:k<s.size) (hc:s[k]=122):Calls Tryz.prog 137 #[.pointer (some ⟨b,0,none⟩)] w (bU b s k w (some ([],(aR s (k+1)).dropWhile pH))):=by
 obtain⟨X,hX⟩ :∃X:ByteArray,X=s.extract k s.size:=⟨_,rfl⟩;have C1:=aa (fun W h=>aA b s k W h)
 have eD:0<X.size:=by rw[hX,aD s k (by omega)];omega
 have rP:X[0]=122:=by subst hX;rw[aS s k hk eD];exact hc
 rw[←hX] at C1;have qJ:=bG X eD;have HR:=aa h;have T1:=aa (fun W h=>bu b s k 1 W h (by omega))
 obtain⟨m,hm⟩ :∃m:Nat,m=runN pH (aR s (k+1)):=⟨_,rfl⟩;have C2:=aa (fun W=>vT (s.extract (k+1) s.size) W (by rw[aD s _ (by omega)];have:=h.top;omega))
 rw[db,←hm] at C2;have yN:=gS pH (aR s (k+1));rw[fI,←hm] at yN;have ZB:(aR s (k+1)).dropWhile pH=aR s (k+1+m):=by rw[←pJ,←hm,eP]
 have HD:=aa ZB;clear hX h hc hm ZB;go_enter Tryz.func137,Tryz.ntmps137
 go_wp2_with fail
 refine(C1.out _ HR.out).mono ?_;rintro e w1 ⟨rfl,r1,k1⟩;have R1:=aa r1;have K1:=aa k1;clear r1 k1;go_wp2_with fail
 refine(C1.out _ R1.out).mono ?_;rintro e w2 ⟨rfl,r2,k2⟩;have R2:=aa r2;have K2:=an K1 k2;clear r2 k2;go_wp2_with fail
 refine(T1.out _ R2.out).mono ?_;rintro e w3 ⟨rfl,r3,k3⟩;have R3:=aa r3;have K3:=an K2 k3;clear r3 k3;go_wp2_with fail
 refine(aA _ _ _ _ R3.out).mono ?_;rintro e w4 ⟨rfl,r4,k4⟩;have R4:=aa r4;have K4:=an K3 k4;clear r4 k4;go_wp2_with fail
 refine(C2.out _).mono ?_;rintro e w4' ⟨rfl,rfl⟩;go_wp2_with fail
 refine(bu _ _ _ _ _ R4.out (by omega)).mono ?_;rintro e w5 ⟨rfl,r5,k5⟩
 have R5:=aa r5;have K5:=an K4 k5;clear r5 k5;go_wp2_with fail
 go_ret2
 exact⟨K5.out,_,_,rfl,.inl ⟨rfl,rfl⟩,R5.out,HD.out.symm,by omega⟩
theorem Qs (b:Nat) (s:ByteArray) (k:Nat) (w:World) (h:Rd w b s k) (hk:k<s.size) (hc:s[k]=120):Calls Tryz.prog 137 #[.pointer (some ⟨b,0,none⟩)] w (bU b s k w (code 16 yM 2 2 (aR s (k+1)))):=by
 obtain⟨X,hX⟩ :∃X:ByteArray,X=s.extract k s.size:=⟨_,rfl⟩;have C1:=aa (fun W h=>aA b s k W h)
 have eD:0<X.size:=by rw[hX,aD s k (by omega)];omega
 have rP:X[0]=120:=by subst hX;rw[aS s k hk eD];exact hc
 rw[←hX] at C1;have qJ:=bG X eD;have HR:=aa h;have T1:=aa (fun W h=>bu b s k 1 W h (by omega))
 have C2:=aa (fun W h=>KC b s (k+1) W h)
 obtain⟨o,ho⟩ :∃o,o=code 16 yM 2 2 (aR s (k+1)):=⟨_,rfl⟩;rw[←ho] at C2 ⊢;clear hX h hc ho;rcases o with _ | ⟨m,r⟩
 ·go_enter Tryz.func137,Tryz.ntmps137
  go_wp2_with fail
  refine(C1.out _ HR.out).mono ?_;rintro e w1 ⟨rfl,r1,k1⟩;have R1:=aa r1;have K1:=aa k1;clear r1 k1;go_wp2_with fail
  refine(C1.out _ R1.out).mono ?_;rintro e w2 ⟨rfl,r2,k2⟩;have R2:=aa r2;have K2:=an K1 k2;clear r2 k2;go_wp2_with fail
  refine(T1.out _ R2.out).mono ?_;rintro e w3 ⟨rfl,r3,k3⟩;have R3:=aa r3;have K3:=an K2 k3;clear r3 k3;go_wp2_with fail
  refine(C2.out _ R3.out).mono ?_;intro e w4 fN;obtain⟨k4,rfl⟩:=fN;have K4:=an K3 k4;clear k4;go_wp2_with fail
  go_ret2
  exact⟨K4.out,rfl⟩
 ·go_enter Tryz.func137,Tryz.ntmps137
  go_wp2_with fail
  refine(C1.out _ HR.out).mono ?_;rintro e w1 ⟨rfl,r1,k1⟩;have R1:=aa r1;have K1:=aa k1;clear r1 k1;go_wp2_with fail
  refine(C1.out _ R1.out).mono ?_;rintro e w2 ⟨rfl,r2,k2⟩;have R2:=aa r2;have K2:=an K1 k2;clear r2 k2;go_wp2_with fail
  refine(T1.out _ R2.out).mono ?_;rintro e w3 ⟨rfl,r3,k3⟩;have R3:=aa r3;have K3:=an K2 k3;clear r3 k3;go_wp2_with fail
  refine(C2.out _ R3.out).mono ?_;intro e w4 fN;obtain⟨k4,k',v,rfl,hb4,r4,hr4,hl4⟩:=fN;have K4:=an K3 k4;have R4:=aa r4;have HB:=aa hb4;have HE:=aa hr4;clear k4 r4 hb4 hr4;go_wp2_with fail
  go_ret2
  exact⟨K4.out,_,_,rfl,HB.out,R4.out,HE.out,by omega⟩
theorem VP (b:Nat) (s:ByteArray) (k:Nat) (w:World) (h:Rd w b s k) (hk:k<s.size) (hc:s[k]=48):Calls Tryz.prog 137 #[.pointer (some ⟨b,0,none⟩)] w (bU b s k w (code 10 gj 1 3 (aR s k))):=by
 obtain⟨X,hX⟩ :∃X:ByteArray,X=s.extract k s.size:=⟨_,rfl⟩;have C1:=aa (fun W h=>aA b s k W h)
 have eD:0<X.size:=by rw[hX,aD s k (by omega)];omega
 have rP:X[0]=48:=by subst hX;rw[aS s k hk eD];exact hc
 rw[←hX] at C1;have qJ:=bG X eD;have HR:=aa h;have C2:=aa (fun W h=>dN b s k W h)
 obtain⟨o,ho⟩ :∃o,o=code 10 gj 1 3 (aR s k):=⟨_,rfl⟩;rw[←ho] at C2 ⊢;clear hX h hc ho;rcases o with _ | ⟨m,r⟩
 ·go_enter Tryz.func137,Tryz.ntmps137
  go_wp2_with fail
  refine(C1.out _ HR.out).mono ?_;rintro e w1 ⟨rfl,r1,k1⟩;have R1:=aa r1;have K1:=aa k1;clear r1 k1;go_wp2_with fail
  refine(C1.out _ R1.out).mono ?_;rintro e w2 ⟨rfl,r2,k2⟩;have R2:=aa r2;have K2:=an K1 k2;clear r2 k2;go_wp2_with fail
  refine(C2.out _ R2.out).mono ?_;intro e w4 fN;obtain⟨k4,rfl⟩:=fN;have K4:=an K2 k4;clear k4;go_wp2_with fail
  go_ret2
  exact⟨K4.out,rfl⟩
 ·go_enter Tryz.func137,Tryz.ntmps137
  go_wp2_with fail
  refine(C1.out _ HR.out).mono ?_;rintro e w1 ⟨rfl,r1,k1⟩;have R1:=aa r1;have K1:=aa k1;clear r1 k1;go_wp2_with fail
  refine(C1.out _ R1.out).mono ?_;rintro e w2 ⟨rfl,r2,k2⟩;have R2:=aa r2;have K2:=an K1 k2;clear r2 k2;go_wp2_with fail
  refine(C2.out _ R2.out).mono ?_;intro e w4 fN;obtain⟨k4,k',v,rfl,hb4,r4,hr4,hl4⟩:=fN;have K4:=an K2 k4;have R4:=aa r4;have HB:=aa hb4;have HE:=aa hr4;clear k4 r4 hb4 hr4;go_wp2_with fail
  go_ret2
  exact⟨K4.out,_,_,rfl,HB.out,R4.out,HE.out,by omega⟩
theorem VQ (b:Nat) (s:ByteArray) (k:Nat) (w:World) (h:Rd w b s k) (hk:k<s.size) (hc:s[k]=49):Calls Tryz.prog 137 #[.pointer (some ⟨b,0,none⟩)] w (bU b s k w (code 10 gj 1 3 (aR s k))):=by
 obtain⟨X,hX⟩ :∃X:ByteArray,X=s.extract k s.size:=⟨_,rfl⟩;have C1:=aa (fun W h=>aA b s k W h)
 have eD:0<X.size:=by rw[hX,aD s k (by omega)];omega
 have rP:X[0]=49:=by subst hX;rw[aS s k hk eD];exact hc
 rw[←hX] at C1;have qJ:=bG X eD;have HR:=aa h;have C2:=aa (fun W h=>dN b s k W h)
 obtain⟨o,ho⟩ :∃o,o=code 10 gj 1 3 (aR s k):=⟨_,rfl⟩;rw[←ho] at C2 ⊢;clear hX h hc ho;rcases o with _ | ⟨m,r⟩
 ·go_enter Tryz.func137,Tryz.ntmps137
  go_wp2_with fail
  refine(C1.out _ HR.out).mono ?_;rintro e w1 ⟨rfl,r1,k1⟩;have R1:=aa r1;have K1:=aa k1;clear r1 k1;go_wp2_with fail
  refine(C1.out _ R1.out).mono ?_;rintro e w2 ⟨rfl,r2,k2⟩;have R2:=aa r2;have K2:=an K1 k2;clear r2 k2;go_wp2_with fail
  refine(C2.out _ R2.out).mono ?_;intro e w4 fN;obtain⟨k4,rfl⟩:=fN;have K4:=an K2 k4;clear k4;go_wp2_with fail
  go_ret2
  exact⟨K4.out,rfl⟩
 ·go_enter Tryz.func137,Tryz.ntmps137
  go_wp2_with fail
  refine(C1.out _ HR.out).mono ?_;rintro e w1 ⟨rfl,r1,k1⟩;have R1:=aa r1;have K1:=aa k1;clear r1 k1;go_wp2_with fail
  refine(C1.out _ R1.out).mono ?_;rintro e w2 ⟨rfl,r2,k2⟩;have R2:=aa r2;have K2:=an K1 k2;clear r2 k2;go_wp2_with fail
  refine(C2.out _ R2.out).mono ?_;intro e w4 fN;obtain⟨k4,k',v,rfl,hb4,r4,hr4,hl4⟩:=fN;have K4:=an K2 k4;have R4:=aa r4;have HB:=aa hb4;have HE:=aa hr4;clear k4 r4 hb4 hr4;go_wp2_with fail
  go_ret2
  exact⟨K4.out,_,_,rfl,HB.out,R4.out,HE.out,by omega⟩
theorem VR (b:Nat) (s:ByteArray) (k:Nat) (w:World) (h:Rd w b s k) (hk:k<s.size) (hc:s[k]=50):Calls Tryz.prog 137 #[.pointer (some ⟨b,0,none⟩)] w (bU b s k w (code 10 gj 1 3 (aR s k))):=by
 obtain⟨X,hX⟩ :∃X:ByteArray,X=s.extract k s.size:=⟨_,rfl⟩;have C1:=aa (fun W h=>aA b s k W h)
 have eD:0<X.size:=by rw[hX,aD s k (by omega)];omega
 have rP:X[0]=50:=by subst hX;rw[aS s k hk eD];exact hc
 rw[←hX] at C1;have qJ:=bG X eD;have HR:=aa h;have C2:=aa (fun W h=>dN b s k W h)
 obtain⟨o,ho⟩ :∃o,o=code 10 gj 1 3 (aR s k):=⟨_,rfl⟩;rw[←ho] at C2 ⊢;clear hX h hc ho;rcases o with _ | ⟨m,r⟩
 ·go_enter Tryz.func137,Tryz.ntmps137
  go_wp2_with fail
  refine(C1.out _ HR.out).mono ?_;rintro e w1 ⟨rfl,r1,k1⟩;have R1:=aa r1;have K1:=aa k1;clear r1 k1;go_wp2_with fail
  refine(C1.out _ R1.out).mono ?_;rintro e w2 ⟨rfl,r2,k2⟩;have R2:=aa r2;have K2:=an K1 k2;clear r2 k2;go_wp2_with fail
  refine(C2.out _ R2.out).mono ?_;intro e w4 fN;obtain⟨k4,rfl⟩:=fN;have K4:=an K2 k4;clear k4;go_wp2_with fail
  go_ret2
  exact⟨K4.out,rfl⟩
 ·go_enter Tryz.func137,Tryz.ntmps137
  go_wp2_with fail
  refine(C1.out _ HR.out).mono ?_;rintro e w1 ⟨rfl,r1,k1⟩;have R1:=aa r1;have K1:=aa k1;clear r1 k1;go_wp2_with fail
  refine(C1.out _ R1.out).mono ?_;rintro e w2 ⟨rfl,r2,k2⟩;have R2:=aa r2;have K2:=an K1 k2;clear r2 k2;go_wp2_with fail
  refine(C2.out _ R2.out).mono ?_;intro e w4 fN;obtain⟨k4,k',v,rfl,hb4,r4,hr4,hl4⟩:=fN;have K4:=an K2 k4;have R4:=aa r4;have HB:=aa hb4;have HE:=aa hr4;clear k4 r4 hb4 hr4;go_wp2_with fail
  go_ret2
  exact⟨K4.out,_,_,rfl,HB.out,R4.out,HE.out,by omega⟩
theorem VS (b:Nat) (s:ByteArray) (k:Nat) (w:World) (h:Rd w b s k) (hk:k<s.size) (hc:s[k]=51):Calls Tryz.prog 137 #[.pointer (some ⟨b,0,none⟩)] w (bU b s k w (code 10 gj 1 3 (aR s k))):=by
 obtain⟨X,hX⟩ :∃X:ByteArray,X=s.extract k s.size:=⟨_,rfl⟩;have C1:=aa (fun W h=>aA b s k W h)
 have eD:0<X.size:=by rw[hX,aD s k (by omega)];omega
 have rP:X[0]=51:=by subst hX;rw[aS s k hk eD];exact hc
 rw[←hX] at C1;have qJ:=bG X eD;have HR:=aa h;have C2:=aa (fun W h=>dN b s k W h)
 obtain⟨o,ho⟩ :∃o,o=code 10 gj 1 3 (aR s k):=⟨_,rfl⟩;rw[←ho] at C2 ⊢;clear hX h hc ho;rcases o with _ | ⟨m,r⟩
 ·go_enter Tryz.func137,Tryz.ntmps137
  go_wp2_with fail
  refine(C1.out _ HR.out).mono ?_;rintro e w1 ⟨rfl,r1,k1⟩;have R1:=aa r1;have K1:=aa k1;clear r1 k1;go_wp2_with fail
  refine(C1.out _ R1.out).mono ?_;rintro e w2 ⟨rfl,r2,k2⟩;have R2:=aa r2;have K2:=an K1 k2;clear r2 k2;go_wp2_with fail
  refine(C2.out _ R2.out).mono ?_;intro e w4 fN;obtain⟨k4,rfl⟩:=fN;have K4:=an K2 k4;clear k4;go_wp2_with fail
  go_ret2
  exact⟨K4.out,rfl⟩
 ·go_enter Tryz.func137,Tryz.ntmps137
  go_wp2_with fail
  refine(C1.out _ HR.out).mono ?_;rintro e w1 ⟨rfl,r1,k1⟩;have R1:=aa r1;have K1:=aa k1;clear r1 k1;go_wp2_with fail
  refine(C1.out _ R1.out).mono ?_;rintro e w2 ⟨rfl,r2,k2⟩;have R2:=aa r2;have K2:=an K1 k2;clear r2 k2;go_wp2_with fail
  refine(C2.out _ R2.out).mono ?_;intro e w4 fN;obtain⟨k4,k',v,rfl,hb4,r4,hr4,hl4⟩:=fN;have K4:=an K2 k4;have R4:=aa r4;have HB:=aa hb4;have HE:=aa hr4;clear k4 r4 hb4 hr4;go_wp2_with fail
  go_ret2
  exact⟨K4.out,_,_,rfl,HB.out,R4.out,HE.out,by omega⟩
theorem VU (b:Nat) (s:ByteArray) (k:Nat) (w:World) (h:Rd w b s k) (hk:k<s.size) (hc:s[k]=52):Calls Tryz.prog 137 #[.pointer (some ⟨b,0,none⟩)] w (bU b s k w (code 10 gj 1 3 (aR s k))):=by
 obtain⟨X,hX⟩ :∃X:ByteArray,X=s.extract k s.size:=⟨_,rfl⟩;have C1:=aa (fun W h=>aA b s k W h)
 have eD:0<X.size:=by rw[hX,aD s k (by omega)];omega
 have rP:X[0]=52:=by subst hX;rw[aS s k hk eD];exact hc
 rw[←hX] at C1;have qJ:=bG X eD;have HR:=aa h;have C2:=aa (fun W h=>dN b s k W h)
 obtain⟨o,ho⟩ :∃o,o=code 10 gj 1 3 (aR s k):=⟨_,rfl⟩;rw[←ho] at C2 ⊢;clear hX h hc ho;rcases o with _ | ⟨m,r⟩
 ·go_enter Tryz.func137,Tryz.ntmps137
  go_wp2_with fail
  refine(C1.out _ HR.out).mono ?_;rintro e w1 ⟨rfl,r1,k1⟩;have R1:=aa r1;have K1:=aa k1;clear r1 k1;go_wp2_with fail
  refine(C1.out _ R1.out).mono ?_;rintro e w2 ⟨rfl,r2,k2⟩;have R2:=aa r2;have K2:=an K1 k2;clear r2 k2;go_wp2_with fail
  refine(C2.out _ R2.out).mono ?_;intro e w4 fN;obtain⟨k4,rfl⟩:=fN;have K4:=an K2 k4;clear k4;go_wp2_with fail
  go_ret2
  exact⟨K4.out,rfl⟩
 ·go_enter Tryz.func137,Tryz.ntmps137
  go_wp2_with fail
  refine(C1.out _ HR.out).mono ?_;rintro e w1 ⟨rfl,r1,k1⟩;have R1:=aa r1;have K1:=aa k1;clear r1 k1;go_wp2_with fail
  refine(C1.out _ R1.out).mono ?_;rintro e w2 ⟨rfl,r2,k2⟩;have R2:=aa r2;have K2:=an K1 k2;clear r2 k2;go_wp2_with fail
  refine(C2.out _ R2.out).mono ?_;intro e w4 fN;obtain⟨k4,k',v,rfl,hb4,r4,hr4,hl4⟩:=fN;have K4:=an K2 k4;have R4:=aa r4;have HB:=aa hb4;have HE:=aa hr4;clear k4 r4 hb4 hr4;go_wp2_with fail
  go_ret2
  exact⟨K4.out,_,_,rfl,HB.out,R4.out,HE.out,by omega⟩
theorem VV (b:Nat) (s:ByteArray) (k:Nat) (w:World) (h:Rd w b s k) (hk:k<s.size) (hc:s[k]=53):Calls Tryz.prog 137 #[.pointer (some ⟨b,0,none⟩)] w (bU b s k w (code 10 gj 1 3 (aR s k))):=by
 obtain⟨X,hX⟩ :∃X:ByteArray,X=s.extract k s.size:=⟨_,rfl⟩;have C1:=aa (fun W h=>aA b s k W h)
 have eD:0<X.size:=by rw[hX,aD s k (by omega)];omega
 have rP:X[0]=53:=by subst hX;rw[aS s k hk eD];exact hc
 rw[←hX] at C1;have qJ:=bG X eD;have HR:=aa h;have C2:=aa (fun W h=>dN b s k W h)
 obtain⟨o,ho⟩ :∃o,o=code 10 gj 1 3 (aR s k):=⟨_,rfl⟩;rw[←ho] at C2 ⊢;clear hX h hc ho;rcases o with _ | ⟨m,r⟩
 ·go_enter Tryz.func137,Tryz.ntmps137
  go_wp2_with fail
  refine(C1.out _ HR.out).mono ?_;rintro e w1 ⟨rfl,r1,k1⟩;have R1:=aa r1;have K1:=aa k1;clear r1 k1;go_wp2_with fail
  refine(C1.out _ R1.out).mono ?_;rintro e w2 ⟨rfl,r2,k2⟩;have R2:=aa r2;have K2:=an K1 k2;clear r2 k2;go_wp2_with fail
  refine(C2.out _ R2.out).mono ?_;intro e w4 fN;obtain⟨k4,rfl⟩:=fN;have K4:=an K2 k4;clear k4;go_wp2_with fail
  go_ret2
  exact⟨K4.out,rfl⟩
 ·go_enter Tryz.func137,Tryz.ntmps137
  go_wp2_with fail
  refine(C1.out _ HR.out).mono ?_;rintro e w1 ⟨rfl,r1,k1⟩;have R1:=aa r1;have K1:=aa k1;clear r1 k1;go_wp2_with fail
  refine(C1.out _ R1.out).mono ?_;rintro e w2 ⟨rfl,r2,k2⟩;have R2:=aa r2;have K2:=an K1 k2;clear r2 k2;go_wp2_with fail
  refine(C2.out _ R2.out).mono ?_;intro e w4 fN;obtain⟨k4,k',v,rfl,hb4,r4,hr4,hl4⟩:=fN;have K4:=an K2 k4;have R4:=aa r4;have HB:=aa hb4;have HE:=aa hr4;clear k4 r4 hb4 hr4;go_wp2_with fail
  go_ret2
  exact⟨K4.out,_,_,rfl,HB.out,R4.out,HE.out,by omega⟩
theorem VW (b:Nat) (s:ByteArray) (k:Nat) (w:World) (h:Rd w b s k) (hk:k<s.size) (hc:s[k]=54):Calls Tryz.prog 137 #[.pointer (some ⟨b,0,none⟩)] w (bU b s k w (code 10 gj 1 3 (aR s k))):=by
 obtain⟨X,hX⟩ :∃X:ByteArray,X=s.extract k s.size:=⟨_,rfl⟩;have C1:=aa (fun W h=>aA b s k W h)
 have eD:0<X.size:=by rw[hX,aD s k (by omega)];omega
 have rP:X[0]=54:=by subst hX;rw[aS s k hk eD];exact hc
 rw[←hX] at C1;have qJ:=bG X eD;have HR:=aa h;have C2:=aa (fun W h=>dN b s k W h)
 obtain⟨o,ho⟩ :∃o,o=code 10 gj 1 3 (aR s k):=⟨_,rfl⟩;rw[←ho] at C2 ⊢;clear hX h hc ho;rcases o with _ | ⟨m,r⟩
 ·go_enter Tryz.func137,Tryz.ntmps137
  go_wp2_with fail
  refine(C1.out _ HR.out).mono ?_;rintro e w1 ⟨rfl,r1,k1⟩;have R1:=aa r1;have K1:=aa k1;clear r1 k1;go_wp2_with fail
  refine(C1.out _ R1.out).mono ?_;rintro e w2 ⟨rfl,r2,k2⟩;have R2:=aa r2;have K2:=an K1 k2;clear r2 k2;go_wp2_with fail
  refine(C2.out _ R2.out).mono ?_;intro e w4 fN;obtain⟨k4,rfl⟩:=fN;have K4:=an K2 k4;clear k4;go_wp2_with fail
  go_ret2
  exact⟨K4.out,rfl⟩
 ·go_enter Tryz.func137,Tryz.ntmps137
  go_wp2_with fail
  refine(C1.out _ HR.out).mono ?_;rintro e w1 ⟨rfl,r1,k1⟩;have R1:=aa r1;have K1:=aa k1;clear r1 k1;go_wp2_with fail
  refine(C1.out _ R1.out).mono ?_;rintro e w2 ⟨rfl,r2,k2⟩;have R2:=aa r2;have K2:=an K1 k2;clear r2 k2;go_wp2_with fail
  refine(C2.out _ R2.out).mono ?_;intro e w4 fN;obtain⟨k4,k',v,rfl,hb4,r4,hr4,hl4⟩:=fN;have K4:=an K2 k4;have R4:=aa r4;have HB:=aa hb4;have HE:=aa hr4;clear k4 r4 hb4 hr4;go_wp2_with fail
  go_ret2
  exact⟨K4.out,_,_,rfl,HB.out,R4.out,HE.out,by omega⟩
theorem VX (b:Nat) (s:ByteArray) (k:Nat) (w:World) (h:Rd w b s k) (hk:k<s.size) (hc:s[k]=55):Calls Tryz.prog 137 #[.pointer (some ⟨b,0,none⟩)] w (bU b s k w (code 10 gj 1 3 (aR s k))):=by
 obtain⟨X,hX⟩ :∃X:ByteArray,X=s.extract k s.size:=⟨_,rfl⟩;have C1:=aa (fun W h=>aA b s k W h)
 have eD:0<X.size:=by rw[hX,aD s k (by omega)];omega
 have rP:X[0]=55:=by subst hX;rw[aS s k hk eD];exact hc
 rw[←hX] at C1;have qJ:=bG X eD;have HR:=aa h;have C2:=aa (fun W h=>dN b s k W h)
 obtain⟨o,ho⟩ :∃o,o=code 10 gj 1 3 (aR s k):=⟨_,rfl⟩;rw[←ho] at C2 ⊢;clear hX h hc ho;rcases o with _ | ⟨m,r⟩
 ·go_enter Tryz.func137,Tryz.ntmps137
  go_wp2_with fail
  refine(C1.out _ HR.out).mono ?_;rintro e w1 ⟨rfl,r1,k1⟩;have R1:=aa r1;have K1:=aa k1;clear r1 k1;go_wp2_with fail
  refine(C1.out _ R1.out).mono ?_;rintro e w2 ⟨rfl,r2,k2⟩;have R2:=aa r2;have K2:=an K1 k2;clear r2 k2;go_wp2_with fail
  refine(C2.out _ R2.out).mono ?_;intro e w4 fN;obtain⟨k4,rfl⟩:=fN;have K4:=an K2 k4;clear k4;go_wp2_with fail
  go_ret2
  exact⟨K4.out,rfl⟩
 ·go_enter Tryz.func137,Tryz.ntmps137
  go_wp2_with fail
  refine(C1.out _ HR.out).mono ?_;rintro e w1 ⟨rfl,r1,k1⟩;have R1:=aa r1;have K1:=aa k1;clear r1 k1;go_wp2_with fail
  refine(C1.out _ R1.out).mono ?_;rintro e w2 ⟨rfl,r2,k2⟩;have R2:=aa r2;have K2:=an K1 k2;clear r2 k2;go_wp2_with fail
  refine(C2.out _ R2.out).mono ?_;intro e w4 fN;obtain⟨k4,k',v,rfl,hb4,r4,hr4,hl4⟩:=fN;have K4:=an K2 k4;have R4:=aa r4;have HB:=aa hb4;have HE:=aa hr4;clear k4 r4 hb4 hr4;go_wp2_with fail
  go_ret2
  exact⟨K4.out,_,_,rfl,HB.out,R4.out,HE.out,by omega⟩
theorem VY (b:Nat) (s:ByteArray) (k:Nat) (w:World) (h:Rd w b s k) (hk:k<s.size) (hc:s[k]=56):Calls Tryz.prog 137 #[.pointer (some ⟨b,0,none⟩)] w (bU b s k w (code 10 gj 1 3 (aR s k))):=by
 obtain⟨X,hX⟩ :∃X:ByteArray,X=s.extract k s.size:=⟨_,rfl⟩;have C1:=aa (fun W h=>aA b s k W h)
 have eD:0<X.size:=by rw[hX,aD s k (by omega)];omega
 have rP:X[0]=56:=by subst hX;rw[aS s k hk eD];exact hc
 rw[←hX] at C1;have qJ:=bG X eD;have HR:=aa h;have C2:=aa (fun W h=>dN b s k W h)
 obtain⟨o,ho⟩ :∃o,o=code 10 gj 1 3 (aR s k):=⟨_,rfl⟩;rw[←ho] at C2 ⊢;clear hX h hc ho;rcases o with _ | ⟨m,r⟩
 ·go_enter Tryz.func137,Tryz.ntmps137
  go_wp2_with fail
  refine(C1.out _ HR.out).mono ?_;rintro e w1 ⟨rfl,r1,k1⟩;have R1:=aa r1;have K1:=aa k1;clear r1 k1;go_wp2_with fail
  refine(C1.out _ R1.out).mono ?_;rintro e w2 ⟨rfl,r2,k2⟩;have R2:=aa r2;have K2:=an K1 k2;clear r2 k2;go_wp2_with fail
  refine(C2.out _ R2.out).mono ?_;intro e w4 fN;obtain⟨k4,rfl⟩:=fN;have K4:=an K2 k4;clear k4;go_wp2_with fail
  go_ret2
  exact⟨K4.out,rfl⟩
 ·go_enter Tryz.func137,Tryz.ntmps137
  go_wp2_with fail
  refine(C1.out _ HR.out).mono ?_;rintro e w1 ⟨rfl,r1,k1⟩;have R1:=aa r1;have K1:=aa k1;clear r1 k1;go_wp2_with fail
  refine(C1.out _ R1.out).mono ?_;rintro e w2 ⟨rfl,r2,k2⟩;have R2:=aa r2;have K2:=an K1 k2;clear r2 k2;go_wp2_with fail
  refine(C2.out _ R2.out).mono ?_;intro e w4 fN;obtain⟨k4,k',v,rfl,hb4,r4,hr4,hl4⟩:=fN;have K4:=an K2 k4;have R4:=aa r4;have HB:=aa hb4;have HE:=aa hr4;clear k4 r4 hb4 hr4;go_wp2_with fail
  go_ret2
  exact⟨K4.out,_,_,rfl,HB.out,R4.out,HE.out,by omega⟩
theorem VZ (b:Nat) (s:ByteArray) (k:Nat) (w:World) (h:Rd w b s k) (hk:k<s.size) (hc:s[k]=57):Calls Tryz.prog 137 #[.pointer (some ⟨b,0,none⟩)] w (bU b s k w (code 10 gj 1 3 (aR s k))):=by
 obtain⟨X,hX⟩ :∃X:ByteArray,X=s.extract k s.size:=⟨_,rfl⟩;have C1:=aa (fun W h=>aA b s k W h)
 have eD:0<X.size:=by rw[hX,aD s k (by omega)];omega
 have rP:X[0]=57:=by subst hX;rw[aS s k hk eD];exact hc
 rw[←hX] at C1;have qJ:=bG X eD;have HR:=aa h;have C2:=aa (fun W h=>dN b s k W h)
 obtain⟨o,ho⟩ :∃o,o=code 10 gj 1 3 (aR s k):=⟨_,rfl⟩;rw[←ho] at C2 ⊢;clear hX h hc ho;rcases o with _ | ⟨m,r⟩
 ·go_enter Tryz.func137,Tryz.ntmps137
  go_wp2_with fail
  refine(C1.out _ HR.out).mono ?_;rintro e w1 ⟨rfl,r1,k1⟩;have R1:=aa r1;have K1:=aa k1;clear r1 k1;go_wp2_with fail
  refine(C1.out _ R1.out).mono ?_;rintro e w2 ⟨rfl,r2,k2⟩;have R2:=aa r2;have K2:=an K1 k2;clear r2 k2;go_wp2_with fail
  refine(C2.out _ R2.out).mono ?_;intro e w4 fN;obtain⟨k4,rfl⟩:=fN;have K4:=an K2 k4;clear k4;go_wp2_with fail
  go_ret2
  exact⟨K4.out,rfl⟩
 ·go_enter Tryz.func137,Tryz.ntmps137
  go_wp2_with fail
  refine(C1.out _ HR.out).mono ?_;rintro e w1 ⟨rfl,r1,k1⟩;have R1:=aa r1;have K1:=aa k1;clear r1 k1;go_wp2_with fail
  refine(C1.out _ R1.out).mono ?_;rintro e w2 ⟨rfl,r2,k2⟩;have R2:=aa r2;have K2:=an K1 k2;clear r2 k2;go_wp2_with fail
  refine(C2.out _ R2.out).mono ?_;intro e w4 fN;obtain⟨k4,k',v,rfl,hb4,r4,hr4,hl4⟩:=fN;have K4:=an K2 k4;have R4:=aa r4;have HB:=aa hb4;have HE:=aa hr4;clear k4 r4 hb4 hr4;go_wp2_with fail
  go_ret2
  exact⟨K4.out,_,_,rfl,HB.out,R4.out,HE.out,by omega⟩
theorem Gk (b:Nat) (s:ByteArray) (k:Nat) (w:World) (h:Rd w b s k) (hk:k<s.size) (c:UInt8) (hc:s[k]=c) (hn :∀v∈[97,98,102,110,114,116,118,92,39,34,10,122,120,48,49,50,51,52,53,54,55,56,57],c.toNat≠v):Calls Tryz.prog 137 #[.pointer (some ⟨b,0,none⟩)] w (bU b s k w (none)):=by
 obtain⟨X,hX⟩ :∃X:ByteArray,X=s.extract k s.size:=⟨_,rfl⟩;have C1:=aa (fun W h=>aA b s k W h)
 have eD:0<X.size:=by rw[hX,aD s k (by omega)];omega
 have rP:X[0]=c:=by subst hX;rw[aS s k hk eD];exact hc
 rw[←hX] at C1;have qJ:=bG X eD;have HR:=aa h;have g97:((c.toNat:Int) == 97)=false:=aG.2 (by have:=hn 97 (by decide);omega)
 have g98:((c.toNat:Int) == 98)=false:=aG.2 (by have:=hn 98 (by decide);omega)
 have g102:((c.toNat:Int) == 102)=false:=aG.2 (by have:=hn 102 (by decide);omega)
 have g110:((c.toNat:Int) == 110)=false:=aG.2 (by have:=hn 110 (by decide);omega)
 have g114:((c.toNat:Int) == 114)=false:=aG.2 (by have:=hn 114 (by decide);omega)
 have g116:((c.toNat:Int) == 116)=false:=aG.2 (by have:=hn 116 (by decide);omega)
 have g118:((c.toNat:Int) == 118)=false:=aG.2 (by have:=hn 118 (by decide);omega)
 have g92:((c.toNat:Int) == 92)=false:=aG.2 (by have:=hn 92 (by decide);omega)
 have g39:((c.toNat:Int) == 39)=false:=aG.2 (by have:=hn 39 (by decide);omega)
 have g34:((c.toNat:Int) == 34)=false:=aG.2 (by have:=hn 34 (by decide);omega)
 have g10:((c.toNat:Int) == 10)=false:=aG.2 (by have:=hn 10 (by decide);omega)
 have g122:((c.toNat:Int) == 122)=false:=aG.2 (by have:=hn 122 (by decide);omega)
 have g120:((c.toNat:Int) == 120)=false:=aG.2 (by have:=hn 120 (by decide);omega)
 have g48:((c.toNat:Int) == 48)=false:=aG.2 (by have:=hn 48 (by decide);omega)
 have g49:((c.toNat:Int) == 49)=false:=aG.2 (by have:=hn 49 (by decide);omega)
 have g50:((c.toNat:Int) == 50)=false:=aG.2 (by have:=hn 50 (by decide);omega)
 have g51:((c.toNat:Int) == 51)=false:=aG.2 (by have:=hn 51 (by decide);omega)
 have g52:((c.toNat:Int) == 52)=false:=aG.2 (by have:=hn 52 (by decide);omega)
 have g53:((c.toNat:Int) == 53)=false:=aG.2 (by have:=hn 53 (by decide);omega)
 have g54:((c.toNat:Int) == 54)=false:=aG.2 (by have:=hn 54 (by decide);omega)
 have g55:((c.toNat:Int) == 55)=false:=aG.2 (by have:=hn 55 (by decide);omega)
 have g56:((c.toNat:Int) == 56)=false:=aG.2 (by have:=hn 56 (by decide);omega)
 have g57:((c.toNat:Int) == 57)=false:=aG.2 (by have:=hn 57 (by decide);omega)
 clear hX h hc hn;go_enter Tryz.func137,Tryz.ntmps137
 go_wp2_with fail
 refine(C1.out _ HR.out).mono ?_;rintro e w1 ⟨rfl,r1,k1⟩;have R1:=aa r1;have K1:=aa k1;clear r1 k1;go_wp2_with fail
 refine(C1.out _ R1.out).mono ?_;rintro e w2 ⟨rfl,r2,k2⟩;have R2:=aa r2;have K2:=an K1 k2;clear r2 k2;go_wp2_with fail
 go_ret2
 exact⟨K2.out,rfl⟩
theorem dA (c:UInt8) (r:List UInt8):pq (c::r)=oO c r:=rfl
theorem zM (b:Nat) (s:ByteArray) (k:Nat) (w:World) (h:Rd w b s k):Calls Tryz.prog 137 #[.pointer (some ⟨b,0,none⟩)] w (bU b s k w (pq (aR s k))):=by
 by_cases hk:k=s.size
 ·exact KF b s k w h hk
 ·have hk:k<s.size:=by have:=h.le;omega
  have hs:=iF s k hk;have aby:=VJ b s k w h hk;have abz:=VK b s k w h hk;have ZD:=Qm b s k w h hk;have ZE:=Qn b s k w h hk;have ZF:=Qo b s k w h hk;have ZG:=Qp b s k w h hk;have ZH:=Qq b s k w h hk;have abA:=VL b s k w h hk;have abB:=VM b s k w h hk;have abC:=VN b s k w h hk;have abD:=VO b s k w h hk;have ZI:=Qr b s k w h hk;have ZJ:=Qs b s k w h hk;have abE:=VP b s k w h hk;have abF:=VQ b s k w h hk;have abG:=VR b s k w h hk;have abH:=VS b s k w h hk;have abI:=VU b s k w h hk;have abJ:=VV b s k w h hk;have abK:=VW b s k w h hk;have abL:=VX b s k w h hk;have abM:=VY b s k w h hk;have abN:=VZ b s k w h hk;have other:=Gk b s k w h hk s[k] rfl;generalize s[k]=c at *;have ou :∀c':UInt8,vn c'=none→pL c'=false→c'.toNat≠122→c'.toNat≠120→gj c'=true→c=c'→pq (aR s k)=code 10 gj 1 3 (aR s k):=fun c' a1 a2 a3 a4 a5 e=>by
   rw[hs,e];exact(dA _ _).trans (J8 _ a1 a2 a3 a4 a5)
  have jP :∀v:UInt8,c.toNat=v.toNat→c=v:=fun v h=>ze.1 h
  by_cases e:c.toNat=97
  ·rw[hs,jP 97 e,show pq (97::aR s (k+1))=some ([7],aR s (k+1)) from(dA _ _).trans (gb _ (by decide))];exact aby (jP 97 e)
  by_cases e:c.toNat=98
  ·rw[hs,jP 98 e,show pq (98::aR s (k+1))=some ([8],aR s (k+1)) from(dA _ _).trans (gb _ (by decide))];exact abz (jP 98 e)
  by_cases e:c.toNat=102
  ·rw[hs,jP 102 e,show pq (102::aR s (k+1))=some ([12],aR s (k+1)) from(dA _ _).trans (gb _ (by decide))];exact ZD (jP 102 e)
  by_cases e:c.toNat=110
  ·rw[hs,jP 110 e,show pq (110::aR s (k+1))=some ([10],aR s (k+1)) from(dA _ _).trans (gb _ (by decide))];exact ZE (jP 110 e)
  by_cases e:c.toNat=114
  ·rw[hs,jP 114 e,show pq (114::aR s (k+1))=some ([13],aR s (k+1)) from(dA _ _).trans (gb _ (by decide))];exact ZF (jP 114 e)
  by_cases e:c.toNat=116
  ·rw[hs,jP 116 e,show pq (116::aR s (k+1))=some ([9],aR s (k+1)) from(dA _ _).trans (gb _ (by decide))];exact ZG (jP 116 e)
  by_cases e:c.toNat=118
  ·rw[hs,jP 118 e,show pq (118::aR s (k+1))=some ([11],aR s (k+1)) from(dA _ _).trans (gb _ (by decide))];exact ZH (jP 118 e)
  by_cases e:c.toNat=92
  ·rw[hs,jP 92 e,show pq (92::aR s (k+1))=some ([92],aR s (k+1)) from(dA _ _).trans (kK _ (by decide) (by decide))];exact abA (jP 92 e)
  by_cases e:c.toNat=39
  ·rw[hs,jP 39 e,show pq (39::aR s (k+1))=some ([39],aR s (k+1)) from(dA _ _).trans (kK _ (by decide) (by decide))];exact abB (jP 39 e)
  by_cases e:c.toNat=34
  ·rw[hs,jP 34 e,show pq (34::aR s (k+1))=some ([34],aR s (k+1)) from(dA _ _).trans (kK _ (by decide) (by decide))];exact abC (jP 34 e)
  by_cases e:c.toNat=10
  ·rw[hs,jP 10 e,show pq (10::aR s (k+1))=some ([10],aR s (k+1)) from(dA _ _).trans (kK _ (by decide) (by decide))];exact abD (jP 10 e)
  by_cases e:c.toNat=122
  ·rw[hs,jP 122 e,show pq (122::aR s (k+1))=some ([],(aR s (k+1)).dropWhile pH) from(dA _ _).trans (J6 _ (by decide) (by decide) (by decide))];exact ZI (jP 122 e)
  by_cases e:c.toNat=120
  ·rw[hs,jP 120 e,show pq (120::aR s (k+1))=code 16 yM 2 2 (aR s (k+1)) from(dA _ _).trans (J7 _ (by decide) (by decide) (by decide))];exact ZJ (jP 120 e)
  by_cases e:c.toNat=48
  ·rw[ou 48 (by decide) (by decide) (by decide) (by decide) (by decide) (jP 48 e)];exact abE (jP 48 e)
  by_cases e:c.toNat=49
  ·rw[ou 49 (by decide) (by decide) (by decide) (by decide) (by decide) (jP 49 e)];exact abF (jP 49 e)
  by_cases e:c.toNat=50
  ·rw[ou 50 (by decide) (by decide) (by decide) (by decide) (by decide) (jP 50 e)];exact abG (jP 50 e)
  by_cases e:c.toNat=51
  ·rw[ou 51 (by decide) (by decide) (by decide) (by decide) (by decide) (jP 51 e)];exact abH (jP 51 e)
  by_cases e:c.toNat=52
  ·rw[ou 52 (by decide) (by decide) (by decide) (by decide) (by decide) (jP 52 e)];exact abI (jP 52 e)
  by_cases e:c.toNat=53
  ·rw[ou 53 (by decide) (by decide) (by decide) (by decide) (by decide) (jP 53 e)];exact abJ (jP 53 e)
  by_cases e:c.toNat=54
  ·rw[ou 54 (by decide) (by decide) (by decide) (by decide) (by decide) (jP 54 e)];exact abK (jP 54 e)
  by_cases e:c.toNat=55
  ·rw[ou 55 (by decide) (by decide) (by decide) (by decide) (by decide) (jP 55 e)];exact abL (jP 55 e)
  by_cases e:c.toNat=56
  ·rw[ou 56 (by decide) (by decide) (by decide) (by decide) (by decide) (jP 56 e)];exact abM (jP 56 e)
  by_cases e:c.toNat=57
  ·rw[ou 57 (by decide) (by decide) (by decide) (by decide) (by decide) (jP 57 e)];exact abN (jP 57 e)
  have hno:pq (aR s k)=none:=by
   rw[hs,dA];refine D8 _ ?_ ?_ (by assumption) (by assumption) ?_
   ·unfold vn;simp[*]
   ·unfold pL;simp[*]
   ·unfold gj;rw[y8];omega
  rw[hno];refine other ?_;intro v hv;simp only[bq,oh,oo] at hv;rcases hv with rfl|rfl|rfl|rfl|rfl|rfl|rfl|rfl|rfl|rfl|rfl|rfl|rfl|rfl|rfl|rfl|rfl|rfl|rfl|rfl|rfl|rfl|rfl<;>assumption
def mJ (l:List UInt8):List Value:=l.map fun b=>Value.int .u8 (b.toNat:Int)
theorem Cm (a b:List UInt8):mJ (a++b)=mJ a++mJ b:=by simp[mJ]
def qK (W:World) (B:Nat) (v:Value) (l:List UInt8):Prop:=W.ownsRow B 5 1 v l.length (mJ l)
theorem qK.nil (W:World) (B:Nat):qK W B (.slice none 0 0) []:=World.ownsRow_nil W B 5 1
theorem Qt {W:World} {B e n size:Nat} {v:Value} {xs:List Value} (h:W.ownsRow B e size v n xs) :∀k,v.ownBlock=some k→B≤k:=fun k hk=>(h.lt k hk).1
theorem qK.kp {b B:Nat} {W W':World} {v:Value} {l:List UInt8} (h:qK W B v l) (hk:Kp b W W') (hb:b<B):qK W' B v l:=by
 refine World.ownsRow.kept h hk ?_;rcases h.2 with ⟨rfl,_⟩ | ⟨g,_,_,rfl,hg,_⟩
 ·left;rfl
 ·right
  intro e;have:g=b:=by simpa[Value.ownBlock] using e
  omega
theorem ZK:(Tryz.prog.info? 5).map (fun i=>(i.zero,i.size,i.bytes))=some (some (.int .u8 0),1,1):=by kernel_rfl
theorem KG {ops:Array Oper} {rest:List Oper} {o:Oper} {a:Act} {Q:Exit→Act→World→Prop} (w:World) (hgd:o.guard=none) (sl x:Operand)
  (ho:o.op=.call { callee:=.builtin .append,args:=#[sl,x],argTypes:=#[216,216]}) (B:Nat) (v:Value) (l:List UInt8) (hs:a.eval sl=v) (hown:qK w B v l) (y:Value) (hx:a.eval x=y) (m:List UInt8) (hm:Bts w y m)
  (hlen:l.length≤1000000) (hB:B≤w.heap.size)
  (h :∀v' w',qK w' B v' (l++m)→Below B w w'→wpList Tryz.prog ops Q rest (a.put o.dst v') w'):wpList Tryz.prog ops Q (o::rest) a w:=by
 obtain⟨i0,mL,hz0,hz1,hz2⟩:=info_parts ZK;rcases hm with ⟨rfl,rfl⟩ | ⟨g,u,rfl,rfl,hc⟩
 ·refine wpList_plain hgd fun _ hK=>?_
  have hr:=run_append_owned_none (P:=Tryz.prog) (w:=w) B 216 o.type 5 i0 1 Tryz.underlying216 mL v l.length (mJ l) hown;unfold Oper.wp execOp;simp only[ho,resolve,invoke,builtin,Sem.run_bind,Sem.run_pure,Result.andThen_ok,J0,fW,List.map_nil,hs,hx,hr];exact hK _ _ (h v w (by rw[iX];exact hown) (Below.refl _ _))
 ·refine wpList_append_own (P:=Tryz.prog) _ hgd sl x 216 ho B 5 i0 (.int .u8 0) 1 1 Tryz.underlying216 mL hz0 hz1 hz2 rfl (by omega) v l.length (mJ l) hs hown ⟨g,0,none⟩ 1 1 [.int .u8 (u.toNat:Int)] hx rfl
   (fun j q hj=>by
    cases j with
    | zero=>obtain rfl:=gO hj;exact hc
    | succ j=>simp at hj) (fun q hq=>by obtain rfl:=bR.1 hq;rfl) (by unfold maxLen;omega) (by omega) hB ?_
  intro v' w' h1 h2 _;refine h v' w' ?_ ((Below.refl _ _).grown h2 hB (Qt hown));unfold qK;rw[cC,Cm];exact h1
theorem Cn {W:World} {B:Nat} {v:Value} {l:List UInt8} (h:qK W B v l):(convert 216 9 v).run Tryz.prog W=.ok (.string ⟨l.toArray⟩) W:=by
 rcases h.2 with ⟨rfl,h0⟩ | ⟨g,cap,cur,rfl,_⟩
 ·obtain rfl:l=[]:=pw h0
  exact run_convert_bytes_nil W 216 5 Tryz.underlying216 Tryz.underlying5 0 0 9 Tryz.underlying9
 ·exact run_convert_bytes_back (P:=Tryz.prog) W 216 9 5 ⟨g,0,none⟩ cap l Tryz.underlying216 Tryz.underlying5 Tryz.underlying9 (fun j hj=>by
   have hc:=World.ownsRow.cells h (g:=g) rfl j (.int .u8 (l[j].toNat:Int)) (by simp[mJ,hj])
   exact hc)
theorem Kp.below {b:Nat} {w0 w w':World} (h:Kp b w0 w) (k:Below w0.heap.size w w'):Kp b w0 w' :=
 ⟨k.os.trans h.os,k.tape.trans h.tape,k.output.trans h.output,aL h.size k.size,fun i hi hne=>(k.block i hi).trans (h.block i hi hne)⟩
theorem Rd.xJ {W W':World} {B b:Nat} {s:ByteArray} {k:Nat} (h:Rd W b s k) (hb:Below B W W') (hB:b<B):Rd W' b s k:=by
 have hf:=h.far;obtain⟨m,hm⟩:=h.mx;exact⟨(hb.block b hB).trans h.blk,h.le,h.top,h.far,m,(hb.cell (p:=⟨1,0,none⟩) (by show 1<B;omega)).trans hm⟩
def Qu (q:UInt8) (b:Nat) (s:ByteArray) (k:Nat) (w:World) (e:Ending) (w':World):Prop:=∃o,xE q (aR s (k+1)) o∧jy b s k w o e w'
theorem map_nil (o:Option (List UInt8×List UInt8)):o.map (fun x=>([]++x.1,x.2))=o:=by cases o<;>rfl
theorem Ee (o:Option (List UInt8×List UInt8)) (out m:List UInt8):(o.map fun x=>(m++x.1,x.2)).map (fun x=>(out++x.1,x.2))=o.map fun x=>((out++m)++x.1,x.2):=by
 cases o<;>simp
theorem KH (s:ByteArray) (k:Nat) (h:k<s.size) (X:ByteArray) (hX:X=s.extract k (k+1)) (h':0<X.size):X[0]=s[k]:=by
 subst hX;rw[ByteArray.getElem_extract];simp
theorem KI (s:ByteArray) (k:Nat) (h:k<s.size):(s.extract k (k+1)).size=1:=by rw[te];omega
theorem take_one (b:Nat) (s:ByteArray) (k:Nat) (hk:k<s.size) :∃X:ByteArray,∃hX:0<X.size,X[0]=s[k]∧∀W,Rd W b s k→Calls Tryz.prog 67 #[.pointer (some ⟨b,0,none⟩),.int .i64 1] W fun e w'=>e=.returned (.string X)∧Rd w' b s (k+1)∧Kp b W w':=by
 have hs:=KI s k hk;exact⟨s.extract k (k+1),by omega,KH s k hk _ rfl (by omega),fun W h=>bu b s k 1 W h (by omega)⟩
theorem qK.form {W:World} {B:Nat} {v:Value} {l:List UInt8} (h:qK W B v l) :∃A c,v=.slice A l.length c:=by
 rcases h.2 with ⟨rfl,h0⟩ | ⟨g,cap,_,rfl,_⟩
 ·exact⟨none,0,by rw[h0]⟩
 ·exact⟨_,_,rfl⟩
theorem Co (b:Nat) (s:ByteArray) (k:Nat) (w:World) (h:Rd w b s k) (hk:k<s.size) (q:UInt8) (hq:s[k]=q) (abO:q≠10) (ZL:q≠92) :
  Calls Tryz.prog 79 #[.pointer (some ⟨b,0,none⟩)] w (Qu q b s k w):=by
 have bD:=h.top;have iG:=h.lt;have HR:=aa h;obtain⟨X,eD,rP,hT⟩:=take_one b s k hk;rw[hq] at rP;have T1:=aa hT;clear h hT hq;go_enter Tryz.func79,Tryz.ntmps79
 go_wp2_with fail
 refine(T1.out _ HR.out).mono ?_;rintro e w1 ⟨rfl,r1,k1⟩;have R1:=aa r1;have K1:=aa k1;clear r1 k1;go_wp2_with fail
 clear rP eD;go_loopg [5] s.size (fun z tv wr=>∃(k1:Nat) (out:List UInt8),Rd wr b s k1∧k<k1∧s.size-k1≤z∧Kp b w wr∧qK wr w.heap.size tv out∧out.length+k≤k1∧∀o,xE q (aR s k1) o→xE q (aR s (k+1)) (o.map fun x=>(out++x.1,x.2)))
 case atStart=>exact⟨k+1,[],R1.out,by omega,by omega,K1.out,qK.nil _ _,by simp,fun o h=>by rw[map_nil];exact h⟩
 case round =>
  obtain⟨k1,out,hr,hlt,hz,Qj,ZM,tH,ZN⟩:=hrel;have Qk:=hr.le;have R0:=aa hr;have K0:=aa Qj;have HB:=aa ZM;have HQ:=aa ZN;have hsz0:=Qj.size;clear hr Qj ZM ZN;obtain⟨Y,hY⟩ :∃Y:ByteArray,Y=s.extract k1 s.size:=⟨_,rfl⟩;have C1:=aa (fun W h=>aA b s k1 W h)
  rw[←hY] at C1;have vg:Y.size=s.size-k1:=by rw[hY,aD s k1 Qk]
  clear hY;by_cases hend:k1=s.size
  ·have T7:=tG Y (by omega)
   have hs0:=sR s k1 (by omega)
   have HE:=aa hs0;clear hs0 vg;go_wp2_with fail
   refine(C1.out _ R0.out).mono ?_;rintro e w2 ⟨rfl,r2,k2⟩;have K2:=an K0 k2;clear r2 k2;go_wp2_with fail
   go_ret2
   exact⟨none,HQ.out none (by rw[HE.out];exact .none),K2.out,rfl⟩
  ·have iO:k1<s.size:=by omega
   have T7:=bG Y (by omega)
   have cM:=iF s k1 iO;obtain⟨Z,hZs,hZ0,hT⟩:=take_one b s k1 iO;have T2:=aa hT;obtain⟨c,hc⟩ :∃c:UInt8,c=s[k1]:=⟨_,rfl⟩;rw[←hc] at hZ0 cM;have HC:=aa cM;clear vg hT hc cM;have B9:=c.toNat_lt;have hql:=q.toNat_lt;obtain⟨A1,c1,rfl⟩:=HB.out.form;by_cases hcq:c=q
   ·subst hcq
    go_wp2_with fail
    refine(C1.out _ R0.out).mono ?_;rintro e w2 ⟨rfl,r2,k2⟩;have R2:=aa r2;have K2:=an K0 k2;have B2:=aa (HB.out.kp k2 iG);clear r2 k2;go_wp2_with fail
    refine(T2.out _ R2.out).mono ?_;rintro e w3 ⟨rfl,r3,k3⟩;have R3:=aa r3;have K3:=an K2 k3;have B3:=aa (B2.out.kp k3 iG);clear r3 k3;have hcv:=Cn B3.out;go_wp2_with fail
    go_ret2
    refine⟨some (out,aR s (k1+1)),?_,K3.out,_,rfl,R3.out,rfl,by omega⟩
    have:=HQ.out (some ([],aR s (k1+1))) (by rw[HC.out];exact .shut)
    simpa using this
   ·have hcqn:c.toNat≠q.toNat:=fun e=>hcq (ze.1 e)
    by_cases V6:c=10
    ·subst V6
     have g1:((10:Int) == (q.toNat:Int))=false:=aG.2 (by have:(10:UInt8).toNat=10:=rfl;omega)
     go_wp2_with fail
     refine(C1.out _ R0.out).mono ?_;rintro e w2 ⟨rfl,r2,k2⟩;have R2:=aa r2;have K2:=an K0 k2;have B2:=aa (HB.out.kp k2 iG);clear r2 k2;go_wp2_with fail
     refine(T2.out _ R2.out).mono ?_;rintro e w3 ⟨rfl,r3,k3⟩;have R3:=aa r3;have K3:=an K2 k3;have B3:=aa (B2.out.kp k3 iG);clear r3 k3;go_wp2_with fail
     go_ret2
     exact⟨none,HQ.out none (by rw[HC.out];exact .line abO),K3.out,rfl⟩
    ·by_cases V7:c=92
     ·subst V7
      have g1:((92:Int) == (q.toNat:Int))=false:=aG.2 (by have:(92:UInt8).toNat=92:=rfl;omega)
      have E1:=aa (fun W h=>zM b s (k1+1) W h)
      cases hes:pq (aR s (k1+1)) with
      | none =>
       rw[hes] at E1;have HES:=aa hes;clear hes;go_wp2_with fail
       refine(C1.out _ R0.out).mono ?_;rintro e w2 ⟨rfl,r2,k2⟩;have R2:=aa r2;have K2:=an K0 k2;have B2:=aa (HB.out.kp k2 iG);clear r2 k2;go_wp2_with fail
       refine(T2.out _ R2.out).mono ?_;rintro e w3 ⟨rfl,r3,k3⟩;have R3:=aa r3;have K3:=an K2 k3;have B3:=aa (B2.out.kp k3 iG);clear r3 k3;go_wp2_with fail
       refine(E1.out _ R3.out).mono ?_;intro e w4 fN;obtain⟨k4,rfl⟩:=fN;have K4:=an K3 k4;clear k4;go_wp2_with fail
       go_ret2
       exact⟨none,HQ.out none (by rw[HC.out];exact .bad ZL HES.out),K4.out,rfl⟩
      | some z =>
       obtain⟨m,r⟩:=z;rw[hes] at E1;have HES:=aa hes;clear hes;go_wp2_with fail
       refine(C1.out _ R0.out).mono ?_;rintro e w2 ⟨rfl,r2,k2⟩;have R2:=aa r2;have K2:=an K0 k2;have B2:=aa (HB.out.kp k2 iG);clear r2 k2;go_wp2_with fail
       refine(T2.out _ R2.out).mono ?_;rintro e w3 ⟨rfl,r3,k3⟩;have R3:=aa r3;have K3:=an K2 k3;have B3:=aa (B2.out.kp k3 iG);clear r3 k3;go_wp2_with fail
       refine(E1.out _ R3.out).mono ?_;intro e w4 fN;obtain⟨k4,k',v,rfl,hb4,r4,hr4,hl4⟩:=fN;have K4:=an K3 k4;have R4:=aa r4;have B4:=aa (B3.out.kp k4 iG);have HE:=aa hr4;have yN:m.length≤1:=by
        rcases hb4 with ⟨_,rfl⟩ | ⟨_,_,rfl,_⟩<;>simp
       have HBT:=aa hb4;have abP:=K4.out.size;clear k4 r4 hb4 hr4;have adl:=R4.out.le;go_wp2_with (at_builtin;refine KG _ rfl _ _ rfl w.heap.size _ out rfl B4.out _ rfl m HBT.out (by omega) abP ?_;intro v5 w5 Ef ik)
       go_roundg (s.size-k')
       case measure=>omega
       case rel=>exact⟨k',out++m,R4.out.xJ ik iG,by omega,ah _,K4.out.below ik,Ef,by rw[cC];omega,fun o ho=>by
        have:=HQ.out _ (by rw[HC.out];exact .pq ZL HES.out (HE.out▸ho))
        rwa[Ee] at this⟩
     ·have g1:((c.toNat:Int) == (q.toNat:Int))=false:=aG.2 (by omega)
      have g2:((c.toNat:Int) == 10)=false:=aG.2 (fun e=>V6 (ze.1 (by show c.toNat=10;omega)))
      have g3:((c.toNat:Int) == 92)=false:=aG.2 (fun e=>V7 (ze.1 (by show c.toNat=92;omega)))
      go_wp2_with fail
      refine(C1.out _ R0.out).mono ?_;rintro e w2 ⟨rfl,r2,k2⟩;have R2:=aa r2;have K2:=an K0 k2;have B2:=aa (HB.out.kp k2 iG);clear r2 k2;go_wp2_with fail
      refine(T2.out _ R2.out).mono ?_;rintro e w3 ⟨rfl,r3,k3⟩;have R3:=aa r3;have K3:=an K2 k3;have B3:=aa (B2.out.kp k3 iG);clear r3 k3;have hsz3:=K3.out.size;go_wp2_with (at_builtin;refine KG _ rfl _ _ rfl w.heap.size _ out rfl (World.ownsRow.alloc B3.out _) _ rfl [c] (dM _ _ _ rfl) (by omega) (by simp;omega) ?_;intro v5 w5 Ef ik)
      go_roundg (s.size-(k1+1))
      case measure=>omega
      case rel=>exact⟨k1+1,out++[c],(R3.out.alloc _).xJ ik iG,by omega,ah _,(K3.out.alloc _).below ik,Ef,by rw[cC];simp;omega,fun o ho=>by
       have:=HQ.out _ (by rw[HC.out];exact .byte hcq V6 V7 ho)
       rw[show(o.map fun x=>(c::x.1,x.2))=o.map fun x=>([c]++x.1,x.2) from rfl,Ee] at this
       exact this⟩
theorem KJ (s:ByteArray) (w:World):Calls Tryz.prog 135 #[.string s] w fun e w'=>e=.returned (.bool (pK s.data.toList))∧w=w':=by
 rw[←Lib.toList_data];go_enter Tryz.func135,Tryz.ntmps135
 go_wp2
 all_goals first
  | (go_ret;rename_i ha hb;rw[ha] at hb;cases hb;done)
  | (go_ret;exact⟨iE (by simp only[pK,keys,JT,JW,Bool.or_false,Bool.true_or,Bool.or_true, *]),rfl⟩)
theorem Cp (s:ByteArray) (w:World):Calls Tryz.prog 141 #[.string s] w fun e w'=>e=.returned (.bool (mC s.data.toList))∧w=w':=by
 rw[←Lib.toList_data];go_enter Tryz.func141,Tryz.ntmps141
 go_wp2
 all_goals first
  | (go_ret;rename_i ha hb;rw[ha] at hb;cases hb;done)
  | (go_ret;exact⟨iE (by simp only[mC,signs,JT,JW,Bool.or_false,Bool.true_or,Bool.or_true, *]),rfl⟩)
end Go.Proofs.YteflkdlaoiijbaaGreatDoor
