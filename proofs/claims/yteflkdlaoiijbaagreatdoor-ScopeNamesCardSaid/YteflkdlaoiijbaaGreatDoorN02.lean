/- Parts of the proof. -/
import Derived.Deep.LoopGhost
import Derived.Laws.IdiomStrings
import Derived.Laws.OwnMore
import Derived.Laws.AppendOwn
import Derived.OwnWalk
import Derived.Test.YteflkdlaoiijbaaGreatDoorN01
set_option maxHeartbeats 16000000
set_option maxRecDepth 20000
namespace Go.Proofs.YteflkdlaoiijbaaGreatDoor
open Go.RowKit
def aS (s:ByteArray) (k:Nat):List UInt8:=s.data.toList.drop k
theorem cR (s:ByteArray) (k:Nat):(s.extract k s.size).data.toList=aS s k:=yk s k
theorem fK (s:ByteArray) (k:Nat):(aS s k).length=s.size-k:=by unfold aS;rw[kH,←Lib.size_eq]
theorem eJ (s:ByteArray) (k c:Nat):(aS s k).drop c=aS s (k+c):=by unfold aS;rw[List.drop_drop]
theorem eK (s:ByteArray) (k c:Nat):(s.extract k (k+c)).data.toList=(aS s k).take c:=lP s k c
theorem aD (s:ByteArray) (k:Nat) (h:k≤s.size):(s.extract k s.size).size=s.size-k:=by rw[tH];omega
theorem ym (l:List UInt8):(⟨l.toArray⟩:ByteArray).data.toList=l:=rfl
theorem Ez (l:List UInt8):(⟨l.toArray⟩:ByteArray).size=l.length:=by show l.toArray.size=_;simp
theorem QY {s:ByteArray} {l:List UInt8} (h:s.data.toList=l):s=⟨l.toArray⟩:=by subst h;rfl
theorem ua {a b:Int} (h:a=b):Ending.returned (.int .i64 a)=.returned (.int .i64 b):=by rw[h]
theorem sq (s:ByteArray) (w:World) (hs:s.size≤100000):Calls Tryz.prog 138 #[.string s] w fun e w'=>e=.returned (.int .i64 (opn s.data.toList:Int))∧w=w':=by
 obtain⟨n,hn⟩ :∃n:Nat,n=opn s.data.toList:=⟨_,rfl⟩;rw[←hn];unfold opn at hn;obtain⟨t1,ZG⟩ :∃t:ByteArray,t=⟨(Lib.trimPrefix s.data.toList [91]).toArray⟩:=⟨_,rfl⟩;cases e1:Lib.hasPrefix s.data.toList [91]
 ·have C1:=aa (fun W=>qZ s ⟨#[91]⟩ W)
  rw[show(⟨#[91]⟩:ByteArray).data.toList=[91] from rfl,e1,←ZG] at C1
  rw[e1] at hn;have HN:=aa hn;clear hn e1 ZG;go_enter Tryz.func138,Tryz.ntmps138
  go_wp2_with (go_at_call 174;refine(C1.out _).mono ?_;rintro e w' ⟨rfl,rfl⟩)
  go_ret
  exact⟨ua (by rw[HN.out];rfl),rfl⟩
 ·have C1:=aa (fun W=>qZ s ⟨#[91]⟩ W)
  rw[show(⟨#[91]⟩:ByteArray).data.toList=[91] from rfl,e1,←ZG] at C1
  have QZ:t1.data.toList=s.data.toList.drop 1:=by rw[ZG];show Lib.trimPrefix s.data.toList [91]=_;unfold Lib.trimPrefix;rw[ak e1];rfl
  rw[e1,ak rfl,←QZ] at hn;obtain⟨t2,ht2⟩ :∃t:ByteArray,t=⟨(Lib.trimLeftB t1.data.toList 61).toArray⟩:=⟨_,rfl⟩;have C2:=aa (fun W=>KP t1 W)
  rw[←ht2] at C2;rw[show Lib.trimLeftB t1.data.toList 61=t2.data.toList by rw[ht2]] at hn
  obtain⟨t3,ht3⟩ :∃t:ByteArray,t=⟨(Lib.trimPrefix t2.data.toList [91]).toArray⟩:=⟨_,rfl⟩;have C3:=aa (fun W=>qZ t2 ⟨#[91]⟩ W)
  cases e2:Lib.hasPrefix t2.data.toList [91]
  ·rw[show(⟨#[91]⟩:ByteArray).data.toList=[91] from rfl,e2,←ht3] at C3
   rw[e2] at hn;have HN:=aa hn;clear hn e1 e2 ZG ht2 ht3 QZ;go_enter Tryz.func138,Tryz.ntmps138
   go_wp2_with fail
   refine(C1.out _).mono ?_;rintro e w' ⟨rfl,rfl⟩;go_wp2_with fail
   refine(C2.out _).mono ?_;rintro e w' ⟨rfl,rfl⟩;go_wp2_with fail
   refine(C3.out _).mono ?_;rintro e w' ⟨rfl,rfl⟩;go_wp2_with fail
   go_ret
   exact⟨ua (by rw[HN.out];rfl),rfl⟩
  ·rw[show(⟨#[91]⟩:ByteArray).data.toList=[91] from rfl,e2,←ht3] at C3
   have Wv:t3.data.toList=t2.data.toList.drop 1:=by rw[ht3];show Lib.trimPrefix t2.data.toList [91]=_;unfold Lib.trimPrefix;rw[ak e2];rfl
   rw[e2,ak rfl,←Wv,←Lib.size_eq,←Lib.size_eq] at hn;have hle:t3.size≤s.size:=by
    rw[Lib.size_eq,Wv,ht2,ym,QZ,Lib.size_eq s,kH];have h1:=(D8 (fun x=>x == 61) (l:=s.data.toList.drop 1)).length_le
    rw[kH] at h1;unfold Lib.trimLeftB;omega
   have HN:=aa hn;clear hn e1 e2 ZG ht2 ht3 QZ Wv;go_enter Tryz.func138,Tryz.ntmps138
   go_wp2_with fail
   refine(C1.out _).mono ?_;rintro e w' ⟨rfl,rfl⟩;go_wp2_with fail
   refine(C2.out _).mono ?_;rintro e w' ⟨rfl,rfl⟩;go_wp2_with fail
   refine(C3.out _).mono ?_;rintro e w' ⟨rfl,rfl⟩;go_wp2_with fail
   go_ret
   exact⟨ua (by rw[HN.out];omega),rfl⟩
theorem nV (s:ByteArray) (r:Bool) (w:World) (hs:s.size≤100000) (h:decide (0<opn s.data.toList)=r):Calls Tryz.prog 80 #[.string s] w fun e w'=>e=.returned (.bool r)∧w=w':=by
 have C:=aa (fun W=>sq s W hs)
 generalize opn s.data.toList=n at *;go_enter Tryz.func80,Tryz.ntmps80
 go_wp2_with (go_at_call 138;refine(C.out _).mono ?_;rintro e w' ⟨rfl,rfl⟩)
 go_ret
 exact⟨rfl,rfl⟩
theorem KV {l sep:List UInt8} {t r:List UInt8} (h:Lib.cut l sep=(t,r,true)):t.length+sep.length≤l.length∧r=l.drop (t.length+sep.length):=by
 unfold Lib.cut at h;by_cases h0:0≤Lib.index l sep
 ·rw[ak h0] at h
  injection h with h1 h2;injection h2 with h2 _;have hr:=Lib.index_room l sep h0;have hlen:t.length=(Lib.index l sep).toNat:=by rw[←h1,oL];omega
  rw[hlen];exact⟨by omega,h2.symm⟩
 ·rw[af h0] at h
  injection h with _ h2;injection h2 with _ h3;cases h3
def jA (b:Nat) (s:ByteArray) (k:Nat) (w:World) (o:Option (List UInt8×List UInt8)) (e:Ending) (w':World):Prop :=
 Kp b w w'∧match o with
  | some (t,r)=>∃k',e=.returned (.tuple #[.string ⟨t.toArray⟩,.bool true])∧Rd w' b s k'∧aS s k'=r∧k<k'
  | none=>e=.returned (.tuple #[.string ⟨#[]⟩,.bool false])
theorem jA.nW {b:Nat} {s:ByteArray} {k:Nat} {w w':World} {t r:List UInt8} {e:Ending} (h:jA b s k w (some (t,r)) e w') :∃k',e=.returned (.tuple #[.string ⟨t.toArray⟩,.bool true])∧Rd w' b s k'∧aS s k'=r∧k<k'∧Kp b w w':=by
 obtain⟨h0,k',h1,h2,h3,h4⟩:=h;exact⟨k',h1,h2,h3,h4,h0⟩
theorem jA.nX {b:Nat} {s:ByteArray} {k:Nat} {w w':World} {e:Ending} (h:jA b s k w none e w'):e=.returned (.tuple #[.string ⟨#[]⟩,.bool false])∧Kp b w w':=⟨h.2,h.1⟩
theorem oS (b:Nat) (s:ByteArray) (k:Nat) (w:World) (h:Rd w b s k) (hp:0<opn (aS s k)):Calls Tryz.prog 81 #[.pointer (some ⟨b,0,none⟩)] w (jA b s k w (JO (aS s k))):=by
 have b9:=h.top;have hle:=h.le;have HR:=aa h;clear h;obtain⟨n,hn⟩ :∃n:Nat,n=opn (aS s k):=⟨_,rfl⟩;have jB:=Wm (aS s k);rw[←hn,fK] at jB;rw[←hn] at hp;have C1:=aa (fun W=>sq (s.extract k s.size) W (by rw[aD s k hle];omega))
 rw[cR,←hn] at C1;obtain⟨cl,CA⟩ :∃cl:ByteArray,cl=⟨(clo (s.extract k (k+n)).data.toList).toArray⟩:=⟨_,rfl⟩;have C2:=aa (fun W hW=>GJ (s.extract k (k+n)) W (by rw[tH];omega) hW)
 rw[←CA] at C2;have hb:JO (aS s k)=if (Lib.cut (aS s (k+n)) cl.data.toList).2.2 then some (Lib.trimPrefix (Lib.cut (aS s (k+n)) cl.data.toList).1 [10],(Lib.cut (aS s (k+n)) cl.data.toList).2.1) else none:=by
  unfold JO;rw[←hn,CA,ym,eK,eJ]
 have C3:=aa (fun W hW=>Ag (s.extract (k+n) s.size) cl W (by rw[aD s _ (by omega)];omega) hW)
 rw[cR] at C3;obtain⟨a,r,o,hq⟩ :∃a r o,Lib.cut (aS s (k+n)) cl.data.toList=(a,r,o):=⟨_,_,_,rfl⟩;rw[hq] at C3 hb;obtain⟨A,hA⟩ :∃A:ByteArray,A=⟨a.toArray⟩:=⟨_,rfl⟩;obtain⟨R,hR⟩ :∃R:ByteArray,R=⟨r.toArray⟩:=⟨_,rfl⟩;simp only[←hA,←hR] at C3;cases o
 ·have HB:=aa hb
  clear hn CA hq hA hR hb;go_enter Tryz.func81,Tryz.ntmps81
  go_wp2_with fail
  refine(aA _ _ _ _ HR.out).mono ?_;rintro e w1 ⟨rfl,r1,k1⟩;have R1:=aa r1;have K1:=aa k1;clear r1 k1;go_wp2_with fail
  refine(C1.out _).mono ?_;rintro e Cl ⟨rfl,rfl⟩;go_wp2_with fail
  refine(bo _ _ _ _ _ R1.out (by omega)).mono ?_;rintro e w2 ⟨rfl,r2,k2⟩
  have R2:=aa r2;have K2:=aa (K1.out.trans k2);clear r2 k2;go_wp2_with fail
  refine(C2.out _ R2.out.mx).mono ?_;rintro e w3 ⟨rfl,b3⟩;have R3:=aa (R2.out.below b3);have K3:=aa (K2.out.trans (Kp.ae b3));clear b3;go_wp2_with fail
  refine(aA _ _ _ _ R3.out).mono ?_;rintro e w4 ⟨rfl,r4,k4⟩;have R4:=aa r4;have K4:=aa (K3.out.trans k4);clear r4 k4;go_wp2_with fail
  refine(C3.out _ R4.out.mx).mono ?_;rintro e w5 ⟨rfl,n5,rfl⟩;go_wp2_with fail
  go_ret2
  refine⟨K4.out.draws _,?_⟩;rw[HB.out];rfl
 ·obtain⟨hroom,hr⟩:=KV hq
  rw[fK,←Lib.size_eq] at hroom;rw[eJ,←Lib.size_eq] at hr;have ZH:A.size=a.length:=by rw[hA,Ez]
  have C4:=aa (fun W=>KQ A W)
  rw[hA,ym,←hA] at C4;obtain⟨T,hT⟩ :∃T:ByteArray,T=⟨(Lib.trimPrefix a [10]).toArray⟩:=⟨_,rfl⟩;rw[←hT] at C4;rw[←ZH] at hroom hr;have HB:=aa hb;have HE:=aa hr;have HT:=aa hT;clear hn CA hq hA hR hb hr ZH hT;go_enter Tryz.func81,Tryz.ntmps81
  go_wp2_with fail
  refine(aA _ _ _ _ HR.out).mono ?_;rintro e w1 ⟨rfl,r1,k1⟩;have R1:=aa r1;have K1:=aa k1;clear r1 k1;go_wp2_with fail
  refine(C1.out _).mono ?_;rintro e Cl ⟨rfl,rfl⟩;go_wp2_with fail
  refine(bo _ _ _ _ _ R1.out (by omega)).mono ?_;rintro e w2 ⟨rfl,r2,k2⟩
  have R2:=aa r2;have K2:=aa (K1.out.trans k2);clear r2 k2;go_wp2_with fail
  refine(C2.out _ R2.out.mx).mono ?_;rintro e w3 ⟨rfl,b3⟩;have R3:=aa (R2.out.below b3);have K3:=aa (K2.out.trans (Kp.ae b3));clear b3;go_wp2_with fail
  refine(aA _ _ _ _ R3.out).mono ?_;rintro e w4 ⟨rfl,r4,k4⟩;have R4:=aa r4;have K4:=aa (K3.out.trans k4);clear r4 k4;go_wp2_with fail
  refine(C3.out _ R4.out.mx).mono ?_;rintro e w5 ⟨rfl,n5,rfl⟩;have R5:=aa (R4.out.draws n5);have K5:=aa (K4.out.draws n5);generalize w4.drewN n5=w5 at *;have EA:=fun W h=>bo b s (k+n) (A.size+cl.size) W h (by omega)
  rw[show((A.size+cl.size:Nat):Int)=(A.size:Int)+(cl.size:Int) by omega] at EA
  have C6:=aa EA;clear EA;go_wp2_with fail
  refine(C6.out _ R5.out).mono ?_;rintro e w6 ⟨rfl,r6,k6⟩;have R6:=aa r6;have K6:=aa (K5.out.trans k6);clear r6 k6;go_wp2_with fail
  refine(C4.out _).mono ?_;rintro e w6' ⟨rfl,rfl⟩;go_wp2_with fail
  go_ret2
  refine⟨K6.out,?_⟩;rw[HB.out];exact⟨_,by rw[HT.out];rfl,R6.out,HE.out.symm,by omega⟩
theorem mW {p:UInt8→Bool} {l:List UInt8} {k:Nat} {c:UInt8} (h:k≤runN p l) (hc:l[k]? = some c) (hp:p c=true):k+1≤runN p l:=by
 induction l generalizing k with
 | nil=>simp at hc
 | cons a t ih =>
  unfold runN at *;cases k with
  | zero =>
   simp at hc;subst hc;simp[hp]
  | succ k =>
   cases e:p a
   ·simp[e] at h
   ·simp[e] at h ⊢
    exact ih h (by simpa using hc)
theorem mX {p:UInt8→Bool} {l:List UInt8} {k:Nat} {c:UInt8} (h:k≤runN p l) (hc:l[k]? = some c) (hp:p c=false):k=runN p l:=by
 induction l generalizing k with
 | nil=>simp at hc
 | cons a t ih =>
  unfold runN at *;cases k with
  | zero =>
   simp at hc;subst hc;simp[hp]
  | succ k =>
   cases e:p a
   ·simp[e] at h
   ·simp[e] at h ⊢
    exact ih h (by simpa using hc)
theorem iw {a b:Int} (h:a=b):Ending.returned (.int .i64 a)=.returned (.int .i64 b):=by rw[h]
theorem wL (s:ByteArray) (w:World) (hs:s.size≤100000):Calls Tryz.prog 68 #[.string s,.func (.func 70) #[] #[]] w fun e w'=>e=.returned (.int .i64 (runN oR s.data.toList:Int))∧w=w':=by
 have hle:runN oR s.data.toList≤s.size:=by
  have:=gZ oR s.data.toList;rwa[←Lib.size_eq] at this
 obtain⟨m,hm⟩ :∃m:Nat,m=runN oR s.data.toList:=⟨_,rfl⟩;rw[←hm] at hle ⊢;have HM:=aa hm;clear hm;go_enter Tryz.func68,Tryz.ntmps68
 go_wp2_with fail
 go_loop [5] (fun i=>∃k:Nat,k≤m∧i=.int .i64 k) (fun i=>s.size-(intOf i).toNat)
 case atStart=>exact⟨0,aR _,rfl⟩
 case round =>
  obtain⟨k,hk,rfl⟩:=hrel;by_cases hlt:k<s.size
  ·have hg:s.data.toList[k]? = some s[k]:=bE (l:=s.data.toList) (i:=k) (by simpa using hlt)
   cases e:oR s[k]
   ·have j3:=mX (by rw[←HM.out];exact hk) hg e
    have HK:=aa (fun W=>Ai s[k] _ W e)
    clear hg e;have HS:=aa (j3.trans HM.out.symm);clear j3;go_wp2_with (go_at_call 70;refine(HK.out _).mono ?_;rintro e w' ⟨rfl,rfl⟩)
    go_ret
    exact⟨iw (by rw[HS.out]),rfl⟩
   ·have gh:=mW (by rw[←HM.out];exact hk) hg e
    have HK:=aa (fun W=>Ai s[k] _ W e)
    clear hg e;rw[←HM.out] at gh;go_wp2_with (go_at_call 70;refine(HK.out _).mono ?_;rintro e w' ⟨rfl,rfl⟩)
    go_round
    case rel=>exact⟨k+1,gh,by go_num⟩
    case measure=>simp[intOf];omega
  ·have xZ:k=m:=by omega
   go_wp2_with fail
   go_ret
   exact⟨iw (by omega),rfl⟩
theorem KW (s:ByteArray) (w:World) (hs:s.size≤100000):Calls Tryz.prog 68 #[.string s,.func (.func 134) #[] #[]] w fun e w'=>e=.returned (.int .i64 (runN jZ s.data.toList:Int))∧w=w':=by
 have hle:runN jZ s.data.toList≤s.size:=by
  have:=gZ jZ s.data.toList;rwa[←Lib.size_eq] at this
 obtain⟨m,hm⟩ :∃m:Nat,m=runN jZ s.data.toList:=⟨_,rfl⟩;rw[←hm] at hle ⊢;have HM:=aa hm;clear hm;go_enter Tryz.func68,Tryz.ntmps68
 go_wp2_with fail
 go_loop [5] (fun i=>∃k:Nat,k≤m∧i=.int .i64 k) (fun i=>s.size-(intOf i).toNat)
 case atStart=>exact⟨0,aR _,rfl⟩
 case round =>
  obtain⟨k,hk,rfl⟩:=hrel;by_cases hlt:k<s.size
  ·have hg:s.data.toList[k]? = some s[k]:=bE (l:=s.data.toList) (i:=k) (by simpa using hlt)
   cases e:jZ s[k]
   ·have j3:=mX (by rw[←HM.out];exact hk) hg e
    have HK:=aa (fun W=>ti s[k] _ W e)
    clear hg e;have HS:=aa (j3.trans HM.out.symm);clear j3;go_wp2_with (go_at_call 134;refine(HK.out _).mono ?_;rintro e w' ⟨rfl,rfl⟩)
    go_ret
    exact⟨iw (by rw[HS.out]),rfl⟩
   ·have gh:=mW (by rw[←HM.out];exact hk) hg e
    have HK:=aa (fun W=>ti s[k] _ W e)
    clear hg e;rw[←HM.out] at gh;go_wp2_with (go_at_call 134;refine(HK.out _).mono ?_;rintro e w' ⟨rfl,rfl⟩)
    go_round
    case rel=>exact⟨k+1,gh,by go_num⟩
    case measure=>simp[intOf];omega
  ·have xZ:k=m:=by omega
   go_wp2_with fail
   go_ret
   exact⟨iw (by omega),rfl⟩
theorem ue (s:ByteArray) (w:World) (hs:s.size≤100000):Calls Tryz.prog 68 #[.string s,.func (.func 77) #[] #[]] w fun e w'=>e=.returned (.int .i64 (runN mJ s.data.toList:Int))∧w=w':=by
 have hle:runN mJ s.data.toList≤s.size:=by
  have:=gZ mJ s.data.toList;rwa[←Lib.size_eq] at this
 obtain⟨m,hm⟩ :∃m:Nat,m=runN mJ s.data.toList:=⟨_,rfl⟩;rw[←hm] at hle ⊢;have HM:=aa hm;clear hm;go_enter Tryz.func68,Tryz.ntmps68
 go_wp2_with fail
 go_loop [5] (fun i=>∃k:Nat,k≤m∧i=.int .i64 k) (fun i=>s.size-(intOf i).toNat)
 case atStart=>exact⟨0,aR _,rfl⟩
 case round =>
  obtain⟨k,hk,rfl⟩:=hrel;by_cases hlt:k<s.size
  ·have hg:s.data.toList[k]? = some s[k]:=bE (l:=s.data.toList) (i:=k) (by simpa using hlt)
   cases e:mJ s[k]
   ·have j3:=mX (by rw[←HM.out];exact hk) hg e
    have HK:=aa (fun W=>wK s[k] _ W e)
    clear hg e;have HS:=aa (j3.trans HM.out.symm);clear j3;go_wp2_with (go_at_call 77;refine(HK.out _).mono ?_;rintro e w' ⟨rfl,rfl⟩)
    go_ret
    exact⟨iw (by rw[HS.out]),rfl⟩
   ·have gh:=mW (by rw[←HM.out];exact hk) hg e
    have HK:=aa (fun W=>wK s[k] _ W e)
    clear hg e;rw[←HM.out] at gh;go_wp2_with (go_at_call 77;refine(HK.out _).mono ?_;rintro e w' ⟨rfl,rfl⟩)
    go_round
    case rel=>exact⟨k+1,gh,by go_num⟩
    case measure=>simp[intOf];omega
  ·have xZ:k=m:=by omega
   go_wp2_with fail
   go_ret
   exact⟨iw (by omega),rfl⟩
theorem GK (s:ByteArray) (w:World) (hs:s.size≤100000):Calls Tryz.prog 68 #[.string s,.func (.func 75) #[] #[]] w fun e w'=>e=.returned (.int .i64 (runN fQ s.data.toList:Int))∧w=w':=by
 have hle:runN fQ s.data.toList≤s.size:=by
  have:=gZ fQ s.data.toList;rwa[←Lib.size_eq] at this
 obtain⟨m,hm⟩ :∃m:Nat,m=runN fQ s.data.toList:=⟨_,rfl⟩;rw[←hm] at hle ⊢;have HM:=aa hm;clear hm;go_enter Tryz.func68,Tryz.ntmps68
 go_wp2_with fail
 go_loop [5] (fun i=>∃k:Nat,k≤m∧i=.int .i64 k) (fun i=>s.size-(intOf i).toNat)
 case atStart=>exact⟨0,aR _,rfl⟩
 case round =>
  obtain⟨k,hk,rfl⟩:=hrel;by_cases hlt:k<s.size
  ·have hg:s.data.toList[k]? = some s[k]:=bE (l:=s.data.toList) (i:=k) (by simpa using hlt)
   cases e:fQ s[k]
   ·have j3:=mX (by rw[←HM.out];exact hk) hg e
    have HK:=aa (fun W=>fD s[k] _ W e)
    clear hg e;have HS:=aa (j3.trans HM.out.symm);clear j3;go_wp2_with (go_at_call 75;refine(HK.out _).mono ?_;rintro e w' ⟨rfl,rfl⟩)
    go_ret
    exact⟨iw (by rw[HS.out]),rfl⟩
   ·have gh:=mW (by rw[←HM.out];exact hk) hg e
    have HK:=aa (fun W=>fD s[k] _ W e)
    clear hg e;rw[←HM.out] at gh;go_wp2_with (go_at_call 75;refine(HK.out _).mono ?_;rintro e w' ⟨rfl,rfl⟩)
    go_round
    case rel=>exact⟨k+1,gh,by go_num⟩
    case measure=>simp[intOf];omega
  ·have xZ:k=m:=by omega
   go_wp2_with fail
   go_ret
   exact⟨iw (by omega),rfl⟩
theorem Q0 (s:ByteArray) (w:World) (hs:s.size≤100000):Calls Tryz.prog 68 #[.string s,.func (.func 173) #[] #[]] w fun e w'=>e=.returned (.int .i64 (runN zo s.data.toList:Int))∧w=w':=by
 have hle:runN zo s.data.toList≤s.size:=by
  have:=gZ zo s.data.toList;rwa[←Lib.size_eq] at this
 obtain⟨m,hm⟩ :∃m:Nat,m=runN zo s.data.toList:=⟨_,rfl⟩;rw[←hm] at hle ⊢;have HM:=aa hm;clear hm;go_enter Tryz.func68,Tryz.ntmps68
 go_wp2_with fail
 go_loop [5] (fun i=>∃k:Nat,k≤m∧i=.int .i64 k) (fun i=>s.size-(intOf i).toNat)
 case atStart=>exact⟨0,aR _,rfl⟩
 case round =>
  obtain⟨k,hk,rfl⟩:=hrel;by_cases hlt:k<s.size
  ·have hg:s.data.toList[k]? = some s[k]:=bE (l:=s.data.toList) (i:=k) (by simpa using hlt)
   cases e:zo s[k]
   ·have j3:=mX (by rw[←HM.out];exact hk) hg e
    have HK:=aa (fun W=>KU s[k] _ W e)
    clear hg e;have HS:=aa (j3.trans HM.out.symm);clear j3;go_wp2_with (go_at_call 173;refine(HK.out _).mono ?_;rintro e w' ⟨rfl,rfl⟩)
    go_ret
    exact⟨iw (by rw[HS.out]),rfl⟩
   ·have gh:=mW (by rw[←HM.out];exact hk) hg e
    have HK:=aa (fun W=>KU s[k] _ W e)
    clear hg e;rw[←HM.out] at gh;go_wp2_with (go_at_call 173;refine(HK.out _).mono ?_;rintro e w' ⟨rfl,rfl⟩)
    go_round
    case rel=>exact⟨k+1,gh,by go_num⟩
    case measure=>simp[intOf];omega
  ·have xZ:k=m:=by omega
   go_wp2_with fail
   go_ret
   exact⟨iw (by omega),rfl⟩
theorem an {b:Nat} {w u v:World} (h:Hid (Kp b w u)) (k:Kp b u v):Hid (Kp b w v):=aa (h.out.trans k)
def mY (b:Nat) (s:ByteArray) (k:Nat) (w:World) (o:Option (List UInt8)) (e:Ending) (w':World):Prop :=
 Kp b w w'∧match o with
  | some r=>∃k',e=.returned (.bool true)∧Rd w' b s k'∧aS s k'=r∧k<k'
  | none=>e=.returned (.bool false)
theorem mY.nW {b:Nat} {s:ByteArray} {k:Nat} {w w':World} {r:List UInt8} {e:Ending} (h:mY b s k w (some r) e w') :∃k',e=.returned (.bool true)∧Rd w' b s k'∧aS s k'=r∧k<k'∧Kp b w w':=by
 obtain⟨h0,k',h1,h2,h3,h4⟩:=h;exact⟨k',h1,h2,h3,h4,h0⟩
theorem mY.nX {b:Nat} {s:ByteArray} {k:Nat} {w w':World} {e:Ending} (h:mY b s k w none e w'):e=.returned (.bool false)∧Kp b w w':=⟨h.2,h.1⟩
theorem Aj (b:Nat) (s:ByteArray) (k:Nat) (w:World) (h:Rd w b s k) (hk:k+2≤s.size):Calls Tryz.prog 72 #[.pointer (some ⟨b,0,none⟩)] w (mY b s k w (comm (aS s (k+2)))):=by
 have b9:=h.top;have HR:=aa h;clear h;have T1:=aa (fun W h=>bo b s k 2 W h hk)
 by_cases hp:0<opn (aS s (k+2))
 ·have B1:=aa (fun W=>nV (s.extract (k+2) s.size) true W (by rw[aD s _ hk];omega) (by rw[cR];exact bM hp))
  have K1:=aa (fun W h=>oS b s (k+2) W h hp)
  have hc:comm (aS s (k+2))=(JO (aS s (k+2))).map (·.2):=by unfold comm;rw[ak hp]
  cases hb:JO (aS s (k+2)) with
  | none =>
   rw[hb] at hc;have HC:=aa hc;rw[hb] at K1;clear hb hc hp;go_enter Tryz.func72,Tryz.ntmps72
   go_wp2_with fail
   refine(T1.out _ HR.out).mono ?_;rintro e w1 ⟨rfl,r1,k1⟩;have R1:=aa r1;have KK1:=aa k1;clear r1 k1;go_wp2_with fail
   refine(aA _ _ _ _ R1.out).mono ?_;rintro e w2 ⟨rfl,r2,k2⟩;have R2:=aa r2;have KK2:=an KK1 k2;clear r2 k2;go_wp2_with fail
   refine(B1.out _).mono ?_;rintro e KX ⟨rfl,rfl⟩;go_wp2_with fail
   refine(K1.out _ R2.out).mono ?_;intro e w3 Al;obtain⟨rfl,k3⟩:=Al.nX;clear Al;have KK3:=an KK2 k3;clear k3;go_wp2_with fail
   go_ret
   refine⟨KK3.out,?_⟩;rw[HC.out];rfl
  | some z =>
   obtain⟨t,r⟩:=z;rw[hb] at hc;have HC:=aa hc;rw[hb] at K1;clear hb hc hp;go_enter Tryz.func72,Tryz.ntmps72
   go_wp2_with fail
   refine(T1.out _ HR.out).mono ?_;rintro e w1 ⟨rfl,r1,k1⟩;have R1:=aa r1;have KK1:=aa k1;clear r1 k1;go_wp2_with fail
   refine(aA _ _ _ _ R1.out).mono ?_;rintro e w2 ⟨rfl,r2,k2⟩;have R2:=aa r2;have KK2:=an KK1 k2;clear r2 k2;go_wp2_with fail
   refine(B1.out _).mono ?_;rintro e KX ⟨rfl,rfl⟩;go_wp2_with fail
   refine(K1.out _ R2.out).mono ?_;intro e w3 Al;obtain⟨k',rfl,r3,hr3,hlt,k3⟩:=Al.nW;clear Al;have R3:=aa r3;have KK3:=an KK2 k3;have HE:=aa hr3;clear r3 k3 hr3;go_wp2_with fail
   go_ret
   refine⟨KK3.out,?_⟩;rw[HC.out];exact⟨k',rfl,R3.out,HE.out,by omega⟩
 ·have B1:=aa (fun W=>nV (s.extract (k+2) s.size) false W (by rw[aD s _ hk];omega) (by rw[cR];exact bL hp))
  obtain⟨A,hA⟩ :∃A:ByteArray,A=⟨(Lib.cut (aS s (k+2)) [10]).1.toArray⟩:=⟨_,rfl⟩;obtain⟨R,hR⟩ :∃R:ByteArray,R=⟨(Lib.cut (aS s (k+2)) [10]).2.1.toArray⟩:=⟨_,rfl⟩;obtain⟨o,ho⟩ :∃o:Bool,o=(Lib.cut (aS s (k+2)) [10]).2.2:=⟨_,rfl⟩;have C1:=aa (fun W hW=>Ag (s.extract (k+2) s.size) ⟨#[10]⟩ W (by rw[aD s _ hk];omega) hW)
  rw[cR,show(⟨#[10]⟩:ByteArray).data.toList=[10] from rfl,←hA,←hR,←ho] at C1
  have ZH:A.size=(Lib.cut (aS s (k+2)) [10]).1.length:=by rw[hA,Ez]
  have hc:comm (aS s (k+2))=some (aS s (k+2+A.size)):=by unfold comm;rw[af hp,←ZH,eJ]
  have hAl:k+2+A.size≤s.size:=by
   rw[ZH,Wn];have:=gZ (fun c=>c != 10) (aS s (k+2))
   rw[fK] at this;unfold runN at this;omega
  have HC:=aa hc;have T2:=aa (fun W h=>bo b s (k+2) A.size W h hAl)
  clear hA hR ho ZH hc hp;go_enter Tryz.func72,Tryz.ntmps72
  go_wp2_with fail
  refine(T1.out _ HR.out).mono ?_;rintro e w1 ⟨rfl,r1,k1⟩;have R1:=aa r1;have KK1:=aa k1;clear r1 k1;go_wp2_with fail
  refine(aA _ _ _ _ R1.out).mono ?_;rintro e w2 ⟨rfl,r2,k2⟩;have R2:=aa r2;have KK2:=an KK1 k2;clear r2 k2;go_wp2_with fail
  refine(B1.out _).mono ?_;rintro e KX ⟨rfl,rfl⟩;go_wp2_with fail
  refine(aA _ _ _ _ R2.out).mono ?_;rintro e w3 ⟨rfl,r3,k3⟩;have R3:=aa r3;have KK3:=an KK2 k3;clear r3 k3;go_wp2_with fail
  refine(C1.out _ R3.out.mx).mono ?_;rintro e w4 ⟨rfl,n4,rfl⟩;have R4:=aa (R3.out.draws n4);have KK4:=aa (KK3.out.draws n4);generalize w3.drewN n4=w4 at *;go_wp2_with fail
  refine(T2.out _ R4.out).mono ?_;rintro e w5 ⟨rfl,r5,k5⟩;have R5:=aa r5;have KK5:=an KK4 k5;clear r5 k5;go_wp2_with fail
  go_ret
  refine⟨KK5.out,?_⟩;rw[HC.out];exact⟨_,rfl,R5.out,rfl,by omega⟩
def Am (W:World) (v:Value) (n:Int):Prop:=∃g,v=.iface 83 (.pointer (some ⟨g,0,none⟩))∧W.heap[g]? = some (.cells #[.int .i64 n,.iface 79 (.int .i64 5)] 85 (0,0))
theorem kN (n:Int) (w:World):Calls Tryz.prog 31 #[.int .i64 n,.int .i64 5] w fun e w'=>e=.returned (.iface 83 (.pointer (some ⟨w.heap.size,0,none⟩)))∧w'=w.alloc (.cells #[.int .i64 n,.iface 79 (.int .i64 5)] 85):=by
 go_enter Tryz.func31,Tryz.ntmps31
 go_wp2
 go_ret
 exact⟨rfl,rfl⟩
theorem Am.new (w:World) (n:Int):Am (w.alloc (.cells #[.int .i64 n,.iface 79 (.int .i64 5)] 85)) (.iface 83 (.pointer (some ⟨w.heap.size,0,none⟩))) n:=⟨_,rfl,World.alloc_heap_new w _⟩
def cY (s:ByteArray):Int:=1+(nl s.data.toList:Int)
theorem jj (s:ByteArray) (k:Nat):((1+nl (s.data.toList.take k):Nat):Int)=cY s-nl (aS s k):=by
 unfold cY aS;have:=Wl s.data.toList k;omega
def KY (b:Nat) (s:ByteArray) (k:Nat) (w:World) (e:Ending) (w':World):Prop :=
 Kp b w w'∧((∃k',e=.returned .nilIface∧Rd w' b s k'∧k≤k'∧mV (aS s k) (.ok (aS s k'))) ∨
  (∃r v,e=.returned v∧Am w' v (cY s-nl r)∧mV (aS s k) (.error r)))
theorem KZ {l:List UInt8} (h:Lib.hasPrefix l [45,45]=true):l=45::45::l.drop 2:=by
 match l with
 | []=>simp[Lib.hasPrefix] at h
 | [a]=>simp[Lib.hasPrefix] at h
 | a::b::t =>
  simp[Lib.hasPrefix,List.isPrefixOf] at h;simp[←h.1,←h.2]
theorem K9 (b:Nat) (s:ByteArray) (k:Nat) (w:World) (h:Rd w b s k):Calls Tryz.prog 32 #[.pointer (some ⟨b,0,none⟩)] w (KY b s k w):=by
 have b9:=h.top;have hle:=h.le;have HR:=aa h;clear h;go_enter Tryz.func32,Tryz.ntmps32
 go_wp2_with fail
 go_loopg [] s.size (fun z wr=>∃k1,Rd wr b s k1∧s.size-k1≤z∧Kp b w wr∧k≤k1∧∀o,mV (aS s k1) o→mV (aS s k) o)
 case atStart=>exact⟨k,HR.out,by omega,Kp.refl _ _,ah _,fun _ h=>h⟩
 case round =>
  obtain⟨k1,hr,hz,Q6,qX,hsk⟩:=hrel;have Q7:=hr.le;have R0:=aa hr;have K0:=aa Q6;have HS:=aa hsk;clear hr Q6 hsk;obtain⟨m,hm⟩ :∃m:Nat,m=runN oR (aS s k1):=⟨_,rfl⟩;have C1:=aa (fun W=>wL (s.extract k1 s.size) W (by rw[aD s _ Q7];omega))
  rw[cR,←hm] at C1;have zq:=gZ oR (aS s k1);rw[fK,←hm] at zq;have hdw:(aS s k1).dropWhile oR=aS s (k1+m):=by rw[←pY,←hm,eJ]
  have HD:=aa hdw;clear hm hdw;cases uf:Lib.hasPrefix (aS s (k1+m)) [45,45]
  ·have P1:=aa (fun W=>lO (s.extract (k1+m) s.size) ⟨#[45,45]⟩ W false (by rw[cR];exact uf))
   have HP:=aa uf;clear uf;go_wp2_with fail
   refine(aA _ _ _ _ R0.out).mono ?_;rintro e w1 ⟨rfl,r1,UK⟩;have R1:=aa r1;have K1:=an K0 UK;clear r1 UK;go_wp2_with fail
   refine(C1.out _).mono ?_;rintro e Cl ⟨rfl,rfl⟩;go_wp2_with fail
   refine(bo _ _ _ _ _ R1.out (by omega)).mono ?_;rintro e w2 ⟨rfl,r2,k2⟩
   have R2:=aa r2;have K2:=an K1 k2;clear r2 k2;go_wp2_with fail
   refine(aA _ _ _ _ R2.out).mono ?_;rintro e w3 ⟨rfl,r3,k3⟩;have R3:=aa r3;have K3:=an K2 k3;clear r3 k3;go_wp2_with fail
   refine(P1.out _).mono ?_;rintro e w3' ⟨rfl,rfl⟩;go_wp2_with fail
   go_ret
   exact⟨K3.out,.inl ⟨_,rfl,R3.out,by omega,HS.out _ (.done HD.out HP.out)⟩⟩
  ·have P1:=aa (fun W=>lO (s.extract (k1+m) s.size) ⟨#[45,45]⟩ W true (by rw[cR];exact uf))
   have h2:=KZ uf;rw[eJ] at h2;have hroom:k1+m+2≤s.size:=by
    have:=ax List.length h2;rw[fK,List.length_cons,List.length_cons] at this;omega
   have HP:=aa h2;clear uf h2;have CM:=aa (fun W h=>Aj b s (k1+m) W h hroom)
   cases hcm:comm (aS s (k1+m+2)) with
   | none =>
    rw[hcm] at CM;have HCM:=aa hcm;clear hcm;go_wp2_with fail
    refine(aA _ _ _ _ R0.out).mono ?_;rintro e w1 ⟨rfl,r1,UK⟩;have R1:=aa r1;have K1:=an K0 UK;clear r1 UK;go_wp2_with fail
    refine(C1.out _).mono ?_;rintro e Cl ⟨rfl,rfl⟩;go_wp2_with fail
    refine(bo _ _ _ _ _ R1.out (by omega)).mono ?_;rintro e w2 ⟨rfl,r2,k2⟩
    have R2:=aa r2;have K2:=an K1 k2;clear r2 k2;go_wp2_with fail
    refine(aA _ _ _ _ R2.out).mono ?_;rintro e w3 ⟨rfl,r3,k3⟩;have R3:=aa r3;have K3:=an K2 k3;clear r3 k3;go_wp2_with fail
    refine(P1.out _).mono ?_;rintro e w3' ⟨rfl,rfl⟩;have c2:=R3.out.c2;rw[jj] at c2;generalize EB:cY s-(nl (aS s (k1+m)):Int)=line at c2;have HL:=aa EB;clear EB;go_wp2_with fail
    clear c2;refine(CM.out _ R3.out).mono ?_;intro e w4 fR;obtain⟨rfl,k4⟩:=fR.nX;have K4:=an K3 k4;clear fR k4;go_wp2_with fail
    refine(kN _ _).mono ?_;rintro e w5 ⟨rfl,rfl⟩;go_wp2_with fail
    go_ret
    refine⟨K4.out.alloc _,.inr ⟨_,_,rfl,?_,HS.out _ (.bad (HD.out.trans HP.out) HCM.out)⟩⟩;rw[←HP.out,HL.out];exact Am.new _ _
   | some r' =>
    rw[hcm] at CM;have HCM:=aa hcm;clear hcm;go_wp2_with fail
    refine(aA _ _ _ _ R0.out).mono ?_;rintro e w1 ⟨rfl,r1,UK⟩;have R1:=aa r1;have K1:=an K0 UK;clear r1 UK;go_wp2_with fail
    refine(C1.out _).mono ?_;rintro e Cl ⟨rfl,rfl⟩;go_wp2_with fail
    refine(bo _ _ _ _ _ R1.out (by omega)).mono ?_;rintro e w2 ⟨rfl,r2,k2⟩
    have R2:=aa r2;have K2:=an K1 k2;clear r2 k2;go_wp2_with fail
    refine(aA _ _ _ _ R2.out).mono ?_;rintro e w3 ⟨rfl,r3,k3⟩;have R3:=aa r3;have K3:=an K2 k3;clear r3 k3;go_wp2_with fail
    refine(P1.out _).mono ?_;rintro e w3' ⟨rfl,rfl⟩;have c2:=R3.out.c2;rw[jj] at c2;generalize EB:cY s-(nl (aS s (k1+m)):Int)=line at c2;clear EB;go_wp2_with fail
    clear c2;refine(CM.out _ R3.out).mono ?_;intro e w4 fR;obtain⟨k',rfl,r4,hr4,hlt,k4⟩:=fR.nW;have R4:=aa r4;have K4:=an K3 k4;have HE:=aa hr4;clear fR k4 r4 hr4;go_wp2_with fail
    go_roundg (s.size-k')
    case measure=>have:=R4.out.le;omega
    case rel=>exact⟨k',R4.out,ah _,K4.out,by omega,fun o ho=>HS.out o (.more (HD.out.trans HP.out) HCM.out (HE.out▸ho))⟩
theorem Ao {b:Nat} {l:List UInt8} (h:iH b l=true) {c:UInt8} (hc:c∈l):oQ c.toNat<b:=by
 unfold iH at h;rw[List.all_eq_true] at h;simpa using h c hc
theorem La {p:UInt8→Bool} (a b:List UInt8) (h :∀c∈a,p c=true):(a++b).dropWhile p=b.dropWhile p:=by
 induction a with
 | nil=>rfl
 | cons c t ih =>
  rw[gU,List.dropWhile,h c (by simp)]
  exact ih fun x hx=>h x (by simp[hx])
theorem ED {p:UInt8→Bool} (a b:List UInt8) (ha:a≠[]) (h :∀c∈a,p c=false):(a++b).dropWhile p=a++b:=by
 cases a with
 | nil=>exact absurd rfl ha
 | cons c t=>rw[gU,List.dropWhile,h c (by simp)]
theorem Q8 (p x q:List UInt8) (hp :∀c∈p,yb c.toNat=true) (hq :∀c∈q,yb c.toNat=true) (hx :∀c∈x,yb c.toNat=false) (hn:x≠[]):Ev (p++x++q)=x:=by
 rw[←wF];unfold Lib.trimLeftS Lib.trimRightS;have e1:List.dropWhile (fun y=>blanks.contains y) (p++x++q)=x++q:=by
  rw[fe,La p (x++q) (fun c hc=>by rw[lL];exact hp c hc),ED x q hn (fun c hc=>by rw[lL];exact hx c hc)]
 rw[e1,List.reverse_append,La q.reverse x.reverse (fun c hc=>by rw[lL];exact hq c (by simpa using hc))]
 have e2:=ED (p:=fun y=>blanks.contains y) x.reverse [] (by simpa using hn) (fun c hc=>by rw[lL];exact hx c (by simpa using hc))
 rw[jW] at e2;rw[e2,List.reverse_reverse]
theorem wM {b:Nat} {l d:List UInt8} (h2:2≤b) (h36:b≤36) (ht:Ev l=d) (h:yc d=false):kK b l=wG (CD b d:Int)∧pW b l=sS b d:=by
 unfold kK pW;have e:Lib.trimPrefix d [45]=d:=by unfold Lib.trimPrefix;unfold yc at h;rw[h,af (by decide)]
 have hb:2≤(b:Int)∧(b:Int)≤36:=by omega
 have hm:¬ yc d=true:=by rw[h];decide
 rw[ht,ak hb,ak hb,af hm,e,iF];exact⟨rfl,rfl⟩
theorem Ww {n:Int} (h0:-9223372036854775808≤n) (h1:n≤9223372036854775807):wG n=n:=by unfold wG;omega
theorem GM (b:Nat) (l:List UInt8) :∀n:Nat,l.foldl (fun n c=>n*b+oQ c.toNat) n=n*b ^ l.length+val b l:=by
 induction l with
 | nil=>intro n;simp[val]
 | cons c t ih =>
  intro n;have e:val b (c::t)=oQ c.toNat*b ^ t.length+val b t:=by
   show t.foldl _ (0*b+oQ c.toNat)=_
   rw[ih];simp
  rw[List.foldl_cons,ih,e,List.length_cons,Ek,Eo,Nat.mul_assoc,El b,r9]
theorem Lb (b:Nat) (c:UInt8) (l:List UInt8):val b (c::l)=oQ c.toNat*b ^ l.length+val b l:=by
 show l.foldl _ (0*b+oQ c.toNat)=_
 rw[GM];simp
theorem Lc {b:Nat} (hb:b≤36) {l:List UInt8} (h:iH b l=true) :∀c∈l,yb c.toNat=false:=by
 intro c hc;have:=Ao h hc;unfold yb;rw[Bool.or_eq_false_iff,zE,zE];unfold oQ at this;split at this
 ·omega
 ·split at this
  ·omega
  ·split at this<;>omega
theorem Wx {b:Nat} (hb:b≤36) {l:List UInt8} (h:iH b l=true) (t:List UInt8) (hl:l≠[]):yc (l++t)=false:=by
 cases l with
 | nil=>exact absurd rfl hl
 | cons c r =>
  have h1:=Ao h (c:=c) (by simp)
  have hne:((45:UInt8) == c)=false:=by
   rw[aE];rintro rfl;have:oQ (45:UInt8).toNat=36:=by decide
   omega
  simp[yc,Lib.hasPrefix,List.isPrefixOf,hne]
theorem Wy {x:List UInt8} (hx :∀c∈x,yb c.toNat=false) (hn:x≠[]):Ev x=x:=by
 have:=Q8 [] x [] (fun c hc=>by cases hc) (fun c hc=>by cases hc) hx hn
 simpa using this
def Bts (W:World) (v:Value) (m:List UInt8):Prop :=
 (v=.slice none 0 0∧m=[])∨(∃g x,m=[x]∧v=.slice (some ⟨g,0,none⟩) 1 1∧W.cell? ⟨g,0,none⟩=some (.int .u8 (x.toNat:Int)))
def bK (b:Nat) (s:ByteArray) (k:Nat) (w:World) (o:Option (List UInt8×List UInt8)) (e:Ending) (w':World):Prop :=
 Kp b w w'∧match o with
  | some (m,r)=>∃k' v,e=.returned (.tuple #[v,.bool true])∧Bts w' v m∧Rd w' b s k'∧aS s k'=r∧k≤k'
  | none=>e=.returned (.tuple #[.slice none 0 0,.bool false])
theorem ug {b:Nat} (hb:2≤b) (hb':b≤36) {d:List UInt8} (hd:iH b d=true) (hl:d.length≤3):0≤kK b d:=by
 by_cases h0:d=[]
 ·subst h0
  have:=(wM (l:=[]) (d:=[]) hb hb' rfl rfl).1;rw[this];rw[ya rfl];decide
 ·have ht:=Wy (Lc hb' hd) h0
  have hm:yc d=false:=by have:=Wx hb' hd [] h0;rwa[jW] at this
  rw[(wM hb hb' ht hm).1,CE (Ey h0 hd)];have hv:val b d<46657:=by
   have:val b d≤b ^ d.length:=by
    have h2 :∀(l:List UInt8),iH b l=true→val b l+1≤b ^ l.length:=by
     intro l;induction l with
     | nil=>intro _;simp[val]
     | cons c t ih =>
      intro h;simp only[iH,rZ,cX,iE] at h;rw[Lb,List.length_cons,Ek];have i:=ih h.2;have h4:(oQ c.toNat+1)*b ^ t.length≤b*b ^ t.length:=Ea _ (by omega)
      rw[Eo,Ep] at h4;rw[El (b ^ t.length) b];omega
    have:=h2 d hd;omega
   have h3:b ^ d.length≤36 ^ 3:=aK (Nat.pow_le_pow_left hb' _) (Kc (by omega) hl)
   have h4:(36:Nat) ^ 3=46656:=by decide
   omega
  rw[Ww (by omega) (by omega)]
  omega
theorem GO {p:UInt8→Bool} (l:List UInt8) (n:Nat) :∀c∈l.take (min n (runN p l)),p c=true:=by
 intro c hc;have h1:c∈l.take (runN p l):=(List.take_subset_take_left l (Nat.min_le_right n (runN p l))) hc;rw[pX] at h1;exact List.all_eq_true.1 List.all_takeWhile c h1
theorem Wz :∀c:UInt8,zo c=true→oQ c.toNat<16:=CF (by decide +kernel)
theorem WA :∀c:UInt8,fQ c=true→oQ c.toNat<10:=CF (by decide +kernel)
theorem wN {p:UInt8→Bool} {b:Nat} (h :∀c:UInt8,p c=true→oQ c.toNat<b) (l:List UInt8) (n:Nat):iH b (l.take (min n (runN p l)))=true:=by
 unfold iH;rw[List.all_eq_true];intro c hc;exact bM (h c (GO l n c hc))
theorem dD (w:World) (x:Int) (u:UInt8) (h:x=(u.toNat:Int)):Bts (w.alloc (.cells #[.int .u8 x] 5)) (.slice (some ⟨w.heap.size,0,none⟩) 1 1) [u]:=by
 refine .inr ⟨_,u,rfl,rfl,?_⟩;rw[←h];unfold World.cell?;rw[World.alloc_heap_new];rfl
theorem UL {n:Int} (h0:0≤n) (h1:n≤255):n=((UInt8.ofNat n.toNat).toNat:Int):=by
 rw[UInt8.toNat_ofNat',Nat.mod_eq_of_lt (by omega)]
 omega
theorem Ld (b:Nat) (s:ByteArray) (k:Nat) (w:World) (h:Rd w b s k) :
  Calls Tryz.prog 172 #[.pointer (some ⟨b,0,none⟩),.int .i64 16,.func (.func 173) #[] #[],.int .i64 2,.int .i64 2] w (bK b s k w (code 16 zo 2 2 (aS s k))):=by
 have b9:=h.top;have hle:=h.le;have HR:=aa h;clear h;obtain⟨m,hm⟩ :∃m:Nat,m=runN zo (aS s k):=⟨_,rfl⟩;have C1:=aa (fun W=>Q0 (s.extract k s.size) W (by rw[aD s _ hle];omega))
 rw[cR,←hm] at C1;have zq:=gZ zo (aS s k);rw[fK,←hm] at zq;have hall:=wN (p:=zo) (b:=16) Wz (aS s k) 2;rw[←hm] at hall;obtain⟨c,hc⟩ :∃c:Nat,c=min 2 m:=⟨_,rfl⟩;have hT :∀W,Rd W b s k→Calls Tryz.prog 67 #[.pointer (some ⟨b,0,none⟩),.int .i64 (min 2 (m:Int))] W fun e w'=>e=.returned (.string (s.extract k (k+c)))∧Rd w' b s (k+c)∧Kp b W w':=fun W h=>by
  have:=bo b s k c W h (by omega)
  rwa[show(c:Int)=min 2 (m:Int) by omega] at this
 have p9:code 16 zo 2 2 (aS s k)=if pW 16 (s.extract k (k+c)).data.toList=true∧2≤c∧kK 16 (s.extract k (k+c)).data.toList≤255 then some ([UInt8.ofNat (kK 16 (s.extract k (k+c)).data.toList).toNat],aS s (k+c)) else none:=by
  unfold code;rw[←hm,←hc,←eK,eJ]
 rw[←hc,←eK] at hall;have mz:=ug (b:=16) (by decide) (by decide) hall (by rw[eK,oL];omega)
 have WB:(s.extract k (k+c)).size=c:=by rw[tH];omega
 obtain⟨D,hD⟩ :∃D:ByteArray,D=s.extract k (k+c):=⟨_,rfl⟩;rw[←hD] at hT p9 mz WB;have C2:=aa hT;have C3:=aa (fun W=>UJ D 16 W (by omega))
 obtain⟨N,hN⟩ :∃N:Int,N=kK 16 D.data.toList:=⟨_,rfl⟩;obtain⟨o,ho⟩ :∃o:Bool,o=pW 16 D.data.toList:=⟨_,rfl⟩;rw[show((16:Nat):Int)=(16:Int) from rfl] at mz
 rw[←hN] at mz;rw[←hN,←ho] at C3 p9;have HC:=aa p9;clear hm hall hT p9 hD hN ho;have Ap:o=false∨(o=true∧D.size<2)∨(o=true∧2≤D.size∧255<N)∨(o=true∧2≤D.size∧N≤255):=by
  cases o
  ·exact .inl rfl
  ·right
   by_cases h1:D.size<2
   ·exact .inl ⟨rfl,h1⟩
   ·right
    by_cases h2:255<N
    ·exact .inl ⟨rfl,by omega,h2⟩
    ·exact .inr ⟨rfl,by omega,by omega⟩
 rcases Ap with rfl | ⟨rfl,h1⟩ | ⟨rfl,h1,h2⟩ | ⟨rfl,h1,h2⟩;all_goals have HDs:=aa WB
 all_goals have HCm:=aa hc
 all_goals clear WB hc
 ·go_enter Tryz.func172,Tryz.ntmps172
  go_wp2_with fail
  refine(aA _ _ _ _ HR.out).mono ?_;rintro e w1 ⟨rfl,r1,k1⟩;have R1:=aa r1;have K1:=aa k1;clear r1 k1;go_wp2_with fail
  refine(C1.out _).mono ?_;rintro e Cl ⟨rfl,rfl⟩;go_wp2_with fail
  refine(C2.out _ R1.out).mono ?_;rintro e w2 ⟨rfl,r2,k2⟩;have R2:=aa r2;have K2:=an K1 k2;clear r2 k2;go_wp2_with fail
  refine(C3.out _).mono ?_;rintro e w3 ⟨rfl,b3⟩;have K3:=an K2 (Kp.ae b3);clear b3;go_wp2_with fail
  go_ret2
  refine⟨K3.out,?_⟩;rw[HC.out,af (by simp)]
  rfl
 ·have g1:decide (D.size<2)=true:=bM h1
  go_enter Tryz.func172,Tryz.ntmps172
  go_wp2_with fail
  refine(aA _ _ _ _ HR.out).mono ?_;rintro e w1 ⟨rfl,r1,k1⟩;have R1:=aa r1;have K1:=aa k1;clear r1 k1;go_wp2_with fail
  refine(C1.out _).mono ?_;rintro e Cl ⟨rfl,rfl⟩;go_wp2_with fail
  refine(C2.out _ R1.out).mono ?_;rintro e w2 ⟨rfl,r2,k2⟩;have R2:=aa r2;have K2:=an K1 k2;clear r2 k2;go_wp2_with fail
  refine(C3.out _).mono ?_;rintro e w3 ⟨rfl,b3⟩;have K3:=an K2 (Kp.ae b3);clear b3;go_wp2_with fail
  go_ret2
  refine⟨K3.out,?_⟩;rw[HC.out,af (by have:=HDs.out;omega)]
  rfl
 ·have g1:decide (D.size<2)=false:=bL (by omega)
  have g2:decide (255<N)=true:=bM h2;go_enter Tryz.func172,Tryz.ntmps172
  go_wp2_with fail
  refine(aA _ _ _ _ HR.out).mono ?_;rintro e w1 ⟨rfl,r1,k1⟩;have R1:=aa r1;have K1:=aa k1;clear r1 k1;go_wp2_with fail
  refine(C1.out _).mono ?_;rintro e Cl ⟨rfl,rfl⟩;go_wp2_with fail
  refine(C2.out _ R1.out).mono ?_;rintro e w2 ⟨rfl,r2,k2⟩;have R2:=aa r2;have K2:=an K1 k2;clear r2 k2;go_wp2_with fail
  refine(C3.out _).mono ?_;rintro e w3 ⟨rfl,b3⟩;have K3:=an K2 (Kp.ae b3);clear b3;go_wp2_with fail
  go_ret2
  refine⟨K3.out,?_⟩;rw[HC.out,af (by omega)]
  rfl
 ·have g1:decide (D.size<2)=false:=bL (by omega)
  have g2:decide (255<N)=false:=bL (by omega)
  go_enter Tryz.func172,Tryz.ntmps172
  go_wp2_with fail
  refine(aA _ _ _ _ HR.out).mono ?_;rintro e w1 ⟨rfl,r1,k1⟩;have R1:=aa r1;have K1:=aa k1;clear r1 k1;go_wp2_with fail
  refine(C1.out _).mono ?_;rintro e Cl ⟨rfl,rfl⟩;go_wp2_with fail
  refine(C2.out _ R1.out).mono ?_;rintro e w2 ⟨rfl,r2,k2⟩;have R2:=aa r2;have K2:=an K1 k2;clear r2 k2;go_wp2_with fail
  refine(C3.out _).mono ?_;rintro e w3 ⟨rfl,b3⟩;have R3:=aa (R2.out.below b3);have K3:=an K2 (Kp.ae b3);clear b3;go_wp2_with fail
  go_ret2
  refine⟨K3.out.alloc _,?_⟩;rw[HC.out,ak ⟨by trivial,by have:=HDs.out;omega,h2⟩]
  exact⟨_,_,rfl,dD _ _ _ (UL mz h2),R3.out.alloc _,rfl,by omega⟩
theorem dH (b:Nat) (s:ByteArray) (k:Nat) (w:World) (h:Rd w b s k) :
  Calls Tryz.prog 172 #[.pointer (some ⟨b,0,none⟩),.int .i64 10,.func (.func 75) #[] #[],.int .i64 1,.int .i64 3] w (bK b s k w (code 10 fQ 1 3 (aS s k))):=by
 have b9:=h.top;have hle:=h.le;have HR:=aa h;clear h;obtain⟨m,hm⟩ :∃m:Nat,m=runN fQ (aS s k):=⟨_,rfl⟩;have C1:=aa (fun W=>GK (s.extract k s.size) W (by rw[aD s _ hle];omega))
 rw[cR,←hm] at C1;have zq:=gZ fQ (aS s k);rw[fK,←hm] at zq;have hall:=wN (p:=fQ) (b:=10) WA (aS s k) 3;rw[←hm] at hall;obtain⟨c,hc⟩ :∃c:Nat,c=min 3 m:=⟨_,rfl⟩;have hT :∀W,Rd W b s k→Calls Tryz.prog 67 #[.pointer (some ⟨b,0,none⟩),.int .i64 (min 3 (m:Int))] W fun e w'=>e=.returned (.string (s.extract k (k+c)))∧Rd w' b s (k+c)∧Kp b W w':=fun W h=>by
  have:=bo b s k c W h (by omega)
  rwa[show(c:Int)=min 3 (m:Int) by omega] at this
 have p9:code 10 fQ 1 3 (aS s k)=if pW 10 (s.extract k (k+c)).data.toList=true∧1≤c∧kK 10 (s.extract k (k+c)).data.toList≤255 then some ([UInt8.ofNat (kK 10 (s.extract k (k+c)).data.toList).toNat],aS s (k+c)) else none:=by
  unfold code;rw[←hm,←hc,←eK,eJ]
 rw[←hc,←eK] at hall;have mz:=ug (b:=10) (by decide) (by decide) hall (by rw[eK,oL];omega)
 have WB:(s.extract k (k+c)).size=c:=by rw[tH];omega
 obtain⟨D,hD⟩ :∃D:ByteArray,D=s.extract k (k+c):=⟨_,rfl⟩;rw[←hD] at hT p9 mz WB;have C2:=aa hT;have C3:=aa (fun W=>UJ D 10 W (by omega))
 obtain⟨N,hN⟩ :∃N:Int,N=kK 10 D.data.toList:=⟨_,rfl⟩;obtain⟨o,ho⟩ :∃o:Bool,o=pW 10 D.data.toList:=⟨_,rfl⟩;rw[show((10:Nat):Int)=(10:Int) from rfl] at mz
 rw[←hN] at mz;rw[←hN,←ho] at C3 p9;have HC:=aa p9;clear hm hall hT p9 hD hN ho;have Ap:o=false∨(o=true∧D.size<1)∨(o=true∧1≤D.size∧255<N)∨(o=true∧1≤D.size∧N≤255):=by
  cases o
  ·exact .inl rfl
  ·right
   by_cases h1:D.size<1
   ·exact .inl ⟨rfl,h1⟩
   ·right
    by_cases h2:255<N
    ·exact .inl ⟨rfl,by omega,h2⟩
    ·exact .inr ⟨rfl,by omega,by omega⟩
 rcases Ap with rfl | ⟨rfl,h1⟩ | ⟨rfl,h1,h2⟩ | ⟨rfl,h1,h2⟩;all_goals have HDs:=aa WB
 all_goals have HCm:=aa hc
 all_goals clear WB hc
 ·go_enter Tryz.func172,Tryz.ntmps172
  go_wp2_with fail
  refine(aA _ _ _ _ HR.out).mono ?_;rintro e w1 ⟨rfl,r1,k1⟩;have R1:=aa r1;have K1:=aa k1;clear r1 k1;go_wp2_with fail
  refine(C1.out _).mono ?_;rintro e Cl ⟨rfl,rfl⟩;go_wp2_with fail
  refine(C2.out _ R1.out).mono ?_;rintro e w2 ⟨rfl,r2,k2⟩;have R2:=aa r2;have K2:=an K1 k2;clear r2 k2;go_wp2_with fail
  refine(C3.out _).mono ?_;rintro e w3 ⟨rfl,b3⟩;have K3:=an K2 (Kp.ae b3);clear b3;go_wp2_with fail
  go_ret2
  refine⟨K3.out,?_⟩;rw[HC.out,af (by simp)]
  rfl
 ·have g1:decide (D.size<1)=true:=bM h1
  go_enter Tryz.func172,Tryz.ntmps172
  go_wp2_with fail
  refine(aA _ _ _ _ HR.out).mono ?_;rintro e w1 ⟨rfl,r1,k1⟩;have R1:=aa r1;have K1:=aa k1;clear r1 k1;go_wp2_with fail
  refine(C1.out _).mono ?_;rintro e Cl ⟨rfl,rfl⟩;go_wp2_with fail
  refine(C2.out _ R1.out).mono ?_;rintro e w2 ⟨rfl,r2,k2⟩;have R2:=aa r2;have K2:=an K1 k2;clear r2 k2;go_wp2_with fail
  refine(C3.out _).mono ?_;rintro e w3 ⟨rfl,b3⟩;have K3:=an K2 (Kp.ae b3);clear b3;go_wp2_with fail
  go_ret2
  refine⟨K3.out,?_⟩;rw[HC.out,af (by have:=HDs.out;omega)]
  rfl
 ·have g1:decide (D.size<1)=false:=bL (by omega)
  have g2:decide (255<N)=true:=bM h2;go_enter Tryz.func172,Tryz.ntmps172
  go_wp2_with fail
  refine(aA _ _ _ _ HR.out).mono ?_;rintro e w1 ⟨rfl,r1,k1⟩;have R1:=aa r1;have K1:=aa k1;clear r1 k1;go_wp2_with fail
  refine(C1.out _).mono ?_;rintro e Cl ⟨rfl,rfl⟩;go_wp2_with fail
  refine(C2.out _ R1.out).mono ?_;rintro e w2 ⟨rfl,r2,k2⟩;have R2:=aa r2;have K2:=an K1 k2;clear r2 k2;go_wp2_with fail
  refine(C3.out _).mono ?_;rintro e w3 ⟨rfl,b3⟩;have K3:=an K2 (Kp.ae b3);clear b3;go_wp2_with fail
  go_ret2
  refine⟨K3.out,?_⟩;rw[HC.out,af (by omega)]
  rfl
 ·have g1:decide (D.size<1)=false:=bL (by omega)
  have g2:decide (255<N)=false:=bL (by omega)
  go_enter Tryz.func172,Tryz.ntmps172
  go_wp2_with fail
  refine(aA _ _ _ _ HR.out).mono ?_;rintro e w1 ⟨rfl,r1,k1⟩;have R1:=aa r1;have K1:=aa k1;clear r1 k1;go_wp2_with fail
  refine(C1.out _).mono ?_;rintro e Cl ⟨rfl,rfl⟩;go_wp2_with fail
  refine(C2.out _ R1.out).mono ?_;rintro e w2 ⟨rfl,r2,k2⟩;have R2:=aa r2;have K2:=an K1 k2;clear r2 k2;go_wp2_with fail
  refine(C3.out _).mono ?_;rintro e w3 ⟨rfl,b3⟩;have R3:=aa (R2.out.below b3);have K3:=an K2 (Kp.ae b3);clear b3;go_wp2_with fail
  go_ret2
  refine⟨K3.out.alloc _,?_⟩;rw[HC.out,ak ⟨by trivial,by have:=HDs.out;omega,h2⟩]
  exact⟨_,_,rfl,dD _ _ _ (UL mz h2),R3.out.alloc _,rfl,by omega⟩
theorem iJ (s:ByteArray) (k:Nat) (h:k<s.size):aS s k=s[k]::aS s (k+1):=by
 unfold aS;exact zC (l:=s.data.toList) (i:=k) (by simpa using h)
theorem aT (s:ByteArray) (k:Nat) (h:k<s.size) (h':0<(s.extract k s.size).size):(s.extract k s.size)[0]=s[k]:=by
 rw[ByteArray.getElem_extract];simp
theorem tj (s:ByteArray) (k:Nat) (h:s.size≤k):aS s k=[]:=J9 (by rw[←Lib.size_eq];exact h)
theorem bC (X:ByteArray) (h:0<X.size):X.toList.isEmpty=false:=by
 rw[Lib.toList_data];cases e:X.data.toList with
 | nil =>
  have:=Lib.size_eq X;rw[e,List.length_nil] at this;omega
 | cons=>rfl
theorem uh (X:ByteArray) (h:X.size=0):X.toList.isEmpty=true:=by
 rw[Lib.toList_data,pO (l:=X.data.toList) (by rw[←Lib.size_eq];exact h)]
 rfl
theorem Le (b:Nat) (s:ByteArray) (k:Nat) (w:World) (h:Rd w b s k) (hk:k=s.size):Calls Tryz.prog 137 #[.pointer (some ⟨b,0,none⟩)] w (bK b s k w (pM (aS s k))):=by
 rw[tj s k (by omega)]
 obtain⟨X,hX⟩ :∃X:ByteArray,X=s.extract k s.size:=⟨_,rfl⟩;have C1:=aa (fun W h=>aA b s k W h)
 rw[←hX] at C1;have ra:=uh X (by rw[hX,aD s k (by omega)];omega)
 have HR:=aa h;clear hX h;go_enter Tryz.func137,Tryz.ntmps137
 go_wp2_with fail
 refine(C1.out _ HR.out).mono ?_;rintro e w1 ⟨rfl,r1,k1⟩;have K1:=aa k1;clear r1 k1;go_wp2_with fail
 go_ret2
 exact⟨K1.out,rfl⟩
theorem WC (b:Nat) (s:ByteArray) (k:Nat) (w:World) (h:Rd w b s k) (hk:k<s.size) (hc:s[k]=97):Calls Tryz.prog 137 #[.pointer (some ⟨b,0,none⟩)] w (bK b s k w (some ([7],aS s (k+1)))):=by
 obtain⟨X,hX⟩ :∃X:ByteArray,X=s.extract k s.size:=⟨_,rfl⟩;have C1:=aa (fun W h=>aA b s k W h)
 have ew:0<X.size:=by rw[hX,aD s k (by omega)];omega
 have sr:X[0]=97:=by subst hX;rw[aT s k hk ew];exact hc
 rw[←hX] at C1;have ra:=bC X ew;have HR:=aa h;have I1:=aa (fun W=>eI ⟨#[97,98,102,110,114,116,118]⟩ 97 W)
 have T1:=aa (fun W h=>bo b s k 1 W h (by omega))
 clear hX h hc;go_enter Tryz.func137,Tryz.ntmps137
 go_wp2_with fail
 refine(C1.out _ HR.out).mono ?_;rintro e w1 ⟨rfl,r1,k1⟩;have R1:=aa r1;have K1:=aa k1;clear r1 k1;go_wp2_with fail
 refine(C1.out _ R1.out).mono ?_;rintro e w2 ⟨rfl,r2,k2⟩;have R2:=aa r2;have K2:=an K1 k2;clear r2 k2;go_wp2_with fail
 refine(I1.out _).mono ?_;rintro e KX ⟨rfl,rfl⟩;rw[show Lib.indexByte (⟨#[97,98,102,110,114,116,118]⟩:ByteArray).data.toList 97=0 from by decide]
 go_wp2_with fail
 refine(T1.out _ R2.out).mono ?_;rintro e w3 ⟨rfl,r3,k3⟩;have R3:=aa r3;have K3:=an K2 k3;clear r3 k3;go_wp2_with fail
 go_ret2
 exact⟨K3.out.alloc _,_,_,rfl,dD _ _ _ rfl,R3.out.alloc _,rfl,by omega⟩
theorem WD (b:Nat) (s:ByteArray) (k:Nat) (w:World) (h:Rd w b s k) (hk:k<s.size) (hc:s[k]=98):Calls Tryz.prog 137 #[.pointer (some ⟨b,0,none⟩)] w (bK b s k w (some ([8],aS s (k+1)))):=by
 obtain⟨X,hX⟩ :∃X:ByteArray,X=s.extract k s.size:=⟨_,rfl⟩;have C1:=aa (fun W h=>aA b s k W h)
 have ew:0<X.size:=by rw[hX,aD s k (by omega)];omega
 have sr:X[0]=98:=by subst hX;rw[aT s k hk ew];exact hc
 rw[←hX] at C1;have ra:=bC X ew;have HR:=aa h;have I1:=aa (fun W=>eI ⟨#[97,98,102,110,114,116,118]⟩ 98 W)
 have T1:=aa (fun W h=>bo b s k 1 W h (by omega))
 clear hX h hc;go_enter Tryz.func137,Tryz.ntmps137
 go_wp2_with fail
 refine(C1.out _ HR.out).mono ?_;rintro e w1 ⟨rfl,r1,k1⟩;have R1:=aa r1;have K1:=aa k1;clear r1 k1;go_wp2_with fail
 refine(C1.out _ R1.out).mono ?_;rintro e w2 ⟨rfl,r2,k2⟩;have R2:=aa r2;have K2:=an K1 k2;clear r2 k2;go_wp2_with fail
 refine(I1.out _).mono ?_;rintro e KX ⟨rfl,rfl⟩;rw[show Lib.indexByte (⟨#[97,98,102,110,114,116,118]⟩:ByteArray).data.toList 98=1 from by decide]
 go_wp2_with fail
 refine(T1.out _ R2.out).mono ?_;rintro e w3 ⟨rfl,r3,k3⟩;have R3:=aa r3;have K3:=an K2 k3;clear r3 k3;go_wp2_with fail
 go_ret2
 exact⟨K3.out.alloc _,_,_,rfl,dD _ _ _ rfl,R3.out.alloc _,rfl,by omega⟩
theorem Q9 (b:Nat) (s:ByteArray) (k:Nat) (w:World) (h:Rd w b s k) (hk:k<s.size) (hc:s[k]=102):Calls Tryz.prog 137 #[.pointer (some ⟨b,0,none⟩)] w (bK b s k w (some ([12],aS s (k+1)))):=by
 obtain⟨X,hX⟩ :∃X:ByteArray,X=s.extract k s.size:=⟨_,rfl⟩;have C1:=aa (fun W h=>aA b s k W h)
 have ew:0<X.size:=by rw[hX,aD s k (by omega)];omega
 have sr:X[0]=102:=by subst hX;rw[aT s k hk ew];exact hc
 rw[←hX] at C1;have ra:=bC X ew;have HR:=aa h;have I1:=aa (fun W=>eI ⟨#[97,98,102,110,114,116,118]⟩ 102 W)
 have T1:=aa (fun W h=>bo b s k 1 W h (by omega))
 clear hX h hc;go_enter Tryz.func137,Tryz.ntmps137
 go_wp2_with fail
 refine(C1.out _ HR.out).mono ?_;rintro e w1 ⟨rfl,r1,k1⟩;have R1:=aa r1;have K1:=aa k1;clear r1 k1;go_wp2_with fail
 refine(C1.out _ R1.out).mono ?_;rintro e w2 ⟨rfl,r2,k2⟩;have R2:=aa r2;have K2:=an K1 k2;clear r2 k2;go_wp2_with fail
 refine(I1.out _).mono ?_;rintro e KX ⟨rfl,rfl⟩;rw[show Lib.indexByte (⟨#[97,98,102,110,114,116,118]⟩:ByteArray).data.toList 102=2 from by decide]
 go_wp2_with fail
 refine(T1.out _ R2.out).mono ?_;rintro e w3 ⟨rfl,r3,k3⟩;have R3:=aa r3;have K3:=an K2 k3;clear r3 k3;go_wp2_with fail
 go_ret2
 exact⟨K3.out.alloc _,_,_,rfl,dD _ _ _ rfl,R3.out.alloc _,rfl,by omega⟩
theorem Ra (b:Nat) (s:ByteArray) (k:Nat) (w:World) (h:Rd w b s k) (hk:k<s.size) (hc:s[k]=110):Calls Tryz.prog 137 #[.pointer (some ⟨b,0,none⟩)] w (bK b s k w (some ([10],aS s (k+1)))):=by
 obtain⟨X,hX⟩ :∃X:ByteArray,X=s.extract k s.size:=⟨_,rfl⟩;have C1:=aa (fun W h=>aA b s k W h)
 have ew:0<X.size:=by rw[hX,aD s k (by omega)];omega
 have sr:X[0]=110:=by subst hX;rw[aT s k hk ew];exact hc
 rw[←hX] at C1;have ra:=bC X ew;have HR:=aa h;have I1:=aa (fun W=>eI ⟨#[97,98,102,110,114,116,118]⟩ 110 W)
 have T1:=aa (fun W h=>bo b s k 1 W h (by omega))
 clear hX h hc;go_enter Tryz.func137,Tryz.ntmps137
 go_wp2_with fail
 refine(C1.out _ HR.out).mono ?_;rintro e w1 ⟨rfl,r1,k1⟩;have R1:=aa r1;have K1:=aa k1;clear r1 k1;go_wp2_with fail
 refine(C1.out _ R1.out).mono ?_;rintro e w2 ⟨rfl,r2,k2⟩;have R2:=aa r2;have K2:=an K1 k2;clear r2 k2;go_wp2_with fail
 refine(I1.out _).mono ?_;rintro e KX ⟨rfl,rfl⟩;rw[show Lib.indexByte (⟨#[97,98,102,110,114,116,118]⟩:ByteArray).data.toList 110=3 from by decide]
 go_wp2_with fail
 refine(T1.out _ R2.out).mono ?_;rintro e w3 ⟨rfl,r3,k3⟩;have R3:=aa r3;have K3:=an K2 k3;clear r3 k3;go_wp2_with fail
 go_ret2
 exact⟨K3.out.alloc _,_,_,rfl,dD _ _ _ rfl,R3.out.alloc _,rfl,by omega⟩
theorem Rb (b:Nat) (s:ByteArray) (k:Nat) (w:World) (h:Rd w b s k) (hk:k<s.size) (hc:s[k]=114):Calls Tryz.prog 137 #[.pointer (some ⟨b,0,none⟩)] w (bK b s k w (some ([13],aS s (k+1)))):=by
 obtain⟨X,hX⟩ :∃X:ByteArray,X=s.extract k s.size:=⟨_,rfl⟩;have C1:=aa (fun W h=>aA b s k W h)
 have ew:0<X.size:=by rw[hX,aD s k (by omega)];omega
 have sr:X[0]=114:=by subst hX;rw[aT s k hk ew];exact hc
 rw[←hX] at C1;have ra:=bC X ew;have HR:=aa h;have I1:=aa (fun W=>eI ⟨#[97,98,102,110,114,116,118]⟩ 114 W)
 have T1:=aa (fun W h=>bo b s k 1 W h (by omega))
 clear hX h hc;go_enter Tryz.func137,Tryz.ntmps137
 go_wp2_with fail
 refine(C1.out _ HR.out).mono ?_;rintro e w1 ⟨rfl,r1,k1⟩;have R1:=aa r1;have K1:=aa k1;clear r1 k1;go_wp2_with fail
 refine(C1.out _ R1.out).mono ?_;rintro e w2 ⟨rfl,r2,k2⟩;have R2:=aa r2;have K2:=an K1 k2;clear r2 k2;go_wp2_with fail
 refine(I1.out _).mono ?_;rintro e KX ⟨rfl,rfl⟩;rw[show Lib.indexByte (⟨#[97,98,102,110,114,116,118]⟩:ByteArray).data.toList 114=4 from by decide]
 go_wp2_with fail
 refine(T1.out _ R2.out).mono ?_;rintro e w3 ⟨rfl,r3,k3⟩;have R3:=aa r3;have K3:=an K2 k3;clear r3 k3;go_wp2_with fail
 go_ret2
 exact⟨K3.out.alloc _,_,_,rfl,dD _ _ _ rfl,R3.out.alloc _,rfl,by omega⟩
theorem Rc (b:Nat) (s:ByteArray) (k:Nat) (w:World) (h:Rd w b s k) (hk:k<s.size) (hc:s[k]=116):Calls Tryz.prog 137 #[.pointer (some ⟨b,0,none⟩)] w (bK b s k w (some ([9],aS s (k+1)))):=by
 obtain⟨X,hX⟩ :∃X:ByteArray,X=s.extract k s.size:=⟨_,rfl⟩;have C1:=aa (fun W h=>aA b s k W h)
 have ew:0<X.size:=by rw[hX,aD s k (by omega)];omega
 have sr:X[0]=116:=by subst hX;rw[aT s k hk ew];exact hc
 rw[←hX] at C1;have ra:=bC X ew;have HR:=aa h;have I1:=aa (fun W=>eI ⟨#[97,98,102,110,114,116,118]⟩ 116 W)
 have T1:=aa (fun W h=>bo b s k 1 W h (by omega))
 clear hX h hc;go_enter Tryz.func137,Tryz.ntmps137
 go_wp2_with fail
 refine(C1.out _ HR.out).mono ?_;rintro e w1 ⟨rfl,r1,k1⟩;have R1:=aa r1;have K1:=aa k1;clear r1 k1;go_wp2_with fail
 refine(C1.out _ R1.out).mono ?_;rintro e w2 ⟨rfl,r2,k2⟩;have R2:=aa r2;have K2:=an K1 k2;clear r2 k2;go_wp2_with fail
 refine(I1.out _).mono ?_;rintro e KX ⟨rfl,rfl⟩;rw[show Lib.indexByte (⟨#[97,98,102,110,114,116,118]⟩:ByteArray).data.toList 116=5 from by decide]
 go_wp2_with fail
 refine(T1.out _ R2.out).mono ?_;rintro e w3 ⟨rfl,r3,k3⟩;have R3:=aa r3;have K3:=an K2 k3;clear r3 k3;go_wp2_with fail
 go_ret2
 exact⟨K3.out.alloc _,_,_,rfl,dD _ _ _ rfl,R3.out.alloc _,rfl,by omega⟩
theorem Re (b:Nat) (s:ByteArray) (k:Nat) (w:World) (h:Rd w b s k) (hk:k<s.size) (hc:s[k]=118):Calls Tryz.prog 137 #[.pointer (some ⟨b,0,none⟩)] w (bK b s k w (some ([11],aS s (k+1)))):=by
 obtain⟨X,hX⟩ :∃X:ByteArray,X=s.extract k s.size:=⟨_,rfl⟩;have C1:=aa (fun W h=>aA b s k W h)
 have ew:0<X.size:=by rw[hX,aD s k (by omega)];omega
 have sr:X[0]=118:=by subst hX;rw[aT s k hk ew];exact hc
 rw[←hX] at C1;have ra:=bC X ew;have HR:=aa h;have I1:=aa (fun W=>eI ⟨#[97,98,102,110,114,116,118]⟩ 118 W)
 have T1:=aa (fun W h=>bo b s k 1 W h (by omega))
 clear hX h hc;go_enter Tryz.func137,Tryz.ntmps137
 go_wp2_with fail
 refine(C1.out _ HR.out).mono ?_;rintro e w1 ⟨rfl,r1,k1⟩;have R1:=aa r1;have K1:=aa k1;clear r1 k1;go_wp2_with fail
 refine(C1.out _ R1.out).mono ?_;rintro e w2 ⟨rfl,r2,k2⟩;have R2:=aa r2;have K2:=an K1 k2;clear r2 k2;go_wp2_with fail
 refine(I1.out _).mono ?_;rintro e KX ⟨rfl,rfl⟩;rw[show Lib.indexByte (⟨#[97,98,102,110,114,116,118]⟩:ByteArray).data.toList 118=6 from by decide]
 go_wp2_with fail
 refine(T1.out _ R2.out).mono ?_;rintro e w3 ⟨rfl,r3,k3⟩;have R3:=aa r3;have K3:=an K2 k3;clear r3 k3;go_wp2_with fail
 go_ret2
 exact⟨K3.out.alloc _,_,_,rfl,dD _ _ _ rfl,R3.out.alloc _,rfl,by omega⟩
theorem WE (b:Nat) (s:ByteArray) (k:Nat) (w:World) (h:Rd w b s k) (hk:k<s.size) (hc:s[k]=92):Calls Tryz.prog 137 #[.pointer (some ⟨b,0,none⟩)] w (bK b s k w (some ([92],aS s (k+1)))):=by
 obtain⟨X,hX⟩ :∃X:ByteArray,X=s.extract k s.size:=⟨_,rfl⟩;have C1:=aa (fun W h=>aA b s k W h)
 have ew:0<X.size:=by rw[hX,aD s k (by omega)];omega
 have sr:X[0]=92:=by subst hX;rw[aT s k hk ew];exact hc
 rw[←hX] at C1;have ra:=bC X ew;have HR:=aa h;have T1:=aa (fun W h=>bo b s k 1 W h (by omega))
 clear hX h hc;go_enter Tryz.func137,Tryz.ntmps137
 go_wp2_with fail
 refine(C1.out _ HR.out).mono ?_;rintro e w1 ⟨rfl,r1,k1⟩;have R1:=aa r1;have K1:=aa k1;clear r1 k1;go_wp2_with fail
 refine(C1.out _ R1.out).mono ?_;rintro e w2 ⟨rfl,r2,k2⟩;have R2:=aa r2;have K2:=an K1 k2;clear r2 k2;go_wp2_with fail
 refine(T1.out _ R2.out).mono ?_;rintro e w3 ⟨rfl,r3,k3⟩;have R3:=aa r3;have K3:=an K2 k3;clear r3 k3;go_wp2_with fail
 go_ret2
 exact⟨K3.out.alloc _,_,_,rfl,dD _ _ _ rfl,R3.out.alloc _,rfl,by omega⟩
theorem WG (b:Nat) (s:ByteArray) (k:Nat) (w:World) (h:Rd w b s k) (hk:k<s.size) (hc:s[k]=39):Calls Tryz.prog 137 #[.pointer (some ⟨b,0,none⟩)] w (bK b s k w (some ([39],aS s (k+1)))):=by
 obtain⟨X,hX⟩ :∃X:ByteArray,X=s.extract k s.size:=⟨_,rfl⟩;have C1:=aa (fun W h=>aA b s k W h)
 have ew:0<X.size:=by rw[hX,aD s k (by omega)];omega
 have sr:X[0]=39:=by subst hX;rw[aT s k hk ew];exact hc
 rw[←hX] at C1;have ra:=bC X ew;have HR:=aa h;have T1:=aa (fun W h=>bo b s k 1 W h (by omega))
 clear hX h hc;go_enter Tryz.func137,Tryz.ntmps137
 go_wp2_with fail
 refine(C1.out _ HR.out).mono ?_;rintro e w1 ⟨rfl,r1,k1⟩;have R1:=aa r1;have K1:=aa k1;clear r1 k1;go_wp2_with fail
 refine(C1.out _ R1.out).mono ?_;rintro e w2 ⟨rfl,r2,k2⟩;have R2:=aa r2;have K2:=an K1 k2;clear r2 k2;go_wp2_with fail
 refine(T1.out _ R2.out).mono ?_;rintro e w3 ⟨rfl,r3,k3⟩;have R3:=aa r3;have K3:=an K2 k3;clear r3 k3;go_wp2_with fail
 go_ret2
 exact⟨K3.out.alloc _,_,_,rfl,dD _ _ _ rfl,R3.out.alloc _,rfl,by omega⟩
theorem WH (b:Nat) (s:ByteArray) (k:Nat) (w:World) (h:Rd w b s k) (hk:k<s.size) (hc:s[k]=34):Calls Tryz.prog 137 #[.pointer (some ⟨b,0,none⟩)] w (bK b s k w (some ([34],aS s (k+1)))):=by
 obtain⟨X,hX⟩ :∃X:ByteArray,X=s.extract k s.size:=⟨_,rfl⟩;have C1:=aa (fun W h=>aA b s k W h)
 have ew:0<X.size:=by rw[hX,aD s k (by omega)];omega
 have sr:X[0]=34:=by subst hX;rw[aT s k hk ew];exact hc
 rw[←hX] at C1;have ra:=bC X ew;have HR:=aa h;have T1:=aa (fun W h=>bo b s k 1 W h (by omega))
 clear hX h hc;go_enter Tryz.func137,Tryz.ntmps137
 go_wp2_with fail
 refine(C1.out _ HR.out).mono ?_;rintro e w1 ⟨rfl,r1,k1⟩;have R1:=aa r1;have K1:=aa k1;clear r1 k1;go_wp2_with fail
 refine(C1.out _ R1.out).mono ?_;rintro e w2 ⟨rfl,r2,k2⟩;have R2:=aa r2;have K2:=an K1 k2;clear r2 k2;go_wp2_with fail
 refine(T1.out _ R2.out).mono ?_;rintro e w3 ⟨rfl,r3,k3⟩;have R3:=aa r3;have K3:=an K2 k3;clear r3 k3;go_wp2_with fail
 go_ret2
 exact⟨K3.out.alloc _,_,_,rfl,dD _ _ _ rfl,R3.out.alloc _,rfl,by omega⟩
theorem WI (b:Nat) (s:ByteArray) (k:Nat) (w:World) (h:Rd w b s k) (hk:k<s.size) (hc:s[k]=10):Calls Tryz.prog 137 #[.pointer (some ⟨b,0,none⟩)] w (bK b s k w (some ([10],aS s (k+1)))):=by
 obtain⟨X,hX⟩ :∃X:ByteArray,X=s.extract k s.size:=⟨_,rfl⟩;have C1:=aa (fun W h=>aA b s k W h)
 have ew:0<X.size:=by rw[hX,aD s k (by omega)];omega
 have sr:X[0]=10:=by subst hX;rw[aT s k hk ew];exact hc
 rw[←hX] at C1;have ra:=bC X ew;have HR:=aa h;have T1:=aa (fun W h=>bo b s k 1 W h (by omega))
 clear hX h hc;go_enter Tryz.func137,Tryz.ntmps137
 go_wp2_with fail
 refine(C1.out _ HR.out).mono ?_;rintro e w1 ⟨rfl,r1,k1⟩;have R1:=aa r1;have K1:=aa k1;clear r1 k1;go_wp2_with fail
 refine(C1.out _ R1.out).mono ?_;rintro e w2 ⟨rfl,r2,k2⟩;have R2:=aa r2;have K2:=an K1 k2;clear r2 k2;go_wp2_with fail
 refine(T1.out _ R2.out).mono ?_;rintro e w3 ⟨rfl,r3,k3⟩;have R3:=aa r3;have K3:=an K2 k3;clear r3 k3;go_wp2_with fail
 go_ret2
 exact⟨K3.out.alloc _,_,_,rfl,dD _ _ _ rfl,R3.out.alloc _,rfl,by omega⟩
theorem Rf (b:Nat) (s:ByteArray) (k:Nat) (w:World) (h:Rd w b s k) (hk:k<s.size) (hc:s[k]=122):Calls Tryz.prog 137 #[.pointer (some ⟨b,0,none⟩)] w (bK b s k w (some ([],(aS s (k+1)).dropWhile oR))):=by
 obtain⟨X,hX⟩ :∃X:ByteArray,X=s.extract k s.size:=⟨_,rfl⟩;have C1:=aa (fun W h=>aA b s k W h)
 have ew:0<X.size:=by rw[hX,aD s k (by omega)];omega
 have sr:X[0]=122:=by subst hX;rw[aT s k hk ew];exact hc
 rw[←hX] at C1;have ra:=bC X ew;have HR:=aa h;have T1:=aa (fun W h=>bo b s k 1 W h (by omega))
 obtain⟨m,hm⟩ :∃m:Nat,m=runN oR (aS s (k+1)):=⟨_,rfl⟩;have C2:=aa (fun W=>wL (s.extract (k+1) s.size) W (by rw[aD s _ (by omega)];have:=h.top;omega))
 rw[cR,←hm] at C2;have zq:=gZ oR (aS s (k+1));rw[fK,←hm] at zq;have hdw:(aS s (k+1)).dropWhile oR=aS s (k+1+m):=by rw[←pY,←hm,eJ]
 have HD:=aa hdw;clear hX h hc hm hdw;go_enter Tryz.func137,Tryz.ntmps137
 go_wp2_with fail
 refine(C1.out _ HR.out).mono ?_;rintro e w1 ⟨rfl,r1,k1⟩;have R1:=aa r1;have K1:=aa k1;clear r1 k1;go_wp2_with fail
 refine(C1.out _ R1.out).mono ?_;rintro e w2 ⟨rfl,r2,k2⟩;have R2:=aa r2;have K2:=an K1 k2;clear r2 k2;go_wp2_with fail
 refine(T1.out _ R2.out).mono ?_;rintro e w3 ⟨rfl,r3,k3⟩;have R3:=aa r3;have K3:=an K2 k3;clear r3 k3;go_wp2_with fail
 refine(aA _ _ _ _ R3.out).mono ?_;rintro e w4 ⟨rfl,r4,k4⟩;have R4:=aa r4;have K4:=an K3 k4;clear r4 k4;go_wp2_with fail
 refine(C2.out _).mono ?_;rintro e w4' ⟨rfl,rfl⟩;go_wp2_with fail
 refine(bo _ _ _ _ _ R4.out (by omega)).mono ?_;rintro e w5 ⟨rfl,r5,k5⟩
 have R5:=aa r5;have K5:=an K4 k5;clear r5 k5;go_wp2_with fail
 go_ret2
 exact⟨K5.out,_,_,rfl,.inl ⟨rfl,rfl⟩,R5.out,HD.out.symm,by omega⟩
theorem Rg (b:Nat) (s:ByteArray) (k:Nat) (w:World) (h:Rd w b s k) (hk:k<s.size) (hc:s[k]=120):Calls Tryz.prog 137 #[.pointer (some ⟨b,0,none⟩)] w (bK b s k w (code 16 zo 2 2 (aS s (k+1)))):=by
 obtain⟨X,hX⟩ :∃X:ByteArray,X=s.extract k s.size:=⟨_,rfl⟩;have C1:=aa (fun W h=>aA b s k W h)
 have ew:0<X.size:=by rw[hX,aD s k (by omega)];omega
 have sr:X[0]=120:=by subst hX;rw[aT s k hk ew];exact hc
 rw[←hX] at C1;have ra:=bC X ew;have HR:=aa h;have T1:=aa (fun W h=>bo b s k 1 W h (by omega))
 have C2:=aa (fun W h=>Ld b s (k+1) W h)
 obtain⟨o,ho⟩ :∃o,o=code 16 zo 2 2 (aS s (k+1)):=⟨_,rfl⟩;rw[←ho] at C2 ⊢;clear hX h hc ho;rcases o with _ | ⟨m,r⟩
 ·go_enter Tryz.func137,Tryz.ntmps137
  go_wp2_with fail
  refine(C1.out _ HR.out).mono ?_;rintro e w1 ⟨rfl,r1,k1⟩;have R1:=aa r1;have K1:=aa k1;clear r1 k1;go_wp2_with fail
  refine(C1.out _ R1.out).mono ?_;rintro e w2 ⟨rfl,r2,k2⟩;have R2:=aa r2;have K2:=an K1 k2;clear r2 k2;go_wp2_with fail
  refine(T1.out _ R2.out).mono ?_;rintro e w3 ⟨rfl,r3,k3⟩;have R3:=aa r3;have K3:=an K2 k3;clear r3 k3;go_wp2_with fail
  refine(C2.out _ R3.out).mono ?_;intro e w4 fR;obtain⟨k4,rfl⟩:=fR;have K4:=an K3 k4;clear k4;go_wp2_with fail
  go_ret2
  exact⟨K4.out,rfl⟩
 ·go_enter Tryz.func137,Tryz.ntmps137
  go_wp2_with fail
  refine(C1.out _ HR.out).mono ?_;rintro e w1 ⟨rfl,r1,k1⟩;have R1:=aa r1;have K1:=aa k1;clear r1 k1;go_wp2_with fail
  refine(C1.out _ R1.out).mono ?_;rintro e w2 ⟨rfl,r2,k2⟩;have R2:=aa r2;have K2:=an K1 k2;clear r2 k2;go_wp2_with fail
  refine(T1.out _ R2.out).mono ?_;rintro e w3 ⟨rfl,r3,k3⟩;have R3:=aa r3;have K3:=an K2 k3;clear r3 k3;go_wp2_with fail
  refine(C2.out _ R3.out).mono ?_;intro e w4 fR;obtain⟨k4,k',v,rfl,hb4,r4,hr4,hl4⟩:=fR;have K4:=an K3 k4;have R4:=aa r4;have HB:=aa hb4;have HE:=aa hr4;clear k4 r4 hb4 hr4;go_wp2_with fail
  go_ret2
  exact⟨K4.out,_,_,rfl,HB.out,R4.out,HE.out,by omega⟩
theorem WJ (b:Nat) (s:ByteArray) (k:Nat) (w:World) (h:Rd w b s k) (hk:k<s.size) (hc:s[k]=48):Calls Tryz.prog 137 #[.pointer (some ⟨b,0,none⟩)] w (bK b s k w (code 10 fQ 1 3 (aS s k))):=by
 obtain⟨X,hX⟩ :∃X:ByteArray,X=s.extract k s.size:=⟨_,rfl⟩;have C1:=aa (fun W h=>aA b s k W h)
 have ew:0<X.size:=by rw[hX,aD s k (by omega)];omega
 have sr:X[0]=48:=by subst hX;rw[aT s k hk ew];exact hc
 rw[←hX] at C1;have ra:=bC X ew;have HR:=aa h;have C2:=aa (fun W h=>dH b s k W h)
 obtain⟨o,ho⟩ :∃o,o=code 10 fQ 1 3 (aS s k):=⟨_,rfl⟩;rw[←ho] at C2 ⊢;clear hX h hc ho;rcases o with _ | ⟨m,r⟩
 ·go_enter Tryz.func137,Tryz.ntmps137
  go_wp2_with fail
  refine(C1.out _ HR.out).mono ?_;rintro e w1 ⟨rfl,r1,k1⟩;have R1:=aa r1;have K1:=aa k1;clear r1 k1;go_wp2_with fail
  refine(C1.out _ R1.out).mono ?_;rintro e w2 ⟨rfl,r2,k2⟩;have R2:=aa r2;have K2:=an K1 k2;clear r2 k2;go_wp2_with fail
  refine(C2.out _ R2.out).mono ?_;intro e w4 fR;obtain⟨k4,rfl⟩:=fR;have K4:=an K2 k4;clear k4;go_wp2_with fail
  go_ret2
  exact⟨K4.out,rfl⟩
 ·go_enter Tryz.func137,Tryz.ntmps137
  go_wp2_with fail
  refine(C1.out _ HR.out).mono ?_;rintro e w1 ⟨rfl,r1,k1⟩;have R1:=aa r1;have K1:=aa k1;clear r1 k1;go_wp2_with fail
  refine(C1.out _ R1.out).mono ?_;rintro e w2 ⟨rfl,r2,k2⟩;have R2:=aa r2;have K2:=an K1 k2;clear r2 k2;go_wp2_with fail
  refine(C2.out _ R2.out).mono ?_;intro e w4 fR;obtain⟨k4,k',v,rfl,hb4,r4,hr4,hl4⟩:=fR;have K4:=an K2 k4;have R4:=aa r4;have HB:=aa hb4;have HE:=aa hr4;clear k4 r4 hb4 hr4;go_wp2_with fail
  go_ret2
  exact⟨K4.out,_,_,rfl,HB.out,R4.out,HE.out,by omega⟩
theorem WK (b:Nat) (s:ByteArray) (k:Nat) (w:World) (h:Rd w b s k) (hk:k<s.size) (hc:s[k]=49):Calls Tryz.prog 137 #[.pointer (some ⟨b,0,none⟩)] w (bK b s k w (code 10 fQ 1 3 (aS s k))):=by
 obtain⟨X,hX⟩ :∃X:ByteArray,X=s.extract k s.size:=⟨_,rfl⟩;have C1:=aa (fun W h=>aA b s k W h)
 have ew:0<X.size:=by rw[hX,aD s k (by omega)];omega
 have sr:X[0]=49:=by subst hX;rw[aT s k hk ew];exact hc
 rw[←hX] at C1;have ra:=bC X ew;have HR:=aa h;have C2:=aa (fun W h=>dH b s k W h)
 obtain⟨o,ho⟩ :∃o,o=code 10 fQ 1 3 (aS s k):=⟨_,rfl⟩;rw[←ho] at C2 ⊢;clear hX h hc ho;rcases o with _ | ⟨m,r⟩
 ·go_enter Tryz.func137,Tryz.ntmps137
  go_wp2_with fail
  refine(C1.out _ HR.out).mono ?_;rintro e w1 ⟨rfl,r1,k1⟩;have R1:=aa r1;have K1:=aa k1;clear r1 k1;go_wp2_with fail
  refine(C1.out _ R1.out).mono ?_;rintro e w2 ⟨rfl,r2,k2⟩;have R2:=aa r2;have K2:=an K1 k2;clear r2 k2;go_wp2_with fail
  refine(C2.out _ R2.out).mono ?_;intro e w4 fR;obtain⟨k4,rfl⟩:=fR;have K4:=an K2 k4;clear k4;go_wp2_with fail
  go_ret2
  exact⟨K4.out,rfl⟩
 ·go_enter Tryz.func137,Tryz.ntmps137
  go_wp2_with fail
  refine(C1.out _ HR.out).mono ?_;rintro e w1 ⟨rfl,r1,k1⟩;have R1:=aa r1;have K1:=aa k1;clear r1 k1;go_wp2_with fail
  refine(C1.out _ R1.out).mono ?_;rintro e w2 ⟨rfl,r2,k2⟩;have R2:=aa r2;have K2:=an K1 k2;clear r2 k2;go_wp2_with fail
  refine(C2.out _ R2.out).mono ?_;intro e w4 fR;obtain⟨k4,k',v,rfl,hb4,r4,hr4,hl4⟩:=fR;have K4:=an K2 k4;have R4:=aa r4;have HB:=aa hb4;have HE:=aa hr4;clear k4 r4 hb4 hr4;go_wp2_with fail
  go_ret2
  exact⟨K4.out,_,_,rfl,HB.out,R4.out,HE.out,by omega⟩
theorem WL (b:Nat) (s:ByteArray) (k:Nat) (w:World) (h:Rd w b s k) (hk:k<s.size) (hc:s[k]=50):Calls Tryz.prog 137 #[.pointer (some ⟨b,0,none⟩)] w (bK b s k w (code 10 fQ 1 3 (aS s k))):=by
 obtain⟨X,hX⟩ :∃X:ByteArray,X=s.extract k s.size:=⟨_,rfl⟩;have C1:=aa (fun W h=>aA b s k W h)
 have ew:0<X.size:=by rw[hX,aD s k (by omega)];omega
 have sr:X[0]=50:=by subst hX;rw[aT s k hk ew];exact hc
 rw[←hX] at C1;have ra:=bC X ew;have HR:=aa h;have C2:=aa (fun W h=>dH b s k W h)
 obtain⟨o,ho⟩ :∃o,o=code 10 fQ 1 3 (aS s k):=⟨_,rfl⟩;rw[←ho] at C2 ⊢;clear hX h hc ho;rcases o with _ | ⟨m,r⟩
 ·go_enter Tryz.func137,Tryz.ntmps137
  go_wp2_with fail
  refine(C1.out _ HR.out).mono ?_;rintro e w1 ⟨rfl,r1,k1⟩;have R1:=aa r1;have K1:=aa k1;clear r1 k1;go_wp2_with fail
  refine(C1.out _ R1.out).mono ?_;rintro e w2 ⟨rfl,r2,k2⟩;have R2:=aa r2;have K2:=an K1 k2;clear r2 k2;go_wp2_with fail
  refine(C2.out _ R2.out).mono ?_;intro e w4 fR;obtain⟨k4,rfl⟩:=fR;have K4:=an K2 k4;clear k4;go_wp2_with fail
  go_ret2
  exact⟨K4.out,rfl⟩
 ·go_enter Tryz.func137,Tryz.ntmps137
  go_wp2_with fail
  refine(C1.out _ HR.out).mono ?_;rintro e w1 ⟨rfl,r1,k1⟩;have R1:=aa r1;have K1:=aa k1;clear r1 k1;go_wp2_with fail
  refine(C1.out _ R1.out).mono ?_;rintro e w2 ⟨rfl,r2,k2⟩;have R2:=aa r2;have K2:=an K1 k2;clear r2 k2;go_wp2_with fail
  refine(C2.out _ R2.out).mono ?_;intro e w4 fR;obtain⟨k4,k',v,rfl,hb4,r4,hr4,hl4⟩:=fR;have K4:=an K2 k4;have R4:=aa r4;have HB:=aa hb4;have HE:=aa hr4;clear k4 r4 hb4 hr4;go_wp2_with fail
  go_ret2
  exact⟨K4.out,_,_,rfl,HB.out,R4.out,HE.out,by omega⟩
theorem WM (b:Nat) (s:ByteArray) (k:Nat) (w:World) (h:Rd w b s k) (hk:k<s.size) (hc:s[k]=51):Calls Tryz.prog 137 #[.pointer (some ⟨b,0,none⟩)] w (bK b s k w (code 10 fQ 1 3 (aS s k))):=by
 obtain⟨X,hX⟩ :∃X:ByteArray,X=s.extract k s.size:=⟨_,rfl⟩;have C1:=aa (fun W h=>aA b s k W h)
 have ew:0<X.size:=by rw[hX,aD s k (by omega)];omega
 have sr:X[0]=51:=by subst hX;rw[aT s k hk ew];exact hc
 rw[←hX] at C1;have ra:=bC X ew;have HR:=aa h;have C2:=aa (fun W h=>dH b s k W h)
 obtain⟨o,ho⟩ :∃o,o=code 10 fQ 1 3 (aS s k):=⟨_,rfl⟩;rw[←ho] at C2 ⊢;clear hX h hc ho;rcases o with _ | ⟨m,r⟩
 ·go_enter Tryz.func137,Tryz.ntmps137
  go_wp2_with fail
  refine(C1.out _ HR.out).mono ?_;rintro e w1 ⟨rfl,r1,k1⟩;have R1:=aa r1;have K1:=aa k1;clear r1 k1;go_wp2_with fail
  refine(C1.out _ R1.out).mono ?_;rintro e w2 ⟨rfl,r2,k2⟩;have R2:=aa r2;have K2:=an K1 k2;clear r2 k2;go_wp2_with fail
  refine(C2.out _ R2.out).mono ?_;intro e w4 fR;obtain⟨k4,rfl⟩:=fR;have K4:=an K2 k4;clear k4;go_wp2_with fail
  go_ret2
  exact⟨K4.out,rfl⟩
 ·go_enter Tryz.func137,Tryz.ntmps137
  go_wp2_with fail
  refine(C1.out _ HR.out).mono ?_;rintro e w1 ⟨rfl,r1,k1⟩;have R1:=aa r1;have K1:=aa k1;clear r1 k1;go_wp2_with fail
  refine(C1.out _ R1.out).mono ?_;rintro e w2 ⟨rfl,r2,k2⟩;have R2:=aa r2;have K2:=an K1 k2;clear r2 k2;go_wp2_with fail
  refine(C2.out _ R2.out).mono ?_;intro e w4 fR;obtain⟨k4,k',v,rfl,hb4,r4,hr4,hl4⟩:=fR;have K4:=an K2 k4;have R4:=aa r4;have HB:=aa hb4;have HE:=aa hr4;clear k4 r4 hb4 hr4;go_wp2_with fail
  go_ret2
  exact⟨K4.out,_,_,rfl,HB.out,R4.out,HE.out,by omega⟩
theorem WN (b:Nat) (s:ByteArray) (k:Nat) (w:World) (h:Rd w b s k) (hk:k<s.size) (hc:s[k]=52):Calls Tryz.prog 137 #[.pointer (some ⟨b,0,none⟩)] w (bK b s k w (code 10 fQ 1 3 (aS s k))):=by
 obtain⟨X,hX⟩ :∃X:ByteArray,X=s.extract k s.size:=⟨_,rfl⟩;have C1:=aa (fun W h=>aA b s k W h)
 have ew:0<X.size:=by rw[hX,aD s k (by omega)];omega
 have sr:X[0]=52:=by subst hX;rw[aT s k hk ew];exact hc
 rw[←hX] at C1;have ra:=bC X ew;have HR:=aa h;have C2:=aa (fun W h=>dH b s k W h)
 obtain⟨o,ho⟩ :∃o,o=code 10 fQ 1 3 (aS s k):=⟨_,rfl⟩;rw[←ho] at C2 ⊢;clear hX h hc ho;rcases o with _ | ⟨m,r⟩
 ·go_enter Tryz.func137,Tryz.ntmps137
  go_wp2_with fail
  refine(C1.out _ HR.out).mono ?_;rintro e w1 ⟨rfl,r1,k1⟩;have R1:=aa r1;have K1:=aa k1;clear r1 k1;go_wp2_with fail
  refine(C1.out _ R1.out).mono ?_;rintro e w2 ⟨rfl,r2,k2⟩;have R2:=aa r2;have K2:=an K1 k2;clear r2 k2;go_wp2_with fail
  refine(C2.out _ R2.out).mono ?_;intro e w4 fR;obtain⟨k4,rfl⟩:=fR;have K4:=an K2 k4;clear k4;go_wp2_with fail
  go_ret2
  exact⟨K4.out,rfl⟩
 ·go_enter Tryz.func137,Tryz.ntmps137
  go_wp2_with fail
  refine(C1.out _ HR.out).mono ?_;rintro e w1 ⟨rfl,r1,k1⟩;have R1:=aa r1;have K1:=aa k1;clear r1 k1;go_wp2_with fail
  refine(C1.out _ R1.out).mono ?_;rintro e w2 ⟨rfl,r2,k2⟩;have R2:=aa r2;have K2:=an K1 k2;clear r2 k2;go_wp2_with fail
  refine(C2.out _ R2.out).mono ?_;intro e w4 fR;obtain⟨k4,k',v,rfl,hb4,r4,hr4,hl4⟩:=fR;have K4:=an K2 k4;have R4:=aa r4;have HB:=aa hb4;have HE:=aa hr4;clear k4 r4 hb4 hr4;go_wp2_with fail
  go_ret2
  exact⟨K4.out,_,_,rfl,HB.out,R4.out,HE.out,by omega⟩
theorem WO (b:Nat) (s:ByteArray) (k:Nat) (w:World) (h:Rd w b s k) (hk:k<s.size) (hc:s[k]=53):Calls Tryz.prog 137 #[.pointer (some ⟨b,0,none⟩)] w (bK b s k w (code 10 fQ 1 3 (aS s k))):=by
 obtain⟨X,hX⟩ :∃X:ByteArray,X=s.extract k s.size:=⟨_,rfl⟩;have C1:=aa (fun W h=>aA b s k W h)
 have ew:0<X.size:=by rw[hX,aD s k (by omega)];omega
 have sr:X[0]=53:=by subst hX;rw[aT s k hk ew];exact hc
 rw[←hX] at C1;have ra:=bC X ew;have HR:=aa h;have C2:=aa (fun W h=>dH b s k W h)
 obtain⟨o,ho⟩ :∃o,o=code 10 fQ 1 3 (aS s k):=⟨_,rfl⟩;rw[←ho] at C2 ⊢;clear hX h hc ho;rcases o with _ | ⟨m,r⟩
 ·go_enter Tryz.func137,Tryz.ntmps137
  go_wp2_with fail
  refine(C1.out _ HR.out).mono ?_;rintro e w1 ⟨rfl,r1,k1⟩;have R1:=aa r1;have K1:=aa k1;clear r1 k1;go_wp2_with fail
  refine(C1.out _ R1.out).mono ?_;rintro e w2 ⟨rfl,r2,k2⟩;have R2:=aa r2;have K2:=an K1 k2;clear r2 k2;go_wp2_with fail
  refine(C2.out _ R2.out).mono ?_;intro e w4 fR;obtain⟨k4,rfl⟩:=fR;have K4:=an K2 k4;clear k4;go_wp2_with fail
  go_ret2
  exact⟨K4.out,rfl⟩
 ·go_enter Tryz.func137,Tryz.ntmps137
  go_wp2_with fail
  refine(C1.out _ HR.out).mono ?_;rintro e w1 ⟨rfl,r1,k1⟩;have R1:=aa r1;have K1:=aa k1;clear r1 k1;go_wp2_with fail
  refine(C1.out _ R1.out).mono ?_;rintro e w2 ⟨rfl,r2,k2⟩;have R2:=aa r2;have K2:=an K1 k2;clear r2 k2;go_wp2_with fail
  refine(C2.out _ R2.out).mono ?_;intro e w4 fR;obtain⟨k4,k',v,rfl,hb4,r4,hr4,hl4⟩:=fR;have K4:=an K2 k4;have R4:=aa r4;have HB:=aa hb4;have HE:=aa hr4;clear k4 r4 hb4 hr4;go_wp2_with fail
  go_ret2
  exact⟨K4.out,_,_,rfl,HB.out,R4.out,HE.out,by omega⟩
theorem WQ (b:Nat) (s:ByteArray) (k:Nat) (w:World) (h:Rd w b s k) (hk:k<s.size) (hc:s[k]=54):Calls Tryz.prog 137 #[.pointer (some ⟨b,0,none⟩)] w (bK b s k w (code 10 fQ 1 3 (aS s k))):=by
 obtain⟨X,hX⟩ :∃X:ByteArray,X=s.extract k s.size:=⟨_,rfl⟩;have C1:=aa (fun W h=>aA b s k W h)
 have ew:0<X.size:=by rw[hX,aD s k (by omega)];omega
 have sr:X[0]=54:=by subst hX;rw[aT s k hk ew];exact hc
 rw[←hX] at C1;have ra:=bC X ew;have HR:=aa h;have C2:=aa (fun W h=>dH b s k W h)
 obtain⟨o,ho⟩ :∃o,o=code 10 fQ 1 3 (aS s k):=⟨_,rfl⟩;rw[←ho] at C2 ⊢;clear hX h hc ho;rcases o with _ | ⟨m,r⟩
 ·go_enter Tryz.func137,Tryz.ntmps137
  go_wp2_with fail
  refine(C1.out _ HR.out).mono ?_;rintro e w1 ⟨rfl,r1,k1⟩;have R1:=aa r1;have K1:=aa k1;clear r1 k1;go_wp2_with fail
  refine(C1.out _ R1.out).mono ?_;rintro e w2 ⟨rfl,r2,k2⟩;have R2:=aa r2;have K2:=an K1 k2;clear r2 k2;go_wp2_with fail
  refine(C2.out _ R2.out).mono ?_;intro e w4 fR;obtain⟨k4,rfl⟩:=fR;have K4:=an K2 k4;clear k4;go_wp2_with fail
  go_ret2
  exact⟨K4.out,rfl⟩
 ·go_enter Tryz.func137,Tryz.ntmps137
  go_wp2_with fail
  refine(C1.out _ HR.out).mono ?_;rintro e w1 ⟨rfl,r1,k1⟩;have R1:=aa r1;have K1:=aa k1;clear r1 k1;go_wp2_with fail
  refine(C1.out _ R1.out).mono ?_;rintro e w2 ⟨rfl,r2,k2⟩;have R2:=aa r2;have K2:=an K1 k2;clear r2 k2;go_wp2_with fail
  refine(C2.out _ R2.out).mono ?_;intro e w4 fR;obtain⟨k4,k',v,rfl,hb4,r4,hr4,hl4⟩:=fR;have K4:=an K2 k4;have R4:=aa r4;have HB:=aa hb4;have HE:=aa hr4;clear k4 r4 hb4 hr4;go_wp2_with fail
  go_ret2
  exact⟨K4.out,_,_,rfl,HB.out,R4.out,HE.out,by omega⟩
theorem WR (b:Nat) (s:ByteArray) (k:Nat) (w:World) (h:Rd w b s k) (hk:k<s.size) (hc:s[k]=55):Calls Tryz.prog 137 #[.pointer (some ⟨b,0,none⟩)] w (bK b s k w (code 10 fQ 1 3 (aS s k))):=by
 obtain⟨X,hX⟩ :∃X:ByteArray,X=s.extract k s.size:=⟨_,rfl⟩;have C1:=aa (fun W h=>aA b s k W h)
 have ew:0<X.size:=by rw[hX,aD s k (by omega)];omega
 have sr:X[0]=55:=by subst hX;rw[aT s k hk ew];exact hc
 rw[←hX] at C1;have ra:=bC X ew;have HR:=aa h;have C2:=aa (fun W h=>dH b s k W h)
 obtain⟨o,ho⟩ :∃o,o=code 10 fQ 1 3 (aS s k):=⟨_,rfl⟩;rw[←ho] at C2 ⊢;clear hX h hc ho;rcases o with _ | ⟨m,r⟩
 ·go_enter Tryz.func137,Tryz.ntmps137
  go_wp2_with fail
  refine(C1.out _ HR.out).mono ?_;rintro e w1 ⟨rfl,r1,k1⟩;have R1:=aa r1;have K1:=aa k1;clear r1 k1;go_wp2_with fail
  refine(C1.out _ R1.out).mono ?_;rintro e w2 ⟨rfl,r2,k2⟩;have R2:=aa r2;have K2:=an K1 k2;clear r2 k2;go_wp2_with fail
  refine(C2.out _ R2.out).mono ?_;intro e w4 fR;obtain⟨k4,rfl⟩:=fR;have K4:=an K2 k4;clear k4;go_wp2_with fail
  go_ret2
  exact⟨K4.out,rfl⟩
 ·go_enter Tryz.func137,Tryz.ntmps137
  go_wp2_with fail
  refine(C1.out _ HR.out).mono ?_;rintro e w1 ⟨rfl,r1,k1⟩;have R1:=aa r1;have K1:=aa k1;clear r1 k1;go_wp2_with fail
  refine(C1.out _ R1.out).mono ?_;rintro e w2 ⟨rfl,r2,k2⟩;have R2:=aa r2;have K2:=an K1 k2;clear r2 k2;go_wp2_with fail
  refine(C2.out _ R2.out).mono ?_;intro e w4 fR;obtain⟨k4,k',v,rfl,hb4,r4,hr4,hl4⟩:=fR;have K4:=an K2 k4;have R4:=aa r4;have HB:=aa hb4;have HE:=aa hr4;clear k4 r4 hb4 hr4;go_wp2_with fail
  go_ret2
  exact⟨K4.out,_,_,rfl,HB.out,R4.out,HE.out,by omega⟩
theorem WS (b:Nat) (s:ByteArray) (k:Nat) (w:World) (h:Rd w b s k) (hk:k<s.size) (hc:s[k]=56):Calls Tryz.prog 137 #[.pointer (some ⟨b,0,none⟩)] w (bK b s k w (code 10 fQ 1 3 (aS s k))):=by
 obtain⟨X,hX⟩ :∃X:ByteArray,X=s.extract k s.size:=⟨_,rfl⟩;have C1:=aa (fun W h=>aA b s k W h)
 have ew:0<X.size:=by rw[hX,aD s k (by omega)];omega
 have sr:X[0]=56:=by subst hX;rw[aT s k hk ew];exact hc
 rw[←hX] at C1;have ra:=bC X ew;have HR:=aa h;have C2:=aa (fun W h=>dH b s k W h)
 obtain⟨o,ho⟩ :∃o,o=code 10 fQ 1 3 (aS s k):=⟨_,rfl⟩;rw[←ho] at C2 ⊢;clear hX h hc ho;rcases o with _ | ⟨m,r⟩
 ·go_enter Tryz.func137,Tryz.ntmps137
  go_wp2_with fail
  refine(C1.out _ HR.out).mono ?_;rintro e w1 ⟨rfl,r1,k1⟩;have R1:=aa r1;have K1:=aa k1;clear r1 k1;go_wp2_with fail
  refine(C1.out _ R1.out).mono ?_;rintro e w2 ⟨rfl,r2,k2⟩;have R2:=aa r2;have K2:=an K1 k2;clear r2 k2;go_wp2_with fail
  refine(C2.out _ R2.out).mono ?_;intro e w4 fR;obtain⟨k4,rfl⟩:=fR;have K4:=an K2 k4;clear k4;go_wp2_with fail
  go_ret2
  exact⟨K4.out,rfl⟩
 ·go_enter Tryz.func137,Tryz.ntmps137
  go_wp2_with fail
  refine(C1.out _ HR.out).mono ?_;rintro e w1 ⟨rfl,r1,k1⟩;have R1:=aa r1;have K1:=aa k1;clear r1 k1;go_wp2_with fail
  refine(C1.out _ R1.out).mono ?_;rintro e w2 ⟨rfl,r2,k2⟩;have R2:=aa r2;have K2:=an K1 k2;clear r2 k2;go_wp2_with fail
  refine(C2.out _ R2.out).mono ?_;intro e w4 fR;obtain⟨k4,k',v,rfl,hb4,r4,hr4,hl4⟩:=fR;have K4:=an K2 k4;have R4:=aa r4;have HB:=aa hb4;have HE:=aa hr4;clear k4 r4 hb4 hr4;go_wp2_with fail
  go_ret2
  exact⟨K4.out,_,_,rfl,HB.out,R4.out,HE.out,by omega⟩
theorem WT (b:Nat) (s:ByteArray) (k:Nat) (w:World) (h:Rd w b s k) (hk:k<s.size) (hc:s[k]=57):Calls Tryz.prog 137 #[.pointer (some ⟨b,0,none⟩)] w (bK b s k w (code 10 fQ 1 3 (aS s k))):=by
 obtain⟨X,hX⟩ :∃X:ByteArray,X=s.extract k s.size:=⟨_,rfl⟩;have C1:=aa (fun W h=>aA b s k W h)
 have ew:0<X.size:=by rw[hX,aD s k (by omega)];omega
 have sr:X[0]=57:=by subst hX;rw[aT s k hk ew];exact hc
 rw[←hX] at C1;have ra:=bC X ew;have HR:=aa h;have C2:=aa (fun W h=>dH b s k W h)
 obtain⟨o,ho⟩ :∃o,o=code 10 fQ 1 3 (aS s k):=⟨_,rfl⟩;rw[←ho] at C2 ⊢;clear hX h hc ho;rcases o with _ | ⟨m,r⟩
 ·go_enter Tryz.func137,Tryz.ntmps137
  go_wp2_with fail
  refine(C1.out _ HR.out).mono ?_;rintro e w1 ⟨rfl,r1,k1⟩;have R1:=aa r1;have K1:=aa k1;clear r1 k1;go_wp2_with fail
  refine(C1.out _ R1.out).mono ?_;rintro e w2 ⟨rfl,r2,k2⟩;have R2:=aa r2;have K2:=an K1 k2;clear r2 k2;go_wp2_with fail
  refine(C2.out _ R2.out).mono ?_;intro e w4 fR;obtain⟨k4,rfl⟩:=fR;have K4:=an K2 k4;clear k4;go_wp2_with fail
  go_ret2
  exact⟨K4.out,rfl⟩
 ·go_enter Tryz.func137,Tryz.ntmps137
  go_wp2_with fail
  refine(C1.out _ HR.out).mono ?_;rintro e w1 ⟨rfl,r1,k1⟩;have R1:=aa r1;have K1:=aa k1;clear r1 k1;go_wp2_with fail
  refine(C1.out _ R1.out).mono ?_;rintro e w2 ⟨rfl,r2,k2⟩;have R2:=aa r2;have K2:=an K1 k2;clear r2 k2;go_wp2_with fail
  refine(C2.out _ R2.out).mono ?_;intro e w4 fR;obtain⟨k4,k',v,rfl,hb4,r4,hr4,hl4⟩:=fR;have K4:=an K2 k4;have R4:=aa r4;have HB:=aa hb4;have HE:=aa hr4;clear k4 r4 hb4 hr4;go_wp2_with fail
  go_ret2
  exact⟨K4.out,_,_,rfl,HB.out,R4.out,HE.out,by omega⟩
theorem GP (b:Nat) (s:ByteArray) (k:Nat) (w:World) (h:Rd w b s k) (hk:k<s.size) (c:UInt8) (hc:s[k]=c) (hn :∀v∈[97,98,102,110,114,116,118,92,39,34,10,122,120,48,49,50,51,52,53,54,55,56,57],c.toNat≠v):Calls Tryz.prog 137 #[.pointer (some ⟨b,0,none⟩)] w (bK b s k w (none)):=by
 obtain⟨X,hX⟩ :∃X:ByteArray,X=s.extract k s.size:=⟨_,rfl⟩;have C1:=aa (fun W h=>aA b s k W h)
 have ew:0<X.size:=by rw[hX,aD s k (by omega)];omega
 have sr:X[0]=c:=by subst hX;rw[aT s k hk ew];exact hc
 rw[←hX] at C1;have ra:=bC X ew;have HR:=aa h;have g97:((c.toNat:Int) == 97)=false:=aE.2 (by have:=hn 97 (by decide);omega)
 have g98:((c.toNat:Int) == 98)=false:=aE.2 (by have:=hn 98 (by decide);omega)
 have g102:((c.toNat:Int) == 102)=false:=aE.2 (by have:=hn 102 (by decide);omega)
 have g110:((c.toNat:Int) == 110)=false:=aE.2 (by have:=hn 110 (by decide);omega)
 have g114:((c.toNat:Int) == 114)=false:=aE.2 (by have:=hn 114 (by decide);omega)
 have g116:((c.toNat:Int) == 116)=false:=aE.2 (by have:=hn 116 (by decide);omega)
 have g118:((c.toNat:Int) == 118)=false:=aE.2 (by have:=hn 118 (by decide);omega)
 have g92:((c.toNat:Int) == 92)=false:=aE.2 (by have:=hn 92 (by decide);omega)
 have g39:((c.toNat:Int) == 39)=false:=aE.2 (by have:=hn 39 (by decide);omega)
 have g34:((c.toNat:Int) == 34)=false:=aE.2 (by have:=hn 34 (by decide);omega)
 have g10:((c.toNat:Int) == 10)=false:=aE.2 (by have:=hn 10 (by decide);omega)
 have g122:((c.toNat:Int) == 122)=false:=aE.2 (by have:=hn 122 (by decide);omega)
 have g120:((c.toNat:Int) == 120)=false:=aE.2 (by have:=hn 120 (by decide);omega)
 have g48:((c.toNat:Int) == 48)=false:=aE.2 (by have:=hn 48 (by decide);omega)
 have g49:((c.toNat:Int) == 49)=false:=aE.2 (by have:=hn 49 (by decide);omega)
 have g50:((c.toNat:Int) == 50)=false:=aE.2 (by have:=hn 50 (by decide);omega)
 have g51:((c.toNat:Int) == 51)=false:=aE.2 (by have:=hn 51 (by decide);omega)
 have g52:((c.toNat:Int) == 52)=false:=aE.2 (by have:=hn 52 (by decide);omega)
 have g53:((c.toNat:Int) == 53)=false:=aE.2 (by have:=hn 53 (by decide);omega)
 have g54:((c.toNat:Int) == 54)=false:=aE.2 (by have:=hn 54 (by decide);omega)
 have g55:((c.toNat:Int) == 55)=false:=aE.2 (by have:=hn 55 (by decide);omega)
 have g56:((c.toNat:Int) == 56)=false:=aE.2 (by have:=hn 56 (by decide);omega)
 have g57:((c.toNat:Int) == 57)=false:=aE.2 (by have:=hn 57 (by decide);omega)
 clear hX h hc hn;go_enter Tryz.func137,Tryz.ntmps137
 go_wp2_with fail
 refine(C1.out _ HR.out).mono ?_;rintro e w1 ⟨rfl,r1,k1⟩;have R1:=aa r1;have K1:=aa k1;clear r1 k1;go_wp2_with fail
 refine(C1.out _ R1.out).mono ?_;rintro e w2 ⟨rfl,r2,k2⟩;have R2:=aa r2;have K2:=an K1 k2;clear r2 k2;go_wp2_with fail
 go_ret2
 exact⟨K2.out,rfl⟩
theorem dt (c:UInt8) (r:List UInt8):pM (c::r)=pj c r:=rfl
theorem Aq (b:Nat) (s:ByteArray) (k:Nat) (w:World) (h:Rd w b s k):Calls Tryz.prog 137 #[.pointer (some ⟨b,0,none⟩)] w (bK b s k w (pM (aS s k))):=by
 by_cases hk:k=s.size
 ·exact Le b s k w h hk
 ·have hk:k<s.size:=by have:=h.le;omega
  have hs:=iJ s k hk;have ab0:=WC b s k w h hk;have ab1:=WD b s k w h hk;have aaf:=Q9 b s k w h hk;have aag:=Ra b s k w h hk;have aah:=Rb b s k w h hk;have aai:=Rc b s k w h hk;have aaj:=Re b s k w h hk;have ab2:=WE b s k w h hk;have ab3:=WG b s k w h hk;have ab4:=WH b s k w h hk;have ab5:=WI b s k w h hk;have aak:=Rf b s k w h hk;have aal:=Rg b s k w h hk;have ab6:=WJ b s k w h hk;have ab7:=WK b s k w h hk;have ab8:=WL b s k w h hk;have ab9:=WM b s k w h hk;have aca:=WN b s k w h hk;have acb:=WO b s k w h hk;have acd:=WQ b s k w h hk;have ace:=WR b s k w h hk;have acf:=WS b s k w h hk;have acg:=WT b s k w h hk;have other:=GP b s k w h hk s[k] rfl;generalize s[k]=c at *;have oT :∀c':UInt8,vO c'=none→pZ c'=false→c'.toNat≠122→c'.toNat≠120→fQ c'=true→c=c'→pM (aS s k)=code 10 fQ 1 3 (aS s k):=fun c' a1 a2 a3 a4 a5 e=>by
   rw[hs,e];exact(dt _ _).trans (Ky _ a1 a2 a3 a4 a5)
  have jR :∀v:UInt8,c.toNat=v.toNat→c=v:=fun v h=>zK.1 h
  by_cases e:c.toNat=97
  ·rw[hs,jR 97 e,show pM (97::aS s (k+1))=some ([7],aS s (k+1)) from(dt _ _).trans (gg _ (by decide))];exact ab0 (jR 97 e)
  by_cases e:c.toNat=98
  ·rw[hs,jR 98 e,show pM (98::aS s (k+1))=some ([8],aS s (k+1)) from(dt _ _).trans (gg _ (by decide))];exact ab1 (jR 98 e)
  by_cases e:c.toNat=102
  ·rw[hs,jR 102 e,show pM (102::aS s (k+1))=some ([12],aS s (k+1)) from(dt _ _).trans (gg _ (by decide))];exact aaf (jR 102 e)
  by_cases e:c.toNat=110
  ·rw[hs,jR 110 e,show pM (110::aS s (k+1))=some ([10],aS s (k+1)) from(dt _ _).trans (gg _ (by decide))];exact aag (jR 110 e)
  by_cases e:c.toNat=114
  ·rw[hs,jR 114 e,show pM (114::aS s (k+1))=some ([13],aS s (k+1)) from(dt _ _).trans (gg _ (by decide))];exact aah (jR 114 e)
  by_cases e:c.toNat=116
  ·rw[hs,jR 116 e,show pM (116::aS s (k+1))=some ([9],aS s (k+1)) from(dt _ _).trans (gg _ (by decide))];exact aai (jR 116 e)
  by_cases e:c.toNat=118
  ·rw[hs,jR 118 e,show pM (118::aS s (k+1))=some ([11],aS s (k+1)) from(dt _ _).trans (gg _ (by decide))];exact aaj (jR 118 e)
  by_cases e:c.toNat=92
  ·rw[hs,jR 92 e,show pM (92::aS s (k+1))=some ([92],aS s (k+1)) from(dt _ _).trans (kL _ (by decide) (by decide))];exact ab2 (jR 92 e)
  by_cases e:c.toNat=39
  ·rw[hs,jR 39 e,show pM (39::aS s (k+1))=some ([39],aS s (k+1)) from(dt _ _).trans (kL _ (by decide) (by decide))];exact ab3 (jR 39 e)
  by_cases e:c.toNat=34
  ·rw[hs,jR 34 e,show pM (34::aS s (k+1))=some ([34],aS s (k+1)) from(dt _ _).trans (kL _ (by decide) (by decide))];exact ab4 (jR 34 e)
  by_cases e:c.toNat=10
  ·rw[hs,jR 10 e,show pM (10::aS s (k+1))=some ([10],aS s (k+1)) from(dt _ _).trans (kL _ (by decide) (by decide))];exact ab5 (jR 10 e)
  by_cases e:c.toNat=122
  ·rw[hs,jR 122 e,show pM (122::aS s (k+1))=some ([],(aS s (k+1)).dropWhile oR) from(dt _ _).trans (Kw _ (by decide) (by decide) (by decide))];exact aak (jR 122 e)
  by_cases e:c.toNat=120
  ·rw[hs,jR 120 e,show pM (120::aS s (k+1))=code 16 zo 2 2 (aS s (k+1)) from(dt _ _).trans (Kx _ (by decide) (by decide) (by decide))];exact aal (jR 120 e)
  by_cases e:c.toNat=48
  ·rw[oT 48 (by decide) (by decide) (by decide) (by decide) (by decide) (jR 48 e)];exact ab6 (jR 48 e)
  by_cases e:c.toNat=49
  ·rw[oT 49 (by decide) (by decide) (by decide) (by decide) (by decide) (jR 49 e)];exact ab7 (jR 49 e)
  by_cases e:c.toNat=50
  ·rw[oT 50 (by decide) (by decide) (by decide) (by decide) (by decide) (jR 50 e)];exact ab8 (jR 50 e)
  by_cases e:c.toNat=51
  ·rw[oT 51 (by decide) (by decide) (by decide) (by decide) (by decide) (jR 51 e)];exact ab9 (jR 51 e)
  by_cases e:c.toNat=52
  ·rw[oT 52 (by decide) (by decide) (by decide) (by decide) (by decide) (jR 52 e)];exact aca (jR 52 e)
  by_cases e:c.toNat=53
  ·rw[oT 53 (by decide) (by decide) (by decide) (by decide) (by decide) (jR 53 e)];exact acb (jR 53 e)
  by_cases e:c.toNat=54
  ·rw[oT 54 (by decide) (by decide) (by decide) (by decide) (by decide) (jR 54 e)];exact acd (jR 54 e)
  by_cases e:c.toNat=55
  ·rw[oT 55 (by decide) (by decide) (by decide) (by decide) (by decide) (jR 55 e)];exact ace (jR 55 e)
  by_cases e:c.toNat=56
  ·rw[oT 56 (by decide) (by decide) (by decide) (by decide) (by decide) (jR 56 e)];exact acf (jR 56 e)
  by_cases e:c.toNat=57
  ·rw[oT 57 (by decide) (by decide) (by decide) (by decide) (by decide) (jR 57 e)];exact acg (jR 57 e)
  have hno:pM (aS s k)=none:=by
   rw[hs,dt];refine Ex _ ?_ ?_ (by assumption) (by assumption) ?_
   ·unfold vO;simp[*]
   ·unfold pZ;simp[*]
   ·unfold fQ;rw[zE];omega
  rw[hno];refine other ?_;intro v hv;simp only[bn,oM,oP] at hv;rcases hv with rfl|rfl|rfl|rfl|rfl|rfl|rfl|rfl|rfl|rfl|rfl|rfl|rfl|rfl|rfl|rfl|rfl|rfl|rfl|rfl|rfl|rfl|rfl<;>assumption
def mZ (l:List UInt8):List Value:=l.map fun b=>Value.int .u8 (b.toNat:Int)
theorem CL (a b:List UInt8):mZ (a++b)=mZ a++mZ b:=by simp[mZ]
def re (W:World) (B:Nat) (v:Value) (l:List UInt8):Prop:=W.ownsRow B 5 1 v l.length (mZ l)
theorem re.nil (W:World) (B:Nat):re W B (.slice none 0 0) []:=World.ownsRow_nil W B 5 1
theorem Rh {W:World} {B e n size:Nat} {v:Value} {xs:List Value} (h:W.ownsRow B e size v n xs) :∀k,v.ownBlock=some k→B≤k:=fun k hk=>(h.lt k hk).1
theorem re.kp {b B:Nat} {W W':World} {v:Value} {l:List UInt8} (h:re W B v l) (hk:Kp b W W') (hb:b<B):re W' B v l:=by
 refine World.ownsRow.kept h hk ?_;rcases h.2 with ⟨rfl,_⟩ | ⟨g,_,_,rfl,hg,_⟩
 ·left;rfl
 ·right
  intro e;have:g=b:=by simpa[Value.ownBlock] using e
  omega
theorem aam:(Tryz.prog.info? 5).map (fun i=>(i.zero,i.size,i.bytes))=some (some (.int .u8 0),1,1):=by kernel_rfl
theorem Lf {ops:Array Oper} {rest:List Oper} {o:Oper} {a:Act} {Q:Exit→Act→World→Prop} (w:World) (hgd:o.guard=none) (sl x:Operand)
  (ho:o.op=.call { callee:=.builtin .append,args:=#[sl,x],argTypes:=#[216,216]}) (B:Nat) (v:Value) (l:List UInt8) (hs:a.eval sl=v) (hown:re w B v l) (y:Value) (hx:a.eval x=y) (m:List UInt8) (hm:Bts w y m)
  (hlen:l.length≤1000000) (hB:B≤w.heap.size)
  (h :∀v' w',re w' B v' (l++m)→Below B w w'→wpList Tryz.prog ops Q rest (a.put o.dst v') w'):wpList Tryz.prog ops Q (o::rest) a w:=by
 obtain⟨i0,ng,hz0,hz1,hz2⟩:=info_parts aam;rcases hm with ⟨rfl,rfl⟩ | ⟨g,u,rfl,rfl,hc⟩
 ·refine wpList_plain hgd fun _ hK=>?_
  have hr:=run_append_owned_none (P:=Tryz.prog) (w:=w) B 216 o.type 5 i0 1 Tryz.underlying216 ng v l.length (mZ l) hown;unfold Oper.wp execOp;simp only[ho,resolve,invoke,builtin,Sem.run_bind,Sem.run_pure,Result.andThen_ok,Kq,fX,List.map_nil,hs,hx,hr];exact hK _ _ (h v w (by rw[jW];exact hown) (Below.refl _ _))
 ·refine wpList_append_own (P:=Tryz.prog) _ hgd sl x 216 ho B 5 i0 (.int .u8 0) 1 1 Tryz.underlying216 ng hz0 hz1 hz2 rfl (by omega) v l.length (mZ l) hs hown ⟨g,0,none⟩ 1 1 [.int .u8 (u.toNat:Int)] hx rfl
   (fun j q hj=>by
    cases j with
    | zero=>obtain rfl:=gz hj;exact hc
    | succ j=>simp at hj) (fun q hq=>by obtain rfl:=bP.1 hq;rfl) (by unfold maxLen;omega) (by omega) hB ?_
  intro v' w' h1 h2 _;refine h v' w' ?_ ((Below.refl _ _).grown h2 hB (Rh hown));unfold re;rw[bV,CL];exact h1
theorem CN {W:World} {B:Nat} {v:Value} {l:List UInt8} (h:re W B v l):(convert 216 9 v).run Tryz.prog W=.ok (.string ⟨l.toArray⟩) W:=by
 rcases h.2 with ⟨rfl,h0⟩ | ⟨g,cap,cur,rfl,_⟩
 ·obtain rfl:l=[]:=pO h0
  exact run_convert_bytes_nil W 216 5 Tryz.underlying216 Tryz.underlying5 0 0 9 Tryz.underlying9
 ·exact run_convert_bytes_back (P:=Tryz.prog) W 216 9 5 ⟨g,0,none⟩ cap l Tryz.underlying216 Tryz.underlying5 Tryz.underlying9 (fun j hj=>by
   have hc:=World.ownsRow.cells h (g:=g) rfl j (.int .u8 (l[j].toNat:Int)) (by simp[mZ,hj])
   exact hc)
theorem Kp.below {b:Nat} {w0 w w':World} (h:Kp b w0 w) (k:Below w0.heap.size w w'):Kp b w0 w' :=
 ⟨k.os.trans h.os,k.tape.trans h.tape,k.output.trans h.output,aK h.size k.size,fun i hi hne=>(k.block i hi).trans (h.block i hi hne)⟩
theorem Rd.yn {W W':World} {B b:Nat} {s:ByteArray} {k:Nat} (h:Rd W b s k) (hb:Below B W W') (hB:b<B):Rd W' b s k:=by
 have hf:=h.far;obtain⟨m,hm⟩:=h.mx;exact⟨(hb.block b hB).trans h.blk,h.le,h.top,h.far,m,(hb.cell (p:=⟨1,0,none⟩) (by show 1<B;omega)).trans hm⟩
def Ri (q:UInt8) (b:Nat) (s:ByteArray) (k:Nat) (w:World) (e:Ending) (w':World):Prop:=∃o,yi q (aS s (k+1)) o∧jA b s k w o e w'
theorem map_nil (o:Option (List UInt8×List UInt8)):o.map (fun x=>([]++x.1,x.2))=o:=by cases o<;>rfl
theorem EE (o:Option (List UInt8×List UInt8)) (out m:List UInt8):(o.map fun x=>(m++x.1,x.2)).map (fun x=>(out++x.1,x.2))=o.map fun x=>((out++m)++x.1,x.2):=by
 cases o<;>simp
theorem Lg (s:ByteArray) (k:Nat) (h:k<s.size) (X:ByteArray) (hX:X=s.extract k (k+1)) (h':0<X.size):X[0]=s[k]:=by
 subst hX;rw[ByteArray.getElem_extract];simp
theorem Lh (s:ByteArray) (k:Nat) (h:k<s.size):(s.extract k (k+1)).size=1:=by rw[tH];omega
theorem take_one (b:Nat) (s:ByteArray) (k:Nat) (hk:k<s.size) :∃X:ByteArray,∃hX:0<X.size,X[0]=s[k]∧∀W,Rd W b s k→Calls Tryz.prog 67 #[.pointer (some ⟨b,0,none⟩),.int .i64 1] W fun e w'=>e=.returned (.string X)∧Rd w' b s (k+1)∧Kp b W w':=by
 have hs:=Lh s k hk;exact⟨s.extract k (k+1),by omega,Lg s k hk _ rfl (by omega),fun W h=>bo b s k 1 W h (by omega)⟩
theorem re.form {W:World} {B:Nat} {v:Value} {l:List UInt8} (h:re W B v l) :∃A c,v=.slice A l.length c:=by
 rcases h.2 with ⟨rfl,h0⟩ | ⟨g,cap,_,rfl,_⟩
 ·exact⟨none,0,by rw[h0]⟩
 ·exact⟨_,_,rfl⟩
theorem CO (b:Nat) (s:ByteArray) (k:Nat) (w:World) (h:Rd w b s k) (hk:k<s.size) (q:UInt8) (hq:s[k]=q) (ach:q≠10) (aan:q≠92) :
  Calls Tryz.prog 79 #[.pointer (some ⟨b,0,none⟩)] w (Ri q b s k w):=by
 have b9:=h.top;have iK:=h.lt;have HR:=aa h;obtain⟨X,ew,sr,hT⟩:=take_one b s k hk;rw[hq] at sr;have T1:=aa hT;clear h hT hq;go_enter Tryz.func79,Tryz.ntmps79
 go_wp2_with fail
 refine(T1.out _ HR.out).mono ?_;rintro e w1 ⟨rfl,r1,k1⟩;have R1:=aa r1;have K1:=aa k1;clear r1 k1;go_wp2_with fail
 clear sr ew;go_loopg [5] s.size (fun z tv wr=>∃(k1:Nat) (out:List UInt8),Rd wr b s k1∧k<k1∧s.size-k1≤z∧Kp b w wr∧re wr w.heap.size tv out∧out.length+k≤k1∧∀o,yi q (aS s k1) o→yi q (aS s (k+1)) (o.map fun x=>(out++x.1,x.2)))
 case atStart=>exact⟨k+1,[],R1.out,by omega,by omega,K1.out,re.nil _ _,by simp,fun o h=>by rw[map_nil];exact h⟩
 case round =>
  obtain⟨k1,out,hr,hlt,hz,Q6,aao,sV,aap⟩:=hrel;have Q7:=hr.le;have R0:=aa hr;have K0:=aa Q6;have HB:=aa aao;have HQ:=aa aap;have hsz0:=Q6.size;clear hr Q6 aao aap;obtain⟨Y,hY⟩ :∃Y:ByteArray,Y=s.extract k1 s.size:=⟨_,rfl⟩;have C1:=aa (fun W h=>aA b s k1 W h)
  rw[←hY] at C1;have vH:Y.size=s.size-k1:=by rw[hY,aD s k1 Q7]
  clear hY;by_cases hend:k1=s.size
  ·have UM:=uh Y (by omega)
   have hs0:=tj s k1 (by omega)
   have HE:=aa hs0;clear hs0 vH;go_wp2_with fail
   refine(C1.out _ R0.out).mono ?_;rintro e w2 ⟨rfl,r2,k2⟩;have K2:=an K0 k2;clear r2 k2;go_wp2_with fail
   go_ret2
   exact⟨none,HQ.out none (by rw[HE.out];exact .none),K2.out,rfl⟩
  ·have iT:k1<s.size:=by omega
   have UM:=bC Y (by omega)
   have cz:=iJ s k1 iT;obtain⟨Z,hZs,hZ0,hT⟩:=take_one b s k1 iT;have T2:=aa hT;obtain⟨c,hc⟩ :∃c:UInt8,c=s[k1]:=⟨_,rfl⟩;rw[←hc] at hZ0 cz;have HC:=aa cz;clear vH hT hc cz;have CA:=c.toNat_lt;have hql:=q.toNat_lt;obtain⟨A1,c1,rfl⟩:=HB.out.form;by_cases hcq:c=q
   ·subst hcq
    go_wp2_with fail
    refine(C1.out _ R0.out).mono ?_;rintro e w2 ⟨rfl,r2,k2⟩;have R2:=aa r2;have K2:=an K0 k2;have B2:=aa (HB.out.kp k2 iK);clear r2 k2;go_wp2_with fail
    refine(T2.out _ R2.out).mono ?_;rintro e w3 ⟨rfl,r3,k3⟩;have R3:=aa r3;have K3:=an K2 k3;have B3:=aa (B2.out.kp k3 iK);clear r3 k3;have hcv:=CN B3.out;go_wp2_with fail
    go_ret2
    refine⟨some (out,aS s (k1+1)),?_,K3.out,_,rfl,R3.out,rfl,by omega⟩
    have:=HQ.out (some ([],aS s (k1+1))) (by rw[HC.out];exact .shut)
    simpa using this
   ·have hcqn:c.toNat≠q.toNat:=fun e=>hcq (zK.1 e)
    by_cases WU:c=10
    ·subst WU
     have g1:((10:Int) == (q.toNat:Int))=false:=aE.2 (by have:(10:UInt8).toNat=10:=rfl;omega)
     go_wp2_with fail
     refine(C1.out _ R0.out).mono ?_;rintro e w2 ⟨rfl,r2,k2⟩;have R2:=aa r2;have K2:=an K0 k2;have B2:=aa (HB.out.kp k2 iK);clear r2 k2;go_wp2_with fail
     refine(T2.out _ R2.out).mono ?_;rintro e w3 ⟨rfl,r3,k3⟩;have R3:=aa r3;have K3:=an K2 k3;have B3:=aa (B2.out.kp k3 iK);clear r3 k3;go_wp2_with fail
     go_ret2
     exact⟨none,HQ.out none (by rw[HC.out];exact .line ach),K3.out,rfl⟩
    ·by_cases WV:c=92
     ·subst WV
      have g1:((92:Int) == (q.toNat:Int))=false:=aE.2 (by have:(92:UInt8).toNat=92:=rfl;omega)
      have E1:=aa (fun W h=>Aq b s (k1+1) W h)
      cases hes:pM (aS s (k1+1)) with
      | none =>
       rw[hes] at E1;have HES:=aa hes;clear hes;go_wp2_with fail
       refine(C1.out _ R0.out).mono ?_;rintro e w2 ⟨rfl,r2,k2⟩;have R2:=aa r2;have K2:=an K0 k2;have B2:=aa (HB.out.kp k2 iK);clear r2 k2;go_wp2_with fail
       refine(T2.out _ R2.out).mono ?_;rintro e w3 ⟨rfl,r3,k3⟩;have R3:=aa r3;have K3:=an K2 k3;have B3:=aa (B2.out.kp k3 iK);clear r3 k3;go_wp2_with fail
       refine(E1.out _ R3.out).mono ?_;intro e w4 fR;obtain⟨k4,rfl⟩:=fR;have K4:=an K3 k4;clear k4;go_wp2_with fail
       go_ret2
       exact⟨none,HQ.out none (by rw[HC.out];exact .bad aan HES.out),K4.out,rfl⟩
      | some z =>
       obtain⟨m,r⟩:=z;rw[hes] at E1;have HES:=aa hes;clear hes;go_wp2_with fail
       refine(C1.out _ R0.out).mono ?_;rintro e w2 ⟨rfl,r2,k2⟩;have R2:=aa r2;have K2:=an K0 k2;have B2:=aa (HB.out.kp k2 iK);clear r2 k2;go_wp2_with fail
       refine(T2.out _ R2.out).mono ?_;rintro e w3 ⟨rfl,r3,k3⟩;have R3:=aa r3;have K3:=an K2 k3;have B3:=aa (B2.out.kp k3 iK);clear r3 k3;go_wp2_with fail
       refine(E1.out _ R3.out).mono ?_;intro e w4 fR;obtain⟨k4,k',v,rfl,hb4,r4,hr4,hl4⟩:=fR;have K4:=an K3 k4;have R4:=aa r4;have B4:=aa (B3.out.kp k4 iK);have HE:=aa hr4;have zq:m.length≤1:=by
        rcases hb4 with ⟨_,rfl⟩ | ⟨_,_,rfl,_⟩<;>simp
       have HBT:=aa hb4;have aci:=K4.out.size;clear k4 r4 hb4 hr4;have ad1:=R4.out.le;go_wp2_with (at_builtin;refine Lf _ rfl _ _ rfl w.heap.size _ out rfl B4.out _ rfl m HBT.out (by omega) aci ?_;intro v5 w5 EF ix)
       go_roundg (s.size-k')
       case measure=>omega
       case rel=>exact⟨k',out++m,R4.out.yn ix iK,by omega,ah _,K4.out.below ix,EF,by rw[bV];omega,fun o ho=>by
        have:=HQ.out _ (by rw[HC.out];exact .pM aan HES.out (HE.out▸ho))
        rwa[EE] at this⟩
     ·have g1:((c.toNat:Int) == (q.toNat:Int))=false:=aE.2 (by omega)
      have g2:((c.toNat:Int) == 10)=false:=aE.2 (fun e=>WU (zK.1 (by show c.toNat=10;omega)))
      have g3:((c.toNat:Int) == 92)=false:=aE.2 (fun e=>WV (zK.1 (by show c.toNat=92;omega)))
      go_wp2_with fail
      refine(C1.out _ R0.out).mono ?_;rintro e w2 ⟨rfl,r2,k2⟩;have R2:=aa r2;have K2:=an K0 k2;have B2:=aa (HB.out.kp k2 iK);clear r2 k2;go_wp2_with fail
      refine(T2.out _ R2.out).mono ?_;rintro e w3 ⟨rfl,r3,k3⟩;have R3:=aa r3;have K3:=an K2 k3;have B3:=aa (B2.out.kp k3 iK);clear r3 k3;have hsz3:=K3.out.size;go_wp2_with (at_builtin;refine Lf _ rfl _ _ rfl w.heap.size _ out rfl (World.ownsRow.alloc B3.out _) _ rfl [c] (dD _ _ _ rfl) (by omega) (by simp;omega) ?_;intro v5 w5 EF ix)
      go_roundg (s.size-(k1+1))
      case measure=>omega
      case rel=>exact⟨k1+1,out++[c],(R3.out.alloc _).yn ix iK,by omega,ah _,(K3.out.alloc _).below ix,EF,by rw[bV];simp;omega,fun o ho=>by
       have:=HQ.out _ (by rw[HC.out];exact .byte hcq WU WV ho)
       rw[show(o.map fun x=>(c::x.1,x.2))=o.map fun x=>([c]++x.1,x.2) from rfl,EE] at this
       exact this⟩
theorem Li (s:ByteArray) (w:World):Calls Tryz.prog 135 #[.string s] w fun e w'=>e=.returned (.bool (gA s.data.toList))∧w=w':=by
 rw[←Lib.toList_data];go_enter Tryz.func135,Tryz.ntmps135
 go_wp2
 all_goals first
  | (go_ret;rename_i ha hb;rw[ha] at hb;cases hb;done)
  | (go_ret;exact⟨iI (by simp only[gA,keys,Ki,Kl,Bool.or_false,Bool.true_or,Bool.or_true, *]),rfl⟩)
theorem CP (s:ByteArray) (w:World):Calls Tryz.prog 141 #[.string s] w fun e w'=>e=.returned (.bool (mT s.data.toList))∧w=w':=by
 rw[←Lib.toList_data];go_enter Tryz.func141,Tryz.ntmps141
 go_wp2
 all_goals first
  | (go_ret;rename_i ha hb;rw[ha] at hb;cases hb;done)
  | (go_ret;exact⟨iI (by simp only[mT,signs,Ki,Kl,Bool.or_false,Bool.true_or,Bool.or_true, *]),rfl⟩)
end Go.Proofs.YteflkdlaoiijbaaGreatDoor
