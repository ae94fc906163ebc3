/- Parts of the proof. -/
import Derived.Deep.LoopGhost
import Derived.Laws.IdiomStrings
import Derived.Laws.OwnMore
import Derived.Laws.AppendOwn
import Derived.OwnWalk
import Derived.Test.YteflkdlaoiijbaaGreatDoorK01
set_option maxHeartbeats 16000000
set_option maxRecDepth 20000
namespace Go.Proofs.YteflkdlaoiijbaaGreatDoor
open Go.RowKit
theorem iL {a b:Bool} (h:a=b):Ending.returned (.bool a)=.returned (.bool b):=by rw[h]
theorem Ad (c:UInt8) (r:Bool) (w:World) (h:sZ c=r):Calls Tryz.prog 70 #[.int .u8 (c.toNat:Int)] w fun e w'=>e=.returned (.bool r)∧w=w':=by
 subst h;unfold sZ;have hc:=c.toNat_lt;generalize c.toNat=n at *;go_enter Tryz.func70,Tryz.ntmps70
 go_wp2
 all_goals go_ret
 all_goals exact⟨iL (by unfold ya;rw[mJ];simp;omega),rfl⟩
theorem ia (c:UInt8) (r:Bool) (w:World) (h:vS c=r):Calls Tryz.prog 73 #[.int .u8 (c.toNat:Int)] w fun e w'=>e=.returned (.bool r)∧w=w':=by
 subst h;unfold vS;have hc:=c.toNat_lt;generalize c.toNat=n at *;go_enter Tryz.func73,Tryz.ntmps73
 go_wp2
 all_goals go_ret
 all_goals exact⟨iL (by rw[mJ];simp;omega),rfl⟩
theorem fM (c:UInt8) (r:Bool) (w:World) (h:gr c=r):Calls Tryz.prog 75 #[.int .u8 (c.toNat:Int)] w fun e w'=>e=.returned (.bool r)∧w=w':=by
 subst h;unfold gr;have hc:=c.toNat_lt;generalize c.toNat=n at *;go_enter Tryz.func75,Tryz.ntmps75
 go_wp2
 all_goals go_ret
 all_goals exact⟨iL (by rw[mJ];simp;omega),rfl⟩
theorem uh (c:UInt8) (r:Bool) (w:World) (h:Ew c=r):Calls Tryz.prog 78 #[.int .u8 (c.toNat:Int)] w fun e w'=>e=.returned (.bool r)∧w=w':=by
 subst h;unfold Ew;have hc:=c.toNat_lt;generalize c.toNat=n at *;go_enter Tryz.func78,Tryz.ntmps78
 go_wp2
 all_goals go_ret
 all_goals exact⟨iL (by rw[mJ];simp;omega),rfl⟩
theorem tw (c:UInt8) (r:Bool) (w:World) (h:mP c=r):Calls Tryz.prog 134 #[.int .u8 (c.toNat:Int)] w fun e w'=>e=.returned (.bool r)∧w=w':=by
 unfold mP at h;cases e1:vS c<;>cases e2:gr c<;>rw[e1,e2] at h<;>subst h <;>
  (have L1:=aa (fun W=>ia c _ W e1)
   have L2:=aa (fun W=>fM c _ W e2)
   clear e1 e2;go_enter Tryz.func134,Tryz.ntmps134
   go_wp2_with (first
    | (go_at_call 73;refine(L1.out _).mono ?_;rintro e w' ⟨rfl,rfl⟩)
    | (go_at_call 75;refine(L2.out _).mono ?_;rintro e w' ⟨rfl,rfl⟩))
   go_ret
   exact⟨rfl,rfl⟩)
theorem wK (c:UInt8) (r:Bool) (w:World) (h:o7 c=r):Calls Tryz.prog 77 #[.int .u8 (c.toNat:Int)] w fun e w'=>e=.returned (.bool r)∧w=w':=by
 unfold o7 at h;cases e1:mP c<;>rw[e1] at h
 ·have L1:=aa (fun W=>tw c _ W e1)
  clear e1;subst h;go_enter Tryz.func77,Tryz.ntmps77
  go_wp2_with (go_at_call 134;refine(L1.out _).mono ?_;rintro e w' ⟨rfl,rfl⟩)
  go_ret
  exact⟨iL (by rw[mJ];simp;omega),rfl⟩
 ·have L1:=aa (fun W=>tw c _ W e1)
  clear e1;subst h;go_enter Tryz.func77,Tryz.ntmps77
  go_wp2_with (go_at_call 134;refine(L1.out _).mono ?_;rintro e w' ⟨rfl,rfl⟩)
  go_ret
  exact⟨rfl,rfl⟩
theorem KH (c:UInt8) (r:Bool) (w:World) (h:zo c=r):Calls Tryz.prog 173 #[.int .u8 (c.toNat:Int)] w fun e w'=>e=.returned (.bool r)∧w=w':=by
 unfold zo at h;cases e1:gr c<;>rw[e1] at h
 ·have L1:=aa (fun W=>fM c _ W e1)
  clear e1;subst h;have hc:=c.toNat_lt;generalize c.toNat=n at *;go_enter Tryz.func173,Tryz.ntmps173
  go_wp2_with (go_at_call 75;refine(L1.out _).mono ?_;rintro e w' ⟨rfl,rfl⟩)
  all_goals go_ret
  all_goals exact⟨iL (by rw[mJ];simp;omega),rfl⟩
 ·have L1:=aa (fun W=>fM c _ W e1)
  clear e1;subst h;go_enter Tryz.func173,Tryz.ntmps173
  go_wp2_with (go_at_call 75;refine(L1.out _).mono ?_;rintro e w' ⟨rfl,rfl⟩)
  go_ret
  exact⟨rfl,rfl⟩
def aR (s:ByteArray) (k:Nat):List UInt8:=s.data.toList.drop k
theorem df (s:ByteArray) (k:Nat):(s.extract k s.size).data.toList=aR s k:=yi s k
theorem fR (s:ByteArray) (k:Nat):(aR s k).length=s.size-k:=by unfold aR;rw[kL,←Lib.size_eq]
theorem eV (s:ByteArray) (k c:Nat):(aR s k).drop c=aR s (k+c):=by unfold aR;rw[List.drop_drop]
theorem eW (s:ByteArray) (k c:Nat):(s.extract k (k+c)).data.toList=(aR s k).take c:=lI s k c
theorem aE (s:ByteArray) (k:Nat) (h:k≤s.size):(s.extract k s.size).size=s.size-k:=by rw[tN];omega
theorem yk (l:List UInt8):(⟨l.toArray⟩:ByteArray).data.toList=l:=rfl
theorem Ez (l:List UInt8):(⟨l.toArray⟩:ByteArray).size=l.length:=by show l.toArray.size=_;simp
theorem Qv {s:ByteArray} {l:List UInt8} (h:s.data.toList=l):s=⟨l.toArray⟩:=by subst h;rfl
theorem ui {a b:Int} (h:a=b):Ending.returned (.int .i64 a)=.returned (.int .i64 b):=by rw[h]
theorem sE (s:ByteArray) (w:World) (hs:s.size≤100000):Calls Tryz.prog 138 #[.string s] w fun e w'=>e=.returned (.int .i64 (opn s.data.toList:Int))∧w=w':=by
 obtain⟨n,hn⟩ :∃n:Nat,n=opn s.data.toList:=⟨_,rfl⟩;rw[←hn];unfold opn at hn;obtain⟨t1,Zg⟩ :∃t:ByteArray,t=⟨(Lib.trimPrefix s.data.toList [91]).toArray⟩:=⟨_,rfl⟩;cases e1:Lib.hasPrefix s.data.toList [91]
 ·have C1:=aa (fun W=>rh s ⟨#[91]⟩ W)
  rw[show(⟨#[91]⟩:ByteArray).data.toList=[91] from rfl,e1,←Zg] at C1
  rw[e1] at hn;have HN:=aa hn;clear hn e1 Zg;go_enter Tryz.func138,Tryz.ntmps138
  go_wp2_with (go_at_call 174;refine(C1.out _).mono ?_;rintro e w' ⟨rfl,rfl⟩)
  go_ret
  exact⟨ui (by rw[HN.out];rfl),rfl⟩
 ·have C1:=aa (fun W=>rh s ⟨#[91]⟩ W)
  rw[show(⟨#[91]⟩:ByteArray).data.toList=[91] from rfl,e1,←Zg] at C1
  have Qw:t1.data.toList=s.data.toList.drop 1:=by rw[Zg];show Lib.trimPrefix s.data.toList [91]=_;unfold Lib.trimPrefix;rw[al e1];rfl
  rw[e1,al rfl,←Qw] at hn;obtain⟨t2,ZZ⟩ :∃t:ByteArray,t=⟨(Lib.trimLeftB t1.data.toList 61).toArray⟩:=⟨_,rfl⟩;have C2:=aa (fun W=>Kz t1 W)
  rw[←ZZ] at C2;rw[show Lib.trimLeftB t1.data.toList 61=t2.data.toList by rw[ZZ]] at hn
  obtain⟨t3,Z0⟩ :∃t:ByteArray,t=⟨(Lib.trimPrefix t2.data.toList [91]).toArray⟩:=⟨_,rfl⟩;have C3:=aa (fun W=>rh t2 ⟨#[91]⟩ W)
  cases e2:Lib.hasPrefix t2.data.toList [91]
  ·rw[show(⟨#[91]⟩:ByteArray).data.toList=[91] from rfl,e2,←Z0] at C3
   rw[e2] at hn;have HN:=aa hn;clear hn e1 e2 Zg ZZ Z0 Qw;go_enter Tryz.func138,Tryz.ntmps138
   go_wp2_with fail
   refine(C1.out _).mono ?_;rintro e w' ⟨rfl,rfl⟩;go_wp2_with fail
   refine(C2.out _).mono ?_;rintro e w' ⟨rfl,rfl⟩;go_wp2_with fail
   refine(C3.out _).mono ?_;rintro e w' ⟨rfl,rfl⟩;go_wp2_with fail
   go_ret
   exact⟨ui (by rw[HN.out];rfl),rfl⟩
  ·rw[show(⟨#[91]⟩:ByteArray).data.toList=[91] from rfl,e2,←Z0] at C3
   have VW:t3.data.toList=t2.data.toList.drop 1:=by rw[Z0];show Lib.trimPrefix t2.data.toList [91]=_;unfold Lib.trimPrefix;rw[al e2];rfl
   rw[e2,al rfl,←VW,←Lib.size_eq,←Lib.size_eq] at hn;have hle:t3.size≤s.size:=by
    rw[Lib.size_eq,VW,ZZ,yk,Qw,Lib.size_eq s,kL];have h1:=(D9 (fun x=>x == 61) (l:=s.data.toList.drop 1)).length_le
    rw[kL] at h1;unfold Lib.trimLeftB;omega
   have HN:=aa hn;clear hn e1 e2 Zg ZZ Z0 Qw VW;go_enter Tryz.func138,Tryz.ntmps138
   go_wp2_with fail
   refine(C1.out _).mono ?_;rintro e w' ⟨rfl,rfl⟩;go_wp2_with fail
   refine(C2.out _).mono ?_;rintro e w' ⟨rfl,rfl⟩;go_wp2_with fail
   refine(C3.out _).mono ?_;rintro e w' ⟨rfl,rfl⟩;go_wp2_with fail
   go_ret
   exact⟨ui (by rw[HN.out];omega),rfl⟩
theorem nT (s:ByteArray) (r:Bool) (w:World) (hs:s.size≤100000) (h:decide (0<opn s.data.toList)=r):Calls Tryz.prog 80 #[.string s] w fun e w'=>e=.returned (.bool r)∧w=w':=by
 have C:=aa (fun W=>sE s W hs)
 generalize opn s.data.toList=n at *;go_enter Tryz.func80,Tryz.ntmps80
 go_wp2_with (go_at_call 138;refine(C.out _).mono ?_;rintro e w' ⟨rfl,rfl⟩)
 go_ret
 exact⟨rfl,rfl⟩
theorem KI {l sep:List UInt8} {t r:List UInt8} (h:Lib.cut l sep=(t,r,true)):t.length+sep.length≤l.length∧r=l.drop (t.length+sep.length):=by
 unfold Lib.cut at h;by_cases h0:0≤Lib.index l sep
 ·rw[al h0] at h
  injection h with h1 h2;injection h2 with h2 _;have hr:=Lib.index_room l sep h0;have hlen:t.length=(Lib.index l sep).toNat:=by rw[←h1,mc];omega
  rw[hlen];exact⟨by omega,h2.symm⟩
 ·rw[af h0] at h
  injection h with _ h2;injection h2 with _ h3;cases h3
def jz (b:Nat) (s:ByteArray) (k:Nat) (w:World) (o:Option (List UInt8×List UInt8)) (e:Ending) (w':World):Prop :=
 Kp b w w'∧match o with
  | some (t,r)=>∃k',e=.returned (.tuple #[.string ⟨t.toArray⟩,.bool true])∧Rd w' b s k'∧aR s k'=r∧k<k'
  | none=>e=.returned (.tuple #[.string ⟨#[]⟩,.bool false])
theorem jz.nU {b:Nat} {s:ByteArray} {k:Nat} {w w':World} {t r:List UInt8} {e:Ending} (h:jz b s k w (some (t,r)) e w') :∃k',e=.returned (.tuple #[.string ⟨t.toArray⟩,.bool true])∧Rd w' b s k'∧aR s k'=r∧k<k'∧Kp b w w':=by
 obtain⟨h0,k',h1,h2,h3,h4⟩:=h;exact⟨k',h1,h2,h3,h4,h0⟩
theorem jz.nV {b:Nat} {s:ByteArray} {k:Nat} {w w':World} {e:Ending} (h:jz b s k w none e w'):e=.returned (.tuple #[.string ⟨#[]⟩,.bool false])∧Kp b w w':=⟨h.2,h.1⟩
theorem oJ (b:Nat) (s:ByteArray) (k:Nat) (w:World) (h:Rd w b s k) (hp:0<opn (aR s k)):Calls Tryz.prog 81 #[.pointer (some ⟨b,0,none⟩)] w (jz b s k w (JC (aR s k))):=by
 have bG:=h.top;have hle:=h.le;have HR:=aa h;clear h;obtain⟨n,hn⟩ :∃n:Nat,n=opn (aR s k):=⟨_,rfl⟩;have jl:=VN (aR s k);rw[←hn,fR] at jl;rw[←hn] at hp;have C1:=aa (fun W=>sE (s.extract k s.size) W (by rw[aE s k hle];omega))
 rw[df,←hn] at C1;obtain⟨cl,Cs⟩ :∃cl:ByteArray,cl=⟨(ZU (s.extract k (k+n)).data.toList).toArray⟩:=⟨_,rfl⟩;have C2:=aa (fun W hW=>Gv (s.extract k (k+n)) W (by rw[tN];omega) hW)
 rw[←Cs] at C2;have hb:JC (aR s k)=if (Lib.cut (aR s (k+n)) cl.data.toList).2.2 then some (Lib.trimPrefix (Lib.cut (aR s (k+n)) cl.data.toList).1 [10],(Lib.cut (aR s (k+n)) cl.data.toList).2.1) else none:=by
  unfold JC;rw[←hn,Cs,yk,eW,eV]
 have C3:=aa (fun W hW=>Ac (s.extract (k+n) s.size) cl W (by rw[aE s _ (by omega)];omega) hW)
 rw[df] at C3;obtain⟨a,r,o,hq⟩ :∃a r o,Lib.cut (aR s (k+n)) cl.data.toList=(a,r,o):=⟨_,_,_,rfl⟩;rw[hq] at C3 hb;obtain⟨A,hA⟩ :∃A:ByteArray,A=⟨a.toArray⟩:=⟨_,rfl⟩;obtain⟨R,hR⟩ :∃R:ByteArray,R=⟨r.toArray⟩:=⟨_,rfl⟩;simp only[←hA,←hR] at C3;cases o
 ·have HB:=aa hb
  clear hn Cs hq hA hR hb;go_enter Tryz.func81,Tryz.ntmps81
  go_wp2_with fail
  refine(az _ _ _ _ HR.out).mono ?_;rintro e w1 ⟨rfl,r1,k1⟩;have R1:=aa r1;have K1:=aa k1;clear r1 k1;go_wp2_with fail
  refine(C1.out _).mono ?_;rintro e Cj ⟨rfl,rfl⟩;go_wp2_with fail
  refine(bx _ _ _ _ _ R1.out (by omega)).mono ?_;rintro e w2 ⟨rfl,r2,k2⟩
  have R2:=aa r2;have K2:=aa (K1.out.trans k2);clear r2 k2;go_wp2_with fail
  refine(C2.out _ R2.out.mx).mono ?_;rintro e w3 ⟨rfl,b3⟩;have R3:=aa (R2.out.below b3);have K3:=aa (K2.out.trans (Kp.ae b3));clear b3;go_wp2_with fail
  refine(az _ _ _ _ R3.out).mono ?_;rintro e w4 ⟨rfl,r4,k4⟩;have R4:=aa r4;have K4:=aa (K3.out.trans k4);clear r4 k4;go_wp2_with fail
  refine(C3.out _ R4.out.mx).mono ?_;rintro e w5 ⟨rfl,n5,rfl⟩;go_wp2_with fail
  go_ret2
  refine⟨K4.out.draws _,?_⟩;rw[HB.out];rfl
 ·obtain⟨hroom,hr⟩:=KI hq
  rw[fR,←Lib.size_eq] at hroom;rw[eV,←Lib.size_eq] at hr;have Zh:A.size=a.length:=by rw[hA,Ez]
  have C4:=aa (fun W=>KC A W)
  rw[hA,yk,←hA] at C4;obtain⟨T,hT⟩ :∃T:ByteArray,T=⟨(Lib.trimPrefix a [10]).toArray⟩:=⟨_,rfl⟩;rw[←hT] at C4;rw[←Zh] at hroom hr;have HB:=aa hb;have HE:=aa hr;have HT:=aa hT;clear hn Cs hq hA hR hb hr Zh hT;go_enter Tryz.func81,Tryz.ntmps81
  go_wp2_with fail
  refine(az _ _ _ _ HR.out).mono ?_;rintro e w1 ⟨rfl,r1,k1⟩;have R1:=aa r1;have K1:=aa k1;clear r1 k1;go_wp2_with fail
  refine(C1.out _).mono ?_;rintro e Cj ⟨rfl,rfl⟩;go_wp2_with fail
  refine(bx _ _ _ _ _ R1.out (by omega)).mono ?_;rintro e w2 ⟨rfl,r2,k2⟩
  have R2:=aa r2;have K2:=aa (K1.out.trans k2);clear r2 k2;go_wp2_with fail
  refine(C2.out _ R2.out.mx).mono ?_;rintro e w3 ⟨rfl,b3⟩;have R3:=aa (R2.out.below b3);have K3:=aa (K2.out.trans (Kp.ae b3));clear b3;go_wp2_with fail
  refine(az _ _ _ _ R3.out).mono ?_;rintro e w4 ⟨rfl,r4,k4⟩;have R4:=aa r4;have K4:=aa (K3.out.trans k4);clear r4 k4;go_wp2_with fail
  refine(C3.out _ R4.out.mx).mono ?_;rintro e w5 ⟨rfl,n5,rfl⟩;have R5:=aa (R4.out.draws n5);have K5:=aa (K4.out.draws n5);generalize w4.drewN n5=w5 at *;have EA:=fun W h=>bx b s (k+n) (A.size+cl.size) W h (by omega)
  rw[show((A.size+cl.size:Nat):Int)=(A.size:Int)+(cl.size:Int) by omega] at EA
  have C6:=aa EA;clear EA;go_wp2_with fail
  refine(C6.out _ R5.out).mono ?_;rintro e w6 ⟨rfl,r6,k6⟩;have R6:=aa r6;have K6:=aa (K5.out.trans k6);clear r6 k6;go_wp2_with fail
  refine(C4.out _).mono ?_;rintro e w6' ⟨rfl,rfl⟩;go_wp2_with fail
  go_ret2
  refine⟨K6.out,?_⟩;rw[HB.out];exact⟨_,by rw[HT.out];rfl,R6.out,HE.out.symm,by omega⟩
theorem mT {p:UInt8→Bool} {l:List UInt8} {k:Nat} {c:UInt8} (h:k≤runN p l) (hc:l[k]? = some c) (hp:p c=true):k+1≤runN p l:=by
 induction l generalizing k with
 | nil=>simp at hc
 | cons a t ih =>
  unfold runN at *;cases k with
  | zero =>
   simp at hc;subst hc;simp[hp]
  | succ k =>
   cases e:p a
   ·simp[e] at h
   ·simp[e] at h ⊢
    exact ih h (by simpa using hc)
theorem mV {p:UInt8→Bool} {l:List UInt8} {k:Nat} {c:UInt8} (h:k≤runN p l) (hc:l[k]? = some c) (hp:p c=false):k=runN p l:=by
 induction l generalizing k with
 | nil=>simp at hc
 | cons a t ih =>
  unfold runN at *;cases k with
  | zero =>
   simp at hc;subst hc;simp[hp]
  | succ k =>
   cases e:p a
   ·simp[e] at h
   ·simp[e] at h ⊢
    exact ih h (by simpa using hc)
theorem iw {a b:Int} (h:a=b):Ending.returned (.int .i64 a)=.returned (.int .i64 b):=by rw[h]
theorem wL (s:ByteArray) (w:World) (hs:s.size≤100000):Calls Tryz.prog 68 #[.string s,.func (.func 70) #[] #[]] w fun e w'=>e=.returned (.int .i64 (runN sZ s.data.toList:Int))∧w=w':=by
 have hle:runN sZ s.data.toList≤s.size:=by
  have:=hJ sZ s.data.toList;rwa[←Lib.size_eq] at this
 obtain⟨m,hm⟩ :∃m:Nat,m=runN sZ s.data.toList:=⟨_,rfl⟩;rw[←hm] at hle ⊢;have HM:=aa hm;clear hm;go_enter Tryz.func68,Tryz.ntmps68
 go_wp2_with fail
 go_loop [5] (fun i=>∃k:Nat,k≤m∧i=.int .i64 k) (fun i=>s.size-(intOf i).toNat)
 case atStart=>exact⟨0,bB _,rfl⟩
 case round =>
  obtain⟨k,hk,rfl⟩:=hrel;by_cases hlt:k<s.size
  ·have hg:s.data.toList[k]? = some s[k]:=bE (l:=s.data.toList) (i:=k) (by simpa using hlt)
   cases e:sZ s[k]
   ·have j4:=mV (by rw[←HM.out];exact hk) hg e
    have HK:=aa (fun W=>Ad s[k] _ W e)
    clear hg e;have HS:=aa (j4.trans HM.out.symm);clear j4;go_wp2_with (go_at_call 70;refine(HK.out _).mono ?_;rintro e w' ⟨rfl,rfl⟩)
    go_ret
    exact⟨iw (by rw[HS.out]),rfl⟩
   ·have gi:=mT (by rw[←HM.out];exact hk) hg e
    have HK:=aa (fun W=>Ad s[k] _ W e)
    clear hg e;rw[←HM.out] at gi;go_wp2_with (go_at_call 70;refine(HK.out _).mono ?_;rintro e w' ⟨rfl,rfl⟩)
    go_round
    case rel=>exact⟨k+1,gi,by go_num⟩
    case measure=>simp[intOf];omega
  ·have xY:k=m:=by omega
   go_wp2_with fail
   go_ret
   exact⟨iw (by omega),rfl⟩
theorem KJ (s:ByteArray) (w:World) (hs:s.size≤100000):Calls Tryz.prog 68 #[.string s,.func (.func 134) #[] #[]] w fun e w'=>e=.returned (.int .i64 (runN mP s.data.toList:Int))∧w=w':=by
 have hle:runN mP s.data.toList≤s.size:=by
  have:=hJ mP s.data.toList;rwa[←Lib.size_eq] at this
 obtain⟨m,hm⟩ :∃m:Nat,m=runN mP s.data.toList:=⟨_,rfl⟩;rw[←hm] at hle ⊢;have HM:=aa hm;clear hm;go_enter Tryz.func68,Tryz.ntmps68
 go_wp2_with fail
 go_loop [5] (fun i=>∃k:Nat,k≤m∧i=.int .i64 k) (fun i=>s.size-(intOf i).toNat)
 case atStart=>exact⟨0,bB _,rfl⟩
 case round =>
  obtain⟨k,hk,rfl⟩:=hrel;by_cases hlt:k<s.size
  ·have hg:s.data.toList[k]? = some s[k]:=bE (l:=s.data.toList) (i:=k) (by simpa using hlt)
   cases e:mP s[k]
   ·have j4:=mV (by rw[←HM.out];exact hk) hg e
    have HK:=aa (fun W=>tw s[k] _ W e)
    clear hg e;have HS:=aa (j4.trans HM.out.symm);clear j4;go_wp2_with (go_at_call 134;refine(HK.out _).mono ?_;rintro e w' ⟨rfl,rfl⟩)
    go_ret
    exact⟨iw (by rw[HS.out]),rfl⟩
   ·have gi:=mT (by rw[←HM.out];exact hk) hg e
    have HK:=aa (fun W=>tw s[k] _ W e)
    clear hg e;rw[←HM.out] at gi;go_wp2_with (go_at_call 134;refine(HK.out _).mono ?_;rintro e w' ⟨rfl,rfl⟩)
    go_round
    case rel=>exact⟨k+1,gi,by go_num⟩
    case measure=>simp[intOf];omega
  ·have xY:k=m:=by omega
   go_wp2_with fail
   go_ret
   exact⟨iw (by omega),rfl⟩
theorem uj (s:ByteArray) (w:World) (hs:s.size≤100000):Calls Tryz.prog 68 #[.string s,.func (.func 77) #[] #[]] w fun e w'=>e=.returned (.int .i64 (runN o7 s.data.toList:Int))∧w=w':=by
 have hle:runN o7 s.data.toList≤s.size:=by
  have:=hJ o7 s.data.toList;rwa[←Lib.size_eq] at this
 obtain⟨m,hm⟩ :∃m:Nat,m=runN o7 s.data.toList:=⟨_,rfl⟩;rw[←hm] at hle ⊢;have HM:=aa hm;clear hm;go_enter Tryz.func68,Tryz.ntmps68
 go_wp2_with fail
 go_loop [5] (fun i=>∃k:Nat,k≤m∧i=.int .i64 k) (fun i=>s.size-(intOf i).toNat)
 case atStart=>exact⟨0,bB _,rfl⟩
 case round =>
  obtain⟨k,hk,rfl⟩:=hrel;by_cases hlt:k<s.size
  ·have hg:s.data.toList[k]? = some s[k]:=bE (l:=s.data.toList) (i:=k) (by simpa using hlt)
   cases e:o7 s[k]
   ·have j4:=mV (by rw[←HM.out];exact hk) hg e
    have HK:=aa (fun W=>wK s[k] _ W e)
    clear hg e;have HS:=aa (j4.trans HM.out.symm);clear j4;go_wp2_with (go_at_call 77;refine(HK.out _).mono ?_;rintro e w' ⟨rfl,rfl⟩)
    go_ret
    exact⟨iw (by rw[HS.out]),rfl⟩
   ·have gi:=mT (by rw[←HM.out];exact hk) hg e
    have HK:=aa (fun W=>wK s[k] _ W e)
    clear hg e;rw[←HM.out] at gi;go_wp2_with (go_at_call 77;refine(HK.out _).mono ?_;rintro e w' ⟨rfl,rfl⟩)
    go_round
    case rel=>exact⟨k+1,gi,by go_num⟩
    case measure=>simp[intOf];omega
  ·have xY:k=m:=by omega
   go_wp2_with fail
   go_ret
   exact⟨iw (by omega),rfl⟩
theorem Gx (s:ByteArray) (w:World) (hs:s.size≤100000):Calls Tryz.prog 68 #[.string s,.func (.func 75) #[] #[]] w fun e w'=>e=.returned (.int .i64 (runN gr s.data.toList:Int))∧w=w':=by
 have hle:runN gr s.data.toList≤s.size:=by
  have:=hJ gr s.data.toList;rwa[←Lib.size_eq] at this
 obtain⟨m,hm⟩ :∃m:Nat,m=runN gr s.data.toList:=⟨_,rfl⟩;rw[←hm] at hle ⊢;have HM:=aa hm;clear hm;go_enter Tryz.func68,Tryz.ntmps68
 go_wp2_with fail
 go_loop [5] (fun i=>∃k:Nat,k≤m∧i=.int .i64 k) (fun i=>s.size-(intOf i).toNat)
 case atStart=>exact⟨0,bB _,rfl⟩
 case round =>
  obtain⟨k,hk,rfl⟩:=hrel;by_cases hlt:k<s.size
  ·have hg:s.data.toList[k]? = some s[k]:=bE (l:=s.data.toList) (i:=k) (by simpa using hlt)
   cases e:gr s[k]
   ·have j4:=mV (by rw[←HM.out];exact hk) hg e
    have HK:=aa (fun W=>fM s[k] _ W e)
    clear hg e;have HS:=aa (j4.trans HM.out.symm);clear j4;go_wp2_with (go_at_call 75;refine(HK.out _).mono ?_;rintro e w' ⟨rfl,rfl⟩)
    go_ret
    exact⟨iw (by rw[HS.out]),rfl⟩
   ·have gi:=mT (by rw[←HM.out];exact hk) hg e
    have HK:=aa (fun W=>fM s[k] _ W e)
    clear hg e;rw[←HM.out] at gi;go_wp2_with (go_at_call 75;refine(HK.out _).mono ?_;rintro e w' ⟨rfl,rfl⟩)
    go_round
    case rel=>exact⟨k+1,gi,by go_num⟩
    case measure=>simp[intOf];omega
  ·have xY:k=m:=by omega
   go_wp2_with fail
   go_ret
   exact⟨iw (by omega),rfl⟩
theorem Qx (s:ByteArray) (w:World) (hs:s.size≤100000):Calls Tryz.prog 68 #[.string s,.func (.func 173) #[] #[]] w fun e w'=>e=.returned (.int .i64 (runN zo s.data.toList:Int))∧w=w':=by
 have hle:runN zo s.data.toList≤s.size:=by
  have:=hJ zo s.data.toList;rwa[←Lib.size_eq] at this
 obtain⟨m,hm⟩ :∃m:Nat,m=runN zo s.data.toList:=⟨_,rfl⟩;rw[←hm] at hle ⊢;have HM:=aa hm;clear hm;go_enter Tryz.func68,Tryz.ntmps68
 go_wp2_with fail
 go_loop [5] (fun i=>∃k:Nat,k≤m∧i=.int .i64 k) (fun i=>s.size-(intOf i).toNat)
 case atStart=>exact⟨0,bB _,rfl⟩
 case round =>
  obtain⟨k,hk,rfl⟩:=hrel;by_cases hlt:k<s.size
  ·have hg:s.data.toList[k]? = some s[k]:=bE (l:=s.data.toList) (i:=k) (by simpa using hlt)
   cases e:zo s[k]
   ·have j4:=mV (by rw[←HM.out];exact hk) hg e
    have HK:=aa (fun W=>KH s[k] _ W e)
    clear hg e;have HS:=aa (j4.trans HM.out.symm);clear j4;go_wp2_with (go_at_call 173;refine(HK.out _).mono ?_;rintro e w' ⟨rfl,rfl⟩)
    go_ret
    exact⟨iw (by rw[HS.out]),rfl⟩
   ·have gi:=mT (by rw[←HM.out];exact hk) hg e
    have HK:=aa (fun W=>KH s[k] _ W e)
    clear hg e;rw[←HM.out] at gi;go_wp2_with (go_at_call 173;refine(HK.out _).mono ?_;rintro e w' ⟨rfl,rfl⟩)
    go_round
    case rel=>exact⟨k+1,gi,by go_num⟩
    case measure=>simp[intOf];omega
  ·have xY:k=m:=by omega
   go_wp2_with fail
   go_ret
   exact⟨iw (by omega),rfl⟩
theorem ao {b:Nat} {w u v:World} (h:Hid (Kp b w u)) (k:Kp b u v):Hid (Kp b w v):=aa (h.out.trans k)
def mW (b:Nat) (s:ByteArray) (k:Nat) (w:World) (o:Option (List UInt8)) (e:Ending) (w':World):Prop :=
 Kp b w w'∧match o with
  | some r=>∃k',e=.returned (.bool true)∧Rd w' b s k'∧aR s k'=r∧k<k'
  | none=>e=.returned (.bool false)
theorem mW.nU {b:Nat} {s:ByteArray} {k:Nat} {w w':World} {r:List UInt8} {e:Ending} (h:mW b s k w (some r) e w') :∃k',e=.returned (.bool true)∧Rd w' b s k'∧aR s k'=r∧k<k'∧Kp b w w':=by
 obtain⟨h0,k',h1,h2,h3,h4⟩:=h;exact⟨k',h1,h2,h3,h4,h0⟩
theorem mW.nV {b:Nat} {s:ByteArray} {k:Nat} {w w':World} {e:Ending} (h:mW b s k w none e w'):e=.returned (.bool false)∧Kp b w w':=⟨h.2,h.1⟩
theorem Ae (b:Nat) (s:ByteArray) (k:Nat) (w:World) (h:Rd w b s k) (hk:k+2≤s.size):Calls Tryz.prog 72 #[.pointer (some ⟨b,0,none⟩)] w (mW b s k w (comm (aR s (k+2)))):=by
 have bG:=h.top;have HR:=aa h;clear h;have T1:=aa (fun W h=>bx b s k 2 W h hk)
 by_cases hp:0<opn (aR s (k+2))
 ·have B1:=aa (fun W=>nT (s.extract (k+2) s.size) true W (by rw[aE s _ hk];omega) (by rw[df];exact bX hp))
  have K1:=aa (fun W h=>oJ b s (k+2) W h hp)
  have hc:comm (aR s (k+2))=(JC (aR s (k+2))).map (·.2):=by unfold comm;rw[al hp]
  cases hb:JC (aR s (k+2)) with
  | none =>
   rw[hb] at hc;have HC:=aa hc;rw[hb] at K1;clear hb hc hp;go_enter Tryz.func72,Tryz.ntmps72
   go_wp2_with fail
   refine(T1.out _ HR.out).mono ?_;rintro e w1 ⟨rfl,r1,k1⟩;have R1:=aa r1;have Z1:=aa k1;clear r1 k1;go_wp2_with fail
   refine(az _ _ _ _ R1.out).mono ?_;rintro e w2 ⟨rfl,r2,k2⟩;have R2:=aa r2;have Z3:=ao Z1 k2;clear r2 k2;go_wp2_with fail
   refine(B1.out _).mono ?_;rintro e KK ⟨rfl,rfl⟩;go_wp2_with fail
   refine(K1.out _ R2.out).mono ?_;intro e w3 Af;obtain⟨rfl,k3⟩:=Af.nV;clear Af;have Z5:=ao Z3 k3;clear k3;go_wp2_with fail
   go_ret
   refine⟨Z5.out,?_⟩;rw[HC.out];rfl
  | some z =>
   obtain⟨t,r⟩:=z;rw[hb] at hc;have HC:=aa hc;rw[hb] at K1;clear hb hc hp;go_enter Tryz.func72,Tryz.ntmps72
   go_wp2_with fail
   refine(T1.out _ HR.out).mono ?_;rintro e w1 ⟨rfl,r1,k1⟩;have R1:=aa r1;have Z1:=aa k1;clear r1 k1;go_wp2_with fail
   refine(az _ _ _ _ R1.out).mono ?_;rintro e w2 ⟨rfl,r2,k2⟩;have R2:=aa r2;have Z3:=ao Z1 k2;clear r2 k2;go_wp2_with fail
   refine(B1.out _).mono ?_;rintro e KK ⟨rfl,rfl⟩;go_wp2_with fail
   refine(K1.out _ R2.out).mono ?_;intro e w3 Af;obtain⟨k',rfl,r3,hr3,hlt,k3⟩:=Af.nU;clear Af;have R3:=aa r3;have Z5:=ao Z3 k3;have HE:=aa hr3;clear r3 k3 hr3;go_wp2_with fail
   go_ret
   refine⟨Z5.out,?_⟩;rw[HC.out];exact⟨k',rfl,R3.out,HE.out,by omega⟩
 ·have B1:=aa (fun W=>nT (s.extract (k+2) s.size) false W (by rw[aE s _ hk];omega) (by rw[df];exact bU hp))
  obtain⟨A,hA⟩ :∃A:ByteArray,A=⟨(Lib.cut (aR s (k+2)) [10]).1.toArray⟩:=⟨_,rfl⟩;obtain⟨R,hR⟩ :∃R:ByteArray,R=⟨(Lib.cut (aR s (k+2)) [10]).2.1.toArray⟩:=⟨_,rfl⟩;obtain⟨o,ho⟩ :∃o:Bool,o=(Lib.cut (aR s (k+2)) [10]).2.2:=⟨_,rfl⟩;have C1:=aa (fun W hW=>Ac (s.extract (k+2) s.size) ⟨#[10]⟩ W (by rw[aE s _ hk];omega) hW)
  rw[df,show(⟨#[10]⟩:ByteArray).data.toList=[10] from rfl,←hA,←hR,←ho] at C1
  have Zh:A.size=(Lib.cut (aR s (k+2)) [10]).1.length:=by rw[hA,Ez]
  have hc:comm (aR s (k+2))=some (aR s (k+2+A.size)):=by unfold comm;rw[af hp,←Zh,eV]
  have hAl:k+2+A.size≤s.size:=by
   rw[Zh,VO];have:=hJ (fun c=>c != 10) (aR s (k+2))
   rw[fR] at this;unfold runN at this;omega
  have HC:=aa hc;have T2:=aa (fun W h=>bx b s (k+2) A.size W h hAl)
  clear hA hR ho Zh hc hp;go_enter Tryz.func72,Tryz.ntmps72
  go_wp2_with fail
  refine(T1.out _ HR.out).mono ?_;rintro e w1 ⟨rfl,r1,k1⟩;have R1:=aa r1;have Z1:=aa k1;clear r1 k1;go_wp2_with fail
  refine(az _ _ _ _ R1.out).mono ?_;rintro e w2 ⟨rfl,r2,k2⟩;have R2:=aa r2;have Z3:=ao Z1 k2;clear r2 k2;go_wp2_with fail
  refine(B1.out _).mono ?_;rintro e KK ⟨rfl,rfl⟩;go_wp2_with fail
  refine(az _ _ _ _ R2.out).mono ?_;rintro e w3 ⟨rfl,r3,k3⟩;have R3:=aa r3;have Z5:=ao Z3 k3;clear r3 k3;go_wp2_with fail
  refine(C1.out _ R3.out.mx).mono ?_;rintro e w4 ⟨rfl,n4,rfl⟩;have R4:=aa (R3.out.draws n4);have KK4:=aa (Z5.out.draws n4);generalize w3.drewN n4=w4 at *;go_wp2_with fail
  refine(T2.out _ R4.out).mono ?_;rintro e w5 ⟨rfl,r5,k5⟩;have R5:=aa r5;have KK5:=ao KK4 k5;clear r5 k5;go_wp2_with fail
  go_ret
  refine⟨KK5.out,?_⟩;rw[HC.out];exact⟨_,rfl,R5.out,rfl,by omega⟩
def Ag (W:World) (v:Value) (n:Int):Prop:=∃g,v=.iface 83 (.pointer (some ⟨g,0,none⟩))∧W.heap[g]? = some (.cells #[.int .i64 n,.iface 79 (.int .i64 5)] 85 (0,0))
theorem kS (n:Int) (w:World):Calls Tryz.prog 31 #[.int .i64 n,.int .i64 5] w fun e w'=>e=.returned (.iface 83 (.pointer (some ⟨w.heap.size,0,none⟩)))∧w'=w.alloc (.cells #[.int .i64 n,.iface 79 (.int .i64 5)] 85):=by
 go_enter Tryz.func31,Tryz.ntmps31
 go_wp2
 go_ret
 exact⟨rfl,rfl⟩
theorem Ag.new (w:World) (n:Int):Ag (w.alloc (.cells #[.int .i64 n,.iface 79 (.int .i64 5)] 85)) (.iface 83 (.pointer (some ⟨w.heap.size,0,none⟩))) n:=⟨_,rfl,World.alloc_heap_new w _⟩
def dy (s:ByteArray):Int:=1+(nl s.data.toList:Int)
theorem jg (s:ByteArray) (k:Nat):((1+nl (s.data.toList.take k):Nat):Int)=dy s-nl (aR s k):=by
 unfold dy aR;have:=VM s.data.toList k;omega
def KL (b:Nat) (s:ByteArray) (k:Nat) (w:World) (e:Ending) (w':World):Prop :=
 Kp b w w'∧((∃k',e=.returned .nilIface∧Rd w' b s k'∧k≤k'∧mS (aR s k) (.ok (aR s k'))) ∨
  (∃r v,e=.returned v∧Ag w' v (dy s-nl r)∧mS (aR s k) (.error r)))
theorem KM {l:List UInt8} (h:Lib.hasPrefix l [45,45]=true):l=45::45::l.drop 2:=by
 match l with
 | []=>simp[Lib.hasPrefix] at h
 | [a]=>simp[Lib.hasPrefix] at h
 | a::b::t =>
  simp[Lib.hasPrefix,List.isPrefixOf] at h;simp[←h.1,←h.2]
theorem KN (b:Nat) (s:ByteArray) (k:Nat) (w:World) (h:Rd w b s k):Calls Tryz.prog 32 #[.pointer (some ⟨b,0,none⟩)] w (KL b s k w):=by
 have bG:=h.top;have hle:=h.le;have HR:=aa h;clear h;go_enter Tryz.func32,Tryz.ntmps32
 go_wp2_with fail
 go_loopg [] s.size (fun z wr=>∃k1,Rd wr b s k1∧s.size-k1≤z∧Kp b w wr∧k≤k1∧∀o,mS (aR s k1) o→mS (aR s k) o)
 case atStart=>exact⟨k,HR.out,by omega,Kp.refl _ _,ah _,fun _ h=>h⟩
 case round =>
  obtain⟨k1,hr,hz,Qy,jx,hsk⟩:=hrel;have Qz:=hr.le;have R0:=aa hr;have K0:=aa Qy;have HS:=aa hsk;clear hr Qy hsk;obtain⟨m,hm⟩ :∃m:Nat,m=runN sZ (aR s k1):=⟨_,rfl⟩;have C1:=aa (fun W=>wL (s.extract k1 s.size) W (by rw[aE s _ Qz];omega))
  rw[df,←hm] at C1;have zq:=hJ sZ (aR s k1);rw[fR,←hm] at zq;have Z6:(aR s k1).dropWhile sZ=aR s (k1+m):=by rw[←pX,←hm,eV]
  have HD:=aa Z6;clear hm Z6;cases uk:Lib.hasPrefix (aR s (k1+m)) [45,45]
  ·have P1:=aa (fun W=>lH (s.extract (k1+m) s.size) ⟨#[45,45]⟩ W false (by rw[df];exact uk))
   have HP:=aa uk;clear uk;go_wp2_with fail
   refine(az _ _ _ _ R0.out).mono ?_;rintro e w1 ⟨rfl,r1,Un⟩;have R1:=aa r1;have K1:=ao K0 Un;clear r1 Un;go_wp2_with fail
   refine(C1.out _).mono ?_;rintro e Cj ⟨rfl,rfl⟩;go_wp2_with fail
   refine(bx _ _ _ _ _ R1.out (by omega)).mono ?_;rintro e w2 ⟨rfl,r2,k2⟩
   have R2:=aa r2;have K2:=ao K1 k2;clear r2 k2;go_wp2_with fail
   refine(az _ _ _ _ R2.out).mono ?_;rintro e w3 ⟨rfl,r3,k3⟩;have R3:=aa r3;have K3:=ao K2 k3;clear r3 k3;go_wp2_with fail
   refine(P1.out _).mono ?_;rintro e w3' ⟨rfl,rfl⟩;go_wp2_with fail
   go_ret
   exact⟨K3.out,.inl ⟨_,rfl,R3.out,by omega,HS.out _ (.done HD.out HP.out)⟩⟩
  ·have P1:=aa (fun W=>lH (s.extract (k1+m) s.size) ⟨#[45,45]⟩ W true (by rw[df];exact uk))
   have h2:=KM uk;rw[eV] at h2;have hroom:k1+m+2≤s.size:=by
    have:=aB List.length h2;rw[fR,List.length_cons,List.length_cons] at this;omega
   have HP:=aa h2;clear uk h2;have CM:=aa (fun W h=>Ae b s (k1+m) W h hroom)
   cases hcm:comm (aR s (k1+m+2)) with
   | none =>
    rw[hcm] at CM;have HCM:=aa hcm;clear hcm;go_wp2_with fail
    refine(az _ _ _ _ R0.out).mono ?_;rintro e w1 ⟨rfl,r1,Un⟩;have R1:=aa r1;have K1:=ao K0 Un;clear r1 Un;go_wp2_with fail
    refine(C1.out _).mono ?_;rintro e Cj ⟨rfl,rfl⟩;go_wp2_with fail
    refine(bx _ _ _ _ _ R1.out (by omega)).mono ?_;rintro e w2 ⟨rfl,r2,k2⟩
    have R2:=aa r2;have K2:=ao K1 k2;clear r2 k2;go_wp2_with fail
    refine(az _ _ _ _ R2.out).mono ?_;rintro e w3 ⟨rfl,r3,k3⟩;have R3:=aa r3;have K3:=ao K2 k3;clear r3 k3;go_wp2_with fail
    refine(P1.out _).mono ?_;rintro e w3' ⟨rfl,rfl⟩;have c2:=R3.out.c2;rw[jg] at c2;generalize EB:dy s-(nl (aR s (k1+m)):Int)=line at c2;have HL:=aa EB;clear EB;go_wp2_with fail
    clear c2;refine(CM.out _ R3.out).mono ?_;intro e w4 fV;obtain⟨rfl,k4⟩:=fV.nV;have K4:=ao K3 k4;clear fV k4;go_wp2_with fail
    refine(kS _ _).mono ?_;rintro e w5 ⟨rfl,rfl⟩;go_wp2_with fail
    go_ret
    refine⟨K4.out.alloc _,.inr ⟨_,_,rfl,?_,HS.out _ (.bad (HD.out.trans HP.out) HCM.out)⟩⟩;rw[←HP.out,HL.out];exact Ag.new _ _
   | some r' =>
    rw[hcm] at CM;have HCM:=aa hcm;clear hcm;go_wp2_with fail
    refine(az _ _ _ _ R0.out).mono ?_;rintro e w1 ⟨rfl,r1,Un⟩;have R1:=aa r1;have K1:=ao K0 Un;clear r1 Un;go_wp2_with fail
    refine(C1.out _).mono ?_;rintro e Cj ⟨rfl,rfl⟩;go_wp2_with fail
    refine(bx _ _ _ _ _ R1.out (by omega)).mono ?_;rintro e w2 ⟨rfl,r2,k2⟩
    have R2:=aa r2;have K2:=ao K1 k2;clear r2 k2;go_wp2_with fail
    refine(az _ _ _ _ R2.out).mono ?_;rintro e w3 ⟨rfl,r3,k3⟩;have R3:=aa r3;have K3:=ao K2 k3;clear r3 k3;go_wp2_with fail
    refine(P1.out _).mono ?_;rintro e w3' ⟨rfl,rfl⟩;have c2:=R3.out.c2;rw[jg] at c2;generalize EB:dy s-(nl (aR s (k1+m)):Int)=line at c2;clear EB;go_wp2_with fail
    clear c2;refine(CM.out _ R3.out).mono ?_;intro e w4 fV;obtain⟨k',rfl,r4,hr4,hlt,k4⟩:=fV.nU;have R4:=aa r4;have K4:=ao K3 k4;have HE:=aa hr4;clear fV k4 r4 hr4;go_wp2_with fail
    go_roundg (s.size-k')
    case measure=>have:=R4.out.le;omega
    case rel=>exact⟨k',R4.out,ah _,K4.out,by omega,fun o ho=>HS.out o (.more (HD.out.trans HP.out) HCM.out (HE.out▸ho))⟩
theorem Ah {b:Nat} {l:List UInt8} (h:iK b l=true) {c:UInt8} (hc:c∈l):oI c.toNat<b:=by
 unfold iK at h;rw[List.all_eq_true] at h;simpa using h c hc
theorem KO {p:UInt8→Bool} (a b:List UInt8) (h :∀c∈a,p c=true):(a++b).dropWhile p=b.dropWhile p:=by
 induction a with
 | nil=>rfl
 | cons c t ih =>
  rw[iJ,List.dropWhile,h c (by simp)]
  exact ih fun x hx=>h x (by simp[hx])
theorem EC {p:UInt8→Bool} (a b:List UInt8) (ha:a≠[]) (h :∀c∈a,p c=false):(a++b).dropWhile p=a++b:=by
 cases a with
 | nil=>exact absurd rfl ha
 | cons c t=>rw[iJ,List.dropWhile,h c (by simp)]
theorem QA (p x q:List UInt8) (hp :∀c∈p,ya c.toNat=true) (hq :∀c∈q,ya c.toNat=true) (hx :∀c∈x,ya c.toNat=false) (hn:x≠[]):Ev (p++x++q)=x:=by
 rw[←wF];unfold Lib.trimLeftS Lib.trimRightS;have e1:List.dropWhile (fun y=>blanks.contains y) (p++x++q)=x++q:=by
  rw[fK,KO p (x++q) (fun c hc=>by rw[lE];exact hp c hc),EC x q hn (fun c hc=>by rw[lE];exact hx c hc)]
 rw[e1,List.reverse_append,KO q.reverse x.reverse (fun c hc=>by rw[lE];exact hq c (by simpa using hc))]
 have e2:=EC (p:=fun y=>blanks.contains y) x.reverse [] (by simpa using hn) (fun c hc=>by rw[lE];exact hx c (by simpa using hc))
 rw[jX] at e2;rw[e2,List.reverse_reverse]
theorem wM {b:Nat} {l d:List UInt8} (h2:2≤b) (h36:b≤36) (ht:Ev l=d) (h:yb d=false):kO b l=zn (Cy b d:Int)∧pV b l=sX b d:=by
 unfold kO pV;have e:Lib.trimPrefix d [45]=d:=by unfold Lib.trimPrefix;unfold yb at h;rw[h,af (by decide)]
 have hb:2≤(b:Int)∧(b:Int)≤36:=by omega
 have hm:¬ yb d=true:=by rw[h];decide
 rw[ht,al hb,al hb,af hm,e,iI];exact⟨rfl,rfl⟩
theorem VX {n:Int} (h0:-9223372036854775808≤n) (h1:n≤9223372036854775807):zn n=n:=by unfold zn;omega
theorem Gy (b:Nat) (l:List UInt8) :∀n:Nat,l.foldl (fun n c=>n*b+oI c.toNat) n=n*b ^ l.length+val b l:=by
 induction l with
 | nil=>intro n;simp[val]
 | cons c t ih =>
  intro n;have e:val b (c::t)=oI c.toNat*b ^ t.length+val b t:=by
   show t.foldl _ (0*b+oI c.toNat)=_
   rw[ih];simp
  rw[List.foldl_cons,ih,e,List.length_cons,Ek,Er,Nat.mul_assoc,El b,sw]
theorem KP (b:Nat) (c:UInt8) (l:List UInt8):val b (c::l)=oI c.toNat*b ^ l.length+val b l:=by
 show l.foldl _ (0*b+oI c.toNat)=_
 rw[Gy];simp
theorem KQ {b:Nat} (hb:b≤36) {l:List UInt8} (h:iK b l=true) :∀c∈l,ya c.toNat=false:=by
 intro c hc;have:=Ah h hc;unfold ya;rw[Bool.or_eq_false_iff,zC,zC];unfold oI at this;split at this
 ·omega
 ·split at this
  ·omega
  ·split at this<;>omega
theorem VY {b:Nat} (hb:b≤36) {l:List UInt8} (h:iK b l=true) (t:List UInt8) (hl:l≠[]):yb (l++t)=false:=by
 cases l with
 | nil=>exact absurd rfl hl
 | cons c r =>
  have h1:=Ah h (c:=c) (by simp)
  have hne:((45:UInt8) == c)=false:=by
   rw[aC];rintro rfl;have:oI (45:UInt8).toNat=36:=by decide
   omega
  simp[yb,Lib.hasPrefix,List.isPrefixOf,hne]
theorem VZ {x:List UInt8} (hx :∀c∈x,ya c.toNat=false) (hn:x≠[]):Ev x=x:=by
 have:=QA [] x [] (fun c hc=>by cases hc) (fun c hc=>by cases hc) hx hn
 simpa using this
def Bts (W:World) (v:Value) (m:List UInt8):Prop :=
 (v=.slice none 0 0∧m=[])∨(∃g x,m=[x]∧v=.slice (some ⟨g,0,none⟩) 1 1∧W.cell? ⟨g,0,none⟩=some (.int .u8 (x.toNat:Int)))
def bW (b:Nat) (s:ByteArray) (k:Nat) (w:World) (o:Option (List UInt8×List UInt8)) (e:Ending) (w':World):Prop :=
 Kp b w w'∧match o with
  | some (m,r)=>∃k' v,e=.returned (.tuple #[v,.bool true])∧Bts w' v m∧Rd w' b s k'∧aR s k'=r∧k≤k'
  | none=>e=.returned (.tuple #[.slice none 0 0,.bool false])
theorem um {b:Nat} (hb:2≤b) (hb':b≤36) {d:List UInt8} (hd:iK b d=true) (hl:d.length≤3):0≤kO b d:=by
 by_cases h0:d=[]
 ·subst h0
  have:=(wM (l:=[]) (d:=[]) hb hb' rfl rfl).1;rw[this];rw[x9 rfl];decide
 ·have ht:=VZ (KQ hb' hd) h0
  have hm:yb d=false:=by have:=VY hb' hd [] h0;rwa[jX] at this
  rw[(wM hb hb' ht hm).1,Cz (Ey h0 hd)];have hv:val b d<46657:=by
   have:val b d≤b ^ d.length:=by
    have h2 :∀(l:List UInt8),iK b l=true→val b l+1≤b ^ l.length:=by
     intro l;induction l with
     | nil=>intro _;simp[val]
     | cons c t ih =>
      intro h;simp only[iK,su,dj,iH] at h;rw[KP,List.length_cons,Ek];have i:=ih h.2;have h4:(oI c.toNat+1)*b ^ t.length≤b*b ^ t.length:=Eb _ (by omega)
      rw[Er,Es] at h4;rw[El (b ^ t.length) b];omega
    have:=h2 d hd;omega
   have h3:b ^ d.length≤36 ^ 3:=aM (Nat.pow_le_pow_left hb' _) (J1 (by omega) hl)
   have h4:(36:Nat) ^ 3=46656:=by decide
   omega
  rw[VX (by omega) (by omega)]
  omega
theorem Gz {p:UInt8→Bool} (l:List UInt8) (n:Nat) :∀c∈l.take (min n (runN p l)),p c=true:=by
 intro c hc;have h1:c∈l.take (runN p l):=(List.take_subset_take_left l (Nat.min_le_right n (runN p l))) hc;rw[pW] at h1;exact List.all_eq_true.1 List.all_takeWhile c h1
theorem V6 :∀c:UInt8,zo c=true→oI c.toNat<16:=CA (by decide +kernel)
theorem V7 :∀c:UInt8,gr c=true→oI c.toNat<10:=CA (by decide +kernel)
theorem wN {p:UInt8→Bool} {b:Nat} (h :∀c:UInt8,p c=true→oI c.toNat<b) (l:List UInt8) (n:Nat):iK b (l.take (min n (runN p l)))=true:=by
 unfold iK;rw[List.all_eq_true];intro c hc;exact bX (h c (Gz l n c hc))
theorem dS (w:World) (x:Int) (u:UInt8) (h:x=(u.toNat:Int)):Bts (w.alloc (.cells #[.int .u8 x] 5)) (.slice (some ⟨w.heap.size,0,none⟩) 1 1) [u]:=by
 refine .inr ⟨_,u,rfl,rfl,?_⟩;rw[←h];unfold World.cell?;rw[World.alloc_heap_new];rfl
theorem Uo {n:Int} (h0:0≤n) (h1:n≤255):n=((UInt8.ofNat n.toNat).toNat:Int):=by
 rw[UInt8.toNat_ofNat',Nat.mod_eq_of_lt (by omega)]
 omega
theorem KS (b:Nat) (s:ByteArray) (k:Nat) (w:World) (h:Rd w b s k) :
  Calls Tryz.prog 172 #[.pointer (some ⟨b,0,none⟩),.int .i64 16,.func (.func 173) #[] #[],.int .i64 2,.int .i64 2] w (bW b s k w (code 16 zo 2 2 (aR s k))):=by
 have bG:=h.top;have hle:=h.le;have HR:=aa h;clear h;obtain⟨m,hm⟩ :∃m:Nat,m=runN zo (aR s k):=⟨_,rfl⟩;have C1:=aa (fun W=>Qx (s.extract k s.size) W (by rw[aE s _ hle];omega))
 rw[df,←hm] at C1;have zq:=hJ zo (aR s k);rw[fR,←hm] at zq;have hall:=wN (p:=zo) (b:=16) V6 (aR s k) 2;rw[←hm] at hall;obtain⟨c,hc⟩ :∃c:Nat,c=min 2 m:=⟨_,rfl⟩;have hT :∀W,Rd W b s k→Calls Tryz.prog 67 #[.pointer (some ⟨b,0,none⟩),.int .i64 (min 2 (m:Int))] W fun e w'=>e=.returned (.string (s.extract k (k+c)))∧Rd w' b s (k+c)∧Kp b W w':=fun W h=>by
  have:=bx b s k c W h (by omega)
  rwa[show(c:Int)=min 2 (m:Int) by omega] at this
 have p9:code 16 zo 2 2 (aR s k)=if pV 16 (s.extract k (k+c)).data.toList=true∧2≤c∧kO 16 (s.extract k (k+c)).data.toList≤255 then some ([UInt8.ofNat (kO 16 (s.extract k (k+c)).data.toList).toNat],aR s (k+c)) else none:=by
  unfold code;rw[←hm,←hc,←eW,eV]
 rw[←hc,←eW] at hall;have ri:=um (b:=16) (by decide) (by decide) hall (by rw[eW,mc];omega)
 have V8:(s.extract k (k+c)).size=c:=by rw[tN];omega
 obtain⟨D,hD⟩ :∃D:ByteArray,D=s.extract k (k+c):=⟨_,rfl⟩;rw[←hD] at hT p9 ri V8;have C2:=aa hT;have C3:=aa (fun W=>Um D 16 W (by omega))
 obtain⟨N,hN⟩ :∃N:Int,N=kO 16 D.data.toList:=⟨_,rfl⟩;obtain⟨o,ho⟩ :∃o:Bool,o=pV 16 D.data.toList:=⟨_,rfl⟩;rw[show((16:Nat):Int)=(16:Int) from rfl] at ri
 rw[←hN] at ri;rw[←hN,←ho] at C3 p9;have HC:=aa p9;clear hm hall hT p9 hD hN ho;have Ai:o=false∨(o=true∧D.size<2)∨(o=true∧2≤D.size∧255<N)∨(o=true∧2≤D.size∧N≤255):=by
  cases o
  ·exact .inl rfl
  ·right
   by_cases h1:D.size<2
   ·exact .inl ⟨rfl,h1⟩
   ·right
    by_cases h2:255<N
    ·exact .inl ⟨rfl,by omega,h2⟩
    ·exact .inr ⟨rfl,by omega,by omega⟩
 rcases Ai with rfl | ⟨rfl,h1⟩ | ⟨rfl,h1,h2⟩ | ⟨rfl,h1,h2⟩;all_goals have Z7:=aa V8
 all_goals have HCm:=aa hc
 all_goals clear V8 hc
 ·go_enter Tryz.func172,Tryz.ntmps172
  go_wp2_with fail
  refine(az _ _ _ _ HR.out).mono ?_;rintro e w1 ⟨rfl,r1,k1⟩;have R1:=aa r1;have K1:=aa k1;clear r1 k1;go_wp2_with fail
  refine(C1.out _).mono ?_;rintro e Cj ⟨rfl,rfl⟩;go_wp2_with fail
  refine(C2.out _ R1.out).mono ?_;rintro e w2 ⟨rfl,r2,k2⟩;have R2:=aa r2;have K2:=ao K1 k2;clear r2 k2;go_wp2_with fail
  refine(C3.out _).mono ?_;rintro e w3 ⟨rfl,b3⟩;have K3:=ao K2 (Kp.ae b3);clear b3;go_wp2_with fail
  go_ret2
  refine⟨K3.out,?_⟩;rw[HC.out,af (by simp)]
  rfl
 ·have g1:decide (D.size<2)=true:=bX h1
  go_enter Tryz.func172,Tryz.ntmps172
  go_wp2_with fail
  refine(az _ _ _ _ HR.out).mono ?_;rintro e w1 ⟨rfl,r1,k1⟩;have R1:=aa r1;have K1:=aa k1;clear r1 k1;go_wp2_with fail
  refine(C1.out _).mono ?_;rintro e Cj ⟨rfl,rfl⟩;go_wp2_with fail
  refine(C2.out _ R1.out).mono ?_;rintro e w2 ⟨rfl,r2,k2⟩;have R2:=aa r2;have K2:=ao K1 k2;clear r2 k2;go_wp2_with fail
  refine(C3.out _).mono ?_;rintro e w3 ⟨rfl,b3⟩;have K3:=ao K2 (Kp.ae b3);clear b3;go_wp2_with fail
  go_ret2
  refine⟨K3.out,?_⟩;rw[HC.out,af (by have:=Z7.out;omega)]
  rfl
 ·have g1:decide (D.size<2)=false:=bU (by omega)
  have g2:decide (255<N)=true:=bX h2;go_enter Tryz.func172,Tryz.ntmps172
  go_wp2_with fail
  refine(az _ _ _ _ HR.out).mono ?_;rintro e w1 ⟨rfl,r1,k1⟩;have R1:=aa r1;have K1:=aa k1;clear r1 k1;go_wp2_with fail
  refine(C1.out _).mono ?_;rintro e Cj ⟨rfl,rfl⟩;go_wp2_with fail
  refine(C2.out _ R1.out).mono ?_;rintro e w2 ⟨rfl,r2,k2⟩;have R2:=aa r2;have K2:=ao K1 k2;clear r2 k2;go_wp2_with fail
  refine(C3.out _).mono ?_;rintro e w3 ⟨rfl,b3⟩;have K3:=ao K2 (Kp.ae b3);clear b3;go_wp2_with fail
  go_ret2
  refine⟨K3.out,?_⟩;rw[HC.out,af (by omega)]
  rfl
 ·have g1:decide (D.size<2)=false:=bU (by omega)
  have g2:decide (255<N)=false:=bU (by omega)
  go_enter Tryz.func172,Tryz.ntmps172
  go_wp2_with fail
  refine(az _ _ _ _ HR.out).mono ?_;rintro e w1 ⟨rfl,r1,k1⟩;have R1:=aa r1;have K1:=aa k1;clear r1 k1;go_wp2_with fail
  refine(C1.out _).mono ?_;rintro e Cj ⟨rfl,rfl⟩;go_wp2_with fail
  refine(C2.out _ R1.out).mono ?_;rintro e w2 ⟨rfl,r2,k2⟩;have R2:=aa r2;have K2:=ao K1 k2;clear r2 k2;go_wp2_with fail
  refine(C3.out _).mono ?_;rintro e w3 ⟨rfl,b3⟩;have R3:=aa (R2.out.below b3);have K3:=ao K2 (Kp.ae b3);clear b3;go_wp2_with fail
  go_ret2
  refine⟨K3.out.alloc _,?_⟩;rw[HC.out,al ⟨by trivial,by have:=Z7.out;omega,h2⟩]
  exact⟨_,_,rfl,dS _ _ _ (Uo ri h2),R3.out.alloc _,rfl,by omega⟩
theorem dT (b:Nat) (s:ByteArray) (k:Nat) (w:World) (h:Rd w b s k) :
  Calls Tryz.prog 172 #[.pointer (some ⟨b,0,none⟩),.int .i64 10,.func (.func 75) #[] #[],.int .i64 1,.int .i64 3] w (bW b s k w (code 10 gr 1 3 (aR s k))):=by
 have bG:=h.top;have hle:=h.le;have HR:=aa h;clear h;obtain⟨m,hm⟩ :∃m:Nat,m=runN gr (aR s k):=⟨_,rfl⟩;have C1:=aa (fun W=>Gx (s.extract k s.size) W (by rw[aE s _ hle];omega))
 rw[df,←hm] at C1;have zq:=hJ gr (aR s k);rw[fR,←hm] at zq;have hall:=wN (p:=gr) (b:=10) V7 (aR s k) 3;rw[←hm] at hall;obtain⟨c,hc⟩ :∃c:Nat,c=min 3 m:=⟨_,rfl⟩;have hT :∀W,Rd W b s k→Calls Tryz.prog 67 #[.pointer (some ⟨b,0,none⟩),.int .i64 (min 3 (m:Int))] W fun e w'=>e=.returned (.string (s.extract k (k+c)))∧Rd w' b s (k+c)∧Kp b W w':=fun W h=>by
  have:=bx b s k c W h (by omega)
  rwa[show(c:Int)=min 3 (m:Int) by omega] at this
 have p9:code 10 gr 1 3 (aR s k)=if pV 10 (s.extract k (k+c)).data.toList=true∧1≤c∧kO 10 (s.extract k (k+c)).data.toList≤255 then some ([UInt8.ofNat (kO 10 (s.extract k (k+c)).data.toList).toNat],aR s (k+c)) else none:=by
  unfold code;rw[←hm,←hc,←eW,eV]
 rw[←hc,←eW] at hall;have ri:=um (b:=10) (by decide) (by decide) hall (by rw[eW,mc];omega)
 have V8:(s.extract k (k+c)).size=c:=by rw[tN];omega
 obtain⟨D,hD⟩ :∃D:ByteArray,D=s.extract k (k+c):=⟨_,rfl⟩;rw[←hD] at hT p9 ri V8;have C2:=aa hT;have C3:=aa (fun W=>Um D 10 W (by omega))
 obtain⟨N,hN⟩ :∃N:Int,N=kO 10 D.data.toList:=⟨_,rfl⟩;obtain⟨o,ho⟩ :∃o:Bool,o=pV 10 D.data.toList:=⟨_,rfl⟩;rw[show((10:Nat):Int)=(10:Int) from rfl] at ri
 rw[←hN] at ri;rw[←hN,←ho] at C3 p9;have HC:=aa p9;clear hm hall hT p9 hD hN ho;have Ai:o=false∨(o=true∧D.size<1)∨(o=true∧1≤D.size∧255<N)∨(o=true∧1≤D.size∧N≤255):=by
  cases o
  ·exact .inl rfl
  ·right
   by_cases h1:D.size<1
   ·exact .inl ⟨rfl,h1⟩
   ·right
    by_cases h2:255<N
    ·exact .inl ⟨rfl,by omega,h2⟩
    ·exact .inr ⟨rfl,by omega,by omega⟩
 rcases Ai with rfl | ⟨rfl,h1⟩ | ⟨rfl,h1,h2⟩ | ⟨rfl,h1,h2⟩;all_goals have Z7:=aa V8
 all_goals have HCm:=aa hc
 all_goals clear V8 hc
 ·go_enter Tryz.func172,Tryz.ntmps172
  go_wp2_with fail
  refine(az _ _ _ _ HR.out).mono ?_;rintro e w1 ⟨rfl,r1,k1⟩;have R1:=aa r1;have K1:=aa k1;clear r1 k1;go_wp2_with fail
  refine(C1.out _).mono ?_;rintro e Cj ⟨rfl,rfl⟩;go_wp2_with fail
  refine(C2.out _ R1.out).mono ?_;rintro e w2 ⟨rfl,r2,k2⟩;have R2:=aa r2;have K2:=ao K1 k2;clear r2 k2;go_wp2_with fail
  refine(C3.out _).mono ?_;rintro e w3 ⟨rfl,b3⟩;have K3:=ao K2 (Kp.ae b3);clear b3;go_wp2_with fail
  go_ret2
  refine⟨K3.out,?_⟩;rw[HC.out,af (by simp)]
  rfl
 ·have g1:decide (D.size<1)=true:=bX h1
  go_enter Tryz.func172,Tryz.ntmps172
  go_wp2_with fail
  refine(az _ _ _ _ HR.out).mono ?_;rintro e w1 ⟨rfl,r1,k1⟩;have R1:=aa r1;have K1:=aa k1;clear r1 k1;go_wp2_with fail
  refine(C1.out _).mono ?_;rintro e Cj ⟨rfl,rfl⟩;go_wp2_with fail
  refine(C2.out _ R1.out).mono ?_;rintro e w2 ⟨rfl,r2,k2⟩;have R2:=aa r2;have K2:=ao K1 k2;clear r2 k2;go_wp2_with fail
  refine(C3.out _).mono ?_;rintro e w3 ⟨rfl,b3⟩;have K3:=ao K2 (Kp.ae b3);clear b3;go_wp2_with fail
  go_ret2
  refine⟨K3.out,?_⟩;rw[HC.out,af (by have:=Z7.out;omega)]
  rfl
 ·have g1:decide (D.size<1)=false:=bU (by omega)
  have g2:decide (255<N)=true:=bX h2;go_enter Tryz.func172,Tryz.ntmps172
  go_wp2_with fail
  refine(az _ _ _ _ HR.out).mono ?_;rintro e w1 ⟨rfl,r1,k1⟩;have R1:=aa r1;have K1:=aa k1;clear r1 k1;go_wp2_with fail
  refine(C1.out _).mono ?_;rintro e Cj ⟨rfl,rfl⟩;go_wp2_with fail
  refine(C2.out _ R1.out).mono ?_;rintro e w2 ⟨rfl,r2,k2⟩;have R2:=aa r2;have K2:=ao K1 k2;clear r2 k2;go_wp2_with fail
  refine(C3.out _).mono ?_;rintro e w3 ⟨rfl,b3⟩;have K3:=ao K2 (Kp.ae b3);clear b3;go_wp2_with fail
  go_ret2
  refine⟨K3.out,?_⟩;rw[HC.out,af (by omega)]
  rfl
 ·have g1:decide (D.size<1)=false:=bU (by omega)
  have g2:decide (255<N)=false:=bU (by omega)
  go_enter Tryz.func172,Tryz.ntmps172
  go_wp2_with fail
  refine(az _ _ _ _ HR.out).mono ?_;rintro e w1 ⟨rfl,r1,k1⟩;have R1:=aa r1;have K1:=aa k1;clear r1 k1;go_wp2_with fail
  refine(C1.out _).mono ?_;rintro e Cj ⟨rfl,rfl⟩;go_wp2_with fail
  refine(C2.out _ R1.out).mono ?_;rintro e w2 ⟨rfl,r2,k2⟩;have R2:=aa r2;have K2:=ao K1 k2;clear r2 k2;go_wp2_with fail
  refine(C3.out _).mono ?_;rintro e w3 ⟨rfl,b3⟩;have R3:=aa (R2.out.below b3);have K3:=ao K2 (Kp.ae b3);clear b3;go_wp2_with fail
  go_ret2
  refine⟨K3.out.alloc _,?_⟩;rw[HC.out,al ⟨by trivial,by have:=Z7.out;omega,h2⟩]
  exact⟨_,_,rfl,dS _ _ _ (Uo ri h2),R3.out.alloc _,rfl,by omega⟩
theorem iM (s:ByteArray) (k:Nat) (h:k<s.size):aR s k=s[k]::aR s (k+1):=by
 unfold aR;exact zA (l:=s.data.toList) (i:=k) (by simpa using h)
theorem aT (s:ByteArray) (k:Nat) (h:k<s.size) (h':0<(s.extract k s.size).size):(s.extract k s.size)[0]=s[k]:=by
 rw[ByteArray.getElem_extract];simp
theorem tx (s:ByteArray) (k:Nat) (h:s.size≤k):aR s k=[]:=JX (by rw[←Lib.size_eq];exact h)
theorem bL (X:ByteArray) (h:0<X.size):X.toList.isEmpty=false:=by
 rw[Lib.toList_data];cases e:X.data.toList with
 | nil =>
  have:=Lib.size_eq X;rw[e,List.length_nil] at this;omega
 | cons=>rfl
theorem uo (X:ByteArray) (h:X.size=0):X.toList.isEmpty=true:=by
 rw[Lib.toList_data,ma (l:=X.data.toList) (by rw[←Lib.size_eq];exact h)]
 rfl
theorem KT (b:Nat) (s:ByteArray) (k:Nat) (w:World) (h:Rd w b s k) (hk:k=s.size):Calls Tryz.prog 137 #[.pointer (some ⟨b,0,none⟩)] w (bW b s k w (pK (aR s k))):=by
 rw[tx s k (by omega)]
 obtain⟨X,hX⟩ :∃X:ByteArray,X=s.extract k s.size:=⟨_,rfl⟩;have C1:=aa (fun W h=>az b s k W h)
 rw[←hX] at C1;have rj:=uo X (by rw[hX,aE s k (by omega)];omega)
 have HR:=aa h;clear hX h;go_enter Tryz.func137,Tryz.ntmps137
 go_wp2_with fail
 refine(C1.out _ HR.out).mono ?_;rintro e w1 ⟨rfl,r1,k1⟩;have K1:=aa k1;clear r1 k1;go_wp2_with fail
 go_ret2
 exact⟨K1.out,rfl⟩
theorem V9 (b:Nat) (s:ByteArray) (k:Nat) (w:World) (h:Rd w b s k) (hk:k<s.size) (hc:s[k]=97):Calls Tryz.prog 137 #[.pointer (some ⟨b,0,none⟩)] w (bW b s k w (some ([7],aR s (k+1)))):=by
 obtain⟨X,hX⟩ :∃X:ByteArray,X=s.extract k s.size:=⟨_,rfl⟩;have C1:=aa (fun W h=>az b s k W h)
 have eI:0<X.size:=by rw[hX,aE s k (by omega)];omega
 have sF:X[0]=97:=by subst hX;rw[aT s k hk eI];exact hc
 rw[←hX] at C1;have rj:=bL X eI;have HR:=aa h;have I1:=aa (fun W=>eU ⟨#[97,98,102,110,114,116,118]⟩ 97 W)
 have T1:=aa (fun W h=>bx b s k 1 W h (by omega))
 clear hX h hc;go_enter Tryz.func137,Tryz.ntmps137
 go_wp2_with fail
 refine(C1.out _ HR.out).mono ?_;rintro e w1 ⟨rfl,r1,k1⟩;have R1:=aa r1;have K1:=aa k1;clear r1 k1;go_wp2_with fail
 refine(C1.out _ R1.out).mono ?_;rintro e w2 ⟨rfl,r2,k2⟩;have R2:=aa r2;have K2:=ao K1 k2;clear r2 k2;go_wp2_with fail
 refine(I1.out _).mono ?_;rintro e KK ⟨rfl,rfl⟩;rw[show Lib.indexByte (⟨#[97,98,102,110,114,116,118]⟩:ByteArray).data.toList 97=0 from by decide]
 go_wp2_with fail
 refine(T1.out _ R2.out).mono ?_;rintro e w3 ⟨rfl,r3,k3⟩;have R3:=aa r3;have K3:=ao K2 k3;clear r3 k3;go_wp2_with fail
 go_ret2
 exact⟨K3.out.alloc _,_,_,rfl,dS _ _ _ rfl,R3.out.alloc _,rfl,by omega⟩
theorem Wb (b:Nat) (s:ByteArray) (k:Nat) (w:World) (h:Rd w b s k) (hk:k<s.size) (hc:s[k]=98):Calls Tryz.prog 137 #[.pointer (some ⟨b,0,none⟩)] w (bW b s k w (some ([8],aR s (k+1)))):=by
 obtain⟨X,hX⟩ :∃X:ByteArray,X=s.extract k s.size:=⟨_,rfl⟩;have C1:=aa (fun W h=>az b s k W h)
 have eI:0<X.size:=by rw[hX,aE s k (by omega)];omega
 have sF:X[0]=98:=by subst hX;rw[aT s k hk eI];exact hc
 rw[←hX] at C1;have rj:=bL X eI;have HR:=aa h;have I1:=aa (fun W=>eU ⟨#[97,98,102,110,114,116,118]⟩ 98 W)
 have T1:=aa (fun W h=>bx b s k 1 W h (by omega))
 clear hX h hc;go_enter Tryz.func137,Tryz.ntmps137
 go_wp2_with fail
 refine(C1.out _ HR.out).mono ?_;rintro e w1 ⟨rfl,r1,k1⟩;have R1:=aa r1;have K1:=aa k1;clear r1 k1;go_wp2_with fail
 refine(C1.out _ R1.out).mono ?_;rintro e w2 ⟨rfl,r2,k2⟩;have R2:=aa r2;have K2:=ao K1 k2;clear r2 k2;go_wp2_with fail
 refine(I1.out _).mono ?_;rintro e KK ⟨rfl,rfl⟩;rw[show Lib.indexByte (⟨#[97,98,102,110,114,116,118]⟩:ByteArray).data.toList 98=1 from by decide]
 go_wp2_with fail
 refine(T1.out _ R2.out).mono ?_;rintro e w3 ⟨rfl,r3,k3⟩;have R3:=aa r3;have K3:=ao K2 k3;clear r3 k3;go_wp2_with fail
 go_ret2
 exact⟨K3.out.alloc _,_,_,rfl,dS _ _ _ rfl,R3.out.alloc _,rfl,by omega⟩
theorem QB (b:Nat) (s:ByteArray) (k:Nat) (w:World) (h:Rd w b s k) (hk:k<s.size) (hc:s[k]=102):Calls Tryz.prog 137 #[.pointer (some ⟨b,0,none⟩)] w (bW b s k w (some ([12],aR s (k+1)))):=by
 obtain⟨X,hX⟩ :∃X:ByteArray,X=s.extract k s.size:=⟨_,rfl⟩;have C1:=aa (fun W h=>az b s k W h)
 have eI:0<X.size:=by rw[hX,aE s k (by omega)];omega
 have sF:X[0]=102:=by subst hX;rw[aT s k hk eI];exact hc
 rw[←hX] at C1;have rj:=bL X eI;have HR:=aa h;have I1:=aa (fun W=>eU ⟨#[97,98,102,110,114,116,118]⟩ 102 W)
 have T1:=aa (fun W h=>bx b s k 1 W h (by omega))
 clear hX h hc;go_enter Tryz.func137,Tryz.ntmps137
 go_wp2_with fail
 refine(C1.out _ HR.out).mono ?_;rintro e w1 ⟨rfl,r1,k1⟩;have R1:=aa r1;have K1:=aa k1;clear r1 k1;go_wp2_with fail
 refine(C1.out _ R1.out).mono ?_;rintro e w2 ⟨rfl,r2,k2⟩;have R2:=aa r2;have K2:=ao K1 k2;clear r2 k2;go_wp2_with fail
 refine(I1.out _).mono ?_;rintro e KK ⟨rfl,rfl⟩;rw[show Lib.indexByte (⟨#[97,98,102,110,114,116,118]⟩:ByteArray).data.toList 102=2 from by decide]
 go_wp2_with fail
 refine(T1.out _ R2.out).mono ?_;rintro e w3 ⟨rfl,r3,k3⟩;have R3:=aa r3;have K3:=ao K2 k3;clear r3 k3;go_wp2_with fail
 go_ret2
 exact⟨K3.out.alloc _,_,_,rfl,dS _ _ _ rfl,R3.out.alloc _,rfl,by omega⟩
theorem QC (b:Nat) (s:ByteArray) (k:Nat) (w:World) (h:Rd w b s k) (hk:k<s.size) (hc:s[k]=110):Calls Tryz.prog 137 #[.pointer (some ⟨b,0,none⟩)] w (bW b s k w (some ([10],aR s (k+1)))):=by
 obtain⟨X,hX⟩ :∃X:ByteArray,X=s.extract k s.size:=⟨_,rfl⟩;have C1:=aa (fun W h=>az b s k W h)
 have eI:0<X.size:=by rw[hX,aE s k (by omega)];omega
 have sF:X[0]=110:=by subst hX;rw[aT s k hk eI];exact hc
 rw[←hX] at C1;have rj:=bL X eI;have HR:=aa h;have I1:=aa (fun W=>eU ⟨#[97,98,102,110,114,116,118]⟩ 110 W)
 have T1:=aa (fun W h=>bx b s k 1 W h (by omega))
 clear hX h hc;go_enter Tryz.func137,Tryz.ntmps137
 go_wp2_with fail
 refine(C1.out _ HR.out).mono ?_;rintro e w1 ⟨rfl,r1,k1⟩;have R1:=aa r1;have K1:=aa k1;clear r1 k1;go_wp2_with fail
 refine(C1.out _ R1.out).mono ?_;rintro e w2 ⟨rfl,r2,k2⟩;have R2:=aa r2;have K2:=ao K1 k2;clear r2 k2;go_wp2_with fail
 refine(I1.out _).mono ?_;rintro e KK ⟨rfl,rfl⟩;rw[show Lib.indexByte (⟨#[97,98,102,110,114,116,118]⟩:ByteArray).data.toList 110=3 from by decide]
 go_wp2_with fail
 refine(T1.out _ R2.out).mono ?_;rintro e w3 ⟨rfl,r3,k3⟩;have R3:=aa r3;have K3:=ao K2 k3;clear r3 k3;go_wp2_with fail
 go_ret2
 exact⟨K3.out.alloc _,_,_,rfl,dS _ _ _ rfl,R3.out.alloc _,rfl,by omega⟩
theorem QD (b:Nat) (s:ByteArray) (k:Nat) (w:World) (h:Rd w b s k) (hk:k<s.size) (hc:s[k]=114):Calls Tryz.prog 137 #[.pointer (some ⟨b,0,none⟩)] w (bW b s k w (some ([13],aR s (k+1)))):=by
 obtain⟨X,hX⟩ :∃X:ByteArray,X=s.extract k s.size:=⟨_,rfl⟩;have C1:=aa (fun W h=>az b s k W h)
 have eI:0<X.size:=by rw[hX,aE s k (by omega)];omega
 have sF:X[0]=114:=by subst hX;rw[aT s k hk eI];exact hc
 rw[←hX] at C1;have rj:=bL X eI;have HR:=aa h;have I1:=aa (fun W=>eU ⟨#[97,98,102,110,114,116,118]⟩ 114 W)
 have T1:=aa (fun W h=>bx b s k 1 W h (by omega))
 clear hX h hc;go_enter Tryz.func137,Tryz.ntmps137
 go_wp2_with fail
 refine(C1.out _ HR.out).mono ?_;rintro e w1 ⟨rfl,r1,k1⟩;have R1:=aa r1;have K1:=aa k1;clear r1 k1;go_wp2_with fail
 refine(C1.out _ R1.out).mono ?_;rintro e w2 ⟨rfl,r2,k2⟩;have R2:=aa r2;have K2:=ao K1 k2;clear r2 k2;go_wp2_with fail
 refine(I1.out _).mono ?_;rintro e KK ⟨rfl,rfl⟩;rw[show Lib.indexByte (⟨#[97,98,102,110,114,116,118]⟩:ByteArray).data.toList 114=4 from by decide]
 go_wp2_with fail
 refine(T1.out _ R2.out).mono ?_;rintro e w3 ⟨rfl,r3,k3⟩;have R3:=aa r3;have K3:=ao K2 k3;clear r3 k3;go_wp2_with fail
 go_ret2
 exact⟨K3.out.alloc _,_,_,rfl,dS _ _ _ rfl,R3.out.alloc _,rfl,by omega⟩
theorem QE (b:Nat) (s:ByteArray) (k:Nat) (w:World) (h:Rd w b s k) (hk:k<s.size) (hc:s[k]=116):Calls Tryz.prog 137 #[.pointer (some ⟨b,0,none⟩)] w (bW b s k w (some ([9],aR s (k+1)))):=by
 obtain⟨X,hX⟩ :∃X:ByteArray,X=s.extract k s.size:=⟨_,rfl⟩;have C1:=aa (fun W h=>az b s k W h)
 have eI:0<X.size:=by rw[hX,aE s k (by omega)];omega
 have sF:X[0]=116:=by subst hX;rw[aT s k hk eI];exact hc
 rw[←hX] at C1;have rj:=bL X eI;have HR:=aa h;have I1:=aa (fun W=>eU ⟨#[97,98,102,110,114,116,118]⟩ 116 W)
 have T1:=aa (fun W h=>bx b s k 1 W h (by omega))
 clear hX h hc;go_enter Tryz.func137,Tryz.ntmps137
 go_wp2_with fail
 refine(C1.out _ HR.out).mono ?_;rintro e w1 ⟨rfl,r1,k1⟩;have R1:=aa r1;have K1:=aa k1;clear r1 k1;go_wp2_with fail
 refine(C1.out _ R1.out).mono ?_;rintro e w2 ⟨rfl,r2,k2⟩;have R2:=aa r2;have K2:=ao K1 k2;clear r2 k2;go_wp2_with fail
 refine(I1.out _).mono ?_;rintro e KK ⟨rfl,rfl⟩;rw[show Lib.indexByte (⟨#[97,98,102,110,114,116,118]⟩:ByteArray).data.toList 116=5 from by decide]
 go_wp2_with fail
 refine(T1.out _ R2.out).mono ?_;rintro e w3 ⟨rfl,r3,k3⟩;have R3:=aa r3;have K3:=ao K2 k3;clear r3 k3;go_wp2_with fail
 go_ret2
 exact⟨K3.out.alloc _,_,_,rfl,dS _ _ _ rfl,R3.out.alloc _,rfl,by omega⟩
theorem QF (b:Nat) (s:ByteArray) (k:Nat) (w:World) (h:Rd w b s k) (hk:k<s.size) (hc:s[k]=118):Calls Tryz.prog 137 #[.pointer (some ⟨b,0,none⟩)] w (bW b s k w (some ([11],aR s (k+1)))):=by
 obtain⟨X,hX⟩ :∃X:ByteArray,X=s.extract k s.size:=⟨_,rfl⟩;have C1:=aa (fun W h=>az b s k W h)
 have eI:0<X.size:=by rw[hX,aE s k (by omega)];omega
 have sF:X[0]=118:=by subst hX;rw[aT s k hk eI];exact hc
 rw[←hX] at C1;have rj:=bL X eI;have HR:=aa h;have I1:=aa (fun W=>eU ⟨#[97,98,102,110,114,116,118]⟩ 118 W)
 have T1:=aa (fun W h=>bx b s k 1 W h (by omega))
 clear hX h hc;go_enter Tryz.func137,Tryz.ntmps137
 go_wp2_with fail
 refine(C1.out _ HR.out).mono ?_;rintro e w1 ⟨rfl,r1,k1⟩;have R1:=aa r1;have K1:=aa k1;clear r1 k1;go_wp2_with fail
 refine(C1.out _ R1.out).mono ?_;rintro e w2 ⟨rfl,r2,k2⟩;have R2:=aa r2;have K2:=ao K1 k2;clear r2 k2;go_wp2_with fail
 refine(I1.out _).mono ?_;rintro e KK ⟨rfl,rfl⟩;rw[show Lib.indexByte (⟨#[97,98,102,110,114,116,118]⟩:ByteArray).data.toList 118=6 from by decide]
 go_wp2_with fail
 refine(T1.out _ R2.out).mono ?_;rintro e w3 ⟨rfl,r3,k3⟩;have R3:=aa r3;have K3:=ao K2 k3;clear r3 k3;go_wp2_with fail
 go_ret2
 exact⟨K3.out.alloc _,_,_,rfl,dS _ _ _ rfl,R3.out.alloc _,rfl,by omega⟩
theorem Wc (b:Nat) (s:ByteArray) (k:Nat) (w:World) (h:Rd w b s k) (hk:k<s.size) (hc:s[k]=92):Calls Tryz.prog 137 #[.pointer (some ⟨b,0,none⟩)] w (bW b s k w (some ([92],aR s (k+1)))):=by
 obtain⟨X,hX⟩ :∃X:ByteArray,X=s.extract k s.size:=⟨_,rfl⟩;have C1:=aa (fun W h=>az b s k W h)
 have eI:0<X.size:=by rw[hX,aE s k (by omega)];omega
 have sF:X[0]=92:=by subst hX;rw[aT s k hk eI];exact hc
 rw[←hX] at C1;have rj:=bL X eI;have HR:=aa h;have T1:=aa (fun W h=>bx b s k 1 W h (by omega))
 clear hX h hc;go_enter Tryz.func137,Tryz.ntmps137
 go_wp2_with fail
 refine(C1.out _ HR.out).mono ?_;rintro e w1 ⟨rfl,r1,k1⟩;have R1:=aa r1;have K1:=aa k1;clear r1 k1;go_wp2_with fail
 refine(C1.out _ R1.out).mono ?_;rintro e w2 ⟨rfl,r2,k2⟩;have R2:=aa r2;have K2:=ao K1 k2;clear r2 k2;go_wp2_with fail
 refine(T1.out _ R2.out).mono ?_;rintro e w3 ⟨rfl,r3,k3⟩;have R3:=aa r3;have K3:=ao K2 k3;clear r3 k3;go_wp2_with fail
 go_ret2
 exact⟨K3.out.alloc _,_,_,rfl,dS _ _ _ rfl,R3.out.alloc _,rfl,by omega⟩
theorem Wd (b:Nat) (s:ByteArray) (k:Nat) (w:World) (h:Rd w b s k) (hk:k<s.size) (hc:s[k]=39):Calls Tryz.prog 137 #[.pointer (some ⟨b,0,none⟩)] w (bW b s k w (some ([39],aR s (k+1)))):=by
 obtain⟨X,hX⟩ :∃X:ByteArray,X=s.extract k s.size:=⟨_,rfl⟩;have C1:=aa (fun W h=>az b s k W h)
 have eI:0<X.size:=by rw[hX,aE s k (by omega)];omega
 have sF:X[0]=39:=by subst hX;rw[aT s k hk eI];exact hc
 rw[←hX] at C1;have rj:=bL X eI;have HR:=aa h;have T1:=aa (fun W h=>bx b s k 1 W h (by omega))
 clear hX h hc;go_enter Tryz.func137,Tryz.ntmps137
 go_wp2_with fail
 refine(C1.out _ HR.out).mono ?_;rintro e w1 ⟨rfl,r1,k1⟩;have R1:=aa r1;have K1:=aa k1;clear r1 k1;go_wp2_with fail
 refine(C1.out _ R1.out).mono ?_;rintro e w2 ⟨rfl,r2,k2⟩;have R2:=aa r2;have K2:=ao K1 k2;clear r2 k2;go_wp2_with fail
 refine(T1.out _ R2.out).mono ?_;rintro e w3 ⟨rfl,r3,k3⟩;have R3:=aa r3;have K3:=ao K2 k3;clear r3 k3;go_wp2_with fail
 go_ret2
 exact⟨K3.out.alloc _,_,_,rfl,dS _ _ _ rfl,R3.out.alloc _,rfl,by omega⟩
theorem We (b:Nat) (s:ByteArray) (k:Nat) (w:World) (h:Rd w b s k) (hk:k<s.size) (hc:s[k]=34):Calls Tryz.prog 137 #[.pointer (some ⟨b,0,none⟩)] w (bW b s k w (some ([34],aR s (k+1)))):=by
 obtain⟨X,hX⟩ :∃X:ByteArray,X=s.extract k s.size:=⟨_,rfl⟩;have C1:=aa (fun W h=>az b s k W h)
 have eI:0<X.size:=by rw[hX,aE s k (by omega)];omega
 have sF:X[0]=34:=by subst hX;rw[aT s k hk eI];exact hc
 rw[←hX] at C1;have rj:=bL X eI;have HR:=aa h;have T1:=aa (fun W h=>bx b s k 1 W h (by omega))
 clear hX h hc;go_enter Tryz.func137,Tryz.ntmps137
 go_wp2_with fail
 refine(C1.out _ HR.out).mono ?_;rintro e w1 ⟨rfl,r1,k1⟩;have R1:=aa r1;have K1:=aa k1;clear r1 k1;go_wp2_with fail
 refine(C1.out _ R1.out).mono ?_;rintro e w2 ⟨rfl,r2,k2⟩;have R2:=aa r2;have K2:=ao K1 k2;clear r2 k2;go_wp2_with fail
 refine(T1.out _ R2.out).mono ?_;rintro e w3 ⟨rfl,r3,k3⟩;have R3:=aa r3;have K3:=ao K2 k3;clear r3 k3;go_wp2_with fail
 go_ret2
 exact⟨K3.out.alloc _,_,_,rfl,dS _ _ _ rfl,R3.out.alloc _,rfl,by omega⟩
theorem Wg (b:Nat) (s:ByteArray) (k:Nat) (w:World) (h:Rd w b s k) (hk:k<s.size) (hc:s[k]=10):Calls Tryz.prog 137 #[.pointer (some ⟨b,0,none⟩)] w (bW b s k w (some ([10],aR s (k+1)))):=by
 obtain⟨X,hX⟩ :∃X:ByteArray,X=s.extract k s.size:=⟨_,rfl⟩;have C1:=aa (fun W h=>az b s k W h)
 have eI:0<X.size:=by rw[hX,aE s k (by omega)];omega
 have sF:X[0]=10:=by subst hX;rw[aT s k hk eI];exact hc
 rw[←hX] at C1;have rj:=bL X eI;have HR:=aa h;have T1:=aa (fun W h=>bx b s k 1 W h (by omega))
 clear hX h hc;go_enter Tryz.func137,Tryz.ntmps137
 go_wp2_with fail
 refine(C1.out _ HR.out).mono ?_;rintro e w1 ⟨rfl,r1,k1⟩;have R1:=aa r1;have K1:=aa k1;clear r1 k1;go_wp2_with fail
 refine(C1.out _ R1.out).mono ?_;rintro e w2 ⟨rfl,r2,k2⟩;have R2:=aa r2;have K2:=ao K1 k2;clear r2 k2;go_wp2_with fail
 refine(T1.out _ R2.out).mono ?_;rintro e w3 ⟨rfl,r3,k3⟩;have R3:=aa r3;have K3:=ao K2 k3;clear r3 k3;go_wp2_with fail
 go_ret2
 exact⟨K3.out.alloc _,_,_,rfl,dS _ _ _ rfl,R3.out.alloc _,rfl,by omega⟩
theorem QG (b:Nat) (s:ByteArray) (k:Nat) (w:World) (h:Rd w b s k) (hk:k<s.size) (hc:s[k]=122):Calls Tryz.prog 137 #[.pointer (some ⟨b,0,none⟩)] w (bW b s k w (some ([],(aR s (k+1)).dropWhile sZ))):=by
 obtain⟨X,hX⟩ :∃X:ByteArray,X=s.extract k s.size:=⟨_,rfl⟩;have C1:=aa (fun W h=>az b s k W h)
 have eI:0<X.size:=by rw[hX,aE s k (by omega)];omega
 have sF:X[0]=122:=by subst hX;rw[aT s k hk eI];exact hc
 rw[←hX] at C1;have rj:=bL X eI;have HR:=aa h;have T1:=aa (fun W h=>bx b s k 1 W h (by omega))
 obtain⟨m,hm⟩ :∃m:Nat,m=runN sZ (aR s (k+1)):=⟨_,rfl⟩;have C2:=aa (fun W=>wL (s.extract (k+1) s.size) W (by rw[aE s _ (by omega)];have:=h.top;omega))
 rw[df,←hm] at C2;have zq:=hJ sZ (aR s (k+1));rw[fR,←hm] at zq;have Z6:(aR s (k+1)).dropWhile sZ=aR s (k+1+m):=by rw[←pX,←hm,eV]
 have HD:=aa Z6;clear hX h hc hm Z6;go_enter Tryz.func137,Tryz.ntmps137
 go_wp2_with fail
 refine(C1.out _ HR.out).mono ?_;rintro e w1 ⟨rfl,r1,k1⟩;have R1:=aa r1;have K1:=aa k1;clear r1 k1;go_wp2_with fail
 refine(C1.out _ R1.out).mono ?_;rintro e w2 ⟨rfl,r2,k2⟩;have R2:=aa r2;have K2:=ao K1 k2;clear r2 k2;go_wp2_with fail
 refine(T1.out _ R2.out).mono ?_;rintro e w3 ⟨rfl,r3,k3⟩;have R3:=aa r3;have K3:=ao K2 k3;clear r3 k3;go_wp2_with fail
 refine(az _ _ _ _ R3.out).mono ?_;rintro e w4 ⟨rfl,r4,k4⟩;have R4:=aa r4;have K4:=ao K3 k4;clear r4 k4;go_wp2_with fail
 refine(C2.out _).mono ?_;rintro e w4' ⟨rfl,rfl⟩;go_wp2_with fail
 refine(bx _ _ _ _ _ R4.out (by omega)).mono ?_;rintro e w5 ⟨rfl,r5,k5⟩
 have R5:=aa r5;have K5:=ao K4 k5;clear r5 k5;go_wp2_with fail
 go_ret2
 exact⟨K5.out,_,_,rfl,.inl ⟨rfl,rfl⟩,R5.out,HD.out.symm,by omega⟩
theorem QH (b:Nat) (s:ByteArray) (k:Nat) (w:World) (h:Rd w b s k) (hk:k<s.size) (hc:s[k]=120):Calls Tryz.prog 137 #[.pointer (some ⟨b,0,none⟩)] w (bW b s k w (code 16 zo 2 2 (aR s (k+1)))):=by
 obtain⟨X,hX⟩ :∃X:ByteArray,X=s.extract k s.size:=⟨_,rfl⟩;have C1:=aa (fun W h=>az b s k W h)
 have eI:0<X.size:=by rw[hX,aE s k (by omega)];omega
 have sF:X[0]=120:=by subst hX;rw[aT s k hk eI];exact hc
 rw[←hX] at C1;have rj:=bL X eI;have HR:=aa h;have T1:=aa (fun W h=>bx b s k 1 W h (by omega))
 have C2:=aa (fun W h=>KS b s (k+1) W h)
 obtain⟨o,ho⟩ :∃o,o=code 16 zo 2 2 (aR s (k+1)):=⟨_,rfl⟩;rw[←ho] at C2 ⊢;clear hX h hc ho;rcases o with _ | ⟨m,r⟩
 ·go_enter Tryz.func137,Tryz.ntmps137
  go_wp2_with fail
  refine(C1.out _ HR.out).mono ?_;rintro e w1 ⟨rfl,r1,k1⟩;have R1:=aa r1;have K1:=aa k1;clear r1 k1;go_wp2_with fail
  refine(C1.out _ R1.out).mono ?_;rintro e w2 ⟨rfl,r2,k2⟩;have R2:=aa r2;have K2:=ao K1 k2;clear r2 k2;go_wp2_with fail
  refine(T1.out _ R2.out).mono ?_;rintro e w3 ⟨rfl,r3,k3⟩;have R3:=aa r3;have K3:=ao K2 k3;clear r3 k3;go_wp2_with fail
  refine(C2.out _ R3.out).mono ?_;intro e w4 fV;obtain⟨k4,rfl⟩:=fV;have K4:=ao K3 k4;clear k4;go_wp2_with fail
  go_ret2
  exact⟨K4.out,rfl⟩
 ·go_enter Tryz.func137,Tryz.ntmps137
  go_wp2_with fail
  refine(C1.out _ HR.out).mono ?_;rintro e w1 ⟨rfl,r1,k1⟩;have R1:=aa r1;have K1:=aa k1;clear r1 k1;go_wp2_with fail
  refine(C1.out _ R1.out).mono ?_;rintro e w2 ⟨rfl,r2,k2⟩;have R2:=aa r2;have K2:=ao K1 k2;clear r2 k2;go_wp2_with fail
  refine(T1.out _ R2.out).mono ?_;rintro e w3 ⟨rfl,r3,k3⟩;have R3:=aa r3;have K3:=ao K2 k3;clear r3 k3;go_wp2_with fail
  refine(C2.out _ R3.out).mono ?_;intro e w4 fV;obtain⟨k4,k',v,rfl,hb4,r4,hr4,hl4⟩:=fV;have K4:=ao K3 k4;have R4:=aa r4;have HB:=aa hb4;have HE:=aa hr4;clear k4 r4 hb4 hr4;go_wp2_with fail
  go_ret2
  exact⟨K4.out,_,_,rfl,HB.out,R4.out,HE.out,by omega⟩
theorem Wh (b:Nat) (s:ByteArray) (k:Nat) (w:World) (h:Rd w b s k) (hk:k<s.size) (hc:s[k]=48):Calls Tryz.prog 137 #[.pointer (some ⟨b,0,none⟩)] w (bW b s k w (code 10 gr 1 3 (aR s k))):=by
 obtain⟨X,hX⟩ :∃X:ByteArray,X=s.extract k s.size:=⟨_,rfl⟩;have C1:=aa (fun W h=>az b s k W h)
 have eI:0<X.size:=by rw[hX,aE s k (by omega)];omega
 have sF:X[0]=48:=by subst hX;rw[aT s k hk eI];exact hc
 rw[←hX] at C1;have rj:=bL X eI;have HR:=aa h;have C2:=aa (fun W h=>dT b s k W h)
 obtain⟨o,ho⟩ :∃o,o=code 10 gr 1 3 (aR s k):=⟨_,rfl⟩;rw[←ho] at C2 ⊢;clear hX h hc ho;rcases o with _ | ⟨m,r⟩
 ·go_enter Tryz.func137,Tryz.ntmps137
  go_wp2_with fail
  refine(C1.out _ HR.out).mono ?_;rintro e w1 ⟨rfl,r1,k1⟩;have R1:=aa r1;have K1:=aa k1;clear r1 k1;go_wp2_with fail
  refine(C1.out _ R1.out).mono ?_;rintro e w2 ⟨rfl,r2,k2⟩;have R2:=aa r2;have K2:=ao K1 k2;clear r2 k2;go_wp2_with fail
  refine(C2.out _ R2.out).mono ?_;intro e w4 fV;obtain⟨k4,rfl⟩:=fV;have K4:=ao K2 k4;clear k4;go_wp2_with fail
  go_ret2
  exact⟨K4.out,rfl⟩
 ·go_enter Tryz.func137,Tryz.ntmps137
  go_wp2_with fail
  refine(C1.out _ HR.out).mono ?_;rintro e w1 ⟨rfl,r1,k1⟩;have R1:=aa r1;have K1:=aa k1;clear r1 k1;go_wp2_with fail
  refine(C1.out _ R1.out).mono ?_;rintro e w2 ⟨rfl,r2,k2⟩;have R2:=aa r2;have K2:=ao K1 k2;clear r2 k2;go_wp2_with fail
  refine(C2.out _ R2.out).mono ?_;intro e w4 fV;obtain⟨k4,k',v,rfl,hb4,r4,hr4,hl4⟩:=fV;have K4:=ao K2 k4;have R4:=aa r4;have HB:=aa hb4;have HE:=aa hr4;clear k4 r4 hb4 hr4;go_wp2_with fail
  go_ret2
  exact⟨K4.out,_,_,rfl,HB.out,R4.out,HE.out,by omega⟩
theorem Wi (b:Nat) (s:ByteArray) (k:Nat) (w:World) (h:Rd w b s k) (hk:k<s.size) (hc:s[k]=49):Calls Tryz.prog 137 #[.pointer (some ⟨b,0,none⟩)] w (bW b s k w (code 10 gr 1 3 (aR s k))):=by
 obtain⟨X,hX⟩ :∃X:ByteArray,X=s.extract k s.size:=⟨_,rfl⟩;have C1:=aa (fun W h=>az b s k W h)
 have eI:0<X.size:=by rw[hX,aE s k (by omega)];omega
 have sF:X[0]=49:=by subst hX;rw[aT s k hk eI];exact hc
 rw[←hX] at C1;have rj:=bL X eI;have HR:=aa h;have C2:=aa (fun W h=>dT b s k W h)
 obtain⟨o,ho⟩ :∃o,o=code 10 gr 1 3 (aR s k):=⟨_,rfl⟩;rw[←ho] at C2 ⊢;clear hX h hc ho;rcases o with _ | ⟨m,r⟩
 ·go_enter Tryz.func137,Tryz.ntmps137
  go_wp2_with fail
  refine(C1.out _ HR.out).mono ?_;rintro e w1 ⟨rfl,r1,k1⟩;have R1:=aa r1;have K1:=aa k1;clear r1 k1;go_wp2_with fail
  refine(C1.out _ R1.out).mono ?_;rintro e w2 ⟨rfl,r2,k2⟩;have R2:=aa r2;have K2:=ao K1 k2;clear r2 k2;go_wp2_with fail
  refine(C2.out _ R2.out).mono ?_;intro e w4 fV;obtain⟨k4,rfl⟩:=fV;have K4:=ao K2 k4;clear k4;go_wp2_with fail
  go_ret2
  exact⟨K4.out,rfl⟩
 ·go_enter Tryz.func137,Tryz.ntmps137
  go_wp2_with fail
  refine(C1.out _ HR.out).mono ?_;rintro e w1 ⟨rfl,r1,k1⟩;have R1:=aa r1;have K1:=aa k1;clear r1 k1;go_wp2_with fail
  refine(C1.out _ R1.out).mono ?_;rintro e w2 ⟨rfl,r2,k2⟩;have R2:=aa r2;have K2:=ao K1 k2;clear r2 k2;go_wp2_with fail
  refine(C2.out _ R2.out).mono ?_;intro e w4 fV;obtain⟨k4,k',v,rfl,hb4,r4,hr4,hl4⟩:=fV;have K4:=ao K2 k4;have R4:=aa r4;have HB:=aa hb4;have HE:=aa hr4;clear k4 r4 hb4 hr4;go_wp2_with fail
  go_ret2
  exact⟨K4.out,_,_,rfl,HB.out,R4.out,HE.out,by omega⟩
theorem Wj (b:Nat) (s:ByteArray) (k:Nat) (w:World) (h:Rd w b s k) (hk:k<s.size) (hc:s[k]=50):Calls Tryz.prog 137 #[.pointer (some ⟨b,0,none⟩)] w (bW b s k w (code 10 gr 1 3 (aR s k))):=by
 obtain⟨X,hX⟩ :∃X:ByteArray,X=s.extract k s.size:=⟨_,rfl⟩;have C1:=aa (fun W h=>az b s k W h)
 have eI:0<X.size:=by rw[hX,aE s k (by omega)];omega
 have sF:X[0]=50:=by subst hX;rw[aT s k hk eI];exact hc
 rw[←hX] at C1;have rj:=bL X eI;have HR:=aa h;have C2:=aa (fun W h=>dT b s k W h)
 obtain⟨o,ho⟩ :∃o,o=code 10 gr 1 3 (aR s k):=⟨_,rfl⟩;rw[←ho] at C2 ⊢;clear hX h hc ho;rcases o with _ | ⟨m,r⟩
 ·go_enter Tryz.func137,Tryz.ntmps137
  go_wp2_with fail
  refine(C1.out _ HR.out).mono ?_;rintro e w1 ⟨rfl,r1,k1⟩;have R1:=aa r1;have K1:=aa k1;clear r1 k1;go_wp2_with fail
  refine(C1.out _ R1.out).mono ?_;rintro e w2 ⟨rfl,r2,k2⟩;have R2:=aa r2;have K2:=ao K1 k2;clear r2 k2;go_wp2_with fail
  refine(C2.out _ R2.out).mono ?_;intro e w4 fV;obtain⟨k4,rfl⟩:=fV;have K4:=ao K2 k4;clear k4;go_wp2_with fail
  go_ret2
  exact⟨K4.out,rfl⟩
 ·go_enter Tryz.func137,Tryz.ntmps137
  go_wp2_with fail
  refine(C1.out _ HR.out).mono ?_;rintro e w1 ⟨rfl,r1,k1⟩;have R1:=aa r1;have K1:=aa k1;clear r1 k1;go_wp2_with fail
  refine(C1.out _ R1.out).mono ?_;rintro e w2 ⟨rfl,r2,k2⟩;have R2:=aa r2;have K2:=ao K1 k2;clear r2 k2;go_wp2_with fail
  refine(C2.out _ R2.out).mono ?_;intro e w4 fV;obtain⟨k4,k',v,rfl,hb4,r4,hr4,hl4⟩:=fV;have K4:=ao K2 k4;have R4:=aa r4;have HB:=aa hb4;have HE:=aa hr4;clear k4 r4 hb4 hr4;go_wp2_with fail
  go_ret2
  exact⟨K4.out,_,_,rfl,HB.out,R4.out,HE.out,by omega⟩
theorem Wk (b:Nat) (s:ByteArray) (k:Nat) (w:World) (h:Rd w b s k) (hk:k<s.size) (hc:s[k]=51):Calls Tryz.prog 137 #[.pointer (some ⟨b,0,none⟩)] w (bW b s k w (code 10 gr 1 3 (aR s k))):=by
 obtain⟨X,hX⟩ :∃X:ByteArray,X=s.extract k s.size:=⟨_,rfl⟩;have C1:=aa (fun W h=>az b s k W h)
 have eI:0<X.size:=by rw[hX,aE s k (by omega)];omega
 have sF:X[0]=51:=by subst hX;rw[aT s k hk eI];exact hc
 rw[←hX] at C1;have rj:=bL X eI;have HR:=aa h;have C2:=aa (fun W h=>dT b s k W h)
 obtain⟨o,ho⟩ :∃o,o=code 10 gr 1 3 (aR s k):=⟨_,rfl⟩;rw[←ho] at C2 ⊢;clear hX h hc ho;rcases o with _ | ⟨m,r⟩
 ·go_enter Tryz.func137,Tryz.ntmps137
  go_wp2_with fail
  refine(C1.out _ HR.out).mono ?_;rintro e w1 ⟨rfl,r1,k1⟩;have R1:=aa r1;have K1:=aa k1;clear r1 k1;go_wp2_with fail
  refine(C1.out _ R1.out).mono ?_;rintro e w2 ⟨rfl,r2,k2⟩;have R2:=aa r2;have K2:=ao K1 k2;clear r2 k2;go_wp2_with fail
  refine(C2.out _ R2.out).mono ?_;intro e w4 fV;obtain⟨k4,rfl⟩:=fV;have K4:=ao K2 k4;clear k4;go_wp2_with fail
  go_ret2
  exact⟨K4.out,rfl⟩
 ·go_enter Tryz.func137,Tryz.ntmps137
  go_wp2_with fail
  refine(C1.out _ HR.out).mono ?_;rintro e w1 ⟨rfl,r1,k1⟩;have R1:=aa r1;have K1:=aa k1;clear r1 k1;go_wp2_with fail
  refine(C1.out _ R1.out).mono ?_;rintro e w2 ⟨rfl,r2,k2⟩;have R2:=aa r2;have K2:=ao K1 k2;clear r2 k2;go_wp2_with fail
  refine(C2.out _ R2.out).mono ?_;intro e w4 fV;obtain⟨k4,k',v,rfl,hb4,r4,hr4,hl4⟩:=fV;have K4:=ao K2 k4;have R4:=aa r4;have HB:=aa hb4;have HE:=aa hr4;clear k4 r4 hb4 hr4;go_wp2_with fail
  go_ret2
  exact⟨K4.out,_,_,rfl,HB.out,R4.out,HE.out,by omega⟩
theorem Wl (b:Nat) (s:ByteArray) (k:Nat) (w:World) (h:Rd w b s k) (hk:k<s.size) (hc:s[k]=52):Calls Tryz.prog 137 #[.pointer (some ⟨b,0,none⟩)] w (bW b s k w (code 10 gr 1 3 (aR s k))):=by
 obtain⟨X,hX⟩ :∃X:ByteArray,X=s.extract k s.size:=⟨_,rfl⟩;have C1:=aa (fun W h=>az b s k W h)
 have eI:0<X.size:=by rw[hX,aE s k (by omega)];omega
 have sF:X[0]=52:=by subst hX;rw[aT s k hk eI];exact hc
 rw[←hX] at C1;have rj:=bL X eI;have HR:=aa h;have C2:=aa (fun W h=>dT b s k W h)
 obtain⟨o,ho⟩ :∃o,o=code 10 gr 1 3 (aR s k):=⟨_,rfl⟩;rw[←ho] at C2 ⊢;clear hX h hc ho;rcases o with _ | ⟨m,r⟩
 ·go_enter Tryz.func137,Tryz.ntmps137
  go_wp2_with fail
  refine(C1.out _ HR.out).mono ?_;rintro e w1 ⟨rfl,r1,k1⟩;have R1:=aa r1;have K1:=aa k1;clear r1 k1;go_wp2_with fail
  refine(C1.out _ R1.out).mono ?_;rintro e w2 ⟨rfl,r2,k2⟩;have R2:=aa r2;have K2:=ao K1 k2;clear r2 k2;go_wp2_with fail
  refine(C2.out _ R2.out).mono ?_;intro e w4 fV;obtain⟨k4,rfl⟩:=fV;have K4:=ao K2 k4;clear k4;go_wp2_with fail
  go_ret2
  exact⟨K4.out,rfl⟩
 ·go_enter Tryz.func137,Tryz.ntmps137
  go_wp2_with fail
  refine(C1.out _ HR.out).mono ?_;rintro e w1 ⟨rfl,r1,k1⟩;have R1:=aa r1;have K1:=aa k1;clear r1 k1;go_wp2_with fail
  refine(C1.out _ R1.out).mono ?_;rintro e w2 ⟨rfl,r2,k2⟩;have R2:=aa r2;have K2:=ao K1 k2;clear r2 k2;go_wp2_with fail
  refine(C2.out _ R2.out).mono ?_;intro e w4 fV;obtain⟨k4,k',v,rfl,hb4,r4,hr4,hl4⟩:=fV;have K4:=ao K2 k4;have R4:=aa r4;have HB:=aa hb4;have HE:=aa hr4;clear k4 r4 hb4 hr4;go_wp2_with fail
  go_ret2
  exact⟨K4.out,_,_,rfl,HB.out,R4.out,HE.out,by omega⟩
theorem Wm (b:Nat) (s:ByteArray) (k:Nat) (w:World) (h:Rd w b s k) (hk:k<s.size) (hc:s[k]=53):Calls Tryz.prog 137 #[.pointer (some ⟨b,0,none⟩)] w (bW b s k w (code 10 gr 1 3 (aR s k))):=by
 obtain⟨X,hX⟩ :∃X:ByteArray,X=s.extract k s.size:=⟨_,rfl⟩;have C1:=aa (fun W h=>az b s k W h)
 have eI:0<X.size:=by rw[hX,aE s k (by omega)];omega
 have sF:X[0]=53:=by subst hX;rw[aT s k hk eI];exact hc
 rw[←hX] at C1;have rj:=bL X eI;have HR:=aa h;have C2:=aa (fun W h=>dT b s k W h)
 obtain⟨o,ho⟩ :∃o,o=code 10 gr 1 3 (aR s k):=⟨_,rfl⟩;rw[←ho] at C2 ⊢;clear hX h hc ho;rcases o with _ | ⟨m,r⟩
 ·go_enter Tryz.func137,Tryz.ntmps137
  go_wp2_with fail
  refine(C1.out _ HR.out).mono ?_;rintro e w1 ⟨rfl,r1,k1⟩;have R1:=aa r1;have K1:=aa k1;clear r1 k1;go_wp2_with fail
  refine(C1.out _ R1.out).mono ?_;rintro e w2 ⟨rfl,r2,k2⟩;have R2:=aa r2;have K2:=ao K1 k2;clear r2 k2;go_wp2_with fail
  refine(C2.out _ R2.out).mono ?_;intro e w4 fV;obtain⟨k4,rfl⟩:=fV;have K4:=ao K2 k4;clear k4;go_wp2_with fail
  go_ret2
  exact⟨K4.out,rfl⟩
 ·go_enter Tryz.func137,Tryz.ntmps137
  go_wp2_with fail
  refine(C1.out _ HR.out).mono ?_;rintro e w1 ⟨rfl,r1,k1⟩;have R1:=aa r1;have K1:=aa k1;clear r1 k1;go_wp2_with fail
  refine(C1.out _ R1.out).mono ?_;rintro e w2 ⟨rfl,r2,k2⟩;have R2:=aa r2;have K2:=ao K1 k2;clear r2 k2;go_wp2_with fail
  refine(C2.out _ R2.out).mono ?_;intro e w4 fV;obtain⟨k4,k',v,rfl,hb4,r4,hr4,hl4⟩:=fV;have K4:=ao K2 k4;have R4:=aa r4;have HB:=aa hb4;have HE:=aa hr4;clear k4 r4 hb4 hr4;go_wp2_with fail
  go_ret2
  exact⟨K4.out,_,_,rfl,HB.out,R4.out,HE.out,by omega⟩
theorem Wn (b:Nat) (s:ByteArray) (k:Nat) (w:World) (h:Rd w b s k) (hk:k<s.size) (hc:s[k]=54):Calls Tryz.prog 137 #[.pointer (some ⟨b,0,none⟩)] w (bW b s k w (code 10 gr 1 3 (aR s k))):=by
 obtain⟨X,hX⟩ :∃X:ByteArray,X=s.extract k s.size:=⟨_,rfl⟩;have C1:=aa (fun W h=>az b s k W h)
 have eI:0<X.size:=by rw[hX,aE s k (by omega)];omega
 have sF:X[0]=54:=by subst hX;rw[aT s k hk eI];exact hc
 rw[←hX] at C1;have rj:=bL X eI;have HR:=aa h;have C2:=aa (fun W h=>dT b s k W h)
 obtain⟨o,ho⟩ :∃o,o=code 10 gr 1 3 (aR s k):=⟨_,rfl⟩;rw[←ho] at C2 ⊢;clear hX h hc ho;rcases o with _ | ⟨m,r⟩
 ·go_enter Tryz.func137,Tryz.ntmps137
  go_wp2_with fail
  refine(C1.out _ HR.out).mono ?_;rintro e w1 ⟨rfl,r1,k1⟩;have R1:=aa r1;have K1:=aa k1;clear r1 k1;go_wp2_with fail
  refine(C1.out _ R1.out).mono ?_;rintro e w2 ⟨rfl,r2,k2⟩;have R2:=aa r2;have K2:=ao K1 k2;clear r2 k2;go_wp2_with fail
  refine(C2.out _ R2.out).mono ?_;intro e w4 fV;obtain⟨k4,rfl⟩:=fV;have K4:=ao K2 k4;clear k4;go_wp2_with fail
  go_ret2
  exact⟨K4.out,rfl⟩
 ·go_enter Tryz.func137,Tryz.ntmps137
  go_wp2_with fail
  refine(C1.out _ HR.out).mono ?_;rintro e w1 ⟨rfl,r1,k1⟩;have R1:=aa r1;have K1:=aa k1;clear r1 k1;go_wp2_with fail
  refine(C1.out _ R1.out).mono ?_;rintro e w2 ⟨rfl,r2,k2⟩;have R2:=aa r2;have K2:=ao K1 k2;clear r2 k2;go_wp2_with fail
  refine(C2.out _ R2.out).mono ?_;intro e w4 fV;obtain⟨k4,k',v,rfl,hb4,r4,hr4,hl4⟩:=fV;have K4:=ao K2 k4;have R4:=aa r4;have HB:=aa hb4;have HE:=aa hr4;clear k4 r4 hb4 hr4;go_wp2_with fail
  go_ret2
  exact⟨K4.out,_,_,rfl,HB.out,R4.out,HE.out,by omega⟩
theorem Wo (b:Nat) (s:ByteArray) (k:Nat) (w:World) (h:Rd w b s k) (hk:k<s.size) (hc:s[k]=55):Calls Tryz.prog 137 #[.pointer (some ⟨b,0,none⟩)] w (bW b s k w (code 10 gr 1 3 (aR s k))):=by
 obtain⟨X,hX⟩ :∃X:ByteArray,X=s.extract k s.size:=⟨_,rfl⟩;have C1:=aa (fun W h=>az b s k W h)
 have eI:0<X.size:=by rw[hX,aE s k (by omega)];omega
 have sF:X[0]=55:=by subst hX;rw[aT s k hk eI];exact hc
 rw[←hX] at C1;have rj:=bL X eI;have HR:=aa h;have C2:=aa (fun W h=>dT b s k W h)
 obtain⟨o,ho⟩ :∃o,o=code 10 gr 1 3 (aR s k):=⟨_,rfl⟩;rw[←ho] at C2 ⊢;clear hX h hc ho;rcases o with _ | ⟨m,r⟩
 ·go_enter Tryz.func137,Tryz.ntmps137
  go_wp2_with fail
  refine(C1.out _ HR.out).mono ?_;rintro e w1 ⟨rfl,r1,k1⟩;have R1:=aa r1;have K1:=aa k1;clear r1 k1;go_wp2_with fail
  refine(C1.out _ R1.out).mono ?_;rintro e w2 ⟨rfl,r2,k2⟩;have R2:=aa r2;have K2:=ao K1 k2;clear r2 k2;go_wp2_with fail
  refine(C2.out _ R2.out).mono ?_;intro e w4 fV;obtain⟨k4,rfl⟩:=fV;have K4:=ao K2 k4;clear k4;go_wp2_with fail
  go_ret2
  exact⟨K4.out,rfl⟩
 ·go_enter Tryz.func137,Tryz.ntmps137
  go_wp2_with fail
  refine(C1.out _ HR.out).mono ?_;rintro e w1 ⟨rfl,r1,k1⟩;have R1:=aa r1;have K1:=aa k1;clear r1 k1;go_wp2_with fail
  refine(C1.out _ R1.out).mono ?_;rintro e w2 ⟨rfl,r2,k2⟩;have R2:=aa r2;have K2:=ao K1 k2;clear r2 k2;go_wp2_with fail
  refine(C2.out _ R2.out).mono ?_;intro e w4 fV;obtain⟨k4,k',v,rfl,hb4,r4,hr4,hl4⟩:=fV;have K4:=ao K2 k4;have R4:=aa r4;have HB:=aa hb4;have HE:=aa hr4;clear k4 r4 hb4 hr4;go_wp2_with fail
  go_ret2
  exact⟨K4.out,_,_,rfl,HB.out,R4.out,HE.out,by omega⟩
theorem Wq (b:Nat) (s:ByteArray) (k:Nat) (w:World) (h:Rd w b s k) (hk:k<s.size) (hc:s[k]=56):Calls Tryz.prog 137 #[.pointer (some ⟨b,0,none⟩)] w (bW b s k w (code 10 gr 1 3 (aR s k))):=by
 obtain⟨X,hX⟩ :∃X:ByteArray,X=s.extract k s.size:=⟨_,rfl⟩;have C1:=aa (fun W h=>az b s k W h)
 have eI:0<X.size:=by rw[hX,aE s k (by omega)];omega
 have sF:X[0]=56:=by subst hX;rw[aT s k hk eI];exact hc
 rw[←hX] at C1;have rj:=bL X eI;have HR:=aa h;have C2:=aa (fun W h=>dT b s k W h)
 obtain⟨o,ho⟩ :∃o,o=code 10 gr 1 3 (aR s k):=⟨_,rfl⟩;rw[←ho] at C2 ⊢;clear hX h hc ho;rcases o with _ | ⟨m,r⟩
 ·go_enter Tryz.func137,Tryz.ntmps137
  go_wp2_with fail
  refine(C1.out _ HR.out).mono ?_;rintro e w1 ⟨rfl,r1,k1⟩;have R1:=aa r1;have K1:=aa k1;clear r1 k1;go_wp2_with fail
  refine(C1.out _ R1.out).mono ?_;rintro e w2 ⟨rfl,r2,k2⟩;have R2:=aa r2;have K2:=ao K1 k2;clear r2 k2;go_wp2_with fail
  refine(C2.out _ R2.out).mono ?_;intro e w4 fV;obtain⟨k4,rfl⟩:=fV;have K4:=ao K2 k4;clear k4;go_wp2_with fail
  go_ret2
  exact⟨K4.out,rfl⟩
 ·go_enter Tryz.func137,Tryz.ntmps137
  go_wp2_with fail
  refine(C1.out _ HR.out).mono ?_;rintro e w1 ⟨rfl,r1,k1⟩;have R1:=aa r1;have K1:=aa k1;clear r1 k1;go_wp2_with fail
  refine(C1.out _ R1.out).mono ?_;rintro e w2 ⟨rfl,r2,k2⟩;have R2:=aa r2;have K2:=ao K1 k2;clear r2 k2;go_wp2_with fail
  refine(C2.out _ R2.out).mono ?_;intro e w4 fV;obtain⟨k4,k',v,rfl,hb4,r4,hr4,hl4⟩:=fV;have K4:=ao K2 k4;have R4:=aa r4;have HB:=aa hb4;have HE:=aa hr4;clear k4 r4 hb4 hr4;go_wp2_with fail
  go_ret2
  exact⟨K4.out,_,_,rfl,HB.out,R4.out,HE.out,by omega⟩
theorem Wr (b:Nat) (s:ByteArray) (k:Nat) (w:World) (h:Rd w b s k) (hk:k<s.size) (hc:s[k]=57):Calls Tryz.prog 137 #[.pointer (some ⟨b,0,none⟩)] w (bW b s k w (code 10 gr 1 3 (aR s k))):=by
 obtain⟨X,hX⟩ :∃X:ByteArray,X=s.extract k s.size:=⟨_,rfl⟩;have C1:=aa (fun W h=>az b s k W h)
 have eI:0<X.size:=by rw[hX,aE s k (by omega)];omega
 have sF:X[0]=57:=by subst hX;rw[aT s k hk eI];exact hc
 rw[←hX] at C1;have rj:=bL X eI;have HR:=aa h;have C2:=aa (fun W h=>dT b s k W h)
 obtain⟨o,ho⟩ :∃o,o=code 10 gr 1 3 (aR s k):=⟨_,rfl⟩;rw[←ho] at C2 ⊢;clear hX h hc ho;rcases o with _ | ⟨m,r⟩
 ·go_enter Tryz.func137,Tryz.ntmps137
  go_wp2_with fail
  refine(C1.out _ HR.out).mono ?_;rintro e w1 ⟨rfl,r1,k1⟩;have R1:=aa r1;have K1:=aa k1;clear r1 k1;go_wp2_with fail
  refine(C1.out _ R1.out).mono ?_;rintro e w2 ⟨rfl,r2,k2⟩;have R2:=aa r2;have K2:=ao K1 k2;clear r2 k2;go_wp2_with fail
  refine(C2.out _ R2.out).mono ?_;intro e w4 fV;obtain⟨k4,rfl⟩:=fV;have K4:=ao K2 k4;clear k4;go_wp2_with fail
  go_ret2
  exact⟨K4.out,rfl⟩
 ·go_enter Tryz.func137,Tryz.ntmps137
  go_wp2_with fail
  refine(C1.out _ HR.out).mono ?_;rintro e w1 ⟨rfl,r1,k1⟩;have R1:=aa r1;have K1:=aa k1;clear r1 k1;go_wp2_with fail
  refine(C1.out _ R1.out).mono ?_;rintro e w2 ⟨rfl,r2,k2⟩;have R2:=aa r2;have K2:=ao K1 k2;clear r2 k2;go_wp2_with fail
  refine(C2.out _ R2.out).mono ?_;intro e w4 fV;obtain⟨k4,k',v,rfl,hb4,r4,hr4,hl4⟩:=fV;have K4:=ao K2 k4;have R4:=aa r4;have HB:=aa hb4;have HE:=aa hr4;clear k4 r4 hb4 hr4;go_wp2_with fail
  go_ret2
  exact⟨K4.out,_,_,rfl,HB.out,R4.out,HE.out,by omega⟩
theorem GA (b:Nat) (s:ByteArray) (k:Nat) (w:World) (h:Rd w b s k) (hk:k<s.size) (c:UInt8) (hc:s[k]=c) (hn :∀v∈[97,98,102,110,114,116,118,92,39,34,10,122,120,48,49,50,51,52,53,54,55,56,57],c.toNat≠v):Calls Tryz.prog 137 #[.pointer (some ⟨b,0,none⟩)] w (bW b s k w (none)):=by
 obtain⟨X,hX⟩ :∃X:ByteArray,X=s.extract k s.size:=⟨_,rfl⟩;have C1:=aa (fun W h=>az b s k W h)
 have eI:0<X.size:=by rw[hX,aE s k (by omega)];omega
 have sF:X[0]=c:=by subst hX;rw[aT s k hk eI];exact hc
 rw[←hX] at C1;have rj:=bL X eI;have HR:=aa h;have g97:((c.toNat:Int) == 97)=false:=aC.2 (by have:=hn 97 (by decide);omega)
 have g98:((c.toNat:Int) == 98)=false:=aC.2 (by have:=hn 98 (by decide);omega)
 have g102:((c.toNat:Int) == 102)=false:=aC.2 (by have:=hn 102 (by decide);omega)
 have g110:((c.toNat:Int) == 110)=false:=aC.2 (by have:=hn 110 (by decide);omega)
 have g114:((c.toNat:Int) == 114)=false:=aC.2 (by have:=hn 114 (by decide);omega)
 have g116:((c.toNat:Int) == 116)=false:=aC.2 (by have:=hn 116 (by decide);omega)
 have g118:((c.toNat:Int) == 118)=false:=aC.2 (by have:=hn 118 (by decide);omega)
 have g92:((c.toNat:Int) == 92)=false:=aC.2 (by have:=hn 92 (by decide);omega)
 have g39:((c.toNat:Int) == 39)=false:=aC.2 (by have:=hn 39 (by decide);omega)
 have g34:((c.toNat:Int) == 34)=false:=aC.2 (by have:=hn 34 (by decide);omega)
 have g10:((c.toNat:Int) == 10)=false:=aC.2 (by have:=hn 10 (by decide);omega)
 have g122:((c.toNat:Int) == 122)=false:=aC.2 (by have:=hn 122 (by decide);omega)
 have g120:((c.toNat:Int) == 120)=false:=aC.2 (by have:=hn 120 (by decide);omega)
 have g48:((c.toNat:Int) == 48)=false:=aC.2 (by have:=hn 48 (by decide);omega)
 have g49:((c.toNat:Int) == 49)=false:=aC.2 (by have:=hn 49 (by decide);omega)
 have g50:((c.toNat:Int) == 50)=false:=aC.2 (by have:=hn 50 (by decide);omega)
 have g51:((c.toNat:Int) == 51)=false:=aC.2 (by have:=hn 51 (by decide);omega)
 have g52:((c.toNat:Int) == 52)=false:=aC.2 (by have:=hn 52 (by decide);omega)
 have g53:((c.toNat:Int) == 53)=false:=aC.2 (by have:=hn 53 (by decide);omega)
 have g54:((c.toNat:Int) == 54)=false:=aC.2 (by have:=hn 54 (by decide);omega)
 have g55:((c.toNat:Int) == 55)=false:=aC.2 (by have:=hn 55 (by decide);omega)
 have g56:((c.toNat:Int) == 56)=false:=aC.2 (by have:=hn 56 (by decide);omega)
 have g57:((c.toNat:Int) == 57)=false:=aC.2 (by have:=hn 57 (by decide);omega)
 clear hX h hc hn;go_enter Tryz.func137,Tryz.ntmps137
 go_wp2_with fail
 refine(C1.out _ HR.out).mono ?_;rintro e w1 ⟨rfl,r1,k1⟩;have R1:=aa r1;have K1:=aa k1;clear r1 k1;go_wp2_with fail
 refine(C1.out _ R1.out).mono ?_;rintro e w2 ⟨rfl,r2,k2⟩;have R2:=aa r2;have K2:=ao K1 k2;clear r2 k2;go_wp2_with fail
 go_ret2
 exact⟨K2.out,rfl⟩
theorem dE (c:UInt8) (r:List UInt8):pK (c::r)=o9 c r:=rfl
theorem Aj (b:Nat) (s:ByteArray) (k:Nat) (w:World) (h:Rd w b s k):Calls Tryz.prog 137 #[.pointer (some ⟨b,0,none⟩)] w (bW b s k w (pK (aR s k))):=by
 by_cases hk:k=s.size
 ·exact KT b s k w h hk
 ·have hk:k<s.size:=by have:=h.le;omega
  have hs:=iM s k hk;have abQ:=V9 b s k w h hk;have abR:=Wb b s k w h hk;have Z8:=QB b s k w h hk;have Z9:=QC b s k w h hk;have aaa:=QD b s k w h hk;have aab:=QE b s k w h hk;have aac:=QF b s k w h hk;have abS:=Wc b s k w h hk;have abT:=Wd b s k w h hk;have abU:=We b s k w h hk;have abV:=Wg b s k w h hk;have aad:=QG b s k w h hk;have aae:=QH b s k w h hk;have abW:=Wh b s k w h hk;have abX:=Wi b s k w h hk;have abY:=Wj b s k w h hk;have abZ:=Wk b s k w h hk;have ab0:=Wl b s k w h hk;have ab1:=Wm b s k w h hk;have ab2:=Wn b s k w h hk;have ab3:=Wo b s k w h hk;have ab4:=Wq b s k w h hk;have ab5:=Wr b s k w h hk;have other:=GA b s k w h hk s[k] rfl;generalize s[k]=c at *;have oK :∀c':UInt8,vT c'=none→pZ c'=false→c'.toNat≠122→c'.toNat≠120→gr c'=true→c=c'→pK (aR s k)=code 10 gr 1 3 (aR s k):=fun c' a1 a2 a3 a4 a5 e=>by
   rw[hs,e];exact(dE _ _).trans (Kl _ a1 a2 a3 a4 a5)
  have jQ :∀v:UInt8,c.toNat=v.toNat→c=v:=fun v h=>zI.1 h
  by_cases e:c.toNat=97
  ·rw[hs,jQ 97 e,show pK (97::aR s (k+1))=some ([7],aR s (k+1)) from(dE _ _).trans (gh _ (by decide))];exact abQ (jQ 97 e)
  by_cases e:c.toNat=98
  ·rw[hs,jQ 98 e,show pK (98::aR s (k+1))=some ([8],aR s (k+1)) from(dE _ _).trans (gh _ (by decide))];exact abR (jQ 98 e)
  by_cases e:c.toNat=102
  ·rw[hs,jQ 102 e,show pK (102::aR s (k+1))=some ([12],aR s (k+1)) from(dE _ _).trans (gh _ (by decide))];exact Z8 (jQ 102 e)
  by_cases e:c.toNat=110
  ·rw[hs,jQ 110 e,show pK (110::aR s (k+1))=some ([10],aR s (k+1)) from(dE _ _).trans (gh _ (by decide))];exact Z9 (jQ 110 e)
  by_cases e:c.toNat=114
  ·rw[hs,jQ 114 e,show pK (114::aR s (k+1))=some ([13],aR s (k+1)) from(dE _ _).trans (gh _ (by decide))];exact aaa (jQ 114 e)
  by_cases e:c.toNat=116
  ·rw[hs,jQ 116 e,show pK (116::aR s (k+1))=some ([9],aR s (k+1)) from(dE _ _).trans (gh _ (by decide))];exact aab (jQ 116 e)
  by_cases e:c.toNat=118
  ·rw[hs,jQ 118 e,show pK (118::aR s (k+1))=some ([11],aR s (k+1)) from(dE _ _).trans (gh _ (by decide))];exact aac (jQ 118 e)
  by_cases e:c.toNat=92
  ·rw[hs,jQ 92 e,show pK (92::aR s (k+1))=some ([92],aR s (k+1)) from(dE _ _).trans (kP _ (by decide) (by decide))];exact abS (jQ 92 e)
  by_cases e:c.toNat=39
  ·rw[hs,jQ 39 e,show pK (39::aR s (k+1))=some ([39],aR s (k+1)) from(dE _ _).trans (kP _ (by decide) (by decide))];exact abT (jQ 39 e)
  by_cases e:c.toNat=34
  ·rw[hs,jQ 34 e,show pK (34::aR s (k+1))=some ([34],aR s (k+1)) from(dE _ _).trans (kP _ (by decide) (by decide))];exact abU (jQ 34 e)
  by_cases e:c.toNat=10
  ·rw[hs,jQ 10 e,show pK (10::aR s (k+1))=some ([10],aR s (k+1)) from(dE _ _).trans (kP _ (by decide) (by decide))];exact abV (jQ 10 e)
  by_cases e:c.toNat=122
  ·rw[hs,jQ 122 e,show pK (122::aR s (k+1))=some ([],(aR s (k+1)).dropWhile sZ) from(dE _ _).trans (Kj _ (by decide) (by decide) (by decide))];exact aad (jQ 122 e)
  by_cases e:c.toNat=120
  ·rw[hs,jQ 120 e,show pK (120::aR s (k+1))=code 16 zo 2 2 (aR s (k+1)) from(dE _ _).trans (Kk _ (by decide) (by decide) (by decide))];exact aae (jQ 120 e)
  by_cases e:c.toNat=48
  ·rw[oK 48 (by decide) (by decide) (by decide) (by decide) (by decide) (jQ 48 e)];exact abW (jQ 48 e)
  by_cases e:c.toNat=49
  ·rw[oK 49 (by decide) (by decide) (by decide) (by decide) (by decide) (jQ 49 e)];exact abX (jQ 49 e)
  by_cases e:c.toNat=50
  ·rw[oK 50 (by decide) (by decide) (by decide) (by decide) (by decide) (jQ 50 e)];exact abY (jQ 50 e)
  by_cases e:c.toNat=51
  ·rw[oK 51 (by decide) (by decide) (by decide) (by decide) (by decide) (jQ 51 e)];exact abZ (jQ 51 e)
  by_cases e:c.toNat=52
  ·rw[oK 52 (by decide) (by decide) (by decide) (by decide) (by decide) (jQ 52 e)];exact ab0 (jQ 52 e)
  by_cases e:c.toNat=53
  ·rw[oK 53 (by decide) (by decide) (by decide) (by decide) (by decide) (jQ 53 e)];exact ab1 (jQ 53 e)
  by_cases e:c.toNat=54
  ·rw[oK 54 (by decide) (by decide) (by decide) (by decide) (by decide) (jQ 54 e)];exact ab2 (jQ 54 e)
  by_cases e:c.toNat=55
  ·rw[oK 55 (by decide) (by decide) (by decide) (by decide) (by decide) (jQ 55 e)];exact ab3 (jQ 55 e)
  by_cases e:c.toNat=56
  ·rw[oK 56 (by decide) (by decide) (by decide) (by decide) (by decide) (jQ 56 e)];exact ab4 (jQ 56 e)
  by_cases e:c.toNat=57
  ·rw[oK 57 (by decide) (by decide) (by decide) (by decide) (by decide) (jQ 57 e)];exact ab5 (jQ 57 e)
  have hno:pK (aR s k)=none:=by
   rw[hs,dE];refine Ex _ ?_ ?_ (by assumption) (by assumption) ?_
   ·unfold vT;simp[*]
   ·unfold pZ;simp[*]
   ·unfold gr;rw[zC];omega
  rw[hno];refine other ?_;intro v hv;simp only[bc,oG,oH] at hv;rcases hv with rfl|rfl|rfl|rfl|rfl|rfl|rfl|rfl|rfl|rfl|rfl|rfl|rfl|rfl|rfl|rfl|rfl|rfl|rfl|rfl|rfl|rfl|rfl<;>assumption
def mX (l:List UInt8):List Value:=l.map fun b=>Value.int .u8 (b.toNat:Int)
theorem CG (a b:List UInt8):mX (a++b)=mX a++mX b:=by simp[mX]
def rk (W:World) (B:Nat) (v:Value) (l:List UInt8):Prop:=W.ownsRow B 5 1 v l.length (mX l)
theorem rk.nil (W:World) (B:Nat):rk W B (.slice none 0 0) []:=World.ownsRow_nil W B 5 1
theorem QI {W:World} {B e n size:Nat} {v:Value} {xs:List Value} (h:W.ownsRow B e size v n xs) :∀k,v.ownBlock=some k→B≤k:=fun k hk=>(h.lt k hk).1
theorem rk.kp {b B:Nat} {W W':World} {v:Value} {l:List UInt8} (h:rk W B v l) (hk:Kp b W W') (hb:b<B):rk W' B v l:=by
 refine World.ownsRow.kept h hk ?_;rcases h.2 with ⟨rfl,_⟩ | ⟨g,_,_,rfl,hg,_⟩
 ·left;rfl
 ·right
  intro e;have:g=b:=by simpa[Value.ownBlock] using e
  omega
theorem aaf:(Tryz.prog.info? 5).map (fun i=>(i.zero,i.size,i.bytes))=some (some (.int .u8 0),1,1):=by kernel_rfl
theorem KU {ops:Array Oper} {rest:List Oper} {o:Oper} {a:Act} {Q:Exit→Act→World→Prop} (w:World) (hgd:o.guard=none) (sl x:Operand)
  (ho:o.op=.call { callee:=.builtin .append,args:=#[sl,x],argTypes:=#[216,216]}) (B:Nat) (v:Value) (l:List UInt8) (hs:a.eval sl=v) (hown:rk w B v l) (y:Value) (hx:a.eval x=y) (m:List UInt8) (hm:Bts w y m)
  (hlen:l.length≤1000000) (hB:B≤w.heap.size)
  (h :∀v' w',rk w' B v' (l++m)→Below B w w'→wpList Tryz.prog ops Q rest (a.put o.dst v') w'):wpList Tryz.prog ops Q (o::rest) a w:=by
 obtain⟨i0,mY,hz0,hz1,hz2⟩:=info_parts aaf;rcases hm with ⟨rfl,rfl⟩ | ⟨g,u,rfl,rfl,hc⟩
 ·refine wpList_plain hgd fun _ hK=>?_
  have hr:=run_append_owned_none (P:=Tryz.prog) (w:=w) B 216 o.type 5 i0 1 Tryz.underlying216 mY v l.length (mX l) hown;unfold Oper.wp execOp;simp only[ho,resolve,invoke,builtin,Sem.run_bind,Sem.run_pure,Result.andThen_ok,Kc,eP,List.map_nil,hs,hx,hr];exact hK _ _ (h v w (by rw[jX];exact hown) (Below.refl _ _))
 ·refine wpList_append_own (P:=Tryz.prog) _ hgd sl x 216 ho B 5 i0 (.int .u8 0) 1 1 Tryz.underlying216 mY hz0 hz1 hz2 rfl (by omega) v l.length (mX l) hs hown ⟨g,0,none⟩ 1 1 [.int .u8 (u.toNat:Int)] hx rfl
   (fun j q hj=>by
    cases j with
    | zero=>obtain rfl:=gz hj;exact hc
    | succ j=>simp at hj) (fun q hq=>by obtain rfl:=bZ.1 hq;rfl) (by unfold maxLen;omega) (by omega) hB ?_
  intro v' w' h1 h2 _;refine h v' w' ?_ ((Below.refl _ _).grown h2 hB (QI hown));unfold rk;rw[cI,CG];exact h1
theorem CH {W:World} {B:Nat} {v:Value} {l:List UInt8} (h:rk W B v l):(convert 216 9 v).run Tryz.prog W=.ok (.string ⟨l.toArray⟩) W:=by
 rcases h.2 with ⟨rfl,h0⟩ | ⟨g,cap,cur,rfl,_⟩
 ·obtain rfl:l=[]:=ma h0
  exact run_convert_bytes_nil W 216 5 Tryz.underlying216 Tryz.underlying5 0 0 9 Tryz.underlying9
 ·exact run_convert_bytes_back (P:=Tryz.prog) W 216 9 5 ⟨g,0,none⟩ cap l Tryz.underlying216 Tryz.underlying5 Tryz.underlying9 (fun j hj=>by
   have hc:=World.ownsRow.cells h (g:=g) rfl j (.int .u8 (l[j].toNat:Int)) (by simp[mX,hj])
   exact hc)
theorem Kp.below {b:Nat} {w0 w w':World} (h:Kp b w0 w) (k:Below w0.heap.size w w'):Kp b w0 w' :=
 ⟨k.os.trans h.os,k.tape.trans h.tape,k.output.trans h.output,aM h.size k.size,fun i hi hne=>(k.block i hi).trans (h.block i hi hne)⟩
theorem Rd.yl {W W':World} {B b:Nat} {s:ByteArray} {k:Nat} (h:Rd W b s k) (hb:Below B W W') (hB:b<B):Rd W' b s k:=by
 have hf:=h.far;obtain⟨m,hm⟩:=h.mx;exact⟨(hb.block b hB).trans h.blk,h.le,h.top,h.far,m,(hb.cell (p:=⟨1,0,none⟩) (by show 1<B;omega)).trans hm⟩
def QJ (q:UInt8) (b:Nat) (s:ByteArray) (k:Nat) (w:World) (e:Ending) (w':World):Prop:=∃o,yg q (aR s (k+1)) o∧jz b s k w o e w'
theorem map_nil (o:Option (List UInt8×List UInt8)):o.map (fun x=>([]++x.1,x.2))=o:=by cases o<;>rfl
theorem ED (o:Option (List UInt8×List UInt8)) (out m:List UInt8):(o.map fun x=>(m++x.1,x.2)).map (fun x=>(out++x.1,x.2))=o.map fun x=>((out++m)++x.1,x.2):=by
 cases o<;>simp
theorem KV (s:ByteArray) (k:Nat) (h:k<s.size) (X:ByteArray) (hX:X=s.extract k (k+1)) (h':0<X.size):X[0]=s[k]:=by
 subst hX;rw[ByteArray.getElem_extract];simp
theorem KW (s:ByteArray) (k:Nat) (h:k<s.size):(s.extract k (k+1)).size=1:=by rw[tN];omega
theorem take_one (b:Nat) (s:ByteArray) (k:Nat) (hk:k<s.size) :∃X:ByteArray,∃hX:0<X.size,X[0]=s[k]∧∀W,Rd W b s k→Calls Tryz.prog 67 #[.pointer (some ⟨b,0,none⟩),.int .i64 1] W fun e w'=>e=.returned (.string X)∧Rd w' b s (k+1)∧Kp b W w':=by
 have hs:=KW s k hk;exact⟨s.extract k (k+1),by omega,KV s k hk _ rfl (by omega),fun W h=>bx b s k 1 W h (by omega)⟩
theorem rk.form {W:World} {B:Nat} {v:Value} {l:List UInt8} (h:rk W B v l) :∃A c,v=.slice A l.length c:=by
 rcases h.2 with ⟨rfl,h0⟩ | ⟨g,cap,_,rfl,_⟩
 ·exact⟨none,0,by rw[h0]⟩
 ·exact⟨_,_,rfl⟩
theorem CI (b:Nat) (s:ByteArray) (k:Nat) (w:World) (h:Rd w b s k) (hk:k<s.size) (q:UInt8) (hq:s[k]=q) (ab6:q≠10) (aag:q≠92) :
  Calls Tryz.prog 79 #[.pointer (some ⟨b,0,none⟩)] w (QJ q b s k w):=by
 have bG:=h.top;have iN:=h.lt;have HR:=aa h;obtain⟨X,eI,sF,hT⟩:=take_one b s k hk;rw[hq] at sF;have T1:=aa hT;clear h hT hq;go_enter Tryz.func79,Tryz.ntmps79
 go_wp2_with fail
 refine(T1.out _ HR.out).mono ?_;rintro e w1 ⟨rfl,r1,k1⟩;have R1:=aa r1;have K1:=aa k1;clear r1 k1;go_wp2_with fail
 clear sF eI;go_loopg [5] s.size (fun z tv wr=>∃(k1:Nat) (out:List UInt8),Rd wr b s k1∧k<k1∧s.size-k1≤z∧Kp b w wr∧rk wr w.heap.size tv out∧out.length+k≤k1∧∀o,yg q (aR s k1) o→yg q (aR s (k+1)) (o.map fun x=>(out++x.1,x.2)))
 case atStart=>exact⟨k+1,[],R1.out,by omega,by omega,K1.out,rk.nil _ _,by simp,fun o h=>by rw[map_nil];exact h⟩
 case round =>
  obtain⟨k1,out,hr,hlt,hz,Qy,aah,uq,aai⟩:=hrel;have Qz:=hr.le;have R0:=aa hr;have K0:=aa Qy;have HB:=aa aah;have HQ:=aa aai;have hsz0:=Qy.size;clear hr Qy aah aai;obtain⟨Y,hY⟩ :∃Y:ByteArray,Y=s.extract k1 s.size:=⟨_,rfl⟩;have C1:=aa (fun W h=>az b s k1 W h)
  rw[←hY] at C1;have vN:Y.size=s.size-k1:=by rw[hY,aE s k1 Qz]
  clear hY;by_cases hend:k1=s.size
  ·have Up:=uo Y (by omega)
   have hs0:=tx s k1 (by omega)
   have HE:=aa hs0;clear hs0 vN;go_wp2_with fail
   refine(C1.out _ R0.out).mono ?_;rintro e w2 ⟨rfl,r2,k2⟩;have K2:=ao K0 k2;clear r2 k2;go_wp2_with fail
   go_ret2
   exact⟨none,HQ.out none (by rw[HE.out];exact .none),K2.out,rfl⟩
  ·have iX:k1<s.size:=by omega
   have Up:=bL Y (by omega)
   have cK:=iM s k1 iX;obtain⟨Z,hZs,hZ0,hT⟩:=take_one b s k1 iX;have T2:=aa hT;obtain⟨c,hc⟩ :∃c:UInt8,c=s[k1]:=⟨_,rfl⟩;rw[←hc] at hZ0 cK;have HC:=aa cK;clear vN hT hc cK;have Cs:=c.toNat_lt;have hql:=q.toNat_lt;obtain⟨A1,c1,rfl⟩:=HB.out.form;by_cases hcq:c=q
   ·subst hcq
    go_wp2_with fail
    refine(C1.out _ R0.out).mono ?_;rintro e w2 ⟨rfl,r2,k2⟩;have R2:=aa r2;have K2:=ao K0 k2;have B2:=aa (HB.out.kp k2 iN);clear r2 k2;go_wp2_with fail
    refine(T2.out _ R2.out).mono ?_;rintro e w3 ⟨rfl,r3,k3⟩;have R3:=aa r3;have K3:=ao K2 k3;have B3:=aa (B2.out.kp k3 iN);clear r3 k3;have hcv:=CH B3.out;go_wp2_with fail
    go_ret2
    refine⟨some (out,aR s (k1+1)),?_,K3.out,_,rfl,R3.out,rfl,by omega⟩
    have:=HQ.out (some ([],aR s (k1+1))) (by rw[HC.out];exact .shut)
    simpa using this
   ·have hcqn:c.toNat≠q.toNat:=fun e=>hcq (zI.1 e)
    by_cases Ws:c=10
    ·subst Ws
     have g1:((10:Int) == (q.toNat:Int))=false:=aC.2 (by have:(10:UInt8).toNat=10:=rfl;omega)
     go_wp2_with fail
     refine(C1.out _ R0.out).mono ?_;rintro e w2 ⟨rfl,r2,k2⟩;have R2:=aa r2;have K2:=ao K0 k2;have B2:=aa (HB.out.kp k2 iN);clear r2 k2;go_wp2_with fail
     refine(T2.out _ R2.out).mono ?_;rintro e w3 ⟨rfl,r3,k3⟩;have R3:=aa r3;have K3:=ao K2 k3;have B3:=aa (B2.out.kp k3 iN);clear r3 k3;go_wp2_with fail
     go_ret2
     exact⟨none,HQ.out none (by rw[HC.out];exact .line ab6),K3.out,rfl⟩
    ·by_cases Wt:c=92
     ·subst Wt
      have g1:((92:Int) == (q.toNat:Int))=false:=aC.2 (by have:(92:UInt8).toNat=92:=rfl;omega)
      have E1:=aa (fun W h=>Aj b s (k1+1) W h)
      cases hes:pK (aR s (k1+1)) with
      | none =>
       rw[hes] at E1;have HES:=aa hes;clear hes;go_wp2_with fail
       refine(C1.out _ R0.out).mono ?_;rintro e w2 ⟨rfl,r2,k2⟩;have R2:=aa r2;have K2:=ao K0 k2;have B2:=aa (HB.out.kp k2 iN);clear r2 k2;go_wp2_with fail
       refine(T2.out _ R2.out).mono ?_;rintro e w3 ⟨rfl,r3,k3⟩;have R3:=aa r3;have K3:=ao K2 k3;have B3:=aa (B2.out.kp k3 iN);clear r3 k3;go_wp2_with fail
       refine(E1.out _ R3.out).mono ?_;intro e w4 fV;obtain⟨k4,rfl⟩:=fV;have K4:=ao K3 k4;clear k4;go_wp2_with fail
       go_ret2
       exact⟨none,HQ.out none (by rw[HC.out];exact .bad aag HES.out),K4.out,rfl⟩
      | some z =>
       obtain⟨m,r⟩:=z;rw[hes] at E1;have HES:=aa hes;clear hes;go_wp2_with fail
       refine(C1.out _ R0.out).mono ?_;rintro e w2 ⟨rfl,r2,k2⟩;have R2:=aa r2;have K2:=ao K0 k2;have B2:=aa (HB.out.kp k2 iN);clear r2 k2;go_wp2_with fail
       refine(T2.out _ R2.out).mono ?_;rintro e w3 ⟨rfl,r3,k3⟩;have R3:=aa r3;have K3:=ao K2 k3;have B3:=aa (B2.out.kp k3 iN);clear r3 k3;go_wp2_with fail
       refine(E1.out _ R3.out).mono ?_;intro e w4 fV;obtain⟨k4,k',v,rfl,hb4,r4,hr4,hl4⟩:=fV;have K4:=ao K3 k4;have R4:=aa r4;have B4:=aa (B3.out.kp k4 iN);have HE:=aa hr4;have zq:m.length≤1:=by
        rcases hb4 with ⟨_,rfl⟩ | ⟨_,_,rfl,_⟩<;>simp
       have HBT:=aa hb4;have ab7:=K4.out.size;clear k4 r4 hb4 hr4;have adC:=R4.out.le;go_wp2_with (at_builtin;refine KU _ rfl _ _ rfl w.heap.size _ out rfl B4.out _ rfl m HBT.out (by omega) ab7 ?_;intro v5 w5 EE ix)
       go_roundg (s.size-k')
       case measure=>omega
       case rel=>exact⟨k',out++m,R4.out.yl ix iN,by omega,ah _,K4.out.below ix,EE,by rw[cI];omega,fun o ho=>by
        have:=HQ.out _ (by rw[HC.out];exact .pK aag HES.out (HE.out▸ho))
        rwa[ED] at this⟩
     ·have g1:((c.toNat:Int) == (q.toNat:Int))=false:=aC.2 (by omega)
      have g2:((c.toNat:Int) == 10)=false:=aC.2 (fun e=>Ws (zI.1 (by show c.toNat=10;omega)))
      have g3:((c.toNat:Int) == 92)=false:=aC.2 (fun e=>Wt (zI.1 (by show c.toNat=92;omega)))
      go_wp2_with fail
      refine(C1.out _ R0.out).mono ?_;rintro e w2 ⟨rfl,r2,k2⟩;have R2:=aa r2;have K2:=ao K0 k2;have B2:=aa (HB.out.kp k2 iN);clear r2 k2;go_wp2_with fail
      refine(T2.out _ R2.out).mono ?_;rintro e w3 ⟨rfl,r3,k3⟩;have R3:=aa r3;have K3:=ao K2 k3;have B3:=aa (B2.out.kp k3 iN);clear r3 k3;have hsz3:=K3.out.size;go_wp2_with (at_builtin;refine KU _ rfl _ _ rfl w.heap.size _ out rfl (World.ownsRow.alloc B3.out _) _ rfl [c] (dS _ _ _ rfl) (by omega) (by simp;omega) ?_;intro v5 w5 EE ix)
      go_roundg (s.size-(k1+1))
      case measure=>omega
      case rel=>exact⟨k1+1,out++[c],(R3.out.alloc _).yl ix iN,by omega,ah _,(K3.out.alloc _).below ix,EE,by rw[cI];simp;omega,fun o ho=>by
       have:=HQ.out _ (by rw[HC.out];exact .byte hcq Ws Wt ho)
       rw[show(o.map fun x=>(c::x.1,x.2))=o.map fun x=>([c]++x.1,x.2) from rfl,ED] at this
       exact this⟩
theorem KX (s:ByteArray) (w:World):Calls Tryz.prog 135 #[.string s] w fun e w'=>e=.returned (.bool (pY s.data.toList))∧w=w':=by
 rw[←Lib.toList_data];go_enter Tryz.func135,Tryz.ntmps135
 go_wp2
 all_goals first
  | (go_ret;rename_i ha hb;rw[ha] at hb;cases hb;done)
  | (go_ret;exact⟨iL (by simp only[pY,keys,J6,J9,Bool.or_false,Bool.true_or,Bool.or_true, *]),rfl⟩)
theorem CJ (s:ByteArray) (w:World):Calls Tryz.prog 141 #[.string s] w fun e w'=>e=.returned (.bool (mQ s.data.toList))∧w=w':=by
 rw[←Lib.toList_data];go_enter Tryz.func141,Tryz.ntmps141
 go_wp2
 all_goals first
  | (go_ret;rename_i ha hb;rw[ha] at hb;cases hb;done)
  | (go_ret;exact⟨iL (by simp only[mQ,signs,J6,J9,Bool.or_false,Bool.true_or,Bool.or_true, *]),rfl⟩)
end Go.Proofs.YteflkdlaoiijbaaGreatDoor
