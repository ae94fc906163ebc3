/- Parts of the proof. -/
import Derived.StillTailTactics
import Derived.Test.YtodmcdfeldkocaaGreatDoorM04
set_option maxHeartbeats 16000000
set_option maxRecDepth 20000
namespace Go.Proofs.YtodmcdfeldkocaaGreatDoor
open Go.RowKit
def Wt:List (List UInt8):=[[97,110,100],[98,114,101,97,107],[100,111],[101,108,115,101],[101,108,115,101,105,102],[101,110,100],[102,97,108,115,101],[102,111,114],[102,117,110,99,116,105,111,110],[103,111,116,111],[105,102],[105,110],[108,111,99,97,108],[110,105,108],[110,111,116],[111,114],[114,101,112,101,97,116],[114,101,116,117,114,110],[116,104,101,110],[116,114,117,101],[117,110,116,105,108],[119,104,105,108,101]]
def uV (l:List UInt8):Bool:=Wt.contains l
def SL (c:UInt8):Bool:=decide (97≤c.toNat∧c.toNat≤122) || decide (65≤c.toNat∧c.toNat≤90) || decide (c.toNat=95)
def A9 (c:UInt8):Bool:=decide (48≤c.toNat∧c.toNat≤57)
def tf (c:UInt8):Bool:=SL c || A9 c
def M8 (l:List UInt8):Bool:=match l with | []=>false|c::_=>A9 c
def gN (s:ByteArray):Bool:=decide (s.size≠0) && decide (s.size≤65536) && !M8 s.data.toList && !uV s.data.toList && s.data.toList.all tf
theorem II (s:ByteArray) (w:World):Calls Tryz.prog 113 #[.string s] w fun e w'=>e=.returned (.bool (uV s.data.toList))∧w=w':=by
 rw[←Lib.toList_data];go_enter Tryz.func113,Tryz.ntmps113
 go_wp2_with fail
 all_goals first
  | (go_ret;rename_i ha hb;rw[ha] at hb;cases hb;done)
  | (go_ret;exact⟨cN (by simp only[uV,Wt,Lh,Ll,Bool.or_false,Bool.true_or,Bool.or_true, *]),rfl⟩)
theorem DE (c:UInt8) (w:World):Calls Tryz.prog 114 #[.int .u8 (c.toNat:Int)] w fun e w'=>e=.returned (.bool (SL c))∧w=w':=by
 unfold SL;have hc:=c.toNat_lt;generalize c.toNat=n at *;go_enter Tryz.func114,Tryz.ntmps114
 go_wp2_with fail
 all_goals go_ret
 all_goals exact⟨cN (by rw[mV];simp;omega),rfl⟩
theorem xl (c:UInt8) (w:World):Calls Tryz.prog 112 #[.int .u8 (c.toNat:Int)] w fun e w'=>e=.returned (.bool (A9 c))∧w=w':=by
 unfold A9;have hc:=c.toNat_lt;generalize c.toNat=n at *;go_enter Tryz.func112,Tryz.ntmps112
 go_wp2_with fail
 all_goals go_ret
 all_goals exact⟨cN (by rw[mV];simp;omega),rfl⟩
theorem M9 {p:UInt8→Bool} {l:List UInt8} {k:Nat} {c:UInt8} (h:l[k]? = some c):(l.drop k).all p=(p c && (l.drop (k+1)).all p):=by
 rw[eS h,sw]
theorem byte_at {s:ByteArray} {k:Nat} (h:k<s.size):s.data.toList[k]? = some s[k]:=by
 rw[Array.getElem?_toList];exact wC h
theorem xm (s:ByteArray) (w:World):Calls Tryz.prog 64 #[.string s] w fun e w'=>e=.returned (.bool (gN s))∧w=w':=by
 by_cases h0:s.size=0
 ·obtain rfl:s=⟨#[]⟩:=by
   have:s.data=#[]:=Array.eq_empty_of_size_eq_zero h0;cases s;simp_all
  go_enter Tryz.func64,Tryz.ntmps64
  go_wp2_with fail
  go_ret
  exact⟨rfl,rfl⟩
 ·have h00:0<s.size:=by omega
  have hne:s.toList.isEmpty=false:=by
   rw[Lib.toList_data];cases e:s.data.toList with
   | nil=>exact absurd (by rw[Lib.size_eq,e];rfl) h0
   | cons a t=>rfl
  have ac2:¬ s.toList=[]:=fun e=>by rw[e] at hne;cases hne
  by_cases h1:s.size≤65536
  ·have g1:decide ((65536:Int)<(s.size:Int))=false:=bZ (by omega)
   have hb0:=byte_at (s:=s) (k:=0) (by omega)
   have hf:M8 s.data.toList=A9 s[0]:=by
    cases e:s.data.toList with
    | nil=>rw[e] at hb0;simp at hb0
    | cons a t=>rw[e] at hb0;obtain rfl:=gW hb0;rfl
   have AT:gN s=(!A9 s[0] && !uV s.data.toList && s.data.toList.all tf):=by
    unfold gN;rw[hf,bQ (show s.size≠0 from h0),bQ h1]
    rfl
   rw[AT];have HW:=aa (II s w);have HD:=aa (xl s[0] w);obtain⟨D,hD⟩ :∃D,D=A9 s[0]:=⟨_,rfl⟩;obtain⟨K,hK⟩ :∃K,K=uV s.data.toList:=⟨_,rfl⟩;rw[←hD] at HD ⊢;rw[←hK] at HW ⊢;obtain⟨AL,YC⟩ :∃AL,AL=s.data.toList.all tf:=⟨_,rfl⟩;rw[←YC];have HAL:=aa YC;clear hD hK hf AT hb0 YC;cases D with
   | true =>
    go_enter Tryz.func64,Tryz.ntmps64
    go_wp2_with (go_at_call 112;refine HD.out.mono ?_;rintro e w' ⟨rfl,rfl⟩)
    go_ret
    exact⟨rfl,rfl⟩
   | false =>
    cases K with
    | true =>
     go_enter Tryz.func64,Tryz.ntmps64
     go_wp2_with (first|(go_at_call 112;refine HD.out.mono ?_;rintro e w' ⟨rfl,rfl⟩)|(go_at_call 113;refine HW.out.mono ?_;rintro e w' ⟨rfl,rfl⟩))
     go_ret
     exact⟨rfl,rfl⟩
    | false =>
     go_enter Tryz.func64,Tryz.ntmps64
     go_wp2_with (first|(go_at_call 112;refine HD.out.mono ?_;rintro e w' ⟨rfl,rfl⟩)|(go_at_call 113;refine HW.out.mono ?_;rintro e w' ⟨rfl,rfl⟩))
     clear HD HW;go_loop [22] (fun i=>∃k:Nat,k≤s.size∧i=.int .i64 (k:Int)∧(s.data.toList.drop k).all tf=AL) (fun i=>s.size-(intOf i).toNat)
     case atStart=>exact⟨0,bo _,rfl,HAL.out.symm⟩
     case round =>
      obtain⟨k,hk,rfl,ha⟩:=hrel;have HA:=aa ha;clear ha;by_cases hlt:k<s.size
      ·have hst:=M9 (p:=tf) (byte_at hlt)
       have HST:=aa hst;have HL:=aa (DE s[k] w);have HG:=aa (xl s[k] w);clear hst;cases e1:SL s[k] with
       | true =>
        have hn:tf s[k]=true:=by unfold tf;rw[e1];rfl
        rw[e1] at HL;rw[hn,kP] at HST;clear e1 hn;go_wp2_with (go_at_call 114;refine HL.out.mono ?_;rintro e w' ⟨rfl,rfl⟩)
        go_round
        case rel=>exact⟨k+1,by omega,by go_num,by rw[←HST.out];exact HA.out⟩
        case measure=>simp[intOf];omega
       | false =>
        rw[e1] at HL;cases e2:A9 s[k] with
        | true =>
         have hn:tf s[k]=true:=by unfold tf;rw[e1,e2];rfl
         rw[e2] at HG;rw[hn,kP] at HST;clear e1 e2 hn;go_wp2_with (first|(go_at_call 114;refine HL.out.mono ?_;rintro e w' ⟨rfl,rfl⟩)|(go_at_call 112;refine HG.out.mono ?_;rintro e w' ⟨rfl,rfl⟩))
         go_round
         case rel=>exact⟨k+1,by omega,by go_num,by rw[←HST.out];exact HA.out⟩
         case measure=>simp[intOf];omega
        | false =>
         have hn:tf s[k]=false:=by unfold tf;rw[e1,e2];rfl
         rw[e2] at HG;rw[hn,zU] at HST;clear e1 e2 hn;go_wp2_with (first|(go_at_call 114;refine HL.out.mono ?_;rintro e w' ⟨rfl,rfl⟩)|(go_at_call 112;refine HG.out.mono ?_;rintro e w' ⟨rfl,rfl⟩))
         go_ret
         exact⟨cN (by rw[←HA.out,HST.out];rfl),rfl⟩
      ·have hd:(s.data.toList.drop k).all tf=true:=by
        rw[mr (by rw[←Lib.size_eq];omega)];rfl
       have HD:=aa hd;clear hd;go_wp2_with fail
       go_ret
       exact⟨cN (by rw[←HA.out,HD.out]),rfl⟩
  ·have g1:decide ((65536:Int)<(s.size:Int))=true:=bQ (by omega)
   have AT:gN s=false:=by
    unfold gN;rw[bZ h1];simp
   rw[AT];clear AT;go_enter Tryz.func64,Tryz.ntmps64
   go_wp2_with fail
   go_ret
   exact⟨rfl,rfl⟩
def kC (k:Int):Int :=
 if k=12∨k=13 then 1 else if k=4∨k=20 then 2 else if k=11∨k=27 then 10 else if k=19∨k=26∨k=28 then 8 else if k=7∨k=10∨k=31∨k=32 then 20 else if k=5 then 4 else 0
theorem ac3:bits .or .i64 2 8=10:=by kernel_rfl
theorem ac4:bits .or .i64 0 8=8:=by kernel_rfl
theorem ac5:bits .or .i64 16 4=20:=by kernel_rfl
theorem ac6:bits .or .i64 0 4=4:=by kernel_rfl
theorem yG (k:Int) (w:World):Calls Tryz.prog 62 #[.int .i64 k] w fun e w'=>e=.returned (.int .i64 (kC k))∧w=w':=by
 go_enter Tryz.func62,Tryz.ntmps62
 go_wp2_with fail
 all_goals
  go_ret
  refine⟨A0 ?_,rfl⟩;simp only[kC];simp_all [ac3,ac4,ac5,ac6]
  try omega
def YD (k op:Int):Bool:=if k=12 then decide (1≤op) && decide (op≤19) else if k=13 then decide (20≤op) && decide (op≤23) else true
def pw (k n:Int):Bool:=if k=11 then n == 0 || n == 1 else if k=20∨k=27 then decide (1≤n) else true
def px (k:Int) (n:Nat):Bool:=if k=19∨k=27 then decide (1≤n) else if k=26∨k=28 then decide (n=1) else true
def YE (a b c d:Bool):Int :=
 let x:=if a then bits .or .i64 0 1 else 0
 let y:=if b then bits .or .i64 x 2 else x
 let z:=if c then bits .or .i64 y 4 else y
 if d then bits .or .i64 z 8 else z
def SM (x:Nd):Int:=YE (x.op != 0) (x.num != 0) (!x.s.toList.isEmpty) (decide (0<x.names.length))
theorem SN (x:Nd) (A B:Option Addr) (a c b d:Nat) (w:World):Calls Tryz.prog 65 #[da x (.slice A a c) (.slice B b d)] w fun e w'=>e=.returned (.bool (YD x.kind x.op))∧Below w.heap.size w w':=by
 obtain⟨kind,line,op,num,s,names,kids⟩:=x;unfold da;simp only;go_enter Tryz.func65,Tryz.ntmps65
 go_wp2_with fail
 all_goals
  go_ret
  refine⟨cN ?_,bD w _⟩;simp only[YD];simp_all
  try omega
theorem DF (x:Nd) (A B:Option Addr) (a c b d:Nat) (w:World):Calls Tryz.prog 66 #[da x (.slice A a c) (.slice B b d)] w fun e w'=>e=.returned (.bool (pw x.kind x.num))∧Below w.heap.size w w':=by
 obtain⟨kind,line,op,num,s,names,kids⟩:=x;unfold da;simp only;go_enter Tryz.func66,Tryz.ntmps66
 go_wp2_with fail
 all_goals
  go_ret
  refine⟨cN ?_,bD w _⟩;simp only[pw];simp_all
  try omega
theorem DG (x:Nd) (A B:Option Addr) (c b d:Nat) (w:World):Calls Tryz.prog 67 #[da x (.slice A x.names.length c) (.slice B b d)] w fun e w'=>e=.returned (.bool (px x.kind x.names.length))∧Below w.heap.size w w':=by
 obtain⟨kind,line,op,num,s,names,kids⟩:=x;unfold da;simp only;generalize names.length=a;go_enter Tryz.func67,Tryz.ntmps67
 go_wp2_with fail
 all_goals
  go_ret
  refine⟨cN ?_,bD w _⟩;simp only[px];first
   | (simp_all;done)
   | (simp_all;omega)
   | (simp_all;rw[mV];simp;omega)
theorem IJ (x:Nd) (A B:Option Addr) (c b d:Nat) (w:World):Calls Tryz.prog 63 #[da x (.slice A x.names.length c) (.slice B b d)] w fun e w'=>e=.returned (.int .i64 (SM x))∧Below w.heap.size w w':=by
 obtain⟨kind,line,op,num,s,names,kids⟩:=x;unfold da;unfold SM;simp only;generalize names.length=a;cases e1:(op != 0)<;>cases e2:(num != 0)<;>cases e3:s.toList.isEmpty<;>by_cases e4:0<a;all_goals
  first
   | rw[bQ e4]
   | rw[bZ e4]
  simp only[YE,Bool.not_true,Bool.not_false,if_true,Li,if_false];go_enter Tryz.func63,Tryz.ntmps63
  go_wp2_with fail
  go_ret
  exact⟨rfl,bD w _⟩
def bS (x:Nd):Bool :=
 !(bits .andNot .i64 (SM x) (kC x.kind) != 0) && (!(bits .and .i64 (kC x.kind) 16 != 0) || gN x.s) && x.names.all gN && (YD x.kind x.op && pw x.kind x.num && px x.kind x.names.length)
theorem xn {α:Type} {p:α→Bool} {l:List α} {k:Nat} {c:α} (h:l[k]? = some c):(l.drop k).all p=(p c && (l.drop (k+1)).all p):=by
 rw[eS h,sw]
theorem xo {w w':World} {B:Nat} {x:Nd} {nv kv:Value} (hB:w.heap.size<B) (hb:Below B (w.alloc (.cells #[.int .i64 x.kind,.int .i64 x.line,.int .i64 x.op,.int .i64 x.num,.string x.s,nv,kv] 54)) w'):lP w' w.heap.size 0 x nv kv:=by
 have h :∀j:Nat,w'.cell? ⟨w.heap.size,j,none⟩=(#[.int .i64 x.kind,.int .i64 x.line,.int .i64 x.op,.int .i64 x.num,.string x.s,nv,kv]:Array Value)[j]?:=fun j=>(hb.cell (p:=⟨w.heap.size,j,none⟩) hB).trans (dG w _ _ _)
 exact⟨h 0,h 1,h 2,h 3,h 4,h 5,h 6⟩
theorem DH (x:Nd) (nv kv:Value) (w:World) (hnv:sB w nv x.names) (hkv :∃A n c,kv=.slice A n c) (hl:x.names.length≤140737488355328) :
  Calls Tryz.prog 31 #[da x nv kv] w fun e w'=>e=.returned (.bool (bS x))∧Below w.heap.size w w':=by
 have HS:=aa hnv;obtain⟨NA,nc,rfl,_,eT⟩:=hnv;obtain⟨KA,kn,kc,rfl⟩:=hkv;have HNA:=aa eT;clear eT;obtain⟨F,hF⟩ :∃F,F=kC x.kind:=⟨_,rfl⟩;obtain⟨G,hG⟩ :∃G,G=SM x:=⟨_,rfl⟩;obtain⟨O,hO⟩ :∃O,O=YD x.kind x.op:=⟨_,rfl⟩;obtain⟨C,hC⟩ :∃C,C=pw x.kind x.num:=⟨_,rfl⟩;obtain⟨M,hM⟩ :∃M,M=px x.kind x.names.length:=⟨_,rfl⟩;obtain⟨S,hS⟩ :∃S,S=gN x.s:=⟨_,rfl⟩;obtain⟨AL,YC⟩ :∃AL,AL=x.names.all gN:=⟨_,rfl⟩;have HFo:=aa (fun W=>hF▸yG x.kind W)
 have HGi:=aa (fun W=>hG▸IJ x NA KA nc kn kc W)
 have Wu:=aa (fun W=>hO▸SN x NA KA x.names.length nc kn kc W)
 have HCo:=aa (fun W=>hC▸DF x NA KA x.names.length nc kn kc W)
 have HNm:=aa (fun W=>hM▸DG x NA KA nc kn kc W)
 have HSn:=aa (fun W=>hS▸xm x.s W)
 have hfk:bS x=(!(bits .andNot .i64 G F != 0) && (!(bits .and .i64 F 16 != 0) || S) && AL && (O && C && M)):=by
  unfold bS;rw[hF,hG,hO,hC,hM,hS,YC]
 rw[hfk];have HAL:=aa YC;clear hF hG hO hC hM hS YC hfk;unfold da at HGi Wu HCo HNm ⊢;have mB:=aa (fun W (h:Below (w.heap.size+1) (w.alloc (.cells #[.int .i64 x.kind,.int .i64 x.line,.int .i64 x.op,.int .i64 x.num,.string x.s,.slice NA x.names.length nc,.slice KA kn kc] 54)) W)=>xo (dz _) h)
 have B0:=aa (bD w (.cells #[.int .i64 x.kind,.int .i64 x.line,.int .i64 x.op,.int .i64 x.num,.string x.s,.slice NA x.names.length nc,.slice KA kn kc] 54));cases e1:(bits .andNot .i64 G F != 0) with
 | true =>
  go_enter Tryz.func31,Tryz.ntmps31
  go_wp2_with (go_at_call 62;refine(HFo.out _).mono ?_;rintro e w' ⟨rfl,rfl⟩)
  refine(HGi.out _).mono ?_;rintro e w1 ⟨rfl,b1⟩;rw[aq] at b1;have B1:=aa (B0.out.trans (b1.mono (iH _)));obtain⟨c0,c1,c2,c3,c4,c5,c6⟩:=mB.out _ b1;clear b1;go_wp2_with fail
  go_ret
  exact⟨rfl,B1.out⟩
 | false =>
  have key:((bits .and .i64 F 16 != 0)=true∧S=false)∨((bits .and .i64 F 16 != 0)=true∧S=true)∨(bits .and .i64 F 16 != 0)=false:=by
   cases (bits .and .i64 F 16 != 0)<;>cases S<;>simp
  rcases key with ⟨e2,rfl⟩|hh
  ·rw[e2]
   go_enter Tryz.func31,Tryz.ntmps31
   go_wp2_with (go_at_call 62;refine(HFo.out _).mono ?_;rintro e w' ⟨rfl,rfl⟩)
   refine(HGi.out _).mono ?_;rintro e w1 ⟨rfl,b1⟩;rw[aq] at b1;have B1:=aa (B0.out.trans (b1.mono (iH _)));obtain⟨c0,c1,c2,c3,c4,c5,c6⟩:=mB.out _ b1;clear b1;go_wp2_with (go_at_call 64;refine(HSn.out _).mono ?_;rintro e w' ⟨rfl,rfl⟩)
   go_ret
   exact⟨rfl,B1.out⟩
  ·have hval:(!(bits .and .i64 F 16 != 0) || S)=true:=by
    rcases hh with ⟨h1,rfl⟩|h1<;>rw[h1]<;>simp
   rw[hval];clear hval;simp only[Bool.not_false,kP];rcases hh with ⟨e2,rfl⟩|e2;all_goals
    go_enter Tryz.func31,Tryz.ntmps31
    go_wp2_with (go_at_call 62;refine(HFo.out _).mono ?_;rintro e w' ⟨rfl,rfl⟩)
    refine(HGi.out _).mono ?_;rintro e w1 ⟨rfl,b1⟩;rw[aq] at b1;have BW:=aa b1;have B1:=aa (B0.out.trans (b1.mono (iH _)));have Df:=b1.size;rw[aq] at Df;obtain⟨c0,c1,c2,c3,c4,c5,c6⟩:=mB.out _ b1;clear b1;go_wp2_with (go_at_call 64;refine(HSn.out _).mono ?_;rintro e w' ⟨rfl,rfl⟩)
    clear c0 c1 c2 c3 c4 c5 c6;go_loop [28] (fun i=>∃k:Nat,k≤x.names.length∧i=.int .i64 (k:Int)∧(x.names.drop k).all gN=AL) (fun i=>x.names.length-(intOf i).toNat)
    case atStart=>exact⟨0,bo _,rfl,HAL.out.symm⟩
    case round =>
     obtain⟨k,hk,rfl,ha⟩:=hrel;have HA:=aa ha;clear ha;by_cases hlt:k<x.names.length
     ·obtain⟨y,hy⟩ :∃y,x.names[k]? = some y:=⟨x.names[k],bG hlt⟩
      rcases HNA.out with h0 | ⟨b2,o2,rfl,hb2,hc2⟩
      ·rw[h0] at hlt;exact absurd hlt (jA _)
      have ck:=(B1.out.cell (p:=⟨b2,o2+k,none⟩) hb2).trans (hc2 k _ hy);have HST:=aa (xn (p:=gN) hy);have HN:=aa (xm y w1);cases hb:gN y with
      | true =>
       rw[hb] at HN HST;rw[kP] at HST;clear hc2 hy hb;go_wp2_with (go_at_call 64;refine HN.out.mono ?_;rintro e w' ⟨rfl,rfl⟩)
       go_round
       case rel=>exact⟨k+1,by omega,by go_num,by rw[←HST.out];exact HA.out⟩
       case measure=>simp[intOf];omega
      | false =>
       rw[hb] at HN HST;rw[zU] at HST;clear hc2 hy hb;go_wp2_with (go_at_call 64;refine HN.out.mono ?_;rintro e w' ⟨rfl,rfl⟩)
       go_ret
       exact⟨cN (by rw[←HA.out,HST.out];rfl),B1.out⟩
     ·have hd:(x.names.drop k).all gN=true:=by
       rw[mr (by omega)];rfl
      have hal:AL=true:=by rw[←HA.out,hd]
      subst hal;clear hd;obtain⟨c0,c1,c2,c3,c4,c5,c6⟩:=mB.out _ BW.out;go_wp2_with fail
      refine(Wu.out _).mono ?_;rintro e w2 ⟨rfl,b2⟩;have lG:=aa (jj BW.out (by rw[aq];exact ah _) b2)
      have B2:=aa (jj B1.out (ah _) b2);clear c0 c1 c2 c3 c4 c5 c6 b2;cases O with
      | false =>
       go_wp2_with fail
       go_ret
       exact⟨rfl,B2.out⟩
      | true =>
       obtain⟨c0,c1,c2,c3,c4,c5,c6⟩:=mB.out _ lG.out;go_wp2_with fail
       refine(HCo.out _).mono ?_;rintro e w3 ⟨rfl,b3⟩;have Sk:=aa (jj lG.out (by rw[aq];exact ah _) b3)
       have B3:=aa (jj B2.out (ah _) b3);clear c0 c1 c2 c3 c4 c5 c6 b3;cases C with
       | false =>
        go_wp2_with fail
        go_ret
        exact⟨rfl,B3.out⟩
       | true =>
        obtain⟨c0,c1,c2,c3,c4,c5,c6⟩:=mB.out _ Sk.out;go_wp2_with fail
        refine(HNm.out _).mono ?_;rintro e w4 ⟨rfl,b4⟩;have B4:=aa (jj B3.out (ah _) b4);clear c0 c1 c2 c3 c4 c5 c6 b4;go_wp2_with fail
        go_ret
        exact⟨by simp,B4.out⟩
def flB (F:Int) (a b c d nb na o:Bool):Bool:=!(bits .andNot .i64 (YE a b c d) F != 0) && (!(bits .and .i64 F 16 != 0) || nb) && na && o
theorem nB {k:Int} (h:gM (eL k) 1=true):tD k:=by
 unfold tD;unfold eL at h;repeat' split at h
 all_goals first|omega|exact absurd h (by decide +kernel)
theorem aa7 {k:Int} (h:gM (eL k) 2=true):k=7∨k=8:=by
 unfold eL at h;repeat' split at h
 all_goals first|omega|exact absurd h (by decide +kernel)
theorem aa8 {k:Int} (h:gM (eL k) 4=true):k=9∨k=10:=by
 unfold eL at h;repeat' split at h
 all_goals first|omega|exact absurd h (by decide +kernel)
theorem aa9 {k:Int} (h:gM (eL k) 8=true):k=11:=by
 unfold eL at h;repeat' split at h
 all_goals first|omega|exact absurd h (by decide +kernel)
theorem YF {k:Int} (h:gM (eL k) 16=true):k=16∨k=17:=by
 unfold eL at h;repeat' split at h
 all_goals first|omega|exact absurd h (by decide +kernel)
theorem uW {k:Int} (h:gM (eL k) 32=true):k=18:=by
 unfold eL at h;repeat' split at h
 all_goals first|omega|exact absurd h (by decide +kernel)
theorem YG {k:Int} (h:gM (eL k) 64=true):StK k:=by
 unfold StK;unfold eL at h;repeat' split at h
 all_goals first|omega|exact absurd h (by decide +kernel)
theorem SO {k:Int} (h:gM (eL k) 128=true):k=29:=by
 unfold eL at h;repeat' split at h
 all_goals first|omega|exact absurd h (by decide +kernel)
theorem Ba {r most:Int} :∀(f:Nat) (t:Int) (ks:List Int),∃a,ks=a++(kA [r] most f t ks).2∧(kA [r] most f t ks).1=t+(a.length:Int)∧(∀x∈a,gM x r=true)∧(a=[]∨t+(a.length:Int)≤most):=by
 intro f;induction f with
 | zero=>intro t ks;exact⟨[],rfl,by rw[kA];simp,fun x hx=>by simp at hx,.inl rfl⟩
 | succ f ih =>
  intro t ks;rw[kA];split
  ·rename_i hc
   obtain⟨h1,h2⟩:=hc;cases ks with
   | nil=>cases h2
   | cons k ks =>
    rw[iS,dp] at h2;obtain⟨a,e1,e2,e3,e4⟩:=ih (t+1) ks;refine⟨k::a,?_,?_,fun x hx=>?_,.inr ?_⟩
    ·show k::ks=k::(a++(kA [r] most f (t+1) ks).2)
     rw[←e1]
    ·show(kA [r] most f (t+1) ks).1=_
     rw[e2,List.length_cons];omega
    ·rcases bc.1 hx with rfl|hx
     ·exact h2.1
     ·exact e3 x hx
    ·rw[List.length_cons]
     rcases e4 with e4|e4
     ·subst e4
      simp;omega
     ·omega
  ·exact⟨[],rfl,by simp,fun x hx=>by simp at hx,.inl rfl⟩
theorem Bb {r s most:Int} :∀(f:Nat) (t:Int) (ks:List Int),∃ps:List (Int×Int),ks=(ps.flatMap fun p=>[p.1,p.2])++(kA [r,s] most f t ks).2∧(kA [r,s] most f t ks).1=t+(ps.length:Int)∧(∀p∈ps,gM p.1 r=true∧gM p.2 s=true)∧(ps=[]∨t+(ps.length:Int)≤most):=by
 intro f;induction f with
 | zero=>intro t ks;exact⟨[],rfl,by rw[kA];simp,fun x hx=>by simp at hx,.inl rfl⟩
 | succ f ih =>
  intro t ks;rw[kA];split
  ·rename_i hc
   obtain⟨h1,h2⟩:=hc;match ks,h2 with
   | [],h2=>cases h2
   | [k],h2=>rw[iS,iS,dp] at h2;exact absurd h2.2 (by simp)
   | k::l::ks,h2 =>
    rw[iS,iS,dp,dp] at h2;obtain⟨a,e1,e2,e3,e4⟩:=ih (t+1) ks;refine⟨(k,l)::a,?_,?_,fun x hx=>?_,.inr ?_⟩
    ·show k::l::ks=k::l::((a.flatMap fun p=>[p.1,p.2])++(kA [r,s] most f (t+1) ks).2)
     rw[←e1]
    ·show(kA [r,s] most f (t+1) ks).1=_
     rw[e2,List.length_cons];omega
    ·rcases bc.1 hx with rfl|hx
     ·exact⟨h2.1,h2.2.1⟩
     ·exact e3 x hx
    ·rw[List.length_cons]
     rcases e4 with e4|e4
     ·subst e4
      simp;omega
     ·omega
  ·exact⟨[],rfl,by simp,fun x hx=>by simp at hx,.inl rfl⟩
theorem gO {a most r:Int} {l:List Int} (h:fD [(a,most,[r])] l=true):(∀x∈l,gM x r=true)∧a≤(l.length:Int)∧(l=[]∨(l.length:Int)≤most):=by
 rw[fD,fD,dp] at h;obtain⟨h1,h2⟩:=h;obtain⟨b,e1,e2,e3,e4⟩:=Ba (r:=r) (most:=most) (l.length+1) 0 l;have h3:=EV.1 h2;have h1:=iG h1;have e5:(kA [r] most (l.length+1) 0 l).2=[]:=h3;rw[e5,gh] at e1;have h1:a≤(kA [r] most (l.length+1) 0 l).1:=h1;rw[e2] at h1;subst e1;exact⟨e3,by omega,e4.imp id (by omega)⟩
theorem qw {a most r b Bc s:Int} {l:List Int} (h:fD [(a,most,[r]),(b,Bc,[s])] l=true) :∃l1 l2,l=l1++l2∧(∀x∈l1,gM x r=true)∧a≤(l1.length:Int)∧(l1=[]∨(l1.length:Int)≤most)∧(∀x∈l2,gM x s=true)∧b≤(l2.length:Int)∧(l2=[]∨(l2.length:Int)≤Bc):=by
 rw[fD,dp] at h;obtain⟨h1,h2⟩:=h;obtain⟨c,e1,e2,e3,e4⟩:=Ba (r:=r) (most:=most) (l.length+1) 0 l;have h1:a≤(kA [r] most (l.length+1) 0 l).1:=iG h1;obtain⟨k1,k2,k3⟩:=gO h2;rw[e2] at h1;exact⟨c,_,e1,e3,by omega,e4.imp id (by omega),k1,k2,k3⟩
theorem Na {a most r s b Bc q:Int} {l:List Int} (h:fD [(a,most,[r,s]),(b,Bc,[q])] l=true) :∃(ps:List (Int×Int)) (l2:List Int),l=(ps.flatMap fun p:Int×Int=>[p.1,p.2])++l2∧(∀p∈ps,gM p.1 r=true∧gM p.2 s=true)∧a≤(ps.length:Int)∧(∀x∈l2,gM x q=true)∧b≤(l2.length:Int)∧(l2=[]∨(l2.length:Int)≤Bc):=by
 rw[fD,dp] at h;obtain⟨h1,h2⟩:=h;obtain⟨c,e1,e2,e3,e4⟩:=Bb (r:=r) (s:=s) (most:=most) (l.length+1) 0 l;have h1:a≤(kA [r,s] most (l.length+1) 0 l).1:=iG h1;obtain⟨k1,k2,k3⟩:=gO h2;rw[e2] at h1;exact⟨c,_,e1,e3,by omega,k1,k2,k3⟩
theorem uX {r s:Int} {l:List Int} (h:fD [(1,1,[r,s])] l=true) :∃a b,l=[a,b]∧gM a r=true∧gM b s=true:=by
 rw[fD,fD,dp] at h;obtain⟨h1,h2⟩:=h;obtain⟨c,e1,e2,e3,e4⟩:=Bb (r:=r) (s:=s) (most:=1) (l.length+1) 0 l;have h1:1≤(kA [r,s] 1 (l.length+1) 0 l).1:=iG h1;have h3:(kA [r,s] 1 (l.length+1) 0 l).2=[]:=EV.1 h2;rw[e2] at h1;rw[h3,gh] at e1;match c,e1,e3,e4,h1 with
 | [p],e1,e3,_,_=>exact⟨p.1,p.2,e1,e3 p (bK.2 rfl)⟩
 | [],_,_,_,h1=>simp at h1
 | _::_::_,_,_,e4,_ =>
  rcases e4 with e4|e4
  ·cases e4
  ·simp at e4;omega
theorem n7 {l:List Int} (h:1≤(l.length:Int)) (h':l=[]∨(l.length:Int)≤1):l.length=1:=by
 rcases h' with h'|h'
 ·rw[h'] at h;simp at h
 ·omega
theorem n9 {kk:List Int} {p:Int→Prop} (h:(kk.map eL).length=1) (hp :∀x∈kk,p x) :∃a,kk=[a]∧p a:=by
 match kk,h,hp with
 | [a],_,hp=>exact⟨a,rfl,hp a (bK.2 rfl)⟩
 | [],h,_=>cases h
 | _::_::_,h,_=>simp at h
theorem Nb {l:List Int} {n:Int} (h:n≤(l.length:Int)) (h':l.map eL=[]∨(l.length:Int)≤n) (hn:1≤n):(l.length:Int)=n:=by
 rcases h' with h'|h'
 ·rw[kJ] at h'
  subst h';simp at h;omega
 ·omega
theorem SP {k n:Int} {kk:List Int} (h:lI k n (kk.map eL)=true):qc k n kk:=by
 have all :∀{r:Int} {p:Int→Prop},(∀{k},gM (eL k) r=true→p k)→∀{l:List Int},(∀x∈l.map eL,gM x r=true)→∀a∈l,p a:=fun hp l hl a ha=>hp (hl _ (j3 ha))
 unfold lI at h;refine⟨fun e=>?_,fun e=>?_,fun e=>?_,fun e=>?_,fun e=>?_,fun e=>?_,fun e=>?_,fun e=>?_,fun e=>?_,fun e=>?_,fun e=>?_,fun e=>?_,fun e=>?_,fun e=>?_,fun e=>?_,fun e=>?_⟩
 ·rw[show aZ k n=[] by unfold aZ;repeat rw[ab (by omega)]] at h
  rw[fD] at h;exact kJ.1 (EV.1 h)
 ·rw[show aZ k n=[(1,1,[1,1])] by rcases e with rfl|rfl|rfl<;>simp[aZ]] at h
  obtain⟨a,b,e1,e2,e3⟩:=uX h;match kk,e1 with
  | [x,y],e1 =>
   injection e1 with e4 e5;injection e5 with e5 _;exact⟨x,y,rfl,nB (by rw[e4];exact e2),nB (by rw[e5];exact e3)⟩
  | [],e1=>cases e1
  | [_],e1=>cases e1
  | _::_::_::_,e1=>cases e1
 ·rw[show aZ k n=[(1,big,[1])] by rcases e with rfl|rfl<;>simp[aZ]] at h
  obtain⟨h1,h2,_⟩:=gO h;rw[bU] at h2;exact⟨by omega,all nB h1⟩
 ·rw[show aZ k n=[(1,1,[32])] by rcases e with rfl|rfl<;>simp[aZ]] at h
  obtain⟨h1,h2,h3⟩:=gO h;obtain⟨a,e1,e2⟩:=n9 (kk:=kk) (n7 h2 h3) (all uW h1);rw[e1,e2]
 ·rw[show aZ k n=[(1,1,[1])] by rcases e with rfl|rfl|rfl<;>simp[aZ]] at h
  obtain⟨h1,h2,h3⟩:=gO h;exact n9 (kk:=kk) (n7 h2 h3) (all nB h1)
 ·rw[show aZ k n=[(0,big,[16])] by rw[e];simp[aZ]] at h
  exact all YF (gO h).1
 ·rw[show aZ k n=[(0,big,[64]),(0,1,[128])] by rw[e];simp[aZ]] at h
  obtain⟨l1,l2,e1,h1,_,_,h2,h3,h4⟩:=qw h;obtain⟨k1,k2,rfl,rfl,rfl⟩:=wD.1 e1;refine⟨k1,k2,rfl,all YG h1,?_⟩;have h5:=all SO h2;match k2,h4,h5 with
  | [],_,_=>exact .inl rfl
  | [a],_,h5=>exact .inr (by rw[h5 a (bK.2 rfl)])
  | _::_::_,h4,_ =>
   rcases h4 with h4|h4
   ·cases h4
   ·simp at h4;omega
 ·rw[show aZ k n=[(0,big,[1])] by rcases e with rfl|rfl<;>simp[aZ]] at h
  exact all nB (gO h).1
 ·rw[show aZ k n=[(n,n,[2]),(1,big,[1])] by rw[e];simp[aZ]] at h
  obtain⟨l1,l2,e1,h1,h1a,SQ,h2,h3,h4⟩:=qw h;obtain⟨k1,k2,rfl,rfl,rfl⟩:=wD.1 e1;rw[bU] at *;exact⟨k1,k2,rfl,all aa7 h1,Nb h1a SQ,by omega,all nB h2⟩
 ·rw[show aZ k n=[(1,1,[4])] by rw[e];simp[aZ]] at h
  obtain⟨h1,h2,h3⟩:=gO h;exact n9 (kk:=kk) (n7 h2 h3) (all aa8 h1)
 ·rw[show aZ k n=[(1,1,[1,32])] by rw[e];simp[aZ]] at h
  obtain⟨a,b,e1,e2,e3⟩:=uX h;match kk,e1 with
  | [x,y],e1 =>
   injection e1 with e4 e5;injection e5 with e5 _;exact⟨x,by rw[uW (k:=y) (by rw[e5];exact e3)],nB (by rw[e4];exact e2)⟩
  | [],e1=>cases e1
  | [_],e1=>cases e1
  | _::_::_::_,e1=>cases e1
 ·rw[show aZ k n=[(1,1,[32,1])] by rw[e];simp[aZ]] at h
  obtain⟨a,b,e1,e2,e3⟩:=uX h;match kk,e1 with
  | [x,y],e1 =>
   injection e1 with e4 e5;injection e5 with e5 _;exact⟨y,by rw[uW (k:=x) (by rw[e4];exact e2)],nB (by rw[e5];exact e3)⟩
  | [],e1=>cases e1
  | [_],e1=>cases e1
  | _::_::_::_,e1=>cases e1
 ·rw[show aZ k n=[(1,big,[1,32]),(0,1,[32])] by rw[e];simp[aZ]] at h
  obtain⟨ps,l2,e1,h1,h2,h3,_,h4⟩:=Na h;obtain⟨k1,k2,rfl,e2,rfl⟩:=wD.1 e1;have key :∀(ps:List (Int×Int)) (k1:List Int),k1.map eL=(ps.flatMap fun p=>[p.1,p.2])→(∀p∈ps,gM p.1 1=true∧gM p.2 32=true)→∃qs:List (Int×Int),k1=(qs.flatMap fun p=>[p.1,p.2])∧qs.length=ps.length∧∀p∈qs,tD p.1∧p.2=18:=by
   intro ps;induction ps with
   | nil=>intro k1 e _;exact⟨[],kJ.1 e,rfl,fun p hp=>by simp at hp⟩
   | cons p ps ih =>
    intro k1 e hp;match k1,e with
    | [],e=>exact absurd (aw List.length e) (by simp)
    | [_],e=>exact absurd (aw List.length e) (by simp)
    | x::y::k1,e =>
     have e:eL x::eL y::k1.map eL=p.1::p.2::(ps.flatMap fun p=>[p.1,p.2]):=e
     have a1:=(zV e).1;have a2:=(zV (zV e).2).1;have e:=(zV (zV e).2).2;obtain⟨qs,b1,b2,b3⟩:=ih k1 e fun q hq=>hp q (bO _ hq)
     have h0:=hp p (bP ..);refine⟨(x,y)::qs,by rw[b1];rfl,by simp[b2],fun q hq=>?_⟩
     rcases bc.1 hq with rfl|hq
     ·exact⟨nB (by rw[a1];exact h0.1),uW (by rw[a2];exact h0.2)⟩
     ·exact b3 q hq
  obtain⟨qs,b1,b2,b3⟩:=key ps k1 e2 h1;refine⟨qs,k2,by rw[b1],by omega,b3,?_⟩
  have h5:=all uW h3;match k2,h4,h5 with
  | [],_,_=>exact .inl rfl
  | [a],_,h5=>exact .inr (by rw[h5 a (bK.2 rfl)])
  | _::_::_,h4,_ =>
   rcases h4 with h4|h4
   ·cases h4
   ·simp at h4;omega
 ·rw[show aZ k n=[(2,3,[1]),(1,1,[32])] by rw[e];simp[aZ]] at h
  obtain⟨l1,l2,e1,h1,h1a,SQ,h2,h3,h4⟩:=qw h;obtain⟨k1,k2,rfl,rfl,rfl⟩:=wD.1 e1;obtain⟨a,e2,e3⟩:=n9 (kk:=k2) (n7 h3 h4) (all uW h2);rw[bU] at *;refine⟨k1,by rw[e2,e3],?_,all nB h1⟩
  rcases SQ with SQ|SQ
  ·rw[kJ] at SQ
   subst SQ;simp at h1a
  ·omega
 ·rw[show aZ k n=[(n,n,[1]),(1,1,[32])] by rw[e];simp[aZ]] at h
  obtain⟨l1,l2,e1,h1,h1a,SQ,h2,h3,h4⟩:=qw h;obtain⟨k1,k2,rfl,rfl,rfl⟩:=wD.1 e1;obtain⟨a,e2,e3⟩:=n9 (kk:=k2) (n7 h3 h4) (all uW h2);rw[bU] at *;exact⟨k1,by rw[e2,e3],Nb h1a SQ,all nB h1⟩
 ·rw[show aZ k n=[(1,1,[8])] by rw[e];simp[aZ]] at h
  obtain⟨h1,h2,h3⟩:=gO h;obtain⟨a,e1,e2⟩:=n9 (kk:=kk) (n7 h2 h3) (all aa9 h1);rw[e1,e2]
def YH (F:Int):Prop:=F=0∨F=1∨F=2∨F=4∨F=8∨F=10∨F=20
theorem SS (k:Int):YH (kC k):=by
 unfold YH kC;repeat' split
 all_goals decide
theorem SU {F:Int} (hF:YH F) {a b c d nb na o:Bool} (h:flB F a b c d nb na o=true):(a=true→F=1)∧(b=true→F=2∨F=10)∧(c=true→F=4∨F=20)∧(d=true→F=8∨F=10)∧(F=20→nb=true)∧na=true∧o=true:=by
 rcases hF with rfl|rfl|rfl|rfl|rfl|rfl|rfl<;>cases a<;>cases b<;>cases c<;>cases d<;>cases nb<;>cases na<;>cases o<;>first|exact absurd h (by decide +kernel)|(clear h;decide)
structure aba (x:Nd):Prop where
 op:x.op≠0→x.kind=12∨x.kind=13
 num:x.num≠0→x.kind=4∨x.kind=11∨x.kind=20∨x.kind=27
 s:x.s≠⟨#[]⟩→x.kind=5∨x.kind=7∨x.kind=10∨x.kind=31∨x.kind=32
 names:x.names≠[]→x.kind=11∨x.kind=19∨x.kind=26∨x.kind=27∨x.kind=28
 name:(x.kind=7∨x.kind=10∨x.kind=31∨x.kind=32)→gN x.s=true
 all :∀y∈x.names,gN y=true
 bin:x.kind=12→1≤x.op∧x.op≤19
 una:x.kind=13→20≤x.op∧x.op≤23
 many:x.kind=11→x.num=0∨x.num=1
 count:(x.kind=20∨x.kind=27)→1≤x.num
 least:(x.kind=19∨x.kind=27)→1≤x.names.length
 just:(x.kind=26∨x.kind=28)→x.names.length=1
theorem Bd {x:Nd} (h:bS x=true):aba x:=by
 have h:flB (kC x.kind) (x.op != 0) (x.num != 0) (!x.s.toList.isEmpty) (decide (0<x.names.length)) (gN x.s) (x.names.all gN) (YD x.kind x.op && pw x.kind x.num && px x.kind x.names.length)=true:=h;obtain⟨h1,h2,h3,h4,h5,h6,h7⟩:=SU (SS _) h;rw[dp,dp] at h7;obtain⟨⟨h7,h8⟩,h9⟩:=h7;have F1:kC x.kind=1→x.kind=12∨x.kind=13:=fun e=>by
  unfold kC at e;repeat' split at e
  all_goals first|assumption|(exfalso;revert e;decide)
 have F2:kC x.kind=2→x.kind=4∨x.kind=20:=fun e=>by
  unfold kC at e;repeat' split at e
  all_goals first|assumption|(exfalso;revert e;decide)
 have F10:kC x.kind=10→x.kind=11∨x.kind=27:=fun e=>by
  unfold kC at e;repeat' split at e
  all_goals first|assumption|(exfalso;revert e;decide)
 have F8:kC x.kind=8→x.kind=19∨x.kind=26∨x.kind=28:=fun e=>by
  unfold kC at e;repeat' split at e
  all_goals first|assumption|(exfalso;revert e;decide)
 have F20:kC x.kind=20→x.kind=7∨x.kind=10∨x.kind=31∨x.kind=32:=fun e=>by
  unfold kC at e;repeat' split at e
  all_goals first|assumption|(exfalso;revert e;decide)
 have F4:kC x.kind=4→x.kind=5:=fun e=>by
  unfold kC at e;repeat' split at e
  all_goals first|assumption|(exfalso;revert e;decide)
 refine⟨fun e=>F1 (h1 (by simpa using e)),fun e=>?_,fun e=>?_,fun e=>?_,fun e=>h5 ?_,fun y hy=>List.all_eq_true.1 h6 y hy,fun e=>?_,fun e=>?_,fun e=>?_,fun e=>?_,fun e=>?_,fun e=>?_⟩
 ·rcases h2 (by simpa using e) with e|e
  ·have:=F2 e;omega
  ·have:=F10 e;omega
 ·have e':(!x.s.toList.isEmpty)=true:=by
   cases hs:x.s.toList with
   | nil =>
    exfalso;apply e;rw[Lib.toList_data] at hs;cases hx:x.s with
    | mk a =>
     rw[hx] at hs;have:a=#[]:=Array.toList_eq_nil_iff.1 hs;rw[this]
   | cons a l=>rfl
  rcases h3 e' with e|e
  ·have:=F4 e;omega
  ·have:=F20 e;omega
 ·rcases h4 (bQ (wE.2 e)) with e|e
  ·have:=F8 e;omega
  ·have:=F10 e;omega
 ·unfold kC
  rw[ab (by omega),ab (by omega),ab (by omega),ab (by omega),ai e]
 ·unfold YD at h7
  rw[ai e,dp] at h7;exact⟨iG h7.1,iG h7.2⟩
 ·unfold YD at h7
  rw[ab (by omega),ai e,dp] at h7
  exact⟨iG h7.1,iG h7.2⟩
 ·unfold pw at h8
  rw[ai e,Bool.or_eq_true] at h8;rcases h8 with h8|h8
  ·exact .inl (by simpa using h8)
  ·exact .inr (by simpa using h8)
 ·unfold pw at h8
  rw[ab (by omega),ai e] at h8
  exact iG h8
 ·unfold px at h9
  rw[ai e] at h9;exact iG h9
 ·unfold px at h9
  rw[ab (by omega),ai e] at h9
  exact iG h9
theorem Be {T:List Nd} :∀{ks:List Lt},Lt.sW T ks→(ks.map fun k=>(k.loc:Int)).map (fun k=>eL (dI T k.toNat))=(jG ks).map eL
 | [],_=>rfl
 | .mk i h l::ks,hi=>by
  unfold Lt.sW at hi;have h1:=hi.1;unfold Lt.In at h1;unfold jG;rw[dV,dV,dV,dV];have h2:=Be hi.2;unfold jG at h2;rw[h2];congr 1
  show eL (dI T (((i:Nat):Int)).toNat)=eL h.kind
  rw[gV,nT h1.1]
mutual
theorem xp {T:List Nd} (hT :∀x∈T,lI x.kind x.num (x.kids.map fun k=>eL (dI T k.toNat))=true) :∀(t:Lt),Lt.In T t→t.uw
 | .mk i h ks,hi=>by
  unfold Lt.In at hi;obtain⟨hx,hk,hs⟩:=hi;unfold Lt.uw;have h1:=hT h (aX hx);rw[hk,Be hs] at h1;exact⟨SP h1,uY hT ks hs⟩
theorem uY {T:List Nd} (hT :∀x∈T,lI x.kind x.num (x.kids.map fun k=>eL (dI T k.toNat))=true) :∀(ks:List Lt),Lt.sW T ks→Lt.ix ks
 | [],_=>by unfold Lt.ix;trivial
 | k::ks,hi=>by
  unfold Lt.sW at hi;unfold Lt.ix;exact⟨xp hT k hi.1,uY hT ks hi.2⟩
end
theorem YI {T:List Nd} (hT :∀x∈T,lI x.kind x.num (x.kids.map fun k=>eL (dI T k.toNat))=true) {t:Lt} (hi:Lt.In T t) (hn:t.eE.Nodup) (hk:1≤t.hd.kind∧t.hd.kind≤32):ic T t:=⟨hi,xp hT t hi,Wq hT t hi,hn,hk⟩
theorem tH {f:Nat} {st st':aI} (h:st'.frames=st.frames):cM f st'.frames=cM f st.frames:=by rw[h]
theorem qx {x:List jw} {L:List cR} (h:L≠[]):grow x L≠[]:=by
 cases L with
 | nil=>exact absurd rfl h
 | cons l r=>intro e;cases e
theorem qy {T:List Nd} {B b:Nat} {nv:Value} {ub ob:Nat} (f:Nat) (loop:Int) (pa la:Option Addr) (lc:Nat) (ms:List Nat) (L:List cR) (st:aI) (w:World) (kv:Value) (ks:List Lt) (hr:eY T B b nv ub ob f pa (.slice la L.length lc) ms L st w (Lt.ey ks) (Lt.al ks)) (hn:fI T ks) (hV :∀k∈ks,bA T B b nv ub ob k) (hu:qq B ob (.slice la L.length lc) L.length (eh L) w kv (ks.map fun k=>(k.loc:Int)))
  (hl :∀k∈ks,18≤k.hd.kind→loop=cM f st.frames) (ht :∀k∈ks,L≠[]∨k.hd.kind=18) (wU:ks.length≤20000) :
  Calls Tryz.prog 73 #[.pointer (some ⟨b,0,none⟩),kv,.agg #[.int .i64 (f:Int),.int .i64 loop,.pointer pa,.slice la L.length lc]] w (ao B b nv T.length ub ob (.slice la L.length lc) L st (aE ks f st) w):=by
 have HNK:=aa hu;obtain⟨UA,uc,rfl,Fw,_⟩:=hu;have HR:=aa hr;have HN:=aa hn;have HV:=aa hV;have HL:=aa hl;have kD:=aa ht;simp only[bU] at Fw ⊢;obtain⟨R,hR⟩ :∃R,R=aE ks f st:=⟨_,rfl⟩;have HRS:=aa hR;rw[←hR];have cg:B≤w.heap.size:=by obtain⟨_,_,_,_,_,h,_⟩:=hr.fC.nodes;exact h
 clear hr hn hV hl ht hR;go_enter Tryz.func73,Tryz.ntmps73
 go_wp2_with fail
 have eM:=heap_alloc_new w (.cells #[.int .i64 (f:Int),.int .i64 loop,.pointer pa,.slice la L.length lc] 69);have Si:cU B ob (.slice la L.length lc) L.length (eh L) w (w.alloc (.cells #[.int .i64 (f:Int),.int .i64 loop,.pointer pa,.slice la L.length lc] 69)):=cU.bH ((Below.refl _ _).alloc (ah _) _) cg;have hs1:(w.alloc (.cells #[.int .i64 (f:Int),.int .i64 loop,.pointer pa,.slice la L.length lc] 69)).heap.size=w.heap.size+1:=aq _ _;generalize hW1:w.alloc (.cells #[.int .i64 (f:Int),.int .i64 loop,.pointer pa,.slice la L.length lc] 69)=W1 at eM Si hs1 ⊢;have HF0:=aa Si;have mB:=aa eM;have je:=aa hW1;clear eM Si hs1 hW1;go_loopw [12] (fun tk wr=>∃(n:Nat) (s1:aI) (x:List jw),tk=.int .i64 (n:Int)∧n≤ks.length∧cU B ob (.slice la L.length lc) L.length (eh L) W1 wr∧eY T B b nv ub ob f pa (.slice la L.length lc) ms (grow x L) s1 wr (Lt.ey (ks.drop n)) (Lt.al (ks.drop n))∧s1.names=x++st.names∧(L=[]→x=[])∧s1.frames=st.frames∧aE (ks.drop n) f s1=R) (fun tk _=>ks.length-(intOf tk).toNat)
 case atStart =>
  refine⟨0,st,[],rfl,bo _,cU.refl _ _ _ _ _ _,?_,rfl,fun _=>rfl,rfl,by rw[oJ];exact HRS.out.symm⟩
  rw[oJ,jH];have h:=HR.out;refine⟨h.fC.below HF0.out.below,?_,?_,h.hd,h.cx,h.few,h.fr,h.names,h.fns,h.fx⟩
  ·obtain⟨fv,FL,hw⟩:=h.rs
   exact⟨fv,FL,by rw[←je.out];exact hw.alloc _⟩
  ·have h2:cU B ob (.slice la L.length lc) L.length none w W1:=by rw[←je.out];exact cU.bH ((Below.refl _ _).alloc (ah _) _) cg
   exact⟨h.pos.fx.jk h2 (ah _),h.pos.blk.jk h2 (by simp),h.pos.names,h.pos.apart⟩
 case round =>
  obtain⟨n,s1,x,rfl,zz,hf,hr1,hx1,hx2,mP,Rx⟩:=hrel;have py:=hf.cells _ _ _ _ mB.out (by decide)
  have p0:=ae py 0;have p1:=ae py 1;have p2:=ae py 2;have p3:=ae py 3;replace p0:_=some (Value.int .i64 (f:Int)):=p0;replace p1:_=some (Value.int .i64 loop):=p1;replace p2:_=some (Value.pointer pa):=p2;replace p3:_=some (Value.slice la L.length lc):=p3;have HF:=aa hf;have nm:=aa hr1;have Nc:=aa hx1;have HX2:=aa hx2;have HFR:=aa mP;have SV:=aa Rx;clear hf hr1 hx1 hx2 mP Rx py;by_cases hlt:n<ks.length
  ·obtain⟨k,hk⟩ :∃k,ks[n]? = some k:=⟨ks[n],bG hlt⟩
   have oz:=aX hk;have hdr:=drop_at hk;have DI:=aa (HNK.out.later (HF0.out.trans HF.out));obtain⟨A',c',he,_,eF⟩:=DI.out;injection he with qp _ MD;subst qp MD;rcases eF with h0 | ⟨sb,so,rfl,hsc⟩
   ·rw[kJ] at h0
    rw[h0] at hlt;exact absurd hlt (by simp)
   have cs:wr.cell? ⟨sb,so+n,none⟩=some (.int .i64 (k.loc:Int)):=hsc wr (cU.refl _ _ _ _ _ _) n _ (by rw[eO,hk];rfl)
   have hrk:=nm.out;rw[(qt hk).1,(qt hk).2] at hrk;have abb:=HN.out.at_ k oz;have bs:=HV.out k oz f loop pa la lc ms (grow x L) s1 wr (by rw[cz];exact hrk.mono (gD _ _) (gD _ _)) (fun h=>(HL.out k oz h).trans (tH HFR.out).symm) ((kD.out k oz).imp qx id)
   rw[cz] at bs;have mD:=aa bs;have HRK:=aa hrk;have HK:=aa abb;have uq:=aa hdr;have jf:=aa hlt;clear bs hrk abb hdr hk oz hsc;go_wp2_with fail
   refine mD.out.mono ?_;intro e w2 hp;cases dJ:aY k f s1 with
   | error y =>
    rw[dJ] at hp;obtain⟨hb,v,rfl,g2,rfl,h2⟩:=hp;have H2:=aa h2;have HB:=aa hb;have YJ:=aa dJ;clear h2 hb dJ;go_wp2_with fail
    go_ret
    have hE:R=.error y:=by rw[←SV.out,uq.out,eU,YJ.out];rfl
    rw[hE];exact⟨(HF0.out.below.trans HF.out.below).trans HB.out,_,rfl,_,rfl,H2.out⟩
   | ok s2 =>
    rw[dJ] at hp;obtain⟨rfl,y,hy1,hy2,hr2,hf2,rL⟩:=eY.next HRK.out HK.out dJ hp;rw[grow_grow] at hr2;rw[cz,nX] at hf2;have v8:=aa hr2;have lV:=aa hf2;have HY1:=aa hy1;have HY2:=aa hy2;have ac7:=aa rL;have YJ:=aa dJ;clear hp hr2 hf2 hy1 hy2 rL dJ;go_wp2_with fail
    refine⟨⟨n+1,s2,y++x,by go_num,jf.out,HF.out.trans lV.out,v8.out,by rw[HY1.out,Nc.out,cP],fun e=>?_,ac7.out.trans HFR.out,?_⟩,by have:=jf.out;simp[intOf];omega⟩
    ·rw[HX2.out e,HY2.out (by rw[e];rfl)];rfl
    ·rw[←SV.out,uq.out,eU,YJ.out];rfl
  ·have ru:n=ks.length:=by omega
   go_wp2_with fail
   go_ret
   have hE:R=.ok s1:=by rw[←SV.out,ru,wG,eB]
   rw[hE];exact⟨(HF0.out.below.trans HF.out.below),rfl,nm.out.rs,HF0.out.trans HF.out,x,Nc.out,HX2.out,nm.out.pos.fx⟩
theorem all_nil (b f:Nat) (loop:Int) (pa la A:Option Addr) (ln lc c:Nat) (w:World) :
  Calls Tryz.prog 73 #[.pointer (some ⟨b,0,none⟩),.slice A 0 c,.agg #[.int .i64 (f:Int),.int .i64 loop,.pointer pa,.slice la ln lc]] w fun e w'=>e=.returned .nilIface∧Below w.heap.size w w':=by
 go_enter Tryz.func73,Tryz.ntmps73
 go_wp2_with fail
 go_loopw [12] (fun tk wr=>tk=.int .i64 0∧Below w.heap.size w wr) (fun _ _=>0)
 case atStart=>exact⟨rfl,(Below.refl _ _).alloc (ah _) _⟩
 case round =>
  obtain⟨rfl,hb⟩:=hrel;go_wp2_with fail
  go_ret
  exact⟨rfl,hb⟩
theorem eY.du {T:List Nd} {B b:Nat} {nv:Value} {ub ob f:Nat} {pa:Option Addr} {lv:Value} {ms:List Nat} {L:List cR} {st:aI} {w w':World} {a s:Nat} (h:eY T B b nv ub ob f pa lv ms L st w a s) (hb:Below w.heap.size w w'):eY T B b nv ub ob f pa lv ms L st w' a s:=by
 have cg:B≤w.heap.size:=by obtain⟨_,_,_,_,_,h,_⟩:=h.fC.nodes;exact h
 have h2:cU B ob lv L.length none w w':=cU.bH hb cg;refine⟨h.fC.below h2.below,?_,⟨h.pos.fx.jk h2 (ah _),h.pos.blk.jk h2 (by simp),h.pos.names,h.pos.apart⟩,h.hd,h.cx,h.few,h.fr,h.names,h.fns,h.fx⟩
 obtain⟨fv,FL,hw⟩:=h.rs;exact⟨fv,FL,hw.later hb⟩
theorem ao.from {B b:Nat} {nv:Value} {N ub ob:Nat} {lv:Value} {L:List cR} {st:aI} {r:Rs aI} {w w1 w2:World} {e:Ending} (hb:Below w.heap.size w w1) (hB:B≤w.heap.size) (h:ao B b nv N ub ob lv L st r w1 e w2):ao B b nv N ub ob lv L st r w e w2:=by
 refine⟨(hb.mono hB).trans h.1,?_⟩;have h2:=h.2;cases r with
 | error y=>exact h2
 | ok s =>
  obtain⟨k1,k2,k3,k4⟩:=h2;exact⟨k1,k2,(cU.bH hb hB).trans k3,k4⟩
theorem ao.ret {B b:Nat} {nv:Value} {N ub ob:Nat} {lv:Value} {L:List cR} {st:aI} {r:Rs aI} {w w2:World} {e:Ending} (h:ao B b nv N ub ob lv L st r w e w2) :∃v,e=.returned v:=by
 have h2:=h.2;cases r with
 | error y=>obtain⟨v,h3,_⟩:=h2;exact⟨v,h3⟩
 | ok s=>exact⟨_,h2.1⟩
structure eZ (w W:World) (p q:Nat) (f:Nat) (loop:Int) (pa:Option Addr) (lv kv nv:Value) (d0 d1 d2:Value):Prop where
 pos:W.heap[w.heap.size]? = some (.cells #[.int .i64 (f:Int),.int .i64 loop,.pointer pa,lv] 69 (0,0))
 kids :∃a b c d e,W.heap[p]? = some (.cells #[a,b,c,d,e,nv,kv] 54 (0,0))
 dec:W.heap[q]? = some (.cells #[d0,d1,d2] 144 (0,0))
 pne:p=w.heap.size+1
 qne:w.heap.size+1<q
theorem lh {w W0 w1:World} {f:Nat} {loop:Int} {pa:Option Addr} {lv a b c d e nv kv:Value} (hW:W0=(w.alloc (.cells #[.int .i64 (f:Int),.int .i64 loop,.pointer pa,lv] 69)).alloc (.cells #[a,b,c,d,e,nv,kv] 54)) (h1:Below W0.heap.size W0 w1) (d0 d1 d2:Value):Below w.heap.size w (w1.alloc (.cells #[d0,d1,d2] 144))∧eZ w (w1.alloc (.cells #[d0,d1,d2] 144)) (w.heap.size+1) w1.heap.size f loop pa lv kv nv d0 d1 d2:=by
 have hs:W0.heap.size=w.heap.size+1+1:=by rw[hW,aq,aq]
 have hb0:Below w.heap.size w W0:=by rw[hW];exact Below.two _ _
 have h0:W0.heap[w.heap.size]? = some (.cells #[.int .i64 (f:Int),.int .i64 loop,.pointer pa,lv] 69 (0,0)):=by
  rw[hW];exact(Below.heap_alloc _ _ _ (by rw[aq];omega)).trans (heap_alloc_new w _)
 have h2:W0.heap[w.heap.size+1]? = some (.cells #[a,b,c,d,e,nv,kv] 54 (0,0)):=by
  rw[hW];have:=heap_alloc_new (w.alloc (.cells #[.int .i64 (f:Int),.int .i64 loop,.pointer pa,lv] 69)) (.cells #[a,b,c,d,e,nv,kv] 54);rwa[aq] at this
 have hl:=h1.size;have hb:=hb0.trans (h1.mono (by omega))
 have k :∀j,j<W0.heap.size→(w1.alloc (.cells #[d0,d1,d2] 144)).heap[j]? = W0.heap[j]?:=fun j hj=>(Below.heap_alloc _ _ _ (by omega)).trans (h1.block j hj)
 exact⟨hb.alloc (by omega) _,(k _ (by omega)).trans h0,⟨_,_,_,_,_,(k _ (by omega)).trans h2⟩,heap_alloc_new _ _,rfl,by omega⟩
theorem eZ.cells {w W:World} {p q f:Nat} {loop:Int} {pa:Option Addr} {lv kv nv d0 d1 d2:Value} (h:eZ w W p q f loop pa lv kv nv d0 d1 d2):W.cell? ⟨w.heap.size,0,none⟩=some (.int .i64 (f:Int))∧W.cell? ⟨w.heap.size,1,none⟩=some (.int .i64 loop)∧W.cell? ⟨w.heap.size,2,none⟩=some (.pointer pa)∧W.cell? ⟨w.heap.size,3,none⟩=some lv∧W.cell? ⟨p,5,none⟩=some nv∧W.cell? ⟨p,6,none⟩=some kv∧W.cell? ⟨q,0,none⟩=some d0∧W.cell? ⟨q,1,none⟩=some d1∧W.cell? ⟨q,2,none⟩=some d2:=by
 obtain⟨a,b,c,d,e,hk⟩:=h.kids;exact⟨ae h.pos 0,ae h.pos 1,ae h.pos 2,ae h.pos 3,ae hk 5,ae hk 6,ae h.dec 0,ae h.dec 1,ae h.dec 2⟩
theorem eZ.on {w W W':World} {p q f:Nat} {loop:Int} {pa:Option Addr} {lv kv nv d0 d1 d2:Value} (h:eZ w W p q f loop pa lv kv nv d0 d1 d2) (hk :∀(k:Nat) c (e:TypeId) fz,W.heap[k]? = some (.cells c e fz)→e∉[43,199,225,140,64,3,194]→W'.heap[k]? = some (.cells c e fz)):eZ w W' p q f loop pa lv kv nv d0 d1 d2:=by
 obtain⟨a,b,c,d,e,hk5⟩:=h.kids;exact⟨hk _ _ _ _ h.pos (by decide),⟨a,b,c,d,e,hk _ _ _ _ hk5 (by decide)⟩,hk _ _ _ _ h.dec (by decide),h.pne,h.qne⟩
theorem eZ.later {w W W':World} {p q f:Nat} {loop:Int} {pa:Option Addr} {lv kv nv d0 d1 d2:Value} (h:eZ w W p q f loop pa lv kv nv d0 d1 d2) (hb:Below W.heap.size W W'):eZ w W' p q f loop pa lv kv nv d0 d1 d2 :=
 h.on fun k _ _ _ hk _=>(hb.block k (aO.1 hk).1).trans hk
theorem eZ.jk {w W W':World} {p q f:Nat} {loop:Int} {pa:Option Addr} {lv kv nv d0 d1 d2:Value} {B ob n:Nat} {v:Value} {top:Option Nat} (h:eZ w W p q f loop pa lv kv nv d0 d1 d2) (hf:cU B ob v n top W W'):eZ w W' p q f loop pa lv kv nv d0 d1 d2:=h.on hf.cells
theorem eY.step {T:List Nd} {B b:Nat} {nv:Value} {ub ob f:Nat} {pa:Option Addr} {lv:Value} {ms:List Nat} {L:List cR} {st st':aI} {w w':World} {a s a1 s1:Nat} {e:Ending} (h:eY T B b nv ub ob f pa lv ms L st w (a1+a) (s1+s)) (wS:Mk a1 s1 st st') (vP:Cx f st') (hf:st'.frames=st.frames) (hp:ao B b nv T.length ub ob lv L st (.ok st') w e w') :
  e=.returned .nilIface∧∃x,st'.names=x++st.names∧(L=[]→x=[])∧eY T B b nv ub ob f pa lv ms (grow x L) st' w' a s∧cU B ob lv L.length (eh L) w w':=by
 obtain⟨hb,rfl,Rx,mP,x,hx1,hx2,hx3⟩:=hp;refine⟨rfl,x,hx1,hx2,⟨h.fC.below hb,Rx,h.pos.on mP hx3 hx1 hx2 hf,h.hd.grow x,vP,wS.few,fun y hy=>?_,?_,?_,?_⟩,mP⟩
 ·rw[hf] at hy
  exact cG (h.fr y hy) wS.least
 ·have:=wS.names;have:=h.names;omega
 ·have:=wS.fns;have:=h.fns;omega
 ·rw[cz];have:=h.fx;omega
theorem DJ {T:List Nd} {B b:Nat} {nv:Value} {ub ob:Nat} (f:Nat) (loop:Int) (pa la:Option Addr) (lc:Nat) (ms:List Nat) (L:List cR) (x:List jw) (st:aI) (w:World) (kv:Value) (ks:List Lt) (hr:eY T B b nv ub ob f pa (.slice la L.length lc) ms (grow x L) st w (Lt.ey ks) (Lt.al ks)) (hn:fI T ks) (hV :∀k∈ks,bA T B b nv ub ob k) (hu:gG w B kv (ks.map fun k=>(k.loc:Int)))
  (hl :∀k∈ks,18≤k.hd.kind→loop=cM f st.frames) (ht :∀k∈ks,L≠[]∨k.hd.kind=18) (wU:ks.length≤20000) :
  Calls Tryz.prog 73 #[.pointer (some ⟨b,0,none⟩),kv,.agg #[.int .i64 (f:Int),.int .i64 loop,.pointer pa,.slice la L.length lc]] w (ao B b nv T.length ub ob (.slice la L.length lc) (grow x L) st (aE ks f st) w):=by
 have:=qy f loop pa la lc ms (grow x L) st w kv ks (by rw[cz];exact hr) hn hV hu.keeps hl (fun k hk=>(ht k hk).imp qx id) wU
 rw[cz] at this;exact this
theorem eY.world {T:List Nd} {B b:Nat} {nv:Value} {ub ob f:Nat} {pa:Option Addr} {lv:Value} {ms:List Nat} {L:List cR} {st:aI} {w:World} {a s:Nat} (h:eY T B b nv ub ob f pa lv ms L st w a s):B≤w.heap.size:=by obtain⟨_,_,_,_,_,h,_⟩:=h.fC.nodes;exact h
theorem oP.iz {W:World} {B f:Nat} {p lv:Value} {ms:List Nat} {l:cR} {r:List cR} {st:aI} (h:oP W B f p lv ms (l::r) st):l.iz.length≤st.names.length:=by
 rw[h.names];show _≤(l.iz++mz r).length
 rw[bY];omega
theorem FT {T:List Nd} {B b:Nat} {nv:Value} {ub ob:Nat} (i f:Nat) (h:Nd) (ks:List Lt) (loop:Int) (pa la:Option Addr) (lc:Nat) (ms:List Nat) (L:List cR) (st:aI) (w:World) (hr:eY T B b nv ub ob f pa (.slice la L.length lc) ms L st w (Lt.ey ks) (Lt.al ks)) (hx:T[i]? = some h) (hk:h.kids=ks.map fun k=>(k.loc:Int)) (hn:fI T ks) (hV :∀k∈ks,bA T B b nv ub ob k)
  (hl :∀k∈ks,18≤k.hd.kind→loop=cM f st.frames) (ht :∀k∈ks,L≠[]∨k.hd.kind=18) (hd:gI h.kind h.kids.length=(false,0,false)) :
  Calls Tryz.prog 35 #[.pointer (some ⟨b,0,none⟩),.int .i64 (i:Int),.agg #[.int .i64 (f:Int),.int .i64 loop,.pointer pa,.slice la L.length lc]] w (ao B b nv T.length ub ob (.slice la L.length lc) L st (aE ks f st) w):=by
 obtain⟨bk,o,c,rfl,dU,cg,dJ⟩:=hr.fC.nodes;obtain⟨vM,vN,eT,⟨NA,nc,vQ,_⟩,e7⟩:=dJ i h hx;have rK:h.kids.length≤20000:=(hr.fC.small h (aX hx)).1;have wU:ks.length≤20000:=by rw[hk,bU] at rK;exact rK
 obtain⟨KA,kc,rl,wT,_⟩:=id e7;subst vQ rl;obtain⟨x0,x1,x2,x3,x4,x5,x6⟩:=eT;have v7:i<T.length:=(aK.1 hx).1;have pO:=hr.fC.few;have hbl:b<w.heap.size:=by obtain⟨_,_,hw⟩:=hr.rs;exact hw.mQ.1
 have d0:w.cell? ⟨b,0,none⟩=some (.slice (some ⟨bk,o,none⟩) T.length c):=by obtain⟨_,_,hw⟩:=hr.rs;exact ae hw.blk 0
 have gT:bk<w.heap.size:=by omega
 have HD:=aa (gJ h.kind h.line h.op h.num h.s NA KA h.names.length nc h.kids.length kc);have HR:=aa hr;have HN:=aa hn;have HV:=aa hV;have HL:=aa hl;have kD:=aa ht;have IK:=aa e7;have SW:=aa hd;have HK:=aa hk;have tb:Hid (∀W,Below w.heap.size w W→Calls Tryz.prog 73 #[.pointer (some ⟨b,0,none⟩),.slice KA h.kids.length kc,.agg #[.int .i64 (f:Int),.int .i64 loop,.pointer pa,.slice la L.length lc]] W (ao B b (.slice (some ⟨bk,o,none⟩) T.length c) T.length ub ob (.slice la L.length lc) L st (aE ks f st) w)):=aa fun W hW =>
  (qy f loop pa la lc ms L st W (.slice KA h.kids.length kc) ks (hr.du hW) hn hV (by rw[←hk];exact(e7.below (hW.mono cg)).keeps) hl ht wU).mono fun e w' h=>h.from hW cg
 clear hr hn hV hl ht e7 hd dJ hk;go_enter Tryz.func35,Tryz.ntmps35
 go_wp2_with fail
 refine(HD.out _ (by omega)).mono ?_
 rw[SW.out];rintro e w1 ⟨rfl,hb1⟩;have ee:=aa hb1;clear hb1;go_wp2_with fail
 have yH:=lh rfl ee.out (.bool false) (.int .i64 0) (.bool false);have qz:=aa yH.2;have oR:=aa yH.1;clear yH;clear d0 x0 x1 x2 x3 x4 x5 x6;generalize w1.alloc (.cells #[.bool false,.int .i64 0,.bool false] 144)=W2 at qz oR ⊢;generalize w1.heap.size=q at qz ⊢;generalize w.heap.size+1=p at qz ⊢;obtain⟨k0,k1,k2,k3,k4,k5,k6,k7,k8⟩:=qz.out.cells;have hKc:h.kids.length≤kc:=wT;go_still_tail 7,(by kernel_rfl)
 change wpList _ _ _ _ _ W2.drew;have D2:=aa (show Below W2.heap.size W2 W2.drew from(Below.refl _ _).drew)
 generalize W2.drew=W3 at D2 ⊢;go_wp2_with fail
 refine(all_nil b f loop pa la KA L.length lc kc W3).mono ?_;rintro e w4 ⟨rfl,hb4⟩;have B4:=aa (D2.out.trans (hb4.mono D2.out.size));have P4:=aa (qz.out.later B4.out);clear hb4 k0 k1 k2 k3 k4 k5 k6 k7 k8;obtain⟨k0,k1,k2,k3,k4,k5,k6,k7,k8⟩:=P4.out.cells;go_wp2_with fail
 go_still_tail 7,(by kernel_rfl)
 change wpList _ _ _ _ _ w4.drew;have HC:=aa (tb.out w4.drew (oR.out.trans (B4.out.mono oR.out.size)).drew);generalize w4.drew=W5 at HC ⊢;go_wp2_with fail
 refine HC.out.mono ?_;intro e w6 hp;obtain⟨v,rfl⟩:=hp.ret;have HP:=aa hp;clear hp;go_wp2_with fail
 go_ret
 exact HP.out
theorem ao.abc {B b:Nat} {nv:Value} {N ub ob:Nat} {lv:Value} {L:List cR} {st:aI} {r:Rs aI} {w w1 w2:World} (h:ao B b nv N ub ob lv L st r w (.returned .nilIface) w1) (hb:Below w1.heap.size w1 w2):ao B b nv N ub ob lv L st r w (.returned .nilIface) w2:=by
 have h2:=h.2;cases r with
 | error y =>
  obtain⟨v,hv,g,rfl,_⟩:=h2;injection hv with hv;cases hv
 | ok s =>
  obtain⟨k1,⟨fv,FL,k2⟩,k3,x,k4,k5,k6⟩:=h2;have hB:B≤w1.heap.size:=by have:=k2.mQ.1;have:=k2.pos;omega
  have hf:cU B ob lv L.length none w1 w2:=cU.bH hb hB;exact⟨h.1.trans hf.below,k1,⟨fv,FL,k2.later hb⟩,k3.trans (hf.Fu _),x,k4,k5,k6.jk hf (by rw[cz];exact ah _)⟩
theorem Nf {T:List Nd} {B b:Nat} {nv:Value} {ub ob:Nat} (i f:Nat) (h:Nd) (ks:List Lt) (loop:Int) (pa la:Option Addr) (lc:Nat) (ms:List Nat) (l:cR) (r:List cR) (st:aI) (w:World) (hr:eY T B b nv ub ob f pa (.slice la (l::r).length lc) ms (l::r) st w (h.names.length+Lt.ey ks) (Lt.al ks)) (hx:T[i]? = some h) (hk:h.kids=ks.map fun k=>(k.loc:Int)) (hn:fI T ks) (hV :∀k∈ks,bA T B b nv ub ob k)
  (hl :∀k∈ks,18≤k.hd.kind→loop=cM f st.frames) (hsz :∀s∈h.names,s.size≤65536) (hd:gI h.kind h.kids.length=(true,(h.kids.length:Int),false)) :
  Calls Tryz.prog 35 #[.pointer (some ⟨b,0,none⟩),.int .i64 (i:Int),.agg #[.int .i64 (f:Int),.int .i64 loop,.pointer pa,.slice la (l::r).length lc]] w (ao B b nv T.length ub ob (.slice la (l::r).length lc) (l::r) st ((aE ks f st).bind fun s1=>bu i f h.line h.names s1) w):=by
 obtain⟨bk,o,c,rfl,dU,cg,dJ⟩:=hr.fC.nodes;obtain⟨vM,vN,eT,⟨NA,nc,vQ,_⟩,e7⟩:=dJ i h hx;have rK:h.kids.length≤20000:=(hr.fC.small h (aX hx)).1;have wU:ks.length≤20000:=by rw[hk,bU] at rK;exact rK
 obtain⟨KA,kc,rl,wT,_⟩:=id e7;subst vQ rl;obtain⟨x0,x1,x2,x3,x4,x5,x6⟩:=eT;have v7:i<T.length:=(aK.1 hx).1;have pO:=hr.fC.few;have hbl:b<w.heap.size:=by obtain⟨_,_,hw⟩:=hr.rs;exact hw.mQ.1
 have d0:w.cell? ⟨b,0,none⟩=some (.slice (some ⟨bk,o,none⟩) T.length c):=by obtain⟨_,_,hw⟩:=hr.rs;exact ae hw.blk 0
 have gT:bk<w.heap.size:=by omega
 have HD:=aa (gJ h.kind h.line h.op h.num h.s NA KA h.names.length nc h.kids.length kc);have tb:Hid (∀W,Below w.heap.size w W→Calls Tryz.prog 73 #[.pointer (some ⟨b,0,none⟩),.slice KA h.kids.length kc,.agg #[.int .i64 (f:Int),.int .i64 loop,.pointer pa,.slice la (l::r).length lc]] W (ao B b (.slice (some ⟨bk,o,none⟩) T.length c) T.length ub ob (.slice la (l::r).length lc) (l::r) st (aE ks f st) W)):=aa fun W hW =>
  qy f loop pa la lc ms (l::r) st W (.slice KA h.kids.length kc) ks ((hr.du hW).mono (wI _ _) (ah _)) hn hV (by rw[←hk];exact(e7.below (hW.mono cg)).keeps) hl (fun k _=>.inl (by simp)) wU
 have HR:=aa hr;have HN:=aa hn;have HV:=aa hV;have HL:=aa hl;have IK:=aa e7;have SW:=aa hd;have HK:=aa hk;clear hr hn hV hl e7 hd dJ hk;generalize Ng:(l::r).length=ln at *;have IL:=aa Ng;clear Ng;go_enter Tryz.func35,Tryz.ntmps35
 go_wp2_with fail
 refine(HD.out _ (by omega)).mono ?_
 rw[SW.out];rintro e w1 ⟨rfl,hb1⟩;have ee:=aa hb1;clear hb1;go_wp2_with fail
 have yH:=lh rfl ee.out (.bool true) (.int .i64 (h.kids.length:Int)) (.bool false);have qz:=aa yH.2;have oR:=aa yH.1;clear yH;clear d0 x0 x1 x2 x3 x4 x5 x6;generalize w1.alloc (.cells #[.bool true,.int .i64 (h.kids.length:Int),.bool false] 144)=W2 at qz oR ⊢;generalize w1.heap.size=q at qz ⊢;generalize w.heap.size+1=p at qz ⊢;obtain⟨k0,k1,k2,k3,k4,k5,k6,k7,k8⟩:=qz.out.cells;have hKc:h.kids.length≤kc:=wT;go_still_tail 7,(by kernel_rfl)
 change wpList _ _ _ _ _ W2.drew;have D2:=aa (show Below W2.heap.size W2 W2.drew from(Below.refl _ _).drew)
 generalize W2.drew=W3 at D2 ⊢;go_wp2_with fail
 have iK:=aa (oR.out.trans (D2.out.mono oR.out.size));refine(tb.out W3 iK.out).mono ?_;intro e w4 hp;cases oS:aE ks f st with
 | error y =>
  rw[oS] at hp;obtain⟨hb,v,rfl,g2,rfl,h2⟩:=hp;have H2:=aa h2;have HB:=aa hb;have HE:Hid (((aE ks f st).bind fun s1=>bu i f h.line h.names s1)=.error y):=aa (by rw[oS];rfl)
  clear h2 hb oS;go_wp2_with fail
  go_ret
  rw[HE.out];exact⟨(iK.out.mono cg).trans HB.out,_,rfl,_,rfl,H2.out⟩
 | ok s1 =>
  rw[oS] at hp;have hr4:=HR.out.du iK.out;have hst:=(gm ks oS HN.out.nodup hr4.cx HN.out.wf).1;obtain⟨rfl,x,hx1,hx2,we,DK⟩:=eY.step (a1:=Lt.ey ks) (s1:=Lt.al ks) (a:=h.names.length) (s:=0) (by rw[Nat.add_comm];exact hr4) (iI ks oS hr4.few) (hst.cx hr4.cx) (kW ks oS) hp
  have P5:=aa ((qz.out.later D2.out).jk DK);have HB5:=aa ((iK.out.mono cg).trans DK.below);have hdec:Calls Tryz.prog 75 #[.pointer (some ⟨b,0,none⟩),.int .i64 (i:Int),.agg #[.int .i64 (f:Int),.int .i64 loop,.pointer pa,.slice la (l::r).length lc]] w4 (ao B b (.slice (some ⟨bk,o,none⟩) T.length c) T.length ub ob (.slice la (l::r).length lc) (grow x (l::r)) s1 (bu i f h.line h.names s1) w4):=by
   have hsg:oP w4 B f (.pointer pa) (.slice la ln lc) ms ({ l with iz:=x++l.iz}::r) s1:=we.pos;have hlv:df w4 B (.slice la ln lc) ({ l with iz:=x++l.iz}::r):=we.pos.fx;rw[←IL.out] at hlv hsg;exact j8 b i f h loop pa la lc { l with iz:=x++l.iz} r s1 w4 we.fC we.rs hx we.cx.lt hlv (we.hd _ r rfl) (by have:=we.fx;rw[cz] at this;exact this) we.few (by have:=hsg.iz;have:=we.names;omega) hsz
  rw[IL.out] at hdec;have YK:=aa hdec;have Nh:=aa we;have Ni:=aa DK;have Nc:=aa hx1;have HE:Hid (((aE ks f st).bind fun s1=>bu i f h.line h.names s1)=bu i f h.line h.names s1):=aa (by rw[oS];rfl)
  clear hp hr4 we DK hst hx1 hx2 oS hdec k0 k1 k2 k3 k4 k5 k6 k7 k8;obtain⟨k0,k1,k2,k3,k4,k5,k6,k7,k8⟩:=P5.out.cells;go_wp2_with fail
  refine YK.out.mono ?_;intro e w6 hp;obtain⟨v,rfl⟩:=hp.ret;cases jJ:bu i f h.line h.names s1 with
  | error y =>
   have HP:=aa hp;rw[jJ] at hp;obtain⟨_,v',hv',g2,rfl,_⟩:=hp;injection hv' with hv';subst hv';clear jJ;go_wp2_with fail
   go_ret
   rw[HE.out];exact ao.from iK.out cg (ao.trans (st1:=s1) (x:=x) Ni.out.below Ni.out Nc.out (fun e=>by cases e) HP.out)
  | ok s2 =>
   have HP:=aa hp;rw[jJ] at hp;have Ry:=hp.2.2.2.1;have hv':=hp.2.1;injection hv' with hv';subst hv';have P6:=aa (P5.out.jk Ry);clear hp Ry jJ k0 k1 k2 k3 k4 k5 k6 k7 k8;obtain⟨k0,k1,k2,k3,k4,k5,k6,k7,k8⟩:=P6.out.cells;go_wp2_with fail
   go_still_tail 7,(by kernel_rfl)
   change wpList _ _ _ _ _ w6.drew;have D6:=aa (show Below w6.heap.size w6 w6.drew from(Below.refl _ _).drew)
   generalize w6.drew=W6 at D6 ⊢;go_wp2_with fail
   all_goals
    refine(all_nil b f loop pa la _ ln lc _ W6).mono ?_;rintro e w7 ⟨rfl,Wv⟩;have B7:=aa (D6.out.trans (Wv.mono D6.out.size));clear Wv;go_wp2_with fail
    go_ret
    rw[HE.out];exact ao.from iK.out cg (ao.trans (st1:=s1) (x:=x) Ni.out.below Ni.out Nc.out (fun e=>by cases e) (HP.out.abc B7.out))
theorem Nj {T:List Nd} {B b:Nat} {nv:Value} {ub ob:Nat} (i f:Nat) (h:Nd) (ks:List Lt) (loop:Int) (pa la:Option Addr) (lc:Nat) (ms:List Nat) (l:cR) (r:List cR) (st:aI) (w:World) (hr:eY T B b nv ub ob f pa (.slice la (l::r).length lc) ms (l::r) st w (h.names.length+Lt.ey ks) (Lt.al ks)) (hx:T[i]? = some h) (hk:h.kids=ks.map fun k=>(k.loc:Int)) (hn:fI T ks) (hV :∀k∈ks,bA T B b nv ub ob k)
  (hl :∀k∈ks,18≤k.hd.kind→loop=cM f st.frames) (hsz :∀s∈h.names,s.size≤65536) (hd:gI h.kind h.kids.length=(true,0,false)) :
  Calls Tryz.prog 35 #[.pointer (some ⟨b,0,none⟩),.int .i64 (i:Int),.agg #[.int .i64 (f:Int),.int .i64 loop,.pointer pa,.slice la (l::r).length lc]] w (ao B b nv T.length ub ob (.slice la (l::r).length lc) (l::r) st ((bu i f h.line h.names st).bind fun s1=>aE ks f s1) w):=by
 obtain⟨bk,o,c,rfl,dU,cg,dJ⟩:=hr.fC.nodes;obtain⟨vM,vN,eT,⟨NA,nc,vQ,_⟩,e7⟩:=dJ i h hx;have rK:h.kids.length≤20000:=(hr.fC.small h (aX hx)).1;have wU:ks.length≤20000:=by rw[hk,bU] at rK;exact rK
 obtain⟨KA,kc,rl,wT,_⟩:=id e7;subst vQ rl;obtain⟨x0,x1,x2,x3,x4,x5,x6⟩:=eT;have v7:i<T.length:=(aK.1 hx).1;have pO:=hr.fC.few;have hbl:b<w.heap.size:=by obtain⟨_,_,hw⟩:=hr.rs;exact hw.mQ.1
 have d0:w.cell? ⟨b,0,none⟩=some (.slice (some ⟨bk,o,none⟩) T.length c):=by obtain⟨_,_,hw⟩:=hr.rs;exact ae hw.blk 0
 have gT:bk<w.heap.size:=by omega
 have HD:=aa (gJ h.kind h.line h.op h.num h.s NA KA h.names.length nc h.kids.length kc);have YK:Hid (∀W,Below w.heap.size w W→Calls Tryz.prog 75 #[.pointer (some ⟨b,0,none⟩),.int .i64 (i:Int),.agg #[.int .i64 (f:Int),.int .i64 loop,.pointer pa,.slice la (l::r).length lc]] W (ao B b (.slice (some ⟨bk,o,none⟩) T.length c) T.length ub ob (.slice la (l::r).length lc) (l::r) st (bu i f h.line h.names st) W)):=aa fun W hW=>by
  have h2:=hr.du hW;exact j8 b i f h loop pa la lc l r st W h2.fC h2.rs hx h2.cx.lt h2.pos.fx (h2.hd l r rfl) (by have:=h2.fx;omega) h2.few (by have:=h2.pos.iz;have:=h2.names;omega) hsz
 have HR:=aa hr;have HN:=aa hn;have HV:=aa hV;have HL:=aa hl;have IK:=aa e7;have SW:=aa hd;have HK:=aa hk;clear hr hn hV hl e7 hd dJ hk;generalize Ng:(l::r).length=ln at *;have IL:=aa Ng;clear Ng;go_enter Tryz.func35,Tryz.ntmps35
 go_wp2_with fail
 refine(HD.out _ (by omega)).mono ?_
 rw[SW.out];rintro e w1 ⟨rfl,hb1⟩;have ee:=aa hb1;clear hb1;go_wp2_with fail
 have yH:=lh rfl ee.out (.bool true) (.int .i64 0) (.bool false);have qz:=aa yH.2;have oR:=aa yH.1;clear yH;clear d0 x0 x1 x2 x3 x4 x5 x6;generalize w1.alloc (.cells #[.bool true,.int .i64 0,.bool false] 144)=W2 at qz oR ⊢;generalize w1.heap.size=q at qz ⊢;generalize w.heap.size+1=p at qz ⊢;obtain⟨k0,k1,k2,k3,k4,k5,k6,k7,k8⟩:=qz.out.cells;have hKc:h.kids.length≤kc:=wT;go_still_tail 7,(by kernel_rfl)
 change wpList _ _ _ _ _ W2.drew;have D2:=aa (show Below W2.heap.size W2 W2.drew from(Below.refl _ _).drew)
 generalize W2.drew=W3 at D2 ⊢;go_wp2_with fail
 refine(all_nil b f loop pa la KA ln lc kc W3).mono ?_;rintro e w4 ⟨rfl,hb4⟩;have B4:=aa (D2.out.trans (hb4.mono D2.out.size));have P4:=aa (qz.out.later B4.out);clear hb4 k0 k1 k2 k3 k4 k5 k6 k7 k8;obtain⟨k0,k1,k2,k3,k4,k5,k6,k7,k8⟩:=P4.out.cells;have iK:=aa (oR.out.trans (B4.out.mono oR.out.size));go_wp2_with fail
 refine(YK.out w4 iK.out).mono ?_;intro e w5 hp;cases oS:bu i f h.line h.names st with
 | error y =>
  rw[oS] at hp;obtain⟨hb,v,rfl,g2,rfl,h2⟩:=hp;have H2:=aa h2;have HB:=aa hb;have HE:Hid (((bu i f h.line h.names st).bind fun s1=>aE ks f s1)=.error y):=aa (by rw[oS];rfl)
  clear h2 hb oS;go_wp2_with fail
  go_ret
  rw[HE.out];exact⟨(iK.out.mono cg).trans HB.out,_,rfl,_,rfl,H2.out⟩
 | ok s1 =>
  rw[oS] at hp;have hr4:=HR.out.du iK.out;obtain⟨Nk,uZ,_⟩:=mX oS hr4.cx;obtain⟨rfl,x,hx1,hx2,we,DK⟩:=eY.step (a1:=h.names.length) (s1:=0) (by rw[gi];exact hr4) (jF oS hr4.few) (Nk.cx hr4.cx) uZ hp
  have P5:=aa (P4.out.jk DK);have HB5:=aa ((iK.out.mono cg).trans DK.below);have HC:Hid (∀W,Below w5.heap.size w5 W→Calls Tryz.prog 73 #[.pointer (some ⟨b,0,none⟩),.slice KA h.kids.length kc,.agg #[.int .i64 (f:Int),.int .i64 loop,.pointer pa,.slice la ln lc]] W (ao B b (.slice (some ⟨bk,o,none⟩) T.length c) T.length ub ob (.slice la ln lc) (grow x (l::r)) s1 (aE ks f s1) w5)):=aa fun W hW=>by
   have h6:=DJ f loop pa la lc ms (l::r) x s1 W (.slice KA h.kids.length kc) ks (by rw[IL.out];exact we.du hW) HN.out HV.out (by rw[←HK.out];exact IK.out.below (HB5.out.trans (hW.mono we.world))) (fun k hk kH=>(HL.out k hk kH).trans (tH uZ).symm) (fun k _=>.inl (by simp)) wU
   rw[IL.out] at h6;exact h6.mono fun e w' h=>h.from hW we.world
  have Ni:=aa DK;have Nc:=aa hx1;have HE:Hid (((bu i f h.line h.names st).bind fun s1=>aE ks f s1)=aE ks f s1):=aa (by rw[oS];rfl)
  clear hp hr4 we DK Nk uZ hx1 hx2 oS k0 k1 k2 k3 k4 k5 k6 k7 k8;obtain⟨k0,k1,k2,k3,k4,k5,k6,k7,k8⟩:=P5.out.cells;go_wp2_with fail
  go_still_tail 7,(by kernel_rfl)
  change wpList _ _ _ _ _ w5.drew;have Ww:=aa (HC.out w5.drew (Below.refl _ _).drew);generalize w5.drew=W6 at Ww ⊢;go_wp2_with fail
  refine Ww.out.mono ?_;intro e w7 hp;obtain⟨v,rfl⟩:=hp.ret;have HP:=aa hp;clear hp;go_wp2_with fail
  go_ret
  rw[HE.out];exact ao.from iK.out cg (ao.trans (st1:=s1) (x:=x) Ni.out.below Ni.out Nc.out (fun e=>by cases e) HP.out)
theorem xq {B:Nat} (f:Nat) (loop:Int) (pa la:Option Addr) (lc:Nat) (L:List cR) (w:World) (hl:df w B (.slice la L.length lc) L) (hlen:L.length≤100000) (hB:B≤w.heap.size) :
  Calls Tryz.prog 74 #[.agg #[.int .i64 (f:Int),.int .i64 loop,.pointer pa,.slice la L.length lc]] w fun e w'=>∃g c m,e=.returned (.agg #[.int .i64 (f:Int),.int .i64 loop,.pointer pa,.slice (some ⟨g,0,none⟩) (L.length+1) c])∧df w' B (.slice (some ⟨g,0,none⟩) (L.length+1) c) (⟨f,m,[]⟩::L)∧w.heap.size≤m∧((Value.slice la L.length lc).ownBlock=some g∨w.heap.size≤g)∧(∀ob,cU B ob (.slice la L.length lc) L.length none w w')∧Fr [194] w w':=by
 have HL:=aa hl;clear hl;have hmm:=@run_makeMap Tryz.prog;obtain⟨o1,ho1⟩ :∃o1,o1=Obj.cells #[.int .i64 (f:Int),.int .i64 loop,.pointer pa,.slice la L.length lc] 69:=⟨_,rfl⟩;obtain⟨o2,Hy⟩ :∃o2,o2=Obj.cells #[.int .i64 0,.int .i64 0,.pointer none,.slice none 0 0] 69:=⟨_,rfl⟩;obtain⟨W3,hW3⟩ :∃W3,W3=((w.alloc o1).alloc o2).alloc (.map #[] 0):=⟨_,rfl⟩;have hs3:W3.heap.size=w.heap.size+1+1+1:=by rw[hW3,aq,aq,aq]
 have hb3:Below w.heap.size w W3:=by rw[hW3];exact Below.three _ _ _
 have hb1:W3.heap[w.heap.size]? = some o1:=by
  rw[hW3];exact(Below.heap_alloc _ _ _ (by rw[aq,aq];omega)).trans ((Below.heap_alloc _ _ _ (by rw[aq];omega)).trans (heap_alloc_new w o1))
 have hb2:W3.heap[w.heap.size+1]? = some o2:=by
  rw[hW3];refine(Below.heap_alloc _ _ _ (by rw[aq,aq];omega)).trans ?_
  have:=heap_alloc_new (w.alloc o1) o2;rwa[aq] at this
 have hmp:dL Tryz.prog 9 W3 (w.heap.size+1+1) 0 (fun _=>none):=by
  have:=dL.made ((w.alloc o1).alloc o2) Tryz.prog 9;rw[aq,aq] at this;rw[hW3];exact this
 have HR3:=aa (rf.row (o:=none) ⟨hb3.size,fun k hk _=>hb3.block k hk⟩ HL.out.row (fun _ _ e=>by cases e))
 have hlt :∀k,(Value.slice la L.length lc).ownBlock=some k→k<w.heap.size:=fun k hk=>(HL.out.row.lt k hk).2
 rw[ho1] at hb1;rw[Hy] at hb2;have ee:=aa hb1;have oR:=aa hb2;have HMP:=aa hmp;have jf:=aa hlt;have yz:=aa hb3;have oU:=aa hs3;rw[ho1,Hy] at hW3;have Sk:=aa hW3;clear hb1 hb2 hmp hlt hb3 hs3 hW3 ho1 Hy;go_enter Tryz.func74,Tryz.ntmps74
 go_wp2_with (at_builtin;rw[←Sk.out];refine Mc W3 ⟨f,w.heap.size+1+1,[]⟩ rfl _ _ rfl B (.slice la L.length lc) L rfl HR3.out (w.heap.size+1+1+1) oU.out.symm rfl (by omega) (by rw[oU.out];omega) ?_;intro g8 c8 w8 r8 b8 Wj n8 o8;have IM:=(b8.2 w.heap.size (by rw[oU.out];omega) (fun e=>by have:=jf.out _ e;omega)).trans ee.out;have hres:=(b8.2 (w.heap.size+1) (by rw[oU.out];omega) (fun e=>by have:=jf.out _ e;omega)).trans oR.out;have e0:=ae IM 0;have e1:=ae IM 1;have e2:=ae IM 2;have e3:=ae IM 3;have f3:=aH IM 3;have y0:=ae hres 0;have y1:=ae hres 1;have y2:=ae hres 2;have y3:=ae hres 3;have z0:=aH hres 0;have z1:=aH hres 1;have z2:=aH hres 2;have z3:=aH hres 3;have R8:=aa r8;have B8:=aa b8;have Ru:=aa Wj;have N8:=aa n8;have O8:=aa o8;clear r8 b8 Wj n8 o8 IM hres)
 refine bodyPost_ret (v:=.agg #[.int .i64 (f:Int),.int .i64 loop,.pointer pa,.slice (some ⟨g8,0,none⟩) (L.length+1) c8]) (by simp[results,Tryz.results74,go_sem,y0,y1,y2,y3]) rfl ?_
 have k1:vO w8 w.heap.size 69:=⟨_,_,(B8.out.2 w.heap.size (by rw[oU.out];omega) (fun e=>by have:=jf.out _ e;omega)).trans ee.out⟩
 have k2:vO w8 (w.heap.size+1) 69:=⟨_,_,(B8.out.2 (w.heap.size+1) (by rw[oU.out];omega) (fun e=>by have:=jf.out _ e;omega)).trans oR.out⟩
 have hF:Fr [69] w8 (((((w8.setCell ⟨w.heap.size,3,none⟩ (.slice (some ⟨g8,0,none⟩) (L.length+1) c8)).setCell ⟨w.heap.size+1,0,none⟩ (.int .i64 (f:Int))).setCell ⟨w.heap.size+1,1,none⟩ (.int .i64 loop)).setCell ⟨w.heap.size+1,2,none⟩ (.pointer pa)).setCell ⟨w.heap.size+1,3,none⟩ (.slice (some ⟨g8,0,none⟩) (L.length+1) c8)) :=
  (k1.fr (by decide) _ _).trans (((k2.set _ _ _).fr (by decide) _ _).trans ((((k2.set _ _ _).set _ _ _).fr (by decide) _ _).trans (((((k2.set _ _ _).set _ _ _).set _ _ _).fr (by decide) _ _).trans ((((((k2.set _ _ _).set _ _ _).set _ _ _).set _ _ _)).fr (by decide) _ _))))
 have hK :∀k,k<w.heap.size→(((((w8.setCell ⟨w.heap.size,3,none⟩ (.slice (some ⟨g8,0,none⟩) (L.length+1) c8)).setCell ⟨w.heap.size+1,0,none⟩ (.int .i64 (f:Int))).setCell ⟨w.heap.size+1,1,none⟩ (.int .i64 loop)).setCell ⟨w.heap.size+1,2,none⟩ (.pointer pa)).setCell ⟨w.heap.size+1,3,none⟩ (.slice (some ⟨g8,0,none⟩) (L.length+1) c8)).heap[k]? = w8.heap[k]?:=fun k hk=>by
  rw[Below.heap_setCell _ _ _ k (by show k≠w.heap.size+1;omega),Below.heap_setCell _ _ _ k (by show k≠w.heap.size+1;omega),Below.heap_setCell _ _ _ k (by show k≠w.heap.size+1;omega),Below.heap_setCell _ _ _ k (by show k≠w.heap.size+1;omega),Below.heap_setCell _ _ _ k (by show k≠w.heap.size;omega)]
 have hO :∀W:World,W.os=w8.os→W.tape=w8.tape→W.output=w8.output→W.os=w.os∧W.tape=w.tape∧W.output=w.output:=fun W h1 h2 h3=>⟨h1.trans (Ru.out.os.trans yz.out.os),h2.trans (Ru.out.tape.trans yz.out.tape),h3.trans (Ru.out.output.trans yz.out.output)⟩
 have hO9:=hO _ (show(((((w8.setCell ⟨w.heap.size,3,none⟩ (.slice (some ⟨g8,0,none⟩) (L.length+1) c8)).setCell ⟨w.heap.size+1,0,none⟩ (.int .i64 (f:Int))).setCell ⟨w.heap.size+1,1,none⟩ (.int .i64 loop)).setCell ⟨w.heap.size+1,2,none⟩ (.pointer pa)).setCell ⟨w.heap.size+1,3,none⟩ (.slice (some ⟨g8,0,none⟩) (L.length+1) c8)).os=w8.os from rfl) rfl rfl
 generalize (((((w8.setCell ⟨w.heap.size,3,none⟩ (.slice (some ⟨g8,0,none⟩) (L.length+1) c8)).setCell ⟨w.heap.size+1,0,none⟩ (.int .i64 (f:Int))).setCell ⟨w.heap.size+1,1,none⟩ (.int .i64 loop)).setCell ⟨w.heap.size+1,2,none⟩ (.pointer pa)).setCell ⟨w.heap.size+1,3,none⟩ (.slice (some ⟨g8,0,none⟩) (L.length+1) c8))=W9 at *;have key :∀k,k<w.heap.size→(Value.slice la L.length lc).ownBlock≠some k→W9.heap[k]? = w.heap[k]?:=fun k hk hn=>(hK k hk).trans ((B8.out.2 k (by rw[oU.out];omega) hn).trans (yz.out.block k hk))
 have far :∀(k:Nat) (o:Obj),w.heap[k]? = some o→(∀c fz,o ≠ .cells c 194 fz)→W9.heap[k]? = some o:=fun k o hk ho=>(key k (aO.1 hk).1 fun e=>by
  obtain⟨c,fz,h1⟩:=Lib.ownsRow_kind HL.out.row k e;rw[hk] at h1;injection h1 with h1;exact ho _ _ h1).trans hk
 refine⟨g8,c8,w.heap.size+1+1,rfl,⟨hF.row R8.out (by decide),fun l hl=>?_,fun l hl n hn=>?_,?_⟩,by omega,N8.out.imp id (fun h=>by rw[oU.out] at h;omega),fun ob=>⟨?_,fun k c e fz hk he=>far k _ hk (fun c' XY e'=>he (by injection e' with _ e';rw[e'];decide)),fun k c fz hk _=>far k _ hk (fun c' XY e'=>by injection e' with _ e';exact absurd e' (by decide)),fun u m xs hu hm=>hF.row (O8.out u m xs (rf.row (o:=none) ⟨yz.out.size,fun k hk _=>yz.out.block k hk⟩ hu (fun _ _ e=>by cases e)) hm) (by decide),fun k es c hk _=>far k _ hk (fun _ _ e=>by cases e)⟩,⟨?_,fun k c e fz hk he=>far k _ hk (fun c' XY e'=>he (by injection e' with _ e';rw[e'];exact bK.2 rfl)),fun k o hk ho=>far k _ hk (fun c' XY=>ho c' _ XY)⟩⟩
 ·rcases bc.1 hl with rfl|hl
  ·refine⟨hF.map (HMP.out.same (B8.out.2 _ (by rw[oU.out];omega) fun e=>by have:=jf.out _ e;omega)),by show B≤w.heap.size+1+1;omega⟩
  ·obtain⟨h1,h2⟩:=HL.out.maps l hl
   obtain⟨es,c,hm⟩:=h1.isMap;exact⟨h1.same ((far _ _ hm (fun _ _ e=>by cases e)).trans hm.symm),h2⟩
 ·rcases bc.1 hl with rfl|hl
  ·cases hn
  ·exact HL.out.own l hl n hn
 ·rw[dV,kK]
  refine⟨fun hm=>?_,HL.out.apart⟩
  obtain⟨l,hl,e⟩:=jB.1 hm;have:=(HL.out.maps l hl).1.lt;simp only at e;omega
 ·refine⟨hO9.1,hO9.2.1,hO9.2.2,aL (by rw[oU.out];omega) (aL Ru.out.size hF.size),fun k hk=>key k (by omega) fun e=>?_⟩
  have:=(HL.out.row.lt k e).1;omega
 ·exact aL (by rw[oU.out];omega) (aL Ru.out.size hF.size)
structure yI (T:List Nd) (B b:Nat) (nv:Value) (ub ob f:Nat) (pa:Option Addr) (lv:Value) (ms:List Nat) (L:List cR) (st:aI) (w:World) (a s:Nat):Prop where
 fC:vW w B nv T
 rs:jI w B b nv T.length st ub ob
 pos:oP w B f (.pointer pa) lv ms L st
 cx:Cx f st
 few:dP st.fns
 fr :∀x∈st.frames,x.fn<st.fns.length
 names:st.names.length+a≤100000
 fns:st.fns.length+s≤100000
 fx:L.length+1+s≤100000
theorem cb.lt {W:World} {B:Nat} :∀{fs:List (Nat×Nat×(ByteArray→Option Value))} {ms:List Nat} {p:Value},cb W B fs ms p→∀m∈ms,m<W.heap.size
 | [],_,_,h,m,hm=>by rw[h.1] at hm;cases hm
 | x::fs,ms,p,h,m,hm=>by
  obtain⟨k',p',m',CW,rfl,rfl,_,_,h3,_,_,h6⟩:=h;rcases bc.1 hm with rfl|hm
  ·exact h3.lt
  ·exact cb.lt h6 m hm
theorem xt {T:List Nd} {B b:Nat} {nv:Value} {ub ob f:Nat} {pa la:Option Addr} {lc:Nat} {ms:List Nat} {L:List cR} {st:aI} {w:World} {a s:Nat} (loop:Int) (h:yI T B b nv ub ob f pa (.slice la L.length lc) ms L st w a s) :
  Calls Tryz.prog 74 #[.agg #[.int .i64 (f:Int),.int .i64 loop,.pointer pa,.slice la L.length lc]] w fun e w'=>∃g c m,e=.returned (.agg #[.int .i64 (f:Int),.int .i64 loop,.pointer pa,.slice (some ⟨g,0,none⟩) (L.length+1) c])∧eY T B b nv ub ob f pa (.slice (some ⟨g,0,none⟩) (L.length+1) c) ms (⟨f,m,[]⟩::L) st w' a s∧w.heap.size≤m∧((Value.slice la L.length lc).ownBlock=some g∨w.heap.size≤g)∧cU B ob (.slice la L.length lc) L.length none w w':=by
 have cg:B≤w.heap.size:=by obtain⟨_,_,_,_,_,h,_⟩:=h.fC.nodes;exact h
 refine(xq f loop pa la lc L w h.pos.fx (by have:=h.fx;omega) cg).mono ?_
 rintro e w' ⟨g,c,m,he,h1,h2,h3,h4,h5⟩;have hf:=h4 ob;refine⟨g,c,m,he,⟨h.fC.below hf.below,?_,⟨h1,h.pos.blk.jk hf (by simp),h.pos.names,?_⟩,?_,h.cx,h.few,h.fr,h.names,h.fns,?_⟩,h2,h3,hf⟩
 ·obtain⟨fv,FL,hw⟩:=h.rs
  exact⟨fv,FL,hw.fr h5 (by decide)⟩
 ·intro m' hm' l hl
  rcases bc.1 hl with rfl|hl
  ·have:=cb.lt h.pos.blk m' hm'
   show m'≠m
   omega
  ·exact h.pos.apart m' hm' l hl
 ·intro l r e
  injection e with e _;rw[←e]
 ·have:=h.fx
  rw[List.length_cons];omega
theorem eY.zero {T:List Nd} {B b:Nat} {nv:Value} {ub ob f:Nat} {pa:Option Addr} {lv:Value} {ms:List Nat} {L:List cR} {st:aI} {w:World} {a s:Nat} (h:eY T B b nv ub ob f pa lv ms L st w a (s+1)):yI T B b nv ub ob f pa lv ms L st w a s :=
 ⟨h.fC,h.rs,h.pos,h.cx,h.few,h.fr,h.names,by have:=h.fns;omega,by have:=h.fx;omega⟩
theorem cU.inner {B ob n g c m:Nat} {lv:Value} {w w1 w2:World} {top:Option Nat} (h1:cU B ob lv n top w w1) (hg:lv.ownBlock=some g∨w.heap.size≤g) (hm:w.heap.size≤m) (h2:cU B ob (.slice (some ⟨g,0,none⟩) (n+1) c) (n+1) (some m) w1 w2):cU B ob lv n top w w2:=by
 refine⟨h1.below.trans h2.below,fun k c e fz hk he=>h2.cells k c e fz (h1.cells k c e fz hk he) he,fun k c fz hk ho=>h2.ints k c fz (h1.ints k c fz hk ho) ho,fun u k xs hu hk=>h2.lvl u k xs (h1.lvl u k xs hu hk) fun e=>?_,fun k es c hk ht=>h2.maps k es c (h1.maps k es c hk ht) fun e=>?_⟩
 ·replace e:u.ownBlock=some g:=e
  rcases hg with hg|hg
  ·exact Nat.le_succ_of_le (hk (e.trans hg.symm))
  ·have:=(hu.lt g e).2
   omega
 ·injection e with e
  have:=(aO.1 hk).1;omega
theorem df.inner {B ob g c m:Nat} {lv:Value} {L:List cR} {w1 w2:World} (h:df w1 B lv L) (hne :∀l∈L,l.blk≠m) (h2:cU B ob (.slice (some ⟨g,0,none⟩) (L.length+1) c) (L.length+1) (some m) w1 w2):df w2 B lv L :=
 ⟨h2.lvl _ _ _ h.row fun _=>iH _,fun l hl=>⟨h2.map (h.maps l hl).1 fun e=>hne l hl (by injection e),(h.maps l hl).2⟩,h.own,h.apart⟩
theorem ao.inner {B b:Nat} {nv:Value} {N ub ob g c m f:Nat} {lv:Value} {L:List cR} {st st1:aI} {r:Rs aI} {w w1 w2:World} {e:Ending} (h1:cU B ob lv L.length (eh L) w w1) (hl:df w1 B lv L) (hne :∀l∈L,l.blk≠m) (hg:lv.ownBlock=some g∨w.heap.size≤g) (hm:w.heap.size≤m) (h:ao B b nv N ub ob (.slice (some ⟨g,0,none⟩) (L.length+1) c) (⟨f,m,[]⟩::L) st1 r w1 e w2):ao B b nv N ub ob lv L st (r.map fun s=>s.back st) w e w2:=by
 refine⟨h1.below.trans h.1,?_⟩;have h2:=h.2;cases r with
 | error y=>exact h2
 | ok s =>
  obtain⟨k1,⟨fv,FL,k2⟩,k3,_⟩:=h2;refine⟨k1,⟨fv,FL,k2.on rfl rfl rfl⟩,h1.inner hg hm k3,[],rfl,fun _=>rfl,?_⟩
  rw[jH];exact hl.inner hne k3
theorem cU.past {B ob n:Nat} {v:Value} {top:Option Nat} {w W X:World} (h:cU B ob v n top w W) (hb:Below B W X) (hk :∀k,k<w.heap.size→X.heap[k]? = W.heap[k]?):cU B ob v n top w X:=by
 refine⟨h.below.trans hb,fun k c e fz hc he=>(hk k (aO.1 hc).1).trans (h.cells k c e fz hc he),fun k c fz hc ho=>(hk k (aO.1 hc).1).trans (h.ints k c fz hc ho),fun u m xs hu hm=>?_,fun k es c hc ht=>(hk k (aO.1 hc).1).trans (h.maps k es c hc ht)⟩
 have h1:=h.lvl u m xs hu hm;refine⟨h1.1,?_⟩;rcases h1.2 with hn | ⟨g,cap,cur,rfl,hB,hg,rest⟩
 ·exact .inl hn
 ·exact .inr ⟨g,cap,cur,rfl,hB,(hk g (hu.lt g rfl).2).trans hg,rest⟩
theorem cb.fr {W W':World} {B:Nat} {E:List Nat} (k:Fr E W W') (he:(150:Nat)∉E) :∀{fs:List (Nat×Nat×(ByteArray→Option Value))} {ms:List Nat} {p:Value},cb W B fs ms p→cb W' B fs ms p
 | [],_,_,h=>h
 | x::fs,ms,p,h=>by
  obtain⟨k',p',m,CW,rfl,rfl,h1,h2,h3,h4,h5,h6⟩:=h;exact⟨k',p',m,CW,rfl,rfl,h1,k.cells k' _ _ _ h2 he,k.map h3,h4,h5,cb.fr k he h6⟩
theorem df.fr {W W':World} {B:Nat} {v:Value} {L:List cR} {E:List Nat} (h:df W B v L) (k:Fr E W W') (he:(194:Nat)∉E):df W' B v L :=
 ⟨k.row h.row he,fun l hl=>⟨k.map (h.maps l hl).1,(h.maps l hl).2⟩,h.own,h.apart⟩
theorem eY.SX {T:List Nd} {B b:Nat} {nv:Value} {ub ob f:Nat} {pa:Option Addr} {lv:Value} {ms:List Nat} {L:List cR} {st:aI} {w w':World} {a s:Nat} (h:eY T B b nv ub ob f pa lv ms L st w a s) (k:Fr [69] w w') (hb:Below B w w'):eY T B b nv ub ob f pa lv ms L st w' a s:=by
 refine⟨h.fC.below hb,?_,⟨h.pos.fx.fr k (by decide),cb.fr k (by decide) h.pos.blk,h.pos.names,h.pos.apart⟩,h.hd,h.cx,h.few,h.fr,h.names,h.fns,h.fx⟩
 obtain⟨fv,FL,hw⟩:=h.rs;exact⟨fv,FL,hw.fr k (by decide)⟩
theorem eY.oa {T:List Nd} {B b:Nat} {nv:Value} {ub ob f:Nat} {pa:Option Addr} {lv:Value} {ms:List Nat} {L:List cR} {st:aI} {w:World} {a s:Nat} (i:Nat) (h:eY T B b nv ub ob f pa lv ms L st w a s):eY T B b nv ub ob f pa lv ms L (dv i f st) w a s:=by
 refine⟨h.fC,?_,⟨h.pos.fx,?_,h.pos.names,h.pos.apart⟩,h.hd,⟨h.cx.ok,h.cx.lt,h.cx.names⟩,h.few,fun x hx=>?_,h.names,h.fns,h.fx⟩
 ·obtain⟨fv,FL,hw⟩:=h.rs
  exact⟨fv,FL,hw.on rfl rfl rfl⟩
 ·show oO w B (dB f (⟨f,i,0,true,false,[]⟩::st.frames)) ms _
  rw[rD (.inl rfl)];exact h.pos.blk
 ·rcases bc.1 hx with rfl|hx
  ·exact h.cx.lt
  ·exact h.fr x hx
def four (W:World) (r:Nat) (a c d e:Value):World:=(((W.setCell ⟨r,0,none⟩ a).setCell ⟨r,1,none⟩ c).setCell ⟨r,2,none⟩ d).setCell ⟨r,3,none⟩ e
theorem u4 {W:World} {r:Nat} (k:vO W r 69) (a c d e:Value):Fr [69] W (four W r a c d e):=(k.fr (by decide) _ _).trans (((k.set _ _ _).fr (by decide) _ _).trans ((((k.set _ _ _).set _ _ _).fr (by decide) _ _).trans ((((k.set _ _ _).set _ _ _).set _ _ _).fr (by decide) _ _)))
theorem pz {B r:Nat} (W:World) (hB:B≤r) (a c d e:Value):Below B W (four W r a c d e):=((((Below.refl B W).setCell (p:=⟨r,0,none⟩) hB a).setCell (p:=⟨r,1,none⟩) hB c).setCell (p:=⟨r,2,none⟩) hB d).setCell (p:=⟨r,3,none⟩) hB e
theorem eZ.four {w W:World} {p q f:Nat} {loop:Int} {pa:Option Addr} {lv kv nv d0 d1 d2:Value} (h:eZ w W p q f loop pa lv kv nv d0 d1 d2) (Nl:Int) (Su:Option Addr) (lv':Value):eZ w (four W w.heap.size (.int .i64 (f:Int)) (.int .i64 Nl) (.pointer Su) lv') p q f Nl Su lv' kv nv d0 d1 d2:=by
 obtain⟨a,b,c,d,e,hk⟩:=h.kids;have hp:=h.pne;have hq:=h.qne;have k :∀j,j≠w.heap.size→(Go.Proofs.YtodmcdfeldkocaaGreatDoor.four W w.heap.size (.int .i64 (f:Int)) (.int .i64 Nl) (.pointer Su) lv').heap[j]? = W.heap[j]?:=fun j hj=>nj W _ _ _ _ _ j hj
 exact⟨bM (bM (bM (bM h.pos 0 _) 1 _) 2 _) 3 _,⟨a,b,c,d,e,(k _ (by omega)).trans hk⟩,(k _ (by omega)).trans h.dec,hp,hq⟩
theorem gG.first {W:World} {B sb so n kc:Nat} {xs ys:List Int} (h:gG W B (.slice (some ⟨sb,so,none⟩) n kc) (xs++ys)):gG W B (.slice (some ⟨sb,so,none⟩) xs.length kc) xs:=by
 obtain⟨A,c,e,hc,h1⟩:=h;injection e with e1 e2 e3;subst e1 e3;rw[bY] at hc;refine⟨_,_,rfl,by omega,?_⟩
 rcases h1 with h1 | ⟨bk,o,e4,hb,hx⟩
 ·exact .inl (KY.1 h1).1
 ·exact .inr ⟨bk,o,e4,hb,fun j x hj=>hx j x (by rw[kI (aK.1 hj).1];exact hj)⟩
theorem gG.last {W:World} {B sb so n kc:Nat} {xs ys:List Int} (h:gG W B (.slice (some ⟨sb,so,none⟩) n kc) (xs++ys)):gG W B (.slice (some ⟨sb,so+xs.length,none⟩) ys.length (kc-xs.length)) ys:=by
 obtain⟨A,c,e,hc,h1⟩:=h;injection e with e1 e2 e3;subst e1 e3;rw[bY] at hc;refine⟨_,_,rfl,by omega,?_⟩
 rcases h1 with h1 | ⟨bk,o,e4,hb,hx⟩
 ·exact .inl (KY.1 h1).2
 ·injection e4 with e4
  injection e4 with e4 e5 _;subst e4 e5;exact .inr ⟨_,_,rfl,hb,fun j x hj=>by have:=hx (xs.length+j) x (by rw[zI (by omega),Nat.add_sub_cancel_left];exact hj);rwa[←oK] at this⟩
theorem YL {α:Type} {x l:List α} (h:l=x++l):x=[]:=by
 have:=aw List.length h;rw[bY] at this;exact List.length_eq_zero_iff.1 (by omega)
theorem ao.same {B b:Nat} {nv:Value} {N ub ob:Nat} {lv:Value} {L:List cR} {st st':aI} {r r':Rs aI} {w w2:World} {e:Ending} (h:ao B b nv N ub ob lv L st r w e w2) (hn:st'.names=st.names) (hr:match r,r' with | .ok a,.ok c=>c.fns=a.fns∧c.uses=a.uses∧c.of=a.of∧c.names=a.names | .error a,.error c=>a=c|_,_=>False):ao B b nv N ub ob lv L st' r' w e w2:=by
 refine⟨h.1,?_⟩;have h2:=h.2;cases r with
 | error y =>
  cases r' with
  | error z=>cases hr;exact h2
  | ok z=>exact hr.elim
 | ok s =>
  cases r' with
  | error z=>exact hr.elim
  | ok z =>
   obtain⟨k1,⟨fv,FL,k2⟩,k3,x,k4,k5,k6⟩:=h2;obtain⟨e1,e2,e3,e4⟩:=hr;exact⟨k1,⟨fv,FL,k2.on e1 e2 e3⟩,k3,x,by rw[e4,k4,hn],k5,k6⟩
theorem rM {f:Nat} (t:Lt) (st:aI):aE [t] f st=aY t f st:=by
 rw[eU];cases aY t f st with
 | error y=>rfl
 | ok s=>show aE [] f s=_;rw[eB]
theorem qA {i f:Nat} {line:Int} {names:List ByteArray} (blk:Lt) :∀(vals:List Lt) (st:aI),ji i line names (vals++[blk]) f st=(aE vals f st).bind fun s1=>((bu i f line names (dv i f s1)).bind fun s2=>aE [blk] f s2).map fun s=>s.back s1
 | [],st=>by
  rw[kM,qb,eB];show _=Except.map _ (Except.bind _ _)
  cases bu i f line names (dv i f st) with
  | error y=>rfl
  | ok s2=>show(aY blk f s2).map _=(aE [blk] f s2).map _;rw[rM]
 | [a],st=>by
  rw[List.singleton_append,kS,rM];cases aY a f st with
  | error y=>rfl
  | ok s =>
   have:=qA (i:=i) (f:=f) (line:=line) (names:=names) blk [] s;rw[kM,eB] at this;exact this
 | a::c::l,st=>by
  rw[dT,dT,kS,eU];cases aY a f st with
  | error y=>rfl
  | ok s=>exact qA blk (c::l) s
theorem yI.levels {T:List Nd} {B b:Nat} {nv:Value} {ub ob f:Nat} {pa:Option Addr} {lv:Value} {ms:List Nat} {L:List cR} {st:aI} {w:World} {a s:Nat} (h:yI T B b nv ub ob f pa lv ms L st w a s) :∀l∈L,l.blk<w.heap.size:=fun l hl=>(h.pos.fx.maps l hl).1.lt
theorem ao.SY {B b:Nat} {nv:Value} {N ub ob:Nat} {lv:Value} {L:List cR} {st s1:aI} {r:Rs aI} {w w2:World} {e:Ending} (h:ao B b nv N ub ob lv L st (r.map fun s=>s.back st) w e w2) (hn:s1.names=st.names):ao B b nv N ub ob lv L st (r.map fun s=>s.back s1) w e w2:=by
 refine h.same rfl ?_;cases r with
 | error y=>rfl
 | ok s=>exact⟨rfl,rfl,rfl,hn⟩
theorem Bf {T:List Nd} {B b:Nat} {nv:Value} {ub ob:Nat} (i f:Nat) (h:Nd) (vals rest:List Lt) (loop:Int) (pa la:Option Addr) (lc:Nat) (ms:List Nat) (L:List cR) (st:aI) (w:World) (hr:eY T B b nv ub ob f pa (.slice la L.length lc) ms L st w (Lt.ey vals+(h.names.length+Lt.ey rest)) (Lt.al vals+(Lt.al rest+1))) (hx:T[i]? = some h) (hk:h.kids=(vals.map fun k=>(k.loc:Int))++rest.map fun k=>(k.loc:Int)) (Bg:rest≠[]) (hn:fI T vals) (uP:fI T rest) (hV :∀k∈vals,bA T B b nv ub ob k) (hV2 :∀k∈rest,bA T B b nv ub ob k)
  (hl :∀k∈vals,k.hd.kind<18) (hst :∀k∈vals,Still k) (hL:L≠[]) (hsz :∀s∈h.names,s.size≤65536) (Wx:loop=(i:Int)) (hd:gI h.kind h.kids.length=(true,(vals.length:Int),true)) :
  Calls Tryz.prog 35 #[.pointer (some ⟨b,0,none⟩),.int .i64 (i:Int),.agg #[.int .i64 (f:Int),.int .i64 loop,.pointer pa,.slice la L.length lc]] w (ao B b nv T.length ub ob (.slice la L.length lc) L st ((aE vals f st).bind fun s1=>((bu i f h.line h.names (dv i f s1)).bind fun s2=>aE rest f s2).map fun s=>s.back s1) w):=by
 obtain⟨bk,o,c,rfl,dU,cg,dJ⟩:=hr.fC.nodes;obtain⟨vM,vN,eT,⟨NA,nc,vQ,_⟩,e7⟩:=dJ i h hx;have rK:h.kids.length≤20000:=(hr.fC.small h (aX hx)).1;have oQ:h.kids.length=vals.length+rest.length:=by rw[hk,bY,bU,bU]
 have hr1:1≤rest.length:=wE.2 Bg;obtain⟨KA,kc,rl,wT,IN⟩:=id e7;subst vQ rl;obtain⟨sb,so,rfl⟩ :∃sb so,KA=some ⟨sb,so,none⟩:=by
  rcases IN with h0 | ⟨sb,so,h1,_⟩
  ·rw[h0] at oQ;simp at oQ;omega
  ·exact⟨sb,so,h1⟩
 obtain⟨x0,x1,x2,x3,x4,x5,x6⟩:=eT;have v7:i<T.length:=(aK.1 hx).1;have pO:=hr.fC.few;have hbl:b<w.heap.size:=by obtain⟨_,_,hw⟩:=hr.rs;exact hw.mQ.1
 have d0:w.cell? ⟨b,0,none⟩=some (.slice (some ⟨bk,o,none⟩) T.length c):=by obtain⟨_,_,hw⟩:=hr.rs;exact ae hw.blk 0
 have gT:bk<w.heap.size:=by omega
 have HD:=aa (gJ h.kind h.line h.op h.num h.s NA (some ⟨sb,so,none⟩) h.names.length nc h.kids.length kc);have Wy:gG w B (.slice (some ⟨sb,so,none⟩) vals.length kc) (vals.map fun k=>(k.loc:Int)):=by
  rw[hk] at e7;have:=e7.first
  rwa[bU] at this
 have Bh:gG w B (.slice (some ⟨sb,so+vals.length,none⟩) rest.length (kc-vals.length)) (rest.map fun k=>(k.loc:Int)):=by
  rw[hk] at e7;have:=e7.last;rwa[bU,bU] at this
 have tb:Hid (∀W,Below w.heap.size w W→Calls Tryz.prog 73 #[.pointer (some ⟨b,0,none⟩),.slice (some ⟨sb,so,none⟩) vals.length kc,.agg #[.int .i64 (f:Int),.int .i64 loop,.pointer pa,.slice la L.length lc]] W (ao B b (.slice (some ⟨bk,o,none⟩) T.length c) T.length ub ob (.slice la L.length lc) L st (aE vals f st) W)):=aa fun W hW =>
  qy f loop pa la lc ms L st W (.slice (some ⟨sb,so,none⟩) vals.length kc) vals ((hr.du hW).mono (gD _ _) (gD _ _)) hn hV (Wy.below (hW.mono cg)).keeps (fun k hk kH=>by have:=hl k hk;omega) (fun k _=>.inl hL) (by omega)
 have HR:=aa hr;have HN:=aa hn;have SZ:=aa uP;have HV2:=aa hV2;have HST:=aa hst;have Nn:=aa Bh;have SW:=aa hd;have HLI:=aa Wx;have HK:=aa hk;have hvl:vals.length≤kc:=by omega
 have RP:vals.length≤h.kids.length:=by omega
 have nm:=aa hr1;have HL:=aa hL;have qj:=aa hsz;have HX:=aa hx;have sJ:=aa oQ;have HRL:Hid (h.kids.length-vals.length=rest.length):=aa (by omega)
 have hv2:vals.length≤20000:=by omega
 clear hr1 oQ hr hn hV hl e7 Wy Bh hd dJ hk uP hV2 hst IN Wx hL hsz hx Bg;go_enter Tryz.func35,Tryz.ntmps35
 go_wp2_with fail
 refine(HD.out _ (by omega)).mono ?_
 rw[SW.out];rintro e w1 ⟨rfl,hb1⟩;have ee:=aa hb1;clear hb1;go_wp2_with fail
 have yH:=lh rfl ee.out (.bool true) (.int .i64 (vals.length:Int)) (.bool true);have qz:=aa yH.2;have oR:=aa yH.1;clear yH;clear d0 x0 x1 x2 x3 x4 x5 x6;generalize w1.alloc (.cells #[.bool true,.int .i64 (vals.length:Int),.bool true] 144)=W2 at qz oR ⊢;generalize w1.heap.size=q at qz ⊢;generalize w.heap.size+1=p at qz ⊢;obtain⟨k0,k1,k2,k3,k4,k5,k6,k7,k8⟩:=qz.out.cells;go_still_tail 7,(by kernel_rfl)
 change wpList _ _ _ _ _ W2.drew;have D2:=aa (show Below W2.heap.size W2 W2.drew from(Below.refl _ _).drew)
 generalize W2.drew=W3 at D2 ⊢;go_wp2_with fail
 have iK:=aa (oR.out.trans (D2.out.mono oR.out.size));refine(tb.out W3 iK.out).mono ?_;intro e w4 hp;cases oS:aE vals f st with
 | error y =>
  rw[oS] at hp;obtain⟨hb,v,rfl,g2,rfl,h2⟩:=hp;have H2:=aa h2;have HB:=aa hb;have HE:Hid (((aE vals f st).bind fun s1=>((bu i f h.line h.names (dv i f s1)).bind fun s2=>aE rest f s2).map fun s=>s.back s1)=.error y):=aa (by rw[oS];rfl)
  clear h2 hb oS;go_wp2_with fail
  go_ret
  rw[HE.out];exact⟨(iK.out.mono cg).trans HB.out,_,rfl,_,rfl,H2.out⟩
 | ok s1 =>
  rw[oS] at hp;have hr4:=HR.out.du iK.out;have hst:=(gm vals oS HN.out.nodup hr4.cx HN.out.wf).1;have Ro:=qi vals HN.out.quiet HST.out oS;obtain⟨rfl,x,hx1,hx2,we,DK⟩:=eY.step (a1:=Lt.ey vals) (s1:=Lt.al vals) hr4 (iI vals oS hr4.few) (hst.cx hr4.cx) (kW vals oS) hp;rw[Ro] at hx1;have hx0:=YL hx1;subst hx0;rw[jH] at we;have P5:=aa ((qz.out.later D2.out).jk DK);have HB5:=aa ((iK.out.mono cg).trans DK.below);have Ni:Hid (cU B ob (.slice la L.length lc) L.length (eh L) w w4):=aa ((cU.bH iK.out cg).trans DK);have Nh:=aa (we.oa i);have hz:=(we.oa i).zero;have HZ:=aa hz;have HOP:=aa (xt loop hz);have HNM:=aa Ro;have Rz:=aa oS;have hsz5:=DK.below.size;have ac8:=iK.out.size;clear hp hr4 we DK hst hx1 hx2 oS hz Ro k0 k1 k2 k3 k4 k5 k6 k7 k8;obtain⟨k0,k1,k2,k3,k4,k5,k6,k7,k8⟩:=P5.out.cells;go_wp2_with fail
  refine HOP.out.mono ?_;rintro e w6 ⟨g,c6,m,rfl,Mr,hm,hg,Ry⟩;have P6:=aa (P5.out.jk Ry);have y0:=aH P6.out.pos 0;have y1:=aH P6.out.pos 1;have y2:=aH P6.out.pos 2;have y3:=aH P6.out.pos 3;have HR6:=aa Mr;have HM:=aa hm;have HG:=aa hg;have Mt:=aa Ry;clear Mr hm hg Ry k0 k1 k2 k3 k4 k5 k6 k7 k8;obtain⟨k0,k1,k2,k3,k4,k5,k6,k7,k8⟩:=P6.out.cells;obtain⟨W7,DL⟩ :∃W7,W7=four w6 w.heap.size (.int .i64 (f:Int)) (.int .i64 loop) (.pointer pa) (.slice (some ⟨g,0,none⟩) (L.length+1) c6):=⟨_,rfl⟩;have P7:Hid (eZ w W7 p q f loop pa (.slice (some ⟨g,0,none⟩) (L.length+1) c6) (.slice (some ⟨sb,so,none⟩) h.kids.length kc) (.slice NA h.names.length nc) (.bool true) (.int .i64 (vals.length:Int)) (.bool true)):=aa (by rw[DL];exact P6.out.four _ _ _)
  have kn:vO w6 w.heap.size 69:=⟨_,_,P6.out.pos⟩;have F7:Hid (Fr [69] w6 W7):=aa (by rw[DL];exact u4 kn _ _ _ _)
  have B7:Hid (Below B w6 W7):=aa (by rw[DL];exact pz w6 cg _ _ _ _)
  have K7:Hid (∀k,k≠w.heap.size→W7.heap[k]? = w6.heap[k]?):=aa (by rw[DL];exact fun k hk=>nj w6 _ _ _ _ _ k hk)
  unfold four at DL;have HW7:=aa DL;clear DL kn;have hpn:p≠w.heap.size:=by have:=P5.out.pne;omega
  have hqn:q≠w.heap.size:=by have:=P5.out.qne;omega
  go_wp2_with fail
  rw[←HW7.out];have HZ0:=HZ.out;have hlt :∀l∈L,l.blk≠m:=fun l hl=>by have:=HZ.out.levels l hl;have:=HM.out;omega
  have Bi:=HR6.out.SX F7.out B7.out;have Wn:cU B ob (.slice la L.length lc) L.length (eh L) w W7:=(Ni.out.trans (Mt.out.Fu _)).past B7.out fun k hk=>K7.out k (by omega)
  have hLV:df W7 B (.slice la L.length lc) L:=((HZ.out.pos.fx).jk Mt.out (ah _)).fr F7.out (by decide)
  have Wz:(Value.slice la L.length lc).ownBlock=some g∨w.heap.size≤g:=HG.out.imp id fun h=>by omega
  have WA:w.heap.size≤m:=by have:=HM.out;omega
  have YM:=aa Bi;have YN:=aa Wn;have WB:=aa hLV;have HOW:=aa Wz;have WC:=aa WA;have jf:=aa hlt;have hdec:Calls Tryz.prog 75 #[.pointer (some ⟨b,0,none⟩),.int .i64 (i:Int),.agg #[.int .i64 (f:Int),.int .i64 loop,.pointer pa,.slice (some ⟨g,0,none⟩) (L.length+1) c6]] W7 (ao B b (.slice (some ⟨bk,o,none⟩) T.length c) T.length ub ob (.slice (some ⟨g,0,none⟩) (L.length+1) c6) (⟨f,m,[]⟩::L) (dv i f s1) (bu i f h.line h.names (dv i f s1)) W7) :=
   j8 b i f h loop pa (some ⟨g,0,none⟩) c6 ⟨f,m,[]⟩ L (dv i f s1) W7 Bi.fC Bi.rs HX.out Bi.cx.lt Bi.pos.fx rfl (by have:=Bi.fx;omega) Bi.few (by simp) qj.out
  clear Bi Wn hLV Wz WA hlt HZ0 k0 k1 k2 k3 k4 k5 k6 k7 k8 y0 y1 y2 y3;refine hdec.mono ?_;intro e w8 hp;clear hdec;cases jJ:bu i f h.line h.names (dv i f s1) with
  | error y =>
   rw[jJ] at hp;have HP:=aa hp;obtain⟨_,v,rfl,g2,rfl,_⟩:=hp;have HE:Hid (((aE vals f st).bind fun s1=>((bu i f h.line h.names (dv i f s1)).bind fun s2=>aE rest f s2).map fun s=>s.back s1)=.error y):=aa (by rw[Rz.out];show Except.map _ (Except.bind _ _)=_;rw[jJ];rfl)
   clear jJ;go_wp2_with fail
   go_ret
   rw[HE.out];exact(ao.inner (st:=st) YN.out WB.out jf.out HOW.out WC.out HP.out).same rfl rfl
  | ok s2 =>
   rw[jJ] at hp;obtain⟨Nk,uZ,_⟩:=mX jJ YM.out.cx;obtain⟨rfl,x,hx1,hx2,S4,S5⟩:=eY.step (a1:=h.names.length) (s1:=0) (by rw[gi];exact YM.out) (jF jJ YM.out.few) (Nk.cx YM.out.cx) uZ hp
   have P9:=aa (P7.out.jk S5);have HC:Hid (∀W,Below w8.heap.size w8 W→Calls Tryz.prog 73 #[.pointer (some ⟨b,0,none⟩),.slice (some ⟨sb,so+vals.length,none⟩) rest.length (kc-vals.length),.agg #[.int .i64 (f:Int),.int .i64 loop,.pointer pa,.slice (some ⟨g,0,none⟩) (L.length+1) c6]] W (ao B b (.slice (some ⟨bk,o,none⟩) T.length c) T.length ub ob (.slice (some ⟨g,0,none⟩) (L.length+1) c6) (grow x (⟨f,m,[]⟩::L)) s2 (aE rest f s2) w8)):=aa fun W hW =>
    (DJ f loop pa (some ⟨g,0,none⟩) c6 ms (⟨f,m,[]⟩::L) x s2 W (.slice (some ⟨sb,so+vals.length,none⟩) rest.length (kc-vals.length)) rest (S4.du hW) SZ.out HV2.out (Nn.out.below ((YN.out.below.trans S5.below).trans (hW.mono S4.world))) (fun k hk kH=>by rw[tH uZ,HLI.out];exact(uK f i _).symm) (fun k _=>.inl (by simp)) (by have:=sJ.out;omega)).mono fun e w' h=>h.from hW S4.world
   have Ye:=aa S5;have Nc:=aa hx1;have HE:Hid (((aE vals f st).bind fun s1=>((bu i f h.line h.names (dv i f s1)).bind fun s2=>aE rest f s2).map fun s=>s.back s1)=(aE rest f s2).map fun s=>s.back s1):=aa (by rw[Rz.out];show Except.map _ (Except.bind _ _)=_;rw[jJ];rfl)
   clear hp S4 S5 Nk uZ hx1 hx2 jJ;obtain⟨k0,k1,k2,k3,k4,k5,k6,k7,k8⟩:=P9.out.cells;go_wp2_with fail
   have RC:vals.length<kc:=by have:=nm.out;have:=sJ.out;omega
   go_still_tail 7,(by kernel_rfl)
   change wpList _ _ _ _ _ w8.drew;have Ww:=aa (HC.out w8.drew (Below.refl _ _).drew);generalize w8.drew=W9 at Ww ⊢;go_wp2_with fail
   rw[HRL.out];refine Ww.out.mono ?_;intro e w10 hp;obtain⟨v,rfl⟩:=hp.ret;have HP:=aa hp;clear hp;go_wp2_with fail
   go_ret
   rw[HE.out];exact(ao.inner (st:=st) YN.out WB.out jf.out HOW.out WC.out (ao.trans (L:=⟨f,m,[]⟩::L) (st1:=s2) (x:=x) Ye.out.below Ye.out Nc.out (fun e=>by cases e) HP.out)).SY HNM.out
end Go.Proofs.YtodmcdfeldkocaaGreatDoor
namespace Go.Proofs.YtodmcdfeldkocaaGreatDoor
open Go.RowKit
def wg (i f:Nat) (rep:Bool) (ks tests:List Lt) (st:aI):Rs aI:=(gY i f rep ks (st.setOf i f)).bind fun s1=>(cL ks 0 f s1).bind fun s2=>aE tests f s2
theorem cb.but {W W':World} {B kb:Nat} (h2 :∀k,k≠kb→k<W.heap.size→W'.heap[k]? = W.heap[k]?) :∀{fs:List (Nat×Nat×(ByteArray→Option Value))} {ms:List Nat} {p:Option Addr},cb W B fs ms (.pointer p)→(∀a,p=some a→a.block<kb)→(∀m∈ms,m≠kb)→cb W' B fs ms (.pointer p)
 | [],_,_,h,_,_=>h
 | x::fs,ms,p,h,hp,hm=>by
  obtain⟨k',p',m,CW,e,rfl,h1,h3,h4,h5,h6,h7⟩:=h;injection e with e;have hk:=hp _ e;replace hk:k' < kb:=hk;exact⟨k',p',m,CW,by rw[e],rfl,h1,(h2 k' (by omega) (aO.1 h3).1).trans h3,h4.same (h2 m (hm m (bP ..)) h4.lt),h5,h6,cb.but h2 h7 (fun a ha=>Nat.lt_trans (h6 a ha) hk) fun x hx=>hm x (bO _ hx)⟩
theorem cb.first {W:World} {B:Nat} {fs:List (Nat×Nat×(ByteArray→Option Value))} {ms:List Nat} {p:Option Addr} (h:cb W B fs ms (.pointer p)) :∀a,p=some a→a.block<W.heap.size:=by
 intro a ha;cases fs with
 | nil=>rw[ha] at h;cases h.2
 | cons x fs =>
  obtain⟨k',_,_,_,e,_,_,h3,_⟩:=h;injection e with e;rw[ha] at e;injection e with e;rw[e];exact(aO.1 h3).1
section
variable {T:List Nd} {B b:Nat} {nv:Value} {ub ob f kb mb i n:Nat} {rep:Bool} {ks:List Lt} {pa:Option Addr} {lv:Value} {ms:List Nat} {L:List cR} {st:aI} {w w':World} {a s:Nat}
theorem eY.Bj (h:eY T B b nv ub ob f pa lv ms L st w a s) (hk:w.heap[kb]? = some (.cells #[.pointer pa,.map (some mb),.int .i64 (gS ks (n+1):Int)] 150 (0,0))) (hm:dL Tryz.prog 9 w mb ks.length (fG ks rep ks.length)) (hBk:B≤kb) (hBm:B≤mb) (Sy :∀a,pa=some a→a.block<kb) (hap :∀l∈L,mb≠l.blk) :
  eY T B b nv ub ob f (some ⟨kb,0,none⟩) lv (mb::ms) L { st with frames:=⟨f,i,n,false,rep,ks⟩::st.frames} w a s:=by
 refine⟨h.fC,?_,⟨h.pos.fx,?_,h.pos.names,fun m hm l hl=>?_⟩,h.hd,⟨h.cx.ok,h.cx.lt,h.cx.names⟩,h.few,fun x hx=>?_,h.names,h.fns,h.fx⟩
 ·obtain⟨fv,FL,hw⟩:=h.rs
  exact⟨fv,FL,hw.on rfl rfl rfl⟩
 ·show oO w B (dB f (⟨f,i,n,false,rep,ks⟩::st.frames)) (mb::ms) _
  rw[uG (f:=f) (x:=⟨f,i,n,false,rep,ks⟩) rfl rfl];exact⟨kb,pa,mb,ms,rfl,rfl,hBk,hk,hm,hBm,Sy,h.pos.blk⟩
 ·rcases bc.1 hm with rfl|hm
  ·exact hap l hl
  ·exact h.pos.apart m hm l hl
 ·rcases bc.1 hx with rfl|hx
  ·exact h.cx.lt
  ·exact h.fr x hx
theorem eY.S7 {No:List fE} {v:Value} (h:eY T B b nv ub ob f (some ⟨kb,0,none⟩) lv (mb::ms) L st w a s) (hf:st.frames=⟨f,i,n,false,rep,ks⟩::No) (hk:w.heap[kb]? = some (.cells #[.pointer pa,.map (some mb),v] 150 (0,0))) :
  eY T B b nv ub ob f pa lv ms L { st with frames:=No} w a s∧dL Tryz.prog 9 w mb ks.length (fG ks rep ks.length):=by
 have hb:oO w B (dB f st.frames) (mb::ms) (.pointer (some ⟨kb,0,none⟩)):=h.pos.blk;rw[hf,uG (f:=f) (x:=⟨f,i,n,false,rep,ks⟩) rfl rfl] at hb;obtain⟨k',p',m,CW,e,e2,h1,h3,h4,h5,h6,h7⟩:=hb;injection e with e;injection e with e;injection e with e;subst e;injection e2 with e2 e3;subst e2 e3;rw[hk] at h3;injection h3 with h3;injection h3 with h3;have h8:[Value.pointer pa,.map (some mb),v]=[.pointer p',.map (some mb),.int .i64 (gS ks (n+1):Int)]:=aw Array.toList h3;injection h8 with h8 _;injection h8 with h8;subst h8;refine⟨⟨h.fC,?_,⟨h.pos.fx,h7,h.pos.names,fun m hm l hl=>h.pos.apart m (bO _ hm) l hl⟩,h.hd,⟨h.cx.ok,h.cx.lt,h.cx.names⟩,h.few,fun x hx=>h.fr x (by rw[hf];exact bO _ hx),h.names,h.fns,h.fx⟩,h4⟩
 obtain⟨fv,FL,hw⟩:=h.rs;exact⟨fv,FL,hw.on rfl rfl rfl⟩
theorem eY.but (h:eY T B b nv ub ob f pa lv ms L st w a s) (k:Fr [150] w w') (hb:Below B w w') (h2 :∀j,j≠kb→j<w.heap.size→w'.heap[j]? = w.heap[j]?) (Sy :∀a,pa=some a→a.block<kb) (hm :∀m∈ms,m≠kb):eY T B b nv ub ob f pa lv ms L st w' a s:=by
 refine⟨h.fC.below hb,?_,⟨h.pos.fx.fr k (by decide),cb.but h2 h.pos.blk Sy hm,h.pos.names,h.pos.apart⟩,h.hd,h.cx,h.few,h.fr,h.names,h.fns,h.fx⟩
 obtain⟨fv,FL,hw⟩:=h.rs;exact⟨fv,FL,hw.fr k (by decide)⟩
theorem eY.grown (h:eY T B b nv ub ob f pa lv ms L st w a s) (hg:w.grownBy w' (some mb)) (hm :∃es c,w.heap[mb]? = some (.map es c)) (hB:B≤mb) (h1:mb∉ms) (h2 :∀l∈L,mb≠l.blk):eY T B b nv ub ob f pa lv ms L st w' a s:=by
 have cg:=h.world;refine⟨h.fC.below (j9 hg hB cg),?_,⟨⟨ia (eX hg hm) h.pos.fx.row,fun l hl=>⟨(h.pos.fx.maps l hl).1.same (hg.block _ (h.pos.fx.maps l hl).1.lt fun e=>h2 l hl (by injection e with e;exact e.symm)),(h.pos.fx.maps l hl).2⟩,h.pos.fx.own,h.pos.fx.apart⟩,cb.grown hg hm h.pos.blk h1,h.pos.names,h.pos.apart⟩,h.hd,h.cx,h.few,h.fr,h.names,h.fns,h.fx⟩
 obtain⟨fv,FL,hw⟩:=h.rs;exact⟨fv,FL,hw.keep (eX hg hm)⟩
theorem df.grown (h:df w B lv L) (hg:w.grownBy w' (some mb)) (hm :∃es c,w.heap[mb]? = some (.map es c)) (h2 :∀l∈L,mb≠l.blk):df w' B lv L :=
 ⟨ia (eX hg hm) h.row,fun l hl=>⟨(h.maps l hl).1.same (hg.block _ (h.maps l hl).1.lt fun e=>h2 l hl (by injection e with e;exact e.symm)),(h.maps l hl).2⟩,h.own,h.apart⟩
end
theorem qq.inner {B ob g c m n:Nat} {lv kv:Value} {top:Option Nat} {w w1:World} {xs:List Int} (h:qq B ob lv n top w kv xs) (h1:cU B ob lv n top w w1) (hg:lv.ownBlock=some g∨w.heap.size≤g) (hm:w.heap.size≤m):qq B ob (.slice (some ⟨g,0,none⟩) (n+1) c) (n+1) (some m) w1 kv xs:=by
 obtain⟨A,c',e,hc,h2⟩:=h;refine⟨A,c',e,hc,h2.imp id ?_⟩;rintro⟨bk,o,e2,hx⟩;exact⟨bk,o,e2,fun w' hf=>hx w' (h1.inner hg hm hf)⟩
theorem Bk {i f:Nat} {rep:Bool} {ks:List Lt} {st:aI}:gY i f rep ks st=match b9 st.frames f ks 0 ks with|some l=>.error (9,l)|none=>.ok { st with frames:=⟨f,i,0,false,rep,ks⟩::st.frames}:=rfl
end Go.Proofs.YtodmcdfeldkocaaGreatDoor
namespace Go.Proofs.YtodmcdfeldkocaaGreatDoor
open Go.RowKit
structure BI (T:List Nd) (B b:Nat) (nv:Value) (ub ob f i mb g c6 m:Nat) (rep:Bool) (ks tests:List Lt) (pa:Option Addr) (lv:Value) (ms:List Nat) (L:List cR) (No:List fE) (loop:Int) (w:World) (n:Nat) (x:List jw) (s1:aI) (wr:World):Prop where
 rd:eY T B b nv ub ob f pa (.slice (some ⟨g,0,none⟩) (L.length+1) c6) ms (grow x (⟨f,m,[]⟩::L)) { s1 with frames:=No} wr (Lt.ey (ks.drop n)+Lt.ey tests) (Lt.al (ks.drop n)+Lt.al tests)
 frames:s1.frames=⟨f,i,n-1,false,rep,ks⟩::No
 kb:wr.heap[mb+1]? = some (.cells #[.pointer pa,.map (some mb),.int .i64 (gS ks n:Int)] 150 (0,0))
 mp:dL Tryz.prog 9 wr mb ks.length (fG ks rep ks.length)
 box:wr.heap[w.heap.size]? = some (.cells #[.int .i64 (f:Int),.int .i64 loop,.pointer (some ⟨mb+1,0,none⟩),.slice (some ⟨g,0,none⟩) (L.length+1) c6] 69 (0,0))
 jk:cU B ob lv L.length (eh L) w wr
 fx:df wr B lv L
structure BS (B mb g m:Nat) (pa:Option Addr) (lv:Value) (ms:List Nat) (L:List cR) (w:World):Prop where
 own:lv.ownBlock=some g∨w.heap.size≤g
 top:w.heap.size≤m
 old:w.heap.size≤mb
 low:B≤mb
 ptr :∀a,pa=some a→a.block<mb+1
 maps :∀x∈ms,x<mb
 ac9 :∀l∈L,l.blk<mb
 mlt:m<mb
 apart :∀l∈L,l.blk≠m
 base:B≤w.heap.size
section
variable {T:List Nd} {B b:Nat} {nv:Value} {ub ob f i mb g c6 m:Nat} {rep:Bool} {ks tests:List Lt} {pa:Option Addr} {lv:Value} {ms:List Nat} {L:List cR} {No:List fE} {loop:Int} {w:World} {n:Nat} {x:List jw} {s1:aI} {wr wr':World}
theorem BS.grow (h:BS B mb g m pa lv ms L w) (x:List jw) :∀l∈grow x (⟨f,m,[]⟩::L),mb≠l.blk:=by
 intro l hl;have h1:l.blk∈(Go.Proofs.YtodmcdfeldkocaaGreatDoor.grow x (⟨f,m,[]⟩::L)).map cR.blk:=j3 hl;rw[uM] at h1;rcases bc.1 h1 with h1|h1
 ·have:=h.mlt
  replace h1:l.blk=m:=h1;omega
 ·obtain⟨u,hu,e⟩:=jB.1 h1
  have:=h.ac9 u hu;omega
theorem FU {s:aI} {y:fE} {l:List fE} (h:s.frames=y::l) (n:Nat):s.at n={ s with frames:={ y with at_:=n}::l}:=by
 unfold aI.at;rw[h]
theorem BI.ready (h:BI T B b nv ub ob f i mb g c6 m rep ks tests pa lv ms L No loop w n x s1 wr) (hb:BS B mb g m pa lv ms L w) {k:Lt} (hk:ks[n]? = some k) (hw:(wr'=wr∧isDecl k=false)∨(wr'=wr.setCell ⟨mb+1,2,none⟩ (.int .i64 ((gS ks n:Int)+1))∧isDecl k=true)) :
  eY T B b nv ub ob f (some ⟨mb+1,0,none⟩) (.slice (some ⟨g,0,none⟩) (L.length+1) c6) (mb::ms) (grow x (⟨f,m,[]⟩::L)) (s1.at n) wr' (k.wt+(Lt.ey (ks.drop (n+1))+Lt.ey tests)) (k.size+(Lt.al (ks.drop (n+1))+Lt.al tests))∧wr'.heap[mb+1]? = some (.cells #[.pointer pa,.map (some mb),.int .i64 (gS ks (n+1):Int)] 150 (0,0))∧wr'.heap[w.heap.size]? = some (.cells #[.int .i64 (f:Int),.int .i64 loop,.pointer (some ⟨mb+1,0,none⟩),.slice (some ⟨g,0,none⟩) (L.length+1) c6] 69 (0,0))∧cU B ob lv L.length (eh L) w wr'∧df wr' B lv L:=by
 have vR:=uH hk;have RD:=h.rd;rw[(qt hk).1,(qt hk).2,oK,oK] at RD;have hmb:=hb.low;have sZ:=hb.old;have key :∀(W:World),eY T B b nv ub ob f pa (.slice (some ⟨g,0,none⟩) (L.length+1) c6) ms (Go.Proofs.YtodmcdfeldkocaaGreatDoor.grow x (⟨f,m,[]⟩::L)) { s1 with frames:=No} W (k.wt+(Lt.ey (ks.drop (n+1))+Lt.ey tests)) (k.size+(Lt.al (ks.drop (n+1))+Lt.al tests))→W.heap[mb+1]? = some (.cells #[.pointer pa,.map (some mb),.int .i64 (gS ks (n+1):Int)] 150 (0,0))→dL Tryz.prog 9 W mb ks.length (fG ks rep ks.length)→eY T B b nv ub ob f (some ⟨mb+1,0,none⟩) (.slice (some ⟨g,0,none⟩) (L.length+1) c6) (mb::ms) (Go.Proofs.YtodmcdfeldkocaaGreatDoor.grow x (⟨f,m,[]⟩::L)) (s1.at n) W (k.wt+(Lt.ey (ks.drop (n+1))+Lt.ey tests)) (k.size+(Lt.al (ks.drop (n+1))+Lt.al tests)):=fun W h1 h2 h3=>by
  rw[FU h.frames n];exact h1.Bj (i:=i) (n:=n) (rep:=rep) h2 h3 (by omega) hmb hb.ptr (hb.grow x)
 rcases hw with ⟨rfl,hd⟩ | ⟨rfl,hd⟩
 ·rw[hd] at vR
  have vR:gS ks (n+1)=gS ks n:=vR;have hkb:=h.kb;rw[←vR] at hkb;exact⟨key _ RD hkb h.mp,hkb,h.box,h.jk,h.fx⟩
 ·rw[hd] at vR
  have vR:gS ks (n+1)=gS ks n+1:=vR;have hF:Fr [150] wr (wr.setCell ⟨mb+1,2,none⟩ (.int .i64 ((gS ks n:Int)+1))):=Fr.set h.kb (by decide) _ _
  have hB:Below B wr (wr.setCell ⟨mb+1,2,none⟩ (.int .i64 ((gS ks n:Int)+1))):=(Below.refl B wr).setCell (p:=⟨mb+1,2,none⟩) (by show B≤mb+1;omega) _
  have hK :∀j,j≠mb+1→(wr.setCell ⟨mb+1,2,none⟩ (.int .i64 ((gS ks n:Int)+1))).heap[j]? = wr.heap[j]?:=fun j hj=>Below.heap_setCell _ _ _ j hj
  have hkb:(wr.setCell ⟨mb+1,2,none⟩ (.int .i64 ((gS ks n:Int)+1))).heap[mb+1]? = some (.cells #[.pointer pa,.map (some mb),.int .i64 (gS ks (n+1):Int)] 150 (0,0)):=by
   have:=bM h.kb 2 (.int .i64 ((gS ks n:Int)+1));rw[vR];exact this
  exact⟨key _ (RD.but hF hB (fun j hj _=>hK j hj) hb.ptr (fun y hy=>by have:=hb.maps y hy;omega)) hkb (hF.map h.mp),hkb,(hK _ (by omega)).trans h.box,h.jk.past hB fun j hj=>hK j (by omega),h.fx.fr hF (by decide)⟩
theorem BI.next {k:Lt} {s2:aI} {w2:World} {e:Ending} (hb:BS B mb g m pa lv ms L w) (hn:ic T k) (mP:s1.frames=⟨f,i,n-1,false,rep,ks⟩::No)
  (h1:eY T B b nv ub ob f (some ⟨mb+1,0,none⟩) (.slice (some ⟨g,0,none⟩) (L.length+1) c6) (mb::ms) (grow x (⟨f,m,[]⟩::L)) (s1.at n) wr' (k.wt+(Lt.ey (ks.drop (n+1))+Lt.ey tests)) (k.size+(Lt.al (ks.drop (n+1))+Lt.al tests))) (h2:wr'.heap[mb+1]? = some (.cells #[.pointer pa,.map (some mb),.int .i64 (gS ks (n+1):Int)] 150 (0,0))) (h3:wr'.heap[w.heap.size]? = some (.cells #[.int .i64 (f:Int),.int .i64 loop,.pointer (some ⟨mb+1,0,none⟩),.slice (some ⟨g,0,none⟩) (L.length+1) c6] 69 (0,0))) (h4:cU B ob lv L.length (eh L) w wr') (h5:df wr' B lv L)
  (hr:aY k f (s1.at n)=.ok s2) (hp:ao B b nv T.length ub ob (.slice (some ⟨g,0,none⟩) (L.length+1) c6) (grow x (⟨f,m,[]⟩::L)) (s1.at n) (.ok s2) wr' e w2) :
  e=.returned .nilIface∧∃y,BI T B b nv ub ob f i mb g c6 m rep ks tests pa lv ms L No loop w (n+1) (y++x) s2 w2:=by
 obtain⟨he,y,_,_,hr2,hf2,rL⟩:=eY.next h1 hn hr hp;rw[grow_grow] at hr2;rw[cz,nX] at hf2;rw[FU mP n] at rL;replace rL:s2.frames=⟨f,i,n,false,rep,ks⟩::No:=rL;have hkb:=hf2.cells _ _ _ _ h2 (by decide)
 obtain⟨q1,q2⟩:=hr2.S7 (pa:=pa) rL hkb;exact⟨he,y,⟨q1,rL,hkb,q2,hf2.cells _ _ _ _ h3 (by decide),h4.inner hb.own hb.top hf2,h5.inner hb.apart hf2⟩⟩
end
theorem ao.YO {B b:Nat} {nv:Value} {N ub ob g c:Nat} {lv:Value} {L:List cR} {l:cR} {st st1:aI} {r:Rs aI} {w w1 w2:World} {e:Ending} (h1:cU B ob lv L.length (eh L) w w1) (hl:df w1 B lv L) (hne :∀u∈L,u.blk≠l.blk) (hg:lv.ownBlock=some g∨w.heap.size≤g) (hm:w.heap.size≤l.blk) (h:ao B b nv N ub ob (.slice (some ⟨g,0,none⟩) (L.length+1) c) (l::L) st1 r w1 e w2):ao B b nv N ub ob lv L st (r.map fun s=>s.back st) w e w2:=by
 refine⟨h1.below.trans h.1,?_⟩;have h2:=h.2;cases r with
 | error y=>exact h2
 | ok s =>
  obtain⟨k1,⟨fv,FL,k2⟩,k3,_⟩:=h2;refine⟨k1,⟨fv,FL,k2.on rfl rfl rfl⟩,h1.inner hg hm k3,[],rfl,fun _=>rfl,?_⟩
  rw[jH];exact hl.inner hne k3
theorem Nq (ks:List Lt):gS ks (ks.length-1+1)=gS ks ks.length:=by
 rcases su ks.length with h|h
 ·rw[List.length_eq_zero_iff.1 h];rfl
 ·rw[show ks.length-1+1=ks.length by omega]
end Go.Proofs.YtodmcdfeldkocaaGreatDoor
