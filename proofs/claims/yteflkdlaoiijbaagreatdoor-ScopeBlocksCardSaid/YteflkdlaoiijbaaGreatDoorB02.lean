/- Parts of the proof. -/
import Derived.Shelf.Strings.SlTrimAscii
import Derived.Lib.SplitLaws
import Derived.Below
import Derived.Deep.QuietTactic
import Derived.Deep.RegionWith
import Derived.RangeFuncBox
import Derived.Maps.AppendAt
import Derived.Deep.LoopGhost
import Derived.Test.YteflkdlaoiijbaaGreatDoorB01
set_option maxHeartbeats 16000000
set_option maxRecDepth 20000
namespace Go.Proofs.YteflkdlaoiijbaaGreatDoor
open Go.RowKit
theorem C0 {a a':Int} {o o':Bool} (h:a=a') (h':o=o'):Ending.returned (.tuple #[.int .i64 a,.bool o])=.returned (.tuple #[.int .i64 a',.bool o']):=by rw[h,h']
theorem Lk (s:ByteArray) (w:World):Calls Tryz.prog 175 #[.string s,.string ⟨#[48]⟩] w fun e w'=>e=.returned (.string ⟨(Lib.trimLeftB s.data.toList 48).toArray⟩)∧w=w' :=
 (Tryz.strings_TrimLeft_one s 48 (by decide) w).mono fun _ _ ⟨h,h'⟩=>⟨h,h'.symm⟩
theorem Ll (s:ByteArray) (b:Nat) (w:World) (hs:s.size≤9223372036854775807) (h:s6 b s.data.toList=false) :
  Calls Tryz.prog 169 #[.string s,.int .u64 b] w fun e w'=>e=.returned (.tuple #[.int .u64 0,.bool false])∧w=w':=by
 have hc:=kY s b w hs;rw[yr h,h] at hc;exact hc
theorem wW (s:ByteArray) (b:Nat) (w:World) (hs:s.size≤9223372036854775807) (h:s6 b s.data.toList=true) :
  Calls Tryz.prog 169 #[.string s,.int .u64 b] w fun e w'=>e=.returned (.tuple #[.int .u64 (CO b s.data.toList:Int),.bool true])∧w=w':=by
 have hc:=kY s b w hs;rw[h] at hc;exact hc
theorem Ar (s:ByteArray) (m:Int) (w:World) (hs:s.size≤9223372036854775807) (hm:m≤9223372036854775808) :
  Calls Tryz.prog 170 #[.string s,.int .u64 m] w fun e w'=>e=.returned (.tuple #[.int .u64 (CR m s.data.toList:Int),.bool (p7 m s.data.toList)])∧w=w':=by
 cases ho:s6 10 s.data.toList
 ·have HN:=aa (Lf (m:=m) ho)
  have HO:=aa ho;clear ho;go_enter Tryz.func170,Tryz.ntmps170
  go_wp2_with fail
  refine(Ll s 10 _ hs HO.out).mono ?_;rintro e w1 ⟨rfl,rfl⟩;go_wp2_with fail
  go_ret2
  exact⟨lS (by rw[yz HN.out];rfl) HN.out.symm,rfl⟩
 ·have HO:=aa ho
  by_cases hl:(Lib.trimLeftB s.data.toList 48).length≤19
  ·have HW:=aa (Hd ho hl)
   clear ho;obtain⟨v,hv⟩ :∃v:Int,v=(val 10 s.data.toList:Int):=⟨_,rfl⟩;have HV:=aa hv;have HC:=aa (fun(w:World)=>HV.out▸HW.out▸wW s 10 w hs HO.out)
   clear hv;by_cases hvm:v≤m
   ·have HN:=aa (RF HO.out (HV.out▸hvm))
    go_enter Tryz.func170,Tryz.ntmps170
    go_wp2_with fail
    refine(HC.out _).mono ?_;rintro e w1 ⟨rfl,rfl⟩;go_wp2_with fail
    refine(Lk _ _).mono ?_;rintro e w2 ⟨rfl,rfl⟩;go_wp2_with fail
    go_ret2
    exact⟨lS (by rw[RG HN.out];exact HV.out) HN.out.symm,rfl⟩
   ·have HN:=aa (Hf (HV.out▸Int.lt_of_not_ge hvm))
    go_enter Tryz.func170,Tryz.ntmps170
    go_wp2_with fail
    refine(HC.out _).mono ?_;rintro e w1 ⟨rfl,rfl⟩;go_wp2_with fail
    refine(Lk _ _).mono ?_;rintro e w2 ⟨rfl,rfl⟩;go_wp2_with fail
    go_ret2
    exact⟨lS (by rw[yz HN.out];rfl) HN.out.symm,rfl⟩
  ·have HN:=aa (He hm ho (Nat.lt_of_not_le hl))
   clear ho;go_enter Tryz.func170,Tryz.ntmps170
   go_wp2_with fail
   refine(wW s 10 _ hs HO.out).mono ?_;rintro e w1 ⟨rfl,rfl⟩;go_wp2_with fail
   refine(Lk _ _).mono ?_;rintro e w2 ⟨rfl,rfl⟩;go_wp2_with fail
   go_ret2
   exact⟨lS (by rw[yz HN.out];rfl) HN.out.symm,rfl⟩
theorem lT (s p:ByteArray) (w:World) (r:Bool) (h:Lib.hasPrefix s.data.toList p.data.toList=r):Calls Tryz.prog 71 #[.string s,.string p] w fun e w'=>e=.returned (.bool r)∧w=w' :=
 (Tryz.strings_HasPrefix s p w).mono fun _ _ ⟨a,b⟩=>⟨by rw[a,h],b.symm⟩
theorem uo (s:ByteArray) (k:Nat):(⟨(s.data.toList.drop k).toArray⟩:ByteArray)=s.extract k s.size:=by
 rw[Lib.extract_eq,tR (by rw[j7,Lib.size_eq];omega)]
theorem aax {s:ByteArray} {a b:UInt8} (h:Lib.hasPrefix s.data.toList [a,b]=true):2≤s.size:=by
 rw[Lib.size_eq];unfold Lib.hasPrefix at h;match hs:s.data.toList,h with
 | [],h=>simp[List.isPrefixOf] at h
 | [_],h=>simp[List.isPrefixOf] at h
 | _::_::_,_=>simp
theorem Xv {l:List UInt8} (h:Lib.hasPrefix l [48,120]=true):s8 l=true:=by unfold s8;rw[h];rfl
theorem Xw {l:List UInt8} (h:Lib.hasPrefix l [48,88]=true):s8 l=true:=by unfold s8;rw[h];simp
theorem Xx {l:List UInt8} (h:Lib.hasPrefix l [48,120]=false) (h':Lib.hasPrefix l [48,88]=false):s8 l=false:=by unfold s8;rw[h,h'];rfl
theorem As {m:Int} {l:List UInt8} (h:s8 l=true):p9 m l=s6 16 (l.drop 2):=by unfold p9;simp[h]
theorem At {m:Int} {l:List UInt8} (h:s8 l=true):ug m l=CO 16 (l.drop 2):=by unfold ug;simp[h]
theorem Lm {m:Int} {l:List UInt8} (h:s8 l=false):p9 m l=p7 m l:=by unfold p9;simp[h]
theorem Lo {m:Int} {l:List UInt8} (h:s8 l=false):ug m l=CR m l:=by unfold ug;simp[h]
theorem uq (s:ByteArray) (k b:Nat) (w:World) (hs:s.size≤9223372036854775807) :
  Calls Tryz.prog 169 #[.string (s.extract k s.size),.int .u64 b] w fun e w'=>e=.returned (.tuple #[.int .u64 (CO b (s.data.toList.drop k):Int),.bool (s6 b (s.data.toList.drop k))])∧w=w':=by
 have h:=kY ⟨(s.data.toList.drop k).toArray⟩ b w (by rw[Lib.size_mk,j7,←Lib.size_eq];omega)
 rw[uo] at h;rw[show(s.extract k s.size).data.toList=s.data.toList.drop k by rw[←uo]] at h
 exact h
theorem Au (s:ByteArray) (m:Int) (w:World) (hs:s.size≤9223372036854775807) (hm:m≤9223372036854775808) :
  Calls Tryz.prog 136 #[.string s,.int .u64 m] w fun e w'=>e=.returned (.tuple #[.int .u64 (ug m s.data.toList:Int),.bool (p9 m s.data.toList)])∧w=w':=by
 have HM:=aa hm;clear hm;cases h1:Lib.hasPrefix s.data.toList [48,120]
 ·cases h2:Lib.hasPrefix s.data.toList [48,88]
  ·have HX:=aa (Xx h1 h2)
   have H1:=aa h1;have H2:=aa h2;clear h1 h2;go_enter Tryz.func136,Tryz.ntmps136
   go_wp2_with fail
   refine(lT _ _ _ _ H1.out).mono ?_;rintro e w1 ⟨rfl,rfl⟩;go_wp2_with fail
   refine(lT _ _ _ _ H2.out).mono ?_;rintro e w1 ⟨rfl,rfl⟩;go_wp2_with fail
   refine(Ar _ _ _ hs HM.out).mono ?_;rintro e w1 ⟨rfl,rfl⟩;go_wp2_with fail
   go_ret2
   exact⟨lS (by rw[Lo HX.out]) (Lm HX.out).symm,rfl⟩
  ·have HX:=aa (Xw h2)
   have H1:=aa h1;have H2:=aa h2;have hz:=aax h2;clear h1 h2;go_enter Tryz.func136,Tryz.ntmps136
   go_wp2_with fail
   refine(lT _ _ _ _ H1.out).mono ?_;rintro e w1 ⟨rfl,rfl⟩;go_wp2_with fail
   refine(lT _ _ _ _ H2.out).mono ?_;rintro e w1 ⟨rfl,rfl⟩;go_wp2_with fail
   refine(uq _ 2 16 _ hs).mono ?_;rintro e w1 ⟨rfl,rfl⟩;go_wp2_with fail
   go_ret2
   exact⟨lS (by rw[At HX.out]) (As HX.out).symm,rfl⟩
 ·have HX:=aa (Xv h1)
  have H1:=aa h1;have hz:=aax h1;clear h1;go_enter Tryz.func136,Tryz.ntmps136
  go_wp2_with fail
  refine(lT _ _ _ _ H1.out).mono ?_;rintro e w1 ⟨rfl,rfl⟩;go_wp2_with fail
  refine(uq _ 2 16 _ hs).mono ?_;rintro e w1 ⟨rfl,rfl⟩;go_wp2_with fail
  go_ret2
  exact⟨lS (by rw[At HX.out]) (As HX.out).symm,rfl⟩
theorem yE (n:Int):wrap64 n=wS n:=by unfold wrap64 wS;rfl
theorem Sa (n:Int):wS (IntKind.u64.wrap n)=wS n:=by rw[IntKind.wrap_u64];unfold wS;omega
theorem Aw (s:ByteArray) (w:World) (hs:s.size≤9223372036854775807) :
  Calls Tryz.prog 76 #[.string s] w fun e w'=>e=.returned (.tuple #[.int .i64 (wS (ug 9223372036854775807 s.data.toList:Int)),.bool (p9 9223372036854775807 s.data.toList)])∧w=w':=by
 go_enter Tryz.func76,Tryz.ntmps76
 go_wp2_with fail
 refine(Au _ _ _ hs (by omega)).mono ?_;rintro e w1 ⟨rfl,rfl⟩
 go_wp2_with fail
 go_ret2
 exact⟨C0 (by first|exact yE _|exact aci _) rfl,rfl⟩
theorem Lp (s:ByteArray) (w:World) (hs:s.size≤9223372036854775807) :
  Calls Tryz.prog 218 #[.string s,.string ⟨#[9,10,11,12,13,32]⟩] w fun e w'=>e=.returned (.string ⟨(E0 s.data.toList).toArray⟩)∧Below w.heap.size w w' :=
 Any.strings_Trim_laid Tryz.RU (by kernel_rfl) s ⟨#[9,10,11,12,13,32]⟩ w hs (by decide) (ascii_of_all (by decide))
theorem Lq (s:ByteArray):(⟨(E0 s.data.toList).toArray⟩:ByteArray).size≤s.size:=by
 rw[Lib.size_mk,Lib.size_eq];exact Xm _
theorem aay (t:ByteArray) (w:World) (r:Bool) (h:yw t.data.toList=r) :
  Calls Tryz.prog 174 #[.string t,.string ⟨#[45]⟩] w fun e w'=>e=.returned (.tuple #[.string ⟨(Lib.trimPrefix t.data.toList [45]).toArray⟩,.bool r])∧w=w' :=
 (Tryz.strings_CutPrefix t ⟨#[45]⟩ w).mono fun _ _ ⟨a,b⟩=>⟨by rw[a,←h];rfl,b.symm⟩
theorem Lr (t:ByteArray) (p:List UInt8):(⟨(Lib.trimPrefix t.data.toList p).toArray⟩:ByteArray).size≤t.size:=by
 rw[Lib.size_mk,Lib.size_eq];exact Lib.trimPrefix_le _ _
theorem Ls {b:Int} {l:List UInt8} (h:¬ (2≤b∧b≤36)):qa b l=false:=by unfold qa;rw[af h]
theorem Lu {b:Int} {l:List UInt8} (h:¬ (2≤b∧b≤36)):kW b l=0:=by unfold kW;rw[af h]
theorem Hi (s:ByteArray) (b:Int) (w:World) (h:¬ (2≤b∧b≤36)) :
  Calls Tryz.prog 194 #[.string s,.int .i64 b] w fun e w'=>e=.returned (.tuple #[.int .i64 (kW b s.data.toList),.bool (qa b s.data.toList)])∧Below w.heap.size w w':=by
 rw[Ls h,Lu h];by_cases h1:b<2
 ·clear h
  go_enter Tryz.func194,Tryz.ntmps194
  go_wp2_with fail
  go_ret2
  exact⟨rfl,Below.refl _ _⟩
 ·have h2:36<b:=by omega
  clear h;go_enter Tryz.func194,Tryz.ntmps194
  go_wp2_with fail
  go_ret2
  exact⟨rfl,Below.refl _ _⟩
theorem Lv (s:ByteArray) (b:Nat) (w:World) (hs:s.size≤9223372036854775807) (h1:2≤b) (h2:b≤36) :
  Calls Tryz.prog 194 #[.string s,.int .i64 b] w fun e w'=>e=.returned (.tuple #[.int .i64 (kW b s.data.toList),.bool (qa b s.data.toList)])∧Below w.heap.size w w':=by
 have hz:=Lq s;have HT:=aa (show(⟨(E0 s.data.toList).toArray⟩:ByteArray).data.toList=E0 s.data.toList from rfl)
 have HC:=aa (Lp s · hs)
 generalize (⟨(E0 s.data.toList).toArray⟩:ByteArray)=t at hz HT HC;have hm:=Lr t [45];have ho:qa b s.data.toList=s6 b (Lib.trimPrefix t.data.toList [45]):=by unfold qa;rw[←HT.out,ak (by omega)];rfl
 have HO:=aa ho;clear ho;cases h:yw t.data.toList
 ·have HH:=aa h
  clear h;have hn:kW b s.data.toList=wS (CO b (Lib.trimPrefix t.data.toList [45]):Int):=by unfold kW;rw[←HT.out,ak (by omega),af (by rw[HH.out];exact ef)];rfl
  have HN:=aa hn;clear hn;go_enter Tryz.func194,Tryz.ntmps194
  go_wp2_with fail
  refine(HC.out _).mono ?_;rintro e w1 ⟨rfl,b1⟩;go_wp2_with fail
  refine(aay _ _ _ HH.out).mono ?_;rintro e w2 ⟨rfl,rfl⟩;go_wp2_with fail
  refine(kY _ b _ (by omega)).mono ?_;rintro e w2 ⟨rfl,rfl⟩
  go_wp2_with fail
  go_ret2
  exact⟨C0 (by rw[HN.out];exact yE _) HO.out.symm,b1⟩
 ·have HH:=aa h
  clear h;have hn:kW b s.data.toList=wS (-(CO b (Lib.trimPrefix t.data.toList [45]):Int)):=by unfold kW;rw[←HT.out,ak (by omega),ak HH.out];rfl
  have HN:=aa hn;clear hn;go_enter Tryz.func194,Tryz.ntmps194
  go_wp2_with fail
  refine(HC.out _).mono ?_;rintro e w1 ⟨rfl,b1⟩;go_wp2_with fail
  refine(aay _ _ _ HH.out).mono ?_;rintro e w2 ⟨rfl,rfl⟩;go_wp2_with fail
  refine(kY _ b _ (by omega)).mono ?_;rintro e w2 ⟨rfl,rfl⟩
  go_wp2_with fail
  go_ret2
  refine⟨C0 ?_ HO.out.symm,b1⟩;rw[HN.out];exact(yE _).trans (Sa _)
theorem VL (s:ByteArray) (b:Int) (w:World) (hs:s.size≤9223372036854775807) :
  Calls Tryz.prog 194 #[.string s,.int .i64 b] w fun e w'=>e=.returned (.tuple #[.int .i64 (kW b s.data.toList),.bool (qa b s.data.toList)])∧Below w.heap.size w w':=by
 by_cases h:2≤b∧b≤36
 ·obtain⟨k,rfl⟩ :∃k:Nat,b=k:=⟨b.toNat,by omega⟩
  exact Lv s k w hs (by omega) (by omega)
 ·exact Hi s b w h
def Mx (w:World):Prop:=∃m:Int,w.cell? ⟨1,0,none⟩=some (.int .i64 m)
theorem Lw (s:ByteArray) (w:World):Calls Tryz.prog 131 #[.string s,.string ⟨#[10]⟩] w fun e w'=>e=.returned (.int .i64 (nl s.data.toList:Int))∧w=w' :=
 (Tryz.strings_Count_one s 10 w).mono fun _ _ ⟨a,b⟩=>⟨a,b.symm⟩
theorem Ax (f p:ByteArray) (w:World) (hs:f.size≤1000000) (h:Mx w):Calls Tryz.prog 133 #[.string f,.string p] w fun e w' =>
  e=.returned (.tuple #[.string ⟨(Lib.cut f.data.toList p.data.toList).1.toArray⟩,.string ⟨(Lib.cut f.data.toList p.data.toList).2.1.toArray⟩,.bool (Lib.cut f.data.toList p.data.toList).2.2])∧∃n,w'=w.drewN n:=by
 obtain⟨m,hm⟩:=h;exact Tryz.strings_Cut f p m w (by omega) hm
theorem rl (t p:ByteArray) (w:World):Calls Tryz.prog 174 #[.string t,.string p] w fun e w'=>e=.returned (.tuple #[.string ⟨(Lib.trimPrefix t.data.toList p.data.toList).toArray⟩,.bool (Lib.hasPrefix t.data.toList p.data.toList)])∧w=w' :=
 (Tryz.strings_CutPrefix t p w).mono fun _ _ ⟨a,b⟩=>⟨a,b.symm⟩
theorem Lx (s:ByteArray) (w:World):Calls Tryz.prog 175 #[.string s,.string ⟨#[61]⟩] w fun e w'=>e=.returned (.string ⟨(Lib.trimLeftB s.data.toList 61).toArray⟩)∧w=w' :=
 (Tryz.strings_TrimLeft_one s 61 (by decide) w).mono fun _ _ ⟨a,b⟩=>⟨a,b.symm⟩
theorem Hj (s:ByteArray) (w:World) (hs:s.size≤1000000) (h:Mx w):Calls Tryz.prog 139 #[.string s,.string ⟨#[91]⟩,.string ⟨#[93]⟩] w fun e w'=>e=.returned (.string ⟨(clo s.data.toList).toArray⟩)∧Below w.heap.size w w':=by
 obtain⟨m,hm⟩:=h;have h1:=Lib.countB_le (⟨#[91]⟩:ByteArray) (by decide) s.size s (ai _)
 have h2:(⟨#[93]⟩:ByteArray).size=1:=rfl;exact Tryz.strings_ReplaceAll s ⟨#[91]⟩ ⟨#[93]⟩ m w (by omega) hm (by decide) (by rw[h2];omega)
theorem Ly (t:ByteArray) (w:World):Calls Tryz.prog 140 #[.string t,.string ⟨#[10]⟩] w fun e w'=>e=.returned (.string ⟨(Lib.trimPrefix t.data.toList [10]).toArray⟩)∧w=w' :=
 (Tryz.strings_TrimPrefix t ⟨#[10]⟩ w).mono fun _ _ ⟨a,b⟩=>⟨a,b.symm⟩
theorem eU (s:ByteArray) (c:UInt8) (w:World):Calls Tryz.prog 171 #[.string s,.int .u8 (c.toNat:Int)] w fun e w'=>e=.returned (.int .i64 (Lib.indexByte s.data.toList c))∧w=w' :=
 (Tryz.strings_IndexByte s (c.toNat:Int) w).mono fun _ _ ⟨a,b⟩=>⟨by rw[a];congr 3;simp,b.symm⟩
def Kp (b:Nat) (w w':World):Prop:=w.grownBy w' (some b)
theorem Kp.refl (b:Nat) (w:World):Kp b w w:=World.grownBy.refl _ _
theorem Kp.trans {b:Nat} {u v w:World} (h:Kp b u v) (k:Kp b v w):Kp b u w:=World.grownBy.trans h k
theorem Kp.draws {b:Nat} {w w':World} (h:Kp b w w') (n:Nat):Kp b w (w'.drewN n):=⟨h.os,h.tape,h.output,h.size,h.block⟩
theorem Kp.ae {b:Nat} {w w':World} (h:Below w.heap.size w w'):Kp b w w':=⟨h.os,h.tape,h.output,h.size,fun k hk _=>h.block k hk⟩
theorem Kp.set {b:Nat} {w w':World} (h:Kp b w w') (o:Nat) (v:Value):Kp b w (w'.setCell ⟨b,o,none⟩ v) :=
 h.trans ⟨rfl,rfl,rfl,by simp[World.setCell],fun k _ hk=>Below.heap_setCell _ _ _ k (fun e=>hk (by rw[e]))⟩
theorem Kp.alloc {b:Nat} {w w':World} (h:Kp b w w') (o:Obj):Kp b w (w'.alloc o):=h.trans (World.grownBy_alloc _ _ _)
structure Rd (W:World) (b:Nat) (s:ByteArray) (k:Nat):Prop where
 blk:W.heap[b]? = some (.cells #[.string s,.int .i64 (k:Int),.int .i64 ((1+nl (s.data.toList.take k):Nat):Int)] 110 (0,0))
 le:k≤s.size
 top:s.size≤100000
 far:4≤b
 mx:Mx W
theorem Rd.lt {W:World} {b:Nat} {s:ByteArray} {k:Nat} (h:Rd W b s k):b<W.heap.size:=(aJ.1 h.blk).1
theorem Rd.c0 {W:World} {b:Nat} {s:ByteArray} {k:Nat} (h:Rd W b s k):W.cell? ⟨b,0,none⟩=some (.string s):=by simp[World.cell?,h.blk]
theorem Rd.c1 {W:World} {b:Nat} {s:ByteArray} {k:Nat} (h:Rd W b s k):W.cell? ⟨b,1,none⟩=some (.int .i64 (k:Int)):=by simp[World.cell?,h.blk]
theorem Rd.c2 {W:World} {b:Nat} {s:ByteArray} {k:Nat} (h:Rd W b s k):W.cell? ⟨b,2,none⟩=some (.int .i64 ((1+nl (s.data.toList.take k):Nat):Int)):=by simp[World.cell?,h.blk]
theorem Rd.f1 {W:World} {b:Nat} {s:ByteArray} {k:Nat} (h:Rd W b s k):W.frozen? ⟨b,1,none⟩=false:=by simp[World.frozen?,h.blk]
theorem Rd.f2 {W:World} {b:Nat} {s:ByteArray} {k:Nat} (h:Rd W b s k):W.frozen? ⟨b,2,none⟩=false:=by simp[World.frozen?,h.blk]
theorem Mx.kp {b:Nat} {w w':World} (h:Mx w) (hb:4≤b) (hk:Kp b w w'):Mx w':=by
 obtain⟨m,hm⟩:=h;exact⟨m,World.grownBy.cell hk hm (by simp;omega)⟩
theorem Mx.below {w w':World} (h:Mx w) (hb:Below w.heap.size w w'):Mx w':=by
 obtain⟨m,hm⟩:=h;exact⟨m,(hb.cell (p:=⟨1,0,none⟩) (World.block_lt_of_cell? w _ hm)).trans hm⟩
theorem Rd.below {W W':World} {b:Nat} {s:ByteArray} {k:Nat} (h:Rd W b s k) (hb:Below W.heap.size W W'):Rd W' b s k :=
 ⟨(hb.block b h.lt).trans h.blk,h.le,h.top,h.far,h.mx.below hb⟩
theorem Rd.draws {W:World} {b:Nat} {s:ByteArray} {k:Nat} (h:Rd W b s k) (n:Nat):Rd (W.drewN n) b s k:=⟨h.blk,h.le,h.top,h.far,h.mx⟩
theorem Rd.alloc {W:World} {b:Nat} {s:ByteArray} {k:Nat} (h:Rd W b s k) (o:Obj):Rd (W.alloc o) b s k:=h.below ((Below.refl _ _).alloc (ai _) _)
theorem aA (b:Nat) (s:ByteArray) (k:Nat) (w:World) (h:Rd w b s k) :
  Calls Tryz.prog 69 #[.pointer (some ⟨b,0,none⟩)] w fun e w'=>e=.returned (.string (s.extract k s.size))∧Rd w' b s k∧Kp b w w':=by
 have HR:=aa h;have c0:=h.c0;have c1:=h.c1;have hle:=h.le;have cb:=h.top;clear h;go_enter Tryz.func69,Tryz.ntmps69
 go_wp2
 go_quiet (fail)
 go_wp2
 go_ret
 exact⟨rfl,HR.out.draws _,(Kp.refl _ _).draws _⟩
theorem yF (s:ByteArray) (k:Nat):(s.extract k s.size).data.toList=s.data.toList.drop k:=by
 rw[KI];simp only[Array.toList_extract,List.extract_eq_take_drop];exact tR (by rw[j7];exact ai _)
theorem lU (s:ByteArray) (k c:Nat):(s.extract k (k+c)).data.toList=(s.data.toList.drop k).take c:=by
 rw[KI];simp
theorem Lz (s:ByteArray) (k c:Nat):1+nl (s.data.toList.take k)+nl (s.extract k (k+c)).data.toList=1+nl (s.data.toList.take (k+c)):=by
 rw[lU,List.take_add,ui];omega
theorem yG {W:World} {b:Nat} {a0 a1 a2:Value} {t:TypeId} (h:W.heap[b]? = some (.cells #[a0,a1,a2] t (0,0))) (v:Value) :
  (W.setCell ⟨b,1,none⟩ v).heap[b]? = some (.cells #[a0,v,a2] t (0,0))∧(W.setCell ⟨b,2,none⟩ v).heap[b]? = some (.cells #[a0,a1,v] t (0,0)):=by
 obtain⟨hlt,hk⟩:=aJ.1 h;constructor
 ·show(W.heap.modify b _)[b]? = _
  rw[wF (by rw[zT];exact hlt),zN,hk]
  rfl
 ·show(W.heap.modify b _)[b]? = _
  rw[wF (by rw[zT];exact hlt),zN,hk]
  rfl
theorem Kp.drew {b:Nat} {w w':World} (h:Kp b w w'):Kp b w w'.drew:=⟨h.os,h.tape,h.output,h.size,h.block⟩
theorem Rd.moved {w:World} {b:Nat} {s:ByteArray} {k:Nat} (h:Rd w b s k) (c:Nat) (hc:k+c≤s.size) (nq:Nat) (x y:Int) (hx:x=((k+c:Nat):Int)) (hy:y=((1+nl (s.data.toList.take (k+c)):Nat):Int)) :
  Rd (((w.drewN nq).setCell ⟨b,1,none⟩ (.int .i64 x)).setCell ⟨b,2,none⟩ (.int .i64 y)).drew b s (k+c):=by
 have h0:(w.drewN nq).heap[b]? = some (.cells #[.string s,.int .i64 (k:Int),.int .i64 ((1+nl (s.data.toList.take k):Nat):Int)] 110 (0,0)):=h.blk;have h2:=(yG (yG h0 (.int .i64 x)).1 (.int .i64 y)).2;refine⟨?_,hc,h.top,h.far,?_⟩
 ·rw[hx,hy] at h2 ⊢
  exact h2
 ·exact h.mx.kp h.far ((((Kp.refl b w).draws nq).set 1 _).set 2 _).drew
theorem LB (w:World) (b nq:Nat) (x y:Value):Kp b w (((w.drewN nq).setCell ⟨b,1,none⟩ x).setCell ⟨b,2,none⟩ y).drew:=((((Kp.refl b w).draws nq).set 1 _).set 2 _).drew
theorem bq (b:Nat) (s:ByteArray) (k c:Nat) (w:World) (h:Rd w b s k) (hc:k+c≤s.size) :
  Calls Tryz.prog 67 #[.pointer (some ⟨b,0,none⟩),.int .i64 (c:Int)] w fun e w'=>e=.returned (.string (s.extract k (k+c)))∧Rd w' b s (k+c)∧Kp b w w':=by
 have HR:=aa h;have c0:=h.c0;have c1:=h.c1;have hle:=h.le;have cb:=h.top;clear h;go_enter Tryz.func67,Tryz.ntmps67
 go_wp2
 have w1:IntKind.i64.wrap ((k:Int)+(c:Int))=(k:Int)+(c:Int):=IntWalk.i64_in _ (by omega)
 go_quiet (fail)
 clear w1;have f1:=HR.out.f1;go_wp2_with fail
 have c2:=HR.out.c2;have f2:=HR.out.f2;obtain⟨n,hn⟩ :∃n:Nat,n=nl (s.data.toList.take k):=⟨_,rfl⟩;obtain⟨m,hm⟩ :∃m:Nat,m=nl (s.extract k (k+c)).data.toList:=⟨_,rfl⟩;rw[←hn] at c2;have HC:=aa (fun W=>hm▸Lw (s.extract k (k+c)) W)
 have tz:n≤100000:=by
  have:=VJ (s.data.toList.take k);rw[my] at this;omega
 have hm1:m≤100000:=by
  have:=VJ (s.extract k (k+c)).data.toList;rw[lU,my] at this;rw[lU] at hm;omega
 have HN:=aa hn;have HM:=aa hm;clear hn hm;have w2:IntKind.i64.wrap (((1+n:Nat):Int)+(m:Int))=((1+n+m:Nat):Int):=by rw[IntWalk.i64_in _ (by omega)];omega
 go_region_with ((go_at_call 131;refine(HC.out _).mono ?_;rintro e w' ⟨rfl,rfl⟩))
 all_goals go_wp2
 all_goals go_ret
 all_goals exact⟨rfl,HR.out.moved c hc _ _ _ (by omega) (by rw[IntWalk.i64_in _ (by omega),←Lz,←HN.out,←HM.out];omega),LB _ _ _ _ _⟩
theorem iN {a b:Bool} (h:a=b):Ending.returned (.bool a)=.returned (.bool b):=by rw[h]
theorem Ay (c:UInt8) (r:Bool) (w:World) (h:oX c=r):Calls Tryz.prog 70 #[.int .u8 (c.toNat:Int)] w fun e w'=>e=.returned (.bool r)∧w=w':=by
 subst h;unfold oX;have hc:=c.toNat_lt;generalize c.toNat=n at *;go_enter Tryz.func70,Tryz.ntmps70
 go_wp2
 all_goals go_ret
 all_goals exact⟨iN (by unfold yt;rw[mB];simp;omega),rfl⟩
theorem il (c:UInt8) (r:Bool) (w:World) (h:uh c=r):Calls Tryz.prog 73 #[.int .u8 (c.toNat:Int)] w fun e w'=>e=.returned (.bool r)∧w=w':=by
 subst h;unfold uh;have hc:=c.toNat_lt;generalize c.toNat=n at *;go_enter Tryz.func73,Tryz.ntmps73
 go_wp2
 all_goals go_ret
 all_goals exact⟨iN (by rw[mB];simp;omega),rfl⟩
theorem fL (c:UInt8) (r:Bool) (w:World) (h:gr c=r):Calls Tryz.prog 75 #[.int .u8 (c.toNat:Int)] w fun e w'=>e=.returned (.bool r)∧w=w':=by
 subst h;unfold gr;have hc:=c.toNat_lt;generalize c.toNat=n at *;go_enter Tryz.func75,Tryz.ntmps75
 go_wp2
 all_goals go_ret
 all_goals exact⟨iN (by rw[mB];simp;omega),rfl⟩
theorem ur (c:UInt8) (r:Bool) (w:World) (h:E3 c=r):Calls Tryz.prog 78 #[.int .u8 (c.toNat:Int)] w fun e w'=>e=.returned (.bool r)∧w=w':=by
 subst h;unfold E3;have hc:=c.toNat_lt;generalize c.toNat=n at *;go_enter Tryz.func78,Tryz.ntmps78
 go_wp2
 all_goals go_ret
 all_goals exact⟨iN (by rw[mB];simp;omega),rfl⟩
theorem tA (c:UInt8) (r:Bool) (w:World) (h:iM c=r):Calls Tryz.prog 134 #[.int .u8 (c.toNat:Int)] w fun e w'=>e=.returned (.bool r)∧w=w':=by
 unfold iM at h;cases e1:uh c<;>cases e2:gr c<;>rw[e1,e2] at h<;>subst h <;>
  (have L1:=aa (fun W=>il c _ W e1)
   have L2:=aa (fun W=>fL c _ W e2)
   clear e1 e2;go_enter Tryz.func134,Tryz.ntmps134
   go_wp2_with (first
    | (go_at_call 73;refine(L1.out _).mono ?_;rintro e w' ⟨rfl,rfl⟩)
    | (go_at_call 75;refine(L2.out _).mono ?_;rintro e w' ⟨rfl,rfl⟩))
   go_ret
   exact⟨rfl,rfl⟩)
theorem wX (c:UInt8) (r:Bool) (w:World) (h:pt c=r):Calls Tryz.prog 77 #[.int .u8 (c.toNat:Int)] w fun e w'=>e=.returned (.bool r)∧w=w':=by
 unfold pt at h;cases e1:iM c<;>rw[e1] at h
 ·have L1:=aa (fun W=>tA c _ W e1)
  clear e1;subst h;go_enter Tryz.func77,Tryz.ntmps77
  go_wp2_with (go_at_call 134;refine(L1.out _).mono ?_;rintro e w' ⟨rfl,rfl⟩)
  go_ret
  exact⟨iN (by rw[mB];simp;omega),rfl⟩
 ·have L1:=aa (fun W=>tA c _ W e1)
  clear e1;subst h;go_enter Tryz.func77,Tryz.ntmps77
  go_wp2_with (go_at_call 134;refine(L1.out _).mono ?_;rintro e w' ⟨rfl,rfl⟩)
  go_ret
  exact⟨rfl,rfl⟩
theorem LC (c:UInt8) (r:Bool) (w:World) (h:zB c=r):Calls Tryz.prog 173 #[.int .u8 (c.toNat:Int)] w fun e w'=>e=.returned (.bool r)∧w=w':=by
 unfold zB at h;cases e1:gr c<;>rw[e1] at h
 ·have L1:=aa (fun W=>fL c _ W e1)
  clear e1;subst h;have hc:=c.toNat_lt;generalize c.toNat=n at *;go_enter Tryz.func173,Tryz.ntmps173
  go_wp2_with (go_at_call 75;refine(L1.out _).mono ?_;rintro e w' ⟨rfl,rfl⟩)
  all_goals go_ret
  all_goals exact⟨iN (by rw[mB];simp;omega),rfl⟩
 ·have L1:=aa (fun W=>fL c _ W e1)
  clear e1;subst h;go_enter Tryz.func173,Tryz.ntmps173
  go_wp2_with (go_at_call 75;refine(L1.out _).mono ?_;rintro e w' ⟨rfl,rfl⟩)
  go_ret
  exact⟨rfl,rfl⟩
def aR (s:ByteArray) (k:Nat):List UInt8:=s.data.toList.drop k
theorem cV (s:ByteArray) (k:Nat):(s.extract k s.size).data.toList=aR s k:=yF s k
theorem fR (s:ByteArray) (k:Nat):(aR s k).length=s.size-k:=by unfold aR;rw[j7,←Lib.size_eq]
theorem eV (s:ByteArray) (k c:Nat):(aR s k).drop c=aR s (k+c):=by unfold aR;rw[List.drop_drop]
theorem eW (s:ByteArray) (k c:Nat):(s.extract k (k+c)).data.toList=(aR s k).take c:=lU s k c
theorem aD (s:ByteArray) (k:Nat) (h:k≤s.size):(s.extract k s.size).size=s.size-k:=by rw[tU];omega
theorem yH (l:List UInt8):(⟨l.toArray⟩:ByteArray).data.toList=l:=rfl
theorem E8 (l:List UInt8):(⟨l.toArray⟩:ByteArray).size=l.length:=by show l.toArray.size=_;simp
theorem Sb {s:ByteArray} {l:List UInt8} (h:s.data.toList=l):s=⟨l.toArray⟩:=by subst h;rfl
theorem uu {a b:Int} (h:a=b):Ending.returned (.int .i64 a)=.returned (.int .i64 b):=by rw[h]
theorem sD (s:ByteArray) (w:World) (hs:s.size≤100000):Calls Tryz.prog 138 #[.string s] w fun e w'=>e=.returned (.int .i64 (opn s.data.toList:Int))∧w=w':=by
 obtain⟨n,hn⟩ :∃n:Nat,n=opn s.data.toList:=⟨_,rfl⟩;rw[←hn];unfold opn at hn;obtain⟨t1,ht1⟩ :∃t:ByteArray,t=⟨(Lib.trimPrefix s.data.toList [91]).toArray⟩:=⟨_,rfl⟩;cases e1:Lib.hasPrefix s.data.toList [91]
 ·have C1:=aa (fun W=>rl s ⟨#[91]⟩ W)
  rw[show(⟨#[91]⟩:ByteArray).data.toList=[91] from rfl,e1,←ht1] at C1
  rw[e1] at hn;have HN:=aa hn;clear hn e1 ht1;go_enter Tryz.func138,Tryz.ntmps138
  go_wp2_with (go_at_call 174;refine(C1.out _).mono ?_;rintro e w' ⟨rfl,rfl⟩)
  go_ret
  exact⟨uu (by rw[HN.out];rfl),rfl⟩
 ·have C1:=aa (fun W=>rl s ⟨#[91]⟩ W)
  rw[show(⟨#[91]⟩:ByteArray).data.toList=[91] from rfl,e1,←ht1] at C1
  have Sc:t1.data.toList=s.data.toList.drop 1:=by rw[ht1];show Lib.trimPrefix s.data.toList [91]=_;unfold Lib.trimPrefix;rw[ak e1];rfl
  rw[e1,ak rfl,←Sc] at hn;obtain⟨t2,ht2⟩ :∃t:ByteArray,t=⟨(Lib.trimLeftB t1.data.toList 61).toArray⟩:=⟨_,rfl⟩;have C2:=aa (fun W=>Lx t1 W)
  rw[←ht2] at C2;rw[show Lib.trimLeftB t1.data.toList 61=t2.data.toList by rw[ht2]] at hn
  obtain⟨t3,ht3⟩ :∃t:ByteArray,t=⟨(Lib.trimPrefix t2.data.toList [91]).toArray⟩:=⟨_,rfl⟩;have C3:=aa (fun W=>rl t2 ⟨#[91]⟩ W)
  cases e2:Lib.hasPrefix t2.data.toList [91]
  ·rw[show(⟨#[91]⟩:ByteArray).data.toList=[91] from rfl,e2,←ht3] at C3
   rw[e2] at hn;have HN:=aa hn;clear hn e1 e2 ht1 ht2 ht3 Sc;go_enter Tryz.func138,Tryz.ntmps138
   go_wp2_with fail
   refine(C1.out _).mono ?_;rintro e w' ⟨rfl,rfl⟩;go_wp2_with fail
   refine(C2.out _).mono ?_;rintro e w' ⟨rfl,rfl⟩;go_wp2_with fail
   refine(C3.out _).mono ?_;rintro e w' ⟨rfl,rfl⟩;go_wp2_with fail
   go_ret
   exact⟨uu (by rw[HN.out];rfl),rfl⟩
  ·rw[show(⟨#[91]⟩:ByteArray).data.toList=[91] from rfl,e2,←ht3] at C3
   have Xy:t3.data.toList=t2.data.toList.drop 1:=by rw[ht3];show Lib.trimPrefix t2.data.toList [91]=_;unfold Lib.trimPrefix;rw[ak e2];rfl
   rw[e2,ak rfl,←Xy,←Lib.size_eq,←Lib.size_eq] at hn;have hle:t3.size≤s.size:=by
    rw[Lib.size_eq,Xy,ht2,yH,Sc,Lib.size_eq s,j7];have h1:=(EB (fun x=>x == 61) (l:=s.data.toList.drop 1)).length_le
    rw[j7] at h1;unfold Lib.trimLeftB;omega
   have HN:=aa hn;clear hn e1 e2 ht1 ht2 ht3 Sc Xy;go_enter Tryz.func138,Tryz.ntmps138
   go_wp2_with fail
   refine(C1.out _).mono ?_;rintro e w' ⟨rfl,rfl⟩;go_wp2_with fail
   refine(C2.out _).mono ?_;rintro e w' ⟨rfl,rfl⟩;go_wp2_with fail
   refine(C3.out _).mono ?_;rintro e w' ⟨rfl,rfl⟩;go_wp2_with fail
   go_ret
   exact⟨uu (by rw[HN.out];omega),rfl⟩
theorem oh (s:ByteArray) (r:Bool) (w:World) (hs:s.size≤100000) (h:decide (0<opn s.data.toList)=r):Calls Tryz.prog 80 #[.string s] w fun e w'=>e=.returned (.bool r)∧w=w':=by
 have C:=aa (fun W=>sD s W hs)
 generalize opn s.data.toList=n at *;go_enter Tryz.func80,Tryz.ntmps80
 go_wp2_with (go_at_call 138;refine(C.out _).mono ?_;rintro e w' ⟨rfl,rfl⟩)
 go_ret
 exact⟨rfl,rfl⟩
theorem LD {l sep:List UInt8} {t r:List UInt8} (h:Lib.cut l sep=(t,r,true)):t.length+sep.length≤l.length∧r=l.drop (t.length+sep.length):=by
 unfold Lib.cut at h;by_cases h0:0≤Lib.index l sep
 ·rw[ak h0] at h
  injection h with h1 h2;injection h2 with h2 _;have hr:=Lib.index_room l sep h0;have hlen:t.length=(Lib.index l sep).toNat:=by rw[←h1,my];omega
  rw[hlen];exact⟨by omega,h2.symm⟩
 ·rw[af h0] at h
  injection h with _ h2;injection h2 with _ h3;cases h3
def jF (b:Nat) (s:ByteArray) (k:Nat) (w:World) (o:Option (List UInt8×List UInt8)) (e:Ending) (w':World):Prop :=
 Kp b w w'∧match o with
  | some (t,r)=>∃k',e=.returned (.tuple #[.string ⟨t.toArray⟩,.bool true])∧Rd w' b s k'∧aR s k'=r∧k<k'
  | none=>e=.returned (.tuple #[.string ⟨#[]⟩,.bool false])
theorem jF.kg {b:Nat} {s:ByteArray} {k:Nat} {w w':World} {t r:List UInt8} {e:Ending} (h:jF b s k w (some (t,r)) e w') :∃k',e=.returned (.tuple #[.string ⟨t.toArray⟩,.bool true])∧Rd w' b s k'∧aR s k'=r∧k<k'∧Kp b w w':=by
 obtain⟨h0,k',h1,h2,h3,h4⟩:=h;exact⟨k',h1,h2,h3,h4,h0⟩
theorem jF.om {b:Nat} {s:ByteArray} {k:Nat} {w w':World} {e:Ending} (h:jF b s k w none e w'):e=.returned (.tuple #[.string ⟨#[]⟩,.bool false])∧Kp b w w':=⟨h.2,h.1⟩
theorem oZ (b:Nat) (s:ByteArray) (k:Nat) (w:World) (h:Rd w b s k) (hp:0<opn (aR s k)):Calls Tryz.prog 81 #[.pointer (some ⟨b,0,none⟩)] w (jF b s k w (wU (aR s k))):=by
 have cb:=h.top;have hle:=h.le;have HR:=aa h;clear h;obtain⟨n,hn⟩ :∃n:Nat,n=opn (aR s k):=⟨_,rfl⟩;have jG:=CT (aR s k);rw[←hn,fR] at jG;rw[←hn] at hp;have C1:=aa (fun W=>sD (s.extract k s.size) W (by rw[aD s k hle];omega))
 rw[cV,←hn] at C1;obtain⟨cl,CJ⟩ :∃cl:ByteArray,cl=⟨(clo (s.extract k (k+n)).data.toList).toArray⟩:=⟨_,rfl⟩;have C2:=aa (fun W hW=>Hj (s.extract k (k+n)) W (by rw[tU];omega) hW)
 rw[←CJ] at C2;have hb:wU (aR s k)=if (Lib.cut (aR s (k+n)) cl.data.toList).2.2 then some (Lib.trimPrefix (Lib.cut (aR s (k+n)) cl.data.toList).1 [10],(Lib.cut (aR s (k+n)) cl.data.toList).2.1) else none:=by
  unfold wU;rw[←hn,CJ,yH,eW,eV]
 have C3:=aa (fun W hW=>Ax (s.extract (k+n) s.size) cl W (by rw[aD s _ (by omega)];omega) hW)
 rw[cV] at C3;obtain⟨a,r,o,hq⟩ :∃a r o,Lib.cut (aR s (k+n)) cl.data.toList=(a,r,o):=⟨_,_,_,rfl⟩;rw[hq] at C3 hb;obtain⟨A,hA⟩ :∃A:ByteArray,A=⟨a.toArray⟩:=⟨_,rfl⟩;obtain⟨R,hR⟩ :∃R:ByteArray,R=⟨r.toArray⟩:=⟨_,rfl⟩;simp only[←hA,←hR] at C3;cases o
 ·have HB:=aa hb
  clear hn CJ hq hA hR hb;go_enter Tryz.func81,Tryz.ntmps81
  go_wp2_with fail
  refine(aA _ _ _ _ HR.out).mono ?_;rintro e w1 ⟨rfl,r1,k1⟩;have R1:=aa r1;have K1:=aa k1;clear r1 k1;go_wp2_with fail
  refine(C1.out _).mono ?_;rintro e Cz ⟨rfl,rfl⟩;go_wp2_with fail
  refine(bq _ _ _ _ _ R1.out (by omega)).mono ?_;rintro e w2 ⟨rfl,r2,k2⟩
  have R2:=aa r2;have K2:=aa (K1.out.trans k2);clear r2 k2;go_wp2_with fail
  refine(C2.out _ R2.out.mx).mono ?_;rintro e w3 ⟨rfl,b3⟩;have R3:=aa (R2.out.below b3);have K3:=aa (K2.out.trans (Kp.ae b3));clear b3;go_wp2_with fail
  refine(aA _ _ _ _ R3.out).mono ?_;rintro e w4 ⟨rfl,r4,k4⟩;have R4:=aa r4;have K4:=aa (K3.out.trans k4);clear r4 k4;go_wp2_with fail
  refine(C3.out _ R4.out.mx).mono ?_;rintro e w5 ⟨rfl,n5,rfl⟩;go_wp2_with fail
  go_ret2
  refine⟨K4.out.draws _,?_⟩;rw[HB.out];rfl
 ·obtain⟨hroom,hr⟩:=LD hq
  rw[fR,←Lib.size_eq] at hroom;rw[eV,←Lib.size_eq] at hr;have hAs:A.size=a.length:=by rw[hA,E8]
  have C4:=aa (fun W=>Ly A W)
  rw[hA,yH,←hA] at C4;obtain⟨T,hT⟩ :∃T:ByteArray,T=⟨(Lib.trimPrefix a [10]).toArray⟩:=⟨_,rfl⟩;rw[←hT] at C4;rw[←hAs] at hroom hr;have HB:=aa hb;have HE:=aa hr;have HT:=aa hT;clear hn CJ hq hA hR hb hr hAs hT;go_enter Tryz.func81,Tryz.ntmps81
  go_wp2_with fail
  refine(aA _ _ _ _ HR.out).mono ?_;rintro e w1 ⟨rfl,r1,k1⟩;have R1:=aa r1;have K1:=aa k1;clear r1 k1;go_wp2_with fail
  refine(C1.out _).mono ?_;rintro e Cz ⟨rfl,rfl⟩;go_wp2_with fail
  refine(bq _ _ _ _ _ R1.out (by omega)).mono ?_;rintro e w2 ⟨rfl,r2,k2⟩
  have R2:=aa r2;have K2:=aa (K1.out.trans k2);clear r2 k2;go_wp2_with fail
  refine(C2.out _ R2.out.mx).mono ?_;rintro e w3 ⟨rfl,b3⟩;have R3:=aa (R2.out.below b3);have K3:=aa (K2.out.trans (Kp.ae b3));clear b3;go_wp2_with fail
  refine(aA _ _ _ _ R3.out).mono ?_;rintro e w4 ⟨rfl,r4,k4⟩;have R4:=aa r4;have K4:=aa (K3.out.trans k4);clear r4 k4;go_wp2_with fail
  refine(C3.out _ R4.out.mx).mono ?_;rintro e w5 ⟨rfl,n5,rfl⟩;have R5:=aa (R4.out.draws n5);have K5:=aa (K4.out.draws n5);generalize w4.drewN n5=w5 at *;have E9:=fun W h=>bq b s (k+n) (A.size+cl.size) W h (by omega)
  rw[show((A.size+cl.size:Nat):Int)=(A.size:Int)+(cl.size:Int) by omega] at E9
  have C6:=aa E9;clear E9;go_wp2_with fail
  refine(C6.out _ R5.out).mono ?_;rintro e w6 ⟨rfl,r6,k6⟩;have R6:=aa r6;have K6:=aa (K5.out.trans k6);clear r6 k6;go_wp2_with fail
  refine(C4.out _).mono ?_;rintro e w6' ⟨rfl,rfl⟩;go_wp2_with fail
  go_ret2
  refine⟨K6.out,?_⟩;rw[HB.out];exact⟨_,by rw[HT.out];rfl,R6.out,HE.out.symm,by omega⟩
theorem nr {p:UInt8→Bool} {l:List UInt8} {k:Nat} {c:UInt8} (h:k≤runN p l) (hc:l[k]? = some c) (hp:p c=true):k+1≤runN p l:=by
 induction l generalizing k with
 | nil=>simp at hc
 | cons a t ih =>
  unfold runN at *;cases k with
  | zero =>
   simp at hc;subst hc;simp[hp]
  | succ k =>
   cases e:p a
   ·simp[e] at h
   ·simp[e] at h ⊢
    exact ih h (by simpa using hc)
theorem nw {p:UInt8→Bool} {l:List UInt8} {k:Nat} {c:UInt8} (h:k≤runN p l) (hc:l[k]? = some c) (hp:p c=false):k=runN p l:=by
 induction l generalizing k with
 | nil=>simp at hc
 | cons a t ih =>
  unfold runN at *;cases k with
  | zero =>
   simp at hc;subst hc;simp[hp]
  | succ k =>
   cases e:p a
   ·simp[e] at h
   ·simp[e] at h ⊢
    exact ih h (by simpa using hc)
theorem iA {a b:Int} (h:a=b):Ending.returned (.int .i64 a)=.returned (.int .i64 b):=by rw[h]
theorem wY (s:ByteArray) (w:World) (hs:s.size≤100000):Calls Tryz.prog 68 #[.string s,.func (.func 70) #[] #[]] w fun e w'=>e=.returned (.int .i64 (runN oX s.data.toList:Int))∧w=w':=by
 have hle:runN oX s.data.toList≤s.size:=by
  have:=ik oX s.data.toList;rwa[←Lib.size_eq] at this
 obtain⟨m,hm⟩ :∃m:Nat,m=runN oX s.data.toList:=⟨_,rfl⟩;rw[←hm] at hle ⊢;have HM:=aa hm;clear hm;go_enter Tryz.func68,Tryz.ntmps68
 go_wp2_with fail
 go_loop [5] (fun i=>∃k:Nat,k≤m∧i=.int .i64 k) (fun i=>s.size-(intOf i).toNat)
 case atStart=>exact⟨0,bx _,rfl⟩
 case round =>
  obtain⟨k,hk,rfl⟩:=hrel;by_cases hlt:k<s.size
  ·have hg:s.data.toList[k]? = some s[k]:=bH (l:=s.data.toList) (i:=k) (by simpa using hlt)
   cases e:oX s[k]
   ·have kh:=nw (by rw[←HM.out];exact hk) hg e
    have HK:=aa (fun W=>Ay s[k] _ W e)
    clear hg e;have HS:=aa (kh.trans HM.out.symm);clear kh;go_wp2_with (go_at_call 70;refine(HK.out _).mono ?_;rintro e w' ⟨rfl,rfl⟩)
    go_ret
    exact⟨iA (by rw[HS.out]),rfl⟩
   ·have gw:=nr (by rw[←HM.out];exact hk) hg e
    have HK:=aa (fun W=>Ay s[k] _ W e)
    clear hg e;rw[←HM.out] at gw;go_wp2_with (go_at_call 70;refine(HK.out _).mono ?_;rintro e w' ⟨rfl,rfl⟩)
    go_round
    case rel=>exact⟨k+1,gw,by go_num⟩
    case measure=>simp[intOf];omega
  ·have yo:k=m:=by omega
   go_wp2_with fail
   go_ret
   exact⟨iA (by omega),rfl⟩
theorem LF (s:ByteArray) (w:World) (hs:s.size≤100000):Calls Tryz.prog 68 #[.string s,.func (.func 134) #[] #[]] w fun e w'=>e=.returned (.int .i64 (runN iM s.data.toList:Int))∧w=w':=by
 have hle:runN iM s.data.toList≤s.size:=by
  have:=ik iM s.data.toList;rwa[←Lib.size_eq] at this
 obtain⟨m,hm⟩ :∃m:Nat,m=runN iM s.data.toList:=⟨_,rfl⟩;rw[←hm] at hle ⊢;have HM:=aa hm;clear hm;go_enter Tryz.func68,Tryz.ntmps68
 go_wp2_with fail
 go_loop [5] (fun i=>∃k:Nat,k≤m∧i=.int .i64 k) (fun i=>s.size-(intOf i).toNat)
 case atStart=>exact⟨0,bx _,rfl⟩
 case round =>
  obtain⟨k,hk,rfl⟩:=hrel;by_cases hlt:k<s.size
  ·have hg:s.data.toList[k]? = some s[k]:=bH (l:=s.data.toList) (i:=k) (by simpa using hlt)
   cases e:iM s[k]
   ·have kh:=nw (by rw[←HM.out];exact hk) hg e
    have HK:=aa (fun W=>tA s[k] _ W e)
    clear hg e;have HS:=aa (kh.trans HM.out.symm);clear kh;go_wp2_with (go_at_call 134;refine(HK.out _).mono ?_;rintro e w' ⟨rfl,rfl⟩)
    go_ret
    exact⟨iA (by rw[HS.out]),rfl⟩
   ·have gw:=nr (by rw[←HM.out];exact hk) hg e
    have HK:=aa (fun W=>tA s[k] _ W e)
    clear hg e;rw[←HM.out] at gw;go_wp2_with (go_at_call 134;refine(HK.out _).mono ?_;rintro e w' ⟨rfl,rfl⟩)
    go_round
    case rel=>exact⟨k+1,gw,by go_num⟩
    case measure=>simp[intOf];omega
  ·have yo:k=m:=by omega
   go_wp2_with fail
   go_ret
   exact⟨iA (by omega),rfl⟩
theorem uw (s:ByteArray) (w:World) (hs:s.size≤100000):Calls Tryz.prog 68 #[.string s,.func (.func 77) #[] #[]] w fun e w'=>e=.returned (.int .i64 (runN pt s.data.toList:Int))∧w=w':=by
 have hle:runN pt s.data.toList≤s.size:=by
  have:=ik pt s.data.toList;rwa[←Lib.size_eq] at this
 obtain⟨m,hm⟩ :∃m:Nat,m=runN pt s.data.toList:=⟨_,rfl⟩;rw[←hm] at hle ⊢;have HM:=aa hm;clear hm;go_enter Tryz.func68,Tryz.ntmps68
 go_wp2_with fail
 go_loop [5] (fun i=>∃k:Nat,k≤m∧i=.int .i64 k) (fun i=>s.size-(intOf i).toNat)
 case atStart=>exact⟨0,bx _,rfl⟩
 case round =>
  obtain⟨k,hk,rfl⟩:=hrel;by_cases hlt:k<s.size
  ·have hg:s.data.toList[k]? = some s[k]:=bH (l:=s.data.toList) (i:=k) (by simpa using hlt)
   cases e:pt s[k]
   ·have kh:=nw (by rw[←HM.out];exact hk) hg e
    have HK:=aa (fun W=>wX s[k] _ W e)
    clear hg e;have HS:=aa (kh.trans HM.out.symm);clear kh;go_wp2_with (go_at_call 77;refine(HK.out _).mono ?_;rintro e w' ⟨rfl,rfl⟩)
    go_ret
    exact⟨iA (by rw[HS.out]),rfl⟩
   ·have gw:=nr (by rw[←HM.out];exact hk) hg e
    have HK:=aa (fun W=>wX s[k] _ W e)
    clear hg e;rw[←HM.out] at gw;go_wp2_with (go_at_call 77;refine(HK.out _).mono ?_;rintro e w' ⟨rfl,rfl⟩)
    go_round
    case rel=>exact⟨k+1,gw,by go_num⟩
    case measure=>simp[intOf];omega
  ·have yo:k=m:=by omega
   go_wp2_with fail
   go_ret
   exact⟨iA (by omega),rfl⟩
theorem Hk (s:ByteArray) (w:World) (hs:s.size≤100000):Calls Tryz.prog 68 #[.string s,.func (.func 75) #[] #[]] w fun e w'=>e=.returned (.int .i64 (runN gr s.data.toList:Int))∧w=w':=by
 have hle:runN gr s.data.toList≤s.size:=by
  have:=ik gr s.data.toList;rwa[←Lib.size_eq] at this
 obtain⟨m,hm⟩ :∃m:Nat,m=runN gr s.data.toList:=⟨_,rfl⟩;rw[←hm] at hle ⊢;have HM:=aa hm;clear hm;go_enter Tryz.func68,Tryz.ntmps68
 go_wp2_with fail
 go_loop [5] (fun i=>∃k:Nat,k≤m∧i=.int .i64 k) (fun i=>s.size-(intOf i).toNat)
 case atStart=>exact⟨0,bx _,rfl⟩
 case round =>
  obtain⟨k,hk,rfl⟩:=hrel;by_cases hlt:k<s.size
  ·have hg:s.data.toList[k]? = some s[k]:=bH (l:=s.data.toList) (i:=k) (by simpa using hlt)
   cases e:gr s[k]
   ·have kh:=nw (by rw[←HM.out];exact hk) hg e
    have HK:=aa (fun W=>fL s[k] _ W e)
    clear hg e;have HS:=aa (kh.trans HM.out.symm);clear kh;go_wp2_with (go_at_call 75;refine(HK.out _).mono ?_;rintro e w' ⟨rfl,rfl⟩)
    go_ret
    exact⟨iA (by rw[HS.out]),rfl⟩
   ·have gw:=nr (by rw[←HM.out];exact hk) hg e
    have HK:=aa (fun W=>fL s[k] _ W e)
    clear hg e;rw[←HM.out] at gw;go_wp2_with (go_at_call 75;refine(HK.out _).mono ?_;rintro e w' ⟨rfl,rfl⟩)
    go_round
    case rel=>exact⟨k+1,gw,by go_num⟩
    case measure=>simp[intOf];omega
  ·have yo:k=m:=by omega
   go_wp2_with fail
   go_ret
   exact⟨iA (by omega),rfl⟩
theorem Sd (s:ByteArray) (w:World) (hs:s.size≤100000):Calls Tryz.prog 68 #[.string s,.func (.func 173) #[] #[]] w fun e w'=>e=.returned (.int .i64 (runN zB s.data.toList:Int))∧w=w':=by
 have hle:runN zB s.data.toList≤s.size:=by
  have:=ik zB s.data.toList;rwa[←Lib.size_eq] at this
 obtain⟨m,hm⟩ :∃m:Nat,m=runN zB s.data.toList:=⟨_,rfl⟩;rw[←hm] at hle ⊢;have HM:=aa hm;clear hm;go_enter Tryz.func68,Tryz.ntmps68
 go_wp2_with fail
 go_loop [5] (fun i=>∃k:Nat,k≤m∧i=.int .i64 k) (fun i=>s.size-(intOf i).toNat)
 case atStart=>exact⟨0,bx _,rfl⟩
 case round =>
  obtain⟨k,hk,rfl⟩:=hrel;by_cases hlt:k<s.size
  ·have hg:s.data.toList[k]? = some s[k]:=bH (l:=s.data.toList) (i:=k) (by simpa using hlt)
   cases e:zB s[k]
   ·have kh:=nw (by rw[←HM.out];exact hk) hg e
    have HK:=aa (fun W=>LC s[k] _ W e)
    clear hg e;have HS:=aa (kh.trans HM.out.symm);clear kh;go_wp2_with (go_at_call 173;refine(HK.out _).mono ?_;rintro e w' ⟨rfl,rfl⟩)
    go_ret
    exact⟨iA (by rw[HS.out]),rfl⟩
   ·have gw:=nr (by rw[←HM.out];exact hk) hg e
    have HK:=aa (fun W=>LC s[k] _ W e)
    clear hg e;rw[←HM.out] at gw;go_wp2_with (go_at_call 173;refine(HK.out _).mono ?_;rintro e w' ⟨rfl,rfl⟩)
    go_round
    case rel=>exact⟨k+1,gw,by go_num⟩
    case measure=>simp[intOf];omega
  ·have yo:k=m:=by omega
   go_wp2_with fail
   go_ret
   exact⟨iA (by omega),rfl⟩
theorem ao {b:Nat} {w u v:World} (h:Hid (Kp b w u)) (k:Kp b u v):Hid (Kp b w v):=aa (h.out.trans k)
def nx (b:Nat) (s:ByteArray) (k:Nat) (w:World) (o:Option (List UInt8)) (e:Ending) (w':World):Prop :=
 Kp b w w'∧match o with
  | some r=>∃k',e=.returned (.bool true)∧Rd w' b s k'∧aR s k'=r∧k<k'
  | none=>e=.returned (.bool false)
theorem nx.kg {b:Nat} {s:ByteArray} {k:Nat} {w w':World} {r:List UInt8} {e:Ending} (h:nx b s k w (some r) e w') :∃k',e=.returned (.bool true)∧Rd w' b s k'∧aR s k'=r∧k<k'∧Kp b w w':=by
 obtain⟨h0,k',h1,h2,h3,h4⟩:=h;exact⟨k',h1,h2,h3,h4,h0⟩
theorem nx.om {b:Nat} {s:ByteArray} {k:Nat} {w w':World} {e:Ending} (h:nx b s k w none e w'):e=.returned (.bool false)∧Kp b w w':=⟨h.2,h.1⟩
theorem Az (b:Nat) (s:ByteArray) (k:Nat) (w:World) (h:Rd w b s k) (hk:k+2≤s.size):Calls Tryz.prog 72 #[.pointer (some ⟨b,0,none⟩)] w (nx b s k w (comm (aR s (k+2)))):=by
 have cb:=h.top;have HR:=aa h;clear h;have T1:=aa (fun W h=>bq b s k 2 W h hk)
 by_cases hp:0<opn (aR s (k+2))
 ·have B1:=aa (fun W=>oh (s.extract (k+2) s.size) true W (by rw[aD s _ hk];omega) (by rw[cV];exact bF hp))
  have K1:=aa (fun W h=>oZ b s (k+2) W h hp)
  have hc:comm (aR s (k+2))=(wU (aR s (k+2))).map (·.2):=by unfold comm;rw[ak hp]
  cases hb:wU (aR s (k+2)) with
  | none =>
   rw[hb] at hc;have HC:=aa hc;rw[hb] at K1;clear hb hc hp;go_enter Tryz.func72,Tryz.ntmps72
   go_wp2_with fail
   refine(T1.out _ HR.out).mono ?_;rintro e w1 ⟨rfl,r1,k1⟩;have R1:=aa r1;have KK1:=aa k1;clear r1 k1;go_wp2_with fail
   refine(aA _ _ _ _ R1.out).mono ?_;rintro e w2 ⟨rfl,r2,k2⟩;have R2:=aa r2;have KK2:=ao KK1 k2;clear r2 k2;go_wp2_with fail
   refine(B1.out _).mono ?_;rintro e LG ⟨rfl,rfl⟩;go_wp2_with fail
   refine(K1.out _ R2.out).mono ?_;intro e w3 AA;obtain⟨rfl,k3⟩:=AA.om;clear AA;have KK3:=ao KK2 k3;clear k3;go_wp2_with fail
   go_ret
   refine⟨KK3.out,?_⟩;rw[HC.out];rfl
  | some z =>
   obtain⟨t,r⟩:=z;rw[hb] at hc;have HC:=aa hc;rw[hb] at K1;clear hb hc hp;go_enter Tryz.func72,Tryz.ntmps72
   go_wp2_with fail
   refine(T1.out _ HR.out).mono ?_;rintro e w1 ⟨rfl,r1,k1⟩;have R1:=aa r1;have KK1:=aa k1;clear r1 k1;go_wp2_with fail
   refine(aA _ _ _ _ R1.out).mono ?_;rintro e w2 ⟨rfl,r2,k2⟩;have R2:=aa r2;have KK2:=ao KK1 k2;clear r2 k2;go_wp2_with fail
   refine(B1.out _).mono ?_;rintro e LG ⟨rfl,rfl⟩;go_wp2_with fail
   refine(K1.out _ R2.out).mono ?_;intro e w3 AA;obtain⟨k',rfl,r3,hr3,hlt,k3⟩:=AA.kg;clear AA;have R3:=aa r3;have KK3:=ao KK2 k3;have HE:=aa hr3;clear r3 k3 hr3;go_wp2_with fail
   go_ret
   refine⟨KK3.out,?_⟩;rw[HC.out];exact⟨k',rfl,R3.out,HE.out,by omega⟩
 ·have B1:=aa (fun W=>oh (s.extract (k+2) s.size) false W (by rw[aD s _ hk];omega) (by rw[cV];exact bN hp))
  obtain⟨A,hA⟩ :∃A:ByteArray,A=⟨(Lib.cut (aR s (k+2)) [10]).1.toArray⟩:=⟨_,rfl⟩;obtain⟨R,hR⟩ :∃R:ByteArray,R=⟨(Lib.cut (aR s (k+2)) [10]).2.1.toArray⟩:=⟨_,rfl⟩;obtain⟨o,ho⟩ :∃o:Bool,o=(Lib.cut (aR s (k+2)) [10]).2.2:=⟨_,rfl⟩;have C1:=aa (fun W hW=>Ax (s.extract (k+2) s.size) ⟨#[10]⟩ W (by rw[aD s _ hk];omega) hW)
  rw[cV,show(⟨#[10]⟩:ByteArray).data.toList=[10] from rfl,←hA,←hR,←ho] at C1
  have hAs:A.size=(Lib.cut (aR s (k+2)) [10]).1.length:=by rw[hA,E8]
  have hc:comm (aR s (k+2))=some (aR s (k+2+A.size)):=by unfold comm;rw[af hp,←hAs,eV]
  have hAl:k+2+A.size≤s.size:=by
   rw[hAs,Lg];have:=ik (fun c=>c != 10) (aR s (k+2))
   rw[fR] at this;unfold runN at this;omega
  have HC:=aa hc;have T2:=aa (fun W h=>bq b s (k+2) A.size W h hAl)
  clear hA hR ho hAs hc hp;go_enter Tryz.func72,Tryz.ntmps72
  go_wp2_with fail
  refine(T1.out _ HR.out).mono ?_;rintro e w1 ⟨rfl,r1,k1⟩;have R1:=aa r1;have KK1:=aa k1;clear r1 k1;go_wp2_with fail
  refine(aA _ _ _ _ R1.out).mono ?_;rintro e w2 ⟨rfl,r2,k2⟩;have R2:=aa r2;have KK2:=ao KK1 k2;clear r2 k2;go_wp2_with fail
  refine(B1.out _).mono ?_;rintro e LG ⟨rfl,rfl⟩;go_wp2_with fail
  refine(aA _ _ _ _ R2.out).mono ?_;rintro e w3 ⟨rfl,r3,k3⟩;have R3:=aa r3;have KK3:=ao KK2 k3;clear r3 k3;go_wp2_with fail
  refine(C1.out _ R3.out.mx).mono ?_;rintro e w4 ⟨rfl,n4,rfl⟩;have R4:=aa (R3.out.draws n4);have KK4:=aa (KK3.out.draws n4);generalize w3.drewN n4=w4 at *;go_wp2_with fail
  refine(T2.out _ R4.out).mono ?_;rintro e w5 ⟨rfl,r5,k5⟩;have R5:=aa r5;have KK5:=ao KK4 k5;clear r5 k5;go_wp2_with fail
  go_ret
  refine⟨KK5.out,?_⟩;rw[HC.out];exact⟨_,rfl,R5.out,rfl,by omega⟩
def AB (W:World) (v:Value) (n:Int):Prop:=∃g,v=.iface 83 (.pointer (some ⟨g,0,none⟩))∧W.heap[g]? = some (.cells #[.int .i64 n,.iface 79 (.int .i64 5)] 85 (0,0))
theorem kZ (n:Int) (w:World):Calls Tryz.prog 31 #[.int .i64 n,.int .i64 5] w fun e w'=>e=.returned (.iface 83 (.pointer (some ⟨w.heap.size,0,none⟩)))∧w'=w.alloc (.cells #[.int .i64 n,.iface 79 (.int .i64 5)] 85):=by
 go_enter Tryz.func31,Tryz.ntmps31
 go_wp2
 go_ret
 exact⟨rfl,rfl⟩
theorem AB.new (w:World) (n:Int):AB (w.alloc (.cells #[.int .i64 n,.iface 79 (.int .i64 5)] 85)) (.iface 83 (.pointer (some ⟨w.heap.size,0,none⟩))) n:=⟨_,rfl,World.alloc_heap_new w _⟩
def cZ (s:ByteArray):Int:=1+(nl s.data.toList:Int)
theorem jl (s:ByteArray) (k:Nat):((1+nl (s.data.toList.take k):Nat):Int)=cZ s-nl (aR s k):=by
 unfold cZ aR;have:=Xo s.data.toList k;omega
def LH (b:Nat) (s:ByteArray) (k:Nat) (w:World) (e:Ending) (w':World):Prop :=
 Kp b w w'∧((∃k',e=.returned .nilIface∧Rd w' b s k'∧k≤k'∧eO (aR s k) (.ok (aR s k'))) ∨
  (∃r v,e=.returned v∧AB w' v (cZ s-nl r)∧eO (aR s k) (.error r)))
theorem LI {l:List UInt8} (h:Lib.hasPrefix l [45,45]=true):l=45::45::l.drop 2:=by
 match l with
 | []=>simp[Lib.hasPrefix] at h
 | [a]=>simp[Lib.hasPrefix] at h
 | a::b::t =>
  simp[Lib.hasPrefix,List.isPrefixOf] at h;simp[←h.1,←h.2]
theorem LJ (b:Nat) (s:ByteArray) (k:Nat) (w:World) (h:Rd w b s k):Calls Tryz.prog 32 #[.pointer (some ⟨b,0,none⟩)] w (LH b s k w):=by
 have cb:=h.top;have hle:=h.le;have HR:=aa h;clear h;go_enter Tryz.func32,Tryz.ntmps32
 go_wp2_with fail
 go_loopg [] s.size (fun z wr=>∃k1,Rd wr b s k1∧s.size-k1≤z∧Kp b w wr∧k≤k1∧∀o,eO (aR s k1) o→eO (aR s k) o)
 case atStart=>exact⟨k,HR.out,by omega,Kp.refl _ _,ai _,fun _ h=>h⟩
 case round =>
  obtain⟨k1,hr,hz,Se,rj,hsk⟩:=hrel;have Sf:=hr.le;have R0:=aa hr;have K0:=aa Se;have HS:=aa hsk;clear hr Se hsk;obtain⟨m,hm⟩ :∃m:Nat,m=runN oX (aR s k1):=⟨_,rfl⟩;have C1:=aa (fun W=>wY (s.extract k1 s.size) W (by rw[aD s _ Sf];omega))
  rw[cV,←hm] at C1;have zC:=ik oX (aR s k1);rw[fR,←hm] at zC;have hdw:(aR s k1).dropWhile oX=aR s (k1+m):=by rw[←nm,←hm,eV]
  have HD:=aa hdw;clear hm hdw;cases ux:Lib.hasPrefix (aR s (k1+m)) [45,45]
  ·have P1:=aa (fun W=>lT (s.extract (k1+m) s.size) ⟨#[45,45]⟩ W false (by rw[cV];exact ux))
   have HP:=aa ux;clear ux;go_wp2_with fail
   refine(aA _ _ _ _ R0.out).mono ?_;rintro e w1 ⟨rfl,r1,VM⟩;have R1:=aa r1;have K1:=ao K0 VM;clear r1 VM;go_wp2_with fail
   refine(C1.out _).mono ?_;rintro e Cz ⟨rfl,rfl⟩;go_wp2_with fail
   refine(bq _ _ _ _ _ R1.out (by omega)).mono ?_;rintro e w2 ⟨rfl,r2,k2⟩
   have R2:=aa r2;have K2:=ao K1 k2;clear r2 k2;go_wp2_with fail
   refine(aA _ _ _ _ R2.out).mono ?_;rintro e w3 ⟨rfl,r3,k3⟩;have R3:=aa r3;have K3:=ao K2 k3;clear r3 k3;go_wp2_with fail
   refine(P1.out _).mono ?_;rintro e w3' ⟨rfl,rfl⟩;go_wp2_with fail
   go_ret
   exact⟨K3.out,.inl ⟨_,rfl,R3.out,by omega,HS.out _ (.done HD.out HP.out)⟩⟩
  ·have P1:=aa (fun W=>lT (s.extract (k1+m) s.size) ⟨#[45,45]⟩ W true (by rw[cV];exact ux))
   have h2:=LI ux;rw[eV] at h2;have hroom:k1+m+2≤s.size:=by
    have:=ay List.length h2;rw[fR,List.length_cons,List.length_cons] at this;omega
   have HP:=aa h2;clear ux h2;have CM:=aa (fun W h=>Az b s (k1+m) W h hroom)
   cases hcm:comm (aR s (k1+m+2)) with
   | none =>
    rw[hcm] at CM;have HCM:=aa hcm;clear hcm;go_wp2_with fail
    refine(aA _ _ _ _ R0.out).mono ?_;rintro e w1 ⟨rfl,r1,VM⟩;have R1:=aa r1;have K1:=ao K0 VM;clear r1 VM;go_wp2_with fail
    refine(C1.out _).mono ?_;rintro e Cz ⟨rfl,rfl⟩;go_wp2_with fail
    refine(bq _ _ _ _ _ R1.out (by omega)).mono ?_;rintro e w2 ⟨rfl,r2,k2⟩
    have R2:=aa r2;have K2:=ao K1 k2;clear r2 k2;go_wp2_with fail
    refine(aA _ _ _ _ R2.out).mono ?_;rintro e w3 ⟨rfl,r3,k3⟩;have R3:=aa r3;have K3:=ao K2 k3;clear r3 k3;go_wp2_with fail
    refine(P1.out _).mono ?_;rintro e w3' ⟨rfl,rfl⟩;have c2:=R3.out.c2;rw[jl] at c2;generalize Fa:cZ s-(nl (aR s (k1+m)):Int)=line at c2;have HL:=aa Fa;clear Fa;go_wp2_with fail
    clear c2;refine(CM.out _ R3.out).mono ?_;intro e w4 fX;obtain⟨rfl,k4⟩:=fX.om;have K4:=ao K3 k4;clear fX k4;go_wp2_with fail
    refine(kZ _ _).mono ?_;rintro e w5 ⟨rfl,rfl⟩;go_wp2_with fail
    go_ret
    refine⟨K4.out.alloc _,.inr ⟨_,_,rfl,?_,HS.out _ (.bad (HD.out.trans HP.out) HCM.out)⟩⟩;rw[←HP.out,HL.out];exact AB.new _ _
   | some r' =>
    rw[hcm] at CM;have HCM:=aa hcm;clear hcm;go_wp2_with fail
    refine(aA _ _ _ _ R0.out).mono ?_;rintro e w1 ⟨rfl,r1,VM⟩;have R1:=aa r1;have K1:=ao K0 VM;clear r1 VM;go_wp2_with fail
    refine(C1.out _).mono ?_;rintro e Cz ⟨rfl,rfl⟩;go_wp2_with fail
    refine(bq _ _ _ _ _ R1.out (by omega)).mono ?_;rintro e w2 ⟨rfl,r2,k2⟩
    have R2:=aa r2;have K2:=ao K1 k2;clear r2 k2;go_wp2_with fail
    refine(aA _ _ _ _ R2.out).mono ?_;rintro e w3 ⟨rfl,r3,k3⟩;have R3:=aa r3;have K3:=ao K2 k3;clear r3 k3;go_wp2_with fail
    refine(P1.out _).mono ?_;rintro e w3' ⟨rfl,rfl⟩;have c2:=R3.out.c2;rw[jl] at c2;generalize Fa:cZ s-(nl (aR s (k1+m)):Int)=line at c2;clear Fa;go_wp2_with fail
    clear c2;refine(CM.out _ R3.out).mono ?_;intro e w4 fX;obtain⟨k',rfl,r4,hr4,hlt,k4⟩:=fX.kg;have R4:=aa r4;have K4:=ao K3 k4;have HE:=aa hr4;clear fX k4 r4 hr4;go_wp2_with fail
    go_roundg (s.size-k')
    case measure=>have:=R4.out.le;omega
    case rel=>exact⟨k',R4.out,ai _,K4.out,by omega,fun o ho=>HS.out o (.more (HD.out.trans HP.out) HCM.out (HE.out▸ho))⟩
theorem AD {b:Nat} {l:List UInt8} (h:iL b l=true) {c:UInt8} (hc:c∈l):oW c.toNat<b:=by
 unfold iL at h;rw[List.all_eq_true] at h;simpa using h c hc
theorem LK {p:UInt8→Bool} (a b:List UInt8) (h :∀c∈a,p c=true):(a++b).dropWhile p=b.dropWhile p:=by
 induction a with
 | nil=>rfl
 | cons c t ih =>
  rw[dB,List.dropWhile,h c (by simp)]
  exact ih fun x hx=>h x (by simp[hx])
theorem Fb {p:UInt8→Bool} (a b:List UInt8) (ha:a≠[]) (h :∀c∈a,p c=false):(a++b).dropWhile p=a++b:=by
 cases a with
 | nil=>exact absurd rfl ha
 | cons c t=>rw[dB,List.dropWhile,h c (by simp)]
theorem Sg (p x q:List UInt8) (hp :∀c∈p,yt c.toNat=true) (hq :∀c∈q,yt c.toNat=true) (hx :∀c∈x,yt c.toNat=false) (hn:x≠[]):E0 (p++x++q)=x:=by
 rw[←wR];unfold Lib.trimLeftS Lib.trimRightS;have e1:List.dropWhile (fun y=>blanks.contains y) (p++x++q)=x++q:=by
  rw[eS,LK p (x++q) (fun c hc=>by rw[lQ];exact hp c hc),Fb x q hn (fun c hc=>by rw[lQ];exact hx c hc)]
 rw[e1,List.reverse_append,LK q.reverse x.reverse (fun c hc=>by rw[lQ];exact hq c (by simpa using hc))]
 have e2:=Fb (p:=fun y=>blanks.contains y) x.reverse [] (by simpa using hn) (fun c hc=>by rw[lQ];exact hx c (by simpa using hc))
 rw[j8] at e2;rw[e2,List.reverse_reverse]
theorem wZ {b:Nat} {l d:List UInt8} (h2:2≤b) (h36:b≤36) (ht:E0 l=d) (h:yw d=false):kW b l=wS (CO b d:Int)∧qa b l=s6 b d:=by
 unfold kW qa;have e:Lib.trimPrefix d [45]=d:=by unfold Lib.trimPrefix;unfold yw at h;rw[h,af (by decide)]
 have hb:2≤(b:Int)∧(b:Int)≤36:=by omega
 have hm:¬ yw d=true:=by rw[h];decide
 rw[ht,ak hb,ak hb,af hm,e,iJ];exact⟨rfl,rfl⟩
theorem Xz {n:Int} (h0:-9223372036854775808≤n) (h1:n≤9223372036854775807):wS n=n:=by unfold wS;omega
theorem Hl (b:Nat) (l:List UInt8) :∀n:Nat,l.foldl (fun n c=>n*b+oW c.toNat) n=n*b ^ l.length+val b l:=by
 induction l with
 | nil=>intro n;simp[val]
 | cons c t ih =>
  intro n;have e:val b (c::t)=oW c.toNat*b ^ t.length+val b t:=by
   show t.foldl _ (0*b+oW c.toNat)=_
   rw[ih];simp
  rw[List.foldl_cons,ih,e,List.length_cons,ER,EV,Nat.mul_assoc,ES b,pW]
theorem LL (b:Nat) (c:UInt8) (l:List UInt8):val b (c::l)=oW c.toNat*b ^ l.length+val b l:=by
 show l.foldl _ (0*b+oW c.toNat)=_
 rw[Hl];simp
theorem LM {b:Nat} (hb:b≤36) {l:List UInt8} (h:iL b l=true) :∀c∈l,yt c.toNat=false:=by
 intro c hc;have:=AD h hc;unfold yt;rw[Bool.or_eq_false_iff,zQ,zQ];unfold oW at this;split at this
 ·omega
 ·split at this
  ·omega
  ·split at this<;>omega
theorem XA {b:Nat} (hb:b≤36) {l:List UInt8} (h:iL b l=true) (t:List UInt8) (hl:l≠[]):yw (l++t)=false:=by
 cases l with
 | nil=>exact absurd rfl hl
 | cons c r =>
  have h1:=AD h (c:=c) (by simp)
  have hne:((45:UInt8) == c)=false:=by
   rw[aE];rintro rfl;have:oW (45:UInt8).toNat=36:=by decide
   omega
  simp[yw,Lib.hasPrefix,List.isPrefixOf,hne]
theorem XB {x:List UInt8} (hx :∀c∈x,yt c.toNat=false) (hn:x≠[]):E0 x=x:=by
 have:=Sg [] x [] (fun c hc=>by cases hc) (fun c hc=>by cases hc) hx hn
 simpa using this
def Bts (W:World) (v:Value) (m:List UInt8):Prop :=
 (v=.slice none 0 0∧m=[])∨(∃g x,m=[x]∧v=.slice (some ⟨g,0,none⟩) 1 1∧W.cell? ⟨g,0,none⟩=some (.int .u8 (x.toNat:Int)))
def bP (b:Nat) (s:ByteArray) (k:Nat) (w:World) (o:Option (List UInt8×List UInt8)) (e:Ending) (w':World):Prop :=
 Kp b w w'∧match o with
  | some (m,r)=>∃k' v,e=.returned (.tuple #[v,.bool true])∧Bts w' v m∧Rd w' b s k'∧aR s k'=r∧k≤k'
  | none=>e=.returned (.tuple #[.slice none 0 0,.bool false])
theorem uy {b:Nat} (hb:2≤b) (hb':b≤36) {d:List UInt8} (hd:iL b d=true) (hl:d.length≤3):0≤kW b d:=by
 by_cases h0:d=[]
 ·subst h0
  have:=(wZ (l:=[]) (d:=[]) hb hb' rfl rfl).1;rw[this];rw[yr rfl];decide
 ·have ht:=XB (LM hb' hd) h0
  have hm:yw d=false:=by have:=XA hb' hd [] h0;rwa[j8] at this
  rw[(wZ hb hb' ht hm).1,CP (E7 h0 hd)];have hv:val b d<46657:=by
   have:val b d≤b ^ d.length:=by
    have h2 :∀(l:List UInt8),iL b l=true→val b l+1≤b ^ l.length:=by
     intro l;induction l with
     | nil=>intro _;simp[val]
     | cons c t ih =>
      intro h;simp only[iL,sx,dk,je] at h;rw[LL,List.length_cons,ER];have i:=ih h.2;have h4:(oW c.toNat+1)*b ^ t.length≤b*b ^ t.length:=EE _ (by omega)
      rw[EV,EW] at h4;rw[ES (b ^ t.length) b];omega
    have:=h2 d hd;omega
   have h3:b ^ d.length≤36 ^ 3:=aK (Nat.pow_le_pow_left hb' _) (KL (by omega) hl)
   have h4:(36:Nat) ^ 3=46656:=by decide
   omega
  rw[Xz (by omega) (by omega)]
  omega
theorem Hm {p:UInt8→Bool} (l:List UInt8) (n:Nat) :∀c∈l.take (min n (runN p l)),p c=true:=by
 intro c hc;have h1:c∈l.take (runN p l):=(List.take_subset_take_left l (Nat.min_le_right n (runN p l))) hc;rw[qb] at h1;exact List.all_eq_true.1 List.all_takeWhile c h1
theorem XC :∀c:UInt8,zB c=true→oW c.toNat<16:=CQ (by decide +kernel)
theorem XD :∀c:UInt8,gr c=true→oW c.toNat<10:=CQ (by decide +kernel)
theorem xc {p:UInt8→Bool} {b:Nat} (h :∀c:UInt8,p c=true→oW c.toNat<b) (l:List UInt8) (n:Nat):iL b (l.take (min n (runN p l)))=true:=by
 unfold iL;rw[List.all_eq_true];intro c hc;exact bF (h c (Hm l n c hc))
theorem dJ (w:World) (x:Int) (u:UInt8) (h:x=(u.toNat:Int)):Bts (w.alloc (.cells #[.int .u8 x] 5)) (.slice (some ⟨w.heap.size,0,none⟩) 1 1) [u]:=by
 refine .inr ⟨_,u,rfl,rfl,?_⟩;rw[←h];unfold World.cell?;rw[World.alloc_heap_new];rfl
theorem VN {n:Int} (h0:0≤n) (h1:n≤255):n=((UInt8.ofNat n.toNat).toNat:Int):=by
 rw[UInt8.toNat_ofNat',Nat.mod_eq_of_lt (by omega)]
 omega
theorem LN (b:Nat) (s:ByteArray) (k:Nat) (w:World) (h:Rd w b s k) :
  Calls Tryz.prog 172 #[.pointer (some ⟨b,0,none⟩),.int .i64 16,.func (.func 173) #[] #[],.int .i64 2,.int .i64 2] w (bP b s k w (code 16 zB 2 2 (aR s k))):=by
 have cb:=h.top;have hle:=h.le;have HR:=aa h;clear h;obtain⟨m,hm⟩ :∃m:Nat,m=runN zB (aR s k):=⟨_,rfl⟩;have C1:=aa (fun W=>Sd (s.extract k s.size) W (by rw[aD s _ hle];omega))
 rw[cV,←hm] at C1;have zC:=ik zB (aR s k);rw[fR,←hm] at zC;have hall:=xc (p:=zB) (b:=16) XC (aR s k) 2;rw[←hm] at hall;obtain⟨c,hc⟩ :∃c:Nat,c=min 2 m:=⟨_,rfl⟩;have hT :∀W,Rd W b s k→Calls Tryz.prog 67 #[.pointer (some ⟨b,0,none⟩),.int .i64 (min 2 (m:Int))] W fun e w'=>e=.returned (.string (s.extract k (k+c)))∧Rd w' b s (k+c)∧Kp b W w':=fun W h=>by
  have:=bq b s k c W h (by omega)
  rwa[show(c:Int)=min 2 (m:Int) by omega] at this
 have qe:code 16 zB 2 2 (aR s k)=if qa 16 (s.extract k (k+c)).data.toList=true∧2≤c∧kW 16 (s.extract k (k+c)).data.toList≤255 then some ([UInt8.ofNat (kW 16 (s.extract k (k+c)).data.toList).toNat],aR s (k+c)) else none:=by
  unfold code;rw[←hm,←hc,←eW,eV]
 rw[←hc,←eW] at hall;have ny:=uy (b:=16) (by decide) (by decide) hall (by rw[eW,my];omega)
 have XE:(s.extract k (k+c)).size=c:=by rw[tU];omega
 obtain⟨D,hD⟩ :∃D:ByteArray,D=s.extract k (k+c):=⟨_,rfl⟩;rw[←hD] at hT qe ny XE;have C2:=aa hT;have C3:=aa (fun W=>VL D 16 W (by omega))
 obtain⟨N,hN⟩ :∃N:Int,N=kW 16 D.data.toList:=⟨_,rfl⟩;obtain⟨o,ho⟩ :∃o:Bool,o=qa 16 D.data.toList:=⟨_,rfl⟩;rw[show((16:Nat):Int)=(16:Int) from rfl] at ny
 rw[←hN] at ny;rw[←hN,←ho] at C3 qe;have HC:=aa qe;clear hm hall hT qe hD hN ho;have AE:o=false∨(o=true∧D.size<2)∨(o=true∧2≤D.size∧255<N)∨(o=true∧2≤D.size∧N≤255):=by
  cases o
  ·exact .inl rfl
  ·right
   by_cases h1:D.size<2
   ·exact .inl ⟨rfl,h1⟩
   ·right
    by_cases h2:255<N
    ·exact .inl ⟨rfl,by omega,h2⟩
    ·exact .inr ⟨rfl,by omega,by omega⟩
 rcases AE with rfl | ⟨rfl,h1⟩ | ⟨rfl,h1,h2⟩ | ⟨rfl,h1,h2⟩;all_goals have HDs:=aa XE
 all_goals have HCm:=aa hc
 all_goals clear XE hc
 ·go_enter Tryz.func172,Tryz.ntmps172
  go_wp2_with fail
  refine(aA _ _ _ _ HR.out).mono ?_;rintro e w1 ⟨rfl,r1,k1⟩;have R1:=aa r1;have K1:=aa k1;clear r1 k1;go_wp2_with fail
  refine(C1.out _).mono ?_;rintro e Cz ⟨rfl,rfl⟩;go_wp2_with fail
  refine(C2.out _ R1.out).mono ?_;rintro e w2 ⟨rfl,r2,k2⟩;have R2:=aa r2;have K2:=ao K1 k2;clear r2 k2;go_wp2_with fail
  refine(C3.out _).mono ?_;rintro e w3 ⟨rfl,b3⟩;have K3:=ao K2 (Kp.ae b3);clear b3;go_wp2_with fail
  go_ret2
  refine⟨K3.out,?_⟩;rw[HC.out,af (by simp)]
  rfl
 ·have g1:decide (D.size<2)=true:=bF h1
  go_enter Tryz.func172,Tryz.ntmps172
  go_wp2_with fail
  refine(aA _ _ _ _ HR.out).mono ?_;rintro e w1 ⟨rfl,r1,k1⟩;have R1:=aa r1;have K1:=aa k1;clear r1 k1;go_wp2_with fail
  refine(C1.out _).mono ?_;rintro e Cz ⟨rfl,rfl⟩;go_wp2_with fail
  refine(C2.out _ R1.out).mono ?_;rintro e w2 ⟨rfl,r2,k2⟩;have R2:=aa r2;have K2:=ao K1 k2;clear r2 k2;go_wp2_with fail
  refine(C3.out _).mono ?_;rintro e w3 ⟨rfl,b3⟩;have K3:=ao K2 (Kp.ae b3);clear b3;go_wp2_with fail
  go_ret2
  refine⟨K3.out,?_⟩;rw[HC.out,af (by have:=HDs.out;omega)]
  rfl
 ·have g1:decide (D.size<2)=false:=bN (by omega)
  have g2:decide (255<N)=true:=bF h2;go_enter Tryz.func172,Tryz.ntmps172
  go_wp2_with fail
  refine(aA _ _ _ _ HR.out).mono ?_;rintro e w1 ⟨rfl,r1,k1⟩;have R1:=aa r1;have K1:=aa k1;clear r1 k1;go_wp2_with fail
  refine(C1.out _).mono ?_;rintro e Cz ⟨rfl,rfl⟩;go_wp2_with fail
  refine(C2.out _ R1.out).mono ?_;rintro e w2 ⟨rfl,r2,k2⟩;have R2:=aa r2;have K2:=ao K1 k2;clear r2 k2;go_wp2_with fail
  refine(C3.out _).mono ?_;rintro e w3 ⟨rfl,b3⟩;have K3:=ao K2 (Kp.ae b3);clear b3;go_wp2_with fail
  go_ret2
  refine⟨K3.out,?_⟩;rw[HC.out,af (by omega)]
  rfl
 ·have g1:decide (D.size<2)=false:=bN (by omega)
  have g2:decide (255<N)=false:=bN (by omega)
  go_enter Tryz.func172,Tryz.ntmps172
  go_wp2_with fail
  refine(aA _ _ _ _ HR.out).mono ?_;rintro e w1 ⟨rfl,r1,k1⟩;have R1:=aa r1;have K1:=aa k1;clear r1 k1;go_wp2_with fail
  refine(C1.out _).mono ?_;rintro e Cz ⟨rfl,rfl⟩;go_wp2_with fail
  refine(C2.out _ R1.out).mono ?_;rintro e w2 ⟨rfl,r2,k2⟩;have R2:=aa r2;have K2:=ao K1 k2;clear r2 k2;go_wp2_with fail
  refine(C3.out _).mono ?_;rintro e w3 ⟨rfl,b3⟩;have R3:=aa (R2.out.below b3);have K3:=ao K2 (Kp.ae b3);clear b3;go_wp2_with fail
  go_ret2
  refine⟨K3.out.alloc _,?_⟩;rw[HC.out,ak ⟨by trivial,by have:=HDs.out;omega,h2⟩]
  exact⟨_,_,rfl,dJ _ _ _ (VN ny h2),R3.out.alloc _,rfl,by omega⟩
theorem dP (b:Nat) (s:ByteArray) (k:Nat) (w:World) (h:Rd w b s k) :
  Calls Tryz.prog 172 #[.pointer (some ⟨b,0,none⟩),.int .i64 10,.func (.func 75) #[] #[],.int .i64 1,.int .i64 3] w (bP b s k w (code 10 gr 1 3 (aR s k))):=by
 have cb:=h.top;have hle:=h.le;have HR:=aa h;clear h;obtain⟨m,hm⟩ :∃m:Nat,m=runN gr (aR s k):=⟨_,rfl⟩;have C1:=aa (fun W=>Hk (s.extract k s.size) W (by rw[aD s _ hle];omega))
 rw[cV,←hm] at C1;have zC:=ik gr (aR s k);rw[fR,←hm] at zC;have hall:=xc (p:=gr) (b:=10) XD (aR s k) 3;rw[←hm] at hall;obtain⟨c,hc⟩ :∃c:Nat,c=min 3 m:=⟨_,rfl⟩;have hT :∀W,Rd W b s k→Calls Tryz.prog 67 #[.pointer (some ⟨b,0,none⟩),.int .i64 (min 3 (m:Int))] W fun e w'=>e=.returned (.string (s.extract k (k+c)))∧Rd w' b s (k+c)∧Kp b W w':=fun W h=>by
  have:=bq b s k c W h (by omega)
  rwa[show(c:Int)=min 3 (m:Int) by omega] at this
 have qe:code 10 gr 1 3 (aR s k)=if qa 10 (s.extract k (k+c)).data.toList=true∧1≤c∧kW 10 (s.extract k (k+c)).data.toList≤255 then some ([UInt8.ofNat (kW 10 (s.extract k (k+c)).data.toList).toNat],aR s (k+c)) else none:=by
  unfold code;rw[←hm,←hc,←eW,eV]
 rw[←hc,←eW] at hall;have ny:=uy (b:=10) (by decide) (by decide) hall (by rw[eW,my];omega)
 have XE:(s.extract k (k+c)).size=c:=by rw[tU];omega
 obtain⟨D,hD⟩ :∃D:ByteArray,D=s.extract k (k+c):=⟨_,rfl⟩;rw[←hD] at hT qe ny XE;have C2:=aa hT;have C3:=aa (fun W=>VL D 10 W (by omega))
 obtain⟨N,hN⟩ :∃N:Int,N=kW 10 D.data.toList:=⟨_,rfl⟩;obtain⟨o,ho⟩ :∃o:Bool,o=qa 10 D.data.toList:=⟨_,rfl⟩;rw[show((10:Nat):Int)=(10:Int) from rfl] at ny
 rw[←hN] at ny;rw[←hN,←ho] at C3 qe;have HC:=aa qe;clear hm hall hT qe hD hN ho;have AE:o=false∨(o=true∧D.size<1)∨(o=true∧1≤D.size∧255<N)∨(o=true∧1≤D.size∧N≤255):=by
  cases o
  ·exact .inl rfl
  ·right
   by_cases h1:D.size<1
   ·exact .inl ⟨rfl,h1⟩
   ·right
    by_cases h2:255<N
    ·exact .inl ⟨rfl,by omega,h2⟩
    ·exact .inr ⟨rfl,by omega,by omega⟩
 rcases AE with rfl | ⟨rfl,h1⟩ | ⟨rfl,h1,h2⟩ | ⟨rfl,h1,h2⟩;all_goals have HDs:=aa XE
 all_goals have HCm:=aa hc
 all_goals clear XE hc
 ·go_enter Tryz.func172,Tryz.ntmps172
  go_wp2_with fail
  refine(aA _ _ _ _ HR.out).mono ?_;rintro e w1 ⟨rfl,r1,k1⟩;have R1:=aa r1;have K1:=aa k1;clear r1 k1;go_wp2_with fail
  refine(C1.out _).mono ?_;rintro e Cz ⟨rfl,rfl⟩;go_wp2_with fail
  refine(C2.out _ R1.out).mono ?_;rintro e w2 ⟨rfl,r2,k2⟩;have R2:=aa r2;have K2:=ao K1 k2;clear r2 k2;go_wp2_with fail
  refine(C3.out _).mono ?_;rintro e w3 ⟨rfl,b3⟩;have K3:=ao K2 (Kp.ae b3);clear b3;go_wp2_with fail
  go_ret2
  refine⟨K3.out,?_⟩;rw[HC.out,af (by simp)]
  rfl
 ·have g1:decide (D.size<1)=true:=bF h1
  go_enter Tryz.func172,Tryz.ntmps172
  go_wp2_with fail
  refine(aA _ _ _ _ HR.out).mono ?_;rintro e w1 ⟨rfl,r1,k1⟩;have R1:=aa r1;have K1:=aa k1;clear r1 k1;go_wp2_with fail
  refine(C1.out _).mono ?_;rintro e Cz ⟨rfl,rfl⟩;go_wp2_with fail
  refine(C2.out _ R1.out).mono ?_;rintro e w2 ⟨rfl,r2,k2⟩;have R2:=aa r2;have K2:=ao K1 k2;clear r2 k2;go_wp2_with fail
  refine(C3.out _).mono ?_;rintro e w3 ⟨rfl,b3⟩;have K3:=ao K2 (Kp.ae b3);clear b3;go_wp2_with fail
  go_ret2
  refine⟨K3.out,?_⟩;rw[HC.out,af (by have:=HDs.out;omega)]
  rfl
 ·have g1:decide (D.size<1)=false:=bN (by omega)
  have g2:decide (255<N)=true:=bF h2;go_enter Tryz.func172,Tryz.ntmps172
  go_wp2_with fail
  refine(aA _ _ _ _ HR.out).mono ?_;rintro e w1 ⟨rfl,r1,k1⟩;have R1:=aa r1;have K1:=aa k1;clear r1 k1;go_wp2_with fail
  refine(C1.out _).mono ?_;rintro e Cz ⟨rfl,rfl⟩;go_wp2_with fail
  refine(C2.out _ R1.out).mono ?_;rintro e w2 ⟨rfl,r2,k2⟩;have R2:=aa r2;have K2:=ao K1 k2;clear r2 k2;go_wp2_with fail
  refine(C3.out _).mono ?_;rintro e w3 ⟨rfl,b3⟩;have K3:=ao K2 (Kp.ae b3);clear b3;go_wp2_with fail
  go_ret2
  refine⟨K3.out,?_⟩;rw[HC.out,af (by omega)]
  rfl
 ·have g1:decide (D.size<1)=false:=bN (by omega)
  have g2:decide (255<N)=false:=bN (by omega)
  go_enter Tryz.func172,Tryz.ntmps172
  go_wp2_with fail
  refine(aA _ _ _ _ HR.out).mono ?_;rintro e w1 ⟨rfl,r1,k1⟩;have R1:=aa r1;have K1:=aa k1;clear r1 k1;go_wp2_with fail
  refine(C1.out _).mono ?_;rintro e Cz ⟨rfl,rfl⟩;go_wp2_with fail
  refine(C2.out _ R1.out).mono ?_;rintro e w2 ⟨rfl,r2,k2⟩;have R2:=aa r2;have K2:=ao K1 k2;clear r2 k2;go_wp2_with fail
  refine(C3.out _).mono ?_;rintro e w3 ⟨rfl,b3⟩;have R3:=aa (R2.out.below b3);have K3:=ao K2 (Kp.ae b3);clear b3;go_wp2_with fail
  go_ret2
  refine⟨K3.out.alloc _,?_⟩;rw[HC.out,ak ⟨by trivial,by have:=HDs.out;omega,h2⟩]
  exact⟨_,_,rfl,dJ _ _ _ (VN ny h2),R3.out.alloc _,rfl,by omega⟩
theorem iO (s:ByteArray) (k:Nat) (h:k<s.size):aR s k=s[k]::aR s (k+1):=by
 unfold aR;exact zO (l:=s.data.toList) (i:=k) (by simpa using h)
theorem aS (s:ByteArray) (k:Nat) (h:k<s.size) (h':0<(s.extract k s.size).size):(s.extract k s.size)[0]=s[k]:=by
 rw[ByteArray.getElem_extract];simp
theorem tB (s:ByteArray) (k:Nat) (h:s.size≤k):aR s k=[]:=EC (by rw[←Lib.size_eq];exact h)
theorem bD (X:ByteArray) (h:0<X.size):X.toList.isEmpty=false:=by
 rw[Lib.toList_data];cases e:X.data.toList with
 | nil =>
  have:=Lib.size_eq X;rw[e,List.length_nil] at this;omega
 | cons=>rfl
theorem uz (X:ByteArray) (h:X.size=0):X.toList.isEmpty=true:=by
 rw[Lib.toList_data,mw (l:=X.data.toList) (by rw[←Lib.size_eq];exact h)]
 rfl
theorem LO (b:Nat) (s:ByteArray) (k:Nat) (w:World) (h:Rd w b s k) (hk:k=s.size):Calls Tryz.prog 137 #[.pointer (some ⟨b,0,none⟩)] w (bP b s k w (mS (aR s k))):=by
 rw[tB s k (by omega)]
 obtain⟨X,hX⟩ :∃X:ByteArray,X=s.extract k s.size:=⟨_,rfl⟩;have C1:=aa (fun W h=>aA b s k W h)
 rw[←hX] at C1;have rm:=uz X (by rw[hX,aD s k (by omega)];omega)
 have HR:=aa h;clear hX h;go_enter Tryz.func137,Tryz.ntmps137
 go_wp2_with fail
 refine(C1.out _ HR.out).mono ?_;rintro e w1 ⟨rfl,r1,k1⟩;have K1:=aa k1;clear r1 k1;go_wp2_with fail
 go_ret2
 exact⟨K1.out,rfl⟩
theorem XF (b:Nat) (s:ByteArray) (k:Nat) (w:World) (h:Rd w b s k) (hk:k<s.size) (hc:s[k]=97):Calls Tryz.prog 137 #[.pointer (some ⟨b,0,none⟩)] w (bP b s k w (some ([7],aR s (k+1)))):=by
 obtain⟨X,hX⟩ :∃X:ByteArray,X=s.extract k s.size:=⟨_,rfl⟩;have C1:=aa (fun W h=>aA b s k W h)
 have eG:0<X.size:=by rw[hX,aD s k (by omega)];omega
 have sE:X[0]=97:=by subst hX;rw[aS s k hk eG];exact hc
 rw[←hX] at C1;have rm:=bD X eG;have HR:=aa h;have I1:=aa (fun W=>eU ⟨#[97,98,102,110,114,116,118]⟩ 97 W)
 have T1:=aa (fun W h=>bq b s k 1 W h (by omega))
 clear hX h hc;go_enter Tryz.func137,Tryz.ntmps137
 go_wp2_with fail
 refine(C1.out _ HR.out).mono ?_;rintro e w1 ⟨rfl,r1,k1⟩;have R1:=aa r1;have K1:=aa k1;clear r1 k1;go_wp2_with fail
 refine(C1.out _ R1.out).mono ?_;rintro e w2 ⟨rfl,r2,k2⟩;have R2:=aa r2;have K2:=ao K1 k2;clear r2 k2;go_wp2_with fail
 refine(I1.out _).mono ?_;rintro e LG ⟨rfl,rfl⟩;rw[show Lib.indexByte (⟨#[97,98,102,110,114,116,118]⟩:ByteArray).data.toList 97=0 from by decide]
 go_wp2_with fail
 refine(T1.out _ R2.out).mono ?_;rintro e w3 ⟨rfl,r3,k3⟩;have R3:=aa r3;have K3:=ao K2 k3;clear r3 k3;go_wp2_with fail
 go_ret2
 exact⟨K3.out.alloc _,_,_,rfl,dJ _ _ _ rfl,R3.out.alloc _,rfl,by omega⟩
theorem XG (b:Nat) (s:ByteArray) (k:Nat) (w:World) (h:Rd w b s k) (hk:k<s.size) (hc:s[k]=98):Calls Tryz.prog 137 #[.pointer (some ⟨b,0,none⟩)] w (bP b s k w (some ([8],aR s (k+1)))):=by
 obtain⟨X,hX⟩ :∃X:ByteArray,X=s.extract k s.size:=⟨_,rfl⟩;have C1:=aa (fun W h=>aA b s k W h)
 have eG:0<X.size:=by rw[hX,aD s k (by omega)];omega
 have sE:X[0]=98:=by subst hX;rw[aS s k hk eG];exact hc
 rw[←hX] at C1;have rm:=bD X eG;have HR:=aa h;have I1:=aa (fun W=>eU ⟨#[97,98,102,110,114,116,118]⟩ 98 W)
 have T1:=aa (fun W h=>bq b s k 1 W h (by omega))
 clear hX h hc;go_enter Tryz.func137,Tryz.ntmps137
 go_wp2_with fail
 refine(C1.out _ HR.out).mono ?_;rintro e w1 ⟨rfl,r1,k1⟩;have R1:=aa r1;have K1:=aa k1;clear r1 k1;go_wp2_with fail
 refine(C1.out _ R1.out).mono ?_;rintro e w2 ⟨rfl,r2,k2⟩;have R2:=aa r2;have K2:=ao K1 k2;clear r2 k2;go_wp2_with fail
 refine(I1.out _).mono ?_;rintro e LG ⟨rfl,rfl⟩;rw[show Lib.indexByte (⟨#[97,98,102,110,114,116,118]⟩:ByteArray).data.toList 98=1 from by decide]
 go_wp2_with fail
 refine(T1.out _ R2.out).mono ?_;rintro e w3 ⟨rfl,r3,k3⟩;have R3:=aa r3;have K3:=ao K2 k3;clear r3 k3;go_wp2_with fail
 go_ret2
 exact⟨K3.out.alloc _,_,_,rfl,dJ _ _ _ rfl,R3.out.alloc _,rfl,by omega⟩
theorem Sh (b:Nat) (s:ByteArray) (k:Nat) (w:World) (h:Rd w b s k) (hk:k<s.size) (hc:s[k]=102):Calls Tryz.prog 137 #[.pointer (some ⟨b,0,none⟩)] w (bP b s k w (some ([12],aR s (k+1)))):=by
 obtain⟨X,hX⟩ :∃X:ByteArray,X=s.extract k s.size:=⟨_,rfl⟩;have C1:=aa (fun W h=>aA b s k W h)
 have eG:0<X.size:=by rw[hX,aD s k (by omega)];omega
 have sE:X[0]=102:=by subst hX;rw[aS s k hk eG];exact hc
 rw[←hX] at C1;have rm:=bD X eG;have HR:=aa h;have I1:=aa (fun W=>eU ⟨#[97,98,102,110,114,116,118]⟩ 102 W)
 have T1:=aa (fun W h=>bq b s k 1 W h (by omega))
 clear hX h hc;go_enter Tryz.func137,Tryz.ntmps137
 go_wp2_with fail
 refine(C1.out _ HR.out).mono ?_;rintro e w1 ⟨rfl,r1,k1⟩;have R1:=aa r1;have K1:=aa k1;clear r1 k1;go_wp2_with fail
 refine(C1.out _ R1.out).mono ?_;rintro e w2 ⟨rfl,r2,k2⟩;have R2:=aa r2;have K2:=ao K1 k2;clear r2 k2;go_wp2_with fail
 refine(I1.out _).mono ?_;rintro e LG ⟨rfl,rfl⟩;rw[show Lib.indexByte (⟨#[97,98,102,110,114,116,118]⟩:ByteArray).data.toList 102=2 from by decide]
 go_wp2_with fail
 refine(T1.out _ R2.out).mono ?_;rintro e w3 ⟨rfl,r3,k3⟩;have R3:=aa r3;have K3:=ao K2 k3;clear r3 k3;go_wp2_with fail
 go_ret2
 exact⟨K3.out.alloc _,_,_,rfl,dJ _ _ _ rfl,R3.out.alloc _,rfl,by omega⟩
theorem Si (b:Nat) (s:ByteArray) (k:Nat) (w:World) (h:Rd w b s k) (hk:k<s.size) (hc:s[k]=110):Calls Tryz.prog 137 #[.pointer (some ⟨b,0,none⟩)] w (bP b s k w (some ([10],aR s (k+1)))):=by
 obtain⟨X,hX⟩ :∃X:ByteArray,X=s.extract k s.size:=⟨_,rfl⟩;have C1:=aa (fun W h=>aA b s k W h)
 have eG:0<X.size:=by rw[hX,aD s k (by omega)];omega
 have sE:X[0]=110:=by subst hX;rw[aS s k hk eG];exact hc
 rw[←hX] at C1;have rm:=bD X eG;have HR:=aa h;have I1:=aa (fun W=>eU ⟨#[97,98,102,110,114,116,118]⟩ 110 W)
 have T1:=aa (fun W h=>bq b s k 1 W h (by omega))
 clear hX h hc;go_enter Tryz.func137,Tryz.ntmps137
 go_wp2_with fail
 refine(C1.out _ HR.out).mono ?_;rintro e w1 ⟨rfl,r1,k1⟩;have R1:=aa r1;have K1:=aa k1;clear r1 k1;go_wp2_with fail
 refine(C1.out _ R1.out).mono ?_;rintro e w2 ⟨rfl,r2,k2⟩;have R2:=aa r2;have K2:=ao K1 k2;clear r2 k2;go_wp2_with fail
 refine(I1.out _).mono ?_;rintro e LG ⟨rfl,rfl⟩;rw[show Lib.indexByte (⟨#[97,98,102,110,114,116,118]⟩:ByteArray).data.toList 110=3 from by decide]
 go_wp2_with fail
 refine(T1.out _ R2.out).mono ?_;rintro e w3 ⟨rfl,r3,k3⟩;have R3:=aa r3;have K3:=ao K2 k3;clear r3 k3;go_wp2_with fail
 go_ret2
 exact⟨K3.out.alloc _,_,_,rfl,dJ _ _ _ rfl,R3.out.alloc _,rfl,by omega⟩
theorem Sj (b:Nat) (s:ByteArray) (k:Nat) (w:World) (h:Rd w b s k) (hk:k<s.size) (hc:s[k]=114):Calls Tryz.prog 137 #[.pointer (some ⟨b,0,none⟩)] w (bP b s k w (some ([13],aR s (k+1)))):=by
 obtain⟨X,hX⟩ :∃X:ByteArray,X=s.extract k s.size:=⟨_,rfl⟩;have C1:=aa (fun W h=>aA b s k W h)
 have eG:0<X.size:=by rw[hX,aD s k (by omega)];omega
 have sE:X[0]=114:=by subst hX;rw[aS s k hk eG];exact hc
 rw[←hX] at C1;have rm:=bD X eG;have HR:=aa h;have I1:=aa (fun W=>eU ⟨#[97,98,102,110,114,116,118]⟩ 114 W)
 have T1:=aa (fun W h=>bq b s k 1 W h (by omega))
 clear hX h hc;go_enter Tryz.func137,Tryz.ntmps137
 go_wp2_with fail
 refine(C1.out _ HR.out).mono ?_;rintro e w1 ⟨rfl,r1,k1⟩;have R1:=aa r1;have K1:=aa k1;clear r1 k1;go_wp2_with fail
 refine(C1.out _ R1.out).mono ?_;rintro e w2 ⟨rfl,r2,k2⟩;have R2:=aa r2;have K2:=ao K1 k2;clear r2 k2;go_wp2_with fail
 refine(I1.out _).mono ?_;rintro e LG ⟨rfl,rfl⟩;rw[show Lib.indexByte (⟨#[97,98,102,110,114,116,118]⟩:ByteArray).data.toList 114=4 from by decide]
 go_wp2_with fail
 refine(T1.out _ R2.out).mono ?_;rintro e w3 ⟨rfl,r3,k3⟩;have R3:=aa r3;have K3:=ao K2 k3;clear r3 k3;go_wp2_with fail
 go_ret2
 exact⟨K3.out.alloc _,_,_,rfl,dJ _ _ _ rfl,R3.out.alloc _,rfl,by omega⟩
theorem Sk (b:Nat) (s:ByteArray) (k:Nat) (w:World) (h:Rd w b s k) (hk:k<s.size) (hc:s[k]=116):Calls Tryz.prog 137 #[.pointer (some ⟨b,0,none⟩)] w (bP b s k w (some ([9],aR s (k+1)))):=by
 obtain⟨X,hX⟩ :∃X:ByteArray,X=s.extract k s.size:=⟨_,rfl⟩;have C1:=aa (fun W h=>aA b s k W h)
 have eG:0<X.size:=by rw[hX,aD s k (by omega)];omega
 have sE:X[0]=116:=by subst hX;rw[aS s k hk eG];exact hc
 rw[←hX] at C1;have rm:=bD X eG;have HR:=aa h;have I1:=aa (fun W=>eU ⟨#[97,98,102,110,114,116,118]⟩ 116 W)
 have T1:=aa (fun W h=>bq b s k 1 W h (by omega))
 clear hX h hc;go_enter Tryz.func137,Tryz.ntmps137
 go_wp2_with fail
 refine(C1.out _ HR.out).mono ?_;rintro e w1 ⟨rfl,r1,k1⟩;have R1:=aa r1;have K1:=aa k1;clear r1 k1;go_wp2_with fail
 refine(C1.out _ R1.out).mono ?_;rintro e w2 ⟨rfl,r2,k2⟩;have R2:=aa r2;have K2:=ao K1 k2;clear r2 k2;go_wp2_with fail
 refine(I1.out _).mono ?_;rintro e LG ⟨rfl,rfl⟩;rw[show Lib.indexByte (⟨#[97,98,102,110,114,116,118]⟩:ByteArray).data.toList 116=5 from by decide]
 go_wp2_with fail
 refine(T1.out _ R2.out).mono ?_;rintro e w3 ⟨rfl,r3,k3⟩;have R3:=aa r3;have K3:=ao K2 k3;clear r3 k3;go_wp2_with fail
 go_ret2
 exact⟨K3.out.alloc _,_,_,rfl,dJ _ _ _ rfl,R3.out.alloc _,rfl,by omega⟩
theorem Sl (b:Nat) (s:ByteArray) (k:Nat) (w:World) (h:Rd w b s k) (hk:k<s.size) (hc:s[k]=118):Calls Tryz.prog 137 #[.pointer (some ⟨b,0,none⟩)] w (bP b s k w (some ([11],aR s (k+1)))):=by
 obtain⟨X,hX⟩ :∃X:ByteArray,X=s.extract k s.size:=⟨_,rfl⟩;have C1:=aa (fun W h=>aA b s k W h)
 have eG:0<X.size:=by rw[hX,aD s k (by omega)];omega
 have sE:X[0]=118:=by subst hX;rw[aS s k hk eG];exact hc
 rw[←hX] at C1;have rm:=bD X eG;have HR:=aa h;have I1:=aa (fun W=>eU ⟨#[97,98,102,110,114,116,118]⟩ 118 W)
 have T1:=aa (fun W h=>bq b s k 1 W h (by omega))
 clear hX h hc;go_enter Tryz.func137,Tryz.ntmps137
 go_wp2_with fail
 refine(C1.out _ HR.out).mono ?_;rintro e w1 ⟨rfl,r1,k1⟩;have R1:=aa r1;have K1:=aa k1;clear r1 k1;go_wp2_with fail
 refine(C1.out _ R1.out).mono ?_;rintro e w2 ⟨rfl,r2,k2⟩;have R2:=aa r2;have K2:=ao K1 k2;clear r2 k2;go_wp2_with fail
 refine(I1.out _).mono ?_;rintro e LG ⟨rfl,rfl⟩;rw[show Lib.indexByte (⟨#[97,98,102,110,114,116,118]⟩:ByteArray).data.toList 118=6 from by decide]
 go_wp2_with fail
 refine(T1.out _ R2.out).mono ?_;rintro e w3 ⟨rfl,r3,k3⟩;have R3:=aa r3;have K3:=ao K2 k3;clear r3 k3;go_wp2_with fail
 go_ret2
 exact⟨K3.out.alloc _,_,_,rfl,dJ _ _ _ rfl,R3.out.alloc _,rfl,by omega⟩
theorem XH (b:Nat) (s:ByteArray) (k:Nat) (w:World) (h:Rd w b s k) (hk:k<s.size) (hc:s[k]=92):Calls Tryz.prog 137 #[.pointer (some ⟨b,0,none⟩)] w (bP b s k w (some ([92],aR s (k+1)))):=by
 obtain⟨X,hX⟩ :∃X:ByteArray,X=s.extract k s.size:=⟨_,rfl⟩;have C1:=aa (fun W h=>aA b s k W h)
 have eG:0<X.size:=by rw[hX,aD s k (by omega)];omega
 have sE:X[0]=92:=by subst hX;rw[aS s k hk eG];exact hc
 rw[←hX] at C1;have rm:=bD X eG;have HR:=aa h;have T1:=aa (fun W h=>bq b s k 1 W h (by omega))
 clear hX h hc;go_enter Tryz.func137,Tryz.ntmps137
 go_wp2_with fail
 refine(C1.out _ HR.out).mono ?_;rintro e w1 ⟨rfl,r1,k1⟩;have R1:=aa r1;have K1:=aa k1;clear r1 k1;go_wp2_with fail
 refine(C1.out _ R1.out).mono ?_;rintro e w2 ⟨rfl,r2,k2⟩;have R2:=aa r2;have K2:=ao K1 k2;clear r2 k2;go_wp2_with fail
 refine(T1.out _ R2.out).mono ?_;rintro e w3 ⟨rfl,r3,k3⟩;have R3:=aa r3;have K3:=ao K2 k3;clear r3 k3;go_wp2_with fail
 go_ret2
 exact⟨K3.out.alloc _,_,_,rfl,dJ _ _ _ rfl,R3.out.alloc _,rfl,by omega⟩
theorem XI (b:Nat) (s:ByteArray) (k:Nat) (w:World) (h:Rd w b s k) (hk:k<s.size) (hc:s[k]=39):Calls Tryz.prog 137 #[.pointer (some ⟨b,0,none⟩)] w (bP b s k w (some ([39],aR s (k+1)))):=by
 obtain⟨X,hX⟩ :∃X:ByteArray,X=s.extract k s.size:=⟨_,rfl⟩;have C1:=aa (fun W h=>aA b s k W h)
 have eG:0<X.size:=by rw[hX,aD s k (by omega)];omega
 have sE:X[0]=39:=by subst hX;rw[aS s k hk eG];exact hc
 rw[←hX] at C1;have rm:=bD X eG;have HR:=aa h;have T1:=aa (fun W h=>bq b s k 1 W h (by omega))
 clear hX h hc;go_enter Tryz.func137,Tryz.ntmps137
 go_wp2_with fail
 refine(C1.out _ HR.out).mono ?_;rintro e w1 ⟨rfl,r1,k1⟩;have R1:=aa r1;have K1:=aa k1;clear r1 k1;go_wp2_with fail
 refine(C1.out _ R1.out).mono ?_;rintro e w2 ⟨rfl,r2,k2⟩;have R2:=aa r2;have K2:=ao K1 k2;clear r2 k2;go_wp2_with fail
 refine(T1.out _ R2.out).mono ?_;rintro e w3 ⟨rfl,r3,k3⟩;have R3:=aa r3;have K3:=ao K2 k3;clear r3 k3;go_wp2_with fail
 go_ret2
 exact⟨K3.out.alloc _,_,_,rfl,dJ _ _ _ rfl,R3.out.alloc _,rfl,by omega⟩
theorem XJ (b:Nat) (s:ByteArray) (k:Nat) (w:World) (h:Rd w b s k) (hk:k<s.size) (hc:s[k]=34):Calls Tryz.prog 137 #[.pointer (some ⟨b,0,none⟩)] w (bP b s k w (some ([34],aR s (k+1)))):=by
 obtain⟨X,hX⟩ :∃X:ByteArray,X=s.extract k s.size:=⟨_,rfl⟩;have C1:=aa (fun W h=>aA b s k W h)
 have eG:0<X.size:=by rw[hX,aD s k (by omega)];omega
 have sE:X[0]=34:=by subst hX;rw[aS s k hk eG];exact hc
 rw[←hX] at C1;have rm:=bD X eG;have HR:=aa h;have T1:=aa (fun W h=>bq b s k 1 W h (by omega))
 clear hX h hc;go_enter Tryz.func137,Tryz.ntmps137
 go_wp2_with fail
 refine(C1.out _ HR.out).mono ?_;rintro e w1 ⟨rfl,r1,k1⟩;have R1:=aa r1;have K1:=aa k1;clear r1 k1;go_wp2_with fail
 refine(C1.out _ R1.out).mono ?_;rintro e w2 ⟨rfl,r2,k2⟩;have R2:=aa r2;have K2:=ao K1 k2;clear r2 k2;go_wp2_with fail
 refine(T1.out _ R2.out).mono ?_;rintro e w3 ⟨rfl,r3,k3⟩;have R3:=aa r3;have K3:=ao K2 k3;clear r3 k3;go_wp2_with fail
 go_ret2
 exact⟨K3.out.alloc _,_,_,rfl,dJ _ _ _ rfl,R3.out.alloc _,rfl,by omega⟩
theorem XK (b:Nat) (s:ByteArray) (k:Nat) (w:World) (h:Rd w b s k) (hk:k<s.size) (hc:s[k]=10):Calls Tryz.prog 137 #[.pointer (some ⟨b,0,none⟩)] w (bP b s k w (some ([10],aR s (k+1)))):=by
 obtain⟨X,hX⟩ :∃X:ByteArray,X=s.extract k s.size:=⟨_,rfl⟩;have C1:=aa (fun W h=>aA b s k W h)
 have eG:0<X.size:=by rw[hX,aD s k (by omega)];omega
 have sE:X[0]=10:=by subst hX;rw[aS s k hk eG];exact hc
 rw[←hX] at C1;have rm:=bD X eG;have HR:=aa h;have T1:=aa (fun W h=>bq b s k 1 W h (by omega))
 clear hX h hc;go_enter Tryz.func137,Tryz.ntmps137
 go_wp2_with fail
 refine(C1.out _ HR.out).mono ?_;rintro e w1 ⟨rfl,r1,k1⟩;have R1:=aa r1;have K1:=aa k1;clear r1 k1;go_wp2_with fail
 refine(C1.out _ R1.out).mono ?_;rintro e w2 ⟨rfl,r2,k2⟩;have R2:=aa r2;have K2:=ao K1 k2;clear r2 k2;go_wp2_with fail
 refine(T1.out _ R2.out).mono ?_;rintro e w3 ⟨rfl,r3,k3⟩;have R3:=aa r3;have K3:=ao K2 k3;clear r3 k3;go_wp2_with fail
 go_ret2
 exact⟨K3.out.alloc _,_,_,rfl,dJ _ _ _ rfl,R3.out.alloc _,rfl,by omega⟩
theorem Sm (b:Nat) (s:ByteArray) (k:Nat) (w:World) (h:Rd w b s k) (hk:k<s.size) (hc:s[k]=122):Calls Tryz.prog 137 #[.pointer (some ⟨b,0,none⟩)] w (bP b s k w (some ([],(aR s (k+1)).dropWhile oX))):=by
 obtain⟨X,hX⟩ :∃X:ByteArray,X=s.extract k s.size:=⟨_,rfl⟩;have C1:=aa (fun W h=>aA b s k W h)
 have eG:0<X.size:=by rw[hX,aD s k (by omega)];omega
 have sE:X[0]=122:=by subst hX;rw[aS s k hk eG];exact hc
 rw[←hX] at C1;have rm:=bD X eG;have HR:=aa h;have T1:=aa (fun W h=>bq b s k 1 W h (by omega))
 obtain⟨m,hm⟩ :∃m:Nat,m=runN oX (aR s (k+1)):=⟨_,rfl⟩;have C2:=aa (fun W=>wY (s.extract (k+1) s.size) W (by rw[aD s _ (by omega)];have:=h.top;omega))
 rw[cV,←hm] at C2;have zC:=ik oX (aR s (k+1));rw[fR,←hm] at zC;have hdw:(aR s (k+1)).dropWhile oX=aR s (k+1+m):=by rw[←nm,←hm,eV]
 have HD:=aa hdw;clear hX h hc hm hdw;go_enter Tryz.func137,Tryz.ntmps137
 go_wp2_with fail
 refine(C1.out _ HR.out).mono ?_;rintro e w1 ⟨rfl,r1,k1⟩;have R1:=aa r1;have K1:=aa k1;clear r1 k1;go_wp2_with fail
 refine(C1.out _ R1.out).mono ?_;rintro e w2 ⟨rfl,r2,k2⟩;have R2:=aa r2;have K2:=ao K1 k2;clear r2 k2;go_wp2_with fail
 refine(T1.out _ R2.out).mono ?_;rintro e w3 ⟨rfl,r3,k3⟩;have R3:=aa r3;have K3:=ao K2 k3;clear r3 k3;go_wp2_with fail
 refine(aA _ _ _ _ R3.out).mono ?_;rintro e w4 ⟨rfl,r4,k4⟩;have R4:=aa r4;have K4:=ao K3 k4;clear r4 k4;go_wp2_with fail
 refine(C2.out _).mono ?_;rintro e w4' ⟨rfl,rfl⟩;go_wp2_with fail
 refine(bq _ _ _ _ _ R4.out (by omega)).mono ?_;rintro e w5 ⟨rfl,r5,k5⟩
 have R5:=aa r5;have K5:=ao K4 k5;clear r5 k5;go_wp2_with fail
 go_ret2
 exact⟨K5.out,_,_,rfl,.inl ⟨rfl,rfl⟩,R5.out,HD.out.symm,by omega⟩
theorem Sn (b:Nat) (s:ByteArray) (k:Nat) (w:World) (h:Rd w b s k) (hk:k<s.size) (hc:s[k]=120):Calls Tryz.prog 137 #[.pointer (some ⟨b,0,none⟩)] w (bP b s k w (code 16 zB 2 2 (aR s (k+1)))):=by
 obtain⟨X,hX⟩ :∃X:ByteArray,X=s.extract k s.size:=⟨_,rfl⟩;have C1:=aa (fun W h=>aA b s k W h)
 have eG:0<X.size:=by rw[hX,aD s k (by omega)];omega
 have sE:X[0]=120:=by subst hX;rw[aS s k hk eG];exact hc
 rw[←hX] at C1;have rm:=bD X eG;have HR:=aa h;have T1:=aa (fun W h=>bq b s k 1 W h (by omega))
 have C2:=aa (fun W h=>LN b s (k+1) W h)
 obtain⟨o,ho⟩ :∃o,o=code 16 zB 2 2 (aR s (k+1)):=⟨_,rfl⟩;rw[←ho] at C2 ⊢;clear hX h hc ho;rcases o with _ | ⟨m,r⟩
 ·go_enter Tryz.func137,Tryz.ntmps137
  go_wp2_with fail
  refine(C1.out _ HR.out).mono ?_;rintro e w1 ⟨rfl,r1,k1⟩;have R1:=aa r1;have K1:=aa k1;clear r1 k1;go_wp2_with fail
  refine(C1.out _ R1.out).mono ?_;rintro e w2 ⟨rfl,r2,k2⟩;have R2:=aa r2;have K2:=ao K1 k2;clear r2 k2;go_wp2_with fail
  refine(T1.out _ R2.out).mono ?_;rintro e w3 ⟨rfl,r3,k3⟩;have R3:=aa r3;have K3:=ao K2 k3;clear r3 k3;go_wp2_with fail
  refine(C2.out _ R3.out).mono ?_;intro e w4 fX;obtain⟨k4,rfl⟩:=fX;have K4:=ao K3 k4;clear k4;go_wp2_with fail
  go_ret2
  exact⟨K4.out,rfl⟩
 ·go_enter Tryz.func137,Tryz.ntmps137
  go_wp2_with fail
  refine(C1.out _ HR.out).mono ?_;rintro e w1 ⟨rfl,r1,k1⟩;have R1:=aa r1;have K1:=aa k1;clear r1 k1;go_wp2_with fail
  refine(C1.out _ R1.out).mono ?_;rintro e w2 ⟨rfl,r2,k2⟩;have R2:=aa r2;have K2:=ao K1 k2;clear r2 k2;go_wp2_with fail
  refine(T1.out _ R2.out).mono ?_;rintro e w3 ⟨rfl,r3,k3⟩;have R3:=aa r3;have K3:=ao K2 k3;clear r3 k3;go_wp2_with fail
  refine(C2.out _ R3.out).mono ?_;intro e w4 fX;obtain⟨k4,k',v,rfl,hb4,r4,hr4,hl4⟩:=fX;have K4:=ao K3 k4;have R4:=aa r4;have HB:=aa hb4;have HE:=aa hr4;clear k4 r4 hb4 hr4;go_wp2_with fail
  go_ret2
  exact⟨K4.out,_,_,rfl,HB.out,R4.out,HE.out,by omega⟩
theorem XL (b:Nat) (s:ByteArray) (k:Nat) (w:World) (h:Rd w b s k) (hk:k<s.size) (hc:s[k]=48):Calls Tryz.prog 137 #[.pointer (some ⟨b,0,none⟩)] w (bP b s k w (code 10 gr 1 3 (aR s k))):=by
 obtain⟨X,hX⟩ :∃X:ByteArray,X=s.extract k s.size:=⟨_,rfl⟩;have C1:=aa (fun W h=>aA b s k W h)
 have eG:0<X.size:=by rw[hX,aD s k (by omega)];omega
 have sE:X[0]=48:=by subst hX;rw[aS s k hk eG];exact hc
 rw[←hX] at C1;have rm:=bD X eG;have HR:=aa h;have C2:=aa (fun W h=>dP b s k W h)
 obtain⟨o,ho⟩ :∃o,o=code 10 gr 1 3 (aR s k):=⟨_,rfl⟩;rw[←ho] at C2 ⊢;clear hX h hc ho;rcases o with _ | ⟨m,r⟩
 ·go_enter Tryz.func137,Tryz.ntmps137
  go_wp2_with fail
  refine(C1.out _ HR.out).mono ?_;rintro e w1 ⟨rfl,r1,k1⟩;have R1:=aa r1;have K1:=aa k1;clear r1 k1;go_wp2_with fail
  refine(C1.out _ R1.out).mono ?_;rintro e w2 ⟨rfl,r2,k2⟩;have R2:=aa r2;have K2:=ao K1 k2;clear r2 k2;go_wp2_with fail
  refine(C2.out _ R2.out).mono ?_;intro e w4 fX;obtain⟨k4,rfl⟩:=fX;have K4:=ao K2 k4;clear k4;go_wp2_with fail
  go_ret2
  exact⟨K4.out,rfl⟩
 ·go_enter Tryz.func137,Tryz.ntmps137
  go_wp2_with fail
  refine(C1.out _ HR.out).mono ?_;rintro e w1 ⟨rfl,r1,k1⟩;have R1:=aa r1;have K1:=aa k1;clear r1 k1;go_wp2_with fail
  refine(C1.out _ R1.out).mono ?_;rintro e w2 ⟨rfl,r2,k2⟩;have R2:=aa r2;have K2:=ao K1 k2;clear r2 k2;go_wp2_with fail
  refine(C2.out _ R2.out).mono ?_;intro e w4 fX;obtain⟨k4,k',v,rfl,hb4,r4,hr4,hl4⟩:=fX;have K4:=ao K2 k4;have R4:=aa r4;have HB:=aa hb4;have HE:=aa hr4;clear k4 r4 hb4 hr4;go_wp2_with fail
  go_ret2
  exact⟨K4.out,_,_,rfl,HB.out,R4.out,HE.out,by omega⟩
theorem XM (b:Nat) (s:ByteArray) (k:Nat) (w:World) (h:Rd w b s k) (hk:k<s.size) (hc:s[k]=49):Calls Tryz.prog 137 #[.pointer (some ⟨b,0,none⟩)] w (bP b s k w (code 10 gr 1 3 (aR s k))):=by
 obtain⟨X,hX⟩ :∃X:ByteArray,X=s.extract k s.size:=⟨_,rfl⟩;have C1:=aa (fun W h=>aA b s k W h)
 have eG:0<X.size:=by rw[hX,aD s k (by omega)];omega
 have sE:X[0]=49:=by subst hX;rw[aS s k hk eG];exact hc
 rw[←hX] at C1;have rm:=bD X eG;have HR:=aa h;have C2:=aa (fun W h=>dP b s k W h)
 obtain⟨o,ho⟩ :∃o,o=code 10 gr 1 3 (aR s k):=⟨_,rfl⟩;rw[←ho] at C2 ⊢;clear hX h hc ho;rcases o with _ | ⟨m,r⟩
 ·go_enter Tryz.func137,Tryz.ntmps137
  go_wp2_with fail
  refine(C1.out _ HR.out).mono ?_;rintro e w1 ⟨rfl,r1,k1⟩;have R1:=aa r1;have K1:=aa k1;clear r1 k1;go_wp2_with fail
  refine(C1.out _ R1.out).mono ?_;rintro e w2 ⟨rfl,r2,k2⟩;have R2:=aa r2;have K2:=ao K1 k2;clear r2 k2;go_wp2_with fail
  refine(C2.out _ R2.out).mono ?_;intro e w4 fX;obtain⟨k4,rfl⟩:=fX;have K4:=ao K2 k4;clear k4;go_wp2_with fail
  go_ret2
  exact⟨K4.out,rfl⟩
 ·go_enter Tryz.func137,Tryz.ntmps137
  go_wp2_with fail
  refine(C1.out _ HR.out).mono ?_;rintro e w1 ⟨rfl,r1,k1⟩;have R1:=aa r1;have K1:=aa k1;clear r1 k1;go_wp2_with fail
  refine(C1.out _ R1.out).mono ?_;rintro e w2 ⟨rfl,r2,k2⟩;have R2:=aa r2;have K2:=ao K1 k2;clear r2 k2;go_wp2_with fail
  refine(C2.out _ R2.out).mono ?_;intro e w4 fX;obtain⟨k4,k',v,rfl,hb4,r4,hr4,hl4⟩:=fX;have K4:=ao K2 k4;have R4:=aa r4;have HB:=aa hb4;have HE:=aa hr4;clear k4 r4 hb4 hr4;go_wp2_with fail
  go_ret2
  exact⟨K4.out,_,_,rfl,HB.out,R4.out,HE.out,by omega⟩
theorem XN (b:Nat) (s:ByteArray) (k:Nat) (w:World) (h:Rd w b s k) (hk:k<s.size) (hc:s[k]=50):Calls Tryz.prog 137 #[.pointer (some ⟨b,0,none⟩)] w (bP b s k w (code 10 gr 1 3 (aR s k))):=by
 obtain⟨X,hX⟩ :∃X:ByteArray,X=s.extract k s.size:=⟨_,rfl⟩;have C1:=aa (fun W h=>aA b s k W h)
 have eG:0<X.size:=by rw[hX,aD s k (by omega)];omega
 have sE:X[0]=50:=by subst hX;rw[aS s k hk eG];exact hc
 rw[←hX] at C1;have rm:=bD X eG;have HR:=aa h;have C2:=aa (fun W h=>dP b s k W h)
 obtain⟨o,ho⟩ :∃o,o=code 10 gr 1 3 (aR s k):=⟨_,rfl⟩;rw[←ho] at C2 ⊢;clear hX h hc ho;rcases o with _ | ⟨m,r⟩
 ·go_enter Tryz.func137,Tryz.ntmps137
  go_wp2_with fail
  refine(C1.out _ HR.out).mono ?_;rintro e w1 ⟨rfl,r1,k1⟩;have R1:=aa r1;have K1:=aa k1;clear r1 k1;go_wp2_with fail
  refine(C1.out _ R1.out).mono ?_;rintro e w2 ⟨rfl,r2,k2⟩;have R2:=aa r2;have K2:=ao K1 k2;clear r2 k2;go_wp2_with fail
  refine(C2.out _ R2.out).mono ?_;intro e w4 fX;obtain⟨k4,rfl⟩:=fX;have K4:=ao K2 k4;clear k4;go_wp2_with fail
  go_ret2
  exact⟨K4.out,rfl⟩
 ·go_enter Tryz.func137,Tryz.ntmps137
  go_wp2_with fail
  refine(C1.out _ HR.out).mono ?_;rintro e w1 ⟨rfl,r1,k1⟩;have R1:=aa r1;have K1:=aa k1;clear r1 k1;go_wp2_with fail
  refine(C1.out _ R1.out).mono ?_;rintro e w2 ⟨rfl,r2,k2⟩;have R2:=aa r2;have K2:=ao K1 k2;clear r2 k2;go_wp2_with fail
  refine(C2.out _ R2.out).mono ?_;intro e w4 fX;obtain⟨k4,k',v,rfl,hb4,r4,hr4,hl4⟩:=fX;have K4:=ao K2 k4;have R4:=aa r4;have HB:=aa hb4;have HE:=aa hr4;clear k4 r4 hb4 hr4;go_wp2_with fail
  go_ret2
  exact⟨K4.out,_,_,rfl,HB.out,R4.out,HE.out,by omega⟩
theorem XO (b:Nat) (s:ByteArray) (k:Nat) (w:World) (h:Rd w b s k) (hk:k<s.size) (hc:s[k]=51):Calls Tryz.prog 137 #[.pointer (some ⟨b,0,none⟩)] w (bP b s k w (code 10 gr 1 3 (aR s k))):=by
 obtain⟨X,hX⟩ :∃X:ByteArray,X=s.extract k s.size:=⟨_,rfl⟩;have C1:=aa (fun W h=>aA b s k W h)
 have eG:0<X.size:=by rw[hX,aD s k (by omega)];omega
 have sE:X[0]=51:=by subst hX;rw[aS s k hk eG];exact hc
 rw[←hX] at C1;have rm:=bD X eG;have HR:=aa h;have C2:=aa (fun W h=>dP b s k W h)
 obtain⟨o,ho⟩ :∃o,o=code 10 gr 1 3 (aR s k):=⟨_,rfl⟩;rw[←ho] at C2 ⊢;clear hX h hc ho;rcases o with _ | ⟨m,r⟩
 ·go_enter Tryz.func137,Tryz.ntmps137
  go_wp2_with fail
  refine(C1.out _ HR.out).mono ?_;rintro e w1 ⟨rfl,r1,k1⟩;have R1:=aa r1;have K1:=aa k1;clear r1 k1;go_wp2_with fail
  refine(C1.out _ R1.out).mono ?_;rintro e w2 ⟨rfl,r2,k2⟩;have R2:=aa r2;have K2:=ao K1 k2;clear r2 k2;go_wp2_with fail
  refine(C2.out _ R2.out).mono ?_;intro e w4 fX;obtain⟨k4,rfl⟩:=fX;have K4:=ao K2 k4;clear k4;go_wp2_with fail
  go_ret2
  exact⟨K4.out,rfl⟩
 ·go_enter Tryz.func137,Tryz.ntmps137
  go_wp2_with fail
  refine(C1.out _ HR.out).mono ?_;rintro e w1 ⟨rfl,r1,k1⟩;have R1:=aa r1;have K1:=aa k1;clear r1 k1;go_wp2_with fail
  refine(C1.out _ R1.out).mono ?_;rintro e w2 ⟨rfl,r2,k2⟩;have R2:=aa r2;have K2:=ao K1 k2;clear r2 k2;go_wp2_with fail
  refine(C2.out _ R2.out).mono ?_;intro e w4 fX;obtain⟨k4,k',v,rfl,hb4,r4,hr4,hl4⟩:=fX;have K4:=ao K2 k4;have R4:=aa r4;have HB:=aa hb4;have HE:=aa hr4;clear k4 r4 hb4 hr4;go_wp2_with fail
  go_ret2
  exact⟨K4.out,_,_,rfl,HB.out,R4.out,HE.out,by omega⟩
theorem XP (b:Nat) (s:ByteArray) (k:Nat) (w:World) (h:Rd w b s k) (hk:k<s.size) (hc:s[k]=52):Calls Tryz.prog 137 #[.pointer (some ⟨b,0,none⟩)] w (bP b s k w (code 10 gr 1 3 (aR s k))):=by
 obtain⟨X,hX⟩ :∃X:ByteArray,X=s.extract k s.size:=⟨_,rfl⟩;have C1:=aa (fun W h=>aA b s k W h)
 have eG:0<X.size:=by rw[hX,aD s k (by omega)];omega
 have sE:X[0]=52:=by subst hX;rw[aS s k hk eG];exact hc
 rw[←hX] at C1;have rm:=bD X eG;have HR:=aa h;have C2:=aa (fun W h=>dP b s k W h)
 obtain⟨o,ho⟩ :∃o,o=code 10 gr 1 3 (aR s k):=⟨_,rfl⟩;rw[←ho] at C2 ⊢;clear hX h hc ho;rcases o with _ | ⟨m,r⟩
 ·go_enter Tryz.func137,Tryz.ntmps137
  go_wp2_with fail
  refine(C1.out _ HR.out).mono ?_;rintro e w1 ⟨rfl,r1,k1⟩;have R1:=aa r1;have K1:=aa k1;clear r1 k1;go_wp2_with fail
  refine(C1.out _ R1.out).mono ?_;rintro e w2 ⟨rfl,r2,k2⟩;have R2:=aa r2;have K2:=ao K1 k2;clear r2 k2;go_wp2_with fail
  refine(C2.out _ R2.out).mono ?_;intro e w4 fX;obtain⟨k4,rfl⟩:=fX;have K4:=ao K2 k4;clear k4;go_wp2_with fail
  go_ret2
  exact⟨K4.out,rfl⟩
 ·go_enter Tryz.func137,Tryz.ntmps137
  go_wp2_with fail
  refine(C1.out _ HR.out).mono ?_;rintro e w1 ⟨rfl,r1,k1⟩;have R1:=aa r1;have K1:=aa k1;clear r1 k1;go_wp2_with fail
  refine(C1.out _ R1.out).mono ?_;rintro e w2 ⟨rfl,r2,k2⟩;have R2:=aa r2;have K2:=ao K1 k2;clear r2 k2;go_wp2_with fail
  refine(C2.out _ R2.out).mono ?_;intro e w4 fX;obtain⟨k4,k',v,rfl,hb4,r4,hr4,hl4⟩:=fX;have K4:=ao K2 k4;have R4:=aa r4;have HB:=aa hb4;have HE:=aa hr4;clear k4 r4 hb4 hr4;go_wp2_with fail
  go_ret2
  exact⟨K4.out,_,_,rfl,HB.out,R4.out,HE.out,by omega⟩
theorem XQ (b:Nat) (s:ByteArray) (k:Nat) (w:World) (h:Rd w b s k) (hk:k<s.size) (hc:s[k]=53):Calls Tryz.prog 137 #[.pointer (some ⟨b,0,none⟩)] w (bP b s k w (code 10 gr 1 3 (aR s k))):=by
 obtain⟨X,hX⟩ :∃X:ByteArray,X=s.extract k s.size:=⟨_,rfl⟩;have C1:=aa (fun W h=>aA b s k W h)
 have eG:0<X.size:=by rw[hX,aD s k (by omega)];omega
 have sE:X[0]=53:=by subst hX;rw[aS s k hk eG];exact hc
 rw[←hX] at C1;have rm:=bD X eG;have HR:=aa h;have C2:=aa (fun W h=>dP b s k W h)
 obtain⟨o,ho⟩ :∃o,o=code 10 gr 1 3 (aR s k):=⟨_,rfl⟩;rw[←ho] at C2 ⊢;clear hX h hc ho;rcases o with _ | ⟨m,r⟩
 ·go_enter Tryz.func137,Tryz.ntmps137
  go_wp2_with fail
  refine(C1.out _ HR.out).mono ?_;rintro e w1 ⟨rfl,r1,k1⟩;have R1:=aa r1;have K1:=aa k1;clear r1 k1;go_wp2_with fail
  refine(C1.out _ R1.out).mono ?_;rintro e w2 ⟨rfl,r2,k2⟩;have R2:=aa r2;have K2:=ao K1 k2;clear r2 k2;go_wp2_with fail
  refine(C2.out _ R2.out).mono ?_;intro e w4 fX;obtain⟨k4,rfl⟩:=fX;have K4:=ao K2 k4;clear k4;go_wp2_with fail
  go_ret2
  exact⟨K4.out,rfl⟩
 ·go_enter Tryz.func137,Tryz.ntmps137
  go_wp2_with fail
  refine(C1.out _ HR.out).mono ?_;rintro e w1 ⟨rfl,r1,k1⟩;have R1:=aa r1;have K1:=aa k1;clear r1 k1;go_wp2_with fail
  refine(C1.out _ R1.out).mono ?_;rintro e w2 ⟨rfl,r2,k2⟩;have R2:=aa r2;have K2:=ao K1 k2;clear r2 k2;go_wp2_with fail
  refine(C2.out _ R2.out).mono ?_;intro e w4 fX;obtain⟨k4,k',v,rfl,hb4,r4,hr4,hl4⟩:=fX;have K4:=ao K2 k4;have R4:=aa r4;have HB:=aa hb4;have HE:=aa hr4;clear k4 r4 hb4 hr4;go_wp2_with fail
  go_ret2
  exact⟨K4.out,_,_,rfl,HB.out,R4.out,HE.out,by omega⟩
theorem XS (b:Nat) (s:ByteArray) (k:Nat) (w:World) (h:Rd w b s k) (hk:k<s.size) (hc:s[k]=54):Calls Tryz.prog 137 #[.pointer (some ⟨b,0,none⟩)] w (bP b s k w (code 10 gr 1 3 (aR s k))):=by
 obtain⟨X,hX⟩ :∃X:ByteArray,X=s.extract k s.size:=⟨_,rfl⟩;have C1:=aa (fun W h=>aA b s k W h)
 have eG:0<X.size:=by rw[hX,aD s k (by omega)];omega
 have sE:X[0]=54:=by subst hX;rw[aS s k hk eG];exact hc
 rw[←hX] at C1;have rm:=bD X eG;have HR:=aa h;have C2:=aa (fun W h=>dP b s k W h)
 obtain⟨o,ho⟩ :∃o,o=code 10 gr 1 3 (aR s k):=⟨_,rfl⟩;rw[←ho] at C2 ⊢;clear hX h hc ho;rcases o with _ | ⟨m,r⟩
 ·go_enter Tryz.func137,Tryz.ntmps137
  go_wp2_with fail
  refine(C1.out _ HR.out).mono ?_;rintro e w1 ⟨rfl,r1,k1⟩;have R1:=aa r1;have K1:=aa k1;clear r1 k1;go_wp2_with fail
  refine(C1.out _ R1.out).mono ?_;rintro e w2 ⟨rfl,r2,k2⟩;have R2:=aa r2;have K2:=ao K1 k2;clear r2 k2;go_wp2_with fail
  refine(C2.out _ R2.out).mono ?_;intro e w4 fX;obtain⟨k4,rfl⟩:=fX;have K4:=ao K2 k4;clear k4;go_wp2_with fail
  go_ret2
  exact⟨K4.out,rfl⟩
 ·go_enter Tryz.func137,Tryz.ntmps137
  go_wp2_with fail
  refine(C1.out _ HR.out).mono ?_;rintro e w1 ⟨rfl,r1,k1⟩;have R1:=aa r1;have K1:=aa k1;clear r1 k1;go_wp2_with fail
  refine(C1.out _ R1.out).mono ?_;rintro e w2 ⟨rfl,r2,k2⟩;have R2:=aa r2;have K2:=ao K1 k2;clear r2 k2;go_wp2_with fail
  refine(C2.out _ R2.out).mono ?_;intro e w4 fX;obtain⟨k4,k',v,rfl,hb4,r4,hr4,hl4⟩:=fX;have K4:=ao K2 k4;have R4:=aa r4;have HB:=aa hb4;have HE:=aa hr4;clear k4 r4 hb4 hr4;go_wp2_with fail
  go_ret2
  exact⟨K4.out,_,_,rfl,HB.out,R4.out,HE.out,by omega⟩
theorem XT (b:Nat) (s:ByteArray) (k:Nat) (w:World) (h:Rd w b s k) (hk:k<s.size) (hc:s[k]=55):Calls Tryz.prog 137 #[.pointer (some ⟨b,0,none⟩)] w (bP b s k w (code 10 gr 1 3 (aR s k))):=by
 obtain⟨X,hX⟩ :∃X:ByteArray,X=s.extract k s.size:=⟨_,rfl⟩;have C1:=aa (fun W h=>aA b s k W h)
 have eG:0<X.size:=by rw[hX,aD s k (by omega)];omega
 have sE:X[0]=55:=by subst hX;rw[aS s k hk eG];exact hc
 rw[←hX] at C1;have rm:=bD X eG;have HR:=aa h;have C2:=aa (fun W h=>dP b s k W h)
 obtain⟨o,ho⟩ :∃o,o=code 10 gr 1 3 (aR s k):=⟨_,rfl⟩;rw[←ho] at C2 ⊢;clear hX h hc ho;rcases o with _ | ⟨m,r⟩
 ·go_enter Tryz.func137,Tryz.ntmps137
  go_wp2_with fail
  refine(C1.out _ HR.out).mono ?_;rintro e w1 ⟨rfl,r1,k1⟩;have R1:=aa r1;have K1:=aa k1;clear r1 k1;go_wp2_with fail
  refine(C1.out _ R1.out).mono ?_;rintro e w2 ⟨rfl,r2,k2⟩;have R2:=aa r2;have K2:=ao K1 k2;clear r2 k2;go_wp2_with fail
  refine(C2.out _ R2.out).mono ?_;intro e w4 fX;obtain⟨k4,rfl⟩:=fX;have K4:=ao K2 k4;clear k4;go_wp2_with fail
  go_ret2
  exact⟨K4.out,rfl⟩
 ·go_enter Tryz.func137,Tryz.ntmps137
  go_wp2_with fail
  refine(C1.out _ HR.out).mono ?_;rintro e w1 ⟨rfl,r1,k1⟩;have R1:=aa r1;have K1:=aa k1;clear r1 k1;go_wp2_with fail
  refine(C1.out _ R1.out).mono ?_;rintro e w2 ⟨rfl,r2,k2⟩;have R2:=aa r2;have K2:=ao K1 k2;clear r2 k2;go_wp2_with fail
  refine(C2.out _ R2.out).mono ?_;intro e w4 fX;obtain⟨k4,k',v,rfl,hb4,r4,hr4,hl4⟩:=fX;have K4:=ao K2 k4;have R4:=aa r4;have HB:=aa hb4;have HE:=aa hr4;clear k4 r4 hb4 hr4;go_wp2_with fail
  go_ret2
  exact⟨K4.out,_,_,rfl,HB.out,R4.out,HE.out,by omega⟩
theorem XU (b:Nat) (s:ByteArray) (k:Nat) (w:World) (h:Rd w b s k) (hk:k<s.size) (hc:s[k]=56):Calls Tryz.prog 137 #[.pointer (some ⟨b,0,none⟩)] w (bP b s k w (code 10 gr 1 3 (aR s k))):=by
 obtain⟨X,hX⟩ :∃X:ByteArray,X=s.extract k s.size:=⟨_,rfl⟩;have C1:=aa (fun W h=>aA b s k W h)
 have eG:0<X.size:=by rw[hX,aD s k (by omega)];omega
 have sE:X[0]=56:=by subst hX;rw[aS s k hk eG];exact hc
 rw[←hX] at C1;have rm:=bD X eG;have HR:=aa h;have C2:=aa (fun W h=>dP b s k W h)
 obtain⟨o,ho⟩ :∃o,o=code 10 gr 1 3 (aR s k):=⟨_,rfl⟩;rw[←ho] at C2 ⊢;clear hX h hc ho;rcases o with _ | ⟨m,r⟩
 ·go_enter Tryz.func137,Tryz.ntmps137
  go_wp2_with fail
  refine(C1.out _ HR.out).mono ?_;rintro e w1 ⟨rfl,r1,k1⟩;have R1:=aa r1;have K1:=aa k1;clear r1 k1;go_wp2_with fail
  refine(C1.out _ R1.out).mono ?_;rintro e w2 ⟨rfl,r2,k2⟩;have R2:=aa r2;have K2:=ao K1 k2;clear r2 k2;go_wp2_with fail
  refine(C2.out _ R2.out).mono ?_;intro e w4 fX;obtain⟨k4,rfl⟩:=fX;have K4:=ao K2 k4;clear k4;go_wp2_with fail
  go_ret2
  exact⟨K4.out,rfl⟩
 ·go_enter Tryz.func137,Tryz.ntmps137
  go_wp2_with fail
  refine(C1.out _ HR.out).mono ?_;rintro e w1 ⟨rfl,r1,k1⟩;have R1:=aa r1;have K1:=aa k1;clear r1 k1;go_wp2_with fail
  refine(C1.out _ R1.out).mono ?_;rintro e w2 ⟨rfl,r2,k2⟩;have R2:=aa r2;have K2:=ao K1 k2;clear r2 k2;go_wp2_with fail
  refine(C2.out _ R2.out).mono ?_;intro e w4 fX;obtain⟨k4,k',v,rfl,hb4,r4,hr4,hl4⟩:=fX;have K4:=ao K2 k4;have R4:=aa r4;have HB:=aa hb4;have HE:=aa hr4;clear k4 r4 hb4 hr4;go_wp2_with fail
  go_ret2
  exact⟨K4.out,_,_,rfl,HB.out,R4.out,HE.out,by omega⟩
theorem XV (b:Nat) (s:ByteArray) (k:Nat) (w:World) (h:Rd w b s k) (hk:k<s.size) (hc:s[k]=57):Calls Tryz.prog 137 #[.pointer (some ⟨b,0,none⟩)] w (bP b s k w (code 10 gr 1 3 (aR s k))):=by
 obtain⟨X,hX⟩ :∃X:ByteArray,X=s.extract k s.size:=⟨_,rfl⟩;have C1:=aa (fun W h=>aA b s k W h)
 have eG:0<X.size:=by rw[hX,aD s k (by omega)];omega
 have sE:X[0]=57:=by subst hX;rw[aS s k hk eG];exact hc
 rw[←hX] at C1;have rm:=bD X eG;have HR:=aa h;have C2:=aa (fun W h=>dP b s k W h)
 obtain⟨o,ho⟩ :∃o,o=code 10 gr 1 3 (aR s k):=⟨_,rfl⟩;rw[←ho] at C2 ⊢;clear hX h hc ho;rcases o with _ | ⟨m,r⟩
 ·go_enter Tryz.func137,Tryz.ntmps137
  go_wp2_with fail
  refine(C1.out _ HR.out).mono ?_;rintro e w1 ⟨rfl,r1,k1⟩;have R1:=aa r1;have K1:=aa k1;clear r1 k1;go_wp2_with fail
  refine(C1.out _ R1.out).mono ?_;rintro e w2 ⟨rfl,r2,k2⟩;have R2:=aa r2;have K2:=ao K1 k2;clear r2 k2;go_wp2_with fail
  refine(C2.out _ R2.out).mono ?_;intro e w4 fX;obtain⟨k4,rfl⟩:=fX;have K4:=ao K2 k4;clear k4;go_wp2_with fail
  go_ret2
  exact⟨K4.out,rfl⟩
 ·go_enter Tryz.func137,Tryz.ntmps137
  go_wp2_with fail
  refine(C1.out _ HR.out).mono ?_;rintro e w1 ⟨rfl,r1,k1⟩;have R1:=aa r1;have K1:=aa k1;clear r1 k1;go_wp2_with fail
  refine(C1.out _ R1.out).mono ?_;rintro e w2 ⟨rfl,r2,k2⟩;have R2:=aa r2;have K2:=ao K1 k2;clear r2 k2;go_wp2_with fail
  refine(C2.out _ R2.out).mono ?_;intro e w4 fX;obtain⟨k4,k',v,rfl,hb4,r4,hr4,hl4⟩:=fX;have K4:=ao K2 k4;have R4:=aa r4;have HB:=aa hb4;have HE:=aa hr4;clear k4 r4 hb4 hr4;go_wp2_with fail
  go_ret2
  exact⟨K4.out,_,_,rfl,HB.out,R4.out,HE.out,by omega⟩
theorem Hn (b:Nat) (s:ByteArray) (k:Nat) (w:World) (h:Rd w b s k) (hk:k<s.size) (c:UInt8) (hc:s[k]=c) (hn :∀v∈[97,98,102,110,114,116,118,92,39,34,10,122,120,48,49,50,51,52,53,54,55,56,57],c.toNat≠v):Calls Tryz.prog 137 #[.pointer (some ⟨b,0,none⟩)] w (bP b s k w (none)):=by
 obtain⟨X,hX⟩ :∃X:ByteArray,X=s.extract k s.size:=⟨_,rfl⟩;have C1:=aa (fun W h=>aA b s k W h)
 have eG:0<X.size:=by rw[hX,aD s k (by omega)];omega
 have sE:X[0]=c:=by subst hX;rw[aS s k hk eG];exact hc
 rw[←hX] at C1;have rm:=bD X eG;have HR:=aa h;have g97:((c.toNat:Int) == 97)=false:=aE.2 (by have:=hn 97 (by decide);omega)
 have g98:((c.toNat:Int) == 98)=false:=aE.2 (by have:=hn 98 (by decide);omega)
 have g102:((c.toNat:Int) == 102)=false:=aE.2 (by have:=hn 102 (by decide);omega)
 have g110:((c.toNat:Int) == 110)=false:=aE.2 (by have:=hn 110 (by decide);omega)
 have g114:((c.toNat:Int) == 114)=false:=aE.2 (by have:=hn 114 (by decide);omega)
 have g116:((c.toNat:Int) == 116)=false:=aE.2 (by have:=hn 116 (by decide);omega)
 have g118:((c.toNat:Int) == 118)=false:=aE.2 (by have:=hn 118 (by decide);omega)
 have g92:((c.toNat:Int) == 92)=false:=aE.2 (by have:=hn 92 (by decide);omega)
 have g39:((c.toNat:Int) == 39)=false:=aE.2 (by have:=hn 39 (by decide);omega)
 have g34:((c.toNat:Int) == 34)=false:=aE.2 (by have:=hn 34 (by decide);omega)
 have g10:((c.toNat:Int) == 10)=false:=aE.2 (by have:=hn 10 (by decide);omega)
 have g122:((c.toNat:Int) == 122)=false:=aE.2 (by have:=hn 122 (by decide);omega)
 have g120:((c.toNat:Int) == 120)=false:=aE.2 (by have:=hn 120 (by decide);omega)
 have g48:((c.toNat:Int) == 48)=false:=aE.2 (by have:=hn 48 (by decide);omega)
 have g49:((c.toNat:Int) == 49)=false:=aE.2 (by have:=hn 49 (by decide);omega)
 have g50:((c.toNat:Int) == 50)=false:=aE.2 (by have:=hn 50 (by decide);omega)
 have g51:((c.toNat:Int) == 51)=false:=aE.2 (by have:=hn 51 (by decide);omega)
 have g52:((c.toNat:Int) == 52)=false:=aE.2 (by have:=hn 52 (by decide);omega)
 have g53:((c.toNat:Int) == 53)=false:=aE.2 (by have:=hn 53 (by decide);omega)
 have g54:((c.toNat:Int) == 54)=false:=aE.2 (by have:=hn 54 (by decide);omega)
 have g55:((c.toNat:Int) == 55)=false:=aE.2 (by have:=hn 55 (by decide);omega)
 have g56:((c.toNat:Int) == 56)=false:=aE.2 (by have:=hn 56 (by decide);omega)
 have g57:((c.toNat:Int) == 57)=false:=aE.2 (by have:=hn 57 (by decide);omega)
 clear hX h hc hn;go_enter Tryz.func137,Tryz.ntmps137
 go_wp2_with fail
 refine(C1.out _ HR.out).mono ?_;rintro e w1 ⟨rfl,r1,k1⟩;have R1:=aa r1;have K1:=aa k1;clear r1 k1;go_wp2_with fail
 refine(C1.out _ R1.out).mono ?_;rintro e w2 ⟨rfl,r2,k2⟩;have R2:=aa r2;have K2:=ao K1 k2;clear r2 k2;go_wp2_with fail
 go_ret2
 exact⟨K2.out,rfl⟩
end Go.Proofs.YteflkdlaoiijbaaGreatDoor
