/- Parts of the proof. -/
import Derived.Lib.SlTrimSet
import Derived.Lib.ItoaNum
import Derived.Lib.IndexMore
import Derived.Lib.Replace
import Derived.Lib.Bytealg
import Derived.Shelf.Strings.Builder1
import Derived.Shelf.Strings.Builder2
import Derived.Shelf.Strings.Trim
import Derived.Shelf.Small.Utf8
import Derived.Shelf.Small.Strs
import Derived.Shelf.Small.Wraps
import Derived.Shelf.Strings.Search1
import Derived.Shelf.Strings.Search2
import Derived.Shelf.Strings.Search3
import Derived.Shelf.Strings.Cut
import Derived.Shelf.Strings.Count
import Derived.Shelf.LaysM
import Derived.Shelf.Strings.Shaped
import Derived.Shelf.Strings.Prefix
import Derived.Shelf.Strings.Split
import Derived.Shelf.Strings.Replace
import Derived.Shelf.Strings.SplitShaped
import Derived.Shelf.Strings.Runes
import Derived.Shelf.Strings.AsciiSet
import Derived.Shelf.Unicode.DecodeSlow
import Derived.Shelf.Strings.SlTrimAscii
import Derived.Lib.SplitLaws
import Derived.RangeFuncBox
import Derived.Maps.AppendAt
import Derived.Test.YtodmcdfeldkocaaGreatDoorK07
set_option maxHeartbeats 16000000
set_option maxRecDepth 20000
namespace Go.Proofs.YtodmcdfeldkocaaGreatDoor
open Go.RowKit
theorem YF {T:List Nd} {B b:Nat} {nv:Value} {ub ob:Nat} (gj :∀x∈T,x.s.size≤65536∧∀s∈x.names,s.size≤65536):Wj T B b nv ub ob:=fun i h ks hn gX hk=>NR gj i h ks hn gX hk
theorem IZ {T:List Nd} {B b:Nat} {nv:Value} {ub ob:Nat} (gj :∀x∈T,x.s.size≤65536∧∀s∈x.names,s.size≤65536) (t:Lt) (hn:gW T t):bA T B b nv ub ob t:=xL gj (YF gj) t.size t (ag _) hn
structure Sml (T:List Nd):Prop where
 kids :∀x∈T,x.kids.length≤20000∧x.names.length≤20000
 size :∀x∈T,x.s.size≤65536∧∀s∈x.names,s.size≤65536
theorem Sml.szd {T:List Nd} (h:Sml T):Szd T:=fun x hx=>by have:=(h.kids x hx).2;omega
theorem vr (v:Value) (T:List Nd) (r:Int) (w:World) (h:iI w v T r) (hs:Szd T) (hR:eY T r=false):Calls Tryz.prog 10 #[v] w fun e w'=>Below w.heap.size w w'∧∃u,e=.returned (.tuple #[qH,u])∧tl w' u 0 4:=by
 have HT:=aa h;have HS:=aa hs;have HR:=aa hR;obtain⟨nv,rfl,A,c,rfl,hc,hn⟩:=h;clear hs hn hR;go_enter Tryz.func10,Tryz.ntmps10
 go_wp2_with fail
 obtain⟨W1,hW1⟩ :∃W1,W1=(w.alloc (.cells #[.slice A T.length c,.int .i64 r] 24)).alloc (.cells #[.slice none 0 0,.slice none 0 0,.slice none 0 0] 35):=⟨_,rfl⟩;have hb1:Below w.heap.size w W1:=by rw[hW1];exact Below.two _ _
 have hs1:W1.heap.size=w.heap.size+1+1:=by rw[hW1,ao,ao]
 have hsc:W1.heap[w.heap.size+1]? = some (.cells #[.slice none 0 0,.slice none 0 0,.slice none 0 0] 35 (0,0)):=by
  rw[hW1];have:=heap_alloc_new (w.alloc (.cells #[.slice A T.length c,.int .i64 r] 24)) (.cells #[.slice none 0 0,.slice none 0 0,.slice none 0 0] 35);rwa[ao] at this
 rw[←hW1];have dU:=aa hb1;have HSC:=aa hsc;have fj:=aa hs1;clear hW1 hb1 hsc hs1;refine(xM _ T r W1 (HT.out.below dU.out) HS.out).mono ?_;rintro e w2 ⟨rfl,b2⟩;have B2:=aa b2;clear b2;rw[HR.out];have rV:=(B2.out.block (w.heap.size+1) (by rw[fj.out];omega)).trans HSC.out
 have z0:=aE rV 0;have z1:=aE rV 1;have z2:=aE rV 2;have y0:w2.cell? ⟨w.heap.size+1,0,none⟩=some (.slice none 0 0):=ab rV 0;have y1:w2.cell? ⟨w.heap.size+1,1,none⟩=some (.slice none 0 0):=ab rV 1;have y2:w2.cell? ⟨w.heap.size+1,2,none⟩=some (.slice none 0 0):=ab rV 2;have hl2:w.heap.size+1<w2.heap.size:=(aM.1 rV).1;have SQ:=aa rV;clear rV;go_wp2_with fail
 have h3:=bE (bE (bE SQ.out 0 (.slice none 0 0)) 1 (.slice none 0 0)) 2 (.slice none 0 0);have hb3:Below w.heap.size w2 (((w2.setCell ⟨w.heap.size+1,0,none⟩ (.slice none 0 0)).setCell ⟨w.heap.size+1,1,none⟩ (.slice none 0 0)).setCell ⟨w.heap.size+1,2,none⟩ (.slice none 0 0)):=(((Below.refl _ _).setCell (p:=⟨w.heap.size+1,0,none⟩) (by show _≤w.heap.size+1;omega) _).setCell (p:=⟨w.heap.size+1,1,none⟩) (by show _≤w.heap.size+1;omega) _).setCell (p:=⟨w.heap.size+1,2,none⟩) (by show _≤w.heap.size+1;omega) _
 have hs3:(((w2.setCell ⟨w.heap.size+1,0,none⟩ (.slice none 0 0)).setCell ⟨w.heap.size+1,1,none⟩ (.slice none 0 0)).setCell ⟨w.heap.size+1,2,none⟩ (.slice none 0 0)).heap.size=w2.heap.size:=by simp[World.setCell]
 generalize ((w2.setCell ⟨w.heap.size+1,0,none⟩ (.slice none 0 0)).setCell ⟨w.heap.size+1,1,none⟩ (.slice none 0 0)).setCell ⟨w.heap.size+1,2,none⟩ (.slice none 0 0)=W3 at h3 hb3 hs3 ⊢;rw[←hs3];have h4:=(Below.heap_alloc W3 (.cells #[.int .i64 0,.iface 60 (.int .i64 4)] 62) _ (aM.1 h3).1).trans h3;have pF:=heap_alloc_new W3 (.cells #[.int .i64 0,.iface 60 (.int .i64 4)] 62);have c0:(W3.alloc (.cells #[.int .i64 0,.iface 60 (.int .i64 4)] 62)).cell? ⟨w.heap.size+1,0,none⟩=some (.slice none 0 0):=ab h4 0;have c1:(W3.alloc (.cells #[.int .i64 0,.iface 60 (.int .i64 4)] 62)).cell? ⟨w.heap.size+1,1,none⟩=some (.slice none 0 0):=ab h4 1;have c2:(W3.alloc (.cells #[.int .i64 0,.iface 60 (.int .i64 4)] 62)).cell? ⟨w.heap.size+1,2,none⟩=some (.slice none 0 0):=ab h4 2;refine bodyPost_ret (v:=.tuple #[qH,.iface 59 (.pointer (some ⟨W3.heap.size,0,none⟩))]) (by simp[results,Tryz.results10,go_sem,qH,c0,c1,c2]) rfl ⟨((dU.out.trans (B2.out.mono dU.out.size)).trans hb3).trans ((Below.refl _ _).alloc (by have:=dU.out.size;omega) _),_,rfl,_,rfl,pF⟩
theorem sW (v:Value) (T:List Nd) (r:Int) (w:World) (h:iI w v T r) (hs:Sml T) (hR:eY T r=true) (t:Lt) (hr:(t.loc:Int)=r) (hn:gW T t) (kJ:t.hd.kind=18) (hN:T.length≤16384) (hwt:t.wt≤50000) (hsz:t.size=T.length):Calls Tryz.prog 10 #[v] w fun e w'=>Below w.heap.size w w'∧FT w.heap.size T.length (oB t) e w':=by
 have HT:=aa h;have HS:=aa hs;have HR:=aa hR;have Yh:=aa hn;have H18:=aa kJ;have HWT:=aa hwt;have qo:=aa hsz;obtain⟨nv,rfl,A,c,rfl,hc,hX⟩:=h;have DJ:t.loc<T.length:=(aJ.1 (kC hn.yT).2.1).1;have hX2 :∃bk o,A=some ⟨bk,o,none⟩∧bk<w.heap.size∧tK w bk o T:=by
  rcases hX with hX | ⟨bk,o,e,hb,hX⟩
  ·rw[hX] at DJ;cases DJ
  ·exact⟨bk,o,e,hb,hX⟩
 obtain⟨bk,o,rfl,dH,hX3⟩:=hX2;have HX:=aa hX3;subst hr;clear hX hX3 hs hR hn kJ hwt hsz;go_enter Tryz.func10,Tryz.ntmps10
 go_wp2_with fail
 obtain⟨W1,hW1⟩ :∃W1,W1=(w.alloc (.cells #[.slice (some ⟨bk,o,none⟩) T.length c,.int .i64 (t.loc:Int)] 24)).alloc (.cells #[.slice none 0 0,.slice none 0 0,.slice none 0 0] 35):=⟨_,rfl⟩;have hb1:Below w.heap.size w W1:=by rw[hW1];exact Below.two _ _
 have hs1:W1.heap.size=w.heap.size+1+1:=by rw[hW1,ao,ao]
 have htr:W1.heap[w.heap.size]? = some (.cells #[.slice (some ⟨bk,o,none⟩) T.length c,.int .i64 (t.loc:Int)] 24 (0,0)):=by
  rw[hW1];exact(Below.heap_alloc _ _ _ (by rw[ao];omega)).trans (heap_alloc_new w _)
 have hsc:W1.heap[w.heap.size+1]? = some (.cells #[.slice none 0 0,.slice none 0 0,.slice none 0 0] 35 (0,0)):=by
  rw[hW1];have:=heap_alloc_new (w.alloc (.cells #[.slice (some ⟨bk,o,none⟩) T.length c,.int .i64 (t.loc:Int)] 24)) (.cells #[.slice none 0 0,.slice none 0 0,.slice none 0 0] 35);rwa[ao] at this
 rw[←hW1];have dU:=aa hb1;have HTR:=aa htr;have HSC:=aa hsc;have fj:=aa hs1;clear hW1 hb1 hsc hs1 htr;refine(xM _ T _ W1 (HT.out.below dU.out) HS.out.szd).mono ?_;rintro e w2 ⟨rfl,b2⟩;rw[HR.out];have rV:=(b2.block (w.heap.size+1) (by rw[fj.out];omega)).trans HSC.out
 have SS:=(b2.block w.heap.size (by rw[fj.out];omega)).trans HTR.out
 have hb2:Below w.heap.size w w2:=dU.out.trans (b2.mono dU.out.size);have B2:=aa hb2;have SQ:=aa rV;have aaW:=aa SS;have hl2:w.heap.size+1<w2.heap.size:=(aM.1 rV).1;have t0:w2.cell? ⟨w.heap.size,0,none⟩=some (.slice (some ⟨bk,o,none⟩) T.length c):=ab SS 0;have t1:w2.cell? ⟨w.heap.size,1,none⟩=some (.int .i64 (t.loc:Int)):=ab SS 1;clear b2 rV SS hb2 dU HTR HSC fj;obtain⟨MU,hMU⟩:=IN T.length (by omega)
 obtain⟨MO,YG⟩:=Bu T.length (by omega)
 have mU:=fun W=>(hMU W).1
 have mO:=fun W=>(YG W).1
 have HMU:=aa fun W=>(hMU W).2
 have YH:=aa fun W=>(YG W).2
 clear hMU YG;go_wp2_with fail
 have hK :∀W,Below w2.heap.size w2 W→W.cell? ⟨w.heap.size,0,none⟩=some (.slice (some ⟨bk,o,none⟩) T.length c):=fun W hW=>(hW.cell (p:=⟨w.heap.size,0,none⟩) (by show w.heap.size<_;omega)).trans t0
 have HK:=aa hK;clear hK;refine IP (F:=fun ub ob b=>⟨#[.agg #[.slice (some ⟨bk,o,none⟩) T.length c,.int .i64 (t.loc:Int)],.pointer (some ⟨w.heap.size,0,none⟩),.pointer (some ⟨w.heap.size+1,0,none⟩),.nilIface,.int .i64 (T.length:Int),
  .pointer (some ⟨b,0,none⟩),undef,undef,.agg #[.slice (some ⟨bk,o,none⟩) T.length c,.int .i64 (t.loc:Int)],.bool true,.bool false,undef,undef,undef,undef,undef,.pointer (some ⟨w.heap.size,0,none⟩),.slice (some ⟨bk,o,none⟩) T.length c,.int .i64 (T.length:Int),
  .pointer (some ⟨w.heap.size,0,none⟩),.slice (some ⟨bk,o,none⟩) T.length c,.int .i64 (T.length:Int),.slice (some ⟨ub,0,none⟩) T.length T.length,.int .i64 (T.length:Int),.slice (some ⟨ob,0,none⟩) T.length T.length,
  .agg #[.slice none 0 0,.slice (some ⟨ub,0,none⟩) T.length T.length,.slice (some ⟨ob,0,none⟩) T.length T.length],.agg #[.slice (some ⟨bk,o,none⟩) T.length c,.slice none 0 0,.slice (some ⟨ub,0,none⟩) T.length T.length,.slice (some ⟨ob,0,none⟩) T.length T.length],
  undef,undef,undef,undef,undef,undef,undef,undef,undef,undef,undef,undef,undef,undef],[]⟩) (H:=fun ub ob b W=>MkZ w2 W w2.heap.size (.slice (some ⟨bk,o,none⟩) T.length c) T.length ub ob b) (fun HQ=>?_) (fun ub ob b W hM=>?_)
 ·have HQ:=aa HQ
  go_region_held3 (fun W=>W.cell? ⟨w.heap.size,0,none⟩=some (.slice (some ⟨bk,o,none⟩) T.length c)) ((apply HK.out;(repeat (first|exact Below.refl _ _|refine Below.drew ?_|refine Below.alloc ?_ (by simp;try omega) _|refine Below.setCell ?_ (by simp;try omega) _)))) (fail)
  all_goals
   refine HQ.out _ _ _ _ ⟨Bv _ _ _ _,by omega,?_,?_,?_⟩
   ·first
     | exact SI _ _ _ _
     | exact SJ _ _ _ _
     | exact SK _ _ _ _
   ·first
     | exact Wn _ _ _ _ (HMU.out _ _ (ag _))
     | exact Wo _ _ _ _ (HMU.out _ _ (by rw[ao];omega))
     | exact Wq _ _ _ _ (HMU.out _ _ (by rw[ao,ao];omega))
   ·first
     | exact Wn _ _ _ _ (YH.out _ _ (ag _))
     | exact Wo _ _ _ _ (YH.out _ _ (by rw[ao];omega))
     | exact Wq _ _ _ _ (YH.out _ _ (by rw[ao,ao];omega))
 ·dsimp only
  have HM:=aa hM;have hblk:=hM.blk;have acS:=hM.below;have SU:=(hM.below.block w.heap.size (by omega)).trans aaW.out
  have aaX:=(hM.below.block (w.heap.size+1) (by omega)).trans SQ.out
  have t0:W.cell? ⟨w.heap.size,0,none⟩=some (.slice (some ⟨bk,o,none⟩) T.length c):=ab SU 0;have t1:W.cell? ⟨w.heap.size,1,none⟩=some (.int .i64 (t.loc:Int)):=ab SU 1;have hlW:w2.heap.size≤W.heap.size:=hM.below.size;have HTRW:=aa SU;have HSCW:=aa aaX;clear hM hblk acS SU aaX mU mO HMU YH;go_wp2_with fail
  obtain⟨WF,hWF⟩ :∃WF,WF=W.alloc (.cells #[.int .i64 (t.loc:Int),.int .i64 (-1),.int .i64 0,.bool true,.slice none 0 0,.slice none 0 0] 43):=⟨_,rfl⟩;rw[←hWF];have hbF:Below W.heap.size W WF:=by rw[hWF];exact(Below.refl _ _).alloc (ag _) _
  have Wt:WF.heap[W.heap.size]? = some (.cells #[.int .i64 (t.loc:Int),.int .i64 (-1),.int .i64 0,.bool true,.slice none 0 0,.slice none 0 0] 43 (0,0)):=by rw[hWF];exact heap_alloc_new _ _
  have f0:WF.cell? ⟨W.heap.size,0,none⟩=some (.int .i64 (t.loc:Int)):=ab Wt 0;have f1:WF.cell? ⟨W.heap.size,1,none⟩=some (.int .i64 (-1)):=ab Wt 1;have f2:WF.cell? ⟨W.heap.size,2,none⟩=some (.int .i64 0):=ab Wt 2;have f3:WF.cell? ⟨W.heap.size,3,none⟩=some (.bool true):=ab Wt 3;have f4:WF.cell? ⟨W.heap.size,4,none⟩=some (.slice none 0 0):=ab Wt 4;have f5:WF.cell? ⟨W.heap.size,5,none⟩=some (.slice none 0 0):=ab Wt 5;have YI:Below w2.heap.size w2 WF:=HM.out.below.trans (hbF.mono hlW);have hRX:eS WF w2.heap.size b (.slice (some ⟨bk,o,none⟩) T.length c) T.length ⟨[],fun _=>(0,0),fun _=>0,[],[]⟩ (.slice none 0 0) ub ob []:=by
   refine⟨(hbF.block b (aM.1 HM.out.blk).1).trans HM.out.blk,⟨World.ownsRow_nil _ _ _ _,(fun _ h=>by cases h),(fun _ h=>by cases h),(fun _ _ _ _ _ h=>by cases h),(fun _ _ _ _ _ h=>by cases h)⟩,rfl,HM.out.uses.later hbF,HM.out.wy.later hbF,HM.out.le⟩
  have HRX:=aa hRX;have acT:=aa YI;have aaY:tK w2 bk o T:=fun j x hj=>by
   obtain⟨nv,kv,h1,h2,h3⟩:=HX.out j x hj;exact⟨nv,kv,h1.below B2.out dH,h2.below B2.out,h3.below B2.out⟩
  have HTI:=aa aaY;have hK2 :∀W',Below w2.heap.size WF W'→W'.cell? ⟨w.heap.size,1,none⟩=some (.int .i64 (t.loc:Int)):=fun W' hW'=>(hW'.cell (p:=⟨w.heap.size,1,none⟩) (by show w.heap.size<_;omega)).trans (ab ((YI.block w.heap.size (by omega)).trans aaW.out) 1)
  have HK2:=aa hK2;have t1F:=hK2 WF (Below.refl _ _);have HEN:=aa (fun W' (hW':Below w2.heap.size WF W') (hr:eS W' w2.heap.size b (.slice (some ⟨bk,o,none⟩) T.length c) T.length ⟨[],fun _=>(0,0),fun _=>0,[],[]⟩ (.slice none 0 0) ub ob [])=>xu b ⟨t.loc,-1,0,true,[],[]⟩ none 0 0 ⟨[],fun _=>(0,0),fun _=>0,[],[]⟩ W' ⟨_,_,hr⟩ rfl rfl (by show 0≤100000;omega))
  have hlF:W.heap.size<WF.heap.size:=(aM.1 Wt).1;clear hWF hbF Wt hRX YI aaY hK2;refine bx.DN (n:=4) (S:=fun W'=>W'.cell? ⟨w.heap.size,1,none⟩=some (.int .i64 (t.loc:Int))) (by kernel_rfl) ?_
  have tW:(fun W':World=>W'.cell? ⟨w.heap.size,1,none⟩=some (.int .i64 (t.loc:Int))) WF.drew:=t1F
  refine bx.db 0 (.pointer (some ⟨w.heap.size,1,none⟩)) (by kernel_rfl) (by decide) (by kernel_rfl) (by kernel_rfl) (by kernel_rfl) (fun _ _ _ _ h=>h) tW ?_
  simp only[dj,cI,cG,cH];refine⟨by rfl,by rfl,?_,?_⟩
  ·intro w hSw
   go_simp
  (try simp only[Act.put,cD,cf,cg])
  refine bx.db 1 (.int .i64 (t.loc:Int)) (by kernel_rfl) (by decide) (by kernel_rfl) (by kernel_rfl) (by kernel_rfl) (fun _ _ _ _ h=>h) tW ?_
  simp only[dj,cI,cG,cH];refine⟨by rfl,by rfl,?_,?_⟩
  ·intro w hSw
   go_simp
  (try simp only[Act.put,cD,cf,cg])
  refine bx.fF 2 (by kernel_rfl) fun K hK=>?_
  simp only[dj,cI,cG,cH];go_simp
  refine hK.out _ _ (fun _=>t1F) ?_
  clear hK K
  (try simp only[Act.put,cD,cf,cg])
  refine bx.fF 3 (by kernel_rfl) fun K hK=>?_
  simp only[dj,cI,cG,cH];go_simp
  go_at_call 19
  refine(HEN.out _ ((Below.refl _ _).drew) HRX.out.drew).mono ?_;rintro e w5 ⟨rfl,h1,h2,h3⟩;have hS5:=HK2.out w5 (((Below.refl _ _).drew).trans h2);have H1:=aa h1;have H2:=aa h2;clear h1 h2 h3;go_wp2_with fail
  refine hK.out _ _ (fun _=>hS5) ?_
  clear hK K
  (try simp only[Act.put,cD,cf,cg])
  have Mr:Below w2.heap.size w2 w5:=acT.out.trans ((Below.refl _ _).drew.trans H2.out);have aaZ:eU T w2.heap.size b (.slice (some ⟨bk,o,none⟩) T.length c) ub ob 0 none (.slice none 0 0) [] [] (iT t.loc) w5 t.wt t.size:=by
   refine⟨⟨⟨w2,bk,o,c,rfl,by have:=B2.out.size;omega,rfl,HTI.out,Mr⟩,by omega,HS.out.kids⟩,H1.out,⟨⟨World.ownsRow_nil _ _ _ _,(fun _ h=>by cases h),(fun _ h=>by cases h),ER⟩,⟨rfl,rfl⟩,rfl,(fun _ h=>by cases h)⟩,(fun _ _ h=>by cases h),A8 _,?_,(fun _ h=>by cases h),?_,?_,?_⟩
   ·intro g x hx
    match g,hx with
    | 0,hx=>injection hx with hx;rw[←hx];exact⟨bg _,bg _⟩
    | g+1,hx=>cases hx
   ·have:=HWT.out
    show 0+t.wt≤100000
    omega
   ·have:=qo.out
    show 1+t.size≤100000
    omega
   ·have:=qo.out
    show 0+t.size≤100000
    omega
  have HV:=aa (IZ HS.out.size t Yh.out 0 (-1) none none 0 [] [] (iT t.loc) w5 aaZ (fun _=>rfl) (.inr H18.out))
  have H5:=aa Mr;clear aaZ Mr;refine bx.fF 4 (by kernel_rfl) fun K hK=>?_
  simp only[dj,cI,cG,cH];go_simp
  go_at_call 18
  refine HV.out.mono ?_;intro e w6 hp;have hE:oB t=bh t 0 (iT t.loc):=rfl;rw[←hE] at hp;obtain⟨jV,oR⟩:=hp;have hB6:=H5.out.trans jV;have BD:=(hB6.block (w.heap.size+1) (by omega)).trans SQ.out
  have s0:w6.cell? ⟨w.heap.size+1,0,none⟩=some (.slice none 0 0):=ab BD 0;have s1:w6.cell? ⟨w.heap.size+1,1,none⟩=some (.slice none 0 0):=ab BD 1;have s2:w6.cell? ⟨w.heap.size+1,2,none⟩=some (.slice none 0 0):=ab BD 2;have u0:=aE BD 0;have u1:=aE BD 1;have u2:=aE BD 2;have H6:=aa hB6;have BE:=aa BD;clear jV hB6 BD;obtain⟨R,hR⟩ :∃R,R=oB t:=⟨_,rfl⟩;rw[←hR] at oR;have HRP:=aa hR;clear hR;cases R with
  | error x =>
   obtain⟨v,rfl,aa0⟩:=oR;have Nv:=aa aa0;obtain⟨g6,rfl,_⟩:=aa0;go_wp2_with fail
   refine hK.out _ _ (fun h=>absurd h (by decide)) ?_
   clear hK K
   (try simp only[Act.put,cD,cf,cg])
   refine bx.fF 5 (by kernel_rfl) fun K hK=>?_
   simp only[dj,cI,cG,cH];go_simp
   refine hK.out _ _ (fun h=>absurd h (by decide)) ?_
   clear hK K
   (try simp only[Act.put,cD,cf,cg])
   refine bx.done (by kernel_rfl) ?_ _
   go_wp2_with fail
   have h7:=bE (bE (bE BE.out 0 (.slice none 0 0)) 1 (.slice none 0 0)) 2 (.slice none 0 0);have VX:Below w.heap.size w6 (((w6.setCell ⟨w.heap.size+1,0,none⟩ (.slice none 0 0)).setCell ⟨w.heap.size+1,1,none⟩ (.slice none 0 0)).setCell ⟨w.heap.size+1,2,none⟩ (.slice none 0 0)):=(((Below.refl _ _).setCell (p:=⟨w.heap.size+1,0,none⟩) (by show _≤w.heap.size+1;omega) _).setCell (p:=⟨w.heap.size+1,1,none⟩) (by show _≤w.heap.size+1;omega) _).setCell (p:=⟨w.heap.size+1,2,none⟩) (by show _≤w.heap.size+1;omega) _
   have hf7:Fr [35] w6 (((w6.setCell ⟨w.heap.size+1,0,none⟩ (.slice none 0 0)).setCell ⟨w.heap.size+1,1,none⟩ (.slice none 0 0)).setCell ⟨w.heap.size+1,2,none⟩ (.slice none 0 0)):=((Fr.set BE.out (by decide) _ _).trans (Fr.set (bE BE.out 0 _) (by decide) _ _)).trans (Fr.set (bE (bE BE.out 0 _) 1 _) (by decide) _ _)
   generalize ((w6.setCell ⟨w.heap.size+1,0,none⟩ (.slice none 0 0)).setCell ⟨w.heap.size+1,1,none⟩ (.slice none 0 0)).setCell ⟨w.heap.size+1,2,none⟩ (.slice none 0 0)=W7 at h7 VX hf7 ⊢;have c0:W7.cell? ⟨w.heap.size+1,0,none⟩=some (.slice none 0 0):=ab h7 0;have c1:W7.cell? ⟨w.heap.size+1,1,none⟩=some (.slice none 0 0):=ab h7 1;have c2:W7.cell? ⟨w.heap.size+1,2,none⟩=some (.slice none 0 0):=ab h7 2;refine bodyPost_ret (v:=.tuple #[qH,.iface 59 (.pointer (some ⟨g6,0,none⟩))]) (by simp[results,Tryz.results10,go_sem,qH,c0,c1,c2]) rfl ⟨(B2.out.trans (H6.out.mono B2.out.size)).trans VX,?_⟩
   rw[←HRP.out];refine⟨_,rfl,?_⟩;obtain⟨g,e1,e2⟩:=Nv.out;exact⟨g,e1,hf7.cells g _ _ _ e2 (by decide)⟩
  | ok st =>
   obtain⟨rfl,Ra,acU,_⟩:=oR;obtain⟨fv,FL,hrx⟩:=Ra;obtain⟨FA,fc,hfv,_,_⟩:=dM hrx.fns.row;subst hfv;have r1:w6.cell? ⟨b,1,none⟩=some (.slice FA FL.length fc):=ab hrx.blk 1;have r2:w6.cell? ⟨b,2,none⟩=some (.slice (some ⟨ub,0,none⟩) T.length T.length):=ab hrx.blk 2;have r3:w6.cell? ⟨b,3,none⟩=some (.slice (some ⟨ob,0,none⟩) T.length T.length):=ab hrx.blk 3;have acV:=aa hrx;clear hrx acU;go_wp2_with fail
   refine hK.out _ _ (fun h=>absurd h (by decide)) ?_
   clear hK K
   (try simp only[Act.put,cD,cf,cg])
   refine bx.fF 5 (by kernel_rfl) fun K hK=>?_
   simp only[dj,cI,cG,cH];go_simp
   refine hK.out _ _ (fun h=>absurd h (by decide)) ?_
   clear hK K
   (try simp only[Act.put,cD,cf,cg])
   refine bx.done (by kernel_rfl) ?_ _
   go_wp2_with fail
   have h7:=bE (bE (bE BE.out 0 (.slice FA FL.length fc)) 1 (.slice (some ⟨ub,0,none⟩) T.length T.length)) 2 (.slice (some ⟨ob,0,none⟩) T.length T.length);have VX:Below w.heap.size w6 (((w6.setCell ⟨w.heap.size+1,0,none⟩ (.slice FA FL.length fc)).setCell ⟨w.heap.size+1,1,none⟩ (.slice (some ⟨ub,0,none⟩) T.length T.length)).setCell ⟨w.heap.size+1,2,none⟩ (.slice (some ⟨ob,0,none⟩) T.length T.length)):=(((Below.refl _ _).setCell (p:=⟨w.heap.size+1,0,none⟩) (by show _≤w.heap.size+1;omega) _).setCell (p:=⟨w.heap.size+1,1,none⟩) (by show _≤w.heap.size+1;omega) _).setCell (p:=⟨w.heap.size+1,2,none⟩) (by show _≤w.heap.size+1;omega) _
   have hf7:Fr [35] w6 (((w6.setCell ⟨w.heap.size+1,0,none⟩ (.slice FA FL.length fc)).setCell ⟨w.heap.size+1,1,none⟩ (.slice (some ⟨ub,0,none⟩) T.length T.length)).setCell ⟨w.heap.size+1,2,none⟩ (.slice (some ⟨ob,0,none⟩) T.length T.length)):=((Fr.set BE.out (by decide) _ _).trans (Fr.set (bE BE.out 0 _) (by decide) _ _)).trans (Fr.set (bE (bE BE.out 0 _) 1 _) (by decide) _ _)
   generalize ((w6.setCell ⟨w.heap.size+1,0,none⟩ (.slice FA FL.length fc)).setCell ⟨w.heap.size+1,1,none⟩ (.slice (some ⟨ub,0,none⟩) T.length T.length)).setCell ⟨w.heap.size+1,2,none⟩ (.slice (some ⟨ob,0,none⟩) T.length T.length)=W7 at h7 VX hf7 ⊢;have c0:W7.cell? ⟨w.heap.size+1,0,none⟩=some (.slice FA FL.length fc):=ab h7 0;have c1:W7.cell? ⟨w.heap.size+1,1,none⟩=some (.slice (some ⟨ub,0,none⟩) T.length T.length):=ab h7 1;have c2:W7.cell? ⟨w.heap.size+1,2,none⟩=some (.slice (some ⟨ob,0,none⟩) T.length T.length):=ab h7 2;refine bodyPost_ret (v:=.tuple #[.agg #[.slice FA FL.length fc,.slice (some ⟨ub,0,none⟩) T.length T.length,.slice (some ⟨ob,0,none⟩) T.length T.length],.nilIface]) (by simp[results,Tryz.results10,go_sem,c0,c1,c2]) rfl ⟨(B2.out.trans (H6.out.mono B2.out.size)).trans VX,?_⟩
   rw[←HRP.out];exact⟨_,_,B2.out.size,rfl,(acV.out.fr hf7 (by decide)).scope⟩
theorem lY (w:World) (X Y Z:Obj):Below w.heap.size w (((w.alloc X).alloc Y).alloc Z):=(((Below.refl _ _).alloc (ag _) _).alloc (by rw[ao];omega) _).alloc (by rw[ao,ao];omega) _
def lj (s:Lt):Lt:=if s.hd.kind=11 then s.sub.headD s else s
def NfP (t:Lt) (x:dm) (n:Nat):Prop:=∃s,lK s t∧s.loc=x.node∧n=x.vars.length+aH (lj s)
theorem lK.Wu {T:List Nd} {s t:Lt} (h:lK s t) (hn:gW T t):gW T s∧s.size≤t.size:=by
 induction h with
 | self=>exact⟨hn,ag _⟩
 | down hk _ ih =>
  have:=ih (hn.sub.1.at_ _ hk);have h2:=jI hk;exact⟨this.1,by omega⟩
theorem FZ {T:List Nd} {s:Lt} (hn:gW T s):gW T (lj s)∧(lj s).size≤s.size∧(s.hd.kind=11→∃b,s.sub=[b]∧lj s=b)∧(s.hd.kind≠11→lj s=s):=by
 unfold lj;by_cases h:s.hd.kind=11
 ·rw[aj h]
  have e:=hn.sub.2.2.body (.inl h);obtain⟨b,hb⟩ :∃b,s.sub=[b]:=by
   cases hs:s.sub with
   | nil=>rw[hs] at e;simp[jE] at e
   | cons b l =>
    cases l with
    | nil=>exact⟨b,rfl⟩
    | cons c l=>rw[hs] at e;simp[jE] at e
  rw[hb];have hm:b∈s.sub:=by rw[hb];exact bH ..
  exact⟨hn.sub.1.at_ b hm,by have:=jI hm;show b.size≤s.size;omega,fun _=>⟨b,rfl,rfl⟩,fun h'=>absurd h h'⟩
 ·rw[ae h]
  exact⟨hn,ag _,fun h'=>absurd h' h,fun _=>rfl⟩
theorem NS {T:List Nd} {nv:Value} (s:Lt) (p q:Int) (m:Bool) (vv uv:Value) (w:World) (hT:eO w nv T) (hn:gW T s) :
  Calls Tryz.prog 16 #[.agg #[nv],.agg #[.int .i64 (s.loc:Int),.int .i64 p,.int .i64 q,.bool m,vv,uv]] w fun e w'=>e=.returned (.int .i64 ((lj s).loc:Int))∧Below w.heap.size w w':=by
 obtain⟨_,_,hb1,hb2⟩:=FZ hn;obtain⟨h1,h2,h3⟩:=kC hn.yT;have hlt:=(aJ.1 h2).1;obtain⟨NA,nc,rfl,Xz,hX⟩:=hT;rcases hX with h0 | ⟨bk,o,rfl,dH,hX⟩
 ·rw[h0] at hlt;cases hlt
 obtain⟨u7,u9,⟨c0,c1,c2,c3,c4,c5,c6⟩,⟨SA,sc,rfl,_,_⟩,⟨UA,uc,rfl,Fq,uC⟩⟩:=hX s.loc s.hd h2;have hi:((s.loc:Int)<0)=False:=eK (by omega)
 have rl:(T.length≤s.loc)=False:=eK (by omega)
 by_cases hk:s.hd.kind=11
 ·obtain⟨b,e1,e2⟩:=hb1 hk
  rw[e2];rw[h3,e1] at uC;rcases uC with h0 | ⟨sb,so,rfl,yR,hx⟩
  ·simp at h0
  have hf :∀X Y Z,(((w.alloc X).alloc Y).alloc Z).cell? ⟨sb,so,none⟩=some (.int .i64 (b.loc:Int)):=fun X Y Z=>((lY w X Y Z).cell (p:=⟨sb,so,none⟩) yR).trans (hx 0 _ (by simp))
  have hlen:s.hd.kids.length=1:=by rw[h3,e1];rfl
  rw[hlen] at c6 Fq;rw[hk] at c0;clear hx hb1 hb2 h1 h2 h3 e1 e2 hX hk hlen hn;go_enter Tryz.func16,Tryz.ntmps16
  go_wp2_with fail
  go_ret
  exact⟨rfl,lY _ _ _ _⟩
 ·have g:(s.hd.kind == 11)=false:=aC.2 hk
  rw[hb2 hk];clear uC hb1 hb2 h1 h2 h3 hX hk hn;go_enter Tryz.func16,Tryz.ntmps16
  go_wp2_with fail
  go_ret
  exact⟨rfl,lY _ _ _ _⟩
def BG (t:Lt) (r:Rs aI) (e:Ending) (w':World):Prop :=
 match r with
 | .error x=>∃v,e=.returned (.tuple #[.slice none 0 0,v])∧tl w' v x.2 x.1
 | .ok st =>
  (∃(g:Nat) (o:Nat→Nat),e=.returned (.tuple #[.slice (some ⟨g,0,none⟩) st.fns.length st.fns.length,.nilIface])∧(∀j,j<st.fns.length→w'.cell? ⟨g,j,none⟩=some (.int .i64 (o j:Int)))∧∀(i:Nat) x,st.fns[i]? = some x→NfP t x (o i)∧o i≤250) ∨
  ∃(v:Value) (l:Int) (i:Nat) (x:dm) (n:Nat),e=.returned (.tuple #[.slice none 0 0,v])∧tl w' v l 13∧st.fns[i]? = some x∧NfP t x n∧250<n
theorem lN.NW {W W':World} {B:Nat} {v:Value} {L:List nX} (h:lN W B v L) (hb:Below W.heap.size W W'):lN W' B v L :=
 have k:=Fr.af (E:=[]) hb
 ⟨k.row h.row (by simp),fun t ht=>k.row (h.vars t ht) (by simp),fun t ht=>k.row (h.ch t ht) (by simp),h.ql,h.rI⟩
theorem lN.six {W:World} {B:Nat} {fv:Value} {L:List nX} {F:List dm} (h:lN W B fv L) (ha:L.map (·.1)=F) {k:Nat} {x:dm} (hx:F[k]? = some x) :∃g c VA vc UA uc,fv=.slice (some ⟨g,0,none⟩) F.length c∧g<W.heap.size∧W.cell? ⟨g,k*6,none⟩=some (.int .i64 (x.node:Int))∧W.cell? ⟨g,k*6+1,none⟩=some (.int .i64 x.parent) ∧
  W.cell? ⟨g,k*6+2,none⟩=some (.int .i64 (x.params:Int))∧W.cell? ⟨g,k*6+3,none⟩=some (.bool x.many)∧W.cell? ⟨g,k*6+4,none⟩=some (.slice VA x.vars.length vc)∧W.cell? ⟨g,k*6+5,none⟩=some (.slice UA x.ch.length uc):=by
 have hlen:L.length=F.length:=by rw[←ha,bS]
 rw[←ha,ef] at hx;obtain⟨y,hy,rfl⟩:=Option.map_eq_some_iff.1 hx;obtain⟨g,c,rfl,_,hg,we⟩:=h.form hy;have hv:=h.vars y (aV hy);obtain⟨VA,vc,hve,_,_⟩:=dM hv;obtain⟨UA,uc,Yz,_,_⟩:=dM (h.ch y (aV hy));refine⟨g,c,VA,vc,UA,uc,by rw[hlen],hg,?_,?_,?_,?_,?_,?_⟩
 ·have:=(we 0 (by omega)).1;rw[EX] at this;rw[this];rfl
 ·rw[(we 1 (by omega)).1];rfl
 ·rw[(we 2 (by omega)).1];rfl
 ·rw[(we 3 (by omega)).1];rfl
 ·rw[(we 4 (by omega)).1];show some y.2.1=_;rw[hve]
 ·rw[(we 5 (by omega)).1];show some y.2.2=_;rw[Yz]
def wI (h b:Nat) (n x0 x1 x2 x3 x4 x5:Value) (W:World):Prop:=W.cell? ⟨h,0,none⟩=some n∧W.cell? ⟨b,0,none⟩=some x0∧W.cell? ⟨b,1,none⟩=some x1∧W.cell? ⟨b,2,none⟩=some x2∧W.cell? ⟨b,3,none⟩=some x3∧W.cell? ⟨b,4,none⟩=some x4∧W.cell? ⟨b,5,none⟩=some x5
theorem wI.below {h b:Nat} {n x0 x1 x2 x3 x4 x5:Value} {W W':World} (hS:wI h b n x0 x1 x2 x3 x4 x5 W) (hb:Below W.heap.size W W'):wI h b n x0 x1 x2 x3 x4 x5 W':=by
 obtain⟨h0,h1,h2,h3,h4,h5,h6⟩:=hS;have l0:=block_lt_of_cell h0;have l1:=block_lt_of_cell h1;exact⟨(hb.cell (p:=⟨h,0,none⟩) l0).trans h0,(hb.cell (p:=⟨b,0,none⟩) l1).trans h1,(hb.cell (p:=⟨b,1,none⟩) l1).trans h2,(hb.cell (p:=⟨b,2,none⟩) l1).trans h3,(hb.cell (p:=⟨b,3,none⟩) l1).trans h4,(hb.cell (p:=⟨b,4,none⟩) l1).trans h5,(hb.cell (p:=⟨b,5,none⟩) l1).trans h6⟩
theorem wI.set {h b g:Nat} {n x0 x1 x2 x3 x4 x5:Value} {W:World} (hS:wI h b n x0 x1 x2 x3 x4 x5 W) (hh:h≠g) (hg:b≠g) (j:Nat) (v:Value):wI h b n x0 x1 x2 x3 x4 x5 (W.setCell ⟨g,j,none⟩ v):=by
 obtain⟨h0,h1,h2,h3,h4,h5,h6⟩:=hS;have k1 :∀i,(W.setCell ⟨g,j,none⟩ v).cell? ⟨h,i,none⟩=W.cell? ⟨h,i,none⟩:=fun i=>World.cell?_of_block (a:=⟨h,i,none⟩) (Below.heap_setCell W ⟨g,j,none⟩ v h hh)
 have k2 :∀i,(W.setCell ⟨g,j,none⟩ v).cell? ⟨b,i,none⟩=W.cell? ⟨b,i,none⟩:=fun i=>World.cell?_of_block (a:=⟨b,i,none⟩) (Below.heap_setCell W ⟨g,j,none⟩ v b hg)
 exact⟨(k1 0).trans h0,(k2 0).trans h1,(k2 1).trans h2,(k2 2).trans h3,(k2 3).trans h4,(k2 4).trans h5,(k2 5).trans h6⟩
theorem SV {w w':World} (h:Below w.drew.heap.size w.drew w'):Below w.heap.size w w':=⟨h.os,h.tape,h.output,h.size,h.block⟩
theorem BH (v:Value) (T:List Nd) (r:Int) (w:World) (h:iI w v T r) (hs:Sml T) (hR:eY T r=true) (t:Lt) (hr:(t.loc:Int)=r) (hn:gW T t) (kJ:t.hd.kind=18) (hN:T.length≤16384) (hwt:t.wt≤50000) (hsz:t.size=T.length) (hF :∀x∈T,x.kind=20→1≤x.num)
  (hfn :∀st,oB t=.ok st→st.fns.length≤100000∧∀x∈st.fns,x.node∈t.dr∧x.vars.length≤200):Calls Tryz.prog 9 #[v] w fun e w'=>Below w.heap.size w w'∧BG t (oB t) e w':=by
 obtain⟨R,hRR⟩ :∃R,oB t=R:=⟨_,rfl⟩;rw[hRR] at hfn ⊢;have HT:=aa h;have SW:=aa (fun W (hW:iI W v T r)=>sW v T r W hW hs hR t hr hn kJ hN hwt hsz)
 rw[hRR] at SW;have Yh:=aa hn;have HF:=aa hF;have HFN:=aa hfn;have qo:=aa hsz;have DJ:=(aJ.1 (kC hn.yT).2.1).1;obtain⟨nv,rfl,nH⟩:=h;have HNV:=aa nH;obtain⟨NA,nc,rfl,Xz,hX⟩:=nH;obtain⟨bk,o,rfl⟩ :∃bk o,NA=some ⟨bk,o,none⟩:=by
  rcases hX with h0 | ⟨bk,o,e,_⟩
  ·rw[h0] at DJ;cases DJ
  ·exact⟨bk,o,e⟩
 clear hRR hs hR hn kJ hwt hsz hF hfn hX;go_enter Tryz.func9,Tryz.ntmps9
 go_wp2_with fail
 have eB:=heap_alloc_new w (.cells #[.slice (some ⟨bk,o,none⟩) T.length nc,.int .i64 r] 24);have hb0:Below w.heap.size w (w.alloc (.cells #[.slice (some ⟨bk,o,none⟩) T.length nc,.int .i64 r] 24)):=(Below.refl _ _).alloc (ag _) _;have hs0:(w.alloc (.cells #[.slice (some ⟨bk,o,none⟩) T.length nc,.int .i64 r] 24)).heap.size=w.heap.size+1:=ao _ _;generalize w.alloc (.cells #[.slice (some ⟨bk,o,none⟩) T.length nc,.int .i64 r] 24)=W0 at eB hb0 hs0 ⊢;have B0:=aa hb0;have X0:=aa eB;have S0:=aa hs0;clear eB hb0 hs0;refine(SW.out W0 (HT.out.below B0.out)).mono ?_;rintro e w2 ⟨b2,hp⟩;have X2:=aa ((b2.block w.heap.size (by rw[S0.out];omega)).trans X0.out)
 have B2:=aa (B0.out.trans (b2.mono B0.out.size));clear b2;have z0:w2.cell? ⟨w.heap.size,0,none⟩=some (.slice (some ⟨bk,o,none⟩) T.length nc):=ab X2.out 0;have z1:w2.cell? ⟨w.heap.size,1,none⟩=some (.int .i64 r):=ab X2.out 1;have zl:w.heap.size<w2.heap.size:=(aM.1 X2.out).1;cases R with
 | error x =>
  obtain⟨u,rfl,hf⟩:=hp;have Nv:=aa hf;obtain⟨g,rfl,_⟩:=hf;unfold qH;go_wp2_with fail
  go_ret2
  have hb:=(Below.refl w2.heap.size w2).alloc (ag _) (.cells #[.slice none 0 0,.slice none 0 0,.slice none 0 0] 35);obtain⟨g',e1,e2⟩:=Nv.out;exact⟨B2.out.trans (hb.mono B2.out.size),_,rfl,g',e1,(hb.block g' (aM.1 e2).1).trans e2⟩
 | ok st =>
  obtain⟨sv,B',hB',rfl,fv,ub,ob,L,rfl,hfz,YJ,_,_⟩:=hp;obtain⟨CU,hfx⟩:=HFN.out st rfl;have HFX:=aa hfx;have HFZ:=aa hfz;have acW:=aa YJ;obtain⟨FA,fc,rfl,_,_⟩:=dM hfz.row;have sQ:L.length=st.fns.length:=by rw[←YJ,bS]
  rw[sQ] at HFZ;rw[sQ];obtain⟨MO,YG⟩:=Bu st.fns.length (by omega)
  have mO:=fun W=>(YG W).1
  have YH:=aa fun W=>(YG W).2
  clear YG hfz YJ hfx sQ;go_wp2_with fail
  obtain⟨W3,hW3⟩ :∃W3,W3=(w2.alloc (.cells #[.slice FA st.fns.length fc,.slice (some ⟨ub,0,none⟩) T.length T.length,.slice (some ⟨ob,0,none⟩) T.length T.length] 35)).alloc (.cells #[.slice (some ⟨bk,o,none⟩) T.length nc] 56):=⟨_,rfl⟩;rw[←hW3];have hs3:W3.heap.size=w2.heap.size+1+1:=by rw[hW3,ao,ao]
  have hb3:Below w2.heap.size w2 W3:=by rw[hW3];exact Below.two _ _
  have hr3:W3.cell? ⟨w2.heap.size+1,0,none⟩=some (.slice (some ⟨bk,o,none⟩) T.length nc):=by rw[hW3];simp[go_sem]
  have DA:=YH.out W3 W3.heap.size (ag _);have pV:Below W3.heap.size W3 (W3.alloc (.cells MO 3)):=(Below.refl _ _).alloc (ag _) _;generalize W3.alloc (.cells MO 3)=W5 at DA pV ⊢;rw[hs3] at DA;have S3:=aa hs3;have B3:=aa hb3;have R3:=aa hr3;have FM:=aa DA;have B5:=aa pV;clear hW3 hs3 hb3 hr3 DA pV mO YH z1;go_loopw [28] (fun i wr=>∃(k:Nat) (oo:Nat→Nat),i=.int .i64 (k:Int)∧k≤st.fns.length∧Below W3.heap.size W3 wr∧eR wr (w2.heap.size+1+1) 3 1 (w2.heap.size+1+1) st.fns.length (Hi fun j=>(oo j:Int))∧∀(j:Nat) x,j<k→st.fns[j]? = some x→NfP t x (oo j)∧oo j≤250) (fun i _=>st.fns.length-(intOf i).toNat)
  case atStart=>exact⟨0,fun _=>0,rfl,bg _,B5.out,FM.out,fun j x h=>absurd h (by omega)⟩
  case round =>
   obtain⟨k,oo,rfl,hk,hbr,hfm,hall⟩:=hrel;have oD:=aa hbr;have HFM:=aa hfm;have tt:=aa hall;have YK:Below w2.heap.size w2 wr:=B3.out.trans (hbr.mono B3.out.size);have acX:=aa YK;have iL:=aa (B2.out.trans (YK.mono B2.out.size));clear hbr hfm hall YK;by_cases hlt:k<st.fns.length
   ·obtain⟨x,hx⟩ :∃x,st.fns[k]? = some x:=⟨st.fns[k],bt hlt⟩
    have FK:=aV hx;obtain⟨hloc,hvl⟩:=HFX.out x FK;obtain⟨s,MC,Rb⟩:=Fg t x.node hloc;obtain⟨NB,hss⟩:=MC.Wu Yh.out;obtain⟨A4,yR,_,_⟩:=FZ NB;have HNF:=aa (show NfP t x (x.vars.length+aH (lj s)) from⟨s,MC,Rb,rfl⟩)
    obtain⟨gg,cc,VA,vc,UA,uc,e,oT,f0,f1,f2,f3,f4,f5⟩:=(HFZ.out.NW acX.out).six acW.out hx;injection e with e1 _ e2;subst e1 e2;have acY:=qo.out;have iV:=qf (lj s);have AO:=aa (fun W (hW:Below w.heap.size w W)=>NS (T:=T) (nv:=.slice (some ⟨bk,o,none⟩) T.length nc) s x.parent (x.params:Int) x.many (.slice VA x.vars.length vc) (.slice UA x.ch.length uc) W (HNV.out.below hW) NB)
    have LW:=aa (fun W (hW:Below w.heap.size w W)=>NP HF.out (by omega) (lj s).size (lj s) (ag _) (by omega) A4 W (HNV.out.below hW))
    rw[Rb] at AO;obtain⟨q,hq⟩ :∃q,aH (lj s)=q:=⟨_,rfl⟩;rw[hq] at LW HNF iV;have hql:q≤200000:=by omega
    have NX:IntKind.i64.wrap ((x.vars.length:Int)+(q:Int))=((x.vars.length+q:Nat):Int):=by rw[IntKind.wrap_i64];omega
    obtain⟨m,hm⟩ :∃m,x.vars.length+q=m:=⟨_,rfl⟩;rw[hm] at NX HNF;have yD:m≤300000:=by omega
    have HWR:=aa NX;have hT2:=(kC NB.yT).2.1;rw[Rb] at hT2;have HTX:=aa hT2;clear NX hm hT2;have iM:=aa hlt;have HGW:=aa (block_lt_of_cell (bZ HFM.out (j:=k) (by omega)).1)
    have HX:=aa hx;clear hx FK MC NB hss A4 yR hq iV hloc acY;go_wp2_with fail
    obtain⟨W6,Rj⟩ :∃W6,W6=wr.alloc (.cells #[.int .i64 (x.node:Int),.int .i64 x.parent,.int .i64 (x.params:Int),.bool x.many,.slice VA x.vars.length vc,.slice UA x.ch.length uc] 43):=⟨_,rfl⟩;rw[←Rj];have BJ:W6.heap[wr.heap.size]? = some (.cells #[.int .i64 (x.node:Int),.int .i64 x.parent,.int .i64 (x.params:Int),.bool x.many,.slice VA x.vars.length vc,.slice UA x.ch.length uc] 43 (0,0)):=by rw[Rj];exact heap_alloc_new _ _
    have CX:Below wr.heap.size wr W6:=by rw[Rj];exact(Below.refl _ _).alloc (ag _) _
    have hl6:wr.heap.size<W6.heap.size:=(aM.1 BJ).1;clear Rj;have hS6:(wI (w2.heap.size+1) wr.heap.size (.slice (some ⟨bk,o,none⟩) T.length nc) (.int .i64 (x.node:Int)) (.int .i64 x.parent) (.int .i64 (x.params:Int)) (.bool x.many) (.slice VA x.vars.length vc) (.slice UA x.ch.length uc)) W6:=⟨((oD.out.trans (CX.mono oD.out.size)).cell (p:=⟨w2.heap.size+1,0,none⟩) (by have:=S3.out;show w2.heap.size+1<_;omega)).trans R3.out,ab BJ 0,ab BJ 1,ab BJ 2,ab BJ 3,ab BJ 4,ab BJ 5⟩
    have aa1:=HFM.out.later CX;have aa2:Below w.heap.size w W6:=iL.out.trans (CX.mono iL.out.size);have HS6:=aa hS6;have aa3:=aa aa1;have YL:=aa aa2;have Mh:=aa (oD.out.trans (CX.mono oD.out.size));clear BJ CX aa1 aa2 hl6;refine bx.DN (n:=12) (S:=(wI (w2.heap.size+1) wr.heap.size (.slice (some ⟨bk,o,none⟩) T.length nc) (.int .i64 (x.node:Int)) (.int .i64 x.parent) (.int .i64 (x.params:Int)) (.bool x.many) (.slice VA x.vars.length vc) (.slice UA x.ch.length uc))) (by kernel_rfl) ?_
    have tW:(wI (w2.heap.size+1) wr.heap.size (.slice (some ⟨bk,o,none⟩) T.length nc) (.int .i64 (x.node:Int)) (.int .i64 x.parent) (.int .i64 (x.params:Int)) (.bool x.many) (.slice VA x.vars.length vc) (.slice UA x.ch.length uc)) W6.drew:=hS6;clear hS6;refine bx.db 0 (.slice (some ⟨w2.heap.size+1+1,0,none⟩) st.fns.length st.fns.length) (by kernel_rfl) (by decide) (by kernel_rfl) (by kernel_rfl) (by kernel_rfl) (fun _ _ _ _ h=>h) tW ?_
    simp only[dj,cI,cH];refine⟨by rfl,by rfl,?_,?_⟩
    ·intro w hSw
     obtain⟨y0,y1,y2,y3,y4,y5,y6⟩:=hSw;go_simp
    (try simp only[Act.put,cD,cf,cg])
    refine bx.db 1 (.int .i64 (k:Int)) (by kernel_rfl) (by decide) (by kernel_rfl) (by kernel_rfl) (by kernel_rfl) (fun _ _ _ _ h=>h) tW ?_
    simp only[dj,cI,cG,cH];refine⟨by rfl,by rfl,?_,?_⟩
    ·intro w hSw
     obtain⟨y0,y1,y2,y3,y4,y5,y6⟩:=hSw;go_simp
    (try simp only[Act.put,cD,cf,cg])
    refine bx.db 2 (.pointer (some ⟨wr.heap.size,4,none⟩)) (by kernel_rfl) (by decide) (by kernel_rfl) (by kernel_rfl) (by kernel_rfl) (fun _ _ _ _ h=>h) tW ?_
    simp only[dj,cI,cG,cH];refine⟨by rfl,by rfl,?_,?_⟩
    ·intro w hSw
     obtain⟨y0,y1,y2,y3,y4,y5,y6⟩:=hSw;go_simp
    (try simp only[Act.put,cD,cf,cg])
    refine bx.db 3 (.slice VA x.vars.length vc) (by kernel_rfl) (by decide) (by kernel_rfl) (by kernel_rfl) (by kernel_rfl) (fun _ _ _ _ h=>h) tW ?_
    simp only[dj,cI,cG,cH];refine⟨by rfl,by rfl,?_,?_⟩
    ·intro w hSw
     obtain⟨y0,y1,y2,y3,y4,y5,y6⟩:=hSw;go_simp
    (try simp only[Act.put,cD,cf,cg])
    refine bx.db 4 (.int .i64 (x.vars.length:Int)) (by kernel_rfl) (by decide) (by kernel_rfl) (by kernel_rfl) (by kernel_rfl) (fun _ _ _ _ h=>h) tW ?_
    simp only[dj,cI,cG,cH];refine⟨by rfl,by rfl,?_,?_⟩
    ·intro w hSw
     obtain⟨y0,y1,y2,y3,y4,y5,y6⟩:=hSw;go_simp
    (try simp only[Act.put,cD,cf,cg])
    refine bx.db 5 (.agg #[.slice (some ⟨bk,o,none⟩) T.length nc]) (by kernel_rfl) (by decide) (by kernel_rfl) (by kernel_rfl) (by kernel_rfl) (fun _ _ _ _ h=>h) tW ?_
    simp only[dj,cI,cG,cH];refine⟨by rfl,by rfl,?_,?_⟩
    ·intro w hSw
     obtain⟨y0,y1,y2,y3,y4,y5,y6⟩:=hSw;go_simp
    (try simp only[Act.put,cD,cf,cg])
    refine bx.db 6 (.agg #[.slice (some ⟨bk,o,none⟩) T.length nc]) (by kernel_rfl) (by decide) (by kernel_rfl) (by kernel_rfl) (by kernel_rfl) (fun _ _ _ _ h=>h) tW ?_
    simp only[dj,cI,cG,cH];refine⟨by rfl,by rfl,?_,?_⟩
    ·intro w hSw
     obtain⟨y0,y1,y2,y3,y4,y5,y6⟩:=hSw;go_simp
    (try simp only[Act.put,cD,cf,cg])
    refine bx.db 7 (.agg #[.int .i64 (x.node:Int),.int .i64 x.parent,.int .i64 (x.params:Int),.bool x.many,.slice VA x.vars.length vc,.slice UA x.ch.length uc]) (by kernel_rfl) (by decide) (by kernel_rfl) (by kernel_rfl) (by kernel_rfl) (fun _ _ _ _ h=>h) tW ?_
    simp only[dj,cI,cG,cH];refine⟨by rfl,by rfl,?_,?_⟩
    ·intro w hSw
     obtain⟨y0,y1,y2,y3,y4,y5,y6⟩:=hSw;go_simp
    (try simp only[Act.put,cD,cf,cg])
    refine bx.fF 8 (by kernel_rfl) fun K hK=>?_
    simp only[dj,cI,cG,cH];go_simp
    go_at_call 16
    refine(AO.out _ YL.out.drew).mono ?_;rintro e w7 ⟨rfl,b7⟩;have B7:=aa (SV b7);clear b7;go_wp2_with fail
    refine hK.out _ _ (fun _=>HS6.out.below B7.out) ?_
    clear hK K
    (try simp only[Act.put,cD,cf,cg])
    have aa4:Below w.heap.size w w7:=YL.out.trans (B7.out.mono YL.out.size);have HCN:=aa (LW.out w7 aa4);have HS7:=aa (HS6.out.below B7.out);clear aa4;refine bx.fF 9 (by kernel_rfl) fun K hK=>?_
    simp only[dj,cI,cG,cH];go_simp
    go_at_call 15
    refine HCN.out.mono ?_;rintro e w8 ⟨rfl,b8⟩;have B8:=aa (B7.out.trans (b8.mono B7.out.size));have HS8:=aa (HS7.out.below b8);clear b8;go_wp2_with fail
    refine hK.out _ _ (fun _=>HS8.out) ?_
    clear hK K
    (try simp only[Act.put,cD,cf,cg])
    refine bx.fF 10 (by kernel_rfl) fun K hK=>?_
    simp only[dj,cI,cG,cH];go_simp
    rw[HWR.out];refine hK.out _ _ (fun _=>HS8.out) ?_
    clear hK K
    (try simp only[Act.put,cD,cf,cg])
    refine bx.fF 11 (by kernel_rfl) fun K hK=>?_
    simp only[dj,cI,cG,cH];go_simp
    refine hK.out _ _ (fun _=>HS8.out) ?_
    clear hK K
    (try simp only[Act.put,cD,cf,cg])
    have SX:=aa3.out.later B8.out;have s0:=(bZ SX (j:=k) (by have:=iM.out;omega)).1
    have s1:=(bZ SX (j:=k) (by have:=iM.out;omega)).2
    have s2:=block_lt_of_cell s0;have aa5:=aa SX;clear SX;refine bx.fF 12 (by kernel_rfl) fun K hK=>?_
    simp only[dj,cI,cG,cH];go_simp
    refine hK.out _ _ (fun h=>absurd h (by decide)) ?_
    clear hK K
    (try simp only[Act.put,cD,cf,cg])
    refine bx.done (by kernel_rfl) ?_ _
    have SY:eR (w8.setCell ⟨w2.heap.size+1+1,k,none⟩ (.int .i64 (m:Int))) (w2.heap.size+1+1) 3 1 (w2.heap.size+1+1) st.fns.length (Hi fun j=>((if j=k then m else oo j:Nat):Int)):=yG (Lx aa5.out k (m:Int)) fun j _=>by
     unfold Hi;dsimp only
     split<;>rfl
    have hb9:Below W3.heap.size W3 (w8.setCell ⟨w2.heap.size+1+1,k,none⟩ (.int .i64 (m:Int))):=(Mh.out.trans (B8.out.mono Mh.out.size)).setCell (p:=⟨w2.heap.size+1+1,k,none⟩) (by rw[S3.out];exact ag _) _
    have hs9:(wI (w2.heap.size+1) wr.heap.size (.slice (some ⟨bk,o,none⟩) T.length nc) (.int .i64 (x.node:Int)) (.int .i64 x.parent) (.int .i64 (x.params:Int)) (.bool x.many) (.slice VA x.vars.length vc) (.slice UA x.ch.length uc)) (w8.setCell ⟨w2.heap.size+1+1,k,none⟩ (.int .i64 (m:Int))):=HS8.out.set (by omega) (by have:=HGW.out;omega) k _
    generalize w8.setCell ⟨w2.heap.size+1+1,k,none⟩ (.int .i64 (m:Int))=W9 at SY hb9 hs9 ⊢;have acZ:Below w.heap.size w W9:=B2.out.trans ((B3.out.trans (hb9.mono B3.out.size)).mono B2.out.size);have n0:W9.cell? ⟨w2.heap.size+1+1,k,none⟩=some (.int .i64 (m:Int)):=by
     rw[(bZ SY (j:=k) (by have:=iM.out;omega)).1]
     show some (Value.int .i64 ((if k=k then m else oo k:Nat):Int))=_
     rw[aj rfl]
    have n1:W9.cell? ⟨w.heap.size,0,none⟩=some (.slice (some ⟨bk,o,none⟩) T.length nc):=((B3.out.trans (hb9.mono B3.out.size)).cell (p:=⟨w.heap.size,0,none⟩) zl).trans z0;have n2:=hs9.2.1;have ac0:=aa SY;have HB9:=aa hb9;have DP:=aa acZ;clear SY hb9 hs9 s0 s1 s2 aa5 HS8 HS7 HCN aa3 HS6 tW B8 B7 AO LW;by_cases vt:250<m
    ·have g1:decide ((250:Int)<(m:Int))=true:=bN (by omega)
     have NY:=aa vt;have hxl:=(aJ.1 HTX.out).1;obtain⟨NA,nc',e,_,hX⟩:=HNV.out.below DP.out;injection e with e1 _ e2;subst e1 e2;rcases hX with h0 | ⟨bk',o',e,dH,hX⟩
     ·rw[h0] at DJ;cases DJ
     injection e with e;injection e with e1 e2;subst e1 e2;obtain⟨u7,u9,eL,_,_⟩:=hX x.node s.hd HTX.out;have hK :∀W,Below W9.heap.size W9 W→W.cell? ⟨w.heap.size,0,none⟩=some (.slice (some ⟨bk,o,none⟩) T.length nc)∧W.cell? ⟨wr.heap.size,0,none⟩=some (.int .i64 (x.node:Int))∧W.cell? ⟨bk,o+x.node*7+1,none⟩=some (.int .i64 s.hd.line):=fun W hW=>⟨(hW.cell (p:=⟨w.heap.size,0,none⟩) (block_lt_of_cell n1)).trans n1,(hW.cell (p:=⟨wr.heap.size,0,none⟩) (block_lt_of_cell n2)).trans n2,(hW.cell (p:=⟨bk,o+x.node*7+1,none⟩) dH).trans eL.c1⟩
     have HK:=aa hK;have n3:=eL.c1;have hi:((x.node:Int)<0)=False:=eK (by omega)
     have rl:(T.length≤x.node)=False:=eK (by omega)
     clear vt hK hX eL;go_wp2_with fail
     go_region_held3 (fun W=>W.cell? ⟨w.heap.size,0,none⟩=some (.slice (some ⟨bk,o,none⟩) T.length nc)∧W.cell? ⟨wr.heap.size,0,none⟩=some (.int .i64 (x.node:Int))∧W.cell? ⟨bk,o+x.node*7+1,none⟩=some (.int .i64 s.hd.line)) ((apply HK.out;(repeat (first|exact Below.refl _ _|refine Below.drew ?_|refine Below.alloc ?_ (by simp;try omega) _|refine Below.setCell ?_ (by simp;try omega) _)))) (fail)
     all_goals
      go_wp2_with fail
      go_ret2
      refine⟨?_,.inr ⟨_,s.hd.line,k,x,m,rfl,⟨_,rfl,?_⟩,HX.out,HNF.out,NY.out⟩⟩
      ·first
        | exact(DP.out.alloc DP.out.size _).drew
        | exact DP.out.drew.alloc DP.out.size _
        | exact DP.out.alloc DP.out.size _
      ·exact heap_alloc_new W9 _
    ·have g1:decide ((250:Int)<(m:Int))=false:=bM (by omega)
     have NY:=aa vt;clear vt;go_wp2_with fail
     refine⟨⟨k+1,fun j=>if j=k then m else oo j,by go_num,iM.out,HB9.out,ac0.out,fun j y hj hy=>?_⟩,by have:=iM.out;simp[intOf];omega⟩
     dsimp only
     by_cases hjk:j=k
     ·subst hjk
      rw[HX.out] at hy;injection hy with hy;subst hy;rw[aj rfl];exact⟨HNF.out,by have:=NY.out;omega⟩
     ·rw[ae hjk]
      exact tt.out j y (by omega) hy
   ·have rm:k=st.fns.length:=by omega
    have HKE:=aa rm;clear rm;go_wp2_with fail
    go_ret2
    refine⟨iL.out,.inl ⟨_,oo,rfl,fun j hj=>?_,fun i x hx=>tt.out i x (by have:=(aJ.1 hx).1;have:=HKE.out;omega) hx⟩⟩
    rw[(bZ HFM.out (j:=j) (by omega)).1]
    rfl
theorem DQ {t:Lt} {st:aI} (h:oB t=.ok st) (hn:t.dr.Nodup) (hw:t.Wf):st.fns.length≤1+t.size∧1≤st.fns.length∧(∀x,st.fns[0]? = some x→x.node=t.loc)∧∀x∈st.fns,x.node∈t.dr∧x.vars.length≤200:=by
 obtain⟨a1,_,_,_⟩:=jC t h hn (A8 _) hw;have hk:=lM t h (fun g x hx=>by
  cases g with
  | zero=>injection hx with hx;subst hx;exact⟨bg _,bg _⟩
  | succ g=>cases hx)
 have h0 :∀x,st.fns[0]? = some x→x.node=t.loc:=fun x hx=>by
  obtain⟨x',h1,h2⟩:=a1.ext.2 0 ⟨t.loc,-1,0,true,[],[]⟩ rfl;rw[h1] at hx;injection hx with hx;subst hx;exact h2.node
 refine⟨hk.fns,hk.least,h0,fun x hx=>?_⟩
 obtain⟨g,hg⟩:=jc.1 hx;refine⟨?_,(hk.few g x hg).1⟩;cases g with
 | zero=>rw[h0 x hg];exact qb t
 | succ g=>exact(a1.new (g+1) x (by show 1≤g+1;omega) hg).1
theorem y9 {k:Lt} {j:Nat} (hj:j∈k.dr) :∀{l:List Lt},k∈l→j∈Lt.aR l
 | c::l,hk=>by
  rw[Lt.aR];rcases ba.1 hk with rfl|hk
  ·exact dW _ hj
  ·exact gR _ (y9 hj hk)
theorem NZ {s t:Lt} (h:lK s t):s.loc∈t.dr:=by
 induction h with
 | self=>exact qb _
 | @down k t hk _ ih =>
  have:=y9 ih hk;cases t with
  | mk i h ks=>rw[Lt.dr];exact bQ _ this
theorem Ga {T:List Nd} {t:Lt} {x:dm} {n:Nat} (hn:gW T t) (kJ:t.hd.kind=18) (hx:x.node=t.loc) (h:NfP t x n):n=x.vars.length+aH t:=by
 obtain⟨s,hs,h1,h2⟩:=h;have key:s=t:=by
  cases hs with
  | self=>rfl
  | @down k _ hk hs' =>
   exfalso;have h3:=y9 (NZ hs') hk;rw[h1,hx] at h3;have dJ:=hn.nodup;cases t with
   | mk i h ks =>
    rw[Lt.dr,jf] at dJ;exact dJ.1 h3
 rw[h2,key];unfold lj;rw[ae (by omega)]
theorem SZ (v:Value) (T:List Nd) (r:Int) (w:World) (h:iI w v T r) (hs:Szd T) (hR:eY T r=false):Calls Tryz.prog 9 #[v] w fun e w'=>Below w.heap.size w w'∧∃u,e=.returned (.tuple #[.slice none 0 0,u])∧tl w' u 0 4:=by
 have HT:=aa h;have SW:=aa (fun W (hW:iI W v T r)=>vr v T r W hW hs hR)
 obtain⟨nv,rfl,nH⟩:=h;obtain⟨NA,nc,rfl,Xz,hX⟩:=nH;clear hs hR hX;go_enter Tryz.func9,Tryz.ntmps9
 go_wp2_with fail
 have hb0:Below w.heap.size w (w.alloc (.cells #[.slice NA T.length nc,.int .i64 r] 24)):=(Below.refl _ _).alloc (ag _) _;generalize w.alloc (.cells #[.slice NA T.length nc,.int .i64 r] 24)=W0 at hb0 ⊢;have B0:=aa hb0;clear hb0;refine(SW.out W0 (HT.out.below B0.out)).mono ?_;rintro e w2 ⟨b2,u,rfl,hf⟩;have B2:=aa (B0.out.trans (b2.mono B0.out.size));have Nv:=aa hf;obtain⟨g,rfl,_⟩:=hf;unfold qH;clear b2;go_wp2_with fail
 go_ret2
 have hb:=(Below.refl w2.heap.size w2).alloc (ag _) (.cells #[.slice none 0 0,.slice none 0 0,.slice none 0 0] 35);obtain⟨g',e1,e2⟩:=Nv.out;exact⟨B2.out.trans (hb.mono B2.out.size),_,rfl,g',e1,(hb.block g' (aM.1 e2).1).trans e2⟩
def o7 (c:Nat):Nat:=if 48≤c∧c≤57 then c-48 else if 97≤c∧c≤122 then c-87 else if 65≤c∧c≤90 then c-55 else 36
def val (b:Nat) (l:List UInt8):Nat:=l.foldl (fun n c=>n*b+o7 c.toNat) 0
theorem N0 (b:Nat) (l:List UInt8) (c:UInt8):val b (l++[c])=val b l*b+o7 c.toNat:=by simp[val]
def iO (b:Nat) (l:List UInt8):Bool:=l.all fun c=>decide (o7 c.toNat<b)
def tC (b:Nat) (l:List UInt8):Bool:=!l.isEmpty && iO b l
theorem I0 (b:Nat) (l:List UInt8) (c:UInt8):iO b (l++[c])=(iO b l && decide (o7 c.toNat<b)):=by simp[iO]
theorem BK {b:Nat} {l:List UInt8} {c:UInt8} (h:c∈l) (hc:b≤o7 c.toNat):iO b l=false:=by
 unfold iO;rw[List.all_eq_false];exact⟨c,h,by simpa using hc⟩
def DR (b:Nat) (l:List UInt8):Nat:=if tC b l then val b l % 18446744073709551616 else 0
theorem za {b:Nat} {l:List UInt8} (h:tC b l=false):DR b l=0:=by unfold DR;simp[h]
theorem DS {b:Nat} {l:List UInt8} (h:tC b l=true):DR b l=val b l % 18446744073709551616:=by unfold DR;simp[h]
theorem I2 (s:ByteArray) (k:Nat) (h:k<s.size):s.data.toList.take (k+1)=s.data.toList.take k++[s[k]]:=by
 rw[List.take_succ_eq_append_getElem (by simpa using h)];rfl
theorem get_mem (s:ByteArray) (k:Nat) (h:k<s.size):s[k]∈s.data.toList:=KZ (l:=s.data.toList) (n:=k) (by simpa using h)
def blanks:List UInt8:=[9,10,11,12,13,32]
def zb (c:Nat):Bool:=decide (9≤c∧c≤13) || decide (c=32)
theorem DT {P:UInt8→Prop} (h :∀i:Fin 256,P (UInt8.ofNat i.val)) (c:UInt8):P c:=by
 have:=h ⟨c.toNat,c.toNat_lt⟩;simpa using this
theorem lZ :∀c:UInt8,blanks.contains c=zb c.toNat:=DT (by decide +kernel)
def Gb (l:List UInt8):List UInt8:=Lib.trimS l blanks
theorem jJ {p:UInt8→Bool} (l:List UInt8) (c:UInt8):(l++[c]).dropWhile p=if l.dropWhile p=[] then (if p c then [] else [c]) else l.dropWhile p++[c]:=by
 induction l with
 | nil=>simp[List.dropWhile];cases p c<;>simp
 | cons a t ih =>
  by_cases h:p a=true
  ·simp only[iE,List.dropWhile,h]
   exact ih
  ·simp[List.dropWhile,h]
theorem YM {p:UInt8→Bool} (l:List UInt8):l.dropWhile p=[]↔∀x∈l,p x=true:=by
 induction l with
 | nil=>simp
 | cons a t ih =>
  cases h:p a
  ·simp[List.dropWhile,h]
  ·simp[List.dropWhile,h,ih]
theorem qI {p:UInt8→Bool} (l:List UInt8):l.reverse.dropWhile p=[]→l.dropWhile p=[]:=by
 intro h;rw[YM] at h ⊢;intro x hx;exact h x (by simpa using hx)
theorem I3 {p:UInt8→Bool} (l:List UInt8):(l.reverse.dropWhile p).reverse.dropWhile p=((l.dropWhile p).reverse.dropWhile p).reverse:=by
 induction l with
 | nil=>rfl
 | cons c t ih =>
  rw[EN,jJ];by_cases h0:t.reverse.dropWhile p=[]
  ·rw[aj h0]
   have h1:=qI t h0;cases hc:p c
   ·simp[List.dropWhile,hc,jJ,h0]
   ·simp[List.dropWhile,hc,h1]
  ·rw[ae h0]
   cases hc:p c
   ·simp[List.dropWhile,hc,jJ,h0]
   ·simp[List.dropWhile,hc,ih]
theorem xQ (l:List UInt8):Lib.trimRightS (Lib.trimLeftS l blanks) blanks=Gb l:=(I3 l).symm
theorem YN (l:List UInt8):(Gb l).length≤l.length:=by
 rw[←xQ];unfold Lib.trimRightS Lib.trimLeftS;rw[List.length_reverse];have h1:=(EJ (fun x=>blanks.contains x) (l:=(List.dropWhile (fun x=>blanks.contains x) l).reverse)).length_le
 have h2:=(EJ (fun x=>blanks.contains x) (l:=l)).length_le
 rw[List.length_reverse] at h1;omega
def tD (l:List UInt8):Bool:=Lib.hasPrefix l [48,120] || Lib.hasPrefix l [48,88]
def qJ (most:Int) (l:List UInt8):Bool:=tC 10 l && decide ((val 10 l:Int)≤most)
def DU (most:Int) (l:List UInt8):Nat:=if qJ most l then val 10 l else 0
def qK (most:Int) (l:List UInt8):Bool:=if tD l then tC 16 (l.drop 2) else qJ most l
def vu (most:Int) (l:List UInt8):Nat:=if tD l then DR 16 (l.drop 2) else DU most l
def zP (n:Int):Int:=(n+9223372036854775808) % 18446744073709551616-9223372036854775808
def zc (l:List UInt8):Bool:=Lib.hasPrefix l [45]
def qL (b:Int) (l:List UInt8):Bool:=if 2≤b∧b≤36 then tC b.toNat (Lib.trimPrefix (Gb l) [45]) else false
def lk (b:Int) (l:List UInt8):Int:=if 2≤b∧b≤36 then (if zc (Gb l) then zP (-(DR b.toNat (Lib.trimPrefix (Gb l) [45]):Int)) else zP (DR b.toNat (Lib.trimPrefix (Gb l) [45]):Int)) else 0
theorem val_zero (l:List UInt8):val 10 (48::l)=val 10 l:=rfl
theorem ze (l:List UInt8) :∀n:Nat,n*10 ^ l.length≤l.foldl (fun n c=>n*10+o7 c.toNat) n:=by
 induction l with
 | nil=>intro n;simp
 | cons c t ih =>
  intro n;have h:=ih (n*10+o7 c.toNat);rw[List.foldl_cons,List.length_cons,EY];refine aL ?_ h;rw[E3,show n*(10 ^ t.length*10)=n*10*10 ^ t.length by rw[Nat.mul_assoc,EZ 10]]
  exact gr _ _
theorem zf (l:List UInt8) (h:iO 10 l=true) :∀n m:Nat,n<m→l.foldl (fun n c=>n*10+o7 c.toNat) n<m*10 ^ l.length:=by
 induction l with
 | nil=>intro n m h;simpa using h
 | cons c t ih =>
  intro n m hm;simp only[iO,sJ,dk,iD] at h;have hh:=ih h.2 (n*10+o7 c.toNat) (m*10) (by omega)
  rw[List.foldl_cons,List.length_cons,EY,EZ (10 ^ t.length),←Nat.mul_assoc];exact hh
theorem BM (l:List UInt8):val 10 (Lib.trimLeftB l 48)=val 10 l:=by
 unfold Lib.trimLeftB;induction l with
 | nil=>rfl
 | cons c t ih =>
  by_cases h:c=48
  ·subst h
   rw[val_zero,List.dropWhile,show((48:UInt8) == 48)=true from rfl]
   exact ih
  ·rw[List.dropWhile,show(c == 48)=false by simpa using h]
theorem xR {l:List UInt8} (h:iO 10 l=true):iO 10 (Lib.trimLeftB l 48)=true:=by
 unfold iO at *;rw[List.all_eq_true] at *;exact fun x hx=>h x ((EJ _).subset hx)
theorem I4 {l:List UInt8} (h:iO 10 l=true) (hl:(Lib.trimLeftB l 48).length≤19):val 10 l<10000000000000000000:=by
 rw[←BM];have:=zf _ (xR h) 0 1 (by omega)
 rw[E0] at this;have h2:10 ^ (Lib.trimLeftB l 48).length≤10 ^ 19:=KP (by omega) hl
 have h3:(10:Nat) ^ 19=10000000000000000000:=by decide
 unfold val;omega
theorem I5 (l:List UInt8) :∀c t,Lib.trimLeftB l 48=c::t→c≠48:=by
 unfold Lib.trimLeftB;induction l with
 | nil=>intro c t h;cases h
 | cons a r ih =>
  intro c t h;by_cases e:a=48
  ·subst e
   rw[List.dropWhile,show((48:UInt8) == 48)=true from rfl] at h
   exact ih c t h
  ·rw[List.dropWhile,show(a == 48)=false by simpa using e] at h
   injection h with h1 h2;exact h1▸e
theorem S4 {c:UInt8} (h:o7 c.toNat<10) (hc:c≠48):1≤o7 c.toNat:=by
 have hn:c.toNat≠48:=fun e=>hc (Ac.1 e)
 unfold o7 at *;split at h
 ·rename_i hh;rw[aj hh];omega
 ·split at h
  ·omega
  ·split at h<;>omega
theorem N3 {l:List UInt8} (h:iO 10 l=true) (hl:19<(Lib.trimLeftB l 48).length):10000000000000000000≤val 10 l:=by
 rw[←BM];have ha:=xR h;have hh:=I5 l;generalize Lib.trimLeftB l 48=m at *;cases m with
 | nil=>simp at hl
 | cons c t =>
  simp only[iO,sJ,dk,iD] at ha;have h1:=S4 ha.1 (hh c t rfl);have h2:=ze t (o7 c.toNat);have h3:10 ^ 19≤10 ^ t.length:=KP (by omega) (by simp at hl;omega)
  have h4:1*10 ^ t.length≤o7 c.toNat*10 ^ t.length:=EL _ h1;have h5:(10:Nat) ^ 19=10000000000000000000:=by decide
  have h6:val 10 (c::t)=t.foldl (fun n c=>n*10+o7 c.toNat) (o7 c.toNat):=by simp[val]
  rw[h6];omega
theorem N9 {b:Nat} {l:List UInt8} (h:tC b l=true):iO b l=true:=by
 unfold tC at h;rw[dk] at h;exact h.2
theorem I6 {l:List UInt8} (ho:tC 10 l=true) (hl:(Lib.trimLeftB l 48).length≤19):DR 10 l=val 10 l:=by
 have:=I4 (N9 ho) hl;rw[DS ho];omega
theorem Oa {m:Int} {l:List UInt8} (ho:tC 10 l=false):qJ m l=false:=by unfold qJ;rw[ho];rfl
theorem I7 {m:Int} {l:List UInt8} (hm:m≤9223372036854775808) (ho:tC 10 l=true) (hl:19<(Lib.trimLeftB l 48).length):qJ m l=false:=by
 have:=N3 (N9 ho) hl;unfold qJ;rw[ho,kP,zY];omega
theorem S5 {m:Int} {l:List UInt8} (ho:tC 10 l=true) (h:(val 10 l:Int)≤m):qJ m l=true:=by unfold qJ;rw[ho,kP,iD];exact h
theorem I8 {m:Int} {l:List UInt8} (h:m<(val 10 l:Int)):qJ m l=false:=by unfold qJ;rw[Bool.and_eq_false_iff,zY];right;omega
theorem zg {m:Int} {l:List UInt8} (h:qJ m l=false):DU m l=0:=by unfold DU;simp[h]
theorem S7 {m:Int} {l:List UInt8} (h:qJ m l=true):DU m l=val 10 l:=by unfold DU;simp[h]
def tE (c:UInt8):Bool:=zb c.toNat
def wJ (c:UInt8):Bool:=decide (97≤c.toNat∧c.toNat≤122) || decide (65≤c.toNat∧c.toNat≤90) || decide (c.toNat=95)
def gm (c:UInt8):Bool:=decide (48≤c.toNat∧c.toNat≤57)
def zQ (c:UInt8):Bool:=gm c || decide (97≤c.toNat∧c.toNat≤102) || decide (65≤c.toNat∧c.toNat≤70)
def nI (c:UInt8):Bool:=wJ c || gm c
def pG (c:UInt8):Bool:=nI c || decide (c.toNat=46)
def Gc (c:UInt8):Bool:=decide (c.toNat=39) || decide (c.toNat=34)
def runN (p:UInt8→Bool) (l:List UInt8):Nat:=(l.takeWhile p).length
theorem qM (p:UInt8→Bool) (l:List UInt8):l.take (runN p l)=l.takeWhile p:=by
 unfold runN;induction l with
 | nil=>rfl
 | cons a t ih=>cases h:p a<;>simp[h,ih]
theorem qN (p:UInt8→Bool) (l:List UInt8):l.drop (runN p l)=l.dropWhile p:=by
 unfold runN;induction l with
 | nil=>rfl
 | cons a t ih=>cases h:p a<;>simp[h,ih]
theorem ic (p:UInt8→Bool) (l:List UInt8):runN p l≤l.length:=by
 unfold runN;exact(List.takeWhile_sublist p (l:=l)).length_le
def nl (l:List UInt8):Nat:=Lib.countByte l 10
theorem YO:nl []=0:=rfl
theorem Ob (a b:List UInt8):nl (a++b)=nl a+nl b:=by unfold nl Lib.countByte;rw[List.count_append]
theorem YP (l:List UInt8) (k:Nat):nl l=nl (l.take k)+nl (l.drop k):=by rw[←Ob,EK]
theorem Wv (l:List UInt8):nl l≤l.length:=List.count_le_length
def keys:List (List UInt8):=[[97,110,100],[98,114,101,97,107],[100,111],[101,108,115,101],[101,108,115,101,105,102],[101,110,100],[102,97,108,115,101],[102,111,114],[102,117,110,99,116,105,111,110],[103,111,116,111],[105,102],[105,110],[108,111,99,97,108],[110,105,108],[110,111,116],[111,114],[114,101,112,101,97,116],[114,101,116,117,114,110],[116,104,101,110],[116,114,117,101],[117,110,116,105,108],[119,104,105,108,101]]
def qO (l:List UInt8):Bool:=keys.contains l
def signs:List (List UInt8):=[[43],[45],[42],[47,47],[37],[38],[124],[126],[60,60],[62,62],[46,46],[46,46,46],[61,61],[126,61],[60],[60,61],[62],[62,61],[61],[40],[41],[123],[125],[91],[93],[59],[58],[58,58],[44],[46],[35]]
def nJ (l:List UInt8):Bool:=signs.contains l
def opn (l:List UInt8):Nat :=
 if Lib.hasPrefix l [91] then (if Lib.hasPrefix (Lib.trimLeftB (l.drop 1) 61) [91] then l.length-((Lib.trimLeftB (l.drop 1) 61).drop 1).length else 0) else 0
def clo (x:List UInt8):List UInt8:=Lib.replaceAll x [91] [93]
def Ku (l:List UInt8):Option (List UInt8×List UInt8) :=
 if (Lib.cut (l.drop (opn l)) (clo (l.take (opn l)))).2.2 then some (Lib.trimPrefix (Lib.cut (l.drop (opn l)) (clo (l.take (opn l)))).1 [10],(Lib.cut (l.drop (opn l)) (clo (l.take (opn l)))).2.1) else none
def comm (l:List UInt8):Option (List UInt8) :=
 if 0<opn l then (Ku l).map (·.2) else some (l.drop (Lib.cut l [10]).1.length)
inductive nK:List UInt8→Except (List UInt8) (List UInt8)→Prop
 | done {l r:List UInt8}:l.dropWhile tE=r→Lib.hasPrefix r [45,45]=false→nK l (.ok r)
 | more {l r r':List UInt8} {o:Except (List UInt8) (List UInt8)}:l.dropWhile tE=45::45::r→comm r=some r'→nK r' o→nK l o
 | bad {l r:List UInt8}:l.dropWhile tE=45::45::r→comm r=none→nK l (.error (45::45::r))
def code (b:Int) (p:UInt8→Bool) (least most:Nat) (l:List UInt8):Option (List UInt8×List UInt8) :=
 if qL b (l.take (min most (runN p l)))=true∧least≤min most (runN p l)∧lk b (l.take (min most (runN p l)))≤255 then
  some ([UInt8.ofNat (lk b (l.take (min most (runN p l)))).toNat],l.drop (min most (runN p l))) else none
def wK (c:UInt8):Option UInt8 :=
 if c.toNat=97 then some 7 else if c.toNat=98 then some 8 else if c.toNat=102 then some 12 else if c.toNat=110 then some 10 else if c.toNat=114 then some 13 else if c.toNat=116 then some 9 else if c.toNat=118 then some 11 else none
def qP (c:UInt8):Bool:=decide (c.toNat=92) || decide (c.toNat=39) || decide (c.toNat=34) || decide (c.toNat=10)
def pH (c:UInt8) (r:List UInt8):Option (List UInt8×List UInt8) :=
 match wK c with
 | some x=>some ([x],r)
 | none=>if qP c then some ([c],r) else if c.toNat=122 then some ([],r.dropWhile tE) else if c.toNat=120 then code 16 zQ 2 2 r else if gm c then code 10 gm 1 3 (c::r) else none
def pW:List UInt8→Option (List UInt8×List UInt8)
 | []=>none
 | c::r=>pH c r
inductive zh (q:UInt8):List UInt8→Option (List UInt8×List UInt8)→Prop
 | shut {r:List UInt8}:zh q (q::r) (some ([],r))
 | none:zh q [] none
 | line {r:List UInt8}:q≠10→zh q (10::r) none
 | pW {r m r':List UInt8} {o:Option (List UInt8×List UInt8)}:q≠92→pW r=some (m,r')→zh q r' o→zh q (92::r) (o.map fun x=>(m++x.1,x.2))
 | bad {r:List UInt8}:q≠92→Go.Proofs.YtodmcdfeldkocaaGreatDoor.pW r=Option.none→zh q (92::r) Option.none
 | byte {c:UInt8} {r:List UInt8} {o:Option (List UInt8×List UInt8)}:c≠q→c≠10→c≠92→zh q r o→zh q (c::r) (o.map fun x=>(c::x.1,x.2))
def sign (l:List UInt8):Option (List UInt8×List UInt8) :=
 if nJ (l.take 3) then some (l.take 3,l.drop 3) else if nJ (l.take 2) then some (l.take 2,l.drop 2) else if nJ (l.take 1) then some (l.take 1,l.drop 1) else none
inductive Tok:List UInt8→Option (Int×Int×List UInt8×List UInt8)→Prop
 | eof:Tok [] (some (0,0,[],[]))
 | name {c:UInt8} {r:List UInt8}:wJ c=true→Tok (c::r) (some (if qO ((c::r).takeWhile nI) then 2 else 1,0,(c::r).takeWhile nI,(c::r).dropWhile nI))
 | num {c:UInt8} {r:List UInt8}:wJ c=false→gm c=true→qK 9223372036854775807 ((c::r).takeWhile pG)=true →
   Tok (c::r) (some (3,zP (vu 9223372036854775807 ((c::r).takeWhile pG):Int),[],(c::r).dropWhile pG))
 | DV {c:UInt8} {r:List UInt8}:wJ c=false→gm c=true→qK 9223372036854775807 ((c::r).takeWhile pG)=false→Tok (c::r) none
 | text {c:UInt8} {r:List UInt8} {o:Option (List UInt8×List UInt8)}:wJ c=false→gm c=false→Gc c=true→zh c r o→Tok (c::r) (o.map fun x=>(4,0,x.1,x.2))
 | long {c:UInt8} {r:List UInt8}:wJ c=false→gm c=false→Gc c=false→0<opn (c::r)→Tok (c::r) ((Ku (c::r)).map fun x=>(4,0,x.1,x.2))
 | sign {c:UInt8} {r:List UInt8}:wJ c=false→gm c=false→Gc c=false→¬ 0<opn (c::r)→Tok (c::r) ((sign (c::r)).map fun x=>(5,0,x.1,x.2))
abbrev Tk:=Int×Int×Int×List UInt8
inductive mH (L:Int):List UInt8→Except Int (List Tk)→Prop
 | l3 {l r:List UInt8}:nK l (.error r)→mH L l (.error (L-nl r))
 | pI {l r:List UInt8}:nK l (.ok r)→Tok r none→mH L l (.error (L-nl r))
 | eof {l:List UInt8}:nK l (.ok [])→mH L l (.ok [(0,L,0,[])])
 | step {l r r' s:List UInt8} {k n:Int} {o:Except Int (List Tk)}:nK l (.ok r)→r≠[]→Tok r (some (k,n,s,r'))→mH L r' o→mH L l (o.map ((k,L-nl r,n,s) :: ·))
theorem nK.tX {l:List UInt8} {o:Except (List UInt8) (List UInt8)} (h:nK l o) :∀{o'},nK l o'→o=o':=by
 induction h with
 | done h1 h2 =>
  intro o' h';cases h' with
  | done g1 g2=>rw[←h1,←g1]
  | more g1 g2 g3=>rw[h1] at g1;subst g1;simp[Lib.hasPrefix] at h2
  | bad g1 g2=>rw[h1] at g1;subst g1;simp[Lib.hasPrefix] at h2
 | more h1 h2 h3 ih =>
  intro o' h';cases h' with
  | done g1 g2=>rw[h1] at g1;subst g1;simp[Lib.hasPrefix] at g2
  | more g1 g2 g3 =>
   rw[h1] at g1;injection g1 with _ g1;injection g1 with _ g1;subst g1;rw[h2] at g2;injection g2 with g2;subst g2;exact ih g3
  | bad g1 g2 =>
   rw[h1] at g1;injection g1 with _ g1;injection g1 with _ g1;subst g1;rw[h2] at g2;cases g2
 | bad h1 h2 =>
  intro o' h';cases h' with
  | done g1 g2=>rw[h1] at g1;subst g1;simp[Lib.hasPrefix] at g2
  | more g1 g2 g3 =>
   rw[h1] at g1;injection g1 with _ g1;injection g1 with _ g1;subst g1;rw[h2] at g2;cases g2
  | bad g1 g2=>rw[←h1,←g1]
theorem zh.tX {q:UInt8} {l:List UInt8} {o:Option (List UInt8×List UInt8)} (h:zh q l o) :∀{o'},zh q l o'→o=o':=by
 induction h with
 | shut =>
  intro o' h';cases h' with
  | shut=>rfl
  | line g=>exact absurd rfl g
  | pW g=>exact absurd rfl g
  | bad g=>exact absurd rfl g
  | byte g=>exact absurd rfl g
 | none=>intro o' h';cases h';rfl
 | line h =>
  intro o' h';cases h' with
  | shut=>exact absurd rfl h
  | line g=>rfl
  | byte g1 g2=>exact absurd rfl g2
 | pW h1 h2 h3 ih =>
  intro o' h';cases h' with
  | shut=>exact absurd rfl h1
  | pW g1 g2 g3 =>
   rw[h2] at g2;injection g2 with g2;injection g2 with a b;subst a;subst b;rw[ih g3]
  | bad g1 g2=>rw[h2] at g2;cases g2
  | byte g1 g2 g3=>exact absurd rfl g3
 | bad h1 h2 =>
  intro o' h';cases h' with
  | shut=>exact absurd rfl h1
  | pW g1 g2 g3=>rw[h2] at g2;cases g2
  | bad g1 g2=>rfl
  | byte g1 g2 g3=>exact absurd rfl g3
 | byte h1 h2 h3 h4 ih =>
  intro o' h';cases h' with
  | shut=>exact absurd rfl h1
  | line=>exact absurd rfl h2
  | pW=>exact absurd rfl h3
  | bad=>exact absurd rfl h3
  | byte g1 g2 g3 g4=>rw[ih g4]
theorem Tok.tX {l:List UInt8} {o:Option (Int×Int×List UInt8×List UInt8)} (h:Tok l o) :∀{o'},Tok l o'→o=o':=by
 intro o' h';cases h<;>cases h'<;>first|rfl|(simp_all;done)|skip
 rename_i a b c d e f g i j k;rw[e.tX k]
theorem mH.tX {L:Int} {l:List UInt8} {o:Except Int (List Tk)} (h:mH L l o) :∀{o'},mH L l o'→o=o':=by
 induction h with
 | l3 h1 =>
  intro o' h';cases h' with
  | l3 g1=>cases h1.tX g1;rfl
  | pI g1=>cases h1.tX g1
  | eof g1=>cases h1.tX g1
  | step g1=>cases h1.tX g1
 | pI h1 h2 =>
  intro o' h';cases h' with
  | l3 g1=>cases h1.tX g1
  | pI g1=>cases h1.tX g1;rfl
  | eof g1=>cases h1.tX g1;cases h2
  | step g1 _ g3=>cases h1.tX g1;cases h2.tX g3
 | eof h1 =>
  intro o' h';cases h' with
  | l3 g1=>cases h1.tX g1
  | pI g1 g2=>cases h1.tX g1;cases g2
  | eof g1=>rfl
  | step g1 g2=>cases h1.tX g1;exact absurd rfl g2
 | step h1 h2 h3 h4 ih =>
  intro o' h';cases h' with
  | l3 g1=>cases h1.tX g1
  | pI g1 g2=>cases h1.tX g1;cases h3.tX g2
  | eof g1=>cases h1.tX g1;exact absurd rfl h2
  | step g1 g2 g3 g4 =>
   cases h1.tX g1;cases h3.tX g3;rw[ih g4]
theorem YQ (l:List UInt8):opn l≤l.length:=by unfold opn;split<;>(try split)<;>omega
theorem YR (l:List UInt8):(Lib.cut l [10]).1=l.takeWhile (fun c=>c != 10):=by
 unfold Lib.cut;rw[Lib.index_one];induction l with
 | nil=>rfl
 | cons a t ih =>
  unfold Lib.indexByte;by_cases h:a=10
  ·subst h;simp
  ·have hb:(a == 10)=false:=by simpa using h
   simp only[List.takeWhile_cons,bne,hb,Bool.not_false];by_cases h1:0≤Lib.indexByte t 10
   ·rw[aj h1] at ih
    have e:(Lib.indexByte t 10 == -1)=false:=by simpa using (by omega:Lib.indexByte t 10≠-1)
    simp only[e,KU,if_false,sL];rw[aj (by omega)]
    rw[show(Lib.indexByte t 10+1).toNat=(Lib.indexByte t 10).toNat+1 by omega,List.take_succ_cons]
    simp only[bne] at ih;rw[←ih]
   ·rw[ae h1] at ih
    have hge:=Lib.index_ge t [10];rw[Lib.index_one] at hge;have e:Lib.indexByte t 10 = -1:=by omega
    simp[e];simp only[bne] at ih;simpa using ih
theorem gb {c x:UInt8} (r:List UInt8) (e:wK c=some x):pH c r=some ([x],r):=by unfold pH;rw[e]
theorem ll {c:UInt8} (r:List UInt8) (e:wK c=none) (h:qP c=true):pH c r=some ([c],r):=by unfold pH;rw[e];exact aj h
theorem Oc {c:UInt8} (r:List UInt8) (e:wK c=none) (h:qP c=false) (h2:c.toNat=122):pH c r=some ([],r.dropWhile tE):=by
 unfold pH;rw[e];exact(ae (by rw[h];decide)).trans (aj h2)
theorem Od {c:UInt8} (r:List UInt8) (e:wK c=none) (h:qP c=false) (h2:c.toNat=120):pH c r=code 16 zQ 2 2 r:=by
 unfold pH;rw[e];exact(ae (by rw[h];decide)).trans ((ae (by omega)).trans (aj h2))
theorem Oe {c:UInt8} (r:List UInt8) (e:wK c=none) (h:qP c=false) (h2:c.toNat≠122) (h3:c.toNat≠120) (h4:gm c=true):pH c r=code 10 gm 1 3 (c::r):=by
 unfold pH;rw[e];exact(ae (by rw[h];decide)).trans ((ae h2).trans ((ae h3).trans (aj h4)))
theorem Gd {c:UInt8} (r:List UInt8) (e:wK c=none) (h:qP c=false) (h2:c.toNat≠122) (h3:c.toNat≠120) (h4:gm c=false):pH c r=none:=by
 unfold pH;rw[e];exact(ae (by rw[h];decide)).trans ((ae h2).trans ((ae h3).trans (ae (by rw[h4];decide))))
theorem S8 {a b:Int} (h:a=b):Ending.returned (.int .u64 a)=.returned (.int .u64 b):=by rw[h]
theorem YS (c:Nat):c<48∨(48≤c∧c≤57)∨(58≤c∧c≤64)∨(65≤c∧c≤90)∨(91≤c∧c≤96)∨(97≤c∧c≤122)∨123≤c:=by omega
theorem xS (c:Nat) (w:World) (h:c≤255) :
  Calls Tryz.prog 171 #[.int .u8 c] w fun e w'=>e=.returned (.int .u64 (o7 c:Int))∧w=w':=by
 rcases YS c with h1|h1|h1|h1|h1|h1|h1;all_goals
  go_enter Tryz.func171,Tryz.ntmps171
  go_wp2
  go_ret
  refine⟨S8 ?_,rfl⟩;unfold o7;repeat (first|rw[aj (by omega)]|rw[ae (by omega)])
  first|rfl|omega
theorem aa6 (c:UInt8):c.toNat≤255:=by have:=c.toNat_lt;omega
theorem YT (s:ByteArray) (h:0<s.size):s.data.toList≠[]:=by
 intro e;have:=Lib.size_eq s;rw[e,List.length_nil] at this;omega
theorem S9 (s:ByteArray) (h:¬ 0<s.size):s.data.toList=[]:=by
 have:=Lib.size_eq s;exact kK (by omega)
theorem vw {b:Nat} {l:List UInt8} (h:l=[]):tC b l=false:=by subst h;rfl
theorem Ge {b:Nat} {l:List UInt8} (h:l≠[]) (h':iO b l=true):tC b l=true:=by
 unfold tC;cases l with
 | nil=>exact absurd rfl h
 | cons=>simpa using h'
theorem Tc {b:Nat} {l:List UInt8} {c:UInt8} (h:c∈l) (hc:b≤o7 c.toNat):tC b l=false:=by
 unfold tC;rw[BK h hc];simp
theorem l7 {a a':Int} {o o':Bool} (h:a=a') (h':o=o'):Ending.returned (.tuple #[.int .u64 a,.bool o])=.returned (.tuple #[.int .u64 a',.bool o']):=by rw[h,h']
theorem Og (v b d:Nat):IntKind.u64.wrap (IntKind.u64.wrap ((v:Int) % 18446744073709551616*(b:Int))+(d:Int))=((v*b+d) % 18446744073709551616:Nat):=by
 rw[IntKind.wrap_u64,IntKind.wrap_u64];have e:(v:Int) % 18446744073709551616*(b:Int) % 18446744073709551616=(v*b:Int) % 18446744073709551616:=by
  rw[Int.mul_emod,Int.emod_emod_of_dvd _ (Int.dvd_refl _),←Int.mul_emod]
 rw[e];have:((v*b:Nat):Int)=(v*b:Int):=by simp
 rw[←this];omega
theorem lo (s:ByteArray) (b:Nat) (w:World) (hs:s.size≤9223372036854775807) :
  Calls Tryz.prog 153 #[.string s,.int .u64 b] w fun e w'=>e=.returned (.tuple #[.int .u64 (DR b s.data.toList:Int),.bool (tC b s.data.toList)])∧w=w':=by
 by_cases h0:0<s.size
 ·have hl:=YT s h0
  have he:(s.toList.isEmpty)=false:=by rw[Lib.toList_data];simpa using hl
  have HL:=aa hl;clear hl;go_enter Tryz.func153,Tryz.ntmps153
  go_wp2
  go_loop [6,13] (fun n i=>∃k:Nat,k≤s.size∧i=.int .i64 k∧n=.int .u64 ((val b (s.data.toList.take k) % 18446744073709551616:Nat):Int)∧iO b (s.data.toList.take k)=true) (fun _ i=>s.size-(intOf i).toNat)
  case atStart=>exact⟨0,bg _,rfl,rfl,rfl⟩
  case round =>
   obtain⟨k,hk,rfl,rfl,ha⟩:=hrel;have HA:=aa ha;clear ha;by_cases hlt:k<s.size
   ·have iY:=aa (I2 s k hlt)
    by_cases hd:o7 s[k].toNat<b
    ·have hm:val b (s.data.toList.take k) % 18446744073709551616<18446744073709551616:=Nat.mod_lt _ (by decide)
     have hvs:=aa (N0 b (s.data.toList.take k) s[k]);have has:=aa (I0 b (s.data.toList.take k) s[k]);generalize hv:val b (s.data.toList.take k)=v at hm hvs ⊢;clear hv;go_wp2_with (go_at_call 171;(with_reducible refine(xS _ _ (aa6 _)).mono ?_);rintro e w' ⟨rfl,rfl⟩)
     go_round
     case rel=>exact⟨k+1,by omega,by go_num,by rw[iY.out,hvs.out];exact az _ (Og v b _),by rw[iY.out,has.out,HA.out];simpa using hd⟩
     case measure=>simp[intOf];omega
    ·have pt:=aa (Tc (b:=b) (get_mem s k hlt) (by omega))
     go_wp2_with (go_at_call 171;(with_reducible refine(xS _ _ (aa6 _)).mono ?_);rintro e w' ⟨rfl,rfl⟩)
     go_ret2
     exact⟨l7 (by rw[za pt.out];rfl) pt.out.symm,rfl⟩
   ·have E6:k=s.size:=by omega
    have ha:=HA.out;rw[E6,Lib.size_eq,Aa] at ha;have rq:=Ge HL.out ha;have HO:=aa rq;have HK:=aa E6;clear rq E6 ha;go_wp2
    go_ret2
    exact⟨l7 (by rw[DS HO.out,HK.out,Lib.size_eq,Aa];omega) HO.out.symm,rfl⟩
 ·have hl:=S9 s h0
  have he:(s.toList.isEmpty)=true:=by rw[Lib.toList_data,hl];rfl
  rw[za (vw hl),vw hl];clear hl;go_enter Tryz.func153,Tryz.ntmps153
  go_wp2
  all_goals
   go_ret2
   exact⟨rfl,rfl⟩
end Go.Proofs.YtodmcdfeldkocaaGreatDoor
open Go.Shelf
namespace Go.Proofs
def Tryz.BN:Go.Shelf.Ren:=⟨fun|161=>159|231=>175|227=>176|233=>177|235=>178|228=>196|197=>181|151=>197|260=>200|152=>209|137=>155|119=>214|224=>192|225=>191|217=>172|266=>194|n=>n,fun|9=>9|4=>4|3=>3|5=>5|117=>239|116=>238|0=>0|124=>242|105=>248|21=>21|119=>260|46=>251|139=>263|138=>262|n=>n,fun|3=>2|4=>3|n=>n⟩
theorem Tryz.Td:Go.Proofs.Lays.n161 Tryz.prog Tryz.BN:={
 mixed:=by kernel_rfl
 f119:=Tryz.func214.trans (az some (by kernel_rfl))
 f137:=Tryz.func155.trans (az some (by kernel_rfl))
 f151:=Tryz.func197.trans (az some (by kernel_rfl))
 f152:=Tryz.func209.trans (az some (by kernel_rfl))
 f161:=Tryz.func159.trans (az some (by kernel_rfl))
 f197:=Tryz.func181.trans (az some (by kernel_rfl))
 f217:=Tryz.func172.trans (az some (by kernel_rfl))
 f224:=Tryz.func192.trans (az some (by kernel_rfl))
 f225:=Tryz.func191.trans (az some (by kernel_rfl))
 f227:=Tryz.func176.trans (az some (by kernel_rfl))
 f228:=Tryz.func196.trans (az some (by kernel_rfl))
 f231:=Tryz.func175.trans (az some (by kernel_rfl))
 f233:=Tryz.func177.trans (az some (by kernel_rfl))
 f235:=Tryz.func178.trans (az some (by kernel_rfl))
 f260:=Tryz.func200.trans (az some (by kernel_rfl))
 f266:=Tryz.func194.trans (az some (by kernel_rfl))
 t0:=Tryz.underlying0
 a0:=Tryz.isAgg0
 z0:=Tryz.sizeOf0
 v0:=Tryz.zeroValue0
 t3:=Tryz.underlying3
 a3:=Tryz.isAgg3
 z3:=Tryz.sizeOf3
 v3:=Tryz.zeroValue3
 t4:=Tryz.underlying4
 a4:=Tryz.isAgg4
 z4:=Tryz.sizeOf4
 v4:=Tryz.zeroValue4
 t5:=Tryz.underlying5
 a5:=Tryz.isAgg5
 z5:=Tryz.sizeOf5
 v5:=Tryz.zeroValue5
 t9:=Tryz.underlying9
 a9:=Tryz.isAgg9
 z9:=Tryz.sizeOf9
 v9:=Tryz.zeroValue9
 t21:=Tryz.underlying21
 a21:=Tryz.isAgg21
 z21:=Tryz.sizeOf21
 v21:=Tryz.zeroValue21
 t46:=Tryz.underlying251
 a46:=Tryz.isAgg251
 z46:=Tryz.sizeOf251
 v46:=Tryz.zeroValue251
 t105:=Tryz.underlying248
 a105:=Tryz.isAgg248
 z105:=Tryz.sizeOf248
 v105:=Tryz.zeroValue248
 t116:=Tryz.underlying238
 a116:=Tryz.isAgg238
 z116:=Tryz.sizeOf238
 t117:=Tryz.underlying239
 a117:=Tryz.isAgg239
 z117:=Tryz.sizeOf239
 v117:=Tryz.zeroValue239
 t119:=Tryz.underlying260
 a119:=Tryz.isAgg260
 z119:=Tryz.sizeOf260
 t124:=Tryz.underlying242
 a124:=Tryz.isAgg242
 z124:=Tryz.sizeOf242
 v124:=Tryz.zeroValue242
 t138:=Tryz.underlying262
 a138:=Tryz.isAgg262
 z138:=Tryz.sizeOf262
 v138:=Tryz.zeroValue262
 t139:=Tryz.underlying263
 a139:=Tryz.isAgg263
 z139:=Tryz.sizeOf263
 v139:=Tryz.zeroValue263
 g3:=by kernel_rfl
 g4:=by kernel_rfl}
open Go.RowKit in
theorem Tryz.strings_TrimLeft_one (s:ByteArray) (c:UInt8) (hc:c.toNat<128) (w:World) :
  Calls Tryz.prog 159 #[.string s,.string ⟨#[c]⟩] w fun e w'=>e=.returned (.string ⟨(Lib.trimLeftB s.data.toList c).toArray⟩)∧w'=w:=Any.strings_TrimLeft_one Tryz.Td s c hc w
def Tryz.BO:Go.Shelf.Ren:=⟨fun|160=>195|232=>206|231=>175|227=>176|234=>207|233=>177|236=>208|235=>178|228=>196|271=>213|151=>197|197=>181|120=>217|152=>209|260=>200|137=>155|119=>214|224=>192|225=>191|217=>172|266=>194|n=>n,fun|9=>9|4=>4|3=>3|5=>5|117=>239|116=>238|0=>0|124=>242|21=>21|105=>248|46=>251|119=>260|139=>263|138=>262|n=>n,fun|3=>2|4=>3|n=>n⟩
theorem Tryz.Te:Go.Proofs.Lays.n160 Tryz.prog Tryz.BO:={
 mixed:=by kernel_rfl
 f119:=Tryz.func214.trans (az some (by kernel_rfl))
 f120:=Tryz.func217.trans (az some (by kernel_rfl))
 f137:=Tryz.func155.trans (az some (by kernel_rfl))
 f151:=Tryz.func197.trans (az some (by kernel_rfl))
 f152:=Tryz.func209.trans (az some (by kernel_rfl))
 f160:=Tryz.func195.trans (az some (by kernel_rfl))
 f197:=Tryz.func181.trans (az some (by kernel_rfl))
 f217:=Tryz.func172.trans (az some (by kernel_rfl))
 f224:=Tryz.func192.trans (az some (by kernel_rfl))
 f225:=Tryz.func191.trans (az some (by kernel_rfl))
 f227:=Tryz.func176.trans (az some (by kernel_rfl))
 f228:=Tryz.func196.trans (az some (by kernel_rfl))
 f231:=Tryz.func175.trans (az some (by kernel_rfl))
 f232:=Tryz.func206.trans (az some (by kernel_rfl))
 f233:=Tryz.func177.trans (az some (by kernel_rfl))
 f234:=Tryz.func207.trans (az some (by kernel_rfl))
 f235:=Tryz.func178.trans (az some (by kernel_rfl))
 f236:=Tryz.func208.trans (az some (by kernel_rfl))
 f260:=Tryz.func200.trans (az some (by kernel_rfl))
 f266:=Tryz.func194.trans (az some (by kernel_rfl))
 f271:=Tryz.func213.trans (az some (by kernel_rfl))
 t0:=Tryz.underlying0
 a0:=Tryz.isAgg0
 z0:=Tryz.sizeOf0
 v0:=Tryz.zeroValue0
 t3:=Tryz.underlying3
 a3:=Tryz.isAgg3
 z3:=Tryz.sizeOf3
 v3:=Tryz.zeroValue3
 t4:=Tryz.underlying4
 a4:=Tryz.isAgg4
 z4:=Tryz.sizeOf4
 v4:=Tryz.zeroValue4
 t5:=Tryz.underlying5
 a5:=Tryz.isAgg5
 z5:=Tryz.sizeOf5
 v5:=Tryz.zeroValue5
 t9:=Tryz.underlying9
 a9:=Tryz.isAgg9
 z9:=Tryz.sizeOf9
 v9:=Tryz.zeroValue9
 t21:=Tryz.underlying21
 a21:=Tryz.isAgg21
 z21:=Tryz.sizeOf21
 v21:=Tryz.zeroValue21
 t46:=Tryz.underlying251
 a46:=Tryz.isAgg251
 z46:=Tryz.sizeOf251
 v46:=Tryz.zeroValue251
 t105:=Tryz.underlying248
 a105:=Tryz.isAgg248
 z105:=Tryz.sizeOf248
 v105:=Tryz.zeroValue248
 t116:=Tryz.underlying238
 a116:=Tryz.isAgg238
 z116:=Tryz.sizeOf238
 t117:=Tryz.underlying239
 a117:=Tryz.isAgg239
 z117:=Tryz.sizeOf239
 v117:=Tryz.zeroValue239
 t119:=Tryz.underlying260
 a119:=Tryz.isAgg260
 z119:=Tryz.sizeOf260
 t124:=Tryz.underlying242
 a124:=Tryz.isAgg242
 z124:=Tryz.sizeOf242
 v124:=Tryz.zeroValue242
 t138:=Tryz.underlying262
 a138:=Tryz.isAgg262
 z138:=Tryz.sizeOf262
 v138:=Tryz.zeroValue262
 t139:=Tryz.underlying263
 a139:=Tryz.isAgg263
 z139:=Tryz.sizeOf263
 v139:=Tryz.zeroValue263
 g3:=by kernel_rfl
 g4:=by kernel_rfl}
def Tryz.BP:Go.Shelf.Ren:=⟨fun|137=>155|217=>172|266=>194|n=>n,fun|9=>9|5=>5|3=>3|n=>n,fun|n=>n⟩
theorem Tryz.Tf:Go.Proofs.Lays.n137 Tryz.prog Tryz.BP:={
 mixed:=by kernel_rfl
 f137:=Tryz.func155.trans (az some (by kernel_rfl))
 f217:=Tryz.func172.trans (az some (by kernel_rfl))
 f266:=Tryz.func194.trans (az some (by kernel_rfl))
 t3:=Tryz.underlying3
 a3:=Tryz.isAgg3
 z3:=Tryz.sizeOf3
 v3:=Tryz.zeroValue3
 t5:=Tryz.underlying5
 a5:=Tryz.isAgg5
 z5:=Tryz.sizeOf5
 v5:=Tryz.zeroValue5
 t9:=Tryz.underlying9
 a9:=Tryz.isAgg9
 z9:=Tryz.sizeOf9
 v9:=Tryz.zeroValue9}
open Go.RowKit in
theorem Tryz.strings_IndexByte (s:ByteArray) (c:Int) (w:World) :
  Calls Tryz.prog 155 #[.string s,.int .u8 c] w fun e w'=>e=.returned (.int .i64 (Lib.indexByte s.data.toList c.toNat.toUInt8))∧w'=w:=Any.strings_IndexByte Tryz.Tf s c w
def Tryz.BQ:Go.Shelf.Ren:=⟨fun|103=>158|210=>174|206=>122|n=>n,fun|9=>9|4=>4|24=>180|3=>3|n=>n,fun|n=>n⟩
theorem Tryz.Tg:Go.Proofs.Lays.n103 Tryz.prog Tryz.BQ:={
 mixed:=by kernel_rfl
 f103:=Tryz.func158.trans (az some (by kernel_rfl))
 f206:=Tryz.func122.trans (az some (by kernel_rfl))
 f210:=Tryz.func174.trans (az some (by kernel_rfl))
 t3:=Tryz.underlying3
 a3:=Tryz.isAgg3
 z3:=Tryz.sizeOf3
 v3:=Tryz.zeroValue3
 t4:=Tryz.underlying4
 a4:=Tryz.isAgg4
 z4:=Tryz.sizeOf4
 v4:=Tryz.zeroValue4
 t9:=Tryz.underlying9
 a9:=Tryz.isAgg9
 z9:=Tryz.sizeOf9
 v9:=Tryz.zeroValue9
 t24:=Tryz.underlying180
 a24:=Tryz.isAgg180
 z24:=Tryz.sizeOf180
 v24:=Tryz.zeroValue180}
open Go.RowKit in
theorem Tryz.strings_CutPrefix (s p:ByteArray) (w:World) :
  Calls Tryz.prog 158 #[.string s,.string p] w fun e w'=>e=.returned (.tuple #[.string ⟨(Lib.trimPrefix s.data.toList p.data.toList).toArray⟩,.bool (Lib.hasPrefix s.data.toList p.data.toList)])∧w'=w:=Any.strings_CutPrefix Tryz.Tg s p w
def Tryz.BU:Go.Shelf.Ren:=⟨fun|145=>123|220=>152|219=>170|217=>172|225=>191|224=>192|267=>193|266=>194|314=>205|n=>n,fun|9=>9|4=>4|59=>203|3=>3|5=>5|46=>251|146=>255|51=>254|n=>n,fun|1=>1|n=>n⟩
theorem Tryz.Th:Go.Proofs.Lays.n145 Tryz.prog Tryz.BU:={
 mixed:=by kernel_rfl
 f145:=Tryz.func123.trans (az some (by kernel_rfl))
 f217:=Tryz.func172.trans (az some (by kernel_rfl))
 f219:=Tryz.func170.trans (az some (by kernel_rfl))
 f220:=Tryz.func152.trans (az some (by kernel_rfl))
 f224:=Tryz.func192.trans (az some (by kernel_rfl))
 f225:=Tryz.func191.trans (az some (by kernel_rfl))
 f266:=Tryz.func194.trans (az some (by kernel_rfl))
 f267:=Tryz.func193.trans (az some (by kernel_rfl))
 f314:=Tryz.func205.trans (az some (by kernel_rfl))
 t3:=Tryz.underlying3
 a3:=Tryz.isAgg3
 z3:=Tryz.sizeOf3
 v3:=Tryz.zeroValue3
 t4:=Tryz.underlying4
 a4:=Tryz.isAgg4
 z4:=Tryz.sizeOf4
 v4:=Tryz.zeroValue4
 t5:=Tryz.underlying5
 a5:=Tryz.isAgg5
 z5:=Tryz.sizeOf5
 v5:=Tryz.zeroValue5
 t9:=Tryz.underlying9
 a9:=Tryz.isAgg9
 z9:=Tryz.sizeOf9
 v9:=Tryz.zeroValue9
 t46:=Tryz.underlying251
 a46:=Tryz.isAgg251
 z46:=Tryz.sizeOf251
 v46:=Tryz.zeroValue251
 t51:=Tryz.underlying254
 a51:=Tryz.isAgg254
 z51:=Tryz.sizeOf254
 v51:=Tryz.zeroValue254
 t59:=Tryz.underlying203
 a59:=Tryz.isAgg203
 z59:=Tryz.sizeOf203
 v59:=Tryz.zeroValue203
 t146:=Tryz.underlying255
 a146:=Tryz.isAgg255
 z146:=Tryz.sizeOf255
 v146:=Tryz.zeroValue255
 g1:=by kernel_rfl}
open Go.RowKit Go.Lib in
theorem Tryz.strings_Cut (s sep:ByteArray) (m:Int) (w:World) (hs:s.size<4294967281) (hm:w.cell? ⟨1,0,none⟩=some (.int .i64 m)) :
  Calls Tryz.prog 123 #[.string s,.string sep] w fun e w'=>e=.returned (.tuple #[.string ⟨(Lib.cut s.data.toList sep.data.toList).1.toArray⟩,.string ⟨(Lib.cut s.data.toList sep.data.toList).2.1.toArray⟩,.bool (Lib.cut s.data.toList sep.data.toList).2.2])∧∃n,w'=w.drewN n:=Any.strings_Cut Tryz.Th s sep m w hs hm
def Tryz.BV:Go.Shelf.Ren:=⟨fun|138=>121|195=>149|218=>150|143=>151|219=>170|217=>172|225=>191|224=>192|267=>193|266=>194|314=>205|n=>n,fun|9=>9|3=>3|4=>4|5=>5|0=>0|46=>251|146=>255|51=>254|n=>n,fun|1=>1|n=>n⟩
theorem Tryz.Ti:Go.Proofs.Lays.n138 Tryz.prog Tryz.BV:={
 mixed:=by kernel_rfl
 f138:=Tryz.func121.trans (az some (by kernel_rfl))
 f143:=Tryz.func151.trans (az some (by kernel_rfl))
 f195:=Tryz.func149.trans (az some (by kernel_rfl))
 f217:=Tryz.func172.trans (az some (by kernel_rfl))
 f218:=Tryz.func150.trans (az some (by kernel_rfl))
 f219:=Tryz.func170.trans (az some (by kernel_rfl))
 f224:=Tryz.func192.trans (az some (by kernel_rfl))
 f225:=Tryz.func191.trans (az some (by kernel_rfl))
 f266:=Tryz.func194.trans (az some (by kernel_rfl))
 f267:=Tryz.func193.trans (az some (by kernel_rfl))
 f314:=Tryz.func205.trans (az some (by kernel_rfl))
 t0:=Tryz.underlying0
 a0:=Tryz.isAgg0
 z0:=Tryz.sizeOf0
 v0:=Tryz.zeroValue0
 t3:=Tryz.underlying3
 a3:=Tryz.isAgg3
 z3:=Tryz.sizeOf3
 v3:=Tryz.zeroValue3
 t4:=Tryz.underlying4
 a4:=Tryz.isAgg4
 z4:=Tryz.sizeOf4
 v4:=Tryz.zeroValue4
 t5:=Tryz.underlying5
 a5:=Tryz.isAgg5
 z5:=Tryz.sizeOf5
 v5:=Tryz.zeroValue5
 t9:=Tryz.underlying9
 a9:=Tryz.isAgg9
 z9:=Tryz.sizeOf9
 v9:=Tryz.zeroValue9
 t46:=Tryz.underlying251
 a46:=Tryz.isAgg251
 z46:=Tryz.sizeOf251
 v46:=Tryz.zeroValue251
 t51:=Tryz.underlying254
 a51:=Tryz.isAgg254
 z51:=Tryz.sizeOf254
 v51:=Tryz.zeroValue254
 t146:=Tryz.underlying255
 a146:=Tryz.isAgg255
 z146:=Tryz.sizeOf255
 v146:=Tryz.zeroValue255
 g1:=by kernel_rfl}
open Go.RowKit Go.Lib in
theorem Tryz.strings_Count_one (s:ByteArray) (c:UInt8) (w:World) :
  Calls Tryz.prog 121 #[.string s,.string ⟨#[c]⟩] w fun e w'=>e=.returned (.int .i64 (Lib.countByte s.data.toList c))∧w'=w:=Any.strings_Count_one Tryz.Ti s c w
def Tryz.DW:Go.Shelf.Ren:=⟨fun|99=>85|206=>122|n=>n,fun|9=>9|4=>4|3=>3|n=>n,fun|n=>n⟩
theorem Tryz.YU:Go.Proofs.Lays.n99 Tryz.prog Tryz.DW:={
 mixed:=by kernel_rfl
 f99:=Tryz.func85.trans (az some (by kernel_rfl))
 f206:=Tryz.func122.trans (az some (by kernel_rfl))
 t3:=Tryz.underlying3
 a3:=Tryz.isAgg3
 z3:=Tryz.sizeOf3
 v3:=Tryz.zeroValue3
 t4:=Tryz.underlying4
 a4:=Tryz.isAgg4
 z4:=Tryz.sizeOf4
 v4:=Tryz.zeroValue4
 t9:=Tryz.underlying9
 a9:=Tryz.isAgg9
 z9:=Tryz.sizeOf9
 v9:=Tryz.zeroValue9}
open Go.RowKit Go.Lib in
theorem Tryz.strings_HasPrefix (s p:ByteArray) (w:World) :
  Calls Tryz.prog 85 #[.string s,.string p] w fun e w'=>e=.returned (.bool (Lib.hasPrefix s.data.toList p.data.toList))∧w'=w:=Any.strings_HasPrefix Tryz.YU s p w
def Tryz.BX:Go.Shelf.Ren:=⟨fun|101=>129|208=>161|206=>122|n=>n,fun|9=>9|4=>4|3=>3|n=>n,fun|n=>n⟩
theorem Tryz.Tj:Go.Proofs.Lays.n101 Tryz.prog Tryz.BX:={
 mixed:=by kernel_rfl
 f101:=Tryz.func129.trans (az some (by kernel_rfl))
 f206:=Tryz.func122.trans (az some (by kernel_rfl))
 f208:=Tryz.func161.trans (az some (by kernel_rfl))
 t3:=Tryz.underlying3
 a3:=Tryz.isAgg3
 z3:=Tryz.sizeOf3
 v3:=Tryz.zeroValue3
 t4:=Tryz.underlying4
 a4:=Tryz.isAgg4
 z4:=Tryz.sizeOf4
 v4:=Tryz.zeroValue4
 t9:=Tryz.underlying9
 a9:=Tryz.isAgg9
 z9:=Tryz.sizeOf9
 v9:=Tryz.zeroValue9}
open Go.RowKit Go.Lib in
theorem Tryz.strings_TrimPrefix (s p:ByteArray) (w:World) :
  Calls Tryz.prog 129 #[.string s,.string p] w fun e w'=>e=.returned (.string ⟨(Lib.trimPrefix s.data.toList p.data.toList).toArray⟩)∧w'=w:=Any.strings_TrimPrefix Tryz.Tj s p w
def Tryz.sX:Go.Shelf.Ren:=⟨fun|155=>128|154=>160|138=>121|165=>179|143=>151|166=>180|197=>181|169=>182|195=>149|218=>150|240=>198|241=>199|219=>170|260=>200|276=>210|277=>211|217=>172|225=>191|224=>192|267=>193|266=>194|314=>205|n=>n,fun|9=>9|3=>3|4=>4|72=>245|0=>0|76=>79|105=>248|21=>21|5=>5|70=>243|20=>20|37=>208|75=>29|127=>253|164=>96|46=>251|119=>260|139=>263|138=>262|146=>255|51=>254|80=>122|n=>n,fun|1=>1|3=>2|4=>3|n=>n⟩
theorem Tryz.Tl:Go.Proofs.Lays.n155 Tryz.prog Tryz.sX:={
 mixed:=by kernel_rfl
 f138:=Tryz.func121.trans (az some (by kernel_rfl))
 f143:=Tryz.func151.trans (az some (by kernel_rfl))
 f154:=Tryz.func160.trans (az some (by kernel_rfl))
 f155:=Tryz.func128.trans (az some (by kernel_rfl))
 f165:=Tryz.func179.trans (az some (by kernel_rfl))
 f166:=Tryz.func180.trans (az some (by kernel_rfl))
 f169:=Tryz.func182.trans (az some (by kernel_rfl))
 f195:=Tryz.func149.trans (az some (by kernel_rfl))
 f197:=Tryz.func181.trans (az some (by kernel_rfl))
 f217:=Tryz.func172.trans (az some (by kernel_rfl))
 f218:=Tryz.func150.trans (az some (by kernel_rfl))
 f219:=Tryz.func170.trans (az some (by kernel_rfl))
 f224:=Tryz.func192.trans (az some (by kernel_rfl))
 f225:=Tryz.func191.trans (az some (by kernel_rfl))
 f240:=Tryz.func198.trans (az some (by kernel_rfl))
 f241:=Tryz.func199.trans (az some (by kernel_rfl))
 f260:=Tryz.func200.trans (az some (by kernel_rfl))
 f266:=Tryz.func194.trans (az some (by kernel_rfl))
 f267:=Tryz.func193.trans (az some (by kernel_rfl))
 f276:=Tryz.func210.trans (az some (by kernel_rfl))
 f277:=Tryz.func211.trans (az some (by kernel_rfl))
 f314:=Tryz.func205.trans (az some (by kernel_rfl))
 t0:=Tryz.underlying0
 a0:=Tryz.isAgg0
 z0:=Tryz.sizeOf0
 v0:=Tryz.zeroValue0
 t3:=Tryz.underlying3
 a3:=Tryz.isAgg3
 z3:=Tryz.sizeOf3
 v3:=Tryz.zeroValue3
 t4:=Tryz.underlying4
 a4:=Tryz.isAgg4
 z4:=Tryz.sizeOf4
 v4:=Tryz.zeroValue4
 t5:=Tryz.underlying5
 a5:=Tryz.isAgg5
 z5:=Tryz.sizeOf5
 v5:=Tryz.zeroValue5
 t9:=Tryz.underlying9
 a9:=Tryz.isAgg9
 z9:=Tryz.sizeOf9
 v9:=Tryz.zeroValue9
 t20:=Tryz.underlying20
 a20:=Tryz.isAgg20
 z20:=Tryz.sizeOf20
 v20:=Tryz.zeroValue20
 t21:=Tryz.underlying21
 a21:=Tryz.isAgg21
 z21:=Tryz.sizeOf21
 v21:=Tryz.zeroValue21
 t37:=Tryz.underlying208
 a37:=Tryz.isAgg208
 z37:=Tryz.sizeOf208
 v37:=Tryz.zeroValue208
 t46:=Tryz.underlying251
 a46:=Tryz.isAgg251
 z46:=Tryz.sizeOf251
 v46:=Tryz.zeroValue251
 t51:=Tryz.underlying254
 a51:=Tryz.isAgg254
 z51:=Tryz.sizeOf254
 v51:=Tryz.zeroValue254
 t70:=Tryz.underlying243
 a70:=Tryz.isAgg243
 z70:=Tryz.sizeOf243
 v70:=Tryz.zeroValue243
 t72:=Tryz.underlying245
 a72:=Tryz.isAgg245
 z72:=Tryz.sizeOf245
 v72:=Tryz.zeroValue245
 t75:=Tryz.underlying29
 a75:=Tryz.isAgg29
 z75:=Tryz.sizeOf29
 v75:=Tryz.zeroValue29
 t76:=Tryz.underlying79
 a76:=Tryz.isAgg79
 z76:=Tryz.sizeOf79
 v76:=Tryz.zeroValue79
 t105:=Tryz.underlying248
 a105:=Tryz.isAgg248
 z105:=Tryz.sizeOf248
 v105:=Tryz.zeroValue248
 t119:=Tryz.underlying260
 a119:=Tryz.isAgg260
 z119:=Tryz.sizeOf260
 t127:=Tryz.underlying253
 a127:=Tryz.isAgg253
 z127:=Tryz.sizeOf253
 v127:=Tryz.zeroValue253
 t138:=Tryz.underlying262
 a138:=Tryz.isAgg262
 z138:=Tryz.sizeOf262
 v138:=Tryz.zeroValue262
 t139:=Tryz.underlying263
 a139:=Tryz.isAgg263
 z139:=Tryz.sizeOf263
 v139:=Tryz.zeroValue263
 t146:=Tryz.underlying255
 a146:=Tryz.isAgg255
 z146:=Tryz.sizeOf255
 v146:=Tryz.zeroValue255
 t164:=Tryz.underlying96
 a164:=Tryz.isAgg96
 z164:=Tryz.sizeOf96
 v164:=Tryz.zeroValue96
 g1:=by kernel_rfl
 g3:=by kernel_rfl
 g4:=by kernel_rfl}
theorem Tryz.qQ:Builder.Extra Tryz.prog Tryz.sX:={
 sizeBuilder:=by kernel_rfl
 liesBuilder:=by kernel_rfl
 t5:=Tryz.underlying5
 a5:=Tryz.isAgg5
 z5:=Tryz.sizeOf5
 v5:=Tryz.zeroValue5
 infoByte:=by kernel_rfl
 cellsByte:=by kernel_rfl
 sizeByte:=by kernel_rfl
 neB5:=by decide}
open Go.RowKit Go.Lib in
theorem Tryz.strings_ReplaceAll (s old new:ByteArray) (m:Int) (w:World) (hs:s.size<4294967281) (hm:w.cell? ⟨1,0,none⟩=some (.int .i64 m)) (h1:1≤old.size) (hlen:s.size+Lib.countB s old*new.size≤140737488355328) :
  Calls Tryz.prog 128 #[.string s,.string old,.string new] w fun e w' =>
   e=.returned (.string ⟨(Lib.replaceAll s.data.toList old.data.toList new.data.toList).toArray⟩)∧Below w.heap.size w w':=Any.strings_ReplaceAll Tryz.Tl Tryz.qQ s old new m w hs hm h1 hlen
end Go.Proofs
namespace Go.Proofs.YtodmcdfeldkocaaGreatDoor
open Go.RowKit
theorem DX {a a':Int} {o o':Bool} (h:a=a') (h':o=o'):Ending.returned (.tuple #[.int .i64 a,.bool o])=.returned (.tuple #[.int .i64 a',.bool o']):=by rw[h,h']
theorem Oh (s:ByteArray) (w:World):Calls Tryz.prog 159 #[.string s,.string ⟨#[48]⟩] w fun e w'=>e=.returned (.string ⟨(Lib.trimLeftB s.data.toList 48).toArray⟩)∧w=w' :=
 (Tryz.strings_TrimLeft_one s 48 (by decide) w).mono fun _ _ ⟨h,h'⟩=>⟨h,h'.symm⟩
theorem Oi (s:ByteArray) (b:Nat) (w:World) (hs:s.size≤9223372036854775807) (h:tC b s.data.toList=false) :
  Calls Tryz.prog 153 #[.string s,.int .u64 b] w fun e w'=>e=.returned (.tuple #[.int .u64 0,.bool false])∧w=w':=by
 have hc:=lo s b w hs;rw[za h,h] at hc;exact hc
theorem xU (s:ByteArray) (b:Nat) (w:World) (hs:s.size≤9223372036854775807) (h:tC b s.data.toList=true) :
  Calls Tryz.prog 153 #[.string s,.int .u64 b] w fun e w'=>e=.returned (.tuple #[.int .u64 (DR b s.data.toList:Int),.bool true])∧w=w':=by
 have hc:=lo s b w hs;rw[h] at hc;exact hc
theorem BY (s:ByteArray) (m:Int) (w:World) (hs:s.size≤9223372036854775807) (hm:m≤9223372036854775808) :
  Calls Tryz.prog 154 #[.string s,.int .u64 m] w fun e w'=>e=.returned (.tuple #[.int .u64 (DU m s.data.toList:Int),.bool (qJ m s.data.toList)])∧w=w':=by
 cases ho:tC 10 s.data.toList
 ·have HN:=aa (Oa (m:=m) ho)
  have HO:=aa ho;clear ho;go_enter Tryz.func154,Tryz.ntmps154
  go_wp2_with fail
  refine(Oi s 10 _ hs HO.out).mono ?_;rintro e w1 ⟨rfl,rfl⟩;go_wp2_with fail
  go_ret2
  exact⟨l7 (by rw[zg HN.out];rfl) HN.out.symm,rfl⟩
 ·have HO:=aa ho
  by_cases hl:(Lib.trimLeftB s.data.toList 48).length≤19
  ·have HW:=aa (I6 ho hl)
   clear ho;obtain⟨v,hv⟩ :∃v:Int,v=(val 10 s.data.toList:Int):=⟨_,rfl⟩;have HV:=aa hv;have HC:=aa (fun(w:World)=>HV.out▸HW.out▸xU s 10 w hs HO.out)
   clear hv;by_cases hvm:v≤m
   ·have HN:=aa (S5 HO.out (HV.out▸hvm))
    go_enter Tryz.func154,Tryz.ntmps154
    go_wp2_with fail
    refine(HC.out _).mono ?_;rintro e w1 ⟨rfl,rfl⟩;go_wp2_with fail
    refine(Oh _ _).mono ?_;rintro e w2 ⟨rfl,rfl⟩;go_wp2_with fail
    go_ret2
    exact⟨l7 (by rw[S7 HN.out];exact HV.out) HN.out.symm,rfl⟩
   ·have HN:=aa (I8 (HV.out▸Int.lt_of_not_ge hvm))
    go_enter Tryz.func154,Tryz.ntmps154
    go_wp2_with fail
    refine(HC.out _).mono ?_;rintro e w1 ⟨rfl,rfl⟩;go_wp2_with fail
    refine(Oh _ _).mono ?_;rintro e w2 ⟨rfl,rfl⟩;go_wp2_with fail
    go_ret2
    exact⟨l7 (by rw[zg HN.out];rfl) HN.out.symm,rfl⟩
  ·have HN:=aa (I7 hm ho (Nat.lt_of_not_le hl))
   clear ho;go_enter Tryz.func154,Tryz.ntmps154
   go_wp2_with fail
   refine(xU s 10 _ hs HO.out).mono ?_;rintro e w1 ⟨rfl,rfl⟩;go_wp2_with fail
   refine(Oh _ _).mono ?_;rintro e w2 ⟨rfl,rfl⟩;go_wp2_with fail
   go_ret2
   exact⟨l7 (by rw[zg HN.out];rfl) HN.out.symm,rfl⟩
theorem l9 (s p:ByteArray) (w:World) (r:Bool) (h:Lib.hasPrefix s.data.toList p.data.toList=r):Calls Tryz.prog 85 #[.string s,.string p] w fun e w'=>e=.returned (.bool r)∧w=w' :=
 (Tryz.strings_HasPrefix s p w).mono fun _ _ ⟨a,b⟩=>⟨by rw[a,h],b.symm⟩
theorem vx (s:ByteArray) (k:Nat):(⟨(s.data.toList.drop k).toArray⟩:ByteArray)=s.extract k s.size:=by
 rw[Lib.extract_eq,sF (by rw[je,Lib.size_eq];omega)]
theorem aa7 {s:ByteArray} {a b:UInt8} (h:Lib.hasPrefix s.data.toList [a,b]=true):2≤s.size:=by
 rw[Lib.size_eq];unfold Lib.hasPrefix at h;match hs:s.data.toList,h with
 | [],h=>simp[List.isPrefixOf] at h
 | [_],h=>simp[List.isPrefixOf] at h
 | _::_::_,_=>simp
theorem YV {l:List UInt8} (h:Lib.hasPrefix l [48,120]=true):tD l=true:=by unfold tD;rw[h];rfl
theorem YW {l:List UInt8} (h:Lib.hasPrefix l [48,88]=true):tD l=true:=by unfold tD;rw[h];simp
theorem YX {l:List UInt8} (h:Lib.hasPrefix l [48,120]=false) (h':Lib.hasPrefix l [48,88]=false):tD l=false:=by unfold tD;rw[h,h'];rfl
theorem BZ {m:Int} {l:List UInt8} (h:tD l=true):qK m l=tC 16 (l.drop 2):=by unfold qK;simp[h]
theorem B9 {m:Int} {l:List UInt8} (h:tD l=true):vu m l=DR 16 (l.drop 2):=by unfold vu;simp[h]
theorem Oj {m:Int} {l:List UInt8} (h:tD l=false):qK m l=qJ m l:=by unfold qK;simp[h]
theorem Ok {m:Int} {l:List UInt8} (h:tD l=false):vu m l=DU m l:=by unfold vu;simp[h]
theorem vy (s:ByteArray) (k b:Nat) (w:World) (hs:s.size≤9223372036854775807) :
  Calls Tryz.prog 153 #[.string (s.extract k s.size),.int .u64 b] w fun e w'=>e=.returned (.tuple #[.int .u64 (DR b (s.data.toList.drop k):Int),.bool (tC b (s.data.toList.drop k))])∧w=w':=by
 have h:=lo ⟨(s.data.toList.drop k).toArray⟩ b w (by rw[Lib.size_mk,je,←Lib.size_eq];omega)
 rw[vx] at h;rw[show(s.extract k s.size).data.toList=s.data.toList.drop k by rw[←vx]] at h
 exact h
theorem Ca (s:ByteArray) (m:Int) (w:World) (hs:s.size≤9223372036854775807) (hm:m≤9223372036854775808) :
  Calls Tryz.prog 125 #[.string s,.int .u64 m] w fun e w'=>e=.returned (.tuple #[.int .u64 (vu m s.data.toList:Int),.bool (qK m s.data.toList)])∧w=w':=by
 have HM:=aa hm;clear hm;cases h1:Lib.hasPrefix s.data.toList [48,120]
 ·cases h2:Lib.hasPrefix s.data.toList [48,88]
  ·have HX:=aa (YX h1 h2)
   have H1:=aa h1;have H2:=aa h2;clear h1 h2;go_enter Tryz.func125,Tryz.ntmps125
   go_wp2_with fail
   refine(l9 _ _ _ _ H1.out).mono ?_;rintro e w1 ⟨rfl,rfl⟩;go_wp2_with fail
   refine(l9 _ _ _ _ H2.out).mono ?_;rintro e w1 ⟨rfl,rfl⟩;go_wp2_with fail
   refine(BY _ _ _ hs HM.out).mono ?_;rintro e w1 ⟨rfl,rfl⟩;go_wp2_with fail
   go_ret2
   exact⟨l7 (by rw[Ok HX.out]) (Oj HX.out).symm,rfl⟩
  ·have HX:=aa (YW h2)
   have H1:=aa h1;have H2:=aa h2;have hz:=aa7 h2;clear h1 h2;go_enter Tryz.func125,Tryz.ntmps125
   go_wp2_with fail
   refine(l9 _ _ _ _ H1.out).mono ?_;rintro e w1 ⟨rfl,rfl⟩;go_wp2_with fail
   refine(l9 _ _ _ _ H2.out).mono ?_;rintro e w1 ⟨rfl,rfl⟩;go_wp2_with fail
   refine(vy _ 2 16 _ hs).mono ?_;rintro e w1 ⟨rfl,rfl⟩;go_wp2_with fail
   go_ret2
   exact⟨l7 (by rw[B9 HX.out]) (BZ HX.out).symm,rfl⟩
 ·have HX:=aa (YV h1)
  have H1:=aa h1;have hz:=aa7 h1;clear h1;go_enter Tryz.func125,Tryz.ntmps125
  go_wp2_with fail
  refine(l9 _ _ _ _ H1.out).mono ?_;rintro e w1 ⟨rfl,rfl⟩;go_wp2_with fail
  refine(vy _ 2 16 _ hs).mono ?_;rintro e w1 ⟨rfl,rfl⟩;go_wp2_with fail
  go_ret2
  exact⟨l7 (by rw[B9 HX.out]) (BZ HX.out).symm,rfl⟩
theorem zi (n:Int):wrap64 n=zP n:=by unfold wrap64 zP;rfl
theorem Tm (n:Int):zP (IntKind.u64.wrap n)=zP n:=by rw[IntKind.wrap_u64];unfold zP;omega
theorem Cb (s:ByteArray) (w:World) (hs:s.size≤9223372036854775807) :
  Calls Tryz.prog 90 #[.string s] w fun e w'=>e=.returned (.tuple #[.int .i64 (zP (vu 9223372036854775807 s.data.toList:Int)),.bool (qK 9223372036854775807 s.data.toList)])∧w=w':=by
 go_enter Tryz.func90,Tryz.ntmps90
 go_wp2_with fail
 refine(Ca _ _ _ hs (by omega)).mono ?_;rintro e w1 ⟨rfl,rfl⟩
 go_wp2_with fail
 go_ret2
 exact⟨DX (by first|exact zi _|exact aca _) rfl,rfl⟩
theorem Ol (s:ByteArray) (w:World) (hs:s.size≤9223372036854775807) :
  Calls Tryz.prog 195 #[.string s,.string ⟨#[9,10,11,12,13,32]⟩] w fun e w'=>e=.returned (.string ⟨(Gb s.data.toList).toArray⟩)∧Below w.heap.size w w' :=
 Any.strings_Trim_laid Tryz.Te (by kernel_rfl) s ⟨#[9,10,11,12,13,32]⟩ w hs (by decide) (ascii_of_all (by decide))
theorem Om (s:ByteArray):(⟨(Gb s.data.toList).toArray⟩:ByteArray).size≤s.size:=by
 rw[Lib.size_mk,Lib.size_eq];exact YN _
theorem aa8 (t:ByteArray) (w:World) (r:Bool) (h:zc t.data.toList=r) :
  Calls Tryz.prog 158 #[.string t,.string ⟨#[45]⟩] w fun e w'=>e=.returned (.tuple #[.string ⟨(Lib.trimPrefix t.data.toList [45]).toArray⟩,.bool r])∧w=w' :=
 (Tryz.strings_CutPrefix t ⟨#[45]⟩ w).mono fun _ _ ⟨a,b⟩=>⟨by rw[a,←h];rfl,b.symm⟩
theorem Oo (t:ByteArray) (p:List UInt8):(⟨(Lib.trimPrefix t.data.toList p).toArray⟩:ByteArray).size≤t.size:=by
 rw[Lib.size_mk,Lib.size_eq];exact Lib.trimPrefix_le _ _
theorem Oq {b:Int} {l:List UInt8} (h:¬ (2≤b∧b≤36)):qL b l=false:=by unfold qL;rw[ae h]
theorem Ot {b:Int} {l:List UInt8} (h:¬ (2≤b∧b≤36)):lk b l=0:=by unfold lk;rw[ae h]
theorem I9 (s:ByteArray) (b:Int) (w:World) (h:¬ (2≤b∧b≤36)) :
  Calls Tryz.prog 173 #[.string s,.int .i64 b] w fun e w'=>e=.returned (.tuple #[.int .i64 (lk b s.data.toList),.bool (qL b s.data.toList)])∧Below w.heap.size w w':=by
 rw[Oq h,Ot h];by_cases h1:b<2
 ·clear h
  go_enter Tryz.func173,Tryz.ntmps173
  go_wp2_with fail
  go_ret2
  exact⟨rfl,Below.refl _ _⟩
 ·have h2:36<b:=by omega
  clear h;go_enter Tryz.func173,Tryz.ntmps173
  go_wp2_with fail
  go_ret2
  exact⟨rfl,Below.refl _ _⟩
theorem Ou (s:ByteArray) (b:Nat) (w:World) (hs:s.size≤9223372036854775807) (h1:2≤b) (h2:b≤36) :
  Calls Tryz.prog 173 #[.string s,.int .i64 b] w fun e w'=>e=.returned (.tuple #[.int .i64 (lk b s.data.toList),.bool (qL b s.data.toList)])∧Below w.heap.size w w':=by
 have hz:=Om s;have HT:=aa (show(⟨(Gb s.data.toList).toArray⟩:ByteArray).data.toList=Gb s.data.toList from rfl)
 have HC:=aa (Ol s · hs)
 generalize (⟨(Gb s.data.toList).toArray⟩:ByteArray)=t at hz HT HC;have hm:=Oo t [45];have ho:qL b s.data.toList=tC b (Lib.trimPrefix t.data.toList [45]):=by unfold qL;rw[←HT.out,aj (by omega)];rfl
 have HO:=aa ho;clear ho;cases h:zc t.data.toList
 ·have HH:=aa h
  clear h;have hn:lk b s.data.toList=zP (DR b (Lib.trimPrefix t.data.toList [45]):Int):=by unfold lk;rw[←HT.out,aj (by omega),ae (by rw[HH.out];exact fX)];rfl
  have HN:=aa hn;clear hn;go_enter Tryz.func173,Tryz.ntmps173
  go_wp2_with fail
  refine(HC.out _).mono ?_;rintro e w1 ⟨rfl,b1⟩;go_wp2_with fail
  refine(aa8 _ _ _ HH.out).mono ?_;rintro e w2 ⟨rfl,rfl⟩;go_wp2_with fail
  refine(lo _ b _ (by omega)).mono ?_;rintro e w2 ⟨rfl,rfl⟩
  go_wp2_with fail
  go_ret2
  exact⟨DX (by rw[HN.out];exact zi _) HO.out.symm,b1⟩
 ·have HH:=aa h
  clear h;have hn:lk b s.data.toList=zP (-(DR b (Lib.trimPrefix t.data.toList [45]):Int)):=by unfold lk;rw[←HT.out,aj (by omega),aj HH.out];rfl
  have HN:=aa hn;clear hn;go_enter Tryz.func173,Tryz.ntmps173
  go_wp2_with fail
  refine(HC.out _).mono ?_;rintro e w1 ⟨rfl,b1⟩;go_wp2_with fail
  refine(aa8 _ _ _ HH.out).mono ?_;rintro e w2 ⟨rfl,rfl⟩;go_wp2_with fail
  refine(lo _ b _ (by omega)).mono ?_;rintro e w2 ⟨rfl,rfl⟩
  go_wp2_with fail
  go_ret2
  refine⟨DX ?_ HO.out.symm,b1⟩;rw[HN.out];exact(zi _).trans (Tm _)
theorem Ww (s:ByteArray) (b:Int) (w:World) (hs:s.size≤9223372036854775807) :
  Calls Tryz.prog 173 #[.string s,.int .i64 b] w fun e w'=>e=.returned (.tuple #[.int .i64 (lk b s.data.toList),.bool (qL b s.data.toList)])∧Below w.heap.size w w':=by
 by_cases h:2≤b∧b≤36
 ·obtain⟨k,rfl⟩ :∃k:Nat,b=k:=⟨b.toNat,by omega⟩
  exact Ou s k w hs (by omega) (by omega)
 ·exact I9 s b w h
def Mx (w:World):Prop:=∃m:Int,w.cell? ⟨1,0,none⟩=some (.int .i64 m)
theorem Ov (s:ByteArray) (w:World):Calls Tryz.prog 121 #[.string s,.string ⟨#[10]⟩] w fun e w'=>e=.returned (.int .i64 (nl s.data.toList:Int))∧w=w' :=
 (Tryz.strings_Count_one s 10 w).mono fun _ _ ⟨a,b⟩=>⟨a,b.symm⟩
theorem Cc (f p:ByteArray) (w:World) (hs:f.size≤1000000) (h:Mx w):Calls Tryz.prog 123 #[.string f,.string p] w fun e w' =>
  e=.returned (.tuple #[.string ⟨(Lib.cut f.data.toList p.data.toList).1.toArray⟩,.string ⟨(Lib.cut f.data.toList p.data.toList).2.1.toArray⟩,.bool (Lib.cut f.data.toList p.data.toList).2.2])∧∃n,w'=w.drewN n:=by
 obtain⟨m,hm⟩:=h;exact Tryz.strings_Cut f p m w (by omega) hm
theorem rW (t p:ByteArray) (w:World):Calls Tryz.prog 158 #[.string t,.string p] w fun e w'=>e=.returned (.tuple #[.string ⟨(Lib.trimPrefix t.data.toList p.data.toList).toArray⟩,.bool (Lib.hasPrefix t.data.toList p.data.toList)])∧w=w' :=
 (Tryz.strings_CutPrefix t p w).mono fun _ _ ⟨a,b⟩=>⟨a,b.symm⟩
theorem Ow (s:ByteArray) (w:World):Calls Tryz.prog 159 #[.string s,.string ⟨#[61]⟩] w fun e w'=>e=.returned (.string ⟨(Lib.trimLeftB s.data.toList 61).toArray⟩)∧w=w' :=
 (Tryz.strings_TrimLeft_one s 61 (by decide) w).mono fun _ _ ⟨a,b⟩=>⟨a,b.symm⟩
theorem Ja (s:ByteArray) (w:World) (hs:s.size≤1000000) (h:Mx w):Calls Tryz.prog 128 #[.string s,.string ⟨#[91]⟩,.string ⟨#[93]⟩] w fun e w'=>e=.returned (.string ⟨(clo s.data.toList).toArray⟩)∧Below w.heap.size w w':=by
 obtain⟨m,hm⟩:=h;have h1:=Lib.countB_le (⟨#[91]⟩:ByteArray) (by decide) s.size s (ag _)
 have h2:(⟨#[93]⟩:ByteArray).size=1:=rfl;exact Tryz.strings_ReplaceAll s ⟨#[91]⟩ ⟨#[93]⟩ m w (by omega) hm (by decide) (by rw[h2];omega)
theorem Ox (t:ByteArray) (w:World):Calls Tryz.prog 129 #[.string t,.string ⟨#[10]⟩] w fun e w'=>e=.returned (.string ⟨(Lib.trimPrefix t.data.toList [10]).toArray⟩)∧w=w' :=
 (Tryz.strings_TrimPrefix t ⟨#[10]⟩ w).mono fun _ _ ⟨a,b⟩=>⟨a,b.symm⟩
theorem eZ (s:ByteArray) (c:UInt8) (w:World):Calls Tryz.prog 155 #[.string s,.int .u8 (c.toNat:Int)] w fun e w'=>e=.returned (.int .i64 (Lib.indexByte s.data.toList c))∧w=w' :=
 (Tryz.strings_IndexByte s (c.toNat:Int) w).mono fun _ _ ⟨a,b⟩=>⟨by rw[a];congr 3;simp,b.symm⟩
def Kp (b:Nat) (w w':World):Prop:=w.grownBy w' (some b)
theorem Kp.refl (b:Nat) (w:World):Kp b w w:=World.grownBy.refl _ _
theorem Kp.trans {b:Nat} {u v w:World} (h:Kp b u v) (k:Kp b v w):Kp b u w:=World.grownBy.trans h k
theorem Kp.draws {b:Nat} {w w':World} (h:Kp b w w') (n:Nat):Kp b w (w'.drewN n):=⟨h.os,h.tape,h.output,h.size,h.block⟩
theorem Kp.af {b:Nat} {w w':World} (h:Below w.heap.size w w'):Kp b w w':=⟨h.os,h.tape,h.output,h.size,fun k hk _=>h.block k hk⟩
theorem Kp.set {b:Nat} {w w':World} (h:Kp b w w') (o:Nat) (v:Value):Kp b w (w'.setCell ⟨b,o,none⟩ v) :=
 h.trans ⟨rfl,rfl,rfl,by simp[World.setCell],fun k _ hk=>Below.heap_setCell _ _ _ k (fun e=>hk (by rw[e]))⟩
theorem Kp.alloc {b:Nat} {w w':World} (h:Kp b w w') (o:Obj):Kp b w (w'.alloc o):=h.trans (World.grownBy_alloc _ _ _)
structure Rd (W:World) (b:Nat) (s:ByteArray) (k:Nat):Prop where
 blk:W.heap[b]? = some (.cells #[.string s,.int .i64 (k:Int),.int .i64 ((1+nl (s.data.toList.take k):Nat):Int)] 111 (0,0))
 le:k≤s.size
 top:s.size≤100000
 far:4≤b
 mx:Mx W
theorem Rd.lt {W:World} {b:Nat} {s:ByteArray} {k:Nat} (h:Rd W b s k):b<W.heap.size:=(aM.1 h.blk).1
theorem Rd.c0 {W:World} {b:Nat} {s:ByteArray} {k:Nat} (h:Rd W b s k):W.cell? ⟨b,0,none⟩=some (.string s):=by simp[World.cell?,h.blk]
theorem Rd.c1 {W:World} {b:Nat} {s:ByteArray} {k:Nat} (h:Rd W b s k):W.cell? ⟨b,1,none⟩=some (.int .i64 (k:Int)):=by simp[World.cell?,h.blk]
theorem Rd.c2 {W:World} {b:Nat} {s:ByteArray} {k:Nat} (h:Rd W b s k):W.cell? ⟨b,2,none⟩=some (.int .i64 ((1+nl (s.data.toList.take k):Nat):Int)):=by simp[World.cell?,h.blk]
theorem Rd.f1 {W:World} {b:Nat} {s:ByteArray} {k:Nat} (h:Rd W b s k):W.frozen? ⟨b,1,none⟩=false:=by simp[World.frozen?,h.blk]
theorem Rd.f2 {W:World} {b:Nat} {s:ByteArray} {k:Nat} (h:Rd W b s k):W.frozen? ⟨b,2,none⟩=false:=by simp[World.frozen?,h.blk]
theorem Mx.kp {b:Nat} {w w':World} (h:Mx w) (hb:4≤b) (hk:Kp b w w'):Mx w':=by
 obtain⟨m,hm⟩:=h;exact⟨m,World.grownBy.cell hk hm (by simp;omega)⟩
theorem Mx.below {w w':World} (h:Mx w) (hb:Below w.heap.size w w'):Mx w':=by
 obtain⟨m,hm⟩:=h;exact⟨m,(hb.cell (p:=⟨1,0,none⟩) (World.block_lt_of_cell? w _ hm)).trans hm⟩
theorem Rd.below {W W':World} {b:Nat} {s:ByteArray} {k:Nat} (h:Rd W b s k) (hb:Below W.heap.size W W'):Rd W' b s k :=
 ⟨(hb.block b h.lt).trans h.blk,h.le,h.top,h.far,h.mx.below hb⟩
theorem Rd.draws {W:World} {b:Nat} {s:ByteArray} {k:Nat} (h:Rd W b s k) (n:Nat):Rd (W.drewN n) b s k:=⟨h.blk,h.le,h.top,h.far,h.mx⟩
theorem Rd.alloc {W:World} {b:Nat} {s:ByteArray} {k:Nat} (h:Rd W b s k) (o:Obj):Rd (W.alloc o) b s k:=h.below ((Below.refl _ _).alloc (ag _) _)
theorem ay (b:Nat) (s:ByteArray) (k:Nat) (w:World) (h:Rd w b s k) :
  Calls Tryz.prog 83 #[.pointer (some ⟨b,0,none⟩)] w fun e w'=>e=.returned (.string (s.extract k s.size))∧Rd w' b s k∧Kp b w w':=by
 have HR:=aa h;have c0:=h.c0;have c1:=h.c1;have hle:=h.le;have cr:=h.top;clear h;go_enter Tryz.func83,Tryz.ntmps83
 go_wp2
 go_quiet (fail)
 go_wp2
 go_ret
 exact⟨rfl,HR.out.draws _,(Kp.refl _ _).draws _⟩
theorem zj (s:ByteArray) (k:Nat):(s.extract k s.size).data.toList=s.data.toList.drop k:=by
 rw[KJ];simp only[Array.toList_extract,List.extract_eq_take_drop];exact sF (by rw[je];exact ag _)
theorem ma (s:ByteArray) (k c:Nat):(s.extract k (k+c)).data.toList=(s.data.toList.drop k).take c:=by
 rw[KJ];simp
theorem Oy (s:ByteArray) (k c:Nat):1+nl (s.data.toList.take k)+nl (s.extract k (k+c)).data.toList=1+nl (s.data.toList.take (k+c)):=by
 rw[ma,List.take_add,Ob];omega
theorem zk {W:World} {b:Nat} {a0 a1 a2:Value} {t:TypeId} (h:W.heap[b]? = some (.cells #[a0,a1,a2] t (0,0))) (v:Value) :
  (W.setCell ⟨b,1,none⟩ v).heap[b]? = some (.cells #[a0,v,a2] t (0,0))∧(W.setCell ⟨b,2,none⟩ v).heap[b]? = some (.cells #[a0,a1,v] t (0,0)):=by
 obtain⟨hlt,hk⟩:=aM.1 h;constructor
 ·show(W.heap.modify b _)[b]? = _
  rw[wS (by rw[z8];exact hlt),zW,hk]
  rfl
 ·show(W.heap.modify b _)[b]? = _
  rw[wS (by rw[z8];exact hlt),zW,hk]
  rfl
theorem Kp.drew {b:Nat} {w w':World} (h:Kp b w w'):Kp b w w'.drew:=⟨h.os,h.tape,h.output,h.size,h.block⟩
theorem Rd.moved {w:World} {b:Nat} {s:ByteArray} {k:Nat} (h:Rd w b s k) (c:Nat) (hc:k+c≤s.size) (nq:Nat) (x y:Int) (hx:x=((k+c:Nat):Int)) (hy:y=((1+nl (s.data.toList.take (k+c)):Nat):Int)) :
  Rd (((w.drewN nq).setCell ⟨b,1,none⟩ (.int .i64 x)).setCell ⟨b,2,none⟩ (.int .i64 y)).drew b s (k+c):=by
 have h0:(w.drewN nq).heap[b]? = some (.cells #[.string s,.int .i64 (k:Int),.int .i64 ((1+nl (s.data.toList.take k):Nat):Int)] 111 (0,0)):=h.blk;have h2:=(zk (zk h0 (.int .i64 x)).1 (.int .i64 y)).2;refine⟨?_,hc,h.top,h.far,?_⟩
 ·rw[hx,hy] at h2 ⊢
  exact h2
 ·exact h.mx.kp h.far ((((Kp.refl b w).draws nq).set 1 _).set 2 _).drew
theorem Oz (w:World) (b nq:Nat) (x y:Value):Kp b w (((w.drewN nq).setCell ⟨b,1,none⟩ x).setCell ⟨b,2,none⟩ y).drew:=((((Kp.refl b w).draws nq).set 1 _).set 2 _).drew
theorem bs (b:Nat) (s:ByteArray) (k c:Nat) (w:World) (h:Rd w b s k) (hc:k+c≤s.size) :
  Calls Tryz.prog 81 #[.pointer (some ⟨b,0,none⟩),.int .i64 (c:Int)] w fun e w'=>e=.returned (.string (s.extract k (k+c)))∧Rd w' b s (k+c)∧Kp b w w':=by
 have HR:=aa h;have c0:=h.c0;have c1:=h.c1;have hle:=h.le;have cr:=h.top;clear h;go_enter Tryz.func81,Tryz.ntmps81
 go_wp2
 have w1:IntKind.i64.wrap ((k:Int)+(c:Int))=(k:Int)+(c:Int):=IntWalk.i64_in _ (by omega)
 go_quiet (fail)
 clear w1;have f1:=HR.out.f1;go_wp2_with fail
 have c2:=HR.out.c2;have f2:=HR.out.f2;obtain⟨n,hn⟩ :∃n:Nat,n=nl (s.data.toList.take k):=⟨_,rfl⟩;obtain⟨m,hm⟩ :∃m:Nat,m=nl (s.extract k (k+c)).data.toList:=⟨_,rfl⟩;rw[←hn] at c2;have HC:=aa (fun W=>hm▸Ov (s.extract k (k+c)) W)
 have AX:n≤100000:=by
  have:=Wv (s.data.toList.take k);rw[jd] at this;omega
 have hm1:m≤100000:=by
  have:=Wv (s.extract k (k+c)).data.toList;rw[ma,jd] at this;rw[ma] at hm;omega
 have HN:=aa hn;have HM:=aa hm;clear hn hm;have w2:IntKind.i64.wrap (((1+n:Nat):Int)+(m:Int))=((1+n+m:Nat):Int):=by rw[IntWalk.i64_in _ (by omega)];omega
 go_region_with ((go_at_call 121;refine(HC.out _).mono ?_;rintro e w' ⟨rfl,rfl⟩))
 all_goals go_wp2
 all_goals go_ret
 all_goals exact⟨rfl,HR.out.moved c hc _ _ _ (by omega) (by rw[IntWalk.i64_in _ (by omega),←Oy,←HN.out,←HM.out];omega),Oz _ _ _ _ _⟩
end Go.Proofs.YtodmcdfeldkocaaGreatDoor
