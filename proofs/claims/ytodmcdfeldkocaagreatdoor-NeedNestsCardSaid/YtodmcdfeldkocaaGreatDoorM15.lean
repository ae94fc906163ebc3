/- Parts of the proof. -/
import Derived.Lib.IfaceEq
import Derived.LoopTactic
import Derived.Test.YtodmcdfeldkocaaGreatDoorCards
import Derived.Test.YtodmcdfeldkocaaGreatDoorTie
import Derived.ProofKit
import Derived.LaidMore
import Derived.LaidHandle
import Derived.Lay
import Derived.OpenShut
import Derived.SizedLaws
import Derived.Stop.Joined
import Derived.Stop.LaidErr
import Derived.Lib.LaidTab
import Derived.Test.YtodmcdfeldkocaaGreatDoorM14
set_option maxHeartbeats 16000000
set_option maxRecDepth 20000
namespace Go.Proofs.YtodmcdfeldkocaaGreatDoor
open Go.RowKit
theorem gw {B:Nat} {w W:World} {n j:Nat} {v:Value} (h:Below B w W) (hn:B≤n):Below B w (W.setCell ⟨n,j,none⟩ v):=⟨h.os,h.tape,h.output,by simpa[World.setCell] using h.size,fun k hk=>(Below.heap_setCell _ _ _ k (by show k≠n;omega)).trans (h.block k hk)⟩
theorem CC {W:World} {n j g:Nat} {v:Value} {o:Obj} (h:W.heap[g]? = some o) (hn:g≠n):(W.setCell ⟨n,j,none⟩ v).heap[g]? = some o:=(Below.heap_setCell _ _ _ g hn).trans h
theorem QO (g:Nat) (w:World) (h:qW w):Calls Tryz.prog 20 #[.iface 82 (.pointer (some ⟨g,0,none⟩)),.iface 83 (.pointer (some ⟨w.heap.size,0,none⟩))] (w.alloc (.cells #[.pointer none] 82)) fun e w' =>
  e=.returned (.bool true)∧w'.cell? ⟨w.heap.size,0,none⟩=some (.pointer (some ⟨g,0,none⟩))∧Below w.heap.size w w':=by
 have hB:=(Below.refl w.heap.size w).alloc (ah _) (.cells #[.pointer none] 82);have hE:=h.below hB;have hx:=Boxed.new w 82 (.pointer none);refine(Vy ⟨g,0,none⟩ ⟨w.heap.size,0,none⟩ (.pointer none) (w.alloc (.cells #[.pointer none] 82)) hE.et hx.cell hx.frozen).mono ?_;rintro e w' ⟨rfl,rfl⟩;exact⟨rfl,(((((hx.alloc _).alloc _).alloc _).alloc _).set _).cell,(((((hB.alloc (by simp) _).alloc (by simp;omega) _).alloc (by simp;omega) _).alloc (by simp;omega) _)).setCell (ah _) _⟩
def mo:Value:=.agg #[.slice none 0 0,.int .i64 0]
def Km (s:ByteArray) (w:World) (e:Ending) (w':World):Prop :=
 Below w.heap.size w w'∧∃o,l9 (dD s) s.data.toList o∧match o with
  | .error n=>∃v,e=.returned (.tuple #[mo,v])∧Vz w' v n 5
  | .ok ts=>ts.length≤s.size+1∧∃q,PL uU ts q∧match q with
   | .error l=>∃v,e=.returned (.tuple #[mo,v])∧Vz w' v l 6
   | .ok (a,_)=>(100<a.depth∧∃v,e=.returned (.tuple #[mo,v])∧Vz w' v 1 7) ∨
    (a.depth≤100∧∃(v:Value) (T:List Nd) (p:Nat),e=.returned (.tuple #[v,.nilIface])∧my w' v T (p:Int)∧eA [] T [a] [(p:Int)])
theorem VC (s:ByteArray) (w:World) (hs:s.size≤8000) (hE:qW w) (hZ :∀(ts aA:List ak) (a:Ast),l9 (dD s) s.data.toList (.ok ts)→ts.length≤s.size+1→PL uU ts (.ok (a,aA))→a.size≤16384):Calls Tryz.prog 14 #[.string s] w (Km s w):=by
 have h7:=hE.big;have hM:=hE.mx;have hlx:=fun W (h1:4≤W.heap.size) (h2:Mx W)=>Uh s W (by omega) h1 h2
 have HL:=aa (hlx (w.alloc (.cells #[.slice none 0 0,.int .i64 0] 24)) (by simp;omega) (hM.below (aW w _)))
 have HS:=aa hs;have HE:=aa hE;have HZ:=aa hZ;clear hlx hE hM hs h7 hZ;go_enter Tryz.func14,Tryz.ntmps14
 go_wp2_with fail
 refine HL.out.mono ?_;rintro e w1 ⟨b1,o,ho,h1⟩;have B1:=aa (ay (aW w (.cells #[.slice none 0 0,.int .i64 0] 24)) b1);have rb :∀W,Below w1.heap.size w1 W→W.heap[w.heap.size]? = some (.cells #[.slice none 0 0,.int .i64 0] 24 (0,0)):=fun W hW=>((ay b1 hW).block w.heap.size (by simp)).trans (World.alloc_heap_new w _)
 have RB:=aa rb;have d0:w1.cell? ⟨w.heap.size,0,none⟩=some (.slice none 0 0):=by simp[World.cell?,rb w1 (Below.refl _ _)]
 have d1:w1.cell? ⟨w.heap.size,1,none⟩=some (.int .i64 0):=by simp[World.cell?,rb w1 (Below.refl _ _)]
 have y0:w1.frozen? ⟨w.heap.size,0,none⟩=false:=by simp[World.frozen?,rb w1 (Below.refl _ _)]
 have y1:w1.frozen? ⟨w.heap.size,1,none⟩=false:=by simp[World.frozen?,rb w1 (Below.refl _ _)]
 have HO:=aa ho;cases o with
 | error n =>
  obtain⟨v,rfl,g,rfl,hf⟩:=h1;have HF:=aa hf;clear b1 rb ho hf;have Uw:g≠w.heap.size:=fun e=>by
   have h1:=RB.out w1 (Below.refl _ _);rw[←e,HF.out] at h1;simp at h1
  go_wp2_with fail
  refine bodyPost_ret (v:=.tuple #[mo,.iface 59 (.pointer (some ⟨g,0,none⟩))]) ?_ rfl ⟨?_,.error n,HO.out,_,rfl,g,rfl,?_⟩
  ·simp[results,Tryz.results14,go_sem,mo,d0,d1]
  ·exact gw (gw (B1.out) (ah _)) (ah _)
  ·exact CC (CC HF.out Uw) Uw
 | ok ts =>
  obtain⟨hlen,v,rfl,hT⟩:=h1;have zj:=lex_wf ho (by unfold dD;omega) ts rfl
  obtain⟨g,cp,rfl,hcp,re,eF⟩:=hT.ex;obtain⟨t,r,jo⟩:=zj.fin.cons;have hT2:vk w1 (.slice (some ⟨g,0,none⟩) ts.length cp) ts:=hT;have MM:=aaz hT2 zj.fin (by have:=HS.out;omega) re
  have aco:=aay (N:=ts.length+1) (t:=t) (r:=r) (by rw[jo];exact dz _) (by rw[←jo];have:=HS.out;omega) (jo▸zj) (jo▸Gw.self uU ts)
  rw[jo] at MM;have HN:=aa (qS (w1.alloc (.cells #[.slice (some ⟨g,0,none⟩) (t::r).length cp,.int .i64 0,.slice none 0 0] 78)) (w1.alloc (.cells #[.slice (some ⟨g,0,none⟩) (t::r).length cp,.int .i64 0,.slice none 0 0] 78)) (w1.heap.size+1) (by simp) MM (ax.refl _ _) (mN 18) rfl [ba 24 w1.heap.size,ba 25 w1.heap.size] [Pt (ts.length+1),Pg] (by simp) ⟨(Cw (ts.length+1)).uT.part (enters_of Tryz.func24 (by kernel_rfl) rfl) _ _ _,Ph _ _ _,trivial⟩ aco)
  subst jo;have IL:=aa hlen;clear hT hT2 MM aco zj eF ho rb b1 hlen;go_wp2_with fail
  refine HN.out.mono ?_;intro e w3 h3;have b3:Below w1.heap.size w1 w3:=Below.trans (aW w1 _) (h3.1.below (B:=w1.heap.size) (fun k hk=>by omega) (by simp))
  have B3:=aa (ay B1.out b3);have aaA:=aa b3;have hbl:w1.heap.size<w3.heap.size:=cG (by simp) h3.1.size
  have hwl:w.heap.size<w1.heap.size:=(aO.1 (RB.out w1 (Below.refl _ _))).1;have rb3:=RB.out w3 b3;have RB3:=aa rb3;have e0:w3.cell? ⟨w.heap.size,0,none⟩=some (.slice none 0 0):=by simp[World.cell?,rb3]
  have e1:w3.cell? ⟨w.heap.size,1,none⟩=some (.int .i64 0):=by simp[World.cell?,rb3]
  have z0:w3.frozen? ⟨w.heap.size,0,none⟩=false:=by simp[World.frozen?,rb3]
  have z1:w3.frozen? ⟨w.heap.size,1,none⟩=false:=by simp[World.frozen?,rb3]
  have ad8:w.heap.size<w3.heap.size:=by omega
  clear rb3 b3 d0 d1 y0 y1;rcases h3.2 with ⟨p,a,ir,O2,T2,rfl,p2,x2,l2,k2⟩ | ⟨le,v,er,rfl,⟨g',rfl,m2,m3⟩,k2⟩
  ·obtain⟨A,c2,cT,rN⟩:=p2.nodes
   have hsz:T2.length=a.size:=by rw[l2.len,vr];simp
   have hle:T2.length≤16384:=by
    have:=HZ.out _ _ _ HO.out IL.out k2;omega
   have q1:decide ((16384:Int)<(T2.length:Int))=false:=bZ (by omega)
   have S8 :∃js,gC T2 a p js∧js.Nodup∧js.length=T2.length:=by
    obtain⟨_,js,hr,x9⟩:=l2;unfold bj at hr;obtain⟨k,gX,j1,j2,ek,hr1,hr2,ej⟩:=hr;unfold bj at hr2;obtain⟨_,rfl⟩:=hr2;have ek2:k=p:=by injection ek with ek _;omega
    subst ek2;rw[gh] at ej;subst ej;exact⟨_,hr1,x9.nodup_iff.2 (List.nodup_range' ..),by rw[x9.length_eq,Lj];simp⟩
   have oS:eP T2 (p:Int)=a.depth:=by
    obtain⟨js,r1,r2,r3⟩:=S8;exact Aa r1 r2 r3 hle
   have L2:=aa l2;have K2:=aa k2;have HNd:=aa rN;have HOw:=aa (fun k (hk:O2 k)=>(p2.own k hk).1)
   have HD:=aa (fun W (hW:Below w3.heap.size w3 W)=>Ao (.agg #[.slice A T2.length c2,.int .i64 (p:Int)]) T2 (p:Int) W ⟨_,rfl,rN W (fun _=>False) (ax.af hW) (fun _ _ h=>h)⟩)
   rw[oS] at HD;have HLE:=aa hle;clear h3 p2 x2 l2 k2 rN HN hsz hle S8 oS;go_wp2_with fail
   refine(aas _ _).mono ?_;rintro e w4 ⟨rfl,rfl⟩;have b45:Below w3.heap.size w3 ((w3.alloc (.cells #[.pointer none] 82)).alloc (.cells #[.slice A T2.length c2,.int .i64 (p:Int)] 24)):=ay (aW w3 _) (aW _ _);have HD2:=aa (HD.out _ b45);have B45:=aa b45;clear b45 HD;go_wp2_with fail
   refine HD2.out.mono ?_;rintro e w6 ⟨rfl,b6⟩;have B6:=aa (ay B45.out b6);have rb6:=RB.out w6 (ay aaA.out B6.out);have f0:w6.cell? ⟨w.heap.size,0,none⟩=some (.slice none 0 0):=by simp[World.cell?,rb6]
   have f1:w6.cell? ⟨w.heap.size,1,none⟩=some (.int .i64 0):=by simp[World.cell?,rb6]
   have g0:w6.frozen? ⟨w.heap.size,0,none⟩=false:=by simp[World.frozen?,rb6]
   have g1:w6.frozen? ⟨w.heap.size,1,none⟩=false:=by simp[World.frozen?,rb6]
   have hw6:w3.heap.size+1<w6.heap.size:=by have:=b6.size;simp at this;omega
   have ad9:w.heap.size<w6.heap.size:=by omega
   have t0:w6.cell? ⟨w3.heap.size+1,0,none⟩=some (.slice A T2.length c2):=by
    refine(b6.cell (p:=⟨w3.heap.size+1,0,none⟩) (by simp)).trans ?_
    have:=dG (w3.alloc (.cells #[.pointer none] 82)) #[.slice A T2.length c2,.int .i64 (p:Int)] 24 0;rw[aq] at this;exact this
   have t1:w6.cell? ⟨w3.heap.size+1,1,none⟩=some (.int .i64 (p:Int)):=by
    refine(b6.cell (p:=⟨w3.heap.size+1,1,none⟩) (by simp)).trans ?_
    have:=dG (w3.alloc (.cells #[.pointer none] 82)) #[.slice A T2.length c2,.int .i64 (p:Int)] 24 1;rw[aq] at this;exact this
   clear rb6 b6 HD2 e0 e1 z0 z1 cT;have B6w:=aa (ay B3.out B6.out);by_cases uo:100<a.depth
   ·have q2:decide ((100:Int)<(a.depth:Int))=true:=bQ (by omega)
    have Rz:=aa uo;clear uo;go_wp2_with fail
    refine(GU 1 7 w6).mono ?_;rintro e w7 ⟨rfl,rfl⟩;go_wp2_with fail
    refine bodyPost_ret (v:=.tuple #[mo,.iface 59 (.pointer (some ⟨w6.heap.size,0,none⟩))]) ?_ rfl ⟨?_,.ok (t::r),HO.out,IL.out,.ok (a,ir),K2.out,.inl ⟨Rz.out,_,rfl,w6.heap.size,rfl,?_⟩⟩
    ·have qn:w.heap.size<((w6.setCell ⟨w.heap.size,0,none⟩ (.slice none 0 0)).setCell ⟨w.heap.size,1,none⟩ (.int .i64 0)).heap.size:=by simpa[World.setCell] using ad9
     have k0:(((w6.setCell ⟨w.heap.size,0,none⟩ (.slice none 0 0)).setCell ⟨w.heap.size,1,none⟩ (.int .i64 0)).alloc (.cells #[.int .i64 1,.iface 60 (.int .i64 7)] 62)).cell? ⟨w.heap.size,0,none⟩=some (.slice none 0 0):=by rw[World.cell?_alloc_lt _ _ _ qn];simp[go_sem,f0]
     have k1:(((w6.setCell ⟨w.heap.size,0,none⟩ (.slice none 0 0)).setCell ⟨w.heap.size,1,none⟩ (.int .i64 0)).alloc (.cells #[.int .i64 1,.iface 60 (.int .i64 7)] 62)).cell? ⟨w.heap.size,1,none⟩=some (.int .i64 0):=by rw[World.cell?_alloc_lt _ _ _ qn];simp[go_sem,f1]
     simp[results,Tryz.results14,go_sem,mo,k0,k1]
    ·exact ay (gw (gw B6w.out (ah _)) (ah _)) (aW _ _)
    ·have:=World.alloc_heap_new ((w6.setCell ⟨w.heap.size,0,none⟩ (.slice none 0 0)).setCell ⟨w.heap.size,1,none⟩ (.int .i64 0)) (.cells #[.int .i64 1,.iface 60 (.int .i64 7)] 62)
     simpa[World.setCell] using this
   ·have q2:decide ((100:Int)<(a.depth:Int))=false:=bZ (by omega)
    have Rz:=aa uo;have aaB:=RB.out w6 (ay aaA.out B6.out);have fr6:=((ax.af (O:=(· = w.heap.size)) B6.out).trans (ax.wo aaB (show(24:Nat)≠9 by decide) 0 (.slice A T2.length c2)) (Ext.refl _ _)).trans (ax.wo (il aaB (k:=0) (.slice A T2.length c2)) (show(24:Nat)≠9 by decide) 1 (.int .i64 (p:Int))) (Ext.refl _ _)
    have HN6:=aa (HNd.out _ _ fr6 (fun k hk e=>by have:=HOw.out k hk;omega))
    clear aaB fr6;clear uo;go_wp2_with fail
    refine bodyPost_ret (v:=.tuple #[.agg #[.slice A T2.length c2,.int .i64 (p:Int)],.nilIface]) ?_ rfl ⟨?_,.ok (t::r),HO.out,IL.out,.ok (a,ir),K2.out,.inr ⟨Nat.le_of_not_lt Rz.out,_,T2,p,rfl,⟨_,rfl,?_⟩,L2.out⟩⟩
    ·simp[results,Tryz.results14,go_sem,f0,f1]
    ·exact gw (gw B6w.out (ah _)) (ah _)
    ·exact HN6.out
  ·have acp:g' < w3.heap.size:=(aO.1 m3).1
   have hA:=QO g' w3 (HE.out.below B3.out);have HA:=aa hA;have M3:=aa m3;have K2:=aa k2;have hgw:g'≠w.heap.size:=by simp at m2;omega
   clear h3 m2 m3 k2 HN hA e0 e1 z0 z1;go_wp2_with fail
   refine HA.out.mono ?_;rintro e w4 ⟨rfl,c4,b4⟩;have rb4:=RB.out w4 (ay aaA.out b4);have f0:w4.cell? ⟨w.heap.size,0,none⟩=some (.slice none 0 0):=by simp[World.cell?,rb4]
   have f1:w4.cell? ⟨w.heap.size,1,none⟩=some (.int .i64 0):=by simp[World.cell?,rb4]
   have g0:w4.frozen? ⟨w.heap.size,0,none⟩=false:=by simp[World.frozen?,rb4]
   have g1:w4.frozen? ⟨w.heap.size,1,none⟩=false:=by simp[World.frozen?,rb4]
   have YS:w4.heap[g']? = _:=(b4.block g' acp).trans M3.out;have j0:w4.cell? ⟨g',0,none⟩=some (.int .i64 6):=by simp[World.cell?,YS]
   have j1:w4.cell? ⟨g',1,none⟩=some (.int .i64 le):=by simp[World.cell?,YS]
   have aea:w.heap.size<w4.heap.size:=cG ad8 b4.size;have hgl4:g' < w4.heap.size:=cG acp b4.size;have h3l4:w3.heap.size<w4.heap.size:=World.block_lt_of_cell? w4 _ c4;have B4:=aa (ay B3.out b4);clear rb4 YS b4 HA;go_wp2_with fail
   go_region_with (first|(go_at_call 26;refine(GU le 6 _).mono ?_;rintro e w5 ⟨rfl,rfl⟩))
   all_goals
    have qn:w.heap.size<((w4.setCell ⟨w.heap.size,0,none⟩ (.slice none 0 0)).setCell ⟨w.heap.size,1,none⟩ (.int .i64 0)).heap.size:=by simpa[World.setCell] using aea
    have k0:(((w4.setCell ⟨w.heap.size,0,none⟩ (.slice none 0 0)).setCell ⟨w.heap.size,1,none⟩ (.int .i64 0)).alloc (.cells #[.int .i64 le,.iface 60 (.int .i64 6)] 62)).cell? ⟨w.heap.size,0,none⟩=some (.slice none 0 0):=by rw[World.cell?_alloc_lt _ _ _ qn];simp[go_sem,f0]
    have k1:(((w4.setCell ⟨w.heap.size,0,none⟩ (.slice none 0 0)).setCell ⟨w.heap.size,1,none⟩ (.int .i64 0)).alloc (.cells #[.int .i64 le,.iface 60 (.int .i64 6)] 62)).cell? ⟨w.heap.size,1,none⟩=some (.int .i64 0):=by rw[World.cell?_alloc_lt _ _ _ qn];simp[go_sem,f1]
    go_wp2
    refine bodyPost_ret (v:=.tuple #[mo,.iface 59 (.pointer (some ⟨w4.heap.size,0,none⟩))]) ?_ rfl ⟨?_,.ok (t::r),HO.out,IL.out,.error le,K2.out,_,rfl,w4.heap.size,rfl,?_⟩
    ·simp[results,Tryz.results14,go_sem,mo,k0,k1,Act.put]
    ·have hb:=ay (gw (j:=1) (v:=.int .i64 0) (gw (j:=0) (v:=.slice none 0 0) B4.out (ah _)) (ah _)) (aW _ (.cells #[.int .i64 le,.iface 60 (.int .i64 6)] 62))
     exact⟨hb.os,hb.tape,hb.output,hb.size,hb.block⟩
    ·have:=World.alloc_heap_new ((w4.setCell ⟨w.heap.size,0,none⟩ (.slice none 0 0)).setCell ⟨w.heap.size,1,none⟩ (.int .i64 0)) (.cells #[.int .i64 le,.iface 60 (.int .i64 6)] 62)
     simpa[World.setCell,World.drew] using this
end Go.Proofs.YtodmcdfeldkocaaGreatDoor
namespace Go.Proofs.YtodmcdfeldkocaaGreatDoor
open Go.RowKit Go.Extern.Stop Go.Stop Go.Extern
theorem VD (g:Nat) (n m:Int) (w:World) (he :∀w:World,(binOp .eql 29 (.iface 60 (.int .i64 m)) (.iface 60 (.int .i64 m))).run Tryz.prog w=.ok (.bool true) w) (hg:w.heap[g]? = some (.cells #[.int .i64 n,.iface 60 (.int .i64 m)] 62 (0,0))) :
  Calls Tryz.prog 21 #[.iface 59 (.pointer (some ⟨g,0,none⟩)),.iface 60 (.int .i64 m)] w fun e w'=>e=.returned (.bool true)∧w=w':=by
 have h1:w.cell? ⟨g,1,none⟩=some (.iface 60 (.int .i64 m)):=by simp[World.cell?,hg]
 have h41:=@run_callFunc_extern Tryz.prog 44 _ Extern.ReflectliteType.typeOf Tryz.func44 (by kernel_rfl) (by kernel_rfl) (by kernel_rfl) (by kernel_rfl)
 have Yl:=@run_callFunc_extern Tryz.prog 244 _ (Extern.ReflectliteType.method fun t=>do Rtype.noPackHeld "Comparable" t;pure (.bool (←typeInfo t).comparable)) Tryz.func244 (by kernel_rfl) (by kernel_rfl) (by kernel_rfl) (by kernel_rfl)
 have tT:=Tryz.CB;have cT:=Tryz.qV;have mR:=Tryz.jU;have nF:=Tryz.Xt;have uF:=Tryz.vF;have mU:=Tryz.qU;have e5:=he;have Ig:=run_eql_iface_types (P:=Tryz.prog) 59 60 (.pointer (some ⟨g,0,none⟩)) (.int .i64 m) Tryz.underlying29 (by decide) w
 clear hg;go_enter Tryz.func21,Tryz.ntmps21
 go_wp2
 refine wp_loop_rounds 2 ?_;rw[rounds_succ];go_wp2
 rw[rounds_succ];go_wp2
 go_ret
 exact⟨rfl,rfl⟩
theorem VE (g:Nat) (n m k:Int) (w:World) (he :∀w:World,(binOp .eql 29 (.iface 60 (.int .i64 m)) (.iface 60 (.int .i64 k))).run Tryz.prog w=.ok (.bool false) w) (hg:w.heap[g]? = some (.cells #[.int .i64 n,.iface 60 (.int .i64 m)] 62 (0,0))) :
  Calls Tryz.prog 21 #[.iface 59 (.pointer (some ⟨g,0,none⟩)),.iface 60 (.int .i64 k)] w fun e w'=>e=.returned (.bool false)∧w=w':=by
 have h1:w.cell? ⟨g,1,none⟩=some (.iface 60 (.int .i64 m)):=by simp[World.cell?,hg]
 have h41:=@run_callFunc_extern Tryz.prog 44 _ Extern.ReflectliteType.typeOf Tryz.func44 (by kernel_rfl) (by kernel_rfl) (by kernel_rfl) (by kernel_rfl)
 have Yl:=@run_callFunc_extern Tryz.prog 244 _ (Extern.ReflectliteType.method fun t=>do Rtype.noPackHeld "Comparable" t;pure (.bool (←typeInfo t).comparable)) Tryz.func244 (by kernel_rfl) (by kernel_rfl) (by kernel_rfl) (by kernel_rfl)
 have tT:=Tryz.CB;have cT:=Tryz.qV;have mR:=Tryz.jU;have nF:=Tryz.Xt;have uF:=Tryz.vF;have mU:=Tryz.qU;have nE:=Tryz.acn;have uE:=Tryz.Kl;have vE:=Tryz.EB;have Ig:=run_eql_iface_types (P:=Tryz.prog) 59 60 (.pointer (some ⟨g,0,none⟩)) (.int .i64 k) Tryz.underlying29 (by decide) w
 clear hg;go_enter Tryz.func21,Tryz.ntmps21
 go_wp2
 refine wp_loop_rounds 2 ?_;rw[rounds_succ];go_wp2
 rw[rounds_succ];go_wp2
 go_ret
 exact⟨rfl,rfl⟩
theorem QP (w:World):Calls Tryz.prog 11 #[.nilIface] w fun e w'=>e=.returned (.tuple #[.int .i64 0,.int .i64 0])∧w=w':=by
 go_enter Tryz.func11,Tryz.ntmps11
 go_wp2_with fail
 go_ret2
 exact⟨rfl,rfl⟩
end Go.Proofs.YtodmcdfeldkocaaGreatDoor
namespace Go.Proofs.YtodmcdfeldkocaaGreatDoor
mutual
def Ast.wt:Ast→Nat
 | .mk h ks=>h.names.length+Ast.ey ks
def Ast.ey:List Ast→Nat
 | []=>0
 | a::l=>Ast.wt a+Ast.ey l
end
theorem QQ (k l:Int) (ks:List Ast):(nd k l ks).wt=Ast.ey ks:=by unfold nd;rw[Ast.wt];simp
end Go.Proofs.YtodmcdfeldkocaaGreatDoor
namespace Go.Proofs.YtodmcdfeldkocaaGreatDoor
mutual
/-- Of one form; names are renamed. -/
def zG (ρ:ByteArray→ByteArray):Lt→Lt→Prop
 | .mk _ h ks,u=>u.hd.kind=h.kind∧u.hd.num=h.num∧u.hd.s=ρ h.s∧u.hd.names=h.names.map ρ∧dM ρ ks u.sub
def dM (ρ:ByteArray→ByteArray):List Lt→List Lt→Prop
 | [],ls=>ls=[]
 | k::ks,ls=>∃l Kn,ls=l::Kn∧zG ρ k l∧dM ρ ks Kn
end
theorem zG.kind {ρ:ByteArray→ByteArray} {t u:Lt} (h:zG ρ t u):u.hd.kind=t.hd.kind:=by cases t;unfold zG at h;exact h.1
theorem zG.s {ρ:ByteArray→ByteArray} {t u:Lt} (h:zG ρ t u):u.hd.s=ρ t.hd.s:=by cases t;unfold zG at h;exact h.2.2.1
structure FS (ρ:ByteArray→ByteArray) (x y:dr):Prop where
 parent:y.parent=x.parent
 params:y.params=x.params
 many:y.many=x.many
 cr:y.cr=x.cr
 vars:y.vars.map (fun v=>(v.name,v.cap))=x.vars.map fun v=>(ρ v.name,v.cap)
theorem FS.len {ρ:ByteArray→ByteArray} {x y:dr} (h:FS ρ x y):y.vars.length=x.vars.length:=by
 have:=aw List.length h.vars;simpa using this
def FR (ρ:ByteArray→ByteArray) (a b:List dr):Prop:=b.length=a.length∧∀f,FS ρ (a.getD f ⟨0,0,0,false,[],[]⟩) (b.getD f ⟨0,0,0,false,[],[]⟩)
theorem FR.set {ρ:ByteArray→ByteArray} {a b:List dr} (h:FR ρ a b) {f:Nat} {x y:dr} (e:FS ρ x y):FR ρ (a.set f x) (b.set f y) :=
 ⟨by simp[h.1],fun g=>by
  have:=h.2 g;simp only[jZ] at this ⊢;by_cases hg:f=g
  ·subst hg
   by_cases hl:f<a.length
   ·rw[dS hl,dS (by rw[h.1];exact hl)];exact e
   ·rw[EM (by omega),EM (by rw[h.1];omega)];exact this
  ·rw[fL hg,fL hg];exact this⟩
theorem FR.app {ρ:ByteArray→ByteArray} {a b:List dr} (h:FR ρ a b) {x y:dr} (e:FS ρ x y):FR ρ (a++[x]) (b++[y]) :=
 ⟨by simp[h.1],fun g=>by
  have:=h.2 g;simp only[jZ] at this ⊢;rcases Nat.lt_trichotomy g a.length with hg|hg|hg
  ·rw[kI hg,kI (by rw[h.1];exact hg)];exact this
  ·subst hg
   have e1:(b++[y])[a.length]? = some y:=by rw[←h.1];simp
   rw[e1];simpa using e
  ·rw[zM (by simp;omega),zM (by simp[h.1];omega)]
   exact⟨rfl,rfl,rfl,rfl,rfl⟩⟩
structure FrS (ρ:ByteArray→ByteArray) (x y:fE):Prop where
 fn:y.fn=x.fn
 at_:y.at_=x.at_
 loop:y.loop=x.loop
 rep:y.rep=x.rep
 kids:dM ρ x.kids y.kids
def Blank (E:List fE):Prop:=∀x∈E,x.loop=false∧∀s,cu x.kids s=none
inductive Xu (ρ:ByteArray→ByteArray):List fE→List fE→Prop
 | nil {B:List fE}:Blank B→Xu ρ [] B
 | cons {x y:fE} {l m:List fE}:FrS ρ x y→Xu ρ l m→Xu ρ (x::l) (y::m)
structure SR (ρ:ByteArray→ByteArray) (a b:aI):Prop where
 fns:FR ρ a.fns b.fns
 names:b.names=a.names.map fun n=>⟨ρ n.s,n.fn,n.i⟩
 frames:Xu ρ a.frames b.frames
def RR {α β:Type} (Q:α→β→Prop):Rs α→Rs β→Prop
 | .ok a,.ok b=>Q a b
 | .error e,.error e'=>e.1=e'.1
 | _,_=>False
theorem RR.bind {α β γ δ:Type} {Q:α→β→Prop} {Q':γ→δ→Prop} {x:Rs α} {y:Rs β} {g:α→Rs γ} {k:β→Rs δ} (h:RR Q x y) (hg :∀a b,Q a b→RR Q' (g a) (k b)):RR Q' (x.bind g) (y.bind k):=by
 cases x<;>cases y
 ·exact h
 ·exact h.elim
 ·exact h.elim
 ·exact hg _ _ h
theorem RR.map {α β γ δ:Type} {Q:α→β→Prop} {Q':γ→δ→Prop} {x:Rs α} {y:Rs β} {g:α→γ} {k:β→δ} (h:RR Q x y) (hg :∀a b,Q a b→Q' (g a) (k b)):RR Q' (x.map g) (y.map k):=by
 cases x<;>cases y
 ·exact h
 ·exact h.elim
 ·exact h.elim
 ·exact hg _ _ h
section
variable {ρ:ByteArray→ByteArray} (jY :∀a b,ρ a=ρ b→a=b)
theorem SR.fn {a b:aI} (h:SR ρ a b) (f:Nat):FS ρ (a.fn f) (b.fn f):=h.fns.2 f
theorem SR.use {a b:aI} (h:SR ρ a b) (i j:Nat) (u v:Int×Int):SR ρ (a.dt i u) (b.dt j v):=⟨h.fns,h.names,h.frames⟩
theorem SR.of_ {a b:aI} (h:SR ρ a b) (i j f g:Nat):SR ρ (a.setOf i f) (b.setOf j g):=⟨h.fns,h.names,h.frames⟩
theorem QR {n n' f:Nat} {l l':Int} :∀(ns:List ByteArray) {a b:aI},SR ρ a b→RR (SR ρ) (dO n f l ns a) (dO n' f l' (ns.map ρ) b):=by
 intro ns;induction ns with
 | nil=>intro a b h;exact h
 | cons s ns ih =>
  intro a b h;rw[dV,dO,dO,(h.fn f).len];split
  ·exact rfl
  ·refine ih ⟨h.fns.set ⟨(h.fn f).parent,(h.fn f).params,(h.fn f).many,(h.fn f).cr,?_⟩,?_,h.frames⟩
   ·rw[kN,kN,(h.fn f).vars];rfl
   ·show _::b.names=List.map _ (_::a.names)
    rw[h.names];rfl
theorem ou {n n' f:Nat} {l l':Int} (ns:List ByteArray) {a b:aI} (h:SR ρ a b):RR (SR ρ) (bu n f l ns a) (bu n' f l' (ns.map ρ) b):=QR ns (h.use _ _ _ _)
theorem ya {A B:List dr} (h:FR ρ A B) (f:Nat) (u:tx):(gE A f u=none∧gE B f u=none)∨∃A' B' k,gE A f u=some (A',k)∧gE B f u=some (B',k)∧FR ρ A' B':=by
 have e:=(h.2 f).cr;unfold gE;simp only[e];split
 ·exact .inr ⟨A,B,_,rfl,rfl,h⟩
 ·split
  ·exact .inl ⟨rfl,rfl⟩
  ·exact .inr ⟨_,_,_,rfl,rfl,h.set ⟨(h.2 f).parent,(h.2 f).params,(h.2 f).many,rfl,(h.2 f).vars⟩⟩
theorem QS {n n':jw} (hf:n'.fn=n.fn) (hi:n'.i=n.i) :∀(g:Nat) {A B:List dr} (f:Nat),FR ρ A B→(lK n g A f=none∧lK n' g B f=none)∨∃A' B' k,lK n g A f=some (A',k)∧lK n' g B f=some (B',k)∧FR ρ A' B':=by
 intro g;induction g with
 | zero=>intro A B f _;exact .inl ⟨rfl,rfl⟩
 | succ g ih =>
  intro A B f h;rw[lK,lK];simp only[(h.2 f).parent,hf,hi];split
  ·exact ya h f _
  ·rcases ih ((A.getD f ⟨0,0,0,false,[],[]⟩).parent.toNat) h with ⟨h1,h2⟩ | ⟨A',B',k,h1,h2,h3⟩
   ·rw[h1,h2];exact .inl ⟨rfl,rfl⟩
   ·rw[h1,h2];exact ya h3 f _
theorem VF {x y:dr} (h:FS ρ x y) (i:Nat):FS ρ (cZ x i) (cZ y i):=by
 refine⟨h.parent,h.params,h.many,h.cr,?_⟩;unfold cZ;dsimp only
 have e:(y.vars.map fun v=>(v.name,v.cap))[i]? = (x.vars.map fun v=>(ρ v.name,v.cap))[i]?:=by rw[h.vars]
 rw[eO,eO] at e;cases hx:x.vars[i]? with
 | none =>
  rw[hx] at e;cases hy:y.vars[i]? with
  | none=>exact h.vars
  | some w=>rw[hy] at e;cases e
 | some v =>
  rw[hx] at e;cases hy:y.vars[i]? with
  | none=>rw[hy] at e;cases e
  | some w =>
   rw[hy] at e;injection e with e;injection e with e1 e2;dsimp only
   rw[List.map_set,List.map_set,h.vars,e1]
include jY in
theorem QT (s:ByteArray) :∀(l:List jw),(l.map fun n=>(⟨ρ n.s,n.fn,n.i⟩:jw)).find? (fun n=>decide (n.s=ρ s))=(l.find? fun n=>decide (n.s=s)).map fun n=>⟨ρ n.s,n.fn,n.i⟩:=by
 intro l;induction l with
 | nil=>rfl
 | cons n l ih =>
  rw[dV,kO,kO];have e:decide (ρ n.s=ρ s)=decide (n.s=s):=by
   by_cases h:n.s=s
   ·rw[h];simp
   ·rw[bZ h,bZ fun e=>h (jY _ _ e)]
  simp only[e];cases decide (n.s=s) with
  | true=>rfl
  | false=>exact ih
include jY in
theorem VG {n n' f:Nat} {s:ByteArray} {l l':Int} {a b:aI} (h:SR ρ a b):RR (SR ρ) (lL n f s l a) (lL n' f (ρ s) l' b):=by
 unfold lL;have e:b.names.find? (fun n=>decide (n.s=ρ s))=(a.names.find? fun n=>decide (n.s=s)).map fun n=>⟨ρ n.s,n.fn,n.i⟩:=by rw[h.names,QT jY]
 rw[e];cases hx:a.names.find? (fun n=>decide (n.s=s)) with
 | none=>exact h.use _ _ _ _
 | some x =>
  simp only[pV];by_cases hf:x.fn=f
  ·rw[ai hf,ai hf]
   exact h.use _ _ _ _
  ·rw[ab hf,ab hf,h.fns.1]
   rcases QS (n:=x) (n':=⟨ρ x.s,x.fn,x.i⟩) rfl rfl a.fns.length f (h.fns.set (f:=x.fn) (VF (h.fn x.fn) x.i)) with ⟨h1,h2⟩ | ⟨A',B',k,h1,h2,h3⟩
   ·rw[h1,h2];exact rfl
   ·rw[h1,h2]
    exact⟨h3,h.names,h.frames⟩
theorem qX {β:Type} {g g':Lt→β} (hg :∀t u,zG ρ t u→g' u=g t) :∀{ks ls:List Lt},dM ρ ks ls→ls.map g'=ks.map g
 | [],ls,h=>by unfold dM at h;rw[h];rfl
 | k::ks,ls,h=>by
  unfold dM at h;obtain⟨l,Kn,rfl,h0,h⟩:=h;rw[dV,dV,hg _ _ h0,qX hg h]
include jY in
theorem Ko {t u:Lt} (s:ByteArray) (h:zG ρ t u):mu (ρ s) u=mu s t:=by
 unfold mu;rw[h.kind,h.s];congr 1
 by_cases e:t.hd.s=s
 ·rw[e];simp
 ·rw[bZ e,bZ fun k=>e (jY _ _ k)]
theorem findIdx_map {α:Type} (g:α→Bool) :∀l:List α,l.findIdx? g=(l.map g).findIdx? id:=by
 intro l;induction l with
 | nil=>rfl
 | cons x l ih =>
  rw[dV,List.findIdx?_cons,List.findIdx?_cons,ih];rfl
include jY in
theorem si {ks ls:List Lt} (s:ByteArray) (h:dM ρ ks ls):cu ls (ρ s)=cu ks s:=by
 unfold cu;rw[findIdx_map,findIdx_map (mu s),qX (fun _ _ h=>Ko jY s h) h]
include jY in
theorem QU {A B:List fE} (f:Nat) (s:ByteArray) (h:Xu ρ A B):(∃x∈B,x.loop=false∧x.fn=f∧(cu x.kids (ρ s)).isSome)↔∃x∈A,x.loop=false∧x.fn=f∧(cu x.kids s).isSome:=by
 induction h with
 | nil hE =>
  refine⟨fun⟨x,hx,_,_,h⟩=>?_,fun⟨x,hx,_⟩=>by simp at hx⟩
  rw[(hE x hx).2] at h;cases h
 | cons h _ ih =>
  simp only[bc,exists_eq_or_imp,h.loop,h.fn,si jY s h.kids,ih]
include jY in
theorem vG {A B:List fE} (h:Xu ρ A B) (f:Nat) {all aaC:List Lt} (ha:dM ρ all aaC) :∀{ks ls:List Lt} (n:Nat),dM ρ ks ls→(b9 B f aaC n ls).isSome=(b9 A f all n ks).isSome
 | [],ls,n,hs=>by unfold dM at hs;rw[hs];rfl
 | k::ks,ls,n,hs=>by
  unfold dM at hs;obtain⟨l,Kn,rfl,h0,hs⟩:=hs;rw[b9,b9];have e1:(∃j,cu aaC l.hd.s=some j∧j<n)↔∃j,cu all k.hd.s=some j∧j<n:=by rw[h0.s,si jY _ ha]
  have e2:=QU jY f k.hd.s h;rw[←h0.s] at e2;simp only[h0.kind,e1,e2];split
  ·rfl
  ·exact vG h f ha (n+1) hs
include jY in
theorem yb {i i' f:Nat} {rep:Bool} {ks ls:List Lt} {a b:aI} (h:SR ρ a b) (hs:dM ρ ks ls):RR (SR ρ) (gY i f rep ks a) (gY i' f rep ls b):=by
 unfold gY;have e:=vG jY h.frames f hs 0 hs;cases h1:b9 a.frames f ks 0 ks with
 | none =>
  rw[h1] at e;cases h2:b9 b.frames f ls 0 ls with
  | none=>exact⟨h.fns,h.names,.cons ⟨rfl,rfl,rfl,rfl,hs⟩ h.frames⟩
  | some _=>rw[h2] at e;cases e
 | some _ =>
  rw[h1] at e;cases h2:b9 b.frames f ls 0 ls with
  | none=>rw[h2] at e;cases e
  | some _=>exact rfl
theorem SR.at_ {a b:aI} (h:SR ρ a b) (n:Nat):SR ρ (a.at n) (b.at n):=by
 refine⟨h.fns,h.names,?_⟩;have hf:=h.frames;unfold aI.at;dsimp only
 revert hf
 generalize a.frames=A;generalize b.frames=B;cases A with
 | nil =>
  intro hf;cases hf with
  | nil hB =>
   cases B with
   | nil=>exact .nil hB
   | cons y m =>
    refine .nil fun z hz=>?_
    rcases bc.1 hz with rfl|hz
    ·exact hB y (bP ..)
    ·exact hB z (bO _ hz)
 | cons x l =>
  intro hf;cases hf with
  | cons h1 h2=>exact .cons ⟨h1.fn,rfl,h1.loop,h1.rep,h1.kids⟩ h2
theorem SR.dv {a b:aI} (h:SR ρ a b) (i j f:Nat):SR ρ (dv i f a) (dv j f b):=⟨h.fns,h.names,.cons ⟨rfl,rfl,rfl,rfl,by unfold dM;rfl⟩ h.frames⟩
theorem SR.back {a b a0 b0:aI} (h:SR ρ a b) (h0:SR ρ a0 b0):SR ρ (a.back a0) (b.back b0):=⟨h.fns,h0.names,h0.frames⟩
theorem Kq {i j f:Nat} {l l':Int} {a b:aI} (h:SR ρ a b):RR (SR ρ) (eD i f l a) (eD j f l' b):=by
 unfold eD;have key :∀{A B:List fE},Xu ρ A B→(B.find? fun x=>x.loop && decide (x.fn=f)).isSome=(A.find? fun x=>x.loop && decide (x.fn=f)).isSome:=by
  intro A B h;induction h with
  | @nil E hE =>
   have:E.find? (fun x=>x.loop && decide (x.fn=f))=none:=zP.2 fun x hx=>by rw[(hE x hx).1];simp
   rw[this];rfl
  | cons h _ ih =>
   rw[kO,kO,h.loop,h.fn];split
   ·rfl
   ·exact ih
 have e:=key h.frames;cases h1:a.frames.find? (fun x=>x.loop && decide (x.fn=f)) with
 | none =>
  rw[h1] at e;cases h2:b.frames.find? (fun x=>x.loop && decide (x.fn=f)) with
  | none=>exact rfl
  | some _=>rw[h2] at e;cases e
 | some _ =>
  rw[h1] at e;cases h2:b.frames.find? (fun x=>x.loop && decide (x.fn=f)) with
  | none=>rw[h2] at e;cases e
  | some _=>exact h.use _ _ _ _
theorem CD {ks ls:List Lt} (h:dM ρ ks ls) (a j:Nat) (rep:Bool):lM ls a j rep=lM ks a j rep:=by
 have e1:ls.map isDecl=ks.map isDecl:=qX (fun t u h=>by unfold isDecl;rw[h.kind]) h
 have e2:ls.map (fun k=>decide (k.hd.kind=32))=ks.map fun k=>decide (k.hd.kind=32):=qX (fun t u h=>by rw[h.kind]) h
 have a1 :∀l:List Lt,l.any isDecl=(l.map isDecl).any id:=fun l=>by rw[List.any_map];rfl
 have a2 :∀l:List Lt,(l.all fun k=>decide (k.hd.kind=32))=(l.map fun k=>decide (k.hd.kind=32)).all id:=fun l=>by rw[List.all_map];rfl
 unfold lM;rw[a1,a1,a2,a2,wJ,zW,wJ,wJ,zW,wJ,e1,e2]
include jY in
theorem QV {i j f:Nat} {s:ByteArray} {l l':Int} {a b:aI} (h:SR ρ a b) :∀{A B:List fE},Xu ρ A B→RR (SR ρ) (dK i f s l a A) (dK j f (ρ s) l' b B):=by
 intro A B hf;induction hf with
 | nil hE =>
  have key :∀{X:List fE},Blank X→dK j f (ρ s) l' b X=.error (8,l'):=by
   intro X hX;induction X with
   | nil=>rfl
   | cons x X ih =>
    rw[dK,(hX x (bP ..)).2];simp only[ih fun y hy=>hX y (bO _ hy),ite_self]
  rw[key hE];exact rfl
 | cons h1 _ ih =>
  rw[dK,dK,h1.loop,h1.fn,si jY s h1.kids];split
  ·exact ih
  ·split
   ·exact ih
   ·rw[CD h1.kids,h1.at_,h1.rep]
    split
    ·exact rfl
    ·exact h.use _ _ _ _
end
end Go.Proofs.YtodmcdfeldkocaaGreatDoor
namespace Go.Proofs.YtodmcdfeldkocaaGreatDoor
section
variable {ρ:ByteArray→ByteArray}
theorem Kr {i j f:Nat} {h g:Nd} {a b:aI} (hs:SR ρ a b) (h1:g.num=h.num) (h2:g.names=h.names.map ρ):SR ρ (jD i f h a) (jD j f g b) :=
 ⟨hs.fns.app ⟨rfl,by show g.names.length=h.names.length;rw[h2,bU],by show decide (g.num=1)=decide (h.num=1);rw[h1],rfl,rfl⟩,hs.names,hs.frames⟩
mutual
theorem lF (jY :∀a b,ρ a=ρ b→a=b) :∀(t u:Lt),zG ρ t u→∀(f:Nat) {a b:aI},SR ρ a b→RR (SR ρ) (aY t f a) (aY u f b)
 | .mk i h ks,.mk j g ls,hs,f,a0,b0,h0=>by
  unfold zG at hs;obtain⟨e1,e2,e3,e4,hk⟩:=hs;have e1:g.kind=h.kind:=e1;have e2:g.num=h.num:=e2;have e3:g.s=ρ h.s:=e3;have e4:g.names=h.names.map ρ:=e4;have hk:dM ρ ks ls:=hk;have hst:=h0.of_ i j f f;unfold aY;rw[e1,e3];generalize a0.setOf i f=a at *;generalize b0.setOf j f=b at *;by_cases h6:h.kind=6
  ·rw[ai h6,ai h6,(hst.fn f).many]
   split
   ·exact hst
   ·exact rfl
  rw[ab h6,ab h6];by_cases h7:h.kind=7
  ·rw[ai h7,ai h7]
   exact VG jY hst
  rw[ab h7,ab h7];by_cases h11:h.kind=11
  ·rw[ai h11,ai h11,hst.fns.1,e4]
   exact RR.bind (ou _ (Kr hst e2 e4)) fun a1 b1 h1=>RR.map (jy jY ks ls hk _ h1) fun a2 b2 h2=>h2.back hst
  rw[ab h11,ab h11];by_cases kH:h.kind=18
  ·rw[ai kH,ai kH]
   exact RR.bind (yb jY hst hk) fun a1 b1 h1=>RR.map (sj jY ks ls hk 0 f h1) fun a2 b2 h2=>h2.back hst
  rw[ab kH,ab kH];by_cases Lu:h.kind=19
  ·rw[ai Lu,ai Lu,e4]
   exact RR.bind (jy jY ks ls hk f hst) fun a1 b1 h1=>ou _ h1
  rw[ab Lu,ab Lu];by_cases Rp:h.kind=23
  ·rw[ai Rp,ai Rp]
   exact RR.map (jy jY ks ls hk f (hst.dv i j f)) fun a2 b2 h2=>h2.back hst
  rw[ab Rp,ab Rp];by_cases Lv:h.kind=24
  ·rw[ai Lv,ai Lv]
   exact RR.map (VH jY ks ls hk f (hst.dv i j f)) fun a2 b2 h2=>h2.back hst
  rw[ab Lv,ab Lv];by_cases Rq:h.kind=26∨h.kind=27
  ·rw[ai Rq,ai Rq,e4]
   exact CE jY ks ls hk f hst
  rw[ab Rq,ab Rq];by_cases Rr:h.kind=28
  ·rw[ai Rr,ai Rr,e4]
   exact RR.bind (ou _ hst) fun a1 b1 h1=>jy jY ks ls hk f h1
  rw[ab Rr,ab Rr];by_cases Fe:h.kind=30
  ·rw[ai Fe,ai Fe]
   exact Kq hst
  rw[ab Fe,ab Fe];by_cases Fg:h.kind=31
  ·rw[ai Fg,ai Fg]
   exact QV jY hst hst.frames
  rw[ab Fg,ab Fg];exact jy jY ks ls hk f hst
termination_by structural t=>t
theorem jy (jY :∀a b,ρ a=ρ b→a=b) :∀(ks ls:List Lt),dM ρ ks ls→∀(f:Nat) {a b:aI},SR ρ a b→RR (SR ρ) (aE ks f a) (aE ls f b)
 | [],ls,hs,f,a,b,h=>by
  unfold dM at hs;subst hs;unfold aE;exact h
 | k::ks,ls,hs,f,a,b,h=>by
  unfold dM at hs;obtain⟨l,Kn,rfl,h0,hs⟩:=hs;unfold aE;exact RR.bind (lF jY k l h0 f h) fun a1 b1 h1=>jy jY ks Kn hs f h1
termination_by structural ks=>ks
theorem sj (jY :∀a b,ρ a=ρ b→a=b) :∀(ks ls:List Lt),dM ρ ks ls→∀(n f:Nat) {a b:aI},SR ρ a b→RR (SR ρ) (cL ks n f a) (cL ls n f b)
 | [],ls,hs,n,f,a,b,h=>by
  unfold dM at hs;subst hs;unfold cL;exact h
 | k::ks,ls,hs,n,f,a,b,h=>by
  unfold dM at hs;obtain⟨l,Kn,rfl,h0,hs⟩:=hs;unfold cL;exact RR.bind (lF jY k l h0 f (h.at_ n)) fun a1 b1 h1=>sj jY ks Kn hs (n+1) f h1
termination_by structural ks=>ks
theorem VH (jY :∀a b,ρ a=ρ b→a=b) :∀(ks ls:List Lt),dM ρ ks ls→∀(f:Nat) {a b:aI},SR ρ a b→RR (SR ρ) (mW ks f a) (mW ls f b)
 | [],ls,hs,f,a,b,h=>by
  unfold dM at hs;subst hs;unfold mW;exact h
 | [.mk _ _ _],ls,hs,f,a,b,h=>by
  unfold dM dM at hs;obtain⟨l,Kn,rfl,h0,rfl⟩:=hs;cases l;unfold mW;exact h
 | .mk _ _ _::_::_::_,ls,hs,f,a,b,h=>by
  unfold dM dM dM at hs;obtain⟨l,Kn,rfl,h0,l1,ls1,rfl,h1,l2,ls2,rfl,_⟩:=hs;cases l;unfold mW;exact h
 | [.mk i h ks,t],ls,hs,f,a,b,hab=>by
  unfold dM dM dM at hs;obtain⟨l,Kn,rfl,h0,u,ls1,rfl,h1,rfl⟩:=hs;obtain⟨j,g,ms⟩:=l;unfold zG at h0;obtain⟨_,_,_,_,hk⟩:=h0;have hk:dM ρ ks ms:=hk;unfold mW;exact RR.bind (yb jY (hab.of_ i j f f) hk) fun a1 b1 h2=>RR.bind (sj jY ks ms hk 0 f h2) fun a2 b2 h3=>lF jY t u h1 f h3
termination_by structural ks=>ks
theorem CE (jY :∀a b,ρ a=ρ b→a=b) {i j:Nat} {line acq:Int} {names:List ByteArray} :∀(ks ls:List Lt),dM ρ ks ls→∀(f:Nat) {a b:aI},SR ρ a b→RR (SR ρ) (ji i line names ks f a) (ji j acq (names.map ρ) ls f b)
 | [],ls,hs,f,a,b,h=>by
  unfold dM at hs;subst hs;unfold ji;exact h
 | [k],ls,hs,f,a,b,h=>by
  unfold dM dM at hs;obtain⟨l,Kn,rfl,h0,rfl⟩:=hs;unfold ji;exact RR.bind (ou _ (h.dv i j f)) fun a1 b1 h1=>RR.map (lF jY k l h0 f h1) fun a2 b2 h2=>h2.back h
 | k::k2::ks,ls,hs,f,a,b,h=>by
  unfold dM at hs;obtain⟨l,Kn,rfl,h0,hs⟩:=hs;have hs':=hs;unfold dM at hs';obtain⟨l2,ls2,rfl,_,_⟩:=hs';unfold ji;exact RR.bind (lF jY k l h0 f h) fun a1 b1 h1=>CE jY (k2::ks) (l2::ls2) hs f h1
termination_by structural ks=>ks
end
end
end Go.Proofs.YtodmcdfeldkocaaGreatDoor
namespace Go.Proofs.YtodmcdfeldkocaaGreatDoor
theorem FS.start (ρ:ByteArray→ByteArray) (i j:Nat):FS ρ ⟨i,-1,0,true,[],[]⟩ ⟨j,-1,0,true,[],[]⟩:=⟨rfl,rfl,rfl,rfl,rfl⟩
theorem FR.one {ρ:ByteArray→ByteArray} {x y:dr} (h:FS ρ x y):FR ρ [x] [y] :=
 FR.app (a:=[]) (b:=[]) ⟨rfl,fun f=>by simp;exact⟨rfl,rfl,rfl,rfl,rfl⟩⟩ h
theorem VI {ρ:ByteArray→ByteArray} (jY :∀a b,ρ a=ρ b→a=b) {t u:Lt} (h:zG ρ t u):RR (fun a b=>FR ρ a.fns b.fns) (pd t) (pd u):=by
 have h1:SR ρ (fF t.loc) (fF u.loc):=⟨.one (.start ρ _ _),rfl,.nil fun x hx=>by simp[fF] at hx⟩
 have:=lF jY t u h 0 h1;unfold pd;revert this
 cases aY t 0 (fF t.loc)<;>cases aY u 0 (fF u.loc)
 ·exact id
 ·exact id
 ·exact id
 ·exact fun h=>h.fns
mutual
def Ast.lt:Ast→Lt
 | .mk h ks=>.mk 0 h (Ast.EC ks)
def Ast.EC:List Ast→List Lt
 | []=>[]
 | a::xz=>Ast.lt a::Ast.EC xz
end
mutual
theorem QW {T:List Nd} :∀(a:Ast) (i:Nat) (js:List Nat),gC T a i js→∃t:Lt,Lt.In T t∧t.loc=i∧t.eE=js∧zG id a.lt t
 | .mk h xz,i,js,hr=>by
  unfold gC at hr;obtain⟨x,qZ,hx,he,hs,rfl⟩:=hr;obtain⟨ts,h1,h2,h3,h4⟩:=GV xz x.kids qZ hs;refine⟨.mk i x ts,?_,rfl,?_,?_⟩
  ·unfold Lt.In
   exact⟨hx,h2,h1⟩
  ·rw[Lt.eE,h3]
  ·rw[Ast.lt]
   unfold zG;have e1:x.kind=h.kind:=by rw[he]
   have e2:x.num=h.num:=by rw[he]
   have e3:x.s=h.s:=by rw[he]
   have e4:x.names=h.names:=by rw[he]
   exact⟨e1,e2,e3,by rw[List.map_id];exact e4,h4⟩
theorem GV {T:List Nd} :∀(xz:List Ast) (ks:List Int) (js:List Nat),bj T xz ks js→∃ts:List Lt,Lt.sW T ts∧ks=ts.map (fun k=>(k.loc:Int))∧Lt.bh ts=js∧dM id (Ast.EC xz) ts
 | [],ks,js,hr=>by
  unfold bj at hr;obtain⟨rfl,rfl⟩:=hr;refine⟨[],?_,rfl,?_,?_⟩
  ·unfold Lt.sW;trivial
  ·rw[Lt.bh]
  ·rw[Ast.EC];unfold dM;rfl
 | a::xz,ks,js,hr=>by
  unfold bj at hr;obtain⟨k,gX,j1,j2,rfl,h1,h2,rfl⟩:=hr;obtain⟨t,a1,a2,a3,a4⟩:=QW a k j1 h1;obtain⟨ts,b1,b2,b3,b4⟩:=GV xz gX j2 h2;refine⟨t::ts,?_,?_,?_,?_⟩
  ·unfold Lt.sW;exact⟨a1,b1⟩
  ·rw[dV,a2,b2]
  ·rw[Lt.bh,a3,b3]
  ·rw[Ast.EC];unfold dM;exact⟨t,ts,rfl,a4,b4⟩
end
open Go.RowKit
mutual
def Every (Q:Nd→Prop):Ast→Prop
 | .mk h ks=>Q h∧pN Q ks
def pN (Q:Nd→Prop):List Ast→Prop
 | []=>True
 | a::xs=>Every Q a∧pN Q xs
end
mutual
theorem CF :∀a:Ast,Cg a→Every Gy a
 | .mk h ks,hs=>by
  unfold Cg at hs;unfold Every;exact⟨hs.1,yc ks hs.2⟩
theorem yc :∀l:List Ast,vm l→pN Gy l
 | [],_=>by unfold pN;trivial
 | a::l,hs=>by
  unfold vm at hs;unfold pN;exact⟨CF a hs.1,yc l hs.2⟩
end
mutual
theorem gC.every {T:List Nd} {Q:Nd→Prop} (hQ :∀h ks,Q h→Q { h with kids:=ks}) :∀(a:Ast) (i:Nat) (js:List Nat),gC T a i js→Every Q a→∀j∈js,∀x,T[j]? = some x→Q x
 | .mk h xs,i,js,hr,hs=>by
  unfold gC at hr;unfold Every at hs;obtain⟨x,qZ,hx,he,hr2,rfl⟩:=hr;intro j hj y hy;rcases bc.1 hj with rfl|hj
  ·rw[hx] at hy
   injection hy with hy;rw[←hy,he];exact hQ h _ hs.1
  ·exact bj.every hQ xs x.kids qZ hr2 hs.2 j hj y hy
theorem bj.every {T:List Nd} {Q:Nd→Prop} (hQ :∀h ks,Q h→Q { h with kids:=ks}) :∀(l:List Ast) (ks:List Int) (js:List Nat),bj T l ks js→pN Q l→∀j∈js,∀x,T[j]? = some x→Q x
 | [],ks,js,hr,_=>by
  unfold bj at hr;obtain⟨_,rfl⟩:=hr;intro j hj;simp at hj
 | a::l,ks,js,hr,hs=>by
  unfold bj at hr;unfold pN at hs;obtain⟨k,gX,j1,j2,rfl,h1,h2,rfl⟩:=hr;intro j hj y hy;rcases dd.1 hj with hj|hj
  ·exact gC.every hQ a k j1 h1 hs.1 j hj y hy
  ·exact bj.every hQ l gX j2 h2 hs.2 j hj y hy
end
theorem eA.alone {T:List Nd} {a:Ast} {p:Nat} (h:eA [] T [a] [(p:Int)]) :∃js,gC T a p js∧js.Nodup∧js.length=T.length∧∀j,j<T.length→j∈js:=by
 obtain⟨_,js,hr,x9⟩:=h;unfold bj at hr;obtain⟨k,gX,j1,j2,ek,hr1,hr2,ej⟩:=hr;unfold bj at hr2;obtain⟨_,rfl⟩:=hr2;have ek2:k=p:=by injection ek with ek _;omega
 subst ek2;rw[gh] at ej;subst ej;exact⟨_,hr1,x9.nodup_iff.2 (List.nodup_range' ..),by rw[x9.length_eq,Lj];simp,fun j hj=>x9.mem_iff.2 (by rw[List.mem_range'_1];simp;exact hj)⟩
theorem eA.every {T:List Nd} {a:Ast} {p:Nat} {Q:Nd→Prop} (h:eA [] T [a] [(p:Int)]) (hQ :∀h ks,Q h→Q { h with kids:=ks}) (hs:Every Q a) :∀x∈T,Q x:=fun x hx=>by
 obtain⟨js,h1,h2,h3,h4⟩:=h.alone;obtain⟨j,hj⟩:=jz.1 hx;exact gC.every hQ a p js h1 hs j (h4 j (aK.1 hj).1) x hj
theorem zv (x:Nd) (ks:List Int):bS { x with kids:=ks}=bS x:=rfl
theorem ED {s:ByteArray} (h:gN s=true):s.size≤65536:=by
 unfold gN at h;simp only[dp] at h;exact iG h.1.1.1.2
mutual
theorem QX :∀(a:Ast) (t:Lt),zG id a.lt t→t.wt=a.wt
 | .mk h as',.mk i x ks,hs=>by
  rw[Ast.lt] at hs;unfold zG at hs;obtain⟨_,_,_,h4,h5⟩:=hs;have h4:x.names=h.names.map id:=h4;have h5:dM id (Ast.EC as') ks:=h5;rw[Lt.wt,Ast.wt,GW as' ks h5,h4,List.map_id]
theorem GW :∀(l:List Ast) (ks:List Lt),dM id (Ast.EC l) ks→Lt.ey ks=Ast.ey l
 | [],ks,hs=>by
  rw[Ast.EC] at hs;unfold dM at hs;rw[hs,Lt.ey,Ast.ey]
 | a::l,ks,hs=>by
  rw[Ast.EC] at hs;unfold dM at hs;obtain⟨t,ts,rfl,h1,h2⟩:=hs;rw[Lt.ey,Ast.ey,QX a t h1,GW l ts h2]
end
theorem CG {T:List Nd} {r:Int} (h:iV T r=true) :∀x∈T,∀s∈x.names,s.size≤65536:=fun x hx s hs=>by
 obtain⟨h1,h2,h3,h4⟩:=(eQ bS lI eL).1 h;obtain⟨i,hi⟩:=jz.1 hx;exact ED ((Bd ((pb bS lI eL).1 (h4 i x hi)).2.1).all s hs)
structure CH (a:Ast):Prop where
 ok:Ast.ok bS lI eL a=true
 kind:a.hd.kind=18
 sm:Cg a
 size:a.size≤16384
 wt:a.wt≤50000
structure acr (a:Ast):Prop where
 kind:a.hd.kind=18
 sm:Cg a
 size:a.size≤16384
 wt:a.wt≤50000
theorem CH.b {a:Ast} (h:CH a):acr a:=⟨h.kind,h.sm,h.size,h.wt⟩
def aeb (s:ByteArray):Prop:=∀(ts aA:List ak) (a:Ast),l9 (dD s) s.data.toList (.ok ts)→ts.length≤s.size+1→PL uU ts (.ok (a,aA))→acr a
theorem VJ {s:ByteArray} {ts aA:List ak} {a:Ast} (hl:l9 (dD s) s.data.toList (.ok ts)) (hp:PL uU ts (.ok (a,aA))) (ha:CH a):aeb s:=fun ir acs a2 h1 _ h2=>by
 have e1:=hl.tK h1;injection e1 with e1;subst e1;have e2:=hp.one h2;injection e2 with e2;injection e2 with e2 _;subst e2;exact ha.b
structure aec (T:List Nd) (p:Nat) (a:Ast) (t:Lt):Prop where
 right:iV T (p:Int)=true
 sml:Sml T
 few:T.length≤16384
 yF:Lt.In T t
 loc:t.loc=p
 nodup:t.eE.Nodup
 all :∀j,j<T.length↔j∈t.eE
 WU:ic T t
 kind:t.hd.kind=18
 wt:t.wt≤50000
 size:t.size=T.length
 sim:zG id a.lt t
theorem QY {a:Ast} {T:List Nd} {p:Nat} (hA:CH a) (hd:a.depth≤100) (hL:eA [] T [a] [(p:Int)]) :∃t,aec T p a t:=by
 have hm:=hA.sm;have hN:T.length≤16384:=by
  have h1:=hL.len;have h2:=hA.size;rw[vr] at h1;simp at h1;omega
 obtain⟨js,r1,r2,r3,r4⟩:=hL.alone;have hrt:iV T (p:Int)=true:=by
  unfold iV;rw[Hm zv r1 r2 r3 hN,hA.ok,bQ hd,bQ hA.kind];rfl
 have h1:=hL.every (Q:=Gy) (fun x ks hx=>hx) (CF a hm)
 obtain⟨t,e1,e2,e3,e4⟩:=QW a p js r1;have hlt:=gC.lt a p js r1;have dh :∀x∈T,x.kids.length≤20000:=fun x hx=>by
  obtain⟨_,_,_,h4⟩:=(eQ bS lI eL).1 hrt;obtain⟨d,m,hs,_,_⟩:=Hg bS lI eL hrt;obtain⟨i,hi⟩:=jz.1 hx;have:=(Bn hs hi).2;omega
 have hk:t.hd.kind=18:=by
  obtain⟨_,_,h3,_⟩:=(eQ bS lI eL).1 hrt;have:=(lN e1).2.1;rw[e2] at this;rw[←h3,gV,nT this]
 have hT :∀x∈T,lI x.kind x.num (x.kids.map fun k=>eL (dI T k.toNat))=true:=fun x hx=>by
  obtain⟨_,_,_,h4⟩:=(eQ bS lI eL).1 hrt;obtain⟨i,hi⟩:=jz.1 hx;exact((pb bS lI eL).1 (h4 i x hi)).2.2
 refine⟨t,hrt,⟨fun x hx=>⟨dh x hx,by have:=(h1 x hx).2.2.2.1;omega⟩,fun x hx=>⟨by have:=(h1 x hx).2.2.1;omega,CG hrt x hx⟩⟩,hN,e1,e2,by rw[e3];exact r2,fun j=>by rw[e3];exact⟨r4 j,hlt j⟩,YI hT e1 (by rw[e3];exact r2) (by rw[hk];decide),hk,?_,?_,e4⟩
 ·rw[QX a t e4]
  exact hA.wt
 ·rw[←Lt.wP,e3,r3]
theorem Ks:(Tryz.prog.info? 60).map (·.comparable)=some true:=by kernel_rfl
theorem yd (m k:Int) (w:World):(binOp .eql 29 (.iface 60 (.int .i64 m)) (.iface 60 (.int .i64 k))).run Tryz.prog w=.ok (.bool (m == k)) w:=Lib.run_eql_iface_int w m k Tryz.underlying29 Ks Tryz.underlying60
theorem aaD (v:Value) (n:Int) (k:Nat) (w:World) (h:qW w) (hf:Vz w v n (k:Int)) (hk:1≤k∧k≤19):Calls Tryz.prog 11 #[v] w fun e w'=>e=.returned (.tuple #[.int .i64 (k:Int),.int .i64 n])∧Below w.heap.size w w':=by
 obtain⟨g,rfl,hg⟩:=hf;have re:g<w.heap.size:=(aO.1 hg).1;have A1:=aa (VB g w h);have HG:=aa hg;clear h hg;go_enter Tryz.func11,Tryz.ntmps11
 go_wp2_with fail
 refine A1.out.mono ?_;rintro e w1 ⟨rfl,hc,hb⟩;have hg1:w1.heap[g]? = _:=(hb.block g re).trans HG.out;have HB:=aa hb;have HI:=aa (VD g n (k:Int) w1 (fun w=>by rw[yd];simp) hg1)
 have HN:=aa (fun(j:Nat) (hj:j<k)=>VE g n (k:Int) (j:Int) w1 (fun w=>by rw[yd];congr 2;exact aC.2 (by omega)) hg1)
 have hc0:w1.cell? ⟨g,0,none⟩=some (.int .i64 n):=by simp[World.cell?,hg1]
 clear hg1 hb;go_wp2_with fail
 go_loop [5] (fun i=>∃j:Nat,1≤j∧j≤k∧i=.int .i64 j) (fun i=>k-(intOf i).toNat)
 case atStart=>exact⟨1,by omega,by omega,rfl⟩
 case round =>
  obtain⟨j,hj1,hj5,rfl⟩:=hrel;have hle:decide ((j:Int)≤19)=true:=bQ (by omega)
  by_cases hjk:j<k
  ·have N1:=aa (HN.out j hjk)
   go_wp2_with (go_at_call 21;refine N1.out.mono ?_;rintro e w' ⟨rfl,rfl⟩)
   go_round
   case rel=>exact⟨j+1,by omega,by omega,by go_num⟩
   case measure=>simp[intOf];omega
  ·obtain rfl:j=k:=by omega
   go_wp2_with (go_at_call 21;refine HI.out.mono ?_;rintro e w' ⟨rfl,rfl⟩)
   go_quiet (fail)
   go_wp2_with fail
   go_ret2
   exact⟨rfl,HB.out.trans ⟨rfl,rfl,rfl,ah _,fun _ _=>rfl⟩⟩
mutual
def gy:Ast→Nat
 | .mk h ks=>gp h (gQ ks)
def gQ:List Ast→List (Int×Nat)
 | []=>[]
 | k::ks=>(k.hd.kind,gy k)::gQ ks
end
theorem EE (h:Nd) (k:List Int) (l:List (Int×Nat)):gp { h with kids:=k} l=gp h l:=rfl
mutual
theorem CI {T:List Nd} :∀(a:Ast) (i:Nat) (js:List Nat) (t:Lt),gC T a i js→Lt.In T t→t.loc=i→aG t=gy a∧t.hd.kind=a.hd.kind
 | .mk h xs,i,js,.mk j g ks,hr,hi,e=>by
  have e:j=i:=e;subst e;unfold gC at hr;unfold Lt.In at hi;obtain⟨x,qZ,hx,he,hr2,rfl⟩:=hr;obtain⟨h1,h2,h3⟩:=hi;rw[hx] at h1;injection h1 with h1;subst h1;rw[h2] at hr2;have h4:=ye xs _ qZ ks hr2 h3 rfl;rw[aG,gy,h4];rw[he];exact⟨EE h _ _,rfl⟩
theorem ye {T:List Nd} :∀(l:List Ast) (ks:List Int) (js:List Nat) (ts:List Lt),bj T l ks js→Lt.sW T ts→ks=ts.map (fun k=>(k.loc:Int))→mw ts=gQ l
 | [],ks,js,ts,hr,_,e=>by
  unfold bj at hr;obtain⟨rfl,_⟩:=hr;cases ts with
  | nil=>rw[mw,gQ]
  | cons t ts=>cases e
 | a::l,ks,js,ts,hr,hi,e=>by
  unfold bj at hr;obtain⟨k,gX,j1,j2,rfl,h1,h2,rfl⟩:=hr;cases ts with
  | nil=>cases e
  | cons t ts =>
   injection e with e1 e2;unfold Lt.sW at hi;have e1:(k:Int)=(t.loc:Int):=e1;have e3:t.loc=k:=by omega
   obtain⟨h3,h4⟩:=CI a k j1 t h1 hi.1 e3;rw[mw,gQ,ye l gX j2 ts h2 hi.2 e2,h3,h4]
end
theorem CJ {T:List Nd} {r:Int} (h:iV T r=true) :∀x∈T,x.kind=20→1≤x.num:=fun x hx hk=>by
 obtain⟨_,_,_,h4⟩:=(eQ bS lI eL).1 h;obtain⟨i,hi⟩:=jz.1 hx;exact(Bd ((pb bS lI eL).1 (h4 i x hi)).2.1).count (.inl hk)
def OfN (n:Nat) (w:World) (e:Ending) (w':World):Prop :=
 Below w.heap.size w w'∧((n≤250∧∃g,e=.returned (.tuple #[.slice (some ⟨g,0,none⟩) 1 1,.int .i64 0])∧w'.cell? ⟨g,0,none⟩=some (.int .i64 (n:Int)))∨(250<n∧e=.returned (.tuple #[.slice none 0 0,.int .i64 13])))
theorem aaE {s:ByteArray} {ts aA:List ak} {a:Ast} (hl:l9 (dD s) s.data.toList (.ok ts)) (hp:PL uU ts (.ok (a,aA))) (hA:CH a) (hd:a.depth≤100) (j5:aI) (h0:pd a.lt=.ok j5) (h1:j5.fns.length=1) (n:Nat) (hn :∀x,j5.fns[0]? = some x→x.vars.length+gy a=n)
  (w:World) (hs:s.size≤4000) (hE:qW w):Calls Tryz.prog 12 #[.string s] w (OfN n w):=by
 have HE:=aa hE;have HS:=aa hs;have HP:=aa (VC s w (by omega) hE fun ir acs a2 h1 h2 h3=>(VJ hl hp hA ir acs a2 h1 h2 h3).size)
 clear hE hs;go_enter Tryz.func12,Tryz.ntmps12
 go_wp2_with fail
 refine HP.out.mono ?_;rintro e w2 ⟨b2,o,ho,hm⟩;have e1:=hl.tK ho;subst e1;obtain⟨_,q,hq,hm⟩:=hm;have e2:=hp.one hq;subst e2;rcases hm with ⟨hd',_⟩ | ⟨_,v,T,p,rfl,hv,hL⟩
 ·exact absurd hd (by omega)
 obtain⟨t,hst⟩:=QY hA hd hL;obtain⟨js,r1,_,_,_⟩:=hL.alone;have kh:aG t=gy a:=(CI a p js t r1 hst.yF hst.loc).1;have hNY:=fun W (hW:my W v T (p:Int))=>N9 v T (p:Int) W hW hst.sml hst.right t (by rw[hst.loc]) hst.WU hst.kind hst.few hst.wt hst.size (CJ hst.right) (fun st h=>by
  have h2:=Oc h hst.WU.nodup hst.WU.wf;exact⟨by have:=h2.1;have:=hst.size;have:=hst.few;omega,h2.2.2.2⟩)
 have hrr:=VI (ρ:=id) (fun _ _ h=>h) hst.sim
 rw[h0] at hrr;have key :∃st,pd t=.ok st∧st.fns.length=1∧∃x,st.fns[0]? = some x∧x.node=t.loc∧x.vars.length+aG t=n:=by
  cases hr:pd t with
  | error y=>rw[hr] at hrr;exact hrr.elim
  | ok st =>
   rw[hr] at hrr;have mP:FR id j5.fns st.fns:=hrr;have qn:st.fns.length=1:=by rw[mP.1,h1]
   have hx:st.fns[0]? = some (st.fns[0]'(by omega)):=bG _
   have hx0:j5.fns[0]? = some (j5.fns[0]'(by omega)):=bG _
   refine⟨st,rfl,qn,_,hx,(Oc hr hst.WU.nodup hst.WU.wf).2.2.1 _ hx,?_⟩;have vY:=(mP.2 0).len;rw[jZ,jZ,hx,hx0] at vY;rw[kh,←hn _ hx0];have vY:(st.fns[0]'(by omega)).vars.length=(j5.fns[0]'(by omega)).vars.length:=vY
   rw[vY]
 obtain⟨st,hr,qn,x,hx,Xv,Xw⟩:=key;rw[hr] at hNY;obtain⟨nv,rfl,A,c,rfl,hc,hX⟩:=hv;have hv:my w2 (.agg #[.slice A T.length c,.int .i64 ((p:Nat):Int)]) T ((p:Nat):Int):=⟨_,rfl,_,c,rfl,hc,hX⟩;have HNY:=aa (fun W (hW:Below w2.heap.size w2 W)=>hNY W (hv.below hW))
 have HST:=aa (And.intro hst.WU hst.kind);have HX:=aa (And.intro qn (And.intro hx (And.intro Xv Xw)));have B2:=aa b2;clear hl hp hA hd h0 h1 hn ho hq hL hst r1 kh hNY hrr hr qn hx Xv Xw hX hv hc b2;go_wp2_with fail
 refine(HNY.out _ ((Below.refl _ _).alloc (ah _) _)).mono ?_;rintro e w4 ⟨b4,h4⟩;have B4:=aa (B2.out.trans ((((Below.refl _ _).alloc (ah _) _).trans (b4.mono (by rw[aq];omega))).mono B2.out.size))
 clear b4;rcases h4 with ⟨g,oo,rfl,hcell,hall⟩ | ⟨u,l,i,y,m,rfl,Di,hy,hnf,yM⟩
 ·obtain⟨qn,hx,Xv,Xw⟩:=HX.out
  obtain⟨hnf,hle⟩:=hall 0 x hx;have UD:=Gf HST.out.1 HST.out.2 Xv hnf;have hc0:=hcell 0 (by omega)
  rw[UD,Xw] at hc0 hle;rw[qn];have HC:=aa (And.intro hc0 hle);clear hcell hall qn hx Xv Xw hnf UD hc0 hle;go_wp2_with fail
  refine(QP _).mono ?_;rintro e w5 ⟨rfl,rfl⟩;go_wp2_with fail
  go_ret2
  exact⟨B4.out,.inl ⟨HC.out.2,g,rfl,HC.out.1⟩⟩
 ·obtain⟨qn,hx,Xv,Xw⟩:=HX.out
  have mJ:i=0:=by have:=(aK.1 hy).1;omega
  subst mJ;rw[hx] at hy;injection hy with hy;subst hy;have UD:=Gf HST.out.1 HST.out.2 Xv hnf;rw[UD,Xw] at yM;have Ob:=aa yM;have Tg:=aa Di;obtain⟨g,rfl,_⟩:=Di;clear qn hx Xv Xw hnf UD yM;go_wp2_with fail
  refine(aaD _ l 13 _ (HE.out.below B4.out) ?_ (by omega)).mono ?_
  ·obtain⟨g',e1,e2⟩:=Tg.out
   exact⟨g',e1,e2⟩
  rintro e w5 ⟨rfl,b5⟩;have B5:=aa (B4.out.trans (b5.mono B4.out.size));clear b5;go_wp2_with fail
  go_ret2
  exact⟨B5.out,.inr ⟨Ob.out,rfl⟩⟩
def qtF (q:UInt8):List UInt8→Option (List UInt8×List UInt8)
 | []=>none
 | c::r=>if c=q then some ([],r) else if c=10∨c=92 then none else (qtF q r).map fun x=>(c::x.1,x.2)
theorem yg {q:UInt8} :∀{l:List UInt8} {z:List UInt8×List UInt8},qtF q l=some z→yV q l (some z)
 | [],z,h=>by cases h
 | c::r,z,h=>by
  unfold qtF at h;by_cases h1:c=q
  ·rw[ai h1] at h
   injection h with h;rw[←h,h1];exact .shut
  ·rw[ab h1] at h
   by_cases h2:c=10∨c=92
   ·rw[ai h2] at h;cases h
   ·rw[ab h2] at h
    cases hq:qtF q r with
    | none=>rw[hq] at h;cases h
    | some x =>
     rw[hq] at h;injection h with h;rw[←h];exact .byte (o:=some x) h1 (fun e=>h2 (.inl e)) (fun e=>h2 (.inr e)) (yg hq)
def VK:List UInt8→Option (Int×Int×List UInt8×List UInt8)
 | []=>none
 | c::r=>if wj c then some (if qH ((c::r).takeWhile nC) then 2 else 1,0,(c::r).takeWhile nC,(c::r).dropWhile nC)
  else if gB c then (if qD 9223372036854775807 ((c::r).takeWhile oD) then some (3,yQ (tn 9223372036854775807 ((c::r).takeWhile oD):Int),[],(c::r).dropWhile oD) else none)
  else if Gh c then (qtF c r).map fun x=>(4,0,x.1,x.2)
  else if 0<opn (c::r) then none
  else (sign (c::r)).map fun x=>(5,0,x.1,x.2)
theorem Kt {l:List UInt8} {z:Int×Int×List UInt8×List UInt8} (h:VK l=some z):Tok l (some z):=by
 cases l with
 | nil=>cases h
 | cons c r =>
  change(if wj c=true then some (if qH ((c::r).takeWhile nC) then 2 else 1,0,(c::r).takeWhile nC,(c::r).dropWhile nC)
   else if gB c=true then (if qD 9223372036854775807 ((c::r).takeWhile oD)=true then some (3,yQ (tn 9223372036854775807 ((c::r).takeWhile oD):Int),[],(c::r).dropWhile oD) else none)
   else if Gh c=true then (qtF c r).map fun x=>(4,0,x.1,x.2)
   else if 0<opn (c::r) then none
   else (sign (c::r)).map fun x=>(5,0,x.1,x.2))=some z at h
  by_cases h1:wj c=true
  ·rw[ai h1] at h
   rw[←h];exact .name h1
  ·rw[ab h1] at h
   have h1:wj c=false:=by simpa using h1
   by_cases h2:gB c=true
   ·rw[ai h2] at h
    by_cases h3:qD 9223372036854775807 ((c::r).takeWhile oD)=true
    ·rw[ai h3] at h
     rw[←h];exact .num h1 h2 h3
    ·rw[ab h3] at h;cases h
   ·rw[ab h2] at h
    have h2:gB c=false:=by simpa using h2
    by_cases h3:Gh c=true
    ·rw[ai h3] at h
     cases hq:qtF c r with
     | none=>rw[hq] at h;cases h
     | some x =>
      rw[hq] at h;rw[←h];exact .text (o:=some x) h1 h2 h3 (yg hq)
    ·rw[ab h3] at h
     have h3:Gh c=false:=by simpa using h3
     by_cases h4:0<opn (c::r)
     ·rw[ai h4] at h;cases h
     ·rw[ab h4] at h
      rw[←h];exact .sign h1 h2 h3 h4
def o0 (L:Int):Nat→List UInt8→Option (List Tk)
 | 0,_=>none
 | n+1,l=>if Lib.hasPrefix (l.dropWhile pB) [45,45] then none else
  match l.dropWhile pB with
  | []=>some [(0,L,0,[])]
  | c::t=>match VK (c::t) with
   | none=>none
   | some (k,m,s,r)=>(o0 L n r).map ((k,L-nl (c::t),m,s) :: ·)
theorem ow {L:Int} :∀(n:Nat) (l:List UInt8) (ts:List Tk),o0 L n l=some ts→l9 L l (.ok ts)
 | 0,l,ts,h=>by cases h
 | n+1,l,ts,h=>by
  unfold o0 at h;by_cases hp:Lib.hasPrefix (l.dropWhile pB) [45,45]=true
  ·rw[ai hp] at h;cases h
  ·rw[ab hp] at h
   have hp:Lib.hasPrefix (l.dropWhile pB) [45,45]=false:=by simpa using hp
   cases hd:l.dropWhile pB with
   | nil =>
    rw[hd] at h hp;injection h with h;rw[←h];exact .eof (.done hd hp)
   | cons c t =>
    rw[hd] at h hp;dsimp only at h
    cases ht:VK (c::t) with
    | none=>rw[ht] at h;cases h
    | some z =>
     obtain⟨k,m,s,r⟩:=z;rw[ht] at h;dsimp only at h
     cases hr:o0 L n r with
     | none=>rw[hr] at h;cases h
     | some aA =>
      rw[hr] at h;injection h with h;rw[←h];exact .step (o:=.ok aA) (.done hd hp) (by simp) (Kt ht) (ow n r aA hr)
end Go.Proofs.YtodmcdfeldkocaaGreatDoor
namespace Go.Proofs.YtodmcdfeldkocaaGreatDoor
section
variable {N:Type} {V:N→Type} (body :∀n,G N V (V n))
def run:Nat→{α:Type}→G N V α→List ak→Option (Except Int (α×List ak))
 | 0,_,_,_=>none
 | _+1,_,.ret a,ts=>some (.ok (a,ts))
 | _+1,_,.bad,[]=>none
 | _+1,_,.bad,t::_=>some (.error t.2.1)
 | _+1,_,.tok _,[]=>none
 | n+1,_,.tok f,t::ts=>run n (f t) ts
 | _+1,_,.look _,[]=>none
 | n+1,_,.look f,t::ts=>run n (f t) (t::ts)
 | n+1,_,.call m k,ts=>match run n (body m) ts with
  | none=>none
  | some (.error e)=>some (.error e)
  | some (.ok p)=>run n (k p.1) p.2
variable {body}
theorem cY :∀(n:Nat) {α:Type} (g:G N V α) (ts:List ak) (r:Except Int (α×List ak)),run body n g ts=some r→P body g ts r:=by
 intro n;induction n with
 | zero=>intro α g ts r h;cases h
 | succ n ih =>
  intro α g ts r h;cases g with
  | ret a =>
   rw[run] at h;rw[←gW h];exact .ret
  | bad =>
   cases ts with
   | nil=>rw[run] at h;cases h
   | cons t ts =>
    rw[run] at h;rw[←gW h];exact .bad
  | tok f =>
   cases ts with
   | nil=>rw[run] at h;cases h
   | cons t ts=>rw[run] at h;exact .tok (ih _ _ _ h)
  | look f =>
   cases ts with
   | nil=>rw[run] at h;cases h
   | cons t ts=>rw[run] at h;exact .look (ih _ _ _ h)
  | call m k =>
   rw[run] at h;cases e:run body n (body m) ts with
   | none=>rw[e] at h;cases h
   | some q =>
    rw[e] at h;cases q with
    | error x =>
     rw[←gW h];exact .iB (ih _ _ _ e)
    | ok p=>exact .call (ih _ _ (.ok (p.1,p.2)) e) (ih _ _ _ h)
end
def vH (s:List UInt8):ak:=(1,1,0,s)
def mF (s:List UInt8):ak:=(5,1,0,s)
end Go.Proofs.YtodmcdfeldkocaaGreatDoor
namespace Go.Proofs.YtodmcdfeldkocaaGreatDoor
open Go.RowKit
def tt (s:List UInt8):ak:=(2,1,0,s)
def QZ (n:Int):ak:=(3,1,n,[])
def VL:ByteArray:=⟨#[114,101,116,117,114,110,32,102,40,49,44,32,103,40,50,44,32,51,41,41]⟩
def VM:ByteArray:=⟨#[108,111,99,97,108,32,97,44,32,98,32,61,32,49]⟩
def Xx:List ak:=[tt ei,vH [102],mF [40],QZ 1,mF [44],vH [103],mF [40],QZ 2,mF [44],QZ 3,mF [41],mF [41],iX]
def Xy:List ak:=[tt iT,vH [97],mF [44],vH [98],mF [61],QZ 1,iX]
def Q0:Ast:=nd 18 1 [nd 29 1 [nd 9 1 [mS 7 1 (bx [102]) [],AX 4 1 1 [],nd 9 1 [mS 7 1 (bx [103]) [],AX 4 1 2 [],AX 4 1 3 []]]]]
def Q6:Ast:=nd 18 1 [Dz 19 1 0 [bx [97],bx [98]] [AX 4 1 1 []]]
theorem acu:PL uU Xx (.ok (Q0,[iX])):=cY 100 _ _ _ rfl
theorem acv:PL uU Xy (.ok (Q6,[iX])):=cY 100 _ _ _ rfl
theorem aed:o0 (dD VL) (VL.data.toList.length+1) VL.data.toList=some Xx:=by decide +kernel
theorem lexB:o0 (dD VM) (VM.data.toList.length+1) VM.data.toList=some Xy:=by decide +kernel
theorem okA:CH Q0:=⟨by decide +kernel,rfl,by simp[Q0,Cg,vm,Gy,nd,mS,AX,bx];decide +kernel,by decide +kernel,by decide +kernel⟩
theorem okB:CH Q6:=⟨by decide +kernel,rfl,by simp[Q6,Cg,vm,Gy,nd,Dz,AX,bx];decide +kernel,by decide +kernel,by decide +kernel⟩
theorem ofA (w:World) (hE:qW w):Calls Tryz.prog 12 #[.string VL] w fun e w'=>Below w.heap.size w w'∧∃g,e=.returned (.tuple #[.slice (some ⟨g,0,none⟩) 1 1,.int .i64 0])∧w'.cell? ⟨g,0,none⟩=some (.int .i64 5) :=
 (aaE (ow _ _ _ aed) acu okA (by decide +kernel) _ rfl rfl 5 (fun x hx=>by injection hx with hx;subst hx;decide +kernel) w (by decide) hE).mono fun e w' ⟨hb,h⟩=>by
  rcases h with ⟨_,g,h1,h2⟩ | ⟨h,_⟩
  ·exact⟨hb,g,h1,h2⟩
  ·omega
theorem ofB (w:World) (hE:qW w):Calls Tryz.prog 12 #[.string VM] w fun e w'=>Below w.heap.size w w'∧∃g,e=.returned (.tuple #[.slice (some ⟨g,0,none⟩) 1 1,.int .i64 0])∧w'.cell? ⟨g,0,none⟩=some (.int .i64 3) :=
 (aaE (ow _ _ _ lexB) acv okB (by decide +kernel) _ rfl rfl 3 (fun x hx=>by injection hx with hx;subst hx;decide +kernel) w (by decide) hE).mono fun e w' ⟨hb,h⟩=>by
  rcases h with ⟨_,g,h1,h2⟩ | ⟨h,_⟩
  ·exact⟨hb,g,h1,h2⟩
  ·omega
theorem VN (w:World) (hE:qW w):Calls Tryz.prog 7 #[] w fun e w'=>e=.returned (.bool true)∧Below w.heap.size w w':=by
 have A1:=aa (ofA w hE);have A2:=aa (fun w' (h:Below w.heap.size w w')=>ofB w' (hE.below h))
 clear hE;go_enter Tryz.func7,Tryz.ntmps7
 go_wp2_with fail
 refine A1.out.mono ?_;rintro e w1 ⟨b1,g1,rfl,c1⟩;have B1:=aa b1;have C1:=aa c1;clear b1 c1;go_wp2_with fail
 refine(A2.out w1 B1.out).mono ?_;rintro e w2 ⟨b2,g2,rfl,c2⟩;have c1:=(b2.cell (p:=⟨g1,0,none⟩) (block_lt_of_cell C1.out)).trans C1.out;have B2:=aa (B1.out.trans (b2.mono B1.out.size));clear b2;go_wp2_with fail
 go_ret
 exact⟨rfl,B2.out⟩
theorem aaF (i:Nat) (l:Int) (s:ByteArray) (f:Nat) (st:aI):aY (.mk i ⟨19,l,0,0,⟨#[]⟩,[s],[]⟩ []) f st=bu i f l [s] (st.setOf i f):=by
 rw[RW _ _ _ _ _ rfl,eB];rfl
theorem sU {fr:List fE} {f:Nat} {all:List Lt} :∀(ks:List Lt) (n:Nat),(∀k∈ks,k.hd.kind≠32)→b9 fr f all n ks=none
 | [],_,_=>rfl
 | k::ks,n,h=>by
  rw[b9,ab fun e=>h k (bP ..) e.1]
  exact sU ks (n+1) fun x hx=>h x (bO _ hx)
def fT:ak:=vH [102]
def oT:ak:=mF [40]
def cT:ak:=mF [41]
def kT:ak:=mF [44]
def EF:ak:=QZ 1
def fA:Ast:=mS 7 1 (bx [102]) []
def jV:Ast:=AX 4 1 1 []
def RM:Nat→List ak→List ak
 | 0,r=>r
 | n+1,r=>kT::EF::RM n r
def Q7:Nat→List ak→List ak
 | 0,r=>r
 | n+1,r=>EF::RM n r
def EG:Nat→Nat→List ak→List ak
 | 0,a,r=>fT::oT::Q7 a (cT::r)
 | c+1,a,r=>fT::oT::EG c a (cT::r)
def mq:Nat→Nat→Ast
 | 0,a=>nd 9 1 (fA::List.replicate a jV)
 | c+1,a=>nd 9 1 [fA,mq c a]
theorem VO (l:List Ast) (x:Ast) (n:Nat):l++[x]++List.replicate n x=l++List.replicate (n+1) x:=by
 rw[cP];rfl
theorem CK {u:ak} {us:List ak} (hu:u=cT∨u=kT):PL (aT (.exp 1)) (EF::u::us) (.ok (jV,u::us)):=by
 rcases hu with rfl|rfl
 ·exact cY 30 _ _ _ rfl
 ·exact cY 30 _ _ _ rfl
theorem CL (n:Nat) (us:List ak) :∃u vs,RM n (cT::us)=u::vs∧(u=cT∨u=kT):=by
 cases n with
 | zero=>exact⟨_,_,rfl,.inl rfl⟩
 | succ n=>exact⟨_,_,rfl,.inr rfl⟩
theorem CN (us:List ak) :∀(n:Nat) (l:List Ast),PL (aT (.SF l)) (RM n (cT::us)) (.ok (l++List.replicate n jV,cT::us))
 | 0,l=>by
  rw[zO,gh];exact cY 5 _ _ _ rfl
 | n+1,l=>by
  obtain⟨u,vs,e,hu⟩:=CL n us;have h1:PL (aT (.exp 1)) (EF::RM n (cT::us)) (.ok (jV,RM n (cT::us))):=by rw[e];exact CK hu
  have h2:=CN us n (l++[jV]);rw[VO] at h2;unfold aT;refine .look ?_;rw[ai (by decide)]
  exact .tok (.call h1 (.call h2 .ret))
theorem Q8 {X us:List ak} {l:List Ast} {t:ak} {ts:List ak} (hX:X=t::ts) (h:av [41] t=false) (hl:PL (aT .AZ) X (.ok (l,cT::us))):PL (aT .arg) (oT::X) (.ok (l,us)):=by
 subst hX;unfold aT;refine .look ?_;rw[ab (by decide),ab (by decide)]
 unfold want;refine .look ?_;rw[ai (by decide)]
 refine .tok (.look ?_);rw[ab (by rw[h];decide)]
 refine .call hl (.look ?_);rw[ai (by decide)]
 exact .tok .ret
theorem Q9 (a:Nat) (us:List ak):PL (aT .arg) (oT::Q7 a (cT::us)) (.ok (List.replicate a jV,us)):=by
 cases a with
 | zero=>exact cY 10 _ _ _ rfl
 | succ n =>
  obtain⟨u,vs,e,hu⟩:=CL n us;have h1:PL (aT (.exp 1)) (EF::RM n (cT::us)) (.ok (jV,RM n (cT::us))):=by rw[e];exact CK hu
  have h2:=CN us n [jV];refine Q8 (X:=EF::RM n (cT::us)) rfl (by decide) ?_
  have e2:[jV]++List.replicate n jV=List.replicate (n+1) jV:=rfl;rw[e2] at h2;unfold aT;exact .call h1 (.call h2 .ret)
theorem yh {X us:List ak} {l:List Ast} {u:ak} (hu:u=cT∨u=iX) (h:PL (aT .arg) (oT::X) (.ok (l,u::us))):PL (aT (.exp 1)) (fT::oT::X) (.ok (nd 9 1 (fA::l),u::us)):=by
 have h1 :∀x:Ast,PL (aT (.aR x)) (u::us) (.ok (x,u::us)):=fun x=>by
  rcases hu with rfl|rfl
  ·exact cY 5 _ _ _ rfl
  ·exact cY 5 _ _ _ rfl
 have h2 :∀x:Ast,PL (aT (.lvm 1 x)) (u::us) (.ok (x,u::us)):=fun x=>by
  rcases hu with rfl|rfl
  ·exact cY 5 _ _ _ rfl
  ·exact cY 5 _ _ _ rfl
 have h3:PL (aT (.aR fA)) (oT::X) (.ok (nd 9 1 (fA::l),u::us)):=by
  unfold aT;refine .look ?_;rw[ab (by decide),ab (by decide),ab (by decide),ai (by decide)]
  exact .call h (.call (h1 _) .ret)
 have h4:PL (aT .FQ) (fT::oT::X) (.ok (nd 9 1 (fA::l),u::us)):=by
  unfold aT;refine .look ?_;rw[ai (by decide)]
  exact .tok (.call h3 .ret)
 have h5:PL (aT .SG) (fT::oT::X) (.ok (nd 9 1 (fA::l),u::us)):=by
  unfold aT;refine .look ?_;rw[ab (by decide),ab (by decide),ab (by decide),ab (by decide),ab (by decide),ab (by decide),ab (by decide),ab (by decide)]
  exact .call h4 .ret
 have h6:PL (aT .una) (fT::oT::X) (.ok (nd 9 1 (fA::l),u::us)):=by
  unfold aT;refine .look ?_;rw[show lf fT=none by decide]
  exact .call h5 .ret
 unfold aT;exact .call h6 (.call (h2 _) .ret)
theorem GX :∀(c a:Nat) {u:ak} {us:List ak},u=cT∨u=iX→PL (aT (.exp 1)) (EG c a (u::us)) (.ok (mq c a,u::us))
 | 0,a,u,us,hu=>yh hu (Q9 a (u::us))
 | c+1,a,u,us,hu=>by
  have h1:=GX c a (u:=cT) (us:=u::us) (.inl rfl);refine yh hu (Q8 (t:=fT) (X:=EG c a (cT::u::us)) (ts:=(EG c a (cT::u::us)).tail) (by cases c<;>rfl) (by decide) ?_)
  have h2:PL (aT (.SF [mq c a])) (cT::u::us) (.ok ([mq c a],cT::u::us)):=cY 5 _ _ _ rfl;unfold aT;exact .call h1 (.call h2 .ret)
def tw:Ast:=Dz 19 1 0 [bx [120]] []
def lcT:Nat→List ak→List ak
 | 0,r=>r
 | n+1,r=>tt iT::vH [120]::lcT n r
def GY (l c a:Nat):List ak:=lcT l (tt ei::EG c a [iX])
def mG (l c a:Nat):Ast:=nd 18 1 (List.replicate l tw++[nd 29 1 [mq c a]])
theorem CO (n:Nat) (r:List ak) :∃u us,lcT n (tt ei::r)=u::us∧(u=tt iT∨u=tt ei):=by
 cases n with
 | zero=>exact⟨_,_,rfl,.inr rfl⟩
 | succ n=>exact⟨_,_,rfl,.inl rfl⟩
theorem CP (c a:Nat) :∀(n:Nat) (l:List Ast),PL (aT (.uT l)) (lcT n (tt ei::EG c a [iX])) (.ok (l++(List.replicate n tw++[nd 29 1 [mq c a]]),[iX]))
 | 0,l=>by
  have h1:=GX c a (u:=iX) (us:=[]) (.inr rfl);have h2:PL (aT (.SF [mq c a])) [iX] (.ok ([mq c a],[iX])):=cY 5 _ _ _ rfl;have h3:PL (aT .AZ) (EG c a [iX]) (.ok ([mq c a],[iX])):=by
   unfold aT;exact .call h1 (.call h2 .ret)
  obtain⟨ts,e⟩ :∃ts,EG c a [iX]=fT::ts:=by cases c<;>exact⟨_,rfl⟩
  have h4:PL (aT (.ret 1)) (EG c a [iX]) (.ok (nd 29 1 [mq c a],[iX])):=by
   rw[e] at h3 ⊢;unfold aT;refine .look ?_;rw[ab (by decide),ab (by decide)]
   refine .call h3 ?_;exact cY 5 _ _ _ rfl
  unfold aT;refine .look ?_;rw[ab (by decide),ai (by decide)]
  exact .tok (.call h4 .ret)
 | n+1,l=>by
  have h1:=CP c a n (l++[tw]);obtain⟨u,us,e,hu⟩:=CO n (EG c a [iX]);have h2:PL (aT .AY) (tt iT::vH [120]::lcT n (tt ei::EG c a [iX])) (.ok (tw,lcT n (tt ei::EG c a [iX]))):=by
   rw[e];rcases hu with rfl|rfl
   ·exact cY 50 _ _ _ rfl
   ·exact cY 50 _ _ _ rfl
  have e2:l++[tw]++(List.replicate n tw++[nd 29 1 [mq c a]])=l++(List.replicate (n+1) tw++[nd 29 1 [mq c a]]):=by rw[cP];rfl
  rw[e2] at h1;unfold aT;refine .look ?_;rw[ab (by decide),ab (by decide),ab (by decide)]
  exact .call h2 (.call h1 .ret)
theorem Ku (l c a:Nat):PL uU (GY l c a) (.ok (mG l c a,[iX])):=by
 have h2:=CP c a l [];rw[kM] at h2;have h1:PL (aT .blk) (GY l c a) (.ok (mG l c a,[iX])):=by
  obtain⟨u,us,e,hu⟩:=CO l (EG c a [iX]);unfold GY;rw[e] at h2 ⊢;unfold aT;have hl:u.2.1=1:=by rcases hu with rfl|rfl<;>rfl
  refine .look (.call h2 ?_);show P aT (.ret (nd 18 u.2.1 _)) _ _
  rw[hl];exact .ret
 unfold uU;refine .call h1 (.look ?_);rw[ai (by decide)]
 exact .ret
theorem EH (L:Int) (f:Nat) (l:List UInt8):o0 L f (32::l)=o0 L f l:=by
 cases f with
 | zero=>rfl
 | succ f =>
  have e:(32::l:List UInt8).dropWhile pB=l.dropWhile pB:=rfl;unfold o0;rw[e]
theorem oy {L:Int} {f:Nat} {c:UInt8} {t:List UInt8} {k m:Int} {s r:List UInt8} (hb:pB c=false) (hp:Lib.hasPrefix (c::t) [45,45]=false) (h:VK (c::t)=some (k,m,s,r)):o0 L (f+1) (c::t)=(o0 L f r).map ((k,L-nl (c::t),m,s) :: ·):=by
 have e:(c::t).dropWhile pB=c::t:=by rw[List.dropWhile_cons,hb];rfl
 rw[o0,e,ab (by rw[hp];decide)]
 dsimp only
 rw[h]
end Go.Proofs.YtodmcdfeldkocaaGreatDoor
namespace Go.Proofs.YtodmcdfeldkocaaGreatDoor
section
variable (x:Ast) (l:List Ast)
theorem Ra (hx:Ast.ok bS lI eL x=true) (hl:Ast.CU bS lI eL l=true) :∀n,Ast.CU bS lI eL (List.replicate n x++l)=true
 | 0=>hl
 | n+1=>by rw[sr,dT,Ast.CU,Ra hx hl n,hx];rfl
theorem Rb (hx:Cg x) (hl:vm l) :∀n,vm (List.replicate n x++l)
 | 0=>hl
 | n+1=>by rw[sr,dT,vm];exact⟨hx,Rb hx hl n⟩
theorem zw :∀n,Ast.al (List.replicate n x++l)=n*x.size+Ast.al l
 | 0=>by rw[zO,kM,zX,gi]
 | n+1=>by rw[sr,dT,Ast.al,zw n,wK];omega
theorem Rc :∀n,Ast.ey (List.replicate n x++l)=n*x.wt+Ast.ey l
 | 0=>by rw[zO,kM,zX,gi]
 | n+1=>by rw[sr,dT,Ast.ey,Rc n,wK];omega
theorem vI :∀n,Ast.dW (List.replicate n x++l)≤max x.depth (Ast.dW l)
 | 0=>by rw[zO,kM];omega
 | n+1=>by rw[sr,dT,Ast.dW];have:=vI n;omega
theorem zx :∀n,(gQ (List.replicate n x++l)).map (·.2)=List.replicate n (gy x)++(gQ l).map (·.2)
 | 0=>rfl
 | n+1=>by rw[sr,dT,gQ,dV,zx n];rfl
theorem Re :∀n,Ast.EC (List.replicate n x++l)=List.replicate n x.lt++Ast.EC l
 | 0=>rfl
 | n+1=>by rw[sr,dT,Ast.EC,Re n];rfl
end
theorem yi :∀(n h:Nat),dA h (List.replicate (n+1) 1)=h+n+1
 | 0,h=>by show max (h+1) 0=_;omega
 | n+1,h=>by
  have:=yi n (h+1);show max (h+1) (dA (h+1) (List.replicate (n+1) 1))=_
  omega
theorem vJ (m:Nat) :∀n,eR (List.replicate n 0++[m])=m
 | 0=>by show max m 0=m;omega
 | n+1=>by show max 0 (eR (List.replicate n 0++[m]))=m;rw[vJ m n];omega
structure Bx (a:Ast) (sz d n:Nat):Prop where
 ok:Ast.ok bS lI eL a=true
 kind:a.hd.kind=9
 sm:Cg a
 size:a.size≤sz
 wt:a.wt=0
 depth:a.depth≤d
 need:gy a=n
theorem VP :∀n,n<256→lI 9 0 (eL 7::List.replicate n (eL 4))=true:=by decide +kernel
theorem VQ :∀n,n<201→lI 18 0 (List.replicate n (eL 19)++[eL 29])=true:=by decide +kernel
theorem CQ (n:Nat) (x:Ast):List.replicate n x=List.replicate n x++[]:=by rw[gh]
theorem Xz :∀(c a:Nat),a<256→Bx (mq c a) (2*c+a+2) (c+3) (c+a+1)
 | 0,a,ha=>by
  have k:=VP a ha;unfold mq nd;rw[CQ a jV];refine⟨?_,rfl,?_,?_,?_,?_,?_⟩
  ·rw[Ast.ok,Ast.CU,Ra _ _ (by decide +kernel) rfl,dV,gh,List.map_replicate]
   have e:eL jV.hd.kind=eL 4:=rfl;have e2:eL fA.hd.kind=eL 7:=rfl;rw[e,e2];show(_ && lI 9 0 _ && _)=true
   rw[k];decide +kernel
  ·rw[Cg,vm]
   exact⟨by simp[Gy];decide +kernel,by simp[fA,mS,Cg,vm,Gy,bx];decide +kernel,Rb _ _ (by simp[jV,AX,Cg,vm,Gy];decide +kernel) Uo a⟩
  ·rw[Ast.size,Ast.al,zw]
   have h1:jV.size=1:=rfl;have h2:fA.size=1:=rfl;have h3:Ast.al []=0:=rfl;rw[h1,h2,h3];omega
  ·rw[Ast.wt,Ast.ey,Rc]
   have h1:jV.wt=0:=rfl;rw[h1,Nat.mul_zero];rfl
  ·rw[Ast.depth,Ast.dW]
   have h1:=vI jV [] a;have h2:jV.depth=1:=rfl;have h3:fA.depth=1:=rfl;have h4:Ast.dW []=0:=rfl;omega
  ·rw[gy,gQ]
   have e:gp ⟨9,1,0,0,⟨#[]⟩,[],[]⟩ ((fA.hd.kind,gy fA)::gQ (List.replicate a jV++[]))=dA 0 (((fA.hd.kind,gy fA)::gQ (List.replicate a jV++[])).map (·.2)):=rfl
   rw[e,dV,zx];have h1:gy jV=1:=rfl;have h2:gy fA=1:=rfl;rw[h1,h2];have h3:(1:Nat)::(List.replicate a 1++(gQ []).map (·.2))=List.replicate (a+1) 1:=by
    show 1::(List.replicate a 1++[])=_
    rw[gh];rfl
   show dA 0 (1::(List.replicate a 1++(gQ []).map (·.2)))=_
   rw[h3,yi]
 | c+1,a,ha=>by
  have h:=Xz c a ha;have hf:Ast.ok bS lI eL fA=true:=by decide +kernel
  unfold mq nd;generalize mq c a=X at h ⊢;refine⟨?_,rfl,?_,?_,?_,?_,?_⟩
  ·rw[Ast.ok,Ast.CU,Ast.CU,Ast.CU,h.ok,hf]
   show(_ && lI 9 0 [eL fA.hd.kind,eL X.hd.kind] && _)=true
   rw[h.kind];decide +kernel
  ·rw[Cg,vm,vm,vm]
   exact⟨by simp[Gy];decide +kernel,by simp[fA,mS,Cg,vm,Gy,bx];decide +kernel,h.sm,trivial⟩
  ·rw[Ast.size,Ast.al,Ast.al,Ast.al]
   have h1:=h.size;have h2:fA.size=1:=rfl;omega
  ·rw[Ast.wt,Ast.ey,Ast.ey,Ast.ey,h.wt]
   rfl
  ·rw[Ast.depth,Ast.dW,Ast.dW,Ast.dW]
   have h1:=h.depth;have h2:fA.depth=1:=rfl;omega
  ·have h1:gy fA=1:=rfl
   show dA 0 [gy fA,gy X]=_
   rw[h.need,h1];show max (0+1) (max (0+1+(c+a+1)) 0)=_
   omega
theorem Rf {l c a:Nat} (hl:l≤200) (hc:c<40) (ha:a<256):CH (mG l c a)∧(mG l c a).depth≤100∧gy (mG l c a)=c+a+1:=by
 have h:=Xz c a ha;have k:=VQ l (by omega)
 have hr:Ast.ok bS lI eL (nd 29 1 [mq c a])=true:=by
  unfold nd;rw[Ast.ok,Ast.CU,Ast.CU,h.ok];show(_ && lI 29 0 [eL (mq c a).hd.kind] && _)=true
  rw[h.kind];decide +kernel
 have hrn:gy (nd 29 1 [mq c a])=c+a+1:=by
  show dA 0 [gy (mq c a)]=_
  rw[h.need];show max (0+(c+a+1)) 0=_
  omega
 refine⟨⟨?_,rfl,?_,?_,?_⟩,?_,?_⟩
 ·unfold mG
  rw[show nd 18 1 (List.replicate l tw++[nd 29 1 [mq c a]])=.mk ⟨18,1,0,0,⟨#[]⟩,[],[]⟩ (List.replicate l tw++[nd 29 1 [mq c a]]) from rfl,Ast.ok,Ra _ _ (by decide +kernel) (by rw[Ast.CU,Ast.CU,hr];rfl),kN,List.map_replicate]
  show(_ && lI 18 0 (List.replicate l (eL 19)++[eL 29]) && _)=true
  rw[k];decide +kernel
 ·unfold mG nd
  rw[Cg];refine⟨by simp[Gy];decide +kernel,Rb _ _ (by simp[tw,Dz,Cg,vm,Gy,bx];decide +kernel) ?_ l⟩
  rw[vm,vm,Cg,vm,vm];exact⟨⟨by simp[Gy];decide +kernel,h.sm,trivial⟩,trivial⟩
 ·unfold mG
  rw[kl,zw,Ast.al,Ast.al,kl,Ast.al,Ast.al];have h1:tw.size=1:=rfl;have h2:=h.size;rw[h1];omega
 ·unfold mG
  rw[QQ,Rc,Ast.ey,Ast.ey,QQ,Ast.ey,Ast.ey,h.wt];have h1:tw.wt=1:=rfl;rw[h1];omega
 ·unfold mG nd
  rw[Ast.depth];have h1:=vI tw [Ast.mk ⟨29,1,0,0,⟨#[]⟩,[],[]⟩ [mq c a]] l;rw[Ast.dW,Ast.dW,Ast.depth,Ast.dW,Ast.dW] at h1;have h2:tw.depth=1:=rfl;have h3:=h.depth;omega
 ·show eR ((gQ (List.replicate l tw++[nd 29 1 [mq c a]])).map (·.2))=_
  rw[zx];have h1:gy tw=0:=rfl;rw[h1];show eR (List.replicate l 0++[gy (nd 29 1 [mq c a])])=_
  rw[hrn,vJ]
end Go.Proofs.YtodmcdfeldkocaaGreatDoor
namespace Go.Proofs.YtodmcdfeldkocaaGreatDoor
def EI:Nat→List UInt8→List UInt8
 | 0,r=>r
 | n+1,r=>44::49::EI n r
def jg:Nat→List UInt8→List UInt8
 | 0,r=>r
 | n+1,r=>49::EI n r
def EJ:Nat→List UInt8→List UInt8
 | 0,r=>r
 | n+1,r=>102::40::EJ n r
def Kv:Nat→Nat→List UInt8→List UInt8
 | 0,a,r=>102::40::jg a (41::r)
 | c+1,a,r=>102::40::Kv c a (41::r)
def loB:List UInt8:=[108,111,99,97,108,32,120,32]
def RN:List UInt8:=[114,101,116,117,114,110,32]
def iv:Nat→List UInt8→List UInt8
 | 0,r=>r
 | n+1,r=>loB++iv n r
def GZ (l c a:Nat):List UInt8:=iv l (RN++Kv c a [])
theorem kG {c:UInt8} (l:List UInt8) (h:nl [c]=0):nl (c::l)=nl l:=by
 have:=nD [c] l;rw[h,gi] at this;exact this
theorem Rg :∀n r,nl (EI n r)=nl r
 | 0,r=>rfl
 | n+1,r=>by rw[EI,kG _ rfl,kG _ rfl,Rg n r]
theorem G8 (n:Nat) (r:List UInt8):nl (jg n r)=nl r:=by
 cases n with
 | zero=>rfl
 | succ n=>rw[jg,kG _ rfl,Rg]
theorem G9 :∀c a r,nl (Kv c a r)=nl r
 | 0,a,r=>by rw[Kv,kG _ rfl,kG _ rfl,G8,kG _ rfl]
 | c+1,a,r=>by rw[Kv,kG _ rfl,kG _ rfl,G9 c a,kG _ rfl]
theorem Rh :∀n r,nl (iv n r)=nl r
 | 0,r=>rfl
 | n+1,r=>by
  rw[iv,nD,Rh n r];show 0+_=_
  omega
theorem Ha {L:Int} :∀(n m:Nat) (l:List UInt8) (ts:List ak),o0 L n l=some ts→n≤m→o0 L m l=some ts
 | 0,m,l,ts,h,_=>by cases h
 | n+1,0,l,ts,h,hm=>by omega
 | n+1,m+1,l,ts,h,hm=>by
  unfold o0 at h ⊢;split
  ·rename_i hp;rw[ai hp] at h;cases h
  ·rename_i hp
   rw[ab hp] at h;revert h
   cases l.dropWhile pB with
   | nil=>exact id
   | cons c t =>
    dsimp only
    cases VK (c::t) with
    | none=>exact id
    | some z =>
     intro h;obtain⟨x,h1,h2⟩:=EO.1 h;exact EO.2 ⟨x,Ha n m _ _ h1 (by omega),h2⟩
theorem aaG {c:UInt8} (hc:c=40∨c=41∨c=44) (l:List UInt8):sign (c::l)=some ([c],l):=by
 rcases hc with rfl|rfl|rfl;all_goals match l with
  | []=>rfl
  | [x]=>rfl
  | x::y::l=>rfl
theorem acw {c:UInt8} (hc:c=40∨c=41∨c=44) (l:List UInt8):VK (c::l)=some (5,0,[c],l)∧pB c=false∧Lib.hasPrefix (c::l) [45,45]=false∧nl [c]=0:=by
 have h:=aaG hc l;rcases hc with rfl|rfl|rfl;all_goals
  refine⟨?_,by decide,rfl,rfl⟩
  unfold VK;dsimp only
  rw[ab (by decide),ab (by decide),ab (by decide),ab (by exact Nat.lt_irrefl 0),h]
  rfl
theorem Hb {c:UInt8} {f:Nat} {l:List UInt8} {ts:List ak} (hc:c=40∨c=41∨c=44) (hn:nl l=0) (h:o0 1 f l=some ts):o0 1 (f+1) (c::l)=some (mF [c]::ts):=by
 obtain⟨h1,h2,h3,h4⟩:=acw hc l;rw[oy h2 h3 h1,h,kG _ h4,hn];rfl
theorem acx {f:Nat} {l:List UInt8} {ts:List ak} (hn:nl l=0) (h:o0 1 f l=some ts):o0 1 (f+2) (102::40::l)=some (fT::oT::ts):=by
 have h1:=Hb (c:=40) (.inl rfl) hn h;rw[oy (k:=1) (m:=0) (s:=[102]) (r:=40::l) (by decide) (by rfl) (by rfl),h1,kG _ rfl,kG _ rfl,hn]
 rfl
theorem aee {c:UInt8} (hc:c=41∨c=44) (l:List UInt8):VK (49::c::l)=some (3,1,[],c::l)∧Lib.hasPrefix (49::c::l) [45,45]=false∧nl [c]=0:=by
 have e1:(49::c::l).takeWhile oD=[49]∧(49::c::l).dropWhile oD=c::l:=by rcases hc with rfl|rfl<;>exact⟨rfl,rfl⟩
 refine⟨?_,rfl,by rcases hc with rfl|rfl<;>rfl⟩
 unfold VK;dsimp only
 rw[ab (by decide),ai (by decide),e1.1,e1.2,ai (by decide +kernel),show yQ (tn 9223372036854775807 [49]:Int)=1 by decide +kernel]
theorem acy {c:UInt8} {f:Nat} {l:List UInt8} {ts:List ak} (hc:c=41∨c=44) (hn:nl l=0) (h:o0 1 f (c::l)=some ts):o0 1 (f+1) (49::c::l)=some (EF::ts):=by
 obtain⟨h1,h2,h3⟩:=aee hc l;rw[oy (by decide) h2 h1,h,kG _ rfl,kG _ h3,hn]
 rfl
theorem CR (n:Nat) (r:List UInt8) (hr:nl r=0) :∃c l,EI n (41::r)=c::l∧(c=41∨c=44)∧nl l=0:=by
 cases n with
 | zero=>exact⟨_,_,rfl,.inl rfl,hr⟩
 | succ n=>exact⟨_,_,rfl,.inr rfl,by rw[kG _ rfl,Rg,kG _ rfl,hr]⟩
theorem XA {f:Nat} {r:List UInt8} {ts:List ak} (hr:nl r=0) (h:o0 1 f (41::r)=some (cT::ts)) :∀n,o0 1 (f+2*n) (EI n (41::r))=some (RM n (cT::ts))
 | 0=>h
 | n+1=>by
  have h1:=XA hr h n;obtain⟨c,l,e,hc,hl⟩:=CR n r hr;rw[e] at h1;have h2:=Hb (c:=44) (.inr (.inr rfl)) (by rw[kG _ rfl,kG _ (by rcases hc with rfl|rfl<;>rfl),hl]) (acy hc hl h1)
  rw[EI,e];exact h2
theorem VR {f:Nat} {r:List UInt8} {ts:List ak} (hr:nl r=0) (h:o0 1 f (41::r)=some (cT::ts)) (n:Nat):o0 1 (f+2*n) (jg n (41::r))=some (Q7 n (cT::ts)):=by
 cases n with
 | zero=>exact h
 | succ n =>
  have h1:=XA hr h n;obtain⟨c,l,e,hc,hl⟩:=CR n r hr;rw[e] at h1;have h2:=acy hc hl h1;rw[jg,e];exact Ha _ _ _ _ h2 (by omega)
theorem XB {f:Nat} :∀(c a:Nat) {r:List UInt8} {ts:List ak},nl r=0→o0 1 f r=some ts→o0 1 (f+3*c+2*a+3) (Kv c a r)=some (EG c a ts)
 | 0,a,r,ts,hr,h=>by
  have h1:=VR hr (Hb (c:=41) (.inr (.inl rfl)) hr h) a;have h2:=acx (by rw[G8,kG _ rfl,hr]) h1
  exact Ha _ _ _ _ h2 (by omega)
 | c+1,a,r,ts,hr,h=>by
  have h0:=Hb (c:=41) (.inr (.inl rfl)) hr h;have h1:=XB c a (r:=41::r) (by rw[kG _ rfl,hr]) h0
  have h2:=acx (by rw[G9,kG _ rfl,hr]) h1
  exact Ha _ _ _ _ h2 (by omega)
theorem XC {f:Nat} {l:List UInt8} {ts:List ak} (hn:nl l=0) (h:o0 1 f l=some ts) :∀n,o0 1 (f+2*n) (iv n l)=some (lcT n ts)
 | 0=>h
 | n+1=>by
  have h1:=XC hn h n;have xc:nl (iv n l)=0:=by rw[Rh,hn]
  have n1:nl (108::([111,99,97,108,32,120,32]++iv n l))=0:=by
   show nl (loB++iv n l)=0
   rw[nD,xc];rfl
  have n2:nl (120::32::iv n l)=0:=by
   show nl ([120,32]++iv n l)=0
   rw[nD,xc];rfl
  show o0 1 (f+2*n+1+1) (108::([111,99,97,108,32,120,32]++iv n l))=_
  rw[oy (k:=2) (m:=0) (s:=iT) (r:=32::120::32::iv n l) (by decide) (by rfl) (by rfl),EH,oy (k:=1) (m:=0) (s:=[120]) (r:=32::iv n l) (by decide) (by rfl) (by rfl),EH,h1,n1,n2]
  rfl
theorem Ri {s:ByteArray} {l c a:Nat} (hs:s.data.toList=GZ l c a):l9 (dD s) s.data.toList (.ok (GY l c a)):=by
 have e2:dD s=1:=by
  unfold dD;rw[hs];unfold GZ;rw[Rh,nD,G9];rfl
 have h1:=XB c a (f:=1) (r:=[]) (ts:=[iX]) rfl (by rfl)
 have n1:nl (114::([101,116,117,114,110,32]++Kv c a []))=0:=by
  show nl (RN++Kv c a [])=0
  rw[nD,G9];rfl
 have h2:o0 1 (1+3*c+2*a+3+1) (RN++Kv c a [])=some (tt ei::EG c a [iX]):=by
  show o0 1 (1+3*c+2*a+3+1) (114::([101,116,117,114,110,32]++Kv c a []))=_
  rw[oy (k:=2) (m:=0) (s:=ei) (r:=32::Kv c a []) (by decide) (by rfl) (by rfl),EH,h1,n1]
  rfl
 rw[e2,hs];exact ow _ _ _ (XC n1 h2 l)
structure VS (k:Nat) (st:aI):Prop where
 one:st.fns.length=1
 vars:(st.fn 0).vars.length=k
 names :∀n∈st.names,n.s=bx [120]
def CS (k:Nat) (t:Lt):Prop:=∀st,VS k st→∃st',aY t 0 st=.ok st'∧VS k st'
theorem keeps {k:Nat} :∀{ks:List Lt},(∀t∈ks,CS k t)→∀st,VS k st→∃st',aE ks 0 st=.ok st'∧VS k st'
 | [],_,st,h=>⟨st,eB _ _,h⟩
 | t::ks,hk,st,h=>by
  obtain⟨s1,e1,h1⟩:=hk t (bP ..) st h;obtain⟨s2,e2,h2⟩:=keeps (fun x hx=>hk x (bO _ hx)) s1 h1
  exact⟨s2,by rw[eU,e1];exact e2,h2⟩
theorem keep_other {k i:Nat} {h:Nd} {ks:List Lt} (hk:h.kind=4∨h.kind=9∨h.kind=29) (hs :∀t∈ks,CS k t):CS k (.mk i h ks):=fun st hst=>by
 rw[De _ _ _ _ _ (by omega)]
 exact keeps hs _ ⟨hst.one,hst.vars,hst.names⟩
theorem Rj {k:Nat}:CS k fA.lt:=fun st hst=>by
 have e:fA.lt=.mk 0 ⟨7,1,0,0,bx [102],[],[]⟩ []:=rfl;rw[e,XS _ _ _ _ _ rfl];unfold lL;have h1:(st.setOf 0 0).names.find? (fun n=>decide (n.s=bx [102]))=none:=by
  rw[zP];intro n hn;rw[hst.names n hn];decide +kernel
 rw[h1];exact⟨_,rfl,hst.one,hst.vars,hst.names⟩
theorem Hc {k:Nat} :∀c a,CS k (mq c a).lt
 | 0,a=>by
  have e:(mq 0 a).lt=.mk 0 ⟨9,1,0,0,⟨#[]⟩,[],[]⟩ (fA.lt::Ast.EC (List.replicate a jV)):=rfl;rw[e,CQ a jV,Re];refine keep_other (.inr (.inl rfl)) fun t ht=>?_
  rcases bc.1 ht with rfl|ht
  ·exact Rj
  ·rw[show Ast.EC []=[] from rfl,gh] at ht
   rw[List.eq_of_mem_replicate ht];exact keep_other (.inl rfl) fun t ht=>by cases ht
 | c+1,a=>by
  have e:(mq (c+1) a).lt=.mk 0 ⟨9,1,0,0,⟨#[]⟩,[],[]⟩ [fA.lt,(mq c a).lt]:=rfl;rw[e];refine keep_other (.inr (.inl rfl)) fun t ht=>?_
  rcases bc.1 ht with rfl|ht
  ·exact Rj
  ·rw[bK] at ht
   subst ht;exact Hc c a
theorem VU {k:Nat} {st:aI} (h:VS k st) (hk:k<200) :∃st',aY tw.lt 0 st=.ok st'∧VS (k+1) st':=by
 have e:tw.lt=.mk 0 ⟨19,1,0,0,⟨#[]⟩,[bx [120]],[]⟩ []:=rfl;rw[e,aaF];unfold bu dO dO;have e1:(((st.setOf 0 0).dt 0 (2,(((st.setOf 0 0).fn 0).vars.length:Int))).fn 0)=st.fn 0:=rfl;rw[e1,ab (by rw[h.vars];omega)]
 refine⟨_,rfl,?_,?_,?_⟩
 ·show(st.fns.set 0 _).length=1
  rw[kL,h.one]
 ·have hl:=h.one
  show(((st.fns.set 0 { st.fn 0 with vars:=(st.fn 0).vars++[⟨bx [120],0,false⟩]}).getD 0 ⟨0,0,0,false,[],[]⟩).vars).length=k+1
  rw[jZ,dS (by omega)]
  show((st.fn 0).vars++[_]).length=_
  rw[bY,h.vars];rfl
 ·intro n hn
  rcases bc.1 hn with rfl|hn
  ·rfl
  ·exact h.names n hn
theorem Hd (c a:Nat) :∀(n k m:Nat) (st:aI),VS k st→k+n≤200→∃st',cL (List.replicate n tw.lt++[(nd 29 1 [mq c a]).lt]) m 0 st=.ok st'∧VS (k+n) st'
 | 0,k,m,st,h,_=>by
  have e:(nd 29 1 [mq c a]).lt=.mk 0 ⟨29,1,0,0,⟨#[]⟩,[],[]⟩ [(mq c a).lt]:=rfl;obtain⟨s1,e1,h1⟩:=keep_other (k:=k) (i:=0) (h:=⟨29,1,0,0,⟨#[]⟩,[],[]⟩) (ks:=[(mq c a).lt]) (.inr (.inr rfl)) (fun t ht=>by rw[bK] at ht;subst ht;exact Hc c a) (st.at m) ⟨h.one,h.vars,h.names⟩
  rw[zO,kM,fW,e,e1];exact⟨s1,ry (m+1) 0 s1,h1⟩
 | n+1,k,m,st,h,hk=>by
  obtain⟨s1,e1,h1⟩:=VU (st:=st.at m) (k:=k) ⟨h.one,h.vars,h.names⟩ (by omega)
  obtain⟨s2,e2,h2⟩:=Hd c a n (k+1) (m+1) s1 h1 (by omega)
  rw[sr,dT,fW,e1];exact⟨s2,e2,by rw[show k+(n+1)=k+1+n by omega];exact h2⟩
theorem EK {l:Nat} (c a:Nat) (hl:l≤200) :∃st,pd (mG l c a).lt=.ok st∧st.fns.length=1∧∀x,st.fns[0]? = some x→x.vars.length=l:=by
 have e:(mG l c a).lt=.mk 0 ⟨18,1,0,0,⟨#[]⟩,[],[]⟩ (List.replicate l tw.lt++[(nd 29 1 [mq c a]).lt]):=by
  have:=Re tw [nd 29 1 [mq c a]] l;show Lt.mk 0 _ (Ast.EC _)=_
  rw[this];rfl
 have h0:VS 0 ((fF 0).setOf 0 0):=⟨rfl,rfl,fun n hn=>by cases hn⟩
 have aef:b9 ((fF 0).setOf 0 0).frames 0 (List.replicate l tw.lt++[(nd 29 1 [mq c a]).lt]) 0 (List.replicate l tw.lt++[(nd 29 1 [mq c a]).lt])=none:=sU _ _ fun k hk=>by
  rcases dd.1 hk with hk|hk
  ·rw[List.eq_of_mem_replicate hk];exact(by decide:(19:Int)≠32)
  ·rw[bK] at hk;subst hk;exact(by decide:(29:Int)≠32)
 obtain⟨s,e1,h1⟩:=Hd c a l 0 0 { (fF 0).setOf 0 0 with frames:=⟨0,0,0,false,false,List.replicate l tw.lt++[(nd 29 1 [mq c a]).lt]⟩::((fF 0).setOf 0 0).frames} ⟨h0.one,h0.vars,h0.names⟩ (by omega)
 rw[e];unfold pd;rw[show(Lt.mk 0 ⟨18,1,0,0,⟨#[]⟩,[],[]⟩ (List.replicate l tw.lt++[(nd 29 1 [mq c a]).lt])).loc=0 from rfl,RV _ _ _ _ _ rfl]
 unfold gY;rw[aef];show∃st,(Except.map _ (cL _ 0 0 _):Rs aI)=.ok st∧_
 rw[e1];refine⟨_,rfl,h1.one,fun x hx=>?_⟩
 have h2:=h1.vars;have hx:s.fns[0]? = some x:=hx;unfold aI.fn at h2;rw[jZ,hx] at h2;rw[gi] at h2;exact h2
open Go.RowKit
theorem EL :∀(n:Nat) (t:List UInt8),iv n []++t=iv n t
 | 0,t=>rfl
 | n+1,t=>by rw[iv,cP,EL n t];rfl
theorem VV (n:Nat):iv n []++loB=iv (n+1) []:=by
 rw[EL];induction n with
 | zero=>rfl
 | succ n ih=>rw[iv,ih];rfl
theorem vK :∀(n:Nat) (t:List UInt8),EJ n []++t=EJ n t
 | 0,t=>rfl
 | n+1,t=>by rw[EJ,dT,dT,vK n t];rfl
theorem He (n:Nat) (t:List UInt8):EJ n (102::40::t)=EJ (n+1) t:=by
 induction n with
 | zero=>rfl
 | succ n ih=>rw[EJ,ih];rfl
theorem Rk :∀(n:Nat) (t:List UInt8),EI n []++t=EI n t
 | 0,t=>rfl
 | n+1,t=>by rw[EI,dT,dT,Rk n t];rfl
theorem VW (n:Nat) (t:List UInt8):EI n (44::49::t)=EI (n+1) t:=by
 induction n with
 | zero=>rfl
 | succ n ih=>rw[EI,ih];rfl
theorem qY (n:Nat) (t:List UInt8):jg n []++t=jg n t:=by
 cases n with
 | zero=>rfl
 | succ n=>rw[jg,dT,Rk];rfl
theorem tU (n:Nat) (s t:List UInt8):EJ n s++t=EJ n (s++t):=by rw[←vK n s,cP,vK]
theorem Kw (n:Nat) (s t:List UInt8):jg n s++t=jg n (s++t):=by rw[←qY n s,cP,qY]
theorem Kx {n:Nat} (hn:n≠0):jg n []++([44]++[49])=jg (n+1) []:=by
 cases n with
 | zero=>exact absurd rfl hn
 | succ n =>
  rw[qY];show 49::EI n [44,49]=49::EI (n+1) []
  rw[VW]
theorem XD :∀(c a:Nat) (r:List UInt8),Kv c a r=EJ (c+1) (jg a (List.replicate (c+1) 41++r))
 | 0,a,r=>rfl
 | c+1,a,r=>by
  rw[Kv,XD c a (41::r)];have e:List.replicate (c+1) (41:UInt8)++41::r=List.replicate (c+1+1) 41++r:=by
   rw[List.replicate_succ' (n:=c+1),cP];rfl
  rw[e];rfl
theorem ju (a b:ByteArray):(a++b).data.toList=a.data.toList++b.data.toList:=by rw[ByteArray.data_append];simp
theorem VX (s:ByteArray) (l c a:Nat) (w:World) (hl:l≤200) (hc:c<40) (ha:a<256) (hs:s.data.toList=GZ l c a) (hz:s.size≤4000) (hE:qW w):Calls Tryz.prog 12 #[.string s] w (OfN (l+(c+a+1)) w):=by
 obtain⟨h1,h2,h3⟩:=Rf hl hc ha;obtain⟨st,h4,h5,h6⟩:=EK c a hl;exact aaE (Ri hs) (Ku l c a) h1 h2 st h4 h5 _ (fun x hx=>by rw[h6 x hx,h3]) w hz hE
theorem Ky (calls args locals:Int) (w:World) (c0:0≤calls) (c1:calls≤255) (a0:0≤args) (a1:args≤255) (l0:0≤locals) (l1:locals≤255) (hE:qW w):Calls Tryz.prog 5 #[.int .u8 calls,.int .u8 args,.int .u8 locals] w fun e w'=>e=.returned (.bool true)∧Below w.heap.size w w':=by
 have A1:=aa (VN w hE);have HE:=aa hE;obtain⟨C,hC,hCl⟩ :∃C:Nat,calls % 40=(C:Int)∧C<40:=⟨(calls % 40).toNat,by omega,by omega⟩
 obtain⟨L,hL,sE⟩ :∃L:Nat,locals % 201=(L:Int)∧L≤200:=⟨(locals % 201).toNat,by omega,by omega⟩
 obtain⟨a,rfl⟩ :∃a:Nat,args=(a:Int):=⟨args.toNat,by omega⟩
 have ha:a<256:=by omega
 clear hE;go_enter Tryz.func5,Tryz.ntmps5
 go_wp2_with fail
 refine A1.out.mono ?_;rintro e w1 ⟨rfl,b1⟩;have B1:=aa b1;clear b1;go_wp2_with fail
 rw[hL];have s8:(⟨#[108,111,99,97,108,32,120,32]⟩:ByteArray).size=8:=rfl;have s7:(⟨#[114,101,116,117,114,110,32]⟩:ByteArray).size=7:=rfl;have s2:(⟨#[102,40]⟩:ByteArray).size=2:=rfl;have s1:(⟨#[44]⟩:ByteArray).size=1:=rfl;have s1':(⟨#[49]⟩:ByteArray).size=1:=rfl;have acz:(⟨#[41]⟩:ByteArray).size=1:=rfl;clear hC hL c0 c1 a0 a1 l0 l1;go_loopw [10,26] (fun s i wr=>∃(k:Nat) (X:ByteArray),k≤L∧s=.string X∧i=.int .i64 (k:Int)∧X.data.toList=iv k []∧X.size=8*k∧wr=w1) (fun _ i _=>L-(intOf i).toNat)
 case atStart=>exact⟨0,⟨#[]⟩,bo _,rfl,rfl,rfl,rfl,rfl⟩
 case round =>
  obtain⟨k,X,hk,rfl,rfl,hX,hz,rfl⟩:=hrel;have HX:=aa hX;clear hX;by_cases hlt:k<L
  ·go_wp2_with fail
   exact⟨⟨k+1,_,by omega,rfl,by go_num,by rw[ju,HX.out];exact VV k,by rw[pS,hz,s8];omega,trivial⟩,by simp[intOf];omega⟩
  ·obtain rfl:k=L:=by omega
   go_wp2_with fail
   go_loopw [10,34] (fun s i wq=>∃(j:Nat) (Y:ByteArray),j≤C∧s=.string Y∧i=.int .i64 (j:Int)∧Y.data.toList=iv k []++(RN++EJ j [])∧Y.size=8*k+7+2*j∧wq=wr) (fun _ i _=>C-(intOf i).toNat)
   case atStart=>exact⟨0,_,bo _,rfl,rfl,by rw[ju,HX.out];rfl,by rw[pS,hz,s7],rfl⟩
   case round =>
    obtain⟨j,Y,hj,rfl,rfl,hY,hzY,rfl⟩:=hrel;have HY:=aa hY;clear hY;by_cases hlt:j<C
    ·go_wp2_with fail
     exact⟨⟨j+1,_,by omega,rfl,by go_num,by rw[ju,HY.out,cP,cP,vK];exact aw (fun z=>iv k []++(RN++z)) (He j []),by rw[pS,hzY,s2];omega,trivial⟩,by simp[intOf];omega⟩
    ·obtain rfl:j=C:=by omega
     go_wp2_with fail
     go_loopw [10,42] (fun s i wq=>∃(n:Nat) (Z:ByteArray),n≤a∧s=.string Z∧i=.int .i64 (n:Int)∧Z.data.toList=iv k []++(RN++EJ (j+1) (jg n []))∧Z.size≤8*k+9+2*j+2*n∧wq=wr) (fun _ i _=>a-(intOf i).toNat)
     case atStart=>exact⟨0,_,bo _,rfl,rfl,by rw[ju,HY.out,cP,cP,vK];exact aw (fun z=>iv k []++(RN++z)) (He j []),by rw[pS,hzY,s2];omega,rfl⟩
     case round =>
      obtain⟨n,Z,hn,rfl,rfl,hZ,hzZ,rfl⟩:=hrel;have HZ:=aa hZ;clear hZ;by_cases hlt:n<a
      ·by_cases hn0:n=0
       ·subst hn0
        go_wp2_with fail
        exact⟨⟨1,_,by omega,rfl,rfl,by rw[ju,HZ.out,cP,cP,tU];rfl,by rw[pS,s1'];omega,trivial⟩,by simp[intOf];omega⟩
       ·have hp:0<n:=by omega
        go_wp2_with fail
        exact⟨⟨n+1,_,by omega,rfl,by go_num,by rw[ju,ju,HZ.out,cP,cP,cP,tU];exact aw (fun z=>iv k []++(RN++EJ (j+1) z)) (Kx hn0),by rw[pS,pS,s1,s1'];omega,trivial⟩,by simp[intOf];omega⟩
      ·obtain rfl:n=a:=by omega
       go_wp2_with fail
       go_loopw [10,55] (fun s i wq=>∃(m:Nat) (V:ByteArray),m≤j∧s=.string V∧i=.int .i64 (m:Int)∧V.data.toList=iv k []++(RN++EJ (j+1) (jg n (List.replicate (m+1) 41)))∧V.size≤8*k+10+2*j+2*n+m∧wq=wr) (fun _ i _=>j-(intOf i).toNat)
       case atStart=>exact⟨0,_,bo _,rfl,rfl,by rw[ju,HZ.out,cP,cP,tU,qY];rfl,by rw[pS,acz];omega,rfl⟩
       case round =>
        obtain⟨m,V,hm,rfl,rfl,hV,hzV,rfl⟩:=hrel;have HV:=aa hV;clear hV;by_cases hlt:m<j
        ·go_wp2_with fail
         exact⟨⟨m+1,_,by omega,rfl,by go_num,by rw[ju,HV.out,cP,cP,tU,Kw];exact aw (fun z=>iv k []++(RN++EJ (j+1) (jg n z))) (List.replicate_succ' (n:=m+1)).symm,by rw[pS,acz];omega,trivial⟩,by simp[intOf];omega⟩
        ·obtain rfl:m=j:=by omega
         have HO:=aa (VX V k m n wr sE hCl ha (by rw[HV.out,EL];unfold GZ;rw[XD,gh]) (by omega) (HE.out.below B1.out))
         have aaH:(k:Int)+(m:Int)+1+(n:Int)=((k+(m+n+1):Nat):Int):=by omega
         clear hm hzV hzZ hzY hz HV HZ HY HX;go_wp2_with fail
         refine HO.out.mono ?_;rintro e w2 ⟨b2,h⟩;have B2:=aa (B1.out.trans (b2.mono B1.out.size));clear b2;rcases h with ⟨hle,g,rfl,hc0⟩ | ⟨yM,rfl⟩
         ·rw[←aaH] at hc0
          clear aaH;have g1:((250:Int)<(k:Int)+(m:Int)+1+(n:Int))=False:=ew (by omega)
          go_wp2_with fail
          go_ret
          exact⟨rfl,B2.out⟩
         ·clear aaH
          have g1:((250:Int)<(k:Int)+(m:Int)+1+(n:Int))=True:=eq_true (by omega)
          go_wp2_with fail
          go_ret
          exact⟨rfl,B2.out⟩
end Go.Proofs.YtodmcdfeldkocaaGreatDoor
namespace Go.Proofs.YtodmcdfeldkocaaGreatDoor
open Go.ChangeShapes Go.WideShapes Go.ChangeAt Go.WideMaps Go.WideElems Go.RowKit Go.ChangeMaps
theorem own:ownKnob Tryz.prog.godebug=Option.none:=by kernel_rfl
theorem laidOut:laidOutB Tryz.prog=true:=by kernel_rfl
abbrev yj:List (String×DataW Unit):=[("unicode/utf8.acceptRanges",Rows.laid_unicode_utf8_acceptRanges),("errors.errorType",Rows.laid_errors_errorType),("unicode/utf8.first",Rows.laid_unicode_utf8_first)]
abbrev sq:List (String×DataW Unit):=[("unicode/utf8.acceptRanges",Rows.laid_unicode_utf8_acceptRanges),("unicode/utf8.first",Rows.laid_unicode_utf8_first)]
noncomputable def hand (os:Os):World :=
 { World.holding Tryz.prog os ⟨#[],#[],[]⟩ with heap:=(World.holding Tryz.prog os ⟨#[],#[],[]⟩).heap.modify 0 fun
   | .cells _ t frozen=>.cells #[.iface 158 (.agg #[.pointer (some ⟨4,29,Option.none⟩)])] t frozen
   | o=>o}
noncomputable def door (os:Os) (l:List (String×DataW Unit)):World:=(hand os).layVars Tryz.prog l
theorem VY (os:Os) (l:List (String×DataW Unit)):(door os l).os=os:=World.layVars_os _ _ _
theorem zy (os:Os):(door os sq).Shaped Tryz.prog:=World.shaped_of_ZipB (by kernel_rfl) (by kernel_rfl)
theorem Kz (os:Os) (l:List (String×DataW Unit)) (hf:(hand os).layFits Tryz.prog l []=true) (hi:(hand os).layIfaces Tryz.prog l (door os l)=true):laidMet Tryz.prog l (door os l):=by
 have e1:(l.filter fun x=>(l.map (·.1)).contains x.1)=l:=List.filter_eq_self.2 fun x hx=>List.contains_iff_mem.2 (jB.2 ⟨x,hx,rfl⟩)
 have e2:(l.filter fun x=>!(l.map (·.1)).contains x.1)=[]:=List.filter_eq_nil_iff.2 fun x hx=>by rw[List.contains_iff_mem.2 (jB.2 ⟨x,hx,rfl⟩)];simp
 exact laidMet_layVars (w0:=hand os) (l.map (·.1)) [] (by rw[e1];rfl) (by rw[e1];exact hf) (by rw[e1];exact hi) (by rw[e2];exact LaidIn.none)
theorem KC (os:Os) (args:Array Value):laidMetH Tryz.prog yj ((door os sq).forCall (fun _ _=>0) ⟨#[],args,[]⟩).memory:=by
 have h:laidMetH Tryz.prog yj (door os sq):=laidMetH_of_parts (Kz os sq (by kernel_rfl) (by kernel_rfl)) (by kernel_rfl)
 exact h.of_heap (by simp[World.memory,World.forCall,Input.heap])
theorem acA {W:World} (h:W.ShapedOpen Tryz.prog):Mx W:=Go.Proofs.cell_of_shapedOpen_int (zero:=#[.int .i64 0]) (t:=3) h (iG (by kernel_rfl)) (by kernel_rfl) rfl (by kernel_rfl) (by kernel_rfl) Tryz.underlying3
theorem aaI {W:World} (h:W.ShapedOpen Tryz.prog):4≤W.heap.size:=by
 have k:(((begin Tryz.prog (fun _ _=>0) default).world.heap[4-1]?).bind Obj.row?).isSome=true:=by kernel_rfl
 obtain⟨⟨zero,t⟩,hz⟩:=zK.1 k;obtain⟨cs,hc,_⟩:=h.1 (4-1) zero t (iG (by kernel_rfl)) hz
 have:=(aO.1 hc).1;omega
theorem Tryz.et:Tryz.prog.globalNamed "errors.errorType" = some 0:=by kernel_rfl
theorem Tryz.rt:(Tryz.prog.cutTypes.find? (·.1 == "internal/reflectlite.rtype")).map (·.2)=some 158:=by kernel_rfl
theorem Tryz.acB:Tryz.prog.types.size=(392-100):=by kernel_rfl
theorem Tryz.aaJ:((List.range (392-100)).filter fun t=>Tryz.prog.rowNamed t [101,114,114,111,114])=[29]:=by kernel_rfl
theorem CT {W:World} (h:handlesMet Tryz.prog [("errors.errorType",Rows.laid_errors_errorType)] W):W.cell? ⟨0,0,Option.none⟩=some (.iface 158 (.agg #[.pointer (some ⟨4,29,Option.none⟩)])):=by
 obtain⟨name,u,ty,e1,e2,e3,e4,e5⟩:=h _ (bK.2 rfl);have en:name=[101,114,114,111,114]:=(gW e1).symm;subst en;obtain rfl:=gW (Tryz.rt.symm.trans e2);have hm:ty∈(List.range (392-100)).filter fun t=>Tryz.prog.rowNamed t [101,114,114,111,114]:=wH.2 ⟨EX.2 (by rw[←Tryz.acB];exact e3),e4⟩
 rw[Tryz.aaJ] at hm;obtain rfl:=bK.1 hm;have hh:typeHandle Tryz.prog 29=.pointer (some ⟨4,29,Option.none⟩):=by kernel_rfl
 rw[hh] at e5;simpa using World.var?_cell Tryz.et e5 0
theorem aeg {W:World} (hs:W.ShapedOpen Tryz.prog) (h:laidMetH Tryz.prog yj W):qW W:=by
 have h':laidMet Tryz.prog sq W∧handlesMet Tryz.prog [("errors.errorType",Rows.laid_errors_errorType)] W:=h;exact⟨acA hs,CT h'.2,aaI hs⟩
theorem handed {H:Type} {enc:TypeId×Value→H} {C:Checked} {os:Os} {f:FuncId} {fn:Func} {s:ChangeSpec} {X:World→Array Value→Prop}
  (hX :∀(w w':World) (args:Array Value),w.heap=w'.heap→X w args→X w' args) (own:ownKnob C.prog.godebug=Option.none) (started:os.Started) (aaK:C.prog.inits.idxOf? f=Option.none) (hfn:C.prog.funcs[f]? = some fn)
  (witness :∃(w:World) (tape:Tape) (i:Input),w.os=os∧(w.forCall tape i).Shaped C.prog∧i.vars=[]∧Input.okWide C.prog (w.forCall tape i) .any w.heap.size f i ∧
   ((s.pre enc C.prog fn [] false (w.forCall tape i).memory i.args∧X (w.forCall tape i).memory i.args)∧sizedMet enc C.prog fn (OpenSpec.ofChange s) false (w.forCall tape i).memory i.args)∧({}:Assume).holds C.prog (lone (Frame.enter C.prog f i.args .normal) [] (w.forCall tape i)))
  (contract :∀(W:World) (base:Nat) (args:Array Value) (ds gs:List (DataW H)) (before:List MemPlace),
   (∀(j:Nat) t v,fn.params[j]? = some t→args[j]? = some v→Value.okWide C.prog W .any base t v) →
   DataW.Whole enc C.prog fn.params.toList s.vars false W args.toList ds gs before→X W args→W.ShapedOpen C.prog →
   (DataW.weightsEach C.prog (fn.params.toList++(OpenSpec.ofChange s).bare.plain.varTypes C.prog) (ds++gs)).all (·≤reachBytes)=true →
   Calls C.prog f args W fun e W'=>∃v,e=.returned v∧s.post enc C.prog fn false true false false W args v W') :
  ReturnsInHanded {} C os f .any (fun w args=>(s.pre enc C.prog fn [] false w args∧X w args)∧sizedMet enc C.prog fn (OpenSpec.ofChange s) false w args) (s.post enc C.prog fn false true false false):=by
 refine returnsInHanded_of_calls own started aaK witness ?_;intro w tape i _ hsh _ ri kY _;obtain⟨_,_,_,fn',aeh,_,_,_,_,hval⟩:=ri;obtain rfl:fn'=fn:=gW (aeh.symm.trans hfn);obtain⟨⟨_,hx⟩,_,ds,gs,before,hw,hwt⟩:=kY;have hw':=DataW.Whole.of_heap (w':=w.forCall tape i) (by rfl) hw
 refine(contract (w.forCall tape i) w.heap.size i.args ds gs before hval hw' (hX _ _ _ (by rfl) hx) hsh hwt).mono fun e W' ⟨v,he,hp⟩=>?_
 subst he;exact ChangeSpec.post_blind hp
theorem Rl {n:Int} (h:(Lit.int .u8 n).wf=true):0≤n:=by
 have h':(decide (IntKind.u8.min≤n) && decide (n≤IntKind.u8.max))=true:=h;simp only[dp,iF] at h';exact h'.1
theorem Rn {n:Int} (h:(Lit.int .u8 n).wf=true):n≤255:=by
 have h':(decide (IntKind.u8.min≤n) && decide (n≤IntKind.u8.max))=true:=h;simp only[dp,iF] at h';exact h'.2
end Go.Proofs.YtodmcdfeldkocaaGreatDoor
