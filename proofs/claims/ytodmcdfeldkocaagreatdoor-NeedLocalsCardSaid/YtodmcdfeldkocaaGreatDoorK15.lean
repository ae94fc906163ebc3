/- Parts of the proof. -/
import Derived.Lib.IfaceEq
import Derived.Test.YtodmcdfeldkocaaGreatDoorCards
import Derived.Test.YtodmcdfeldkocaaGreatDoorTie
import Derived.ProofKit
import Derived.LaidMore
import Derived.LaidHandle
import Derived.Lay
import Derived.OpenShut
import Derived.SizedLaws
import Derived.Stop.Joined
import Derived.Stop.LaidErr
import Derived.Lib.LaidTab
import Derived.Lib.SmallJoins
import Derived.ChangeSlices
import Derived.SliceStrings
import Derived.Deep.Slices
import Derived.Deep.Strs
import Derived.Test.YtodmcdfeldkocaaGreatDoorK14
set_option maxHeartbeats 16000000
set_option maxRecDepth 20000
namespace Go.Proofs.YtodmcdfeldkocaaGreatDoor
open Go.RowKit
theorem gh {B:Nat} {w W:World} {n j:Nat} {v:Value} (h:Below B w W) (hn:B≤n):Below B w (W.setCell ⟨n,j,none⟩ v):=⟨h.os,h.tape,h.output,by simpa[World.setCell] using h.size,fun k hk=>(Below.heap_setCell _ _ _ k (by show k≠n;omega)).trans (h.block k hk)⟩
theorem CG {W:World} {n j g:Nat} {v:Value} {o:Obj} (h:W.heap[g]? = some o) (hn:g≠n):(W.setCell ⟨n,j,none⟩ v).heap[g]? = some o:=(Below.heap_setCell _ _ _ g hn).trans h
theorem QJ (g:Nat) (w:World) (h:sz w):Calls Tryz.prog 20 #[.iface 82 (.pointer (some ⟨g,0,none⟩)),.iface 83 (.pointer (some ⟨w.heap.size,0,none⟩))] (w.alloc (.cells #[.pointer none] 82)) fun e w' =>
  e=.returned (.bool true)∧w'.cell? ⟨w.heap.size,0,none⟩=some (.pointer (some ⟨g,0,none⟩))∧Below w.heap.size w w':=by
 have hB:=(Below.refl w.heap.size w).alloc (ag _) (.cells #[.pointer none] 82);have hE:=h.below hB;have hx:=Boxed.new w 82 (.pointer none);refine(U9 ⟨g,0,none⟩ ⟨w.heap.size,0,none⟩ (.pointer none) (w.alloc (.cells #[.pointer none] 82)) hE.et hx.cell hx.frozen).mono ?_;rintro e w' ⟨rfl,rfl⟩;exact⟨rfl,(((((hx.alloc _).alloc _).alloc _).alloc _).set _).cell,(((((hB.alloc (by simp) _).alloc (by simp;omega) _).alloc (by simp;omega) _).alloc (by simp;omega) _)).setCell (ag _) _⟩
def mj:Value:=.agg #[.slice none 0 0,.int .i64 0]
def Kb (s:ByteArray) (w:World) (e:Ending) (w':World):Prop :=
 Below w.heap.size w w'∧∃o,mH (dT s) s.data.toList o∧match o with
  | .error n=>∃v,e=.returned (.tuple #[mj,v])∧Va w' v n 5
  | .ok ts=>ts.length≤s.size+1∧∃q,PL yU ts q∧match q with
   | .error l=>∃v,e=.returned (.tuple #[mj,v])∧Va w' v l 6
   | .ok (a,_)=>(100<a.depth∧∃v,e=.returned (.tuple #[mj,v])∧Va w' v 1 7) ∨
    (a.depth≤100∧∃(v:Value) (T:List Nd) (p:Nat),e=.returned (.tuple #[v,.nilIface])∧iI w' v T (p:Int)∧ez [] T [a] [(p:Int)])
theorem Vc (s:ByteArray) (w:World) (hs:s.size≤8000) (hE:sz w) (hZ :∀(ts aA:List ak) (a:Ast),mH (dT s) s.data.toList (.ok ts)→ts.length≤s.size+1→PL yU ts (.ok (a,aA))→a.size≤16384):Calls Tryz.prog 14 #[.string s] w (Kb s w):=by
 have h7:=hE.big;have hM:=hE.mx;have hlx:=fun W (h1:4≤W.heap.size) (h2:Mx W)=>TL s W (by omega) h1 h2
 have HL:=aa (hlx (w.alloc (.cells #[.slice none 0 0,.int .i64 0] 24)) (by simp;omega) (hM.below (aX w _)))
 have HS:=aa hs;have HE:=aa hE;have HZ:=aa hZ;clear hlx hE hM hs h7 hZ;go_enter Tryz.func14,Tryz.ntmps14
 go_wp2_with fail
 refine HL.out.mono ?_;rintro e w1 ⟨b1,o,ho,h1⟩;have B1:=aa (ax (aX w (.cells #[.slice none 0 0,.int .i64 0] 24)) b1);have rb :∀W,Below w1.heap.size w1 W→W.heap[w.heap.size]? = some (.cells #[.slice none 0 0,.int .i64 0] 24 (0,0)):=fun W hW=>((ax b1 hW).block w.heap.size (by simp)).trans (World.alloc_heap_new w _)
 have RB:=aa rb;have d0:w1.cell? ⟨w.heap.size,0,none⟩=some (.slice none 0 0):=by simp[World.cell?,rb w1 (Below.refl _ _)]
 have d1:w1.cell? ⟨w.heap.size,1,none⟩=some (.int .i64 0):=by simp[World.cell?,rb w1 (Below.refl _ _)]
 have y0:w1.frozen? ⟨w.heap.size,0,none⟩=false:=by simp[World.frozen?,rb w1 (Below.refl _ _)]
 have y1:w1.frozen? ⟨w.heap.size,1,none⟩=false:=by simp[World.frozen?,rb w1 (Below.refl _ _)]
 have HO:=aa ho;cases o with
 | error n =>
  obtain⟨v,rfl,g,rfl,hf⟩:=h1;have HF:=aa hf;clear b1 rb ho hf;have T6:g≠w.heap.size:=fun e=>by
   have h1:=RB.out w1 (Below.refl _ _);rw[←e,HF.out] at h1;simp at h1
  go_wp2_with fail
  refine bodyPost_ret (v:=.tuple #[mj,.iface 59 (.pointer (some ⟨g,0,none⟩))]) ?_ rfl ⟨?_,.error n,HO.out,_,rfl,g,rfl,?_⟩
  ·simp[results,Tryz.results14,go_sem,mj,d0,d1]
  ·exact gh (gh (B1.out) (ag _)) (ag _)
  ·exact CG (CG HF.out T6) T6
 | ok ts =>
  obtain⟨hlen,v,rfl,hT⟩:=h1;have zA:=lex_wf ho (by unfold dT;omega) ts rfl
  obtain⟨g,cp,rfl,hcp,oT,eD⟩:=hT.ex;obtain⟨t,r,iY⟩:=zA.fin.cons;have hT2:vF w1 (.slice (some ⟨g,0,none⟩) ts.length cp) ts:=hT;have MC:=aaa hT2 zA.fin (by have:=HS.out;omega) oT
  have abS:=Z9 (N:=ts.length+1) (t:=t) (r:=r) (by rw[iY];exact dA _) (by rw[←iY];have:=HS.out;omega) (iY▸zA) (iY▸Gw.self yU ts)
  rw[iY] at MC;have HN:=aa (qY (w1.alloc (.cells #[.slice (some ⟨g,0,none⟩) (t::r).length cp,.int .i64 0,.slice none 0 0] 78)) (w1.alloc (.cells #[.slice (some ⟨g,0,none⟩) (t::r).length cp,.int .i64 0,.slice none 0 0] 78)) (w1.heap.size+1) (by simp) MC (aw.refl _ _) (mJ 18) rfl [aZ 24 w1.heap.size,aZ 25 w1.heap.size] [Po (ts.length+1),Pa] (by simp) ⟨(CB (ts.length+1)).wh.part (enters_of Tryz.func24 (by kernel_rfl) rfl) _ _ _,Pb _ _ _,trivial⟩ abS)
  subst iY;have IA:=aa hlen;clear hT hT2 MC abS zA eD ho rb b1 hlen;go_wp2_with fail
  refine HN.out.mono ?_;intro e w3 h3;have b3:Below w1.heap.size w1 w3:=Below.trans (aX w1 _) (h3.1.below (B:=w1.heap.size) (fun k hk=>by omega) (by simp))
  have B3:=aa (ax B1.out b3);have aab:=aa b3;have hbl:w1.heap.size<w3.heap.size:=cw (by simp) h3.1.size
  have hwl:w.heap.size<w1.heap.size:=(aM.1 (RB.out w1 (Below.refl _ _))).1;have rb3:=RB.out w3 b3;have RB3:=aa rb3;have e0:w3.cell? ⟨w.heap.size,0,none⟩=some (.slice none 0 0):=by simp[World.cell?,rb3]
  have e1:w3.cell? ⟨w.heap.size,1,none⟩=some (.int .i64 0):=by simp[World.cell?,rb3]
  have z0:w3.frozen? ⟨w.heap.size,0,none⟩=false:=by simp[World.frozen?,rb3]
  have z1:w3.frozen? ⟨w.heap.size,1,none⟩=false:=by simp[World.frozen?,rb3]
  have adJ:w.heap.size<w3.heap.size:=by omega
  clear rb3 b3 d0 d1 y0 y1;rcases h3.2 with ⟨p,a,im,O2,T2,rfl,p2,x2,l2,k2⟩ | ⟨le,v,er,rfl,⟨g',rfl,m2,m3⟩,k2⟩
  ·obtain⟨A,c2,cT,nH⟩:=p2.nodes
   have hsz:T2.length=a.size:=by rw[l2.len,vL];simp
   have hle:T2.length≤16384:=by
    have:=HZ.out _ _ _ HO.out IA.out k2;omega
   have q1:decide ((16384:Int)<(T2.length:Int))=false:=bM (by omega)
   have SC :∃js,gp T2 a p js∧js.Nodup∧js.length=T2.length:=by
    obtain⟨_,js,hr,ym⟩:=l2;unfold bj at hr;obtain⟨k,gU,j1,j2,ek,hr1,hr2,ej⟩:=hr;unfold bj at hr2;obtain⟨_,rfl⟩:=hr2;have ek2:k=p:=by injection ek with ek _;omega
    subst ek2;rw[j4] at ej;subst ej;exact⟨_,hr1,ym.nodup_iff.2 (List.nodup_range' ..),by rw[ym.length_eq,KV];simp⟩
   have oZ:eN T2 (p:Int)=a.depth:=by
    obtain⟨js,r1,r2,r3⟩:=SC;exact Ai r1 r2 r3 hle
   have L2:=aa l2;have K2:=aa k2;have HNd:=aa nH;have HOw:=aa (fun k (hk:O2 k)=>(p2.own k hk).1)
   have HD:=aa (fun W (hW:Below w3.heap.size w3 W)=>Az (.agg #[.slice A T2.length c2,.int .i64 (p:Int)]) T2 (p:Int) W ⟨_,rfl,nH W (fun _=>False) (aw.af hW) (fun _ _ h=>h)⟩)
   rw[oZ] at HD;have HLE:=aa hle;clear h3 p2 x2 l2 k2 nH HN hsz hle SC oZ;go_wp2_with fail
   refine(Z3 _ _).mono ?_;rintro e w4 ⟨rfl,rfl⟩;have b45:Below w3.heap.size w3 ((w3.alloc (.cells #[.pointer none] 82)).alloc (.cells #[.slice A T2.length c2,.int .i64 (p:Int)] 24)):=ax (aX w3 _) (aX _ _);have HD2:=aa (HD.out _ b45);have B45:=aa b45;clear b45 HD;go_wp2_with fail
   refine HD2.out.mono ?_;rintro e w6 ⟨rfl,b6⟩;have B6:=aa (ax B45.out b6);have rb6:=RB.out w6 (ax aab.out B6.out);have f0:w6.cell? ⟨w.heap.size,0,none⟩=some (.slice none 0 0):=by simp[World.cell?,rb6]
   have f1:w6.cell? ⟨w.heap.size,1,none⟩=some (.int .i64 0):=by simp[World.cell?,rb6]
   have g0:w6.frozen? ⟨w.heap.size,0,none⟩=false:=by simp[World.frozen?,rb6]
   have g1:w6.frozen? ⟨w.heap.size,1,none⟩=false:=by simp[World.frozen?,rb6]
   have hw6:w3.heap.size+1<w6.heap.size:=by have:=b6.size;simp at this;omega
   have adK:w.heap.size<w6.heap.size:=by omega
   have t0:w6.cell? ⟨w3.heap.size+1,0,none⟩=some (.slice A T2.length c2):=by
    refine(b6.cell (p:=⟨w3.heap.size+1,0,none⟩) (by simp)).trans ?_
    have:=dG (w3.alloc (.cells #[.pointer none] 82)) #[.slice A T2.length c2,.int .i64 (p:Int)] 24 0;rw[ao] at this;exact this
   have t1:w6.cell? ⟨w3.heap.size+1,1,none⟩=some (.int .i64 (p:Int)):=by
    refine(b6.cell (p:=⟨w3.heap.size+1,1,none⟩) (by simp)).trans ?_
    have:=dG (w3.alloc (.cells #[.pointer none] 82)) #[.slice A T2.length c2,.int .i64 (p:Int)] 24 1;rw[ao] at this;exact this
   clear rb6 b6 HD2 e0 e1 z0 z1 cT;have B6w:=aa (ax B3.out B6.out);by_cases uH:100<a.depth
   ·have q2:decide ((100:Int)<(a.depth:Int))=true:=bN (by omega)
    have Re:=aa uH;clear uH;go_wp2_with fail
    refine(GM 1 7 w6).mono ?_;rintro e w7 ⟨rfl,rfl⟩;go_wp2_with fail
    refine bodyPost_ret (v:=.tuple #[mj,.iface 59 (.pointer (some ⟨w6.heap.size,0,none⟩))]) ?_ rfl ⟨?_,.ok (t::r),HO.out,IA.out,.ok (a,im),K2.out,.inl ⟨Re.out,_,rfl,w6.heap.size,rfl,?_⟩⟩
    ·have qv:w.heap.size<((w6.setCell ⟨w.heap.size,0,none⟩ (.slice none 0 0)).setCell ⟨w.heap.size,1,none⟩ (.int .i64 0)).heap.size:=by simpa[World.setCell] using adK
     have k0:(((w6.setCell ⟨w.heap.size,0,none⟩ (.slice none 0 0)).setCell ⟨w.heap.size,1,none⟩ (.int .i64 0)).alloc (.cells #[.int .i64 1,.iface 60 (.int .i64 7)] 62)).cell? ⟨w.heap.size,0,none⟩=some (.slice none 0 0):=by rw[World.cell?_alloc_lt _ _ _ qv];simp[go_sem,f0]
     have k1:(((w6.setCell ⟨w.heap.size,0,none⟩ (.slice none 0 0)).setCell ⟨w.heap.size,1,none⟩ (.int .i64 0)).alloc (.cells #[.int .i64 1,.iface 60 (.int .i64 7)] 62)).cell? ⟨w.heap.size,1,none⟩=some (.int .i64 0):=by rw[World.cell?_alloc_lt _ _ _ qv];simp[go_sem,f1]
     simp[results,Tryz.results14,go_sem,mj,k0,k1]
    ·exact ax (gh (gh B6w.out (ag _)) (ag _)) (aX _ _)
    ·have:=World.alloc_heap_new ((w6.setCell ⟨w.heap.size,0,none⟩ (.slice none 0 0)).setCell ⟨w.heap.size,1,none⟩ (.int .i64 0)) (.cells #[.int .i64 1,.iface 60 (.int .i64 7)] 62)
     simpa[World.setCell] using this
   ·have q2:decide ((100:Int)<(a.depth:Int))=false:=bM (by omega)
    have Re:=aa uH;have aac:=RB.out w6 (ax aab.out B6.out);have fr6:=((aw.af (O:=(· = w.heap.size)) B6.out).trans (aw.wM aac (show(24:Nat)≠9 by decide) 0 (.slice A T2.length c2)) (Ext.refl _ _)).trans (aw.wM (ij aac (k:=0) (.slice A T2.length c2)) (show(24:Nat)≠9 by decide) 1 (.int .i64 (p:Int))) (Ext.refl _ _)
    have HN6:=aa (HNd.out _ _ fr6 (fun k hk e=>by have:=HOw.out k hk;omega))
    clear aac fr6;clear uH;go_wp2_with fail
    refine bodyPost_ret (v:=.tuple #[.agg #[.slice A T2.length c2,.int .i64 (p:Int)],.nilIface]) ?_ rfl ⟨?_,.ok (t::r),HO.out,IA.out,.ok (a,im),K2.out,.inr ⟨Nat.le_of_not_lt Re.out,_,T2,p,rfl,⟨_,rfl,?_⟩,L2.out⟩⟩
    ·simp[results,Tryz.results14,go_sem,f0,f1]
    ·exact gh (gh B6w.out (ag _)) (ag _)
    ·exact HN6.out
  ·have abT:g' < w3.heap.size:=(aM.1 m3).1
   have hA:=QJ g' w3 (HE.out.below B3.out);have HA:=aa hA;have M3:=aa m3;have K2:=aa k2;have hgw:g'≠w.heap.size:=by simp at m2;omega
   clear h3 m2 m3 k2 HN hA e0 e1 z0 z1;go_wp2_with fail
   refine HA.out.mono ?_;rintro e w4 ⟨rfl,c4,b4⟩;have rb4:=RB.out w4 (ax aab.out b4);have f0:w4.cell? ⟨w.heap.size,0,none⟩=some (.slice none 0 0):=by simp[World.cell?,rb4]
   have f1:w4.cell? ⟨w.heap.size,1,none⟩=some (.int .i64 0):=by simp[World.cell?,rb4]
   have g0:w4.frozen? ⟨w.heap.size,0,none⟩=false:=by simp[World.frozen?,rb4]
   have g1:w4.frozen? ⟨w.heap.size,1,none⟩=false:=by simp[World.frozen?,rb4]
   have Yq:w4.heap[g']? = _:=(b4.block g' abT).trans M3.out;have j0:w4.cell? ⟨g',0,none⟩=some (.int .i64 6):=by simp[World.cell?,Yq]
   have j1:w4.cell? ⟨g',1,none⟩=some (.int .i64 le):=by simp[World.cell?,Yq]
   have adL:w.heap.size<w4.heap.size:=cw adJ b4.size;have abU:g' < w4.heap.size:=cw abT b4.size;have h3l4:w3.heap.size<w4.heap.size:=World.block_lt_of_cell? w4 _ c4;have B4:=aa (ax B3.out b4);clear rb4 Yq b4 HA;go_wp2_with fail
   go_region_with (first|(go_at_call 26;refine(GM le 6 _).mono ?_;rintro e w5 ⟨rfl,rfl⟩))
   all_goals
    have qv:w.heap.size<((w4.setCell ⟨w.heap.size,0,none⟩ (.slice none 0 0)).setCell ⟨w.heap.size,1,none⟩ (.int .i64 0)).heap.size:=by simpa[World.setCell] using adL
    have k0:(((w4.setCell ⟨w.heap.size,0,none⟩ (.slice none 0 0)).setCell ⟨w.heap.size,1,none⟩ (.int .i64 0)).alloc (.cells #[.int .i64 le,.iface 60 (.int .i64 6)] 62)).cell? ⟨w.heap.size,0,none⟩=some (.slice none 0 0):=by rw[World.cell?_alloc_lt _ _ _ qv];simp[go_sem,f0]
    have k1:(((w4.setCell ⟨w.heap.size,0,none⟩ (.slice none 0 0)).setCell ⟨w.heap.size,1,none⟩ (.int .i64 0)).alloc (.cells #[.int .i64 le,.iface 60 (.int .i64 6)] 62)).cell? ⟨w.heap.size,1,none⟩=some (.int .i64 0):=by rw[World.cell?_alloc_lt _ _ _ qv];simp[go_sem,f1]
    go_wp2
    refine bodyPost_ret (v:=.tuple #[mj,.iface 59 (.pointer (some ⟨w4.heap.size,0,none⟩))]) ?_ rfl ⟨?_,.ok (t::r),HO.out,IA.out,.error le,K2.out,_,rfl,w4.heap.size,rfl,?_⟩
    ·simp[results,Tryz.results14,go_sem,mj,k0,k1,Act.put]
    ·have hb:=ax (gh (j:=1) (v:=.int .i64 0) (gh (j:=0) (v:=.slice none 0 0) B4.out (ag _)) (ag _)) (aX _ (.cells #[.int .i64 le,.iface 60 (.int .i64 6)] 62))
     exact⟨hb.os,hb.tape,hb.output,hb.size,hb.block⟩
    ·have:=World.alloc_heap_new ((w4.setCell ⟨w.heap.size,0,none⟩ (.slice none 0 0)).setCell ⟨w.heap.size,1,none⟩ (.int .i64 0)) (.cells #[.int .i64 le,.iface 60 (.int .i64 6)] 62)
     simpa[World.setCell,World.drew] using this
end Go.Proofs.YtodmcdfeldkocaaGreatDoor
namespace Go.Proofs.YtodmcdfeldkocaaGreatDoor
open Go.RowKit Go.Extern.Stop Go.Stop Go.Extern
theorem Vd (g:Nat) (n m:Int) (w:World) (he :∀w:World,(binOp .eql 29 (.iface 60 (.int .i64 m)) (.iface 60 (.int .i64 m))).run Tryz.prog w=.ok (.bool true) w) (hg:w.heap[g]? = some (.cells #[.int .i64 n,.iface 60 (.int .i64 m)] 62 (0,0))) :
  Calls Tryz.prog 21 #[.iface 59 (.pointer (some ⟨g,0,none⟩)),.iface 60 (.int .i64 m)] w fun e w'=>e=.returned (.bool true)∧w=w':=by
 have h1:w.cell? ⟨g,1,none⟩=some (.iface 60 (.int .i64 m)):=by simp[World.cell?,hg]
 have h41:=@run_callFunc_extern Tryz.prog 44 _ Extern.ReflectliteType.typeOf Tryz.func44 (by kernel_rfl) (by kernel_rfl) (by kernel_rfl) (by kernel_rfl)
 have XK:=@run_callFunc_extern Tryz.prog 244 _ (Extern.ReflectliteType.method fun t=>do Rtype.noPackHeld "Comparable" t;pure (.bool (←typeInfo t).comparable)) Tryz.func244 (by kernel_rfl) (by kernel_rfl) (by kernel_rfl) (by kernel_rfl)
 have tT:=Tryz.CF;have cT:=Tryz.rf;have mR:=Tryz.jS;have nF:=Tryz.WW;have uF:=Tryz.vW;have mU:=Tryz.re;have e5:=he;have Ht:=run_eql_iface_types (P:=Tryz.prog) 59 60 (.pointer (some ⟨g,0,none⟩)) (.int .i64 m) Tryz.underlying29 (by decide) w
 clear hg;go_enter Tryz.func21,Tryz.ntmps21
 go_wp2
 refine wp_loop_rounds 2 ?_;rw[rounds_succ];go_wp2
 rw[rounds_succ];go_wp2
 go_ret
 exact⟨rfl,rfl⟩
theorem Ve (g:Nat) (n m k:Int) (w:World) (he :∀w:World,(binOp .eql 29 (.iface 60 (.int .i64 m)) (.iface 60 (.int .i64 k))).run Tryz.prog w=.ok (.bool false) w) (hg:w.heap[g]? = some (.cells #[.int .i64 n,.iface 60 (.int .i64 m)] 62 (0,0))) :
  Calls Tryz.prog 21 #[.iface 59 (.pointer (some ⟨g,0,none⟩)),.iface 60 (.int .i64 k)] w fun e w'=>e=.returned (.bool false)∧w=w':=by
 have h1:w.cell? ⟨g,1,none⟩=some (.iface 60 (.int .i64 m)):=by simp[World.cell?,hg]
 have h41:=@run_callFunc_extern Tryz.prog 44 _ Extern.ReflectliteType.typeOf Tryz.func44 (by kernel_rfl) (by kernel_rfl) (by kernel_rfl) (by kernel_rfl)
 have XK:=@run_callFunc_extern Tryz.prog 244 _ (Extern.ReflectliteType.method fun t=>do Rtype.noPackHeld "Comparable" t;pure (.bool (←typeInfo t).comparable)) Tryz.func244 (by kernel_rfl) (by kernel_rfl) (by kernel_rfl) (by kernel_rfl)
 have tT:=Tryz.CF;have cT:=Tryz.rf;have mR:=Tryz.jS;have nF:=Tryz.WW;have uF:=Tryz.vW;have mU:=Tryz.re;have nE:=Tryz.abR;have uE:=Tryz.Ka;have vE:=Tryz.Ez;have Ht:=run_eql_iface_types (P:=Tryz.prog) 59 60 (.pointer (some ⟨g,0,none⟩)) (.int .i64 k) Tryz.underlying29 (by decide) w
 clear hg;go_enter Tryz.func21,Tryz.ntmps21
 go_wp2
 refine wp_loop_rounds 2 ?_;rw[rounds_succ];go_wp2
 rw[rounds_succ];go_wp2
 go_ret
 exact⟨rfl,rfl⟩
theorem rh (w:World):Calls Tryz.prog 11 #[.nilIface] w fun e w'=>e=.returned (.tuple #[.int .i64 0,.int .i64 0])∧w=w':=by
 go_enter Tryz.func11,Tryz.ntmps11
 go_wp2_with fail
 go_ret2
 exact⟨rfl,rfl⟩
end Go.Proofs.YtodmcdfeldkocaaGreatDoor
namespace Go.Proofs.YtodmcdfeldkocaaGreatDoor
mutual
def Ast.wt:Ast→Nat
 | .mk h ks=>h.names.length+Ast.fu ks
def Ast.fu:List Ast→Nat
 | []=>0
 | a::l=>Ast.wt a+Ast.fu l
end
end Go.Proofs.YtodmcdfeldkocaaGreatDoor
namespace Go.Proofs.YtodmcdfeldkocaaGreatDoor
mutual
/-- Of one form; names are renamed. -/
def zT (ρ:ByteArray→ByteArray):Lt→Lt→Prop
 | .mk _ h ks,u=>u.hd.kind=h.kind∧u.hd.num=h.num∧u.hd.s=ρ h.s∧u.hd.names=h.names.map ρ∧dL ρ ks u.sub
def dL (ρ:ByteArray→ByteArray):List Lt→List Lt→Prop
 | [],ls=>ls=[]
 | k::ks,ls=>∃l Kc,ls=l::Kc∧zT ρ k l∧dL ρ ks Kc
end
theorem zT.kind {ρ:ByteArray→ByteArray} {t u:Lt} (h:zT ρ t u):u.hd.kind=t.hd.kind:=by cases t;unfold zT at h;exact h.1
theorem zT.s {ρ:ByteArray→ByteArray} {t u:Lt} (h:zT ρ t u):u.hd.s=ρ t.hd.s:=by cases t;unfold zT at h;exact h.2.2.1
structure FS (ρ:ByteArray→ByteArray) (x y:dm):Prop where
 parent:y.parent=x.parent
 params:y.params=x.params
 many:y.many=x.many
 ch:y.ch=x.ch
 vars:y.vars.map (fun v=>(v.name,v.cap))=x.vars.map fun v=>(ρ v.name,v.cap)
theorem FS.len {ρ:ByteArray→ByteArray} {x y:dm} (h:FS ρ x y):y.vars.length=x.vars.length:=by
 have:=az List.length h.vars;simpa using this
def FR (ρ:ByteArray→ByteArray) (a b:List dm):Prop:=b.length=a.length∧∀f,FS ρ (a.getD f ⟨0,0,0,false,[],[]⟩) (b.getD f ⟨0,0,0,false,[],[]⟩)
theorem FR.set {ρ:ByteArray→ByteArray} {a b:List dm} (h:FR ρ a b) {f:Nat} {x y:dm} (e:FS ρ x y):FR ρ (a.set f x) (b.set f y) :=
 ⟨by simp[h.1],fun g=>by
  have:=h.2 g;simp only[jZ] at this ⊢;by_cases hg:f=g
  ·subst hg
   by_cases hl:f<a.length
   ·rw[dV hl,dV (by rw[h.1];exact hl)];exact e
   ·rw[EG (by omega),EG (by rw[h.1];omega)];exact this
  ·rw[fH hg,fH hg];exact this⟩
theorem FR.app {ρ:ByteArray→ByteArray} {a b:List dm} (h:FR ρ a b) {x y:dm} (e:FS ρ x y):FR ρ (a++[x]) (b++[y]) :=
 ⟨by simp[h.1],fun g=>by
  have:=h.2 g;simp only[jZ] at this ⊢;rcases Nat.lt_trichotomy g a.length with hg|hg|hg
  ·rw[kL hg,kL (by rw[h.1];exact hg)];exact this
  ·subst hg
   have e1:(b++[y])[a.length]? = some y:=by rw[←h.1];simp
   rw[e1];simpa using e
  ·rw[ui (by simp;omega),ui (by simp[h.1];omega)]
   exact⟨rfl,rfl,rfl,rfl,rfl⟩⟩
structure FrS (ρ:ByteArray→ByteArray) (x y:fC):Prop where
 fn:y.fn=x.fn
 at_:y.at_=x.at_
 loop:y.loop=x.loop
 rep:y.rep=x.rep
 kids:dL ρ x.kids y.kids
def Blank (E:List fC):Prop:=∀x∈E,x.loop=false∧∀s,cj x.kids s=none
inductive WX (ρ:ByteArray→ByteArray):List fC→List fC→Prop
 | nil {B:List fC}:Blank B→WX ρ [] B
 | cons {x y:fC} {l m:List fC}:FrS ρ x y→WX ρ l m→WX ρ (x::l) (y::m)
structure SR (ρ:ByteArray→ByteArray) (a b:aI):Prop where
 fns:FR ρ a.fns b.fns
 names:b.names=a.names.map fun n=>⟨ρ n.s,n.fn,n.i⟩
 frames:WX ρ a.frames b.frames
def RR {α β:Type} (Q:α→β→Prop):Rs α→Rs β→Prop
 | .ok a,.ok b=>Q a b
 | .error e,.error e'=>e.1=e'.1
 | _,_=>False
theorem RR.bind {α β γ δ:Type} {Q:α→β→Prop} {Q':γ→δ→Prop} {x:Rs α} {y:Rs β} {g:α→Rs γ} {k:β→Rs δ} (h:RR Q x y) (hg :∀a b,Q a b→RR Q' (g a) (k b)):RR Q' (x.bind g) (y.bind k):=by
 cases x<;>cases y
 ·exact h
 ·exact h.elim
 ·exact h.elim
 ·exact hg _ _ h
theorem RR.map {α β γ δ:Type} {Q:α→β→Prop} {Q':γ→δ→Prop} {x:Rs α} {y:Rs β} {g:α→γ} {k:β→δ} (h:RR Q x y) (hg :∀a b,Q a b→Q' (g a) (k b)):RR Q' (x.map g) (y.map k):=by
 cases x<;>cases y
 ·exact h
 ·exact h.elim
 ·exact h.elim
 ·exact hg _ _ h
section
variable {ρ:ByteArray→ByteArray} (jY :∀a b,ρ a=ρ b→a=b)
theorem SR.fn {a b:aI} (h:SR ρ a b) (f:Nat):FS ρ (a.fn f) (b.fn f):=h.fns.2 f
theorem SR.use {a b:aI} (h:SR ρ a b) (i j:Nat) (u v:Int×Int):SR ρ (a.dw i u) (b.dw j v):=⟨h.fns,h.names,h.frames⟩
theorem SR.of_ {a b:aI} (h:SR ρ a b) (i j f g:Nat):SR ρ (a.setOf i f) (b.setOf j g):=⟨h.fns,h.names,h.frames⟩
theorem QK {n n' f:Nat} {l l':Int} :∀(ns:List ByteArray) {a b:aI},SR ρ a b→RR (SR ρ) (dO n f l ns a) (dO n' f l' (ns.map ρ) b):=by
 intro ns;induction ns with
 | nil=>intro a b h;exact h
 | cons s ns ih =>
  intro a b h;rw[dS,dO,dO,(h.fn f).len];split
  ·exact rfl
  ·refine ih ⟨h.fns.set ⟨(h.fn f).parent,(h.fn f).params,(h.fn f).many,(h.fn f).ch,?_⟩,?_,h.frames⟩
   ·rw[kN,kN,(h.fn f).vars];rfl
   ·show _::b.names=List.map _ (_::a.names)
    rw[h.names];rfl
theorem oz {n n' f:Nat} {l l':Int} (ns:List ByteArray) {a b:aI} (h:SR ρ a b):RR (SR ρ) (bz n f l ns a) (bz n' f l' (ns.map ρ) b):=QK ns (h.use _ _ _ _)
theorem yn {A B:List dm} (h:FR ρ A B) (f:Nat) (u:tH):(gy A f u=none∧gy B f u=none)∨∃A' B' k,gy A f u=some (A',k)∧gy B f u=some (B',k)∧FR ρ A' B':=by
 have e:=(h.2 f).ch;unfold gy;simp only[e];split
 ·exact .inr ⟨A,B,_,rfl,rfl,h⟩
 ·split
  ·exact .inl ⟨rfl,rfl⟩
  ·exact .inr ⟨_,_,_,rfl,rfl,h.set ⟨(h.2 f).parent,(h.2 f).params,(h.2 f).many,rfl,(h.2 f).vars⟩⟩
theorem QL {n n':jr} (hf:n'.fn=n.fn) (hi:n'.i=n.i) :∀(g:Nat) {A B:List dm} (f:Nat),FR ρ A B→(lH n g A f=none∧lH n' g B f=none)∨∃A' B' k,lH n g A f=some (A',k)∧lH n' g B f=some (B',k)∧FR ρ A' B':=by
 intro g;induction g with
 | zero=>intro A B f _;exact .inl ⟨rfl,rfl⟩
 | succ g ih =>
  intro A B f h;rw[lH,lH];simp only[(h.2 f).parent,hf,hi];split
  ·exact yn h f _
  ·rcases ih ((A.getD f ⟨0,0,0,false,[],[]⟩).parent.toNat) h with ⟨h1,h2⟩ | ⟨A',B',k,h1,h2,h3⟩
   ·rw[h1,h2];exact .inl ⟨rfl,rfl⟩
   ·rw[h1,h2];exact yn h3 f _
theorem Vf {x y:dm} (h:FS ρ x y) (i:Nat):FS ρ (cY x i) (cY y i):=by
 refine⟨h.parent,h.params,h.many,h.ch,?_⟩;unfold cY;dsimp only
 have e:(y.vars.map fun v=>(v.name,v.cap))[i]? = (x.vars.map fun v=>(ρ v.name,v.cap))[i]?:=by rw[h.vars]
 rw[ef,ef] at e;cases hx:x.vars[i]? with
 | none =>
  rw[hx] at e;cases hy:y.vars[i]? with
  | none=>exact h.vars
  | some w=>rw[hy] at e;cases e
 | some v =>
  rw[hx] at e;cases hy:y.vars[i]? with
  | none=>rw[hy] at e;cases e
  | some w =>
   rw[hy] at e;injection e with e;injection e with e1 e2;dsimp only
   rw[List.map_set,List.map_set,h.vars,e1]
include jY in
theorem QM (s:ByteArray) :∀(l:List jr),(l.map fun n=>(⟨ρ n.s,n.fn,n.i⟩:jr)).find? (fun n=>decide (n.s=ρ s))=(l.find? fun n=>decide (n.s=s)).map fun n=>⟨ρ n.s,n.fn,n.i⟩:=by
 intro l;induction l with
 | nil=>rfl
 | cons n l ih =>
  rw[dS,kO,kO];have e:decide (ρ n.s=ρ s)=decide (n.s=s):=by
   by_cases h:n.s=s
   ·rw[h];simp
   ·rw[bM h,bM fun e=>h (jY _ _ e)]
  simp only[e];cases decide (n.s=s) with
  | true=>rfl
  | false=>exact ih
include jY in
theorem Vg {n n' f:Nat} {s:ByteArray} {l l':Int} {a b:aI} (h:SR ρ a b):RR (SR ρ) (lI n f s l a) (lI n' f (ρ s) l' b):=by
 unfold lI;have e:b.names.find? (fun n=>decide (n.s=ρ s))=(a.names.find? fun n=>decide (n.s=s)).map fun n=>⟨ρ n.s,n.fn,n.i⟩:=by rw[h.names,QM jY]
 rw[e];cases hx:a.names.find? (fun n=>decide (n.s=s)) with
 | none=>exact h.use _ _ _ _
 | some x =>
  simp only[pZ];by_cases hf:x.fn=f
  ·rw[aj hf,aj hf]
   exact h.use _ _ _ _
  ·rw[ae hf,ae hf,h.fns.1]
   rcases QL (n:=x) (n':=⟨ρ x.s,x.fn,x.i⟩) rfl rfl a.fns.length f (h.fns.set (f:=x.fn) (Vf (h.fn x.fn) x.i)) with ⟨h1,h2⟩ | ⟨A',B',k,h1,h2,h3⟩
   ·rw[h1,h2];exact rfl
   ·rw[h1,h2]
    exact⟨h3,h.names,h.frames⟩
theorem ri {β:Type} {g g':Lt→β} (hg :∀t u,zT ρ t u→g' u=g t) :∀{ks ls:List Lt},dL ρ ks ls→ls.map g'=ks.map g
 | [],ls,h=>by unfold dL at h;rw[h];rfl
 | k::ks,ls,h=>by
  unfold dL at h;obtain⟨l,Kc,rfl,h0,h⟩:=h;rw[dS,dS,hg _ _ h0,ri hg h]
include jY in
theorem Kd {t u:Lt} (s:ByteArray) (h:zT ρ t u):mq (ρ s) u=mq s t:=by
 unfold mq;rw[h.kind,h.s];congr 1
 by_cases e:t.hd.s=s
 ·rw[e];simp
 ·rw[bM e,bM fun k=>e (jY _ _ k)]
theorem findIdx_map {α:Type} (g:α→Bool) :∀l:List α,l.findIdx? g=(l.map g).findIdx? id:=by
 intro l;induction l with
 | nil=>rfl
 | cons x l ih =>
  rw[dS,List.findIdx?_cons,List.findIdx?_cons,ih];rfl
include jY in
theorem sA {ks ls:List Lt} (s:ByteArray) (h:dL ρ ks ls):cj ls (ρ s)=cj ks s:=by
 unfold cj;rw[findIdx_map,findIdx_map (mq s),ri (fun _ _ h=>Kd jY s h) h]
include jY in
theorem QN {A B:List fC} (f:Nat) (s:ByteArray) (h:WX ρ A B):(∃x∈B,x.loop=false∧x.fn=f∧(cj x.kids (ρ s)).isSome)↔∃x∈A,x.loop=false∧x.fn=f∧(cj x.kids s).isSome:=by
 induction h with
 | nil hE =>
  refine⟨fun⟨x,hx,_,_,h⟩=>?_,fun⟨x,hx,_⟩=>by simp at hx⟩
  rw[(hE x hx).2] at h;cases h
 | cons h _ ih =>
  simp only[ba,exists_eq_or_imp,h.loop,h.fn,sA jY s h.kids,ih]
include jY in
theorem vX {A B:List fC} (h:WX ρ A B) (f:Nat) {all aad:List Lt} (ha:dL ρ all aad) :∀{ks ls:List Lt} (n:Nat),dL ρ ks ls→(cJ B f aad n ls).isSome=(cJ A f all n ks).isSome
 | [],ls,n,hs=>by unfold dL at hs;rw[hs];rfl
 | k::ks,ls,n,hs=>by
  unfold dL at hs;obtain⟨l,Kc,rfl,h0,hs⟩:=hs;rw[cJ,cJ];have e1:(∃j,cj aad l.hd.s=some j∧j<n)↔∃j,cj all k.hd.s=some j∧j<n:=by rw[h0.s,sA jY _ ha]
  have e2:=QN jY f k.hd.s h;rw[←h0.s] at e2;simp only[h0.kind,e1,e2];split
  ·rfl
  ·exact vX h f ha (n+1) hs
include jY in
theorem yo {i i' f:Nat} {rep:Bool} {ks ls:List Lt} {a b:aI} (h:SR ρ a b) (hs:dL ρ ks ls):RR (SR ρ) (gV i f rep ks a) (gV i' f rep ls b):=by
 unfold gV;have e:=vX jY h.frames f hs 0 hs;cases h1:cJ a.frames f ks 0 ks with
 | none =>
  rw[h1] at e;cases h2:cJ b.frames f ls 0 ls with
  | none=>exact⟨h.fns,h.names,.cons ⟨rfl,rfl,rfl,rfl,hs⟩ h.frames⟩
  | some _=>rw[h2] at e;cases e
 | some _ =>
  rw[h1] at e;cases h2:cJ b.frames f ls 0 ls with
  | none=>rw[h2] at e;cases e
  | some _=>exact rfl
theorem SR.at_ {a b:aI} (h:SR ρ a b) (n:Nat):SR ρ (a.at n) (b.at n):=by
 refine⟨h.fns,h.names,?_⟩;have hf:=h.frames;unfold aI.at;dsimp only
 revert hf
 generalize a.frames=A;generalize b.frames=B;cases A with
 | nil =>
  intro hf;cases hf with
  | nil hB =>
   cases B with
   | nil=>exact .nil hB
   | cons y m =>
    refine .nil fun z hz=>?_
    rcases ba.1 hz with rfl|hz
    ·exact hB y (bH ..)
    ·exact hB z (bQ _ hz)
 | cons x l =>
  intro hf;cases hf with
  | cons h1 h2=>exact .cons ⟨h1.fn,rfl,h1.loop,h1.rep,h1.kids⟩ h2
theorem SR.du {a b:aI} (h:SR ρ a b) (i j f:Nat):SR ρ (du i f a) (du j f b):=⟨h.fns,h.names,.cons ⟨rfl,rfl,rfl,rfl,by unfold dL;rfl⟩ h.frames⟩
theorem SR.back {a b a0 b0:aI} (h:SR ρ a b) (h0:SR ρ a0 b0):SR ρ (a.back a0) (b.back b0):=⟨h.fns,h0.names,h0.frames⟩
theorem Ke {i j f:Nat} {l l':Int} {a b:aI} (h:SR ρ a b):RR (SR ρ) (dX i f l a) (dX j f l' b):=by
 unfold dX;have key :∀{A B:List fC},WX ρ A B→(B.find? fun x=>x.loop && decide (x.fn=f)).isSome=(A.find? fun x=>x.loop && decide (x.fn=f)).isSome:=by
  intro A B h;induction h with
  | @nil E hE =>
   have:E.find? (fun x=>x.loop && decide (x.fn=f))=none:=EM.2 fun x hx=>by rw[(hE x hx).1];simp
   rw[this];rfl
  | cons h _ ih =>
   rw[kO,kO,h.loop,h.fn];split
   ·rfl
   ·exact ih
 have e:=key h.frames;cases h1:a.frames.find? (fun x=>x.loop && decide (x.fn=f)) with
 | none =>
  rw[h1] at e;cases h2:b.frames.find? (fun x=>x.loop && decide (x.fn=f)) with
  | none=>exact rfl
  | some _=>rw[h2] at e;cases e
 | some _ =>
  rw[h1] at e;cases h2:b.frames.find? (fun x=>x.loop && decide (x.fn=f)) with
  | none=>rw[h2] at e;cases e
  | some _=>exact h.use _ _ _ _
theorem CH {ks ls:List Lt} (h:dL ρ ks ls) (a j:Nat) (rep:Bool):lJ ls a j rep=lJ ks a j rep:=by
 have e1:ls.map isDecl=ks.map isDecl:=ri (fun t u h=>by unfold isDecl;rw[h.kind]) h
 have e2:ls.map (fun k=>decide (k.hd.kind=32))=ks.map fun k=>decide (k.hd.kind=32):=ri (fun t u h=>by rw[h.kind]) h
 have a1 :∀l:List Lt,l.any isDecl=(l.map isDecl).any id:=fun l=>by rw[List.any_map];rfl
 have a2 :∀l:List Lt,(l.all fun k=>decide (k.hd.kind=32))=(l.map fun k=>decide (k.hd.kind=32)).all id:=fun l=>by rw[List.all_map];rfl
 unfold lJ;rw[a1,a1,a2,a2,xc,Af,xc,xc,Af,xc,e1,e2]
include jY in
theorem QO {i j f:Nat} {s:ByteArray} {l l':Int} {a b:aI} (h:SR ρ a b) :∀{A B:List fC},WX ρ A B→RR (SR ρ) (dp i f s l a A) (dp j f (ρ s) l' b B):=by
 intro A B hf;induction hf with
 | nil hE =>
  have key :∀{X:List fC},Blank X→dp j f (ρ s) l' b X=.error (8,l'):=by
   intro X hX;induction X with
   | nil=>rfl
   | cons x X ih =>
    rw[dp,(hX x (bH ..)).2];simp only[ih fun y hy=>hX y (bQ _ hy),ite_self]
  rw[key hE];exact rfl
 | cons h1 _ ih =>
  rw[dp,dp,h1.loop,h1.fn,sA jY s h1.kids];split
  ·exact ih
  ·split
   ·exact ih
   ·rw[CH h1.kids,h1.at_,h1.rep]
    split
    ·exact rfl
    ·exact h.use _ _ _ _
end
end Go.Proofs.YtodmcdfeldkocaaGreatDoor
namespace Go.Proofs.YtodmcdfeldkocaaGreatDoor
section
variable {ρ:ByteArray→ByteArray}
theorem Kf {i j f:Nat} {h g:Nd} {a b:aI} (hs:SR ρ a b) (h1:g.num=h.num) (h2:g.names=h.names.map ρ):SR ρ (jB i f h a) (jB j f g b) :=
 ⟨hs.fns.app ⟨rfl,by show g.names.length=h.names.length;rw[h2,bS],by show decide (g.num=1)=decide (h.num=1);rw[h1],rfl,rfl⟩,hs.names,hs.frames⟩
mutual
theorem lC (jY :∀a b,ρ a=ρ b→a=b) :∀(t u:Lt),zT ρ t u→∀(f:Nat) {a b:aI},SR ρ a b→RR (SR ρ) (bh t f a) (bh u f b)
 | .mk i h ks,.mk j g ls,hs,f,a0,b0,h0=>by
  unfold zT at hs;obtain⟨e1,e2,e3,e4,hk⟩:=hs;have e1:g.kind=h.kind:=e1;have e2:g.num=h.num:=e2;have e3:g.s=ρ h.s:=e3;have e4:g.names=h.names.map ρ:=e4;have hk:dL ρ ks ls:=hk;have hst:=h0.of_ i j f f;unfold bh;rw[e1,e3];generalize a0.setOf i f=a at *;generalize b0.setOf j f=b at *;by_cases h6:h.kind=6
  ·rw[aj h6,aj h6,(hst.fn f).many]
   split
   ·exact hst
   ·exact rfl
  rw[ae h6,ae h6];by_cases h7:h.kind=7
  ·rw[aj h7,aj h7]
   exact Vg jY hst
  rw[ae h7,ae h7];by_cases h11:h.kind=11
  ·rw[aj h11,aj h11,hst.fns.1,e4]
   exact RR.bind (oz _ (Kf hst e2 e4)) fun a1 b1 h1=>RR.map (jw jY ks ls hk _ h1) fun a2 b2 h2=>h2.back hst
  rw[ae h11,ae h11];by_cases kJ:h.kind=18
  ·rw[aj kJ,aj kJ]
   exact RR.bind (yo jY hst hk) fun a1 b1 h1=>RR.map (sB jY ks ls hk 0 f h1) fun a2 b2 h2=>h2.back hst
  rw[ae kJ,ae kJ];by_cases Lg:h.kind=19
  ·rw[aj Lg,aj Lg,e4]
   exact RR.bind (jw jY ks ls hk f hst) fun a1 b1 h1=>oz _ h1
  rw[ae Lg,ae Lg];by_cases QY:h.kind=23
  ·rw[aj QY,aj QY]
   exact RR.map (jw jY ks ls hk f (hst.du i j f)) fun a2 b2 h2=>h2.back hst
  rw[ae QY,ae QY];by_cases Lh:h.kind=24
  ·rw[aj Lh,aj Lh]
   exact RR.map (Vh jY ks ls hk f (hst.du i j f)) fun a2 b2 h2=>h2.back hst
  rw[ae Lh,ae Lh];by_cases QZ:h.kind=26∨h.kind=27
  ·rw[aj QZ,aj QZ,e4]
   exact CI jY ks ls hk f hst
  rw[ae QZ,ae QZ];by_cases Q0:h.kind=28
  ·rw[aj Q0,aj Q0,e4]
   exact RR.bind (oz _ hst) fun a1 b1 h1=>jw jY ks ls hk f h1
  rw[ae Q0,ae Q0];by_cases E9:h.kind=30
  ·rw[aj E9,aj E9]
   exact Ke hst
  rw[ae E9,ae E9];by_cases Fa:h.kind=31
  ·rw[aj Fa,aj Fa]
   exact QO jY hst hst.frames
  rw[ae Fa,ae Fa];exact jw jY ks ls hk f hst
termination_by structural t=>t
theorem jw (jY :∀a b,ρ a=ρ b→a=b) :∀(ks ls:List Lt),dL ρ ks ls→∀(f:Nat) {a b:aI},SR ρ a b→RR (SR ρ) (aG ks f a) (aG ls f b)
 | [],ls,hs,f,a,b,h=>by
  unfold dL at hs;subst hs;unfold aG;exact h
 | k::ks,ls,hs,f,a,b,h=>by
  unfold dL at hs;obtain⟨l,Kc,rfl,h0,hs⟩:=hs;unfold aG;exact RR.bind (lC jY k l h0 f h) fun a1 b1 h1=>jw jY ks Kc hs f h1
termination_by structural ks=>ks
theorem sB (jY :∀a b,ρ a=ρ b→a=b) :∀(ks ls:List Lt),dL ρ ks ls→∀(n f:Nat) {a b:aI},SR ρ a b→RR (SR ρ) (cW ks n f a) (cW ls n f b)
 | [],ls,hs,n,f,a,b,h=>by
  unfold dL at hs;subst hs;unfold cW;exact h
 | k::ks,ls,hs,n,f,a,b,h=>by
  unfold dL at hs;obtain⟨l,Kc,rfl,h0,hs⟩:=hs;unfold cW;exact RR.bind (lC jY k l h0 f (h.at_ n)) fun a1 b1 h1=>sB jY ks Kc hs (n+1) f h1
termination_by structural ks=>ks
theorem Vh (jY :∀a b,ρ a=ρ b→a=b) :∀(ks ls:List Lt),dL ρ ks ls→∀(f:Nat) {a b:aI},SR ρ a b→RR (SR ρ) (kA ks f a) (kA ls f b)
 | [],ls,hs,f,a,b,h=>by
  unfold dL at hs;subst hs;unfold kA;exact h
 | [.mk _ _ _],ls,hs,f,a,b,h=>by
  unfold dL dL at hs;obtain⟨l,Kc,rfl,h0,rfl⟩:=hs;cases l;unfold kA;exact h
 | .mk _ _ _::_::_::_,ls,hs,f,a,b,h=>by
  unfold dL dL dL at hs;obtain⟨l,Kc,rfl,h0,l1,ls1,rfl,h1,l2,ls2,rfl,_⟩:=hs;cases l;unfold kA;exact h
 | [.mk i h ks,t],ls,hs,f,a,b,hab=>by
  unfold dL dL dL at hs;obtain⟨l,Kc,rfl,h0,u,ls1,rfl,h1,rfl⟩:=hs;obtain⟨j,g,ms⟩:=l;unfold zT at h0;obtain⟨_,_,_,_,hk⟩:=h0;have hk:dL ρ ks ms:=hk;unfold kA;exact RR.bind (yo jY (hab.of_ i j f f) hk) fun a1 b1 h2=>RR.bind (sB jY ks ms hk 0 f h2) fun a2 b2 h3=>lC jY t u h1 f h3
termination_by structural ks=>ks
theorem CI (jY :∀a b,ρ a=ρ b→a=b) {i j:Nat} {line abV:Int} {names:List ByteArray} :∀(ks ls:List Lt),dL ρ ks ls→∀(f:Nat) {a b:aI},SR ρ a b→RR (SR ρ) (iH i line names ks f a) (iH j abV (names.map ρ) ls f b)
 | [],ls,hs,f,a,b,h=>by
  unfold dL at hs;subst hs;unfold iH;exact h
 | [k],ls,hs,f,a,b,h=>by
  unfold dL dL at hs;obtain⟨l,Kc,rfl,h0,rfl⟩:=hs;unfold iH;exact RR.bind (oz _ (h.du i j f)) fun a1 b1 h1=>RR.map (lC jY k l h0 f h1) fun a2 b2 h2=>h2.back h
 | k::k2::ks,ls,hs,f,a,b,h=>by
  unfold dL at hs;obtain⟨l,Kc,rfl,h0,hs⟩:=hs;have hs':=hs;unfold dL at hs';obtain⟨l2,ls2,rfl,_,_⟩:=hs';unfold iH;exact RR.bind (lC jY k l h0 f h) fun a1 b1 h1=>CI jY (k2::ks) (l2::ls2) hs f h1
termination_by structural ks=>ks
end
end
end Go.Proofs.YtodmcdfeldkocaaGreatDoor
namespace Go.Proofs.YtodmcdfeldkocaaGreatDoor
theorem FS.start (ρ:ByteArray→ByteArray) (i j:Nat):FS ρ ⟨i,-1,0,true,[],[]⟩ ⟨j,-1,0,true,[],[]⟩:=⟨rfl,rfl,rfl,rfl,rfl⟩
theorem FR.one {ρ:ByteArray→ByteArray} {x y:dm} (h:FS ρ x y):FR ρ [x] [y] :=
 FR.app (a:=[]) (b:=[]) ⟨rfl,fun f=>by simp;exact⟨rfl,rfl,rfl,rfl,rfl⟩⟩ h
theorem Vi {ρ:ByteArray→ByteArray} (jY :∀a b,ρ a=ρ b→a=b) {t u:Lt} (h:zT ρ t u):RR (fun a b=>FR ρ a.fns b.fns) (oB t) (oB u):=by
 have h1:SR ρ (iT t.loc) (iT u.loc):=⟨.one (.start ρ _ _),rfl,.nil fun x hx=>by simp[iT] at hx⟩
 have:=lC jY t u h 0 h1;unfold oB;revert this
 cases bh t 0 (iT t.loc)<;>cases bh u 0 (iT u.loc)
 ·exact id
 ·exact id
 ·exact id
 ·exact fun h=>h.fns
mutual
def Ast.lt:Ast→Lt
 | .mk h ks=>.mk 0 h (Ast.Vj ks)
def Ast.Vj:List Ast→List Lt
 | []=>[]
 | a::xz=>Ast.lt a::Ast.Vj xz
end
mutual
theorem QP {T:List Nd} :∀(a:Ast) (i:Nat) (js:List Nat),gp T a i js→∃t:Lt,Lt.In T t∧t.loc=i∧t.dr=js∧zT id a.lt t
 | .mk h xz,i,js,hr=>by
  unfold gp at hr;obtain⟨x,rk,hx,he,hs,rfl⟩:=hr;obtain⟨ts,h1,h2,h3,h4⟩:=GO xz x.kids rk hs;refine⟨.mk i x ts,?_,rfl,?_,?_⟩
  ·unfold Lt.In
   exact⟨hx,h2,h1⟩
  ·rw[Lt.dr,h3]
  ·rw[Ast.lt]
   unfold zT;have e1:x.kind=h.kind:=by rw[he]
   have e2:x.num=h.num:=by rw[he]
   have e3:x.s=h.s:=by rw[he]
   have e4:x.names=h.names:=by rw[he]
   exact⟨e1,e2,e3,by rw[List.map_id];exact e4,h4⟩
theorem GO {T:List Nd} :∀(xz:List Ast) (ks:List Int) (js:List Nat),bj T xz ks js→∃ts:List Lt,Lt.mW T ts∧ks=ts.map (fun k=>(k.loc:Int))∧Lt.aR ts=js∧dL id (Ast.Vj xz) ts
 | [],ks,js,hr=>by
  unfold bj at hr;obtain⟨rfl,rfl⟩:=hr;refine⟨[],?_,rfl,?_,?_⟩
  ·unfold Lt.mW;trivial
  ·rw[Lt.aR]
  ·rw[Ast.Vj];unfold dL;rfl
 | a::xz,ks,js,hr=>by
  unfold bj at hr;obtain⟨k,gU,j1,j2,rfl,h1,h2,rfl⟩:=hr;obtain⟨t,a1,a2,a3,a4⟩:=QP a k j1 h1;obtain⟨ts,b1,b2,b3,b4⟩:=GO xz gU j2 h2;refine⟨t::ts,?_,?_,?_,?_⟩
  ·unfold Lt.mW;exact⟨a1,b1⟩
  ·rw[dS,a2,b2]
  ·rw[Lt.aR,a3,b3]
  ·rw[Ast.Vj];unfold dL;exact⟨t,ts,rfl,a4,b4⟩
end
def mL (r:Rs aI):Prop:=∀x,r=.error x→∃k:Nat,x.1=(k:Int)∧8≤k∧k≤14
theorem eM (st:aI):mL (.ok st):=fun x h=>by cases h
theorem ml {k:Nat} {l:Int} (h:8≤k∧k≤14):mL (.error ((k:Int),l)):=fun x e=>by injection e with e;exact⟨k,by rw[←e],h.1,h.2⟩
theorem nW {r:Rs aI} (h:mL r) (g:aI→aI):mL (r.map g):=fun x e=>by
 cases r with
 | ok s=>cases e
 | error y=>injection e with e;exact h x (by rw[e])
theorem eC {r:Rs aI} (h:mL r) {g:aI→Rs aI} (hg :∀s,mL (g s)):mL (r.bind g):=fun x e=>by
 cases r with
 | ok s=>exact hg s x e
 | error y=>injection e with e;exact h x (by rw[e])
theorem jT {n f:Nat} {l:Int} :∀(ns:List ByteArray) (st:aI),mL (dO n f l ns st)
 | [],st=>eM _
 | s::ns,st=>by
  rw[dO];split
  ·exact ml (k:=11) (by omega)
  ·exact jT ns _
theorem QQ {n f:Nat} {s:ByteArray} {l:Int} (st:aI):mL (lI n f s l st):=by
 unfold lI;split
 ·exact eM _
 ·split
  ·exact eM _
  ·split
   ·exact ml (k:=12) (by omega)
   ·exact eM _
theorem EA {n f:Nat} {l:Int} (st:aI):mL (dX n f l st):=by
 unfold dX;split
 ·exact ml (k:=8) (by omega)
 ·exact eM _
theorem yq {i f:Nat} {rep:Bool} {ks:List Lt} (st:aI):mL (gV i f rep ks st):=by
 unfold gV;split
 ·exact ml (k:=9) (by omega)
 ·exact eM _
theorem pS {n f:Nat} {s:ByteArray} {l:Int} (st:aI) :∀fr:List fC,mL (dp n f s l st fr)
 | []=>by rw[dp];exact ml (k:=8) (by omega)
 | x::fr=>by
  rw[dp];split
  ·exact pS st fr
  ·split
   ·exact pS st fr
   ·split
    ·exact ml (k:=10) (by omega)
    ·exact eM _
mutual
theorem lD :∀(t:Lt) (f:Nat) (st:aI),mL (bh t f st)
 | .mk i h ks,f,jU=>by
  rw[cV];generalize jU.setOf i f=st;split
  ·split
   ·exact eM _
   ·exact ml (k:=14) (by omega)
  split
  ·exact QQ _
  split
  ·exact eC (jT _ _) fun s=>nW (jx ks _ s) _
  split
  ·exact eC (yq _) fun s=>nW (sC ks _ _ s) _
  split
  ·exact eC (jx ks _ _) fun s=>jT _ _
  split
  ·exact nW (jx ks _ _) _
  split
  ·exact nW (Vk ks _ _) _
  split
  ·exact GP ks _ _
  split
  ·exact eC (jT _ _) fun s=>jx ks _ s
  split
  ·exact EA _
  split
  ·exact pS _ _
  exact jx ks _ _
theorem jx :∀(ks:List Lt) (f:Nat) (st:aI),mL (aG ks f st)
 | [],f,st=>by rw[fg];exact eM _
 | k::ks,f,st=>by rw[eQ];exact eC (lD k f st) fun s=>jx ks f s
theorem sC :∀(ks:List Lt) (n f:Nat) (st:aI),mL (cW ks n f st)
 | [],n,f,st=>by rw[rG];exact eM _
 | k::ks,n,f,st=>by rw[hH];exact eC (lD k f _) fun s=>sC ks _ f s
theorem Vk :∀(ks:List Lt) (f:Nat) (st:aI),mL (kA ks f st)
 | [],f,st=>by unfold kA;exact eM _
 | [.mk _ _ _],f,st=>by unfold kA;exact eM _
 | [.mk i h ks,t],f,st=>by
  rw[yF];exact eC (yq _) fun s=>eC (sC ks _ _ s) fun s=>lD t f s
 | .mk _ _ _::_::_::_,f,st=>by unfold kA;exact eM _
theorem GP {i:Nat} {line:Int} {names:List ByteArray} :∀(ks:List Lt) (f:Nat) (st:aI),mL (iH i line names ks f st)
 | [],f,st=>by unfold iH;exact eM _
 | [b],f,st=>by rw[mZ];exact eC (jT _ _) fun s=>nW (lD b f s) _
 | a::b::l,f,st=>by rw[jt];exact eC (lD a f st) fun s=>GP (b::l) f s
end
theorem Vl (t:Lt):mL (oB t):=lD t 0 _
open Go.RowKit
mutual
def Every (Q:Nd→Prop):Ast→Prop
 | .mk h ks=>Q h∧pT Q ks
def pT (Q:Nd→Prop):List Ast→Prop
 | []=>True
 | a::xs=>Every Q a∧pT Q xs
end
mutual
theorem CJ :∀a:Ast,Zx a→Every SmN a
 | .mk h ks,hs=>by
  unfold Zx at hs;unfold Every;exact⟨hs.1,yr ks hs.2⟩
theorem yr :∀l:List Ast,SmL l→pT SmN l
 | [],_=>by unfold pT;trivial
 | a::l,hs=>by
  unfold SmL at hs;unfold pT;exact⟨CJ a hs.1,yr l hs.2⟩
end
mutual
theorem gp.every {T:List Nd} {Q:Nd→Prop} (hQ :∀h ks,Q h→Q { h with kids:=ks}) :∀(a:Ast) (i:Nat) (js:List Nat),gp T a i js→Every Q a→∀j∈js,∀x,T[j]? = some x→Q x
 | .mk h xs,i,js,hr,hs=>by
  unfold gp at hr;unfold Every at hs;obtain⟨x,rk,hx,he,hr2,rfl⟩:=hr;intro j hj y hy;rcases ba.1 hj with rfl|hj
  ·rw[hx] at hy
   injection hy with hy;rw[←hy,he];exact hQ h _ hs.1
  ·exact bj.every hQ xs x.kids rk hr2 hs.2 j hj y hy
theorem bj.every {T:List Nd} {Q:Nd→Prop} (hQ :∀h ks,Q h→Q { h with kids:=ks}) :∀(l:List Ast) (ks:List Int) (js:List Nat),bj T l ks js→pT Q l→∀j∈js,∀x,T[j]? = some x→Q x
 | [],ks,js,hr,_=>by
  unfold bj at hr;obtain⟨_,rfl⟩:=hr;intro j hj;simp at hj
 | a::l,ks,js,hr,hs=>by
  unfold bj at hr;unfold pT at hs;obtain⟨k,gU,j1,j2,rfl,h1,h2,rfl⟩:=hr;intro j hj y hy;rcases cU.1 hj with hj|hj
  ·exact gp.every hQ a k j1 h1 hs.1 j hj y hy
  ·exact bj.every hQ l gU j2 h2 hs.2 j hj y hy
end
theorem ez.alone {T:List Nd} {a:Ast} {p:Nat} (h:ez [] T [a] [(p:Int)]) :∃js,gp T a p js∧js.Nodup∧js.length=T.length∧∀j,j<T.length→j∈js:=by
 obtain⟨_,js,hr,ym⟩:=h;unfold bj at hr;obtain⟨k,gU,j1,j2,ek,hr1,hr2,ej⟩:=hr;unfold bj at hr2;obtain⟨_,rfl⟩:=hr2;have ek2:k=p:=by injection ek with ek _;omega
 subst ek2;rw[j4] at ej;subst ej;exact⟨_,hr1,ym.nodup_iff.2 (List.nodup_range' ..),by rw[ym.length_eq,KV];simp,fun j hj=>ym.mem_iff.2 (by rw[List.mem_range'_1];simp;exact hj)⟩
theorem ez.every {T:List Nd} {a:Ast} {p:Nat} {Q:Nd→Prop} (h:ez [] T [a] [(p:Int)]) (hQ :∀h ks,Q h→Q { h with kids:=ks}) (hs:Every Q a) :∀x∈T,Q x:=fun x hx=>by
 obtain⟨js,h1,h2,h3,h4⟩:=h.alone;obtain⟨j,hj⟩:=jc.1 hx;exact gp.every hQ a p js h1 hs j (h4 j (aJ.1 hj).1) x hj
theorem zJ (x:Nd) (ks:List Int):cL { x with kids:=ks}=cL x:=rfl
theorem EB {s:ByteArray} (h:gJ s=true):s.size≤65536:=by
 unfold gJ at h;simp only[dk] at h;exact gT h.1.1.1.2
mutual
theorem QR :∀(a:Ast) (t:Lt),zT id a.lt t→t.wt=a.wt
 | .mk h as',.mk i x ks,hs=>by
  rw[Ast.lt] at hs;unfold zT at hs;obtain⟨_,_,_,h4,h5⟩:=hs;have h4:x.names=h.names.map id:=h4;have h5:dL id (Ast.Vj as') ks:=h5;rw[Lt.wt,Ast.wt,GQ as' ks h5,h4,List.map_id]
theorem GQ :∀(l:List Ast) (ks:List Lt),dL id (Ast.Vj l) ks→Lt.fu ks=Ast.fu l
 | [],ks,hs=>by
  rw[Ast.Vj] at hs;unfold dL at hs;rw[hs,Lt.fu,Ast.fu]
 | a::l,ks,hs=>by
  rw[Ast.Vj] at hs;unfold dL at hs;obtain⟨t,ts,rfl,h1,h2⟩:=hs;rw[Lt.fu,Ast.fu,QR a t h1,GQ l ts h2]
end
theorem te {T:List Nd} {r:Int} (h:eY T r=true) :∀x∈T,∀s∈x.names,s.size≤65536:=fun x hx s hs=>by
 obtain⟨h1,h2,h3,h4⟩:=(eh cL pw gM).1 h;obtain⟨i,hi⟩:=jc.1 hx;exact EB ((Bj ((lF cL pw gM).1 (h4 i x hi)).2.1).all s hs)
structure EC (a:Ast):Prop where
 ok:Ast.ok cL pw gM a=true
 kind:a.hd.kind=18
 sm:Zx a
 size:a.size≤16384
 wt:a.wt≤50000
structure abW (a:Ast):Prop where
 kind:a.hd.kind=18
 sm:Zx a
 size:a.size≤16384
 wt:a.wt≤50000
theorem EC.b {a:Ast} (h:EC a):abW a:=⟨h.kind,h.sm,h.size,h.wt⟩
def adM (s:ByteArray):Prop:=∀(ts aA:List ak) (a:Ast),mH (dT s) s.data.toList (.ok ts)→ts.length≤s.size+1→PL yU ts (.ok (a,aA))→abW a
theorem Vm {s:ByteArray} {ts aA:List ak} {a:Ast} (hl:mH (dT s) s.data.toList (.ok ts)) (hp:PL yU ts (.ok (a,aA))) (ha:EC a):adM s:=fun im abX a2 h1 _ h2=>by
 have e1:=hl.tX h1;injection e1 with e1;subst e1;have e2:=hp.one h2;injection e2 with e2;injection e2 with e2 _;subst e2;exact ha.b
structure adN (T:List Nd) (p:Nat) (a:Ast) (t:Lt):Prop where
 right:eY T (p:Int)=true
 sml:Sml T
 few:T.length≤16384
 yT:Lt.In T t
 loc:t.loc=p
 nodup:t.dr.Nodup
 all :∀j,j<T.length↔j∈t.dr
 Wu:gW T t
 kind:t.hd.kind=18
 wt:t.wt≤50000
 size:t.size=T.length
 sim:zT id a.lt t
theorem QS {a:Ast} {T:List Nd} {p:Nat} (hA:EC a) (hd:a.depth≤100) (hL:ez [] T [a] [(p:Int)]) :∃t,adN T p a t:=by
 have hm:=hA.sm;have hN:T.length≤16384:=by
  have h1:=hL.len;have h2:=hA.size;rw[vL] at h1;simp at h1;omega
 obtain⟨js,r1,r2,r3,r4⟩:=hL.alone;have hrt:eY T (p:Int)=true:=by
  unfold eY;rw[G8 zJ r1 r2 r3 hN,hA.ok,bN hd,bN hA.kind];rfl
 have h1:=hL.every (Q:=SmN) (fun x ks hx=>hx) (CJ a hm)
 obtain⟨t,e1,e2,e3,e4⟩:=QP a p js r1;have hlt:=gp.lt a p js r1;have dd :∀x∈T,x.kids.length≤20000:=fun x hx=>by
  obtain⟨_,_,_,h4⟩:=(eh cL pw gM).1 hrt;obtain⟨d,m,hs,_,_⟩:=GV cL pw gM hrt;obtain⟨i,hi⟩:=jc.1 hx;have:=(Bt hs hi).2;omega
 have hk:t.hd.kind=18:=by
  obtain⟨_,_,h3,_⟩:=(eh cL pw gM).1 hrt;have:=(kC e1).2.1;rw[e2] at this;rw[←h3,gS,lG this]
 have hT :∀x∈T,pw x.kind x.num (x.kids.map fun k=>gM (dB T k.toNat))=true:=fun x hx=>by
  obtain⟨_,_,_,h4⟩:=(eh cL pw gM).1 hrt;obtain⟨i,hi⟩:=jc.1 hx;exact((lF cL pw gM).1 (h4 i x hi)).2.2
 refine⟨t,hrt,⟨fun x hx=>⟨dd x hx,by have:=(h1 x hx).2.2.2.1;omega⟩,fun x hx=>⟨by have:=(h1 x hx).2.2.1;omega,te hrt x hx⟩⟩,hN,e1,e2,by rw[e3];exact r2,fun j=>by rw[e3];exact⟨r4 j,hlt j⟩,MX hT e1 (by rw[e3];exact r2) (by rw[hk];decide),hk,?_,?_,e4⟩
 ·rw[QR a t e4]
  exact hA.wt
 ·rw[←Lt.rC,e3,r3]
theorem Kg:(Tryz.prog.info? 60).map (·.comparable)=some true:=by kernel_rfl
theorem yt (m k:Int) (w:World):(binOp .eql 29 (.iface 60 (.int .i64 m)) (.iface 60 (.int .i64 k))).run Tryz.prog w=.ok (.bool (m == k)) w:=Lib.run_eql_iface_int w m k Tryz.underlying29 Kg Tryz.underlying60
theorem zK (v:Value) (n:Int) (k:Nat) (w:World) (h:sz w) (hf:Va w v n (k:Int)) (hk:1≤k∧k≤19):Calls Tryz.prog 11 #[v] w fun e w'=>e=.returned (.tuple #[.int .i64 (k:Int),.int .i64 n])∧Below w.heap.size w w':=by
 obtain⟨g,rfl,hg⟩:=hf;have oT:g<w.heap.size:=(aM.1 hg).1;have A1:=aa (Vb g w h);have HG:=aa hg;clear h hg;go_enter Tryz.func11,Tryz.ntmps11
 go_wp2_with fail
 refine A1.out.mono ?_;rintro e w1 ⟨rfl,hc,hb⟩;have hg1:w1.heap[g]? = _:=(hb.block g oT).trans HG.out;have HB:=aa hb;have HI:=aa (Vd g n (k:Int) w1 (fun w=>by rw[yt];simp) hg1)
 have HN:=aa (fun(j:Nat) (hj:j<k)=>Ve g n (k:Int) (j:Int) w1 (fun w=>by rw[yt];congr 2;exact aC.2 (by omega)) hg1)
 have hc0:w1.cell? ⟨g,0,none⟩=some (.int .i64 n):=by simp[World.cell?,hg1]
 clear hg1 hb;go_wp2_with fail
 go_loop [5] (fun i=>∃j:Nat,1≤j∧j≤k∧i=.int .i64 j) (fun i=>k-(intOf i).toNat)
 case atStart=>exact⟨1,by omega,by omega,rfl⟩
 case round =>
  obtain⟨j,hj1,hj5,rfl⟩:=hrel;have hle:decide ((j:Int)≤19)=true:=bN (by omega)
  by_cases hjk:j<k
  ·have N1:=aa (HN.out j hjk)
   go_wp2_with (go_at_call 21;refine N1.out.mono ?_;rintro e w' ⟨rfl,rfl⟩)
   go_round
   case rel=>exact⟨j+1,by omega,by omega,by go_num⟩
   case measure=>simp[intOf];omega
  ·obtain rfl:j=k:=by omega
   go_wp2_with (go_at_call 21;refine HI.out.mono ?_;rintro e w' ⟨rfl,rfl⟩)
   go_quiet (fail)
   go_wp2_with fail
   go_ret2
   exact⟨rfl,HB.out.trans ⟨rfl,rfl,rfl,ag _,fun _ _=>rfl⟩⟩
mutual
def CK:Ast→Nat
 | .mk h ks=>gB h (vY ks)
def vY:List Ast→List (Int×Nat)
 | []=>[]
 | k::ks=>(k.hd.kind,CK k)::vY ks
end
theorem ED (h:Nd) (k:List Int) (l:List (Int×Nat)):gB { h with kids:=k} l=gB h l:=rfl
mutual
theorem CL {T:List Nd} :∀(a:Ast) (i:Nat) (js:List Nat) (t:Lt),gp T a i js→Lt.In T t→t.loc=i→aH t=CK a∧t.hd.kind=a.hd.kind
 | .mk h xs,i,js,.mk j g ks,hr,hi,e=>by
  have e:j=i:=e;subst e;unfold gp at hr;unfold Lt.In at hi;obtain⟨x,rk,hx,he,hr2,rfl⟩:=hr;obtain⟨h1,h2,h3⟩:=hi;rw[hx] at h1;injection h1 with h1;subst h1;rw[h2] at hr2;have h4:=yw xs _ rk ks hr2 h3 rfl;rw[aH,CK,h4];rw[he];exact⟨ED h _ _,rfl⟩
theorem yw {T:List Nd} :∀(l:List Ast) (ks:List Int) (js:List Nat) (ts:List Lt),bj T l ks js→Lt.mW T ts→ks=ts.map (fun k=>(k.loc:Int))→mr ts=vY l
 | [],ks,js,ts,hr,_,e=>by
  unfold bj at hr;obtain⟨rfl,_⟩:=hr;cases ts with
  | nil=>rw[mr,vY]
  | cons t ts=>cases e
 | a::l,ks,js,ts,hr,hi,e=>by
  unfold bj at hr;obtain⟨k,gU,j1,j2,rfl,h1,h2,rfl⟩:=hr;cases ts with
  | nil=>cases e
  | cons t ts =>
   injection e with e1 e2;unfold Lt.mW at hi;have e1:(k:Int)=(t.loc:Int):=e1;have e3:t.loc=k:=by omega
   obtain⟨h3,h4⟩:=CL a k j1 t h1 hi.1 e3;rw[mr,vY,yw l gU j2 ts h2 hi.2 e2,h3,h4]
end
theorem tf {T:List Nd} {r:Int} (h:eY T r=true) :∀x∈T,x.kind=20→1≤x.num:=fun x hx hk=>by
 obtain⟨_,_,_,h4⟩:=(eh cL pw gM).1 h;obtain⟨i,hi⟩:=jc.1 hx;exact(Bj ((lF cL pw gM).1 (h4 i x hi)).2.1).count (.inl hk)
def OfN (n:Nat) (w:World) (e:Ending) (w':World):Prop :=
 Below w.heap.size w w'∧((n≤250∧∃g,e=.returned (.tuple #[.slice (some ⟨g,0,none⟩) 1 1,.int .i64 0])∧w'.cell? ⟨g,0,none⟩=some (.int .i64 (n:Int)))∨(250<n∧e=.returned (.tuple #[.slice none 0 0,.int .i64 13])))
theorem abY {s:ByteArray} {ts aA:List ak} {a:Ast} (hl:mH (dT s) s.data.toList (.ok ts)) (hp:PL yU ts (.ok (a,aA))) (hA:EC a) (hd:a.depth≤100) (jU:aI) (h0:oB a.lt=.ok jU) (h1:jU.fns.length=1) (n:Nat) (hn :∀x,jU.fns[0]? = some x→x.vars.length+CK a=n)
  (w:World) (hs:s.size≤4000) (hE:sz w):Calls Tryz.prog 12 #[.string s] w (OfN n w):=by
 have HE:=aa hE;have HS:=aa hs;have HP:=aa (Vc s w (by omega) hE fun im abX a2 h1 h2 h3=>(Vm hl hp hA im abX a2 h1 h2 h3).size)
 clear hE hs;go_enter Tryz.func12,Tryz.ntmps12
 go_wp2_with fail
 refine HP.out.mono ?_;rintro e w2 ⟨b2,o,ho,hm⟩;have e1:=hl.tX ho;subst e1;obtain⟨_,q,hq,hm⟩:=hm;have e2:=hp.one hq;subst e2;rcases hm with ⟨hd',_⟩ | ⟨_,v,T,p,rfl,hv,hL⟩
 ·exact absurd hd (by omega)
 obtain⟨t,hst⟩:=QS hA hd hL;obtain⟨js,r1,_,_,_⟩:=hL.alone;have kg:aH t=CK a:=(CL a p js t r1 hst.yT hst.loc).1;have hNY:=fun W (hW:iI W v T (p:Int))=>BH v T (p:Int) W hW hst.sml hst.right t (by rw[hst.loc]) hst.Wu hst.kind hst.few hst.wt hst.size (tf hst.right) (fun st h=>by
  have h2:=DQ h hst.Wu.nodup hst.Wu.wf;exact⟨by have:=h2.1;have:=hst.size;have:=hst.few;omega,h2.2.2.2⟩)
 have hrr:=Vi (ρ:=id) (fun _ _ h=>h) hst.sim
 rw[h0] at hrr;have key :∃st,oB t=.ok st∧st.fns.length=1∧∃x,st.fns[0]? = some x∧x.node=t.loc∧x.vars.length+aH t=n:=by
  cases hr:oB t with
  | error y=>rw[hr] at hrr;exact hrr.elim
  | ok st =>
   rw[hr] at hrr;have mM:FR id jU.fns st.fns:=hrr;have qv:st.fns.length=1:=by rw[mM.1,h1]
   have hx:st.fns[0]? = some (st.fns[0]'(by omega)):=bt _
   have hx0:jU.fns[0]? = some (jU.fns[0]'(by omega)):=bt _
   refine⟨st,rfl,qv,_,hx,(DQ hr hst.Wu.nodup hst.Wu.wf).2.2.1 _ hx,?_⟩;have wA:=(mM.2 0).len;rw[jZ,jZ,hx,hx0] at wA;rw[kg,←hn _ hx0];have wA:(st.fns[0]'(by omega)).vars.length=(jU.fns[0]'(by omega)).vars.length:=wA
   rw[wA]
 obtain⟨st,hr,qv,x,hx,WY,WZ⟩:=key;rw[hr] at hNY;obtain⟨nv,rfl,A,c,rfl,hc,hX⟩:=hv;have hv:iI w2 (.agg #[.slice A T.length c,.int .i64 ((p:Nat):Int)]) T ((p:Nat):Int):=⟨_,rfl,_,c,rfl,hc,hX⟩;have HNY:=aa (fun W (hW:Below w2.heap.size w2 W)=>hNY W (hv.below hW))
 have HST:=aa (And.intro hst.Wu hst.kind);have HX:=aa (And.intro qv (And.intro hx (And.intro WY WZ)));have B2:=aa b2;clear hl hp hA hd h0 h1 hn ho hq hL hst r1 kg hNY hrr hr qv hx WY WZ hX hv hc b2;go_wp2_with fail
 refine(HNY.out _ ((Below.refl _ _).alloc (ag _) _)).mono ?_;rintro e w4 ⟨b4,h4⟩;have B4:=aa (B2.out.trans ((((Below.refl _ _).alloc (ag _) _).trans (b4.mono (by rw[ao];omega))).mono B2.out.size))
 clear b4;rcases h4 with ⟨g,oo,rfl,hcell,hall⟩ | ⟨u,l,i,y,m,rfl,CU,hy,W8,vt⟩
 ·obtain⟨qv,hx,WY,WZ⟩:=HX.out
  obtain⟨W8,hle⟩:=hall 0 x hx;have Ud:=Ga HST.out.1 HST.out.2 WY W8;have hc0:=hcell 0 (by omega)
  rw[Ud,WZ] at hc0 hle;rw[qv];have HC:=aa (And.intro hc0 hle);clear hcell hall qv hx WY WZ W8 Ud hc0 hle;go_wp2_with fail
  refine(rh _).mono ?_;rintro e w5 ⟨rfl,rfl⟩;go_wp2_with fail
  go_ret2
  exact⟨B4.out,.inl ⟨HC.out.2,g,rfl,HC.out.1⟩⟩
 ·obtain⟨qv,hx,WY,WZ⟩:=HX.out
  have mC:i=0:=by have:=(aJ.1 hy).1;omega
  subst mC;rw[hx] at hy;injection hy with hy;subst hy;have Ud:=Ga HST.out.1 HST.out.2 WY W8;rw[Ud,WZ] at vt;have NY:=aa vt;have Nv:=aa CU;obtain⟨g,rfl,_⟩:=CU;clear qv hx WY WZ W8 Ud vt;go_wp2_with fail
  refine(zK _ l 13 _ (HE.out.below B4.out) ?_ (by omega)).mono ?_
  ·obtain⟨g',e1,e2⟩:=Nv.out
   exact⟨g',e1,e2⟩
  rintro e w5 ⟨rfl,b5⟩;have B5:=aa (B4.out.trans (b5.mono B4.out.size));clear b5;go_wp2_with fail
  go_ret2
  exact⟨B5.out,.inr ⟨NY.out,rfl⟩⟩
def qtF (q:UInt8):List UInt8→Option (List UInt8×List UInt8)
 | []=>none
 | c::r=>if c=q then some ([],r) else if c=10∨c=92 then none else (qtF q r).map fun x=>(c::x.1,x.2)
theorem yx {q:UInt8} :∀{l:List UInt8} {z:List UInt8×List UInt8},qtF q l=some z→zh q l (some z)
 | [],z,h=>by cases h
 | c::r,z,h=>by
  unfold qtF at h;by_cases h1:c=q
  ·rw[aj h1] at h
   injection h with h;rw[←h,h1];exact .shut
  ·rw[ae h1] at h
   by_cases h2:c=10∨c=92
   ·rw[aj h2] at h;cases h
   ·rw[ae h2] at h
    cases hq:qtF q r with
    | none=>rw[hq] at h;cases h
    | some x =>
     rw[hq] at h;injection h with h;rw[←h];exact .byte (o:=some x) h1 (fun e=>h2 (.inl e)) (fun e=>h2 (.inr e)) (yx hq)
def tkF:List UInt8→Option (Int×Int×List UInt8×List UInt8)
 | []=>none
 | c::r=>if wJ c then some (if qO ((c::r).takeWhile nI) then 2 else 1,0,(c::r).takeWhile nI,(c::r).dropWhile nI)
  else if gm c then (if qK 9223372036854775807 ((c::r).takeWhile pG) then some (3,zP (vu 9223372036854775807 ((c::r).takeWhile pG):Int),[],(c::r).dropWhile pG) else none)
  else if Gc c then (qtF c r).map fun x=>(4,0,x.1,x.2)
  else if 0<opn (c::r) then none
  else (sign (c::r)).map fun x=>(5,0,x.1,x.2)
theorem Kh {l:List UInt8} {z:Int×Int×List UInt8×List UInt8} (h:tkF l=some z):Tok l (some z):=by
 cases l with
 | nil=>cases h
 | cons c r =>
  change(if wJ c=true then some (if qO ((c::r).takeWhile nI) then 2 else 1,0,(c::r).takeWhile nI,(c::r).dropWhile nI)
   else if gm c=true then (if qK 9223372036854775807 ((c::r).takeWhile pG)=true then some (3,zP (vu 9223372036854775807 ((c::r).takeWhile pG):Int),[],(c::r).dropWhile pG) else none)
   else if Gc c=true then (qtF c r).map fun x=>(4,0,x.1,x.2)
   else if 0<opn (c::r) then none
   else (sign (c::r)).map fun x=>(5,0,x.1,x.2))=some z at h
  by_cases h1:wJ c=true
  ·rw[aj h1] at h
   rw[←h];exact .name h1
  ·rw[ae h1] at h
   have h1:wJ c=false:=by simpa using h1
   by_cases h2:gm c=true
   ·rw[aj h2] at h
    by_cases h3:qK 9223372036854775807 ((c::r).takeWhile pG)=true
    ·rw[aj h3] at h
     rw[←h];exact .num h1 h2 h3
    ·rw[ae h3] at h;cases h
   ·rw[ae h2] at h
    have h2:gm c=false:=by simpa using h2
    by_cases h3:Gc c=true
    ·rw[aj h3] at h
     cases hq:qtF c r with
     | none=>rw[hq] at h;cases h
     | some x =>
      rw[hq] at h;rw[←h];exact .text (o:=some x) h1 h2 h3 (yx hq)
    ·rw[ae h3] at h
     have h3:Gc c=false:=by simpa using h3
     by_cases h4:0<opn (c::r)
     ·rw[aj h4] at h;cases h
     ·rw[ae h4] at h
      rw[←h];exact .sign h1 h2 h3 h4
def lxF (L:Int):Nat→List UInt8→Option (List Tk)
 | 0,_=>none
 | n+1,l=>if Lib.hasPrefix (l.dropWhile tE) [45,45] then none else
  match l.dropWhile tE with
  | []=>some [(0,L,0,[])]
  | c::t=>match tkF (c::t) with
   | none=>none
   | some (k,m,s,r)=>(lxF L n r).map ((k,L-nl (c::t),m,s) :: ·)
theorem sD {L:Int} :∀(n:Nat) (l:List UInt8) (ts:List Tk),lxF L n l=some ts→mH L l (.ok ts)
 | 0,l,ts,h=>by cases h
 | n+1,l,ts,h=>by
  unfold lxF at h;by_cases hp:Lib.hasPrefix (l.dropWhile tE) [45,45]=true
  ·rw[aj hp] at h;cases h
  ·rw[ae hp] at h
   have hp:Lib.hasPrefix (l.dropWhile tE) [45,45]=false:=by simpa using hp
   cases hd:l.dropWhile tE with
   | nil =>
    rw[hd] at h hp;injection h with h;rw[←h];exact .eof (.done hd hp)
   | cons c t =>
    rw[hd] at h hp;dsimp only at h
    cases ht:tkF (c::t) with
    | none=>rw[ht] at h;cases h
    | some z =>
     obtain⟨k,m,s,r⟩:=z;rw[ht] at h;dsimp only at h
     cases hr:lxF L n r with
     | none=>rw[hr] at h;cases h
     | some aA =>
      rw[hr] at h;injection h with h;rw[←h];exact .step (o:=.ok aA) (.done hd hp) (by simp) (Kh ht) (sD n r aA hr)
end Go.Proofs.YtodmcdfeldkocaaGreatDoor
namespace Go.Proofs.YtodmcdfeldkocaaGreatDoor
section
variable {N:Type} {V:N→Type} (body :∀n,G N V (V n))
def run:Nat→{α:Type}→G N V α→List ak→Option (Except Int (α×List ak))
 | 0,_,_,_=>none
 | _+1,_,.ret a,ts=>some (.ok (a,ts))
 | _+1,_,.bad,[]=>none
 | _+1,_,.bad,t::_=>some (.error t.2.1)
 | _+1,_,.tok _,[]=>none
 | n+1,_,.tok f,t::ts=>run n (f t) ts
 | _+1,_,.look _,[]=>none
 | n+1,_,.look f,t::ts=>run n (f t) (t::ts)
 | n+1,_,.call m k,ts=>match run n (body m) ts with
  | none=>none
  | some (.error e)=>some (.error e)
  | some (.ok p)=>run n (k p.1) p.2
variable {body}
theorem yy :∀(n:Nat) {α:Type} (g:G N V α) (ts:List ak) (r:Except Int (α×List ak)),run body n g ts=some r→P body g ts r:=by
 intro n;induction n with
 | zero=>intro α g ts r h;cases h
 | succ n ih =>
  intro α g ts r h;cases g with
  | ret a =>
   rw[run] at h;rw[←gu h];exact .ret
  | bad =>
   cases ts with
   | nil=>rw[run] at h;cases h
   | cons t ts =>
    rw[run] at h;rw[←gu h];exact .bad
  | tok f =>
   cases ts with
   | nil=>rw[run] at h;cases h
   | cons t ts=>rw[run] at h;exact .tok (ih _ _ _ h)
  | look f =>
   cases ts with
   | nil=>rw[run] at h;cases h
   | cons t ts=>rw[run] at h;exact .look (ih _ _ _ h)
  | call m k =>
   rw[run] at h;cases e:run body n (body m) ts with
   | none=>rw[e] at h;cases h
   | some q =>
    rw[e] at h;cases q with
    | error x =>
     rw[←gu h];exact .iz (ih _ _ _ e)
    | ok p=>exact .call (ih _ _ (.ok (p.1,p.2)) e) (ih _ _ _ h)
end
def GR (s:List UInt8):ak:=(1,1,0,s)
def th (s:List UInt8):ak:=(5,1,0,s)
end Go.Proofs.YtodmcdfeldkocaaGreatDoor
namespace Go.Proofs.YtodmcdfeldkocaaGreatDoor
open Go.RowKit
def abZ (s:List UInt8):ak:=(2,1,0,s)
def Vn (n:Int):ak:=(3,1,n,[])
def Vo:ByteArray:=⟨#[114,101,116,117,114,110,32,102,40,49,44,32,103,40,50,44,32,51,41,41]⟩
def Vp:ByteArray:=⟨#[108,111,99,97,108,32,97,44,32,98,32,61,32,49]⟩
def Xa:List ak:=[abZ lV,GR [102],th [40],Vn 1,th [44],GR [103],th [40],Vn 2,th [44],Vn 3,th [41],th [41],TP]
def Xb:List ak:=[abZ nw,GR [97],th [44],GR [98],th [61],Vn 1,TP]
def QT:Ast:=nd 18 1 [nd 29 1 [nd 9 1 [oE 7 1 (bG [102]) [],Dv 4 1 1 [],nd 9 1 [oE 7 1 (bG [103]) [],Dv 4 1 2 [],Dv 4 1 3 []]]]]
def QU:Ast:=nd 18 1 [Il 19 1 0 [bG [97],bG [98]] [Dv 4 1 1 []]]
theorem ab0:PL yU Xa (.ok (QT,[TP])):=yy 100 _ _ _ rfl
theorem ab1:PL yU Xb (.ok (QU,[TP])):=yy 100 _ _ _ rfl
theorem adO:lxF (dT Vo) (Vo.data.toList.length+1) Vo.data.toList=some Xa:=by decide +kernel
theorem lexB:lxF (dT Vp) (Vp.data.toList.length+1) Vp.data.toList=some Xb:=by decide +kernel
theorem okA:EC QT:=⟨by decide +kernel,rfl,by simp[QT,Zx,SmL,SmN,nd,oE,Dv,bG];decide +kernel,by decide +kernel,by decide +kernel⟩
theorem okB:EC QU:=⟨by decide +kernel,rfl,by simp[QU,Zx,SmL,SmN,nd,Il,Dv,bG];decide +kernel,by decide +kernel,by decide +kernel⟩
theorem ofA (w:World) (hE:sz w):Calls Tryz.prog 12 #[.string Vo] w fun e w'=>Below w.heap.size w w'∧∃g,e=.returned (.tuple #[.slice (some ⟨g,0,none⟩) 1 1,.int .i64 0])∧w'.cell? ⟨g,0,none⟩=some (.int .i64 5) :=
 (abY (sD _ _ _ adO) ab0 okA (by decide +kernel) _ rfl rfl 5 (fun x hx=>by injection hx with hx;subst hx;decide +kernel) w (by decide) hE).mono fun e w' ⟨hb,h⟩=>by
  rcases h with ⟨_,g,h1,h2⟩ | ⟨h,_⟩
  ·exact⟨hb,g,h1,h2⟩
  ·omega
theorem ofB (w:World) (hE:sz w):Calls Tryz.prog 12 #[.string Vp] w fun e w'=>Below w.heap.size w w'∧∃g,e=.returned (.tuple #[.slice (some ⟨g,0,none⟩) 1 1,.int .i64 0])∧w'.cell? ⟨g,0,none⟩=some (.int .i64 3) :=
 (abY (sD _ _ _ lexB) ab1 okB (by decide +kernel) _ rfl rfl 3 (fun x hx=>by injection hx with hx;subst hx;decide +kernel) w (by decide) hE).mono fun e w' ⟨hb,h⟩=>by
  rcases h with ⟨_,g,h1,h2⟩ | ⟨h,_⟩
  ·exact⟨hb,g,h1,h2⟩
  ·omega
theorem Vq (w:World) (hE:sz w):Calls Tryz.prog 7 #[] w fun e w'=>e=.returned (.bool true)∧Below w.heap.size w w':=by
 have A1:=aa (ofA w hE);have A2:=aa (fun w' (h:Below w.heap.size w w')=>ofB w' (hE.below h))
 clear hE;go_enter Tryz.func7,Tryz.ntmps7
 go_wp2_with fail
 refine A1.out.mono ?_;rintro e w1 ⟨b1,g1,rfl,c1⟩;have B1:=aa b1;have C1:=aa c1;clear b1 c1;go_wp2_with fail
 refine(A2.out w1 B1.out).mono ?_;rintro e w2 ⟨b2,g2,rfl,c2⟩;have c1:=(b2.cell (p:=⟨g1,0,none⟩) (block_lt_of_cell C1.out)).trans C1.out;have B2:=aa (B1.out.trans (b2.mono B1.out.size));clear b2;go_wp2_with fail
 go_ret
 exact⟨rfl,B2.out⟩
structure RdR (T:List Nd):Prop where
 nl :∀x∈T,x.names.length≤140737488355328
 kl :∀x∈T,x.kids.length≤140737488355328
def Ng (x:Nd):Prop:=x.s.size≤20000∧x.names.length≤4000∧x.kids.length≤4000
def Vr (l:List Nd):Nat:=(l.map fun x=>x.names.length).sum
theorem QV (l:List Nd) (x:Nd):Vr (l++[x])=Vr l+x.names.length:=by unfold Vr;simp
def Ki (T:List Nd) (w:World) (e:Ending) (w':World):Prop:=∃b,e=.returned (.bool b)∧(b=false→T.length≤4000∧Vr T≤4000∧∀x∈T,Ng x)∧Below w.heap.size w w'
theorem EE (v:Value) (T:List Nd) (r:Int) (w:World) (h:iI w v T r) (hr:RdR T):Calls Tryz.prog 8 #[v] w (Ki T w):=by
 obtain⟨nv,rfl,A,c,rfl,hc,hn⟩:=h;have HN:=aa hn;have HR:=aa hr;clear hn hr;go_enter Tryz.func8,Tryz.ntmps8
 go_wp2_with fail
 go_loopw [3,11] (fun n i wr=>∃(k:Nat) (N:Int),k≤T.length∧i=.int .i64 (k:Int)∧n=.int .i64 N∧(k:Int)+(Vr (T.take k):Int)≤N∧N≤4000∧(∀x∈T.take k,Ng x)∧Below w.heap.size w wr) (fun _ i _=>T.length-(intOf i).toNat)
 case atStart=>exact⟨0,0,bg _,rfl,rfl,by simp[Vr],by decide,fun x hx=>by simp at hx,bu _ _⟩
 case round =>
  obtain⟨k,N,hk,rfl,rfl,ab2,hN,hng,hbl⟩:=hrel;have qG:=aa ab2;have hkN:(k:Int)≤N:=by omega
  clear ab2;have HNG:=aa hng;have HB:=aa hbl;clear hng hbl;by_cases hlt:k<T.length
  ·obtain⟨x,Rh⟩ :∃x,T[k]? = some x:=⟨T[k],bt hlt⟩
   have FK:=aV Rh;rcases HN.out with h0 | ⟨b,o,rfl,hb,hx⟩
   ·rw[h0] at hlt;exact absurd hlt (iF _)
   obtain⟨u7,u9,eL,hst,y8⟩:=hx k x Rh;obtain⟨c0,c1,c2,c3,c4,c5,c6⟩:=eL.below HB.out hb;have iV:=HR.out.nl x FK;have wo:=HR.out.kl x FK;have Wr:Hid (T.take (k+1)=T.take k++[x]):=aa (jA T k x Rh);obtain⟨SA,sc,rfl,_,Yp⟩:=hst;obtain⟨UA,uc,rfl,_,_⟩:=y8;have HSA:=aa Yp;have Yx:=aa (bu wr (.cells #[.int .i64 x.kind,.int .i64 x.line,.int .i64 x.op,.int .i64 x.num,.string x.s,.slice SA x.names.length sc,.slice UA x.kids.length uc] 54));have hsz:=HB.out.size;have We:=aa (HB.out.trans (Yx.out.mono hsz));have wG:=aa hlt;clear hx Rh eL Yp FK;by_cases Rb:20000<x.s.size
   ·have g:decide ((20000:Int)<(x.s.size:Int))=true:=bN (by omega)
    go_wp2_with fail
    go_ret
    exact⟨true,rfl,(fun h=>absurd h (by decide)),We.out⟩
   ·have g:decide ((20000:Int)<(x.s.size:Int))=false:=bM (by omega)
    go_wp2_with fail
    clear c0 c1 c2 c3 c4 c5 c6;go_loop [3,38] (fun n j=>∃(q:Nat) (M:Int),q≤x.names.length∧j=.int .i64 (q:Int)∧n=.int .i64 M∧N+(1+(x.kids.length:Int)+x.names.length)≤M∧M≤N+(1+(x.kids.length:Int)+(x.names.length:Int)+(x.s.size:Int) / 50)+2000*q) (fun _ j=>x.names.length-(intOf j).toNat)
    case atStart=>exact⟨0,_,bg _,rfl,rfl,by omega,by omega⟩
    case round =>
     obtain⟨q,M,hq,rfl,rfl,hM0,hM1⟩:=hrel;by_cases hqn:q<x.names.length
     ·obtain⟨y,hy⟩ :∃y,x.names[q]? = some y:=⟨x.names[q],bt hqn⟩
      rcases HSA.out with h0 | ⟨b2,o2,rfl,hb2,hc2⟩
      ·rw[h0] at hqn;exact absurd hqn (iF _)
      have ck:=(We.out.cell (p:=⟨b2,o2+q,none⟩) hb2).trans (hc2 q y hy);have HQ:=aa hqn;clear hc2 hy;by_cases hyl:y.size≤100000
      ·go_wp2_with fail
       exact⟨⟨q+1,_,by have:=HQ.out;omega,by go_num,rfl,by omega,by omega⟩,by have:=HQ.out;simp[intOf];omega⟩
      ·go_wp2_with fail
       exact⟨⟨q+1,_,by have:=HQ.out;omega,by go_num,rfl,by omega,by omega⟩,by have:=HQ.out;simp[intOf];omega⟩
     ·by_cases vt:4000<M
      ·have g4:decide ((4000:Int)<M)=true:=bN vt
       go_wp2_with fail
       go_ret
       exact⟨true,rfl,(fun h=>absurd h (by decide)),We.out⟩
      ·have g4:decide ((4000:Int)<M)=false:=bM vt
       go_wp2_with fail
       go_roundw
       case rel=>exact⟨k+1,M,by have:=wG.out;omega,by go_num,rfl,by have h1:=qG.out;have h2:=QV (T.take k) x;rw[←Wr.out] at h2;omega,by omega,by
        rw[Wr.out];intro z hz;rcases cU.1 hz with hz|hz
        ·exact HNG.out z hz
        ·obtain rfl:=bR.1 hz
         exact⟨by omega,by omega,by omega⟩,We.out⟩
       case measure=>have:=wG.out;simp[intOf];omega
  ·have hall:T.take k=T:=sF (by omega)
   go_wp2_with fail
   go_ret
   exact⟨false,rfl,fun _=>⟨by omega,by have h1:=qG.out;rw[hall] at h1;omega,by rw[←hall];exact HNG.out⟩,HB.out⟩
mutual
theorem GS {T:List Nd} :∀t:Lt,Lt.In T t→t.wt=(t.dr.map fun j=>(T[j]?.map fun x=>x.names.length).getD 0).sum
 | .mk i h ks,hi=>by
  unfold Lt.In at hi;obtain⟨hx,_,hs⟩:=hi;rw[Lt.wt,Lt.dr,dS,um,hx,CN ks hs];rfl
theorem CN {T:List Nd} :∀ks:List Lt,Lt.mW T ks→Lt.fu ks=((Lt.aR ks).map fun j=>(T[j]?.map fun x=>x.names.length).getD 0).sum
 | [],_=>by rw[Lt.fu,Lt.aR];rfl
 | k::ks,hi=>by
  unfold Lt.mW at hi;rw[Lt.fu,Lt.aR,kN,List.sum_append,GS k hi.1,CN ks hi.2]
end
theorem QW (T:List Nd):((List.range T.length).map fun j=>(T[j]?.map fun x=>x.names.length).getD 0).sum=Vr T:=by
 unfold Vr;congr 1
 refine KW fun i=>?_
 rw[ef,ef];by_cases hi:i<T.length
 ·rw[z7 hi,bt hi]
  simp[bt hi]
 ·rw[ui (by simpa using hi),ui (by omega)]
  rfl
theorem aae {T:List Nd} {t:Lt} (hi:Lt.In T t) (hn:t.dr.Nodup) (ha :∀j,j<T.length↔j∈t.dr):t.wt=Vr T∧t.size=T.length:=by
 have hp:(List.range T.length).Perm t.dr:=(List.perm_ext_iff_of_nodup List.nodup_range hn).2 fun j=>by rw[sI];exact ha j
 exact⟨by rw[GS t hi,←QW];exact((hp.map _).sum_nat).symm,by rw[←Lt.rC,←hp.length_eq,List.length_range]⟩
theorem QX {t:Lt} {x:dm} {n:Nat} (h:NfP t x n):x.vars.length≤n:=by
 obtain⟨_,_,_,h⟩:=h;omega
theorem jy {w w':World} {v:Value} {n k:Int} (h:tl w v n k) (hb:Below w.heap.size w w'):tl w' v n k:=by
 obtain⟨g,e1,e2⟩:=h;exact⟨g,e1,(hb.block g (aM.1 e2).1).trans e2⟩
theorem EF (v:Value) (T:List Nd) (r:Int) (w:World) (h:iI w v T r) (hr:RdR T) (hE:sz w):Calls Tryz.prog 3 #[v] w fun e w'=>e=.returned (.bool true)∧Below w.heap.size w w':=by
 have HT:=aa h;have HRD:=aa hr;have HE:=aa hE;obtain⟨nv,rfl,A,c,rfl,hc,hX⟩:=h;clear hr hE hX;go_enter Tryz.func3,Tryz.ntmps3
 go_wp2_with fail
 have eB:=heap_alloc_new w (.cells #[.slice A T.length c,.int .i64 r] 24);have hb0:Below w.heap.size w (w.alloc (.cells #[.slice A T.length c,.int .i64 r] 24)):=(Below.refl _ _).alloc (ag _) _;have hs0:(w.alloc (.cells #[.slice A T.length c,.int .i64 r] 24)).heap.size=w.heap.size+1:=ao _ _;generalize w.alloc (.cells #[.slice A T.length c,.int .i64 r] 24)=W0 at eB hb0 hs0 ⊢;have B0:=aa hb0;have X0:=aa eB;have S0:=aa hs0;clear eB hb0 hs0;refine(Vq W0 (HE.out.below B0.out)).mono ?_;rintro e w1 ⟨rfl,b1⟩;have B1:=aa (B0.out.trans (b1.mono B0.out.size));have X1:=aa ((b1.block w.heap.size (by rw[S0.out];omega)).trans X0.out)
 have t0:w1.cell? ⟨w.heap.size,0,none⟩=some (.slice A T.length c):=ab X1.out 0;have t1:w1.cell? ⟨w.heap.size,1,none⟩=some (.int .i64 r):=ab X1.out 1;clear b1;go_wp2_with fail
 refine(EE _ T r w1 (HT.out.below B1.out) HRD.out).mono ?_;rintro e w2 ⟨bb,rfl,hg,b2⟩;have B2:=aa (B1.out.trans (b2.mono B1.out.size));have X2:=aa ((b2.block w.heap.size (aM.1 X1.out).1).trans X1.out);have HG:=aa hg;clear b2 hg t0 t1;have t0:w2.cell? ⟨w.heap.size,0,none⟩=some (.slice A T.length c):=ab X2.out 0;have t1:w2.cell? ⟨w.heap.size,1,none⟩=some (.int .i64 r):=ab X2.out 1;cases bb with
 | true =>
  go_wp2_with fail
  go_ret
  exact⟨rfl,B2.out⟩
 | false =>
  have FI:Szd T:=fun x hx=>by have:=((HG.out rfl).2.2 x hx).2.1;omega
  obtain⟨t,R,hne,hre,her,wk⟩ :∃(t:Lt) (R:Rs aI),(Calls Tryz.prog 9 #[.agg #[.slice A T.length c,.int .i64 r]] w2 fun e w'=>Below w2.heap.size w2 w'∧BG t R e w') ∧
    (∀W,Below w.heap.size w W→Calls Tryz.prog 10 #[.agg #[.slice A T.length c,.int .i64 r]] W fun e w'=>Below W.heap.size W w'∧FT W.heap.size T.length R e w')∧(∀x,R=.error x→∃k:Nat,x.1=(k:Int)∧1≤k∧k≤19)∧∀st,R=.ok st→st.fns.length≤20000∧1≤st.fns.length:=by
   by_cases hR:eY T r=true
   ·have hsm:Sml T:=⟨fun x hx=>by
      have:=(HG.out rfl).2.2 x hx;exact⟨by have:=this.2.2;omega,by have:=this.2.1;omega⟩,fun x hx=>⟨by have:=((HG.out rfl).2.2 x hx).1;omega,te hR x hx⟩⟩
    obtain⟨t,q1,q2,q3,q4,q5,q6⟩:=Nx hR;obtain⟨e1,e2⟩:=aae q1 q3 q4;have hlen:=(HG.out rfl).1;have Lf:=(HG.out rfl).2.1;have wk:=fun st (h:oB t=.ok st)=>DQ h q3 q5.wf
    exact⟨t,oB t,BH _ T r w2 (HT.out.below B2.out) hsm hR t q2 q5 q6 (by omega) (by omega) e2 (tf hR) fun st h=>⟨by have:=(wk st h).1;omega,(wk st h).2.2.2⟩,
     fun W hW=>sW _ T r W (HT.out.below hW) hsm hR t q2 q5 q6 (by omega) (by omega) e2,fun x h=>by
      obtain⟨k,h1,h2⟩:=Vl t x h;exact⟨k,h1,by omega⟩,fun st h=>⟨by have:=(wk st h).1;omega,(wk st h).2.1⟩⟩
   ·have hR:eY T r=false:=by simpa using hR
    exact⟨.mk 0 ⟨0,0,0,0,⟨#[]⟩,[],[]⟩ [],.error (4,0),SZ _ T r w2 (HT.out.below B2.out) FI hR,fun W hW=>vr _ T r W (HT.out.below hW) FI hR,fun x h=>⟨4,by injection h with h;rw[←h];rfl,by omega⟩,fun st h=>by cases h⟩
  have HNE:=aa hne;have Nb:=aa hre;have Ni:=aa her;have HFO:=aa wk;clear FI hne hre her wk;go_wp2_with fail
  refine HNE.out.mono ?_;rintro e w3 ⟨b3,h3⟩;have B3:=aa (B2.out.trans (b3.mono B2.out.size));have X3:=aa ((b3.block w.heap.size (aM.1 X2.out).1).trans X2.out);clear b3 t0 t1;have t0:w3.cell? ⟨w.heap.size,0,none⟩=some (.slice A T.length c):=ab X3.out 0;have t1:w3.cell? ⟨w.heap.size,1,none⟩=some (.int .i64 r):=ab X3.out 1;cases R with
  | error x =>
   obtain⟨u,rfl,hf⟩:=h3;have HF:=aa hf;obtain⟨g,rfl,_⟩:=hf;obtain⟨k,hk,hk8⟩:=Ni.out x rfl;go_wp2_with fail
   refine(Nb.out w3 B3.out).mono ?_;rintro e w4 ⟨b4,u,rfl,hf4⟩;have HF4:=aa hf4;have zN:=aa (jy HF.out b4);have B4:=aa (B3.out.trans (b4.mono B3.out.size));obtain⟨g4,rfl,_⟩:=hf4;unfold qH;clear b4;go_wp2_with fail
   have pV:=(Below.refl w4.heap.size w4).alloc (ag _) (.cells #[.slice none 0 0,.slice none 0 0,.slice none 0 0] 35);have h5:=jy zN.out pV;have h6:=jy HF4.out pV;rw[hk] at h5 h6;have H6:=aa h6;have B5:=aa (B4.out.trans (pV.mono B4.out.size));refine(zK _ x.2 k _ (HE.out.below B5.out) h5 (by omega)).mono ?_
   rintro e w6 ⟨rfl,b6⟩;have B6:=aa (B5.out.trans (b6.mono B5.out.size));have H7:=aa (jy H6.out b6);clear b6 h5 h6 pV;go_wp2_with fail
   refine(zK _ x.2 k _ (HE.out.below B6.out) H7.out (by omega)).mono ?_
   rintro e w7 ⟨rfl,b7⟩;have B7:=aa (B6.out.trans (b7.mono B6.out.size));clear b7;go_wp2_with fail
   go_ret
   exact⟨rfl,B7.out⟩
  | ok st =>
   obtain⟨CU,hfp⟩:=HFO.out st rfl;rcases h3 with ⟨g,oo,rfl,hcell,hall⟩ | ⟨u,l,i,y,m,rfl,ab3,_,_,_⟩
   ·have HC:=aa hcell
    have HA:=aa hall;have oT:=block_lt_of_cell (hcell 0 (by omega))
    clear hcell hall;go_wp2_with fail
    refine(Nb.out w3 B3.out).mono ?_;rintro e w4 ⟨b4,u,B',hB',rfl,fv,ub,ob,L,rfl,hz1,hz2,_,_⟩;have B4:=aa (B3.out.trans (b4.mono B3.out.size));have HC4:=aa (fun j hj=>(b4.cell (p:=⟨g,j,none⟩) oT).trans (HC.out j hj))
    obtain⟨FA,fc,rfl,_,_⟩:=dM hz1.row;have sQ:L.length=st.fns.length:=by rw[←hz2,bS]
    rw[sQ] at hz1 ⊢;have HZ:=aa hz1;have HZ2:=aa hz2;have abU:g<w4.heap.size:=cw oT b4.size;clear b4 hz1 hz2 oT;go_wp2_with fail
    refine(rh _).mono ?_;rintro e w5 ⟨rfl,rfl⟩;go_wp2_with fail
    refine(rh _).mono ?_;rintro e w5 ⟨rfl,rfl⟩;obtain⟨w5,ix⟩ :∃w5,w5=w4.alloc (.cells #[.slice FA st.fns.length fc,.slice (some ⟨ub,0,none⟩) T.length T.length,.slice (some ⟨ob,0,none⟩) T.length T.length] 35):=⟨_,rfl⟩;rw[←ix];have pV:Below w4.heap.size w4 w5:=by rw[ix];exact(Below.refl _ _).alloc (ag _) _
    have adP:w5.cell? ⟨w4.heap.size,0,none⟩=some (.slice FA st.fns.length fc):=by rw[ix];simp[go_sem]
    have B5:=aa pV;have hlt5:=block_lt_of_cell adP;clear ix pV;go_wp2_with fail
    go_loopw [70] (fun i wr=>∃k:Nat,i=.int .i64 (k:Int)∧k≤st.fns.length∧Below w5.heap.size w5 wr) (fun i _=>st.fns.length-(intOf i).toNat)
    case atStart=>exact⟨0,rfl,bg _,Below.refl _ _⟩
    case round =>
     obtain⟨k,rfl,hk,hbr⟩:=hrel;have oD:=aa hbr;have ab4:Below w4.heap.size w4 wr:=B5.out.trans (hbr.mono B5.out.size);have XG:=aa ab4;clear hbr ab4;by_cases hlt:k<st.fns.length
     ·obtain⟨x,hx⟩ :∃x,st.fns[k]? = some x:=⟨st.fns[k],bt hlt⟩
      obtain⟨gg,cc,VA,vc,UA,uc,e,oY,f0,f1,f2,f3,f4,f5⟩:=(HZ.out.NW XG.out).six HZ2.out hx;injection e with e1 _ e2;subst e1 e2;obtain⟨W8,hle⟩:=HA.out k x hx;have hge:=QX W8;have n0:=(XG.out.cell (p:=⟨g,k,none⟩) abU).trans (HC4.out k hlt);have n1:=block_lt_of_cell n0;have g1:decide ((oo k:Int)<(x.vars.length:Int))=false:=bM (by omega)
      have g2:decide ((250:Int)<(oo k:Int))=false:=bM (by omega)
      have g3:decide (oo k<x.vars.length)=false:=bM (by omega)
      generalize oo k=m at n0 hle hge g1 g2 g3;have iM:=aa hlt;clear hx W8 hle hge;go_wp2_with fail
      go_quiet (fail)
      go_wp2_with fail
      exact⟨⟨k+1,by go_num,iM.out,below_drewN (oD.out.alloc oD.out.size _) _⟩,by have:=iM.out;simp[intOf];omega⟩
     ·have rm:k=st.fns.length:=by omega
      have adQ:=aa (B4.out.trans (XG.out.mono B4.out.size));go_wp2_with fail
      go_ret
      exact⟨rfl,adQ.out⟩
   ·have HF:=aa ab3
    obtain⟨g,rfl,_⟩:=ab3;go_wp2_with fail
    refine(Nb.out w3 B3.out).mono ?_;rintro e w4 ⟨b4,u,B',hB',rfl,fv,ub,ob,L,rfl,hz1,_,_,_⟩;have B4:=aa (B3.out.trans (b4.mono B3.out.size));have zN:=aa (jy HF.out b4);obtain⟨FA,fc,rfl,_,_⟩:=dM hz1.row;clear b4 hz1;go_wp2_with fail
    have pV:=(Below.refl w4.heap.size w4).alloc (ag _) (.cells #[.slice FA L.length fc,.slice (some ⟨ub,0,none⟩) T.length T.length,.slice (some ⟨ob,0,none⟩) T.length T.length] 35);have B5:=aa (B4.out.trans (pV.mono B4.out.size));refine(zK _ l 13 _ (HE.out.below B5.out) (jy zN.out pV) (by omega)).mono ?_
    rintro e w6 ⟨rfl,b6⟩;have B6:=aa (B5.out.trans (b6.mono B5.out.size));clear b6 pV;go_wp2_with fail
    refine(rh _).mono ?_;rintro e w7 ⟨rfl,rfl⟩;go_wp2_with fail
    go_ret
    exact⟨rfl,B6.out⟩
end Go.Proofs.YtodmcdfeldkocaaGreatDoor
namespace Go.Proofs.YtodmcdfeldkocaaGreatDoor
open Go.ChangeShapes Go.WideShapes Go.ChangeAt Go.WideMaps Go.WideElems Go.RowKit Go.ChangeMaps
theorem own:ownKnob Tryz.prog.godebug=Option.none:=by kernel_rfl
theorem laidOut:laidOutB Tryz.prog=true:=by kernel_rfl
abbrev yz:List (String×DataW Unit):=[("unicode/utf8.acceptRanges",Rows.laid_unicode_utf8_acceptRanges),("errors.errorType",Rows.laid_errors_errorType),("unicode/utf8.first",Rows.laid_unicode_utf8_first)]
abbrev sE:List (String×DataW Unit):=[("unicode/utf8.acceptRanges",Rows.laid_unicode_utf8_acceptRanges),("unicode/utf8.first",Rows.laid_unicode_utf8_first)]
noncomputable def hand (os:Os):World :=
 { World.holding Tryz.prog os ⟨#[],#[],[]⟩ with heap:=(World.holding Tryz.prog os ⟨#[],#[],[]⟩).heap.modify 0 fun
   | .cells _ t frozen=>.cells #[.iface 158 (.agg #[.pointer (some ⟨4,29,Option.none⟩)])] t frozen
   | o=>o}
noncomputable def door (os:Os) (l:List (String×DataW Unit)):World:=(hand os).layVars Tryz.prog l
theorem Vs (os:Os) (l:List (String×DataW Unit)):(door os l).os=os:=World.layVars_os _ _ _
theorem zL (os:Os):(door os sE).Shaped Tryz.prog:=World.shaped_of_ZipB (by kernel_rfl) (by kernel_rfl)
theorem Kj (os:Os) (l:List (String×DataW Unit)) (hf:(hand os).layFits Tryz.prog l []=true) (hi:(hand os).layIfaces Tryz.prog l (door os l)=true):laidMet Tryz.prog l (door os l):=by
 have e1:(l.filter fun x=>(l.map (·.1)).contains x.1)=l:=List.filter_eq_self.2 fun x hx=>List.contains_iff_mem.2 (eJ.2 ⟨x,hx,rfl⟩)
 have e2:(l.filter fun x=>!(l.map (·.1)).contains x.1)=[]:=List.filter_eq_nil_iff.2 fun x hx=>by rw[List.contains_iff_mem.2 (eJ.2 ⟨x,hx,rfl⟩)];simp
 exact laidMet_layVars (w0:=hand os) (l.map (·.1)) [] (by rw[e1];rfl) (by rw[e1];exact hf) (by rw[e1];exact hi) (by rw[e2];exact LaidIn.none)
theorem Kk (os:Os) (args:Array Value):laidMetH Tryz.prog yz ((door os sE).forCall (fun _ _=>0) ⟨#[],args,[]⟩).memory:=by
 have h:laidMetH Tryz.prog yz (door os sE):=laidMetH_of_parts (Kj os sE (by kernel_rfl) (by kernel_rfl)) (by kernel_rfl)
 exact h.of_heap (by simp[World.memory,World.forCall,Input.heap])
theorem ab5 {W:World} (h:W.ShapedOpen Tryz.prog):Mx W:=Go.Proofs.cell_of_shapedOpen_int (zero:=#[.int .i64 0]) (t:=3) h (gT (by kernel_rfl)) (by kernel_rfl) rfl (by kernel_rfl) (by kernel_rfl) Tryz.underlying3
theorem aaf {W:World} (h:W.ShapedOpen Tryz.prog):4≤W.heap.size:=by
 have k:(((begin Tryz.prog (fun _ _=>0) default).world.heap[4-1]?).bind Obj.row?).isSome=true:=by kernel_rfl
 obtain⟨⟨zero,t⟩,hz⟩:=zX.1 k;obtain⟨cs,hc,_⟩:=h.1 (4-1) zero t (gT (by kernel_rfl)) hz
 have:=(aM.1 hc).1;omega
theorem Tryz.et:Tryz.prog.globalNamed "errors.errorType" = some 0:=by kernel_rfl
theorem Tryz.rt:(Tryz.prog.cutTypes.find? (·.1 == "internal/reflectlite.rtype")).map (·.2)=some 158:=by kernel_rfl
theorem Tryz.ab6:Tryz.prog.types.size=(392-100):=by kernel_rfl
theorem Tryz.aag:((List.range (392-100)).filter fun t=>Tryz.prog.rowNamed t [101,114,114,111,114])=[29]:=by kernel_rfl
theorem CO {W:World} (h:handlesMet Tryz.prog [("errors.errorType",Rows.laid_errors_errorType)] W):W.cell? ⟨0,0,Option.none⟩=some (.iface 158 (.agg #[.pointer (some ⟨4,29,Option.none⟩)])):=by
 obtain⟨name,u,ty,e1,e2,e3,e4,e5⟩:=h _ (bR.2 rfl);have en:name=[101,114,114,111,114]:=(gu e1).symm;subst en;obtain rfl:=gu (Tryz.rt.symm.trans e2);have hm:ty∈(List.range (392-100)).filter fun t=>Tryz.prog.rowNamed t [101,114,114,111,114]:=wY.2 ⟨sI.2 (by rw[←Tryz.ab6];exact e3),e4⟩
 rw[Tryz.aag] at hm;obtain rfl:=bR.1 hm;have hh:typeHandle Tryz.prog 29=.pointer (some ⟨4,29,Option.none⟩):=by kernel_rfl
 rw[hh] at e5;simpa using World.var?_cell Tryz.et e5 0
theorem adR {W:World} (hs:W.ShapedOpen Tryz.prog) (h:laidMetH Tryz.prog yz W):sz W:=by
 have h':laidMet Tryz.prog sE W∧handlesMet Tryz.prog [("errors.errorType",Rows.laid_errors_errorType)] W:=h;exact⟨ab5 hs,CO h'.2,aaf hs⟩
theorem handed {H:Type} {enc:TypeId×Value→H} {C:Checked} {os:Os} {f:FuncId} {fn:Func} {s:ChangeSpec} {X:World→Array Value→Prop}
  (hX :∀(w w':World) (args:Array Value),w.heap=w'.heap→X w args→X w' args) (own:ownKnob C.prog.godebug=Option.none) (started:os.Started) (aah:C.prog.inits.idxOf? f=Option.none) (hfn:C.prog.funcs[f]? = some fn)
  (witness :∃(w:World) (tape:Tape) (i:Input),w.os=os∧(w.forCall tape i).Shaped C.prog∧i.vars=[]∧Input.okWide C.prog (w.forCall tape i) .any w.heap.size f i ∧
   ((s.pre enc C.prog fn [] false (w.forCall tape i).memory i.args∧X (w.forCall tape i).memory i.args)∧sizedMet enc C.prog fn (OpenSpec.ofChange s) false (w.forCall tape i).memory i.args)∧({}:Assume).holds C.prog (lone (Frame.enter C.prog f i.args .normal) [] (w.forCall tape i)))
  (contract :∀(W:World) (base:Nat) (args:Array Value) (ds gs:List (DataW H)) (before:List MemPlace),
   (∀(j:Nat) t v,fn.params[j]? = some t→args[j]? = some v→Value.okWide C.prog W .any base t v) →
   DataW.Whole enc C.prog fn.params.toList s.vars false W args.toList ds gs before→X W args→W.ShapedOpen C.prog →
   (DataW.weightsEach C.prog (fn.params.toList++(OpenSpec.ofChange s).bare.plain.varTypes C.prog) (ds++gs)).all (·≤reachBytes)=true →
   Calls C.prog f args W fun e W'=>∃v,e=.returned v∧s.post enc C.prog fn false true false false W args v W') :
  ReturnsInHanded {} C os f .any (fun w args=>(s.pre enc C.prog fn [] false w args∧X w args)∧sizedMet enc C.prog fn (OpenSpec.ofChange s) false w args) (s.post enc C.prog fn false true false false):=by
 refine returnsInHanded_of_calls own started aah witness ?_;intro w tape i _ hsh _ rq kW _;obtain⟨_,_,_,fn',adS,_,_,_,_,hval⟩:=rq;obtain rfl:fn'=fn:=gu (adS.symm.trans hfn);obtain⟨⟨_,hx⟩,_,ds,gs,before,hw,hwt⟩:=kW;have hw':=DataW.Whole.of_heap (w':=w.forCall tape i) (by rfl) hw
 refine(contract (w.forCall tape i) w.heap.size i.args ds gs before hval hw' (hX _ _ _ (by rfl) hx) hsh hwt).mono fun e W' ⟨v,he,hp⟩=>?_
 subst he;exact ChangeSpec.post_blind hp
theorem vZ {n:Int} (h:(Lit.int .i64 n).wf=true):-9223372036854775808≤n:=by
 have h':(decide (IntKind.i64.min≤n) && decide (n≤IntKind.i64.max))=true:=h;simp only[dk,iD] at h';exact h'.1
theorem v7 {n:Int} (h:(Lit.int .i64 n).wf=true):n≤9223372036854775807:=by
 have h':(decide (IntKind.i64.min≤n) && decide (n≤IntKind.i64.max))=true:=h;simp only[dk,iD] at h';exact h'.2
end Go.Proofs.YtodmcdfeldkocaaGreatDoor
namespace Go.Proofs.YtodmcdfeldkocaaGreatDoor
open Go.Joins Go.ChangeShapes Go.WideShapes Go.ChangeAt Go.RowKit Go.ChangeMaps Go.Deep
theorem v8 {w:World} {a:Addr} {v:Value} (h:w.cell? a=some v):a=⟨a.block,a.off,none⟩:=by
 have:=World.cell?_spot h;cases a;simp_all
theorem rj (a:Addr):a.add 0=a:=by unfold Addr.add;simp
section
variable {H:Type} {enc:TypeId×Value→H} {w:World} {base:Nat} {held:Bool}
theorem Vt {fuel:Nat} {v:Value} {x:DataW H×List MemPlace} (h:DataW.trod enc Tryz.prog w base (fun _=>true) held fuel 52 [v]=some x) (hlt :∀y∈x.2,y.block<w.heap.size) :
  ∃xs:List ByteArray,oS w v xs∧(xs=[]∨∃el sp:List (DataW H),x.1=.slice el sp∧el.length=xs.length):=by
 rcases open_strings Tryz.underlying52 Tryz.underlying9 (by kernel_rfl) h with ⟨hcs,hx⟩ | ⟨a,len,cap,ss,hcs,_,hl,hm,hz,hx,hcell,hws⟩
 ·simp only[sH,p7] at hcs
  subst hcs;exact⟨[],⟨none,0,rfl,ag _,.inl rfl⟩,.inl rfl⟩
 ·simp only[sH,p7] at hcs
  simp only[sL] at hz;subst hcs;have Ri:(ss.take len).length=len:=by rw[jd];omega
  refine⟨ss.take len,⟨some a,cap,by rw[Ri],by rw[Ri];exact hl,?_⟩,.inr ⟨strs (ss.take len),strs (ss.drop len),by rw[hx],by simp[strs]⟩⟩
  rcases mQ len with h0|h0
  ·left;exact kK (by rw[Ri];exact h0)
  ·right
   have ha:=v8 (hcell 0 (by omega))
   have ha0:a=⟨a.block,a.off,none⟩:=by
    rw[rj] at ha;exact ha
   have dH:a.block<w.heap.size:=by
    rw[hx] at hlt;exact hlt (.cell a.block a.off) (by
     rw[ha0];exact MemPlace.mem_row.2 ⟨0,by omega,by simp⟩)
   refine⟨a.block,a.off,by rw[←ha0],dH,fun j y hj=>?_⟩
   have hj':j<len:=by
    have:=(aJ.1 hj).1;omega
   have hc:=hcell j (by omega)
   rw[ha0,ny] at hc;rw[hc];rw[EH hj'] at hj;simp[List.getD,hj]
theorem Vu {fuel:Nat} {v:Value} {x:DataW H×List MemPlace} (h:DataW.trod enc Tryz.prog w base (fun _=>true) held fuel 27 [v]=some x) (hlt :∀y∈x.2,y.block<w.heap.size) :
  ∃xs:List Int,cE w v xs∧(xs=[]∨∃el sp:List (DataW H),x.1=.slice el sp∧el.length=xs.length):=by
 rcases open_ints Tryz.underlying27 Tryz.underlying3 (by kernel_rfl) h with ⟨hcs,hx⟩ | ⟨a,len,cap,ss,hcs,_,hl,hm,hz,hx,hcell,hws⟩
 ·simp only[sH,p7] at hcs
  subst hcs;exact⟨[],⟨none,0,rfl,ag _,.inl rfl⟩,.inl rfl⟩
 ·simp only[sH,p7] at hcs
  simp only[sL] at hz;subst hcs;have Ri:(ss.take len).length=len:=by rw[jd];omega
  refine⟨ss.take len,⟨some a,cap,by rw[Ri],by rw[Ri];exact hl,?_⟩,.inr ⟨lits .i64 (ss.take len),lits .i64 (ss.drop len),by rw[hx],by simp[lits]⟩⟩
  rcases mQ len with h0|h0
  ·left;exact kK (by rw[Ri];exact h0)
  ·right
   have ha:=v8 (hcell 0 (by omega))
   have ha0:a=⟨a.block,a.off,none⟩:=by
    rw[rj] at ha;exact ha
   have dH:a.block<w.heap.size:=by
    rw[hx] at hlt;exact hlt (.cell a.block a.off) (by
     rw[ha0];exact MemPlace.mem_row.2 ⟨0,by omega,by simp⟩)
   refine⟨a.block,a.off,by rw[←ha0],dH,fun j y hj=>?_⟩
   have hj':j<len:=by
    have:=(aJ.1 hj).1;omega
   have hc:=hcell j (by omega)
   rw[ha0,ny] at hc;rw[hc];rw[EH hj'] at hj;simp[List.getD,hj]
theorem seven {P:Program} {spare:Nat→Bool} {fuel:Nat} {t:TypeId} {f0 f1 f2 f3 f4 f5 f6:Field} {cs:List Value} {x:DataW H×List MemPlace} (hs:P.underlying t=some (.struct #[f0,f1,f2,f3,f4,f5,f6]))
  (wO:oneCellFields P #[f0,f1,f2,f3,f4,f5,f6]=true) (hC:P.cellsOf t=7) (h:DataW.trod enc P w base spare held fuel t cs=some x) :
  ∃(u0 u1 u2 u3 u4 u5 u6:Value) (y0 y1 y2 y3 y4 y5 y6:DataW H×List MemPlace) (n:Nat),cs=[u0,u1,u2,u3,u4,u5,u6]∧x=(.agg [y0.1,y1.1,y2.1,y3.1,y4.1,y5.1,y6.1],[y0,y1,y2,y3,y4,y5,y6].flatMap (·.2)) ∧
   DataW.trod enc P w base spare held n f0.type [u0]=some y0∧DataW.trod enc P w base spare held n f1.type [u1]=some y1∧DataW.trod enc P w base spare held n f2.type [u2]=some y2 ∧
   DataW.trod enc P w base spare held n f3.type [u3]=some y3∧DataW.trod enc P w base spare held n f4.type [u4]=some y4∧DataW.trod enc P w base spare held n f5.type [u5]=some y5∧DataW.trod enc P w base spare held n f6.type [u6]=some y6:=by
 obtain⟨ys,n,_,hx,hlc,hlen,hg⟩:=DataW.trod_struct hs h;have hl:cs.length=7:=hlc.trans hC;obtain⟨u0,u1,u2,u3,u4,u5,u6,rfl⟩ :∃a b c d e f g,cs=[a,b,c,d,e,f,g]:=by
  match cs,hl with
  | [a,b,c,d,e,f,g],_=>exact⟨a,b,c,d,e,f,g,rfl⟩
 obtain⟨y0,y1,y2,y3,y4,y5,y6,rfl⟩ :∃a b c d e f g,ys=[a,b,c,d,e,f,g]:=by
  match ys,hlen with
  | [a,b,c,d,e,f,g],_=>exact⟨a,b,c,d,e,f,g,rfl⟩
 have go :∀(j:Nat) f,(#[f0,f1,f2,f3,f4,f5,f6]:Array Field)[j]? = some f→DataW.trod enc P w base spare held n f.type (List.take 1 (List.drop j [u0,u1,u2,u3,u4,u5,u6]))=[y0,y1,y2,y3,y4,y5,y6][j]?:=by
  intro j f hj;have h1:=hg j f hj;obtain⟨ho,hk⟩:=hone_of wO j f hj;rw[ho,hk] at h1;exact h1
 exact⟨u0,u1,u2,u3,u4,u5,u6,y0,y1,y2,y3,y4,y5,y6,n,rfl,hx,go 0 f0 rfl,go 1 f1 rfl,go 2 f2 rfl,go 3 f3 rfl,go 4 f4 rfl,go 5 f5 rfl,go 6 f6 rfl⟩
structure NdR (W:World) (x:Nd) (nv kv:Value) (d:DataW H):Prop where
 names:oS W nv x.names
 kids:cE W kv x.kids
 l:-9223372036854775808≤x.line∧x.line≤9223372036854775807
 o:-9223372036854775808≤x.op∧x.op≤9223372036854775807
 n:-9223372036854775808≤x.num∧x.num≤9223372036854775807
 big:(∀n∈d.weights Tryz.prog 54,n≤reachBytes)→x.names.length≤140737488355328∧x.kids.length≤140737488355328
set_option maxRecDepth 100000 in
theorem Vv {fuel:Nat} {cs:List Value} {x:DataW H×List MemPlace} (h:DataW.trod enc Tryz.prog w base (fun _=>true) held fuel 54 cs=some x) (hlt :∀y∈x.2,y.block<w.heap.size) :
  ∃(nd:Nd) (nv kv:Value),cs=[.int .i64 nd.kind,.int .i64 nd.line,.int .i64 nd.op,.int .i64 nd.num,.string nd.s,nv,kv]∧NdR w nd nv kv x.1:=by
 obtain⟨u0,u1,u2,u3,u4,u5,u6,y0,y1,y2,y3,y4,y5,y6,n,rfl,hx,t0,t1,t2,t3,t4,t5,t6⟩:=seven Tryz.underlying54 (by kernel_rfl) (by kernel_rfl) h
 obtain⟨z0,e0,r0,w0⟩:=DataW.trod_int Tryz.underlying3 (show DataW.trod enc Tryz.prog w base (fun _=>true) held n 3 [u0]=some y0 from t0)
 obtain⟨z1,e1,r1,w1⟩:=DataW.trod_int Tryz.underlying3 (show DataW.trod enc Tryz.prog w base (fun _=>true) held n 3 [u1]=some y1 from t1)
 obtain⟨z2,e2,r2,w2⟩:=DataW.trod_int Tryz.underlying3 (show DataW.trod enc Tryz.prog w base (fun _=>true) held n 3 [u2]=some y2 from t2)
 obtain⟨z3,e3,r3,w3⟩:=DataW.trod_int Tryz.underlying2 (show DataW.trod enc Tryz.prog w base (fun _=>true) held n 2 [u3]=some y3 from t3)
 obtain⟨z4,e4,r4,_⟩:=DataW.trod_string Tryz.underlying9 (show DataW.trod enc Tryz.prog w base (fun _=>true) held n 9 [u4]=some y4 from t4)
 have mD :∀y∈[y0,y1,y2,y3,y4,y5,y6],∀q∈y.2,q∈x.2:=fun y hy q hq=>by
  rw[hx];exact mS.2 ⟨y,hy,hq⟩
 obtain⟨xs,hs1,hs3⟩:=Vt (show DataW.trod enc Tryz.prog w base (fun _=>true) held n 52 [u5]=some y5 from t5) (fun q hq=>hlt q (mD y5 (by simp) q hq))
 obtain⟨zs,hz1,hz3⟩:=Vu (show DataW.trod enc Tryz.prog w base (fun _=>true) held n 27 [u6]=some y6 from t6) (fun q hq=>hlt q (mD y6 (by simp) q hq))
 simp only[sH,p7] at e0 e1 e2 e3 e4;subst e0 e1 e2 e3 e4;refine⟨⟨z0,z1,z2,z3,z4,xs,zs⟩,u5,u6,rfl,hs1,hz1,⟨vZ w1,v7 w1⟩,⟨vZ w2,v7 w2⟩,⟨vZ w3,v7 w3⟩,fun hw=>?_⟩
 have hw' :∀q∈DataW.weightsEach Tryz.prog [3,3,3,2,9,52,27] [y0.1,y1.1,y2.1,y3.1,y4.1,y5.1,y6.1],q≤reachBytes:=fun q hq=>hw q (by
  rw[hx];show q∈DataW.weights Tryz.prog 54 (.agg [y0.1,y1.1,y2.1,y3.1,y4.1,y5.1,y6.1])
  rw[DataW.weights,Tryz.underlying54];exact hq)
 have b9:Tryz.prog.bytesOf 9=16:=by kernel_rfl
 have b3:Tryz.prog.bytesOf 3=8:=by kernel_rfl
 constructor
 ·rcases hs3 with rfl | ⟨el,sp,e,hl⟩
  ·exact bg _
  ·have:=hw' ((el.length+sp.length)*Tryz.prog.bytesOf 9) (DataW.weights_mem_each (j:=5) (t:=52) (d:=y5.1) rfl rfl _ (by rw[e,DataW.weights,Tryz.underlying52];exact bH ..))
   rw[b9] at this;unfold reachBytes at this;show xs.length≤_
   omega
 ·rcases hz3 with rfl | ⟨el,sp,e,hl⟩
  ·exact bg _
  ·have:=hw' ((el.length+sp.length)*Tryz.prog.bytesOf 3) (DataW.weights_mem_each (j:=6) (t:=27) (d:=y6.1) rfl rfl _ (by rw[e,DataW.weights,Tryz.underlying27];exact bH ..))
   rw[b3] at this;unfold reachBytes at this;show zs.length≤_
   omega
structure TrR (W:World) (T:List Nd) (nv:Value):Prop where
 nodes:eO W nv T
 l :∀x∈T,-9223372036854775808≤x.line∧x.line≤9223372036854775807
 o :∀x∈T,-9223372036854775808≤x.op∧x.op≤9223372036854775807
 n :∀x∈T,-9223372036854775808≤x.num∧x.num≤9223372036854775807
theorem CP {P:Program} {e:TypeId} :∀{l:List (DataW H)} {d:DataW H},d∈l→∀n∈d.weights P e,n∈DataW.weightsAll P e l:=by
 intro l;induction l with
 | nil=>intro d hd;cases hd
 | cons a t ih =>
  intro d hd n hn;rw[DataW.weightsAll,cU];rcases ba.1 hd with rfl|hd
  ·exact .inl hn
  ·exact .inr (ih hd n hn)
theorem CQ {a:Addr} {i:Nat} {cs:List Value} (ha:a=⟨a.block,a.off,none⟩) (h:w.cells? base (a.add (i*7)) 7=some cs) :∀(j:Nat) u,cs[j]? = some u→w.cell? ⟨a.block,a.off+i*7+j,none⟩=some u:=by
 intro j u hj;have hc:=World.cells?_some h;have h2:w.cell? ((a.add (i*7)).add j)=some u:=(hc.2.2 j (by have:=(aJ.1 hj).1;have:=hc.2.1;omega)).trans hj
 rw[ha] at h2;have e1:((⟨a.block,a.off,none⟩:Addr).add (i*7)).add j=⟨a.block,a.off+i*7+j,none⟩:=by rw[ny,ny]
 rw[e1] at h2;exact h2
set_option maxRecDepth 100000 in
theorem open_tree {r:Reach} {b0:Nat} {v:Value} {d:DataW H} {p:List MemPlace} (hv:Value.okWide Tryz.prog w r b0 24 v) (h:DataW.Trod enc Tryz.prog w base (fun _=>true) held 24 v d p) (hlt :∀y∈p,y.block<w.heap.size) :
  ∃(nv:Value) (T:List Nd) (q:Int),v=.agg #[nv,.int .i64 q]∧TrR w T nv∧-9223372036854775808≤q∧q≤9223372036854775807 ∧
   ((∀n∈d.weights Tryz.prog 24,n≤reachBytes)→∀x∈T,x.names.length≤140737488355328∧x.kids.length≤140737488355328):=by
 obtain⟨u0,u1,y0,y1,m,rfl,rfl,rfl,t0,t1⟩:=open_agg2 Tryz.underlying24 (by kernel_rfl) (by kernel_rfl) hv h
 obtain⟨q,e1,rfl,w1⟩:=DataW.trod_int Tryz.underlying3 t1;simp only[sH,p7] at e1;subst e1;rcases open_slice Tryz.underlying22 t0 with ⟨hcs,hx⟩ | ⟨a,len,cap,mm,n,D,Pl,hcs,_,hl,yH,hm,hx,hel⟩
 ·simp only[sH,p7] at hcs
  subst hcs;exact⟨_,[],q,rfl,⟨⟨none,0,rfl,ag _,.inl rfl⟩,(fun x hx=>by cases hx),(fun x hx=>by cases hx),(fun x hx=>by cases hx)⟩,vZ w1,v7 w1,fun _ x hx=>by cases hx⟩
 ·simp only[sH,p7] at hcs
  subst hcs;simp only[sL] at hm;have c32:Tryz.prog.cellsOf 54=7:=by kernel_rfl
  rw[c32] at hel hx;have hPl :∀i,i<len→∀y∈Pl i,y.block<w.heap.size:=fun i hi y hy=>hlt y (by
   rw[hx];exact dW _ (gR _ (mS.2 ⟨i,sI.2 (by omega),hy⟩)))
  have hex :∀i:Nat,∃nd:Nd,i<len→∃nv kv,w.cells? base (a.add (i*7)) 7=some [.int .i64 nd.kind,.int .i64 nd.line,.int .i64 nd.op,.int .i64 nd.num,.string nd.s,nv,kv]∧NdR w nd nv kv (D i):=fun i=>by
   by_cases hi:i<len
   ·obtain⟨cs',h1,h2⟩:=hel i (by omega)
    obtain⟨nd,nv,kv,rfl,h3⟩:=Vv h2 (hPl i hi);exact⟨nd,fun _=>⟨nv,kv,h1,h3⟩⟩
   ·exact⟨⟨0,0,0,0,⟨#[]⟩,[],[]⟩,fun h=>absurd h hi⟩
  obtain⟨F,hF⟩:=Classical.axiomOfChoice hex;have hTl:((List.range len).map F).length=len:=by simp
  have hTi :∀(i:Nat) x,((List.range len).map F)[i]? = some x→i<len∧x=F i:=fun i x hx=>by
   have hi:=(aJ.1 hx).1;rw[hTl] at hi;rw[ef,z7 hi] at hx;exact⟨hi,(gu hx).symm⟩
  have hTm :∀x∈(List.range len).map F,∃i,i<len∧x=F i:=fun x hx=>by
   obtain⟨i,hi,e⟩:=eJ.1 hx;exact⟨i,sI.1 hi,e.symm⟩
  refine⟨_,(List.range len).map F,q,rfl,⟨⟨some a,cap,by rw[hTl],by rw[hTl];exact hl,?_⟩,?_,?_,?_⟩,vZ w1,v7 w1,?_⟩
  ·rcases mQ len with h0|h0
   ·left;exact kK (by rw[hTl];exact h0)
   ·right
    obtain⟨nv0,kv0,hc0,_⟩:=hF 0 h0;have ha0:a=⟨a.block,a.off,none⟩:=by
     have h2:w.cell? ((a.add (0*7)).add 0)=some (.int .i64 (F 0).kind):=((World.cells?_some hc0).2.2 0 (by decide)).trans rfl
     rw[EU,rj,rj] at h2;exact v8 h2
    have dH:a.block<w.heap.size:=hlt (.cell a.block a.off) (by
     rw[hx];refine dW _ (dW _ ?_);rw[ha0];exact MemPlace.mem_row.2 ⟨0,by omega,by simp⟩)
    refine⟨a.block,a.off,by rw[←ha0],dH,fun i x hx=>?_⟩
    obtain⟨hi,rfl⟩:=hTi i x hx;obtain⟨nv,kv,hc,hr⟩:=hF i hi;have hs:=CQ ha0 hc;exact⟨nv,kv,⟨hs 0 _ rfl,hs 1 _ rfl,hs 2 _ rfl,hs 3 _ rfl,hs 4 _ rfl,hs 5 _ rfl,hs 6 _ rfl⟩,hr.names,hr.kids⟩
  ·intro x hx
   obtain⟨i,hi,rfl⟩:=hTm x hx;obtain⟨nv,kv,hc,hr⟩:=hF i hi;exact hr.l
  ·intro x hx
   obtain⟨i,hi,rfl⟩:=hTm x hx;obtain⟨nv,kv,hc,hr⟩:=hF i hi;exact hr.o
  ·intro x hx
   obtain⟨i,hi,rfl⟩:=hTm x hx;obtain⟨nv,kv,hc,hr⟩:=hF i hi;exact hr.n
  ·intro hw x ry
   obtain⟨i,hi,rfl⟩:=hTm x ry;obtain⟨nv,kv,hc,hr⟩:=hF i hi;refine hr.big fun k hk=>hw k ?_
   rw[DataW.weights,Tryz.underlying24];refine DataW.weights_mem_each (j:=0) (t:=22) (d:=y0.1) rfl rfl k ?_;rw[hx,DataW.weights,Tryz.underlying22];refine bQ _ (dW _ (CP (d:=D i) ?_ k hk));exact eJ.2 ⟨i,sI.2 hi,rfl⟩
end
theorem ab7 {H:Type} {T:List Nd} {ds:List (DataW H)} {d:DataW H} {ts:List TypeId} (iY:ts[0]? = some 24) (tR:ds[0]? = some d)
  (hw:(∀n∈d.weights Tryz.prog 24,n≤reachBytes)→∀x∈T,x.names.length≤140737488355328∧x.kids.length≤140737488355328) (hwt:(DataW.weightsEach Tryz.prog ts ds).all (·≤reachBytes)=true):RdR T:=by
 have h1:=hw fun n hn=>gT (List.all_eq_true.1 hwt n (DataW.weights_mem_each iY tR n hn))
 exact⟨fun x hx=>(h1 x hx).1,fun x hx=>(h1 x hx).2⟩
end Go.Proofs.YtodmcdfeldkocaaGreatDoor
