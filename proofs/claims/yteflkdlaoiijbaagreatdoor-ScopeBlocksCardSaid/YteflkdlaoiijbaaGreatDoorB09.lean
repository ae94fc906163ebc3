/- Parts of the proof. -/
import Derived.Test.YteflkdlaoiijbaaGreatDoorB08
set_option maxHeartbeats 16000000
set_option maxRecDepth 20000
namespace Go.Proofs.YteflkdlaoiijbaaGreatDoor
open Go.RowKit
theorem gy {B:Nat} {w W:World} {n j:Nat} {v:Value} (h:Below B w W) (hn:B≤n):Below B w (W.setCell ⟨n,j,none⟩ v):=⟨h.os,h.tape,h.output,by simpa[World.setCell] using h.size,fun k hk=>(Below.heap_setCell _ _ _ k (by show k≠n;omega)).trans (h.block k hk)⟩
theorem Bo {W:World} {n j g:Nat} {v:Value} {o:Obj} (h:W.heap[g]? = some o) (hn:g≠n):(W.setCell ⟨n,j,none⟩ v).heap[g]? = some o:=(Below.heap_setCell _ _ _ g hn).trans h
theorem Ox (g:Nat) (w:World) (h:nU w):Calls Tryz.prog 22 #[.iface 75 (.pointer (some ⟨g,0,none⟩)),.iface 77 (.pointer (some ⟨w.heap.size,0,none⟩))] (w.alloc (.cells #[.pointer none] 75)) fun e w' =>
  e=.returned (.bool true)∧w'.cell? ⟨w.heap.size,0,none⟩=some (.pointer (some ⟨g,0,none⟩))∧Below w.heap.size w w':=by
 have hB:=(Below.refl w.heap.size w).alloc (ai _) (.cells #[.pointer none] 75);have hE:=h.below hB;have hx:=Boxed.new w 75 (.pointer none);refine(Ug ⟨g,0,none⟩ ⟨w.heap.size,0,none⟩ (.pointer none) (w.alloc (.cells #[.pointer none] 75)) hE.et hx.cell hx.frozen).mono ?_;rintro e w' ⟨rfl,rfl⟩;exact⟨rfl,(((((hx.alloc _).alloc _).alloc _).alloc _).set _).cell,(((((hB.alloc (by simp) _).alloc (by simp;omega) _).alloc (by simp;omega) _).alloc (by simp;omega) _)).setCell (ai _) _⟩
def gI:Value:=.agg #[.slice none 0 0,.int .i64 0]
def Jl (s:ByteArray) (w:World) (e:Ending) (w':World):Prop :=
 Below w.heap.size w w'∧∃o,dO (cZ s) s.data.toList o∧match o with
  | .error n=>∃v,e=.returned (.tuple #[gI,v])∧Oq w' v n 5
  | .ok ts=>ts.length≤s.size+1∧∃q,PL kG ts q∧match q with
   | .error l=>∃v,e=.returned (.tuple #[gI,v])∧Oq w' v l 6
   | .ok (a,_)=>(100<a.depth∧∃v,e=.returned (.tuple #[gI,v])∧Oq w' v 1 7) ∨
    (a.depth≤100∧∃(v:Value) (T:List Nd) (p:Nat),e=.returned (.tuple #[v,.nilIface])∧mD w' v T (p:Int)∧dV [] T [a] [(p:Int)])
theorem Ui (s:ByteArray) (w:World) (hs:s.size≤8000) (hE:nU w) (hZ :∀(ts au:List ah) (a:Ast),dO (cZ s) s.data.toList (.ok ts)→ts.length≤s.size+1→PL kG ts (.ok (a,au))→a.size≤16384):Calls Tryz.prog 9 #[.string s] w (Jl s w):=by
 have h7:=hE.big;have hM:=hE.mx;have hlx:=fun W (h1:4≤W.heap.size) (h2:Mx W)=>Sz s W (by omega) h1 h2
 have HL:=aa (hlx (w.alloc (.cells #[.slice none 0 0,.int .i64 0] 25)) (by simp;omega) (hM.below (aV w _)))
 have HS:=aa hs;have HE:=aa hE;have HZ:=aa hZ;clear hlx hE hM hs h7 hZ;go_enter Tryz.func9,Tryz.ntmps9
 go_wp2_with fail
 refine HL.out.mono ?_;rintro e w1 ⟨b1,o,ho,h1⟩;have B1:=aa (aB (aV w (.cells #[.slice none 0 0,.int .i64 0] 25)) b1);have rb :∀W,Below w1.heap.size w1 W→W.heap[w.heap.size]? = some (.cells #[.slice none 0 0,.int .i64 0] 25 (0,0)):=fun W hW=>((aB b1 hW).block w.heap.size (by simp)).trans (World.alloc_heap_new w _)
 have RB:=aa rb;have d0:w1.cell? ⟨w.heap.size,0,none⟩=some (.slice none 0 0):=by simp[World.cell?,rb w1 (Below.refl _ _)]
 have d1:w1.cell? ⟨w.heap.size,1,none⟩=some (.int .i64 0):=by simp[World.cell?,rb w1 (Below.refl _ _)]
 have y0:w1.frozen? ⟨w.heap.size,0,none⟩=false:=by simp[World.frozen?,rb w1 (Below.refl _ _)]
 have y1:w1.frozen? ⟨w.heap.size,1,none⟩=false:=by simp[World.frozen?,rb w1 (Below.refl _ _)]
 have HO:=aa ho;cases o with
 | error n =>
  obtain⟨v,rfl,g,rfl,hf⟩:=h1;have HF:=aa hf;clear b1 rb ho hf;have S5:g≠w.heap.size:=fun e=>by
   have h1:=RB.out w1 (Below.refl _ _);rw[←e,HF.out] at h1;simp at h1
  go_wp2_with fail
  refine bodyPost_ret (v:=.tuple #[gI,.iface 83 (.pointer (some ⟨g,0,none⟩))]) ?_ rfl ⟨?_,.error n,HO.out,_,rfl,g,rfl,?_⟩
  ·simp[results,Tryz.results9,go_sem,gI,d0,d1]
  ·exact gy (gy (B1.out) (ai _)) (ai _)
  ·exact Bo (Bo HF.out S5) S5
 | ok ts =>
  obtain⟨hlen,v,rfl,hT⟩:=h1;have yU:=lex_wf ho (by unfold cZ;omega) ts rfl
  obtain⟨g,cp,rfl,hcp,rr,jb⟩:=hT.ex;obtain⟨t,r,jk⟩:=yU.fin.cons;have hT2:uA w1 (.slice (some ⟨g,0,none⟩) ts.length cp) ts:=hT;have Yi:=Zc hT2 yU.fin (by have:=HS.out;omega) rr
  have abm:=Zb (N:=ts.length+1) (t:=t) (r:=r) (by rw[jk];exact du _) (by rw[←jk];have:=HS.out;omega) (jk▸yU) (jk▸Gw.self kG ts)
  rw[jk] at Yi;have HN:=aa (qq (w1.alloc (.cells #[.slice (some ⟨g,0,none⟩) (t::r).length cp,.int .i64 0,.slice none 0 0] 71)) (w1.alloc (.cells #[.slice (some ⟨g,0,none⟩) (t::r).length cp,.int .i64 0,.slice none 0 0] 71)) (w1.heap.size+1) (by simp) Yi (az.refl _ _) (mN 18) rfl [aX 20 w1.heap.size,aX 21 w1.heap.size] [MX (ts.length+1),MI] (by simp) ⟨(Bi (ts.length+1)).nj.part (enters_of Tryz.func20 (by kernel_rfl) rfl) _ _ _,MJ _ _ _,trivial⟩ abm)
  subst jk;have Hy:=aa hlen;clear hT hT2 Yi abm yU jb ho rb b1 hlen;go_wp2_with fail
  refine HN.out.mono ?_;intro e w3 h3;have b3:Below w1.heap.size w1 w3:=Below.trans (aV w1 _) (h3.1.below (B:=w1.heap.size) (fun k hk=>by omega) (by simp))
  have B3:=aa (aB B1.out b3);have Zd:=aa b3;have hbl:w1.heap.size<w3.heap.size:=cC (by simp) h3.1.size
  have hwl:w.heap.size<w1.heap.size:=(aJ.1 (RB.out w1 (Below.refl _ _))).1;have rb3:=RB.out w3 b3;have RB3:=aa rb3;have e0:w3.cell? ⟨w.heap.size,0,none⟩=some (.slice none 0 0):=by simp[World.cell?,rb3]
  have e1:w3.cell? ⟨w.heap.size,1,none⟩=some (.int .i64 0):=by simp[World.cell?,rb3]
  have z0:w3.frozen? ⟨w.heap.size,0,none⟩=false:=by simp[World.frozen?,rb3]
  have z1:w3.frozen? ⟨w.heap.size,1,none⟩=false:=by simp[World.frozen?,rb3]
  have adp:w.heap.size<w3.heap.size:=by omega
  clear rb3 b3 d0 d1 y0 y1;rcases h3.2 with ⟨p,a,eP,O2,T2,rfl,p2,x2,l2,k2⟩ | ⟨le,v,er,rfl,⟨g',rfl,m2,m3⟩,k2⟩
  ·obtain⟨A,c2,cT,DZ⟩:=p2.nodes
   have hsz:T2.length=a.size:=by rw[l2.len,tF];simp
   have hle:T2.length≤16384:=by
    have:=HZ.out _ _ _ HO.out Hy.out k2;omega
   have q1:decide ((16384:Int)<(T2.length:Int))=false:=bN (by omega)
   have Uj :∃js,gW T2 a p js∧js.Nodup∧js.length=T2.length:=by
    obtain⟨_,js,hr,xG⟩:=l2;unfold bo at hr;obtain⟨k,iz,j1,j2,ek,hr1,hr2,ej⟩:=hr;unfold bo at hr2;obtain⟨_,rfl⟩:=hr2;have ek2:k=p:=by injection ek with ek _;omega
    subst ek2;rw[j8] at ej;subst ej;exact⟨_,hr1,xG.nodup_iff.2 (List.nodup_range' ..),by rw[xG.length_eq,KU];simp⟩
   have pb:eT T2 (p:Int)=a.depth:=by
    obtain⟨js,r1,r2,r3⟩:=Uj;exact Aa r1 r2 r3 hle
   have L2:=aa l2;have K2:=aa k2;have HNd:=aa DZ;have HOw:=aa (fun k (hk:O2 k)=>(p2.own k hk).1)
   have HD:=aa (fun W (hW:Below w3.heap.size w3 W)=>AM (.agg #[.slice A T2.length c2,.int .i64 (p:Int)]) T2 (p:Int) W ⟨_,rfl,DZ W (fun _=>False) (az.ae hW) (fun _ _ h=>h)⟩)
   rw[pb] at HD;have HLE:=aa hle;clear h3 p2 x2 l2 k2 DZ HN hsz hle Uj pb;go_wp2_with fail
   refine(Y2 _ _).mono ?_;rintro e w4 ⟨rfl,rfl⟩;have b45:Below w3.heap.size w3 ((w3.alloc (.cells #[.pointer none] 75)).alloc (.cells #[.slice A T2.length c2,.int .i64 (p:Int)] 25)):=aB (aV w3 _) (aV _ _);have HD2:=aa (HD.out _ b45);have B45:=aa b45;clear b45 HD;go_wp2_with fail
   refine HD2.out.mono ?_;rintro e w6 ⟨rfl,b6⟩;have B6:=aa (aB B45.out b6);have rb6:=RB.out w6 (aB Zd.out B6.out);have f0:w6.cell? ⟨w.heap.size,0,none⟩=some (.slice none 0 0):=by simp[World.cell?,rb6]
   have f1:w6.cell? ⟨w.heap.size,1,none⟩=some (.int .i64 0):=by simp[World.cell?,rb6]
   have g0:w6.frozen? ⟨w.heap.size,0,none⟩=false:=by simp[World.frozen?,rb6]
   have g1:w6.frozen? ⟨w.heap.size,1,none⟩=false:=by simp[World.frozen?,rb6]
   have Rf:w3.heap.size+1<w6.heap.size:=by have:=b6.size;simp at this;omega
   have adq:w.heap.size<w6.heap.size:=by omega
   have t0:w6.cell? ⟨w3.heap.size+1,0,none⟩=some (.slice A T2.length c2):=by
    refine(b6.cell (p:=⟨w3.heap.size+1,0,none⟩) (by simp)).trans ?_
    have:=dC (w3.alloc (.cells #[.pointer none] 75)) #[.slice A T2.length c2,.int .i64 (p:Int)] 25 0;rw[an] at this;exact this
   have t1:w6.cell? ⟨w3.heap.size+1,1,none⟩=some (.int .i64 (p:Int)):=by
    refine(b6.cell (p:=⟨w3.heap.size+1,1,none⟩) (by simp)).trans ?_
    have:=dC (w3.alloc (.cells #[.pointer none] 75)) #[.slice A T2.length c2,.int .i64 (p:Int)] 25 1;rw[an] at this;exact this
   clear rb6 b6 HD2 e0 e1 z0 z1 cT;have B6w:=aa (aB B3.out B6.out);by_cases uB:100<a.depth
   ·have q2:decide ((100:Int)<(a.depth:Int))=true:=bF (by omega)
    have Rh:=aa uB;clear uB;go_wp2_with fail
    refine(FU 1 7 w6).mono ?_;rintro e w7 ⟨rfl,rfl⟩;go_wp2_with fail
    refine bodyPost_ret (v:=.tuple #[gI,.iface 83 (.pointer (some ⟨w6.heap.size,0,none⟩))]) ?_ rfl ⟨?_,.ok (t::r),HO.out,Hy.out,.ok (a,eP),K2.out,.inl ⟨Rh.out,_,rfl,w6.heap.size,rfl,?_⟩⟩
    ·have yP:w.heap.size<((w6.setCell ⟨w.heap.size,0,none⟩ (.slice none 0 0)).setCell ⟨w.heap.size,1,none⟩ (.int .i64 0)).heap.size:=by simpa[World.setCell] using adq
     have k0:(((w6.setCell ⟨w.heap.size,0,none⟩ (.slice none 0 0)).setCell ⟨w.heap.size,1,none⟩ (.int .i64 0)).alloc (.cells #[.int .i64 1,.iface 79 (.int .i64 7)] 85)).cell? ⟨w.heap.size,0,none⟩=some (.slice none 0 0):=by rw[World.cell?_alloc_lt _ _ _ yP];simp[go_sem,f0]
     have k1:(((w6.setCell ⟨w.heap.size,0,none⟩ (.slice none 0 0)).setCell ⟨w.heap.size,1,none⟩ (.int .i64 0)).alloc (.cells #[.int .i64 1,.iface 79 (.int .i64 7)] 85)).cell? ⟨w.heap.size,1,none⟩=some (.int .i64 0):=by rw[World.cell?_alloc_lt _ _ _ yP];simp[go_sem,f1]
     simp[results,Tryz.results9,go_sem,gI,k0,k1]
    ·exact aB (gy (gy B6w.out (ai _)) (ai _)) (aV _ _)
    ·have:=World.alloc_heap_new ((w6.setCell ⟨w.heap.size,0,none⟩ (.slice none 0 0)).setCell ⟨w.heap.size,1,none⟩ (.int .i64 0)) (.cells #[.int .i64 1,.iface 79 (.int .i64 7)] 85)
     simpa[World.setCell] using this
   ·have q2:decide ((100:Int)<(a.depth:Int))=false:=bN (by omega)
    have Rh:=aa uB;have Ze:=RB.out w6 (aB Zd.out B6.out);have fr6:=((az.ae (O:=(· = w.heap.size)) B6.out).trans (az.wc Ze (show(25:Nat)≠9 by decide) 0 (.slice A T2.length c2)) (Ext.refl _ _)).trans (az.wc (ir Ze (k:=0) (.slice A T2.length c2)) (show(25:Nat)≠9 by decide) 1 (.int .i64 (p:Int))) (Ext.refl _ _)
    have HN6:=aa (HNd.out _ _ fr6 (fun k hk e=>by have:=HOw.out k hk;omega))
    clear Ze fr6;clear uB;go_wp2_with fail
    refine bodyPost_ret (v:=.tuple #[.agg #[.slice A T2.length c2,.int .i64 (p:Int)],.nilIface]) ?_ rfl ⟨?_,.ok (t::r),HO.out,Hy.out,.ok (a,eP),K2.out,.inr ⟨Nat.le_of_not_lt Rh.out,_,T2,p,rfl,⟨_,rfl,?_⟩,L2.out⟩⟩
    ·simp[results,Tryz.results9,go_sem,f0,f1]
    ·exact gy (gy B6w.out (ai _)) (ai _)
    ·exact HN6.out
  ·have abn:g' < w3.heap.size:=(aJ.1 m3).1
   have hA:=Ox g' w3 (HE.out.below B3.out);have HA:=aa hA;have M3:=aa m3;have K2:=aa k2;have hgw:g'≠w.heap.size:=by simp at m2;omega
   clear h3 m2 m3 k2 HN hA e0 e1 z0 z1;go_wp2_with fail
   refine HA.out.mono ?_;rintro e w4 ⟨rfl,c4,b4⟩;have rb4:=RB.out w4 (aB Zd.out b4);have f0:w4.cell? ⟨w.heap.size,0,none⟩=some (.slice none 0 0):=by simp[World.cell?,rb4]
   have f1:w4.cell? ⟨w.heap.size,1,none⟩=some (.int .i64 0):=by simp[World.cell?,rb4]
   have g0:w4.frozen? ⟨w.heap.size,0,none⟩=false:=by simp[World.frozen?,rb4]
   have g1:w4.frozen? ⟨w.heap.size,1,none⟩=false:=by simp[World.frozen?,rb4]
   have Zf:w4.heap[g']? = _:=(b4.block g' abn).trans M3.out;have j0:w4.cell? ⟨g',0,none⟩=some (.int .i64 6):=by simp[World.cell?,Zf]
   have j1:w4.cell? ⟨g',1,none⟩=some (.int .i64 le):=by simp[World.cell?,Zf]
   have adr:w.heap.size<w4.heap.size:=cC adp b4.size;have hgl4:g' < w4.heap.size:=cC abn b4.size;have h3l4:w3.heap.size<w4.heap.size:=World.block_lt_of_cell? w4 _ c4;have B4:=aa (aB B3.out b4);clear rb4 Zf b4 HA;go_wp2_with fail
   go_region_with (first|(go_at_call 23;refine(FU le 6 _).mono ?_;rintro e w5 ⟨rfl,rfl⟩))
   all_goals
    have yP:w.heap.size<((w4.setCell ⟨w.heap.size,0,none⟩ (.slice none 0 0)).setCell ⟨w.heap.size,1,none⟩ (.int .i64 0)).heap.size:=by simpa[World.setCell] using adr
    have k0:(((w4.setCell ⟨w.heap.size,0,none⟩ (.slice none 0 0)).setCell ⟨w.heap.size,1,none⟩ (.int .i64 0)).alloc (.cells #[.int .i64 le,.iface 79 (.int .i64 6)] 85)).cell? ⟨w.heap.size,0,none⟩=some (.slice none 0 0):=by rw[World.cell?_alloc_lt _ _ _ yP];simp[go_sem,f0]
    have k1:(((w4.setCell ⟨w.heap.size,0,none⟩ (.slice none 0 0)).setCell ⟨w.heap.size,1,none⟩ (.int .i64 0)).alloc (.cells #[.int .i64 le,.iface 79 (.int .i64 6)] 85)).cell? ⟨w.heap.size,1,none⟩=some (.int .i64 0):=by rw[World.cell?_alloc_lt _ _ _ yP];simp[go_sem,f1]
    go_wp2
    refine bodyPost_ret (v:=.tuple #[gI,.iface 83 (.pointer (some ⟨w4.heap.size,0,none⟩))]) ?_ rfl ⟨?_,.ok (t::r),HO.out,Hy.out,.error le,K2.out,_,rfl,w4.heap.size,rfl,?_⟩
    ·simp[results,Tryz.results9,go_sem,gI,k0,k1,Act.put]
    ·have hb:=aB (gy (j:=1) (v:=.int .i64 0) (gy (j:=0) (v:=.slice none 0 0) B4.out (ai _)) (ai _)) (aV _ (.cells #[.int .i64 le,.iface 79 (.int .i64 6)] 85))
     exact⟨hb.os,hb.tape,hb.output,hb.size,hb.block⟩
    ·have:=World.alloc_heap_new ((w4.setCell ⟨w.heap.size,0,none⟩ (.slice none 0 0)).setCell ⟨w.heap.size,1,none⟩ (.int .i64 0)) (.cells #[.int .i64 le,.iface 79 (.int .i64 6)] 85)
     simpa[World.setCell,World.drew] using this
end Go.Proofs.YteflkdlaoiijbaaGreatDoor
namespace Go.Proofs.YteflkdlaoiijbaaGreatDoor
open Go.RowKit Go.Extern.Stop Go.Stop Go.Extern
theorem Uk (g:Nat) (n m:Int) (w:World) (he :∀w:World,(binOp .eql 27 (.iface 79 (.int .i64 m)) (.iface 79 (.int .i64 m))).run Tryz.prog w=.ok (.bool true) w) (hg:w.heap[g]? = some (.cells #[.int .i64 n,.iface 79 (.int .i64 m)] 85 (0,0))) :
  Calls Tryz.prog 30 #[.iface 83 (.pointer (some ⟨g,0,none⟩)),.iface 79 (.int .i64 m)] w fun e w'=>e=.returned (.bool true)∧w=w':=by
 have h1:w.cell? ⟨g,1,none⟩=some (.iface 79 (.int .i64 m)):=by simp[World.cell?,hg]
 have h41:=@run_callFunc_extern Tryz.prog 65 _ Extern.ReflectliteType.typeOf Tryz.func65 (by kernel_rfl) (by kernel_rfl) (by kernel_rfl) (by kernel_rfl)
 have Zg:=@run_callFunc_extern Tryz.prog 267 _ (Extern.ReflectliteType.method fun t=>do Rtype.noPackHeld "Comparable" t;pure (.bool (←typeInfo t).comparable)) Tryz.func267 (by kernel_rfl) (by kernel_rfl) (by kernel_rfl) (by kernel_rfl)
 have tT:=Tryz.Bn;have cT:=Tryz.qw;have mR:=Tryz.jP;have nF:=Tryz.Wy;have uF:=Tryz.u7;have mU:=Tryz.qv;have e5:=he;have H7:=run_eql_iface_types (P:=Tryz.prog) 83 79 (.pointer (some ⟨g,0,none⟩)) (.int .i64 m) Tryz.underlying27 (by decide) w
 clear hg;go_enter Tryz.func30,Tryz.ntmps30
 go_wp2
 refine wp_loop_rounds 2 ?_;rw[rounds_succ];go_wp2
 rw[rounds_succ];go_wp2
 go_ret
 exact⟨rfl,rfl⟩
theorem Ul (g:Nat) (n m k:Int) (w:World) (he :∀w:World,(binOp .eql 27 (.iface 79 (.int .i64 m)) (.iface 79 (.int .i64 k))).run Tryz.prog w=.ok (.bool false) w) (hg:w.heap[g]? = some (.cells #[.int .i64 n,.iface 79 (.int .i64 m)] 85 (0,0))) :
  Calls Tryz.prog 30 #[.iface 83 (.pointer (some ⟨g,0,none⟩)),.iface 79 (.int .i64 k)] w fun e w'=>e=.returned (.bool false)∧w=w':=by
 have h1:w.cell? ⟨g,1,none⟩=some (.iface 79 (.int .i64 m)):=by simp[World.cell?,hg]
 have h41:=@run_callFunc_extern Tryz.prog 65 _ Extern.ReflectliteType.typeOf Tryz.func65 (by kernel_rfl) (by kernel_rfl) (by kernel_rfl) (by kernel_rfl)
 have Zg:=@run_callFunc_extern Tryz.prog 267 _ (Extern.ReflectliteType.method fun t=>do Rtype.noPackHeld "Comparable" t;pure (.bool (←typeInfo t).comparable)) Tryz.func267 (by kernel_rfl) (by kernel_rfl) (by kernel_rfl) (by kernel_rfl)
 have tT:=Tryz.Bn;have cT:=Tryz.qw;have mR:=Tryz.jP;have nF:=Tryz.Wy;have uF:=Tryz.u7;have mU:=Tryz.qv;have nE:=Tryz.abl;have uE:=Tryz.Jk;have vE:=Tryz.DY;have H7:=run_eql_iface_types (P:=Tryz.prog) 83 79 (.pointer (some ⟨g,0,none⟩)) (.int .i64 k) Tryz.underlying27 (by decide) w
 clear hg;go_enter Tryz.func30,Tryz.ntmps30
 go_wp2
 refine wp_loop_rounds 2 ?_;rw[rounds_succ];go_wp2
 rw[rounds_succ];go_wp2
 go_ret
 exact⟨rfl,rfl⟩
theorem Oy (w:World):Calls Tryz.prog 13 #[.nilIface] w fun e w'=>e=.returned (.tuple #[.int .i64 0,.int .i64 0])∧w=w':=by
 go_enter Tryz.func13,Tryz.ntmps13
 go_wp2_with fail
 go_ret2
 exact⟨rfl,rfl⟩
end Go.Proofs.YteflkdlaoiijbaaGreatDoor
namespace Go.Proofs.YteflkdlaoiijbaaGreatDoor
mutual
def Ast.wt:Ast→Nat
 | .mk h ks=>h.names.length+Ast.dM ks
def Ast.dM:List Ast→Nat
 | []=>0
 | a::l=>Ast.wt a+Ast.dM l
end
theorem Zh (k l:Int) (ks:List Ast):(nd k l ks).wt=Ast.dM ks:=by unfold nd;rw[Ast.wt];simp
theorem Um (k l:Int) (s:ByteArray) (ks:List Ast):(kf k l s ks).wt=Ast.dM ks:=by unfold kf;rw[Ast.wt];simp
theorem Un (k l o:Int) (ks:List Ast):(QY k l o ks).wt=Ast.dM ks:=by unfold QY;rw[Ast.wt];simp
theorem Uo (k l n:Int) (ks:List Ast):(Cy k l n ks).wt=Ast.dM ks:=by unfold Cy;rw[Ast.wt];simp
theorem Up (k l n:Int) (ns:List ByteArray) (ks:List Ast):(vZ k l n ns ks).wt=ns.length+Ast.dM ks:=by unfold vZ;rw[Ast.wt]
theorem Bp:Ast.dM []=0:=by rw[Ast.dM]
theorem rO (a:Ast) (l:List Ast):Ast.dM (a::l)=a.wt+Ast.dM l:=by rw[Ast.dM]
theorem Oz :∀a b:List Ast,Ast.dM (a++b)=Ast.dM a+Ast.dM b:=by
 intro a;induction a with
 | nil=>intro b;rw[mY,Bp,jB]
 | cons x a ih=>intro b;rw[dB,rO,rO,ih,pW]
def abo:(n:NT)→Nat→VT n→Nat→Prop
 | .blk,L,v,L'=>Ast.wt v+L'≤L
 | .nj l,L,v,L'=>Ast.dM v+L'≤Ast.dM l+L
 | .ret _,L,v,L'=>Ast.wt v+L'≤L
 | .v7,L,v,L'=>Ast.wt v+L'≤L
 | .els l,L,v,L'=>Ast.dM v+L'≤Ast.dM l+L
 | .RC _,L,v,L'=>Ast.wt v+L'≤L
 | .RD _,L,v,L'=>Ast.wt v+L'≤L
 | .QZ _ x,L,v,L'=>Ast.wt v+L'≤x.wt+L
 | .loc _,L,v,L'=>Ast.wt v+L'≤L
 | .Ac _ s,L,v,L'=>Ast.wt v+L'≤s.length+L
 | .GX l,L,v,L'=>v.1.length+L'≤l.length+L
 | .GY,L,v,L'=>v.length+L'≤L
 | .Q0 l,L,v,L'=>v.length+L'≤l.length+L
 | .v8,L,v,L'=>Ast.dM v+L'≤L
 | .Q6 l,L,v,L'=>Ast.dM v+L'≤Ast.dM l+L
 | .Q7 _ l,L,v,L'=>Ast.wt v+L'≤Ast.dM l+L
 | .wQ,L,v,L'=>Ast.wt v+L'≤L
 | .aR x,L,v,L'=>Ast.wt v+L'≤x.wt+L
 | .arg,L,v,L'=>Ast.dM v+L'≤L
 | .Kf l,L,v,L'=>Ast.dM v+L'≤Ast.dM l+L
 | .GZ,L,v,L'=>Ast.wt v+L'≤L
 | .exp _,L,v,L'=>Ast.wt v+L'≤L
 | .lvm _ x,L,v,L'=>Ast.wt v+L'≤x.wt+L
 | .una,L,v,L'=>Ast.wt v+L'≤L
 | .CN,L,v,L'=>Ast.wt v+L'≤L
def OA (n:NT) (ts:List ah) (v:VT n) (au:List ah):Prop:=abo n ts.length v au.length
abbrev Yp {α:Type} (g:GL α) (ts:List ah) (Q:α→List ah→Prop):Prop:=Wp OA g ts Q
theorem abp (n:NT) (ts:List ah):Yp (bg n) ts (OA n ts):=by
 cases n<;>unfold bg;all_goals
  repeat' (first
   | with_reducible refine My fun _ _ _=>?_
   | with_reducible refine Mz fun _ _ _=>?_
   | with_reducible refine MA fun _ _ _=>⟨?_,?_⟩
   | with_reducible refine uJ fun _ _ _=>?_
   | with_reducible refine AS ?_
   | with_reducible refine AT ?_ ?_
   | (refine nM ?_;intro(v:Ast) ts h)
   | (refine nM ?_;intro(v:List Ast) ts h)
   | (refine nM ?_;intro(v:List ByteArray) ts h)
   | (refine nM ?_;intro(v:List ByteArray×Int) ts h)
   | refine V6 ?_
   | exact VZ
   | split)
 all_goals
  simp only[OA,abo,Zh,Um,Un,Uo,Up,Bp,rO,Oz,List.length_cons,bM,List.length_nil] at *;omega
theorem Zi {ts au:List ah} {a:Ast} (h:PL kG ts (.ok (a,au))):a.wt≤ts.length:=by
 obtain⟨(b:Ast),eB,h1,h2⟩:=cE (n:=.blk) h;have h3:b.wt+eB.length≤ts.length:=h1.holds abp;cases eB with
 | nil=>cases h2
 | cons u us =>
  have h2:=dL h2;by_cases hk:u.1=0
  ·rw[ak hk] at h2
   obtain⟨e1,_⟩:=qk h2;subst e1;omega
  ·rw[af hk] at h2
   cases h2
inductive Lt where
 | mk (i:Nat) (h:Nd) (kids:List Lt)
def Lt.loc:Lt→Nat
 | .mk i _ _=>i
def Lt.hd:Lt→Nd
 | .mk _ h _=>h
def Lt.sub:Lt→List Lt
 | .mk _ _ ks=>ks
mutual
/-- It lies so in a list of nodes. -/
def Lt.In (T:List Nd):Lt→Prop
 | .mk i h ks=>T[i]? = some h∧h.kids=ks.map (fun k=>(k.loc:Int))∧Lt.u9 T ks
def Lt.u9 (T:List Nd):List Lt→Prop
 | []=>True
 | k::ks=>Lt.In T k∧Lt.u9 T ks
end
structure lq where
 name:ByteArray
 node:Nat
 cap:Bool
structure sQ where
 loc:Bool
 idx:Nat
deriving DecidableEq
structure cR where
 node:Nat
 parent:Int
 params:Nat
 many:Bool
 vars:List lq
 bR:List sQ
structure ju where
 s:ByteArray
 fn:Nat
 i:Nat
structure fB where
 fn:Nat
 node:Nat
 at_:Nat
 loop:Bool
 rep:Bool
 kids:List Lt
structure aG where
 fns:List cR
 uses:Nat→Int×Int
 of:Nat→Int
 names:List ju
 frames:List fB
abbrev Rs (α:Type):=Except (Int×Int) α
def aG.setOf (st:aG) (i fn:Nat):aG:={ st with of:=fun j=>if j=i then (fn:Int) else st.of j}
def aG.dh (st:aG) (i:Nat) (u:Int×Int):aG:={ st with uses:=fun j=>if j=i then u else st.uses j}
def aG.fn (st:aG) (f:Nat):cR:=st.fns.getD f ⟨0,0,0,false,[],[]⟩
def aG.pd (st:aG) (f:Nat) (x:cR):aG:={ st with fns:=st.fns.set f x}
def dR (node f:Nat) (line:Int):List ByteArray→aG→Rs aG
 | [],st=>.ok st
 | s::l,st =>
  if 200≤(st.fn f).vars.length then .error (11,line)
  else dR node f line l { st.pd f { st.fn f with vars:=(st.fn f).vars++[⟨s,node,false⟩]} with names:=⟨s,f,(st.fn f).vars.length⟩::st.names}
def bz (node f:Nat) (line:Int) (l:List ByteArray) (st:aG):Rs aG:=dR node f line l (st.dh node (2,((st.fn f).vars.length:Int)))
def gJ (F:List cR) (f:Nat) (u:sQ):Option (List cR×Nat) :=
 let x:=F.getD f ⟨0,0,0,false,[],[]⟩
 match x.bR.findIdx? (fun y=>decide (y=u)) with
 | some i=>some (F,i)
 | none=>if 60≤x.bR.length then none else some (F.set f { x with bR:=x.bR++[u]},x.bR.length)
def mc (x:ju):Nat→List cR→Nat→Option (List cR×Nat)
 | 0,_,_=>none
 | g+1,F,f =>
  let p:=(F.getD f ⟨0,0,0,false,[],[]⟩).parent
  if p=(x.fn:Int) then gJ F f ⟨true,x.i⟩
  else match mc x g F p.toNat with
   | none=>none
   | some (F',k)=>gJ F' f ⟨false,k⟩
def cQ (x:cR) (i:Nat):cR:={ x with vars:=match x.vars[i]? with|some v=>x.vars.set i { v with cap:=true}|none=>x.vars}
def me (node f:Nat) (s:ByteArray) (line:Int) (st:aG):Rs aG :=
 match st.names.find? (fun n=>decide (n.s=s)) with
 | none=>.ok (st.dh node (1,0))
 | some n =>
  if n.fn=f then .ok (st.dh node (2,(n.i:Int)))
  else match mc n st.fns.length (st.fns.set n.fn (cQ (st.fn n.fn) n.i)) f with
   | none=>.error (12,line)
   | some (F,k)=>.ok ({ st with fns:=F}.dh node (3,(k:Int)))
def lx (s:ByteArray) (k:Lt):Bool:=decide (k.hd.kind=32) && decide (k.hd.s=s)
def bZ (ks:List Lt) (s:ByteArray):Option Nat:=ks.findIdx? (lx s)
def ch (frames:List fB) (f:Nat) (all:List Lt):Nat→List Lt→Option Int
 | _,[]=>none
 | n,k::ks =>
  if k.hd.kind=32∧((∃j,bZ all k.hd.s=some j∧j<n)∨∃x∈frames,x.loop=false∧x.fn=f∧(bZ x.kids k.hd.s).isSome) then some k.hd.line
  else ch frames f all (n+1) ks
def gz (i f:Nat) (rep:Bool) (ks:List Lt) (st:aG):Rs aG :=
 match ch st.frames f ks 0 ks with
 | some l=>.error (9,l)
 | none=>.ok { st with frames:=⟨f,i,0,false,rep,ks⟩::st.frames}
def aG.at (st:aG) (n:Nat):aG:={ st with frames:=match st.frames with | []=>[]|x::l=>{ x with at_:=n}::l}
def dX (node f:Nat) (line:Int) (st:aG):Rs aG :=
 match st.frames.find? (fun x=>x.loop && decide (x.fn=f)) with
 | none=>.error (8,line)
 | some x=>.ok (st.dh node (4,(x.node:Int)))
def isDecl (k:Lt):Bool:=decide (k.hd.kind=19) || decide (k.hd.kind=28)
def mg (ks:List Lt) (a j:Nat) (rep:Bool):Bool :=
 ((ks.take j).drop (a+1)).any isDecl && !(!rep && (ks.drop (j+1)).all fun k=>decide (k.hd.kind=32))
def db (node f:Nat) (s:ByteArray) (line:Int) (st:aG):List fB→Rs aG
 | []=>.error (8,line)
 | x::l =>
  if x.loop=true∨x.fn≠f then db node f s line st l
  else match bZ x.kids s with
   | none=>db node f s line st l
   | some j=>if mg x.kids x.at_ j x.rep then .error (10,line) else .ok (st.dh node (4,((x.kids.getD j (.mk 0 ⟨0,0,0,0,⟨#[]⟩,[],[]⟩ [])).loc:Int)))
def df (i f:Nat) (st:aG):aG:={ st with frames:=⟨f,i,0,true,false,[]⟩::st.frames}
def aG.back (st mJ:aG):aG:={ st with names:=mJ.names,frames:=mJ.frames}
def jQ (i f:Nat) (h:Nd) (st:aG):aG:={ st with fns:=st.fns++[⟨i,(f:Int),h.names.length,decide (h.num=1),[],[]⟩]}
mutual
def aY:Lt→Nat→aG→Rs aG
 | .mk i h ks,f,mJ =>
  let st:=mJ.setOf i f
  if h.kind=6 then (if (st.fn f).many then .ok st else .error (14,h.line))
  else if h.kind=7 then me i f h.s h.line st
  else if h.kind=11 then
   (bz i st.fns.length h.line h.names (jQ i f h st)).bind fun st1=>(aH ks st.fns.length st1).map fun st2=>st2.back st
  else if h.kind=18 then (gz i f false ks st).bind fun st1=>(cF ks 0 f st1).map fun st2=>st2.back st
  else if h.kind=19 then (aH ks f st).bind fun st1=>bz i f h.line h.names st1
  else if h.kind=23 then (aH ks f (df i f st)).map fun st1=>st1.back st
  else if h.kind=24 then (kL ks f (df i f st)).map fun st1=>st1.back st
  else if h.kind=26∨h.kind=27 then iQ i h.line h.names ks f st
  else if h.kind=28 then (bz i f h.line h.names st).bind fun st1=>aH ks f st1
  else if h.kind=30 then dX i f h.line st
  else if h.kind=31 then db i f h.s h.line st st.frames
  else aH ks f st
def aH:List Lt→Nat→aG→Rs aG
 | [],_,st=>.ok st
 | k::ks,f,st=>(aY k f st).bind fun st1=>aH ks f st1
/-- Statements of a block, from the one at n on. -/
def cF:List Lt→Nat→Nat→aG→Rs aG
 | [],_,_,st=>.ok st
 | k::ks,n,f,st=>(aY k f (st.at n)).bind fun st1=>cF ks (n+1) f st1
/-- A block with a test that stands in it. -/
def kL:List Lt→Nat→aG→Rs aG
 | [.mk i _ ks,t],f,st=>(gz i f true ks (st.setOf i f)).bind fun st1=>(cF ks 0 f st1).bind fun st2=>aY t f st2
 | _,_,st=>.ok st
/-- ads, then names are declared, then a block. -/
def iQ (i:Nat) (line:Int) (names:List ByteArray):List Lt→Nat→aG→Rs aG
 | [],_,st=>.ok st
 | [b],f,st=>(bz i f line names (df i f st)).bind fun st1=>(aY b f st1).map fun st2=>st2.back st
 | a::b::l,f,st=>(aY a f st).bind fun st1=>iQ i line names (b::l) f st1
end
def gK (root:Nat):aG:=⟨[⟨root,-1,0,true,[],[]⟩],fun _=>(0,0),fun _=>0,[],[]⟩
def kM (t:Lt):Rs aG:=aY t 0 (gK t.loc)
structure qx (x x':cR):Prop where
 node:x'.node=x.node
 parent:x'.parent=x.parent
 params:x'.params=x.params
 many:x'.many=x.many
 vars :∀(j:Nat) v,x.vars[j]? = some v→∃v':lq,x'.vars[j]? = some v'∧v'.name=v.name∧v'.node=v.node∧(v.cap=true→v'.cap=true)
 bR :∀(j:Nat) u,x.bR[j]? = some u→x'.bR[j]? = some u
theorem qx.refl (x:cR):qx x x:=⟨rfl,rfl,rfl,rfl,fun _ v h=>⟨v,h,rfl,rfl,id⟩,fun _ _ h=>h⟩
theorem qx.trans {x y z:cR} (h:qx x y) (k:qx y z):qx x z :=
 ⟨k.node.trans h.node,k.parent.trans h.parent,k.params.trans h.params,k.many.trans h.many,fun j v hv=>by
  obtain⟨v1,h1,h2,h3,h4⟩:=h.vars j v hv;obtain⟨v2,k1,k2,k3,k4⟩:=k.vars j v1 h1;exact⟨v2,k1,k2.trans h2,k3.trans h3,fun c=>k4 (h4 c)⟩,fun j u hu=>k.bR j u (h.bR j u hu)⟩
theorem qx.len {x y:cR} (h:qx x y):x.vars.length≤y.vars.length:=by
 rcases sw x.vars.length with h0|h0
 ·omega
 ·obtain⟨v',h1,_⟩:=h.vars (x.vars.length-1) _ (bH (by omega))
  have:=(aL.1 h1).1;omega
def va (F F':List cR):Prop:=F.length≤F'.length∧∀(f:Nat) x,F[f]? = some x→∃x',F'[f]? = some x'∧qx x x'
theorem va.refl (F:List cR):va F F:=⟨ai _,fun _ x h=>⟨x,h,.refl x⟩⟩
theorem va.trans {A B C:List cR} (h:va A B) (k:va B C):va A C :=
 ⟨aK h.1 k.1,fun f x hx=>by
  obtain⟨y,hy,e⟩:=h.2 f x hx;obtain⟨z,hz,e'⟩:=k.2 f y hy;exact⟨z,hz,e.trans e'⟩⟩
theorem va.set {F:List cR} {f:Nat} {x x':cR} (h:F[f]? = some x) (e:qx x x'):va F (F.set f x') :=
 ⟨by simp,fun g y hy=>by
  by_cases hg:g=f
  ·subst hg
   rw[h] at hy;injection hy with hy;subst hy;exact⟨x',by rw[dU (aL.1 h).1],e⟩
  ·exact⟨y,by rw[fJ (fun e=>hg e.symm)];exact hy,.refl y⟩⟩
theorem va.app (F:List cR) (x:cR):va F (F++[x]) :=
 ⟨by simp,fun f y hy=>⟨y,by rw[kS (aL.1 hy).1];exact hy,.refl y⟩⟩
structure Ffn (F:List cR) (i:Nat) (x:cR):Prop where
 par:(i=0∧x.parent = -1)∨∃p:Nat,x.parent=(p:Int)∧p<i
 par0:x.params≤x.vars.length
structure CD (F:List cR):Prop where
 pos:0<F.length
 each :∀(i:Nat) x,F[i]? = some x→Ffn F i x
inductive OC (F:List cR):Nat→Nat→Prop
 | same {f:Nat}:OC F f f
 | up {a f p:Nat} {x:cR}:F[f]? = some x→x.parent=(p:Int)→OC F a p→OC F a f
theorem OC.ext {F F':List cR} (h:va F F') {a f:Nat} (k:OC F a f):OC F' a f:=by
 induction k with
 | same=>exact .same
 | up h1 h2 _ ih =>
  obtain⟨x',h3,e⟩:=h.2 _ _ h1;exact .up h3 (e.parent.trans h2) ih
inductive sR (F:List cR) (s:ByteArray):Nat→Nat→Prop
 | here {f k j p:Nat} {x y:cR} {v:lq}:F[f]? = some x→x.bR[k]? = some ⟨true,j⟩→x.parent=(p:Int)→F[p]? = some y→y.vars[j]? = some v→v.name=s→v.cap=true→sR F s f k
 | up {f k j p:Nat} {x:cR}:F[f]? = some x→x.bR[k]? = some ⟨false,j⟩→x.parent=(p:Int)→sR F s p j→sR F s f k
theorem sR.ext {F F':List cR} (h:va F F') {s:ByteArray} {f k:Nat} (l:sR F s f k):sR F' s f k:=by
 induction l with
 | here h1 h2 h3 h4 h5 h6 h7 =>
  obtain⟨x',e1,l1⟩:=h.2 _ _ h1;obtain⟨y',e2,l2⟩:=h.2 _ _ h4;obtain⟨v',e3,e4,_,e5⟩:=l2.vars _ _ h5;exact .here e1 (l1.bR _ _ h2) (l1.parent.trans h3) e2 e3 (e4.trans h6) (e5 h7)
 | up h1 h2 h3 _ ih =>
  obtain⟨x',e1,l1⟩:=h.2 _ _ h1;exact .up e1 (l1.bR _ _ h2) (l1.parent.trans h3) ih
theorem gL {F:List cR} {f:Nat} {x d:cR} (h:F[f]? = some x):F.getD f d=x:=by rw[j5,h];rfl
theorem CD.set {F:List cR} (h:CD F) {f:Nat} {x x':cR} (hx:F[f]? = some x) (e:qx x x'):CD (F.set f x') :=
 ⟨by rw[mC];exact h.pos,fun i y hy=>by
  by_cases hi:i=f
  ·subst hi
   rw[dU (aL.1 hx).1] at hy;injection hy with hy;subst hy;obtain⟨p,q⟩:=h.each _ _ hx;exact⟨by rw[e.parent];exact p,by rw[e.params];exact aK q e.len⟩
  ·rw[fJ (fun e=>hi e.symm)] at hy
   obtain⟨p,q⟩:=h.each _ _ hy;exact⟨p,q⟩⟩
theorem Bq {F F':List cR} {f k:Nat} {u:sQ} (h:gJ F f u=some (F',k)) {x:cR} (hx:F[f]? = some x) (hF:CD F) :
  va F F'∧CD F'∧F'.length=F.length∧∃x',F'[f]? = some x'∧x'.bR[k]? = some u∧x'.parent=x.parent:=by
 unfold gJ at h;simp only[gL hx] at h;split at h
 ·rename_i i hi
  injection h with h;injection h with h1 h2;subst h1 h2;obtain⟨hlt,he,_⟩:=zL.1 hi;refine⟨.refl F,hF,rfl,x,hx,?_,rfl⟩;rw[bH hlt];exact ay some (iK he)
 ·split at h
  ·cases h
  ·injection h with h
   injection h with h1 h2;subst h1 h2;have e:qx x { x with bR:=x.bR++[u]}:=⟨rfl,rfl,rfl,rfl,fun _ v hv=>⟨v,hv,rfl,rfl,id⟩,fun _ w hw=>by
    rw[kS (aL.1 hw).1];exact hw⟩
   exact⟨.set hx e,hF.set hx e,by simp,{ x with bR:=x.bR++[u]},by rw[dU (aL.1 hx).1],by simp,rfl⟩
theorem CD.par {F:List cR} (hF:CD F) {f:Nat} {x:cR} (hx:F[f]? = some x) (h0:f≠0) :∃p:Nat,x.parent=(p:Int)∧p<f∧∃y,F[p]? = some y:=by
 rcases(hF.each _ _ hx).par with ⟨h,_⟩ | ⟨p,h1,h2⟩
 ·exact absurd h h0
 ·have:=(aL.1 hx).1
  exact⟨p,h1,h2,F[p],bH (by omega)⟩
theorem FV {n:ju} :∀(g:Nat) {F F':List cR} {f k:Nat},mc n g F f=some (F',k)→CD F→OC F n.fn f→n.fn≠f→f<F.length→(∃y v,F[n.fn]? = some y∧y.vars[n.i]? = some v∧v.name=n.s∧v.cap=true) →
  va F F'∧CD F'∧F'.length=F.length∧sR F' n.s f k:=by
 intro g;induction g with
 | zero=>intro F F' f k h;cases h
 | succ g ih =>
  intro F F' f k h hF ha hne hf hv;obtain⟨x,hx⟩ :∃x,F[f]? = some x:=⟨_,bH hf⟩;rw[mc] at h;simp only[gL hx] at h;cases ha with
  | same=>exact absurd rfl hne
  | @up _ p x' sZ hp ha =>
   rw[hx] at sZ;injection sZ with sZ;subst sZ;have h0:f≠0:=fun e=>by
    rcases(hF.each _ _ hx).par with ⟨_,h1⟩ | ⟨q,_,h2⟩
    ·omega
    ·omega
   obtain⟨q,hq,hlt,y,hy⟩:=hF.par hx h0;have hqp:q=p:=by omega
   subst hqp;rw[hq] at h;by_cases he:q=n.fn
   ·subst he
    rw[ak rfl] at h;obtain⟨e1,e2,e3,x',sZ,hu,Zj⟩:=Bq h hx hF;obtain⟨y',v,hy',hv1,hv2,hv3⟩:=hv;obtain⟨y2,hy2,l2⟩:=e1.2 _ _ hy';obtain⟨v2,hv4,hv5,_,hv6⟩:=l2.vars _ _ hv1;exact⟨e1,e2,e3,.here sZ hu (Zj.trans hq) hy2 hv4 (hv5.trans hv2) (hv6 hv3)⟩
   ·rw[af (by omega)] at h
    simp only[iJ] at h;split at h
    ·cases h
    ·rename_i F1 k1 h1
     obtain⟨e1,e2,e3,l⟩:=ih h1 hF ha (fun e=>he e.symm) (by omega) hv
     obtain⟨x1,hx1,l1⟩:=e1.2 _ _ hx;obtain⟨g1,g2,g3,x2,hx2,hu,Zj⟩:=Bq h hx1 e2;exact⟨e1.trans g1,g2,g3.trans e3,.up hx2 hu (Zj.trans (l1.parent.trans hq)) (l.ext g1)⟩
mutual
def Lt.gY:Lt→List Nat
 | .mk i _ ks=>i::Lt.bt ks
def Lt.bt:List Lt→List Nat
 | []=>[]
 | k::ks=>Lt.gY k++Lt.bt ks
end
mutual
def Lt.All (Q:Nat→Nd→Prop):Lt→Prop
 | .mk i h ks=>Q i h∧Lt.ec Q ks
def Lt.ec (Q:Nat→Nd→Prop):List Lt→Prop
 | []=>True
 | k::ks=>Lt.All Q k∧Lt.ec Q ks
end
mutual
theorem Lt.All.imp {Q Q':Nat→Nd→Prop} :∀(t:Lt),(∀i∈t.gY,∀h,Q i h→Q' i h)→Lt.All Q t→Lt.All Q' t
 | .mk i h ks,hi,ha=>by
  unfold Lt.All at ha ⊢;exact⟨hi i (by rw[Lt.gY];exact bQ ..) h ha.1,Lt.ec.imp ks (fun j hj=>hi j (by rw[Lt.gY];exact bX _ hj)) ha.2⟩
theorem Lt.ec.imp {Q Q':Nat→Nd→Prop} :∀(ks:List Lt),(∀i∈Lt.bt ks,∀h,Q i h→Q' i h)→Lt.ec Q ks→Lt.ec Q' ks
 | [],_,_=>by unfold Lt.ec;trivial
 | k::ks,hi,ha=>by
  unfold Lt.ec at ha ⊢;exact⟨Lt.All.imp k (fun j hj=>hi j (by rw[Lt.bt];exact gh _ hj)) ha.1,Lt.ec.imp ks (fun j hj=>hi j (by rw[Lt.bt];exact jc _ hj)) ha.2⟩
end
def Kok (h:Nd) (ks:List Lt):Prop:=((h.kind=6∨h.kind=7∨h.kind=30∨h.kind=31)→ks=[])∧(h.kind=24→∃b t,ks=[b,t]∧b.hd.kind=18)
mutual
def Lt.Wf:Lt→Prop
 | .mk _ h ks=>Kok h ks∧Lt.zb ks
def Lt.zb:List Lt→Prop
 | []=>True
 | k::ks=>Lt.Wf k∧Lt.zb ks
end
theorem zc (t:Lt):t.loc∈t.gY:=by cases t with|mk i h ks=>rw[Lt.gY];exact bQ ..
theorem qy :∀{ks:List Lt} {t:Lt},t∈ks→t.loc∈Lt.bt ks
 | k::ks,t,h=>by
  rw[Lt.bt];rcases bb.1 h with rfl|h
  ·exact gh _ (zc _)
  ·exact jc _ (qy h)
def fB.core (x:fB):fB:={ x with at_:=0}
def aG.fr (st:aG):List fB:=st.frames.map fB.core
theorem Wz (st:aG) (n:Nat):(st.at n).fr=st.fr:=by
 unfold aG.at aG.fr;cases st.frames with
 | nil=>rfl
 | cons x l=>rfl
def Jm (F:List cR) (f:Nat) (n:ju):Prop:=OC F n.fn f∧∃y v,F[n.fn]? = some y∧y.vars[n.i]? = some v∧v.name=n.s
theorem Jm.ext {F F':List cR} (h:va F F') {f:Nat} {n:ju} (k:Jm F f n):Jm F' f n:=by
 obtain⟨a,y,v,h1,h2,h3⟩:=k;obtain⟨y',e1,l⟩:=h.2 _ _ h1;obtain⟨v',e2,e3,_⟩:=l.vars _ _ h2;exact⟨a.ext h,y',v',e1,e2,e3.trans h3⟩
structure Cx (f:Nat) (st:aG):Prop where
 ok:CD st.fns
 lt:f<st.fns.length
 names :∀n∈st.names,Jm st.fns f n
def Uok (st:aG) (s:ByteArray) (j:Nat):Prop:=∃f:Nat,st.of j=(f:Int)∧(st.uses j=(1,0)∨(∃k:Nat,st.uses j=(2,(k:Int))∧∃y v,st.fns[f]? = some y∧y.vars[k]? = some v∧v.name=s)∨∃k:Nat,st.uses j=(3,(k:Int))∧sR st.fns s f k)
def Zk (V:List Nat) (fr:List fB) (st:aG) (j:Nat):Prop :=
 ∃f t:Nat,st.of j=(f:Int)∧st.uses j=(4,(t:Int))∧((t∈V∧st.of t=(f:Int))∨∃x∈fr,x.fn=f∧((x.loop=true∧t=x.node)∨(x.loop=false∧t∈x.kids.map Lt.loc)))
def sS (V:List Nat) (fr:List fB) (st:aG) (i:Nat) (h:Nd):Prop:=(h.kind=7→Uok st h.s i)∧(h.kind=30∨h.kind=31→Zk V fr st i)
structure kN (L:List Nat) (f:Nat) (st st':aG):Prop where
 ext:va st.fns st'.fns
 ok:CD st'.fns
 off :∀j,j∉L→st'.uses j=st.uses j∧st'.of j=st.of j
 names :∃a,st'.names=a++st.names∧∀n∈a,Jm st'.fns f n
 new :∀(g:Nat) x,st.fns.length≤g→st'.fns[g]? = some x→x.node∈L∧st'.of x.node=x.parent
theorem kN.cx {L:List Nat} {f:Nat} {st st':aG} (h:kN L f st st') (c:Cx f st):Cx f st' :=
 ⟨h.ok,cC c.lt h.ext.1,fun n hn=>by
  obtain⟨a,e,ha⟩:=h.names;rw[e] at hn;rcases dd.1 hn with hn|hn
  ·exact ha n hn
  ·exact(c.names n hn).ext h.ext⟩
theorem kN.refl {f:Nat} {st:aG} (c:Cx f st):kN [] f st st:=⟨.refl _,c.ok,fun _ _=>⟨rfl,rfl⟩,⟨[],rfl,fun n hn=>by simp at hn⟩,fun g x h1 h2=>by have:=(aL.1 h2).1;omega⟩
theorem kN.more {L L':List Nat} {f:Nat} {st st':aG} (h:kN L f st st') (hL :∀j∈L,j∈L'):kN L' f st st' :=
 ⟨h.ext,h.ok,fun j hj=>h.off j fun e=>hj (hL j e),h.names,fun g x h1 h2=>⟨hL _ (h.new g x h1 h2).1,(h.new g x h1 h2).2⟩⟩
theorem kN.trans {A B:List Nat} {f:Nat} {a b c:aG} (h:kN A f a b) (k:kN B f b c) (hd :∀j∈A,j∉B):kN (A++B) f a c :=
 ⟨h.ext.trans k.ext,k.ok,fun j hj=>by
  rw[dd,sy] at hj;exact⟨(k.off j hj.2).1.trans (h.off j hj.1).1,(k.off j hj.2).2.trans (h.off j hj.1).2⟩,by
  obtain⟨x,e1,h1⟩:=h.names;obtain⟨y,e2,h2⟩:=k.names;refine⟨y++x,by rw[e2,e1,eS],fun n hn=>?_⟩
  rcases dd.1 hn with hn|hn
  ·exact h2 n hn
  ·exact(h1 n hn).ext k.ext,fun g x h1 h2=>by
  by_cases hg:b.fns.length≤g
  ·exact⟨jc _ (k.new g x hg h2).1,(k.new g x hg h2).2⟩
  ·obtain⟨y,hy⟩ :∃y,b.fns[g]? = some y:=⟨_,bH (by omega)⟩
   obtain⟨x',sZ,l⟩:=k.ext.2 g y hy;rw[h2] at sZ;injection sZ with sZ;subst sZ;obtain⟨m1,m2⟩:=h.new g y h1 hy;rw[←l.node] at m1 m2;exact⟨gh _ m1,by rw[(k.off _ (hd _ m1)).2,m2,l.parent]⟩⟩
theorem Uok.later {B:List Nat} {f:Nat} {b c:aG} {s:ByteArray} {j:Nat} (h:Uok b s j) (k:kN B f b c) (hj:j∉B):Uok c s j:=by
 obtain⟨g,h1,h2⟩:=h;obtain⟨e1,e2⟩:=k.off j hj;refine⟨g,by rw[e2];exact h1,?_⟩
 rw[e1];rcases h2 with h2 | ⟨n,h2,y,v,h3,h4,h5⟩ | ⟨n,h2,h3⟩
 ·exact .inl h2
 ·obtain⟨y',e3,l⟩:=k.ext.2 _ _ h3
  obtain⟨v',e4,e5,_⟩:=l.vars _ _ h4;exact .inr (.inl ⟨n,h2,y',v',e3,e4,e5.trans h5⟩)
 ·exact .inr (.inr ⟨n,h2,h3.ext k.ext⟩)
theorem Zk.later {B V:List Nat} {fr:List fB} {f:Nat} {b c:aG} {j:Nat} (h:Zk V fr b j) (k:kN B f b c) (hj:j∉B) (hV :∀t∈V,t∉B):Zk V fr c j:=by
 obtain⟨g,t,h1,h2,h3⟩:=h;obtain⟨e1,e2⟩:=k.off j hj;refine⟨g,t,by rw[e2];exact h1,by rw[e1];exact h2,?_⟩
 rcases h3 with ⟨h3,h4⟩|h3
 ·exact .inl ⟨h3,by rw[(k.off t (hV t h3)).2];exact h4⟩
 ·exact .inr h3
theorem sS.later {B V:List Nat} {fr:List fB} {f:Nat} {b c:aG} {j:Nat} {h:Nd} (q:sS V fr b j h) (k:kN B f b c) (hj:j∉B) (hV :∀t∈V,t∉B):sS V fr c j h :=
 ⟨fun e=>(q.1 e).later k hj,fun e=>(q.2 e).later k hj hV⟩
theorem sS.more {V V':List Nat} {fr:List fB} {b:aG} {j:Nat} {h:Nd} (q:sS V fr b j h) (hV :∀t∈V,t∈V'):sS V' fr b j h :=
 ⟨q.1,fun e=>by
  obtain⟨g,t,h1,h2,h3⟩:=q.2 e;exact⟨g,t,h1,h2,h3.imp (fun h=>⟨hV t h.1,h.2⟩) id⟩⟩
theorem sS.left {V:List Nat} {x:fB} {fr:List fB} {b:aG} {j:Nat} {h:Nd} (q:sS V (x::fr) b j h) (hx :∀t,((x.loop=true∧t=x.node)∨(x.loop=false∧t∈x.kids.map Lt.loc))→t∈V∧b.of t=(x.fn:Int)):sS V fr b j h :=
 ⟨q.1,fun e=>by
  obtain⟨g,t,h1,h2,h3⟩:=q.2 e;refine⟨g,t,h1,h2,?_⟩;rcases h3 with h3 | ⟨y,hy,h4,h5⟩
  ·exact .inl h3
  ·rcases bb.1 hy with rfl|hy
   ·obtain⟨k1,k2⟩:=hx t h5
    exact .inl ⟨k1,by rw[k2,h4]⟩
   ·exact .inr ⟨y,hy,h4,h5⟩⟩
theorem sS.same {V:List Nat} {fr:List fB} {b c:aG} {j:Nat} {h:Nd} (q:sS V fr b j h) (e1:c.fns=b.fns) (e2:c.uses=b.uses) (e3:c.of=b.of):sS V fr c j h:=by
 unfold sS Uok Zk at *;rw[e1,e2,e3];exact q
theorem kN.back {L:List Nat} {f:Nat} {st st':aG} (h:kN L f st st'):kN L f st (st'.back st) :=
 ⟨h.ext,h.ok,h.off,⟨[],rfl,fun n hn=>by simp at hn⟩,h.new⟩
theorem FW {f:Nat} {st:aG} (c:Cx f st) (i g:Nat):kN [i] f st (st.setOf i g) :=
 ⟨.refl _,c.ok,fun j hj=>⟨rfl,af (by simpa using hj)⟩,⟨[],rfl,fun n hn=>by simp at hn⟩,fun g x h1 h2=>by have h3:g<st.fns.length:=(aL.1 h2).1;omega⟩
theorem tI {f:Nat} {st:aG} (c:Cx f st) (i:Nat) (u:Int×Int):kN [i] f st (st.dh i u) :=
 ⟨.refl _,c.ok,fun j hj=>⟨af (by simpa using hj),rfl⟩,⟨[],rfl,fun n hn=>by simp at hn⟩,fun g x h1 h2=>by have h3:g<st.fns.length:=(aL.1 h2).1;omega⟩
theorem vb (st:aG) (i:Nat) (u:Int×Int):(st.dh i u).uses i=u:=ak rfl
theorem OD (st:aG) (i f:Nat):(st.setOf i f).of i=(f:Int):=ak rfl
def kz (x:cR) (node:Nat) (l:List ByteArray):cR:={ x with vars:=x.vars++l.map fun s=>⟨s,node,false⟩}
theorem Jn (x:cR) (node:Nat):kz x node []=x:=by unfold kz;simp
theorem Br (x:cR) (node:Nat) (l:List ByteArray):qx x (kz x node l) :=
 ⟨rfl,rfl,rfl,rfl,fun j v h=>⟨v,by unfold kz;rw[kS (aL.1 h).1];exact h,rfl,rfl,id⟩,fun _ _ h=>h⟩
theorem OE {F:List cR} {f:Nat} {x:cR} (h:F[f]? = some x):F.set f x=F:=by
 refine KY fun g=>?_
 by_cases hg:f=g
 ·subst hg
  rw[dU (aL.1 h).1,h]
 ·rw[fJ hg]
theorem xH {node f:Nat} {line:Int} :∀(l:List ByteArray) {st st':aG} {x:cR},dR node f line l st=.ok st'→st.fns[f]? = some x →
  st'.fns=st.fns.set f (kz x node l)∧st'.uses=st.uses∧st'.of=st.of∧st'.frames=st.frames∧x.vars.length+l.length≤max 200 x.vars.length ∧
  ∃a,st'.names=a++st.names∧∀n∈a,n.fn=f∧∃v,(kz x node l).vars[n.i]? = some v∧v.name=n.s:=by
 intro l;induction l with
 | nil =>
  intro st st' x h hx;rw[dR] at h;injection h with h;subst h;exact⟨by rw[Jn,OE hx],rfl,rfl,rfl,by simp;omega,[],rfl,fun n hn=>by simp at hn⟩
 | cons s l ih =>
  intro st st' x h hx;rw[dR] at h;have e:st.fn f=x:=gL hx;rw[e] at h;split at h
  ·cases h
  ·rename_i hlt
   have hf:=(aL.1 hx).1;have sZ:(st.pd f { x with vars:=x.vars++[⟨s,node,false⟩]}).fns[f]? = some { x with vars:=x.vars++[⟨s,node,false⟩]}:=dU hf;obtain⟨h1,h2,h3,h4,h5,a,h6,h7⟩:=ih h sZ;have e2:kz { x with vars:=x.vars++[⟨s,node,false⟩]} node l=kz x node (s::l):=by unfold kz;simp
   refine⟨?_,h2,h3,h4,?_,a++[⟨s,f,x.vars.length⟩],by rw[h6];simp,fun n hn=>?_⟩
   ·rw[h1,e2]
    show(st.fns.set f _).set f _=_
    rw[List.set_set]
   ·simp only[bM,List.length_cons,List.length_nil] at h5 ⊢
    omega
   ·rw[e2] at h7
    rcases dd.1 hn with hn|hn
    ·exact h7 n hn
    ·rw[bI] at hn
     subst hn;refine⟨rfl,⟨s,node,false⟩,?_,rfl⟩;unfold kz;simp
theorem nV {node f:Nat} {line:Int} {l:List ByteArray} {st st':aG} (h:bz node f line l st=.ok st') (c:Cx f st):kN [node] f st st'∧st'.frames=st.frames∧st'.of=st.of:=by
 obtain⟨x,hx⟩ :∃x,st.fns[f]? = some x:=⟨_,bH c.lt⟩;unfold bz at h;obtain⟨h1,h2,h3,h4,_,a,h6,h7⟩:=xH l h (x:=x) hx;have h1:st'.fns=st.fns.set f (kz x node l):=h1;refine⟨⟨?_,?_,fun j hj=>⟨?_,congrFun h3 j⟩,⟨a,h6,fun n hn=>?_⟩,fun g y k1 k2=>?_⟩,h4,h3⟩
 ·rw[h1];exact .set hx (Br x node l)
 ·rw[h1];exact c.ok.set hx (Br x node l)
 ·rw[h2];exact af (by simpa using hj)
 ·obtain⟨e,v,k1,k2⟩:=h7 n hn
  rw[h1];unfold Jm;exact⟨by rw[e];exact .same,_,v,by rw[e,dU c.lt],k1,k2⟩
 ·have:=(aL.1 k2).1
  rw[h1,mC] at this;omega
theorem xI {i f:Nat} {h:Nd} {st st':aG} (e:bz i st.fns.length h.line h.names (jQ i f h st)=.ok st') (c:Cx f st) :
  Cx st.fns.length st'∧va st.fns st'.fns∧st'.fns.length=st.fns.length+1∧st'.of=st.of∧(∀j,j≠i→st'.uses j=st.uses j)∧st'.frames=st.frames∧(∃x,st'.fns[st.fns.length]? = some x∧x.node=i∧x.parent=(f:Int)):=by
 unfold bz at e;have hx:((jQ i f h st).dh i (2,(((jQ i f h st).fn st.fns.length).vars.length:Int))).fns[st.fns.length]? = some ⟨i,(f:Int),h.names.length,decide (h.num=1),[],[]⟩:=by
  show(st.fns++[_])[st.fns.length]? = _
  simp
 obtain⟨h1,h2,h3,h4,_,a,h6,h7⟩:=xH _ e hx;have hF:st'.fns=st.fns++[kz ⟨i,(f:Int),h.names.length,decide (h.num=1),[],[]⟩ i h.names]:=by
  rw[h1];show(st.fns++[_]).set st.fns.length _=_
  rw[List.set_append_right _ _ (ai _)];simp
 have hE:va st.fns st'.fns:=by rw[hF];exact .app _ _
 have hl:st'.fns[st.fns.length]? = some (kz ⟨i,(f:Int),h.names.length,decide (h.num=1),[],[]⟩ i h.names):=by rw[hF];simp
 refine⟨⟨⟨by rw[hF];simp,fun g y hy=>?_⟩,by rw[hF];simp,fun n hn=>?_⟩,hE,by rw[hF];simp,h3,fun j hj=>by rw[h2];exact af hj,h4,_,hl,rfl,rfl⟩
 ·by_cases hg:g<st.fns.length
  ·have hy':st.fns[g]? = some y:=by rw[hF,kS hg] at hy;exact hy
   obtain⟨p,q⟩:=c.ok.each _ _ hy';exact⟨p,q⟩
  ·have hlt:=(aL.1 hy).1
   rw[hF] at hlt;simp only[bM,List.length_cons,List.length_nil] at hlt;have vT:g=st.fns.length:=by omega
   subst vT;rw[hl] at hy;injection hy with hy;subst hy;exact⟨.inr ⟨f,rfl,c.lt⟩,by unfold kz;simp⟩
 ·rw[h6] at hn
  rcases dd.1 hn with hn|hn
  ·obtain⟨k1,v,k2,k3⟩:=h7 n hn
   exact⟨by rw[k1];exact .same,_,v,by rw[k1];exact hl,k2,k3⟩
  ·obtain⟨k1,k2⟩:=(c.names n hn).ext hE
   exact⟨.up hl rfl k1,k2⟩
theorem qz (x:cR) (i:Nat):qx x (cQ x i):=by
 unfold cQ;split
 ·rename_i v hv
  refine⟨rfl,rfl,rfl,rfl,fun j w hw=>?_,fun _ _ h=>h⟩
  by_cases hj:j=i
  ·subst hj
   rw[hv] at hw;injection hw with hw;subst hw;exact⟨_,dU (aL.1 hv).1,rfl,rfl,fun _=>rfl⟩
  ·exact⟨w,by rw[fJ (fun e=>hj e.symm)];exact hw,rfl,rfl,id⟩
 ·exact .refl x
theorem Zl {i f:Nat} {s:ByteArray} {line:Int} {st st':aG} (h:me i f s line st=.ok st') (c:Cx f st) (hi:st.of i=(f:Int)):kN [i] f st st'∧st'.frames=st.frames∧st'.of=st.of∧Uok st' s i:=by
 unfold me at h;split at h
 ·injection h with h
  subst h;exact⟨tI c _ _,rfl,rfl,f,hi,.inl (vb _ _ _)⟩
 ·rename_i n hn
  have hs:n.s=s:=iK (by simpa using List.find?_some hn)
  obtain⟨ha,y,v,hy,hv,Uq⟩:=c.names n (KC hn);split at h
  ·rename_i hf
   injection h with h;subst h;refine⟨tI c _ _,rfl,rfl,f,hi,.inr (.inl ⟨n.i,vb _ _ _,y,v,?_,hv,Uq.trans hs⟩)⟩;rw[←hf];exact hy
  ·rename_i hf
   split at h
   ·cases h
   ·rename_i F k hk
    injection h with h;subst h;have e0:st.fn n.fn=y:=gL hy;rw[e0] at hk;have hyl:=(aL.1 hy).1;have hE0:va st.fns (st.fns.set n.fn (cQ y n.i)):=.set hy (qz y n.i);obtain⟨e1,e2,e3,hl⟩:=FV _ hk (c.ok.set hy (qz y n.i)) (ha.ext hE0) hf (by rw[mC];exact c.lt) ⟨cQ y n.i,{ v with cap:=true},dU hyl,by
     unfold cQ;rw[hv];exact dU (aL.1 hv).1,Uq,rfl⟩
    refine⟨⟨hE0.trans e1,e2,fun j hj=>⟨af (by simpa using hj),rfl⟩,⟨[],rfl,fun n hn=>by simp at hn⟩,fun g x k1 k2=>?_⟩,rfl,rfl,f,hi,.inr (.inr ⟨k,vb _ _ _,by rw[←hs];exact hl⟩)⟩
    have:=(aL.1 k2).1;have e4:F.length=st.fns.length:=by rw[e3,mC]
    have e5:(({ st with fns:=F}:aG).dh i (3,(k:Int))).fns=F:=rfl;rw[e5] at this;omega
theorem OF {i f:Nat} {line:Int} {st st':aG} (h:dX i f line st=.ok st') (c:Cx f st) (hi:st.of i=(f:Int)):kN [i] f st st'∧st'.frames=st.frames∧st'.of=st.of∧∀V,Zk V st.fr st' i:=by
 unfold dX at h;split at h
 ·cases h
 ·rename_i x hx
  injection h with h;subst h;have h1:=List.find?_some hx;simp only[dk,je] at h1;exact⟨tI c _ _,rfl,rfl,fun V=>⟨f,x.node,hi,vb _ _ _,.inr ⟨x.core,j6 (KC hx),h1.2,.inl ⟨h1.1,rfl⟩⟩⟩⟩
theorem Ur {i f:Nat} {s:ByteArray} {line:Int} {st st':aG} (c:Cx f st) (hi:st.of i=(f:Int)) :∀(l:List fB),db i f s line st l=.ok st'→(∀x∈l,x∈st.frames)→kN [i] f st st'∧st'.frames=st.frames∧st'.of=st.of∧∀V,Zk V st.fr st' i:=by
 intro l;induction l with
 | nil=>intro h;cases h
 | cons x l ih =>
  intro h hl;rw[db] at h;split at h
  ·exact ih h fun y hy=>hl y (bX _ hy)
  ·rename_i hc
   rw[sy,Decidable.not_not] at hc;split at h
   ·exact ih h fun y hy=>hl y (bX _ hy)
   ·rename_i j hj
    split at h
    ·cases h
    ·injection h with h
     subst h;obtain⟨hlt,he,_⟩:=zL.1 hj;refine⟨tI c _ _,rfl,rfl,fun V=>⟨f,_,hi,vb _ _ _,.inr ⟨x.core,j6 (hl x (bQ ..)),hc.2,(.inr ⟨show x.loop=false by simpa using hc.1,?_⟩)⟩⟩⟩
     have e:x.kids.getD j (.mk 0 ⟨0,0,0,0,⟨#[]⟩,[],[]⟩ [])=x.kids[j]:=by rw[j5,bH hlt];rfl
     rw[e];exact j6 (K9 hlt)
theorem kN.ve {A B:List Nat} {f:Nat} {a b c:aG} (h:kN A f a b) (k:kN B f b c) (e:c.of=b.of):kN (A++B) f a c :=
 ⟨h.ext.trans k.ext,k.ok,fun j hj=>by
  rw[dd,sy] at hj;exact⟨(k.off j hj.2).1.trans (h.off j hj.1).1,(k.off j hj.2).2.trans (h.off j hj.1).2⟩,by
  obtain⟨x,e1,h1⟩:=h.names;obtain⟨y,e2,h2⟩:=k.names;refine⟨y++x,by rw[e2,e1,eS],fun n hn=>?_⟩
  rcases dd.1 hn with hn|hn
  ·exact h2 n hn
  ·exact(h1 n hn).ext k.ext,fun g x h1 h2=>by
  by_cases hg:b.fns.length≤g
  ·exact⟨jc _ (k.new g x hg h2).1,(k.new g x hg h2).2⟩
  ·obtain⟨y,hy⟩ :∃y,b.fns[g]? = some y:=⟨_,bH (by omega)⟩
   obtain⟨x',sZ,l⟩:=k.ext.2 g y hy;rw[h2] at sZ;injection sZ with sZ;subst sZ;obtain⟨m1,m2⟩:=h.new g y h1 hy;rw[←l.node] at m1 m2;exact⟨gh _ m1,by rw[e,m2,l.parent]⟩⟩
theorem kN.Zm {i:Nat} {L:List Nat} {f:Nat} {a b c:aG} (h:kN [i] f a b) (k:kN (i::L) f b c) (e:b.of i=(f:Int)) (e':c.of i=(f:Int)):kN (i::L) f a c :=
 ⟨h.ext.trans k.ext,k.ok,fun j hj=>by
  have hj':=hj;rw[bb,sy] at hj';have h1:=h.off j (by simpa using hj'.1)
  exact⟨(k.off j hj).1.trans h1.1,(k.off j hj).2.trans h1.2⟩,by
  obtain⟨x,e1,h1⟩:=h.names;obtain⟨y,e2,h2⟩:=k.names;refine⟨y++x,by rw[e2,e1,eS],fun n hn=>?_⟩
  rcases dd.1 hn with hn|hn
  ·exact h2 n hn
  ·exact(h1 n hn).ext k.ext,fun g x h1 h2=>by
  by_cases hg:b.fns.length≤g
  ·exact k.new g x hg h2
  ·obtain⟨y,hy⟩ :∃y,b.fns[g]? = some y:=⟨_,bH (by omega)⟩
   obtain⟨x',sZ,l⟩:=k.ext.2 g y hy;rw[h2] at sZ;injection sZ with sZ;subst sZ;obtain⟨m1,m2⟩:=h.new g y h1 hy;rw[bI] at m1;rw[l.node,m1];rw[m1,e] at m2;exact⟨bQ ..,by rw[e',m2,l.parent]⟩⟩
theorem kN.rP {L:List Nat} {f:Nat} {a b:aG} {fr:List fB} (h:kN L f { a with frames:=fr} b):kN L f a b:=⟨h.ext,h.ok,h.off,h.names,h.new⟩
theorem Cx.Bt {f:Nat} {a:aG} (fr:List fB) (h:Cx f a):Cx f { a with frames:=fr}:=⟨h.ok,h.lt,h.names⟩
theorem kN.at_ {L:List Nat} {f n:Nat} {a b:aG} (h:kN L f (a.at n) b):kN L f a b:=⟨h.ext,h.ok,h.off,h.names,h.new⟩
theorem Cx.at_ {f:Nat} {a:aG} (n:Nat) (h:Cx f a):Cx f (a.at n):=⟨h.ok,h.lt,h.names⟩
theorem quiet {V:List Nat} {fr:List fB} {st:aG} {i:Nat} {h:Nd} (h7:h.kind≠7) (FX:h.kind≠30) (FY:h.kind≠31):sS V fr st i h:=⟨fun e=>absurd e h7,fun e=>e.elim (fun e=>absurd e FX) fun e=>absurd e FY⟩
theorem vg {α β:Type} {x:Rs α} {g:α→β} {y:β} (h:x.map g=.ok y) :∃a,x=.ok a∧y=g a:=by
 cases x with
 | error e=>cases h
 | ok a=>injection h with h;exact⟨a,rfl,h.symm⟩
theorem iD {α β:Type} {x:Rs α} {g:α→Rs β} {y:β} (h:x.bind g=.ok y) :∃a,x=.ok a∧g a=.ok y:=by
 cases x with
 | error e=>cases h
 | ok a=>exact⟨a,rfl,h⟩
theorem Bu {i f:Nat} {rep:Bool} {ks:List Lt} {st st':aG} (h:gz i f rep ks st=.ok st'):st'={ st with frames:=⟨f,i,0,false,rep,ks⟩::st.frames}:=by
 unfold gz at h;split at h
 ·cases h
 ·injection h with h
  exact h.symm
mutual
theorem ly :∀(t:Lt) {f:Nat} {mJ st':aG},aY t f mJ=.ok st'→t.gY.Nodup→Cx f mJ→t.Wf →
  kN t.gY f mJ st'∧st'.frames=mJ.frames∧st'.of t.loc=(f:Int)∧Lt.All (sS t.gY mJ.fr st') t
 | .mk i h ks,f,mJ,st',hr,hn,c0,hw=>by
  rw[Lt.gY,mz] at hn;obtain⟨tJ,CI⟩:=hn;unfold Lt.Wf at hw;obtain⟨⟨hk0,adt⟩,WA⟩:=hw;have S1:=FW c0 i f;have c:=S1.cx c0;have hi:(mJ.setOf i f).of i=(f:Int):=OD _ _ _;have mT:(mJ.setOf i f).fr=mJ.fr:=rfl;have FZ:(mJ.setOf i f).frames=mJ.frames:=rfl;have Ri:(mJ.setOf i f).names=mJ.names:=rfl;have hfn:(mJ.setOf i f).fns=mJ.fns:=rfl;rw[Lt.gY];unfold Lt.All;show _∧_∧st'.of i=(f:Int)∧_
  unfold aY at hr;generalize mJ.setOf i f=st at *;rw[←mT];have hd :∀j∈[i],j∉Lt.bt ks:=fun j hj=>by rw[bI] at hj;rw[hj];exact tJ
  have up :∀{fr:List fB} {s:aG},Lt.ec (sS (Lt.bt ks) fr s) ks→Lt.ec (sS (i::Lt.bt ks) fr s) ks:=fun ha=>Lt.ec.imp ks (fun j _ h q=>q.more fun t ht=>bX _ ht) ha
  by_cases h6:h.kind=6
  ·rw[ak h6] at hr
   split at hr
   ·injection hr with hr
    subst hr;have:=hk0 (.inl h6);subst this;exact⟨by simpa[Lt.bt] using S1,FZ,hi,quiet (by omega) (by omega) (by omega),by unfold Lt.ec;trivial⟩
   ·cases hr
  rw[af h6] at hr;by_cases h7:h.kind=7
  ·rw[ak h7] at hr
   have:=hk0 (.inr (.inl h7));subst this;obtain⟨a1,a2,a3,a4⟩:=Zl hr c hi;exact⟨(S1.ve a1 a3).more (by simp),a2.trans FZ,by rw[a3];exact hi,⟨fun _=>a4,fun e=>by omega⟩,by unfold Lt.ec;trivial⟩
  rw[af h7] at hr;by_cases h11:h.kind=11
  ·rw[ak h11] at hr
   obtain⟨s1,e1,hr⟩:=iD hr;obtain⟨s2,e2,rfl⟩:=vg hr;obtain⟨cx,b1,b2,b3,b4,b5,x,b6,b7,b8⟩:=xI e1 c;obtain⟨a1,_,a3,a4⟩:=gA ks e2 CI cx WA;have we:s2.of i=(f:Int):=by rw[(a1.off i tJ).2,b3];exact hi
   refine⟨⟨S1.ext.trans (b1.trans a1.ext),a1.ok,fun j hj=>?_,⟨[],Ri,fun n hn=>by simp at hn⟩,fun g y k1 k2=>?_⟩,FZ,we,quiet (by omega) (by omega) (by omega),?_⟩
   ·rw[bb,sy] at hj
    obtain⟨q1,q2⟩:=a1.off j hj.2;obtain⟨q3,q4⟩:=S1.off j (by simpa using hj.1)
    exact⟨by rw[←q3,←b4 j hj.1];exact q1,by rw[←q4,←b3];exact q2⟩
   ·have k2:s2.fns[g]? = some y:=k2
    by_cases hg:s1.fns.length≤g
    ·exact⟨bX _ (a1.new g y hg k2).1,(a1.new g y hg k2).2⟩
    ·have vT:g=st.fns.length:=by rw[←hfn] at k1;omega
     subst vT;obtain⟨x',m1,m2⟩:=a1.ext.2 _ _ b6;rw[k2] at m1;injection m1 with m1;subst m1;have e3:y.node=i:=m2.node.trans b7;exact⟨by rw[e3];exact bQ ..,by rw[e3,m2.parent,b8];exact we⟩
   ·have e4:s1.fr=st.fr:=by unfold aG.fr;rw[b5]
    rw[e4] at a4;exact up (Lt.ec.imp ks (fun j _ _ q=>q.same rfl rfl rfl) a4)
  rw[af h11] at hr;by_cases mF:h.kind=18
  ·rw[ak mF] at hr
   obtain⟨s1,e1,hr⟩:=iD hr;obtain⟨s2,e2,rfl⟩:=vg hr;have e1:=Bu e1;subst e1;obtain⟨a1,_,a3,a4⟩:=rQ ks e2 CI (c.Bt _) WA;have we:s2.of i=(f:Int):=by rw[(a1.off i tJ).2];exact hi
   refine⟨S1.trans a1.rP.back hd |>.more (by simp),FZ,we,quiet (by omega) (by omega) (by omega),up (Lt.ec.imp ks (fun j _ _ q=>?_) a4)⟩
   have q:sS (Lt.bt ks) (_::st.fr) s2 _ _:=q;refine(q.left fun t ht=>?_).same rfl rfl rfl
   rcases ht with ⟨ht,_⟩ | ⟨_,ht⟩
   ·cases ht
   ·obtain⟨k,hk,rfl⟩:=jA.1 ht
    exact⟨qy hk,a3 k hk⟩
  rw[af mF] at hr;by_cases Mo:h.kind=19
  ·rw[ak Mo] at hr
   obtain⟨s1,e1,e2⟩:=iD hr;obtain⟨a1,a2,a3,a4⟩:=gA ks e1 CI c WA;have S2:=S1.trans a1 hd;obtain⟨b1,b2,b3⟩:=nV e2 (a1.cx c);refine⟨(S2.ve b1 b3).more (fun z hz=>by simp only[dd,bb,oS,oV] at hz ⊢;rcases hz with (hz|hz)|hz<;>simp[hz]),(b2.trans a2).trans FZ,by rw[b3,(a1.off i tJ).2];exact hi,quiet (by omega) (by omega) (by omega),up (Lt.ec.imp ks (fun j hj _ q=>q.later b1 ?_ ?_) a4)⟩
   ·intro e;rw[bI] at e;rw[e] at hj;exact tJ hj
   ·intro t ht e;rw[bI] at e;rw[e] at ht;exact tJ ht
  rw[af Mo] at hr;by_cases Rj:h.kind=23
  ·rw[ak Rj] at hr
   obtain⟨s2,e2,rfl⟩:=vg hr;obtain⟨a1,_,a3,a4⟩:=gA ks e2 CI (c.Bt _) WA;have we:s2.of i=(f:Int):=by rw[(a1.off i tJ).2];exact hi
   refine⟨S1.trans a1.rP.back hd |>.more (by simp),FZ,we,quiet (by omega) (by omega) (by omega),Lt.ec.imp ks (fun j _ _ q=>?_) (up a4)⟩
   have q:sS (i::Lt.bt ks) (_::st.fr) s2 _ _:=q;refine(q.left fun t ht=>?_).same rfl rfl rfl
   rcases ht with ⟨_,ht⟩ | ⟨ht,_⟩
   ·rw[ht];exact⟨bQ ..,we⟩
   ·cases ht
  rw[af Rj] at hr;by_cases OG:h.kind=24
  ·rw[ak OG] at hr
   obtain⟨s2,e2,rfl⟩:=vg hr;obtain⟨a1,a3,a4⟩:=Us ks e2 CI (c.Bt _) WA (adt OG);have we:s2.of i=(f:Int):=by rw[(a1.off i tJ).2];exact hi
   refine⟨S1.trans a1.rP.back hd |>.more (by simp),FZ,we,quiet (by omega) (by omega) (by omega),Lt.ec.imp ks (fun j _ _ q=>?_) (up a4)⟩
   have q:sS (i::Lt.bt ks) (_::st.fr) s2 _ _:=q;refine(q.left fun t ht=>?_).same rfl rfl rfl
   rcases ht with ⟨_,ht⟩ | ⟨ht,_⟩
   ·rw[ht];exact⟨bQ ..,we⟩
   ·cases ht
  rw[af OG] at hr;by_cases Rk:h.kind=26∨h.kind=27
  ·rw[ak Rk] at hr
   obtain⟨a1,a2,a3,a4⟩:=Bv ks hr tJ CI c WA hi;exact⟨(S1.Zm a1 hi a3).more (by simp),a2.trans FZ,a3,quiet (by omega) (by omega) (by omega),a4⟩
  rw[af Rk] at hr;by_cases Rl:h.kind=28
  ·rw[ak Rl] at hr
   obtain⟨s1,e1,e2⟩:=iD hr;obtain⟨b1,b2,b3⟩:=nV e1 c;obtain⟨a1,a2,a3,a4⟩:=gA ks e2 CI (b1.cx c) WA;have S2:=S1.ve b1 b3;have e4:s1.fr=st.fr:=by unfold aG.fr;rw[b2]
   rw[e4] at a4;exact⟨(S2.trans a1 (by simpa using tJ)).more (by simp),(a2.trans b2).trans FZ,by rw[(a1.off i tJ).2,b3];exact hi,quiet (by omega) (by omega) (by omega),up a4⟩
  rw[af Rl] at hr;by_cases FX:h.kind=30
  ·rw[ak FX] at hr
   have:=hk0 (.inr (.inr (.inl FX)));subst this;obtain⟨a1,a2,a3,a4⟩:=OF hr c hi;exact⟨(S1.ve a1 a3).more (by simp),a2.trans FZ,by rw[a3];exact hi,⟨fun e=>by omega,fun _=>a4 _⟩,by unfold Lt.ec;trivial⟩
  rw[af FX] at hr;by_cases FY:h.kind=31
  ·rw[ak FY] at hr
   have:=hk0 (.inr (.inr (.inr FY)));subst this;obtain⟨a1,a2,a3,a4⟩:=Ur c hi _ hr (fun _ h=>h)
   exact⟨(S1.ve a1 a3).more (by simp),a2.trans FZ,by rw[a3];exact hi,⟨fun e=>by omega,fun _=>a4 _⟩,by unfold Lt.ec;trivial⟩
  rw[af FY] at hr;obtain⟨a1,a2,a3,a4⟩:=gA ks hr CI c WA;exact⟨S1.trans a1 hd,a2.trans FZ,by rw[(a1.off i tJ).2];exact hi,quiet h7 FX FY,up a4⟩
theorem gA :∀(ks:List Lt) {f:Nat} {st st':aG},aH ks f st=.ok st'→(Lt.bt ks).Nodup→Cx f st→Lt.zb ks →
  kN (Lt.bt ks) f st st'∧st'.frames=st.frames∧(∀k∈ks,st'.of k.loc=(f:Int))∧Lt.ec (sS (Lt.bt ks) st.fr st') ks
 | [],f,st,st',hr,_,c,_=>by
  unfold aH at hr;injection hr with hr;subst hr;exact⟨.refl c,rfl,fun k hk=>by simp at hk,by unfold Lt.ec;trivial⟩
 | k::ks,f,st,st',hr,hn,c,hw=>by
  unfold aH at hr;obtain⟨s1,e1,e2⟩:=iD hr;rw[Lt.bt,oR] at hn;obtain⟨n1,n2,n3⟩:=hn;unfold Lt.zb at hw;obtain⟨a1,a2,a3,a4⟩:=ly k e1 n1 c hw.1;obtain⟨b1,b2,b3,b4⟩:=gA ks e2 n2 (a1.cx c) hw.2;have hd :∀j∈k.gY,j∉Lt.bt ks:=fun j h1 h2=>n3 j h1 j h2 rfl
  have mT:s1.fr=st.fr:=by unfold aG.fr;rw[a2]
  rw[Lt.bt];refine⟨a1.trans b1 hd,b2.trans a2,fun x hx=>?_,?_⟩
  ·rcases bb.1 hx with rfl|hx
   ·rw[(b1.off _ (hd _ (zc _))).2];exact a3
   ·exact b3 x hx
  ·unfold Lt.ec
   rw[mT] at b4;exact⟨Lt.All.imp k (fun j hj _ q=>(q.later b1 (hd j hj) hd).more fun t ht=>gh _ ht) a4,Lt.ec.imp ks (fun j _ _ q=>q.more fun t ht=>jc _ ht) b4⟩
theorem rQ :∀(ks:List Lt) {n f:Nat} {st st':aG},cF ks n f st=.ok st'→(Lt.bt ks).Nodup→Cx f st→Lt.zb ks →
  kN (Lt.bt ks) f st st'∧st'.fr=st.fr∧(∀k∈ks,st'.of k.loc=(f:Int))∧Lt.ec (sS (Lt.bt ks) st.fr st') ks
 | [],_,f,st,st',hr,_,c,_=>by
  unfold cF at hr;injection hr with hr;subst hr;exact⟨.refl c,rfl,fun k hk=>by simp at hk,by unfold Lt.ec;trivial⟩
 | k::ks,n,f,st,st',hr,hn,c,hw=>by
  unfold cF at hr;obtain⟨s1,e1,e2⟩:=iD hr;rw[Lt.bt,oR] at hn;obtain⟨n1,n2,n3⟩:=hn;unfold Lt.zb at hw;obtain⟨a1,a2,a3,a4⟩:=ly k e1 n1 (c.at_ n) hw.1;have a1:=a1.at_;obtain⟨b1,b2,b3,b4⟩:=rQ ks e2 n2 (a1.cx c) hw.2;have hd :∀j∈k.gY,j∉Lt.bt ks:=fun j h1 h2=>n3 j h1 j h2 rfl
  have mT:s1.fr=st.fr:=by unfold aG.fr;rw[a2];exact Wz st n
  rw[Lt.bt];refine⟨a1.trans b1 hd,b2.trans mT,fun x hx=>?_,?_⟩
  ·rcases bb.1 hx with rfl|hx
   ·rw[(b1.off _ (hd _ (zc _))).2];exact a3
   ·exact b3 x hx
  ·unfold Lt.ec
   rw[mT] at b4;rw[Wz] at a4;exact⟨Lt.All.imp k (fun j hj _ q=>(q.later b1 (hd j hj) hd).more fun t ht=>gh _ ht) a4,Lt.ec.imp ks (fun j _ _ q=>q.more fun t ht=>jc _ ht) b4⟩
theorem Us :∀(ks:List Lt) {f:Nat} {st st':aG},kL ks f st=.ok st'→(Lt.bt ks).Nodup→Cx f st→Lt.zb ks→(∃b t,ks=[b,t]∧b.hd.kind=18) →
  kN (Lt.bt ks) f st st'∧(∀k∈ks,st'.of k.loc=(f:Int))∧Lt.ec (sS (Lt.bt ks) st.fr st') ks
 | [],f,st,st',hr,hn,c,hw,hk=>by obtain⟨b,t,hk,_⟩:=hk;cases hk
 | [_],f,st,st',hr,hn,c,hw,hk=>by obtain⟨b,t,hk,_⟩:=hk;cases hk
 | _::_::_::_,f,st,st',hr,hn,c,hw,hk=>by obtain⟨b,t,hk,_⟩:=hk;cases hk
 | [.mk i h ks,t],f,st,st',hr,hn,c,hw,hk=>by
  obtain⟨_,_,hk,mF⟩:=hk;injection hk with hk _;subst hk;have mF:h.kind=18:=mF;unfold kL at hr;obtain⟨s1,e1,hr⟩:=iD hr;obtain⟨s2,e2,e3⟩:=iD hr;have e1:=Bu e1;subst e1;simp only[Lt.bt,Lt.gY,j8] at hn ⊢;rw[oR,mz] at hn;obtain⟨⟨tJ,CI⟩,nt,n3⟩:=hn;simp only[Lt.zb,Lt.Wf] at hw;have S1:=FW c i f;have c1:=S1.cx c;obtain⟨a1,a2,a3,a4⟩:=rQ ks e2 CI (c1.Bt _) hw.1.2;have A1:=S1.trans a1.rP (fun j hj=>by rw[bI] at hj;rw[hj];exact tJ)
  obtain⟨b1,b2,b3,b4⟩:=ly t e3 nt (a1.rP.cx c1) hw.2.1;have hd :∀j∈i::Lt.bt ks,j∉t.gY:=fun j h1 h2=>n3 j h1 j h2 rfl
  have hi:st'.of i=(f:Int):=by rw[(b1.off i (hd i (bQ ..))).2,(a1.off i tJ).2];exact OD _ _ _
  have Kk :∀k∈ks,st'.of k.loc=(f:Int):=fun k hk=>by rw[(b1.off _ (hd _ (bX _ (qy hk)))).2];exact a3 k hk
  have WB :∀{j:Nat} {x:Nd},sS (i::Lt.bt ks++t.gY) (⟨f,i,0,false,true,ks⟩::st.fr) st' j x→sS (i::Lt.bt ks++t.gY) st.fr st' j x:=fun q=>q.left fun z hz=>by
   rcases hz with ⟨hz,_⟩ | ⟨_,hz⟩
   ·cases hz
   ·obtain⟨k,hk,rfl⟩:=jA.1 hz
    exact⟨gh _ (bX _ (qy hk)),Kk k hk⟩
  refine⟨(A1.trans b1 hd),fun k hk=>?_,?_⟩
  ·rcases bb.1 hk with rfl|hk
   ·exact hi
   ·rw[bI] at hk
    rw[hk];exact b3
  ·unfold Lt.ec Lt.All
   have e5:s2.fr=⟨f,i,0,false,true,ks⟩::st.fr:=a2;rw[e5] at b4;refine⟨⟨quiet (by omega) (by omega) (by omega),Lt.ec.imp ks (fun j hj _ q=>WB ((q.later b1 (hd j (bX _ hj)) fun z hz=>hd z (bX _ hz)).more fun z hz=>gh _ (bX _ hz))) a4⟩,?_⟩
   unfold Lt.ec;exact⟨Lt.All.imp t (fun j _ _ q=>WB (q.more fun z hz=>jc _ hz)) b4,by unfold Lt.ec;trivial⟩
theorem Bv {i:Nat} {line:Int} {names:List ByteArray} :∀(ks:List Lt) {f:Nat} {st st':aG},iQ i line names ks f st=.ok st'→i∉Lt.bt ks→(Lt.bt ks).Nodup→Cx f st→Lt.zb ks→st.of i=(f:Int) →
  kN (i::Lt.bt ks) f st st'∧st'.frames=st.frames∧st'.of i=(f:Int)∧Lt.ec (sS (i::Lt.bt ks) st.fr st') ks
 | [],f,st,st',hr,_,_,c,_,hi=>by
  unfold iQ at hr;injection hr with hr;subst hr;exact⟨(kN.refl c).more (by simp),rfl,hi,by unfold Lt.ec;trivial⟩
 | [b],f,st,st',hr,tJ,hn,c,hw,hi=>by
  unfold iQ at hr;obtain⟨s1,e1,hr⟩:=iD hr;obtain⟨s2,e2,rfl⟩:=vg hr;simp only[Lt.bt,j8] at tJ hn ⊢;simp only[Lt.zb] at hw;obtain⟨b1,b2,b3⟩:=nV e1 (c.Bt _);have b1:=b1.rP;obtain⟨a1,a2,a3,a4⟩:=ly b e2 hn (b1.cx c) hw.1;have we:s2.of i=(f:Int):=by rw[(a1.off i tJ).2,b3];exact hi
  refine⟨((b1.trans a1 (by simpa using tJ)).more (by simp)).back,rfl,we,?_⟩
  unfold Lt.ec;have e4:s1.fr=⟨f,i,0,true,false,[]⟩::st.fr:=by unfold aG.fr;rw[b2];rfl
  rw[e4] at a4;refine⟨Lt.All.imp b (fun j _ _ q=>?_) a4,by unfold Lt.ec;trivial⟩
  refine((q.more fun z hz=>bX i hz).left fun t ht=>?_).same rfl rfl rfl
  rcases ht with ⟨_,ht⟩ | ⟨ht,_⟩
  ·rw[ht];exact⟨bQ ..,we⟩
  ·cases ht
 | a::b::l,f,st,st',hr,tJ,hn,c,hw,hi=>by
  unfold iQ at hr;obtain⟨s1,e1,e2⟩:=iD hr;rw[Lt.bt,oR] at hn;rw[Lt.bt,dd,sy] at tJ;obtain⟨n1,n2,n3⟩:=hn;unfold Lt.zb at hw;obtain⟨a1,a2,a3,a4⟩:=ly a e1 n1 c hw.1;have hi1:s1.of i=(f:Int):=by rw[(a1.off i tJ.1).2];exact hi
  obtain⟨b1,b2,b3,b4⟩:=Bv (b::l) e2 tJ.2 n2 (a1.cx c) hw.2 hi1;have hd :∀j∈a.gY,j∉i::Lt.bt (b::l):=fun j h1 h2=>by
   rcases bb.1 h2 with rfl|h2
   ·exact tJ.1 h1
   ·exact n3 j h1 j h2 rfl
  have mT:s1.fr=st.fr:=by unfold aG.fr;rw[a2]
  have hL :∀z,z∈a.gY++(i::Lt.bt (b::l))→z∈i::Lt.bt (a::b::l):=fun z hz=>by
   rw[Lt.bt];simp only[dd,bb] at hz ⊢;rcases hz with hz|hz|hz
   ·exact .inr (.inl hz)
   ·exact .inl hz
   ·exact .inr (.inr hz)
  refine⟨(a1.trans b1 hd).more hL,b2.trans a2,b3,?_⟩;rw[mT] at b4;unfold Lt.ec;exact⟨Lt.All.imp a (fun j hj _ q=>(q.later b1 (hd j hj) hd).more fun t ht=>hL t (gh _ ht)) a4,Lt.ec.imp (b::l) (fun j _ _ q=>q.more fun t ht=>hL t (jc _ ht)) b4⟩
end
mutual
def Lt.ast:Lt→Ast
 | .mk _ h ks=>.mk h (Lt.abq ks)
def Lt.abq:List Lt→List Ast
 | []=>[]
 | k::ks=>Lt.ast k::Lt.abq ks
end
mutual
def Lt.size:Lt→Nat
 | .mk _ _ ks=>Lt.al ks+1
def Lt.al:List Lt→Nat
 | []=>0
 | k::ks=>Lt.size k+Lt.al ks
end
mutual
theorem Lt.xJ :∀t:Lt,t.gY.length=t.size
 | .mk i h ks=>by rw[Lt.gY,Lt.size,List.length_cons,Lt.vh ks]
theorem Lt.vh :∀ks:List Lt,(Lt.bt ks).length=Lt.al ks
 | []=>by rw[Lt.bt,Lt.al];rfl
 | k::ks=>by rw[Lt.bt,Lt.al,bM,Lt.xJ k,Lt.vh ks]
end
theorem pK :∀a b:List Lt,Lt.al (a++b)=Lt.al a+Lt.al b
 | [],b=>by rw[mY,show Lt.al []=0 by rw[Lt.al],jB]
 | k::a,b=>by rw[dB,Lt.al,Lt.al,pK a b,pW]
theorem Ga {T:List Nd} :∀{ks:List Lt},Lt.u9 T ks→∀k∈ks,Lt.In T k
 | [],_,k,h=>by simp at h
 | x::ks,hi,k,h=>by
  unfold Lt.u9 at hi;rcases bb.1 h with rfl|h
  ·exact hi.1
  ·exact Ga hi.2 k h
theorem D0 {T:List Nd} {t:Lt} (h:Lt.In T t):Lt.u9 T t.sub∧T[t.loc]? = some t.hd∧t.hd.kids=t.sub.map (fun k=>(k.loc:Int)):=by
 cases t with
 | mk i h' ks=>unfold Lt.In at h;exact⟨h.2.2,h.1,h.2.1⟩
theorem OH (t:Lt):t.size=Lt.al t.sub+1:=by cases t with|mk i h ks=>rw[Lt.size];rfl
end Go.Proofs.YteflkdlaoiijbaaGreatDoor
namespace Go.Proofs.YteflkdlaoiijbaaGreatDoor
mutual
/-- Of one form; names are renamed. -/
def vi (ρ:ByteArray→ByteArray):Lt→Lt→Prop
 | .mk _ h ks,u=>u.hd.kind=h.kind∧u.hd.num=h.num∧u.hd.s=ρ h.s∧u.hd.names=h.names.map ρ∧dt ρ ks u.sub
def dt (ρ:ByteArray→ByteArray):List Lt→List Lt→Prop
 | [],ls=>ls=[]
 | k::ks,ls=>∃l Jo,ls=l::Jo∧vi ρ k l∧dt ρ ks Jo
end
theorem vi.kind {ρ:ByteArray→ByteArray} {t u:Lt} (h:vi ρ t u):u.hd.kind=t.hd.kind:=by cases t;unfold vi at h;exact h.1
theorem vi.s {ρ:ByteArray→ByteArray} {t u:Lt} (h:vi ρ t u):u.hd.s=ρ t.hd.s:=by cases t;unfold vi at h;exact h.2.2.1
structure FS (ρ:ByteArray→ByteArray) (x y:cR):Prop where
 parent:y.parent=x.parent
 params:y.params=x.params
 many:y.many=x.many
 bR:y.bR=x.bR
 vars:y.vars.map (fun v=>(v.name,v.cap))=x.vars.map fun v=>(ρ v.name,v.cap)
theorem FS.len {ρ:ByteArray→ByteArray} {x y:cR} (h:FS ρ x y):y.vars.length=x.vars.length:=by
 have:=ay List.length h.vars;simpa using this
def FR (ρ:ByteArray→ByteArray) (a b:List cR):Prop:=b.length=a.length∧∀f,FS ρ (a.getD f ⟨0,0,0,false,[],[]⟩) (b.getD f ⟨0,0,0,false,[],[]⟩)
theorem FR.set {ρ:ByteArray→ByteArray} {a b:List cR} (h:FR ρ a b) {f:Nat} {x y:cR} (e:FS ρ x y):FR ρ (a.set f x) (b.set f y) :=
 ⟨by simp[h.1],fun g=>by
  have:=h.2 g;simp only[j5] at this ⊢;by_cases hg:f=g
  ·subst hg
   by_cases hl:f<a.length
   ·rw[dU hl,dU (by rw[h.1];exact hl)];exact e
   ·rw[Ez (by omega),Ez (by rw[h.1];omega)];exact this
  ·rw[fJ hg,fJ hg];exact this⟩
theorem FR.app {ρ:ByteArray→ByteArray} {a b:List cR} (h:FR ρ a b) {x y:cR} (e:FS ρ x y):FR ρ (a++[x]) (b++[y]) :=
 ⟨by simp[h.1],fun g=>by
  have:=h.2 g;simp only[j5] at this ⊢;rcases Nat.lt_trichotomy g a.length with hg|hg|hg
  ·rw[kS hg,kS (by rw[h.1];exact hg)];exact this
  ·subst hg
   have e1:(b++[y])[a.length]? = some y:=by rw[←h.1];simp
   rw[e1];simpa using e
  ·rw[wH (by simp;omega),wH (by simp[h.1];omega)]
   exact⟨rfl,rfl,rfl,rfl,rfl⟩⟩
structure FrS (ρ:ByteArray→ByteArray) (x y:fB):Prop where
 fn:y.fn=x.fn
 at_:y.at_=x.at_
 loop:y.loop=x.loop
 rep:y.rep=x.rep
 kids:dt ρ x.kids y.kids
def Blank (E:List fB):Prop:=∀x∈E,x.loop=false∧∀s,bZ x.kids s=none
inductive WC (ρ:ByteArray→ByteArray):List fB→List fB→Prop
 | nil {B:List fB}:Blank B→WC ρ [] B
 | cons {x y:fB} {l m:List fB}:FrS ρ x y→WC ρ l m→WC ρ (x::l) (y::m)
structure SR (ρ:ByteArray→ByteArray) (a b:aG):Prop where
 fns:FR ρ a.fns b.fns
 names:b.names=a.names.map fun n=>⟨ρ n.s,n.fn,n.i⟩
 frames:WC ρ a.frames b.frames
def RR {α β:Type} (Q:α→β→Prop):Rs α→Rs β→Prop
 | .ok a,.ok b=>Q a b
 | .error e,.error e'=>e.1=e'.1
 | _,_=>False
theorem RR.bind {α β γ δ:Type} {Q:α→β→Prop} {Q':γ→δ→Prop} {x:Rs α} {y:Rs β} {g:α→Rs γ} {k:β→Rs δ} (h:RR Q x y) (hg :∀a b,Q a b→RR Q' (g a) (k b)):RR Q' (x.bind g) (y.bind k):=by
 cases x<;>cases y
 ·exact h
 ·exact h.elim
 ·exact h.elim
 ·exact hg _ _ h
theorem RR.map {α β γ δ:Type} {Q:α→β→Prop} {Q':γ→δ→Prop} {x:Rs α} {y:Rs β} {g:α→γ} {k:β→δ} (h:RR Q x y) (hg :∀a b,Q a b→Q' (g a) (k b)):RR Q' (x.map g) (y.map k):=by
 cases x<;>cases y
 ·exact h
 ·exact h.elim
 ·exact h.elim
 ·exact hg _ _ h
section
variable {ρ:ByteArray→ByteArray} (j3 :∀a b,ρ a=ρ b→a=b)
theorem SR.fn {a b:aG} (h:SR ρ a b) (f:Nat):FS ρ (a.fn f) (b.fn f):=h.fns.2 f
theorem SR.use {a b:aG} (h:SR ρ a b) (i j:Nat) (u v:Int×Int):SR ρ (a.dh i u) (b.dh j v):=⟨h.fns,h.names,h.frames⟩
theorem SR.of_ {a b:aG} (h:SR ρ a b) (i j f g:Nat):SR ρ (a.setOf i f) (b.setOf j g):=⟨h.fns,h.names,h.frames⟩
theorem OI {n n' f:Nat} {l l':Int} :∀(ns:List ByteArray) {a b:aG},SR ρ a b→RR (SR ρ) (dR n f l ns a) (dR n' f l' (ns.map ρ) b):=by
 intro ns;induction ns with
 | nil=>intro a b h;exact h
 | cons s ns ih =>
  intro a b h;rw[gi,dR,dR,(h.fn f).len];split
  ·exact rfl
  ·refine ih ⟨h.fns.set ⟨(h.fn f).parent,(h.fn f).params,(h.fn f).many,(h.fn f).bR,?_⟩,?_,h.frames⟩
   ·rw[mZ,mZ,(h.fn f).vars];rfl
   ·show _::b.names=List.map _ (_::a.names)
    rw[h.names];rfl
theorem oA {n n' f:Nat} {l l':Int} (ns:List ByteArray) {a b:aG} (h:SR ρ a b):RR (SR ρ) (bz n f l ns a) (bz n' f l' (ns.map ρ) b):=OI ns (h.use _ _ _ _)
theorem xK {A B:List cR} (h:FR ρ A B) (f:Nat) (u:sQ):(gJ A f u=none∧gJ B f u=none)∨∃A' B' k,gJ A f u=some (A',k)∧gJ B f u=some (B',k)∧FR ρ A' B':=by
 have e:=(h.2 f).bR;unfold gJ;simp only[e];split
 ·exact .inr ⟨A,B,_,rfl,rfl,h⟩
 ·split
  ·exact .inl ⟨rfl,rfl⟩
  ·exact .inr ⟨_,_,_,rfl,rfl,h.set ⟨(h.2 f).parent,(h.2 f).params,(h.2 f).many,rfl,(h.2 f).vars⟩⟩
theorem OJ {n n':ju} (hf:n'.fn=n.fn) (hi:n'.i=n.i) :∀(g:Nat) {A B:List cR} (f:Nat),FR ρ A B→(mc n g A f=none∧mc n' g B f=none)∨∃A' B' k,mc n g A f=some (A',k)∧mc n' g B f=some (B',k)∧FR ρ A' B':=by
 intro g;induction g with
 | zero=>intro A B f _;exact .inl ⟨rfl,rfl⟩
 | succ g ih =>
  intro A B f h;rw[mc,mc];simp only[(h.2 f).parent,hf,hi];split
  ·exact xK h f _
  ·rcases ih ((A.getD f ⟨0,0,0,false,[],[]⟩).parent.toNat) h with ⟨h1,h2⟩ | ⟨A',B',k,h1,h2,h3⟩
   ·rw[h1,h2];exact .inl ⟨rfl,rfl⟩
   ·rw[h1,h2];exact xK h3 f _
theorem Ut {x y:cR} (h:FS ρ x y) (i:Nat):FS ρ (cQ x i) (cQ y i):=by
 refine⟨h.parent,h.params,h.many,h.bR,?_⟩;unfold cQ;dsimp only
 have e:(y.vars.map fun v=>(v.name,v.cap))[i]? = (x.vars.map fun v=>(ρ v.name,v.cap))[i]?:=by rw[h.vars]
 rw[gE,gE] at e;cases hx:x.vars[i]? with
 | none =>
  rw[hx] at e;cases hy:y.vars[i]? with
  | none=>exact h.vars
  | some w=>rw[hy] at e;cases e
 | some v =>
  rw[hx] at e;cases hy:y.vars[i]? with
  | none=>rw[hy] at e;cases e
  | some w =>
   rw[hy] at e;injection e with e;injection e with e1 e2;dsimp only
   rw[List.map_set,List.map_set,h.vars,e1]
include j3 in
theorem OK (s:ByteArray) :∀(l:List ju),(l.map fun n=>(⟨ρ n.s,n.fn,n.i⟩:ju)).find? (fun n=>decide (n.s=ρ s))=(l.find? fun n=>decide (n.s=s)).map fun n=>⟨ρ n.s,n.fn,n.i⟩:=by
 intro l;induction l with
 | nil=>rfl
 | cons n l ih =>
  rw[gi,kU,kU];have e:decide (ρ n.s=ρ s)=decide (n.s=s):=by
   by_cases h:n.s=s
   ·rw[h];simp
   ·rw[bN h,bN fun e=>h (j3 _ _ e)]
  simp only[e];cases decide (n.s=s) with
  | true=>rfl
  | false=>exact ih
include j3 in
theorem Uu {n n' f:Nat} {s:ByteArray} {l l':Int} {a b:aG} (h:SR ρ a b):RR (SR ρ) (me n f s l a) (me n' f (ρ s) l' b):=by
 unfold me;have e:b.names.find? (fun n=>decide (n.s=ρ s))=(a.names.find? fun n=>decide (n.s=s)).map fun n=>⟨ρ n.s,n.fn,n.i⟩:=by rw[h.names,OK j3]
 rw[e];cases hx:a.names.find? (fun n=>decide (n.s=s)) with
 | none=>exact h.use _ _ _ _
 | some x =>
  simp only[fK];by_cases hf:x.fn=f
  ·rw[ak hf,ak hf]
   exact h.use _ _ _ _
  ·rw[af hf,af hf,h.fns.1]
   rcases OJ (n:=x) (n':=⟨ρ x.s,x.fn,x.i⟩) rfl rfl a.fns.length f (h.fns.set (f:=x.fn) (Ut (h.fn x.fn) x.i)) with ⟨h1,h2⟩ | ⟨A',B',k,h1,h2,h3⟩
   ·rw[h1,h2];exact rfl
   ·rw[h1,h2]
    exact⟨h3,h.names,h.frames⟩
theorem qA {β:Type} {g g':Lt→β} (hg :∀t u,vi ρ t u→g' u=g t) :∀{ks ls:List Lt},dt ρ ks ls→ls.map g'=ks.map g
 | [],ls,h=>by unfold dt at h;rw[h];rfl
 | k::ks,ls,h=>by
  unfold dt at h;obtain⟨l,Jo,rfl,h0,h⟩:=h;rw[gi,gi,hg _ _ h0,qA hg h]
include j3 in
theorem Jp {t u:Lt} (s:ByteArray) (h:vi ρ t u):lx (ρ s) u=lx s t:=by
 unfold lx;rw[h.kind,h.s];congr 1
 by_cases e:t.hd.s=s
 ·rw[e];simp
 ·rw[bN e,bN fun k=>e (j3 _ _ k)]
theorem findIdx_map {α:Type} (g:α→Bool) :∀l:List α,l.findIdx? g=(l.map g).findIdx? id:=by
 intro l;induction l with
 | nil=>rfl
 | cons x l ih =>
  rw[gi,List.findIdx?_cons,List.findIdx?_cons,ih];rfl
include j3 in
theorem rR {ks ls:List Lt} (s:ByteArray) (h:dt ρ ks ls):bZ ls (ρ s)=bZ ks s:=by
 unfold bZ;rw[findIdx_map,findIdx_map (lx s),qA (fun _ _ h=>Jp j3 s h) h]
include j3 in
theorem OL {A B:List fB} (f:Nat) (s:ByteArray) (h:WC ρ A B):(∃x∈B,x.loop=false∧x.fn=f∧(bZ x.kids (ρ s)).isSome)↔∃x∈A,x.loop=false∧x.fn=f∧(bZ x.kids s).isSome:=by
 induction h with
 | nil hE =>
  refine⟨fun⟨x,hx,_,_,h⟩=>?_,fun⟨x,hx,_⟩=>by simp at hx⟩
  rw[(hE x hx).2] at h;cases h
 | cons h _ ih =>
  simp only[bb,exists_eq_or_imp,h.loop,h.fn,rR j3 s h.kids,ih]
include j3 in
theorem vj {A B:List fB} (h:WC ρ A B) (f:Nat) {all Zn:List Lt} (ha:dt ρ all Zn) :∀{ks ls:List Lt} (n:Nat),dt ρ ks ls→(ch B f Zn n ls).isSome=(ch A f all n ks).isSome
 | [],ls,n,hs=>by unfold dt at hs;rw[hs];rfl
 | k::ks,ls,n,hs=>by
  unfold dt at hs;obtain⟨l,Jo,rfl,h0,hs⟩:=hs;rw[ch,ch];have e1:(∃j,bZ Zn l.hd.s=some j∧j<n)↔∃j,bZ all k.hd.s=some j∧j<n:=by rw[h0.s,rR j3 _ ha]
  have e2:=OL j3 f k.hd.s h;rw[←h0.s] at e2;simp only[h0.kind,e1,e2];split
  ·rfl
  ·exact vj h f ha (n+1) hs
include j3 in
theorem xL {i i' f:Nat} {rep:Bool} {ks ls:List Lt} {a b:aG} (h:SR ρ a b) (hs:dt ρ ks ls):RR (SR ρ) (gz i f rep ks a) (gz i' f rep ls b):=by
 unfold gz;have e:=vj j3 h.frames f hs 0 hs;cases h1:ch a.frames f ks 0 ks with
 | none =>
  rw[h1] at e;cases h2:ch b.frames f ls 0 ls with
  | none=>exact⟨h.fns,h.names,.cons ⟨rfl,rfl,rfl,rfl,hs⟩ h.frames⟩
  | some _=>rw[h2] at e;cases e
 | some _ =>
  rw[h1] at e;cases h2:ch b.frames f ls 0 ls with
  | none=>rw[h2] at e;cases e
  | some _=>exact rfl
theorem SR.at_ {a b:aG} (h:SR ρ a b) (n:Nat):SR ρ (a.at n) (b.at n):=by
 refine⟨h.fns,h.names,?_⟩;have hf:=h.frames;unfold aG.at;dsimp only
 revert hf
 generalize a.frames=A;generalize b.frames=B;cases A with
 | nil =>
  intro hf;cases hf with
  | nil hB =>
   cases B with
   | nil=>exact .nil hB
   | cons y m =>
    refine .nil fun z hz=>?_
    rcases bb.1 hz with rfl|hz
    ·exact hB y (bQ ..)
    ·exact hB z (bX _ hz)
 | cons x l =>
  intro hf;cases hf with
  | cons h1 h2=>exact .cons ⟨h1.fn,rfl,h1.loop,h1.rep,h1.kids⟩ h2
theorem SR.df {a b:aG} (h:SR ρ a b) (i j f:Nat):SR ρ (df i f a) (df j f b):=⟨h.fns,h.names,.cons ⟨rfl,rfl,rfl,rfl,by unfold dt;rfl⟩ h.frames⟩
theorem SR.back {a b a0 b0:aG} (h:SR ρ a b) (h0:SR ρ a0 b0):SR ρ (a.back a0) (b.back b0):=⟨h.fns,h0.names,h0.frames⟩
theorem Jq {i j f:Nat} {l l':Int} {a b:aG} (h:SR ρ a b):RR (SR ρ) (dX i f l a) (dX j f l' b):=by
 unfold dX;have key :∀{A B:List fB},WC ρ A B→(B.find? fun x=>x.loop && decide (x.fn=f)).isSome=(A.find? fun x=>x.loop && decide (x.fn=f)).isSome:=by
  intro A B h;induction h with
  | @nil E hE =>
   have:E.find? (fun x=>x.loop && decide (x.fn=f))=none:=EI.2 fun x hx=>by rw[(hE x hx).1];simp
   rw[this];rfl
  | cons h _ ih =>
   rw[kU,kU,h.loop,h.fn];split
   ·rfl
   ·exact ih
 have e:=key h.frames;cases h1:a.frames.find? (fun x=>x.loop && decide (x.fn=f)) with
 | none =>
  rw[h1] at e;cases h2:b.frames.find? (fun x=>x.loop && decide (x.fn=f)) with
  | none=>exact rfl
  | some _=>rw[h2] at e;cases e
 | some _ =>
  rw[h1] at e;cases h2:b.frames.find? (fun x=>x.loop && decide (x.fn=f)) with
  | none=>rw[h2] at e;cases e
  | some _=>exact h.use _ _ _ _
theorem Bw {ks ls:List Lt} (h:dt ρ ks ls) (a j:Nat) (rep:Bool):mg ls a j rep=mg ks a j rep:=by
 have e1:ls.map isDecl=ks.map isDecl:=qA (fun t u h=>by unfold isDecl;rw[h.kind]) h
 have e2:ls.map (fun k=>decide (k.hd.kind=32))=ks.map fun k=>decide (k.hd.kind=32):=qA (fun t u h=>by rw[h.kind]) h
 have a1 :∀l:List Lt,l.any isDecl=(l.map isDecl).any id:=fun l=>by rw[List.any_map];rfl
 have a2 :∀l:List Lt,(l.all fun k=>decide (k.hd.kind=32))=(l.map fun k=>decide (k.hd.kind=32)).all id:=fun l=>by rw[List.all_map];rfl
 unfold mg;rw[a1,a1,a2,a2,EP,List.map_take,EP,EP,List.map_take,EP,e1,e2]
include j3 in
theorem OM {i j f:Nat} {s:ByteArray} {l l':Int} {a b:aG} (h:SR ρ a b) :∀{A B:List fB},WC ρ A B→RR (SR ρ) (db i f s l a A) (db j f (ρ s) l' b B):=by
 intro A B hf;induction hf with
 | nil hE =>
  have key :∀{X:List fB},Blank X→db j f (ρ s) l' b X=.error (8,l'):=by
   intro X hX;induction X with
   | nil=>rfl
   | cons x X ih =>
    rw[db,(hX x (bQ ..)).2];simp only[ih fun y hy=>hX y (bX _ hy),ite_self]
  rw[key hE];exact rfl
 | cons h1 _ ih =>
  rw[db,db,h1.loop,h1.fn,rR j3 s h1.kids];split
  ·exact ih
  ·split
   ·exact ih
   ·rw[Bw h1.kids,h1.at_,h1.rep]
    split
    ·exact rfl
    ·exact h.use _ _ _ _
end
end Go.Proofs.YteflkdlaoiijbaaGreatDoor
namespace Go.Proofs.YteflkdlaoiijbaaGreatDoor
section
variable {ρ:ByteArray→ByteArray}
theorem Jr {i j f:Nat} {h g:Nd} {a b:aG} (hs:SR ρ a b) (h1:g.num=h.num) (h2:g.names=h.names.map ρ):SR ρ (jQ i f h a) (jQ j f g b) :=
 ⟨hs.fns.app ⟨rfl,by show g.names.length=h.names.length;rw[h2,dm],by show decide (g.num=1)=decide (h.num=1);rw[h1],rfl,rfl⟩,hs.names,hs.frames⟩
mutual
theorem jR (j3 :∀a b,ρ a=ρ b→a=b) :∀(t u:Lt),vi ρ t u→∀(f:Nat) {a b:aG},SR ρ a b→RR (SR ρ) (aY t f a) (aY u f b)
 | .mk i h ks,.mk j g ls,hs,f,a0,b0,h0=>by
  unfold vi at hs;obtain⟨e1,e2,e3,e4,hk⟩:=hs;have e1:g.kind=h.kind:=e1;have e2:g.num=h.num:=e2;have e3:g.s=ρ h.s:=e3;have e4:g.names=h.names.map ρ:=e4;have hk:dt ρ ks ls:=hk;have hst:=h0.of_ i j f f;unfold aY;rw[e1,e3];generalize a0.setOf i f=a at *;generalize b0.setOf j f=b at *;by_cases h6:h.kind=6
  ·rw[ak h6,ak h6,(hst.fn f).many]
   split
   ·exact hst
   ·exact rfl
  rw[af h6,af h6];by_cases h7:h.kind=7
  ·rw[ak h7,ak h7]
   exact Uu j3 hst
  rw[af h7,af h7];by_cases h11:h.kind=11
  ·rw[ak h11,ak h11,hst.fns.1,e4]
   exact RR.bind (oA _ (Jr hst e2 e4)) fun a1 b1 h1=>RR.map (jw j3 ks ls hk _ h1) fun a2 b2 h2=>h2.back hst
  rw[af h11,af h11];by_cases mF:h.kind=18
  ·rw[ak mF,ak mF]
   exact RR.bind (xL j3 hst hk) fun a1 b1 h1=>RR.map (rS j3 ks ls hk 0 f h1) fun a2 b2 h2=>h2.back hst
  rw[af mF,af mF];by_cases Mo:h.kind=19
  ·rw[ak Mo,ak Mo,e4]
   exact RR.bind (jw j3 ks ls hk f hst) fun a1 b1 h1=>oA _ h1
  rw[af Mo,af Mo];by_cases Rj:h.kind=23
  ·rw[ak Rj,ak Rj]
   exact RR.map (jw j3 ks ls hk f (hst.df i j f)) fun a2 b2 h2=>h2.back hst
  rw[af Rj,af Rj];by_cases OG:h.kind=24
  ·rw[ak OG,ak OG]
   exact RR.map (Uv j3 ks ls hk f (hst.df i j f)) fun a2 b2 h2=>h2.back hst
  rw[af OG,af OG];by_cases Rk:h.kind=26∨h.kind=27
  ·rw[ak Rk,ak Rk,e4]
   exact By j3 ks ls hk f hst
  rw[af Rk,af Rk];by_cases Rl:h.kind=28
  ·rw[ak Rl,ak Rl,e4]
   exact RR.bind (oA _ hst) fun a1 b1 h1=>jw j3 ks ls hk f h1
  rw[af Rl,af Rl];by_cases FX:h.kind=30
  ·rw[ak FX,ak FX]
   exact Jq hst
  rw[af FX,af FX];by_cases FY:h.kind=31
  ·rw[ak FY,ak FY]
   exact OM j3 hst hst.frames
  rw[af FY,af FY];exact jw j3 ks ls hk f hst
termination_by structural t=>t
theorem jw (j3 :∀a b,ρ a=ρ b→a=b) :∀(ks ls:List Lt),dt ρ ks ls→∀(f:Nat) {a b:aG},SR ρ a b→RR (SR ρ) (aH ks f a) (aH ls f b)
 | [],ls,hs,f,a,b,h=>by
  unfold dt at hs;subst hs;unfold aH;exact h
 | k::ks,ls,hs,f,a,b,h=>by
  unfold dt at hs;obtain⟨l,Jo,rfl,h0,hs⟩:=hs;unfold aH;exact RR.bind (jR j3 k l h0 f h) fun a1 b1 h1=>jw j3 ks Jo hs f h1
termination_by structural ks=>ks
theorem rS (j3 :∀a b,ρ a=ρ b→a=b) :∀(ks ls:List Lt),dt ρ ks ls→∀(n f:Nat) {a b:aG},SR ρ a b→RR (SR ρ) (cF ks n f a) (cF ls n f b)
 | [],ls,hs,n,f,a,b,h=>by
  unfold dt at hs;subst hs;unfold cF;exact h
 | k::ks,ls,hs,n,f,a,b,h=>by
  unfold dt at hs;obtain⟨l,Jo,rfl,h0,hs⟩:=hs;unfold cF;exact RR.bind (jR j3 k l h0 f (h.at_ n)) fun a1 b1 h1=>rS j3 ks Jo hs (n+1) f h1
termination_by structural ks=>ks
theorem Uv (j3 :∀a b,ρ a=ρ b→a=b) :∀(ks ls:List Lt),dt ρ ks ls→∀(f:Nat) {a b:aG},SR ρ a b→RR (SR ρ) (kL ks f a) (kL ls f b)
 | [],ls,hs,f,a,b,h=>by
  unfold dt at hs;subst hs;unfold kL;exact h
 | [.mk _ _ _],ls,hs,f,a,b,h=>by
  unfold dt dt at hs;obtain⟨l,Jo,rfl,h0,rfl⟩:=hs;cases l;unfold kL;exact h
 | .mk _ _ _::_::_::_,ls,hs,f,a,b,h=>by
  unfold dt dt dt at hs;obtain⟨l,Jo,rfl,h0,l1,ls1,rfl,h1,l2,ls2,rfl,_⟩:=hs;cases l;unfold kL;exact h
 | [.mk i h ks,t],ls,hs,f,a,b,hab=>by
  unfold dt dt dt at hs;obtain⟨l,Jo,rfl,h0,u,ls1,rfl,h1,rfl⟩:=hs;obtain⟨j,g,ms⟩:=l;unfold vi at h0;obtain⟨_,_,_,_,hk⟩:=h0;have hk:dt ρ ks ms:=hk;unfold kL;exact RR.bind (xL j3 (hab.of_ i j f f) hk) fun a1 b1 h2=>RR.bind (rS j3 ks ms hk 0 f h2) fun a2 b2 h3=>jR j3 t u h1 f h3
termination_by structural ks=>ks
theorem By (j3 :∀a b,ρ a=ρ b→a=b) {i j:Nat} {line abr:Int} {names:List ByteArray} :∀(ks ls:List Lt),dt ρ ks ls→∀(f:Nat) {a b:aG},SR ρ a b→RR (SR ρ) (iQ i line names ks f a) (iQ j abr (names.map ρ) ls f b)
 | [],ls,hs,f,a,b,h=>by
  unfold dt at hs;subst hs;unfold iQ;exact h
 | [k],ls,hs,f,a,b,h=>by
  unfold dt dt at hs;obtain⟨l,Jo,rfl,h0,rfl⟩:=hs;unfold iQ;exact RR.bind (oA _ (h.df i j f)) fun a1 b1 h1=>RR.map (jR j3 k l h0 f h1) fun a2 b2 h2=>h2.back h
 | k::k2::ks,ls,hs,f,a,b,h=>by
  unfold dt at hs;obtain⟨l,Jo,rfl,h0,hs⟩:=hs;have hs':=hs;unfold dt at hs';obtain⟨l2,ls2,rfl,_,_⟩:=hs';unfold iQ;exact RR.bind (jR j3 k l h0 f h) fun a1 b1 h1=>By j3 (k2::ks) (l2::ls2) hs f h1
termination_by structural ks=>ks
end
end
end Go.Proofs.YteflkdlaoiijbaaGreatDoor
namespace Go.Proofs.YteflkdlaoiijbaaGreatDoor
theorem oB (n f:Nat) (st:aG):cF [] n f st=.ok st:=by unfold cF;rfl
theorem fZ (k:Lt) (ks:List Lt) (n f:Nat) (st:aG):cF (k::ks) n f st=(aY k f (st.at n)).bind fun s=>cF ks (n+1) f s:=by conv=>lhs;unfold cF
theorem eD (f:Nat) (st:aG):aH [] f st=.ok st:=by unfold aH;rfl
theorem eu (k:Lt) (ks:List Lt) (f:Nat) (st:aG):aH (k::ks) f st=(aY k f st).bind fun s=>aH ks f s:=by conv=>lhs;unfold aH
theorem nW (i:Nat) (line:Int) (names:List ByteArray) (b:Lt) (f:Nat) (st:aG):iQ i line names [b] f st=(bz i f line names (df i f st)).bind fun st1=>(aY b f st1).map fun st2=>st2.back st:=by conv=>lhs;unfold iQ
theorem jx (i:Nat) (line:Int) (names:List ByteArray) (a b:Lt) (l:List Lt) (f:Nat) (st:aG):iQ i line names (a::b::l) f st=(aY a f st).bind fun st1=>iQ i line names (b::l) f st1:=by conv=>lhs;unfold iQ
theorem ze (i:Nat) (h:Nd) (ks:List Lt) (t:Lt) (f:Nat) (st:aG):kL [.mk i h ks,t] f st=(gz i f true ks (st.setOf i f)).bind fun st1=>(cF ks 0 f st1).bind fun st2=>aY t f st2:=by conv=>lhs;unfold kL
section
variable (i:Nat) (h:Nd) (ks:List Lt) (f:Nat) (st:aG)
theorem cw:aY (.mk i h ks) f st =
  if h.kind=6 then (if ((st.setOf i f).fn f).many then .ok (st.setOf i f) else .error (14,h.line))
  else if h.kind=7 then me i f h.s h.line (st.setOf i f)
  else if h.kind=11 then
   (bz i (st.setOf i f).fns.length h.line h.names (jQ i f h (st.setOf i f))).bind fun st1=>(aH ks (st.setOf i f).fns.length st1).map fun st2=>st2.back (st.setOf i f)
  else if h.kind=18 then (gz i f false ks (st.setOf i f)).bind fun st1=>(cF ks 0 f st1).map fun st2=>st2.back (st.setOf i f)
  else if h.kind=19 then (aH ks f (st.setOf i f)).bind fun st1=>bz i f h.line h.names st1
  else if h.kind=23 then (aH ks f (df i f (st.setOf i f))).map fun st1=>st1.back (st.setOf i f)
  else if h.kind=24 then (kL ks f (df i f (st.setOf i f))).map fun st1=>st1.back (st.setOf i f)
  else if h.kind=26∨h.kind=27 then iQ i h.line h.names ks f (st.setOf i f)
  else if h.kind=28 then (bz i f h.line h.names (st.setOf i f)).bind fun st1=>aH ks f st1
  else if h.kind=30 then dX i f h.line (st.setOf i f)
  else if h.kind=31 then db i f h.s h.line (st.setOf i f) (st.setOf i f).frames
  else aH ks f (st.setOf i f):=by conv=>lhs;unfold aY
theorem Uw (hk:h.kind=18):aY (.mk i h ks) f st=(gz i f false ks (st.setOf i f)).bind fun st1=>(cF ks 0 f st1).map fun st2=>st2.back (st.setOf i f):=by
 rw[cw,af (by omega),af (by omega),af (by omega),ak hk]
theorem D1 (hk:h.kind≠6∧h.kind≠7∧h.kind≠11∧h.kind≠18∧h.kind≠19∧h.kind≠23∧h.kind≠24∧h.kind≠26∧h.kind≠27∧h.kind≠28∧h.kind≠30∧h.kind≠31):aY (.mk i h ks) f st=aH ks f (st.setOf i f):=by
 rw[cw,af (by omega),af (by omega),af (by omega),af (by omega),af (by omega),af (by omega),af (by omega),af (by omega),af (by omega),af (by omega),af (by omega)]
end
end Go.Proofs.YteflkdlaoiijbaaGreatDoor
namespace Go.Proofs.YteflkdlaoiijbaaGreatDoor
theorem FS.start (ρ:ByteArray→ByteArray) (i j:Nat):FS ρ ⟨i,-1,0,true,[],[]⟩ ⟨j,-1,0,true,[],[]⟩:=⟨rfl,rfl,rfl,rfl,rfl⟩
theorem FR.one {ρ:ByteArray→ByteArray} {x y:cR} (h:FS ρ x y):FR ρ [x] [y] :=
 FR.app (a:=[]) (b:=[]) ⟨rfl,fun f=>by simp;exact⟨rfl,rfl,rfl,rfl,rfl⟩⟩ h
theorem Gb {ρ:ByteArray→ByteArray} (j3 :∀a b,ρ a=ρ b→a=b) {t u:Lt} (h:vi ρ t u):RR (fun a b=>FR ρ a.fns b.fns) (kM t) (kM u):=by
 have h1:SR ρ (gK t.loc) (gK u.loc):=⟨.one (.start ρ _ _),rfl,.nil fun x hx=>by simp[gK] at hx⟩
 have:=jR j3 t u h 0 h1;unfold kM;revert this
 cases aY t 0 (gK t.loc)<;>cases aY u 0 (gK u.loc)
 ·exact id
 ·exact id
 ·exact id
 ·exact fun h=>h.fns
theorem RR.adu {α β γ:Type} {Q:α→β→Prop} {Q':α→γ→Prop} {x:Rs α} {y:Rs β} {k:β→γ} (h:RR Q x y) (hg :∀a b,Q a b→Q' a (k b)):RR Q' x (y.map k):=by
 cases x<;>cases y
 ·exact h
 ·exact h.elim
 ·exact h.elim
 ·exact hg _ _ h
theorem RR.ON {α β γ:Type} {Q:α→β→Prop} {Q':α→γ→Prop} {x:Rs α} {y:Rs β} {k:β→γ} {g:β→Rs γ} (h:RR Q x y) (he :∀b,g b=.ok (k b)) (hg :∀a b,Q a b→Q' a (k b)):RR Q' x (y.bind g):=by
 cases x<;>cases y
 ·exact h
 ·exact h.elim
 ·exact h.elim
 ·rename_i a b
  show RR Q' _ (g b)
  rw[he];exact hg _ _ h
theorem D3 {t u:Lt} (h:vi id t u) {p q:Nat} {hb hd:Nd} (h1:hb.kind=18) (h2:hd.kind=22):RR (fun a b=>FR id a.fns b.fns) (kM t) (kM (.mk p hb [.mk q hd [u]])):=by
 have hl :∀k∈[Lt.mk q hd [u]],k.hd.kind≠32:=fun k hk=>by
  rw[bI] at hk;subst hk;show hd.kind≠32
  omega
 unfold kM;rw[Uw _ _ _ _ _ h1];unfold gz;have hn :∀fr n,ch fr 0 [Lt.mk q hd [u]] n [Lt.mk q hd [u]]=none:=fun fr n=>by
  rw[ch,af fun e=>hl _ (bI.2 rfl) e.1]
  rfl
 rw[hn];show RR _ _ ((cF [_] 0 0 _).map _)
 rw[fZ,D1 _ _ _ _ _ (by omega),eu]
 generalize hs:aG.setOf (aG.at _ 0) q 0=s1;have h3:SR id (gK t.loc) s1:=by
  rw[←hs];refine⟨.one (.start id _ _),rfl,.nil fun x hx=>?_⟩
  have hx:x∈[(⟨0,p,0,false,false,[.mk q hd [u]]⟩:fB)]:=hx;rw[bI] at hx;subst hx;refine⟨rfl,fun s=>?_⟩
  unfold bZ;rw[KF];intro k hk;unfold lx;rw[bN (hl k hk)];rfl
 have h4:=jR (ρ:=id) (fun _ _ h=>h) t u h 0 h3
 refine RR.adu (Q:=fun a b=>FR id a.fns b.fns) (RR.ON (Q:=fun a b=>FR id a.fns b.fns) (RR.ON h4 (k:=fun b=>b) (fun b=>eD _ _) fun a b h=>h.fns) (k:=fun b=>b) (fun b=>oB _ _ _) fun a b h=>h) fun a b h=>h
mutual
def Lt.wt:Lt→Nat
 | .mk _ h ks=>h.names.length+Lt.dM ks
def Lt.dM:List Lt→Nat
 | []=>0
 | k::ks=>Lt.wt k+Lt.dM ks
end
def dA (F:List cR):Prop:=∀(g:Nat) x,F[g]? = some x→x.vars.length≤200∧x.bR.length≤60
theorem dA.set {F:List cR} (h:dA F) {f:Nat} {x:cR} (hx:x.vars.length≤200∧x.bR.length≤60):dA (F.set f x):=fun g y hy=>by
 by_cases e:f=g
 ·subst e
  by_cases hl:f<F.length
  ·rw[dU hl] at hy
   injection hy with hy;subst hy;exact hx
  ·rw[Ez (by omega)] at hy
   exact h _ _ hy
 ·rw[fJ e] at hy
  exact h _ _ hy
theorem dA.app {F:List cR} (h:dA F) {x:cR} (hx:x.vars.length≤200∧x.bR.length≤60):dA (F++[x]):=fun g y hy=>by
 rw[List.getElem?_append] at hy;split at hy
 ·exact h _ _ hy
 ·have:=(aL.1 hy).1
  simp at this;rw[show g-F.length=0 by omega] at hy
  injection hy with hy;subst hy;exact hx
theorem dA.getD {F:List cR} (h:dA F) (f:Nat):(F.getD f ⟨0,0,0,false,[],[]⟩).vars.length≤200∧(F.getD f ⟨0,0,0,false,[],[]⟩).bR.length≤60:=by
 rw[j5];cases e:F[f]? with
 | none=>exact⟨bx _,bx _⟩
 | some x=>exact h f x e
structure Mk (a b:Nat) (st st':aG):Prop where
 few:dA st'.fns
 names:st'.names.length≤st.names.length+a
 fns:st'.fns.length≤st.fns.length+b
 least:st.fns.length≤st'.fns.length
 frames:st'.frames.length=st.frames.length
theorem Mk.trans {a b c d:Nat} {x y z:aG} (h:Mk a b x y) (k:Mk c d y z):Mk (a+c) (b+d) x z:=⟨k.few,by have:=h.names;have:=k.names;omega,by have:=h.fns;have:=k.fns;omega,aK h.least k.least,k.frames.trans h.frames⟩
theorem Js {n f:Nat} {l:Int} :∀(ns:List ByteArray) {st st':aG},dR n f l ns st=.ok st'→dA st.fns→Mk ns.length 0 st st':=by
 intro ns;induction ns with
 | nil =>
  intro st st' h hF;rw[dR] at h;injection h with h;subst h;exact⟨hF,by simp,by simp,ai _,rfl⟩
 | cons s ns ih =>
  intro st st' h hF;rw[dR] at h;split at h
  ·cases h
  ·rename_i hlt
   have h1:=ih h (hF.set ⟨by simp;omega,(hF.getD f).2⟩)
   refine⟨h1.few,?_,?_,?_,h1.frames⟩
   ·have:=h1.names
    simp only[List.length_cons] at this ⊢;omega
   ·have:=h1.fns
    simp only[aG.pd,mC] at this;omega
   ·have:=h1.least
    simp only[aG.pd,mC] at this;omega
theorem jS {n f:Nat} {l:Int} {ns:List ByteArray} {st st':aG} (h:bz n f l ns st=.ok st') (hF:dA st.fns):Mk ns.length 0 st st':=by
 have:=Js ns h hF;exact⟨this.few,this.names,this.fns,this.least,this.frames⟩
theorem xM {F F':List cR} {f k:Nat} {u:sQ} (h:gJ F f u=some (F',k)) (hF:dA F):dA F'∧F'.length=F.length:=by
 unfold gJ at h;dsimp only at h
 split at h
 ·injection h with h
  injection h with h1 _;subst h1;exact⟨hF,rfl⟩
 ·split at h
  ·cases h
  ·injection h with h
   injection h with h1 _;subst h1;rename_i hlt;exact⟨hF.set ⟨(hF.getD f).1,by rw[bM,mX];omega⟩,by simp⟩
theorem Bz {n:ju} :∀(g:Nat) {F F':List cR} {f k:Nat},mc n g F f=some (F',k)→dA F→dA F'∧F'.length=F.length:=by
 intro g;induction g with
 | zero=>intro F F' f k h;cases h
 | succ g ih =>
  intro F F' f k h hF;rw[mc] at h;split at h
  ·exact xM h hF
  ·split at h
   ·cases h
   ·rename_i F1 k1 h1
    obtain⟨a1,a2⟩:=ih h1 hF;obtain⟨b1,b2⟩:=xM h a1;exact⟨b1,b2.trans a2⟩
theorem rT (x:cR) (i:Nat):(cQ x i).vars.length=x.vars.length∧(cQ x i).bR=x.bR:=by
 unfold cQ;refine⟨?_,rfl⟩;dsimp only
 split<;>simp
theorem Zo {n f:Nat} {s:ByteArray} {l:Int} {st st':aG} (h:me n f s l st=.ok st') (hF:dA st.fns):Mk 0 0 st st':=by
 unfold me at h;split at h
 ·injection h with h
  subst h;exact⟨hF,ai _,ai _,ai _,rfl⟩
 ·rename_i x _
  split at h
  ·injection h with h
   subst h;exact⟨hF,ai _,ai _,ai _,rfl⟩
  ·split at h
   ·cases h
   ·rename_i F k hk
    injection h with h;subst h;have e:=rT (st.fn x.fn) x.i;obtain⟨a1,a2⟩:=Bz _ hk (hF.set ⟨by rw[e.1];exact(hF.getD x.fn).1,by rw[e.2];exact(hF.getD x.fn).2⟩)
    rw[mC] at a2;exact⟨a1,ai _,Nat.le_of_eq a2,Nat.le_of_eq a2.symm,rfl⟩
theorem OO {n f:Nat} {l:Int} {st st':aG} (h:dX n f l st=.ok st') (hF:dA st.fns):Mk 0 0 st st':=by
 unfold dX at h;split at h
 ·cases h
 ·injection h with h
  subst h;exact⟨hF,ai _,ai _,ai _,rfl⟩
theorem Ux {n f:Nat} {s:ByteArray} {l:Int} {st st':aG} (hF:dA st.fns) :∀(fr:List fB),db n f s l st fr=.ok st'→Mk 0 0 st st':=by
 intro fr;induction fr with
 | nil=>intro h;cases h
 | cons x fr ih =>
  intro h;rw[db] at h;split at h
  ·exact ih h
  ·split at h
   ·exact ih h
   ·split at h
    ·cases h
    ·injection h with h
     subst h;exact⟨hF,ai _,ai _,ai _,rfl⟩
theorem BA {i f:Nat} {rep:Bool} {ks:List Lt} {st st':aG} (h:gz i f rep ks st=.ok st'):st'={ st with frames:=⟨f,i,0,false,rep,ks⟩::st.frames}:=by
 unfold gz at h;split at h
 ·cases h
 ·injection h with h
  exact h.symm
theorem ew {α β:Type} {x:Rs α} {g:α→β} {y:β} (h:x.map g=.ok y) :∃a,x=.ok a∧y=g a:=by
 cases x with
 | error e=>cases h
 | ok a=>injection h with h;exact⟨a,rfl,h.symm⟩
theorem bU {α β:Type} {x:Rs α} {g:α→Rs β} {y:β} (h:x.bind g=.ok y) :∃a,x=.ok a∧g a=.ok y:=by
 cases x with
 | error e=>cases h
 | ok a=>exact⟨a,rfl,h⟩
theorem abt {a b:Nat} {st st':aG} {n:Nat} (h:Mk a b (st.at n) st'):Mk a b st st':=⟨h.few,h.names,h.fns,h.least,h.frames.trans (by unfold aG.at;cases st.frames<;>rfl)⟩
theorem back_mk {a b:Nat} {st st':aG} {fr:List fB} (h:Mk a b { st with frames:=fr} st'):Mk 0 b st (st'.back st):=⟨h.few,ai _,h.fns,h.least,rfl⟩
mutual
theorem mh :∀(t:Lt) {f:Nat} {st st':aG},aY t f st=.ok st'→dA st.fns→Mk t.wt t.size st st'
 | .mk i h ks,f,mJ,st',hr,hF=>by
  rw[cw] at hr;rw[Lt.wt,Lt.size];have hF:dA (mJ.setOf i f).fns:=hF;have key :∀{a b:Nat},Mk a b (mJ.setOf i f) st'→a≤h.names.length+Lt.dM ks→b≤Lt.al ks+1→Mk (h.names.length+Lt.dM ks) (Lt.al ks+1) mJ st':=fun h h1 h2=>⟨h.few,by have:_≤mJ.names.length+_:=h.names;omega,by have:_≤mJ.fns.length+_:=h.fns;omega,h.least,h.frames⟩
  generalize mJ.setOf i f=st at *;split at hr
  ·split at hr
   ·injection hr with hr
    subst hr;exact key (a:=0) (b:=0) ⟨hF,ai _,ai _,ai _,rfl⟩ (bx _) (bx _)
   ·cases hr
  split at hr
  ·exact key (Zo hr hF) (bx _) (bx _)
  split at hr
  ·obtain⟨s1,e1,hr⟩:=bU hr
   obtain⟨s2,e2,rfl⟩:=ew hr;have h1:=jS e1 (show dA (st.fns++[_]) from hF.app ⟨bx _,bx _⟩)
   have h2:=iR ks e2 h1.few;refine key (a:=0) (b:=Lt.al ks+1) ⟨h2.few,ai _,?_,?_,rfl⟩ (bx _) (ai _)
   ·have h3:s1.fns.length≤(st.fns++[_]).length+0:=h1.fns
    have h4:=h2.fns;rw[bM,mX] at h3;show s2.fns.length≤_
    omega
   ·have h3:(st.fns++[_]).length≤s1.fns.length:=h1.least
    have h4:=h2.least;rw[bM,mX] at h3;show _≤s2.fns.length
    omega
  split at hr
  ·obtain⟨s1,e1,hr⟩:=bU hr
   obtain⟨s2,e2,rfl⟩:=ew hr;have e1:=BA e1;subst e1;exact key (back_mk (vk ks e2 hF)) (bx _) (by omega)
  split at hr
  ·obtain⟨s1,e1,e2⟩:=bU hr
   have h1:=iR ks e1 hF;exact key (h1.trans (jS e2 h1.few)) (by omega) (by omega)
  split at hr
  ·obtain⟨s2,e2,rfl⟩:=ew hr
   exact key (back_mk (iR ks e2 hF)) (bx _) (by omega)
  split at hr
  ·obtain⟨s2,e2,rfl⟩:=ew hr
   obtain⟨a1,a2,a3⟩:=Zq ks e2 hF;exact key (a:=0) (b:=Lt.al ks) ⟨a1,ai _,a2,a3,rfl⟩ (bx _) (by omega)
  split at hr
  ·exact key (OP ks hr hF) (by omega) (by omega)
  split at hr
  ·obtain⟨s1,e1,e2⟩:=bU hr
   have h1:=jS e1 hF;exact key (h1.trans (iR ks e2 h1.few)) (by omega) (by omega)
  split at hr
  ·exact key (OO hr hF) (bx _) (bx _)
  split at hr
  ·exact key (Ux hF _ hr) (bx _) (bx _)
  exact key (iR ks hr hF) (by omega) (by omega)
theorem iR :∀(ks:List Lt) {f:Nat} {st st':aG},aH ks f st=.ok st'→dA st.fns→Mk (Lt.dM ks) (Lt.al ks) st st'
 | [],f,st,st',hr,hF=>by
  rw[eD] at hr;injection hr with hr;subst hr;exact⟨hF,gF _ _,gF _ _,ai _,rfl⟩
 | k::ks,f,st,st',hr,hF=>by
  rw[eu] at hr;obtain⟨s1,e1,e2⟩:=bU hr;rw[Lt.dM,Lt.al];have h1:=mh k e1 hF;exact h1.trans (iR ks e2 h1.few)
theorem vk :∀(ks:List Lt) {n f:Nat} {st st':aG},cF ks n f st=.ok st'→dA st.fns→Mk (Lt.dM ks) (Lt.al ks) st st'
 | [],n,f,st,st',hr,hF=>by
  rw[oB] at hr;injection hr with hr;subst hr;exact⟨hF,gF _ _,gF _ _,ai _,rfl⟩
 | k::ks,n,f,st,st',hr,hF=>by
  rw[fZ] at hr;obtain⟨s1,e1,e2⟩:=bU hr;rw[Lt.dM,Lt.al];have h1:=abt (mh k e1 hF);exact h1.trans (vk ks e2 h1.few)
theorem Zq :∀(ks:List Lt) {f:Nat} {st st':aG},kL ks f st=.ok st'→dA st.fns→dA st'.fns∧st'.fns.length≤st.fns.length+Lt.al ks∧st.fns.length≤st'.fns.length
 | [],f,st,st',hr,hF=>by
  unfold kL at hr;injection hr with hr;subst hr;exact⟨hF,gF _ _,ai _⟩
 | [.mk _ _ _],f,st,st',hr,hF=>by
  unfold kL at hr;injection hr with hr;subst hr;exact⟨hF,gF _ _,ai _⟩
 | .mk _ _ _::_::_::_,f,st,st',hr,hF=>by
  unfold kL at hr;injection hr with hr;subst hr;exact⟨hF,gF _ _,ai _⟩
 | [.mk i h ks,t],f,st,st',hr,hF=>by
  rw[ze] at hr;obtain⟨s1,e1,hr⟩:=bU hr;obtain⟨s2,e2,e3⟩:=bU hr;have e1:=BA e1;subst e1;have h1:=vk ks e2 hF;have h2:=mh t e3 h1.few;refine⟨h2.few,?_,?_⟩
  ·have h3:s2.fns.length≤st.fns.length+_:=h1.fns
   have:=h2.fns;simp only[Lt.al,Lt.size];omega
  ·exact aK (show st.fns.length≤s2.fns.length from h1.least) h2.least
theorem OP {i:Nat} {line:Int} {names:List ByteArray} :∀(ks:List Lt) {f:Nat} {st st':aG},iQ i line names ks f st=.ok st'→dA st.fns→Mk (Lt.dM ks) (Lt.al ks) st st'
 | [],f,st,st',hr,hF=>by
  unfold iQ at hr;injection hr with hr;subst hr;exact⟨hF,gF _ _,gF _ _,ai _,rfl⟩
 | [b],f,st,st',hr,hF=>by
  rw[nW] at hr;obtain⟨s1,e1,hr⟩:=bU hr;obtain⟨s2,e2,rfl⟩:=ew hr;have h1:=jS e1 (show dA (df i f st).fns from hF)
  have h2:=mh b e2 h1.few;simp only[Lt.dM,Lt.al];refine⟨h2.few,gF _ _,?_,?_,rfl⟩
  ·have h3:s1.fns.length≤st.fns.length+0:=h1.fns
   have:=h2.fns;show s2.fns.length≤_
   omega
  ·exact aK (show st.fns.length≤s1.fns.length from h1.least) h2.least
 | a::b::l,f,st,st',hr,hF=>by
  rw[jx] at hr;obtain⟨s1,e1,e2⟩:=bU hr;have h1:=mh a e1 hF;rw[Lt.dM,Lt.al];exact h1.trans (OP (b::l) e2 h1.few)
end
mutual
def Ast.lt:Ast→Lt
 | .mk h ks=>.mk 0 h (Ast.Rn ks)
def Ast.Rn:List Ast→List Lt
 | []=>[]
 | a::xz=>Ast.lt a::Ast.Rn xz
end
mutual
theorem OQ {T:List Nd} :∀(a:Ast) (i:Nat) (js:List Nat),gW T a i js→∃t:Lt,Lt.In T t∧t.loc=i∧t.gY=js∧vi id a.lt t
 | .mk h xz,i,js,hr=>by
  unfold gW at hr;obtain⟨x,sz,hx,he,hs,rfl⟩:=hr;obtain⟨ts,h1,h2,h3,h4⟩:=Gc xz x.kids sz hs;refine⟨.mk i x ts,?_,rfl,?_,?_⟩
  ·unfold Lt.In
   exact⟨hx,h2,h1⟩
  ·rw[Lt.gY,h3]
  ·rw[Ast.lt]
   unfold vi;have e1:x.kind=h.kind:=by rw[he]
   have e2:x.num=h.num:=by rw[he]
   have e3:x.s=h.s:=by rw[he]
   have e4:x.names=h.names:=by rw[he]
   exact⟨e1,e2,e3,by rw[List.map_id];exact e4,h4⟩
theorem Gc {T:List Nd} :∀(xz:List Ast) (ks:List Int) (js:List Nat),bo T xz ks js→∃ts:List Lt,Lt.u9 T ts∧ks=ts.map (fun k=>(k.loc:Int))∧Lt.bt ts=js∧dt id (Ast.Rn xz) ts
 | [],ks,js,hr=>by
  unfold bo at hr;obtain⟨rfl,rfl⟩:=hr;refine⟨[],?_,rfl,?_,?_⟩
  ·unfold Lt.u9;trivial
  ·rw[Lt.bt]
  ·rw[Ast.Rn];unfold dt;rfl
 | a::xz,ks,js,hr=>by
  unfold bo at hr;obtain⟨k,iz,j1,j2,rfl,h1,h2,rfl⟩:=hr;obtain⟨t,a1,a2,a3,a4⟩:=OQ a k j1 h1;obtain⟨ts,b1,b2,b3,b4⟩:=Gc xz iz j2 h2;refine⟨t::ts,?_,?_,?_,?_⟩
  ·unfold Lt.u9;exact⟨a1,b1⟩
  ·rw[gi,a2,b2]
  ·rw[Lt.bt,a3,b3]
  ·rw[Ast.Rn];unfold dt;exact⟨t,ts,rfl,a4,b4⟩
end
def kO (r:Rs aG):Prop:=∀x,r=.error x→∃k:Nat,x.1=(k:Int)∧8≤k∧k≤14
theorem eN (st:aG):kO (.ok st):=fun x h=>by cases h
theorem mi {k:Nat} {l:Int} (h:8≤k∧k≤14):kO (.error ((k:Int),l)):=fun x e=>by injection e with e;exact⟨k,by rw[←e],h.1,h.2⟩
theorem nX {r:Rs aG} (h:kO r) (g:aG→aG):kO (r.map g):=fun x e=>by
 cases r with
 | ok s=>cases e
 | error y=>injection e with e;exact h x (by rw[e])
theorem eE {r:Rs aG} (h:kO r) {g:aG→Rs aG} (hg :∀s,kO (g s)):kO (r.bind g):=fun x e=>by
 cases r with
 | ok s=>exact hg s x e
 | error y=>injection e with e;exact h x (by rw[e])
theorem jT {n f:Nat} {l:Int} :∀(ns:List ByteArray) (st:aG),kO (dR n f l ns st)
 | [],st=>eN _
 | s::ns,st=>by
  rw[dR];split
  ·exact mi (k:=11) (by omega)
  ·exact jT ns _
theorem OR {n f:Nat} {s:ByteArray} {l:Int} (st:aG):kO (me n f s l st):=by
 unfold me;split
 ·exact eN _
 ·split
  ·exact eN _
  ·split
   ·exact mi (k:=12) (by omega)
   ·exact eN _
theorem D4 {n f:Nat} {l:Int} (st:aG):kO (dX n f l st):=by
 unfold dX;split
 ·exact mi (k:=8) (by omega)
 ·exact eN _
theorem xN {i f:Nat} {rep:Bool} {ks:List Lt} (st:aG):kO (gz i f rep ks st):=by
 unfold gz;split
 ·exact mi (k:=9) (by omega)
 ·exact eN _
theorem pL {n f:Nat} {s:ByteArray} {l:Int} (st:aG) :∀fr:List fB,kO (db n f s l st fr)
 | []=>by rw[db];exact mi (k:=8) (by omega)
 | x::fr=>by
  rw[db];split
  ·exact pL st fr
  ·split
   ·exact pL st fr
   ·split
    ·exact mi (k:=10) (by omega)
    ·exact eN _
mutual
theorem lz :∀(t:Lt) (f:Nat) (st:aG),kO (aY t f st)
 | .mk i h ks,f,mJ=>by
  rw[cw];generalize mJ.setOf i f=st;split
  ·split
   ·exact eN _
   ·exact mi (k:=14) (by omega)
  split
  ·exact OR _
  split
  ·exact eE (jT _ _) fun s=>nX (jy ks _ s) _
  split
  ·exact eE (xN _) fun s=>nX (rU ks _ _ s) _
  split
  ·exact eE (jy ks _ _) fun s=>jT _ _
  split
  ·exact nX (jy ks _ _) _
  split
  ·exact nX (Uy ks _ _) _
  split
  ·exact Gd ks _ _
  split
  ·exact eE (jT _ _) fun s=>jy ks _ s
  split
  ·exact D4 _
  split
  ·exact pL _ _
  exact jy ks _ _
theorem jy :∀(ks:List Lt) (f:Nat) (st:aG),kO (aH ks f st)
 | [],f,st=>by rw[eD];exact eN _
 | k::ks,f,st=>by rw[eu];exact eE (lz k f st) fun s=>jy ks f s
theorem rU :∀(ks:List Lt) (n f:Nat) (st:aG),kO (cF ks n f st)
 | [],n,f,st=>by rw[oB];exact eN _
 | k::ks,n,f,st=>by rw[fZ];exact eE (lz k f _) fun s=>rU ks _ f s
theorem Uy :∀(ks:List Lt) (f:Nat) (st:aG),kO (kL ks f st)
 | [],f,st=>by unfold kL;exact eN _
 | [.mk _ _ _],f,st=>by unfold kL;exact eN _
 | [.mk i h ks,t],f,st=>by
  rw[ze];exact eE (xN _) fun s=>eE (rU ks _ _ s) fun s=>lz t f s
 | .mk _ _ _::_::_::_,f,st=>by unfold kL;exact eN _
theorem Gd {i:Nat} {line:Int} {names:List ByteArray} :∀(ks:List Lt) (f:Nat) (st:aG),kO (iQ i line names ks f st)
 | [],f,st=>by unfold iQ;exact eN _
 | [b],f,st=>by rw[nW];exact eE (jT _ _) fun s=>nX (lz b f s) _
 | a::b::l,f,st=>by rw[jx];exact eE (lz a f st) fun s=>Gd (b::l) f s
end
theorem tK (t:Lt):kO (kM t):=lz t 0 _
def tL (k:Int):Prop:=1≤k∧k≤15
def StK (k:Int):Prop:=19≤k∧k≤32∧k≠29
structure qB (k n:Int) (kk:List Int):Prop where
 none:(k=1∨k=2∨k=3∨k=4∨k=5∨k=6∨k=7∨k=30∨k=31∨k=32)→kk=[]
 two:(k=8∨k=12∨k=17)→∃a b,kk=[a,b]∧tL a∧tL b
 call:(k=9∨k=10)→1≤kk.length∧∀a∈kk,tL a
 body:(k=11∨k=22)→kk=[18]
 one:(k=13∨k=14∨k=16)→∃a,kk=[a]∧tL a
 items:k=15→∀a∈kk,a=16∨a=17
 block:k=18→∃l r,kk=l++r∧(∀a∈l,StK a)∧(r=[]∨r=[29])
 list:(k=19∨k=29)→∀a∈kk,tL a
 assign:k=20→∃l r,kk=l++r∧(∀a∈l,a=7∨a=8)∧(1≤n→(l.length:Int)=n)∧1≤r.length∧∀a∈r,tL a
 Zr:k=21→∃a,kk=[a]∧(a=9∨a=10)
 Zs:k=23→∃a,kk=[a,18]∧tL a
 Ge:k=24→∃a,kk=[18,a]∧tL a
 if_:k=25→∃(ps:List (Int×Int)) (r:List Int),kk=(ps.flatMap fun p:Int×Int=>[p.1,p.2])++r∧1≤ps.length∧(∀p∈ps,tL p.1∧p.2=18)∧(r=[]∨r=[18])
 for_:k=26→∃l,kk=l++[18]∧(l.length=2∨l.length=3)∧∀a∈l,tL a
 each:k=27→∃l,kk=l++[18]∧(1≤n→(l.length:Int)=n)∧∀a∈l,tL a
 func:k=28→kk=[11]
def oM (ks:List Lt):List Int:=ks.map fun k=>k.hd.kind
mutual
/-- A tree all of whose nodes have such Kids. -/
def Lt.vl:Lt→Prop
 | .mk _ h ks=>qB h.kind h.num (oM ks)∧Lt.iE ks
def Lt.iE:List Lt→Prop
 | []=>True
 | k::ks=>Lt.vl k∧Lt.iE ks
end
end Go.Proofs.YteflkdlaoiijbaaGreatDoor
