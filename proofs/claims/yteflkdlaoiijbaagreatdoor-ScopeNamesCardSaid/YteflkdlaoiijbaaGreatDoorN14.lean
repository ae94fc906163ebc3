/- Parts of the proof. -/
import Derived.Lib.IfaceEq
import Derived.Test.YteflkdlaoiijbaaGreatDoorN13
set_option maxHeartbeats 16000000
set_option maxRecDepth 20000
namespace Go.Proofs.YteflkdlaoiijbaaGreatDoor
open Go.RowKit
def ja (T:List Nd) (r:Int):Bool:=pd aM iP dN T r
def okK (T:List Nd) (x:Nd):Bool:=km aM iP dN T x
theorem Ze (T:List Nd) (x:Nd):okK T x=(decide (1≤x.line) && aM x && iP x.kind x.num (ia T x)):=rfl
theorem vw {T:List Nd} {r:Int} (h:eH T r=0∨100<eH T r∨dz T r.toNat≠18):ja T r=false:=by
 rw[Bool.eq_false_iff];intro hh;obtain⟨h1,h2,h3,_⟩:=(gd aM iP dN).1 hh;rcases h with h|h|h
 ·exact h1 h
 ·omega
 ·exact h h3
theorem JA {T:List Nd} {r:Int} (h1:eH T r≠0) (h2:¬ 100<eH T r) (h3:dz T r.toNat=18):ja T r=T.all (okK T):=by
 unfold ja pd;rw[bM h1,bM (show eH T r≤100 by omega),bM h3]
 rfl
def Szd (T:List Nd):Prop:=∀x∈T,x.names.length≤140737488355328
theorem B9 {T:List Nd} {r:Nat} {d:Nat→Nat} {m:List Nat} (hs:V9 T r d m) {i:Nat} {x:Nd} (hx:T[i]? = some x):(∀k∈x.kids,0≤k∧k<(T.length:Int))∧x.kids.length≤T.length:=by
 have hi:=(aL.1 hx).1;have h1 :∀k∈x.kids,0≤k∧k<(T.length:Int):=fun k hk=>by
  obtain⟨a,b,_⟩:=hs.kid i (hs.mem hi) k (by rw[jg hx];exact hk)
  exact⟨a,b⟩
 refine⟨h1,?_⟩;have hn:=hs.Gp hi;rw[jg hx] at hn;have h2:=tP T.length (x.kids.map Int.toNat) (by
  rw[List.Nodup,List.pairwise_map];refine J7 ?_ hn;intro a b ha hb hab e;have:=h1 a ha;have:=h1 b hb;exact hab (by omega)) (fun j hj=>by
  obtain⟨k,hk,rfl⟩:=jd.1 hj;have:=h1 k hk;omega)
 rw[cN] at h2;exact h2
theorem JB (v:Value) (T:List Nd) (r:Int) (w:World) (h:np w v T r) (hz:Szd T):Calls Tryz.prog 25 #[v] w fun e w'=>e=.returned (.bool (ja T r))∧Below w.heap.size w w':=by
 have Qr:=aa (fun W (hW:np W v T r)=>Ay v T r W hW)
 have HTV:=aa h;obtain⟨nv,rfl,A,c,rfl,hc,hn⟩:=h;have HN:=aa hn;have HZ:=aa hz;obtain⟨D,hD⟩ :∃D,D=eH T r:=⟨_,rfl⟩;rw[←hD] at Qr;have HD:=aa hD;obtain⟨R,hR⟩ :∃R,R=ja T r:=⟨_,rfl⟩;rw[←hR];have HR:=aa hR;clear hR;have gr :∀W,Below (w.heap.size+1) (w.alloc (.cells #[.slice A T.length c,.int .i64 r] 25)) W→W.cell? ⟨w.heap.size,0,none⟩=some (.slice A T.length c)∧W.cell? ⟨w.heap.size,1,none⟩=some (.int .i64 r):=fun W hW =>
  ⟨(hW.cell (p:=⟨w.heap.size,0,none⟩) (dr _)).trans (dx w _ _ _),(hW.cell (p:=⟨w.heap.size,1,none⟩) (dr _)).trans (dx w _ _ _)⟩
 have qe:=aa gr;have B0:=aa (bD w (.cells #[.slice A T.length c,.int .i64 r] 25));clear hD gr hn hz;go_enter Tryz.func25,Tryz.ntmps25
 go_wp2_with fail
 refine(Qr.out _ (HTV.out.below B0.out)).mono ?_;rintro e w1 ⟨rfl,b1⟩;rw[ao] at b1;have BW1:=aa b1;have B1:=aa (B0.out.trans (b1.mono (fY _)));have C8:=b1.size;rw[ao] at C8;obtain⟨x0,x1⟩:=qe.out _ b1;clear b1 Qr;by_cases h0:D=0
 ·have UE:R=false:=HR.out.trans <| vw (.inl (by rw[←HD.out];exact h0))
  subst UE;subst h0;go_wp2_with fail
  go_ret
  exact⟨rfl,B1.out⟩
 ·have g0:((D:Int) == 0)=false:=aE.2 (by omega)
  by_cases h1:100<D
  ·have UE:R=false:=HR.out.trans <| vw (.inr (.inl (by rw[←HD.out];exact h1)))
   subst UE;have g1:decide ((100:Int)<(D:Int))=true:=bM (by omega)
   go_wp2_with fail
   go_ret
   exact⟨rfl,B1.out⟩
  ·have g1:decide ((100:Int)<(D:Int))=false:=bL (by omega)
   obtain⟨hN,UE,hr1,d,m,hs⟩:=zN (T:=T) (r:=r) (by rw[←HD.out];exact h0)
   rcases HN.out with hT | ⟨b,o,rfl,hb,hx⟩
   ·rw[hT] at hr1;simp at hr1;omega
   obtain⟨q,rfl⟩ :∃q:Nat,r=(q:Int):=⟨r.toNat,by omega⟩
   have hq:q<T.length:=by omega
   have hxq:=bE hq;obtain⟨nvq,kvq,fE,_,_⟩:=hx q _ hxq;have ck:=(B1.out.cell (p:=⟨b,o+q*7,none⟩) hb).trans fE.c0;obtain⟨kd,qa⟩ :∃kd,kd=T[q].kind:=⟨_,rfl⟩;rw[←qa] at ck;have qX:dz T (q:Int).toNat=kd:=by rw[iF,nU hxq,qa]
   have HX:=aa hx;have HSn:=aa hs;clear fE hx hs hxq qa;by_cases mo:kd=18
   ·have hry:R=T.all (okK T):=HR.out.trans <| JA (T:=T) (r:=(q:Int)) (by rw[←HD.out];exact h0) (by rw[←HD.out];exact h1) (by rw[qX,mo])
    have HAL:=aa hry;subst mo;clear qX hry HR;go_wp2_with fail
    go_loopw [27] (fun i wr=>∃k:Nat,k≤T.length∧i=.int .i64 (k:Int)∧(T.drop k).all (okK T)=R∧Below (w.heap.size+1) (w.alloc (.cells #[.slice (some ⟨b,o,none⟩) T.length c,.int .i64 (q:Int)] 25)) wr) (fun i _=>T.length-(intOf i).toNat)
    case atStart=>exact⟨0,aR _,rfl,HAL.out.symm,BW1.out⟩
    case round =>
     obtain⟨k,hk,rfl,ha,hbr⟩:=hrel;have HA:=aa ha;have Dg:=aa hbr;have BR:=aa (B0.out.trans (hbr.mono (fY _)));have Zf:=hbr.size;rw[ao] at Zf;clear ha hbr x0 x1 ck;by_cases hlt:k<T.length
     ·obtain⟨x,hxk⟩ :∃x,T[k]? = some x:=⟨T[k],bE hlt⟩
      obtain⟨zx,zy,fE,hst,AM⟩:=HX.out k x hxk;obtain⟨c0,c1,c2,c3,c4,c5,c6⟩:=fE.below BR.out hb;have HST:=aa (wV (p:=okK T) hxk);have hxz:=HZ.out x (ba hxk);have zP:=B9 HSn.out hxk;have HSS:=aa hst;have HNU:=aa AM;obtain⟨SA,sc,rfl,_,_⟩:=hst;obtain⟨UA,uc,rfl,_,_⟩:=AM;clear hxk fE;have HWN:=aa (bD wr (.cells #[.int .i64 x.kind,.int .i64 x.line,.int .i64 x.op,.int .i64 x.num,.string x.s,.slice SA x.names.length sc,.slice UA x.kids.length uc] 55));have HFL:=aa (C7 x _ (.slice UA x.kids.length uc) (wr.alloc (.cells #[.int .i64 x.kind,.int .i64 x.line,.int .i64 x.op,.int .i64 x.num,.string x.s,.slice SA x.names.length sc,.slice UA x.kids.length uc] 55)) ((HSS.out.below BR.out).below HWN.out) ⟨_,_,_,rfl⟩ hxz);have Zg:=aa (fun W (h:Below (wr.heap.size+1) (wr.alloc (.cells #[.int .i64 x.kind,.int .i64 x.line,.int .i64 x.op,.int .i64 x.num,.string x.s,.slice SA x.names.length sc,.slice UA x.kids.length uc] 55)) W)=>wW (dr _) h)
      have bJ:=aa (fun W hA hB hC=>LK x (.slice SA x.names.length sc) (.slice UA x.kids.length uc) (.slice (some ⟨b,o,none⟩) T.length c) T W hA hB hC zP.1 (by have:=zP.2;omega))
      have Hx:=aa (Ze T x);obtain⟨FL,hFL⟩ :∃FL,FL=aM x:=⟨_,rfl⟩;obtain⟨KD,hKD⟩ :∃KD,KD=iP x.kind x.num (ia T x):=⟨_,rfl⟩;rw[←hFL] at HFL Hx;rw[←hKD] at bJ Hx;obtain⟨x0,x1⟩:=qe.out _ (Dg.out.trans (HWN.out.mono Zf));unfold cO at HFL bJ;clear hFL hKD zP hxz;by_cases vR:x.line<1
      ·go_wp2_with fail
       go_ret
       exact⟨cC (by rw[←HA.out,HST.out,Hx.out,bL (by omega)];rfl),BR.out.trans (HWN.out.mono BR.out.size)⟩
      ·have gl:decide (1≤x.line)=true:=bM (by omega)
       rw[gl,kJ] at Hx;go_wp2_with fail
       refine HFL.out.mono ?_;rintro e w3 ⟨rfl,b3⟩;have B3:=aa ((BR.out.trans (HWN.out.mono BR.out.size)).trans (b3.mono (by rw[ao];have:=BR.out.size;omega)))
       have BB3:=aa ((Dg.out.trans (HWN.out.mono Zf)).trans (b3.mono (by rw[ao];omega)))
       have HQ3:=aa (Zg.out _ (by rw[ao] at b3;exact b3))
       clear b3 x0 x1 c0 c1 c2 c3 c4 c5 c6;cases FL with
       | false =>
        go_wp2_with fail
        go_ret
        exact⟨cC (by rw[←HA.out,HST.out,Hx.out];rfl),B3.out⟩
       | true =>
        rw[kJ] at Hx;obtain⟨c0,c1,c2,c3,c4,c5,c6⟩:=HQ3.out;obtain⟨x0,x1⟩:=qe.out _ BB3.out;go_wp2_with fail
        refine(bJ.out _ (HSS.out.below B3.out) (HNU.out.below B3.out) ?_).mono ?_
        ·exact sy.below (W:=w) ⟨some ⟨b,o,none⟩,c,rfl,hc,.inr ⟨b,o,rfl,hb,HX.out⟩⟩ B3.out
        rintro e w4 ⟨rfl,b4⟩;have B4:=aa (jk B3.out (ah _) b4);have BB4:=aa (BB3.out.trans (b4.mono (by have:=BB3.out.size;rw[ao] at this;exact this)))
        clear b4 x0 x1 c0 c1 c2 c3 c4 c5 c6;cases KD with
        | false =>
         go_wp2_with fail
         go_ret
         exact⟨cC (by rw[←HA.out,HST.out,Hx.out];rfl),B4.out⟩
        | true =>
         go_wp2_with fail
         go_roundw
         case rel=>exact⟨k+1,by omega,by go_num,by rw[←HA.out,HST.out,Hx.out,kJ],BB4.out⟩
         case measure=>simp[intOf];omega
     ·have hd:R=true:=by rw[←HA.out,pP (by omega)];rfl
      subst hd;go_wp2_with fail
      go_ret
      exact⟨rfl,BR.out⟩
   ·have UE:R=false:=HR.out.trans <| vw (.inr (.inr (by rw[qX];exact mo)))
    subst UE;have g18:(kd != 18)=true:=oO.2 mo;clear HR qX;go_wp2_with fail
    go_ret
    exact⟨rfl,B1.out⟩
end Go.Proofs.YteflkdlaoiijbaaGreatDoor
namespace Go.Proofs.YteflkdlaoiijbaaGreatDoor
open Go.RowKit
theorem VP {z:Array Value} {v:Value} (m:Nat) (hz:0<z.size) (h :∀j,j<z.size→z[j]? = some v) (f:Nat→Value) (hf :∀j,f j=v):(madeCells z m).toList=(List.range m).map f:=by
 unfold madeCells;rw[Array.toList_map,Array.toList_range];refine List.map_congr_left fun j _=>?_
 rw[hf j];have h1:=h (j % z.size) (Nat.mod_lt _ hz);rw[getElem!_def,h1]
theorem JC:(Tryz.prog.info? 57).map (fun i=>(i.zero,i.size,i.bytes))=some (some (.agg #[.int .i64 0,.int .i64 0]),2,16):=by kernel_rfl
theorem JD:(Tryz.prog.info? 3).map (fun i=>(i.zero,i.size,i.bytes))=some (some (.int .i64 0),1,8):=by kernel_rfl
theorem JE (n:Nat) (hn:n≤1000000) :∃M:Array Value,∀w:World,(Instr.makeSlice 32 (.int .i64 (n:Int)) (.int .i64 (n:Int))).run Tryz.prog w=.ok (.slice (some ⟨w.heap.size,0,none⟩) n n) (w.alloc (.cells M 57)) ∧
  ∀base,base≤w.heap.size→fx (w.alloc (.cells M 57)) base 57 2 w.heap.size n (vX fun _=>(0,0)):=by
 obtain⟨i0,ng,hz0,hz1,hz2⟩:=info_parts JC;refine⟨madeCells (Value.cells (.agg #[.int .i64 0,.int .i64 0])) (n*i0.size),fun w=>?_⟩
 have hr:=run_make (P:=Tryz.prog) w 32 57 i0 _ Tryz.underlying32 ng hz0 .i64 .i64 (n:Int) (n:Int) (by omega) (Int.le_refl _) (by rw[hz2];omega) (by omega)
 simp only[iF] at hr;refine⟨hr,fun base hb=>?_⟩
 obtain⟨W,h1,h2,_⟩:=run_make_full (P:=Tryz.prog) w base 32 57 i0 _ 2 Tryz.underlying32 ng hz0 hz1 .i64 .i64 n (by rw[hz2];omega) (by unfold maxLen;omega) hb
 rw[hr] at h1;injection h1 with _ h1;rw[h1];have e:(madeCells (Value.cells (.agg #[.int .i64 0,.int .i64 0])) (n*2)).toList=(List.range (n*2)).map (vX fun _=>(0,0)):=VP (v:=.int .i64 0) _ (by decide) (fun j hj=>by
  have hj:j<2:=hj;match j,hj with
  | 0,_=>rfl
  | 1,_=>rfl) _ fun j=>by unfold vX;split<;>rfl
 rw[e] at h2;exact h2
theorem PF (n:Nat) (hn:n≤1000000) :∃M:Array Value,∀w:World,(Instr.makeSlice 33 (.int .i64 (n:Int)) (.int .i64 (n:Int))).run Tryz.prog w=.ok (.slice (some ⟨w.heap.size,0,none⟩) n n) (w.alloc (.cells M 3)) ∧
  ∀base,base≤w.heap.size→fx (w.alloc (.cells M 3)) base 3 1 w.heap.size n (Qw fun _=>0):=by
 obtain⟨i0,ng,hz0,hz1,hz2⟩:=info_parts JD;refine⟨madeCells (Value.cells (.int .i64 0)) (n*i0.size),fun w=>?_⟩
 have hr:=run_make (P:=Tryz.prog) w 33 3 i0 _ Tryz.underlying33 ng hz0 .i64 .i64 (n:Int) (n:Int) (by omega) (Int.le_refl _) (by rw[hz2];omega) (by omega)
 simp only[iF] at hr;refine⟨hr,fun base hb=>?_⟩
 obtain⟨W,h1,h2,_⟩:=run_make_full (P:=Tryz.prog) w base 33 3 i0 _ 1 Tryz.underlying33 ng hz0 hz1 .i64 .i64 n (by rw[hz2];omega) (by unfold maxLen;omega) hb
 rw[hr] at h1;injection h1 with _ h1;rw[h1];have e:(madeCells (Value.cells (.int .i64 0)) (n*1)).toList=(List.range (n*1)).map (Qw fun _=>0):=VP (v:=.int .i64 0) _ (by decide) (fun j hj=>by
  have hj:j<1:=hj;match j,hj with
  | 0,_=>rfl) _ fun j=>rfl
 rw[e] at h2;exact h2
def kE (W:World) (B N:Nat) (v:Value) (st:aG):Prop:=∃fv ub ob L,v=.agg #[fv,.slice (some ⟨ub,0,none⟩) N N,.slice (some ⟨ob,0,none⟩) N N]∧mG W B fv L∧L.map (·.1)=st.fns∧fx W B 57 2 ub N (vX st.uses)∧fx W B 3 1 ob N (Qw st.of)
theorem eQ.scope {W:World} {B b:Nat} {nv:Value} {N:Nat} {st:aG} {fv:Value} {ub ob:Nat} {L:List mF} (h:eQ W B b nv N st fv ub ob L):kE W B N (.agg #[fv,.slice (some ⟨ub,0,none⟩) N N,.slice (some ⟨ob,0,none⟩) N N]) st:=⟨fv,ub,ob,L,rfl,h.fns,h.are,h.uses,h.vZ⟩
def kl:Value:=.agg #[.slice none 0 0,.slice none 0 0,.slice none 0 0]
def Ga (B N:Nat) (r:Rs aG) (e:Ending) (w':World):Prop :=
 match r with
 | .ok st=>∃v B',B≤B'∧e=.returned (.tuple #[v,.nilIface])∧kE w' B' N v st
 | .error x=>∃v,e=.returned (.tuple #[kl,v])∧I8 w' v x.2 x.1
theorem Ca (w:World) (X Y Z:Obj):Below w.heap.size w (((w.alloc X).alloc Y).alloc Z).drew:=((((Below.refl _ _).alloc (ah _) _).alloc (by rw[ao];omega) _).alloc (by rw[ao,ao];omega) _).drew
theorem Ul (w:World) (X Y Z:Obj):(((w.alloc X).alloc Y).alloc Z).drew.heap[w.heap.size]? = some X :=
 (Below.heap_alloc ((w.alloc X).alloc Y) Z _ (by rw[ao,ao];omega)).trans ((Below.heap_alloc (w.alloc X) Y _ (by rw[ao];omega)).trans (heap_alloc_new w X))
theorem Um (w:World) (X Y Z:Obj):(((w.alloc X).alloc Y).alloc Z).drew.heap[w.heap.size+1]? = some Y:=by
 have h:=heap_alloc_new (w.alloc X) Y;rw[ao] at h;exact(Below.heap_alloc ((w.alloc X).alloc Y) Z _ (by rw[ao,ao];omega)).trans h
theorem Un (w:World) (X Y Z:Obj):(((w.alloc X).alloc Y).alloc Z).drew.heap[w.heap.size+1+1]? = some Z:=by
 have h:=heap_alloc_new ((w.alloc X).alloc Y) Z;rw[ao,ao] at h;exact h
theorem fx.later {W W':World} {B b n s:Nat} {ty:TypeId} {f:Nat→Value} (h:fx W B ty s b n f) (hb:Below W.heap.size W W'):fx W' B ty s b n f:=(Fr.ae (E:=[]) hb).row h (by simp)
section
variable {B n s:Nat} {ty:TypeId} {f:Nat→Value}
theorem VQ (w:World) (X Y Z:Obj) (h:fx (w.alloc X) B ty s w.heap.size n f):fx (((w.alloc X).alloc Y).alloc Z).drew B ty s w.heap.size n f:=h.later (Below.two Y Z).drew
theorem VR (w:World) (X Y Z:Obj) (h:fx ((w.alloc X).alloc Y) B ty s (w.alloc X).heap.size n f):fx (((w.alloc X).alloc Y).alloc Z).drew B ty s (w.heap.size+1) n f:=by
 rw[ao] at h;exact h.later ((Below.refl _ _).alloc (ah _) Z).drew
theorem VS (w:World) (X Y Z:Obj) (h:fx (((w.alloc X).alloc Y).alloc Z) B ty s ((w.alloc X).alloc Y).heap.size n f):fx (((w.alloc X).alloc Y).alloc Z).drew B ty s (w.heap.size+1+1) n f:=by
 rw[ao,ao] at h;exact h.later (Below.refl _ _).drew
end
structure MkZ (w2 W:World) (B:Nat) (nv:Value) (N ub ob b:Nat):Prop where
 below:Below w2.heap.size w2 W
 le:w2.heap.size≤b
 blk:W.heap[b]? = some (.cells #[nv,.slice none 0 0,.slice (some ⟨ub,0,none⟩) N N,.slice (some ⟨ob,0,none⟩) N N] 87 (0,0))
 uses:fx W B 57 2 ub N (vX fun _=>(0,0))
 vZ:fx W B 3 1 ob N (Qw fun _=>0)
theorem JF {P:Program} {id:Nat} {ops:Array Oper} {Q:Exit→Act→World→Prop} {a:Act} {w:World} {F:Nat→Nat→Nat→Act} {H:Nat→Nat→Nat→World→Prop} (hr:(∀ub ob b W,H ub ob b W→Q .normal (F ub ob b) W)→(Code.region id ops true).wp P Q a w) (h :∀ub ob b W,H ub ob b W→Q .normal (F ub ob b) W):(Code.region id ops true).wp P Q a w:=hr h
end Go.Proofs.YteflkdlaoiijbaaGreatDoor
namespace Go.Proofs.YteflkdlaoiijbaaGreatDoor
open Go.RowKit
theorem cF {W w':World} (h:Below W.heap.size W w'):(∀b i:Nat,b<W.heap.size→w'.cell? ⟨b,i,none⟩=W.cell? ⟨b,i,none⟩)∧∀b i:Nat,b<W.heap.size→w'.frozen? ⟨b,i,none⟩=W.frozen? ⟨b,i,none⟩:=⟨fun b i hb=>h.cell (p:=⟨b,i,none⟩) hb,fun b i hb=>h.frozen (p:=⟨b,i,none⟩) hb⟩
theorem aq.rename {B b:Nat} {nv:Value} {N ub ob:Nat} {lv:Value} {L:List cE} {st s1 s2:aG} {r:Rs aG} {w w2:World} {e:Ending} (h:aq B b nv N ub ob lv L st (r.map fun s=>s.back s1) w e w2) (hn:s2.names=s1.names):aq B b nv N ub ob lv L st (r.map fun s=>s.back s2) w e w2:=by
 refine h.same rfl ?_;cases r with
 | error y=>rfl
 | ok s=>exact⟨rfl,rfl,rfl,hn⟩
theorem Gb {ib f:Nat} {hb:Nd} {kb:List Lt} {t:Lt} {s:aG}:kA [.mk ib hb kb,t] f s=wg ib f true kb [t] s:=by
 rw[yS];unfold wg;congr 1
 funext s1
 congr 1
 funext s2
 rw[rV]
theorem Zh {ks:List Lt} {a:Int} (h:oG ks=[18,a]) :∃ib hb kb t,ks=[.mk ib hb kb,t]∧hb.kind=18∧t.hd.kind=a:=by
 unfold oG at h;match ks,h with
 | [.mk ib hb kb,t],h =>
  injection h with h1 h2;injection h2 with h2 _;exact⟨ib,hb,kb,t,rfl,h1,h2⟩
 | [],h=>exact absurd (ax List.length h) (by simp)
 | [.mk _ _ _],h=>exact absurd (ax List.length h) (by simp)
 | .mk _ _ _::_::_::_,h=>exact absurd (ax List.length h) (by simp)
theorem PG {T:List Nd} {B b:Nat} {nv:Value} {ub ob:Nat} (gp :∀x∈T,x.s.size≤65536∧∀s∈x.names,s.size≤65536) (i:Nat) (h:Nd) (ks:List Lt) (hn:kj T (.mk i h ks)) (gY :∀u:Lt,u.size<Lt.al ks+1→kj T u→bA T B b nv ub ob u) (hk:h.kind=24):bA T B b nv ub ob (.mk i h ks):=by
 intro f loop pa la lc ms L st w hr bN b9;show Calls Tryz.prog 26 #[.pointer (some ⟨b,0,none⟩),.int .i64 (i:Int),.agg #[.int .i64 (f:Int),.int .i64 loop,.pointer pa,.slice la L.length lc]] w (aq B b nv T.length ub ob (.slice la L.length lc) L st (bg (.mk i h ks) f st) w)
 have sP:=hn.sub;have oa:=hn.J2;unfold Lt.In at oa;obtain⟨hx,gN,_⟩:=oa;replace hr:eS T B b nv ub ob f pa (.slice la L.length lc) ms L st w (h.names.length+Lt.eY ks) (Lt.al ks+1):=by have h1:=hr;rw[Lt.wt,Lt.size] at h1;exact h1
 replace bN:18≤h.kind→loop=cB f st.frames:=bN;replace b9:L≠[]∨h.kind=18:=b9;obtain⟨lq,lz,lA⟩:=sP;replace lq:fA T ks:=lq;replace lz:h.kind≠18→∀k∈ks,Still k:=lz;replace lA:qw h.kind h.num (oG ks):=lA;have Zb:=gp h (ba hx);obtain⟨bk,o,c,rfl,eG,bX,dG⟩:=hr.ft.nodes;obtain⟨zx,zy,fE,⟨NA,nc,vL,_⟩,⟨KA,kc,qX,Cm,Js⟩⟩:=dG i h hx;have rU:h.kids.length≤20000:=(hr.ft.small h (ba hx)).1;have o0:h.kids.length=ks.length:=by rw[gN,cN]
 subst vL qX;obtain⟨x0,x1,x2,x3,x4,x5,x6⟩:=fE;have v7:i<T.length:=(aL.1 hx).1;have pN:=hr.ft.few;obtain⟨fv,FL,hw⟩:=id hr.rs;obtain⟨hbl,mH,sV⟩:=hw.mL;have d0:w.cell? ⟨b,0,none⟩=some (.slice (some ⟨bk,o,none⟩) T.length c):=ab hw.blk 0;have d3:w.cell? ⟨b,3,none⟩=some (.slice (some ⟨ob,0,none⟩) T.length T.length):=ab hw.blk 3;obtain⟨u0,v0⟩:=cZ hw.vZ (j:=i) (by omega)
 have gT:bk<w.heap.size:=by omega
 have qE:=aa gp;have HR:=aa hr;have HN:=aa hn;have tD:=aa gY;have iO:=aa bN;have kD:=aa b9;have eF:=aa lq;have qd:=aa lz;have ou:=aa lA;have fH:=aa gN;have sM:=aa o0;have HX:=aa hx;have zc:=aa Zb;have CY:=aa Js;clear hr hn gY bN b9 lq lz lA gN o0 hx Zb dG hw gp Js;have q6:(h.kind == 6)=false:=by rw[hk];rfl
 have q7:(h.kind == 7)=false:=by rw[hk];rfl
 have yH:(h.kind == 11)=false:=by rw[hk];rfl
 have zv:(h.kind == 18)=false:=by rw[hk];rfl
 have VK:(h.kind == 23)=false:=by rw[hk];rfl
 have Zc:(h.kind == 26)=false:=by rw[hk];rfl
 have q27:(h.kind == 27)=false:=by rw[hk];rfl
 have q24:(h.kind == 24)=true:=by rw[hk];rfl
 have bJ:=aa hk;clear hk;go_enter Tryz.func26,Tryz.ntmps26
 go_wp2_with fail
 go_region
 obtain⟨W1,hW1,HZ,fj,pJ,AK,K,y0,te,oI,tf,k0,k1,k2,k3⟩:=dU loop i HR.out eG;rw[←hW1];have x0:=K _ _ x0;have x1:=K _ _ x1;have x2:=K _ _ x2;have x3:=K _ _ x3;have x4:=K _ _ x4;have x5:=K _ _ x5;have x6:=K _ _ x6;clear hW1 K d0 d3 u0 v0;have d0:=y0;clear y0;obtain⟨ea,hl0,hea⟩:=ou.out.Fv bJ.out;obtain⟨ib,hb,kb,t,rfl,abw,abx⟩:=Zh hl0;have gN:h.kids=[(ib:Int),(t.loc:Int)]:=fH.out;obtain⟨sb,so,hKA,YP,Zi⟩ :∃sb so,KA=some ⟨sb,so,none⟩∧sb<B∧∀(j:Nat) x,h.kids[j]? = some x→w.cell? ⟨sb,so+j,none⟩=some (.int .i64 x):=by
  rcases CY.out with h0 | ⟨sb,so,h1,h2,h3⟩
  ·rw[gN] at h0;cases h0
  ·exact⟨sb,so,h1,h2,h3⟩
 subst hKA;have y0:=(fj.out.below.cell (p:=⟨sb,so,none⟩) YP).trans (Zi 0 (ib:Int) (by rw[gN];rfl))
 have y1:=(fj.out.below.cell (p:=⟨sb,so+1,none⟩) YP).trans (Zi 1 (t.loc:Int) (by rw[gN];rfl))
 have aby:h.kids.length=2:=by rw[gN];rfl
 have adw:=aa aby;have hkg0:0<h.kids.length:=by omega
 have hkg1:1<h.kids.length:=by omega
 have abz:sb<W1.heap.size:=by omega
 have HHK:=aa gN;have HEA:=aa hea;have adx:=aa abx;have HB18:=aa abw;clear Zi gN aby hea abx abw hl0;go_wp2_with fail
 obtain⟨W2,hW2⟩ :∃W2,W2=W1.alloc (.cells #[.int .i64 h.kind,.int .i64 h.line,.int .i64 h.op,.int .i64 h.num,.string h.s,.slice NA h.names.length nc,.slice (some ⟨sb,so,none⟩) h.kids.length kc] 55):=⟨_,rfl⟩;have cV:Below W1.heap.size W1 W2:=by rw[hW2];exact(Below.refl _ _).alloc (ah _) _
 rw[←hW2];have hz2:=heap_alloc_new W1 (.cells #[.int .i64 h.kind,.int .i64 h.line,.int .i64 h.op,.int .i64 h.num,.string h.s,.slice NA h.names.length nc,.slice (some ⟨sb,so,none⟩) h.kids.length kc] 55);rw[←hW2] at hz2;have n6:=ab hz2 6;rw[adw.out] at n6;replace n6:W2.cell? ⟨W1.heap.size,6,none⟩=some (.slice (some ⟨sb,so,none⟩) 2 kc):=n6;have p0:=(cV.cell (p:=⟨w.heap.size,0,none⟩) oI).trans k0;have p1:=(cV.cell (p:=⟨w.heap.size,1,none⟩) oI).trans k1;have p2:=(cV.cell (p:=⟨w.heap.size,2,none⟩) oI).trans k2;have p3:=(cV.cell (p:=⟨w.heap.size,3,none⟩) oI).trans k3;have y0:=(cV.cell (p:=⟨sb,so,none⟩) abz).trans y0;have y1:=(cV.cell (p:=⟨sb,so+1,none⟩) abz).trans y1;have hl2:W1.heap.size<W2.heap.size:=by rw[hW2,ao];omega
 have abA:=aa cV;have Cb:sb<W2.heap.size:=by omega
 have oJ:w.heap.size<W2.heap.size:=by omega
 clear hW2 hz2 cV x0 x1 x2 x3 x4 x5 x6 d0 k0 k1 k2 k3;have XM:Hid (∀W,Calls Tryz.prog 57 #[.agg #[.int .i64 (f:Int),.int .i64 loop,.pointer pa,.slice la L.length lc],.int .i64 (i:Int)] W fun e w'=>e=.returned (.agg #[.int .i64 (f:Int),.int .i64 (i:Int),.pointer pa,.slice la L.length lc])∧Below W.heap.size W w'):=aa fun W=>mg f loop (i:Int) pa la L.length lc W
 have abB:Hid (∀W g,Below W2.heap.size W2 W→W.heap[g]? = some (.cells #[.int .i64 (t.loc:Int)] 3 (0,0))→W2.heap.size≤g→Calls Tryz.prog 56 #[.pointer (some ⟨b,0,none⟩),.int .i64 (ib:Int),.agg #[.int .i64 (f:Int),.int .i64 (i:Int),.pointer pa,.slice la L.length lc],.slice (some ⟨g,0,none⟩) 1 1] W (aq B b (.slice (some ⟨bk,o,none⟩) T.length c) T.length ub ob (.slice la L.length lc) L st ((wg ib f true kb [t] (di i f (st.setOf i f))).map fun s=>s.back (di i f (st.setOf i f))) w)):=aa fun W g hW hg hge=>by
  have hW1:=abA.out.trans (hW.mono abA.out.size);have YK:=(HZ.out.dc hW1).ow i;have Ps:Lt.mk ib hb kb∈[Lt.mk ib hb kb,t]:=bU ..;have EO:=eF.out.at_ _ Ps;have hnt:=eF.out.cons.2;have oa:=EO.J2;unfold Lt.In at oa;have hsz:Lt.al [Lt.mk ib hb kb,t]=Lt.al kb+1+t.size:=by simp[Lt.al,Lt.size]
  have hwt:Lt.eY [Lt.mk ib hb kb,t]=hb.names.length+Lt.eY kb+t.wt:=by simp[Lt.eY,Lt.wt]
  have hs1:Lt.al [t]=t.size:=by simp[Lt.al]
  have dW:Lt.eY [t]=t.wt:=by simp[Lt.eY]
  have ady:g≠ob:=by
   obtain⟨_,_,hw⟩:=HZ.out.rs;have:=hw.mL;omega
  refine(xN ib f hb kb [t] true (i:Int) pa la lc ms L (di i f (st.setOf i f)) W (.slice (some ⟨g,0,none⟩) 1 1) (YK.VL (by rw[hwt,dW];omega) (by rw[hsz,hs1];omega)) oa.1 oa.2.1 EO.sub.1 hnt (fun k hk=>tD.out k (by have:=eU hk;rw[hsz];omega) (EO.sub.1.at_ k hk)) (fun k hk=>tD.out k (by have:=eU hk;rw[hs1] at this;rw[hsz];omega) (hnt.at_ k hk)) ⟨_,_,rfl,ah _,.inr ⟨g,0,rfl,fun w' hf j x hj=>?_⟩⟩ rfl (fun k hk mo=>(vi f i _).symm) (fun k hk mo=>?_) (fun x hx=>(qE.out x.hd (ba (uZ oa.2.2 (List.getElem?_of_mem hx).choose_spec).2)).1) (by simp)).mono fun e w' hp=>aq.after (fj.out.trans (cJ.bH hW1 HZ.out.world)) rfl hp
  ·have h1:=hf.ints g _ _ hg ady
   cases j with
   | zero =>
    injection hj with hj;rw[←hj];exact ab h1 0
   | succ j=>cases hj
  ·rw[bP] at hk
   have:=HEA.out;rw[←adx.out,←hk] at this;unfold tA at this;omega
 refine bS.PE (n:=13) (S:=(fun W=>W.cell? ⟨W1.heap.size,6,none⟩=some (.slice (some ⟨sb,so,none⟩) 2 kc)∧W.cell? ⟨w.heap.size,0,none⟩=some (.int .i64 (f:Int))∧W.cell? ⟨w.heap.size,1,none⟩=some (.int .i64 loop)∧W.cell? ⟨w.heap.size,2,none⟩=some (.pointer pa)∧W.cell? ⟨w.heap.size,3,none⟩=some (.slice la L.length lc)∧W.cell? ⟨sb,so,none⟩=some (.int .i64 (ib:Int))∧W.cell? ⟨sb,so+1,none⟩=some (.int .i64 (t.loc:Int)))) (by kernel_rfl) ?_
 have Gc:(fun W=>W.cell? ⟨W1.heap.size,6,none⟩=some (.slice (some ⟨sb,so,none⟩) 2 kc)∧W.cell? ⟨w.heap.size,0,none⟩=some (.int .i64 (f:Int))∧W.cell? ⟨w.heap.size,1,none⟩=some (.int .i64 loop)∧W.cell? ⟨w.heap.size,2,none⟩=some (.pointer pa)∧W.cell? ⟨w.heap.size,3,none⟩=some (.slice la L.length lc)∧W.cell? ⟨sb,so,none⟩=some (.int .i64 (ib:Int))∧W.cell? ⟨sb,so+1,none⟩=some (.int .i64 (t.loc:Int))) W2.drew:=⟨n6,p0,p1,p2,p3,y0,y1⟩
 refine bS.e9 0 (.pointer (some ⟨b,0,none⟩)) (by kernel_rfl) (by decide) (by kernel_rfl) (by kernel_rfl) (by kernel_rfl) (fun _ _ _ _ h=>h) Gc ?_
 simp only[eo,dZ,dP,dY];refine⟨by rfl,by rfl,?_,?_⟩
 ·intro w hSw
  (try dsimp only at hSw)
  go_simp
 simp only[Act.put,dO,dB,dC];refine bS.e9 1 (.pointer (some ⟨W1.heap.size,6,none⟩)) (by kernel_rfl) (by decide) (by kernel_rfl) (by kernel_rfl) (by kernel_rfl) (fun _ _ _ _ h=>h) Gc ?_
 simp only[eo,dZ,dP,dY];refine⟨by rfl,by rfl,?_,?_⟩
 ·intro w hSw
  (try dsimp only at hSw)
  go_simp
 simp only[Act.put,dO,dB,dC];refine bS.e9 2 (.slice (some ⟨sb,so,none⟩) 2 kc) (by kernel_rfl) (by decide) (by kernel_rfl) (by kernel_rfl) (by kernel_rfl) (fun _ _ _ _ h=>h) Gc ?_
 simp only[eo,dZ,dP,dY];refine⟨by rfl,by rfl,?_,?_⟩
 ·intro w hSw
  (try dsimp only at hSw)
  go_simp
 simp only[Act.put,dO,dB,dC];refine bS.e9 3 (.pointer (some ⟨sb,so,none⟩)) (by kernel_rfl) (by decide) (by kernel_rfl) (by kernel_rfl) (by kernel_rfl) (fun _ _ _ _ h=>h) Gc ?_
 simp only[eo,dZ,dP,dY];refine⟨by rfl,by rfl,?_,?_⟩
 ·intro w hSw
  (try dsimp only at hSw)
  go_simp
 simp only[Act.put,dO,dB,dC];refine bS.e9 4 (.int .i64 (ib:Int)) (by kernel_rfl) (by decide) (by kernel_rfl) (by kernel_rfl) (by kernel_rfl) (fun _ _ _ _ h=>h) Gc ?_
 simp only[eo,dZ,dP,dY];refine⟨by rfl,by rfl,?_,?_⟩
 ·intro w hSw
  (try dsimp only at hSw)
  go_simp
 simp only[Act.put,dO,dB,dC];refine bS.e9 5 (.agg #[.int .i64 (f:Int),.int .i64 loop,.pointer pa,.slice la L.length lc]) (by kernel_rfl) (by decide) (by kernel_rfl) (by kernel_rfl) (by kernel_rfl) (fun _ _ _ _ h=>h) Gc ?_
 simp only[eo,dZ,dP,dY];refine⟨by rfl,by rfl,?_,?_⟩
 ·intro w hSw
  (try dsimp only at hSw)
  go_simp
 simp only[Act.put,dO,dB,dC];refine bS.e9 6 (.int .i64 (i:Int)) (by kernel_rfl) (by decide) (by kernel_rfl) (by kernel_rfl) (by kernel_rfl) (fun _ _ _ _ h=>h) Gc ?_
 simp only[eo,dZ,dP,dY];refine⟨by rfl,by rfl,?_,?_⟩
 ·intro w hSw
  (try dsimp only at hSw)
  go_simp
 simp only[Act.put,dO,dB,dC];refine bS.e9 8 (.pointer (some ⟨W1.heap.size,6,none⟩)) (by kernel_rfl) (by decide) (by kernel_rfl) (by kernel_rfl) (by kernel_rfl) (fun _ _ _ _ h=>h) Gc ?_
 simp only[eo,dZ,dP,dY];refine⟨by rfl,by rfl,?_,?_⟩
 ·intro w hSw
  (try dsimp only at hSw)
  go_simp
 simp only[Act.put,dO,dB,dC];refine bS.e9 9 (.slice (some ⟨sb,so,none⟩) 2 kc) (by kernel_rfl) (by decide) (by kernel_rfl) (by kernel_rfl) (by kernel_rfl) (fun _ _ _ _ h=>h) Gc ?_
 simp only[eo,dZ,dP,dY];refine⟨by rfl,by rfl,?_,?_⟩
 ·intro w hSw
  (try dsimp only at hSw)
  go_simp
 simp only[Act.put,dO,dB,dC];refine bS.e9 10 (.pointer (some ⟨sb,so+1,none⟩)) (by kernel_rfl) (by decide) (by kernel_rfl) (by kernel_rfl) (by kernel_rfl) (fun _ _ _ _ h=>h) Gc ?_
 simp only[eo,dZ,dP,dY];refine⟨by rfl,by rfl,?_,?_⟩
 ·intro w hSw
  (try dsimp only at hSw)
  go_simp
 simp only[Act.put,dO,dB,dC];refine bS.e9 11 (.int .i64 (t.loc:Int)) (by kernel_rfl) (by decide) (by kernel_rfl) (by kernel_rfl) (by kernel_rfl) (fun _ _ _ _ h=>h) Gc ?_
 simp only[eo,dZ,dP,dY];refine⟨by rfl,by rfl,?_,?_⟩
 ·intro w hSw
  (try dsimp only at hSw)
  go_simp
 simp only[Act.put,dO,dB,dC];refine bS.Zd 7 12 (by kernel_rfl) (fun K hK=>?_) fun K hK=>?_
 ·simp only[eo,dZ,dP,dY]
  go_simp
  go_at_call 57
  with_reducible refine(XM.out _).mono ?_
  rintro e w3 ⟨rfl,hb3⟩;go_wp2_with fail
  have wh:Below W2.heap.size W2 w3:=iD hb3;refine hK.out _ _ (fun _=>⟨((cF wh).1 _ 6 hl2).trans n6,((cF wh).1 _ 0 oJ).trans p0,((cF wh).1 _ 1 oJ).trans p1,((cF wh).1 _ 2 oJ).trans p2,((cF wh).1 _ 3 oJ).trans p3,((cF wh).1 sb so Cb).trans y0,((cF wh).1 sb (so+1) Cb).trans y1⟩) ?_
  clear hK K
  (try simp only[Act.put,dO,dB,dC])
  refine bS.jQ 12 (by kernel_rfl) fun K hK=>?_
  simp only[eo,dZ,dP,dY];go_simp
  have Zj:=wh.alloc wh.size (.cells #[.int .i64 (t.loc:Int)] 3);refine hK.out _ _ (fun _=>⟨((cF Zj).1 _ 6 hl2).trans n6,((cF Zj).1 _ 0 oJ).trans p0,((cF Zj).1 _ 1 oJ).trans p1,((cF Zj).1 _ 2 oJ).trans p2,((cF Zj).1 _ 3 oJ).trans p3,((cF Zj).1 sb so Cb).trans y0,((cF Zj).1 sb (so+1) Cb).trans y1⟩) ?_
  clear hK K
  (try simp only[Act.put,dO,dB,dC])
  refine bS.jQ 13 (by kernel_rfl) fun K hK=>?_
  simp only[eo,dZ,dP,dY];go_simp
  go_at_call 56
  with_reducible refine(abB.out _ w3.heap.size (wh.alloc wh.size _) (heap_alloc_new _ _) wh.size).mono ?_
  intro e w4 hp;obtain⟨v,rfl⟩:=hp.ret;have HV:=aa hp;clear hp;go_wp2_with fail
  refine hK.out _ _ (fun h=>absurd h (by decide)) ?_
  clear hK K
  (try simp only[Act.put,dO,dB,dC])
  refine bS.jQ 14 (by kernel_rfl) fun K hK=>?_
  simp only[eo,dZ,dP,dY];go_simp
  refine hK.out _ _ (fun h=>absurd h (by decide)) ?_
  clear hK K
  (try simp only[Act.put,dO,dB,dC])
  refine bS.done (by kernel_rfl) ?_ _
  go_wp2_with fail
  go_ret
  have hE:bg (.mk i h [.mk ib hb kb,t]) f st=(wg ib f true kb [t] (di i f (st.setOf i f))).map fun s=>s.back (st.setOf i f):=by
   rw[cK];rw[af (by have:=bJ.out;omega)]
   rw[af (by have:=bJ.out;omega)]
   rw[af (by have:=bJ.out;omega)]
   rw[af (by have:=bJ.out;omega)]
   rw[af (by have:=bJ.out;omega)]
   rw[af (by have:=bJ.out;omega)]
   rw[ak bJ.out];rw[Gb]
  rw[hE];exact HV.out.rename rfl
 ·simp only[eo,dZ,dP,dY]
  go_simp
  have oc:Below W2.heap.size W2 (W2.drew.alloc (.cells #[.int .i64 (t.loc:Int)] 3)):=((Below.refl _ W2).drew).alloc (ah _) _;refine hK.out _ _ (fun _=>⟨((cF oc).1 _ 6 hl2).trans n6,((cF oc).1 _ 0 oJ).trans p0,((cF oc).1 _ 1 oJ).trans p1,((cF oc).1 _ 2 oJ).trans p2,((cF oc).1 _ 3 oJ).trans p3,((cF oc).1 sb so Cb).trans y0,((cF oc).1 sb (so+1) Cb).trans y1⟩) ?_
  clear hK K
  (try simp only[Act.put,dO,dB,dC])
  refine bS.jQ 7 (by kernel_rfl) fun K hK=>?_
  simp only[eo,dZ,dP,dY];go_simp
  go_at_call 57
  with_reducible refine(XM.out _).mono ?_
  rintro e w3 ⟨rfl,hb3⟩;go_wp2_with fail
  have hrow:=((iD hb3).block W2.heap.size (by rw[ao];omega)).trans (heap_alloc_new W2 (.cells #[.int .i64 (t.loc:Int)] 3))
  have wh:Below W2.heap.size W2 w3:=((Below.refl _ _).alloc (ah _) _).trans ((iD hb3).mono (by rw[ao];omega))
  refine hK.out _ _ (fun _=>⟨((cF wh).1 _ 6 hl2).trans n6,((cF wh).1 _ 0 oJ).trans p0,((cF wh).1 _ 1 oJ).trans p1,((cF wh).1 _ 2 oJ).trans p2,((cF wh).1 _ 3 oJ).trans p3,((cF wh).1 sb so Cb).trans y0,((cF wh).1 sb (so+1) Cb).trans y1⟩) ?_
  clear hK K
  (try simp only[Act.put,dO,dB,dC])
  refine bS.jQ 13 (by kernel_rfl) fun K hK=>?_
  simp only[eo,dZ,dP,dY];go_simp
  go_at_call 56
  with_reducible refine(abB.out _ W2.heap.size wh hrow (ah _)).mono ?_
  intro e w4 hp;obtain⟨v,rfl⟩:=hp.ret;have HV:=aa hp;clear hp;go_wp2_with fail
  refine hK.out _ _ (fun h=>absurd h (by decide)) ?_
  clear hK K
  (try simp only[Act.put,dO,dB,dC])
  refine bS.jQ 14 (by kernel_rfl) fun K hK=>?_
  simp only[eo,dZ,dP,dY];go_simp
  refine hK.out _ _ (fun h=>absurd h (by decide)) ?_
  clear hK K
  (try simp only[Act.put,dO,dB,dC])
  refine bS.done (by kernel_rfl) ?_ _
  go_wp2_with fail
  go_ret
  have hE:bg (.mk i h [.mk ib hb kb,t]) f st=(wg ib f true kb [t] (di i f (st.setOf i f))).map fun s=>s.back (st.setOf i f):=by
   rw[cK];rw[af (by have:=bJ.out;omega)]
   rw[af (by have:=bJ.out;omega)]
   rw[af (by have:=bJ.out;omega)]
   rw[af (by have:=bJ.out;omega)]
   rw[af (by have:=bJ.out;omega)]
   rw[af (by have:=bJ.out;omega)]
   rw[ak bJ.out];rw[Gb]
  rw[hE];exact HV.out.rename rfl
theorem Zk {T:List Nd} {B b:Nat} {nv:Value} {ub ob:Nat} (gp :∀x∈T,x.s.size≤65536∧∀s∈x.names,s.size≤65536):VN T B b nv ub ob:=fun i h ks hn gY hk=>PG gp i h ks hn gY hk
theorem JG {T:List Nd} {B b:Nat} {nv:Value} {ub ob:Nat} (gp :∀x∈T,x.s.size≤65536∧∀s∈x.names,s.size≤65536) (t:Lt) (hn:kj T t):bA T B b nv ub ob t:=xQ gp (Zk gp) t.size t (ah _) hn
structure Sml (T:List Nd):Prop where
 kids :∀x∈T,x.kids.length≤20000∧x.names.length≤20000
 size :∀x∈T,x.s.size≤65536∧∀s∈x.names,s.size≤65536
theorem Sml.szd {T:List Nd} (h:Sml T):Szd T:=fun x hx=>by have:=(h.kids x hx).2;omega
theorem Zo (v:Value) (T:List Nd) (r:Int) (w:World) (h:np w v T r) (hs:Szd T) (hR:ja T r=false):Calls Tryz.prog 11 #[v] w fun e w'=>Below w.heap.size w w'∧∃u,e = .returned (.tuple #[kl,u])∧I8 w' u 0 4:=by
 have HT:=aa h
 have HS:=aa hs
 have HR:=aa hR
 obtain ⟨nv,rfl,A,c,rfl,hc,hn⟩:=h
 clear hs hn hR
 go_enter Tryz.func11,Tryz.ntmps11
 go_wp2_with fail
 obtain ⟨W1,hW1⟩ :∃W1,W1=(w.alloc (.cells #[.slice A T.length c,.int .i64 r] 25)).alloc (.cells #[.slice none 0 0,.slice none 0 0,.slice none 0 0] 35):=⟨_,rfl⟩
 have hb1:Below w.heap.size w W1:=by rw [hW1];exact Below.two _ _
 have hs1:W1.heap.size=w.heap.size+1+1:=by rw [hW1,ao,ao]
 have hsc:W1.heap[w.heap.size+1]? = some (.cells #[.slice none 0 0,.slice none 0 0,.slice none 0 0] 35 (0,0)):=by
  rw [hW1]
  have:=heap_alloc_new (w.alloc (.cells #[.slice A T.length c,.int .i64 r] 25)) (.cells #[.slice none 0 0,.slice none 0 0,.slice none 0 0] 35)
  rwa [ao] at this
 rw [←hW1]
 have dM:=aa hb1
 have HSC:=aa hsc
 have eF:=aa hs1
 clear hW1 hb1 hsc hs1
 refine (JB _ T r W1 (HT.out.below dM.out) HS.out).mono ?_
 rintro e w2 ⟨rfl,b2⟩
 have B2:=aa b2
 clear b2
 rw [HR.out]
 have DZ:=(B2.out.block (w.heap.size+1) (by rw [eF.out];omega)).trans HSC.out
 have z0:=aw DZ 0
 have z1:=aw DZ 1
 have z2:=aw DZ 2
 have y0:w2.cell? ⟨w.heap.size+1,0,none⟩=some (.slice none 0 0):=ab DZ 0
 have y1:w2.cell? ⟨w.heap.size+1,1,none⟩=some (.slice none 0 0):=ab DZ 1
 have y2:w2.cell? ⟨w.heap.size+1,2,none⟩=some (.slice none 0 0):=ab DZ 2
 have hl2:w.heap.size+1<w2.heap.size:=(Array.getElem?_eq_some_iff.1 DZ).1
 have vx:=aa DZ
 clear DZ
 go_wp2_with fail
 have h3:=bt (bt (bt vx.out 0 (.slice none 0 0)) 1 (.slice none 0 0)) 2 (.slice none 0 0)
 have hb3:Below w.heap.size w2 (((w2.setCell ⟨w.heap.size+1,0,none⟩ (.slice none 0 0)).setCell ⟨w.heap.size+1,1,none⟩ (.slice none 0 0)).setCell ⟨w.heap.size+1,2,none⟩ (.slice none 0 0)):=(((Below.refl _ _).setCell (p:=⟨w.heap.size+1,0,none⟩) (by show _≤w.heap.size+1;omega) _).setCell (p:=⟨w.heap.size+1,1,none⟩) (by show _≤w.heap.size+1;omega) _).setCell (p:=⟨w.heap.size+1,2,none⟩) (by show _≤w.heap.size+1;omega) _
 have hs3:(((w2.setCell ⟨w.heap.size+1,0,none⟩ (.slice none 0 0)).setCell ⟨w.heap.size+1,1,none⟩ (.slice none 0 0)).setCell ⟨w.heap.size+1,2,none⟩ (.slice none 0 0)).heap.size=w2.heap.size:=by simp [World.setCell]
 generalize ((w2.setCell ⟨w.heap.size+1,0,none⟩ (.slice none 0 0)).setCell ⟨w.heap.size+1,1,none⟩ (.slice none 0 0)).setCell ⟨w.heap.size+1,2,none⟩ (.slice none 0 0)=W3 at h3 hb3 hs3 ⊢
 rw [←hs3]
 have h4:=(Below.heap_alloc W3 (.cells #[.int .i64 0,.iface 79 (.int .i64 4)] 85) _ (Array.getElem?_eq_some_iff.1 h3).1).trans h3
 have qj:=heap_alloc_new W3 (.cells #[.int .i64 0,.iface 79 (.int .i64 4)] 85)
 have c0:(W3.alloc (.cells #[.int .i64 0,.iface 79 (.int .i64 4)] 85)).cell? ⟨w.heap.size+1,0,none⟩=some (.slice none 0 0):=ab h4 0
 have c1:(W3.alloc (.cells #[.int .i64 0,.iface 79 (.int .i64 4)] 85)).cell? ⟨w.heap.size+1,1,none⟩=some (.slice none 0 0):=ab h4 1
 have c2:(W3.alloc (.cells #[.int .i64 0,.iface 79 (.int .i64 4)] 85)).cell? ⟨w.heap.size+1,2,none⟩=some (.slice none 0 0):=ab h4 2
 refine bodyPost_ret (v := .tuple #[kl,.iface 83 (.pointer (some ⟨W3.heap.size,0,none⟩))]) (by simp [results,Tryz.results11,go_sem,kl,c0,c1,c2]) rfl ⟨((dM.out.trans (B2.out.mono dM.out.size)).trans hb3).trans ((Below.refl _ _).alloc (by have:=dM.out.size;omega) _),_,rfl,_,rfl,qj⟩
theorem Cc (v:Value) (T:List Nd) (r:Int) (w:World) (h:np w v T r) (hs:Sml T) (hR:ja T r=true) (t:Lt) (hr:(t.loc:Int)=r) (hn:kj T t) (mo:t.hd.kind=18) (hN:T.length≤16384) (hwt:t.wt≤50000) (hsz:t.size=T.length):Calls Tryz.prog 11 #[v] w fun e w'=>Below w.heap.size w w'∧Ga w.heap.size T.length (kX t) e w':=by
 have HT:=aa h;have HS:=aa hs;have HR:=aa hR;have HND:=aa hn;have H18:=aa mo;have HWT:=aa hwt;have qE:=aa hsz;obtain⟨nv,rfl,A,c,rfl,hc,hX⟩:=h;have Qq:t.loc<T.length:=(aL.1 (DG hn.J2).2.1).1;have hX2 :∃bk o,A=some ⟨bk,o,none⟩∧bk<w.heap.size∧tl w bk o T:=by
  rcases hX with hX | ⟨bk,o,e,hb,hX⟩
  ·rw[hX] at Qq;cases Qq
  ·exact⟨bk,o,e,hb,hX⟩
 obtain⟨bk,o,rfl,eG,hX3⟩:=hX2;have HX:=aa hX3;subst hr;clear hX hX3 hs hR hn mo hwt hsz;go_enter Tryz.func11,Tryz.ntmps11
 go_wp2_with fail
 obtain⟨W1,hW1⟩ :∃W1,W1=(w.alloc (.cells #[.slice (some ⟨bk,o,none⟩) T.length c,.int .i64 (t.loc:Int)] 25)).alloc (.cells #[.slice none 0 0,.slice none 0 0,.slice none 0 0] 35):=⟨_,rfl⟩;have hb1:Below w.heap.size w W1:=by rw[hW1];exact Below.two _ _
 have hs1:W1.heap.size=w.heap.size+1+1:=by rw[hW1,ao,ao]
 have htr:W1.heap[w.heap.size]? = some (.cells #[.slice (some ⟨bk,o,none⟩) T.length c,.int .i64 (t.loc:Int)] 25 (0,0)):=by
  rw[hW1];exact(Below.heap_alloc _ _ _ (by rw[ao];omega)).trans (heap_alloc_new w _)
 have hsc:W1.heap[w.heap.size+1]? = some (.cells #[.slice none 0 0,.slice none 0 0,.slice none 0 0] 35 (0,0)):=by
  rw[hW1];have:=heap_alloc_new (w.alloc (.cells #[.slice (some ⟨bk,o,none⟩) T.length c,.int .i64 (t.loc:Int)] 25)) (.cells #[.slice none 0 0,.slice none 0 0,.slice none 0 0] 35);rwa[ao] at this
 rw[←hW1];have dM:=aa hb1;have HTR:=aa htr;have HSC:=aa hsc;have eF:=aa hs1;clear hW1 hb1 hsc hs1 htr;refine(JB _ T _ W1 (HT.out.below dM.out) HS.out.szd).mono ?_;rintro e w2 ⟨rfl,b2⟩;rw[HR.out];have DZ:=(b2.block (w.heap.size+1) (by rw[eF.out];omega)).trans HSC.out
 have D0:=(b2.block w.heap.size (by rw[eF.out];omega)).trans HTR.out
 have hb2:Below w.heap.size w w2:=dM.out.trans (b2.mono dM.out.size);have B2:=aa hb2;have vx:=aa DZ;have zf:=aa D0;have hl2:w.heap.size+1<w2.heap.size:=(aI.1 DZ).1;have t0:w2.cell? ⟨w.heap.size,0,none⟩=some (.slice (some ⟨bk,o,none⟩) T.length c):=ab D0 0;have t1:w2.cell? ⟨w.heap.size,1,none⟩=some (.int .i64 (t.loc:Int)):=ab D0 1;clear b2 DZ D0 hb2 dM HTR HSC eF;obtain⟨MU,hMU⟩:=JE T.length (by omega)
 obtain⟨MO,hMO⟩:=PF T.length (by omega)
 have mU:=fun W=>(hMU W).1
 have mO:=fun W=>(hMO W).1
 have HMU:=aa fun W=>(hMU W).2
 have HMO:=aa fun W=>(hMO W).2
 clear hMU hMO;go_wp2_with fail
 have hK :∀W,Below w2.heap.size w2 W→W.cell? ⟨w.heap.size,0,none⟩=some (.slice (some ⟨bk,o,none⟩) T.length c):=fun W hW=>(hW.cell (p:=⟨w.heap.size,0,none⟩) (by show w.heap.size<_;omega)).trans t0
 have HK:=aa hK;clear hK;refine JF (F:=fun ub ob b=>⟨#[.agg #[.slice (some ⟨bk,o,none⟩) T.length c,.int .i64 (t.loc:Int)],.pointer (some ⟨w.heap.size,0,none⟩),.pointer (some ⟨w.heap.size+1,0,none⟩),.nilIface,.int .i64 (T.length:Int),
  .pointer (some ⟨b,0,none⟩),undef,undef,.agg #[.slice (some ⟨bk,o,none⟩) T.length c,.int .i64 (t.loc:Int)],.bool true,.bool false,undef,undef,undef,undef,undef,.pointer (some ⟨w.heap.size,0,none⟩),.slice (some ⟨bk,o,none⟩) T.length c,.int .i64 (T.length:Int),
  .pointer (some ⟨w.heap.size,0,none⟩),.slice (some ⟨bk,o,none⟩) T.length c,.int .i64 (T.length:Int),.slice (some ⟨ub,0,none⟩) T.length T.length,.int .i64 (T.length:Int),.slice (some ⟨ob,0,none⟩) T.length T.length,
  .agg #[.slice none 0 0,.slice (some ⟨ub,0,none⟩) T.length T.length,.slice (some ⟨ob,0,none⟩) T.length T.length],.agg #[.slice (some ⟨bk,o,none⟩) T.length c,.slice none 0 0,.slice (some ⟨ub,0,none⟩) T.length T.length,.slice (some ⟨ob,0,none⟩) T.length T.length],
  undef,undef,undef,undef,undef,undef,undef,undef,undef,undef,undef,undef,undef,undef],[]⟩) (H:=fun ub ob b W=>MkZ w2 W w2.heap.size (.slice (some ⟨bk,o,none⟩) T.length c) T.length ub ob b) (fun HQ=>?_) (fun ub ob b W hM=>?_)
 ·have HQ:=aa HQ
  go_region_held3 (fun W=>W.cell? ⟨w.heap.size,0,none⟩=some (.slice (some ⟨bk,o,none⟩) T.length c)) ((apply HK.out;(repeat (first|exact Below.refl _ _|refine Below.drew ?_|refine Below.alloc ?_ (by simp;try omega) _|refine Below.setCell ?_ (by simp;try omega) _)))) (fail)
  all_goals
   refine HQ.out _ _ _ _ ⟨Ca _ _ _ _,by omega,?_,?_,?_⟩
   ·first
     | exact Ul _ _ _ _
     | exact Um _ _ _ _
     | exact Un _ _ _ _
   ·first
     | exact VQ _ _ _ _ (HMU.out _ _ (ah _))
     | exact VR _ _ _ _ (HMU.out _ _ (by rw[ao];omega))
     | exact VS _ _ _ _ (HMU.out _ _ (by rw[ao,ao];omega))
   ·first
     | exact VQ _ _ _ _ (HMO.out _ _ (ah _))
     | exact VR _ _ _ _ (HMO.out _ _ (by rw[ao];omega))
     | exact VS _ _ _ _ (HMO.out _ _ (by rw[ao,ao];omega))
 ·dsimp only
  have HM:=aa hM;have hblk:=hM.blk;have adz:=hM.below;have Uo:=(hM.below.block w.heap.size (by omega)).trans zf.out
  have abC:=(hM.below.block (w.heap.size+1) (by omega)).trans vx.out
  have t0:W.cell? ⟨w.heap.size,0,none⟩=some (.slice (some ⟨bk,o,none⟩) T.length c):=ab Uo 0;have t1:W.cell? ⟨w.heap.size,1,none⟩=some (.int .i64 (t.loc:Int)):=ab Uo 1;have hlW:w2.heap.size≤W.heap.size:=hM.below.size;have HTRW:=aa Uo;have HSCW:=aa abC;clear hM hblk adz Uo abC mU mO HMU HMO;go_wp2_with fail
  obtain⟨WF,hWF⟩ :∃WF,WF=W.alloc (.cells #[.int .i64 (t.loc:Int),.int .i64 (-1),.int .i64 0,.bool true,.slice none 0 0,.slice none 0 0] 52):=⟨_,rfl⟩;rw[←hWF];have hbF:Below W.heap.size W WF:=by rw[hWF];exact(Below.refl _ _).alloc (ah _) _
  have VU:WF.heap[W.heap.size]? = some (.cells #[.int .i64 (t.loc:Int),.int .i64 (-1),.int .i64 0,.bool true,.slice none 0 0,.slice none 0 0] 52 (0,0)):=by rw[hWF];exact heap_alloc_new _ _
  have f0:WF.cell? ⟨W.heap.size,0,none⟩=some (.int .i64 (t.loc:Int)):=ab VU 0;have f1:WF.cell? ⟨W.heap.size,1,none⟩=some (.int .i64 (-1)):=ab VU 1;have f2:WF.cell? ⟨W.heap.size,2,none⟩=some (.int .i64 0):=ab VU 2;have f3:WF.cell? ⟨W.heap.size,3,none⟩=some (.bool true):=ab VU 3;have f4:WF.cell? ⟨W.heap.size,4,none⟩=some (.slice none 0 0):=ab VU 4;have f5:WF.cell? ⟨W.heap.size,5,none⟩=some (.slice none 0 0):=ab VU 5;have Zl:Below w2.heap.size w2 WF:=HM.out.below.trans (hbF.mono hlW);have hRX:eQ WF w2.heap.size b (.slice (some ⟨bk,o,none⟩) T.length c) T.length ⟨[],fun _=>(0,0),fun _=>0,[],[]⟩ (.slice none 0 0) ub ob []:=by
   refine⟨(hbF.block b (aI.1 HM.out.blk).1).trans HM.out.blk,⟨World.ownsRow_nil _ _ _ _,(fun _ h=>by cases h),(fun _ h=>by cases h),(fun _ _ _ _ _ h=>by cases h),(fun _ _ _ _ _ h=>by cases h)⟩,rfl,HM.out.uses.later hbF,HM.out.vZ.later hbF,HM.out.le⟩
  have HRX:=aa hRX;have adA:=aa Zl;have abD:tl w2 bk o T:=fun j x hj=>by
   obtain⟨nv,kv,h1,h2,h3⟩:=HX.out j x hj;exact⟨nv,kv,h1.below B2.out eG,h2.below B2.out,h3.below B2.out⟩
  have HTI:=aa abD;have hK2 :∀W',Below w2.heap.size WF W'→W'.cell? ⟨w.heap.size,1,none⟩=some (.int .i64 (t.loc:Int)):=fun W' VV=>(VV.cell (p:=⟨w.heap.size,1,none⟩) (by show w.heap.size<_;omega)).trans (ab ((Zl.block w.heap.size (by omega)).trans zf.out) 1)
  have HK2:=aa hK2;have t1F:=hK2 WF (Below.refl _ _);have HEN:=aa (fun W' (VV:Below w2.heap.size WF W') (hr:eQ W' w2.heap.size b (.slice (some ⟨bk,o,none⟩) T.length c) T.length ⟨[],fun _=>(0,0),fun _=>0,[],[]⟩ (.slice none 0 0) ub ob [])=>xJ b ⟨t.loc,-1,0,true,[],[]⟩ none 0 0 ⟨[],fun _=>(0,0),fun _=>0,[],[]⟩ W' ⟨_,_,hr⟩ rfl rfl (by show 0≤100000;omega))
  have hlF:W.heap.size<WF.heap.size:=(aI.1 VU).1;clear hWF hbF VU hRX Zl abD hK2;refine bS.PE (n:=4) (S:=fun W'=>W'.cell? ⟨w.heap.size,1,none⟩=some (.int .i64 (t.loc:Int))) (by kernel_rfl) ?_
  have Gc:(fun W':World=>W'.cell? ⟨w.heap.size,1,none⟩=some (.int .i64 (t.loc:Int))) WF.drew:=t1F
  refine bS.e9 0 (.pointer (some ⟨w.heap.size,1,none⟩)) (by kernel_rfl) (by decide) (by kernel_rfl) (by kernel_rfl) (by kernel_rfl) (fun _ _ _ _ h=>h) Gc ?_
  simp only[eo,dZ,dP,dY];refine⟨by rfl,by rfl,?_,?_⟩
  ·intro w hSw
   go_simp
  (try simp only[Act.put,dO,dB,dC])
  refine bS.e9 1 (.int .i64 (t.loc:Int)) (by kernel_rfl) (by decide) (by kernel_rfl) (by kernel_rfl) (by kernel_rfl) (fun _ _ _ _ h=>h) Gc ?_
  simp only[eo,dZ,dP,dY];refine⟨by rfl,by rfl,?_,?_⟩
  ·intro w hSw
   go_simp
  (try simp only[Act.put,dO,dB,dC])
  refine bS.jQ 2 (by kernel_rfl) fun K hK=>?_
  simp only[eo,dZ,dP,dY];go_simp
  refine hK.out _ _ (fun _=>t1F) ?_
  clear hK K
  (try simp only[Act.put,dO,dB,dC])
  refine bS.jQ 3 (by kernel_rfl) fun K hK=>?_
  simp only[eo,dZ,dP,dY];go_simp
  go_at_call 27
  refine(HEN.out _ ((Below.refl _ _).drew) HRX.out.drew).mono ?_;rintro e w5 ⟨rfl,h1,h2,h3⟩;have hS5:=HK2.out w5 (((Below.refl _ _).drew).trans h2);have H1:=aa h1;have H2:=aa h2;clear h1 h2 h3;go_wp2_with fail
  refine hK.out _ _ (fun _=>hS5) ?_
  clear hK K
  (try simp only[Act.put,dO,dB,dC])
  have uJ:Below w2.heap.size w2 w5:=adA.out.trans ((Below.refl _ _).drew.trans H2.out);have abE:eS T w2.heap.size b (.slice (some ⟨bk,o,none⟩) T.length c) ub ob 0 none (.slice none 0 0) [] [] (iZ t.loc) w5 t.wt t.size:=by
   refine⟨⟨⟨w2,bk,o,c,rfl,by have:=B2.out.size;omega,rfl,HTI.out,uJ⟩,by omega,HS.out.kids⟩,H1.out,⟨⟨World.ownsRow_nil _ _ _ _,(fun _ h=>by cases h),(fun _ h=>by cases h),Eh⟩,⟨rfl,rfl⟩,rfl,(fun _ h=>by cases h)⟩,(fun _ _ h=>by cases h),Pb _,?_,(fun _ h=>by cases h),?_,?_,?_⟩
   ·intro g x hx
    match g,hx with
    | 0,hx=>injection hx with hx;rw[←hx];exact⟨aR _,aR _⟩
    | g+1,hx=>cases hx
   ·have:=HWT.out
    show 0+t.wt≤100000
    omega
   ·have:=qE.out
    show 1+t.size≤100000
    omega
   ·have:=qE.out
    show 0+t.size≤100000
    omega
  have HV:=aa (JG HS.out.size t HND.out 0 (-1) none none 0 [] [] (iZ t.loc) w5 abE (fun _=>rfl) (.inr H18.out))
  have H5:=aa uJ;clear abE uJ;refine bS.jQ 4 (by kernel_rfl) fun K hK=>?_
  simp only[eo,dZ,dP,dY];go_simp
  go_at_call 26
  refine HV.out.mono ?_;intro e w6 hp;have hE:kX t=bg t 0 (iZ t.loc):=rfl;rw[←hE] at hp;obtain⟨lF,sA⟩:=hp;have hB6:=H5.out.trans lF;have Cd:=(hB6.block (w.heap.size+1) (by omega)).trans vx.out
  have s0:w6.cell? ⟨w.heap.size+1,0,none⟩=some (.slice none 0 0):=ab Cd 0;have s1:w6.cell? ⟨w.heap.size+1,1,none⟩=some (.slice none 0 0):=ab Cd 1;have s2:w6.cell? ⟨w.heap.size+1,2,none⟩=some (.slice none 0 0):=ab Cd 2;have u0:=aw Cd 0;have u1:=aw Cd 1;have u2:=aw Cd 2;have H6:=aa hB6;have Ce:=aa Cd;clear lF hB6 Cd;obtain⟨R,hR⟩ :∃R,R=kX t:=⟨_,rfl⟩;rw[←hR] at sA;have Sw:=aa hR;clear hR;cases R with
  | error x =>
   obtain⟨v,rfl,abF⟩:=sA;have HFL:=aa abF;obtain⟨g6,rfl,_⟩:=abF;go_wp2_with fail
   refine hK.out _ _ (fun h=>absurd h (by decide)) ?_
   clear hK K
   (try simp only[Act.put,dO,dB,dC])
   refine bS.jQ 5 (by kernel_rfl) fun K hK=>?_
   simp only[eo,dZ,dP,dY];go_simp
   refine hK.out _ _ (fun h=>absurd h (by decide)) ?_
   clear hK K
   (try simp only[Act.put,dO,dB,dC])
   refine bS.done (by kernel_rfl) ?_ _
   go_wp2_with fail
   have h7:=bt (bt (bt Ce.out 0 (.slice none 0 0)) 1 (.slice none 0 0)) 2 (.slice none 0 0);have FV:Below w.heap.size w6 (((w6.setCell ⟨w.heap.size+1,0,none⟩ (.slice none 0 0)).setCell ⟨w.heap.size+1,1,none⟩ (.slice none 0 0)).setCell ⟨w.heap.size+1,2,none⟩ (.slice none 0 0)):=(((Below.refl _ _).setCell (p:=⟨w.heap.size+1,0,none⟩) (by show _≤w.heap.size+1;omega) _).setCell (p:=⟨w.heap.size+1,1,none⟩) (by show _≤w.heap.size+1;omega) _).setCell (p:=⟨w.heap.size+1,2,none⟩) (by show _≤w.heap.size+1;omega) _
   have Up:Fr [35] w6 (((w6.setCell ⟨w.heap.size+1,0,none⟩ (.slice none 0 0)).setCell ⟨w.heap.size+1,1,none⟩ (.slice none 0 0)).setCell ⟨w.heap.size+1,2,none⟩ (.slice none 0 0)):=((Fr.set Ce.out (by decide) _ _).trans (Fr.set (bt Ce.out 0 _) (by decide) _ _)).trans (Fr.set (bt (bt Ce.out 0 _) 1 _) (by decide) _ _)
   generalize ((w6.setCell ⟨w.heap.size+1,0,none⟩ (.slice none 0 0)).setCell ⟨w.heap.size+1,1,none⟩ (.slice none 0 0)).setCell ⟨w.heap.size+1,2,none⟩ (.slice none 0 0)=W7 at h7 FV Up ⊢;have c0:W7.cell? ⟨w.heap.size+1,0,none⟩=some (.slice none 0 0):=ab h7 0;have c1:W7.cell? ⟨w.heap.size+1,1,none⟩=some (.slice none 0 0):=ab h7 1;have c2:W7.cell? ⟨w.heap.size+1,2,none⟩=some (.slice none 0 0):=ab h7 2;refine bodyPost_ret (v:=.tuple #[kl,.iface 83 (.pointer (some ⟨g6,0,none⟩))]) (by simp[results,Tryz.results11,go_sem,kl,c0,c1,c2]) rfl ⟨(B2.out.trans (H6.out.mono B2.out.size)).trans FV,?_⟩
   rw[←Sw.out];refine⟨_,rfl,?_⟩;obtain⟨g,e1,e2⟩:=HFL.out;exact⟨g,e1,Up.cells g _ _ _ e2 (by decide)⟩
  | ok st =>
   obtain⟨rfl,QA,adB,_⟩:=sA;obtain⟨fv,FL,hrx⟩:=QA;obtain⟨FA,fc,hfv,_,_⟩:=dE hrx.fns.row;subst hfv;have r1:w6.cell? ⟨b,1,none⟩=some (.slice FA FL.length fc):=ab hrx.blk 1;have r2:w6.cell? ⟨b,2,none⟩=some (.slice (some ⟨ub,0,none⟩) T.length T.length):=ab hrx.blk 2;have r3:w6.cell? ⟨b,3,none⟩=some (.slice (some ⟨ob,0,none⟩) T.length T.length):=ab hrx.blk 3;have adC:=aa hrx;clear hrx adB;go_wp2_with fail
   refine hK.out _ _ (fun h=>absurd h (by decide)) ?_
   clear hK K
   (try simp only[Act.put,dO,dB,dC])
   refine bS.jQ 5 (by kernel_rfl) fun K hK=>?_
   simp only[eo,dZ,dP,dY];go_simp
   refine hK.out _ _ (fun h=>absurd h (by decide)) ?_
   clear hK K
   (try simp only[Act.put,dO,dB,dC])
   refine bS.done (by kernel_rfl) ?_ _
   go_wp2_with fail
   have h7:=bt (bt (bt Ce.out 0 (.slice FA FL.length fc)) 1 (.slice (some ⟨ub,0,none⟩) T.length T.length)) 2 (.slice (some ⟨ob,0,none⟩) T.length T.length);have FV:Below w.heap.size w6 (((w6.setCell ⟨w.heap.size+1,0,none⟩ (.slice FA FL.length fc)).setCell ⟨w.heap.size+1,1,none⟩ (.slice (some ⟨ub,0,none⟩) T.length T.length)).setCell ⟨w.heap.size+1,2,none⟩ (.slice (some ⟨ob,0,none⟩) T.length T.length)):=(((Below.refl _ _).setCell (p:=⟨w.heap.size+1,0,none⟩) (by show _≤w.heap.size+1;omega) _).setCell (p:=⟨w.heap.size+1,1,none⟩) (by show _≤w.heap.size+1;omega) _).setCell (p:=⟨w.heap.size+1,2,none⟩) (by show _≤w.heap.size+1;omega) _
   have Up:Fr [35] w6 (((w6.setCell ⟨w.heap.size+1,0,none⟩ (.slice FA FL.length fc)).setCell ⟨w.heap.size+1,1,none⟩ (.slice (some ⟨ub,0,none⟩) T.length T.length)).setCell ⟨w.heap.size+1,2,none⟩ (.slice (some ⟨ob,0,none⟩) T.length T.length)):=((Fr.set Ce.out (by decide) _ _).trans (Fr.set (bt Ce.out 0 _) (by decide) _ _)).trans (Fr.set (bt (bt Ce.out 0 _) 1 _) (by decide) _ _)
   generalize ((w6.setCell ⟨w.heap.size+1,0,none⟩ (.slice FA FL.length fc)).setCell ⟨w.heap.size+1,1,none⟩ (.slice (some ⟨ub,0,none⟩) T.length T.length)).setCell ⟨w.heap.size+1,2,none⟩ (.slice (some ⟨ob,0,none⟩) T.length T.length)=W7 at h7 FV Up ⊢;have c0:W7.cell? ⟨w.heap.size+1,0,none⟩=some (.slice FA FL.length fc):=ab h7 0;have c1:W7.cell? ⟨w.heap.size+1,1,none⟩=some (.slice (some ⟨ub,0,none⟩) T.length T.length):=ab h7 1;have c2:W7.cell? ⟨w.heap.size+1,2,none⟩=some (.slice (some ⟨ob,0,none⟩) T.length T.length):=ab h7 2;refine bodyPost_ret (v:=.tuple #[.agg #[.slice FA FL.length fc,.slice (some ⟨ub,0,none⟩) T.length T.length,.slice (some ⟨ob,0,none⟩) T.length T.length],.nilIface]) (by simp[results,Tryz.results11,go_sem,c0,c1,c2]) rfl ⟨(B2.out.trans (H6.out.mono B2.out.size)).trans FV,?_⟩
   rw[←Sw.out];exact⟨_,_,B2.out.size,rfl,(adC.out.fr Up (by decide)).scope⟩
mutual
def Every (Q:Nd→Prop):Ast→Prop
 | .mk h ks=>Q h∧pK Q ks
def pK (Q:Nd→Prop):List Ast→Prop
 | []=>True
 | a::xs=>Every Q a∧pK Q xs
end
mutual
theorem vy :∀a:Ast,Hq a→Every Qh a
 | .mk h ks,hs=>by
  unfold Hq at hs;unfold Every;exact⟨hs.1,xR ks hs.2⟩
theorem xR :∀l:List Ast,Hr l→pK Qh l
 | [],_=>by unfold pK;trivial
 | a::l,hs=>by
  unfold Hr at hs;unfold pK;exact⟨vy a hs.1,xR l hs.2⟩
end
mutual
theorem gO.every {T:List Nd} {Q:Nd→Prop} (hQ :∀h ks,Q h→Q { h with kids:=ks}) :∀(a:Ast) (i:Nat) (js:List Nat),gO T a i js→Every Q a→∀j∈js,∀x,T[j]? = some x→Q x
 | .mk h xs,i,js,hr,hs=>by
  unfold gO at hr;unfold Every at hs;obtain⟨x,sd,hx,he,hr2,rfl⟩:=hr;intro j hj y hy;rcases bn.1 hj with rfl|hj
  ·rw[hx] at hy
   injection hy with hy;rw[←hy,he];exact hQ h _ hs.1
  ·exact bj.every hQ xs x.kids sd hr2 hs.2 j hj y hy
theorem bj.every {T:List Nd} {Q:Nd→Prop} (hQ :∀h ks,Q h→Q { h with kids:=ks}) :∀(l:List Ast) (ks:List Int) (js:List Nat),bj T l ks js→pK Q l→∀j∈js,∀x,T[j]? = some x→Q x
 | [],ks,js,hr,_=>by
  unfold bj at hr;obtain⟨_,rfl⟩:=hr;intro j hj;simp at hj
 | a::l,ks,js,hr,hs=>by
  unfold bj at hr;unfold pK at hs;obtain⟨k,ir,j1,j2,rfl,h1,h2,rfl⟩:=hr;intro j hj y hy;rcases dd.1 hj with hj|hj
  ·exact gO.every hQ a k j1 h1 hs.1 j hj y hy
  ·exact bj.every hQ l ir j2 h2 hs.2 j hj y hy
end
theorem dR.alone {T:List Nd} {a:Ast} {p:Nat} (h:dR [] T [a] [(p:Int)]) :∃js,gO T a p js∧js.Nodup∧js.length=T.length∧∀j,j<T.length→j∈js:=by
 obtain⟨_,js,hr,xp⟩:=h;unfold bj at hr;obtain⟨k,ir,j1,j2,ek,hr1,hr2,ej⟩:=hr;unfold bj at hr2;obtain⟨_,rfl⟩:=hr2;have ek2:k=p:=by injection ek with ek _;omega
 subst ek2;rw[jW] at ej;subst ej;exact⟨_,hr1,xp.nodup_iff.2 (List.nodup_range' ..),by rw[xp.length_eq,Kj];simp,fun j hj=>xp.mem_iff.2 (by rw[List.mem_range'_1];simp;exact hj)⟩
theorem dR.every {T:List Nd} {a:Ast} {p:Nat} {Q:Nd→Prop} (h:dR [] T [a] [(p:Int)]) (hQ :∀h ks,Q h→Q { h with kids:=ks}) (hs:Every Q a) :∀x∈T,Q x:=fun x hx=>by
 obtain⟨js,h1,h2,h3,h4⟩:=h.alone;obtain⟨j,hj⟩:=kG.1 hx;exact gO.every hQ a p js h1 hs j (h4 j (aL.1 hj).1) x hj
theorem qQ (x:Nd) (ks:List Int):aM { x with kids:=ks}=aM x:=rfl
theorem D1 {s:ByteArray} (h:fG s=true):s.size≤65536:=by
 unfold fG at h;simp only[cX] at h;exact iG h.1.1.1.2
mutual
theorem PH :∀(a:Ast) (t:Lt),mD id a.lt t→t.wt=a.wt
 | .mk h as',.mk i x ks,hs=>by
  rw[Ast.lt] at hs;unfold mD at hs;obtain⟨_,_,_,h4,h5⟩:=hs;have h4:x.names=h.names.map id:=h4;have h5:cW id (Ast.Tq as') ks:=h5;rw[Lt.wt,Ast.wt,Gd as' ks h5,h4,List.map_id]
theorem Gd :∀(l:List Ast) (ks:List Lt),cW id (Ast.Tq l) ks→Lt.eY ks=Ast.eY l
 | [],ks,hs=>by
  rw[Ast.Tq] at hs;unfold cW at hs;rw[hs,Lt.eY,Ast.eY]
 | a::l,ks,hs=>by
  rw[Ast.Tq] at hs;unfold cW at hs;obtain⟨t,ts,rfl,h1,h2⟩:=hs;rw[Lt.eY,Ast.eY,PH a t h1,Gd l ts h2]
end
theorem Cf {T:List Nd} {r:Int} (h:ja T r=true) :∀x∈T,∀s∈x.names,s.size≤65536:=fun x hx s hs=>by
 obtain⟨h1,h2,h3,h4⟩:=(gd aM iP dN).1 h;obtain⟨i,hi⟩:=kG.1 hx;exact D1 ((Pf ((tR aM iP dN).1 (h4 i x hi)).2.1).all s hs)
structure wi (a:Ast):Prop where
 ok:Ast.ok aM iP dN a=true
 kind:a.hd.kind=18
 sm:Hq a
 size:a.size≤16384
 wt:a.wt≤50000
structure PI (a:Ast):Prop where
 kind:a.hd.kind=18
 sm:Hq a
 size:a.size≤16384
 wt:a.wt≤50000
theorem wi.b {a:Ast} (h:wi a):PI a:=⟨h.kind,h.sm,h.size,h.wt⟩
theorem PI.a {a:Ast} (h:PI a) (k:Ast.ok aM iP dN a=true):wi a:=⟨k,h.kind,h.sm,h.size,h.wt⟩
def abG (s:ByteArray):Prop:=∀(ts ay:List aj) (a:Ast),kt (cY s) s.data.toList (.ok ts)→ts.length≤s.size+1→PL pT ts (.ok (a,ay))→PI a
theorem Uq {s:ByteArray} {ts ay:List aj} {a:Ast} (hl:kt (cY s) s.data.toList (.ok ts)) (hp:PL pT ts (.ok (a,ay))) (ha:wi a):abG s:=fun iy adD a2 h1 _ h2=>by
 have e1:=hl.sU h1;injection e1 with e1;subst e1;have e2:=hp.one h2;injection e2 with e2;injection e2 with e2 _;subst e2;exact ha.b
structure abH (T:List Nd) (p:Nat) (a:Ast) (t:Lt):Prop where
 right:ja T (p:Int)=true
 sml:Sml T
 few:T.length≤16384
 J2:Lt.In T t
 loc:t.loc=p
 nodup:t.gR.Nodup
 all :∀j,j<T.length↔j∈t.gR
 nod:kj T t
 kind:t.hd.kind=18
 wt:t.wt≤50000
 size:t.size=T.length
 sim:mD id a.lt t
theorem Ge {a:Ast} {T:List Nd} {p:Nat} (hL:dR [] T [a] [(p:Int)]):T.length=a.size:=by
 have h1:=hL.len;rw[tp] at h1;simpa using h1
theorem Zm {a:Ast} {T:List Nd} {p:Nat} (hA:PI a) (ho:Ast.ok aM iP dN a=false) (hL:dR [] T [a] [(p:Int)]):ja T p=false∧Szd T∧0<T.length:=by
 have hl:=Ge hL;obtain⟨js,r1,r2,r3,r4⟩:=hL.alone;have h1:=hL.every (Q:=Qh) (fun x ks hx=>hx) (vy a hA.sm)
 refine⟨?_,fun x hx=>by have:=(h1 x hx).2.2.2.1;omega,by rw[hl];cases a;rw[Ast.size];omega⟩
 unfold ja;rw[wD qQ r1 r2 r3 (by have:=hA.size;omega),ho,Bool.and_false]
theorem PJ {a:Ast} {T:List Nd} {p:Nat} (hA:wi a) (hd:a.depth≤100) (hL:dR [] T [a] [(p:Int)]) :∃t,abH T p a t:=by
 have hm:=hA.sm;have hN:T.length≤16384:=by
  have h1:=hL.len;have h2:=hA.size;rw[tp] at h1;simp at h1;omega
 obtain⟨js,r1,r2,r3,r4⟩:=hL.alone;have hrt:ja T (p:Int)=true:=by
  unfold ja;rw[wD qQ r1 r2 r3 hN,hA.ok,bM hd,bM hA.kind];rfl
 have h1:=hL.every (Q:=Qh) (fun x ks hx=>hx) (vy a hm)
 obtain⟨t,e1,e2,e3,e4⟩:=NX a p js r1;have hlt:=gO.lt a p js r1;have gN :∀x∈T,x.kids.length≤20000:=fun x hx=>by
  obtain⟨_,_,_,h4⟩:=(gd aM iP dN).1 hrt;obtain⟨d,m,hs,_,_⟩:=Gq aM iP dN hrt;obtain⟨i,hi⟩:=kG.1 hx;have:=(B9 hs hi).2;omega
 have hk:t.hd.kind=18:=by
  obtain⟨_,_,h3,_⟩:=(gd aM iP dN).1 hrt;have:=(DG e1).2.1;rw[e2] at this;rw[←h3,iF,nU this]
 have hT :∀x∈T,iP x.kind x.num (x.kids.map fun k=>dN (dz T k.toNat))=true:=fun x hx=>by
  obtain⟨_,_,_,h4⟩:=(gd aM iP dN).1 hrt;obtain⟨i,hi⟩:=kG.1 hx;exact((tR aM iP dN).1 (h4 i x hi)).2.2
 refine⟨t,hrt,⟨fun x hx=>⟨gN x hx,by have:=(h1 x hx).2.2.2.1;omega⟩,fun x hx=>⟨by have:=(h1 x hx).2.2.1;omega,Cf hrt x hx⟩⟩,hN,e1,e2,by rw[e3];exact r2,fun j=>by rw[e3];exact⟨r4 j,hlt j⟩,YZ hT e1 (by rw[e3];exact r2) (by rw[hk];decide),hk,?_,?_,e4⟩
 ·rw[PH a t e4]
  exact hA.wt
 ·rw[←Lt.xu,e3,r3]
def abI (T:List Nd) (p:Nat) (a:Ast) (r:Rs aG):Prop:=(∃t,Ast.ok aM iP dN a=true∧abH T p a t∧r=kX t)∨(Ast.ok aM iP dN a=false∧r=.error (4,0))
theorem JH:(Tryz.prog.info? 79).map (·.comparable)=some true:=by kernel_rfl
theorem xS (m k:Int) (w:World):(binOp .eql 27 (.iface 79 (.int .i64 m)) (.iface 79 (.int .i64 k))).run Tryz.prog w=.ok (.bool (m == k)) w:=Lib.run_eql_iface_int w m k Tryz.underlying27 JH Tryz.underlying79
theorem Zn (v:Value) (n:Int) (k:Nat) (w:World) (h:nJ w) (hf:Nx w v n (k:Int)) (hk:1≤k∧k≤19):Calls Tryz.prog 13 #[v] w fun e w'=>e=.returned (.tuple #[.int .i64 (k:Int),.int .i64 n])∧Below w.heap.size w w':=by
 obtain⟨g,rfl,hg⟩:=hf;have ri:g<w.heap.size:=(aI.1 hg).1;have A1:=aa (Td g w h);have HG:=aa hg;clear h hg;go_enter Tryz.func13,Tryz.ntmps13
 go_wp2_with fail
 refine A1.out.mono ?_;rintro e w1 ⟨rfl,hc,hb⟩;have hg1:w1.heap[g]? = _:=(hb.block g ri).trans HG.out;have HB:=aa hb;have HI:=aa (Tg g n (k:Int) w1 (fun w=>by rw[xS];simp) hg1)
 have HN:=aa (fun(j:Nat) (hj:j<k)=>Th g n (k:Int) (j:Int) w1 (fun w=>by rw[xS];congr 2;exact aE.2 (by omega)) hg1)
 have hc0:w1.cell? ⟨g,0,none⟩=some (.int .i64 n):=by simp[World.cell?,hg1]
 clear hg1 hb;go_wp2_with fail
 go_loop [5] (fun i=>∃j:Nat,1≤j∧j≤k∧i=.int .i64 j) (fun i=>k-(intOf i).toNat)
 case atStart=>exact⟨1,by omega,by omega,rfl⟩
 case round =>
  obtain⟨j,hj1,hj5,rfl⟩:=hrel;have hle:decide ((j:Int)≤19)=true:=bM (by omega)
  by_cases hjk:j<k
  ·have N1:=aa (HN.out j hjk)
   go_wp2_with (go_at_call 30;refine N1.out.mono ?_;rintro e w' ⟨rfl,rfl⟩)
   go_round
   case rel=>exact⟨j+1,by omega,by omega,by go_num⟩
   case measure=>simp[intOf];omega
  ·obtain rfl:j=k:=by omega
   go_wp2_with (go_at_call 30;refine HI.out.mono ?_;rintro e w' ⟨rfl,rfl⟩)
   go_quiet (fail)
   go_wp2_with fail
   go_ret2
   exact⟨rfl,HB.out.trans ⟨rfl,rfl,rfl,ah _,fun _ _=>rfl⟩⟩
def abJ (B N:Nat) (v:Value) (r:Rs aG) (e:Ending) (w':World):Prop :=
 match r with
 | .ok st=>∃sv B',B≤B'∧e=.returned (.tuple #[v,sv,.int .i64 0])∧kE w' B' N sv st
 | .error x=>e=.returned (.tuple #[v,kl,.int .i64 x.1])
def Gf (s:ByteArray):Prop:=∃o,kt (cY s) s.data.toList o∧match o with
 | .error _=>True
 | .ok ts=>∃q,PL pT ts q∧match q with
  | .error _=>True
  | .ok (a,_)=>100<a.depth
def Ur (s:ByteArray) (w:World) (e:Ending) (w':World):Prop :=
 Below w.heap.size w w'∧((Gf s∧e=.returned (.tuple #[gC,kl,.int .i64 (-1)])) ∨
  ∃(ts ay:List aj) (a:Ast) (v:Value) (T:List Nd) (p:Nat) (r:Rs aG),(∃A n c q,v=.agg #[.slice A n c,.int .i64 q])∧kt (cY s) s.data.toList (.ok ts)∧ts.length≤s.size+1∧PL pT ts (.ok (a,ay))∧a.depth≤100∧abI T p a r∧abJ w.heap.size T.length v r e w')
theorem kE.fr {E:List Nat} {W W':World} {B N:Nat} {v:Value} {st:aG} (h:kE W B N v st) (k:Fr E W W') (he:(52:Nat)∉E∧(61:Nat)∉E∧(59:Nat)∉E∧(57:Nat)∉E∧(3:Nat)∉E):kE W' B N v st:=by
 obtain⟨fv,ub,ob,L,e,h1,h2,h3,h4⟩:=h;exact⟨fv,ub,ob,L,e,⟨k.row h1.row he.1,fun t ht=>k.row (h1.vars t ht) he.2.1,fun t ht=>k.row (h1.bz t ht) he.2.2.1,h1.pG,h1.qA⟩,h2,k.row h3 he.2.2.2.1,k.row h4 he.2.2.2.2⟩
theorem kE.form {W:World} {B N:Nat} {v:Value} {st:aG} (h:kE W B N v st) :∃A n c ub ob,v=.agg #[.slice A n c,.slice (some ⟨ub,0,none⟩) N N,.slice (some ⟨ob,0,none⟩) N N]:=by
 obtain⟨fv,ub,ob,L,e,h1,_⟩:=h;obtain⟨A,c,rfl,_,_⟩:=dE h1.row;exact⟨A,_,c,ub,ob,e⟩
theorem rW {w w2:World} (hl:w.heap.size+1<w2.heap.size) {x0 x1 y0 y1 y2:Value} (h1:w2.heap[w.heap.size]? = some (.cells #[x0,x1] 25 (0,0))) (h2:w2.heap[w.heap.size+1]? = some (.cells #[y0,y1,y2] 35 (0,0))) (a b c d e:Value) :
  ∃W,W=((((w2.setCell ⟨w.heap.size,0,none⟩ a).setCell ⟨w.heap.size,1,none⟩ b).setCell ⟨w.heap.size+1,0,none⟩ c).setCell ⟨w.heap.size+1,1,none⟩ d).setCell ⟨w.heap.size+1,2,none⟩ e∧W.heap.size=w2.heap.size∧Below w.heap.size w2 W∧Fr [25,35] w2 W ∧
   (∀W',Below w2.heap.size W W'→W'.cell? ⟨w.heap.size,0,none⟩=some a∧W'.cell? ⟨w.heap.size,1,none⟩=some b∧W'.cell? ⟨w.heap.size+1,0,none⟩=some c∧W'.cell? ⟨w.heap.size+1,1,none⟩=some d∧W'.cell? ⟨w.heap.size+1,2,none⟩=some e):=by
 have t1:=bt h1 0 a;have t2:=bt t1 1 b;have far :∀(W:World) (j:Nat) (v:Value) (o:Obj),W.heap[w.heap.size+1]? = some o→(W.setCell ⟨w.heap.size,j,none⟩ v).heap[w.heap.size+1]? = some o:=fun W j v o h=>(Below.heap_setCell W ⟨w.heap.size,j,none⟩ v _ (by show w.heap.size+1≠w.heap.size;omega)).trans h
 have qD :∀(W:World) (j:Nat) (v:Value) (o:Obj),W.heap[w.heap.size]? = some o→(W.setCell ⟨w.heap.size+1,j,none⟩ v).heap[w.heap.size]? = some o:=fun W j v o h=>(Below.heap_setCell W ⟨w.heap.size+1,j,none⟩ v _ (by show w.heap.size≠w.heap.size+1;omega)).trans h
 have s0:=far _ 1 b _ (far _ 0 a _ h2);have s1:=bt s0 0 c;have s2:=bt s1 1 d;have s3:=bt s2 2 e;have u3:=qD _ 2 e _ (qD _ 1 d _ (qD _ 0 c _ t2));refine⟨_,rfl,by simp[World.setCell],?_,?_,fun W' hW=>?_⟩
 ·exact((((((Below.refl _ _).setCell (p:=⟨w.heap.size,0,none⟩) (ah _) _).setCell (p:=⟨w.heap.size,1,none⟩) (ah _) _).setCell (p:=⟨w.heap.size+1,0,none⟩) (fY _) _).setCell (p:=⟨w.heap.size+1,1,none⟩) (fY _) _).setCell (p:=⟨w.heap.size+1,2,none⟩) (fY _) _)
 ·exact((((Fr.set h1 (by decide) _ _).trans (Fr.set t1 (by decide) _ _)).trans (Fr.set s0 (by decide) _ _)).trans (Fr.set s1 (by decide) _ _)).trans (Fr.set s2 (by decide) _ _)
 ·have k1:=(hW.block w.heap.size (by omega)).trans u3
  have k2:=(hW.block (w.heap.size+1) (by omega)).trans s3
  exact⟨ab k1 0,ab k1 1,ab k2 0,ab k2 1,ab k2 2⟩
theorem adE (s:ByteArray) (w:World) (hs:s.size≤4000) (hE:nJ w) (hK:abG s):Calls Tryz.prog 16 #[.string s] w (Ur s w):=by
 have HE:=aa hE;have HS:=aa hs;have HK:=aa hK;clear hE hs hK;go_enter Tryz.func16,Tryz.ntmps16
 go_wp2_with fail
 obtain⟨W1,hW1⟩ :∃W1,W1=(w.alloc (.cells #[.slice none 0 0,.int .i64 0] 25)).alloc (.cells #[.slice none 0 0,.slice none 0 0,.slice none 0 0] 35):=⟨_,rfl⟩;have hb1:Below w.heap.size w W1:=by rw[hW1];exact Below.two _ _
 have hs1:W1.heap.size=w.heap.size+1+1:=by rw[hW1,ao,ao]
 have htr:W1.heap[w.heap.size]? = some (.cells #[.slice none 0 0,.int .i64 0] 25 (0,0)):=by
  rw[hW1];exact(Below.heap_alloc _ _ _ (by rw[ao];omega)).trans (heap_alloc_new w _)
 have hsc:W1.heap[w.heap.size+1]? = some (.cells #[.slice none 0 0,.slice none 0 0,.slice none 0 0] 35 (0,0)):=by
  rw[hW1];have:=heap_alloc_new (w.alloc (.cells #[.slice none 0 0,.int .i64 0] 25)) (.cells #[.slice none 0 0,.slice none 0 0,.slice none 0 0] 35);rwa[ao] at this
 rw[←hW1];have dM:=aa hb1;have HTR:=aa htr;have HSC:=aa hsc;have eF:=aa hs1;clear hW1 hb1 hsc hs1 htr;refine(Te s W1 (by have:=HS.out;omega) (HE.out.below dM.out) fun ts ay a h1 h2 h3=>(HK.out ts ay a h1 h2 h3).size).mono ?_
 rintro e w2 ⟨b2,o,ho,hm⟩;have B2:=aa (dM.out.trans (b2.mono dM.out.size));have D0:=(b2.block w.heap.size (by rw[eF.out];omega)).trans HTR.out
 have DZ:=(b2.block (w.heap.size+1) (by rw[eF.out];omega)).trans HSC.out
 have hl2:w.heap.size+1<w2.heap.size:=(aI.1 DZ).1;have hl0:w.heap.size<w2.heap.size:=by omega
 have key:(∃l m g,e=.returned (.tuple #[gC,.iface 83 (.pointer (some ⟨g,0,none⟩))])∧Nx w2 (.iface 83 (.pointer (some ⟨g,0,none⟩))) l m∧Gf s)∨∃ts ay a v T p,e=.returned (.tuple #[v,.nilIface])∧kt (cY s) s.data.toList (.ok ts)∧ts.length≤s.size+1∧PL pT ts (.ok (a,ay))∧a.depth≤100∧np w2 v T ((p:Nat):Int)∧dR [] T [a] [((p:Nat):Int)]:=by
  cases o with
  | error n =>
   obtain⟨v,h1,h2⟩:=hm;obtain⟨g,rfl,h3⟩:=h2;exact .inl ⟨_,_,g,h1,⟨g,rfl,h3⟩,_,ho,trivial⟩
  | ok ts =>
   obtain⟨hlen,q,hq,hm⟩:=hm;cases q with
   | error l =>
    obtain⟨v,h1,h2⟩:=hm;obtain⟨g,rfl,h3⟩:=h2;exact .inl ⟨_,_,g,h1,⟨g,rfl,h3⟩,_,ho,_,hq,trivial⟩
   | ok z =>
    obtain⟨a,ay⟩:=z;rcases hm with ⟨hd,v,h1,h2⟩ | ⟨hd,v,T,p,h1,h2,h3⟩
    ·obtain⟨g,rfl,h3⟩:=h2
     exact .inl ⟨_,_,g,h1,⟨g,rfl,h3⟩,_,ho,_,hq,hd⟩
    ·exact .inr ⟨ts,ay,a,v,T,p,h1,ho,hlen,hq,hd,h2,h3⟩
 have zf:=aa D0;have vx:=aa DZ;clear hm ho D0 DZ b2 HTR HSC eF dM;rcases key with ⟨l,m,g,rfl,_,hnr⟩ | ⟨ts,ay,a,v,T,p,rfl,hlx,hlen,hP,hd,hv,hL⟩
 ·have HNR:=aa hnr
  clear hnr;have x0:w2.cell? ⟨w.heap.size,0,none⟩=some (.slice none 0 0):=ab zf.out 0;have x1:w2.cell? ⟨w.heap.size,1,none⟩=some (.int .i64 0):=ab zf.out 1;have y0:w2.cell? ⟨w.heap.size+1,0,none⟩=some (.slice none 0 0):=ab vx.out 0;have y1:w2.cell? ⟨w.heap.size+1,1,none⟩=some (.slice none 0 0):=ab vx.out 1;have y2:w2.cell? ⟨w.heap.size+1,2,none⟩=some (.slice none 0 0):=ab vx.out 2;have f0:=aw zf.out 0;have f1:=aw zf.out 1;have g0:=aw vx.out 0;have g1:=aw vx.out 1;have g2:=aw vx.out 2;unfold gC;go_wp2_with fail
  obtain⟨W7,we,hs7,FV,Up,hc7⟩:=rW hl2 zf.out vx.out (.slice none 0 0) (.int .i64 0) (.slice none 0 0) (.slice none 0 0) (.slice none 0 0);rw[←we];obtain⟨c0,c1,d0,d1,d2⟩:=hc7 (W7.alloc (.cells #[.slice none 0 0,.int .i64 0] 25)) ((Below.refl _ _).alloc (by rw[hs7];exact ah _) _)
  refine bodyPost_ret (v:=.tuple #[gC,kl,.int .i64 (-1)]) (by simp[results,Tryz.results16,go_sem,kl,gC,c0,c1,d0,d1,d2]) rfl ⟨(B2.out.trans FV).trans ((Below.refl _ _).alloc (by rw[hs7];omega) _),.inl ⟨HNR.out,rfl⟩⟩
 ·have hB:=HK.out _ _ _ hlx hlen hP
  obtain⟨r,hsr,mz,hres,her⟩ :∃r,abI T p a r∧0<T.length∧(∀v W,np W v T (p:Int)→Calls Tryz.prog 11 #[v] W fun e w'=>Below W.heap.size W w'∧Ga W.heap.size T.length r e w')∧∀x,r=.error x→∃k:Nat,x.1=(k:Int)∧1≤k∧k≤14:=by
   cases ho:Ast.ok aM iP dN a with
   | true =>
    obtain⟨t,hst⟩:=PJ (hB.a ho) hd hL;refine⟨kX t,.inl ⟨t,ho,hst,rfl⟩,by rw[Ge hL];cases a;rw[Ast.size];omega,fun v W h=>Cc v T (p:Int) W h hst.sml hst.right t (by rw[hst.loc]) hst.nod hst.kind hst.few hst.wt hst.size,fun x hx=>?_⟩
    obtain⟨k,h1,h2⟩:=tz t x hx;exact⟨k,h1,by omega⟩
   | false =>
    obtain⟨h1,h2,h3⟩:=Zm hB ho hL;exact⟨.error (4,0),.inr ⟨ho,rfl⟩,h3,fun v W h=>Zo v T (p:Int) W h h2 h1,fun x hx=>⟨4,by injection hx with hx;rw[←hx];rfl,by omega⟩⟩
  obtain⟨nv,rfl,A,c,rfl,hc,hX⟩:=hv;have hA :∃bk o,A=some ⟨bk,o,none⟩:=by
   rcases hX with h0 | ⟨bk,o,e,_⟩
   ·rw[h0] at mz
    simp at mz
   ·exact⟨bk,o,e⟩
  obtain⟨bk,o,rfl⟩:=hA;have hv:np w2 (.agg #[.slice (some ⟨bk,o,none⟩) T.length c,.int .i64 ((p:Nat):Int)]) T ((p:Nat):Int):=⟨_,rfl,_,c,rfl,hc,hX⟩;have HV:=aa hv;have HST:=aa hsr;have Cg:=aa (And.intro hlx (And.intro hlen (And.intro hP hd)));have Uc:=aa (fun W (hW:Below w2.heap.size w2 W)=>hres _ W (hv.below hW))
  have adF:=aa her;clear hv hsr hX hlx hlen hP hd hL hres her hB mz;go_wp2_with fail
  refine(Uc.out _ ((Below.refl _ _).alloc (ah _) _)).mono ?_;rintro e w4 ⟨b4,h4⟩;have b4':=b4;rw[ao] at b4';have Cv:Below w2.heap.size w2 w4:=((Below.refl _ _).alloc (ah _) _).trans (b4.mono (by rw[ao];omega))
  have abK:=(Cv.block w.heap.size (by omega)).trans zf.out
  have abL:=(Cv.block (w.heap.size+1) (by omega)).trans vx.out
  have Zq:=(b4'.block w2.heap.size (by omega)).trans (heap_alloc_new w2 (.cells #[.slice (some ⟨bk,o,none⟩) T.length c,.int .i64 ((p:Nat):Int)] 25))
  have hl4:w2.heap.size<w4.heap.size:=(aI.1 Zq).1;have YH:=aa Cv;have abM:=aa abK;have abN:=aa abL;have abO:=aa Zq;obtain⟨R,hR⟩ :∃R,R=r:=⟨_,rfl⟩;rw[←hR] at h4;have Sw:=aa hR;have J3:=adF;rw[←hR] at J3;clear b4 b4' Cv abK abL Zq hR;cases R with
  | error x =>
   obtain⟨v,rfl,hf⟩:=h4;obtain⟨k,hk,hk8⟩:=J3.out x rfl;have HF:=aa hf;obtain⟨g4,rfl,_⟩:=hf;unfold kl;go_wp2_with fail
   have hEn:nJ (w4.alloc (.cells #[.slice none 0 0,.slice none 0 0,.slice none 0 0] 35)):=(HE.out.below ((B2.out.trans (YH.out.mono B2.out.size)).trans ((Below.refl _ _).alloc (by omega) _)))
   refine(Zn _ x.2 k _ hEn ?_ (by omega)).mono ?_
   ·obtain⟨g,e1,e2⟩:=HF.out
    exact⟨g,e1,(Below.heap_alloc w4 _ g (aI.1 e2).1).trans (by rw[e2,hk])⟩
   rintro e w5 ⟨rfl,b5⟩;have uJ:Below w4.heap.size w4 w5:=((Below.refl _ _).alloc (ah _) _).trans (b5.mono (by rw[ao];omega))
   have vz:=(b5.block w4.heap.size (by rw[ao];omega)).trans (heap_alloc_new w4 (.cells #[.slice none 0 0,.slice none 0 0,.slice none 0 0] 35))
   have vA:=(uJ.block w.heap.size (by omega)).trans abM.out
   have pL:=(uJ.block (w.heap.size+1) (by omega)).trans abN.out
   have D3:=(uJ.block w2.heap.size (by omega)).trans abO.out
   have hl5:w4.heap.size<w5.heap.size:=(aI.1 vz).1;have q0:=ab vA 0;have q1:=ab vA 1;have q2:=aw vA 0;have q3:=aw vA 1;have r0:=ab pL 0;have r1:=ab pL 1;have r2:=ab pL 2;have r3:=aw pL 0;have r4:=aw pL 1;have r5:=aw pL 2;have p0:w5.cell? ⟨w2.heap.size,0,none⟩=some (.slice (some ⟨bk,o,none⟩) T.length c):=ab D3 0;have p1:w5.cell? ⟨w2.heap.size,1,none⟩=some (.int .i64 (p:Int)):=ab D3 1;have s0:w5.cell? ⟨w4.heap.size,0,none⟩=some (.slice none 0 0):=ab vz 0;have s1:w5.cell? ⟨w4.heap.size,1,none⟩=some (.slice none 0 0):=ab vz 1;have s2:w5.cell? ⟨w4.heap.size,2,none⟩=some (.slice none 0 0):=ab vz 2;replace q0:w5.cell? ⟨w.heap.size,0,none⟩=some (.slice none 0 0):=q0;replace q1:w5.cell? ⟨w.heap.size,1,none⟩=some (.int .i64 0):=q1;replace r0:w5.cell? ⟨w.heap.size+1,0,none⟩=some (.slice none 0 0):=r0;replace r1:w5.cell? ⟨w.heap.size+1,1,none⟩=some (.slice none 0 0):=r1;replace r2:w5.cell? ⟨w.heap.size+1,2,none⟩=some (.slice none 0 0):=r2;have VC:=aa uJ;clear b5 uJ D3 vz;go_wp2_with fail
   go_region
   go_wp2_with fail
   obtain⟨W7,we,hs7,FV,Up,hc7⟩:=rW (w:=w) (w2:=w5) (by omega) vA pL (.slice (some ⟨bk,o,none⟩) T.length c) (.int .i64 (p:Int)) (.slice none 0 0) (.slice none 0 0) (.slice none 0 0)
   rw[←we];obtain⟨c0,c1,d0,d1,d2⟩:=hc7 W7.drew (Below.refl _ _).drew;refine bodyPost_ret (v:=.tuple #[.agg #[.slice (some ⟨bk,o,none⟩) T.length c,.int .i64 (p:Int)],kl,.int .i64 (k:Int)]) (by simp[results,Tryz.results16,go_sem,kl,c0,c1,d0,d1,d2]) rfl ⟨(((B2.out.trans (YH.out.mono B2.out.size)).trans (VC.out.mono (by omega))).trans FV).drew,.inr ⟨ts,ay,a,.agg #[.slice (some ⟨bk,o,none⟩) T.length c,.int .i64 (p:Int)],T,p,r,⟨_,_,_,_,rfl⟩,Cg.out.1,Cg.out.2.1,Cg.out.2.2.1,Cg.out.2.2.2,HST.out,?_⟩⟩
   rw[←Sw.out];show _=_
   rw[hk]
  | ok st =>
   obtain⟨v,B',hB',rfl,hsz⟩:=h4;have qE:=aa hsz;rw[ao] at hB';obtain⟨FA,fn,fc,ub,ob,rfl⟩:=hsz.form;clear hsz;go_wp2_with fail
   refine(ND _).mono ?_;rintro e w5 ⟨rfl,rfl⟩;obtain⟨w5,ix⟩ :∃w5,w5=w4.alloc (.cells #[.slice FA fn fc,.slice (some ⟨ub,0,none⟩) T.length T.length,.slice (some ⟨ob,0,none⟩) T.length T.length] 35):=⟨_,rfl⟩;have uJ:Below w4.heap.size w4 w5:=by rw[ix];exact(Below.refl _ _).alloc (ah _) _
   have vz:w5.heap[w4.heap.size]? = some (.cells #[.slice FA fn fc,.slice (some ⟨ub,0,none⟩) T.length T.length,.slice (some ⟨ob,0,none⟩) T.length T.length] 35 (0,0)):=by rw[ix];exact heap_alloc_new _ _
   rw[←ix];clear ix;have vA:=(uJ.block w.heap.size (by omega)).trans abM.out
   have pL:=(uJ.block (w.heap.size+1) (by omega)).trans abN.out
   have D3:=(uJ.block w2.heap.size (by omega)).trans abO.out
   have hl5:w4.heap.size<w5.heap.size:=(aI.1 vz).1;have q0:=ab vA 0;have q1:=ab vA 1;have q2:=aw vA 0;have q3:=aw vA 1;have r0:=ab pL 0;have r1:=ab pL 1;have r2:=ab pL 2;have r3:=aw pL 0;have r4:=aw pL 1;have r5:=aw pL 2;have p0:w5.cell? ⟨w2.heap.size,0,none⟩=some (.slice (some ⟨bk,o,none⟩) T.length c):=ab D3 0;have p1:w5.cell? ⟨w2.heap.size,1,none⟩=some (.int .i64 (p:Int)):=ab D3 1;have s0:w5.cell? ⟨w4.heap.size,0,none⟩=some (.slice FA fn fc):=ab vz 0;have s1:w5.cell? ⟨w4.heap.size,1,none⟩=some (.slice (some ⟨ub,0,none⟩) T.length T.length):=ab vz 1;have s2:w5.cell? ⟨w4.heap.size,2,none⟩=some (.slice (some ⟨ob,0,none⟩) T.length T.length):=ab vz 2;replace q0:w5.cell? ⟨w.heap.size,0,none⟩=some (.slice none 0 0):=q0;replace q1:w5.cell? ⟨w.heap.size,1,none⟩=some (.int .i64 0):=q1;replace r0:w5.cell? ⟨w.heap.size+1,0,none⟩=some (.slice none 0 0):=r0;replace r1:w5.cell? ⟨w.heap.size+1,1,none⟩=some (.slice none 0 0):=r1;replace r2:w5.cell? ⟨w.heap.size+1,2,none⟩=some (.slice none 0 0):=r2;have VC:=aa uJ;clear uJ D3 vz;go_wp2_with fail
   go_region
   go_wp2_with fail
   obtain⟨W7,we,hs7,FV,Up,hc7⟩:=rW (w:=w) (w2:=w5) (by omega) vA pL (.slice (some ⟨bk,o,none⟩) T.length c) (.int .i64 (p:Int)) (.slice FA fn fc) (.slice (some ⟨ub,0,none⟩) T.length T.length) (.slice (some ⟨ob,0,none⟩) T.length T.length)
   rw[←we];obtain⟨c0,c1,d0,d1,d2⟩:=hc7 W7.drew (Below.refl _ _).drew;refine bodyPost_ret (v:=.tuple #[.agg #[.slice (some ⟨bk,o,none⟩) T.length c,.int .i64 (p:Int)],.agg #[.slice FA fn fc,.slice (some ⟨ub,0,none⟩) T.length T.length,.slice (some ⟨ob,0,none⟩) T.length T.length],.int .i64 0]) (by simp[results,Tryz.results16,go_sem,c0,c1,d0,d1,d2]) rfl ⟨(((B2.out.trans (YH.out.mono B2.out.size)).trans (VC.out.mono (by omega))).trans FV).drew,.inr ⟨ts,ay,a,.agg #[.slice (some ⟨bk,o,none⟩) T.length c,.int .i64 (p:Int)],T,p,r,⟨_,_,_,_,rfl⟩,Cg.out.1,Cg.out.2.1,Cg.out.2.2.1,Cg.out.2.2.2,HST.out,?_⟩⟩
   rw[←Sw.out];exact⟨_,B',by have:=B2.out.size;omega,rfl,(qE.out.fr (E:=[25,35]) ((Fr.ae VC.out).trans Up.drew) (by decide))⟩
def Zr (q:UInt8):List UInt8→Option (List UInt8×List UInt8)
 | []=>none
 | c::r=>if c=q then some ([],r) else if c=10∨c=92 then none else (Zr q r).map fun x=>(c::x.1,x.2)
theorem xU {q:UInt8} :∀{l:List UInt8} {z:List UInt8×List UInt8},Zr q l=some z→yi q l (some z)
 | [],z,h=>by cases h
 | c::r,z,h=>by
  unfold Zr at h;by_cases h1:c=q
  ·rw[ak h1] at h
   injection h with h;rw[←h,h1];exact .shut
  ·rw[af h1] at h
   by_cases h2:c=10∨c=92
   ·rw[ak h2] at h;cases h
   ·rw[af h2] at h
    cases hq:Zr q r with
    | none=>rw[hq] at h;cases h
    | some x =>
     rw[hq] at h;injection h with h;rw[←h];exact .byte (o:=some x) h1 (fun e=>h2 (.inl e)) (fun e=>h2 (.inr e)) (xU hq)
def VW:List UInt8→Option (Int×Int×List UInt8×List UInt8)
 | []=>none
 | c::r=>if si c then some (if gA ((c::r).takeWhile jZ) then 2 else 1,0,(c::r).takeWhile jZ,(c::r).dropWhile jZ)
  else if fQ c then (if oB 9223372036854775807 ((c::r).takeWhile mJ) then some (3,wG (qY 9223372036854775807 ((c::r).takeWhile mJ):Int),[],(c::r).dropWhile mJ) else none)
  else if Ew c then (Zr c r).map fun x=>(4,0,x.1,x.2)
  else if 0<opn (c::r) then none
  else (sign (c::r)).map fun x=>(5,0,x.1,x.2)
theorem JI {l:List UInt8} {z:Int×Int×List UInt8×List UInt8} (h:VW l=some z):Tok l (some z):=by
 cases l with
 | nil=>cases h
 | cons c r =>
  change(if si c=true then some (if gA ((c::r).takeWhile jZ) then 2 else 1,0,(c::r).takeWhile jZ,(c::r).dropWhile jZ)
   else if fQ c=true then (if oB 9223372036854775807 ((c::r).takeWhile mJ)=true then some (3,wG (qY 9223372036854775807 ((c::r).takeWhile mJ):Int),[],(c::r).dropWhile mJ) else none)
   else if Ew c=true then (Zr c r).map fun x=>(4,0,x.1,x.2)
   else if 0<opn (c::r) then none
   else (sign (c::r)).map fun x=>(5,0,x.1,x.2))=some z at h
  by_cases h1:si c=true
  ·rw[ak h1] at h
   rw[←h];exact .name h1
  ·rw[af h1] at h
   have h1:si c=false:=by simpa using h1
   by_cases h2:fQ c=true
   ·rw[ak h2] at h
    by_cases h3:oB 9223372036854775807 ((c::r).takeWhile mJ)=true
    ·rw[ak h3] at h
     rw[←h];exact .num h1 h2 h3
    ·rw[af h3] at h;cases h
   ·rw[af h2] at h
    have h2:fQ c=false:=by simpa using h2
    by_cases h3:Ew c=true
    ·rw[ak h3] at h
     cases hq:Zr c r with
     | none=>rw[hq] at h;cases h
     | some x =>
      rw[hq] at h;rw[←h];exact .text (o:=some x) h1 h2 h3 (xU hq)
    ·rw[af h3] at h
     have h3:Ew c=false:=by simpa using h3
     by_cases h4:0<opn (c::r)
     ·rw[ak h4] at h;cases h
     ·rw[af h4] at h
      rw[←h];exact .sign h1 h2 h3 h4
def Gg (L:Int):Nat→List UInt8→Option (List Tk)
 | 0,_=>none
 | n+1,l=>if Lib.hasPrefix (l.dropWhile oR) [45,45] then none else
  match l.dropWhile oR with
  | []=>some [(0,L,0,[])]
  | c::t=>match VW (c::t) with
   | none=>none
   | some (k,m,s,r)=>(Gg L n r).map ((k,L-nl (c::t),m,s) :: ·)
theorem lB {L:Int} :∀(n:Nat) (l:List UInt8) (ts:List Tk),Gg L n l=some ts→kt L l (.ok ts)
 | 0,l,ts,h=>by cases h
 | n+1,l,ts,h=>by
  unfold Gg at h;by_cases hp:Lib.hasPrefix (l.dropWhile oR) [45,45]=true
  ·rw[ak hp] at h;cases h
  ·rw[af hp] at h
   have hp:Lib.hasPrefix (l.dropWhile oR) [45,45]=false:=by simpa using hp
   cases hd:l.dropWhile oR with
   | nil =>
    rw[hd] at h hp;injection h with h;rw[←h];exact .eof (.done hd hp)
   | cons c t =>
    rw[hd] at h hp;dsimp only at h
    cases ht:VW (c::t) with
    | none=>rw[ht] at h;cases h
    | some z =>
     obtain⟨k,m,s,r⟩:=z;rw[ht] at h;dsimp only at h
     cases hr:Gg L n r with
     | none=>rw[hr] at h;cases h
     | some ay =>
      rw[hr] at h;injection h with h;rw[←h];exact .step (o:=.ok ay) (.done hd hp) (by simp) (JI ht) (lB n r ay hr)
end Go.Proofs.YteflkdlaoiijbaaGreatDoor
namespace Go.Proofs.YteflkdlaoiijbaaGreatDoor
section
variable {N:Type} {V:N→Type} (body :∀n,G N V (V n))
def run:Nat→{α:Type}→G N V α→List aj→Option (Except Int (α×List aj))
 | 0,_,_,_=>none
 | _+1,_,.ret a,ts=>some (.ok (a,ts))
 | _+1,_,.bad,[]=>none
 | _+1,_,.bad,t::_=>some (.error t.2.1)
 | _+1,_,.tok _,[]=>none
 | n+1,_,.tok f,t::ts=>run n (f t) ts
 | _+1,_,.look _,[]=>none
 | n+1,_,.look f,t::ts=>run n (f t) (t::ts)
 | n+1,_,.call m k,ts=>match run n (body m) ts with
  | none=>none
  | some (.error e)=>some (.error e)
  | some (.ok p)=>run n (k p.1) p.2
variable {body}
theorem dV :∀(n:Nat) {α:Type} (g:G N V α) (ts:List aj) (r:Except Int (α×List aj)),run body n g ts=some r→P body g ts r:=by
 intro n;induction n with
 | zero=>intro α g ts r h;cases h
 | succ n ih =>
  intro α g ts r h;cases g with
  | ret a =>
   rw[run] at h;rw[←gz h];exact .ret
  | bad =>
   cases ts with
   | nil=>rw[run] at h;cases h
   | cons t ts =>
    rw[run] at h;rw[←gz h];exact .bad
  | tok f =>
   cases ts with
   | nil=>rw[run] at h;cases h
   | cons t ts=>rw[run] at h;exact .tok (ih _ _ _ h)
  | look f =>
   cases ts with
   | nil=>rw[run] at h;cases h
   | cons t ts=>rw[run] at h;exact .look (ih _ _ _ h)
  | call m k =>
   rw[run] at h;cases e:run body n (body m) ts with
   | none=>rw[e] at h;cases h
   | some q =>
    rw[e] at h;cases q with
    | error x =>
     rw[←gz h];exact .iu (ih _ _ _ e)
    | ok p=>exact .call (ih _ _ (.ok (p.1,p.2)) e) (ih _ _ _ h)
end
def dL (s:List UInt8):aj:=(1,1,0,s)
def dF (s:List UInt8):aj:=(5,1,0,s)
def zg (s:List UInt8):Ast:=jh 7 1 (bb s) []
end Go.Proofs.YteflkdlaoiijbaaGreatDoor
namespace Go.Proofs.YteflkdlaoiijbaaGreatDoor
def wd (s:List UInt8):aj:=(2,1,0,s)
def nuT (n:Int):aj:=(3,1,n,[])
def PK:ByteArray:=⟨#[108,111,99,97,108,32,97,59,32,114,101,116,117,114,110,32,102,117,110,99,116,105,111,110,40,41,32,114,101,116,117,114,110,32,97,44,32,98,32,101,110,100]⟩
def PM:ByteArray:=⟨#[103,111,116,111,32,108,59,32,108,111,99,97,108,32,120,59,32,58,58,108,58,58,32,120,32,61,32,49]⟩
def PN:ByteArray:=⟨#[103,111,116,111,32,108,59,32,108,111,99,97,108,32,120,59,32,58,58,108,58,58]⟩
def VX:List aj:=[wd fP,dL [97],dF [59],wd iv,wd aZ,dF [40],dF [41],wd iv,dL [97],dF [44],dL [98],wd gP,yw]
def PO (r:List aj):List aj:=[wd sg,dL [108],dF [59],wd fP,dL [120],dF [59],dF [58,58],dL [108],dF [58,58]]++r
def VY:List aj:=PO [dL [120],dF [61],nuT 1,yw]
def Gh:Ast:=nd 18 1 [oA 19 1 0 [bb [97]] [],nd 29 1 [oA 11 1 0 [] [nd 18 1 [nd 29 1 [jh 7 1 (bb [97]) [],jh 7 1 (bb [98]) []]]]]]
def xV (r:List Ast):Ast:=nd 18 1 ([jh 31 1 (bb [108]) [],oA 19 1 0 [bb [120]] [],jh 32 1 (bb [108]) []]++r)
def Gi:Ast:=xV [qS 20 1 1 [jh 7 1 (bb [120]) [],qS 4 1 1 []]]
theorem abP:PL pT VX (.ok (Gh,[yw])):=dV 100 _ _ _ rfl
theorem abQ:PL pT VY (.ok (Gi,[yw])):=dV 100 _ _ _ rfl
theorem abR:PL pT (PO [yw]) (.ok (xV [],[yw])):=dV 100 _ _ _ rfl
theorem adG:Gg (cY PK) (PK.data.toList.length+1) PK.data.toList=some VX:=by decide +kernel
theorem adH:Gg (cY PM) (PM.data.toList.length+1) PM.data.toList=some VY:=by decide +kernel
theorem adI:Gg (cY PN) (PN.data.toList.length+1) PN.data.toList=some (PO [yw]):=by decide +kernel
def zh (a:Ast):Int×List (List Bool×List (Bool×Nat)) :=
 match kX a.lt with
 | .ok st=>(0,st.fns.map fun x=>(x.vars.map jn.cap,x.bz.map fun u=>(u.loc,u.idx)))
 | .error x=>(x.1,[])
theorem adJ:zh Gh=(0,[([true],[]),([],[(true,0)])]):=by rfl
theorem adK:zh Gi=(10,[]):=by rfl
theorem adL:zh (xV [])=(0,[([false],[])]):=by rfl
open Go.RowKit
def adM (a:Ast) (w:World) (e:Ending) (w':World):Prop :=
 Below w.heap.size w w'∧∃(A:Option Addr) (n c:Nat) (q:Int) (r:Rs aG),RR (fun x y=>FR id x.fns y.fns) (kX a.lt) r∧match r with
  | .ok st=>∃sv B' N,w.heap.size≤B'∧e=.returned (.tuple #[.agg #[.slice A n c,.int .i64 q],sv,.int .i64 0])∧kE w' B' N sv st
  | .error x=>e=.returned (.tuple #[.agg #[.slice A n c,.int .i64 q],kl,.int .i64 x.1])
theorem Gj {s:ByteArray} {ts ay:List aj} {a:Ast} (hl:kt (cY s) s.data.toList (.ok ts)) (hp:PL pT ts (.ok (a,ay))) (hA:wi a) (hd:a.depth≤100) (w:World) (hs:s.size≤4000) (hE:nJ w):Calls Tryz.prog 16 #[.string s] w (adM a w):=by
 refine(adE s w hs hE (Uq hl hp hA)).mono ?_;rintro e w' ⟨hb,h⟩;refine⟨hb,?_⟩;rcases h with ⟨⟨o,ho,hn⟩,_⟩ | ⟨iy,adD,a2,v,T,p,r0,⟨A,n,c,q,rfl⟩,hlx,_,hP,_,hsr,hres⟩
 ·have e1:=hl.sU ho
  subst e1;obtain⟨q,hq,hn⟩:=hn;have e2:=hp.one hq;subst e2;exact absurd hd (by omega)
 ·have e1:=hl.sU hlx
  injection e1 with e1;subst e1;have e2:=hp.one hP;injection e2 with e2;injection e2 with e2 _;subst e2;rcases hsr with ⟨t,_,hst,rfl⟩ | ⟨ho,_⟩;case inr=>rw[hA.ok] at ho;cases ho
  have h1:=Fs (ρ:=id) (fun _ _ h=>h) hst.sim
  refine⟨A,n,c,q,kX t,h1,?_⟩;revert hres
  cases kX t with
  | ok st=>exact fun⟨sv,B',h2,h3,h4⟩=>⟨sv,B',T.length,h2,h3,h4⟩
  | error x=>exact id
def PQ (r:Rs aG):Int×List (List Bool×List (Bool×Nat)) :=
 match r with
 | .ok st=>(0,st.fns.map fun x=>(x.vars.map jn.cap,x.bz.map fun u=>(u.loc,u.idx)))
 | .error x=>(x.1,[])
theorem frA {a b:List cI} (h:FR id a b) (i:Nat) {y:cI} (hy:b[i]? = some y) :∃x,a[i]? = some x∧FS id x y:=by
 have hl:=(aL.1 hy).1;have h2:=h.2 i;have h1:i<a.length:=by have:=h.1;omega
 refine⟨a[i],bE h1,?_⟩;rw[jU,jU,hy,bE h1] at h2;exact h2
theorem zi {a b:Rs aG} (h:RR (fun x y=>FR id x.fns y.fns) a b):PQ b=PQ a:=by
 cases a with
 | error x =>
  cases b with
  | error y=>have h:x.1=y.1:=h;show(y.1,[])=(x.1,[]);rw[h]
  | ok s=>exact h.elim
 | ok s =>
  cases b with
  | error y=>exact h.elim
  | ok s' =>
   have h:FR id s.fns s'.fns:=h;show(0,_)=(0,_)
   congr 1
   refine Km fun i=>?_
   rw[gw,gw];cases e:s'.fns[i]? with
   | none =>
    have h1:=J5.1 e;rw[wo (by have:=h.1;omega)]
   | some y =>
    obtain⟨x,hx,hs⟩:=frA h i e;rw[hx];have h3:y.vars.map jn.cap=x.vars.map jn.cap:=by
     have h3:=ax (List.map Prod.snd) hs.vars;rw[tM,tM] at h3;exact h3
    show some (y.vars.map jn.cap,y.bz.map fun u=>(u.loc,u.idx))=some (x.vars.map jn.cap,x.bz.map fun u=>(u.loc,u.idx))
    rw[h3,hs.bz]
theorem D4 (a:Ast):zh a=PQ (kX a.lt):=rfl
structure vB (W:World) (g c gv cv gu cu:Nat):Prop where
 v0:W.cell? ⟨g,4,none⟩=some (.slice (some ⟨gv,0,none⟩) 1 cv)
 v1:W.cell? ⟨gv,2,none⟩=some (.bool true)
 u0:W.cell? ⟨g,11,none⟩=some (.slice (some ⟨gu,0,none⟩) 1 cu)
 u1:W.cell? ⟨gu,0,none⟩=some (.bool true)
 u2:W.cell? ⟨gu,1,none⟩=some (.int .i64 0)
theorem vB.later {W W':World} {g c gv cv gu cu:Nat} (h:vB W g c gv cv gu cu) (hb:Below W.heap.size W W'):vB W' g c gv cv gu cu :=
 ⟨(hb.cell (p:=⟨g,4,none⟩) (block_lt_of_cell h.v0)).trans h.v0,(hb.cell (p:=⟨gv,2,none⟩) (block_lt_of_cell h.v1)).trans h.v1,(hb.cell (p:=⟨g,11,none⟩) (block_lt_of_cell h.u0)).trans h.u0,(hb.cell (p:=⟨gu,0,none⟩) (block_lt_of_cell h.u1)).trans h.u1,(hb.cell (p:=⟨gu,1,none⟩) (block_lt_of_cell h.u2)).trans h.u2⟩
theorem Us {W:World} {B N:Nat} {sv:Value} {st:aG} (h:kE W B N sv st) (hf:PQ (.ok st)=(0,[([true],[]),([],[(true,0)])])) :∃g c gv cv gu cu U O,sv=.agg #[.slice (some ⟨g,0,none⟩) 2 c,.slice (some ⟨U,0,none⟩) N N,.slice (some ⟨O,0,none⟩) N N]∧vB W g c gv cv gu cu:=by
 obtain⟨fv,ub,ob,L,rfl,hF,ha,_,_⟩:=h;have hf:(0,st.fns.map fun x=>(x.vars.map jn.cap,x.bz.map fun u=>(u.loc,u.idx)))=((0:Int),[([true],[]),([],[(true,0)])]):=hf
 injection hf with _ hf;rw[←ha,tM] at hf;match L,hf with
 | [t0,t1],hf =>
  injection hf with h0 h1;injection h1 with h1 _;injection h0 with h0 _;injection h1 with _ h1;obtain⟨g,c,rfl,_,_,hc0⟩:=hF.form (f:=0) (t:=t0) rfl;obtain⟨g',c',e',_,_,hc1⟩:=hF.form (f:=1) (t:=t1) rfl;injection e' with e1 _ e2;injection e1 with e1;injection e1 with e1;subst e1 e2;have hv:=hF.vars t0 (bU ..);have hu:=hF.bz t1 (bY _ (bU ..));have hvl:t0.1.vars.length=1:=by have:=ax List.length h0;simpa using this
  have mH:t1.1.bz.length=1:=by have:=ax List.length h1;simpa using this
  match hvx:t0.1.vars,hvl with
  | [x],_ =>
   match hux:t1.1.bz,mH with
   | [y],_ =>
    rw[hvx] at hv h0;rw[hux] at hu h1;have hxc:x.cap=true:=by injection h0
    have hy:y.loc=true∧y.idx=0:=by injection h1 with h1 _;injection h1 with h2 h3;exact⟨h2,h3⟩
    obtain⟨A1,c1,e1,_,hA1⟩:=dE hv;obtain⟨A2,c2,e2,_,hA2⟩:=dE hu;rcases hA1 with hA1 | ⟨gv,rfl,_,_,hA1⟩
    ·exact absurd hA1 (by simp)
    rcases hA2 with hA2 | ⟨gu,rfl,_,_,hA2⟩
    ·exact absurd hA2 (by simp)
    refine⟨g,c,gv,c1,gu,c2,ub,ob,rfl,?_,?_,?_,?_,?_⟩
    ·have:=(hc0 4 (by omega)).1
     rw[show(NZ t0)[4]? = some t0.2.1 from rfl,e1] at this
     exact this
    ·have:=hA1 2 (by simp)
     rw[show(([x]:List jn).flatMap s6)[2]? = some (.bool x.cap) from rfl,hxc] at this
     exact this
    ·have:=(hc1 5 (by omega)).1
     rw[show(NZ t1)[5]? = some t1.2.2 from rfl,e2] at this
     exact this
    ·have:=hA2 0 (by simp)
     rw[show(([y]:List sG).flatMap Fw)[0]? = some (.bool y.loc) from rfl,hy.1] at this
     exact this
    ·have:=hA2 1 (by simp)
     rw[show(([y]:List sG).flatMap Fw)[1]? = some (.int .i64 (y.idx:Int)) from rfl,hy.2] at this
     exact this
 | [],hf=>exact absurd (ax List.length hf) (by simp)
 | [_],hf=>exact absurd (ax List.length hf) (by simp)
 | _::_::_::_,hf=>exact absurd (ax List.length hf) (by simp)
theorem xW {r:Rs aG} {l:List (List Bool×List (Bool×Nat))} (h:PQ r=(0,l)) (he:kC r) :∃st,r=.ok st:=by
 cases r with
 | ok st=>exact⟨st,rfl⟩
 | error x =>
  obtain⟨k,h1,h2⟩:=he x rfl;have h:(x.1,[])=((0:Int),l):=h;injection h with h _;omega
theorem PT {a b:Rs aG} (h:RR (fun x y=>FR id x.fns y.fns) a b) (ha:kC a):kC b:=fun y hy=>by
 subst hy;cases a with
 | ok s=>exact h.elim
 | error x =>
  have h:x.1=y.1:=h;rw[←h];exact ha x rfl
theorem ok1:wi Gh:=⟨by decide +kernel,rfl,by simp[Gh,Hq,Hr,Qh,nd,oA,jh,bb];decide +kernel,by decide +kernel,by decide +kernel⟩
theorem ok2:wi Gi:=⟨by decide +kernel,rfl,by simp[Gi,xV,Hq,Hr,Qh,nd,oA,jh,qS,bb];decide +kernel,by decide +kernel,by decide +kernel⟩
theorem ok3:wi (xV []):=⟨by decide +kernel,rfl,by simp[xV,Hq,Hr,Qh,nd,oA,jh,bb];decide +kernel,by decide +kernel,by decide +kernel⟩
theorem adN (w:World) (hE:nJ w):Calls Tryz.prog 16 #[.string PK] w fun e w'=>Below w.heap.size w w'∧∃A n c q g c1 gv cv gu cu U O N,e=.returned (.tuple #[.agg #[.slice A n c,.int .i64 q],.agg #[.slice (some ⟨g,0,none⟩) 2 c1,.slice (some ⟨U,0,none⟩) N N,.slice (some ⟨O,0,none⟩) N N],.int .i64 0])∧vB w' g c1 gv cv gu cu :=
 (Gj (lB _ _ _ adG) abP ok1 (by decide +kernel) w (by decide) hE).mono fun e w' ⟨hb,A,n,c,q,r,hr,h⟩=>by
  refine⟨hb,?_⟩;have hf:=zi hr;rw[←D4,adJ] at hf;obtain⟨st,rfl⟩:=xW hf (PT hr (tz _));obtain⟨sv,B',N,_,rfl,hz⟩:=h;obtain⟨g,c1,gv,cv,gu,cu,U,O,rfl,h1⟩:=Us hz hf;exact⟨A,n,c,q,g,c1,gv,cv,gu,cu,U,O,N,rfl,h1⟩
theorem adO (w:World) (hE:nJ w):Calls Tryz.prog 16 #[.string PM] w fun e w'=>Below w.heap.size w w'∧∃A n c q,e=.returned (.tuple #[.agg #[.slice A n c,.int .i64 q],kl,.int .i64 10]) :=
 (Gj (lB _ _ _ adH) abQ ok2 (by decide +kernel) w (by decide) hE).mono fun e w' ⟨hb,A,n,c,q,r,hr,h⟩=>by
  refine⟨hb,A,n,c,q,?_⟩;have hf:=zi hr;rw[←D4,adK] at hf;cases r with
  | ok st=>injection hf with hf _;exact absurd hf (by decide)
  | error x =>
   injection hf with hf _;have h:e=.returned (.tuple #[.agg #[.slice A n c,.int .i64 q],kl,.int .i64 x.1]):=h;rw[h,hf]
theorem adP (w:World) (hE:nJ w):Calls Tryz.prog 16 #[.string PN] w fun e w'=>Below w.heap.size w w'∧∃A n c q F1 F2 F3 U O N,e=.returned (.tuple #[.agg #[.slice A n c,.int .i64 q],.agg #[.slice F1 F2 F3,.slice (some ⟨U,0,none⟩) N N,.slice (some ⟨O,0,none⟩) N N],.int .i64 0]) :=
 (Gj (lB _ _ _ adI) abR ok3 (by decide +kernel) w (by decide) hE).mono fun e w' ⟨hb,A,n,c,q,r,hr,h⟩=>by
  refine⟨hb,A,n,c,q,?_⟩;have hf:=zi hr;rw[←D4,adL] at hf;obtain⟨st,rfl⟩:=xW hf (PT hr (tz _));obtain⟨sv,B',N,_,rfl,hz⟩:=h;obtain⟨F1,F2,F3,U,O,rfl⟩:=hz.form;exact⟨F1,F2,F3,U,O,N,rfl⟩
set_option maxRecDepth 100000 in
theorem Ut (w:World) (hE:nJ w):Calls Tryz.prog 8 #[] w fun e w'=>e=.returned (.bool true)∧Below w.heap.size w w':=by
 have L1:=aa (fun W (b:Below w.heap.size w W)=>adN W (hE.below b))
 have L2:=aa (fun W (b:Below w.heap.size w W)=>adO W (hE.below b))
 have L3:=aa (fun W (b:Below w.heap.size w W)=>adP W (hE.below b))
 unfold PK at L1;unfold PM kl at L2;unfold PN at L3;clear hE;go_enter Tryz.func8,Tryz.ntmps8
 go_wp2_with fail
 refine(L1.out _ (Below.refl ..)).mono ?_;rintro e w1 ⟨b1,A,n,c,q,g,c1,gv,cv,gu,cu,U,O,N,rfl,hS⟩;have B1:=aa b1;have eF:=aa hS;clear b1 hS;go_wp2_with fail
 obtain⟨w2,hw2⟩ :∃w2,w2=(w1.alloc (.cells #[.slice A n c,.int .i64 q] 25)).alloc (.cells #[.slice (some ⟨g,0,none⟩) 2 c1,.slice (some ⟨U,0,none⟩) N N,.slice (some ⟨O,0,none⟩) N N] 35):=⟨_,rfl⟩;have hb2:Below w1.heap.size w1 w2:=by rw[hw2];exact Below.two _ _
 have hs2:w2.heap[w1.heap.size+1]? = some (.cells #[.slice (some ⟨g,0,none⟩) 2 c1,.slice (some ⟨U,0,none⟩) N N,.slice (some ⟨O,0,none⟩) N N] 35 (0,0)):=by
  rw[hw2];have:=heap_alloc_new (w1.alloc (.cells #[.slice A n c,.int .i64 q] 25)) (.cells #[.slice (some ⟨g,0,none⟩) 2 c1,.slice (some ⟨U,0,none⟩) N N,.slice (some ⟨O,0,none⟩) N N] 35);rwa[ao] at this
 rw[←hw2];have B2:=aa (B1.out.trans (hb2.mono B1.out.size));have qd:=aa (eF.out.later hb2);have X2:=aa hs2;clear hw2 hb2 hs2;refine(L2.out _ B2.out).mono ?_;rintro e w3 ⟨b3,A',n',c',q',rfl⟩;have B3:=aa (B2.out.trans (b3.mono B2.out.size));have ou:=aa (qd.out.later b3);have X3:=aa ((b3.block _ (aI.1 X2.out).1).trans X2.out);clear b3;go_wp2_with fail
 obtain⟨w4,hw4⟩ :∃w4,w4=(w3.alloc (.cells #[.slice A' n' c',.int .i64 q'] 25)).alloc (.cells #[.slice none 0 0,.slice none 0 0,.slice none 0 0] 35):=⟨_,rfl⟩;have hb4:Below w3.heap.size w3 w4:=by rw[hw4];exact Below.two _ _
 rw[←hw4];have B4:=aa (B3.out.trans (hb4.mono B3.out.size));have HS4:=aa (ou.out.later hb4);have X4:=aa ((hb4.block _ (aI.1 X3.out).1).trans X3.out);clear hw4 hb4;refine(L3.out _ B4.out).mono ?_;rintro e w5 ⟨b5,A5,n5,c5,q5,F1,F2,F3,U5,O5,N5,rfl⟩;have B5:=aa (B4.out.trans (b5.mono B4.out.size));have HS5:=aa (HS4.out.later b5);have X5:=aa ((b5.block _ (aI.1 X4.out).1).trans X4.out);clear b5;obtain⟨v0,v1,u0,u1,u2⟩:=HS5.out;have x0:w5.cell? ⟨w1.heap.size+1,0,none⟩=some (.slice (some ⟨g,0,none⟩) 2 c1):=ab X5.out 0;have l0:w1.heap.size+1<w5.heap.size:=(aI.1 X5.out).1;have l1:g<w5.heap.size:=block_lt_of_cell v0;have l2:gv<w5.heap.size:=block_lt_of_cell v1;have l3:gu<w5.heap.size:=block_lt_of_cell u1;have l4:w1.heap.size<w5.heap.size:=by omega
 have l5:g<w5.heap.size+1:=by omega
 have l6:gv<w5.heap.size+1:=by omega
 have l7:gu<w5.heap.size+1:=by omega
 go_wp2_with fail
 go_ret
 exact⟨rfl,(B5.out.trans ((Below.two _ _).mono B5.out.size))⟩
theorem Zs (L:Int) (f:Nat) (l:List UInt8):Gg L f (32::l)=Gg L f l:=by
 cases f with
 | zero=>rfl
 | succ f =>
  have e:(32::l:List UInt8).dropWhile oR=l.dropWhile oR:=rfl;unfold Gg;rw[e]
theorem Uu {L:Int} {f:Nat} {c:UInt8} {t:List UInt8} {k m:Int} {s r:List UInt8} (hb:oR c=false) (hp:Lib.hasPrefix (c::t) [45,45]=false) (h:VW (c::t)=some (k,m,s,r)):Gg L (f+1) (c::t)=(Gg L f r).map ((k,L-nl (c::t),m,s) :: ·):=by
 have e:(c::t).dropWhile oR=c::t:=by rw[Eb,hb];rfl
 rw[Gg,e,af (by rw[hp];decide)]
 dsimp only
 rw[h]
end Go.Proofs.YteflkdlaoiijbaaGreatDoor
