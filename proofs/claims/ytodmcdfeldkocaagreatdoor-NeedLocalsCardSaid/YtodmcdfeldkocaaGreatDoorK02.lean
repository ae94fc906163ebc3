/- Parts of the proof. -/
import Derived.Lib.OthersKept
import Derived.Lib.OwnKind
import Derived.Lib.Strings
import Derived.Deep.AppendLies
import Derived.Deep.RegionLaw
import Derived.Maps.Own
import Derived.Maps.OwnSet
import Derived.StringKeys
import Derived.Test.YtodmcdfeldkocaaGreatDoorK01
set_option maxHeartbeats 16000000
set_option maxRecDepth 20000
namespace Go.Proofs.YtodmcdfeldkocaaGreatDoor
open Go.RowKit
def tK (W:World) (b o:Nat) (T:List Nd):Prop:=∀(i:Nat) x,T[i]? = some x→∃nv kv,lL W b (o+i*7) x nv kv∧oS W nv x.names∧cE W kv x.kids
def ints (m:List Nat):List Int:=m.map fun(j:Nat)=>(j:Int)
theorem mY (m:List Nat):(ints m).length=m.length:=by simp[ints]
theorem ints_at {m:List Nat} {a i:Nat} (h:m[a]? = some i):(ints m)[a]? = some (i:Int):=by simp[ints,h]
theorem Lp (m:List Nat) (j:Nat):ints (m++[j])=ints m++[(j:Int)]:=by simp[ints]
structure ti (w:World) (T:List Nd) (nv:Value) (r:Nat) (a:Nat) (d:Nat→Nat) (m:List Nat) (rE:Value) (wr:World):Prop where
 below:Below w.heap.size w wr
 size:w.heap.size+2≤wr.heap.size
 Hd:wr.cell? ⟨w.heap.size,0,none⟩=some nv
 He:wr.cell? ⟨w.heap.size,1,none⟩=some (.int .i64 (r:Int))
 Xm:oC wr (w.heap.size+1) T.length (fun j=>.int .i64 (d j:Int))
 row:Au wr (w.heap.size+2) rE (ints m)
theorem ti.store {w wr:World} {T:List Nd} {nv:Value} {r a:Nat} {d:Nat→Nat} {m:List Nat} {rE:Value} (h:ti w T nv r a d m rE wr) {k v:Nat} (hk:k<T.length) {x:Int} (hx:x=(v:Int)):ti w T nv r a (upd d k v) m rE (wr.setCell ⟨w.heap.size+1,k,none⟩ (.int .i64 x)):=by
 subst hx;exact
 ⟨h.below.setCell (iG _) _,by have:=h.size;simpa using this,
  (World.cell?_setCell_other wr _ _ _ (by intro e;injection e with e1 _ _;omega)).trans h.Hd,(World.cell?_setCell_other wr _ _ _ (by intro e;injection e with e1 _ _;omega)).trans h.He,
  (h.Xm.Xj hk _).eq_ (fun j _=>by
  unfold upd;by_cases e:j=k
  ·rw[aj e,aj e]
  ·rw[ae e,ae e]),ownsRow_setCell_below h.row (by show w.heap.size+1<w.heap.size+2;omega) _⟩
theorem ti.grow {w wr w':World} {T:List Nd} {nv:Value} {r a:Nat} {d:Nat→Nat} {m:List Nat} {rE v':Value} (h:ti w T nv r a d m rE wr) {k:Nat} (hr:Au w' (w.heap.size+2) v' (ints m++[(k:Int)])) (hb:Below (w.heap.size+2) wr w'):ti w T nv r a d (m++[k]) v' w' :=
 ⟨h.below.trans (hb.mono (by omega)),aL h.size hb.size,(hb.cell (p:=⟨_,0,none⟩) (by show w.heap.size<_;omega)).trans h.Hd,(hb.cell (p:=⟨_,1,none⟩) (by show w.heap.size<_;omega)).trans h.He,h.Xm.below hb (by omega),by rw[Lp];exact hr⟩
theorem Da (T:List Nd) (nv:Value) (r:Nat) (w w1:World) (hr:r<T.length) (hb1:Below (w.alloc (.cells #[nv,.int .i64 (r:Int)] 24)).heap.size (w.alloc (.cells #[nv,.int .i64 (r:Int)] 24)) w1) (hs1:w.heap.size+1<w1.heap.size)
  (h0:w1.cell? ⟨w.heap.size,0,none⟩=some nv) (h1:w1.cell? ⟨w.heap.size,1,none⟩=some (.int .i64 (r:Int))) (hf:oC w1 (w.alloc (.cells #[nv,.int .i64 (r:Int)] 24)).heap.size T.length (fun _=>.int .i64 0)) :
  ti w T nv r 0 (upd (fun _=>0) r 1) [r] (.slice (some ⟨w1.heap.size,0,none⟩) 1 1) ((w1.setCell ⟨w.heap.size+1,r,none⟩ (.int .i64 1)).alloc (.cells #[.int .i64 (r:Int)] 3)):=by
 rw[ao] at hf hb1;have hA:Below w.heap.size w w1:=((Below.refl _ _).alloc (ag _) _).trans (hb1.mono (by omega))
 have hB:Below (w.heap.size+2) (w1.setCell ⟨w.heap.size+1,r,none⟩ (.int .i64 1)) ((w1.setCell ⟨w.heap.size+1,r,none⟩ (.int .i64 1)).alloc (.cells #[.int .i64 (r:Int)] 3)):=(Below.refl _ _).alloc (by simp;omega) _
 have e1 :∀j:Nat,(⟨w.heap.size+1,r,none⟩:Addr)≠⟨w.heap.size,j,none⟩:=fun j e=>by injection e with e1 _ _;omega
 refine⟨(hA.setCell (iG _) _).trans (hB.mono (by omega)),by simp;omega,?_,?_,?_,?_⟩
 ·exact(hB.cell (p:=⟨_,0,none⟩) (by show w.heap.size<_;omega)).trans ((World.cell?_setCell_other w1 _ _ _ (e1 0)).trans h0)
 ·exact(hB.cell (p:=⟨_,1,none⟩) (by show w.heap.size<_;omega)).trans ((World.cell?_setCell_other w1 _ _ _ (e1 1)).trans h1)
 ·refine((hf.Xj hr (.int .i64 1)).eq_ (fun j _=>?_)).below hB (by omega)
  unfold upd;by_cases e:j=r
  ·rw[aj e,aj e];rfl
  ·rw[ae e,ae e];rfl
 ·have:=World.ownsRow_lit (base:=w.heap.size+2) (e:=3) (size:=1) (w1.setCell ⟨w.heap.size+1,r,none⟩ (.int .i64 1)) #[.int .i64 (r:Int)] 1 (by simp;omega) (by decide) rfl
  simpa[Au,ints] using this
theorem eP {α:Type} {l:List α} {k:Nat} {x:α} (h:l[k]? = some x):l.drop k=x::l.drop (k+1):=by
 obtain⟨hk,rfl⟩:=aJ.1 h;exact pX hk
theorem ti.drew {w wr:World} {T:List Nd} {nv:Value} {r a:Nat} {d:Nat→Nat} {m:List Nat} {rE:Value} (h:ti w T nv r a d m rE wr):ti w T nv r a d m rE wr.drew :=
 ⟨h.below.drew,h.size,h.Hd,h.He,h.Xm,h.row⟩
theorem Aw {T:List Nd} {a i:Nat} {d:Nat→Nat} {m:List Nat} (hi:m[a]? = some i) (ha:a≤T.length) (h:dI T.length (d i+1) (bD T i) d m=none):yA T (T.length+1-a) a d m=none:=by
 rw[show T.length+1-a=(T.length-a)+1 by omega]
 simp only[yA,hi,h]
theorem Lq {T:List Nd} {a i:Nat} {d d':Nat→Nat} {m m':List Nat} (hi:m[a]? = some i) (ha:a≤T.length) (h:dI T.length (d i+1) (bD T i) d m=some (d',m')):yA T (T.length+1-a) a d m=yA T (T.length+1-(a+1)) (a+1) d' m':=by
 rw[show T.length+1-a=(T.length-a)+1 by omega,show T.length+1-(a+1)=T.length-a by omega]
 simp only[yA,hi,h]
theorem Rv {T:List Nd} {a:Nat} {d:Nat→Nat} {m:List Nat} (hi:m.length≤a):yA T (T.length+1-a) a d m=some (d,m):=by
 cases e:T.length+1-a with
 | zero=>rfl
 | succ f=>simp only[yA,ui hi]
theorem rF (p:Int) (A:Option Addr) (n c:Nat) (w:World):Calls Tryz.prog 61 #[.int .i64 p,.slice A n c] w fun e w'=>e=.returned (.bool (decide (0≤p) && decide (p<(n:Int))))∧w=w':=by
 go_enter Tryz.func61,Tryz.ntmps61
 by_cases h:0≤p
 ·have g:decide (0≤p)=true:=bN h
  go_wp2_with fail
  go_ret
  exact⟨by simp[g],rfl⟩
 ·have g:decide (0≤p)=false:=bM h
  go_wp2_with fail
  go_ret
  exact⟨by simp,rfl⟩
theorem xh (p:Int) (A:Option Addr) (n c:Nat) (w:World) (h:0≤p∧p<(n:Int)):Calls Tryz.prog 61 #[.int .i64 p,.slice A n c] w fun e w'=>e=.returned (.bool true)∧w=w' :=
 (rF p A n c w).mono fun e w' hh=>⟨by rw[hh.1,bN h.1,bN h.2];rfl,hh.2⟩
theorem Ax (p:Int) (A:Option Addr) (n c:Nat) (w:World) (h:¬ (0≤p∧p<(n:Int))):Calls Tryz.prog 61 #[.int .i64 p,.slice A n c] w fun e w'=>e=.returned (.bool false)∧w=w' :=
 (rF p A n c w).mono fun e w' hh=>⟨by
  rw[hh.1];by_cases h0:0≤p
  ·rw[bM (fun h1=>h ⟨h0,h1⟩),Bool.and_false]
  ·rw[bM h0,Ad],hh.2⟩
theorem Hf (T:List Nd) (b o c r:Nat) (w:World) (hb:b<w.heap.size) (hN:T.length≤16384) (hr:r<T.length) (hn:tK w b o T) :
  Calls Tryz.prog 27 #[.agg #[.slice (some ⟨b,o,none⟩) T.length c,.int .i64 (r:Int)]] w fun e w'=>e=.returned (.int .i64 (eN T (r:Int):Int))∧Below w.heap.size w w':=by
 have HT:=aa hn;have uH:eN T (r:Int)=E5 T.length (yA T (T.length+1) 0 (upd (fun _=>0) r 1) [r]):=by
  unfold eN;rw[aj ⟨hN,by omega,by omega⟩,gS]
 rw[uH];obtain⟨B,hB⟩ :∃B,B=yA T (T.length+1) 0 (upd (fun _=>0) r 1) [r]:=⟨_,rfl⟩
 rw[←hB];have HB:=aa hB;have g1:decide ((16384:Int)<(T.length:Int))=false:=bM (by omega)
 have g2:decide ((0:Int)≤(r:Int))=true:=bN (by omega)
 have g3:decide ((r:Int)<(T.length:Int))=true:=bN (by omega)
 obtain⟨w1,xi,hb1,hs1,kQ⟩:=Hc T.length (by omega) (w.alloc (.cells #[.slice (some ⟨b,o,none⟩) T.length c,.int .i64 (r:Int)] 24))
 have VE:w1.cell? ⟨w.heap.size,0,none⟩=some (.slice (some ⟨b,o,none⟩) T.length c):=(hb1.cell (p:=⟨w.heap.size,0,none⟩) (by simp)).trans (dG w _ _ _)
 have VF:w1.cell? ⟨w.heap.size,1,none⟩=some (.int .i64 (r:Int)):=(hb1.cell (p:=⟨w.heap.size,1,none⟩) (by simp)).trans (dG w _ _ _)
 have ru:=kQ r hr;have HF:=aa kQ;have dU:=aa hb1;rw[ao] at hs1 ru xi;clear hn uH hB hb1 kQ;go_enter Tryz.func27,Tryz.ntmps27
 go_wp2_with (go_at_call 61;refine(rF _ _ _ _ _).mono ?_;rintro e w' ⟨rfl,rfl⟩)
 clear xi;have HS:=aa (Da T (.slice (some ⟨b,o,none⟩) T.length c) r w w1 hr dU.out hs1 VE VF HF.out);clear dU HF ru VE VF g2 g3;go_loopg [4,5] T.length (fun z rE atv wr=>∃(a:Nat) (d:Nat→Nat) (m:List Nat),atv=.int .i64 (a:Int)∧ti w T (.slice (some ⟨b,o,none⟩) T.length c) r a d m rE wr∧Half T r a d m∧T.length-a≤z∧yA T (T.length+1-a) a d m=B)
 case atStart=>exact⟨0,_,[r],rfl,HS.out,Half.start hr,by omega,HB.out.symm⟩
 case round =>
  clear HS HB;obtain⟨a,d,m,rfl,hs,hh,hz,hbf⟩:=hrel;have yD:=hh.inv.len;have hal:=hh.le;have hm1:1≤m.length:=by rw[hh.eq];simp
  obtain⟨g,cap,rfl,hg,oT,tj⟩:=hs.row.form (by rw[mY];omega)
  rw[mY] at hs ⊢;have b0:=hs.Hd;have b1:=hs.He;have HS:=aa hs;have HH:=aa hh;have HGC:=aa tj;have HBF:=aa hbf;clear hs hh tj hbf;by_cases hlt:a<m.length
  ·obtain⟨i,hi⟩ :∃i,m[a]? = some i:=⟨m[a],bt hlt⟩
   have hiN:i<T.length:=HH.out.inv.lt i (aV hi);have hx:=bt hiN;obtain⟨nv,kv,eL,_,Kl⟩:=HT.out i _ hx;have c6:=(HS.out.below.cell (p:=⟨b,o+i*7+6,none⟩) hb).trans eL.c6;have cm:=HGC.out a _ (ints_at hi);obtain⟨ks,Xn⟩ :∃ks,ks=T[i].kids:=⟨_,rfl⟩;rw[←Xn] at Kl;have HKS:=aa Xn;clear Xn;obtain⟨KA,kc,rfl,uC,hka⟩:=Kl;have HX:=aa hx;have Xo:a≤T.length:=by omega
   clear hx;go_wp2_with fail
   go_region
   go_wp2_with fail
   go_loopg [4,47] ks.length (fun z rE kvv wr2=>∃(k:Nat) (d2:Nat→Nat) (m2:List Nat),kvv=.int .i64 (k:Int)∧k≤ks.length∧ks.length-k≤z∧ti w T (.slice (some ⟨b,o,none⟩) T.length c) r a d2 m2 rE wr2∧Inv T.length d2 m2∧m2.length=m.length+k∧m2[a]? = some i∧d2 i=d i∧(∀j,d2 j≤a+2) ∧
    dI T.length (d i+1) (ks.drop k) d2 m2=dI T.length (d i+1) ks d m)
   case atStart=>exact⟨0,d,m,rfl,bg _,ag _,HS.out.drew,HH.out.inv,rfl,hi,rfl,fun j=>by have:=HH.out.bound j;omega,rfl⟩
   case round =>
    obtain⟨k,d2,m2,rfl,hk,hz2,hs2,Lr,Fh,rl,hdi,aal,hgo⟩:=hrel;have hml2:=Lr.len;clear cm oT b0 b1 HGC;obtain⟨g2,Db,rfl,hg2,hgl2,Ay⟩:=hs2.row.form (by rw[mY];omega)
    rw[mY] at hs2 ⊢;have b0:=hs2.Hd;have b1:=hs2.He;have tL:=aa hs2;have HI2:=aa Lr;have VG:=aa hgo;have HBD:=aa aal;have cm2:=Ay a _ (ints_at rl);have HI:=aa rl;have HDI:=aa hdi;have HLEN:=aa Fh;have acf:a<m2.length:=(aJ.1 HI.out).1;have hkN:k≤20000:=by omega
    clear Fh hs2 Lr hgo aal Ay rl hdi;by_cases wo:k<ks.length
    ·obtain⟨z,hzk⟩ :∃z,ks[k]? = some z:=⟨ks[k],bt wo⟩
     have hdr:=eP hzk;rcases hka with hnil | ⟨bk,ok,rfl,dH,hcell⟩
     ·rw[hnil] at wo;exact absurd wo (iF _)
     have ck:=(tL.out.below.cell (p:=⟨bk,ok+k,none⟩) dH).trans (hcell k z hzk);have HC:=aa hcell;have HZ:=aa hzk;have uI:=aa hdr;clear hcell hzk hdr;by_cases hp:0≤z∧z<(T.length:Int)
     ·obtain⟨q,rfl⟩ :∃q:Nat,z=(q:Int):=⟨z.toNat,by omega⟩
      have hq:q<T.length:=by omega
      obtain⟨cq,fq⟩:=tL.out.Xm q hq;replace cq:wr.cell? ⟨w.heap.size+1,q,none⟩=some (.int .i64 (d2 q:Int)):=cq;by_cases h0:d2 q=0
      ·rw[h0] at cq
       have hiN2:=hiN;obtain⟨ci,fi⟩:=tL.out.Xm i hiN;replace ci:wr.cell? ⟨w.heap.size+1,i,none⟩=some (.int .i64 (d i:Int)):=by rw[ci];show some (Value.int .i64 (d2 i:Int))=_;rw[HDI.out]
       have hdb:=HH.out.bound i;have yE:=tL.out.size;have acg:(ints m2).length≤1000000:=by rw[mY];omega
       have HST:=aa (tL.out.store (k:=q) (v:=d i+1) hq (x:=(d i:Int)+1) (by omega))
       go_wp2_with (first|(go_at_call 61;refine(xh _ _ _ _ _ hp).mono ?_;rintro e w' ⟨rfl,rfl⟩)|(at_builtin;refine Xl _ (q:Int) rfl _ _ rfl (w.heap.size+2) _ (ints m2) rfl HST.out.row _ (by simp) rfl acg (by simpa using yE) ?_;intro v' w' VH hb'))
       go_roundg (ks.length-(k+1))
       case measure=>omega
       case rel=>exact⟨k+1,upd d2 q (d i+1),m2++[q],by go_num,by omega,ag _,HST.out.grow VH hb',HI2.out.add hq h0 (by omega),by rw[cb,HLEN.out];rfl,by rw[kL acf];exact HI.out,by
        rw[fY _ _ (fun e=>by subst e;have:=(HH.out.inv.iff i).2 (aV hi);have:=HDI.out;omega)];exact HDI.out,fun j=>by
        have:=HBD.out j;by_cases e:j=q
        ·subst e;rw[upd_same];omega
        ·rw[fY _ _ e];exact this,by
        rw[←VG.out,uI.out,dI,aj ⟨by omega,by omega,by simpa using h0⟩,gS]⟩
      ·have hne:((d2 q:Int) == 0)=false:=aC.2 (by omega)
       go_wp2_with (go_at_call 61;refine(xh _ _ _ _ _ hp).mono ?_;rintro e w' ⟨rfl,rfl⟩)
       go_ret
       have hg0:dI T.length (d i+1) ks d m=none:=by
        rw[←VG.out,uI.out,dI,ae (fun hh=>h0 (by simpa using hh.2.2))]
       exact⟨by rw[←HBF.out,Aw hi Xo (by rw[fM HX.out,←HKS.out];exact hg0)];rfl,tL.out.below⟩
     ·go_wp2_with (go_at_call 61;refine(Ax _ _ _ _ _ hp).mono ?_;rintro e w' ⟨rfl,rfl⟩)
      go_ret
      have hg0:dI T.length (d i+1) ks d m=none:=by
       rw[←VG.out,uI.out,dI,ae (fun hh=>hp ⟨hh.1,hh.2.1⟩)]
      exact⟨by rw[←HBF.out,Aw hi Xo (by rw[fM HX.out,←HKS.out];exact hg0)];rfl,tL.out.below⟩
    ·have rm:k=ks.length:=by omega
     have hg1:dI T.length (d i+1) ks d m=some (d2,m2):=by
      rw[←VG.out,rm,wX];rfl
     have hgk:dI T.length (d i+1) (bD T i) d m=some (d2,m2):=by rw[fM HX.out,←HKS.out];exact hg1
     have HHn:=aa (HH.out.step hi hgk);have HBn:=aa ((Lq hi Xo hgk).symm.trans HBF.out);clear hg1 hgk rm;go_wp2_with fail
     go_roundg (T.length-(a+1))
     case measure=>omega
     case rel=>exact⟨a+1,d2,m2,by go_num,(have h:=tL.out;⟨h.below,h.size,h.Hd,h.He,h.Xm,h.row⟩),HHn.out,ag _,HBn.out⟩
  ·have hae:a=m.length:=by omega
   have hB:B=some (d,m):=by rw[←HBF.out,Rv (by omega)]
   have uJ:=aa hB;clear hB HBF;by_cases Fi:m.length<T.length
   ·have g5:decide ((m.length:Int)<(T.length:Int))=true:=bN (by omega)
    go_wp2_with fail
    go_ret
    exact⟨by rw[uJ.out];exact az (fun x:Nat=>Ending.returned (.int .i64 (x:Int))) (aj Fi).symm,HS.out.below⟩
   ·have g5:decide ((m.length:Int)<(T.length:Int))=false:=bM (by omega)
    obtain⟨l,hl⟩ :∃l,m[m.length-1]? = some l:=⟨m[m.length-1],bt (by omega)⟩
    have hlN:l<T.length:=HH.out.inv.lt l (aV hl);have cl:=HGC.out (m.length-1) _ (ints_at hl);have cd:wr.cell? ⟨w.heap.size+1,l,none⟩=some (.int .i64 (d l:Int)):=(HS.out.Xm l hlN).1;have Ls:m.getLastD 0=l:=by
     rw[List.getLastD_eq_getLast?,List.getLast?_eq_getElem?,hl];rfl
    have HL:=aa Ls;clear Ls hl hae;go_wp2_with fail
    go_ret
    exact⟨by rw[uJ.out];exact az (fun x:Nat=>Ending.returned (.int .i64 (x:Int))) (by rw[←HL.out];exact(ae Fi).symm),HS.out.below⟩
theorem Hg (T:List Nd) (A:Option Addr) (c:Nat) (r:Int) (w:World) (h:¬ (T.length≤16384∧0≤r∧r<(T.length:Int))) :
  Calls Tryz.prog 27 #[.agg #[.slice A T.length c,.int .i64 r]] w fun e w'=>e=.returned (.int .i64 (eN T r:Int))∧Below w.heap.size w w':=by
 have hd:eN T r=0:=by unfold eN;rw[ae h]
 rw[hd];have b1:=(Below.refl w.heap.size w).alloc (ag _) (.cells #[.slice A T.length c,.int .i64 r] 24);by_cases hN:T.length≤16384
 ·have g1:decide ((16384:Int)<(T.length:Int))=false:=bM (by omega)
  have hp:¬ (0≤r∧r<(T.length:Int)):=fun hh=>h ⟨hN,hh⟩
  clear h hd;go_enter Tryz.func27,Tryz.ntmps27
  go_wp2_with (go_at_call 61;refine(Ax _ _ _ _ _ hp).mono ?_;rintro e w' ⟨rfl,rfl⟩)
  go_ret
  exact⟨rfl,b1⟩
 ·have g1:decide ((16384:Int)<(T.length:Int))=true:=bN (by omega)
  clear h hd;go_enter Tryz.func27,Tryz.ntmps27
  go_wp2_with fail
  go_ret
  exact⟨rfl,b1⟩
def iI (W:World) (v:Value) (T:List Nd) (r:Int):Prop:=∃nv,v=.agg #[nv,.int .i64 r]∧eO W nv T
theorem iI.below {W W':World} {v:Value} {T:List Nd} {r:Int} (h:iI W v T r) (hb:Below W.heap.size W W'):iI W' v T r:=by
 obtain⟨nv,e,hn⟩:=h;exact⟨nv,e,hn.below hb⟩
theorem Az (v:Value) (T:List Nd) (r:Int) (w:World) (h:iI w v T r):Calls Tryz.prog 27 #[v] w fun e w'=>e=.returned (.int .i64 (eN T r:Int))∧Below w.heap.size w w':=by
 obtain⟨nv,rfl,A,c,rfl,hc,hn⟩:=h;by_cases hh:T.length≤16384∧0≤r∧r<(T.length:Int)
 ·rcases hn with rfl | ⟨b,o,rfl,hb,hx⟩
  ·exfalso
   have:=hh.2.2;simp at this;omega
  ·obtain⟨q,rfl⟩ :∃q:Nat,r=(q:Int):=⟨r.toNat,by omega⟩
   exact Hf T b o c q w hb hh.1 (by omega) hx
 ·exact Hg T A c r w hh
end Go.Proofs.YtodmcdfeldkocaaGreatDoor
namespace Go.Proofs.YtodmcdfeldkocaaGreatDoor
theorem rG (n f:Nat) (st:aI):cW [] n f st=.ok st:=by unfold cW;rfl
theorem hH (k:Lt) (ks:List Lt) (n f:Nat) (st:aI):cW (k::ks) n f st=(bh k f (st.at n)).bind fun s=>cW ks (n+1) f s:=by conv=>lhs;unfold cW
theorem fg (f:Nat) (st:aI):aG [] f st=.ok st:=by unfold aG;rfl
theorem eQ (k:Lt) (ks:List Lt) (f:Nat) (st:aI):aG (k::ks) f st=(bh k f st).bind fun s=>aG ks f s:=by conv=>lhs;unfold aG
theorem mZ (i:Nat) (line:Int) (names:List ByteArray) (b:Lt) (f:Nat) (st:aI):iH i line names [b] f st=(bz i f line names (du i f st)).bind fun st1=>(bh b f st1).map fun st2=>st2.back st:=by conv=>lhs;unfold iH
theorem jt (i:Nat) (line:Int) (names:List ByteArray) (a b:Lt) (l:List Lt) (f:Nat) (st:aI):iH i line names (a::b::l) f st=(bh a f st).bind fun st1=>iH i line names (b::l) f st1:=by conv=>lhs;unfold iH
theorem yF (i:Nat) (h:Nd) (ks:List Lt) (t:Lt) (f:Nat) (st:aI):kA [.mk i h ks,t] f st=(gV i f true ks (st.setOf i f)).bind fun st1=>(cW ks 0 f st1).bind fun st2=>bh t f st2:=by conv=>lhs;unfold kA
section
variable (i:Nat) (h:Nd) (ks:List Lt) (f:Nat) (st:aI)
theorem cV:bh (.mk i h ks) f st =
  if h.kind=6 then (if ((st.setOf i f).fn f).many then .ok (st.setOf i f) else .error (14,h.line))
  else if h.kind=7 then lI i f h.s h.line (st.setOf i f)
  else if h.kind=11 then
   (bz i (st.setOf i f).fns.length h.line h.names (jB i f h (st.setOf i f))).bind fun st1=>(aG ks (st.setOf i f).fns.length st1).map fun st2=>st2.back (st.setOf i f)
  else if h.kind=18 then (gV i f false ks (st.setOf i f)).bind fun st1=>(cW ks 0 f st1).map fun st2=>st2.back (st.setOf i f)
  else if h.kind=19 then (aG ks f (st.setOf i f)).bind fun st1=>bz i f h.line h.names st1
  else if h.kind=23 then (aG ks f (du i f (st.setOf i f))).map fun st1=>st1.back (st.setOf i f)
  else if h.kind=24 then (kA ks f (du i f (st.setOf i f))).map fun st1=>st1.back (st.setOf i f)
  else if h.kind=26∨h.kind=27 then iH i h.line h.names ks f (st.setOf i f)
  else if h.kind=28 then (bz i f h.line h.names (st.setOf i f)).bind fun st1=>aG ks f st1
  else if h.kind=30 then dX i f h.line (st.setOf i f)
  else if h.kind=31 then dp i f h.s h.line (st.setOf i f) (st.setOf i f).frames
  else aG ks f (st.setOf i f):=by conv=>lhs;unfold bh
end
end Go.Proofs.YtodmcdfeldkocaaGreatDoor
namespace Go.Proofs.YtodmcdfeldkocaaGreatDoor
mutual
def Lt.wt:Lt→Nat
 | .mk _ h ks=>h.names.length+Lt.fu ks
def Lt.fu:List Lt→Nat
 | []=>0
 | k::ks=>Lt.wt k+Lt.fu ks
end
def dP (F:List dm):Prop:=∀(g:Nat) x,F[g]? = some x→x.vars.length≤200∧x.ch.length≤60
theorem dP.set {F:List dm} (h:dP F) {f:Nat} {x:dm} (hx:x.vars.length≤200∧x.ch.length≤60):dP (F.set f x):=fun g y hy=>by
 by_cases e:f=g
 ·subst e
  by_cases hl:f<F.length
  ·rw[dV hl] at hy
   injection hy with hy;subst hy;exact hx
  ·rw[EG (by omega)] at hy
   exact h _ _ hy
 ·rw[fH e] at hy
  exact h _ _ hy
theorem dP.app {F:List dm} (h:dP F) {x:dm} (hx:x.vars.length≤200∧x.ch.length≤60):dP (F++[x]):=fun g y hy=>by
 rw[List.getElem?_append] at hy;split at hy
 ·exact h _ _ hy
 ·have:=(aJ.1 hy).1
  simp at this;rw[show g-F.length=0 by omega] at hy
  injection hy with hy;subst hy;exact hx
theorem dP.getD {F:List dm} (h:dP F) (f:Nat):(F.getD f ⟨0,0,0,false,[],[]⟩).vars.length≤200∧(F.getD f ⟨0,0,0,false,[],[]⟩).ch.length≤60:=by
 rw[jZ];cases e:F[f]? with
 | none=>exact⟨bg _,bg _⟩
 | some x=>exact h f x e
structure Mk (a b:Nat) (st st':aI):Prop where
 few:dP st'.fns
 names:st'.names.length≤st.names.length+a
 fns:st'.fns.length≤st.fns.length+b
 least:st.fns.length≤st'.fns.length
 frames:st'.frames.length=st.frames.length
theorem Mk.trans {a b c d:Nat} {x y z:aI} (h:Mk a b x y) (k:Mk c d y z):Mk (a+c) (b+d) x z:=⟨k.few,by have:=h.names;have:=k.names;omega,by have:=h.fns;have:=k.fns;omega,aL h.least k.least,k.frames.trans h.frames⟩
theorem Hh {n f:Nat} {l:Int} :∀(ns:List ByteArray) {st st':aI},dO n f l ns st=.ok st'→dP st.fns→Mk ns.length 0 st st':=by
 intro ns;induction ns with
 | nil =>
  intro st st' h hF;rw[dO] at h;injection h with h;subst h;exact⟨hF,by simp,by simp,ag _,rfl⟩
 | cons s ns ih =>
  intro st st' h hF;rw[dO] at h;split at h
  ·cases h
  ·rename_i hlt
   have h1:=ih h (hF.set ⟨by simp;omega,(hF.getD f).2⟩)
   refine⟨h1.few,?_,?_,?_,h1.frames⟩
   ·have:=h1.names
    simp only[List.length_cons] at this ⊢;omega
   ·have:=h1.fns
    simp only[aI.oQ,mo] at this;omega
   ·have:=h1.least
    simp only[aI.oQ,mo] at this;omega
theorem jD {n f:Nat} {l:Int} {ns:List ByteArray} {st st':aI} (h:bz n f l ns st=.ok st') (hF:dP st.fns):Mk ns.length 0 st st':=by
 have:=Hh ns h hF;exact⟨this.few,this.names,this.fns,this.least,this.frames⟩
theorem xj {F F':List dm} {f k:Nat} {u:tH} (h:gy F f u=some (F',k)) (hF:dP F):dP F'∧F'.length=F.length:=by
 unfold gy at h;dsimp only at h
 split at h
 ·injection h with h
  injection h with h1 _;subst h1;exact⟨hF,rfl⟩
 ·split at h
  ·cases h
  ·injection h with h
   injection h with h1 _;subst h1;rename_i hlt;exact⟨hF.set ⟨(hF.getD f).1,by rw[cb,mP];omega⟩,by simp⟩
theorem AA {n:jr} :∀(g:Nat) {F F':List dm} {f k:Nat},lH n g F f=some (F',k)→dP F→dP F'∧F'.length=F.length:=by
 intro g;induction g with
 | zero=>intro F F' f k h;cases h
 | succ g ih =>
  intro F F' f k h hF;rw[lH] at h;split at h
  ·exact xj h hF
  ·split at h
   ·cases h
   ·rename_i F1 k1 h1
    obtain⟨a1,a2⟩:=ih h1 hF;obtain⟨b1,b2⟩:=xj h a1;exact⟨b1,b2.trans a2⟩
theorem rH (x:dm) (i:Nat):(cY x i).vars.length=x.vars.length∧(cY x i).ch=x.ch:=by
 unfold cY;refine⟨?_,rfl⟩;dsimp only
 split<;>simp
theorem Xp {n f:Nat} {s:ByteArray} {l:Int} {st st':aI} (h:lI n f s l st=.ok st') (hF:dP st.fns):Mk 0 0 st st':=by
 unfold lI at h;split at h
 ·injection h with h
  subst h;exact⟨hF,ag _,ag _,ag _,rfl⟩
 ·rename_i x _
  split at h
  ·injection h with h
   subst h;exact⟨hF,ag _,ag _,ag _,rfl⟩
  ·split at h
   ·cases h
   ·rename_i F k hk
    injection h with h;subst h;have e:=rH (st.fn x.fn) x.i;obtain⟨a1,a2⟩:=AA _ hk (hF.set ⟨by rw[e.1];exact(hF.getD x.fn).1,by rw[e.2];exact(hF.getD x.fn).2⟩)
    rw[mo] at a2;exact⟨a1,ag _,ES a2,ES a2.symm,rfl⟩
theorem Lu {n f:Nat} {l:Int} {st st':aI} (h:dX n f l st=.ok st') (hF:dP st.fns):Mk 0 0 st st':=by
 unfold dX at h;split at h
 ·cases h
 ·injection h with h
  subst h;exact⟨hF,ag _,ag _,ag _,rfl⟩
theorem Rw {n f:Nat} {s:ByteArray} {l:Int} {st st':aI} (hF:dP st.fns) :∀(fr:List fC),dp n f s l st fr=.ok st'→Mk 0 0 st st':=by
 intro fr;induction fr with
 | nil=>intro h;cases h
 | cons x fr ih =>
  intro h;rw[dp] at h;split at h
  ·exact ih h
  ·split at h
   ·exact ih h
   ·split at h
    ·cases h
    ·injection h with h
     subst h;exact⟨hF,ag _,ag _,ag _,rfl⟩
theorem AB {i f:Nat} {rep:Bool} {ks:List Lt} {st st':aI} (h:gV i f rep ks st=.ok st'):st'={ st with frames:=⟨f,i,0,false,rep,ks⟩::st.frames}:=by
 unfold gV at h;split at h
 ·cases h
 ·injection h with h
  exact h.symm
theorem eo {α β:Type} {x:Rs α} {g:α→β} {y:β} (h:x.map g=.ok y) :∃a,x=.ok a∧y=g a:=by
 cases x with
 | error e=>cases h
 | ok a=>injection h with h;exact⟨a,rfl,h.symm⟩
theorem bV {α β:Type} {x:Rs α} {g:α→Rs β} {y:β} (h:x.bind g=.ok y) :∃a,x=.ok a∧g a=.ok y:=by
 cases x with
 | error e=>cases h
 | ok a=>exact⟨a,rfl,h⟩
theorem aam {a b:Nat} {st st':aI} {n:Nat} (h:Mk a b (st.at n) st'):Mk a b st st':=⟨h.few,h.names,h.fns,h.least,h.frames.trans (by unfold aI.at;cases st.frames<;>rfl)⟩
theorem back_mk {a b:Nat} {st st':aI} {fr:List fC} (h:Mk a b { st with frames:=fr} st'):Mk 0 b st (st'.back st):=⟨h.few,ag _,h.fns,h.least,rfl⟩
mutual
theorem lM :∀(t:Lt) {f:Nat} {st st':aI},bh t f st=.ok st'→dP st.fns→Mk t.wt t.size st st'
 | .mk i h ks,f,jU,st',hr,hF=>by
  rw[cV] at hr;rw[Lt.wt,Lt.size];have hF:dP (jU.setOf i f).fns:=hF;have key :∀{a b:Nat},Mk a b (jU.setOf i f) st'→a≤h.names.length+Lt.fu ks→b≤Lt.al ks+1→Mk (h.names.length+Lt.fu ks) (Lt.al ks+1) jU st':=fun h h1 h2=>⟨h.few,by have:_≤jU.names.length+_:=h.names;omega,by have:_≤jU.fns.length+_:=h.fns;omega,h.least,h.frames⟩
  generalize jU.setOf i f=st at *;split at hr
  ·split at hr
   ·injection hr with hr
    subst hr;exact key (a:=0) (b:=0) ⟨hF,ag _,ag _,ag _,rfl⟩ (bg _) (bg _)
   ·cases hr
  split at hr
  ·exact key (Xp hr hF) (bg _) (bg _)
  split at hr
  ·obtain⟨s1,e1,hr⟩:=bV hr
   obtain⟨s2,e2,rfl⟩:=eo hr;have h1:=jD e1 (show dP (st.fns++[_]) from hF.app ⟨bg _,bg _⟩)
   have h2:=iJ ks e2 h1.few;refine key (a:=0) (b:=Lt.al ks+1) ⟨h2.few,ag _,?_,?_,rfl⟩ (bg _) (ag _)
   ·have h3:s1.fns.length≤(st.fns++[_]).length+0:=h1.fns
    have h4:=h2.fns;rw[cb,mP] at h3;show s2.fns.length≤_
    omega
   ·have h3:(st.fns++[_]).length≤s1.fns.length:=h1.least
    have h4:=h2.least;rw[cb,mP] at h3;show _≤s2.fns.length
    omega
  split at hr
  ·obtain⟨s1,e1,hr⟩:=bV hr
   obtain⟨s2,e2,rfl⟩:=eo hr;have e1:=AB e1;subst e1;exact key (back_mk (uK ks e2 hF)) (bg _) (by omega)
  split at hr
  ·obtain⟨s1,e1,e2⟩:=bV hr
   have h1:=iJ ks e1 hF;exact key (h1.trans (jD e2 h1.few)) (by omega) (by omega)
  split at hr
  ·obtain⟨s2,e2,rfl⟩:=eo hr
   exact key (back_mk (iJ ks e2 hF)) (bg _) (by omega)
  split at hr
  ·obtain⟨s2,e2,rfl⟩:=eo hr
   obtain⟨a1,a2,a3⟩:=Xq ks e2 hF;exact key (a:=0) (b:=Lt.al ks) ⟨a1,ag _,a2,a3,rfl⟩ (bg _) (by omega)
  split at hr
  ·exact key (Lv ks hr hF) (by omega) (by omega)
  split at hr
  ·obtain⟨s1,e1,e2⟩:=bV hr
   have h1:=jD e1 hF;exact key (h1.trans (iJ ks e2 h1.few)) (by omega) (by omega)
  split at hr
  ·exact key (Lu hr hF) (bg _) (bg _)
  split at hr
  ·exact key (Rw hF _ hr) (bg _) (bg _)
  exact key (iJ ks hr hF) (by omega) (by omega)
theorem iJ :∀(ks:List Lt) {f:Nat} {st st':aI},aG ks f st=.ok st'→dP st.fns→Mk (Lt.fu ks) (Lt.al ks) st st'
 | [],f,st,st',hr,hF=>by
  rw[fg] at hr;injection hr with hr;subst hr;exact⟨hF,gr _ _,gr _ _,ag _,rfl⟩
 | k::ks,f,st,st',hr,hF=>by
  rw[eQ] at hr;obtain⟨s1,e1,e2⟩:=bV hr;rw[Lt.fu,Lt.al];have h1:=lM k e1 hF;exact h1.trans (iJ ks e2 h1.few)
theorem uK :∀(ks:List Lt) {n f:Nat} {st st':aI},cW ks n f st=.ok st'→dP st.fns→Mk (Lt.fu ks) (Lt.al ks) st st'
 | [],n,f,st,st',hr,hF=>by
  rw[rG] at hr;injection hr with hr;subst hr;exact⟨hF,gr _ _,gr _ _,ag _,rfl⟩
 | k::ks,n,f,st,st',hr,hF=>by
  rw[hH] at hr;obtain⟨s1,e1,e2⟩:=bV hr;rw[Lt.fu,Lt.al];have h1:=aam (lM k e1 hF);exact h1.trans (uK ks e2 h1.few)
theorem Xq :∀(ks:List Lt) {f:Nat} {st st':aI},kA ks f st=.ok st'→dP st.fns→dP st'.fns∧st'.fns.length≤st.fns.length+Lt.al ks∧st.fns.length≤st'.fns.length
 | [],f,st,st',hr,hF=>by
  unfold kA at hr;injection hr with hr;subst hr;exact⟨hF,gr _ _,ag _⟩
 | [.mk _ _ _],f,st,st',hr,hF=>by
  unfold kA at hr;injection hr with hr;subst hr;exact⟨hF,gr _ _,ag _⟩
 | .mk _ _ _::_::_::_,f,st,st',hr,hF=>by
  unfold kA at hr;injection hr with hr;subst hr;exact⟨hF,gr _ _,ag _⟩
 | [.mk i h ks,t],f,st,st',hr,hF=>by
  rw[yF] at hr;obtain⟨s1,e1,hr⟩:=bV hr;obtain⟨s2,e2,e3⟩:=bV hr;have e1:=AB e1;subst e1;have h1:=uK ks e2 hF;have h2:=lM t e3 h1.few;refine⟨h2.few,?_,?_⟩
  ·have h3:s2.fns.length≤st.fns.length+_:=h1.fns
   have:=h2.fns;simp only[Lt.al,Lt.size];omega
  ·exact aL (show st.fns.length≤s2.fns.length from h1.least) h2.least
theorem Lv {i:Nat} {line:Int} {names:List ByteArray} :∀(ks:List Lt) {f:Nat} {st st':aI},iH i line names ks f st=.ok st'→dP st.fns→Mk (Lt.fu ks) (Lt.al ks) st st'
 | [],f,st,st',hr,hF=>by
  unfold iH at hr;injection hr with hr;subst hr;exact⟨hF,gr _ _,gr _ _,ag _,rfl⟩
 | [b],f,st,st',hr,hF=>by
  rw[mZ] at hr;obtain⟨s1,e1,hr⟩:=bV hr;obtain⟨s2,e2,rfl⟩:=eo hr;have h1:=jD e1 (show dP (du i f st).fns from hF)
  have h2:=lM b e2 h1.few;simp only[Lt.fu,Lt.al];refine⟨h2.few,gr _ _,?_,?_,rfl⟩
  ·have h3:s1.fns.length≤st.fns.length+0:=h1.fns
   have:=h2.fns;show s2.fns.length≤_
   omega
  ·exact aL (show st.fns.length≤s1.fns.length from h1.least) h2.least
 | a::b::l,f,st,st',hr,hF=>by
  rw[jt] at hr;obtain⟨s1,e1,e2⟩:=bV hr;have h1:=lM a e1 hF;rw[Lt.fu,Lt.al];exact h1.trans (Lv (b::l) e2 h1.few)
end
def tM (k:Int):Prop:=1≤k∧k≤15
def StK (k:Int):Prop:=19≤k∧k≤32∧k≠29
structure qh (k n:Int) (kk:List Int):Prop where
 none:(k=1∨k=2∨k=3∨k=4∨k=5∨k=6∨k=7∨k=30∨k=31∨k=32)→kk=[]
 two:(k=8∨k=12∨k=17)→∃a b,kk=[a,b]∧tM a∧tM b
 call:(k=9∨k=10)→1≤kk.length∧∀a∈kk,tM a
 body:(k=11∨k=22)→kk=[18]
 one:(k=13∨k=14∨k=16)→∃a,kk=[a]∧tM a
 items:k=15→∀a∈kk,a=16∨a=17
 block:k=18→∃l r,kk=l++r∧(∀a∈l,StK a)∧(r=[]∨r=[29])
 list:(k=19∨k=29)→∀a∈kk,tM a
 assign:k=20→∃l r,kk=l++r∧(∀a∈l,a=7∨a=8)∧(1≤n→(l.length:Int)=n)∧1≤r.length∧∀a∈r,tM a
 Xr:k=21→∃a,kk=[a]∧(a=9∨a=10)
 Xs:k=23→∃a,kk=[a,18]∧tM a
 Fj:k=24→∃a,kk=[18,a]∧tM a
 if_:k=25→∃(ps:List (Int×Int)) (r:List Int),kk=(ps.flatMap fun p:Int×Int=>[p.1,p.2])++r∧1≤ps.length∧(∀p∈ps,tM p.1∧p.2=18)∧(r=[]∨r=[18])
 for_:k=26→∃l,kk=l++[18]∧(l.length=2∨l.length=3)∧∀a∈l,tM a
 each:k=27→∃l,kk=l++[18]∧(1≤n→(l.length:Int)=n)∧∀a∈l,tM a
 func:k=28→kk=[11]
def jE (ks:List Lt):List Int:=ks.map fun k=>k.hd.kind
mutual
/-- A tree all of whose nodes have such Kids. -/
def Lt.uL:Lt→Prop
 | .mk _ h ks=>qh h.kind h.num (jE ks)∧Lt.iu ks
def Lt.iu:List Lt→Prop
 | []=>True
 | k::ks=>Lt.uL k∧Lt.iu ks
end
open Go.RowKit
def Km (ty:TypeId) (W W':World):Prop:=W.heap.size≤W'.heap.size∧∀(k:Nat) c e fz,W.heap[k]? = some (.cells c e fz)→e≠ty→W'.heap[k]? = some (.cells c e fz)
theorem Km.set {ty:TypeId} {W:World} {g:Nat} {cs:Array Value} {fz:Nat×Nat} (h:W.heap[g]? = some (.cells cs ty fz)) (j:Nat) (v:Value):Km ty W (W.setCell ⟨g,j,none⟩ v) :=
 ⟨by simp[World.setCell],fun k c e f hk he=>(Below.heap_setCell W ⟨g,j,none⟩ v k (fun(e':k=g)=>by
  subst e';rw[h] at hk;injection hk with hk;injection hk with _ hk;exact he hk.symm)).trans hk⟩
theorem da {W W':World} {B e s n:Nat} {ty:TypeId} {v:Value} {xs:List Value} (h:W.ownsRow B e s v n xs) (ho:Km ty W W') (he:e≠ty):W'.ownsRow B e s v n xs:=by
 refine⟨h.1,?_⟩;rcases h.2 with hn | ⟨g,cap,cur,rfl,hB,hg,rest⟩
 ·exact .inl hn
 ·exact .inr ⟨g,cap,cur,rfl,hB,ho.2 g _ _ _ hg he,rest⟩
def uM (v:wm):List Value:=[.string v.name,.int .i64 (v.node:Int),.bool v.cap]
def Kn (u:tH):List Value:=[.bool u.loc,.int .i64 (u.idx:Int)]
abbrev nX:=dm×Value×Value
def Rx (t:nX):List Value:=[.int .i64 (t.1.node:Int),.int .i64 t.1.parent,.int .i64 (t.1.params:Int),.bool t.1.many,t.2.1,t.2.2]
def eR (W:World) (B:Nat) (ty:TypeId) (s b n:Nat) (f:Nat→Value):Prop:=W.ownsRow B ty s (.slice (some ⟨b,0,none⟩) n n) n ((List.range (n*s)).map f)
def wq (u:Nat→Int×Int):Nat→Value:=fun j=>if j % 2=0 then .int .i64 (u (j / 2)).1 else .int .i64 (u (j / 2)).2
def Hi (o:Nat→Int):Nat→Value:=fun j=>.int .i64 (o j)
def AD (W:World) (B:Nat) (v:Value) (xs:List ByteArray):Prop :=
 ∃A c,v=.slice A xs.length c∧xs.length≤c∧(xs=[]∨∃bk o,A=some ⟨bk,o,none⟩∧bk<B∧∀(j:Nat) x,xs[j]? = some x→W.cell? ⟨bk,o+j,none⟩=some (.string x))
def gC (W:World) (B:Nat) (v:Value) (xs:List Int):Prop :=
 ∃A c,v=.slice A xs.length c∧xs.length≤c∧(xs=[]∨∃bk o,A=some ⟨bk,o,none⟩∧bk<B∧∀(j:Nat) x,xs[j]? = some x→W.cell? ⟨bk,o+j,none⟩=some (.int .i64 x))
theorem AD.below {W W':World} {B:Nat} {v:Value} {xs:List ByteArray} (h:AD W B v xs) (hb:Below B W W'):AD W' B v xs:=by
 obtain⟨A,c,e,hc,h | ⟨bk,o,e2,hk,hx⟩⟩:=h
 ·exact⟨A,c,e,hc,.inl h⟩
 ·exact⟨A,c,e,hc,.inr ⟨bk,o,e2,hk,fun j x hj=>(hb.cell (p:=⟨bk,o+j,none⟩) hk).trans (hx j x hj)⟩⟩
theorem gC.below {W W':World} {B:Nat} {v:Value} {xs:List Int} (h:gC W B v xs) (hb:Below B W W'):gC W' B v xs:=by
 obtain⟨A,c,e,hc,h | ⟨bk,o,e2,hk,hx⟩⟩:=h
 ·exact⟨A,c,e,hc,.inl h⟩
 ·exact⟨A,c,e,hc,.inr ⟨bk,o,e2,hk,fun j x hj=>(hb.cell (p:=⟨bk,o+j,none⟩) hk).trans (hx j x hj)⟩⟩
structure wu (W:World) (B:Nat) (nv:Value) (T:List Nd):Prop where
 ex :∃W0 bk o c,nv=.slice (some ⟨bk,o,none⟩) T.length c∧bk<B∧W0.heap.size=B∧tK W0 bk o T∧Below B W0 W
 few:T.length≤20000
 small :∀x∈T,x.kids.length≤20000∧x.names.length≤20000
theorem wu.nodes {W:World} {B:Nat} {nv:Value} {T:List Nd} (h:wu W B nv T) :∃bk o c,nv=.slice (some ⟨bk,o,none⟩) T.length c∧bk<B∧B≤W.heap.size∧∀(i:Nat) x,T[i]? = some x→∃nv kv,lL W bk (o+i*7) x nv kv∧AD W B nv x.names∧gC W B kv x.kids:=by
 obtain⟨W0,bk,o,c,e,hb,hs,hn,hbl⟩:=h.ex;refine⟨bk,o,c,e,hb,by have:=hbl.size;omega,fun i x hx=>?_⟩
 obtain⟨nv,kv,h1,⟨A,c1,e1,hc1,h2⟩,⟨A',c2,e2,hc2,h3⟩⟩:=hn i x hx;refine⟨nv,kv,h1.below hbl hb,AD.below (B:=B) ⟨A,c1,e1,hc1,?_⟩ hbl,gC.below (B:=B) ⟨A',c2,e2,hc2,?_⟩ hbl⟩
 ·rcases h2 with h2 | ⟨x1,x2,x3,x4,x5⟩
  ·exact .inl h2
  ·exact .inr ⟨x1,x2,x3,by omega,x5⟩
 ·rcases h3 with h3 | ⟨x1,x2,x3,x4,x5⟩
  ·exact .inl h3
  ·exact .inr ⟨x1,x2,x3,by omega,x5⟩
theorem wu.below {W W':World} {B:Nat} {nv:Value} {T:List Nd} (h:wu W B nv T) (hb:Below B W W'):wu W' B nv T:=by
 obtain⟨W0,bk,o,c,e,h1,hs,hn,hbl⟩:=h.ex;exact⟨⟨W0,bk,o,c,e,h1,hs,hn,hbl.trans hb⟩,h.few,h.small⟩
theorem bZ {W:World} {B:Nat} {ty:TypeId} {s b n:Nat} {f:Nat→Value} (h:eR W B ty s b n f) {j:Nat} (hj:j<n*s):W.cell? ⟨b,j,none⟩=some (f j)∧W.frozen? ⟨b,j,none⟩=false:=by
 refine⟨?_,World.ownsRow.frozenAt h j⟩;rw[World.ownsRow.cellAt h j hj,ef,z7 hj];rfl
theorem yG {W:World} {B:Nat} {ty:TypeId} {s b n:Nat} {f g:Nat→Value} (h:eR W B ty s b n f) (he :∀j,j<n*s→f j=g j):eR W B ty s b n g:=by
 unfold eR at h ⊢;rw[show(List.range (n*s)).map g=(List.range (n*s)).map f from wU fun j hj=>(he j (sI.1 hj)).symm]
 exact h
theorem qi {W:World} {B:Nat} {ty:TypeId} {s b n:Nat} {f:Nat→Value} (h:eR W B ty s b n f) (j:Nat) (v:Value):eR (W.setCell ⟨b,j,none⟩ v) B ty s b n (fun i=>if i=j then v else f i):=by
 have h1:=(World.ownsRow.stored h j v).1;unfold eR;rw[show(List.range (n*s)).map (fun i=>if i=j then v else f i)=((List.range (n*s)).map f).set j v from ?_]
 ·exact h1
 ·refine KW fun i=>?_
  rw[ef,List.getElem?_set];by_cases hi:j=i
  ·subst hi
   rw[aj rfl,bS,List.length_range];by_cases hl:j<n*s
   ·rw[aj hl,z7 hl];simp
   ·rw[ae hl,ui (by simpa using hl)];rfl
  ·rw[ae hi,ef]
   by_cases hl:i<n*s
   ·rw[z7 hl]
    simp only[pZ];rw[ae fun e=>hi e.symm]
   ·rw[ui (by simpa using hl)];rfl
theorem kS {W:World} {B:Nat} {ty:TypeId} {s b n:Nat} {f:Nat→Value} (h:eR W B ty s b n f) :∃cs,W.heap[b]? = some (.cells cs ty (0,0)):=by
 rcases h.2 with ⟨e,_⟩ | ⟨g,cap,cur,e,_,hg,_⟩
 ·cases e
 ·injection e with e
  injection e with e;injection e with e _;subst e;exact⟨cur,hg⟩
theorem Lw {W:World} {B b n:Nat} {ty:TypeId} {u:Nat→Int×Int} (h:eR W B ty 2 b n (wq u)) (i:Nat) (x:Int×Int) :
  eR ((W.setCell ⟨b,i*2,none⟩ (.int .i64 x.1)).setCell ⟨b,i*2+1,none⟩ (.int .i64 x.2)) B ty 2 b n (wq fun j=>if j=i then x else u j):=by
 refine yG (qi (qi h (i*2) (.int .i64 x.1)) (i*2+1) (.int .i64 x.2)) fun j _=>?_
 unfold wq;by_cases h1:j=i*2+1
 ·subst h1
  rw[aj rfl,ae (by omega)]
  dsimp only
  rw[aj (by omega)]
 ·rw[ae h1]
  by_cases h2:j=i*2
  ·subst h2
   rw[aj rfl,aj (by omega)]
   dsimp only
   rw[aj (by omega)]
  ·rw[ae h2]
   by_cases h3:j % 2=0
   ·rw[aj h3,aj h3]
    dsimp only
    rw[ae (by omega)]
   ·rw[ae h3,ae h3]
    dsimp only
    rw[ae (by omega)]
theorem Lx {W:World} {B b n:Nat} {ty:TypeId} {o:Nat→Int} (h:eR W B ty 1 b n (Hi o)) (i:Nat) (x:Int):eR (W.setCell ⟨b,i,none⟩ (.int .i64 x)) B ty 1 b n (Hi fun j=>if j=i then x else o j):=by
 refine yG (qi h i (.int .i64 x)) fun j _=>?_
 unfold Hi;by_cases h1:j=i
 ·rw[aj h1]
  dsimp only
  rw[aj h1]
 ·rw[ae h1]
  dsimp only
  rw[ae h1]
theorem kT {W W':World} {B:Nat} {ty ty':TypeId} {s g n:Nat} {f:Nat→Value} (h:eR W B ty s g n f) (ho:Km ty' W W') (he:ty≠ty'):eR W' B ty s g n f:=da h ho he
theorem iv {α:Type} {f:α→List Value} {s:Nat} (hs :∀a,(f a).length=s) :∀(l:List α) (i j:Nat) (a:α),l[i]? = some a→j<s→(l.flatMap f)[i*s+j]? = (f a)[j]?
 | [],i,j,a,h,_=>by simp at h
 | x::l,0,j,a,h,hj=>by
  injection h with h;subst h;rw[iC,EU,jg,kL (by rw[hs];exact hj)]
 | x::l,i+1,j,a,h,hj=>by
  rw[iC,zV (by rw[hs,EV];omega),hs,show(i+1)*s+j-s=i*s+j by rw[EV];omega]
  exact iv hs l i j a h hj
theorem qj (x:nX):(Rx x).length=6:=rfl
theorem AE (x:wm):(uM x).length=3:=rfl
theorem Fk (x:tH):(Kn x).length=2:=rfl
theorem uN {T:List Nd} {ks:List Lt} (mD:Lt.mW T ks) {k:Nat} {x:Lt} (hx:ks[k]? = some x):Lt.In T x∧T[x.loc]? = some x.hd:=by
 have h:=Fc mD x (aV hx);exact⟨h,(kC h).2.1⟩
theorem ab {W:World} {g:Nat} {cs:Array Value} {ty:TypeId} (h:W.heap[g]? = some (.cells cs ty (0,0))) (j:Nat):W.cell? ⟨g,j,none⟩=cs[j]?:=cell_of_row W g j cs ty (0,0) h
theorem aE {W:World} {g:Nat} {cs:Array Value} {ty:TypeId} (h:W.heap[g]? = some (.cells cs ty (0,0))) (j:Nat):W.frozen? ⟨g,j,none⟩=false:=frozen_of_row W g j cs ty h
theorem bE {W:World} {g:Nat} {cs:Array Value} {ty:TypeId} (h:W.heap[g]? = some (.cells cs ty (0,0))) (j:Nat) (v:Value):(W.setCell ⟨g,j,none⟩ v).heap[g]? = some (.cells (cs.setIfInBounds j v) ty (0,0)):=by
 simp[World.setCell,Array.getElem?_modify,h]
theorem dM {W:World} {B e s n:Nat} {v:Value} {xs:List Value} (h:W.ownsRow B e s v n xs) :∃A c,v=.slice A n c∧n≤c∧(n=0∨∃g,A=some ⟨g,0,none⟩∧B≤g∧g<W.heap.size∧∀j,j<n*s→W.cell? ⟨g,j,none⟩=xs[j]?):=by
 rcases h.2 with ⟨rfl,h0⟩ | ⟨g,cap,cur,rfl,hB,hg,hn,hc,hs,ht⟩
 ·exact⟨none,0,by rw[h0],by omega,.inl h0⟩
 ·exact⟨_,cap,rfl,hn,.inr ⟨g,rfl,hB,(aM.1 hg).1,fun j hj=>World.ownsRow.cellAt h j hj⟩⟩
def rn (o:Option Nat) (W W':World):Prop:=W.heap.size≤W'.heap.size∧∀k,k<W.heap.size→o≠some k→W'.heap[k]? = W.heap[k]?
theorem rn.set (W:World) (g j:Nat) (v:Value):rn (some g) W (W.setCell ⟨g,j,none⟩ v):=⟨by simp[World.setCell],fun k _ hn=>Below.heap_setCell W ⟨g,j,none⟩ v k fun e=>hn (by rw[e])⟩
theorem rn.row {W W':World} {o:Option Nat} {B e s n:Nat} {v:Value} {xs:List Value} (hb:rn o W W') (h:W.ownsRow B e s v n xs) (hd :∀g,v.ownBlock=some g→o≠some g):W'.ownsRow B e s v n xs:=by
 refine⟨h.1,?_⟩;rcases h.2 with hn | ⟨g,cap,cur,rfl,hB,hg,rest⟩
 ·exact .inl hn
 ·exact .inr ⟨g,cap,cur,rfl,hB,(hb.2 g (aM.1 hg).1 (hd g rfl)).trans hg,rest⟩
theorem ei {W:World} {B B' e e' s s' n n':Nat} {v v':Value} {xs xs':List Value} (h:W.ownsRow B e s v n xs) (h':W.ownsRow B' e' s' v' n' xs') (he:e≠e') :∀g,v.ownBlock=some g→v'.ownBlock≠some g:=fun g hg wb=>by
 obtain⟨c,fz,h1⟩:=Lib.ownsRow_kind h g hg;obtain⟨c',Xt,h2⟩:=Lib.ownsRow_kind h' g wb;rw[h1] at h2;injection h2 with h2;injection h2 with _ h2;exact he h2
theorem qk {α:Type} {f:α→List Value} {s:Nat} (hs :∀a,(f a).length=s) :∀(l:List α) (i j:Nat) (a b:α) (v:Value),l[i]? = some a→j<s→f b=(f a).set j v→(l.set i b).flatMap f=(l.flatMap f).set (i*s+j) v
 | [],i,j,a,b,v,h,_,_=>by simp at h
 | x::l,0,j,a,b,v,h,hj,hb=>by
  injection h with h;subst h;rw[cf,iC,iC,EU,jg,hb,List.set_append_left _ _ (by rw[hs];exact hj)]
 | x::l,i+1,j,a,b,v,h,hj,hb=>by
  rw[cg,iC,iC,List.set_append_right _ _ (by rw[hs,EV];omega),qk hs l i j a b v h hj hb,hs,show(i+1)*s+j-s=i*s+j by rw[EV];omega]
theorem rn.Xu {W W1:World} {o:Option Nat} {ty:TypeId} (h:rn o W W1) (hk :∀k,o=some k→∃c fz,W.heap[k]? = some (.cells c ty fz)):Km ty W W1 :=
 ⟨h.1,fun k c e fz hc he=>(h.2 k (aM.1 hc).1 fun ek=>by
  obtain⟨c',Xt,h1⟩:=hk k ek;rw[hc] at h1;injection h1 with h1;injection h1 with _ h1;exact he h1).trans hc⟩
theorem rn.da {W W1:World} {B ty s n:Nat} {v:Value} {xs:List Value} (hr:W.ownsRow B ty s v n xs) (h:rn v.ownBlock W W1):Km ty W W1:=h.Xu fun k hk=>Lib.ownsRow_kind hr k hk
theorem ng {L:List nX} {f:Nat} {x:nX}:(L.set f x).map (·.1)=(L.map (·.1)).set f x.1:=by rw[List.map_set]
theorem AF {ops:Array Oper} {o:Oper} {a:Act} {K:Act→World→Prop} {Q:Exit→Act→World→Prop} {E:Prop} (w0 w1:World) (cs:List Value) (hgd:o.guard=none) (sl y:Operand) (tS ty:TypeId) (i0:TypeInfo) (z:Value) (s bytes:Nat)
  (ho:o.op=.call { callee:=.builtin .append,args:=#[sl,y],argTypes:=#[tS,tS]}) (ht:Tryz.prog.underlying tS=some (.slice ty)) (hi:Tryz.prog.info? ty=some i0) (hz:i0.zero=some z) (hsz:i0.size=s) (hby:i0.bytes=bytes) (hzs:z.cells.size=s) (hs0:0<s) (Ly:bytes≤100)
  (B:Nat) (v:Value) (n:Nat) (xs:List Value) (hs:a.eval sl=v) (hown:w0.ownsRow B ty s v n xs) (ee :∀(i:Nat),i<w0.heap.size→w1.heap[i]? = w0.heap[i]?) (g:Nat) (hg:g=w0.heap.size) (hy:a.eval y=.slice (some ⟨g,0,none⟩) 1 1)
  (hcell:w1.heap[g]? = some (.cells cs.toArray ty (0,0))) (C7:cs.length=s) (h1c :∀u∈cs,u.oneCell'=true) (hlen:n≤1000000) (hB:B≤w0.heap.size) (hle:w0.heap.size≤w1.heap.size) (Xv:w1.os=w0.os∧w1.tape=w0.tape∧w1.output=w0.output)
  (h :∀g' c' w',w'.ownsRow B ty s (.slice (some ⟨g',0,none⟩) (n+1) c') (n+1) (xs++cs)→rn v.ownBlock w0 w'→Below B w0 w'→(v.ownBlock=some g'∨w0.heap.size≤g')→K (a.put o.dst (.slice (some ⟨g',0,none⟩) (n+1) c')) w') :
  if Region.wanted o (yielded ops a.tmps)=true then Oper.wp Tryz.prog o a w1 K Q else E:=by
 subst hg;have hown1:w1.ownsRow B ty s v n xs:=rn.row (o:=none) ⟨hle,fun k hk _=>ee k hk⟩ hown (fun _ _ e=>by cases e)
 have hpl :∀j:Nat,(⟨w0.heap.size,0,none⟩:Addr).add j=⟨w0.heap.size,j,none⟩:=fun j=>by unfold Addr.add;split<;>simp_all
 refine step_append_lies (P:=Tryz.prog) w1 hgd sl y tS ho B ty i0 z s bytes ht hi hz hsz hby hzs hs0 v n xs hs hown1 ⟨w0.heap.size,0,none⟩ 1 1 cs hy (by rw[C7,E0])
  (fun j u hj=>by rw[hpl];simpa[World.cell?,hcell] using hj) h1c (by omega) (by unfold maxLen;omega) (aL (Nat.mul_le_mul_left _ Ly) (by omega)) (by omega) w1.heap.size rfl ?_
 intro g' c' w' r1 r2 r3 _;refine h g' c' w' r1 ⟨aL hle r2.size,fun k hk hn=>(r2.block k (by omega) fun e=>hn e.symm).trans (ee k hk)⟩ ⟨?_,?_,?_,aL hle r2.size,fun k hk=>?_⟩ (r3.imp id fun e=>by omega)
 ·exact r2.os.trans Xv.1
 ·exact r2.tape.trans Xv.2.1
 ·exact r2.output.trans Xv.2.2
 ·refine(r2.block k (by omega) fun e=>?_).trans (ee k (by omega))
  have:=(hown.lt k e.symm).1;omega
theorem Xw {ops:Array Oper} {rest:List Oper} {o:Oper} {a:Act} {Q:Exit→Act→World→Prop} (w:World) (cs:List Value) (hgd:o.guard=none) (sl y:Operand) (tS ty:TypeId) (i0:TypeInfo) (z:Value) (s bytes:Nat)
  (ho:o.op=.call { callee:=.builtin .append,args:=#[sl,y],argTypes:=#[tS,tS]}) (ht:Tryz.prog.underlying tS=some (.slice ty)) (hi:Tryz.prog.info? ty=some i0) (hz:i0.zero=some z) (hsz:i0.size=s) (hby:i0.bytes=bytes) (hzs:z.cells.size=s) (hs0:0<s) (Ly:bytes≤100)
  (B:Nat) (v:Value) (n:Nat) (xs:List Value) (hs:a.eval sl=v) (hown:w.ownsRow B ty s v n xs) (g:Nat) (hg:g=w.heap.size) (hy:a.eval y=.slice (some ⟨g,0,none⟩) 1 1)
  (C7:cs.length=s) (h1c :∀u∈cs,u.oneCell'=true) (hlen:n≤1000000) (hB:B≤w.heap.size)
  (h :∀g' c' w',w'.ownsRow B ty s (.slice (some ⟨g',0,none⟩) (n+1) c') (n+1) (xs++cs)→rn v.ownBlock w w'→Below B w w'→(v.ownBlock=some g'∨w.heap.size≤g')→wpList Tryz.prog ops Q rest (a.put o.dst (.slice (some ⟨g',0,none⟩) (n+1) c')) w') :
  wpList Tryz.prog ops Q (o::rest) a (w.alloc (.cells cs.toArray ty)):=by
 subst hg;have hcell:=heap_alloc_new w (.cells cs.toArray ty);have hpl :∀j:Nat,(⟨w.heap.size,0,none⟩:Addr).add j=⟨w.heap.size,j,none⟩:=fun j=>by unfold Addr.add;split<;>simp_all
 have Dc:(w.alloc (.cells cs.toArray ty)).heap.size=w.heap.size+1:=ao _ _;refine wpList_append_lies (P:=Tryz.prog) _ hgd sl y tS ho B ty i0 z s bytes ht hi hz hsz hby hzs hs0 v n xs hs (hown.alloc _) ⟨w.heap.size,0,none⟩ 1 1 cs hy (by rw[C7,E0])
  (fun j u hj=>by rw[hpl,cell_of_row _ _ j _ ty (0,0) hcell];simpa using hj) h1c (by omega) (by unfold maxLen;omega) (aL (Nat.mul_le_mul_left _ Ly) (by omega)) (by omega) (w.heap.size+1) Dc ?_
 intro g' c' w' r1 r2 r3 _;have yE:=r2.size;refine h g' c' w' r1 ⟨by omega,fun k hk hn=>(r2.block k (by omega) fun e=>hn e.symm).trans (Below.heap_alloc w _ k hk)⟩ ⟨r2.os,r2.tape,r2.output,by omega,fun k hk=>?_⟩ (r3.imp id fun e=>by omega)
 refine(r2.block k (by omega) fun e=>?_).trans (Below.heap_alloc w _ k (by omega))
 have:=(hown.lt k e.symm).1;omega
theorem xk {α:Type} {f:α→List Value} :∀(l:List α) (i:Nat) (a b:α),l[i]? = some a→f b=f a→(l.set i b).flatMap f=l.flatMap f
 | [],i,a,b,h,_=>by simp at h
 | x::l,0,a,b,h,hb=>by
  injection h with h;subst h;rw[cf,iC,iC,hb]
 | x::l,i+1,a,b,h,hb=>by rw[cg,iC,iC,xk l i a b h hb]
end Go.Proofs.YtodmcdfeldkocaaGreatDoor
namespace Go.Proofs.YtodmcdfeldkocaaGreatDoor
open Go.RowKit Go.Maps
def uO:Value→Option (DataW Unit)
 | .int .i64 a=>some (.lit (.int .i64 a))
 | .agg c=>match c.toList with
  | [.int .i64 a,.int .i64 b]=>some (.agg [.lit (.int .i64 a),.lit (.int .i64 b)])
  | _=>none
 | _=>none
theorem uP {v:Value} {d:DataW Unit} (h:uO v=some d):(∃a,v=.int .i64 a∧d=.lit (.int .i64 a))∨∃a b,v=.agg #[.int .i64 a,.int .i64 b]∧d=.agg [.lit (.int .i64 a),.lit (.int .i64 b)]:=by
 unfold uO at h;split at h
 ·injection h with h
  exact .inl ⟨_,rfl,h.symm⟩
 ·rename_i c
  split at h
  ·rename_i a b hc
   injection h with h;refine .inr ⟨a,b,?_,h.symm⟩;obtain⟨l⟩:=c;have:l=[.int .i64 a,.int .i64 b]:=hc;rw[this]
  ·cases h
 ·cases h
theorem AG {u v:Value} {d:DataW Unit} (hu:uO u=some d) (hv:uO v=some d):u=v:=by
 rcases uP hu with ⟨a,rfl,h1⟩ | ⟨a,b,rfl,h1⟩<;>rcases uP hv with ⟨c,rfl,h2⟩ | ⟨c,e,rfl,h2⟩
 ·rw[h1] at h2;injection h2 with h2;injection h2 with _ h2;rw[h2]
 ·rw[h1] at h2;cases h2
 ·rw[h1] at h2;cases h2
 ·rw[h1] at h2
  injection h2 with h2;injection h2 with h2 h3;injection h3 with h3 _;injection h2 with h2;injection h2 with _ h2;injection h3 with h3;injection h3 with _ h3;rw[h2,h3]
def Lz (v:Value):Option (DataW Unit×List MemPlace):=(uO v).map fun d=>(d,[])
theorem Hj {v:Value} {d:DataW Unit} {ps:List MemPlace} (h:Lz v=some (d,ps)):uO v=some d:=by
 unfold Lz at h;cases e:uO v with
 | none=>rw[e] at h;cases h
 | some x=>rw[e] at h;injection h with h;injection h with h _;rw[h]
def dK (P:Program) (k:TypeId) (W:World) (b n:Nat) (f:ByteArray→Option Value):Prop :=
 ∃D:DataW Unit,W.ownsMap P k Lz b n D∧∀s:ByteArray,s.size≤maxLen→match f s with
  | some v=>(uO v).isSome=true∧∀z,D.atKey (.string s.data.toList) z=(uO v).getD z
  | none=>∀z,D.atKey (.string s.data.toList) z=z
section
variable {P:Program} {k:TypeId} {W:World} {b n:Nat} {f:ByteArray→Option Value}
theorem dK.lt (h:dK P k W b n f):b<W.heap.size:=by obtain⟨D,h1,_⟩:=h;exact h1.lt
theorem dK.made (W:World) (P:Program) (k:TypeId):dK P k (W.alloc (.map #[] 0)) W.heap.size 0 (fun _=>none) :=
 ⟨_,World.ownsMap_made _ _ _ _,fun s _ z=>by simp[DataW.atKey]⟩
theorem dK.same {W':World} (h:dK P k W b n f) (hb:W'.heap[b]? = W.heap[b]?):dK P k W' b n f:=by
 obtain⟨D,⟨es,clock,h1,h2,h3,h4⟩,h5⟩:=h;exact⟨D,⟨es,clock,hb.trans h1,h2,h3,h4⟩,h5⟩
theorem dK.ext {g:ByteArray→Option Value} (h:dK P k W b n f) (he :∀s,f s=g s):dK P k W b n g:=by
 have:f=g:=funext he;rwa[←this]
theorem dK.mono {m:Nat} (h:dK P k W b n f) (he:n≤m):dK P k W b m f:=by
 obtain⟨D,h1,h2⟩:=h;exact⟨D,h1.mono he,h2⟩
theorem dK.isMap (h:dK P k W b n f) :∃es c,W.heap[b]? = some (.map es c):=by
 obtain⟨D,⟨es,clock,h1,_⟩,_⟩:=h;exact⟨es,clock,h1⟩
theorem dK.look {t e:TypeId} (h:dK P k W b n f) (hk:P.underlying k=some .string) (ht:P.underlying t=some (.map k e)) {z:Value} (hz:(zeroValue e).run P W=.ok z W) (hze:(uO z).isSome=true) (s:ByteArray) (hs:s.size≤maxLen) :
  (Instr.lookup t (.map (some b)) (.string s) true).run P W=.ok (.tuple #[(f s).getD z,.bool (f s).isSome]) W:=by
 obtain⟨D,h1,h2⟩:=h;obtain⟨zd,hzd⟩:=zX.1 hze;obtain⟨v,ps,hr,hv⟩:=h1.look_ok (string_keyed hk) ht hz (zd:=zd) (zp:=[]) (by unfold Lz;rw[hzd];rfl) (Go.WideMaps.keyOf_string_mk hk hs)
 have hv:=Hj hv;have h3:=h2 s hs;cases e1:f s with
 | none =>
  rw[e1] at h3;rw[h3 zd] at hv;rw[hr,has_false_of_atKey h3,AG hv hzd];rfl
 | some u =>
  rw[e1] at h3;obtain⟨ud,hud⟩:=zX.1 h3.1;have h4 :∀z,D.atKey (.string s.data.toList) z=ud:=fun z=>by rw[h3.2 z,hud];rfl
  rw[h4 zd] at hv;rw[hr,has_true_of_atKey h4,AG hv hud];rfl
theorem LB {a b:ByteArray} (h:a.data.toList=b.data.toList):a=b:=by
 cases a;cases b;exact az ByteArray.mk (Array.toList_inj.1 h)
theorem dK.put {t e:TypeId} (h:dK P k W b n f) (hk:P.underlying k=some .string) (ht:P.underlying t=some (.map k e)) (hn:n<maxLen) (s:ByteArray) (hs:s.size≤maxLen) (v:Value) (hv:(uO v).isSome=true) :
  ∃W',(Instr.mapUpdate t (.map (some b)) (.string s) v).run P W=.ok () W'∧dK P k W' b (n+1) (fun x=>if x=s then some v else f x)∧W.grownBy W' (some b):=by
 obtain⟨D,h1,h2⟩:=h;obtain⟨d,hd⟩:=zX.1 hv;obtain⟨W',hr,h3,h4⟩:=h1.update (string_keyed hk) ht hn (d:=d) (ps:=[]) (Go.WideMaps.keyOf_string_mk hk hs) (by unfold Lz;rw[hd];rfl)
 refine⟨W',hr,⟨_,h3,fun x hx=>?_⟩,h4⟩
 have hD:IsMap D:=h1.isMap;by_cases e:x=s
 ·subst e
  dsimp only
  rw[aj rfl];refine⟨hv,fun z=>?_⟩
  rw[atKey_put_same hD (by unfold WideAt.IsKeyLit;trivial),hd]
  rfl
 ·dsimp only
  rw[ae e];have hne:(Lit.string x.data.toList) ≠ .string s.data.toList:=fun e1=>e (LB (by injection e1))
  have h5:=h2 x hx;cases e2:f x with
  | none =>
   rw[e2] at h5;exact fun z=>by rw[atKey_put_other hne];exact h5 z
  | some u =>
   rw[e2] at h5;exact⟨h5.1,fun z=>by rw[atKey_put_other hne];exact h5.2 z⟩
end
end Go.Proofs.YtodmcdfeldkocaaGreatDoor
namespace Go.Proofs.YtodmcdfeldkocaaGreatDoor
open Go.RowKit
def ach (o:Obj):Prop:=∀c e fz,o ≠ .cells c e fz
structure Fr (E:List Nat) (W W':World):Prop where
 size:W.heap.size≤W'.heap.size
 cells :∀(k:Nat) c (e:TypeId) fz,W.heap[k]? = some (.cells c e fz)→e∉E→W'.heap[k]? = some (.cells c e fz)
 others :∀(k:Nat) o,W.heap[k]? = some o→ach o→W'.heap[k]? = some o
theorem Fr.maps {E:List Nat} {W W':World} (h:Fr E W W') :∀(k:Nat) es c,W.heap[k]? = some (.map es c)→W'.heap[k]? = some (.map es c):=fun k _ _ hk=>h.others k _ hk fun _ _ _ e=>by cases e
section
variable {E E':List Nat} {W W' W2:World}
theorem Fr.refl (E:List Nat) (W:World):Fr E W W:=⟨ag _,fun _ _ _ _ h _=>h,fun _ _ h _=>h⟩
theorem Fr.trans (h:Fr E W W') (k:Fr E W' W2):Fr E W W2:=⟨aL h.size k.size,fun i c e fz hi he=>k.cells i c e fz (h.cells i c e fz hi he) he,fun i o hi ho=>k.others i o (h.others i o hi ho) ho⟩
theorem Fr.mono (h:Fr E W W') (he :∀e∈E,e∈E'):Fr E' W W':=⟨h.size,fun i c e fz hi hn=>h.cells i c e fz hi fun hm=>hn (he e hm),h.others⟩
theorem Fr.af (h:Below W.heap.size W W'):Fr E W W':=⟨h.size,fun k _ _ _ hk _=>(h.block k (aM.1 hk).1).trans hk,fun k _ hk _=>(h.block k (aM.1 hk).1).trans hk⟩
theorem Fr.alloc (o:Obj):Fr E W (W.alloc o):=Fr.af ((Below.refl _ W).alloc (ag _) o)
theorem Fr.drew (h:Fr E W W'):Fr E W W'.drew:=⟨h.size,h.cells,h.others⟩
theorem Fr.set {g:Nat} {cs:Array Value} {ty:TypeId} {fz:Nat×Nat} (h:W.heap[g]? = some (.cells cs ty fz)) (he:ty∈E) (j:Nat) (v:Value):Fr E W (W.setCell ⟨g,j,none⟩ v) :=
 ⟨by simp[World.setCell],fun k c e f hk hn=>(Below.heap_setCell W ⟨g,j,none⟩ v k (fun(e':k=g)=>by
  subst e';rw[h] at hk;injection hk with hk;injection hk with _ hk;exact hn (hk▸he))).trans hk,fun k o hk ho=>(Below.heap_setCell W ⟨g,j,none⟩ v k (fun(e':k=g)=>by
  subst e';rw[h] at hk;injection hk with hk;exact ho _ _ _ hk.symm)).trans hk⟩
theorem Fr.but {B ty s n:Nat} {v:Value} {xs:List Value} (hr:W.ownsRow B ty s v n xs) (he:ty∈E) (h:rn v.ownBlock W W'):Fr E W W':=by
 have key :∀(k:Nat) (o:Obj),W.heap[k]? = some o→(∀c fz,o ≠ .cells c ty fz)→W'.heap[k]? = some o:=fun k o hk ho=>(h.2 k (aM.1 hk).1 fun ek=>by
  obtain⟨c,fz,h1⟩:=Lib.ownsRow_kind hr k ek;rw[hk] at h1;injection h1 with h1;exact ho _ _ h1).trans hk
 exact⟨h.1,fun k c e fz hk hn=>key k _ hk fun c' Xt e1=>by injection e1 with _ e1;exact hn (e1▸he),fun k o hk ho=>key k _ hk fun _ _ e1=>ho _ _ _ e1⟩
theorem Fr.row {B e s n:Nat} {v:Value} {xs:List Value} (h:Fr E W W') (hr:W.ownsRow B e s v n xs) (he:e∉E):W'.ownsRow B e s v n xs:=by
 refine⟨hr.1,?_⟩;rcases hr.2 with hn | ⟨g,cap,cur,rfl,hB,hg,rest⟩
 ·exact .inl hn
 ·exact .inr ⟨g,cap,cur,rfl,hB,h.cells g _ _ _ hg he,rest⟩
theorem Fr.map {P:Program} {k:TypeId} {b n:Nat} {f:ByteArray→Option Value} (h:Fr E W W') (hm:dK P k W b n f):dK P k W' b n f:=by
 obtain⟨es,c,h1⟩:=hm.isMap;exact hm.same ((h.maps b es c h1).trans h1.symm)
theorem Fr.Xu {ty:TypeId} (h:Fr [ty] W W'):Km ty W W':=⟨h.size,fun k c e fz hk he=>h.cells k c e fz hk (by simpa using he)⟩
end
structure lN (W:World) (B:Nat) (v:Value) (L:List nX):Prop where
 row:W.ownsRow B 43 6 v L.length (L.flatMap Rx)
 vars :∀t∈L,W.ownsRow B 199 3 t.2.1 t.1.vars.length (t.1.vars.flatMap uM)
 ch :∀t∈L,W.ownsRow B 225 2 t.2.2 t.1.ch.length (t.1.ch.flatMap Kn)
 ql :∀(i j:Nat) t u,i≠j→L[i]? = some t→L[j]? = some u→∀g,t.2.1.ownBlock=some g→u.2.1.ownBlock≠some g
 rI :∀(i j:Nat) t u,i≠j→L[i]? = some t→L[j]? = some u→∀g,t.2.2.ownBlock=some g→u.2.2.ownBlock≠some g
theorem lN.Xu {W W':World} {B:Nat} {ty:TypeId} {v:Value} {L:List nX} (h:lN W B v L) (ho:Km ty W W') (h1:(43:Nat)≠ty) (h2:(199:Nat)≠ty) (h3:(225:Nat)≠ty):lN W' B v L :=
 ⟨da h.row ho h1,fun t ht=>da (h.vars t ht) ho h2,fun t ht=>da (h.ch t ht) ho h3,h.ql,h.rI⟩
theorem lN.form {W:World} {B:Nat} {fv:Value} {L:List nX} (h:lN W B fv L) {f:Nat} {t:nX} (hf:L[f]? = some t) :∃g c,fv=.slice (some ⟨g,0,none⟩) L.length c∧B≤g∧g<W.heap.size∧∀j,j<6→W.cell? ⟨g,f*6+j,none⟩=(Rx t)[j]?∧W.frozen? ⟨g,f*6+j,none⟩=false:=by
 have hl:=(aJ.1 hf).1;rcases h.row.2 with ⟨_,h0⟩ | ⟨g,cap,cur,rfl,hB,hg,_⟩
 ·omega
 ·refine⟨g,cap,rfl,hB,(aM.1 hg).1,fun j hj=>⟨?_,World.ownsRow.frozenAt h.row _⟩⟩
  rw[World.ownsRow.cellAt h.row (f*6+j) (by omega)]
  exact iv qj L f j t hf hj
theorem lN.LC {W W1:World} {B:Nat} {g c f:Nat} {L:List nX} {t:nX} (h:lN W B (.slice (some ⟨g,0,none⟩) L.length c) L) (hf:L[f]? = some t) (hb:rn t.2.1.ownBlock W W1) {v':Value} {vs:List wm} (hv:W1.ownsRow B 199 3 v' vs.length (vs.flatMap uM)) (hn :∀k,v'.ownBlock=some k→t.2.1.ownBlock=some k∨W.heap.size≤k) :
  lN (W1.setCell ⟨g,f*6+4,none⟩ v') B (.slice (some ⟨g,0,none⟩) L.length c) (L.set f ({ t.1 with vars:=vs},v',t.2.2)):=by
 have hl:=(aJ.1 hf).1;have Hk:=aV hf;have qm:=hb.row h.row (fun k hk e=>ei h.row (h.vars t Hk) (by decide) k hk e)
 have hst:=(World.ownsRow.stored qm (f*6+4) v').1;have LD :∃cs fz,W1.heap[g]? = some (.cells cs 43 fz):=Lib.ownsRow_kind qm g rfl;obtain⟨cs,fz,Ry⟩:=LD;have Dd:=Km.set Ry (f*6+4) v';refine⟨?_,fun u hu=>?_,fun u hu=>?_,fun i j u w' wj hi hj k hk=>?_,fun i j u w' wj hi hj k hk=>?_⟩
 ·rw[mo,qk qj L f 4 t _ v' hf (by omega) rfl]
  exact hst
 ·obtain⟨i,hi⟩:=jc.1 hu
  by_cases e:f=i
  ·subst e
   rw[dV hl] at hi;injection hi with hi;subst hi;exact da hv Dd (by decide)
  ·rw[fH e] at hi
   exact da (hb.row (h.vars u (aV hi)) (fun k hk=>fun ek=>h.ql i f u t (fun e'=>e e'.symm) hi hf k hk ek)) Dd (by decide)
 ·obtain⟨i,hi⟩:=jc.1 hu
  have key :∀u∈L,(W1.setCell ⟨g,f*6+4,none⟩ v').ownsRow B 225 2 u.2.2 u.1.ch.length (u.1.ch.flatMap Kn):=fun u hu=>da (hb.row (h.ch u hu) (fun k hk e=>ei (h.ch u hu) (h.vars t Hk) (by decide) k hk e)) Dd (by decide)
  by_cases e:f=i
  ·subst e
   rw[dV hl] at hi;injection hi with hi;subst hi;exact key t Hk
  ·rw[fH e] at hi
   exact key u (aV hi)
 ·by_cases e1:f=i
  ·subst e1
   rw[dV hl] at hi;injection hi with hi;subst hi;rw[fH wj] at hj;intro hk2;rcases hn k hk with h1|h1
   ·exact h.ql f j t w' wj hf hj k h1 hk2
   ·have:=((h.vars w' (aV hj)).lt k hk2).2
    omega
  ·rw[fH e1] at hi
   by_cases e2:f=j
   ·subst e2
    rw[dV hl] at hj;injection hj with hj;subst hj;intro hk2;rcases hn k hk2 with h1|h1
    ·exact h.ql i f u t wj hi hf k hk h1
    ·have:=((h.vars u (aV hi)).lt k hk).2
     omega
   ·rw[fH e2] at hj
    exact h.ql i j u w' wj hi hj k hk
 ·have key :∀(i:Nat) u,(L.set f ({ t.1 with vars:=vs},v',t.2.2))[i]? = some u→∃u',L[i]? = some u'∧u.2.2=u'.2.2:=fun i u hi=>by
   by_cases e1:f=i
   ·subst e1
    rw[dV hl] at hi;injection hi with hi;subst hi;exact⟨t,hf,rfl⟩
   ·rw[fH e1] at hi
    exact⟨u,hi,rfl⟩
  obtain⟨u1,a1,a2⟩:=key i u hi;obtain⟨u2,b1,b2⟩:=key j w' hj;rw[a2] at hk;rw[b2];exact h.rI i j u1 u2 wj a1 b1 k hk
theorem lN.Rz {W W1:World} {B:Nat} {g c f:Nat} {L:List nX} {t:nX} (h:lN W B (.slice (some ⟨g,0,none⟩) L.length c) L) (hf:L[f]? = some t) (hb:rn t.2.2.ownBlock W W1) {v':Value} {vs:List tH} (hv:W1.ownsRow B 225 2 v' vs.length (vs.flatMap Kn)) (hn :∀k,v'.ownBlock=some k→t.2.2.ownBlock=some k∨W.heap.size≤k) :
  lN (W1.setCell ⟨g,f*6+5,none⟩ v') B (.slice (some ⟨g,0,none⟩) L.length c) (L.set f ({ t.1 with ch:=vs},t.2.1,v')):=by
 have hl:=(aJ.1 hf).1;have Hk:=aV hf;have qm:=hb.row h.row (fun k hk e=>ei h.row (h.ch t Hk) (by decide) k hk e)
 have hst:=(World.ownsRow.stored qm (f*6+5) v').1;obtain⟨cs,fz,Ry⟩ :∃cs fz,W1.heap[g]? = some (.cells cs 43 fz):=Lib.ownsRow_kind qm g rfl;have Dd:=Km.set Ry (f*6+5) v';refine⟨?_,fun u hu=>?_,fun u hu=>?_,fun i j u w' wj hi hj k hk=>?_,fun i j u w' wj hi hj k hk=>?_⟩
 ·rw[mo,qk qj L f 5 t _ v' hf (by omega) rfl]
  exact hst
 ·obtain⟨i,hi⟩:=jc.1 hu
  have key :∀u∈L,(W1.setCell ⟨g,f*6+5,none⟩ v').ownsRow B 199 3 u.2.1 u.1.vars.length (u.1.vars.flatMap uM):=fun u hu=>da (hb.row (h.vars u hu) (fun k hk e=>ei (h.vars u hu) (h.ch t Hk) (by decide) k hk e)) Dd (by decide)
  by_cases e:f=i
  ·subst e
   rw[dV hl] at hi;injection hi with hi;subst hi;exact key t Hk
  ·rw[fH e] at hi
   exact key u (aV hi)
 ·obtain⟨i,hi⟩:=jc.1 hu
  by_cases e:f=i
  ·subst e
   rw[dV hl] at hi;injection hi with hi;subst hi;exact da hv Dd (by decide)
  ·rw[fH e] at hi
   exact da (hb.row (h.ch u (aV hi)) (fun k hk=>fun ek=>h.rI i f u t (fun e'=>e e'.symm) hi hf k hk ek)) Dd (by decide)
 ·have key :∀(i:Nat) u,(L.set f ({ t.1 with ch:=vs},t.2.1,v'))[i]? = some u→∃u',L[i]? = some u'∧u.2.1=u'.2.1:=fun i u hi=>by
   by_cases e1:f=i
   ·subst e1
    rw[dV hl] at hi;injection hi with hi;subst hi;exact⟨t,hf,rfl⟩
   ·rw[fH e1] at hi
    exact⟨u,hi,rfl⟩
  obtain⟨u1,a1,a2⟩:=key i u hi;obtain⟨u2,b1,b2⟩:=key j w' hj;rw[a2] at hk;rw[b2];exact h.ql i j u1 u2 wj a1 b1 k hk
 ·by_cases e1:f=i
  ·subst e1
   rw[dV hl] at hi;injection hi with hi;subst hi;rw[fH wj] at hj;intro hk2;rcases hn k hk with h1|h1
   ·exact h.rI f j t w' wj hf hj k h1 hk2
   ·have:=((h.ch w' (aV hj)).lt k hk2).2
    omega
  ·rw[fH e1] at hi
   by_cases e2:f=j
   ·subst e2
    rw[dV hl] at hj;injection hj with hj;subst hj;intro hk2;rcases hn k hk2 with h1|h1
    ·exact h.rI i f u t wj hi hf k hk h1
    ·have:=((h.ch u (aV hi)).lt k hk).2
     omega
   ·rw[fH e2] at hj
    exact h.rI i j u w' wj hi hj k hk
structure eS (W:World) (B b:Nat) (nv:Value) (N:Nat) (st:aI) (fv:Value) (ub ob:Nat) (L:List nX):Prop where
 blk:W.heap[b]? = some (.cells #[nv,fv,.slice (some ⟨ub,0,none⟩) N N,.slice (some ⟨ob,0,none⟩) N N] 64 (0,0))
 fns:lN W B fv L
 are:L.map (·.1)=st.fns
 uses:eR W B 140 2 ub N (wq st.uses)
 wy:eR W B 3 1 ob N (Hi st.of)
 pos:B≤b
section
variable {W W1 W':World} {B b:Nat} {nv:Value} {N:Nat} {st:aI} {fv:Value} {ub ob:Nat} {L:List nX}
theorem eS.on {s2:aI} (h:eS W B b nv N st fv ub ob L) (e1:s2.fns=st.fns) (e2:s2.uses=st.uses) (e3:s2.of=st.of):eS W B b nv N s2 fv ub ob L :=
 ⟨h.blk,h.fns,by rw[e1];exact h.are,by rw[e2];exact h.uses,by rw[e3];exact h.wy,h.pos⟩
theorem eS.fr {E:List Nat} (h:eS W B b nv N st fv ub ob L) (k:Fr E W W') (he:(64:Nat)∉E∧(43:Nat)∉E∧(199:Nat)∉E∧(225:Nat)∉E∧(140:Nat)∉E∧(3:Nat)∉E):eS W' B b nv N st fv ub ob L :=
 ⟨k.cells b _ _ _ h.blk he.1,⟨k.row h.fns.row he.2.1,fun t ht=>k.row (h.fns.vars t ht) he.2.2.1,fun t ht=>k.row (h.fns.ch t ht) he.2.2.2.1,h.fns.ql,h.fns.rI⟩,h.are,k.row h.uses he.2.2.2.2.1,k.row h.wy he.2.2.2.2.2,h.pos⟩
theorem eS.drew (h:eS W B b nv N st fv ub ob L):eS W.drew B b nv N st fv ub ob L:=h.fr (E:=[]) (Fr.refl _ W).drew (by decide)
theorem eS.alloc (h:eS W B b nv N st fv ub ob L) (o:Obj):eS (W.alloc o) B b nv N st fv ub ob L:=h.fr (E:=[]) (Fr.alloc o) (by decide)
theorem eS.later (h:eS W B b nv N st fv ub ob L) (hb:Below W.heap.size W W'):eS W' B b nv N st fv ub ob L:=h.fr (E:=[]) (Fr.af hb) (by decide)
theorem eS.LF (h:eS W B b nv N st fv ub ob L) (ho:Fr [140] W W') {u:Nat→Int×Int} (hu:eR W' B 140 2 ub N (wq u)):eS W' B b nv N { st with uses:=u} fv ub ob L :=
 ⟨ho.cells b _ _ _ h.blk (by decide),h.fns.Xu ho.Xu (by decide) (by decide) (by decide),h.are,hu,ho.row h.wy (by decide),h.pos⟩
theorem eS.RC (h:eS W B b nv N st fv ub ob L) (ho:Fr [3] W W') {o:Nat→Int} (hu:eR W' B 3 1 ob N (Hi o)):eS W' B b nv N { st with of:=o} fv ub ob L :=
 ⟨ho.cells b _ _ _ h.blk (by decide),h.fns.Xu ho.Xu (by decide) (by decide) (by decide),h.are,ho.row h.uses (by decide),hu,h.pos⟩
theorem lO (h:eS W B b nv N st fv ub ob L) (i:Nat) (x y:Value):Fr [140] W ((W.setCell ⟨ub,i*2,none⟩ x).setCell ⟨ub,i*2+1,none⟩ y):=by
 obtain⟨cs,hc⟩:=kS h.uses;obtain⟨cs',hc'⟩:=kS (qi h.uses (i*2) x);exact(Fr.set hc (by decide) _ _).trans (Fr.set hc' (by decide) _ _)
theorem eS.use (h:eS W B b nv N st fv ub ob L) (i:Nat) (x:Int×Int):eS ((W.setCell ⟨ub,i*2,none⟩ (.int .i64 x.1)).setCell ⟨ub,i*2+1,none⟩ (.int .i64 x.2)) B b nv N (st.dw i x) fv ub ob L :=
 h.LF (lO h i _ _) (Lw h.uses i x)
theorem uQ (h:eS W B b nv N st fv ub ob L) (i:Nat) (x:Value):Fr [3] W (W.setCell ⟨ob,i,none⟩ x):=by
 obtain⟨cs,hc⟩:=kS h.wy;exact Fr.set hc (by decide) _ _
theorem eS.of_ (h:eS W B b nv N st fv ub ob L) (i f:Nat):eS (W.setCell ⟨ob,i,none⟩ (.int .i64 (f:Int))) B b nv N (st.setOf i f) fv ub ob L :=
 h.RC (uQ h i _) (Lx h.wy i (f:Int))
theorem eS.jh (h:eS W B b nv N st fv ub ob L):B≤ub∧B≤ob:=⟨(h.uses.lt ub rfl).1,(h.wy.lt ob rfl).1⟩
theorem uR (h:eS W B b nv N st fv ub ob L) (i:Nat) (x y:Value):Below B W ((W.setCell ⟨ub,i*2,none⟩ x).setCell ⟨ub,i*2+1,none⟩ y):=((Below.refl B W).setCell (p:=⟨ub,i*2,none⟩) h.jh.1 x).setCell (p:=⟨ub,i*2+1,none⟩) h.jh.1 y
theorem eS.AH {W2:World} (h:eS W B b nv N st fv ub ob L) {ty:TypeId} (ho:Fr [ty] W W1) (h1:(64:Nat)≠ty∧(140:Nat)≠ty∧(3:Nat)≠ty) (Hl:Fr [43] W1 W2) {L':List nX} {F':List dm} (hF:lN W2 B fv L') (ha:L'.map (·.1)=F'):eS W2 B b nv N { st with fns:=F'} fv ub ob L' :=
 ⟨Hl.cells b _ _ _ (ho.cells b _ _ _ h.blk (by simpa using h1.1)) (by decide),hF,ha,Hl.row (ho.row h.uses (by simpa using h1.2.1)) (by decide),Hl.row (ho.row h.wy (by simpa using h1.2.2)) (by decide),h.pos⟩
theorem eS.sO (h:eS W B b nv N st fv ub ob L) {f:Nat} {t:nX} (hf:L[f]? = some t):st.fns[f]? = some t.1∧st.fn f=t.1:=by
 have:st.fns[f]? = some t.1:=by rw[←h.are,ef,hf];rfl
 exact⟨this,by unfold aI.fn;rw[jZ,this];rfl⟩
theorem eS.AI (h:eS W B b nv N st fv ub ob L) {f:Nat} (hf:f<st.fns.length) :∃t,L[f]? = some t:=⟨L[f]'(by have:=az List.length h.are;rw[bS] at this;omega),bt _⟩
theorem eS.len (h:eS W B b nv N st fv ub ob L):L.length=st.fns.length:=by have:=az List.length h.are;rwa[bS] at this
theorem eS.LG {g c f:Nat} {t:nX} (h:eS W B b nv N st (.slice (some ⟨g,0,none⟩) L.length c) ub ob L) (hf:L[f]? = some t) (hb:rn t.2.1.ownBlock W W1) {v':Value} {vs:List wm} (hv:W1.ownsRow B 199 3 v' vs.length (vs.flatMap uM)) (hn :∀k,v'.ownBlock=some k→t.2.1.ownBlock=some k∨W.heap.size≤k) :
  eS (W1.setCell ⟨g,f*6+4,none⟩ v') B b nv N (st.oQ f { t.1 with vars:=vs}) (.slice (some ⟨g,0,none⟩) L.length c) ub ob (L.set f ({ t.1 with vars:=vs},v',t.2.2))∧Fr [43,199,225] W (W1.setCell ⟨g,f*6+4,none⟩ v'):=by
 have Hk:=aV hf;have ho:Fr [199] W W1:=Fr.but (h.fns.vars t Hk) (by decide) hb
 have qm:=hb.row h.fns.row (fun k hk e=>ei h.fns.row (h.fns.vars t Hk) (by decide) k hk e)
 obtain⟨cs,fz,Ry⟩ :∃cs fz,W1.heap[g]? = some (.cells cs 43 fz):=Lib.ownsRow_kind qm g rfl;refine⟨h.AH ho (by decide) (Fr.set Ry (by decide) (f*6+4) v') (h.fns.LC hf hb hv hn) ?_,(ho.mono (by decide)).trans ((Fr.set (E:=[43]) Ry (by decide) _ _).mono (by decide))⟩
 rw[ng,h.are]
theorem eS.RD {g c f:Nat} {t:nX} (h:eS W B b nv N st (.slice (some ⟨g,0,none⟩) L.length c) ub ob L) (hf:L[f]? = some t) (hb:rn t.2.2.ownBlock W W1) {v':Value} {vs:List tH} (hv:W1.ownsRow B 225 2 v' vs.length (vs.flatMap Kn)) (hn :∀k,v'.ownBlock=some k→t.2.2.ownBlock=some k∨W.heap.size≤k) :
  eS (W1.setCell ⟨g,f*6+5,none⟩ v') B b nv N (st.oQ f { t.1 with ch:=vs}) (.slice (some ⟨g,0,none⟩) L.length c) ub ob (L.set f ({ t.1 with ch:=vs},t.2.1,v'))∧Fr [43,199,225] W (W1.setCell ⟨g,f*6+5,none⟩ v'):=by
 have Hk:=aV hf;have ho:Fr [225] W W1:=Fr.but (h.fns.ch t Hk) (by decide) hb
 have qm:=hb.row h.fns.row (fun k hk e=>ei h.fns.row (h.fns.ch t Hk) (by decide) k hk e)
 obtain⟨cs,fz,Ry⟩ :∃cs fz,W1.heap[g]? = some (.cells cs 43 fz):=Lib.ownsRow_kind qm g rfl;refine⟨h.AH ho (by decide) (Fr.set Ry (by decide) (f*6+5) v') (h.fns.Rz hf hb hv hn) ?_,(ho.mono (by decide)).trans ((Fr.set (E:=[43]) Ry (by decide) _ _).mono (by decide))⟩
 rw[ng,h.are]
end
theorem eS.cap {W:World} {B b:Nat} {nv:Value} {N:Nat} {st:aI} {fv:Value} {ub ob:Nat} {L:List nX} {f i gv c:Nat} {y:dm} {yu:Value} {v:wm} (h:eS W B b nv N st fv ub ob L) (hf:L[f]? = some (y,.slice (some ⟨gv,0,none⟩) y.vars.length c,yu)) (hi:y.vars[i]? = some v) :
  eS (W.setCell ⟨gv,i*3+2,none⟩ (.bool true)) B b nv N (st.oQ f (cY y i)) fv ub ob (L.set f (cY y i,.slice (some ⟨gv,0,none⟩) y.vars.length c,yu)):=by
 have hl:=(aJ.1 hf).1;have hm:=aV hf;have hr:=h.fns.vars _ hm;obtain⟨cs,fz,hk⟩:=Lib.ownsRow_kind hr gv rfl;have ho:=Km.set hk (i*3+2) (.bool true);have hb:=rn.set W gv (i*3+2) (.bool true);have yH:cY y i={ y with vars:=y.vars.set i { v with cap:=true}}:=by unfold cY;rw[hi]
 have hst:=(World.ownsRow.stored hr (i*3+2) (.bool true)).1;have hlen:(cY y i).vars.length=y.vars.length:=by rw[yH];simp
 have get :∀(j:Nat) t,(L.set f (cY y i,.slice (some ⟨gv,0,none⟩) y.vars.length c,yu))[j]? = some t→(j=f∧t=(cY y i,.slice (some ⟨gv,0,none⟩) y.vars.length c,yu))∨(j≠f∧L[j]? = some t):=fun j t hj=>by
  by_cases e:f=j
  ·subst e
   rw[dV hl] at hj;injection hj with hj;exact .inl ⟨rfl,hj.symm⟩
  ·rw[fH e] at hj
   exact .inr ⟨fun e'=>e e'.symm,hj⟩
 have vals :∀(j:Nat) t,(L.set f (cY y i,.slice (some ⟨gv,0,none⟩) y.vars.length c,yu))[j]? = some t→∃t',L[j]? = some t'∧t.2=t'.2:=fun j t hj=>by
  rcases get j t hj with ⟨rfl,rfl⟩ | ⟨_,hj⟩
  ·exact⟨_,hf,rfl⟩
  ·exact⟨t,hj,rfl⟩
 refine⟨ho.2 b _ _ _ h.blk (by decide),⟨?_,fun t ht=>?_,fun t ht=>?_,fun p q t u hpq hp hq k iU=>?_,fun p q t u hpq hp hq k iU=>?_⟩,?_,kT h.uses ho (by decide),kT h.wy ho (by decide),h.pos⟩
 ·rw[mo,xk L f _ _ hf (by rw[yH];rfl)]
  exact da h.fns.row ho (by decide)
 ·obtain⟨j,hj⟩:=jc.1 ht
  rcases get j t hj with ⟨rfl,rfl⟩ | ⟨hne,hj⟩
  ·simp only
   rw[hlen,yH];simp only;rw[qk AE y.vars i 2 v _ (.bool true) hi (by omega) rfl]
   exact hst
  ·exact hb.row (h.fns.vars t (aV hj)) fun k hk e=>by
    injection e with e;subst e;exact h.fns.ql j f t _ hne hj hf gv hk rfl
 ·obtain⟨j,hj⟩:=jc.1 ht
  rcases get j t hj with ⟨rfl,rfl⟩ | ⟨hne,hj⟩
  ·have:=da (h.fns.ch _ hm) ho (by decide)
   simp only at this ⊢;rw[yH];exact this
  ·exact da (h.fns.ch t (aV hj)) ho (by decide)
 ·obtain⟨t',h1,e1⟩:=vals p t hp
  obtain⟨u',h2,e2⟩:=vals q u hq;rw[e1] at iU;rw[e2];exact h.fns.ql p q t' u' hpq h1 h2 k iU
 ·obtain⟨t',h1,e1⟩:=vals p t hp
  obtain⟨u',h2,e2⟩:=vals q u hq;rw[e1] at iU;rw[e2];exact h.fns.rI p q t' u' hpq h1 h2 k iU
 ·rw[ng,h.are]
  rfl
theorem Hm:(Tryz.prog.info? 199).map (fun i=>(i.zero,i.size,i.bytes))=some (some (.agg #[.string ⟨#[]⟩,.int .i64 0,.bool false]),3,32):=by kernel_rfl
theorem LH:(Tryz.prog.info? 225).map (fun i=>(i.zero,i.size,i.bytes))=some (some (.agg #[.bool false,.int .i64 0]),2,16):=by kernel_rfl
theorem LI:(Tryz.prog.info? 43).map (fun i=>(i.zero,i.size,i.bytes))=some (some (.agg #[.int .i64 0,.int .i64 0,.int .i64 0,.bool false,.slice none 0 0,.slice none 0 0]),6,80):=by kernel_rfl
theorem De:(Tryz.prog.info? 194).map (fun i=>(i.zero,i.size,i.bytes))=some (some (.agg #[.int .i64 0,.map none]),2,16):=by kernel_rfl
end Go.Proofs.YtodmcdfeldkocaaGreatDoor
namespace Go.Proofs.YtodmcdfeldkocaaGreatDoor
theorem Hn {n f:Nat} {l:Int} :∀(ns:List ByteArray) {st st':aI},dO n f l ns st=.ok st'→st'.frames=st.frames:=by
 intro ns;induction ns with
 | nil=>intro st st' h;rw[dO] at h;injection h with h;rw[h]
 | cons s ns ih =>
  intro st st' h;rw[dO] at h;split at h
  ·cases h
  ·have:=ih h
   exact this
theorem uS {n f:Nat} {l:Int} {ns:List ByteArray} {st st':aI} (h:bz n f l ns st=.ok st'):st'.frames=st.frames:=by
 have:=Hn ns h;exact this
theorem yI {n f:Nat} {s:ByteArray} {l:Int} {st st':aI} (h:lI n f s l st=.ok st'):st'.frames=st.frames∧st'.names=st.names:=by
 unfold lI at h;split at h
 ·injection h with h;rw[←h];exact⟨rfl,rfl⟩
 ·split at h
  ·injection h with h;rw[←h];exact⟨rfl,rfl⟩
  ·split at h
   ·cases h
   ·injection h with h;rw[←h];exact⟨rfl,rfl⟩
theorem rJ {n f:Nat} {l:Int} {st st':aI} (h:dX n f l st=.ok st'):st'.frames=st.frames∧st'.names=st.names:=by
 unfold dX at h;split at h
 ·cases h
 ·injection h with h;rw[←h];exact⟨rfl,rfl⟩
theorem rK {n f:Nat} {s:ByteArray} {l:Int} {st st':aI} :∀(fr:List fC),dp n f s l st fr=.ok st'→st'.frames=st.frames∧st'.names=st.names:=by
 intro fr;induction fr with
 | nil=>intro h;cases h
 | cons x fr ih =>
  intro h;rw[dp] at h;split at h
  ·exact ih h
  ·split at h
   ·exact ih h
   ·split at h
    ·cases h
    ·injection h with h;rw[←h];exact⟨rfl,rfl⟩
mutual
theorem yJ :∀(t:Lt) {f:Nat} {st st':aI},bh t f st=.ok st'→st'.frames=st.frames
 | .mk i h ks,f,jU,st',hr=>by
  rw[cV] at hr;have e0:(jU.setOf i f).frames=jU.frames:=rfl;rw[←e0];generalize jU.setOf i f=st at *;split at hr
  ·split at hr
   ·injection hr with hr;rw[←hr]
   ·cases hr
  split at hr
  ·exact(yI hr).1
  split at hr
  ·obtain⟨s1,e1,hr⟩:=bV hr
   obtain⟨s2,e2,rfl⟩:=eo hr;rfl
  split at hr
  ·obtain⟨s1,e1,hr⟩:=bV hr
   obtain⟨s2,e2,rfl⟩:=eo hr;rfl
  split at hr
  ·obtain⟨s1,e1,e2⟩:=bV hr
   exact(uS e2).trans (kU ks e1)
  split at hr
  ·obtain⟨s2,e2,rfl⟩:=eo hr
   rfl
  split at hr
  ·obtain⟨s2,e2,rfl⟩:=eo hr
   rfl
  split at hr
  ·exact LJ ks hr
  split at hr
  ·obtain⟨s1,e1,e2⟩:=bV hr
   exact(kU ks e2).trans (uS e1)
  split at hr
  ·exact(rJ hr).1
  split at hr
  ·exact(rK _ hr).1
  exact kU ks hr
theorem kU :∀(ks:List Lt) {f:Nat} {st st':aI},aG ks f st=.ok st'→st'.frames=st.frames
 | [],f,st,st',hr=>by
  rw[fg] at hr;injection hr with hr;rw[hr]
 | k::ks,f,st,st',hr=>by
  rw[eQ] at hr;obtain⟨s1,e1,e2⟩:=bV hr;exact(kU ks e2).trans (yJ k e1)
theorem LJ {i:Nat} {line:Int} {names:List ByteArray} :∀(ks:List Lt) {f:Nat} {st st':aI},iH i line names ks f st=.ok st'→st'.frames=st.frames
 | [],f,st,st',hr=>by
  unfold iH at hr;injection hr with hr;rw[hr]
 | [b],f,st,st',hr=>by
  rw[mZ] at hr;obtain⟨s1,e1,hr⟩:=bV hr;obtain⟨s2,e2,rfl⟩:=eo hr;rfl
 | a::b::l,f,st,st',hr=>by
  rw[jt] at hr;obtain⟨s1,e1,e2⟩:=bV hr;exact(LJ (b::l) e2).trans (yJ a e1)
end
def Still (k:Lt):Prop:=k.hd.kind≠19∧k.hd.kind≠28
mutual
/-- Kids of what ab9 declare for its own adV declare. -/
def Lt.Quiet:Lt→Prop
 | .mk _ h ks=>((h.kind≠11∧h.kind≠18)→∀k∈ks,Still k)∧Lt.lP ks
def Lt.lP:List Lt→Prop
 | []=>True
 | k::ks=>Lt.Quiet k∧Lt.lP ks
end
mutual
theorem Fl :∀(t:Lt) {f:Nat} {st st':aI},t.Quiet→Still t→bh t f st=.ok st'→st'.names=st.names
 | .mk i h ks,f,jU,st',hq,hs,hr=>by
  rw[cV] at hr;have e0:(jU.setOf i f).names=jU.names:=rfl;rw[←e0];generalize jU.setOf i f=st at *;unfold Lt.Quiet at hq;obtain⟨hq1,pn⟩:=hq;split at hr
  ·split at hr
   ·injection hr with hr;rw[←hr]
   ·cases hr
  split at hr
  ·exact(yI hr).2
  split at hr
  ·obtain⟨s1,e1,hr⟩:=bV hr
   obtain⟨s2,e2,rfl⟩:=eo hr;rfl
  split at hr
  ·obtain⟨s1,e1,hr⟩:=bV hr
   obtain⟨s2,e2,rfl⟩:=eo hr;rfl
  split at hr
  ·exact absurd ‹h.kind=19› hs.1
  split at hr
  ·obtain⟨s2,e2,rfl⟩:=eo hr
   rfl
  split at hr
  ·obtain⟨s2,e2,rfl⟩:=eo hr
   rfl
  split at hr
  ·exact LK ks pn (hq1 ⟨by omega,by omega⟩) hr
  split at hr
  ·exact absurd ‹h.kind=28› hs.2
  split at hr
  ·exact(rJ hr).2
  split at hr
  ·exact(rK _ hr).2
  exact qn ks pn (hq1 ⟨by assumption,by assumption⟩) hr
theorem qn :∀(ks:List Lt) {f:Nat} {st st':aI},Lt.lP ks→(∀k∈ks,Still k)→aG ks f st=.ok st'→st'.names=st.names
 | [],f,st,st',_,_,hr=>by
  rw[fg] at hr;injection hr with hr;rw[hr]
 | k::ks,f,st,st',hq,hs,hr=>by
  rw[eQ] at hr;obtain⟨s1,e1,e2⟩:=bV hr;unfold Lt.lP at hq;exact(qn ks hq.2 (fun x hx=>hs x (bQ _ hx)) e2).trans (Fl k hq.1 (hs k (bH ..)) e1)
theorem LK {i:Nat} {line:Int} {names:List ByteArray} :∀(ks:List Lt) {f:Nat} {st st':aI},Lt.lP ks→(∀k∈ks,Still k)→iH i line names ks f st=.ok st'→st'.names=st.names
 | [],f,st,st',_,_,hr=>by
  unfold iH at hr;injection hr with hr;rw[hr]
 | [b],f,st,st',_,_,hr=>by
  rw[mZ] at hr;obtain⟨s1,e1,hr⟩:=bV hr;obtain⟨s2,e2,rfl⟩:=eo hr;rfl
 | a::b::l,f,st,st',hq,hs,hr=>by
  rw[jt] at hr;obtain⟨s1,e1,e2⟩:=bV hr;unfold Lt.lP at hq;exact(LK (b::l) hq.2 (fun x hx=>hs x (bQ _ hx)) e2).trans (Fl a hq.1 (hs a (bH ..)) e1)
end
def dC (f:Nat) (fr:List fC):List fC:=fr.filter fun x=>!x.loop && decide (x.fn=f)
theorem rL {f:Nat} {x:fC} {fr:List fC} (h:x.loop=true∨x.fn≠f):dC f (x::fr)=dC f fr:=by
 unfold dC;rw[List.filter_cons_of_neg];rcases h with h|h
 ·rw[h];simp
 ·simp[h]
theorem uT {f:Nat} {x:fC} {fr:List fC} (h:x.loop=false) (h2:x.fn=f):dC f (x::fr)=x::dC f fr:=by
 unfold dC;rw[List.filter_cons_of_pos];simp[h,h2]
def gO (ks:List Lt) (n:Nat):Nat:=((ks.take n).filter isDecl).length
theorem AJ (ks:List Lt):gO ks 0=0:=rfl
theorem uU {ks:List Lt} {n:Nat} {x:Lt} (h:ks[n]? = some x):gO ks (n+1)=gO ks n+if isDecl x then 1 else 0:=by
 unfold gO;rw[jA _ _ _ h,List.filter_append,cb];congr 1
 cases e:isDecl x<;>simp[e]
theorem LL (ks:List Lt) {m n:Nat} (h:m≤n):gO ks m≤gO ks n:=by
 unfold gO;have:ks.take m=(ks.take n).take m:=by rw[List.take_take,Ab h]
 rw[this];exact((List.take_sublist m (ks.take n)).filter _).length_le
theorem LM (ks:List Lt) (n:Nat):gO ks n≤ks.length:=by
 unfold gO;exact aL (List.length_filter_le _ _) (by rw[jd];omega)
theorem Xx {ks:List Lt} {m n:Nat} (h:m≤n):gO ks m<gO ks n↔((ks.take n).drop m).any isDecl=true:=by
 have e:ks.take n=ks.take m++(ks.take n).drop m:=by
  conv=>lhs;rw[←EK m (ks.take n)]
  rw[List.take_take,Ab h]
 have e2:gO ks n=gO ks m+(((ks.take n).drop m).filter isDecl).length:=by
  conv=>lhs;unfold gO;rw[e]
  rw[List.filter_append,cb];rfl
 rw[e2,List.any_eq_true];constructor
 ·intro h1
  have h2:0<(((ks.take n).drop m).filter isDecl).length:=by omega
  obtain⟨x,hx⟩:=List.exists_mem_of_length_pos h2;exact⟨x,(wY.1 hx).1,(wY.1 hx).2⟩
 ·rintro⟨x,hx,hd⟩
  have:=List.length_pos_of_mem (wY.2 ⟨hx,hd⟩);omega
def rp (k:Lt):Bool:=decide (k.hd.kind=32)
def kV:List Lt→Nat
 | []=>0
 | k::ks=>if rp k && decide (kV ks=0) then 0 else kV ks+1
theorem rM :∀ks:List Lt,kV ks=0↔ks.all rp=true
 | []=>by simp[kV]
 | k::ks=>by
  rw[kV,sJ];have ih:=rM ks;by_cases h:rp k=true
  ·by_cases h2:kV ks=0
   ·rw[aj (by rw[h,h2];rfl),h,ih.1 h2];simp
   ·rw[ae (by rw[h];simpa using h2),h]
    have:¬ ks.all rp=true:=fun e=>h2 (ih.2 e)
    simp only[kP];constructor
    ·intro e;omega
    ·intro e;exact absurd e this
  ·have h:rp k=false:=by simpa using h
   rw[ae (by rw[h];simp),h]
   simp
theorem tN :∀(ks:List Lt) (j:Nat),j<kV ks↔¬ (ks.drop j).all rp=true
 | [],j=>by simp[kV]
 | k::ks,0=>by
  rw[oM,←rM];omega
 | k::ks,j+1=>by
  rw[List.drop_succ_cons,←tN ks j,kV];split
  ·rename_i h
   simp only[dk,iD] at h;omega
  ·omega
theorem RE {ks:List Lt} {e:Nat} (he:e≤ks.length) (h1:(ks.drop e).all rp=true) (h2:e=0∨∃x,ks[e-1]? = some x∧rp x=false):kV ks=e:=by
 have h3:¬ e<kV ks:=fun h=>(tN ks e).1 h h1
 rcases h2 with rfl | ⟨x,hx,hl⟩
 ·omega
 ·have h4:e-1<kV ks:=(tN ks (e-1)).2 fun h=>by
   have hlt:=(aJ.1 hx).1;have:x∈ks.drop (e-1):=by
    rw[jc];exact⟨0,by rw[wW];exact hx⟩
   rw[List.all_eq_true] at h;rw[h x this] at hl;cases hl
  have h5:e-1<ks.length:=(aJ.1 hx).1;rcases mQ e with h0|h0
  ·subst h0;omega
  ·omega
def rN (ks:List Lt) (rep:Bool) (j:Nat):Nat:=if rep=true∨j<kV ks then gO ks j else 0
theorem drop_at {α:Type} {l:List α} {j:Nat} {x:α} (h:l[j]? = some x):l.drop j=x::l.drop (j+1):=by
 obtain⟨hl,he⟩:=aJ.1 h;rw[pX hl,he]
theorem RF {ks:List Lt} {a j:Nat} {rep:Bool} {x:Lt} (hj:ks[j]? = some x) (hx:rp x=true):lJ ks a j rep=decide (gO ks (a+1)<rN ks rep j):=by
 have hall:(ks.drop (j+1)).all rp=(ks.drop j).all rp:=by
  rw[drop_at hj,sJ,hx,kP]
 have aan:((ks.drop (j+1)).all fun k=>decide (k.hd.kind=32))=(ks.drop j).all rp:=hall
 unfold lJ;rw[aan];have h1:((ks.take j).drop (a+1)).any isDecl=decide (gO ks (a+1)<gO ks j):=by
  by_cases h:a+1≤j
  ·have:=Xx (ks:=ks) h
   cases e:((ks.take j).drop (a+1)).any isDecl with
   | true=>rw[e] at this;exact(bN (this.2 rfl)).symm
   | false=>rw[e] at this;exact(bM fun h=>by have:=this.1 h;cases this).symm
  ·have h2:(ks.take j).drop (a+1)=[]:=List.drop_eq_nil_iff.2 (by rw[jd];omega)
   rw[h2];have:=LL ks (show j≤a+1 by omega)
   exact(bM (by omega)).symm
 rw[h1];unfold rN;cases rep with
 | true=>simp
 | false =>
  have h3:=tN ks j;cases e:(ks.drop j).all rp with
  | true =>
   rw[e] at h3;have h4:¬ j<kV ks:=fun h=>(h3.1 h) rfl
   rw[ae (by simpa using h4)]
   simp
  | false =>
   rw[e] at h3;rw[aj (.inr (h3.2 (by simp)))]
   simp
def nh (ks:List Lt) (rep:Bool) (n:Nat) (s:ByteArray):Option (Nat×Nat) :=
 match cj ks s with
 | some j=>if j<n then some ((ks.getD j (.mk 0 ⟨0,0,0,0,⟨#[]⟩,[],[]⟩ [])).loc,rN ks rep j) else none
 | none=>none
theorem Ho (ks:List Lt) (rep:Bool) (s:ByteArray):nh ks rep 0 s=none:=by
 unfold nh;split
 ·rw[ae (by omega)]
 ·rfl
theorem uV {ks:List Lt} {s:ByteArray} {j:Nat} (h:cj ks s=some j) :∃x,ks[j]? = some x∧mq s x=true∧j<ks.length:=by
 obtain⟨hlt,he,_⟩:=zU.1 h;exact⟨ks[j],bt hlt,he,hlt⟩
theorem AK (ks:List Lt) (rep:Bool) (s:ByteArray):nh ks rep ks.length s=(cj ks s).map fun j=>((ks.getD j (.mk 0 ⟨0,0,0,0,⟨#[]⟩,[],[]⟩ [])).loc,rN ks rep j):=by
 unfold nh;cases h:cj ks s with
 | none=>rfl
 | some j =>
  obtain⟨_,_,_,hlt⟩:=uV h;exact aj hlt
theorem uW {ks:List Lt} {rep:Bool} {n:Nat} {x:Lt} (hx:ks[n]? = some x) {s:ByteArray} (h:mq s x=false):nh ks rep (n+1) s=nh ks rep n s:=by
 unfold nh;cases h1:cj ks s with
 | none=>rfl
 | some j =>
  obtain⟨y,hy,hl,_⟩:=uV h1;have:j≠n:=fun e=>by
   subst e;rw[hx] at hy;injection hy with hy;rw[hy,hl] at h;cases h
  dsimp only
  by_cases h2:j<n
  ·rw[aj h2,aj (by omega)]
  ·rw[ae h2,ae (by omega)]
theorem Hp {ks:List Lt} {rep:Bool} {n:Nat} {x:Lt} (hx:ks[n]? = some x) (h:rp x=true) (hn:¬∃j,cj ks x.hd.s=some j∧j<n):nh ks rep (n+1) x.hd.s=some (x.loc,rN ks rep n):=by
 have hi:mq x.hd.s x=true:=by unfold mq;unfold rp at h;rw[h];simp
 have h1:cj ks x.hd.s=some n:=by
  cases e:cj ks x.hd.s with
  | none =>
   unfold cj at e;rw[List.findIdx?_eq_none_iff] at e;rw[e x (aV hx)] at hi;cases hi
  | some j =>
   have hj:¬ j<n:=fun hj=>hn ⟨j,e,hj⟩
   obtain⟨hlt,he,aci⟩:=zU.1 e;by_cases h2:n<j
   ·have:=aci n h2
    rw[(aJ.1 hx).2] at this;rw[hi] at this;exact absurd rfl this
   ·congr 1;omega
 unfold nh;rw[h1];dsimp only
 rw[aj (by omega),jZ,hx]
 rfl
theorem LN {ks:List Lt} {rep:Bool} {n:Nat} {s:ByteArray}:(nh ks rep n s).isSome=true↔∃j,cj ks s=some j∧j<n:=by
 unfold nh;cases h:cj ks s with
 | none=>simp
 | some j =>
  dsimp only
  by_cases h2:j<n
  ·rw[aj h2];simp[h2]
  ·rw[ae h2]
   simp[h2]
theorem nY {node f:Nat} {s:ByteArray} {line:Int} {st:aI} :∀fr:List fC,dp node f s line st fr=match (dC f fr).find? fun x=>(cj x.kids s).isSome with
  | none=>.error (8,line)
  | some x=>match cj x.kids s with
   | none=>.error (8,line)
   | some j=>if lJ x.kids x.at_ j x.rep then .error (10,line) else .ok (st.dw node (4,((x.kids.getD j (.mk 0 ⟨0,0,0,0,⟨#[]⟩,[],[]⟩ [])).loc:Int)))
 | []=>rfl
 | x::fr=>by
  rw[dp];by_cases h:x.loop=true∨x.fn≠f
  ·rw[aj h,rL h]
   exact nY fr
  ·rw[ae h]
   rw[not_or,Decidable.not_not] at h;have h1:x.loop=false:=by simpa using h.1
   rw[uT h1 h.2,kO];cases e:cj x.kids s with
   | none=>exact nY fr
   | some j =>
    dsimp only[Option.isSome]
    rw[e]
def cK (f:Nat) (fr:List fC):Int:=match fr.find? (fun x=>x.loop && decide (x.fn=f)) with|none=>-1|some x=>(x.node:Int)
theorem uX (f i:Nat) (fr:List fC):cK f (⟨f,i,0,true,false,[]⟩::fr)=(i:Int):=by
 unfold cK;rw[kO];simp
theorem uY {f:Nat} {x:fC} (h:x.loop=false) (fr:List fC):cK f (x::fr)=cK f fr:=by
 unfold cK;rw[kO,h];rfl
theorem LO (node f:Nat) (line:Int) (st:aI):dX node f line st=if cK f st.frames = -1 then .error (8,line) else .ok (st.dw node (4,cK f st.frames)):=by
 unfold dX cK;cases st.frames.find? (fun x=>x.loop && decide (x.fn=f)) with
 | none=>rfl
 | some x=>exact(ae (by show ¬ (x.node:Int) = -1;omega)).symm
theorem LP {fr:List fC} {f:Nat} {s:ByteArray}:(∃x∈fr,x.loop=false∧x.fn=f∧(cj x.kids s).isSome)↔((dC f fr).find? fun x=>(cj x.kids s).isSome).isSome=true:=by
 rw[List.find?_isSome];unfold dC;constructor
 ·rintro⟨x,hx,h1,h2,h3⟩
  exact⟨x,wY.2 ⟨hx,by simp[h1,h2]⟩,h3⟩
 ·rintro⟨x,hx,h3⟩
  obtain⟨h1,h2⟩:=wY.1 hx;simp only[dk,Bool.not_eq_true',iD] at h2;exact⟨x,h1,h2.1,h2.2,h3⟩
end Go.Proofs.YtodmcdfeldkocaaGreatDoor
namespace Go.Proofs.YtodmcdfeldkocaaGreatDoor
open Go.RowKit
structure cO where
 fn:Nat
 blk:Nat
 iw:List jr
def Fm (l:cO):List Value:=[.int .i64 (l.fn:Int),.map (some l.blk)]
theorem yK (l:cO):(Fm l).length=2:=rfl
def jX (iw:List jr) (s:ByteArray):Option Value:=(iw.find? fun n=>decide (n.s=s)).map fun n=>.int .i64 (n.i:Int)
def mu (L:List cO):List jr:=L.flatMap cO.iw
def grow (a:List jr):List cO→List cO
 | []=>[]
 | l::r=>{ l with iw:=a++l.iw}::r
theorem jF (L:List cO):grow [] L=L:=by cases L<;>rfl
theorem cy (a:List jr) (L:List cO):(grow a L).length=L.length:=by cases L<;>rfl
theorem grow_grow (a b:List jr) (L:List cO):grow b (grow a L)=grow (b++a) L:=by
 cases L with
 | nil=>rfl
 | cons l r=>simp[grow,fI]
theorem Hq {a:List jr} {L:List cO} (h:L≠[]):mu (grow a L)=a++mu L:=by
 cases L with
 | nil=>exact absurd rfl h
 | cons l r=>simp[grow,mu,fI]
def ep:List cO→Option Nat
 | []=>none
 | l::_=>some l.blk
theorem nZ (a:List jr) (L:List cO):ep (grow a L)=ep L:=by cases L<;>rfl
theorem uZ (a:List jr) (L:List cO):(grow a L).map cO.blk=L.map cO.blk:=by cases L<;>rfl
theorem rO (s:ByteArray) :∀L:List cO,(mu L).find? (fun n=>decide (n.s=s))=(L.find? fun l=>(jX l.iw s).isSome).bind fun l=>l.iw.find? fun n=>decide (n.s=s)
 | []=>rfl
 | l::L=>by
  show(l.iw++mu L).find? _=_
  rw[List.find?_append,kO];unfold jX;cases e:l.iw.find? fun n=>decide (n.s=s) with
  | none =>
   dsimp only[Option.map,Option.isSome]
   rw[Option.none_or];exact rO s L
  | some n =>
   dsimp only[Option.map,Option.isSome]
   rw[Option.some_or];exact e.symm
structure dc (W:World) (B:Nat) (v:Value) (L:List cO):Prop where
 row:W.ownsRow B 194 2 v L.length (L.reverse.flatMap Fm)
 maps :∀l∈L,dK Tryz.prog 9 W l.blk l.iw.length (jX l.iw)∧B≤l.blk
 own :∀l∈L,∀n∈l.iw,n.fn=l.fn
 apart:(L.map cO.blk).Nodup
def fD (ks:List Lt) (rep:Bool) (n:Nat) (s:ByteArray):Option Value:=(nh ks rep n s).map fun p=>.agg #[.int .i64 (p.1:Int),.int .i64 (p.2:Int)]
def bY (W:World) (B:Nat):List (Nat×Nat×(ByteArray→Option Value))→List Nat→Value→Prop
 | [],ms,v=>ms=[]∧v=.pointer none
 | x::fs,ms,v=>∃k p m CT,v=.pointer (some ⟨k,0,none⟩)∧ms=m::CT∧B≤k∧W.heap[k]? = some (.cells #[.pointer p,.map (some m),.int .i64 (x.1:Int)] 150 (0,0))∧dK Tryz.prog 9 W m x.2.1 x.2.2∧B≤m∧(∀a,p=some a→a.block<k)∧bY W B fs CT (.pointer p)
def Ko (x:fC):Nat×Nat×(ByteArray→Option Value):=(gO x.kids (x.at_+1),x.kids.length,fD x.kids x.rep x.kids.length)
def oU (W:World) (B:Nat) (fs:List fC) (ms:List Nat) (v:Value):Prop:=bY W B (fs.map Ko) ms v
structure cQ (B ob:Nat) (v:Value) (n:Nat) (top:Option Nat) (W W':World):Prop where
 below:Below B W W'
 cells :∀(k:Nat) c (e:TypeId) fz,W.heap[k]? = some (.cells c e fz)→e∉[43,199,225,140,64,3,194]→W'.heap[k]? = some (.cells c e fz)
 ints :∀(k:Nat) c fz,W.heap[k]? = some (.cells c 3 fz)→k≠ob→W'.heap[k]? = some (.cells c 3 fz)
 lvl :∀u m xs,W.ownsRow B 194 2 u m xs→(u.ownBlock=v.ownBlock→m≤n)→W'.ownsRow B 194 2 u m xs
 maps :∀(k:Nat) es c,W.heap[k]? = some (.map es c)→some k≠top→W'.heap[k]? = some (.map es c)
section
variable {B ob n:Nat} {v:Value} {top:Option Nat} {W W' W2:World}
theorem cQ.refl (B ob:Nat) (v:Value) (n:Nat) (top:Option Nat) (W:World):cQ B ob v n top W W:=⟨Below.refl _ _,fun _ _ _ _ h _=>h,fun _ _ _ h _=>h,fun _ _ _ h _=>h,fun _ _ _ h _=>h⟩
theorem cQ.trans (h:cQ B ob v n top W W') (k:cQ B ob v n top W' W2):cQ B ob v n top W W2 :=
 ⟨h.below.trans k.below,fun i c e fz hi he=>k.cells i c e fz (h.cells i c e fz hi he) he,fun i c fz hi ho=>k.ints i c fz (h.ints i c fz hi ho) ho,fun u m xs hu hm=>k.lvl u m xs (h.lvl u m xs hu hm) hm,fun i es c hi ht=>k.maps i es c (h.maps i es c hi ht) ht⟩
theorem cQ.Fo (h:cQ B ob v n none W W') (top:Option Nat):cQ B ob v n top W W':=⟨h.below,h.cells,h.ints,h.lvl,fun k es c hk _=>h.maps k es c hk (by simp)⟩
theorem cQ.uQ {E:List Nat} (h:Fr E W W') (hE :∀e∈E,e∈[43,199,225,140,64]) (hb:Below B W W'):cQ B ob v n top W W' :=
 ⟨hb,fun k c e fz hk he=>h.cells k c e fz hk fun hm=>he (dW [3,194] (hE e hm)),
  fun k c fz hk _=>h.cells k c _ fz hk fun hm=>absurd (hE _ hm) (by decide),fun u m xs hu _=>h.row hu fun hm=>absurd (hE _ hm) (by decide),fun k es c hk _=>h.maps k es c hk⟩
theorem cQ.bJ (hb:Below W.heap.size W W') (hB:B≤W.heap.size):cQ B ob v n top W W':=cQ.uQ (E:=[]) (Fr.af hb) (fun _ h=>by cases h) (hb.mono hB)
theorem cQ.aao {cs:Array Value} {fz:Nat×Nat} (h:W.heap[ob]? = some (.cells cs 3 fz)) (hB:B≤ob) (j:Nat) (x:Value):cQ B ob v n top W (W.setCell ⟨ob,j,none⟩ x):=by
 have hf:Fr [3] W (W.setCell ⟨ob,j,none⟩ x):=Fr.set h (by decide) j x
 exact⟨(Below.refl B W).setCell (p:=⟨ob,j,none⟩) hB x,fun k c e fz hk he=>hf.cells k c e fz hk fun hm=>he (by rw[bR] at hm;subst hm;decide),
  fun k c fz hk ho=>(Below.heap_setCell W ⟨ob,j,none⟩ x k ho).trans hk,fun u m xs hu _=>hf.row hu (by decide),fun k es c hk _=>hf.maps k es c hk⟩
theorem cQ.of_map {b:Nat} (hg:W.grownBy W' (some b)) (hm :∃es c,W.heap[b]? = some (.map es c)) (hB:B≤b) (hW:B≤W.heap.size):cQ B ob v n (some b) W W':=by
 obtain⟨es,c,hb⟩:=hm;have key :∀(k:Nat) (o:Obj),W.heap[k]? = some o→(∀es c,o ≠ .map es c)→W'.heap[k]? = some o:=fun k o hk ho=>(hg.block k (aM.1 hk).1 fun e=>by
  injection e with e;subst e;rw[hb] at hk;injection hk with hk;exact ho _ _ hk.symm).trans hk
 refine⟨⟨hg.os,hg.tape,hg.output,hg.size,fun k hk=>hg.block k (by omega) fun e=>by injection e with e;omega⟩,fun k c e fz hk _=>key k _ hk (fun _ _ e=>by cases e),fun k c fz hk _=>key k _ hk (fun _ _ e=>by cases e),fun u m xs hu _=>?_,fun k es c hk ht=>(hg.block k (aM.1 hk).1 ht).trans hk⟩
 refine⟨hu.1,?_⟩;rcases hu.2 with hn | ⟨g,cap,cur,rfl,hB,hg,rest⟩
 ·exact .inl hn
 ·exact .inr ⟨g,cap,cur,rfl,hB,key g _ hg (fun _ _ e=>by cases e),rest⟩
theorem cQ.map {P:Program} {k:TypeId} {b m:Nat} {f:ByteArray→Option Value} (h:cQ B ob v n top W W') (hm:dK P k W b m f) (ht:some b≠top):dK P k W' b m f:=by
 obtain⟨es,c,h1⟩:=hm.isMap;exact hm.same ((h.maps b es c h1 ht).trans h1.symm)
theorem dc.jk {L:List cO} (h:dc W B v L) (k:cQ B ob v n none W W') (hn:L.length≤n):dc W' B v L :=
 ⟨k.lvl _ _ _ h.row fun _=>hn,fun l hl=>⟨k.map (h.maps l hl).1 (by simp),(h.maps l hl).2⟩,h.own,h.apart⟩
theorem dc.more {a:List jr} {l:cO} {r:List cO} (h:dc W B v (l::r)) (k:cQ B ob v n (some l.blk) W W') (hn:(l::r).length≤n) (hm:dK Tryz.prog 9 W' l.blk (a++l.iw).length (jX (a++l.iw))) (ha :∀x∈a,x.fn=l.fn):dc W' B v (grow a (l::r)):=by
 refine⟨?_,fun u hu=>?_,fun u hu x hx=>?_,?_⟩
 ·have:=k.lvl _ _ _ h.row fun _=>hn
  rw[cy];rw[EN,oJ] at this;unfold grow;rw[EN,oJ];exact this
 ·rcases ba.1 hu with rfl|hu
  ·exact⟨hm,(h.maps l (bH ..)).2⟩
  ·have h1:=h.maps u (bQ _ hu)
   refine⟨k.map h1.1 fun e=>?_,h1.2⟩
   injection e with e;have h2:=h.apart;rw[dS,jf] at h2;exact h2.1 (e▸j3 hu)
 ·rcases ba.1 hu with rfl|hu
  ·rcases cU.1 hx with hx|hx
   ·exact ha x hx
   ·exact h.own l (bH ..) x hx
  ·exact h.own u (bQ _ hu) x hx
 ·rw[uZ]
  exact h.apart
theorem bY.jk (k:cQ B ob v n top W W') :∀{fs:List (Nat×Nat×(ByteArray→Option Value))} {ms:List Nat} {p:Value},bY W B fs ms p→(∀m∈ms,some m≠top)→bY W' B fs ms p
 | [],_,_,h,_=>h
 | x::fs,ms,p,h,ht=>by
  obtain⟨k',p',m,CT,rfl,rfl,h1,h2,h3,h4,h5,h6⟩:=h;exact⟨k',p',m,CT,rfl,rfl,h1,k.cells k' _ _ _ h2 (by decide),k.map h3 (ht m (bH ..)),h4,h5,bY.jk k h6 fun m hm=>ht m (bQ _ hm)⟩
theorem bY.later {fs:List (Nat×Nat×(ByteArray→Option Value))} {ms:List Nat} {p:Value} (h:bY W B fs ms p) (hb:Below W.heap.size W W'):bY W' B fs ms p:=by
 by_cases hB:B≤W.heap.size
 ·exact bY.jk (ob:=0) (v:=.nilIface) (n:=0) (top:=none) (cQ.bJ hb hB) h (by simp)
 ·cases fs with
  | nil=>exact h
  | cons x fs =>
   obtain⟨k,p',m,CT,rfl,rfl,h1,h2,_⟩:=h;have:=(aM.1 h2).1;omega
theorem oU.jk (k:cQ B ob v n top W W') {fs:List fC} {ms:List Nat} {p:Value} (h:oU W B fs ms p) (ht :∀m∈ms,some m≠top):oU W' B fs ms p:=bY.jk k h ht
theorem bY.form {fs:List (Nat×Nat×(ByteArray→Option Value))} {ms:List Nat} {p:Value} (h:bY W B fs ms p) :∃a,p=.pointer a:=by
 cases fs with
 | nil=>exact⟨none,h.2⟩
 | cons x fs=>obtain⟨k,_,_,_,rfl,_⟩:=h;exact⟨_,rfl⟩
end
structure oV (W:World) (B f:Nat) (p lv:Value) (ms:List Nat) (L:List cO) (st:aI):Prop where
 fw:dc W B lv L
 blk:oU W B (dC f st.frames) ms p
 names:st.names=mu L
 apart :∀m∈ms,∀l∈L,m≠l.blk
def tl (W:World) (v:Value) (n k:Int):Prop:=∃g,v=.iface 59 (.pointer (some ⟨g,0,none⟩))∧W.heap[g]? = some (.cells #[.int .i64 n,.iface 60 (.int .i64 k)] 62 (0,0))
def jG (W:World) (B b:Nat) (nv:Value) (N:Nat) (st:aI) (ub ob:Nat):Prop:=∃fv L,eS W B b nv N st fv ub ob L
def aq (B b:Nat) (nv:Value) (N ub ob:Nat) (lv:Value) (L:List cO) (st:aI) (r:Rs aI) (w:World) (e:Ending) (w':World):Prop :=
 Below B w w'∧match r with
 | .ok st'=>e=.returned .nilIface∧jG w' B b nv N st' ub ob∧cQ B ob lv L.length (ep L) w w'∧∃a,st'.names=a++st.names∧(L=[]→a=[])∧dc w' B lv (grow a L)
 | .error x=>∃v,e=.returned v∧tl w' v x.2 x.1
theorem oV.on {W W':World} {B ob f:Nat} {p lv:Value} {ms:List Nat} {L:List cO} {st st':aI} {a:List jr} (h:oV W B f p lv ms L st) (k:cQ B ob lv L.length (ep L) W W') (hl:dc W' B lv (grow a L)) (hn:st'.names=a++st.names) (he:L=[]→a=[]) (hf:st'.frames=st.frames):oV W' B f p lv ms (grow a L) st':=by
 refine⟨hl,?_,?_,fun m hm l hl=>?_⟩
 ·rw[hf]
  refine h.blk.jk k fun m hm e=>?_
  cases L with
  | nil=>cases e
  | cons l r =>
   injection e with e;exact h.apart m hm l (bH ..) e
 ·rw[hn,h.names]
  by_cases e:L=[]
  ·rw[he e,jF];rfl
  ·exact(Hq e).symm
 ·have h1:l.blk∈(grow a L).map cO.blk:=j3 hl
  rw[uZ] at h1;obtain⟨u,hu,e⟩:=eJ.1 h1;rw[←e];exact h.apart m hm u hu
end Go.Proofs.YtodmcdfeldkocaaGreatDoor
namespace Go.Proofs.YtodmcdfeldkocaaGreatDoor
open Go.RowKit
def gD (B b:Nat) (nv:Value) (N ub ob:Nat) (r:Rs aI) (w:World) (e:Ending) (w':World):Prop :=
 Below B w w'∧match r with
 | .ok st'=>e=.returned .nilIface∧jG w' B b nv N st' ub ob∧Fr [43,199,225,140,64] w w'
 | .error x=>∃v,e=.returned v∧tl w' v x.2 x.1
theorem eS.mN {W:World} {B b:Nat} {nv:Value} {N:Nat} {st:aI} {fv:Value} {ub ob:Nat} {L:List nX} (h:eS W B b nv N st fv ub ob L):b<W.heap.size∧ub<W.heap.size∧ob<W.heap.size:=⟨(aM.1 h.blk).1,(h.uses.lt ub rfl).2,(h.wy.lt ob rfl).2⟩
theorem eA {T:List Nd} {B:Nat} {nv:Value} (b node:Nat) (h:Nd) (k:Int) (w:World) (hT:wu w B nv T) (c0:w.cell? ⟨b,0,none⟩=some nv) (hx:T[node]? = some h) :
  Calls Tryz.prog 70 #[.pointer (some ⟨b,0,none⟩),.int .i64 (node:Int),.iface 60 (.int .i64 k)] w fun e w'=>∃v,e=.returned v∧(∃g,v=.iface 59 (.pointer (some ⟨g,0,none⟩)))∧tl w' v h.line k∧Below w.heap.size w w':=by
 obtain⟨bk,o,c,rfl,dH,ca,hn⟩:=hT.nodes;obtain⟨u7,u9,eL,_,_⟩:=hn node h hx;have iV:node<T.length:=(aJ.1 hx).1;have d1:=eL.c1;have pU:=hT.few;clear eL hn hT;go_enter Tryz.func70,Tryz.ntmps70
 go_wp2_with fail
 go_ret
 exact⟨_,rfl,⟨_,rfl⟩,⟨_,rfl,heap_alloc_new _ _⟩,(Below.refl _ _).alloc (ag _) _⟩
theorem sP {T:List Nd} {B:Nat} {nv:Value} (b node:Nat) (h:Nd) (w:World) (hT:wu w B nv T) (c0:w.cell? ⟨b,0,none⟩=some nv) (hx:T[node]? = some h) :
  Calls Tryz.prog 77 #[.pointer (some ⟨b,0,none⟩),.int .i64 (node:Int)] w fun e w'=>e=.returned (.bool (decide (h.kind=19) || decide (h.kind=28)))∧w=w':=by
 obtain⟨bk,o,c,rfl,dH,ca,hn⟩:=hT.nodes;obtain⟨u7,u9,eL,_,_⟩:=hn node h hx;have iV:node<T.length:=(aJ.1 hx).1;have d0:=eL.c0;have pU:=hT.few;clear eL hn hT;have e1:(h.kind == 19)=decide (h.kind=19):=rfl;have e2:(h.kind == 28)=decide (h.kind=28):=rfl;cases h1:decide (h.kind=19) with
 | true =>
  rw[h1] at e1;go_enter Tryz.func77,Tryz.ntmps77
  go_wp2_with fail
  go_ret
  exact⟨rfl,rfl⟩
 | false =>
  rw[h1] at e1;cases h2:decide (h.kind=28) with
  | true =>
   rw[h2] at e2;go_enter Tryz.func77,Tryz.ntmps77
   go_wp2_with fail
   go_ret
   exact⟨rfl,rfl⟩
  | false =>
   rw[h2] at e2;go_enter Tryz.func77,Tryz.ntmps77
   go_wp2_with fail
   go_ret
   exact⟨rfl,rfl⟩
theorem Below.two {W:World} (o o':Obj):Below W.heap.size W ((W.alloc o).alloc o'):=((Below.refl _ _).alloc (ag _) o).alloc (by rw[ao];omega) o'
theorem lQ (f:Nat) (loop l:Int) (pa la:Option Addr) (ln lc:Nat) (w:World) :
  Calls Tryz.prog 37 #[.agg #[.int .i64 (f:Int),.int .i64 loop,.pointer pa,.slice la ln lc],.int .i64 l] w fun e w'=>e=.returned (.agg #[.int .i64 (f:Int),.int .i64 l,.pointer pa,.slice la ln lc])∧Below w.heap.size w w':=by
 go_enter Tryz.func37,Tryz.ntmps37
 go_wp2_with fail
 exact bodyPost_ret (v:=.agg #[.int .i64 (f:Int),.int .i64 l,.pointer pa,.slice la ln lc]) (by simp[results,Tryz.results37,go_sem]) rfl ⟨rfl,Below.two _ _⟩
theorem iK {B b:Nat} {nv:Value} {N ub ob:Nat} {w w1 w2:World} {line k:Int} {v:Value} (hb:Below B w w1) (hB:B≤w1.heap.size) (h2:Below w1.heap.size w1 w2) (hf:tl w2 v line k):gD B b nv N ub ob (.error (k,line)) w (.returned v) w2 :=
 ⟨hb.trans (h2.mono hB),_,rfl,hf⟩
theorem LQ {T:List Nd} {B:Nat} {nv:Value} {ub ob:Nat} (b node f:Nat) (h:Nd) (loop:Int) (pa la:Option Addr) (ln lc:Nat) (st:aI) (w:World) (hT:wu w B nv T) (hw:jG w B b nv T.length st ub ob) (hx:T[node]? = some h) (hf:f<st.fns.length) :
  Calls Tryz.prog 33 #[.pointer (some ⟨b,0,none⟩),.int .i64 (node:Int),.agg #[.int .i64 (f:Int),.int .i64 loop,.pointer pa,.slice la ln lc]] w (gD B b nv T.length ub ob (if (st.fn f).many then .ok st else .error (14,h.line)) w):=by
 obtain⟨fv,FL,hw⟩:=hw;obtain⟨t,ht⟩:=hw.AI hf;obtain⟨g,c,rfl,Xy,oT,tj⟩:=hw.fns.form ht;have hfn:=(hw.sO ht).2;have sQ:=hw.len;have CU:f<FL.length:=by omega
 obtain⟨hbl,po,tm⟩:=hw.mN;have ca:B≤w.heap.size:=aL hw.pos (ft hbl);have d0:w.cell? ⟨b,0,none⟩=some nv:=ab hw.blk 0;have d1:w.cell? ⟨b,1,none⟩=some (.slice (some ⟨g,0,none⟩) FL.length c):=ab hw.blk 1;have e3:w.cell? ⟨g,f*6+3,none⟩=some (.bool t.1.many):=(tj 3 (by omega)).1
 rw[hfn];have HW:=aa hw;have HT:=aa hT;have HX:=aa hx;clear hw hT hx hfn ht tj sQ;cases hm:t.1.many with
 | true =>
  rw[hm] at e3;go_enter Tryz.func33,Tryz.ntmps33
  go_wp2_with fail
  go_region
  go_wp2_with fail
  go_ret
  exact⟨((Below.refl B w).alloc ca _).drew,rfl,⟨_,_,(HW.out.alloc _).drew⟩,(Fr.alloc _).drew⟩
 | false =>
  rw[hm] at e3;have HC:=aa (ab (HW.out.alloc (.cells #[.int .i64 (f:Int),.int .i64 loop,.pointer pa,.slice la ln lc] 69)).drew.blk 0);have AM:=aa (HT.out.below (((Below.refl B w).alloc ca (.cells #[.int .i64 (f:Int),.int .i64 loop,.pointer pa,.slice la ln lc] 69)).drew));go_enter Tryz.func33,Tryz.ntmps33
  go_wp2_with fail
  go_region
  go_wp2_with fail
  refine(eA b node _ _ _ AM.out HC.out HX.out).mono ?_;rintro e w1 ⟨v,rfl,⟨g1,rfl⟩,h1,h2⟩;have H1:=aa h1;have H2:=aa h2;clear h1 h2;go_wp2_with fail
  go_ret
  exact iK (((Below.refl B w).alloc ca _).drew) (by simp;omega) H2.out H1.out
def gi (w:World) (s:ByteArray) (fs:List (Nat×Nat×(ByteArray→Option Value))) (pv xl:Value):Prop :=
 match fs.find? fun x=>(x.2.2 s).isSome with
 | none=>pv=.pointer none∧xl=.agg #[.int .i64 0,.int .i64 0]
 | some x=>∃k,pv=.pointer (some ⟨k,0,none⟩)∧x.2.2 s=some xl∧w.cell? ⟨k,2,none⟩=some (.int .i64 (x.1:Int))∧k<w.heap.size
def aap:Value→Nat
 | .pointer (some a)=>a.block+1
 | _=>0
def LS (fs:List (Nat×Nat×(ByteArray→Option Value))):Prop:=∀x∈fs,∀s v,x.2.2 s=some v→∃a b,v=.agg #[.int .i64 a,.int .i64 b]
theorem LU (w:World):(zeroValue 154).run Tryz.prog w=.ok (.agg #[.int .i64 0,.int .i64 0]) w:=by kernel_rfl
theorem AN {B:Nat} (fs:List (Nat×Nat×(ByteArray→Option Value))) (ms:List Nat) (p:Value) (s:ByteArray) (w:World) (hc:bY w B fs ms p) (hs:s.size≤maxLen) (hl:LS fs) :
  Calls Tryz.prog 78 #[p,.string s] w fun e w'=>∃pa a b,e=.returned (.tuple #[.pointer pa,.agg #[.int .i64 a,.int .i64 b]])∧gi w s fs (.pointer pa) (.agg #[.int .i64 a,.int .i64 b])∧Below w.heap.size w w':=by
 obtain⟨a0,rfl⟩:=hc.form;have HC:=aa hc;have HL:=aa hl;clear hc hl;go_enter Tryz.func78,Tryz.ntmps78
 go_wp2_with fail
 have hz:=heap_alloc_new w (.cells #[.int .i64 0,.int .i64 0] 154);have z0:=dG w #[.int .i64 0,.int .i64 0] 154 0;have z1:=dG w #[.int .i64 0,.int .i64 0] 154 1;have y0:=frozen_of_row (w.alloc (.cells #[.int .i64 0,.int .i64 0] 154)) w.heap.size 0 _ _ (heap_alloc_new w (.cells #[.int .i64 0,.int .i64 0] 154));have y1:=frozen_of_row (w.alloc (.cells #[.int .i64 0,.int .i64 0] 154)) w.heap.size 1 _ _ (heap_alloc_new w (.cells #[.int .i64 0,.int .i64 0] 154));replace z0:_=some (Value.int .i64 0):=z0;replace z1:_=some (Value.int .i64 0):=z1;have ee:w.heap.size<(w.alloc (.cells #[.int .i64 0,.int .i64 0] 154)).heap.size:=by rw[ao];omega
 have tP:=aa ((Below.refl w.heap.size w).alloc (ag _) (.cells #[.int .i64 0,.int .i64 0] 154));generalize hW0:w.alloc (.cells #[.int .i64 0,.int .i64 0] 154)=W0 at *;have HW0:=aa hW0;clear hW0;go_loopw [0] (fun t wr=>∃cs CT,bY w B cs CT t∧fs.find? (fun x=>(x.2.2 s).isSome)=cs.find? (fun x=>(x.2.2 s).isSome)∧LS cs∧Below W0.heap.size W0 wr) (fun t _=>aap t)
 case atStart=>exact⟨fs,ms,HC.out,rfl,HL.out,Below.refl _ _⟩
 case round =>
  obtain⟨cs,CT,hc,hf,hl,hb⟩:=hrel;have k0:wr.cell? ⟨w.heap.size,0,none⟩=some (.int .i64 0):=(hb.cell (p:=⟨w.heap.size,0,none⟩) ee).trans z0;have k1:wr.cell? ⟨w.heap.size,1,none⟩=some (.int .i64 0):=(hb.cell (p:=⟨w.heap.size,1,none⟩) ee).trans z1;have j0:wr.frozen? ⟨w.heap.size,0,none⟩=false:=(hb.frozen (p:=⟨w.heap.size,0,none⟩) ee).trans y0;have j1:wr.frozen? ⟨w.heap.size,1,none⟩=false:=(hb.frozen (p:=⟨w.heap.size,1,none⟩) ee).trans y1;have hblk:=(hb.block w.heap.size ee).trans hz;have AO:=aa hblk;clear hblk hz;have hwr:w.heap.size<wr.heap.size:=cw ee hb.size;have HF:=aa hf;have HB:=aa hb;have HLc:=aa hl;clear hf hb hl z0 z1 y0 y1;cases cs with
  | nil =>
   obtain⟨rfl,rfl⟩:=hc;go_wp2_with fail
   have iL:=aa (((tP.out.trans (HB.out.mono (ft ee))).setCell (p:=⟨w.heap.size,0,none⟩) (ag _) (.int .i64 0)).setCell (p:=⟨w.heap.size,1,none⟩) (ag _) (.int .i64 0));refine bodyPost_ret (v:=.tuple #[.pointer none,.agg #[.int .i64 0,.int .i64 0]]) (by simp[results,Tryz.results78,go_sem,k0,k1]) rfl ⟨none,0,0,rfl,?_,iL.out⟩
   unfold gi;rw[HF.out];exact⟨rfl,rfl⟩
  | cons x cs =>
   obtain⟨k,p,m,ms2,rfl,rfl,h1,h2,h3,h4,h5,h6⟩:=hc;have hk:k<w.heap.size:=(aM.1 h2).1;have hbr:=tP.out.trans (HB.out.mono (ft ee));have h2':=(hbr.block k hk).trans h2;have hkr:k<wr.heap.size:=cw hk hbr.size;have e0:wr.cell? ⟨k,0,none⟩=some (.pointer p):=ab h2' 0;have e1:wr.cell? ⟨k,1,none⟩=some (.map (some m)):=ab h2' 1;have hm:dK Tryz.prog 9 wr m x.2.1 x.2.2:=h3.same (hbr.block m h3.lt);have hrun:=hm.look (t:=148) (e:=154) Tryz.underlying9 Tryz.underlying148 (LU wr) rfl s hs;have HX:=aa h6;have H5:=aa h5;have H2:=aa h2;clear h2 h2' h3 h6 h5 hm hbr;cases hg:x.2.2 s with
   | none =>
    rw[hg] at hrun;replace hrun:_=Result.ok (Value.tuple #[.agg #[.int .i64 0,.int .i64 0],.bool false]) wr:=hrun;go_wp2_with fail
    refine⟨⟨cs,ms2,HX.out,?_,fun y hy=>HLc.out y (bQ _ hy),HB.out.alloc HB.out.size _⟩,?_⟩
    ·rw[HF.out,kO,hg]
     rfl
    ·cases p with
     | none=>exact Nat.succ_pos _
     | some a=>exact Nat.succ_lt_succ (H5.out a rfl)
   | some v =>
    obtain⟨a,b,rfl⟩:=HLc.out x (bH ..) s v hg;rw[hg] at hrun;replace hrun:_=Result.ok (Value.tuple #[.agg #[.int .i64 a,.int .i64 b],.bool true]) wr:=hrun;go_wp2_with fail
    go_region
    go_wp2_with fail
    have iL:=aa (((((tP.out.trans (HB.out.mono (ft ee))).setCell (p:=⟨w.heap.size,0,none⟩) (ag _) (.int .i64 a)).setCell (p:=⟨w.heap.size,1,none⟩) (ag _) (.int .i64 b)).alloc (by simp;omega) (.cells #[.int .i64 a,.int .i64 b] 154)).drew)
    have hq:=(Below.heap_alloc ((wr.setCell ⟨w.heap.size,0,none⟩ (.int .i64 a)).setCell ⟨w.heap.size,1,none⟩ (.int .i64 b)) (.cells #[.int .i64 a,.int .i64 b] 154) w.heap.size (by simp;omega)).trans (bE (bE AO.out 0 (.int .i64 a)) 1 (.int .i64 b))
    have q0:=ab hq 0;have q1:=ab hq 1;replace q0:_=some (Value.int .i64 a):=q0;replace q1:_=some (Value.int .i64 b):=q1;refine bodyPost_ret (v:=.tuple #[.pointer (some ⟨k,0,none⟩),.agg #[.int .i64 a,.int .i64 b]]) (by simp[results,Tryz.results78,go_sem,q0,q1]) rfl ⟨_,a,b,rfl,?_,iL.out⟩
    unfold gi;rw[HF.out,kO,hg];exact⟨k,rfl,hg,ab H2.out 2,hk⟩
end Go.Proofs.YtodmcdfeldkocaaGreatDoor
