/- Parts of the proof. -/
import Derived.Laws.EntriesVeiled
import Derived.Test.YteflkdlaoiijbaaGreatDoorK06
set_option maxHeartbeats 16000000
set_option maxRecDepth 20000
namespace Go.Proofs.YteflkdlaoiijbaaGreatDoor
open Go.RowKit
theorem UP :∀(L:List JG) (p:Nat) (t:JG),L[p]? = some t→(L.flatMap aP)[p*7]? = some (.int .i64 t.1.kind)
 | [],p,t,h=>by simp at h
 | u::L,0,t,h=>by
  obtain rfl:u=t:=by simpa using h
  rfl
 | u::L,p+1,t,h=>by
  have:=UP L p t (by simpa using h)
  rw[iG,zy (by rw[eZ];omega),eZ,show(p+1)*7-7=p*7 by omega]
  exact this
theorem tD (g j:Nat):(⟨g,0,none⟩:Addr).add j=⟨g,j,none⟩:=by unfold Addr.add;split<;>simp_all
theorem PS.kind {W:World} {b:Nat} {O:Nat→Prop} {ts:List aj} {T0 T:List Nd} {a:Ast} {p:Nat} (h:PS W b O ts T) (hl:ep T0 T [a] [(p:Int)]) :
  ∃g c,W.cell? ⟨b,2,none⟩=some (.slice (some ⟨g,0,none⟩) T.length c)∧T.length≤c∧p<T.length∧W.cell? ⟨g,p*7,none⟩=some (.int .i64 a.hd.kind)∧O g:=by
 obtain⟨TS,i,g0,c0,nv,L,a1,a2,a3,a4,a5,a6,a7⟩:=h.ex;obtain⟨_,js,hr,_⟩:=hl;unfold bu at hr;obtain⟨k,iu,j1,j2,e1,hr,_,_⟩:=hr;have hk:k=p:=by
  injection e1 with e1 _;omega
 subst hk;obtain⟨hd,adF⟩:=a;unfold gQ at hr;obtain⟨x,sA,hx,hxe,_,_⟩:=hr;have hlt:=(aJ.1 hx).1;have hL:L.length=T.length:=by rw[←a7,cy]
 have hrow:=a6.row;obtain⟨g,c,rfl,_,_⟩:=hrow.form (by omega)
 obtain⟨A,c1,e2,hc⟩:=bI hrow;have hcc:c=c1:=by injection e2
 have hLp :∃t,L[k]? = some t∧t.1=x:=by
  rw[←a7,fw] at hx;cases hq:L[k]? with
  | none=>rw[hq] at hx;simp at hx
  | some t=>rw[hq] at hx;exact⟨t,rfl,by simpa using hx⟩
 obtain⟨t,ht,htx⟩:=hLp;have hcell:=hrow.cells (g:=g) rfl (k*7) _ (UP L k t ht);refine⟨g,c,by rw[←hL];simp[World.cell?,a1],by rw[←hL,hcc];exact hc,hlt,?_⟩
 have ML:t.1.kind=hd.kind:=by rw[htx,hxe]
 have aaF:(⟨g,0,none⟩:Addr).add (k*7)=⟨g,k*7,none⟩:=tD g (k*7);rw[aaF,ML] at hcell;exact⟨hcell,a6.own g rfl⟩
theorem Real.kind {W:World} {b n:Nat} {O:Nat→Prop} {T0:List Nd} {s:St} (h:Real W b n O T0 s) (k:Int):(∃v,W.cell? ⟨n,0,none⟩=some (.int .i64 v))∧W.frozen? ⟨n,0,none⟩=false∧n<W.heap.size∧ay O W (W.setCell ⟨n,0,none⟩ (.int .i64 k)) ∧
  Real (W.setCell ⟨n,0,none⟩ (.int .i64 k)) b n O T0 { s with h:={ s.h with kind:=k}}:=by
 obtain⟨Op,On,T,ks,hO,hd,hp,hn,hl,hc⟩:=h.ex;obtain⟨nv,kv,hcs,_,hz⟩:=hn.cells;have hf:=hn.fr 0 (.int .i64 k);refine⟨⟨_,hcs.c0⟩,hz 0,(hn.own n hn.at_).2,hf.mono fun j hj=>(hO j).2 (.inr (hj▸hn.at_)),⟨Op,On,T,ks,hO,hd,?_,hn.qj 0 _ rfl rfl fun _ _=>rfl,hl,hc⟩⟩
 exact hp.kept (O1:=(· = n)) hf (fun j hj e=>hd j hj (e▸hn.at_)) fun j e=>by have:=(hn.own n hn.at_).1;omega
theorem pz {w1:World} {b n p:Nat} {Zq On:Nat→Prop} {h:Nd} {a:Ast} {ks0:List Int} {fI:List aj} {T0 T1:List Nd} (hp:PS w1 b Zq fI T1) (hn:NU w1 b n On { h with kids:=ks0}) (hd :∀k,Zq k→¬ On k) (hl:ep T0 T1 [a] [(p:Int)]) :
  ∃v,(w1.alloc (.cells #[.int .i64 (p:Int)] 3)).cell? ⟨n,6,none⟩=some v∧(w1.alloc (.cells #[.int .i64 (p:Int)] 3)).frozen? ⟨n,6,none⟩=false∧n<w1.heap.size ∧
   ay On w1 ((w1.alloc (.cells #[.int .i64 (p:Int)] 3)).setCell ⟨n,6,none⟩ (.slice (some ⟨w1.heap.size,0,none⟩) 1 1)) ∧
   PS ((w1.alloc (.cells #[.int .i64 (p:Int)] 3)).setCell ⟨n,6,none⟩ (.slice (some ⟨w1.heap.size,0,none⟩) 1 1)) b Zq fI T1 ∧
   Real ((w1.alloc (.cells #[.int .i64 (p:Int)] 3)).setCell ⟨n,6,none⟩ (.slice (some ⟨w1.heap.size,0,none⟩) 1 1)) b n (fun k=>Zq k∨(On k∨k=w1.heap.size)) T0 ⟨h,[a],fI,T1.length⟩:=by
 obtain⟨nv,kv,ha,hi⟩:=hn.ex;have jl:=(hn.own n hn.at_).2;have De:=(hn.own n hn.at_).1;have hf:ay (fun k=>kv.ownBlock=some k) w1 (w1.alloc (.cells #[.int .i64 (p:Int)] 3)):=(ay.refl _ _).alloc _
 obtain⟨c6,z6,pk,ou,yA⟩:=EU ha hi hn.at_ hn.own hf;have hb1:b+1≤w1.heap.size:=(hp.own b hp.at_).2;have hrow:rr (w1.alloc (.cells #[.int .i64 (p:Int)] 3)) b (.slice (some ⟨w1.heap.size,0,none⟩) 1 1) [(p:Int)]:=⟨rfl,.inr ⟨w1.heap.size,1,#[.int .i64 (p:Int)],rfl,hb1,World.alloc_heap_new w1 _,ah _,by unfold maxLen;omega,rfl,rfl⟩⟩
 have hfn:=ou (.slice (some ⟨w1.heap.size,0,none⟩) 1 1);have Zr:=hp.below (aX w1 (.cells #[.int .i64 (p:Int)] 3));have oM:PS ((w1.alloc (.cells #[.int .i64 (p:Int)] 3)).setCell ⟨n,6,none⟩ (.slice (some ⟨w1.heap.size,0,none⟩) 1 1)) b Zq fI T1:=Zr.kept (O1:=(· = n)) hfn (fun k hk e=>hd k hk (e▸hn.at_)) fun k e=>by omega
 refine⟨kv,c6,z6,jl,((ay.refl On w1).alloc _).trans hfn (fun k e=>.inl (e▸hn.at_)),oM,⟨Zq,fun k=>On k∨k=w1.heap.size,T1,[(p:Int)],fun _=>Iff.rfl,fun k hk e=>?_,oM,?_,hl,rfl⟩⟩
 ·rcases e with e|e
  ·exact hd k hk e
  ·have:=(hp.own k hk).2;omega
 ·exact yA w1.heap.size 1 1 [(p:Int)] hrow (.inr (ah _))
theorem ep.same {T0 T:List Nd} {ks:List Int} (h:ep T0 T [] ks):T=T0∧ks=[]:=by
 have h1:=h.len;have h2:=h.num;obtain⟨p1,_⟩:=h;rw[Ast.ak] at h1;exact⟨(List.IsPrefix.eq_of_length p1 (by omega)).symm,ma (by simpa using h2)⟩
def tgC (sf:iT):iT:=fun ts n K E=>sf ts n (fun a fI=>(isVar a→K a fI)∧(¬ isVar a→∃t r,fI=t::r∧E t.2.1)) E
theorem MM {sf:iT} (hS:pt 153 sf):pt 184 (tgC sf):=by
 intro b O ts T0 K E w hp hk;have HA:=aa (hS b O ts T0 _ E w hp hk);clear hp hk hS;go_enter Tryz.func184,Tryz.ntmps184
 go_wp2_with fail
 refine HA.out.mono ?_;intro e w1 h1;have F1:=aa h1.1;rcases h1.2 with ⟨p,a,fI,O1,T1,rfl,p1,x1,l1,k1⟩ | ⟨le,v,er,rfl,⟨g',rfl,m2,m3⟩,k1⟩
 ·obtain⟨g,c,c2,hc,hpl,ck,_⟩:=p1.kind l1
  have hb:b<w1.heap.size:=World.block_lt_of_cell? w1 _ c2;have P1:=aa p1;have X1:=aa x1;have L1:=aa l1;have K1:=aa k1;clear h1 p1 x1 l1 k1 HA;obtain⟨kd,qa⟩ :∃kd,kd=a.hd.kind:=⟨_,rfl⟩;rw[←qa] at ck;by_cases hv:isVar a
  ·have HV:=aa hv
   unfold isVar at hv;rw[←qa] at hv;clear qa;rcases hv with rfl|rfl <;>
   ·go_wp2_with fail
    go_ret2
    exact⟨F1.out,.inl ⟨p,a,fI,O1,T1,rfl,P1.out,X1.out,L1.out,K1.out.1 HV.out⟩⟩
  ·obtain⟨t,r,rfl,hE⟩:=K1.out.2 hv
   have HX:=aa (qi b O1 t r T1 w1 P1.out);unfold isVar at hv;rw[←qa] at hv;have g1:(kd == 7)=false:=aC.2 fun e=>hv (.inl e)
   have g2:(kd == 8)=false:=aC.2 fun e=>hv (.inr e)
   have g1':(kd != 7)=true:=mL.2 fun e=>hv (.inl e)
   have g2':(kd != 8)=true:=mL.2 fun e=>hv (.inr e)
   have HE:=aa hE;clear qa hv hE;go_wp2_with fail
   refine HX.out.mono ?_;rintro e w3 ⟨v,rfl,m,b3⟩;have M:=aa m;have B3:=aa b3;clear m b3;go_wp2_with fail
   go_ret2
   obtain⟨g',e1,e2,e3⟩:=M.out;exact⟨F1.out.trans (ay.ae (O:=O1) B3.out) X1.out,.inr ⟨_,_,_,rfl,⟨g',e1,aM F1.out.size e2,e3⟩,HE.out⟩⟩
 ·have M3:=aa m3
  have M2:=aa m2;have K1:=aa k1;clear h1 m2 m3 k1;go_wp2_with fail
  go_ret2
  exact⟨F1.out,.inr ⟨le,_,_,rfl,⟨g',rfl,M2.out,M3.out⟩,K1.out⟩⟩
def Xm (sf:iT) (tg li:cf):cf:=fun s K E=>s.xs=[]∧sf s.ts s.n (fun a fI=>(a.hd.kind=9∨a.hd.kind=10→K ⟨{ s.h with kind:=21},[a],fI,s.n+Ast.ak [a]⟩) ∧
 (isVar a→aK [bD [44] [tg],eu,au [[61]],li] ⟨{ s.h with kind:=20},[a],fI,s.n+Ast.ak [a]⟩ K E)∧(¬ (a.hd.kind=9∨a.hd.kind=10)→¬ isVar a→∃t r,fI=t::r∧E t.2.1)) E
theorem sM (w:World) (g:Nat) (hg:g=w.heap.size) (b:Nat) (O:Nat→Prop) (hO :∀k,O k→k<w.heap.size) (vs:List Value) (cO:List cf) (hl:vs.length≤100) (h:jD w b O vs cO) (x:List UInt8) (hx:x≠[]) (X:ByteArray) (hX:X=bK x) :
  Calls Tryz.prog 42 #[.pointer (some ⟨b,0,none⟩),.string X,.slice (some ⟨g,0,none⟩) vs.length vs.length] (w.alloc (.cells vs.toArray 122)) (j7 b O (bD x cO) w):=by
 subst hg;exact pw w b O hO vs cO hl h x hx X hX
theorem Sg {sf:iT} {tg li:cf} (hS:pt 153 sf) (hTg:eB 154 tg) (hL:eB 84 li):eB 97 (Xm sf tg li):=by
 rintro b n O T0 ⟨sh,Zs,vM,sn⟩ K E w hr ⟨hx,hk⟩;obtain⟨Op,On,T,ks,hO,hd,hp,hn,hl,hc⟩:=hr.ex;dsimp only at hx hk hp hn hl hc
 subst hx;obtain⟨rfl,rfl⟩:=hl.same;subst hc;have HA:=aa (hS b Op vM T _ E w hp hk);have HN:=aa hn;have HO:=aa hO;have HD:=aa hd;have hat:=hn.at_;have HOn:Hid (∀k,On k→k<w.heap.size):=aa fun k hk=>(hn.own k hk).2
 have De:b<n:=(hn.own n hat).1;have Ck:=aa hat;clear hp hk hr hn hO hd hl hS hat;go_enter Tryz.func97,Tryz.ntmps97
 go_wp2_with fail
 refine HA.out.mono ?_;intro e w1 h1;have F1:=aa h1.1;have N1:=aa (HN.out.kept h1.1 fun k hk h=>HD.out k h hk)
 rcases h1.2 with ⟨p,a,fI,O1,T1,rfl,p1,x1,l1,k1⟩ | ⟨le,v,er,rfl,⟨g',rfl,m2,m3⟩,k1⟩
 ·have hd1 :∀k,O1 k→¬ On k:=fun k hk h=>by
   rcases x1 k hk with h2|h2
   ·exact HD.out k h2 h
   ·have:=HOn.out k h;omega
  obtain⟨v6,c6,z6,jl,f2,p2,r2⟩:=pz p1 N1.out hd1 l1;obtain⟨g,c,c2,hc,hpl,ck,hOg⟩:=p1.kind l1;have Rl:g≠n:=fun e=>hd1 g hOg (e▸Ck.out)
  have hbn':b≠n:=by omega
  have hbl:b<w1.heap.size:=by omega
  have qU:g<w1.heap.size:=(p1.own g hOg).2;have hz2:T1.length=T.length+Ast.ak [a]:=l1.len;rw[hz2] at r2;obtain⟨O2,JJ⟩ :∃O2:Nat→Prop,O2=fun k=>O1 k∨(On k∨k=w1.heap.size):=⟨_,rfl⟩
  rw[←JJ] at r2;have X2:Hid (Ext O O2 w):=aa fun k hk=>by
   rw[JJ] at hk;rcases hk with hk|hk|rfl
   ·rcases x1 k hk with h|h
    ·exact .inl ((HO.out k).2 (.inl h))
    ·exact .inr h
   ·exact .inl ((HO.out k).2 (.inr hk))
   ·exact .inr h1.1.size
  have f3:ay O w ((w1.alloc (.cells #[.int .i64 (p:Int)] 3)).setCell ⟨n,6,none⟩ (.slice (some ⟨w1.heap.size,0,none⟩) 1 1)):=(h1.1.mono fun k hk=>(HO.out k).2 (.inl hk)).trans f2 fun k hk=>.inl ((HO.out k).2 (.inr hk))
  rw[World.setCell_alloc_past _ _ _ _ jl] at r2 f3 p2;have F2:=aa f3;have P2:=aa p2;have R2:=aa r2;obtain⟨nv1,kv1,yK,_,hz1⟩:=N1.out.cells;have d0:=yK.c0;have d6:=yK.c6;have y0:=hz1 0;have y6:=hz1 6;clear yK hz1;have X1:=aa x1;have K1:=aa k1;clear h1 p1 x1 l1 k1 HA hd1 f2 f3 p2 r2 hz2 hOg c6 z6 JJ;have Zt:=K1.out;obtain⟨kd,qa⟩ :∃kd,kd=a.hd.kind:=⟨_,rfl⟩;rw[←qa] at ck;have hW6:n<(w1.setCell ⟨n,6,none⟩ (.slice (some ⟨w1.heap.size,0,none⟩) 1 1)).heap.size:=by simpa using jl
  by_cases h9:a.hd.kind=9∨a.hd.kind=10
  ·have HK:=aa (Zt.1 h9)
   obtain⟨_,_,_,f4,r4⟩:=R2.out.kind 21;rw[World.setCell_alloc_past _ _ _ _ hW6] at f4 r4;have F4:=aa (F2.out.trans f4 X2.out);have R4:=aa r4;clear f4 r4 Zt K1 hW6;rw[←qa] at h9;clear qa;rcases h9 with rfl|rfl <;>
   ·go_wp2_with fail
    go_ret
    exact⟨F4.out,.inl ⟨_,O2,rfl,R4.out,X2.out,HK.out⟩⟩
  ·by_cases hv:isVar a
   ·have HK:=aa (Zt.2.1 hv)
    obtain⟨_,_,_,f4,r4⟩:=R2.out.kind 20;rw[World.setCell_alloc_past _ _ _ _ hW6] at f4 r4;have F0:=aa (F2.out.trans f4 X2.out);have P0:=aa r4;have V0:=aa (sM _ (w1.heap.size+1) (by simp) b O2 r4.lt [aZ 154 b] [tg] (by simp) ⟨hTg.part (enters_of Tryz.func154 (by kernel_rfl) rfl) _ b O2,trivial⟩ [44] (by decide) ⟨#[44]⟩ rfl)
    clear f4 r4 Zt K1 hW6 h9;unfold isVar at hv;rw[←qa] at hv;clear qa;rcases hv with rfl|rfl <;>
    ·go_wp2_with fail
     refine V0.out.mono ?_;rintro e w2 ⟨f2,a2,c2',rfl,b2,h2⟩;have F2:=aa (F0.out.trans (ay.ae (O:=O2) b2) X2.out);have P2:=aa (P0.out.below b2);have H2:=aa h2;clear b2 h2 V0 c2 ck d0 d6 y0 y6;have hOO :∀k,O2 k→k<w2.heap.size:=P2.out.lt;have V3:=aa (cE w2 b O2 hOO [61] (by decide) ⟨#[61]⟩ rfl)
     clear hOO;go_wp2_with fail
     refine V3.out.mono ?_;rintro e w3 ⟨f3,a3,c3,rfl,b3,h3⟩;have F3:=aa (F2.out.trans (ay.ae (O:=O2) b3) X2.out);have P3:=aa (P2.out.below b3);have L2:=aa (H2.out.later (ay.ae (O:=O2) b3) (Ext.refl _ _));clear H2;have H2:=L2;clear L2;have H3:=aa h3;clear b3 h3 V3;have HN:=aa (ji w w3 P3.out F3.out X2.out [.func (.func f2) a2 c2',.func (.func 150) #[] #[],.func (.func f3) a3 c3,aZ 84 b] [bD [44] [tg],eu,au [[61]],li] (by simp) ⟨H2.out,jC w3 b O2,H3.out,hL.part (enters_of Tryz.func84 (by kernel_rfl) rfl) w3 b O2,trivial⟩ HK.out)
     go_wp2_with fail
     refine HN.out.mono ?_;intro e wz hz;obtain⟨v,rfl⟩:=hz.ret;have HZ:=aa hz;clear hz;go_wp2_with fail
     go_ret
     exact HZ.out
   ·obtain⟨t,r,rfl,hE⟩:=Zt.2.2 h9 hv
    have HX:=aa (qi b O1 t r T1 _ P2.out);unfold isVar at hv;rw[←qa] at h9 hv;have q9:(kd == 9)=false:=aC.2 fun e=>h9 (.inl e)
    have RP:(kd == 10)=false:=aC.2 fun e=>h9 (.inr e)
    have q7:(kd == 7)=false:=aC.2 fun e=>hv (.inl e)
    have q8:(kd == 8)=false:=aC.2 fun e=>hv (.inr e)
    have HE:=aa hE;clear qa h9 hv hE Zt K1 hW6;go_wp2_with fail
    refine HX.out.mono ?_;rintro e w3 ⟨v,rfl,m,b3⟩;have M:=aa m;have B3:=aa b3;clear m b3;go_wp2_with fail
    go_ret
    obtain⟨g',e1,e2,e3⟩:=M.out;exact⟨F2.out.trans (ay.ae (O:=O2) B3.out) X2.out,.inr ⟨_,_,rfl,⟨g',e1,aM F2.out.size e2,e3⟩,HE.out⟩⟩
 ·have M3:=aa m3
  have M2:=aa m2;have K1:=aa k1;clear h1 m2 m3 k1;go_wp2_with fail
  go_ret
  exact⟨F1.out.mono fun k hk=>(HO.out k).2 (.inl hk),.inr ⟨le,_,rfl,⟨g',rfl,M2.out,M3.out⟩,K1.out⟩⟩
def MN (li:cf):cf:=fun s K E=>∃t r,s.ts=t::r∧((iV t=true∨aw [59] t=true)→K s)∧(iV t=false→aw [59] t=false→li s K E)
theorem xj {W:World} {b n:Nat} {O:Nat→Prop} {T0:List Nd} {s:St} (h:Real W b n O T0 s) {t:aj} {ts:List aj} (hs:s.ts=t::ts):Calls Tryz.prog 36 #[.pointer (some ⟨b,0,none⟩)] W (nx W (iV t)):=by
 obtain⟨Op,On,T,ks,hO,hd,hp,hn,hl,hc⟩:=h.ex;rw[hs] at hp;exact WV b Op t ts T W hp
theorem Dp {li:cf} (hL:eB 84 li):eB 41 (MN li):=by
 rintro b n O T0 s K E w hr ⟨t,r,hs,h1,h2⟩;have HV:=aa (xj hr hs);have HW:=aa (fun W hW=>jm hr hs W hW)
 have HR:=aa hr;have HLi:=aa (fun(W:World) (hW:Real W b n O T0 s) (hk:li s K E)=>hL b n O T0 s K E W hW hk)
 have H1:=aa h1;have H2:=aa h2;clear hr hs h1 h2 hL;cases he:iV t with
 | true =>
  rw[he] at HV;have HE:=aa he;clear he HW;go_enter Tryz.func41,Tryz.ntmps41
  go_wp2_with fail
  refine HV.out.mono ?_;rintro e w1 ⟨rfl,b1⟩;have B1:=aa b1;clear b1;go_wp2_with fail
  go_ret
  exact⟨ay.ae B1.out,.inl ⟨s,O,rfl,HR.out.below B1.out,Ext.refl _ _,H1.out (.inl HE.out)⟩⟩
 | false =>
  rw[he] at HV;cases hq:aw [59] t with
  | true =>
   have g1:((ag t).toList == [59])=true:=ai (s:=[59]) (by decide) t hq
   have HK:=aa (H1.out (.inr hq));generalize ag t=Y at *;clear he hq;go_enter Tryz.func41,Tryz.ntmps41
   go_wp2_with fail
   refine HV.out.mono ?_;rintro e w1 ⟨rfl,b1⟩;have B1:=aa b1;have je:=aa (HW.out w1 b1);clear b1;go_wp2_with fail
   refine je.out.mono ?_;rintro e w2 ⟨rfl,b2⟩;have B2:=aa (aA B1.out b2);clear b2;go_wp2_with fail
   go_ret
   exact⟨ay.ae B2.out,.inl ⟨s,O,rfl,HR.out.below B2.out,Ext.refl _ _,HK.out⟩⟩
  | false =>
   have g1:((ag t).toList == [59])=false:=ai (s:=[59]) (by decide) t hq
   have HK:=aa (H2.out he hq);generalize ag t=Y at *;clear he hq;go_enter Tryz.func41,Tryz.ntmps41
   go_wp2_with fail
   refine HV.out.mono ?_;rintro e w1 ⟨rfl,b1⟩;have B1:=aa b1;have je:=aa (HW.out w1 b1);clear b1;go_wp2_with fail
   refine je.out.mono ?_;rintro e w2 ⟨rfl,b2⟩;have B2:=aa (aA B1.out b2);have HN:=aa (HLi.out w2 (HR.out.below B2.out) HK.out);clear b2;go_wp2_with fail
   refine HN.out.mono ?_;intro e wz hz;obtain⟨v,rfl⟩:=hz.ret;have HZ:=aa (hz.after (ay.ae B2.out));clear hz;go_wp2_with fail
   go_ret
   exact HZ.out
theorem AN {b n:Nat} {O O1:Nat→Prop} {T0:List Nd} {K:St→Prop} {E:Int→Prop} {w w1 w':World} {e:Ending} (h:bH b n O1 T0 K E w1 e w') (hf:ay O w w1) (he:Ext O O1 w):bH b n O T0 K E w e w':=by
 obtain⟨h1,h2⟩:=h;refine⟨hf.trans h1 he,h2.imp ?_ ?_⟩
 ·rintro⟨s',O',e1,r1,x1,k1⟩
  exact⟨s',O',e1,r1,he.trans x1 hf.size,k1⟩
 ·rintro⟨l,v,e1,⟨g,m1,m2,m3⟩,k⟩
  exact⟨l,v,e1,⟨g,m1,aM hf.size m2,m3⟩,k⟩
def AO (Ci:iT) (li:cf):Nat→cf
 | 0=>fun _ _ _=>False
 | k+1=>fun s K E=>∃t r,s.ts=t::r∧(iV t=true→K s)∧(iV t=false→(aw [59] t=true→AO Ci li k { s with ts:=r} K E) ∧
  (aw [59] t=false→(aw j3 t=true→dz (dU (mu 29) [aD,MN li,bD [59] []]) s K E)∧(aw j3 t=false→dz Ci s (fun s'=>AO Ci li k s' K E) E)))
def aaG (Ci:iT) (li:cf):cf:=fun s K E=>∃m,AO Ci li m s K E
theorem yL {Ci:iT} {li:cf} (hS:pt 44 Ci) (hL:eB 84 li):eB 20 (aaG Ci li):=by
 rintro b n O T0 s K E w hr ⟨m,hk⟩;have HR:=aa hr;have HK:=aa hk;have HSt:=aa (fun(W:World) (b:Nat) (O:Nat→Prop)=>hS.one (enters_of Tryz.func44 (by kernel_rfl) rfl) W b O)
 have HRt:=aa (fun(W:World) (b:Nat) (O:Nat→Prop)=>(Dp hL).part (enters_of Tryz.func41 (by kernel_rfl) rfl) W b O)
 clear hr hk hS hL;go_enter Tryz.func20,Tryz.ntmps20
 go_wp2_with fail
 go_loopg [] m (fun z wr=>∃(O1:Nat→Prop) (s1:St),Real wr b n O1 T0 s1∧ay O w wr∧Ext O O1 w∧AO Ci li z s1 K E)
 case atStart=>exact⟨O,s,HR.out,ay.refl _ _,Ext.refl _ _,HK.out⟩
 case round =>
  obtain⟨O1,s1,hr1,kT,uC,iX⟩:=hrel;have ny:=aa hr1;have fA:=aa kT;have ow:=aa uC;cases gk with
  | zero=>exact iX.elim
  | succ z =>
   obtain⟨t,r,hs,hy,hn⟩:=iX;have HV:=aa (xj hr1 hs);have eM:=aa hs;clear hr1 kT uC;cases he:iV t with
   | true =>
    rw[he] at HV;have v8:=aa (hy he);clear hy hn hs he;go_wp2_with fail
    refine HV.out.mono ?_;rintro e w1 ⟨rfl,b1⟩;have B1:=aa b1;clear b1;go_wp2_with fail
    go_ret
    exact⟨fA.out.trans (ay.ae (O:=O1) B1.out) ow.out,.inl ⟨s1,O1,rfl,ny.out.below B1.out,ow.out,v8.out⟩⟩
   | false =>
    rw[he] at HV;have wJ:=hn he;clear hy hn he;cases hq:aw [59] t with
    | true =>
     have Zu:=aa (fun(W:World) (hW:Real W b n O1 T0 s1)=>kY hW hs [59] ⟨#[59]⟩ rfl (by decide) hq)
     have v8:=aa (wJ.1 hq);clear wJ hs hq;go_wp2_with fail
     refine HV.out.mono ?_;rintro e w1 ⟨rfl,b1⟩;have F2:=aa (fA.out.trans (ay.ae (O:=O1) b1) ow.out);have HT:=aa (Zu.out w1 (ny.out.below b1));clear b1;go_wp2_with fail
     refine HT.out.mono ?_;rintro e w2 ⟨rfl,r2,f2⟩;have F3:=aa (F2.out.trans f2 ow.out);have R2:=aa r2;clear r2 f2;go_wp2_with fail
     go_roundg z
     case measure=>omega
     case rel=>exact⟨O1,_,R2.out,F3.out,ow.out,v8.out⟩
    | false =>
     have Zu:=aa (fun(W:World) (hW:Real W b n O1 T0 s1)=>n0 hW hs [59] ⟨#[59]⟩ rfl (by decide) hq)
     have uH:=wJ.2 hq;clear wJ hq;cases po:aw j3 t with
     | true =>
      have g1:((ag t).toList == [114,101,116,117,114,110])=true:=ai (s:=j3) (by decide) t po
      have v8:=aa (uH.1 po);have HWd:=aa (fun(W:World) (hW:Real W b n O1 T0 s1)=>jm hW hs W (Below.refl _ _))
      clear uH hs po;generalize ag t=Y at *;go_wp2_with fail
      refine HV.out.mono ?_;rintro e w1 ⟨rfl,b1⟩;have F2:=aa (fA.out.trans (ay.ae (O:=O1) b1) ow.out);have HT:=aa (Zu.out w1 (ny.out.below b1));clear b1;go_wp2_with fail
      refine HT.out.mono ?_;rintro e w2 ⟨rfl,r2,f2⟩;have F3:=aa (F2.out.trans f2 ow.out);have lz:=aa (HWd.out w2 r2);have R2:=aa r2;clear r2 f2 Zu HWd HT;go_wp2_with fail
      refine lz.out.mono ?_;rintro e w3 ⟨rfl,b3⟩;have F4:=aa (F3.out.trans (ay.ae (O:=O1) b3) ow.out);have R3:=aa (R2.out.below b3);have HP:=aa (wW b O1 [59] ⟨#[59]⟩ rfl (by decide) (.slice none 0 0) [] w3 (aN.nil _ _ _) R3.out.lt)
      clear b3;go_wp2_with fail
      refine HP.out.mono ?_;rintro e w4 ⟨v,rfl,b4,h4,fi,fa,fc,rfl⟩;have R4:=aa (R3.out.below b4);have F5:=aa (F4.out.trans (ay.ae (O:=O1) b4) ow.out);have HH:=aa (rz b O1 (mu 29) (.slice none 0 0) _ _ (w4.alloc (.cells #[aZ 40 b,aZ 41 b,.func (.func fi) fa fc] 122)) (zt.nil _ b) (aN.new (w:=w4) (b:=b) (O:=O1) R4.out.lt [aZ 40 b,aZ 41 b,.func (.func fi) fa fc] [aD,MN li,bD [59] []] (by simp) ⟨ba w4 b O1,HRt.out w4 b O1,h4,trivial⟩) (fun k hk=>by have:=R4.out.lt k hk;simp;omega))
      clear b4 h4 HP;go_wp2_with fail
      refine HH.out.mono ?_;rintro e w5 ⟨v,rfl,b5,h5⟩;obtain⟨f,first,cap,rfl,ph,bz⟩:=h5.1.call R4.out (aA (aX w4 _) b5) v8.out
      have ed:=aa bz;clear h5 bz b5;unfold Enters at ph;go_wp2_with fail
      refine ed.out.mono ?_;intro e w6 h6;obtain⟨v,rfl⟩:=h6.ret;have H6:=aa h6;clear h6;go_wp2_with fail
      go_ret
      exact AN H6.out F5.out ow.out
     | false =>
      have g1:((ag t).toList == [114,101,116,117,114,110])=false:=ai (s:=j3) (by decide) t po
      have v8:=aa (uH.2 po);have HWd:=aa (fun(W:World) (hW:Real W b n O1 T0 s1)=>jm hW hs W (Below.refl _ _))
      clear uH hs po;generalize ag t=Y at *;go_wp2_with fail
      refine HV.out.mono ?_;rintro e w1 ⟨rfl,b1⟩;have F2:=aa (fA.out.trans (ay.ae (O:=O1) b1) ow.out);have HT:=aa (Zu.out w1 (ny.out.below b1));clear b1;go_wp2_with fail
      refine HT.out.mono ?_;rintro e w2 ⟨rfl,r2,f2⟩;have F3:=aa (F2.out.trans f2 ow.out);have lz:=aa (HWd.out w2 r2);have R2:=aa r2;clear r2 f2 Zu HWd HT;go_wp2_with fail
      refine lz.out.mono ?_;rintro e w3 ⟨rfl,b3⟩;have F4:=aa (F3.out.trans (ay.ae (O:=O1) b3) ow.out);have R3:=aa (R2.out.below b3);have HP:=aa (AG b O1 44 _ _ Ci w3 (HSt.out w3 b O1) R3.out.lt);clear b3;go_wp2_with fail
      refine HP.out.mono ?_;rintro e w4 ⟨v,rfl,b4,h4⟩;obtain⟨f,first,cap,rfl,ph,bz⟩:=h4.1.call R3.out b4 v8.out
      have ed:=aa bz;clear h4 bz b4;unfold Enters at ph;go_wp2_with fail
      refine ed.out.mono ?_;intro e w6 h6;have F6:=aa (F4.out.trans h6.1 ow.out);rcases h6.2 with ⟨s7,O7,rfl,r7,x7,k7⟩ | ⟨l,v,rfl,⟨g',rfl,hg1,hg2⟩,k7⟩
      ·have R7:=aa r7
       have X7:=aa (ow.out.trans x7 F4.out.size);have K7:=aa k7;clear h6 r7 x7 k7;go_wp2_with fail
       go_roundg z
       case measure=>omega
       case rel=>exact⟨O7,s7,R7.out,F6.out,X7.out,K7.out⟩
      ·have M3:=aa hg2
       have HG:=aa (aM F4.out.size hg1);have K7:=aa k7;clear h6 hg1 hg2 k7;go_wp2_with fail
       go_ret
       exact⟨F6.out,.inr ⟨l,_,rfl,⟨g',rfl,HG.out,M3.out⟩,K7.out⟩⟩
theorem AP {W:World} {b n:Nat} {On:Nat→Prop} {x:Nd} (hn:NU W b n On x) (v:Value) (xs:List ByteArray) (hr:jE W b v xs) (hne:xs≠[]):NU (W.setCell ⟨n,5,none⟩ v) b n (fun k=>On k∨v.ownBlock=some k) { x with names:=xs}:=by
 obtain⟨nv,kv,ha,hi⟩:=hn.ex;have cL:jB W b (fun k=>On k∨v.ownBlock=some k) { x with names:=xs} v kv:=⟨hr,hi.kids,fun g hg=>.inl (.inr hg),fun g _=>hne,fun g hg=>.inl (hi.ok g hg)⟩
 refine⟨⟨v,kv,ig ha _,cL.set ha 5 v⟩,.inl hn.at_,fun k hk=>?_⟩
 have hsz:(W.setCell ⟨n,5,none⟩ v).heap.size=W.heap.size:=by simp[World.setCell]
 rw[hsz];rcases hk with hk|hk
 ·exact hn.own k hk
 ·have:=hr.lt k hk;omega
theorem AQ (W:World) (b n:Nat) (Op On:Nat→Prop) (hd :∀k,Op k→¬ On k):LQ W b n Op On (aZ 143 b) te:=by
 intro W1 x ts T _ hp hn;obtain⟨t,r,rfl⟩:=hp.fin.cons;refine⟨143,_,_,rfl,enters_of Tryz.func143 (by kernel_rfl) rfl,?_⟩
 have ld :∀w',ay (· = b) W1 w'→NU w' b n On x:=fun w' hf=>hn.kept hf fun k hk e=>hd b hp.at_ (e▸hk)
 cases hc:aw [44] t with
 | true =>
  have e1:te (x.num,t::r)=(true,x.num,r):=by simp[te,cX,hc]
  rw[e1];refine(j6 b Op t r T W1 hp hc).mono ?_;rintro e w' ⟨rfl,h1,h2⟩;exact⟨rfl,h1,ld w' h2,h2.mono fun k hk=>.inl hk⟩
 | false =>
  have e1:te (x.num,t::r)=(false,x.num,t::r):=by simp[te,cX,hc]
  rw[e1];refine(lL b Op t r T W1 hp hc).mono ?_;rintro e w' ⟨rfl,h1,h2⟩;exact⟨rfl,h1,ld w' h2,h2.mono fun k hk=>.inl hk⟩
theorem Fa:eB 93 iz:=by
 rintro b n O T0 ⟨sh,Zs,vM,sn⟩ K E w hr ⟨m,hm,hk⟩;obtain⟨Op,On,T,ks,hO,hd,hp,hn,hl,hc⟩:=hr.ex;dsimp only at hk hp hn hl hc
 have HA:=aa (xc b n Op On { sh with kids:=ks} vM T (aZ 143 b) te _ E m hm w hp hn hd (AQ w b n Op On hd) hk);have HO:=aa hO;have HD:=aa hd;have HL:=aa hl;have HC:=aa hc;have Ck:=aa hn.at_;have HPB:=aa hp.at_;have HOW:=aa hp.own;have Zv:n<w.heap.size:=(hn.own n hn.at_).2;clear hr hp hn hl hc hk hO hd;go_enter Tryz.func93,Tryz.ntmps93
 go_wp2_with fail
 refine HA.out.mono ?_;rintro e w1 ⟨f1,mm,n1,h1⟩;have F1:=aa (f1.mono (O1:=O) fun k hk=>(HO.out k).2 (hk.elim (fun e=>.inl (e▸HPB.out)) (fun e=>.inr (e▸Ck.out))))
 obtain⟨nv,kv,hcs,_,hz⟩:=n1.cells;have c5:=hcs.c5;have z5:=hz 5;have jl:n<w1.heap.size:=(n1.own n n1.at_).2;have De:b<n:=(n1.own n n1.at_).1;have N1:=aa n1;clear hcs hz n1;rcases h1 with ⟨v,xs,ts,rfl,p1,r1,o1,ne1,ack,k1⟩ | ⟨l,er,rfl,⟨g',rfl,m1,m2⟩,k1⟩
 ·have P1:=aa p1
  have R1:=aa r1;have O1:=aa o1;have NE:=aa ne1;have K1:=aa k1;obtain⟨A,c,rfl,_⟩:=bI r1;clear p1 r1 o1 ne1 k1 f1;go_wp2_with fail
  go_ret
  have f2:=N1.out.fr 5 (.slice A xs.length c);have hop :∀k,Op k→k≠n:=fun k hk e=>HD.out k hk (e▸Ck.out)
  refine⟨F1.out.trans f2 (fun k hk=>.inl (hk▸(HO.out n).2 (.inr Ck.out))),.inl ⟨_,fun k=>Op k∨(On k∨(Value.slice A xs.length c).ownBlock=some k),rfl,⟨Op,fun k=>On k∨(Value.slice A xs.length c).ownBlock=some k,T,ks,fun _=>Iff.rfl,fun k hk h=>?_,P1.out.kept (O1:=(· = n)) f2 hop (fun k e=>by omega),AP N1.out _ xs R1.out NE.out,HL.out,HC.out⟩,fun k hk=>?_,K1.out⟩⟩
  ·rcases h with h|h
   ·exact HD.out k hk h
   ·have:=O1.out k h;have:=(HOW.out k hk).2;omega
  ·rcases hk with hk|hk|hk
   ·exact .inl ((HO.out k).2 (.inl hk))
   ·exact .inl ((HO.out k).2 (.inr hk))
   ·exact .inr (O1.out k hk)
 ·have M2:=aa m2
  have K1:=aa k1;have Rl:g'≠n:=by omega
  clear m2 k1 f1;go_wp2_with fail
  go_ret
  exact⟨F1.out.trans (N1.out.fr 5 _) (fun k hk=>.inl (hk▸(HO.out n).2 (.inr Ck.out))),.inr ⟨l,_,rfl,⟨g',rfl,m1,(Below.heap_setCell _ _ _ g' Rl).trans M2.out⟩,K1.out⟩⟩
def kf:Zm:=fun p=>match p.2 with
 | []=>(false,p.1,[])
 | t::r=>if aw [46,46,46] t=true then (true,1,r) else (decide (p.1=1),p.1,t::r)
def MP (b n:Nat) (Op On:Nat→Prop) (x:Nd) (T:List Nd) (o:Bool×Int×List aj) (w:World) (e:Ending) (w':World):Prop :=
 e=.returned (.bool o.1)∧PS w' b Op o.2.2 T∧NU w' b n On { x with num:=o.2.1}∧ay (fun k=>k=b∨k=n) w w'
theorem MQ (b n g1 g2:Nat) (Op On O:Nat→Prop) (x:Nd) (t:aj) (ts:List aj) (T:List Nd) (w:World) (hp:PS w b Op (t::ts) T) (hn:NU w b n On x) (hd :∀k,Op k→¬ On k) (hO :∀k,k=b∨k=n→O k)
  (b1:eK w O g1 #[.pointer (some ⟨b,0,none⟩)] 116) (b2:eK w O g2 #[.pointer (some ⟨n,0,none⟩)] 120):Calls Tryz.prog 209 #[.pointer (some ⟨g1,0,none⟩),.pointer (some ⟨g2,0,none⟩)] w (MP b n Op On x T (kf (x.num,t::ts)) w):=by
 have c1:=b1.cell 0;have B2:=aa b2;have HN:=aa hn;have ld :∀w',ay (· = b) w w'→NU w' b n On x:=fun w' hf=>hn.kept hf fun k hk e=>hd b hp.at_ (e▸hk)
 have HK:=aa ld;have Xn:=aa hO;have De:b<n:=(hn.own n hn.at_).1;have HD:=aa hd;have hg2:g2≠n:=fun e=>b2.2 (e▸hO n (.inr rfl))
 by_cases h1:aw [46,46,46] t=true
 ·have e1:kf (x.num,t::ts)=(true,1,ts):=by simp[kf,h1]
  rw[e1];have HT:=aa (lK b Op t ts T [46,46,46] ⟨#[46,46,46]⟩ rfl w hp (by decide) h1)
  clear hp hn hd hO b1 b2 ld h1 e1;go_enter Tryz.func209,Tryz.ntmps209
  go_wp2_with fail
  refine HT.out.mono ?_;rintro e w1 ⟨rfl,p1,f1⟩;have n1:=HK.out w1 f1;obtain⟨nv,kv,hcs,_,hz⟩:=n1.cells;have c3:=hcs.c3;have z3:=hz 3;have c2:=(B2.out.later (f1.mono fun k hk=>Xn.out k (.inl hk)) (Ext.refl _ _)).cell 0
  have jl:n<w1.heap.size:=(n1.own n n1.at_).2;have N1:=aa n1;have P1:=aa p1;have F1:=aa f1;clear n1 p1 f1 hcs hz c1;go_wp2_with fail
  go_ret
  have f2:=N1.out.fr 3 (.int .i64 1);exact⟨rfl,P1.out.kept (O1:=(· = n)) f2 (fun k hk e=>HD.out k hk (e▸N1.out.at_)) (fun k e=>by omega),N1.out.qj 3 _ rfl rfl fun _ _=>rfl,(F1.out.mono fun k hk=>.inl hk).trans f2 (fun k hk=>.inl (.inr hk))⟩
 ·have Me:aw [46,46,46] t=false:=by simpa using h1
  have e1:kf (x.num,t::ts)=(decide (x.num=1),x.num,t::ts):=by simp[kf,h1]
  rw[e1];have HT:=aa (nZ b Op t ts T [46,46,46] ⟨#[46,46,46]⟩ rfl w hp (by decide) Me)
  clear hp hn hd hO b1 b2 ld h1 Me e1;go_enter Tryz.func209,Tryz.ntmps209
  go_wp2_with fail
  refine HT.out.mono ?_;rintro e w1 ⟨rfl,p1,f1⟩;have n1:=HK.out w1 f1;obtain⟨nv,kv,hcs,_,hz⟩:=n1.cells;have c3:=hcs.c3;have c2:=(B2.out.later (f1.mono fun k hk=>Xn.out k (.inl hk)) (Ext.refl _ _)).cell 0
  have jl:n<w1.heap.size:=(n1.own n n1.at_).2;have N1:=aa n1;have P1:=aa p1;have F1:=aa f1;clear n1 p1 f1 hcs hz c1;go_wp2_with fail
  go_ret
  exact⟨by congr 2,P1.out,N1.out,F1.out.mono fun k hk=>.inl hk⟩
theorem Sh {m:Int} {t:aj} {r:List aj} (h:aw [44] t=false):pq (m,t::r)=(false,m,t::r):=by simp[pq,h]
theorem MR {m:Int} {t u:aj} {r:List aj} (h:aw [44] t=true):pq (m,t::u::r)=(!(kf (m,u::r)).1,(kf (m,u::r)).2.1,(kf (m,u::r)).2.2):=by
 cases h2:aw [46,46,46] u<;>simp[pq,kf,h,h2]
theorem Xo (b n g1 g2 g3:Nat) (Op On O:Nat→Prop) (x:Nd) (t:aj) (ts:List aj) (T:List Nd) (w:World) (hp:PS w b Op (t::ts) T) (hn:NU w b n On x) (hd :∀k,Op k→¬ On k) (hO :∀k,k=b∨k=n→O k)
  (b1:eK w O g1 #[.pointer (some ⟨b,0,none⟩)] 116) (b2:eK w O g2 #[.pointer (some ⟨n,0,none⟩)] 120) (b3:eK w O g3 #[.func (.func 209) #[] #[.pointer (some ⟨g1,0,none⟩),.pointer (some ⟨g2,0,none⟩)]] 22) :
  Calls Tryz.prog 210 #[.pointer (some ⟨g1,0,none⟩),.pointer (some ⟨g3,0,none⟩)] w (MP b n Op On x T (pq (x.num,t::ts)) w):=by
 have c1:=b1.cell 0;have B1:=aa b1;have B2:=aa b2;have B3:=aa b3;have ld :∀w',ay (· = b) w w'→NU w' b n On x:=fun w' hf=>hn.kept hf fun k hk e=>hd b hp.at_ (e▸hk)
 have HK:=aa ld;have Xn:=aa hO;have HD:=aa hd;by_cases h1:aw [44] t=true
 ·obtain⟨u,us,rfl⟩:=(hp.fin.tail (tB h1)).cons
  rw[MR h1];have HT:=aa (j6 b Op t (u::us) T w hp h1);have ph:=enters_of Tryz.func209 (by kernel_rfl) rfl
  unfold Enters at ph;clear hp hn hd hO b1 b2 b3 ld h1;go_enter Tryz.func210,Tryz.ntmps210
  go_wp2_with fail
  refine HT.out.mono ?_;rintro e w1 ⟨rfl,p1,f1⟩;have fO:=f1.mono (O1:=O) fun k hk=>Xn.out k (.inl hk)
  have c3:=(B3.out.later fO (Ext.refl _ _)).cell 0;have HM:=aa (MQ b n g1 g2 Op On O x u us T w1 p1 (HK.out w1 f1) HD.out Xn.out (B1.out.later fO (Ext.refl _ _)) (B2.out.later fO (Ext.refl _ _)));generalize kf (x.num,u::us)=o at *;obtain⟨o1,o2,o3⟩:=o;have F1:=aa f1;clear p1 f1 fO c1;go_wp2_with fail
  refine HM.out.mono ?_;rintro e w2 ⟨rfl,p2,n2,f2⟩;have P2:=aa p2;have N2:=aa n2;have F2:=aa f2;clear p2 n2 f2 c3;go_wp2_with fail
  go_ret
  exact⟨rfl,P2.out,N2.out,(F1.out.mono fun k hk=>.inl hk).trans F2.out (Ext.refl _ _)⟩
 ·have Me:aw [44] t=false:=by simpa using h1
  rw[Sh Me];have HT:=aa (lL b Op t ts T w hp Me);clear hp hn hd hO b1 b2 b3 ld h1 Me;go_enter Tryz.func210,Tryz.ntmps210
  go_wp2_with fail
  refine HT.out.mono ?_;rintro e w1 ⟨rfl,p1,f1⟩;have N1:=aa (HK.out w1 f1);have P1:=aa p1;have F1:=aa f1;clear p1 f1 c1;go_wp2_with fail
  go_ret
  exact⟨rfl,P1.out,N1.out,F1.out.mono fun k hk=>.inl hk⟩
theorem Ie {W:World} {b n g1 g2 g3:Nat} {Op On O:Nat→Prop} (hd :∀k,Op k→¬ On k) (hO :∀k,k=b∨k=n→O k)
  (b1:eK W O g1 #[.pointer (some ⟨b,0,none⟩)] 116) (b2:eK W O g2 #[.pointer (some ⟨n,0,none⟩)] 120) (b3:eK W O g3 #[.func (.func 209) #[] #[.pointer (some ⟨g1,0,none⟩),.pointer (some ⟨g2,0,none⟩)]] 22) :
  LQ W b n Op On (.func (.func 210) #[] #[.pointer (some ⟨g1,0,none⟩),.pointer (some ⟨g3,0,none⟩)]) pq:=by
 intro W1 x ts T hf hp hn;obtain⟨t,r,rfl⟩:=hp.fin.cons;have hf':=hf.mono (O1:=O) hO;exact⟨210,_,_,rfl,enters_of Tryz.func210 (by kernel_rfl) rfl,Xo b n g1 g2 g3 Op On O x t r T W1 hp hn hd hO (b1.later hf' (Ext.refl _ _)) (b2.later hf' (Ext.refl _ _)) (b3.later hf' (Ext.refl _ _))⟩
theorem Si {W W4:World} {b n:Nat} {On:Nat→Prop} {x:Nd} {nv kv:Value} (ha:W.heap[n]? = some (.cells (aP (x,nv,kv)).toArray 55 (0,0))) (hi:jB W b On x nv kv) (hat:On n) (hown :∀k,On k→b<k∧k<W.heap.size)
  (hf:ay (fun k=>nv.ownBlock=some k) W W4) :
  ay On W W4∧W4.cell? ⟨n,5,none⟩=some nv∧W4.frozen? ⟨n,5,none⟩=false∧n<W4.heap.size∧(∀v,ay (· = n) W4 (W4.setCell ⟨n,5,none⟩ v))∧∀(g m c:Nat) (xs:List ByteArray),jE W4 b (.slice (some ⟨g,0,none⟩) m c) xs→xs≠[] →
   NU (W4.setCell ⟨n,5,none⟩ (.slice (some ⟨g,0,none⟩) m c)) b n (fun k=>On k∨k=g) { x with names:=xs}:=by
 have hne:¬ nv.ownBlock=some n:=fun e=>by
  obtain⟨cur,hc⟩:=eX hi.names e;rw[ha] at hc;simp at hc
 have Gh:ay On W W4:=⟨hf.os,hf.tape,hf.output,hf.size,fun k hk hn=>by
  by_cases e:nv.ownBlock=some k
  ·rcases hi.on k e with h|h
   ·exact(hn h).elim
   ·exact hf.str k h
  ·exact hf.block k hk e,hf.str⟩
 have pk:W4.heap[n]? = some (.cells (aP (x,nv,kv)).toArray 55 (0,0)):=(hf.block n (hown n hat).2 hne).trans ha;refine⟨Gh,by simp[World.cell?,pk,aP],by simp[World.frozen?,pk],(aF.1 pk).1,fun v=>ay.vV pk (by decide) 5 v,fun g m c xs hr hx=>?_⟩
 have cL:jB W4 b (fun k=>On k∨k=g) { x with names:=xs} (.slice (some ⟨g,0,none⟩) m c) kv:=⟨hr,dh hi.kids fun k hk=>(hf.block k (hi.kids.lt k hk).2 (fun e=>by
  obtain⟨c1,h1⟩:=eX hi.names e;obtain⟨c2,h2⟩:=eX hi.kids hk;rw[h1] at h2;simp at h2)),fun k hk=>.inl (.inr (by simpa[Value.ownBlock] using hk.symm)),fun k _=>hx,fun k hk=>.inl (hi.ok k hk)⟩
 have qU:=hr.lt g rfl;refine⟨⟨_,kv,ig pk _,cL.set pk 5 _⟩,.inl hat,fun k hk=>?_⟩
 rcases hk with hk|rfl
 ·exact⟨(hown k hk).1,by have:=(hown k hk).2;have:=hf.size;simp[World.setCell];omega⟩
 ·exact⟨by omega,by simp[World.setCell];omega⟩
theorem xk (w:World) (A B:Obj) (v u:Value) (ty:TypeId):(((w.alloc A).alloc B).alloc (.cells #[v] ty)).cell? ⟨w.heap.size+1+1,0,none⟩=some v∧(((w.alloc A).alloc B).alloc (.cells #[v] ty)).frozen? ⟨w.heap.size+1+1,0,none⟩=false ∧
  (((w.alloc A).alloc B).alloc (.cells #[v] ty)).setCell ⟨w.heap.size+1+1,0,none⟩ u=((w.alloc A).alloc B).alloc (.cells #[u] ty):=by
 have hz:w.heap.size+1+1=((w.alloc A).alloc B).heap.size:=by rw[an,an]
 rw[hz];have hn:=World.alloc_heap_new ((w.alloc A).alloc B) (.cells #[v] ty);refine⟨by simp only[World.cell?,hn];rfl,by simp only[World.frozen?,hn];rfl,?_⟩
 rw[World.setCell_alloc_at _ _ _ _ _ rfl];rfl
theorem Ig {ops:Array Oper} {o:Oper} {a:Act} {K:Act→World→Prop} {Q:Exit→Act→World→Prop} {E:Prop} (w:World) (hgd:o.guard=none) (s x:Operand)
  (ho:o.op=.call { callee:=.builtin .append,args:=#[s,x],argTypes:=#[53,53]}) (b:Nat) (v:Value) (ls:List ByteArray) (hs:a.eval s=v) (hown:jE w b v ls) (hx:a.eval x=.slice none 0 0) (h:K (a.put o.dst v) w) :
  if Region.wanted o (yielded ops a.tmps)=true then Oper.wp Tryz.prog o a w K Q else E:=by
 have hw:Region.wanted o (yielded ops a.tmps)=true:=by simp[Region.wanted,hgd]
 rw[al hw];have hrun:=run_append_owned_none (P:=Tryz.prog) (w:=w) (b+1) 53 o.type 9 _ 1 Tryz.underlying53 (info_parts LN).choose_spec.1 v ls.length (ls.map Value.string) hown;unfold Oper.wp;simp[execOp,ho,resolve,invoke,builtin,hs,hx,hrun,Result.andThen];exact h
theorem qn:eB 181 AI:=by
 rintro b n O T0 ⟨sh,Zs,vM,sn⟩ K E w hr ⟨t,ts,iW,fE,Sj,hno⟩;obtain⟨Op,On,T,ks,hO,hd,hp,hn,hl,hc⟩:=hr.ex;dsimp only at iW fE Sj hno hp hn hl hc
 subst iW;have MS:=hr.lt;obtain⟨w1,ef⟩ :∃w1,w1=w.alloc (.cells #[.pointer (some ⟨b,0,none⟩)] 116):=⟨_,rfl⟩;obtain⟨w2,hw2⟩ :∃w2,w2=w1.alloc (.cells #[.pointer (some ⟨n,0,none⟩)] 120):=⟨_,rfl⟩;obtain⟨w3,hw3⟩ :∃w3,w3=w2.alloc (.cells #[.func (.func 209) #[] #[.pointer (some ⟨w.heap.size,0,none⟩),.pointer (some ⟨w.heap.size+1,0,none⟩)]] 22):=⟨_,rfl⟩;have f1:ay O w w1:=by rw[ef];exact(ay.refl _ _).alloc _
 have f2:ay O w1 w2:=by rw[hw2];exact(ay.refl _ _).alloc _
 have f3:ay O w2 w3:=by rw[hw3];exact(ay.refl _ _).alloc _
 have z1:w1.heap.size=w.heap.size+1:=by rw[ef,an]
 have z2:w2.heap.size=w.heap.size+1+1:=by rw[hw2,an,z1]
 have b1:eK w1 O w.heap.size #[.pointer (some ⟨b,0,none⟩)] 116:=by rw[ef];exact eK.new w O MS _ _
 have b2:eK w2 O (w.heap.size+1) #[.pointer (some ⟨n,0,none⟩)] 120:=by rw[hw2,←z1];exact eK.new w1 O (fun k hk=>by have:=MS k hk;omega) _ _
 have b3:eK w3 O (w.heap.size+1+1) #[.func (.func 209) #[] #[.pointer (some ⟨w.heap.size,0,none⟩),.pointer (some ⟨w.heap.size+1,0,none⟩)]] 22:=by rw[hw3,←z2];exact eK.new w2 O (fun k hk=>by have:=MS k hk;omega) _ _
 have f13:=(f1.trans f2 (Ext.refl _ _)).trans f3 (Ext.refl _ _);have Xp:Below w.heap.size w w3:=by
  rw[hw3,hw2,ef];exact(((Below.refl _ _).alloc (ah _) _).alloc (by simp) _).alloc (by simp;omega) _
 have b13:=(b1.later f2 (Ext.refl _ _)).later f3 (Ext.refl _ _);have b23:=b2.later f3 (Ext.refl _ _);have hbO :∀k,k=b∨k=n→O k:=fun k hk=>(hO k).2 (hk.elim (fun e=>.inl (e▸hp.at_)) (fun e=>.inr (e▸hn.at_)))
 have HM:=aa (MQ b n w.heap.size (w.heap.size+1) Op On O { sh with kids:=ks} t ts T w3 (hp.below Xp) (hn.below Xp) hd hbO b13 b23);have c23:=b23.cell 0;have c33:=b3.cell 0;have BX1:=aa b13;have BX2:=aa b23;have BX3:=aa b3;have F3:=aa f13;have HO:=aa hO;have HD:=aa hd;have HL:=aa hl;have HC:=aa hc;have HBO:=aa hbO;have Ck:=aa hn.at_;have HPW:=aa hp.own;have HNW:=aa hn.own;have Zv:n<w.heap.size:=(hn.own n hn.at_).2;have De:b<n:=(hn.own n hn.at_).1;have HWS:Hid (w.heap.size≤w3.heap.size):=aa f13.size;have ph:=enters_of Tryz.func209 (by kernel_rfl) rfl
 unfold Enters at ph;dsimp only[show({ sh with kids:=ks}:Nd).num=sh.num from rfl] at HM
 rw[fE] at HM;cases h3:aw [46,46,46] t with
 | true =>
  rw[show kf (0,t::ts)=(true,1,ts) from by simp[kf,h3]] at HM
  have HK:=aa (Sj h3);rw[hw3,hw2,ef] at HM;obtain⟨q1,q2,q3⟩:=xk w (.cells #[.pointer (some ⟨b,0,none⟩)] 116) (.cells #[.pointer (some ⟨n,0,none⟩)] 120) .nilFunc (.func (.func 209) #[] #[.pointer (some ⟨w.heap.size,0,none⟩),.pointer (some ⟨w.heap.size+1,0,none⟩)]) 22;clear hr hp hn hl hc Sj hno fE h3 c23 c33 BX1 BX2 BX3 f1 f2 f3 f13 z1 z2 b1 b2 b3 b13 b23 hbO Xp hO hd MS;go_enter Tryz.func181,Tryz.ntmps181
  go_wp2_with fail
  refine HM.out.mono ?_;rintro e w4 ⟨rfl,p4,n4,f4⟩;rw[←ef,←hw2,←hw3] at f4;have P4:=aa p4;have N4:=aa n4;have F4:=aa (F3.out.trans (f4.mono HBO.out) (Ext.refl _ _));clear p4 n4 f4 ef hw2 hw3;go_wp2_with fail
  go_ret
  exact⟨F4.out,.inl ⟨_,O,rfl,⟨Op,On,T,ks,HO.out,HD.out,P4.out,N4.out,HL.out,HC.out⟩,Ext.refl _ _,HK.out⟩⟩
 | false =>
  rw[show kf (0,t::ts)=(false,0,t::ts) from by simp[kf,h3]] at HM
  obtain⟨jl,m,hm,hk⟩:=hno h3;have HK:=aa hk;have HNL:=aa jl;rw[hw3,hw2,ef] at HM;obtain⟨q1,q2,q3⟩:=xk w (.cells #[.pointer (some ⟨b,0,none⟩)] 116) (.cells #[.pointer (some ⟨n,0,none⟩)] 120) .nilFunc (.func (.func 209) #[] #[.pointer (some ⟨w.heap.size,0,none⟩),.pointer (some ⟨w.heap.size+1,0,none⟩)]) 22;clear hr hp hn hl hc Sj hno fE h3 c23 c33 f1 f2 f3 f13 z1 z2 b1 b2 b3 b13 b23 hbO Xp hO hd MS hk jl;have HMD:=aa hm;go_enter Tryz.func181,Tryz.ntmps181
  go_wp2_with fail
  refine HM.out.mono ?_;rintro e w4 ⟨rfl,p4,n4,f4⟩;rw[←ef,←hw2,←hw3] at f4;have fO:=f4.mono HBO.out;have bx1:=BX1.out.later fO (Ext.refl _ _);have bx2:=BX2.out.later fO (Ext.refl _ _);have bx3:=BX3.out.later fO (Ext.refl _ _);have c14:=bx1.cell 0;have HRW:=aa (xc b n Op On _ (t::ts) T (.func (.func 210) #[] #[.pointer (some ⟨w.heap.size,0,none⟩),.pointer (some ⟨w.heap.size+1+1,0,none⟩)]) pq _ E m HMD.out w4 p4 n4 HD.out (Ie HD.out HBO.out bx1 bx2 bx3) HK.out);have aaH:=aa bx2;have F4:=aa (F3.out.trans fO (Ext.refl _ _));have hw4s:w.heap.size+1+1<w4.heap.size:=(aF.1 bx3.1).1;clear p4 n4 f4 fO bx1 bx2 bx3 ef hw2 hw3 q1 q2 q3 HM BX1 BX2 BX3;go_wp2_with fail
  refine HRW.out.mono ?_;rintro e w5 ⟨f5,mm,n5,h5⟩;have fO5:=f5.mono HBO.out;have F5:=aa (F4.out.trans fO5 (Ext.refl _ _));have c25:=(aaH.out.later fO5 (Ext.refl _ _)).cell 0;have N5:=aa n5;obtain⟨nv,kv,ha,hi⟩:=n5.ex;obtain⟨nv',kv',hcs,_,hz⟩:=n5.cells;have acy:=n5.at_;have UQ:=n5.own;have hnl5:n<w5.heap.size:=(n5.own n n5.at_).2;obtain⟨A5,k5,rfl,_⟩:=bI hi.names;have c55:w5.cell? ⟨n,5,none⟩=some (.slice A5 sh.names.length k5):=by simp[World.cell?,ha,aP]
  have z55:w5.frozen? ⟨n,5,none⟩=false:=by simp[World.frozen?,ha]
  have hgx:w.heap.size+1≠n:=by omega
  have hg2l:w.heap.size+1<w5.heap.size:=by have:=f5.size;omega
  have acz:sh.names.length≤100000:=HNL.out;have acA:=aa (aaH.out.later fO5 (Ext.refl _ _));have Xn:Hid (∀k,On k→O k):=aa fun k hk=>(HO.out k).2 (.inr hk)
  have HI:=aa hi;have HST:=aa (fun W4 hf=>Si (W4:=W4) ha hi acy UQ hf)
  have c25n:(w5.cell? ⟨w.heap.size+1,0,none⟩)=some (.pointer (some ⟨n,0,none⟩)):=c25;clear c25 hcs hz n5 f5 fO5 c14 ha hi UQ;rcases h5 with ⟨v,xs,Xj,rfl,p5,r5,o5,ne5,len5,k5'⟩ | ⟨l,er,rfl,⟨g',rfl,m1,m2⟩,k5'⟩
  ·obtain⟨Av,cv,rfl,_⟩:=bI r5
   have P5:=aa p5;have R5:=aa r5;have O5:=aa o5;have NE:=aa ne5;have K5:=aa k5';have uQ:b+1≤w5.heap.size:=by omega
   clear p5 r5 o5 ne5 k5';go_wp2_with fail
   go_region_law ((refine Hi _ (by rfl) _ _ (by rfl) b (.slice A5 sh.names.length k5) (.slice Av xs.length cv) sh.names xs (by rfl) HI.out.names HI.out.nz (by rfl) R5.out NE.out (by omega) (by omega) uQ ?_;intro g6 c6 w6 r6 f6 o6 l6;have f6':ay (fun k=>(Value.slice A5 sh.names.length k5).ownBlock=some k) w5 w6:=ay.trans (ay.ae (O:=fun k=>(Value.slice A5 sh.names.length k5).ownBlock=some k) (by exact⟨rfl,rfl,rfl,ah _,fun _ _=>rfl⟩)) f6 (Ext.refl _ _);obtain⟨fo,c56,z56,hn6,fr6,yA⟩:=HST.out w6 f6';have c26:=(acA.out.later (fo.mono Xn.out) (Ext.refl _ _)).cell 0;have FO:=aa fo;have FR6:=aa (fr6 (.slice (some ⟨g6,0,none⟩) (sh.names.length+xs.length) c6));have HU:=aa (yA g6 _ c6 _ r6 (fun e=>NE.out (JY.1 e).2));have O6:=aa o6;have L6:=aa l6;clear r6 f6 f6' o6 l6 fo fr6 yA))
   all_goals
    go_wp2
    go_ret
    have Hg :∀k,On k→O k:=fun k hk=>(HO.out k).2 (.inr hk)
    have UR:On g6∨w5.heap.size≤g6:=by
     rcases O6.out with ⟨h1,h2⟩|h1
     ·rcases HI.out.on g6 h1 with h|h
      ·exact .inl h
      ·exact(h2 h).elim
     ·exact .inr h1
    have p6:PS w6 b Op Xj T:=P5.out.kept FO.out HD.out (fun k hk=>fx (HNW.out k hk).1)
    refine⟨(F5.out.trans (FO.out.mono Hg) (Ext.refl _ _)).trans FR6.out (fun k hk=>.inl (hk▸(HO.out n).2 (.inr Ck.out))),.inl ⟨_,fun k=>Op k∨(On k∨k=g6),rfl,⟨Op,fun k=>On k∨k=g6,T,ks,fun _=>Iff.rfl,fun k hk h=>?_,?_,HU.out,HL.out,HC.out⟩,fun k hk=>?_,K5.out⟩⟩
    ·rcases h with h|rfl
     ·exact HD.out k hk h
     ·rcases UR with h|h
      ·exact HD.out _ hk h
      ·have:=(P5.out.own _ hk).2;omega
    ·exact p6.kept (O1:=(· = n)) FR6.out (fun k hk e=>HD.out k hk (e▸Ck.out)) fun k e=>by omega
    ·rcases hk with hk|hk|rfl
     ·exact .inl ((HO.out k).2 (.inl hk))
     ·exact .inl (Hg k hk)
     ·rcases UR with h|h
      ·exact .inl (Hg _ h)
      ·exact .inr (by have:=F5.out.size;omega)
  ·have M2:=aa m2
   have K5:=aa k5';have Rl:g'≠n:=by have:=F4.out.size;omega
   clear m2 k5';go_wp2_with fail
   go_region_law (refine Ig _ (by rfl) _ _ (by rfl) b (.slice A5 sh.names.length k5) sh.names (by rfl) HI.out.names (by rfl) ?_)
   all_goals
    go_wp2
    go_ret
    exact⟨F5.out.trans (N5.out.fr 5 (.slice A5 sh.names.length k5)).drew (fun k hk=>.inl (hk▸(HO.out n).2 (.inr Ck.out))),.inr ⟨l,_,rfl,⟨g',rfl,by have:=F4.out.size;omega,(Below.heap_setCell _ _ _ g' Rl).trans M2.out⟩,K5.out⟩⟩
theorem rG (w:World) (g:Nat) (hg:g=w.heap.size) (b:Nat) (O:Nat→Prop) (hO :∀k,O k→k<w.heap.size) (x:List UInt8) (hx:x≠[]) (X:ByteArray) (hX:X=bK x) :
  Calls Tryz.prog 89 #[.pointer (some ⟨b,0,none⟩),.slice (some ⟨g,0,none⟩) 1 1] (w.alloc (.cells #[.string X] 9)) (j7 b O (au [x]) w):=by
 subst hg;exact cE w b O hO x hx X hX
theorem Real.nms {W:World} {b n:Nat} {O:Nat→Prop} {T0:List Nd} {s:St} (h:Real W b n O T0 s):n<W.heap.size∧∃A c,W.cell? ⟨n,5,none⟩=some (.slice A s.h.names.length c):=by
 obtain⟨Op,On,T,ks,hO,hd,hp,hn,hl,hc⟩:=h.ex;obtain⟨nv,kv,hcs,hi,hz⟩:=hn.cells;obtain⟨A,c,rfl,_⟩:=bI hi.names;exact⟨(hn.own n hn.at_).2,A,c,hcs.c5⟩
def xl (li:cf):cf:=fun s K E=>aK [au [wIn],li,eu] { s with h:={ s.h with kind:=27}} K E
def Sk (ex li:cf):cf:=fun s K E=>(s.h.names.length=1→∃t ts,s.ts=t::ts∧(aw [61] t=true→aK [ex,au [[44]],ex,bD [44] [ex]] { s with h:={ s.h with kind:=26},ts:=ts} K E)∧(aw [61] t=false→xl li s K E))∧(s.h.names.length≠1→xl li s K E)
theorem Ih {ex:cf} (hE:eB 91 ex) (b n:Nat) (O:Nat→Prop) (T0:List Nd) (s:St) (K:St→Prop) (E:Int→Prop) (w:World) (hr:Real w b n O T0 s) (hl:s.h.names.length=1) (t:aj) (ts:List aj) (hs:s.ts=t::ts) (hq:aw [61] t=true) (hk:aK [ex,au [[44]],ex,bD [44] [ex]] { s with h:={ s.h with kind:=26},ts:=ts} K E):
  Calls Tryz.prog 94 #[.pointer (some ⟨b,0,none⟩),.pointer (some ⟨n,0,none⟩)] w (bH b n O T0 K E w):=by
 obtain⟨Zv,A5,c5',c5⟩:=hr.nms;rw[hl] at c5;have HT:=aa (kY hr hs [61] ⟨#[61]⟩ rfl (by decide) hq)
 have HK:=aa hk;clear hr hk hs hq hl;go_enter Tryz.func94,Tryz.ntmps94
 go_wp2_with fail
 refine HT.out.mono ?_;rintro e wx ⟨rfl,r2,f2⟩;have FF:=aa f2;have R:=aa r2;clear r2 f2 c5;obtain⟨⟨v0,k0⟩,y0,jl,f4,r4⟩:=R.out.kind 26;have F0:=aa (FF.out.trans f4 (Ext.refl _ _));have P0:=aa r4;have V1:=aa (rG _ wx.heap.size (by simp) b O r4.lt [44] (by decide) ⟨#[44]⟩ rfl)
 clear f4 r4;go_wp2_with fail
 refine V1.out.mono ?_;rintro e w1 ⟨f1,a1,c1,rfl,b1,h1⟩;have F1:=aa (F0.out.trans (ay.ae (O:=O) b1) (Ext.refl _ _));have P1:=aa (P0.out.below b1);have H1:=aa h1;clear b1 h1 V1 k0 y0;have ry :∀k,O k→k<w1.heap.size:=P1.out.lt;have V2:=aa (pw w1 b O ry [aZ 91 b] [ex] (by simp) ⟨hE.part (enters_of Tryz.func91 (by kernel_rfl) rfl) w1 b O,trivial⟩ [44] (by decide) ⟨#[44]⟩ rfl)
 clear ry;go_wp2_with fail
 refine V2.out.mono ?_;rintro e w2 ⟨f2,a2,c2,rfl,b2,h2⟩;have F2:=aa (F1.out.trans (ay.ae (O:=O) b2) (Ext.refl _ _));have P2:=aa (P1.out.below b2);have L1:=aa (H1.out.later (ay.ae (O:=O) b2) (Ext.refl _ _));clear H1;have H1:=L1;clear L1;have H2:=aa h2;clear b2 h2 V2;have HN:=aa (ji w w2 P2.out F2.out (Ext.refl _ _) [aZ 91 b,.func (.func f1) a1 c1,aZ 91 b,.func (.func f2) a2 c2] [ex,au [[44]],ex,bD [44] [ex]] (by simp) ⟨hE.part (enters_of Tryz.func91 (by kernel_rfl) rfl) w2 b O,H1.out,hE.part (enters_of Tryz.func91 (by kernel_rfl) rfl) w2 b O,H2.out,trivial⟩ HK.out)
 go_wp2_with fail
 refine HN.out.mono ?_;intro e wz hz;obtain⟨v,rfl⟩:=hz.ret;have HZ:=aa hz;clear hz;go_wp2_with fail
 go_ret
 exact HZ.out
theorem Dq {li:cf} (hL:eB 84 li) (b n:Nat) (O:Nat→Prop) (T0:List Nd) (s:St) (K:St→Prop) (E:Int→Prop) (w:World) (hr:Real w b n O T0 s) (hl:s.h.names.length=1) (t:aj) (ts:List aj) (hs:s.ts=t::ts) (hq:aw [61] t=false) (hk:xl li s K E):
  Calls Tryz.prog 94 #[.pointer (some ⟨b,0,none⟩),.pointer (some ⟨n,0,none⟩)] w (bH b n O T0 K E w):=by
 obtain⟨Zv,A5,c5',c5⟩:=hr.nms;rw[hl] at c5;have HT:=aa (n0 hr hs [61] ⟨#[61]⟩ rfl (by decide) hq)
 unfold xl at hk;have HK:=aa hk;clear hr hk hs hq hl;go_enter Tryz.func94,Tryz.ntmps94
 go_wp2_with fail
 refine HT.out.mono ?_;rintro e wx ⟨rfl,r2,f2⟩;have FF:=aa f2;have R:=aa r2;clear r2 f2 c5;obtain⟨⟨v0,k0⟩,y0,jl,f4,r4⟩:=R.out.kind 27;have F0:=aa (FF.out.trans f4 (Ext.refl _ _));have P0:=aa r4;have V1:=aa (rG _ wx.heap.size (by simp) b O r4.lt [105,110] (by decide) ⟨#[105,110]⟩ rfl)
 clear f4 r4;go_wp2_with fail
 refine V1.out.mono ?_;rintro e w1 ⟨f1,a1,c1,rfl,b1,h1⟩;have F1:=aa (F0.out.trans (ay.ae (O:=O) b1) (Ext.refl _ _));have P1:=aa (P0.out.below b1);have H1:=aa h1;clear b1 h1 V1 k0 y0;have HN:=aa (ji w w1 P1.out F1.out (Ext.refl _ _) [.func (.func f1) a1 c1,aZ 84 b,.func (.func 150) #[] #[]] [au [[105,110]],li,eu] (by simp) ⟨H1.out,hL.part (enters_of Tryz.func84 (by kernel_rfl) rfl) w1 b O,jC w1 b O,trivial⟩ HK.out)
 go_wp2_with fail
 refine HN.out.mono ?_;intro e wz hz;obtain⟨v,rfl⟩:=hz.ret;have HZ:=aa hz;clear hz;go_wp2_with fail
 go_ret
 exact HZ.out
theorem Dr {li:cf} (hL:eB 84 li) (b n:Nat) (O:Nat→Prop) (T0:List Nd) (s:St) (K:St→Prop) (E:Int→Prop) (w:World) (hr:Real w b n O T0 s) (hl:s.h.names.length≠1) (hk:xl li s K E):
  Calls Tryz.prog 94 #[.pointer (some ⟨b,0,none⟩),.pointer (some ⟨n,0,none⟩)] w (bH b n O T0 K E w):=by
 obtain⟨Zv,A5,c5',c5⟩:=hr.nms;have q1:((s.h.names.length:Int) == 1)=false:=aC.2 (by omega)
 unfold xl at hk;have HK:=aa hk;have R:=aa hr;have FF:=aa (ay.refl O w);clear hr hk hl;go_enter Tryz.func94,Tryz.ntmps94
 obtain⟨⟨v0,k0⟩,y0,jl,f4,r4⟩:=R.out.kind 27;have F0:=aa (FF.out.trans f4 (Ext.refl _ _));have P0:=aa r4;have V1:=aa (rG _ w.heap.size (by simp) b O r4.lt [105,110] (by decide) ⟨#[105,110]⟩ rfl)
 clear f4 r4;go_wp2_with fail
 refine V1.out.mono ?_;rintro e w1 ⟨f1,a1,c1,rfl,b1,h1⟩;have F1:=aa (F0.out.trans (ay.ae (O:=O) b1) (Ext.refl _ _));have P1:=aa (P0.out.below b1);have H1:=aa h1;clear b1 h1 V1 k0 y0;have HN:=aa (ji w w1 P1.out F1.out (Ext.refl _ _) [.func (.func f1) a1 c1,aZ 84 b,.func (.func 150) #[] #[]] [au [[105,110]],li,eu] (by simp) ⟨H1.out,hL.part (enters_of Tryz.func84 (by kernel_rfl) rfl) w1 b O,jC w1 b O,trivial⟩ HK.out)
 go_wp2_with fail
 refine HN.out.mono ?_;intro e wz hz;obtain⟨v,rfl⟩:=hz.ret;have HZ:=aa hz;clear hz;go_wp2_with fail
 go_ret
 exact HZ.out
theorem MT {ex li:cf} (hE:eB 91 ex) (hL:eB 84 li):eB 94 (Sk ex li):=by
 rintro b n O T0 s K E w hr ⟨h1,h2⟩;by_cases hl:s.h.names.length=1
 ·obtain⟨t,ts,hs,hy,hn⟩:=h1 hl
  cases hq:aw [61] t with
  | true=>exact Ih hE b n O T0 s K E w hr hl t ts hs hq (hy hq)
  | false=>exact Dq hL b n O T0 s K E w hr hl t ts hs hq (hn hq)
 ·exact Dr hL b n O T0 s K E w hr hl (h2 hl)
theorem aN.ym {w:World} {b:Nat} {O:Nat→Prop} (g:Nat) (hg:g=w.heap.size) (hO :∀k,O k→k<w.heap.size) (vs:List Value) (cO:List cf) (hl:vs.length≤100) (h:jD w b O vs cO):aN (w.alloc (.cells vs.toArray 122)) b O (.slice (some ⟨g,0,none⟩) vs.length vs.length) cO:=by
 subst hg;exact aN.new hO vs cO hl h
def Ii (li bd:cf):cf:=fun s K E=>∃t ts,s.ts=t::ts∧(aw bq t=false→aK [iz,bD [61] [li]] { s with h:={ s.h with kind:=19}} K E) ∧
 (aw bq t=true→∃u us,ts=u::us∧(u.1≠1→E u.2.1)∧(u.1=1→dz (dU ⟨11,t.2.1,0,0,⟨#[]⟩,[],[]⟩ [bd]) { s with h:={ s.h with kind:=28,names:=[bK u.2.2.2]},ts:=us} K E))
theorem uR {W:World} {b n:Nat} {O:Nat→Prop} {T0:List Nd} {s:St} (h:Real W b n O T0 s) {t:aj} {ts:List aj} (hs:s.ts=t::ts):Calls Tryz.prog 34 #[.pointer (some ⟨b,0,none⟩)] W fun e w'=>e=.returned (fW t)∧Below W.heap.size W w':=by
 obtain⟨Op,T,hp⟩:=h.ps;rw[hs] at hp;exact cG b Op t ts T W hp
theorem Ds {li:cf} (hL:eB 84 li) (b n:Nat) (O:Nat→Prop) (T0:List Nd) (s:St) (K:St→Prop) (E:Int→Prop) (w:World) (hr:Real w b n O T0 s) (t:aj) (ts:List aj) (hs:s.ts=t::ts) (hq:aw bq t=false) (hk:aK [iz,bD [61] [li]] { s with h:={ s.h with kind:=19}} K E) :
  Calls Tryz.prog 96 #[.pointer (some ⟨b,0,none⟩),.pointer (some ⟨n,0,none⟩)] w (bH b n O T0 K E w):=by
 have HA:=aa (uR hr hs);have HT:=aa (fun(W:World) (hW:Real W b n O T0 s)=>n0 hW hs bq ⟨#[102,117,110,99,116,105,111,110]⟩ rfl (by decide) hq)
 have HK:=aa hk;have HR:=aa hr;obtain⟨t0,t1,t2,t3⟩:=t;unfold fW at HA;dsimp only at HA
 have F9:=LB t0 t1 t2 (bK t3);generalize bK t3=S at *;clear hr hk hs hq;go_enter Tryz.func96,Tryz.ntmps96
 go_wp2_with fail
 refine HA.out.mono ?_;rintro e wa ⟨rfl,b1⟩;have B1:=aa b1;have AJ:=aa (HT.out wa (HR.out.below b1));clear b1 HT;go_wp2_with fail
 refine AJ.out.mono ?_;rintro e wx ⟨rfl,r2,f2⟩;obtain⟨⟨v0,k0⟩,y0,jl,f4,r4⟩:=r2.kind 19;have F0:=aa ((ay.ae (O:=O) B1.out).trans (f2.trans f4 (Ext.refl _ _)) (Ext.refl _ _));have P0:=aa r4;have V1:=aa (sM _ wx.heap.size (by simp) b O r4.lt [aZ 84 b] [li] (by simp) ⟨hL.part (enters_of Tryz.func84 (by kernel_rfl) rfl) _ b O,trivial⟩ [61] (by decide) ⟨#[61]⟩ rfl)
 clear f2 r2 f4 r4;go_wp2_with fail
 refine V1.out.mono ?_;rintro e w1 ⟨f1,a1,c1,rfl,b1,h1⟩;have F1:=aa (F0.out.trans (ay.ae (O:=O) b1) (Ext.refl _ _));have P1:=aa (P0.out.below b1);have HN:=aa (ji w w1 P1.out F1.out (Ext.refl _ _) [aZ 93 b,.func (.func f1) a1 c1] [iz,bD [61] [li]] (by simp) ⟨Fa.part (enters_of Tryz.func93 (by kernel_rfl) rfl) w1 b O,h1,trivial⟩ HK.out)
 clear b1 h1 V1 k0 y0;go_wp2_with fail
 refine HN.out.mono ?_;intro e wz hz;obtain⟨v,rfl⟩:=hz.ret;have HZ:=aa hz;clear hz;go_wp2_with fail
 go_ret
 exact HZ.out
theorem Real.MV {W:World} {b n:Nat} {O:Nat→Prop} {T0:List Nd} {s:St} (h:Real W b n O T0 s) (S:ByteArray):n<W.heap.size∧(∃v,W.cell? ⟨n,5,none⟩=some v)∧W.frozen? ⟨n,5,none⟩=false ∧
  ay O W ((W.setCell ⟨n,5,none⟩ (.slice (some ⟨W.heap.size,0,none⟩) 1 1)).alloc (.cells #[.string S] 9))∧∃O2,Ext O O2 W∧Real ((W.setCell ⟨n,5,none⟩ (.slice (some ⟨W.heap.size,0,none⟩) 1 1)).alloc (.cells #[.string S] 9)) b n O2 T0 { s with h:={ s.h with names:=[S]}}:=by
 have hlt:=h.lt;obtain⟨Op,On,T,ks,hO,hd,hp,hn,hl,hc⟩:=h.ex;obtain⟨nv,kv,hcs,_,hz⟩:=hn.cells;have jl:=(hn.own n hn.at_).2;have De:=(hn.own n hn.at_).1;have Zr:=hp.below (aX W (.cells #[.string S] 9));have hnA:=hn.below (aX W (.cells #[.string S] 9));have hb1:b+1≤W.heap.size:=(hp.own b hp.at_).2;have hrow:jE (W.alloc (.cells #[.string S] 9)) b (.slice (some ⟨W.heap.size,0,none⟩) 1 1) [S]:=⟨rfl,.inr ⟨W.heap.size,1,#[.string S],rfl,hb1,World.alloc_heap_new W _,ah _,by unfold maxLen;omega,rfl,rfl⟩⟩
 have yA:=AP hnA _ [S] hrow (by simp)
 have ou:=hnA.fr 5 (.slice (some ⟨W.heap.size,0,none⟩) 1 1);have oM:=Zr.kept (O1:=(· = n)) ou (fun k hk e=>hd k hk (e▸hn.at_)) fun k e=>by omega
 rw[World.setCell_alloc_past _ _ _ _ jl] at yA ou oM;refine⟨jl,⟨_,hcs.c5⟩,hz 5,((ay.refl O W).alloc _).trans ou (fun k e=>.inl ((hO k).2 (.inr (e▸hn.at_)))),fun k=>Op k∨(On k∨(Value.slice (some ⟨W.heap.size,0,none⟩) 1 1).ownBlock=some k),fun k hk=>?_,Op,_,T,ks,fun _=>Iff.rfl,fun k hk e=>?_,oM,yA,hl,hc⟩
 ·rcases hk with hk|hk|hk
  ·exact .inl ((hO k).2 (.inl hk))
  ·exact .inl ((hO k).2 (.inr hk))
  ·exact .inr (by simp[Value.ownBlock] at hk;omega)
 ·rcases e with e|e
  ·exact hd k hk e
  ·have:=(hp.own k hk).2
   simp[Value.ownBlock] at e;omega
theorem Ij {W:World} {b n:Nat} {O:Nat→Prop} {T0:List Nd} {s:St} (h:Real W b n O T0 s) {t:aj} {ts:List aj} (hs:s.ts=t::ts):Calls Tryz.prog 146 #[.pointer (some ⟨b,0,none⟩)] W fun e w'=>ay O W w' ∧
  ((t.1=1∧e=.returned (.tuple #[.string (bK t.2.2.2),.nilIface])∧Real w' b n O T0 { s with ts:=ts})∨(t.1≠1∧∃er,e=.returned (.tuple #[.string ⟨#[]⟩,er])∧QU W.heap.size w' er t.2.1)):=by
 obtain⟨Op,On,T,ks,hO,hd,hp,hn,hl,hc⟩:=h.ex;rw[hs] at hp;refine(C7 b Op t ts T W hp).mono ?_;rintro e w' ⟨hf,h1⟩;refine⟨hf.mono fun k hk=>(hO k).2 (.inl (hk▸hp.at_)),h1.imp ?_ id⟩
 rintro⟨a1,a2,a3⟩;exact⟨a1,a2,⟨Op,On,T,ks,hO,hd,a3,hn.kept hf fun k hk e=>hd b hp.at_ (e▸hk),hl,hc⟩⟩
theorem Ik {bd:cf} (Dm:eB 152 bd) (b n:Nat) (O:Nat→Prop) (T0:List Nd) (s:St) (K:St→Prop) (E:Int→Prop) (w:World) (hr:Real w b n O T0 s) (t u:aj) (us:List aj) (hs:s.ts=t::u::us) (hq:aw bq t=true) (pd:u.1≠1→E u.2.1)
  (hk:u.1=1→dz (dU ⟨11,t.2.1,0,0,⟨#[]⟩,[],[]⟩ [bd]) { s with h:={ s.h with kind:=28,names:=[bK u.2.2.2]},ts:=us} K E) :
  Calls Tryz.prog 96 #[.pointer (some ⟨b,0,none⟩),.pointer (some ⟨n,0,none⟩)] w (bH b n O T0 K E w):=by
 have HA:=aa (uR hr hs);have HT:=aa (fun(W:World) (hW:Real W b n O T0 s)=>kY hW hs bq ⟨#[102,117,110,99,116,105,111,110]⟩ rfl (by decide) hq)
 have HK:=aa hk;have HB:=aa pd;have HR:=aa hr;obtain⟨t0,t1,t2,t3⟩:=t;unfold fW at HA;dsimp only at HA HK
 have F9:=LB t0 t1 t2 (bK t3);generalize bK t3=S at *;clear hr hk hs hq pd;go_enter Tryz.func96,Tryz.ntmps96
 go_wp2_with fail
 refine HA.out.mono ?_;rintro e wa ⟨rfl,b1⟩;have B1:=aa b1;have AJ:=aa (HT.out wa (HR.out.below b1));clear b1 HT;go_wp2_with fail
 refine AJ.out.mono ?_;rintro e wx ⟨rfl,r2,f2⟩;obtain⟨⟨v0,k0⟩,y0,jl,f4,r4⟩:=r2.kind 28;have F0:=aa ((ay.ae (O:=O) B1.out).trans (f2.trans f4 (Ext.refl _ _)) (Ext.refl _ _));have HNm:=aa (Ij r4 rfl);clear f2 r2 f4 r4;go_wp2_with fail
 refine HNm.out.mono ?_;rintro e w1 ⟨f5,h5⟩;have F1:=aa (F0.out.trans f5 (Ext.refl _ _));rcases h5 with ⟨g1,rfl,r5⟩ | ⟨g1,er,rfl,⟨g',rfl,m1,m2⟩⟩
 ·obtain⟨S2,hS2⟩ :∃S2,S2=bK u.2.2.2:=⟨_,rfl⟩
  rw[←hS2];have PH:=HK.out g1;rw[←hS2] at PH;have v8:=aa PH;obtain⟨wJ,⟨v5,k5⟩,y5,f6,O2,x2,r6⟩:=r5.MV S2;have X2:Hid (Ext O O2 w):=aa ((Ext.refl O w).trans x2 F1.out.size);have F6:=aa (F1.out.trans f6 (Ext.refl _ _));have HP:=aN.ym (w:=(w1.setCell ⟨n,5,none⟩ (.slice (some ⟨w1.heap.size,0,none⟩) 1 1)).alloc (.cells #[.string S2] 9)) (b:=b) (O:=O2) (w1.heap.size+1) (by simp) r6.lt [aZ 152 b] [bd] (by simp) ⟨Dm.part (enters_of Tryz.func152 (by kernel_rfl) rfl) _ b O2,trivial⟩
  have HH:=aa (rz b O2 ⟨11,t1,0,0,⟨#[]⟩,[],[]⟩ (.slice none 0 0) _ [bd] _ (zt.nil _ b) HP (fun k hk=>by have:=r6.lt k hk;simp at this ⊢;omega))
  have R6:=aa r6;clear HP r6 f6 r5 f5 PH hS2 k0 y0 x2;go_wp2_with fail
  refine HH.out.mono ?_;rintro e w7 ⟨v,rfl,b7,h7⟩;obtain⟨f,first,cap,rfl,ph,bz⟩:=h7.1.call R6.out (aA (aX _ _) b7) v8.out
  have ed:=aa bz;clear h7 bz b7;unfold Enters at ph;go_wp2_with fail
  refine ed.out.mono ?_;intro e w8 h8;obtain⟨v,rfl⟩:=h8.ret;have H8:=aa h8;clear h8;go_wp2_with fail
  go_ret
  exact AN H8.out F6.out X2.out
 ·have M2:=aa m2
  have M1:=aa m1;have KB:=aa (HB.out g1);clear m1 m2 f5 k0 y0;go_wp2_with fail
  go_ret
  exact⟨F1.out,.inr ⟨_,_,rfl,⟨g',rfl,aM F0.out.size M1.out,M2.out⟩,KB.out⟩⟩
theorem Dt {li bd:cf} (hL:eB 84 li) (Dm:eB 152 bd):eB 96 (Ii li bd):=by
 rintro b n O T0 s K E w hr ⟨t,ts,hs,h1,h2⟩;cases hq:aw bq t with
 | true =>
  obtain⟨u,us,rfl,h3,h4⟩:=h2 hq;exact Ik Dm b n O T0 s K E w hr t u us hs hq h3 h4
 | false=>exact Ds hL b n O T0 s K E w hr t ts hs hq (h1 hq)
theorem Il {b:Nat} {O O1:Nat→Prop} {T0:List Nd} {R:Except Int (Ast×List aj)→Prop} {w w1 w':World} {e:Ending} (h:aG b O1 T0 R w1 e w') (hf:ay O w w1) (he:Ext O O1 w):aG b O T0 R w e w':=by
 obtain⟨h1,h2⟩:=h;refine⟨hf.trans h1 he,h2.imp ?_ ?_⟩
 ·rintro⟨p,a,ts,O2,T,e1,p1,x1,l1,k1⟩
  exact⟨p,a,ts,O2,T,e1,p1,he.trans x1 hf.size,l1,k1⟩
 ·rintro⟨l,v,er,e1,⟨g,m1,m2,m3⟩,k⟩
  exact⟨l,v,er,e1,⟨g,m1,aM hf.size m2,m3⟩,k⟩
theorem AR (b:Nat) (O:Nat→Prop) (t:aj) (ts:List aj) (T0 T:List Nd) (p:Nat) (a:Ast) (K:Ast→List aj→Prop) (E:Int→Prop) (w:World) (hp:PS w b O (t::ts) T) (hl:ep T0 T [a] [(p:Int)]) (hk:aK [aD,tf] ⟨dA 8 t.2.1,[a],t::ts,T0.length+a.size⟩ (ca K) E) :
  Calls Tryz.prog 151 #[.pointer (some ⟨b,0,none⟩),.int .i64 (p:Int)] w (aG b O T0 (RK K E) w):=by
 have hO :∀k,O k→k<w.heap.size:=fun k hk=>(hp.own k hk).2
 have tb:b<w.heap.size:=hO b hp.at_;have Zr:=hp.below (aX w (.cells #[.int .i64 (p:Int)] 3));have HPV:aN ((w.alloc (.cells #[.int .i64 (p:Int)] 3)).alloc (.cells #[aZ 40 b,aZ 179 b] 122)) b (fun k=>O k∨k=w.heap.size) (.slice (some ⟨w.heap.size+1,0,none⟩) 2 2) [aD,tf] :=
  aN.ym (w.heap.size+1) (by simp) (fun k hk=>by rcases hk with hk|rfl;have:=hO k hk;simp;omega;simp) [aZ 40 b,aZ 179 b] [aD,tf] (by simp) ⟨ba _ b _,Ma.part (enters_of Tryz.func179 (by kernel_rfl) rfl) _ b _,trivial⟩
 have hg2:((w.alloc (.cells #[.int .i64 (p:Int)] 3)).alloc (.cells #[aZ 40 b,aZ 179 b] 122)).heap[w.heap.size]? = some (.cells #[.int .i64 (p:Int)] 3 (0,0)):=((aX _ _).block w.heap.size (by simp)).trans (World.alloc_heap_new w _)
 have HN:=aa (AM _ w.heap.size p a (Zr.below (aX _ (.cells #[aZ 40 b,aZ 179 b] 122))) hg2 (fun h=>by have:=hO _ h;omega) (by omega) hl (mu 8) rfl _ _ HPV hk)
 have HF:Hid (ay O w ((w.alloc (.cells #[.int .i64 (p:Int)] 3)).alloc (.cells #[aZ 40 b,aZ 179 b] 122))):=aa (((ay.refl O w).alloc _).alloc _);clear hp hl hk Zr HPV hg2 hO;go_enter Tryz.func151,Tryz.ntmps151
 go_wp2_with fail
 refine HN.out.mono ?_;intro e wz hz;obtain⟨v,er,rfl⟩:=hz.ret;have HZ:=aa hz;clear hz;go_wp2_with fail
 go_ret2
 exact Il HZ.out HF.out fun k hk=>hk.imp id fun h=>by omega
def Im (bd:cf):cf:=fun s K E=>s.xs=[]∧∃t ts,s.ts=t::ts∧t.1≠0∧dU (mu 7) [cQ] ts s.n (fun a fI=>∃m,xe m a fI s.n (fun a2 self iy =>
 aK [eu,dz (dU ⟨11,t.2.1,0,0,⟨#[]⟩,self,[]⟩ [bd])] ⟨s.h,[a2],iy,s.n+Ast.ak [a2]⟩ K E) E) E
set_option maxRecDepth 40000 in
theorem Du {bd:cf} (Dm:eB 152 bd):eB 95 (Im bd):=by
 rintro b n O T0 ⟨sh,Zs,vM,sn⟩ K E w hr ⟨hx,t,ts,iW,Sl,u,us,lu,hus,hlu,hk⟩;obtain⟨Op,On,T,ks,hO,hd,hp,hn,hl,hc⟩:=hr.ex;dsimp only at hx iW hk hp hn hl hc hus hlu
 subst hx iW hus;obtain rfl:lu=u.2.1:=hlu.elim (fun h=>h.2) (fun h=>absurd rfl h.1)
 obtain⟨rfl,rfl⟩:=hl.same;subst hc;obtain⟨t0,t1,t2,t3⟩:=t;have HA:=aa (cG b Op (t0,t1,t2,t3) (u::us) T w hp);unfold fW at HA;dsimp only at HA hk Sl
 have F9:=LB t0 t1 t2 (bK t3);have tb:b<w.heap.size:=(hp.own b hp.at_).2;have Zv:n<w.heap.size:=(hn.own n hn.at_).2;have De:b<n:=(hn.own n hn.at_).1;have HN0:=aa hn;have HP0:=aa hp;have HO:=aa hO;have HD:=aa hd;have Ck:=aa hn.at_;have HK:=aa hk;have HT0:=aa Sl;clear hp hk hr hn hO hd hl hlu Sl;go_enter Tryz.func95,Tryz.ntmps95
 go_wp2_with fail
 refine HA.out.mono ?_;rintro e wa ⟨rfl,b1⟩;have p1:=HP0.out.below b1;obtain⟨i,hi,ci,fi,_⟩:=p1.place;have hbwa:b<wa.heap.size:=cJ tb b1.size;have hnwa:n<wa.heap.size:=cJ Zv b1.size;have p2:=p1.step HT0.out ci;have f2:=p1.fr 1 (.int .i64 ((i+1:Nat):Int));obtain⟨wf,yF⟩ :∃wf,wf=(wa.setCell ⟨b,1,none⟩ (.int .i64 ((i:Int)+1))).alloc (.cells #[.int .i64 11,.int .i64 t1,.int .i64 0,.int .i64 0,.string ⟨#[]⟩,.slice none 0 0,.slice none 0 0] 55):=⟨_,rfl⟩;have pf:PS wf b Op (u::us) T:=by rw[yF];exact p2.below (aX _ _)
 have hzf:wa.heap.size+1=wf.heap.size:=by rw[yF];simp
 have fp:ay Op w wf:=by
  rw[yF];exact((ay.ae (O:=Op) b1).trans (p1.fr 1 (.int .i64 ((i:Int)+1))) (fun k hk=>.inl (hk▸p1.at_))).alloc _
 have W8 :∀k,Op k→O k:=fun k hk=>(HO.out k).2 (.inl hk)
 have bf:eK wf Op wa.heap.size #[.int .i64 11,.int .i64 t1,.int .i64 0,.int .i64 0,.string ⟨#[]⟩,.slice none 0 0,.slice none 0 0] 55:=by
  rw[yF,show wa.heap.size=(wa.setCell ⟨b,1,none⟩ (.int .i64 ((i:Int)+1))).heap.size by simp]
  exact eK.new _ Op (fun k hk=>(p2.own k hk).2) _ 55
 have nf:=HN0.out.kept fp (fun k hk h=>HD.out k h hk)
 have HKF:aK [cQ] ⟨{ mu 7 with line:=u.2.1},[],u::us,T.length⟩ (ca fun a fI=>∃m,xe m a fI T.length (fun a2 self iy=>aK [eu,dz (dU ⟨11,t1,0,0,⟨#[]⟩,self,[]⟩ [bd])] ⟨sh,[a2],iy,T.length+Ast.ak [a2]⟩ K E) E) E:=HK.out
 have JI:=aa (qm wf wf (wa.heap.size+1) hzf pf (ay.refl Op wf) (mu 7) rfl [aZ 88 b] [cQ] (by simp) ⟨ij wf b Op,trivial⟩ HKF)
 have FP:=aa fp;have BF:=aa bf;have NF:=aa nf;have Ux:=aa W8;have HZF:=aa hzf;have HNW:=aa HN0.out.own;have HWA:Hid (w.heap.size≤wa.heap.size):=aa b1.size;rw[yF] at JI;have HWF:=aa yF;clear yF hzf;clear pf fp bf nf W8 p1 p2 f2 b1 HKF;have hne1:wa.heap.size≠n:=by omega
 have ace:wa.heap.size≠b:=by omega
 go_wp2_with fail
 refine JI.out.mono ?_;intro e w3 h3;rw[←HWF.out] at h3;clear JI;have F3:=aa h3.1;rcases h3.2 with ⟨p,a,fI,O1,T1,rfl,p1,x1,l1,k1⟩ | ⟨le,v,er,rfl,⟨g',rfl,m2,m3⟩,k1⟩
 ·obtain⟨m,k1⟩:=k1
  have P1:=aa p1;have X1:=aa x1;have L1:=aa l1;have K1:=aa k1;clear h3 p1 x1 l1 k1;go_wp2_with fail
  go_loopg [6,7] (m+1) (fun z lv ev wr=>(∃(p:Nat) (a:Ast) (tr:List aj) (Or:Nat→Prop) (Tr:List Nd) (k:Nat),lv=.int .i64 (p:Int)∧ev=.nilIface∧z=k+1∧PS wr b Or tr Tr∧ay Op wf wr∧Ext Op Or wf∧ep T Tr [a] [(p:Int)]∧xe k a tr T.length (fun a2 self iy=>aK [eu,dz (dU ⟨11,t1,0,0,⟨#[]⟩,self,[]⟩ [bd])] ⟨sh,[a2],iy,T.length+Ast.ak [a2]⟩ K E) E) ∨
   (∃(le:Int) (g':Nat),ev=.iface 75 (.pointer (some ⟨g',0,none⟩))∧wf.heap.size≤g'∧wr.heap[g']? = some (.cells #[.int .i64 6,.int .i64 le] 81 (0,0))∧ay Op wf wr∧E le))
  case atStart=>exact .inl ⟨p,a,fI,O1,T1,m,rfl,rfl,rfl,P1.out,F3.out,X1.out,L1.out,K1.out⟩
  case round =>
   rcases hrel with ⟨p,a,tr,Or,Tr,k,rfl,rfl,rfl,pr,fr,xr,lr,kr⟩ | ⟨le,g',rfl,hg,m3,fr,ke⟩
   ·cases k with
    | zero=>exact kr.elim
    | succ k =>
     obtain⟨t9,r,rfl,Sm,cL⟩:=kr;have PR:=aa pr;have FR:=aa fr;have XR:=aa xr;have LR:=aa lr;have HW:=aa (fun(W:World) hW=>bS b Or t9 r Tr W hW)
     have je:=aa (HW.out wr pr);clear pr fr xr lr F3 P1 X1 L1 K1;cases hq:aw [46] t9 with
     | true =>
      have g1:((ag t9).toList == [46])=true:=ai (s:=[46]) (by decide) t9 hq
      have v8:=aa (Sm hq);clear Sm cL hq HW;generalize ag t9=Y at *;go_wp2_with fail
      refine je.out.mono ?_;rintro e w4 ⟨rfl,b4⟩;have F4:=aa (FR.out.trans (ay.ae (O:=Or) b4) XR.out);have Xq:=aa (AR b Or t9 r T Tr p a _ E w4 (PR.out.below b4) LR.out v8.out);clear b4;go_wp2_with fail
      refine Xq.out.mono ?_;intro e w5 h5;have F5:=aa (F4.out.trans h5.1 XR.out);rcases h5.2 with ⟨p5,a5,Xj,O5,T5,rfl,q5,x5,l5,k5⟩ | ⟨le,v,er,rfl,⟨g',rfl,m2,m3⟩,k5⟩
      ·have Q5:=aa q5
       have X5:=aa (XR.out.trans x5 F4.out.size);have L5:=aa l5;have K5:=aa k5;clear h5 q5 x5 l5 k5;go_wp2_with fail
       go_roundg (k+1)
       case measure=>omega
       case rel=>exact .inl ⟨p5,a5,Xj,O5,T5,k,rfl,rfl,rfl,Q5.out,F5.out,X5.out,L5.out,K5.out⟩
      ·have M3:=aa m3
       have M2:=aa (aM F4.out.size m2);have K5:=aa k5;clear h5 m2 m3 k5;go_wp2_with fail
       go_roundg (k+1)
       case measure=>omega
       case rel=>exact .inr ⟨le,g',rfl,M2.out,M3.out,F5.out,K5.out⟩
     | false =>
      have g1:((ag t9).toList == [46])=false:=ai (s:=[46]) (by decide) t9 hq
      have cL:=cL hq;have HDr:Hid (∀k,Or k→¬ On k):=aa fun k hk h=>by
       rcases XR.out k hk with h1|h1
       ·exact HD.out k h1 h
       ·have:=(HNW.out k h).2;have:=FP.out.size;omega
      have XW:Hid (Ext Op Or w):=aa ((Ext.refl Op w).trans XR.out FP.out.size);cases po:aw [58] t9 with
      | true =>
       have g2:((ag t9).toList == [58])=true:=ai (s:=[58]) (by decide) t9 po
       have v8:=aa (cL.1 po);clear Sm cL hq po;generalize ag t9=Y at *;go_wp2_with fail
       refine je.out.mono ?_;rintro e w4 ⟨rfl,b4⟩;have F4:=aa (FR.out.trans (ay.ae (O:=Or) b4) XR.out);have P4:=aa (PR.out.below b4);have lz:=aa (HW.out w4 P4.out);clear b4 HW je;go_wp2_with fail
       refine lz.out.mono ?_;rintro e w5 ⟨rfl,b5⟩;have f5:=F4.out.trans (ay.ae (O:=Or) b5) XR.out;have Xr:=BF.out.later f5 (Ext.refl _ _);have q5:w5.cell? ⟨wa.heap.size,5,none⟩=some (.slice none 0 0):=Xr.cell 5;have y5:w5.frozen? ⟨wa.heap.size,5,none⟩=false:=by simp[World.frozen?,Xr.1]
       have hl5:wa.heap.size<w5.heap.size:=(aF.1 Xr.1).1;have f6:ay (fun k=>k=wa.heap.size) w5 ((w5.alloc (.cells #[.string ⟨#[115,101,108,102]⟩] 9)).setCell ⟨wa.heap.size,5,none⟩ (.slice (some ⟨w5.heap.size,0,none⟩) 1 1)):=((ay.refl _ w5).alloc _).trans (ay.vV ((aX w5 _).block _ hl5 |>.trans Xr.1) (by decide) 5 _) (Ext.refl _ _)
       have PK:=ig ((aX w5 (.cells #[.string ⟨#[115,101,108,102]⟩] 9)).block _ hl5 |>.trans Xr.1) (k:=5) (.slice (some ⟨w5.heap.size,0,none⟩) 1 1);have Xb:((w5.alloc (.cells #[.string ⟨#[115,101,108,102]⟩] 9)).setCell ⟨wa.heap.size,5,none⟩ (.slice (some ⟨w5.heap.size,0,none⟩) 1 1)).heap[w5.heap.size]? = some (.cells #[.string ⟨#[115,101,108,102]⟩] 9 (0,0)):=(Below.heap_setCell _ _ _ _ (by show w5.heap.size≠wa.heap.size;omega)).trans (World.alloc_heap_new w5 _)
       rw[World.setCell_alloc_past _ _ _ _ hl5] at f6 PK Xb;obtain⟨w6,hw6⟩ :∃w6,w6=(w5.setCell ⟨wa.heap.size,5,none⟩ (.slice (some ⟨w5.heap.size,0,none⟩) 1 1)).alloc (.cells #[.string ⟨#[115,101,108,102]⟩] 9):=⟨_,rfl⟩;rw[←hw6] at f6 PK Xb;have hfb:¬ Or wa.heap.size:=fun h=>by
        rcases XR.out _ h with h1|h1
        ·exact Xr.2 (by exact h1)
        ·have:=HZF.out;omega
       have p6:PS w6 b Or (t9::r) Tr:=(P4.out.below b5).kept f6 (fun k hk e=>hfb (e▸hk)) (fun k e=>by omega)
       have acB:b+1≤w5.heap.size:=by omega
       have aaI:zt w6 b [bK wE] (.slice (some ⟨w5.heap.size,0,none⟩) 1 1):=⟨⟨rfl,.inr ⟨w5.heap.size,1,#[.string ⟨#[115,101,108,102]⟩],rfl,acB,Xb,ah _,by unfold maxLen;omega,rfl,rfl⟩⟩,fun g hg=>⟨by
        have e1:g=w5.heap.size:=by simpa[Value.ownBlock] using hg.symm
        rw[e1];exact⟨_,_,Xb⟩,by simp⟩⟩
       have P6:=aa p6;have F6s:=aa f6;have US:=aa PK;have NM6:=aa aaI;have F5:=aa f5;have HFB:=aa hfb;have F6:=aa (((FP.out.trans f5 (Ext.refl _ _)).mono Ux.out).trans f6 (fun k (e:k=wa.heap.size)=>.inr (by have:=HWA.out;omega)))
       have N6:=aa ((NF.out.kept f5 fun k hk h=>HD.out k h hk).kept f6 (fun k hk (e:k=wa.heap.size)=>by have:=(HNW.out k hk).2;have:=HWA.out;omega))
       have Xq:=aa (AR b Or t9 r T Tr p a _ E w6 p6 LR.out v8.out);rw[hw6] at Xq;have HW6:=aa hw6;clear b5 p6 f6 PK Xb aaI f5 Xr hfb hw6;go_wp2_with fail
       refine Xq.out.mono ?_;intro e w7 h7;rw[←HW6.out] at h7;have F7:=aa (F6.out.trans (h7.1.mono (O1:=Or) fun _ h=>h) (fun k hk=>(XW.out k hk).imp (Ux.out k) id))
       have N7:=aa (N6.out.kept h7.1 fun k hk h=>HDr.out k h hk)
       have UT:Hid (eK w7 Or wa.heap.size #[.int .i64 11,.int .i64 t1,.int .i64 0,.int .i64 0,.string ⟨#[]⟩,.slice (some ⟨w5.heap.size,0,none⟩) 1 1,.slice none 0 0] 55):=aa ⟨(h7.1.block _ (aF.1 US.out).1 HFB.out).trans US.out,HFB.out⟩;have NM7:=aa (NM6.out.later h7.1);rcases h7.2 with ⟨p8,a8,ts8,O8,T8,rfl,q8,x8,l8,k8⟩ | ⟨le,v,er,rfl,⟨g',rfl,m2,m3⟩,k8⟩
       ·have P8:=aa q8
        have L8:=aa l8;have K8:=aa k8;have X8:Hid (Ext Op O8 w):=aa (XW.out.trans x8 F6.out.size);have HD8:Hid (∀k,O8 k→¬ On k):=aa fun k hk h=>by
         rcases X8.out k hk with h1|h1
         ·exact HD.out k h1 h
         ·have:=(HNW.out k h).2;omega
        clear h7 q8 x8 l8 k8 q5 y5;obtain⟨v6,c6,z6,jl,f6,p6,r6⟩:=pz P8.out N7.out HD8.out L8.out;have Dv:T8.length=T.length+Ast.ak [a8]:=L8.out.len;rw[Dv] at r6;obtain⟨O3,Cn⟩ :∃O3:Nat→Prop,O3=fun k=>O8 k∨(On k∨k=w7.heap.size):=⟨_,rfl⟩
        rw[←Cn] at r6;have X3:Hid (Ext O O3 w):=aa fun k hk=>by
         rw[Cn] at hk;rcases hk with hk|hk|rfl
         ·exact(X8.out k hk).imp (fun h=>(HO.out k).2 (.inl h)) id
         ·exact .inl ((HO.out k).2 (.inr hk))
         ·exact .inr F7.out.size
        have f7:ay O w ((w7.alloc (.cells #[.int .i64 (p8:Int)] 3)).setCell ⟨n,6,none⟩ (.slice (some ⟨w7.heap.size,0,none⟩) 1 1)):=F7.out.trans f6 fun k hk=>.inl ((HO.out k).2 (.inr hk))
        rw[World.setCell_alloc_past _ _ _ _ jl] at r6 f7;obtain⟨nv1,kv1,yK,_,hz1⟩:=N7.out.cells;have d6:=yK.c6;have y6:=hz1 6;have acC:wa.heap.size≠n:=by omega
        have acD:wa.heap.size<w7.heap.size:=(aF.1 UT.out.1).1;have e0:=UT.out.cell 0;have e1:=UT.out.cell 1;have e2:=UT.out.cell 2;have e3:=UT.out.cell 3;have e4:=UT.out.cell 4;have e5:=UT.out.cell 5;have e6:=UT.out.cell 6;have HP7:=aN.ym (w:=(w7.setCell ⟨n,6,none⟩ (.slice (some ⟨w7.heap.size,0,none⟩) 1 1)).alloc (.cells #[.int .i64 (p8:Int)] 3)) (b:=b) (O:=O3) (w7.heap.size+1) (by simp) r6.lt [aZ 152 b] [bd] (by simp) ⟨Dm.part (enters_of Tryz.func152 (by kernel_rfl) rfl) _ b O3,trivial⟩
        have MW:zt (((w7.setCell ⟨n,6,none⟩ (.slice (some ⟨w7.heap.size,0,none⟩) 1 1)).alloc (.cells #[.int .i64 (p8:Int)] 3)).alloc (.cells #[aZ 152 b] 122)) b [bK wE] (.slice (some ⟨w5.heap.size,0,none⟩) 1 1):=(NM7.out.later (O:=On) (by rw[←World.setCell_alloc_past _ _ _ _ jl];exact f6)).later ((ay.refl On _).alloc _)
        have HH:=aa (rz b O3 ⟨11,t1,0,0,⟨#[]⟩,[bK wE],[]⟩ (.slice (some ⟨w5.heap.size,0,none⟩) 1 1) _ [bd] _ MW HP7 (fun k hk=>by have:=r6.lt k hk;simp at this ⊢;omega))
        have R6:=aa r6;have F7:=aa f7;clear f6 p6 r6 f7 yK hz1 c6 z6 HP7 MW Cn Dv;go_wp2_with fail
        refine HH.out.mono ?_;rintro e w8 ⟨v,rfl,b8,h8,fi,fa,fc,rfl⟩;have B8:=aa (aA (aX _ _) b8);have HN:=aa (ji w w8 (R6.out.below B8.out) (F7.out.trans (ay.ae (O:=O3) B8.out) X3.out) X3.out [.func (.func 150) #[] #[],.func (.func fi) fa fc] [eu,dz (dU ⟨11,t1,0,0,⟨#[]⟩,[bK wE],[]⟩ [bd])] (by simp) ⟨jC w8 b O3,h8,trivial⟩ K8.out)
        clear b8 h8;go_wp2_with fail
        refine HN.out.mono ?_;intro e wz hz;obtain⟨v,rfl⟩:=hz.ret;have HZ:=aa hz;clear hz;go_wp2_with fail
        go_ret
        exact HZ.out
       ·have M3:=aa m3
        have M2:=aa (aM F6.out.size m2);have K8:=aa k8;clear h7 m2 m3 k8 q5 y5;go_wp2_with fail
        go_ret
        exact⟨F7.out,.inr ⟨le,_,rfl,⟨g',rfl,M2.out,M3.out⟩,K8.out⟩⟩
      | false =>
       have g2:((ag t9).toList == [58])=false:=ai (s:=[58]) (by decide) t9 po
       have v8:=aa (cL.2 po);clear Sm cL hq po;generalize ag t9=Y at *;go_wp2_with fail
       refine je.out.mono ?_;rintro e w4 ⟨rfl,b4⟩;have F4:=aa (FR.out.trans (ay.ae (O:=Or) b4) XR.out);have P4:=aa (PR.out.below b4);have lz:=aa (HW.out w4 P4.out);clear b4 HW je;go_wp2_with fail
       refine lz.out.mono ?_;rintro e w5 ⟨rfl,b5⟩;have f5:=F4.out.trans (ay.ae (O:=Or) b5) XR.out;have P5:=aa (P4.out.below b5);have F5:=aa (FP.out.trans f5 (Ext.refl _ _) |>.mono Ux.out);have N5:=aa (NF.out.kept f5 fun k hk h=>HD.out k h hk)
       have UU:=aa (BF.out.later f5 (Ext.refl _ _));have NM5:Hid (zt w5 b [] (.slice none 0 0)):=aa (zt.nil w5 b);clear b5 f5;obtain⟨v6,c6,z6,jl,f6,p6,r6⟩:=pz P5.out N5.out HDr.out LR.out;have Dv:Tr.length=T.length+Ast.ak [a]:=LR.out.len;rw[Dv] at r6;obtain⟨O3,Cn⟩ :∃O3:Nat→Prop,O3=fun k=>Or k∨(On k∨k=w5.heap.size):=⟨_,rfl⟩
       rw[←Cn] at r6;have X3:Hid (Ext O O3 w):=aa fun k hk=>by
        rw[Cn] at hk;rcases hk with hk|hk|rfl
        ·exact(XW.out k hk).imp (fun h=>(HO.out k).2 (.inl h)) id
        ·exact .inl ((HO.out k).2 (.inr hk))
        ·exact .inr F5.out.size
       have f7:ay O w ((w5.alloc (.cells #[.int .i64 (p:Int)] 3)).setCell ⟨n,6,none⟩ (.slice (some ⟨w5.heap.size,0,none⟩) 1 1)):=F5.out.trans f6 fun k hk=>.inl ((HO.out k).2 (.inr hk))
       rw[World.setCell_alloc_past _ _ _ _ jl] at r6 f7;obtain⟨nv1,kv1,yK,_,hz1⟩:=N5.out.cells;have d6:=yK.c6;have y6:=hz1 6;have acC:wa.heap.size≠n:=by omega
       have acD:wa.heap.size<w5.heap.size:=(aF.1 UU.out.1).1;have e0:=UU.out.cell 0;have e1:=UU.out.cell 1;have e2:=UU.out.cell 2;have e3:=UU.out.cell 3;have e4:=UU.out.cell 4;have e5:=UU.out.cell 5;have e6:=UU.out.cell 6;have HP7:=aN.ym (w:=(w5.setCell ⟨n,6,none⟩ (.slice (some ⟨w5.heap.size,0,none⟩) 1 1)).alloc (.cells #[.int .i64 (p:Int)] 3)) (b:=b) (O:=O3) (w5.heap.size+1) (by simp) r6.lt [aZ 152 b] [bd] (by simp) ⟨Dm.part (enters_of Tryz.func152 (by kernel_rfl) rfl) _ b O3,trivial⟩
       have MW:zt (((w5.setCell ⟨n,6,none⟩ (.slice (some ⟨w5.heap.size,0,none⟩) 1 1)).alloc (.cells #[.int .i64 (p:Int)] 3)).alloc (.cells #[aZ 152 b] 122)) b [] (.slice none 0 0):=(NM5.out.later (O:=On) (by rw[←World.setCell_alloc_past _ _ _ _ jl];exact f6)).later ((ay.refl On _).alloc _)
       have HH:=aa (rz b O3 ⟨11,t1,0,0,⟨#[]⟩,[],[]⟩ (.slice none 0 0) _ [bd] _ MW HP7 (fun k hk=>by have:=r6.lt k hk;simp at this ⊢;omega))
       have R6:=aa r6;have F7:=aa f7;clear f6 p6 r6 f7 yK hz1 c6 z6 HP7 MW Cn Dv;go_wp2_with fail
       refine HH.out.mono ?_;rintro e w8 ⟨v,rfl,b8,h8,fi,fa,fc,rfl⟩;have B8:=aa (aA (aX _ _) b8);have HN:=aa (ji w w8 (R6.out.below B8.out) (F7.out.trans (ay.ae (O:=O3) B8.out) X3.out) X3.out [.func (.func 150) #[] #[],.func (.func fi) fa fc] [eu,dz (dU ⟨11,t1,0,0,⟨#[]⟩,[],[]⟩ [bd])] (by simp) ⟨jC w8 b O3,h8,trivial⟩ v8.out)
       clear b8 h8;go_wp2_with fail
       refine HN.out.mono ?_;intro e wz hz;obtain⟨v,rfl⟩:=hz.ret;have HZ:=aa hz;clear hz;go_wp2_with fail
       go_ret
       exact HZ.out
   ·have M3:=aa m3
    have HG:=aa hg;have FR:=aa fr;have KE:=aa ke;clear m3 hg fr ke;go_wp2_with fail
    go_ret
    exact⟨(FP.out.trans FR.out (Ext.refl _ _)).mono Ux.out,.inr ⟨le,_,rfl,⟨g',rfl,aM FP.out.size HG.out,M3.out⟩,KE.out⟩⟩
 ·have M3:=aa m3
  have M2:=aa m2;have K1:=aa k1;clear h3 m2 m3 k1;go_wp2_with fail
  go_loopg [6,7] 1 (fun _ lv ev wr=>lv=v∧ev=.iface 75 (.pointer (some ⟨g',0,none⟩))∧wr=w3)
  case atStart=>exact⟨rfl,rfl,rfl⟩
  case round =>
   obtain⟨rfl,rfl,rfl⟩:=hrel;go_wp2_with fail
   go_ret
   exact⟨(FP.out.trans F3.out (Ext.refl _ _)).mono Ux.out,.inr ⟨le,_,rfl,⟨g',rfl,aM FP.out.size M2.out,M3.out⟩,K1.out⟩⟩
end Go.Proofs.YteflkdlaoiijbaaGreatDoor
namespace Go.Proofs.YteflkdlaoiijbaaGreatDoor
open Go.RowKit
section
variable {α:Type} {K:α→List aj→Prop} {E:Int→Prop}
theorem Gw.Sn {n:NT} {k:VT n→GL α} {ts:List aj} (H:Gw (dt n) ts (fun v ax=>Gw (k v) ax K E) E):Gw (.call n k) ts K E :=
 ⟨fun a iy p=>by
  cases p with
  | call h1 h2=>exact(H.1 _ _ h1).1 _ _ h2,fun l p=>by
  cases p with
  | call h1 h2=>exact(H.1 _ _ h1).2 _ h2
  | iv h1=>exact H.2 _ h1⟩
theorem Gw.Xs {a:α} {ts:List aj} (h:K a ts):Gw (.ret a) ts K E:=⟨fun a' ax p=>by cases p;exact h,fun l p=>by cases p⟩
end
theorem Rm.up {N k:Nat} {s:St} (h:Rm N k s):Rm (N+1) k s:=⟨by have:=h.len;omega,h.n,h.xs,h.wf⟩
theorem eB.of {f:FuncId} {wp wp':cf} (h:eB f wp) (hc :∀s K E,Fin s.ts→wp' s K E→wp s K E):eB f wp':=fun b n O T0 s K E W hr hk=>h b n O T0 s K E W hr (hc s K E (by
 obtain⟨Op,T,hp⟩:=hr.ps;exact hp.fin) hk)
theorem pt.of {f:FuncId} {wp wp':iT} (h:pt f wp) (hc :∀ts n K E,Fin ts→wp' ts n K E→wp ts n K E):pt f wp':=fun b O ts T K E W hp hk=>h b O ts T K E W hp (hc ts _ K E hp.fin hk)
theorem rD.of {f:FuncId} {l:Int} {wp wp':iT} (h:rD f l wp) (hc :∀ts n K E,Fin ts→wp' ts n K E→wp ts n K E):rD f l wp':=fun b O ts T K E W hp hk=>h b O ts T K E W hp (hc ts _ K E hp.fin hk)
def So:iT:=fun _ _ _ _=>False
def UW:cf:=fun _ _ _=>False
theorem Xt (f:FuncId):pt f So:=fun _ _ _ _ _ _ _ _ h=>h.elim
theorem Sp (f:FuncId) (l:Int):rD f l So:=fun _ _ _ _ _ _ _ _ h=>h.elim
theorem Xu (f:FuncId):eB f UW:=fun _ _ _ _ _ _ _ _ _ h=>h.elim
def Xv (rt:Int→iT) (bd it:cf) (sf:iT):iT:=fun ts n K E=>∃t r,ts=t::r∧(t.1=3→aK [aD] ⟨⟨4,t.2.1,0,t.2.2.1,⟨#[]⟩,[],[]⟩,[],t::r,n⟩ (ca K) E) ∧
 (t.1≠3→t.1=4→aK [aD] ⟨⟨5,t.2.1,0,0,bK t.2.2.2,[],[]⟩,[],t::r,n⟩ (ca K) E) ∧
 (t.1≠3→t.1≠4→fk t≠0→aK [aD,dz (rt (fk t))] ⟨⟨13,t.2.1,fk t,0,⟨#[]⟩,[],[]⟩,[],t::r,n⟩ (ca K) E) ∧
 (aw sW t=true→aK [aD] ⟨dA 1 t.2.1,[],t::r,n⟩ (ca K) E)∧(aw mN t=true→aK [aD] ⟨dA 2 t.2.1,[],t::r,n⟩ (ca K) E) ∧
 (aw kx t=true→aK [aD] ⟨dA 3 t.2.1,[],t::r,n⟩ (ca K) E)∧(aw [46,46,46] t=true→aK [aD] ⟨dA 6 t.2.1,[],t::r,n⟩ (ca K) E) ∧
 (aw bq t=true→aK [aD,bd] ⟨dA 11 t.2.1,[],t::r,n⟩ (ca K) E)∧(aw [123] t=true→aK [aD,dG [125] it,au [[125]]] ⟨dA 15 t.2.1,[],t::r,n⟩ (ca K) E) ∧
 (MA t→sf (t::r) n K E)
theorem xm {rt:Int→iT} {bd it:cf} {sf:iT} (hR :∀op,20≤op→op≤23→rD 178 (v7 op) (rt op)) (Dm:eB 152 bd) (Hm:eB 235 it) (hS:pt 153 sf):pt 204 (Xv rt bd it sf):=by
 rintro b O ts T K E w hp ⟨t,r,rfl,h1,h2,h3,h4,h5,h6,h7,h8,h9,h10⟩;by_cases a1:t.1=3
 ·exact RU b O t r T K E w hp a1 (h1 a1)
 by_cases a2:t.1=4
 ·exact RV b O t r T K E w hp a1 a2 (h2 a1 a2)
 by_cases a3:fk t≠0
 ·exact RW hR b O t r T K E w hp a1 a2 a3 (h3 a1 a2 a3)
 cases a4:aw sW t with
 | true=>exact RX b O t r T K E w hp a4 (h4 a4)
 | false =>
 cases a5:aw mN t with
 | true=>exact My b O t r T K E w hp a5 (h5 a5)
 | false =>
 cases a6:aw kx t with
 | true=>exact H7 b O t r T K E w hp a6 (h6 a6)
 | false =>
 cases a7:aw [46,46,46] t with
 | true=>exact Mz b O t r T K E w hp a7 (h7 a7)
 | false =>
 cases a8:aw bq t with
 | true=>exact yI Dm b O t r T K E w hp a8 (h8 a8)
 | false =>
 cases a9:aw [123] t with
 | true=>exact RY Hm b O t r T K E w hp a9 (h9 a9)
 | false =>
  have hq:MA t:=⟨a1,a2,by simpa using a3,a4,a5,a6,a7,a8,a9⟩
  exact RZ hS b O t r T K E w hp hq (h10 hq)
section
variable {K:Ast→List aj→Prop} {E:Int→Prop} {K':St→Prop} {N k n:Nat} {h:Nd} {xs:List Ast} {t:aj} {ts:List aj}
theorem il {s:List UInt8} (hs:s≠[45]∧s≠[126]∧s≠Cv∧s≠[35]) (h:aw s t=true):lD t=none:=by
 unfold lD;rw[bs h (Ne.symm hs.1),bs h (Ne.symm hs.2.1),bs h (Ne.symm hs.2.2.1),bs h (Ne.symm hs.2.2.2)];rfl
theorem aaJ (hI:Rm (N+1) k ⟨h,[],t::ts,n⟩) (H:Gw Ic (t::ts) K E):Xv (rtP N) (xd N) (yJ N) (sL (N+1) Df) (t::ts) n K E:=by
 have G0:=Gw.look H;have GN:lD t=none→Gw (dt .Uk:GL Ast) (t::ts) K E:=fun ho=>by
  rw[ho] at G0;exact(Gw.call G0).mono fun v ax _ hv=>hv.2.ret
 have no :∀{s s':List UInt8},aw s t=true→s'≠s→¬ aw s' t=true:=fun h1 h2=>aV h1 h2
 have nk:t.1≠2→t.1≠5→∀s:List UInt8,¬ aw s t=true:=fun h1 h2 s=>by simp[aw,h1,h2]
 refine⟨t,ts,rfl,fun ht=>?_,fun _ ht=>?_,fun h3 h4 hu=>?_,fun hw=>?_,fun hw=>?_,fun hw=>?_,fun hw=>?_,fun hw=>?_,fun hw=>?_,fun hq=>?_⟩
 ·have G:=Gw.look (GN (uP (by omega) (by omega)))
  have nn:=nk (by omega) (by omega)
  have G2:=((((((G.neg (nn _)).neg (nn _)).neg (nn _)).neg (nn _)).neg (nn _)).neg (nn _)).pos ht;exact cR hI.hd (by omega) fun hI=>cB hI G2.tok.ret
 ·have G:=Gw.look (GN (uP (by omega) (by omega)))
  have nn:=nk (by omega) (by omega)
  have G2:=(((((((G.neg (nn _)).neg (nn _)).neg (nn _)).neg (nn _)).neg (nn _)).neg (nn _)).neg (by omega)).pos ht
  exact cR hI.hd (by omega) fun hI=>cB hI G2.tok.ret
 ·cases ho:lD t with
  | none=>exact absurd (by unfold fk;rw[ho]) hu
  | some o =>
   rw[ho] at G0;have hun:fk t=o:=by unfold fk;rw[ho]
   have hr:=yq ho;have hb:v7 o=11:=by
    have h9:o=20∨o=21∨o=22∨o=23:=by omega
    rcases h9 with h|h|h|h<;>(rw[h];decide)
   rw[hun];refine cR hI.hd (ER ho) fun hI=>?_
   show dz (sL N (rB (v7 o+1).toNat)) _ _ _
   rw[hb];have G1:=Gw.call (Gw.tok G0);refine jF (by simp) ⟨hI.len,by have:=hI.n;dsimp only at *;omega,hI.wf.zu,⟨fun(a:Ast) ax p=>nC.mk ?_,fun l p=>G1.2 l (UO p)⟩⟩
   have hq:=G1.1 a ax (UO p);have hz:a.size+2*ax.length+1≤2*ts.length:=hq.1;exact⟨by have:=hI.n;show n+Ast.ak [a]≤_;rw[uJ];dsimp only at this;omega,hq.2.ret⟩
 ·have G:=Gw.look (GN (il (by decide) hw))
  exact cR hI.hd (aW hw) fun hI=>cB hI (G.pos hw).tok.ret
 ·have G:=Gw.look (GN (il (by decide) hw))
  exact cR hI.hd (aW hw) fun hI=>cB hI ((G.neg (no hw (by decide))).pos hw).tok.ret
 ·have G:=Gw.look (GN (il (by decide) hw))
  exact cR hI.hd (aW hw) fun hI=>cB hI (((G.neg (no hw (by decide))).neg (no hw (by decide))).pos hw).tok.ret
 ·have G:=Gw.look (GN (il (by decide) hw))
  exact cR hI.hd (aW hw) fun hI=>cB hI ((((G.neg (no hw (by decide))).neg (no hw (by decide))).neg (no hw (by decide))).pos hw).tok.ret
 ·have G:=Gw.look (GN (il (by decide) hw))
  have G2:=(Gw.call (((((G.neg (no hw (by decide))).neg (no hw (by decide))).neg (no hw (by decide))).neg (no hw (by decide))).pos hw).tok).mono (K':=K) fun v ax _ hv=>hv.2.ret
  exact cR (hI.hd (h':=dA 11 t.2.1)) (aW hw) fun hI=>LW hI (by simp) G2
 ·have G:=Gw.look (GN (il (by decide) hw))
  have G2:=((((((G.neg (no hw (by decide))).neg (no hw (by decide))).neg (no hw (by decide))).neg (no hw (by decide))).neg (no hw (by decide))).pos hw).tok
  exact cR (hI.hd (h':=dA 15 t.2.1)) (aW hw) fun hI=>MG hI G2
 ·have ho:lD t=none:=by
   cases ho:lD t with
   | none=>rfl
   | some o =>
    have h1:=hq.un;have h2:=yq ho;unfold fk at h1;rw[ho] at h1;dsimp only at h1
    omega
  have G:=Gw.look (GN ho);have G2:=(((((((G.neg (by simp[hq.a])).neg (by simp[hq.b])).neg (by simp[hq.c])).neg (by simp[hq.d])).neg (by simp[hq.e])).neg (by simp[hq.f])).neg hq.n3).neg hq.n4
  exact⟨hI.len,by have:=hI.n;dsimp only at *;omega,hI.wf.zu,(Gw.call G2).mono fun v ax _ hv=>hv.2.ret⟩
theorem aaK {s:Nat} {l:Int} (hs:l+1=(s:Int)) (hl0:0≤l) (hf:Fin ts) (H:sL (N+1) (rB s) ts n K E):sL (N+1) Ic ts n (fun a fI=>∃m,AK (rtP N) l m a fI n K E) E:=by
 obtain⟨h1,h2,h3,h4⟩:=H;refine⟨h1,h2,h3,(Gw.call h4).mono fun(a:Ast) fI p hq=>⟨fI.length+1,?_⟩⟩
 have hz:a.size+2*fI.length+1≤2*ts.length:=hq.1;have ha:=size_pos a;exact Xl hs hl0 (fI.length+1) fI a 0 (dC _) ⟨by dsimp only;omega,by dsimp only;omega,by simp only[List.length_cons,List.length_nil];omega,p.wf ⟨hf,h3⟩⟩ ((Gw.call hq.2).mono fun v ax _ hv=>hv.2.ret)
end
end Go.Proofs.YteflkdlaoiijbaaGreatDoor
namespace Go.Proofs.YteflkdlaoiijbaaGreatDoor
open Go.RowKit
def aaL (N:Nat):iT:=Xv (fun _=>So) UW (yJ N) So
def AS (N:Nat):cf:=aaA (aaL N) (nB N)
abbrev aaM:GL (List Ast):=dt .arg
section
variable {K:Ast→List aj→Prop} {E:Int→Prop} {K':St→Prop} {N k n:Nat} {h:Nd} {xs:List Ast} {t:aj} {ts:List aj}
theorem MX {kk:List Ast→GL Ast} (hI:Rm (N+1) k ⟨h,xs,ts,n⟩) (H:Gw (.call .arg kk) ts K E)
  (hk :∀(l:List Ast) (ax:List aj),Rm (N+1) (k+1) ⟨h,xs++l,ax,n+Ast.ak l⟩→ax.length<ts.length→Gw (kk l) ax K E→K' ⟨h,xs++l,ax,n+Ast.ak l⟩):AS N ⟨h,xs,ts,n⟩ K' E:=by
 obtain⟨t,r,iW⟩:=hI.cons;dsimp only at iW
 subst iW;have hn:=hI.n;have hx:=hI.xs;dsimp only at hn hx
 have G0:=Gw.call H;have acE :∀(l:List Ast) (ax:List aj),PL aaM (t::r) (.ok (l,ax))→yr .arg (t::r).length l ax.length∧Gw (kk l) ax K E→K' ⟨h,xs++l,ax,n+Ast.ak l⟩:=fun l ax p hq=>by
  have hz:Ast.ak l+2*ax.length+1≤2*(t::r).length:=hq.1;exact hk l ax (hI.kids (by omega) (PL.short (n:=.arg) p) (PL.wf (n:=.arg) p hI.wf)) (by omega) hq.2
 have G1:Gw aaM (t::r) (fun l ax=>K' ⟨h,xs++l,ax,n+Ast.ak l⟩∧Ast.ak l+2*ax.length+1≤2*(t::r).length) E:=G0.mono fun l ax p hq=>⟨acE l ax p hq,hq.1⟩
 have G2:=Gw.look G1;refine⟨t,r,rfl,fun hc=>?_,fun h4 hw=>?_⟩
 ·refine jF (by dsimp only;omega) ⟨t,r,rfl,fun ht=>?_,fun _ ht=>?_,fun h3 h4 hu=>?_,fun hw=>?_,fun hw=>?_,fun hw=>?_,fun hw=>?_,fun hw=>?_,fun hw=>?_,fun hq=>?_⟩
  ·exact hc.elim (fun h=>absurd h (by omega)) fun h=>absurd ht (py h)
  ·have G3:=(G2.pos ht).tok.ret
   refine⟨t,r,rfl,by omega,⟨?_,nC.mk G3.1⟩⟩
   dsimp only
   omega
  ·exact absurd (hc.elim (fun h=>absurd h h4) fun h=>by unfold fk;rw[il (by decide) h]) hu
  ·exact hc.elim (fun h=>absurd h (jb hw)) fun h=>absurd hw (aV h (by decide))
  ·exact hc.elim (fun h=>absurd h (jb hw)) fun h=>absurd hw (aV h (by decide))
  ·exact hc.elim (fun h=>absurd h (jb hw)) fun h=>absurd hw (aV h (by decide))
  ·exact hc.elim (fun h=>absurd h (jb hw)) fun h=>absurd hw (aV h (by decide))
  ·exact hc.elim (fun h=>absurd h (jb hw)) fun h=>absurd hw (aV h (by decide))
  ·have G3:=((G2.neg (jb hw)).pos hw).tok
   have acF:Rm (N+1) k ⟨dA 15 t.2.1,[],t::r,n⟩:=⟨hI.len,hI.n,by have:=hI.xs;simp only[List.length_nil];dsimp only at this;omega,hI.wf⟩
   refine cR acF (aW hw) fun hI=>MG hI (Gw.Sn ((Gw.call G3).mono fun(l:List Ast) ax _ hq=>Gw.Xs (nC.mk hq.2.ret.1)))
  ·exact hc.elim (fun h=>(hq.n4 h).elim) fun h=>by rw[hq.f] at h;exact(gb h).elim
 ·have G3:=(G2.neg h4).neg (by simp[hw])
  refine⟨t,r,rfl,fun hp=>?_,G3.want.2⟩
  have oz:Rm N (k+2) ⟨h,xs,r,n⟩:=hI.Xc (aW hp);have G4:=G3.want.1 hp;obtain⟨u,us,iW⟩:=oz.cons;dsimp only at iW
  subst iW;have G5:=G4.look;refine(show aK [dG [41] (nB N),au [[41]]] ⟨h,xs,u::us,n⟩ K' E from⟨u,us,rfl,fun hr=>?_,fun hr=>?_⟩)
  ·have G6:=(G5.pos hr).tok.ret
   rw[jX,cD,Nat.add_zero] at G6;exact(show au [[41]] _ _ _ from⟨u,us,rfl,fun _=>G6.1,fun hr2=>by rw[hr] at hr2;exact(gb hr2.symm).elim⟩)
  ·have G6:=G5.neg (by simp[hr])
   have G7:=Gw.call G6;have uH:=oz.n;have hx2:=oz.xs;dsimp only at uH hx2
   refine⟨by dsimp only;omega,(u::us).length+1,by omega,?_⟩
   refine EZ _ ((u::us).length+1) (u::us) n [] (dC _) oz.len (by omega) oz.wf (G7.mono fun(l:List Ast) ax p hq=>?_)
   obtain⟨v,vs,rfl⟩:=(PL.wf (n:=.Cw) p oz.wf).fin.cons;have po:=hq.2.want;exact(show au [[41]] _ _ _ from⟨v,vs,rfl,fun hr=>(po.1 hr).ret.1,po.2⟩)
theorem Xw :∀(m:Nat) (ts:List aj) (a:Ast) (k:Nat),ts.length<m→Rm (N+1) k ⟨dA 0 0,[a],ts,n+a.size⟩→Gw (dt (.aR a):GL Ast) ts K E→uO (oy N) (AS N) m a ts n K E:=by
 intro m;induction m with
 | zero=>intro ts a k h;omega
 | succ m ih =>
  intro ts a k h1 hI H;obtain⟨t,r,rfl⟩:=hI.wf.fin.cons;have G:=Gw.look H;have fin :∀{j:Nat} (h0:Nd) (ys:List Ast) (iy:List aj) (y:Ast),Rm (N+1) j ⟨h0,[a]++ys,iy,n+a.size+Ast.ak ys⟩→1≤j→iy.length≤r.length→y.size=Ast.ak ([a]++ys)+1→Gw (.call (.aR y) fun(z:Ast)=>.ret z:GL Ast) iy K E→y=.mk h0 ([a]++ys)→(ca fun a' ax=>uO (oy N) (AS N) m a' ax n K E) ⟨h0,[a]++ys,iy,n+a.size+Ast.ak ys⟩:=fun{j} h0 ys iy y hI hj hl hy G e=>by
   have hn:=hI.n;have hx:=hI.xs;dsimp only at hn hx
   refine⟨by dsimp only;omega,?_⟩
   have G3:=(Gw.call G).mono (K':=K) fun v iy _ hv=>hv.2.ret
   rw[fj,uJ] at hy;have:=ih iy y 0 (by simp at h1;omega) ⟨hI.len,by dsimp only;omega,by simp only[cI,List.length_cons,List.length_nil] at *;omega,hI.wf⟩ G3
   rw[e] at this;exact this
  have Zo :∀h',Rm (N+1) k ⟨h',[a],t::r,n+a.size⟩:=fun h'=>⟨hI.len,hI.n,hI.xs,hI.wf⟩
  refine⟨t,r,rfl,fun h0=>?_,fun h0=>?_⟩
  ·unfold jj at h0
   by_cases a1:aw [46] t=true
   ·rw[al a1] at h0;exact absurd h0 (by decide)
   rw[af a1] at h0;by_cases a2:aw [91] t=true
   ·rw[al a2] at h0;exact absurd h0 (by decide)
   rw[af a2] at h0;by_cases a3:aw [58] t=true
   ·rw[al a3] at h0;exact absurd h0 (by decide)
   rw[af a3] at h0;by_cases a4:aw [40] t=true
   ·rw[al a4] at h0;exact absurd h0 (by decide)
   rw[af a4] at h0;by_cases a5:aw [123] t=true
   ·rw[al a5] at h0;exact absurd h0 (by decide)
   rw[af a5] at h0;by_cases a6:t.1=4
   ·rw[al a6] at h0;exact absurd h0 (by decide)
   exact((((G.neg a1).neg a2).neg a3).neg (by simp[a4,a5,a6])).ret
  ·have MY:(aw [40] t || aw [123] t || decide (t.1=4))=true→aw [46] t=false→aw [91] t=false→aw [58] t=false→aK [AS N] ⟨dA 9 t.2.1,[a],t::r,n+a.size⟩ (ca fun a' ax=>uO (oy N) (AS N) m a' ax n K E) E:=fun hc a1 a2 a3=>by
    have G2:=(((G.neg (by simp[a1])).neg (by simp[a2])).neg (by simp[a3])).pos hc
    exact MX (Zo _) G2 fun l iy hI hl G3=>fin (dA 9 t.2.1) l iy _ hI (by omega) (by simp at hl;omega) (by show Ast.size (nd 9 t.2.1 (a::l))=_;rw[nX];rfl) G3 rfl
   unfold jj E8;by_cases a1:aw [46] t=true
   ·rw[al a1,al a1]
    exact kZ (Zo _) (aW a1) fun hI=>Dg hI (G.pos a1).tok fun u r2 hI hl G3=>fin (dA 8 t.2.1) _ r2 _ hI (by omega) (by omega) (by show Ast.size (nd 8 t.2.1 _)=_;rw[nX];rfl) G3 rfl
   rw[af a1,af a1];by_cases a2:aw [91] t=true
   ·rw[al a2,al a2]
    exact cR (Zo _) (aW a2) fun hI=>fS hI ((G.neg a1).pos a2).tok fun e r2 hI hl G3=>cw hI G3 fun _ r3 hI Cm G3=>fin (dA 8 t.2.1) [e] r3 _ hI.up (by omega) (by omega) (by show Ast.size (nd 8 t.2.1 [a,e])=_;rw[nX];rfl) G3 rfl
   rw[af a2,af a2];by_cases a3:aw [58] t=true
   ·rw[al a3,al a3]
    exact kZ (Zo (dA 10 t.2.1)) (aW a3) fun hI=>yE hI (((G.neg a1).neg a2).pos a3).tok fun u r2 hI hl G3=>MX hI G3 fun l r3 hI Cm G3=>fin ⟨10,t.2.1,0,0,bK u.2.2.2,[],[]⟩ l r3 _ hI (by omega) (by omega) (by show Ast.size (mh 10 t.2.1 _ (a::l))=_;rw[kW];rfl) G3 rfl
   rw[af a3,af a3];have b1:aw [46] t=false:=by simpa using a1
   have b2:aw [91] t=false:=by simpa using a2
   have b3:aw [58] t=false:=by simpa using a3
   by_cases a4:aw [40] t=true
   ·rw[al a4,al a4];exact MY (by simp[a4]) b1 b2 b3
   rw[af a4,af a4];by_cases a5:aw [123] t=true
   ·rw[al a5,al a5];exact MY (by simp[a5]) b1 b2 b3
   rw[af a5,af a5];by_cases a6:t.1=4
   ·rw[al a6,al a6];exact MY (by simp[a6]) b1 b2 b3
   ·exfalso
    apply h0;unfold jj;rw[af a1,af a2,af a3,af a4,af a5,af a6]
theorem aaN (hf:Fin ts) (H:sL (N+1) Df ts n K E):aaD (oy N) (AS N) ts n K E:=by
 obtain⟨h1,h2,h3,h4⟩:=H;obtain⟨t,r,rfl⟩:=hf.cons;have hI :∀h',Rm (N+1) 0 ⟨h',[],t::r,n⟩:=fun h'=>⟨h1,h2,by simp only[List.length_nil];omega,⟨hf,h3⟩⟩
 have G:=Gw.look h4;have go :∀{j:Nat} (h0:Nd) (ys:List Ast) (iy:List aj) (y:Ast),Rm (N+1) j ⟨h0,ys,iy,n+Ast.ak ys⟩→1≤j→y.size=Ast.ak ys+1→Gw (.call (.aR y) fun(z:Ast)=>.ret z:GL Ast) iy K E→y=.mk h0 ys→(ca fun a fI=>∃m,uO (oy N) (AS N) m a fI n K E) ⟨h0,ys,iy,n+Ast.ak ys⟩:=fun{j} h0 ys iy y hI hj hy G e=>by
  have hn:=hI.n;dsimp only at hn
  refine⟨by dsimp only;omega,iy.length+1,?_⟩
  have:=Xw (n:=n) (iy.length+1) iy y 0 (dC _) ⟨hI.len,by dsimp only;omega,by simp only[List.length_cons,List.length_nil];omega,hI.wf⟩ ((Gw.call G).mono (K':=K) fun v iy _ hv=>hv.2.ret)
  rw[e] at this;exact this
 refine⟨t,r,rfl,fun hw=>?_,fun hw=>?_⟩
 ·have G2:=((G.neg (show ¬ t.1=1 from fun e=>by rcases aO hw with ⟨l,m,rfl⟩ | ⟨l,m,rfl⟩<;>simp at e)).pos hw).tok
  exact cR (hI (dA 14 t.2.1)) (aW hw) fun hI=>fS hI G2 fun e r2 hI hl G3=>cw hI G3 fun _ r3 hI Cm G3=>go (dA 14 t.2.1) [e] r3 _ hI.up (by omega) (by show Ast.size (nd 14 t.2.1 [e])=_;rw[nX]) G3 rfl
 ·refine⟨t,r,rfl,fun ht=>?_,fun ht=>((G.neg ht).neg (by simp[hw])).bad⟩
  have oz:Rm (N+1) (0+2) ⟨⟨7,t.2.1,0,0,bK t.2.2.2,[],[]⟩,[],r,n+Ast.ak []⟩:=by rw[cD];exact(hI (dA 7 t.2.1)).tok (by omega)
  have:=go ⟨7,t.2.1,0,0,bK t.2.2.2,[],[]⟩ [] r (mh 7 t.2.1 (bK t.2.2.2) []) oz (by omega) (by rw[kW]) (G.pos ht).tok rfl
  rw[cD] at this;exact this
end
end Go.Proofs.YteflkdlaoiijbaaGreatDoor
