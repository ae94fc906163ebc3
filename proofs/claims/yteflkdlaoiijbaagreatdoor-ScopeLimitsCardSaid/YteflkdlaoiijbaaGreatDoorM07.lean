/- Parts of the proof. -/
import Derived.Laws.EntriesVeiled
import Derived.Test.YteflkdlaoiijbaaGreatDoorM06
set_option maxHeartbeats 16000000
set_option maxRecDepth 20000
namespace Go.Proofs.YteflkdlaoiijbaaGreatDoor
open Go.RowKit
theorem Ux :∀(L:List Js) (p:Nat) (t:Js),L[p]? = some t→(L.flatMap aP)[p*7]? = some (.int .i64 t.1.kind)
 | [],p,t,h=>by simp at h
 | u::L,0,t,h=>by
  obtain rfl:u=t:=by simpa using h
  rfl
 | u::L,p+1,t,h=>by
  have:=Ux L p t (by simpa using h)
  rw[iW,yX (by rw[eU];omega),eU,show(p+1)*7-7=p*7 by omega]
  exact this
theorem sW (g j:Nat):(⟨g,0,none⟩:Addr).add j=⟨g,j,none⟩:=by unfold Addr.add;split<;>simp_all
theorem PS.kind {W:World} {b:Nat} {O:Nat→Prop} {ts:List aj} {T0 T:List Nd} {a:Ast} {p:Nat} (h:PS W b O ts T) (hl:ei T0 T [a] [(p:Int)]) :
  ∃g c,W.cell? ⟨b,2,none⟩=some (.slice (some ⟨g,0,none⟩) T.length c)∧T.length≤c∧p<T.length∧W.cell? ⟨g,p*7,none⟩=some (.int .i64 a.hd.kind)∧O g:=by
 obtain⟨TS,i,g0,c0,nv,L,a1,a2,a3,a4,a5,a6,a7⟩:=h.ex;obtain⟨_,js,hr,_⟩:=hl;unfold bs at hr;obtain⟨k,ic,j1,j2,e1,hr,_,_⟩:=hr;have hk:k=p:=by
  injection e1 with e1 _;omega
 subst hk;obtain⟨hd,ado⟩:=a;unfold gJ at hr;obtain⟨x,rK,hx,hxe,_,_⟩:=hr;have hlt:=(aK.1 hx).1;have hL:L.length=T.length:=by rw[←a7,cD]
 have hrow:=a6.row;obtain⟨g,c,rfl,_,_⟩:=hrow.form (by omega)
 obtain⟨A,c1,e2,hc⟩:=bF hrow;have hcc:c=c1:=by injection e2
 have hLp :∃t,L[k]? = some t∧t.1=x:=by
  rw[←a7,iA] at hx;cases hq:L[k]? with
  | none=>rw[hq] at hx;simp at hx
  | some t=>rw[hq] at hx;exact⟨t,rfl,by simpa using hx⟩
 obtain⟨t,ht,htx⟩:=hLp;have hcell:=hrow.cells (g:=g) rfl (k*7) _ (Ux L k t ht);refine⟨g,c,by rw[←hL];simp[World.cell?,a1],by rw[←hL,hcc];exact hc,hlt,?_⟩
 have MA:t.1.kind=hd.kind:=by rw[htx,hxe]
 have aap:(⟨g,0,none⟩:Addr).add (k*7)=⟨g,k*7,none⟩:=sW g (k*7);rw[aap,MA] at hcell;exact⟨hcell,a6.own g rfl⟩
theorem Real.kind {W:World} {b n:Nat} {O:Nat→Prop} {T0:List Nd} {s:St} (h:Real W b n O T0 s) (k:Int):(∃v,W.cell? ⟨n,0,none⟩=some (.int .i64 v))∧W.frozen? ⟨n,0,none⟩=false∧n<W.heap.size∧ay O W (W.setCell ⟨n,0,none⟩ (.int .i64 k)) ∧
  Real (W.setCell ⟨n,0,none⟩ (.int .i64 k)) b n O T0 { s with h:={ s.h with kind:=k}}:=by
 obtain⟨Op,On,T,ks,hO,hd,hp,hn,hl,hc⟩:=h.ex;obtain⟨nv,kv,hcs,_,hz⟩:=hn.cells;have hf:=hn.fr 0 (.int .i64 k);refine⟨⟨_,hcs.c0⟩,hz 0,(hn.own n hn.at_).2,hf.mono fun j hj=>(hO j).2 (.inr (hj▸hn.at_)),⟨Op,On,T,ks,hO,hd,?_,hn.pU 0 _ rfl rfl fun _ _=>rfl,hl,hc⟩⟩
 exact hp.kept (O1:=(· = n)) hf (fun j hj e=>hd j hj (e▸hn.at_)) fun j e=>by have:=(hn.own n hn.at_).1;omega
theorem o9 {w1:World} {b n p:Nat} {YY On:Nat→Prop} {h:Nd} {a:Ast} {ks0:List Int} {fC:List aj} {T0 T1:List Nd} (hp:PS w1 b YY fC T1) (hn:NU w1 b n On { h with kids:=ks0}) (hd :∀k,YY k→¬ On k) (hl:ei T0 T1 [a] [(p:Int)]) :
  ∃v,(w1.alloc (.cells #[.int .i64 (p:Int)] 3)).cell? ⟨n,6,none⟩=some v∧(w1.alloc (.cells #[.int .i64 (p:Int)] 3)).frozen? ⟨n,6,none⟩=false∧n<w1.heap.size ∧
   ay On w1 ((w1.alloc (.cells #[.int .i64 (p:Int)] 3)).setCell ⟨n,6,none⟩ (.slice (some ⟨w1.heap.size,0,none⟩) 1 1)) ∧
   PS ((w1.alloc (.cells #[.int .i64 (p:Int)] 3)).setCell ⟨n,6,none⟩ (.slice (some ⟨w1.heap.size,0,none⟩) 1 1)) b YY fC T1 ∧
   Real ((w1.alloc (.cells #[.int .i64 (p:Int)] 3)).setCell ⟨n,6,none⟩ (.slice (some ⟨w1.heap.size,0,none⟩) 1 1)) b n (fun k=>YY k∨(On k∨k=w1.heap.size)) T0 ⟨h,[a],fC,T1.length⟩:=by
 obtain⟨nv,kv,ha,hi⟩:=hn.ex;have jz:=(hn.own n hn.at_).2;have CO:=(hn.own n hn.at_).1;have hf:ay (fun k=>kv.ownBlock=some k) w1 (w1.alloc (.cells #[.int .i64 (p:Int)] 3)):=(ay.refl _ _).alloc _
 obtain⟨c6,z6,pW,nZ,Ad⟩:=Ev ha hi hn.at_ hn.own hf;have hb1:b+1≤w1.heap.size:=(hp.own b hp.at_).2;have hrow:qR (w1.alloc (.cells #[.int .i64 (p:Int)] 3)) b (.slice (some ⟨w1.heap.size,0,none⟩) 1 1) [(p:Int)]:=⟨rfl,.inr ⟨w1.heap.size,1,#[.int .i64 (p:Int)],rfl,hb1,World.alloc_heap_new w1 _,ah _,by unfold maxLen;omega,rfl,rfl⟩⟩
 have hfn:=nZ (.slice (some ⟨w1.heap.size,0,none⟩) 1 1);have YZ:=hp.below (aX w1 (.cells #[.int .i64 (p:Int)] 3));have rW:PS ((w1.alloc (.cells #[.int .i64 (p:Int)] 3)).setCell ⟨n,6,none⟩ (.slice (some ⟨w1.heap.size,0,none⟩) 1 1)) b YY fC T1:=YZ.kept (O1:=(· = n)) hfn (fun k hk e=>hd k hk (e▸hn.at_)) fun k e=>by omega
 refine⟨kv,c6,z6,jz,((ay.refl On w1).alloc _).trans hfn (fun k e=>.inl (e▸hn.at_)),rW,⟨YY,fun k=>On k∨k=w1.heap.size,T1,[(p:Int)],fun _=>Iff.rfl,fun k hk e=>?_,rW,?_,hl,rfl⟩⟩
 ·rcases e with e|e
  ·exact hd k hk e
  ·have:=(hp.own k hk).2;omega
 ·exact Ad w1.heap.size 1 1 [(p:Int)] hrow (.inr (ah _))
theorem ei.same {T0 T:List Nd} {ks:List Int} (h:ei T0 T [] ks):T=T0∧ks=[]:=by
 have h1:=h.len;have h2:=h.num;obtain⟨p1,_⟩:=h;rw[Ast.ak] at h1;exact⟨(List.IsPrefix.eq_of_length p1 (by omega)).symm,pw (by simpa using h2)⟩
def tgC (sf:iM):iM:=fun ts n K E=>sf ts n (fun a fC=>(isVar a→K a fC)∧(¬ isVar a→∃t r,fC=t::r∧E t.2.1)) E
theorem MB {sf:iM} (hS:oY 153 sf):oY 184 (tgC sf):=by
 intro b O ts T0 K E w hp hk;have HA:=aa (hS b O ts T0 _ E w hp hk);clear hp hk hS;go_enter Tryz.func184,Tryz.ntmps184
 go_wp2_with fail
 refine HA.out.mono ?_;intro e w1 h1;have F1:=aa h1.1;rcases h1.2 with ⟨p,a,fC,O1,T1,rfl,p1,x1,l1,k1⟩ | ⟨le,v,er,rfl,⟨g',rfl,m2,m3⟩,k1⟩
 ·obtain⟨g,c,c2,hc,hpl,ck,_⟩:=p1.kind l1
  have hb:b<w1.heap.size:=World.block_lt_of_cell? w1 _ c2;have P1:=aa p1;have X1:=aa x1;have L1:=aa l1;have K1:=aa k1;clear h1 p1 x1 l1 k1 HA;obtain⟨kd,pO⟩ :∃kd,kd=a.hd.kind:=⟨_,rfl⟩;rw[←pO] at ck;by_cases hv:isVar a
  ·have HV:=aa hv
   unfold isVar at hv;rw[←pO] at hv;clear pO;rcases hv with rfl|rfl <;>
   ·go_wp2_with fail
    go_ret2
    exact⟨F1.out,.inl ⟨p,a,fC,O1,T1,rfl,P1.out,X1.out,L1.out,K1.out.1 HV.out⟩⟩
  ·obtain⟨t,r,rfl,hE⟩:=K1.out.2 hv
   have HX:=aa (pT b O1 t r T1 w1 P1.out);unfold isVar at hv;rw[←pO] at hv;have g1:(kd == 7)=false:=aG.2 fun e=>hv (.inl e)
   have g2:(kd == 8)=false:=aG.2 fun e=>hv (.inr e)
   have g1':(kd != 7)=true:=om.2 fun e=>hv (.inl e)
   have g2':(kd != 8)=true:=om.2 fun e=>hv (.inr e)
   have HE:=aa hE;clear pO hv hE;go_wp2_with fail
   refine HX.out.mono ?_;rintro e w3 ⟨v,rfl,m,b3⟩;have M:=aa m;have B3:=aa b3;clear m b3;go_wp2_with fail
   go_ret2
   obtain⟨g',e1,e2,e3⟩:=M.out;exact⟨F1.out.trans (ay.ae (O:=O1) B3.out) X1.out,.inr ⟨_,_,_,rfl,⟨g',e1,aL F1.out.size e2,e3⟩,HE.out⟩⟩
 ·have M3:=aa m3
  have M2:=aa m2;have K1:=aa k1;clear h1 m2 m3 k1;go_wp2_with fail
  go_ret2
  exact⟨F1.out,.inr ⟨le,_,_,rfl,⟨g',rfl,M2.out,M3.out⟩,K1.out⟩⟩
def WR (sf:iM) (tg li:cg):cg:=fun s K E=>s.xs=[]∧sf s.ts s.n (fun a fC=>(a.hd.kind=9∨a.hd.kind=10→K ⟨{ s.h with kind:=21},[a],fC,s.n+Ast.ak [a]⟩) ∧
 (isVar a→aI [bB [44] [tg],eo,au [[61]],li] ⟨{ s.h with kind:=20},[a],fC,s.n+Ast.ak [a]⟩ K E)∧(¬ (a.hd.kind=9∨a.hd.kind=10)→¬ isVar a→∃t r,fC=t::r∧E t.2.1)) E
theorem r9 (w:World) (g:Nat) (hg:g=w.heap.size) (b:Nat) (O:Nat→Prop) (hO :∀k,O k→k<w.heap.size) (vs:List Value) (cP:List cg) (hl:vs.length≤100) (h:jD w b O vs cP) (x:List UInt8) (hx:x≠[]) (X:ByteArray) (hX:X=bC x) :
  Calls Tryz.prog 42 #[.pointer (some ⟨b,0,none⟩),.string X,.slice (some ⟨g,0,none⟩) vs.length vs.length] (w.alloc (.cells vs.toArray 122)) (jY b O (bB x cP) w):=by
 subst hg;exact oZ w b O hO vs cP hl h x hx X hX
theorem RT {sf:iM} {tg li:cg} (hS:oY 153 sf) (hTg:ey 154 tg) (hL:ey 84 li):ey 97 (WR sf tg li):=by
 rintro b n O T0 ⟨sh,Y0,oL,sn⟩ K E w hr ⟨hx,hk⟩;obtain⟨Op,On,T,ks,hO,hd,hp,hn,hl,hc⟩:=hr.ex;dsimp only at hx hk hp hn hl hc
 subst hx;obtain⟨rfl,rfl⟩:=hl.same;subst hc;have HA:=aa (hS b Op oL T _ E w hp hk);have HN:=aa hn;have HO:=aa hO;have HD:=aa hd;have hat:=hn.at_;have HOn:Hid (∀k,On k→k<w.heap.size):=aa fun k hk=>(hn.own k hk).2
 have CO:b<n:=(hn.own n hat).1;have BM:=aa hat;clear hp hk hr hn hO hd hl hS hat;go_enter Tryz.func97,Tryz.ntmps97
 go_wp2_with fail
 refine HA.out.mono ?_;intro e w1 h1;have F1:=aa h1.1;have N1:=aa (HN.out.kept h1.1 fun k hk h=>HD.out k h hk)
 rcases h1.2 with ⟨p,a,fC,O1,T1,rfl,p1,x1,l1,k1⟩ | ⟨le,v,er,rfl,⟨g',rfl,m2,m3⟩,k1⟩
 ·have hd1 :∀k,O1 k→¬ On k:=fun k hk h=>by
   rcases x1 k hk with h2|h2
   ·exact HD.out k h2 h
   ·have:=HOn.out k h;omega
  obtain⟨v6,c6,z6,jz,f2,p2,r2⟩:=o9 p1 N1.out hd1 l1;obtain⟨g,c,c2,hc,hpl,ck,hOg⟩:=p1.kind l1;have Q6:g≠n:=fun e=>hd1 g hOg (e▸BM.out)
  have hbn':b≠n:=by omega
  have hbl:b<w1.heap.size:=by omega
  have qN:g<w1.heap.size:=(p1.own g hOg).2;have hz2:T1.length=T.length+Ast.ak [a]:=l1.len;rw[hz2] at r2;obtain⟨O2,Jy⟩ :∃O2:Nat→Prop,O2=fun k=>O1 k∨(On k∨k=w1.heap.size):=⟨_,rfl⟩
  rw[←Jy] at r2;have X2:Hid (Ext O O2 w):=aa fun k hk=>by
   rw[Jy] at hk;rcases hk with hk|hk|rfl
   ·rcases x1 k hk with h|h
    ·exact .inl ((HO.out k).2 (.inl h))
    ·exact .inr h
   ·exact .inl ((HO.out k).2 (.inr hk))
   ·exact .inr h1.1.size
  have f3:ay O w ((w1.alloc (.cells #[.int .i64 (p:Int)] 3)).setCell ⟨n,6,none⟩ (.slice (some ⟨w1.heap.size,0,none⟩) 1 1)):=(h1.1.mono fun k hk=>(HO.out k).2 (.inl hk)).trans f2 fun k hk=>.inl ((HO.out k).2 (.inr hk))
  rw[World.setCell_alloc_past _ _ _ _ jz] at r2 f3 p2;have F2:=aa f3;have P2:=aa p2;have R2:=aa r2;obtain⟨nv1,kv1,yd,_,hz1⟩:=N1.out.cells;have d0:=yd.c0;have d6:=yd.c6;have y0:=hz1 0;have y6:=hz1 6;clear yd hz1;have X1:=aa x1;have K1:=aa k1;clear h1 p1 x1 l1 k1 HA hd1 f2 f3 p2 r2 hz2 hOg c6 z6 Jy;have Y1:=K1.out;obtain⟨kd,pO⟩ :∃kd,kd=a.hd.kind:=⟨_,rfl⟩;rw[←pO] at ck;have hW6:n<(w1.setCell ⟨n,6,none⟩ (.slice (some ⟨w1.heap.size,0,none⟩) 1 1)).heap.size:=by simpa using jz
  by_cases h9:a.hd.kind=9∨a.hd.kind=10
  ·have HK:=aa (Y1.1 h9)
   obtain⟨_,_,_,f4,r4⟩:=R2.out.kind 21;rw[World.setCell_alloc_past _ _ _ _ hW6] at f4 r4;have F4:=aa (F2.out.trans f4 X2.out);have R4:=aa r4;clear f4 r4 Y1 K1 hW6;rw[←pO] at h9;clear pO;rcases h9 with rfl|rfl <;>
   ·go_wp2_with fail
    go_ret
    exact⟨F4.out,.inl ⟨_,O2,rfl,R4.out,X2.out,HK.out⟩⟩
  ·by_cases hv:isVar a
   ·have HK:=aa (Y1.2.1 hv)
    obtain⟨_,_,_,f4,r4⟩:=R2.out.kind 20;rw[World.setCell_alloc_past _ _ _ _ hW6] at f4 r4;have F0:=aa (F2.out.trans f4 X2.out);have P0:=aa r4;have V0:=aa (r9 _ (w1.heap.size+1) (by simp) b O2 r4.lt [aZ 154 b] [tg] (by simp) ⟨hTg.part (enters_of Tryz.func154 (by kernel_rfl) rfl) _ b O2,trivial⟩ [44] (by decide) ⟨#[44]⟩ rfl)
    clear f4 r4 Y1 K1 hW6 h9;unfold isVar at hv;rw[←pO] at hv;clear pO;rcases hv with rfl|rfl <;>
    ·go_wp2_with fail
     refine V0.out.mono ?_;rintro e w2 ⟨f2,a2,c2',rfl,b2,h2⟩;have F2:=aa (F0.out.trans (ay.ae (O:=O2) b2) X2.out);have P2:=aa (P0.out.below b2);have H2:=aa h2;clear b2 h2 V0 c2 ck d0 d6 y0 y6;have hOO :∀k,O2 k→k<w2.heap.size:=P2.out.lt;have V3:=aa (cF w2 b O2 hOO [61] (by decide) ⟨#[61]⟩ rfl)
     clear hOO;go_wp2_with fail
     refine V3.out.mono ?_;rintro e w3 ⟨f3,a3,c3,rfl,b3,h3⟩;have F3:=aa (F2.out.trans (ay.ae (O:=O2) b3) X2.out);have P3:=aa (P2.out.below b3);have L2:=aa (H2.out.later (ay.ae (O:=O2) b3) (Ext.refl _ _));clear H2;have H2:=L2;clear L2;have H3:=aa h3;clear b3 h3 V3;have HN:=aa (jf w w3 P3.out F3.out X2.out [.func (.func f2) a2 c2',.func (.func 150) #[] #[],.func (.func f3) a3 c3,aZ 84 b] [bB [44] [tg],eo,au [[61]],li] (by simp) ⟨H2.out,jC w3 b O2,H3.out,hL.part (enters_of Tryz.func84 (by kernel_rfl) rfl) w3 b O2,trivial⟩ HK.out)
     go_wp2_with fail
     refine HN.out.mono ?_;intro e wz hz;obtain⟨v,rfl⟩:=hz.ret;have HZ:=aa hz;clear hz;go_wp2_with fail
     go_ret
     exact HZ.out
   ·obtain⟨t,r,rfl,hE⟩:=Y1.2.2 h9 hv
    have HX:=aa (pT b O1 t r T1 _ P2.out);unfold isVar at hv;rw[←pO] at h9 hv;have q9:(kd == 9)=false:=aG.2 fun e=>h9 (.inl e)
    have Rx:(kd == 10)=false:=aG.2 fun e=>h9 (.inr e)
    have q7:(kd == 7)=false:=aG.2 fun e=>hv (.inl e)
    have q8:(kd == 8)=false:=aG.2 fun e=>hv (.inr e)
    have HE:=aa hE;clear pO h9 hv hE Y1 K1 hW6;go_wp2_with fail
    refine HX.out.mono ?_;rintro e w3 ⟨v,rfl,m,b3⟩;have M:=aa m;have B3:=aa b3;clear m b3;go_wp2_with fail
    go_ret
    obtain⟨g',e1,e2,e3⟩:=M.out;exact⟨F2.out.trans (ay.ae (O:=O2) B3.out) X2.out,.inr ⟨_,_,rfl,⟨g',e1,aL F2.out.size e2,e3⟩,HE.out⟩⟩
 ·have M3:=aa m3
  have M2:=aa m2;have K1:=aa k1;clear h1 m2 m3 k1;go_wp2_with fail
  go_ret
  exact⟨F1.out.mono fun k hk=>(HO.out k).2 (.inl hk),.inr ⟨le,_,rfl,⟨g',rfl,M2.out,M3.out⟩,K1.out⟩⟩
def MC (li:cg):cg:=fun s K E=>∃t r,s.ts=t::r∧((iN t=true∨av [59] t=true)→K s)∧(iN t=false→av [59] t=false→li s K E)
theorem wB {W:World} {b n:Nat} {O:Nat→Prop} {T0:List Nd} {s:St} (h:Real W b n O T0 s) {t:aj} {ts:List aj} (hs:s.ts=t::ts):Calls Tryz.prog 36 #[.pointer (some ⟨b,0,none⟩)] W (mX W (iN t)):=by
 obtain⟨Op,On,T,ks,hO,hd,hp,hn,hl,hc⟩:=h.ex;rw[hs] at hp;exact Wx b Op t ts T W hp
theorem CY {li:cg} (hL:ey 84 li):ey 41 (MC li):=by
 rintro b n O T0 s K E w hr ⟨t,r,hs,h1,h2⟩;have HV:=aa (wB hr hs);have HW:=aa (fun W hW=>ji hr hs W hW)
 have HR:=aa hr;have HLi:=aa (fun(W:World) (hW:Real W b n O T0 s) (hk:li s K E)=>hL b n O T0 s K E W hW hk)
 have H1:=aa h1;have H2:=aa h2;clear hr hs h1 h2 hL;cases he:iN t with
 | true =>
  rw[he] at HV;have HE:=aa he;clear he HW;go_enter Tryz.func41,Tryz.ntmps41
  go_wp2_with fail
  refine HV.out.mono ?_;rintro e w1 ⟨rfl,b1⟩;have B1:=aa b1;clear b1;go_wp2_with fail
  go_ret
  exact⟨ay.ae B1.out,.inl ⟨s,O,rfl,HR.out.below B1.out,Ext.refl _ _,H1.out (.inl HE.out)⟩⟩
 | false =>
  rw[he] at HV;cases hq:av [59] t with
  | true =>
   have g1:((ag t).toList == [59])=true:=ai (s:=[59]) (by decide) t hq
   have HK:=aa (H1.out (.inr hq));generalize ag t=Y at *;clear he hq;go_enter Tryz.func41,Tryz.ntmps41
   go_wp2_with fail
   refine HV.out.mono ?_;rintro e w1 ⟨rfl,b1⟩;have B1:=aa b1;have iZ:=aa (HW.out w1 b1);clear b1;go_wp2_with fail
   refine iZ.out.mono ?_;rintro e w2 ⟨rfl,b2⟩;have B2:=aa (aB B1.out b2);clear b2;go_wp2_with fail
   go_ret
   exact⟨ay.ae B2.out,.inl ⟨s,O,rfl,HR.out.below B2.out,Ext.refl _ _,HK.out⟩⟩
  | false =>
   have g1:((ag t).toList == [59])=false:=ai (s:=[59]) (by decide) t hq
   have HK:=aa (H2.out he hq);generalize ag t=Y at *;clear he hq;go_enter Tryz.func41,Tryz.ntmps41
   go_wp2_with fail
   refine HV.out.mono ?_;rintro e w1 ⟨rfl,b1⟩;have B1:=aa b1;have iZ:=aa (HW.out w1 b1);clear b1;go_wp2_with fail
   refine iZ.out.mono ?_;rintro e w2 ⟨rfl,b2⟩;have B2:=aa (aB B1.out b2);have HN:=aa (HLi.out w2 (HR.out.below B2.out) HK.out);clear b2;go_wp2_with fail
   refine HN.out.mono ?_;intro e wz hz;obtain⟨v,rfl⟩:=hz.ret;have HZ:=aa (hz.after (ay.ae B2.out));clear hz;go_wp2_with fail
   go_ret
   exact HZ.out
theorem Am {b n:Nat} {O O1:Nat→Prop} {T0:List Nd} {K:St→Prop} {E:Int→Prop} {w w1 w':World} {e:Ending} (h:bE b n O1 T0 K E w1 e w') (hf:ay O w w1) (he:Ext O O1 w):bE b n O T0 K E w e w':=by
 obtain⟨h1,h2⟩:=h;refine⟨hf.trans h1 he,h2.imp ?_ ?_⟩
 ·rintro⟨s',O',e1,r1,x1,k1⟩
  exact⟨s',O',e1,r1,he.trans x1 hf.size,k1⟩
 ·rintro⟨l,v,e1,⟨g,m1,m2,m3⟩,k⟩
  exact⟨l,v,e1,⟨g,m1,aL hf.size m2,m3⟩,k⟩
def Ao (zn:iM) (li:cg):Nat→cg
 | 0=>fun _ _ _=>False
 | k+1=>fun s K E=>∃t r,s.ts=t::r∧(iN t=true→K s)∧(iN t=false→(av [59] t=true→Ao zn li k { s with ts:=r} K E) ∧
  (av [59] t=false→(av ig t=true→dw (dO (mo 29) [aC,MC li,bB [59] []]) s K E)∧(av ig t=false→dw zn s (fun s'=>Ao zn li k s' K E) E)))
def aaq (zn:iM) (li:cg):cg:=fun s K E=>∃m,Ao zn li m s K E
theorem ye {zn:iM} {li:cg} (hS:oY 44 zn) (hL:ey 84 li):ey 20 (aaq zn li):=by
 rintro b n O T0 s K E w hr ⟨m,hk⟩;have HR:=aa hr;have HK:=aa hk;have HSt:=aa (fun(W:World) (b:Nat) (O:Nat→Prop)=>hS.one (enters_of Tryz.func44 (by kernel_rfl) rfl) W b O)
 have HRt:=aa (fun(W:World) (b:Nat) (O:Nat→Prop)=>(CY hL).part (enters_of Tryz.func41 (by kernel_rfl) rfl) W b O)
 clear hr hk hS hL;go_enter Tryz.func20,Tryz.ntmps20
 go_wp2_with fail
 go_loopg [] m (fun z wr=>∃(O1:Nat→Prop) (s1:St),Real wr b n O1 T0 s1∧ay O w wr∧Ext O O1 w∧Ao zn li z s1 K E)
 case atStart=>exact⟨O,s,HR.out,ay.refl _ _,Ext.refl _ _,HK.out⟩
 case round =>
  obtain⟨O1,s1,hr1,kN,tR,iO⟩:=hrel;have mY:=aa hr1;have fm:=aa kN;have oy:=aa tR;cases gk with
  | zero=>exact iO.elim
  | succ z =>
   obtain⟨t,r,hs,hy,hn⟩:=iO;have HV:=aa (wB hr1 hs);have eM:=aa hs;clear hr1 kN tR;cases he:iN t with
   | true =>
    rw[he] at HV;have yS:=aa (hy he);clear hy hn hs he;go_wp2_with fail
    refine HV.out.mono ?_;rintro e w1 ⟨rfl,b1⟩;have B1:=aa b1;clear b1;go_wp2_with fail
    go_ret
    exact⟨fm.out.trans (ay.ae (O:=O1) B1.out) oy.out,.inl ⟨s1,O1,rfl,mY.out.below B1.out,oy.out,yS.out⟩⟩
   | false =>
    rw[he] at HV;have zF:=hn he;clear hy hn he;cases hq:av [59] t with
    | true =>
     have Y2:=aa (fun(W:World) (hW:Real W b n O1 T0 s1)=>kS hW hs [59] ⟨#[59]⟩ rfl (by decide) hq)
     have yS:=aa (zF.1 hq);clear zF hs hq;go_wp2_with fail
     refine HV.out.mono ?_;rintro e w1 ⟨rfl,b1⟩;have F2:=aa (fm.out.trans (ay.ae (O:=O1) b1) oy.out);have HT:=aa (Y2.out w1 (mY.out.below b1));clear b1;go_wp2_with fail
     refine HT.out.mono ?_;rintro e w2 ⟨rfl,r2,f2⟩;have F3:=aa (F2.out.trans f2 oy.out);have R2:=aa r2;clear r2 f2;go_wp2_with fail
     go_roundg z
     case measure=>omega
     case rel=>exact⟨O1,_,R2.out,F3.out,oy.out,yS.out⟩
    | false =>
     have Y2:=aa (fun(W:World) (hW:Real W b n O1 T0 s1)=>nO hW hs [59] ⟨#[59]⟩ rfl (by decide) hq)
     have qS:=zF.2 hq;clear zF hq;cases oW:av ig t with
     | true =>
      have g1:((ag t).toList == [114,101,116,117,114,110])=true:=ai (s:=ig) (by decide) t oW
      have yS:=aa (qS.1 oW);have HWd:=aa (fun(W:World) (hW:Real W b n O1 T0 s1)=>ji hW hs W (Below.refl _ _))
      clear qS hs oW;generalize ag t=Y at *;go_wp2_with fail
      refine HV.out.mono ?_;rintro e w1 ⟨rfl,b1⟩;have F2:=aa (fm.out.trans (ay.ae (O:=O1) b1) oy.out);have HT:=aa (Y2.out w1 (mY.out.below b1));clear b1;go_wp2_with fail
      refine HT.out.mono ?_;rintro e w2 ⟨rfl,r2,f2⟩;have F3:=aa (F2.out.trans f2 oy.out);have lp:=aa (HWd.out w2 r2);have R2:=aa r2;clear r2 f2 Y2 HWd HT;go_wp2_with fail
      refine lp.out.mono ?_;rintro e w3 ⟨rfl,b3⟩;have F4:=aa (F3.out.trans (ay.ae (O:=O1) b3) oy.out);have R3:=aa (R2.out.below b3);have HP:=aa (wg b O1 [59] ⟨#[59]⟩ rfl (by decide) (.slice none 0 0) [] w3 (aN.nil _ _ _) R3.out.lt)
      clear b3;go_wp2_with fail
      refine HP.out.mono ?_;rintro e w4 ⟨v,rfl,b4,h4,fi,fa,fc,rfl⟩;have R4:=aa (R3.out.below b4);have F5:=aa (F4.out.trans (ay.ae (O:=O1) b4) oy.out);have HH:=aa (qV b O1 (mo 29) (.slice none 0 0) _ _ (w4.alloc (.cells #[aZ 40 b,aZ 41 b,.func (.func fi) fa fc] 122)) (yP.nil _ b) (aN.new (w:=w4) (b:=b) (O:=O1) R4.out.lt [aZ 40 b,aZ 41 b,.func (.func fi) fa fc] [aC,MC li,bB [59] []] (by simp) ⟨bb w4 b O1,HRt.out w4 b O1,h4,trivial⟩) (fun k hk=>by have:=R4.out.lt k hk;simp;omega))
      clear b4 h4 HP;go_wp2_with fail
      refine HH.out.mono ?_;rintro e w5 ⟨v,rfl,b5,h5⟩;obtain⟨f,first,cap,rfl,oT,bw⟩:=h5.1.call R4.out (aB (aX w4 _) b5) yS.out
      have dX:=aa bw;clear h5 bw b5;unfold Enters at oT;go_wp2_with fail
      refine dX.out.mono ?_;intro e w6 h6;obtain⟨v,rfl⟩:=h6.ret;have H6:=aa h6;clear h6;go_wp2_with fail
      go_ret
      exact Am H6.out F5.out oy.out
     | false =>
      have g1:((ag t).toList == [114,101,116,117,114,110])=false:=ai (s:=ig) (by decide) t oW
      have yS:=aa (qS.2 oW);have HWd:=aa (fun(W:World) (hW:Real W b n O1 T0 s1)=>ji hW hs W (Below.refl _ _))
      clear qS hs oW;generalize ag t=Y at *;go_wp2_with fail
      refine HV.out.mono ?_;rintro e w1 ⟨rfl,b1⟩;have F2:=aa (fm.out.trans (ay.ae (O:=O1) b1) oy.out);have HT:=aa (Y2.out w1 (mY.out.below b1));clear b1;go_wp2_with fail
      refine HT.out.mono ?_;rintro e w2 ⟨rfl,r2,f2⟩;have F3:=aa (F2.out.trans f2 oy.out);have lp:=aa (HWd.out w2 r2);have R2:=aa r2;clear r2 f2 Y2 HWd HT;go_wp2_with fail
      refine lp.out.mono ?_;rintro e w3 ⟨rfl,b3⟩;have F4:=aa (F3.out.trans (ay.ae (O:=O1) b3) oy.out);have R3:=aa (R2.out.below b3);have HP:=aa (Ae b O1 44 _ _ zn w3 (HSt.out w3 b O1) R3.out.lt);clear b3;go_wp2_with fail
      refine HP.out.mono ?_;rintro e w4 ⟨v,rfl,b4,h4⟩;obtain⟨f,first,cap,rfl,oT,bw⟩:=h4.1.call R3.out b4 yS.out
      have dX:=aa bw;clear h4 bw b4;unfold Enters at oT;go_wp2_with fail
      refine dX.out.mono ?_;intro e w6 h6;have F6:=aa (F4.out.trans h6.1 oy.out);rcases h6.2 with ⟨s7,O7,rfl,r7,x7,k7⟩ | ⟨l,v,rfl,⟨g',rfl,hg1,hg2⟩,k7⟩
      ·have R7:=aa r7
       have X7:=aa (oy.out.trans x7 F4.out.size);have K7:=aa k7;clear h6 r7 x7 k7;go_wp2_with fail
       go_roundg z
       case measure=>omega
       case rel=>exact⟨O7,s7,R7.out,F6.out,X7.out,K7.out⟩
      ·have M3:=aa hg2
       have HG:=aa (aL F4.out.size hg1);have K7:=aa k7;clear h6 hg1 hg2 k7;go_wp2_with fail
       go_ret
       exact⟨F6.out,.inr ⟨l,_,rfl,⟨g',rfl,HG.out,M3.out⟩,K7.out⟩⟩
theorem Ap {W:World} {b n:Nat} {On:Nat→Prop} {x:Nd} (hn:NU W b n On x) (v:Value) (xs:List ByteArray) (hr:jE W b v xs) (hne:xs≠[]):NU (W.setCell ⟨n,5,none⟩ v) b n (fun k=>On k∨v.ownBlock=some k) { x with names:=xs}:=by
 obtain⟨nv,kv,ha,hi⟩:=hn.ex;have cN:jB W b (fun k=>On k∨v.ownBlock=some k) { x with names:=xs} v kv:=⟨hr,hi.kids,fun g hg=>.inl (.inr hg),fun g _=>hne,fun g hg=>.inl (hi.ok g hg)⟩
 refine⟨⟨v,kv,gV ha _,cN.set ha 5 v⟩,.inl hn.at_,fun k hk=>?_⟩
 have hsz:(W.setCell ⟨n,5,none⟩ v).heap.size=W.heap.size:=by simp[World.setCell]
 rw[hsz];rcases hk with hk|hk
 ·exact hn.own k hk
 ·have:=hr.lt k hk;omega
theorem Aq (W:World) (b n:Nat) (Op On:Nat→Prop) (hd :∀k,Op k→¬ On k):LF W b n Op On (aZ 143 b) sE:=by
 intro W1 x ts T _ hp hn;obtain⟨t,r,rfl⟩:=hp.fin.cons;refine⟨143,_,_,rfl,enters_of Tryz.func143 (by kernel_rfl) rfl,?_⟩
 have kU :∀w',ay (· = b) W1 w'→NU w' b n On x:=fun w' hf=>hn.kept hf fun k hk e=>hd b hp.at_ (e▸hk)
 cases hc:av [44] t with
 | true =>
  have e1:sE (x.num,t::r)=(true,x.num,r):=by simp[sE,cX,hc]
  rw[e1];refine(jX b Op t r T W1 hp hc).mono ?_;rintro e w' ⟨rfl,h1,h2⟩;exact⟨rfl,h1,kU w' h2,h2.mono fun k hk=>.inl hk⟩
 | false =>
  have e1:sE (x.num,t::r)=(false,x.num,t::r):=by simp[sE,cX,hc]
  rw[e1];refine(lJ b Op t r T W1 hp hc).mono ?_;rintro e w' ⟨rfl,h1,h2⟩;exact⟨rfl,h1,kU w' h2,h2.mono fun k hk=>.inl hk⟩
theorem EI:ey 93 im:=by
 rintro b n O T0 ⟨sh,Y0,oL,sn⟩ K E w hr ⟨m,hm,hk⟩;obtain⟨Op,On,T,ks,hO,hd,hp,hn,hl,hc⟩:=hr.ex;dsimp only at hk hp hn hl hc
 have HA:=aa (wm b n Op On { sh with kids:=ks} oL T (aZ 143 b) sE _ E m hm w hp hn hd (Aq w b n Op On hd) hk);have HO:=aa hO;have HD:=aa hd;have HL:=aa hl;have HC:=aa hc;have BM:=aa hn.at_;have HPB:=aa hp.at_;have HOW:=aa hp.own;have Y3:n<w.heap.size:=(hn.own n hn.at_).2;clear hr hp hn hl hc hk hO hd;go_enter Tryz.func93,Tryz.ntmps93
 go_wp2_with fail
 refine HA.out.mono ?_;rintro e w1 ⟨f1,mm,n1,h1⟩;have F1:=aa (f1.mono (O1:=O) fun k hk=>(HO.out k).2 (hk.elim (fun e=>.inl (e▸HPB.out)) (fun e=>.inr (e▸BM.out))))
 obtain⟨nv,kv,hcs,_,hz⟩:=n1.cells;have c5:=hcs.c5;have z5:=hz 5;have jz:n<w1.heap.size:=(n1.own n n1.at_).2;have CO:b<n:=(n1.own n n1.at_).1;have N1:=aa n1;clear hcs hz n1;rcases h1 with ⟨v,xs,ts,rfl,p1,r1,o1,ne1,ab1,k1⟩ | ⟨l,er,rfl,⟨g',rfl,m1,m2⟩,k1⟩
 ·have P1:=aa p1
  have R1:=aa r1;have O1:=aa o1;have NE:=aa ne1;have K1:=aa k1;obtain⟨A,c,rfl,_⟩:=bF r1;clear p1 r1 o1 ne1 k1 f1;go_wp2_with fail
  go_ret
  have f2:=N1.out.fr 5 (.slice A xs.length c);have hop :∀k,Op k→k≠n:=fun k hk e=>HD.out k hk (e▸BM.out)
  refine⟨F1.out.trans f2 (fun k hk=>.inl (hk▸(HO.out n).2 (.inr BM.out))),.inl ⟨_,fun k=>Op k∨(On k∨(Value.slice A xs.length c).ownBlock=some k),rfl,⟨Op,fun k=>On k∨(Value.slice A xs.length c).ownBlock=some k,T,ks,fun _=>Iff.rfl,fun k hk h=>?_,P1.out.kept (O1:=(· = n)) f2 hop (fun k e=>by omega),Ap N1.out _ xs R1.out NE.out,HL.out,HC.out⟩,fun k hk=>?_,K1.out⟩⟩
  ·rcases h with h|h
   ·exact HD.out k hk h
   ·have:=O1.out k h;have:=(HOW.out k hk).2;omega
  ·rcases hk with hk|hk|hk
   ·exact .inl ((HO.out k).2 (.inl hk))
   ·exact .inl ((HO.out k).2 (.inr hk))
   ·exact .inr (O1.out k hk)
 ·have M2:=aa m2
  have K1:=aa k1;have Q6:g'≠n:=by omega
  clear m2 k1 f1;go_wp2_with fail
  go_ret
  exact⟨F1.out.trans (N1.out.fr 5 _) (fun k hk=>.inl (hk▸(HO.out n).2 (.inr BM.out))),.inr ⟨l,_,rfl,⟨g',rfl,m1,(Below.heap_setCell _ _ _ g' Q6).trans M2.out⟩,K1.out⟩⟩
def j4:YV:=fun p=>match p.2 with
 | []=>(false,p.1,[])
 | t::r=>if av [46,46,46] t=true then (true,1,r) else (decide (p.1=1),p.1,t::r)
def MD (b n:Nat) (Op On:Nat→Prop) (x:Nd) (T:List Nd) (o:Bool×Int×List aj) (w:World) (e:Ending) (w':World):Prop :=
 e=.returned (.bool o.1)∧PS w' b Op o.2.2 T∧NU w' b n On { x with num:=o.2.1}∧ay (fun k=>k=b∨k=n) w w'
theorem ME (b n g1 g2:Nat) (Op On O:Nat→Prop) (x:Nd) (t:aj) (ts:List aj) (T:List Nd) (w:World) (hp:PS w b Op (t::ts) T) (hn:NU w b n On x) (hd :∀k,Op k→¬ On k) (hO :∀k,k=b∨k=n→O k)
  (b1:eI w O g1 #[.pointer (some ⟨b,0,none⟩)] 116) (b2:eI w O g2 #[.pointer (some ⟨n,0,none⟩)] 120):Calls Tryz.prog 209 #[.pointer (some ⟨g1,0,none⟩),.pointer (some ⟨g2,0,none⟩)] w (MD b n Op On x T (j4 (x.num,t::ts)) w):=by
 have c1:=b1.cell 0;have B2:=aa b2;have HN:=aa hn;have kU :∀w',ay (· = b) w w'→NU w' b n On x:=fun w' hf=>hn.kept hf fun k hk e=>hd b hp.at_ (e▸hk)
 have HK:=aa kU;have WS:=aa hO;have CO:b<n:=(hn.own n hn.at_).1;have HD:=aa hd;have hg2:g2≠n:=fun e=>b2.2 (e▸hO n (.inr rfl))
 by_cases h1:av [46,46,46] t=true
 ·have e1:j4 (x.num,t::ts)=(true,1,ts):=by simp[j4,h1]
  rw[e1];have HT:=aa (lI b Op t ts T [46,46,46] ⟨#[46,46,46]⟩ rfl w hp (by decide) h1)
  clear hp hn hd hO b1 b2 kU h1 e1;go_enter Tryz.func209,Tryz.ntmps209
  go_wp2_with fail
  refine HT.out.mono ?_;rintro e w1 ⟨rfl,p1,f1⟩;have n1:=HK.out w1 f1;obtain⟨nv,kv,hcs,_,hz⟩:=n1.cells;have c3:=hcs.c3;have z3:=hz 3;have c2:=(B2.out.later (f1.mono fun k hk=>WS.out k (.inl hk)) (Ext.refl _ _)).cell 0
  have jz:n<w1.heap.size:=(n1.own n n1.at_).2;have N1:=aa n1;have P1:=aa p1;have F1:=aa f1;clear n1 p1 f1 hcs hz c1;go_wp2_with fail
  go_ret
  have f2:=N1.out.fr 3 (.int .i64 1);exact⟨rfl,P1.out.kept (O1:=(· = n)) f2 (fun k hk e=>HD.out k hk (e▸N1.out.at_)) (fun k e=>by omega),N1.out.pU 3 _ rfl rfl fun _ _=>rfl,(F1.out.mono fun k hk=>.inl hk).trans f2 (fun k hk=>.inl (.inr hk))⟩
 ·have LW:av [46,46,46] t=false:=by simpa using h1
  have e1:j4 (x.num,t::ts)=(decide (x.num=1),x.num,t::ts):=by simp[j4,h1]
  rw[e1];have HT:=aa (nN b Op t ts T [46,46,46] ⟨#[46,46,46]⟩ rfl w hp (by decide) LW)
  clear hp hn hd hO b1 b2 kU h1 LW e1;go_enter Tryz.func209,Tryz.ntmps209
  go_wp2_with fail
  refine HT.out.mono ?_;rintro e w1 ⟨rfl,p1,f1⟩;have n1:=HK.out w1 f1;obtain⟨nv,kv,hcs,_,hz⟩:=n1.cells;have c3:=hcs.c3;have c2:=(B2.out.later (f1.mono fun k hk=>WS.out k (.inl hk)) (Ext.refl _ _)).cell 0
  have jz:n<w1.heap.size:=(n1.own n n1.at_).2;have N1:=aa n1;have P1:=aa p1;have F1:=aa f1;clear n1 p1 f1 hcs hz c1;go_wp2_with fail
  go_ret
  exact⟨by congr 2,P1.out,N1.out,F1.out.mono fun k hk=>.inl hk⟩
theorem RU {m:Int} {t:aj} {r:List aj} (h:av [44] t=false):oX (m,t::r)=(false,m,t::r):=by simp[oX,h]
theorem MF {m:Int} {t u:aj} {r:List aj} (h:av [44] t=true):oX (m,t::u::r)=(!(j4 (m,u::r)).1,(j4 (m,u::r)).2.1,(j4 (m,u::r)).2.2):=by
 cases h2:av [46,46,46] u<;>simp[oX,j4,h,h2]
theorem WT (b n g1 g2 g3:Nat) (Op On O:Nat→Prop) (x:Nd) (t:aj) (ts:List aj) (T:List Nd) (w:World) (hp:PS w b Op (t::ts) T) (hn:NU w b n On x) (hd :∀k,Op k→¬ On k) (hO :∀k,k=b∨k=n→O k)
  (b1:eI w O g1 #[.pointer (some ⟨b,0,none⟩)] 116) (b2:eI w O g2 #[.pointer (some ⟨n,0,none⟩)] 120) (b3:eI w O g3 #[.func (.func 209) #[] #[.pointer (some ⟨g1,0,none⟩),.pointer (some ⟨g2,0,none⟩)]] 22) :
  Calls Tryz.prog 210 #[.pointer (some ⟨g1,0,none⟩),.pointer (some ⟨g3,0,none⟩)] w (MD b n Op On x T (oX (x.num,t::ts)) w):=by
 have c1:=b1.cell 0;have B1:=aa b1;have B2:=aa b2;have B3:=aa b3;have kU :∀w',ay (· = b) w w'→NU w' b n On x:=fun w' hf=>hn.kept hf fun k hk e=>hd b hp.at_ (e▸hk)
 have HK:=aa kU;have WS:=aa hO;have HD:=aa hd;by_cases h1:av [44] t=true
 ·obtain⟨u,us,rfl⟩:=(hp.fin.tail (sU h1)).cons
  rw[MF h1];have HT:=aa (jX b Op t (u::us) T w hp h1);have oT:=enters_of Tryz.func209 (by kernel_rfl) rfl
  unfold Enters at oT;clear hp hn hd hO b1 b2 b3 kU h1;go_enter Tryz.func210,Tryz.ntmps210
  go_wp2_with fail
  refine HT.out.mono ?_;rintro e w1 ⟨rfl,p1,f1⟩;have fO:=f1.mono (O1:=O) fun k hk=>WS.out k (.inl hk)
  have c3:=(B3.out.later fO (Ext.refl _ _)).cell 0;have HM:=aa (ME b n g1 g2 Op On O x u us T w1 p1 (HK.out w1 f1) HD.out WS.out (B1.out.later fO (Ext.refl _ _)) (B2.out.later fO (Ext.refl _ _)));generalize j4 (x.num,u::us)=o at *;obtain⟨o1,o2,o3⟩:=o;have F1:=aa f1;clear p1 f1 fO c1;go_wp2_with fail
  refine HM.out.mono ?_;rintro e w2 ⟨rfl,p2,n2,f2⟩;have P2:=aa p2;have N2:=aa n2;have F2:=aa f2;clear p2 n2 f2 c3;go_wp2_with fail
  go_ret
  exact⟨rfl,P2.out,N2.out,(F1.out.mono fun k hk=>.inl hk).trans F2.out (Ext.refl _ _)⟩
 ·have LW:av [44] t=false:=by simpa using h1
  rw[RU LW];have HT:=aa (lJ b Op t ts T w hp LW);clear hp hn hd hO b1 b2 b3 kU h1 LW;go_enter Tryz.func210,Tryz.ntmps210
  go_wp2_with fail
  refine HT.out.mono ?_;rintro e w1 ⟨rfl,p1,f1⟩;have N1:=aa (HK.out w1 f1);have P1:=aa p1;have F1:=aa f1;clear p1 f1 c1;go_wp2_with fail
  go_ret
  exact⟨rfl,P1.out,N1.out,F1.out.mono fun k hk=>.inl hk⟩
theorem Hr {W:World} {b n g1 g2 g3:Nat} {Op On O:Nat→Prop} (hd :∀k,Op k→¬ On k) (hO :∀k,k=b∨k=n→O k)
  (b1:eI W O g1 #[.pointer (some ⟨b,0,none⟩)] 116) (b2:eI W O g2 #[.pointer (some ⟨n,0,none⟩)] 120) (b3:eI W O g3 #[.func (.func 209) #[] #[.pointer (some ⟨g1,0,none⟩),.pointer (some ⟨g2,0,none⟩)]] 22) :
  LF W b n Op On (.func (.func 210) #[] #[.pointer (some ⟨g1,0,none⟩),.pointer (some ⟨g3,0,none⟩)]) oX:=by
 intro W1 x ts T hf hp hn;obtain⟨t,r,rfl⟩:=hp.fin.cons;have hf':=hf.mono (O1:=O) hO;exact⟨210,_,_,rfl,enters_of Tryz.func210 (by kernel_rfl) rfl,WT b n g1 g2 g3 Op On O x t r T W1 hp hn hd hO (b1.later hf' (Ext.refl _ _)) (b2.later hf' (Ext.refl _ _)) (b3.later hf' (Ext.refl _ _))⟩
theorem RV {W W4:World} {b n:Nat} {On:Nat→Prop} {x:Nd} {nv kv:Value} (ha:W.heap[n]? = some (.cells (aP (x,nv,kv)).toArray 55 (0,0))) (hi:jB W b On x nv kv) (hat:On n) (hown :∀k,On k→b<k∧k<W.heap.size)
  (hf:ay (fun k=>nv.ownBlock=some k) W W4) :
  ay On W W4∧W4.cell? ⟨n,5,none⟩=some nv∧W4.frozen? ⟨n,5,none⟩=false∧n<W4.heap.size∧(∀v,ay (· = n) W4 (W4.setCell ⟨n,5,none⟩ v))∧∀(g m c:Nat) (xs:List ByteArray),jE W4 b (.slice (some ⟨g,0,none⟩) m c) xs→xs≠[] →
   NU (W4.setCell ⟨n,5,none⟩ (.slice (some ⟨g,0,none⟩) m c)) b n (fun k=>On k∨k=g) { x with names:=xs}:=by
 have hne:¬ nv.ownBlock=some n:=fun e=>by
  obtain⟨cur,hc⟩:=eS hi.names e;rw[ha] at hc;simp at hc
 have FT:ay On W W4:=⟨hf.os,hf.tape,hf.output,hf.size,fun k hk hn=>by
  by_cases e:nv.ownBlock=some k
  ·rcases hi.on k e with h|h
   ·exact(hn h).elim
   ·exact hf.str k h
  ·exact hf.block k hk e,hf.str⟩
 have pW:W4.heap[n]? = some (.cells (aP (x,nv,kv)).toArray 55 (0,0)):=(hf.block n (hown n hat).2 hne).trans ha;refine⟨FT,by simp[World.cell?,pW,aP],by simp[World.frozen?,pW],(aJ.1 pW).1,fun v=>ay.vp pW (by decide) 5 v,fun g m c xs hr hx=>?_⟩
 have cN:jB W4 b (fun k=>On k∨k=g) { x with names:=xs} (.slice (some ⟨g,0,none⟩) m c) kv:=⟨hr,dd hi.kids fun k hk=>(hf.block k (hi.kids.lt k hk).2 (fun e=>by
  obtain⟨c1,h1⟩:=eS hi.names e;obtain⟨c2,h2⟩:=eS hi.kids hk;rw[h1] at h2;simp at h2)),fun k hk=>.inl (.inr (by simpa[Value.ownBlock] using hk.symm)),fun k _=>hx,fun k hk=>.inl (hi.ok k hk)⟩
 have qN:=hr.lt g rfl;refine⟨⟨_,kv,gV pW _,cN.set pW 5 _⟩,.inl hat,fun k hk=>?_⟩
 rcases hk with hk|rfl
 ·exact⟨(hown k hk).1,by have:=(hown k hk).2;have:=hf.size;simp[World.setCell];omega⟩
 ·exact⟨by omega,by simp[World.setCell];omega⟩
theorem wC (w:World) (A B:Obj) (v u:Value) (ty:TypeId):(((w.alloc A).alloc B).alloc (.cells #[v] ty)).cell? ⟨w.heap.size+1+1,0,none⟩=some v∧(((w.alloc A).alloc B).alloc (.cells #[v] ty)).frozen? ⟨w.heap.size+1+1,0,none⟩=false ∧
  (((w.alloc A).alloc B).alloc (.cells #[v] ty)).setCell ⟨w.heap.size+1+1,0,none⟩ u=((w.alloc A).alloc B).alloc (.cells #[u] ty):=by
 have hz:w.heap.size+1+1=((w.alloc A).alloc B).heap.size:=by rw[ao,ao]
 rw[hz];have hn:=World.alloc_heap_new ((w.alloc A).alloc B) (.cells #[v] ty);refine⟨by simp only[World.cell?,hn];rfl,by simp only[World.frozen?,hn];rfl,?_⟩
 rw[World.setCell_alloc_at _ _ _ _ _ rfl];rfl
theorem Hs {ops:Array Oper} {o:Oper} {a:Act} {K:Act→World→Prop} {Q:Exit→Act→World→Prop} {E:Prop} (w:World) (hgd:o.guard=none) (s x:Operand)
  (ho:o.op=.call { callee:=.builtin .append,args:=#[s,x],argTypes:=#[53,53]}) (b:Nat) (v:Value) (ls:List ByteArray) (hs:a.eval s=v) (hown:jE w b v ls) (hx:a.eval x=.slice none 0 0) (h:K (a.put o.dst v) w) :
  if Region.wanted o (yielded ops a.tmps)=true then Oper.wp Tryz.prog o a w K Q else E:=by
 have hw:Region.wanted o (yielded ops a.tmps)=true:=by simp[Region.wanted,hgd]
 rw[al hw];have hrun:=run_append_owned_none (P:=Tryz.prog) (w:=w) (b+1) 53 o.type 9 _ 1 Tryz.underlying53 (info_parts LB).choose_spec.1 v ls.length (ls.map Value.string) hown;unfold Oper.wp;simp[execOp,ho,resolve,invoke,builtin,hs,hx,hrun,Result.andThen];exact h
theorem pZ:ey 181 Ah:=by
 rintro b n O T0 ⟨sh,Y0,oL,sn⟩ K E w hr ⟨t,ts,jc,fy,RW,hno⟩;obtain⟨Op,On,T,ks,hO,hd,hp,hn,hl,hc⟩:=hr.ex;dsimp only at jc fy RW hno hp hn hl hc
 subst jc;have MG:=hr.lt;obtain⟨w1,dZ⟩ :∃w1,w1=w.alloc (.cells #[.pointer (some ⟨b,0,none⟩)] 116):=⟨_,rfl⟩;obtain⟨w2,hw2⟩ :∃w2,w2=w1.alloc (.cells #[.pointer (some ⟨n,0,none⟩)] 120):=⟨_,rfl⟩;obtain⟨w3,hw3⟩ :∃w3,w3=w2.alloc (.cells #[.func (.func 209) #[] #[.pointer (some ⟨w.heap.size,0,none⟩),.pointer (some ⟨w.heap.size+1,0,none⟩)]] 22):=⟨_,rfl⟩;have f1:ay O w w1:=by rw[dZ];exact(ay.refl _ _).alloc _
 have f2:ay O w1 w2:=by rw[hw2];exact(ay.refl _ _).alloc _
 have f3:ay O w2 w3:=by rw[hw3];exact(ay.refl _ _).alloc _
 have z1:w1.heap.size=w.heap.size+1:=by rw[dZ,ao]
 have z2:w2.heap.size=w.heap.size+1+1:=by rw[hw2,ao,z1]
 have b1:eI w1 O w.heap.size #[.pointer (some ⟨b,0,none⟩)] 116:=by rw[dZ];exact eI.new w O MG _ _
 have b2:eI w2 O (w.heap.size+1) #[.pointer (some ⟨n,0,none⟩)] 120:=by rw[hw2,←z1];exact eI.new w1 O (fun k hk=>by have:=MG k hk;omega) _ _
 have b3:eI w3 O (w.heap.size+1+1) #[.func (.func 209) #[] #[.pointer (some ⟨w.heap.size,0,none⟩),.pointer (some ⟨w.heap.size+1,0,none⟩)]] 22:=by rw[hw3,←z2];exact eI.new w2 O (fun k hk=>by have:=MG k hk;omega) _ _
 have f13:=(f1.trans f2 (Ext.refl _ _)).trans f3 (Ext.refl _ _);have WU:Below w.heap.size w w3:=by
  rw[hw3,hw2,dZ];exact(((Below.refl _ _).alloc (ah _) _).alloc (by simp) _).alloc (by simp;omega) _
 have b13:=(b1.later f2 (Ext.refl _ _)).later f3 (Ext.refl _ _);have b23:=b2.later f3 (Ext.refl _ _);have hbO :∀k,k=b∨k=n→O k:=fun k hk=>(hO k).2 (hk.elim (fun e=>.inl (e▸hp.at_)) (fun e=>.inr (e▸hn.at_)))
 have HM:=aa (ME b n w.heap.size (w.heap.size+1) Op On O { sh with kids:=ks} t ts T w3 (hp.below WU) (hn.below WU) hd hbO b13 b23);have c23:=b23.cell 0;have c33:=b3.cell 0;have BX1:=aa b13;have BX2:=aa b23;have BX3:=aa b3;have F3:=aa f13;have HO:=aa hO;have HD:=aa hd;have HL:=aa hl;have HC:=aa hc;have HBO:=aa hbO;have BM:=aa hn.at_;have HPW:=aa hp.own;have HNW:=aa hn.own;have Y3:n<w.heap.size:=(hn.own n hn.at_).2;have CO:b<n:=(hn.own n hn.at_).1;have HWS:Hid (w.heap.size≤w3.heap.size):=aa f13.size;have oT:=enters_of Tryz.func209 (by kernel_rfl) rfl
 unfold Enters at oT;dsimp only[show({ sh with kids:=ks}:Nd).num=sh.num from rfl] at HM
 rw[fy] at HM;cases h3:av [46,46,46] t with
 | true =>
  rw[show j4 (0,t::ts)=(true,1,ts) from by simp[j4,h3]] at HM
  have HK:=aa (RW h3);rw[hw3,hw2,dZ] at HM;obtain⟨q1,q2,q3⟩:=wC w (.cells #[.pointer (some ⟨b,0,none⟩)] 116) (.cells #[.pointer (some ⟨n,0,none⟩)] 120) .nilFunc (.func (.func 209) #[] #[.pointer (some ⟨w.heap.size,0,none⟩),.pointer (some ⟨w.heap.size+1,0,none⟩)]) 22;clear hr hp hn hl hc RW hno fy h3 c23 c33 BX1 BX2 BX3 f1 f2 f3 f13 z1 z2 b1 b2 b3 b13 b23 hbO WU hO hd MG;go_enter Tryz.func181,Tryz.ntmps181
  go_wp2_with fail
  refine HM.out.mono ?_;rintro e w4 ⟨rfl,p4,n4,f4⟩;rw[←dZ,←hw2,←hw3] at f4;have P4:=aa p4;have N4:=aa n4;have F4:=aa (F3.out.trans (f4.mono HBO.out) (Ext.refl _ _));clear p4 n4 f4 dZ hw2 hw3;go_wp2_with fail
  go_ret
  exact⟨F4.out,.inl ⟨_,O,rfl,⟨Op,On,T,ks,HO.out,HD.out,P4.out,N4.out,HL.out,HC.out⟩,Ext.refl _ _,HK.out⟩⟩
 | false =>
  rw[show j4 (0,t::ts)=(false,0,t::ts) from by simp[j4,h3]] at HM
  obtain⟨jz,m,hm,hk⟩:=hno h3;have HK:=aa hk;have HNL:=aa jz;rw[hw3,hw2,dZ] at HM;obtain⟨q1,q2,q3⟩:=wC w (.cells #[.pointer (some ⟨b,0,none⟩)] 116) (.cells #[.pointer (some ⟨n,0,none⟩)] 120) .nilFunc (.func (.func 209) #[] #[.pointer (some ⟨w.heap.size,0,none⟩),.pointer (some ⟨w.heap.size+1,0,none⟩)]) 22;clear hr hp hn hl hc RW hno fy h3 c23 c33 f1 f2 f3 f13 z1 z2 b1 b2 b3 b13 b23 hbO WU hO hd MG hk jz;have HMD:=aa hm;go_enter Tryz.func181,Tryz.ntmps181
  go_wp2_with fail
  refine HM.out.mono ?_;rintro e w4 ⟨rfl,p4,n4,f4⟩;rw[←dZ,←hw2,←hw3] at f4;have fO:=f4.mono HBO.out;have bx1:=BX1.out.later fO (Ext.refl _ _);have bx2:=BX2.out.later fO (Ext.refl _ _);have bx3:=BX3.out.later fO (Ext.refl _ _);have c14:=bx1.cell 0;have HRW:=aa (wm b n Op On _ (t::ts) T (.func (.func 210) #[] #[.pointer (some ⟨w.heap.size,0,none⟩),.pointer (some ⟨w.heap.size+1+1,0,none⟩)]) oX _ E m HMD.out w4 p4 n4 HD.out (Hr HD.out HBO.out bx1 bx2 bx3) HK.out);have aar:=aa bx2;have F4:=aa (F3.out.trans fO (Ext.refl _ _));have hw4s:w.heap.size+1+1<w4.heap.size:=(aJ.1 bx3.1).1;clear p4 n4 f4 fO bx1 bx2 bx3 dZ hw2 hw3 q1 q2 q3 HM BX1 BX2 BX3;go_wp2_with fail
  refine HRW.out.mono ?_;rintro e w5 ⟨f5,mm,n5,h5⟩;have fO5:=f5.mono HBO.out;have F5:=aa (F4.out.trans fO5 (Ext.refl _ _));have c25:=(aar.out.later fO5 (Ext.refl _ _)).cell 0;have N5:=aa n5;obtain⟨nv,kv,ha,hi⟩:=n5.ex;obtain⟨nv',Z1,hcs,_,hz⟩:=n5.cells;have ace:=n5.at_;have Uy:=n5.own;have hnl5:n<w5.heap.size:=(n5.own n n5.at_).2;obtain⟨A5,k5,rfl,_⟩:=bF hi.names;have c55:w5.cell? ⟨n,5,none⟩=some (.slice A5 sh.names.length k5):=by simp[World.cell?,ha,aP]
  have z55:w5.frozen? ⟨n,5,none⟩=false:=by simp[World.frozen?,ha]
  have hgx:w.heap.size+1≠n:=by omega
  have hg2l:w.heap.size+1<w5.heap.size:=by have:=f5.size;omega
  have acf:sh.names.length≤100000:=HNL.out;have acg:=aa (aar.out.later fO5 (Ext.refl _ _));have WS:Hid (∀k,On k→O k):=aa fun k hk=>(HO.out k).2 (.inr hk)
  have HI:=aa hi;have HST:=aa (fun W4 hf=>RV (W4:=W4) ha hi ace Uy hf)
  have c25n:(w5.cell? ⟨w.heap.size+1,0,none⟩)=some (.pointer (some ⟨n,0,none⟩)):=c25;clear c25 hcs hz n5 f5 fO5 c14 ha hi Uy;rcases h5 with ⟨v,xs,WN,rfl,p5,r5,o5,ne5,len5,k5'⟩ | ⟨l,er,rfl,⟨g',rfl,m1,m2⟩,k5'⟩
  ·obtain⟨Av,cv,rfl,_⟩:=bF r5
   have P5:=aa p5;have R5:=aa r5;have O5:=aa o5;have NE:=aa ne5;have K5:=aa k5';have uh:b+1≤w5.heap.size:=by omega
   clear p5 r5 o5 ne5 k5';go_wp2_with fail
   go_region_law ((refine GW _ (by rfl) _ _ (by rfl) b (.slice A5 sh.names.length k5) (.slice Av xs.length cv) sh.names xs (by rfl) HI.out.names HI.out.nz (by rfl) R5.out NE.out (by omega) (by omega) uh ?_;intro g6 c6 w6 r6 f6 o6 l6;have f6':ay (fun k=>(Value.slice A5 sh.names.length k5).ownBlock=some k) w5 w6:=ay.trans (ay.ae (O:=fun k=>(Value.slice A5 sh.names.length k5).ownBlock=some k) (by exact⟨rfl,rfl,rfl,ah _,fun _ _=>rfl⟩)) f6 (Ext.refl _ _);obtain⟨fo,c56,z56,hn6,fr6,Ad⟩:=HST.out w6 f6';have c26:=(acg.out.later (fo.mono WS.out) (Ext.refl _ _)).cell 0;have FO:=aa fo;have FR6:=aa (fr6 (.slice (some ⟨g6,0,none⟩) (sh.names.length+xs.length) c6));have HU:=aa (Ad g6 _ c6 _ r6 (fun e=>NE.out (JK.1 e).2));have O6:=aa o6;have L6:=aa l6;clear r6 f6 f6' o6 l6 fo fr6 Ad))
   all_goals
    go_wp2
    go_ret
    have GU :∀k,On k→O k:=fun k hk=>(HO.out k).2 (.inr hk)
    have Uz:On g6∨w5.heap.size≤g6:=by
     rcases O6.out with ⟨h1,h2⟩|h1
     ·rcases HI.out.on g6 h1 with h|h
      ·exact .inl h
      ·exact(h2 h).elim
     ·exact .inr h1
    have p6:PS w6 b Op WN T:=P5.out.kept FO.out HD.out (fun k hk=>fj (HNW.out k hk).1)
    refine⟨(F5.out.trans (FO.out.mono GU) (Ext.refl _ _)).trans FR6.out (fun k hk=>.inl (hk▸(HO.out n).2 (.inr BM.out))),.inl ⟨_,fun k=>Op k∨(On k∨k=g6),rfl,⟨Op,fun k=>On k∨k=g6,T,ks,fun _=>Iff.rfl,fun k hk h=>?_,?_,HU.out,HL.out,HC.out⟩,fun k hk=>?_,K5.out⟩⟩
    ·rcases h with h|rfl
     ·exact HD.out k hk h
     ·rcases Uz with h|h
      ·exact HD.out _ hk h
      ·have:=(P5.out.own _ hk).2;omega
    ·exact p6.kept (O1:=(· = n)) FR6.out (fun k hk e=>HD.out k hk (e▸BM.out)) fun k e=>by omega
    ·rcases hk with hk|hk|rfl
     ·exact .inl ((HO.out k).2 (.inl hk))
     ·exact .inl (GU k hk)
     ·rcases Uz with h|h
      ·exact .inl (GU _ h)
      ·exact .inr (by have:=F5.out.size;omega)
  ·have M2:=aa m2
   have K5:=aa k5';have Q6:g'≠n:=by have:=F4.out.size;omega
   clear m2 k5';go_wp2_with fail
   go_region_law (refine Hs _ (by rfl) _ _ (by rfl) b (.slice A5 sh.names.length k5) sh.names (by rfl) HI.out.names (by rfl) ?_)
   all_goals
    go_wp2
    go_ret
    exact⟨F5.out.trans (N5.out.fr 5 (.slice A5 sh.names.length k5)).drew (fun k hk=>.inl (hk▸(HO.out n).2 (.inr BM.out))),.inr ⟨l,_,rfl,⟨g',rfl,by have:=F4.out.size;omega,(Below.heap_setCell _ _ _ g' Q6).trans M2.out⟩,K5.out⟩⟩
theorem rf (w:World) (g:Nat) (hg:g=w.heap.size) (b:Nat) (O:Nat→Prop) (hO :∀k,O k→k<w.heap.size) (x:List UInt8) (hx:x≠[]) (X:ByteArray) (hX:X=bC x) :
  Calls Tryz.prog 89 #[.pointer (some ⟨b,0,none⟩),.slice (some ⟨g,0,none⟩) 1 1] (w.alloc (.cells #[.string X] 9)) (jY b O (au [x]) w):=by
 subst hg;exact cF w b O hO x hx X hX
theorem Real.nms {W:World} {b n:Nat} {O:Nat→Prop} {T0:List Nd} {s:St} (h:Real W b n O T0 s):n<W.heap.size∧∃A c,W.cell? ⟨n,5,none⟩=some (.slice A s.h.names.length c):=by
 obtain⟨Op,On,T,ks,hO,hd,hp,hn,hl,hc⟩:=h.ex;obtain⟨nv,kv,hcs,hi,hz⟩:=hn.cells;obtain⟨A,c,rfl,_⟩:=bF hi.names;exact⟨(hn.own n hn.at_).2,A,c,hcs.c5⟩
def wD (li:cg):cg:=fun s K E=>aI [au [wIn],li,eo] { s with h:={ s.h with kind:=27}} K E
def RX (ex li:cg):cg:=fun s K E=>(s.h.names.length=1→∃t ts,s.ts=t::ts∧(av [61] t=true→aI [ex,au [[44]],ex,bB [44] [ex]] { s with h:={ s.h with kind:=26},ts:=ts} K E)∧(av [61] t=false→wD li s K E))∧(s.h.names.length≠1→wD li s K E)
theorem Ht {ex:cg} (hE:ey 91 ex) (b n:Nat) (O:Nat→Prop) (T0:List Nd) (s:St) (K:St→Prop) (E:Int→Prop) (w:World) (hr:Real w b n O T0 s) (hl:s.h.names.length=1) (t:aj) (ts:List aj) (hs:s.ts=t::ts) (hq:av [61] t=true) (hk:aI [ex,au [[44]],ex,bB [44] [ex]] { s with h:={ s.h with kind:=26},ts:=ts} K E):
  Calls Tryz.prog 94 #[.pointer (some ⟨b,0,none⟩),.pointer (some ⟨n,0,none⟩)] w (bE b n O T0 K E w):=by
 obtain⟨Y3,A5,c5',c5⟩:=hr.nms;rw[hl] at c5;have HT:=aa (kS hr hs [61] ⟨#[61]⟩ rfl (by decide) hq)
 have HK:=aa hk;clear hr hk hs hq hl;go_enter Tryz.func94,Tryz.ntmps94
 go_wp2_with fail
 refine HT.out.mono ?_;rintro e wx ⟨rfl,r2,f2⟩;have FF:=aa f2;have R:=aa r2;clear r2 f2 c5;obtain⟨⟨v0,k0⟩,y0,jz,f4,r4⟩:=R.out.kind 26;have F0:=aa (FF.out.trans f4 (Ext.refl _ _));have P0:=aa r4;have V1:=aa (rf _ wx.heap.size (by simp) b O r4.lt [44] (by decide) ⟨#[44]⟩ rfl)
 clear f4 r4;go_wp2_with fail
 refine V1.out.mono ?_;rintro e w1 ⟨f1,a1,c1,rfl,b1,h1⟩;have F1:=aa (F0.out.trans (ay.ae (O:=O) b1) (Ext.refl _ _));have P1:=aa (P0.out.below b1);have H1:=aa h1;clear b1 h1 V1 k0 y0;have qU :∀k,O k→k<w1.heap.size:=P1.out.lt;have V2:=aa (oZ w1 b O qU [aZ 91 b] [ex] (by simp) ⟨hE.part (enters_of Tryz.func91 (by kernel_rfl) rfl) w1 b O,trivial⟩ [44] (by decide) ⟨#[44]⟩ rfl)
 clear qU;go_wp2_with fail
 refine V2.out.mono ?_;rintro e w2 ⟨f2,a2,c2,rfl,b2,h2⟩;have F2:=aa (F1.out.trans (ay.ae (O:=O) b2) (Ext.refl _ _));have P2:=aa (P1.out.below b2);have L1:=aa (H1.out.later (ay.ae (O:=O) b2) (Ext.refl _ _));clear H1;have H1:=L1;clear L1;have H2:=aa h2;clear b2 h2 V2;have HN:=aa (jf w w2 P2.out F2.out (Ext.refl _ _) [aZ 91 b,.func (.func f1) a1 c1,aZ 91 b,.func (.func f2) a2 c2] [ex,au [[44]],ex,bB [44] [ex]] (by simp) ⟨hE.part (enters_of Tryz.func91 (by kernel_rfl) rfl) w2 b O,H1.out,hE.part (enters_of Tryz.func91 (by kernel_rfl) rfl) w2 b O,H2.out,trivial⟩ HK.out)
 go_wp2_with fail
 refine HN.out.mono ?_;intro e wz hz;obtain⟨v,rfl⟩:=hz.ret;have HZ:=aa hz;clear hz;go_wp2_with fail
 go_ret
 exact HZ.out
theorem CZ {li:cg} (hL:ey 84 li) (b n:Nat) (O:Nat→Prop) (T0:List Nd) (s:St) (K:St→Prop) (E:Int→Prop) (w:World) (hr:Real w b n O T0 s) (hl:s.h.names.length=1) (t:aj) (ts:List aj) (hs:s.ts=t::ts) (hq:av [61] t=false) (hk:wD li s K E):
  Calls Tryz.prog 94 #[.pointer (some ⟨b,0,none⟩),.pointer (some ⟨n,0,none⟩)] w (bE b n O T0 K E w):=by
 obtain⟨Y3,A5,c5',c5⟩:=hr.nms;rw[hl] at c5;have HT:=aa (nO hr hs [61] ⟨#[61]⟩ rfl (by decide) hq)
 unfold wD at hk;have HK:=aa hk;clear hr hk hs hq hl;go_enter Tryz.func94,Tryz.ntmps94
 go_wp2_with fail
 refine HT.out.mono ?_;rintro e wx ⟨rfl,r2,f2⟩;have FF:=aa f2;have R:=aa r2;clear r2 f2 c5;obtain⟨⟨v0,k0⟩,y0,jz,f4,r4⟩:=R.out.kind 27;have F0:=aa (FF.out.trans f4 (Ext.refl _ _));have P0:=aa r4;have V1:=aa (rf _ wx.heap.size (by simp) b O r4.lt [105,110] (by decide) ⟨#[105,110]⟩ rfl)
 clear f4 r4;go_wp2_with fail
 refine V1.out.mono ?_;rintro e w1 ⟨f1,a1,c1,rfl,b1,h1⟩;have F1:=aa (F0.out.trans (ay.ae (O:=O) b1) (Ext.refl _ _));have P1:=aa (P0.out.below b1);have H1:=aa h1;clear b1 h1 V1 k0 y0;have HN:=aa (jf w w1 P1.out F1.out (Ext.refl _ _) [.func (.func f1) a1 c1,aZ 84 b,.func (.func 150) #[] #[]] [au [[105,110]],li,eo] (by simp) ⟨H1.out,hL.part (enters_of Tryz.func84 (by kernel_rfl) rfl) w1 b O,jC w1 b O,trivial⟩ HK.out)
 go_wp2_with fail
 refine HN.out.mono ?_;intro e wz hz;obtain⟨v,rfl⟩:=hz.ret;have HZ:=aa hz;clear hz;go_wp2_with fail
 go_ret
 exact HZ.out
theorem C0 {li:cg} (hL:ey 84 li) (b n:Nat) (O:Nat→Prop) (T0:List Nd) (s:St) (K:St→Prop) (E:Int→Prop) (w:World) (hr:Real w b n O T0 s) (hl:s.h.names.length≠1) (hk:wD li s K E):
  Calls Tryz.prog 94 #[.pointer (some ⟨b,0,none⟩),.pointer (some ⟨n,0,none⟩)] w (bE b n O T0 K E w):=by
 obtain⟨Y3,A5,c5',c5⟩:=hr.nms;have q1:((s.h.names.length:Int) == 1)=false:=aG.2 (by omega)
 unfold wD at hk;have HK:=aa hk;have R:=aa hr;have FF:=aa (ay.refl O w);clear hr hk hl;go_enter Tryz.func94,Tryz.ntmps94
 obtain⟨⟨v0,k0⟩,y0,jz,f4,r4⟩:=R.out.kind 27;have F0:=aa (FF.out.trans f4 (Ext.refl _ _));have P0:=aa r4;have V1:=aa (rf _ w.heap.size (by simp) b O r4.lt [105,110] (by decide) ⟨#[105,110]⟩ rfl)
 clear f4 r4;go_wp2_with fail
 refine V1.out.mono ?_;rintro e w1 ⟨f1,a1,c1,rfl,b1,h1⟩;have F1:=aa (F0.out.trans (ay.ae (O:=O) b1) (Ext.refl _ _));have P1:=aa (P0.out.below b1);have H1:=aa h1;clear b1 h1 V1 k0 y0;have HN:=aa (jf w w1 P1.out F1.out (Ext.refl _ _) [.func (.func f1) a1 c1,aZ 84 b,.func (.func 150) #[] #[]] [au [[105,110]],li,eo] (by simp) ⟨H1.out,hL.part (enters_of Tryz.func84 (by kernel_rfl) rfl) w1 b O,jC w1 b O,trivial⟩ HK.out)
 go_wp2_with fail
 refine HN.out.mono ?_;intro e wz hz;obtain⟨v,rfl⟩:=hz.ret;have HZ:=aa hz;clear hz;go_wp2_with fail
 go_ret
 exact HZ.out
theorem MH {ex li:cg} (hE:ey 91 ex) (hL:ey 84 li):ey 94 (RX ex li):=by
 rintro b n O T0 s K E w hr ⟨h1,h2⟩;by_cases hl:s.h.names.length=1
 ·obtain⟨t,ts,hs,hy,hn⟩:=h1 hl
  cases hq:av [61] t with
  | true=>exact Ht hE b n O T0 s K E w hr hl t ts hs hq (hy hq)
  | false=>exact CZ hL b n O T0 s K E w hr hl t ts hs hq (hn hq)
 ·exact C0 hL b n O T0 s K E w hr hl (h2 hl)
theorem aN.xK {w:World} {b:Nat} {O:Nat→Prop} (g:Nat) (hg:g=w.heap.size) (hO :∀k,O k→k<w.heap.size) (vs:List Value) (cP:List cg) (hl:vs.length≤100) (h:jD w b O vs cP):aN (w.alloc (.cells vs.toArray 122)) b O (.slice (some ⟨g,0,none⟩) vs.length vs.length) cP:=by
 subst hg;exact aN.new hO vs cP hl h
def Hu (li bd:cg):cg:=fun s K E=>∃t ts,s.ts=t::ts∧(av ba t=false→aI [im,bB [61] [li]] { s with h:={ s.h with kind:=19}} K E) ∧
 (av ba t=true→∃u us,ts=u::us∧(u.1≠1→E u.2.1)∧(u.1=1→dw (dO ⟨11,t.2.1,0,0,⟨#[]⟩,[],[]⟩ [bd]) { s with h:={ s.h with kind:=28,names:=[bC u.2.2.2]},ts:=us} K E))
theorem ui {W:World} {b n:Nat} {O:Nat→Prop} {T0:List Nd} {s:St} (h:Real W b n O T0 s) {t:aj} {ts:List aj} (hs:s.ts=t::ts):Calls Tryz.prog 34 #[.pointer (some ⟨b,0,none⟩)] W fun e w'=>e=.returned (fQ t)∧Below W.heap.size W w':=by
 obtain⟨Op,T,hp⟩:=h.ps;rw[hs] at hp;exact cH b Op t ts T W hp
theorem C5 {li:cg} (hL:ey 84 li) (b n:Nat) (O:Nat→Prop) (T0:List Nd) (s:St) (K:St→Prop) (E:Int→Prop) (w:World) (hr:Real w b n O T0 s) (t:aj) (ts:List aj) (hs:s.ts=t::ts) (hq:av ba t=false) (hk:aI [im,bB [61] [li]] { s with h:={ s.h with kind:=19}} K E) :
  Calls Tryz.prog 96 #[.pointer (some ⟨b,0,none⟩),.pointer (some ⟨n,0,none⟩)] w (bE b n O T0 K E w):=by
 have HA:=aa (ui hr hs);have HT:=aa (fun(W:World) (hW:Real W b n O T0 s)=>nO hW hs ba ⟨#[102,117,110,99,116,105,111,110]⟩ rfl (by decide) hq)
 have HK:=aa hk;have HR:=aa hr;obtain⟨t0,t1,t2,t3⟩:=t;unfold fQ at HA;dsimp only at HA
 have F9:=Lo t0 t1 t2 (bC t3);generalize bC t3=S at *;clear hr hk hs hq;go_enter Tryz.func96,Tryz.ntmps96
 go_wp2_with fail
 refine HA.out.mono ?_;rintro e wa ⟨rfl,b1⟩;have B1:=aa b1;have Ai:=aa (HT.out wa (HR.out.below b1));clear b1 HT;go_wp2_with fail
 refine Ai.out.mono ?_;rintro e wx ⟨rfl,r2,f2⟩;obtain⟨⟨v0,k0⟩,y0,jz,f4,r4⟩:=r2.kind 19;have F0:=aa ((ay.ae (O:=O) B1.out).trans (f2.trans f4 (Ext.refl _ _)) (Ext.refl _ _));have P0:=aa r4;have V1:=aa (r9 _ wx.heap.size (by simp) b O r4.lt [aZ 84 b] [li] (by simp) ⟨hL.part (enters_of Tryz.func84 (by kernel_rfl) rfl) _ b O,trivial⟩ [61] (by decide) ⟨#[61]⟩ rfl)
 clear f2 r2 f4 r4;go_wp2_with fail
 refine V1.out.mono ?_;rintro e w1 ⟨f1,a1,c1,rfl,b1,h1⟩;have F1:=aa (F0.out.trans (ay.ae (O:=O) b1) (Ext.refl _ _));have P1:=aa (P0.out.below b1);have HN:=aa (jf w w1 P1.out F1.out (Ext.refl _ _) [aZ 93 b,.func (.func f1) a1 c1] [im,bB [61] [li]] (by simp) ⟨EI.part (enters_of Tryz.func93 (by kernel_rfl) rfl) w1 b O,h1,trivial⟩ HK.out)
 clear b1 h1 V1 k0 y0;go_wp2_with fail
 refine HN.out.mono ?_;intro e wz hz;obtain⟨v,rfl⟩:=hz.ret;have HZ:=aa hz;clear hz;go_wp2_with fail
 go_ret
 exact HZ.out
theorem Real.MI {W:World} {b n:Nat} {O:Nat→Prop} {T0:List Nd} {s:St} (h:Real W b n O T0 s) (S:ByteArray):n<W.heap.size∧(∃v,W.cell? ⟨n,5,none⟩=some v)∧W.frozen? ⟨n,5,none⟩=false ∧
  ay O W ((W.setCell ⟨n,5,none⟩ (.slice (some ⟨W.heap.size,0,none⟩) 1 1)).alloc (.cells #[.string S] 9))∧∃O2,Ext O O2 W∧Real ((W.setCell ⟨n,5,none⟩ (.slice (some ⟨W.heap.size,0,none⟩) 1 1)).alloc (.cells #[.string S] 9)) b n O2 T0 { s with h:={ s.h with names:=[S]}}:=by
 have hlt:=h.lt;obtain⟨Op,On,T,ks,hO,hd,hp,hn,hl,hc⟩:=h.ex;obtain⟨nv,kv,hcs,_,hz⟩:=hn.cells;have jz:=(hn.own n hn.at_).2;have CO:=(hn.own n hn.at_).1;have YZ:=hp.below (aX W (.cells #[.string S] 9));have hnA:=hn.below (aX W (.cells #[.string S] 9));have hb1:b+1≤W.heap.size:=(hp.own b hp.at_).2;have hrow:jE (W.alloc (.cells #[.string S] 9)) b (.slice (some ⟨W.heap.size,0,none⟩) 1 1) [S]:=⟨rfl,.inr ⟨W.heap.size,1,#[.string S],rfl,hb1,World.alloc_heap_new W _,ah _,by unfold maxLen;omega,rfl,rfl⟩⟩
 have Ad:=Ap hnA _ [S] hrow (by simp)
 have nZ:=hnA.fr 5 (.slice (some ⟨W.heap.size,0,none⟩) 1 1);have rW:=YZ.kept (O1:=(· = n)) nZ (fun k hk e=>hd k hk (e▸hn.at_)) fun k e=>by omega
 rw[World.setCell_alloc_past _ _ _ _ jz] at Ad nZ rW;refine⟨jz,⟨_,hcs.c5⟩,hz 5,((ay.refl O W).alloc _).trans nZ (fun k e=>.inl ((hO k).2 (.inr (e▸hn.at_)))),fun k=>Op k∨(On k∨(Value.slice (some ⟨W.heap.size,0,none⟩) 1 1).ownBlock=some k),fun k hk=>?_,Op,_,T,ks,fun _=>Iff.rfl,fun k hk e=>?_,rW,Ad,hl,hc⟩
 ·rcases hk with hk|hk|hk
  ·exact .inl ((hO k).2 (.inl hk))
  ·exact .inl ((hO k).2 (.inr hk))
  ·exact .inr (by simp[Value.ownBlock] at hk;omega)
 ·rcases e with e|e
  ·exact hd k hk e
  ·have:=(hp.own k hk).2
   simp[Value.ownBlock] at e;omega
theorem Hv {W:World} {b n:Nat} {O:Nat→Prop} {T0:List Nd} {s:St} (h:Real W b n O T0 s) {t:aj} {ts:List aj} (hs:s.ts=t::ts):Calls Tryz.prog 146 #[.pointer (some ⟨b,0,none⟩)] W fun e w'=>ay O W w' ∧
  ((t.1=1∧e=.returned (.tuple #[.string (bC t.2.2.2),.nilIface])∧Real w' b n O T0 { s with ts:=ts})∨(t.1≠1∧∃er,e=.returned (.tuple #[.string ⟨#[]⟩,er])∧QF W.heap.size w' er t.2.1)):=by
 obtain⟨Op,On,T,ks,hO,hd,hp,hn,hl,hc⟩:=h.ex;rw[hs] at hp;refine(CG b Op t ts T W hp).mono ?_;rintro e w' ⟨hf,h1⟩;refine⟨hf.mono fun k hk=>(hO k).2 (.inl (hk▸hp.at_)),h1.imp ?_ id⟩
 rintro⟨a1,a2,a3⟩;exact⟨a1,a2,⟨Op,On,T,ks,hO,hd,a3,hn.kept hf fun k hk e=>hd b hp.at_ (e▸hk),hl,hc⟩⟩
theorem Hw {bd:cg} (CW:ey 152 bd) (b n:Nat) (O:Nat→Prop) (T0:List Nd) (s:St) (K:St→Prop) (E:Int→Prop) (w:World) (hr:Real w b n O T0 s) (t u:aj) (us:List aj) (hs:s.ts=t::u::us) (hq:av ba t=true) (oQ:u.1≠1→E u.2.1)
  (hk:u.1=1→dw (dO ⟨11,t.2.1,0,0,⟨#[]⟩,[],[]⟩ [bd]) { s with h:={ s.h with kind:=28,names:=[bC u.2.2.2]},ts:=us} K E) :
  Calls Tryz.prog 96 #[.pointer (some ⟨b,0,none⟩),.pointer (some ⟨n,0,none⟩)] w (bE b n O T0 K E w):=by
 have HA:=aa (ui hr hs);have HT:=aa (fun(W:World) (hW:Real W b n O T0 s)=>kS hW hs ba ⟨#[102,117,110,99,116,105,111,110]⟩ rfl (by decide) hq)
 have HK:=aa hk;have HB:=aa oQ;have HR:=aa hr;obtain⟨t0,t1,t2,t3⟩:=t;unfold fQ at HA;dsimp only at HA HK
 have F9:=Lo t0 t1 t2 (bC t3);generalize bC t3=S at *;clear hr hk hs hq oQ;go_enter Tryz.func96,Tryz.ntmps96
 go_wp2_with fail
 refine HA.out.mono ?_;rintro e wa ⟨rfl,b1⟩;have B1:=aa b1;have Ai:=aa (HT.out wa (HR.out.below b1));clear b1 HT;go_wp2_with fail
 refine Ai.out.mono ?_;rintro e wx ⟨rfl,r2,f2⟩;obtain⟨⟨v0,k0⟩,y0,jz,f4,r4⟩:=r2.kind 28;have F0:=aa ((ay.ae (O:=O) B1.out).trans (f2.trans f4 (Ext.refl _ _)) (Ext.refl _ _));have HNm:=aa (Hv r4 rfl);clear f2 r2 f4 r4;go_wp2_with fail
 refine HNm.out.mono ?_;rintro e w1 ⟨f5,h5⟩;have F1:=aa (F0.out.trans f5 (Ext.refl _ _));rcases h5 with ⟨g1,rfl,r5⟩ | ⟨g1,er,rfl,⟨g',rfl,m1,m2⟩⟩
 ·obtain⟨S2,hS2⟩ :∃S2,S2=bC u.2.2.2:=⟨_,rfl⟩
  rw[←hS2];have Ps:=HK.out g1;rw[←hS2] at Ps;have yS:=aa Ps;obtain⟨zF,⟨v5,k5⟩,y5,f6,O2,x2,r6⟩:=r5.MI S2;have X2:Hid (Ext O O2 w):=aa ((Ext.refl O w).trans x2 F1.out.size);have F6:=aa (F1.out.trans f6 (Ext.refl _ _));have HP:=aN.xK (w:=(w1.setCell ⟨n,5,none⟩ (.slice (some ⟨w1.heap.size,0,none⟩) 1 1)).alloc (.cells #[.string S2] 9)) (b:=b) (O:=O2) (w1.heap.size+1) (by simp) r6.lt [aZ 152 b] [bd] (by simp) ⟨CW.part (enters_of Tryz.func152 (by kernel_rfl) rfl) _ b O2,trivial⟩
  have HH:=aa (qV b O2 ⟨11,t1,0,0,⟨#[]⟩,[],[]⟩ (.slice none 0 0) _ [bd] _ (yP.nil _ b) HP (fun k hk=>by have:=r6.lt k hk;simp at this ⊢;omega))
  have R6:=aa r6;clear HP r6 f6 r5 f5 Ps hS2 k0 y0 x2;go_wp2_with fail
  refine HH.out.mono ?_;rintro e w7 ⟨v,rfl,b7,h7⟩;obtain⟨f,first,cap,rfl,oT,bw⟩:=h7.1.call R6.out (aB (aX _ _) b7) yS.out
  have dX:=aa bw;clear h7 bw b7;unfold Enters at oT;go_wp2_with fail
  refine dX.out.mono ?_;intro e w8 h8;obtain⟨v,rfl⟩:=h8.ret;have H8:=aa h8;clear h8;go_wp2_with fail
  go_ret
  exact Am H8.out F6.out X2.out
 ·have M2:=aa m2
  have M1:=aa m1;have KB:=aa (HB.out g1);clear m1 m2 f5 k0 y0;go_wp2_with fail
  go_ret
  exact⟨F1.out,.inr ⟨_,_,rfl,⟨g',rfl,aL F0.out.size M1.out,M2.out⟩,KB.out⟩⟩
theorem C7 {li bd:cg} (hL:ey 84 li) (CW:ey 152 bd):ey 96 (Hu li bd):=by
 rintro b n O T0 s K E w hr ⟨t,ts,hs,h1,h2⟩;cases hq:av ba t with
 | true =>
  obtain⟨u,us,rfl,h3,h4⟩:=h2 hq;exact Hw CW b n O T0 s K E w hr t u us hs hq h3 h4
 | false=>exact C5 hL b n O T0 s K E w hr t ts hs hq (h1 hq)
theorem Hx {b:Nat} {O O1:Nat→Prop} {T0:List Nd} {R:Except Int (Ast×List aj)→Prop} {w w1 w':World} {e:Ending} (h:aH b O1 T0 R w1 e w') (hf:ay O w w1) (he:Ext O O1 w):aH b O T0 R w e w':=by
 obtain⟨h1,h2⟩:=h;refine⟨hf.trans h1 he,h2.imp ?_ ?_⟩
 ·rintro⟨p,a,ts,O2,T,e1,p1,x1,l1,k1⟩
  exact⟨p,a,ts,O2,T,e1,p1,he.trans x1 hf.size,l1,k1⟩
 ·rintro⟨l,v,er,e1,⟨g,m1,m2,m3⟩,k⟩
  exact⟨l,v,er,e1,⟨g,m1,aL hf.size m2,m3⟩,k⟩
theorem Ar (b:Nat) (O:Nat→Prop) (t:aj) (ts:List aj) (T0 T:List Nd) (p:Nat) (a:Ast) (K:Ast→List aj→Prop) (E:Int→Prop) (w:World) (hp:PS w b O (t::ts) T) (hl:ei T0 T [a] [(p:Int)]) (hk:aI [aC,sF] ⟨dx 8 t.2.1,[a],t::ts,T0.length+a.size⟩ (bW K) E) :
  Calls Tryz.prog 151 #[.pointer (some ⟨b,0,none⟩),.int .i64 (p:Int)] w (aH b O T0 (RK K E) w):=by
 have hO :∀k,O k→k<w.heap.size:=fun k hk=>(hp.own k hk).2
 have wh:b<w.heap.size:=hO b hp.at_;have YZ:=hp.below (aX w (.cells #[.int .i64 (p:Int)] 3));have HPV:aN ((w.alloc (.cells #[.int .i64 (p:Int)] 3)).alloc (.cells #[aZ 40 b,aZ 179 b] 122)) b (fun k=>O k∨k=w.heap.size) (.slice (some ⟨w.heap.size+1,0,none⟩) 2 2) [aC,sF] :=
  aN.xK (w.heap.size+1) (by simp) (fun k hk=>by rcases hk with hk|rfl;have:=hO k hk;simp;omega;simp) [aZ 40 b,aZ 179 b] [aC,sF] (by simp) ⟨bb _ b _,LQ.part (enters_of Tryz.func179 (by kernel_rfl) rfl) _ b _,trivial⟩
 have hg2:((w.alloc (.cells #[.int .i64 (p:Int)] 3)).alloc (.cells #[aZ 40 b,aZ 179 b] 122)).heap[w.heap.size]? = some (.cells #[.int .i64 (p:Int)] 3 (0,0)):=((aX _ _).block w.heap.size (by simp)).trans (World.alloc_heap_new w _)
 have HN:=aa (Al _ w.heap.size p a (YZ.below (aX _ (.cells #[aZ 40 b,aZ 179 b] 122))) hg2 (fun h=>by have:=hO _ h;omega) (by omega) hl (mo 8) rfl _ _ HPV hk)
 have HF:Hid (ay O w ((w.alloc (.cells #[.int .i64 (p:Int)] 3)).alloc (.cells #[aZ 40 b,aZ 179 b] 122))):=aa (((ay.refl O w).alloc _).alloc _);clear hp hl hk YZ HPV hg2 hO;go_enter Tryz.func151,Tryz.ntmps151
 go_wp2_with fail
 refine HN.out.mono ?_;intro e wz hz;obtain⟨v,er,rfl⟩:=hz.ret;have HZ:=aa hz;clear hz;go_wp2_with fail
 go_ret2
 exact Hx HZ.out HF.out fun k hk=>hk.imp id fun h=>by omega
def Hy (bd:cg):cg:=fun s K E=>s.xs=[]∧∃t ts,s.ts=t::ts∧t.1≠0∧dO (mo 7) [cS] ts s.n (fun a fC=>∃m,wq m a fC s.n (fun a2 self il =>
 aI [eo,dw (dO ⟨11,t.2.1,0,0,⟨#[]⟩,self,[]⟩ [bd])] ⟨s.h,[a2],il,s.n+Ast.ak [a2]⟩ K E) E) E
set_option maxRecDepth 40000 in
theorem C8 {bd:cg} (CW:ey 152 bd):ey 95 (Hy bd):=by
 rintro b n O T0 ⟨sh,Y0,oL,sn⟩ K E w hr ⟨hx,t,ts,jc,RY,u,us,lu,hus,hlu,hk⟩;obtain⟨Op,On,T,ks,hO,hd,hp,hn,hl,hc⟩:=hr.ex;dsimp only at hx jc hk hp hn hl hc hus hlu
 subst hx jc hus;obtain rfl:lu=u.2.1:=hlu.elim (fun h=>h.2) (fun h=>absurd rfl h.1)
 obtain⟨rfl,rfl⟩:=hl.same;subst hc;obtain⟨t0,t1,t2,t3⟩:=t;have HA:=aa (cH b Op (t0,t1,t2,t3) (u::us) T w hp);unfold fQ at HA;dsimp only at HA hk RY
 have F9:=Lo t0 t1 t2 (bC t3);have wh:b<w.heap.size:=(hp.own b hp.at_).2;have Y3:n<w.heap.size:=(hn.own n hn.at_).2;have CO:b<n:=(hn.own n hn.at_).1;have HN0:=aa hn;have HP0:=aa hp;have HO:=aa hO;have HD:=aa hd;have BM:=aa hn.at_;have HK:=aa hk;have HT0:=aa RY;clear hp hk hr hn hO hd hl hlu RY;go_enter Tryz.func95,Tryz.ntmps95
 go_wp2_with fail
 refine HA.out.mono ?_;rintro e wa ⟨rfl,b1⟩;have p1:=HP0.out.below b1;obtain⟨i,hi,ci,fi,_⟩:=p1.place;have hbwa:b<wa.heap.size:=cL wh b1.size;have hnwa:n<wa.heap.size:=cL Y3 b1.size;have p2:=p1.step HT0.out ci;have f2:=p1.fr 1 (.int .i64 ((i+1:Nat):Int));obtain⟨wf,xZ⟩ :∃wf,wf=(wa.setCell ⟨b,1,none⟩ (.int .i64 ((i:Int)+1))).alloc (.cells #[.int .i64 11,.int .i64 t1,.int .i64 0,.int .i64 0,.string ⟨#[]⟩,.slice none 0 0,.slice none 0 0] 55):=⟨_,rfl⟩;have pf:PS wf b Op (u::us) T:=by rw[xZ];exact p2.below (aX _ _)
 have hzf:wa.heap.size+1=wf.heap.size:=by rw[xZ];simp
 have fp:ay Op w wf:=by
  rw[xZ];exact((ay.ae (O:=Op) b1).trans (p1.fr 1 (.int .i64 ((i:Int)+1))) (fun k hk=>.inl (hk▸p1.at_))).alloc _
 have WC :∀k,Op k→O k:=fun k hk=>(HO.out k).2 (.inl hk)
 have bf:eI wf Op wa.heap.size #[.int .i64 11,.int .i64 t1,.int .i64 0,.int .i64 0,.string ⟨#[]⟩,.slice none 0 0,.slice none 0 0] 55:=by
  rw[xZ,show wa.heap.size=(wa.setCell ⟨b,1,none⟩ (.int .i64 ((i:Int)+1))).heap.size by simp]
  exact eI.new _ Op (fun k hk=>(p2.own k hk).2) _ 55
 have nf:=HN0.out.kept fp (fun k hk h=>HD.out k h hk)
 have HKF:aI [cS] ⟨{ mo 7 with line:=u.2.1},[],u::us,T.length⟩ (bW fun a fC=>∃m,wq m a fC T.length (fun a2 self il=>aI [eo,dw (dO ⟨11,t1,0,0,⟨#[]⟩,self,[]⟩ [bd])] ⟨sh,[a2],il,T.length+Ast.ak [a2]⟩ K E) E) E:=HK.out
 have Jv:=aa (pY wf wf (wa.heap.size+1) hzf pf (ay.refl Op wf) (mo 7) rfl [aZ 88 b] [cS] (by simp) ⟨gW wf b Op,trivial⟩ HKF)
 have FP:=aa fp;have BF:=aa bf;have NF:=aa nf;have Ug:=aa WC;have HZF:=aa hzf;have HNW:=aa HN0.out.own;have HWA:Hid (w.heap.size≤wa.heap.size):=aa b1.size;rw[xZ] at Jv;have HWF:=aa xZ;clear xZ hzf;clear pf fp bf nf WC p1 p2 f2 b1 HKF;have hne1:wa.heap.size≠n:=by omega
 have abV:wa.heap.size≠b:=by omega
 go_wp2_with fail
 refine Jv.out.mono ?_;intro e w3 h3;rw[←HWF.out] at h3;clear Jv;have F3:=aa h3.1;rcases h3.2 with ⟨p,a,fC,O1,T1,rfl,p1,x1,l1,k1⟩ | ⟨le,v,er,rfl,⟨g',rfl,m2,m3⟩,k1⟩
 ·obtain⟨m,k1⟩:=k1
  have P1:=aa p1;have X1:=aa x1;have L1:=aa l1;have K1:=aa k1;clear h3 p1 x1 l1 k1;go_wp2_with fail
  go_loopg [6,7] (m+1) (fun z lv ev wr=>(∃(p:Nat) (a:Ast) (tr:List aj) (Or:Nat→Prop) (Tr:List Nd) (k:Nat),lv=.int .i64 (p:Int)∧ev=.nilIface∧z=k+1∧PS wr b Or tr Tr∧ay Op wf wr∧Ext Op Or wf∧ei T Tr [a] [(p:Int)]∧wq k a tr T.length (fun a2 self il=>aI [eo,dw (dO ⟨11,t1,0,0,⟨#[]⟩,self,[]⟩ [bd])] ⟨sh,[a2],il,T.length+Ast.ak [a2]⟩ K E) E) ∨
   (∃(le:Int) (g':Nat),ev=.iface 75 (.pointer (some ⟨g',0,none⟩))∧wf.heap.size≤g'∧wr.heap[g']? = some (.cells #[.int .i64 6,.int .i64 le] 81 (0,0))∧ay Op wf wr∧E le))
  case atStart=>exact .inl ⟨p,a,fC,O1,T1,m,rfl,rfl,rfl,P1.out,F3.out,X1.out,L1.out,K1.out⟩
  case round =>
   rcases hrel with ⟨p,a,tr,Or,Tr,k,rfl,rfl,rfl,pr,fr,xr,lr,kr⟩ | ⟨le,g',rfl,hg,m3,fr,ke⟩
   ·cases k with
    | zero=>exact kr.elim
    | succ k =>
     obtain⟨t9,r,rfl,RZ,cN⟩:=kr;have PR:=aa pr;have FR:=aa fr;have XR:=aa xr;have LR:=aa lr;have HW:=aa (fun(W:World) hW=>bQ b Or t9 r Tr W hW)
     have iZ:=aa (HW.out wr pr);clear pr fr xr lr F3 P1 X1 L1 K1;cases hq:av [46] t9 with
     | true =>
      have g1:((ag t9).toList == [46])=true:=ai (s:=[46]) (by decide) t9 hq
      have yS:=aa (RZ hq);clear RZ cN hq HW;generalize ag t9=Y at *;go_wp2_with fail
      refine iZ.out.mono ?_;rintro e w4 ⟨rfl,b4⟩;have F4:=aa (FR.out.trans (ay.ae (O:=Or) b4) XR.out);have WV:=aa (Ar b Or t9 r T Tr p a _ E w4 (PR.out.below b4) LR.out yS.out);clear b4;go_wp2_with fail
      refine WV.out.mono ?_;intro e w5 h5;have F5:=aa (F4.out.trans h5.1 XR.out);rcases h5.2 with ⟨p5,a5,WN,O5,T5,rfl,q5,x5,l5,k5⟩ | ⟨le,v,er,rfl,⟨g',rfl,m2,m3⟩,k5⟩
      ·have Q5:=aa q5
       have X5:=aa (XR.out.trans x5 F4.out.size);have L5:=aa l5;have K5:=aa k5;clear h5 q5 x5 l5 k5;go_wp2_with fail
       go_roundg (k+1)
       case measure=>omega
       case rel=>exact .inl ⟨p5,a5,WN,O5,T5,k,rfl,rfl,rfl,Q5.out,F5.out,X5.out,L5.out,K5.out⟩
      ·have M3:=aa m3
       have M2:=aa (aL F4.out.size m2);have K5:=aa k5;clear h5 m2 m3 k5;go_wp2_with fail
       go_roundg (k+1)
       case measure=>omega
       case rel=>exact .inr ⟨le,g',rfl,M2.out,M3.out,F5.out,K5.out⟩
     | false =>
      have g1:((ag t9).toList == [46])=false:=ai (s:=[46]) (by decide) t9 hq
      have cN:=cN hq;have HDr:Hid (∀k,Or k→¬ On k):=aa fun k hk h=>by
       rcases XR.out k hk with h1|h1
       ·exact HD.out k h1 h
       ·have:=(HNW.out k h).2;have:=FP.out.size;omega
      have XW:Hid (Ext Op Or w):=aa ((Ext.refl Op w).trans XR.out FP.out.size);cases oW:av [58] t9 with
      | true =>
       have g2:((ag t9).toList == [58])=true:=ai (s:=[58]) (by decide) t9 oW
       have yS:=aa (cN.1 oW);clear RZ cN hq oW;generalize ag t9=Y at *;go_wp2_with fail
       refine iZ.out.mono ?_;rintro e w4 ⟨rfl,b4⟩;have F4:=aa (FR.out.trans (ay.ae (O:=Or) b4) XR.out);have P4:=aa (PR.out.below b4);have lp:=aa (HW.out w4 P4.out);clear b4 HW iZ;go_wp2_with fail
       refine lp.out.mono ?_;rintro e w5 ⟨rfl,b5⟩;have f5:=F4.out.trans (ay.ae (O:=Or) b5) XR.out;have WW:=BF.out.later f5 (Ext.refl _ _);have q5:w5.cell? ⟨wa.heap.size,5,none⟩=some (.slice none 0 0):=WW.cell 5;have y5:w5.frozen? ⟨wa.heap.size,5,none⟩=false:=by simp[World.frozen?,WW.1]
       have hl5:wa.heap.size<w5.heap.size:=(aJ.1 WW.1).1;have f6:ay (fun k=>k=wa.heap.size) w5 ((w5.alloc (.cells #[.string ⟨#[115,101,108,102]⟩] 9)).setCell ⟨wa.heap.size,5,none⟩ (.slice (some ⟨w5.heap.size,0,none⟩) 1 1)):=((ay.refl _ w5).alloc _).trans (ay.vp ((aX w5 _).block _ hl5 |>.trans WW.1) (by decide) 5 _) (Ext.refl _ _)
       have Pv:=gV ((aX w5 (.cells #[.string ⟨#[115,101,108,102]⟩] 9)).block _ hl5 |>.trans WW.1) (k:=5) (.slice (some ⟨w5.heap.size,0,none⟩) 1 1);have WE:((w5.alloc (.cells #[.string ⟨#[115,101,108,102]⟩] 9)).setCell ⟨wa.heap.size,5,none⟩ (.slice (some ⟨w5.heap.size,0,none⟩) 1 1)).heap[w5.heap.size]? = some (.cells #[.string ⟨#[115,101,108,102]⟩] 9 (0,0)):=(Below.heap_setCell _ _ _ _ (by show w5.heap.size≠wa.heap.size;omega)).trans (World.alloc_heap_new w5 _)
       rw[World.setCell_alloc_past _ _ _ _ hl5] at f6 Pv WE;obtain⟨w6,hw6⟩ :∃w6,w6=(w5.setCell ⟨wa.heap.size,5,none⟩ (.slice (some ⟨w5.heap.size,0,none⟩) 1 1)).alloc (.cells #[.string ⟨#[115,101,108,102]⟩] 9):=⟨_,rfl⟩;rw[←hw6] at f6 Pv WE;have hfb:¬ Or wa.heap.size:=fun h=>by
        rcases XR.out _ h with h1|h1
        ·exact WW.2 (by exact h1)
        ·have:=HZF.out;omega
       have p6:PS w6 b Or (t9::r) Tr:=(P4.out.below b5).kept f6 (fun k hk e=>hfb (e▸hk)) (fun k e=>by omega)
       have ach:b+1≤w5.heap.size:=by omega
       have aas:yP w6 b [bC vN] (.slice (some ⟨w5.heap.size,0,none⟩) 1 1):=⟨⟨rfl,.inr ⟨w5.heap.size,1,#[.string ⟨#[115,101,108,102]⟩],rfl,ach,WE,ah _,by unfold maxLen;omega,rfl,rfl⟩⟩,fun g hg=>⟨by
        have e1:g=w5.heap.size:=by simpa[Value.ownBlock] using hg.symm
        rw[e1];exact⟨_,_,WE⟩,by simp⟩⟩
       have P6:=aa p6;have F6s:=aa f6;have UB:=aa Pv;have NM6:=aa aas;have F5:=aa f5;have HFB:=aa hfb;have F6:=aa (((FP.out.trans f5 (Ext.refl _ _)).mono Ug.out).trans f6 (fun k (e:k=wa.heap.size)=>.inr (by have:=HWA.out;omega)))
       have N6:=aa ((NF.out.kept f5 fun k hk h=>HD.out k h hk).kept f6 (fun k hk (e:k=wa.heap.size)=>by have:=(HNW.out k hk).2;have:=HWA.out;omega))
       have WV:=aa (Ar b Or t9 r T Tr p a _ E w6 p6 LR.out yS.out);rw[hw6] at WV;have HW6:=aa hw6;clear b5 p6 f6 Pv WE aas f5 WW hfb hw6;go_wp2_with fail
       refine WV.out.mono ?_;intro e w7 h7;rw[←HW6.out] at h7;have F7:=aa (F6.out.trans (h7.1.mono (O1:=Or) fun _ h=>h) (fun k hk=>(XW.out k hk).imp (Ug.out k) id))
       have N7:=aa (N6.out.kept h7.1 fun k hk h=>HDr.out k h hk)
       have UC:Hid (eI w7 Or wa.heap.size #[.int .i64 11,.int .i64 t1,.int .i64 0,.int .i64 0,.string ⟨#[]⟩,.slice (some ⟨w5.heap.size,0,none⟩) 1 1,.slice none 0 0] 55):=aa ⟨(h7.1.block _ (aJ.1 UB.out).1 HFB.out).trans UB.out,HFB.out⟩;have NM7:=aa (NM6.out.later h7.1);rcases h7.2 with ⟨p8,a8,ts8,O8,T8,rfl,q8,x8,l8,k8⟩ | ⟨le,v,er,rfl,⟨g',rfl,m2,m3⟩,k8⟩
       ·have P8:=aa q8
        have L8:=aa l8;have K8:=aa k8;have X8:Hid (Ext Op O8 w):=aa (XW.out.trans x8 F6.out.size);have HD8:Hid (∀k,O8 k→¬ On k):=aa fun k hk h=>by
         rcases X8.out k hk with h1|h1
         ·exact HD.out k h1 h
         ·have:=(HNW.out k h).2;omega
        clear h7 q8 x8 l8 k8 q5 y5;obtain⟨v6,c6,z6,jz,f6,p6,r6⟩:=o9 P8.out N7.out HD8.out L8.out;have C9:T8.length=T.length+Ast.ak [a8]:=L8.out.len;rw[C9] at r6;obtain⟨O3,BO⟩ :∃O3:Nat→Prop,O3=fun k=>O8 k∨(On k∨k=w7.heap.size):=⟨_,rfl⟩
        rw[←BO] at r6;have X3:Hid (Ext O O3 w):=aa fun k hk=>by
         rw[BO] at hk;rcases hk with hk|hk|rfl
         ·exact(X8.out k hk).imp (fun h=>(HO.out k).2 (.inl h)) id
         ·exact .inl ((HO.out k).2 (.inr hk))
         ·exact .inr F7.out.size
        have f7:ay O w ((w7.alloc (.cells #[.int .i64 (p8:Int)] 3)).setCell ⟨n,6,none⟩ (.slice (some ⟨w7.heap.size,0,none⟩) 1 1)):=F7.out.trans f6 fun k hk=>.inl ((HO.out k).2 (.inr hk))
        rw[World.setCell_alloc_past _ _ _ _ jz] at r6 f7;obtain⟨nv1,kv1,yd,_,hz1⟩:=N7.out.cells;have d6:=yd.c6;have y6:=hz1 6;have aci:wa.heap.size≠n:=by omega
        have acj:wa.heap.size<w7.heap.size:=(aJ.1 UC.out.1).1;have e0:=UC.out.cell 0;have e1:=UC.out.cell 1;have e2:=UC.out.cell 2;have e3:=UC.out.cell 3;have e4:=UC.out.cell 4;have e5:=UC.out.cell 5;have e6:=UC.out.cell 6;have HP7:=aN.xK (w:=(w7.setCell ⟨n,6,none⟩ (.slice (some ⟨w7.heap.size,0,none⟩) 1 1)).alloc (.cells #[.int .i64 (p8:Int)] 3)) (b:=b) (O:=O3) (w7.heap.size+1) (by simp) r6.lt [aZ 152 b] [bd] (by simp) ⟨CW.part (enters_of Tryz.func152 (by kernel_rfl) rfl) _ b O3,trivial⟩
        have MJ:yP (((w7.setCell ⟨n,6,none⟩ (.slice (some ⟨w7.heap.size,0,none⟩) 1 1)).alloc (.cells #[.int .i64 (p8:Int)] 3)).alloc (.cells #[aZ 152 b] 122)) b [bC vN] (.slice (some ⟨w5.heap.size,0,none⟩) 1 1):=(NM7.out.later (O:=On) (by rw[←World.setCell_alloc_past _ _ _ _ jz];exact f6)).later ((ay.refl On _).alloc _)
        have HH:=aa (qV b O3 ⟨11,t1,0,0,⟨#[]⟩,[bC vN],[]⟩ (.slice (some ⟨w5.heap.size,0,none⟩) 1 1) _ [bd] _ MJ HP7 (fun k hk=>by have:=r6.lt k hk;simp at this ⊢;omega))
        have R6:=aa r6;have F7:=aa f7;clear f6 p6 r6 f7 yd hz1 c6 z6 HP7 MJ BO C9;go_wp2_with fail
        refine HH.out.mono ?_;rintro e w8 ⟨v,rfl,b8,h8,fi,fa,fc,rfl⟩;have B8:=aa (aB (aX _ _) b8);have HN:=aa (jf w w8 (R6.out.below B8.out) (F7.out.trans (ay.ae (O:=O3) B8.out) X3.out) X3.out [.func (.func 150) #[] #[],.func (.func fi) fa fc] [eo,dw (dO ⟨11,t1,0,0,⟨#[]⟩,[bC vN],[]⟩ [bd])] (by simp) ⟨jC w8 b O3,h8,trivial⟩ K8.out)
        clear b8 h8;go_wp2_with fail
        refine HN.out.mono ?_;intro e wz hz;obtain⟨v,rfl⟩:=hz.ret;have HZ:=aa hz;clear hz;go_wp2_with fail
        go_ret
        exact HZ.out
       ·have M3:=aa m3
        have M2:=aa (aL F6.out.size m2);have K8:=aa k8;clear h7 m2 m3 k8 q5 y5;go_wp2_with fail
        go_ret
        exact⟨F7.out,.inr ⟨le,_,rfl,⟨g',rfl,M2.out,M3.out⟩,K8.out⟩⟩
      | false =>
       have g2:((ag t9).toList == [58])=false:=ai (s:=[58]) (by decide) t9 oW
       have yS:=aa (cN.2 oW);clear RZ cN hq oW;generalize ag t9=Y at *;go_wp2_with fail
       refine iZ.out.mono ?_;rintro e w4 ⟨rfl,b4⟩;have F4:=aa (FR.out.trans (ay.ae (O:=Or) b4) XR.out);have P4:=aa (PR.out.below b4);have lp:=aa (HW.out w4 P4.out);clear b4 HW iZ;go_wp2_with fail
       refine lp.out.mono ?_;rintro e w5 ⟨rfl,b5⟩;have f5:=F4.out.trans (ay.ae (O:=Or) b5) XR.out;have P5:=aa (P4.out.below b5);have F5:=aa (FP.out.trans f5 (Ext.refl _ _) |>.mono Ug.out);have N5:=aa (NF.out.kept f5 fun k hk h=>HD.out k h hk)
       have UD:=aa (BF.out.later f5 (Ext.refl _ _));have NM5:Hid (yP w5 b [] (.slice none 0 0)):=aa (yP.nil w5 b);clear b5 f5;obtain⟨v6,c6,z6,jz,f6,p6,r6⟩:=o9 P5.out N5.out HDr.out LR.out;have C9:Tr.length=T.length+Ast.ak [a]:=LR.out.len;rw[C9] at r6;obtain⟨O3,BO⟩ :∃O3:Nat→Prop,O3=fun k=>Or k∨(On k∨k=w5.heap.size):=⟨_,rfl⟩
       rw[←BO] at r6;have X3:Hid (Ext O O3 w):=aa fun k hk=>by
        rw[BO] at hk;rcases hk with hk|hk|rfl
        ·exact(XW.out k hk).imp (fun h=>(HO.out k).2 (.inl h)) id
        ·exact .inl ((HO.out k).2 (.inr hk))
        ·exact .inr F5.out.size
       have f7:ay O w ((w5.alloc (.cells #[.int .i64 (p:Int)] 3)).setCell ⟨n,6,none⟩ (.slice (some ⟨w5.heap.size,0,none⟩) 1 1)):=F5.out.trans f6 fun k hk=>.inl ((HO.out k).2 (.inr hk))
       rw[World.setCell_alloc_past _ _ _ _ jz] at r6 f7;obtain⟨nv1,kv1,yd,_,hz1⟩:=N5.out.cells;have d6:=yd.c6;have y6:=hz1 6;have aci:wa.heap.size≠n:=by omega
       have acj:wa.heap.size<w5.heap.size:=(aJ.1 UD.out.1).1;have e0:=UD.out.cell 0;have e1:=UD.out.cell 1;have e2:=UD.out.cell 2;have e3:=UD.out.cell 3;have e4:=UD.out.cell 4;have e5:=UD.out.cell 5;have e6:=UD.out.cell 6;have HP7:=aN.xK (w:=(w5.setCell ⟨n,6,none⟩ (.slice (some ⟨w5.heap.size,0,none⟩) 1 1)).alloc (.cells #[.int .i64 (p:Int)] 3)) (b:=b) (O:=O3) (w5.heap.size+1) (by simp) r6.lt [aZ 152 b] [bd] (by simp) ⟨CW.part (enters_of Tryz.func152 (by kernel_rfl) rfl) _ b O3,trivial⟩
       have MJ:yP (((w5.setCell ⟨n,6,none⟩ (.slice (some ⟨w5.heap.size,0,none⟩) 1 1)).alloc (.cells #[.int .i64 (p:Int)] 3)).alloc (.cells #[aZ 152 b] 122)) b [] (.slice none 0 0):=(NM5.out.later (O:=On) (by rw[←World.setCell_alloc_past _ _ _ _ jz];exact f6)).later ((ay.refl On _).alloc _)
       have HH:=aa (qV b O3 ⟨11,t1,0,0,⟨#[]⟩,[],[]⟩ (.slice none 0 0) _ [bd] _ MJ HP7 (fun k hk=>by have:=r6.lt k hk;simp at this ⊢;omega))
       have R6:=aa r6;have F7:=aa f7;clear f6 p6 r6 f7 yd hz1 c6 z6 HP7 MJ BO C9;go_wp2_with fail
       refine HH.out.mono ?_;rintro e w8 ⟨v,rfl,b8,h8,fi,fa,fc,rfl⟩;have B8:=aa (aB (aX _ _) b8);have HN:=aa (jf w w8 (R6.out.below B8.out) (F7.out.trans (ay.ae (O:=O3) B8.out) X3.out) X3.out [.func (.func 150) #[] #[],.func (.func fi) fa fc] [eo,dw (dO ⟨11,t1,0,0,⟨#[]⟩,[],[]⟩ [bd])] (by simp) ⟨jC w8 b O3,h8,trivial⟩ yS.out)
       clear b8 h8;go_wp2_with fail
       refine HN.out.mono ?_;intro e wz hz;obtain⟨v,rfl⟩:=hz.ret;have HZ:=aa hz;clear hz;go_wp2_with fail
       go_ret
       exact HZ.out
   ·have M3:=aa m3
    have HG:=aa hg;have FR:=aa fr;have KE:=aa ke;clear m3 hg fr ke;go_wp2_with fail
    go_ret
    exact⟨(FP.out.trans FR.out (Ext.refl _ _)).mono Ug.out,.inr ⟨le,_,rfl,⟨g',rfl,aL FP.out.size HG.out,M3.out⟩,KE.out⟩⟩
 ·have M3:=aa m3
  have M2:=aa m2;have K1:=aa k1;clear h3 m2 m3 k1;go_wp2_with fail
  go_loopg [6,7] 1 (fun _ lv ev wr=>lv=v∧ev=.iface 75 (.pointer (some ⟨g',0,none⟩))∧wr=w3)
  case atStart=>exact⟨rfl,rfl,rfl⟩
  case round =>
   obtain⟨rfl,rfl,rfl⟩:=hrel;go_wp2_with fail
   go_ret
   exact⟨(FP.out.trans F3.out (Ext.refl _ _)).mono Ug.out,.inr ⟨le,_,rfl,⟨g',rfl,aL FP.out.size M2.out,M3.out⟩,K1.out⟩⟩
end Go.Proofs.YteflkdlaoiijbaaGreatDoor
namespace Go.Proofs.YteflkdlaoiijbaaGreatDoor
open Go.RowKit
section
variable {α:Type} {K:α→List aj→Prop} {E:Int→Prop}
theorem Gw.R9 {n:NT} {k:VT n→GL α} {ts:List aj} (H:Gw (bN n) ts (fun v ax=>Gw (k v) ax K E) E):Gw (.call n k) ts K E :=
 ⟨fun a il p=>by
  cases p with
  | call h1 h2=>exact(H.1 _ _ h1).1 _ _ h2,fun l p=>by
  cases p with
  | call h1 h2=>exact(H.1 _ _ h1).2 _ h2
  | ie h1=>exact H.2 _ h1⟩
theorem Gw.WX {a:α} {ts:List aj} (h:K a ts):Gw (.ret a) ts K E:=⟨fun a' ax p=>by cases p;exact h,fun l p=>by cases p⟩
end
theorem Rm.up {N k:Nat} {s:St} (h:Rm N k s):Rm (N+1) k s:=⟨by have:=h.len;omega,h.n,h.xs,h.wf⟩
theorem ey.of {f:FuncId} {wp wp':cg} (h:ey f wp) (hc :∀s K E,Fin s.ts→wp' s K E→wp s K E):ey f wp':=fun b n O T0 s K E W hr hk=>h b n O T0 s K E W hr (hc s K E (by
 obtain⟨Op,T,hp⟩:=hr.ps;exact hp.fin) hk)
theorem oY.of {f:FuncId} {wp wp':iM} (h:oY f wp) (hc :∀ts n K E,Fin ts→wp' ts n K E→wp ts n K E):oY f wp':=fun b O ts T K E W hp hk=>h b O ts T K E W hp (hc ts _ K E hp.fin hk)
theorem qZ.of {f:FuncId} {l:Int} {wp wp':iM} (h:qZ f l wp) (hc :∀ts n K E,Fin ts→wp' ts n K E→wp ts n K E):qZ f l wp':=fun b O ts T K E W hp hk=>h b O ts T K E W hp (hc ts _ K E hp.fin hk)
def Sa:iM:=fun _ _ _ _=>False
def UE:cg:=fun _ _ _=>False
theorem WY (f:FuncId):oY f Sa:=fun _ _ _ _ _ _ _ _ h=>h.elim
theorem Sb (f:FuncId) (l:Int):qZ f l Sa:=fun _ _ _ _ _ _ _ _ h=>h.elim
theorem WZ (f:FuncId):ey f UE:=fun _ _ _ _ _ _ _ _ _ h=>h.elim
def W8 (rt:Int→iM) (bd it:cg) (sf:iM):iM:=fun ts n K E=>∃t r,ts=t::r∧(t.1=3→aI [aC] ⟨⟨4,t.2.1,0,t.2.2.1,⟨#[]⟩,[],[]⟩,[],t::r,n⟩ (bW K) E) ∧
 (t.1≠3→t.1=4→aI [aC] ⟨⟨5,t.2.1,0,0,bC t.2.2.2,[],[]⟩,[],t::r,n⟩ (bW K) E) ∧
 (t.1≠3→t.1≠4→e7 t≠0→aI [aC,dw (rt (e7 t))] ⟨⟨13,t.2.1,e7 t,0,⟨#[]⟩,[],[]⟩,[],t::r,n⟩ (bW K) E) ∧
 (av sx t=true→aI [aC] ⟨dx 1 t.2.1,[],t::r,n⟩ (bW K) E)∧(av mz t=true→aI [aC] ⟨dx 2 t.2.1,[],t::r,n⟩ (bW K) E) ∧
 (av kg t=true→aI [aC] ⟨dx 3 t.2.1,[],t::r,n⟩ (bW K) E)∧(av [46,46,46] t=true→aI [aC] ⟨dx 6 t.2.1,[],t::r,n⟩ (bW K) E) ∧
 (av ba t=true→aI [aC,bd] ⟨dx 11 t.2.1,[],t::r,n⟩ (bW K) E)∧(av [123] t=true→aI [aC,dC [125] it,au [[125]]] ⟨dx 15 t.2.1,[],t::r,n⟩ (bW K) E) ∧
 (Mo t→sf (t::r) n K E)
theorem wE {rt:Int→iM} {bd it:cg} {sf:iM} (hR :∀op,20≤op→op≤23→qZ 178 (vt op) (rt op)) (CW:ey 152 bd) (G8:ey 235 it) (hS:oY 153 sf):oY 204 (W8 rt bd it sf):=by
 rintro b O ts T K E w hp ⟨t,r,rfl,h1,h2,h3,h4,h5,h6,h7,h8,h9,h10⟩;by_cases a1:t.1=3
 ·exact RD b O t r T K E w hp a1 (h1 a1)
 by_cases a2:t.1=4
 ·exact RE b O t r T K E w hp a1 a2 (h2 a1 a2)
 by_cases a3:e7 t≠0
 ·exact RF hR b O t r T K E w hp a1 a2 a3 (h3 a1 a2 a3)
 cases a4:av sx t with
 | true=>exact RG b O t r T K E w hp a4 (h4 a4)
 | false =>
 cases a5:av mz t with
 | true=>exact Mm b O t r T K E w hp a5 (h5 a5)
 | false =>
 cases a6:av kg t with
 | true=>exact Hm b O t r T K E w hp a6 (h6 a6)
 | false =>
 cases a7:av [46,46,46] t with
 | true=>exact Mn b O t r T K E w hp a7 (h7 a7)
 | false =>
 cases a8:av ba t with
 | true=>exact yb CW b O t r T K E w hp a8 (h8 a8)
 | false =>
 cases a9:av [123] t with
 | true=>exact RH G8 b O t r T K E w hp a9 (h9 a9)
 | false =>
  have hq:Mo t:=⟨a1,a2,by simpa using a3,a4,a5,a6,a7,a8,a9⟩
  exact RI hS b O t r T K E w hp hq (h10 hq)
section
variable {K:Ast→List aj→Prop} {E:Int→Prop} {K':St→Prop} {N k n:Nat} {h:Nd} {xs:List Ast} {t:aj} {ts:List aj}
theorem gY {s:List UInt8} (hs:s≠[45]∧s≠[126]∧s≠Cc∧s≠[35]) (h:av s t=true):lA t=none:=by
 unfold lA;rw[bn h (Ne.symm hs.1),bn h (Ne.symm hs.2.1),bn h (Ne.symm hs.2.2.1),bn h (Ne.symm hs.2.2.2)];rfl
theorem aat (hI:Rm (N+1) k ⟨h,[],t::ts,n⟩) (H:Gw Hq (t::ts) K E):W8 (rtP N) (wo N) (yc N) (rZ (N+1) CP) (t::ts) n K E:=by
 have G0:=Gw.look H;have GN:lA t=none→Gw (bN .TX:GL Ast) (t::ts) K E:=fun ho=>by
  rw[ho] at G0;exact(Gw.call G0).mono fun v ax _ hv=>hv.2.ret
 have no :∀{s s':List UInt8},av s t=true→s'≠s→¬ av s' t=true:=fun h1 h2=>aU h1 h2
 have nk:t.1≠2→t.1≠5→∀s:List UInt8,¬ av s t=true:=fun h1 h2 s=>by simp[av,h1,h2]
 refine⟨t,ts,rfl,fun ht=>?_,fun _ ht=>?_,fun h3 h4 hu=>?_,fun hw=>?_,fun hw=>?_,fun hw=>?_,fun hw=>?_,fun hw=>?_,fun hw=>?_,fun hq=>?_⟩
 ·have G:=Gw.look (GN (ug (by omega) (by omega)))
  have nn:=nk (by omega) (by omega)
  have G2:=((((((G.neg (nn _)).neg (nn _)).neg (nn _)).neg (nn _)).neg (nn _)).neg (nn _)).pos ht;exact cU hI.hd (by omega) fun hI=>cy hI G2.tok.ret
 ·have G:=Gw.look (GN (ug (by omega) (by omega)))
  have nn:=nk (by omega) (by omega)
  have G2:=(((((((G.neg (nn _)).neg (nn _)).neg (nn _)).neg (nn _)).neg (nn _)).neg (nn _)).neg (by omega)).pos ht
  exact cU hI.hd (by omega) fun hI=>cy hI G2.tok.ret
 ·cases ho:lA t with
  | none=>exact absurd (by unfold e7;rw[ho]) hu
  | some o =>
   rw[ho] at G0;have hun:e7 t=o:=by unfold e7;rw[ho]
   have hr:=xN ho;have hb:vt o=11:=by
    have h9:o=20∨o=21∨o=22∨o=23:=by omega
    rcases h9 with h|h|h|h<;>(rw[h];decide)
   rw[hun];refine cU hI.hd (Es ho) fun hI=>?_
   show dw (rZ N (qX (vt o+1).toNat)) _ _ _
   rw[hb];have G1:=Gw.call (Gw.tok G0);refine jF (by simp) ⟨hI.len,by have:=hI.n;dsimp only at *;omega,hI.wf.yQ,⟨fun(a:Ast) ax p=>nh.mk ?_,fun l p=>G1.2 l (Uw p)⟩⟩
   have hq:=G1.1 a ax (Uw p);have hz:a.size+2*ax.length+1≤2*ts.length:=hq.1;exact⟨by have:=hI.n;show n+Ast.ak [a]≤_;rw[tX];dsimp only at this;omega,hq.2.ret⟩
 ·have G:=Gw.look (GN (gY (by decide) hw))
  exact cU hI.hd (aW hw) fun hI=>cy hI (G.pos hw).tok.ret
 ·have G:=Gw.look (GN (gY (by decide) hw))
  exact cU hI.hd (aW hw) fun hI=>cy hI ((G.neg (no hw (by decide))).pos hw).tok.ret
 ·have G:=Gw.look (GN (gY (by decide) hw))
  exact cU hI.hd (aW hw) fun hI=>cy hI (((G.neg (no hw (by decide))).neg (no hw (by decide))).pos hw).tok.ret
 ·have G:=Gw.look (GN (gY (by decide) hw))
  exact cU hI.hd (aW hw) fun hI=>cy hI ((((G.neg (no hw (by decide))).neg (no hw (by decide))).neg (no hw (by decide))).pos hw).tok.ret
 ·have G:=Gw.look (GN (gY (by decide) hw))
  have G2:=(Gw.call (((((G.neg (no hw (by decide))).neg (no hw (by decide))).neg (no hw (by decide))).neg (no hw (by decide))).pos hw).tok).mono (K':=K) fun v ax _ hv=>hv.2.ret
  exact cU (hI.hd (h':=dx 11 t.2.1)) (aW hw) fun hI=>LJ hI (by simp) G2
 ·have G:=Gw.look (GN (gY (by decide) hw))
  have G2:=((((((G.neg (no hw (by decide))).neg (no hw (by decide))).neg (no hw (by decide))).neg (no hw (by decide))).neg (no hw (by decide))).pos hw).tok
  exact cU (hI.hd (h':=dx 15 t.2.1)) (aW hw) fun hI=>Mu hI G2
 ·have ho:lA t=none:=by
   cases ho:lA t with
   | none=>rfl
   | some o =>
    have h1:=hq.un;have h2:=xN ho;unfold e7 at h1;rw[ho] at h1;dsimp only at h1
    omega
  have G:=Gw.look (GN ho);have G2:=(((((((G.neg (by simp[hq.a])).neg (by simp[hq.b])).neg (by simp[hq.c])).neg (by simp[hq.d])).neg (by simp[hq.e])).neg (by simp[hq.f])).neg hq.n3).neg hq.n4
  exact⟨hI.len,by have:=hI.n;dsimp only at *;omega,hI.wf.yQ,(Gw.call G2).mono fun v ax _ hv=>hv.2.ret⟩
theorem aau {s:Nat} {l:Int} (hs:l+1=(s:Int)) (hl0:0≤l) (hf:Fin ts) (H:rZ (N+1) (qX s) ts n K E):rZ (N+1) Hq ts n (fun a fC=>∃m,Aj (rtP N) l m a fC n K E) E:=by
 obtain⟨h1,h2,h3,h4⟩:=H;refine⟨h1,h2,h3,(Gw.call h4).mono fun(a:Ast) fC p hq=>⟨fC.length+1,?_⟩⟩
 have hz:a.size+2*fC.length+1≤2*ts.length:=hq.1;have ha:=size_pos a;exact WQ hs hl0 (fC.length+1) fC a 0 (dz _) ⟨by dsimp only;omega,by dsimp only;omega,by simp only[List.length_cons,List.length_nil];omega,p.wf ⟨hf,h3⟩⟩ ((Gw.call hq.2).mono fun v ax _ hv=>hv.2.ret)
end
end Go.Proofs.YteflkdlaoiijbaaGreatDoor
namespace Go.Proofs.YteflkdlaoiijbaaGreatDoor
open Go.RowKit
def aav (N:Nat):iM:=W8 (fun _=>Sa) UE (yc N) Sa
def As (N:Nat):cg:=aak (aav N) (ng N)
abbrev aaw:GL (List Ast):=bN .arg
section
variable {K:Ast→List aj→Prop} {E:Int→Prop} {K':St→Prop} {N k n:Nat} {h:Nd} {xs:List Ast} {t:aj} {ts:List aj}
theorem MK {kk:List Ast→GL Ast} (hI:Rm (N+1) k ⟨h,xs,ts,n⟩) (H:Gw (.call .arg kk) ts K E)
  (hk :∀(l:List Ast) (ax:List aj),Rm (N+1) (k+1) ⟨h,xs++l,ax,n+Ast.ak l⟩→ax.length<ts.length→Gw (kk l) ax K E→K' ⟨h,xs++l,ax,n+Ast.ak l⟩):As N ⟨h,xs,ts,n⟩ K' E:=by
 obtain⟨t,r,jc⟩:=hI.cons;dsimp only at jc
 subst jc;have hn:=hI.n;have hx:=hI.xs;dsimp only at hn hx
 have G0:=Gw.call H;have ack :∀(l:List Ast) (ax:List aj),PL aaw (t::r) (.ok (l,ax))→xO .arg (t::r).length l ax.length∧Gw (kk l) ax K E→K' ⟨h,xs++l,ax,n+Ast.ak l⟩:=fun l ax p hq=>by
  have hz:Ast.ak l+2*ax.length+1≤2*(t::r).length:=hq.1;exact hk l ax (hI.kids (by omega) (PL.short (n:=.arg) p) (PL.wf (n:=.arg) p hI.wf)) (by omega) hq.2
 have G1:Gw aaw (t::r) (fun l ax=>K' ⟨h,xs++l,ax,n+Ast.ak l⟩∧Ast.ak l+2*ax.length+1≤2*(t::r).length) E:=G0.mono fun l ax p hq=>⟨ack l ax p hq,hq.1⟩
 have G2:=Gw.look G1;refine⟨t,r,rfl,fun hc=>?_,fun h4 hw=>?_⟩
 ·refine jF (by dsimp only;omega) ⟨t,r,rfl,fun ht=>?_,fun _ ht=>?_,fun h3 h4 hu=>?_,fun hw=>?_,fun hw=>?_,fun hw=>?_,fun hw=>?_,fun hw=>?_,fun hw=>?_,fun hq=>?_⟩
  ·exact hc.elim (fun h=>absurd h (by omega)) fun h=>absurd ht (o7 h)
  ·have G3:=(G2.pos ht).tok.ret
   refine⟨t,r,rfl,by omega,⟨?_,nh.mk G3.1⟩⟩
   dsimp only
   omega
  ·exact absurd (hc.elim (fun h=>absurd h h4) fun h=>by unfold e7;rw[gY (by decide) h]) hu
  ·exact hc.elim (fun h=>absurd h (iS hw)) fun h=>absurd hw (aU h (by decide))
  ·exact hc.elim (fun h=>absurd h (iS hw)) fun h=>absurd hw (aU h (by decide))
  ·exact hc.elim (fun h=>absurd h (iS hw)) fun h=>absurd hw (aU h (by decide))
  ·exact hc.elim (fun h=>absurd h (iS hw)) fun h=>absurd hw (aU h (by decide))
  ·exact hc.elim (fun h=>absurd h (iS hw)) fun h=>absurd hw (aU h (by decide))
  ·have G3:=((G2.neg (iS hw)).pos hw).tok
   have acm:Rm (N+1) k ⟨dx 15 t.2.1,[],t::r,n⟩:=⟨hI.len,hI.n,by have:=hI.xs;simp only[List.length_nil];dsimp only at this;omega,hI.wf⟩
   refine cU acm (aW hw) fun hI=>Mu hI (Gw.R9 ((Gw.call G3).mono fun(l:List Ast) ax _ hq=>Gw.WX (nh.mk hq.2.ret.1)))
  ·exact hc.elim (fun h=>(hq.n4 h).elim) fun h=>by rw[hq.f] at h;exact(fV h).elim
 ·have G3:=(G2.neg h4).neg (by simp[hw])
  refine⟨t,r,rfl,fun hp=>?_,G3.want.2⟩
  have n7:Rm N (k+2) ⟨h,xs,r,n⟩:=hI.WG (aW hp);have G4:=G3.want.1 hp;obtain⟨u,us,jc⟩:=n7.cons;dsimp only at jc
  subst jc;have G5:=G4.look;refine(show aI [dC [41] (ng N),au [[41]]] ⟨h,xs,u::us,n⟩ K' E from⟨u,us,rfl,fun hr=>?_,fun hr=>?_⟩)
  ·have G6:=(G5.pos hr).tok.ret
   rw[iX,cE,Nat.add_zero] at G6;exact(show au [[41]] _ _ _ from⟨u,us,rfl,fun _=>G6.1,fun hr2=>by rw[hr] at hr2;exact(fV hr2.symm).elim⟩)
  ·have G6:=G5.neg (by simp[hr])
   have G7:=Gw.call G6;have qS:=n7.n;have hx2:=n7.xs;dsimp only at qS hx2
   refine⟨by dsimp only;omega,(u::us).length+1,by omega,?_⟩
   refine EA _ ((u::us).length+1) (u::us) n [] (dz _) n7.len (by omega) n7.wf (G7.mono fun(l:List Ast) ax p hq=>?_)
   obtain⟨v,vs,rfl⟩:=(PL.wf (n:=.Cd) p n7.wf).fin.cons;have oW:=hq.2.want;exact(show au [[41]] _ _ _ from⟨v,vs,rfl,fun hr=>(oW.1 hr).ret.1,oW.2⟩)
theorem Xa :∀(m:Nat) (ts:List aj) (a:Ast) (k:Nat),ts.length<m→Rm (N+1) k ⟨dx 0 0,[a],ts,n+a.size⟩→Gw (bN (.aR a):GL Ast) ts K E→uf (n0 N) (As N) m a ts n K E:=by
 intro m;induction m with
 | zero=>intro ts a k h;omega
 | succ m ih =>
  intro ts a k h1 hI H;obtain⟨t,r,rfl⟩:=hI.wf.fin.cons;have G:=Gw.look H;have fin :∀{j:Nat} (h0:Nd) (ys:List Ast) (il:List aj) (y:Ast),Rm (N+1) j ⟨h0,[a]++ys,il,n+a.size+Ast.ak ys⟩→1≤j→il.length≤r.length→y.size=Ast.ak ([a]++ys)+1→Gw (.call (.aR y) fun(z:Ast)=>.ret z:GL Ast) il K E→y=.mk h0 ([a]++ys)→(bW fun a' ax=>uf (n0 N) (As N) m a' ax n K E) ⟨h0,[a]++ys,il,n+a.size+Ast.ak ys⟩:=fun{j} h0 ys il y hI hj hl hy G e=>by
   have hn:=hI.n;have hx:=hI.xs;dsimp only at hn hx
   refine⟨by dsimp only;omega,?_⟩
   have G3:=(Gw.call G).mono (K':=K) fun v il _ hv=>hv.2.ret
   rw[eZ,tX] at hy;have:=ih il y 0 (by simp at h1;omega) ⟨hI.len,by dsimp only;omega,by simp only[cC,List.length_cons,List.length_nil] at *;omega,hI.wf⟩ G3
   rw[e] at this;exact this
  have YX :∀h',Rm (N+1) k ⟨h',[a],t::r,n+a.size⟩:=fun h'=>⟨hI.len,hI.n,hI.xs,hI.wf⟩
  refine⟨t,r,rfl,fun h0=>?_,fun h0=>?_⟩
  ·unfold jg at h0
   by_cases a1:av [46] t=true
   ·rw[al a1] at h0;exact absurd h0 (by decide)
   rw[af a1] at h0;by_cases a2:av [91] t=true
   ·rw[al a2] at h0;exact absurd h0 (by decide)
   rw[af a2] at h0;by_cases a3:av [58] t=true
   ·rw[al a3] at h0;exact absurd h0 (by decide)
   rw[af a3] at h0;by_cases a4:av [40] t=true
   ·rw[al a4] at h0;exact absurd h0 (by decide)
   rw[af a4] at h0;by_cases a5:av [123] t=true
   ·rw[al a5] at h0;exact absurd h0 (by decide)
   rw[af a5] at h0;by_cases a6:t.1=4
   ·rw[al a6] at h0;exact absurd h0 (by decide)
   exact((((G.neg a1).neg a2).neg a3).neg (by simp[a4,a5,a6])).ret
  ·have ML:(av [40] t || av [123] t || decide (t.1=4))=true→av [46] t=false→av [91] t=false→av [58] t=false→aI [As N] ⟨dx 9 t.2.1,[a],t::r,n+a.size⟩ (bW fun a' ax=>uf (n0 N) (As N) m a' ax n K E) E:=fun hc a1 a2 a3=>by
    have G2:=(((G.neg (by simp[a1])).neg (by simp[a2])).neg (by simp[a3])).pos hc
    exact MK (YX _) G2 fun l il hI hl G3=>fin (dx 9 t.2.1) l il _ hI (by omega) (by simp at hl;omega) (by show Ast.size (nd 9 t.2.1 (a::l))=_;rw[lH];rfl) G3 rfl
   unfold jg EG;by_cases a1:av [46] t=true
   ·rw[al a1,al a1]
    exact kT (YX _) (aW a1) fun hI=>CQ hI (G.pos a1).tok fun u r2 hI hl G3=>fin (dx 8 t.2.1) _ r2 _ hI (by omega) (by omega) (by show Ast.size (nd 8 t.2.1 _)=_;rw[lH];rfl) G3 rfl
   rw[af a1,af a1];by_cases a2:av [91] t=true
   ·rw[al a2,al a2]
    exact cU (YX _) (aW a2) fun hI=>fK hI ((G.neg a1).pos a2).tok fun e r2 hI hl G3=>cj hI G3 fun _ r3 hI Jw G3=>fin (dx 8 t.2.1) [e] r3 _ hI.up (by omega) (by omega) (by show Ast.size (nd 8 t.2.1 [a,e])=_;rw[lH];rfl) G3 rfl
   rw[af a2,af a2];by_cases a3:av [58] t=true
   ·rw[al a3,al a3]
    exact kT (YX (dx 10 t.2.1)) (aW a3) fun hI=>xY hI (((G.neg a1).neg a2).pos a3).tok fun u r2 hI hl G3=>MK hI G3 fun l r3 hI Jw G3=>fin ⟨10,t.2.1,0,0,bC u.2.2.2,[],[]⟩ l r3 _ hI (by omega) (by omega) (by show Ast.size (ma 10 t.2.1 _ (a::l))=_;rw[kP];rfl) G3 rfl
   rw[af a3,af a3];have b1:av [46] t=false:=by simpa using a1
   have b2:av [91] t=false:=by simpa using a2
   have b3:av [58] t=false:=by simpa using a3
   by_cases a4:av [40] t=true
   ·rw[al a4,al a4];exact ML (by simp[a4]) b1 b2 b3
   rw[af a4,af a4];by_cases a5:av [123] t=true
   ·rw[al a5,al a5];exact ML (by simp[a5]) b1 b2 b3
   rw[af a5,af a5];by_cases a6:t.1=4
   ·rw[al a6,al a6];exact ML (by simp[a6]) b1 b2 b3
   ·exfalso
    apply h0;unfold jg;rw[af a1,af a2,af a3,af a4,af a5,af a6]
theorem aax (hf:Fin ts) (H:rZ (N+1) CP ts n K E):aan (n0 N) (As N) ts n K E:=by
 obtain⟨h1,h2,h3,h4⟩:=H;obtain⟨t,r,rfl⟩:=hf.cons;have hI :∀h',Rm (N+1) 0 ⟨h',[],t::r,n⟩:=fun h'=>⟨h1,h2,by simp only[List.length_nil];omega,⟨hf,h3⟩⟩
 have G:=Gw.look h4;have go :∀{j:Nat} (h0:Nd) (ys:List Ast) (il:List aj) (y:Ast),Rm (N+1) j ⟨h0,ys,il,n+Ast.ak ys⟩→1≤j→y.size=Ast.ak ys+1→Gw (.call (.aR y) fun(z:Ast)=>.ret z:GL Ast) il K E→y=.mk h0 ys→(bW fun a fC=>∃m,uf (n0 N) (As N) m a fC n K E) ⟨h0,ys,il,n+Ast.ak ys⟩:=fun{j} h0 ys il y hI hj hy G e=>by
  have hn:=hI.n;dsimp only at hn
  refine⟨by dsimp only;omega,il.length+1,?_⟩
  have:=Xa (n:=n) (il.length+1) il y 0 (dz _) ⟨hI.len,by dsimp only;omega,by simp only[List.length_cons,List.length_nil];omega,hI.wf⟩ ((Gw.call G).mono (K':=K) fun v il _ hv=>hv.2.ret)
  rw[e] at this;exact this
 refine⟨t,r,rfl,fun hw=>?_,fun hw=>?_⟩
 ·have G2:=((G.neg (show ¬ t.1=1 from fun e=>by rcases aO hw with ⟨l,m,rfl⟩ | ⟨l,m,rfl⟩<;>simp at e)).pos hw).tok
  exact cU (hI (dx 14 t.2.1)) (aW hw) fun hI=>fK hI G2 fun e r2 hI hl G3=>cj hI G3 fun _ r3 hI Jw G3=>go (dx 14 t.2.1) [e] r3 _ hI.up (by omega) (by show Ast.size (nd 14 t.2.1 [e])=_;rw[lH]) G3 rfl
 ·refine⟨t,r,rfl,fun ht=>?_,fun ht=>((G.neg ht).neg (by simp[hw])).bad⟩
  have n7:Rm (N+1) (0+2) ⟨⟨7,t.2.1,0,0,bC t.2.2.2,[],[]⟩,[],r,n+Ast.ak []⟩:=by rw[cE];exact(hI (dx 7 t.2.1)).tok (by omega)
  have:=go ⟨7,t.2.1,0,0,bC t.2.2.2,[],[]⟩ [] r (ma 7 t.2.1 (bC t.2.2.2) []) n7 (by omega) (by rw[kP]) (G.pos ht).tok rfl
  rw[cE] at this;exact this
end
end Go.Proofs.YteflkdlaoiijbaaGreatDoor
