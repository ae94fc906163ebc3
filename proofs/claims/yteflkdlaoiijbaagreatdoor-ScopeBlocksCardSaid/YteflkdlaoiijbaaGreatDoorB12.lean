/- Parts of the proof. -/
import Derived.StillTailTactics
import Derived.Test.YteflkdlaoiijbaaGreatDoorB11
set_option maxHeartbeats 16000000
set_option maxRecDepth 20000
namespace Go.Proofs.YteflkdlaoiijbaaGreatDoor
open Go.RowKit
theorem JO (n:ju) (iF:List ju) (s:ByteArray):j4 (n::iF) s=if s=n.s then some (.int .i64 (n.i:Int)) else j4 iF s:=by
 unfold j4;rw[kU];by_cases e:s=n.s
 ·subst e
  simp
 ·rw[af e,bN fun h=>e h.symm]
theorem e9 {W W':World} {m:Nat} (hg:W.grownBy W' (some m)) (hm :∃es c,W.heap[m]? = some (.map es c)) :∀(k:Nat) c (e:TypeId) fz,W.heap[k]? = some (.cells c e fz)→W'.heap[k]? = some (.cells c e fz):=fun k c e fz hk=>by
 obtain⟨es,c',hb⟩:=hm;refine(hg.block k (aJ.1 hk).1 fun e'=>?_).trans hk
 injection e' with e';subst e';rw[hb] at hk;cases hk
theorem ix {W W':World} {B e s n:Nat} {v:Value} {xs:List Value} (hk :∀(k:Nat) c (e:TypeId) fz,W.heap[k]? = some (.cells c e fz)→W'.heap[k]? = some (.cells c e fz)) (hu:W.ownsRow B e s v n xs):W'.ownsRow B e s v n xs:=by
 refine⟨hu.1,?_⟩;rcases hu.2 with hn | ⟨g,cap,cur,rfl,hB,hg,rest⟩
 ·exact .inl hn
 ·exact .inr ⟨g,cap,cur,rfl,hB,hk g _ _ _ hg,rest⟩
theorem e8.keep {W W':World} {B b:Nat} {nv:Value} {N:Nat} {st:aG} {fv:Value} {ub ob:Nat} {L:List mP} (h:e8 W B b nv N st fv ub ob L) (hk :∀(k:Nat) c (e:TypeId) fz,W.heap[k]? = some (.cells c e fz)→W'.heap[k]? = some (.cells c e fz)):e8 W' B b nv N st fv ub ob L :=
 ⟨hk b _ _ _ h.blk,⟨ix hk h.fns.row,fun t ht=>ix hk (h.fns.vars t ht),fun t ht=>ix hk (h.fns.bR t ht),h.fns.pM,h.fns.qG⟩,h.are,ix hk h.uses,ix hk h.wq,h.pos⟩
theorem e8.names {W:World} {B b:Nat} {nv:Value} {N:Nat} {st:aG} {fv:Value} {ub ob:Nat} {L:List mP} (h:e8 W B b nv N st fv ub ob L) (ns:List ju):e8 W B b nv N { st with names:=ns} fv ub ob L:=h.on rfl rfl rfl
theorem UW {ops:Array Oper} {rest:List Oper} {o:Oper} {a:Act} {Q:Exit→Act→World→Prop} (w:World) (n:lq) (hgd:o.guard=none) (sl y:Operand)
  (ho:o.op=.call { callee:=.builtin .append,args:=#[sl,y],argTypes:=#[49,49]}) (B:Nat) (v:Value) (ns:List lq) (hs:a.eval sl=v) (hown:w.ownsRow B 61 3 v ns.length (ns.flatMap ti)) (g:Nat) (hg:g=w.heap.size) (hy:a.eval y=.slice (some ⟨g,0,none⟩) 1 1)
  (hlen:ns.length≤1000000) (hB:B≤w.heap.size)
  (h :∀g' c' w',w'.ownsRow B 61 3 (.slice (some ⟨g',0,none⟩) (ns.length+1) c') (ns++[n]).length ((ns++[n]).flatMap ti)→re v.ownBlock w w'→Below B w w'→(v.ownBlock=some g'∨w.heap.size≤g')→wpList Tryz.prog ops Q rest (a.put o.dst (.slice (some ⟨g',0,none⟩) (ns.length+1) c')) w') :
  wpList Tryz.prog ops Q (o::rest) a (w.alloc (.cells (ti n).toArray 61)):=by
 obtain⟨i0,nB,hz0,hz1,hz2⟩:=info_parts Jw;refine Zx w (ti n) hgd sl y 49 61 i0 _ 3 32 ho Tryz.underlying49 nB hz0 hz1 hz2 rfl (by omega) (by omega) B v ns.length _ hs hown g hg hy rfl (by intro u hu;simp[ti] at hu;rcases hu with rfl|rfl|rfl<;>rfl) hlen hB ?_
 intro g' c' w' r1 r2 r3 r4;refine h g' c' w' ?_ r2 r3 r4;rw[bM,mX,pU,ED];exact r1
structure adI (w wr:World) (B b:Nat) (nv:Value) (N:Nat) (st s1:aG) (g n c ub ob:Nat) (L1:List mP) (lv:Value) (nl m f:Nat) (iF a:List ju):Prop where
 rs:e8 wr B b nv N s1 (.slice (some ⟨g,0,none⟩) L1.length c) ub ob L1
 len:L1.length=n
 jq:cN B ob lv nl (some m) w wr
 map:dG Tryz.prog 9 wr m (a++iF).length (j4 (a++iF))
 own :∀x∈a,x.fn=f
 names:s1.names=a++st.names
 few:dA s1.fns
theorem kB {T:List Nd} {B:Nat} {nv:Value} {ub ob:Nat} (b node f:Nat) (h:Nd) (loop:Int) (pa la:Option Addr) (lc:Nat) (l:cJ) (r:List cJ) (st:aG) (w:World) (hT:wo w B nv T) (hw:jV w B b nv T.length st ub ob) (hx:T[node]? = some h) (hf:f<st.fns.length) (hl:cX w B (.slice la (l::r).length lc) (l::r)) (hlf:l.fn=f) (hrl:(l::r).length≤100000) (mo:dA st.fns) (sd:l.iF.length≤100000) (hsz :∀s∈h.names,s.size≤65536) :
  Calls Tryz.prog 113 #[.pointer (some ⟨b,0,none⟩),.int .i64 (node:Int),.agg #[.int .i64 (f:Int),.int .i64 loop,.pointer pa,.slice la (l::r).length lc]] w (aq B b nv T.length ub ob (.slice la (l::r).length lc) (l::r) st (bz node f h.line h.names st) w):=by
 obtain⟨fv,FL,hw⟩:=hw;obtain⟨⟨t1,tv,tu⟩,ht⟩:=hw.BG hf;obtain⟨g,c,rfl,Zz,rr,te⟩:=hw.fns.form ht;have hfn:=(hw.sT ht).2;obtain⟨bk,o,tc,rfl,eQ,ca,hn⟩:=hT.nodes;have jG:node<T.length:=(aL.1 hx).1;have xt:=hw.len;have Pj:f<FL.length:=by omega
 have pS:=hT.few;have Ri:h.names.length≤20000:=(hT.small h (ba hx)).2;obtain⟨hbl,oN,s9⟩:=hw.mV;obtain⟨zI,zJ,fM,hst,_⟩:=hn node h hx;have c5:=fM.c5;obtain⟨NA,nc,rfl,hnc,_⟩:=id hst;obtain⟨VA,vc,WG,WH,_⟩:=dy (hw.fns.vars _ (ba ht));simp only at WG WH;subst WG;have d0:w.cell? ⟨b,0,none⟩=some (.slice (some ⟨bk,o,none⟩) T.length tc):=ab hw.blk 0;have d1:w.cell? ⟨b,1,none⟩=some (.slice (some ⟨g,0,none⟩) FL.length c):=ab hw.blk 1;have d2:w.cell? ⟨b,2,none⟩=some (.slice (some ⟨ub,0,none⟩) T.length T.length):=ab hw.blk 2;have e4:w.cell? ⟨g,f*6+4,none⟩=some (.slice VA t1.vars.length vc):=(te 4 (by omega)).1
 obtain⟨u0,v0⟩:=da hw.uses (j:=node*2) (by omega)
 obtain⟨u1,v1⟩:=da hw.uses (j:=node*2+1) (by omega)
 obtain⟨ga,rfl,hgal,m1⟩ :∃ga,la=some ⟨ga,0,none⟩∧ga<w.heap.size∧w.cell? ⟨ga,r.length*2+1,none⟩=some (.map (some l.blk)):=by
  obtain⟨A,cc,he,_,hr⟩:=dy hl.row;injection he with uM _ _;subst uM;rcases hr with h0 | ⟨ga,rfl,_,h2,h3⟩
  ·simp at h0
  ·refine⟨ga,rfl,h2,?_⟩
   rw[h3 (r.length*2+1) (by rw[List.length_cons];omega)]
   have hq:(l::r).reverse[r.length]? = some l:=by simp
   exact fU zh _ r.length 1 l hq (by omega)
 have hmi:=(hl.maps l (bQ ..)).1.isMap;have zC:=(hl.maps l (bQ ..)).1;have hmB:=(hl.maps l (bQ ..)).2;have aeo:((l::r).length:Int)=(r.length:Int)+1:=by simp
 have sg:bk≠ub:=by have:=hw.jh.1;omega
 have hbu:b≠ub:=fun e=>by
  obtain⟨cs,hcs⟩:=lA hw.uses;rw[←e,hw.blk] at hcs;injection hcs with hcs;injection hcs with _ hcs;exact absurd hcs (by decide)
 have HW:=aa hw;have HT:=aa hT;have HX:=aa hx;have HST:=aa hst;have HFN:=aa hfn;have HL:=aa hl;have HMI:=aa hmi;have HML:=aa zC;have HTF:=aa ht;clear hw hT hx hst hfn ht te hn fM hl hmi zC xt;go_enter Tryz.func113,Tryz.ntmps113
 go_wp2_with fail
 go_region
 go_wp2_with fail
 go_region
 obtain⟨W2,hW2⟩ :∃W2,W2=(((w.setCell ⟨ub,node*2,none⟩ (.int .i64 2)).setCell ⟨ub,node*2+1,none⟩ (.int .i64 (t1.vars.length:Int))).alloc (.cells #[.int .i64 (f:Int),.int .i64 loop,.pointer pa,.slice (some ⟨ga,0,none⟩) (r.length+1) lc] 92)).drew.drew:=⟨_,rfl⟩;have hR2:=HW.out.use node (2,(t1.vars.length:Int));have hF2:Fr [57] w W2:=by rw[hW2];exact(((mj HW.out node _ _).trans (Fr.alloc _)).drew).drew
 have hB2:Below B w W2:=by rw[hW2];exact(((vr HW.out node _ _).alloc (by simp;omega) _).drew).drew
 have hR2:e8 W2 B b (.slice (some ⟨bk,o,none⟩) T.length tc) T.length (st.dh node (2,(t1.vars.length:Int))) (.slice (some ⟨g,0,none⟩) FL.length c) ub ob FL:=by rw[hW2];exact((hR2.alloc _).drew).drew
 rw[←hW2];clear hW2 d0 d1 d2 e4 u0 v0 u1 v1 m1;have d0:W2.cell? ⟨b,0,none⟩=some (.slice (some ⟨bk,o,none⟩) T.length tc):=ab hR2.blk 0;have c5:=(hB2.cell (p:=⟨bk,o+node*7+5,none⟩) eQ).trans c5;have l9:=aa (cN.vq (ob:=ob) (v:=.slice (some ⟨ga,0,none⟩) (r.length+1) lc) (n:=r.length+1) (top:=some l.blk) hF2 (by decide) hB2)
 have HM2:=aa (hF2.map HML.out);have wg:=aa hR2;clear hF2 hB2 hR2;go_wp2_with fail
 obtain⟨R,hR⟩ :∃R,R=bz node f h.line h.names st:=⟨_,rfl⟩;have HR:=aa hR;clear hR d0 c5;go_loopw [50] (fun tk wr=>∃(k:Nat) (s1:aG) (L1:List mP) (a:List ju),tk=.int .i64 (k:Int)∧k≤h.names.length∧adI w wr B b (.slice (some ⟨bk,o,none⟩) T.length tc) T.length st s1 g FL.length c ub ob L1 (.slice (some ⟨ga,0,none⟩) (r.length+1) lc) (r.length+1) l.blk f l.iF a∧a.length=k∧dR node f h.line (h.names.drop k) s1=R) (fun tk _=>h.names.length-(intOf tk).toNat)
 case atStart =>
  refine⟨0,st.dh node (2,(t1.vars.length:Int)),FL,[],rfl,bx _,⟨wg.out,rfl,l9.out,HM2.out,by simp,rfl,mo⟩,rfl,?_⟩
  rw[HR.out,oT];unfold bz;rw[HFN.out]
 case round =>
  obtain⟨k,s1,L1,a,rfl,hk,hd,hak,hgo⟩:=hrel;have hL1:=hd.len;have adJ:f<L1.length:=by omega
  obtain⟨⟨y1,yv,yu⟩,hy⟩ :∃t,L1[f]? = some t:=⟨L1[f],bH adJ⟩;obtain⟨g',c',pN,_,hgl1,ZO⟩:=hd.rs.fns.form hy;injection pN with pN _ hcc;injection pN with pN;injection pN with pN _ _;subst pN hcc;obtain⟨VA1,vc1,WG,adK,_⟩:=dy (hd.rs.fns.vars _ (ba hy));simp only at WG adK;subst WG;have e4:wr.cell? ⟨g,f*6+4,none⟩=some (.slice VA1 y1.vars.length vc1):=(ZO 4 (by omega)).1
  have z4:=(ZO 4 (by omega)).2
  have abD:=(hd.rs.sT hy).2;have aep:y1.vars.length≤200:=(hd.few f y1 (hd.rs.sT hy).1).1;have abE:=aa abD;have HD:=aa hd;have VS:=aa hgo;have HY:=aa hy;clear hd hgo hy abD ZO;by_cases hlt:k<h.names.length
  ·obtain⟨s,hsk⟩ :∃s,h.names[k]? = some s:=⟨h.names[k],bH hlt⟩
   have hdr:=eZ hsk;have hssz:=hsz s (ba hsk);obtain⟨A',c',he,_,jb⟩:=(HST.out.below HD.out.jq.below);injection he with uM _ he2;subst uM he2;rcases jb with h0 | ⟨sb,so,rfl,ZP,hsc⟩
   ·rw[h0] at hlt;exact absurd hlt (jz _)
   have cs:=hsc k s hsk;have uC:=aa hdr;have mW:=aa hlt;clear hsc hsk hdr;by_cases Fk:y1.vars.length=200
   ·have g1:((y1.vars.length:Int) == 200)=true:=by rw[Fk];rfl
    have HC:=aa (ab HD.out.rs.blk 0);have A9:=aa (HT.out.below HD.out.jq.below);go_wp2_with fail
    refine(eF b node _ _ _ A9.out HC.out HX.out).mono ?_;rintro e w2 ⟨v,rfl,⟨g2,rfl⟩,h1,h2⟩;have H1:=aa h1;have H2:=aa h2;clear h1 h2;go_wp2_with fail
    go_ret
    have hE:bz node f h.line h.names st=.error (11,h.line):=by
     rw[←HR.out,←VS.out,uC.out,dR,abE.out,ak (by omega)]
    rw[hE];exact⟨HD.out.jq.below.trans (H2.out.mono (aK ca HD.out.jq.below.size)),_,rfl,H1.out⟩
   ·have g1:((y1.vars.length:Int) == 200)=false:=aE.2 (by omega)
    have hBr:B≤wr.heap.size:=aK ca HD.out.jq.below.size;obtain⟨W7,hrun,hm7,hg7⟩:=HD.out.map.put (t:=236) (e:=3) Tryz.underlying9 Tryz.underlying236 (by rw[bM];unfold maxLen;omega) s (by unfold maxLen;omega) (.int .i64 (y1.vars.length:Int)) rfl
    have lo:=e9 hg7 HD.out.map.isMap;have hR7:=HD.out.rs.keep lo;have WK:=HD.out.jq.trans (cN.of_map hg7 HD.out.map.isMap hmB hBr);obtain⟨g',c',pN,_,hgl7,ZQ⟩:=hR7.fns.form HY.out;injection pN with pN _ hcc;injection pN with pN;injection pN with pN _ _;subst pN hcc;have e47:W7.cell? ⟨g,f*6+4,none⟩=some (.slice VA1 y1.vars.length vc1):=(ZQ 4 (by omega)).1
    have z47:=(ZQ 4 (by omega)).2
    have hB7:B≤W7.heap.size:=aK hBr hg7.size;have abF:y1.vars.length≤1000000:=by omega
    have UI:f*6+4<L1.length*6:=by omega
    have R7:=aa hR7;have F7:=aa WK;have M7:=aa hm7;clear ZQ hR7 WK hm7 hg7 lo;go_wp2_with (at_builtin;refine UW W7 ⟨s,node,false⟩ rfl _ _ rfl B (.slice VA1 y1.vars.length vc1) y1.vars rfl (R7.out.fns.vars _ (ba HY.out)) W7.heap.size rfl rfl abF hB7 ?_;intro g8 c8 w8 r8 b8 WE n8;have SN:=aa (R7.out.OZ HY.out b8 r8 (fun k hk=>by injection hk with hk;subst hk;exact n8));have Rq:=aa WE;have vC:=b8.row R7.out.fns.row (fun k hk e=>eh R7.out.fns.row (R7.out.fns.vars _ (ba HY.out)) (by decide) k hk e);have e43:w8.cell? ⟨g,f*6+4,none⟩=some (.slice VA1 y1.vars.length vc1):=(World.ownsRow.cellAt vC (f*6+4) UI).trans (fU qD L1 f 4 _ HY.out (by omega));have z43:=World.ownsRow.frozenAt vC (f*6+4);clear r8 b8 WE n8 vC)
    have HF8:=aa (F7.out.trans (cN.vq (ob:=ob) (v:=.slice (some ⟨ga,0,none⟩) (r.length+1) lc) (n:=r.length+1) (top:=some l.blk) SN.out.2 (by decide) (Rq.out.setCell (p:=⟨g,f*6+4,none⟩) Zz _)))
    refine⟨⟨k+1,{ s1.pd f { y1 with vars:=y1.vars++[⟨s,node,false⟩]} with names:=⟨s,f,y1.vars.length⟩::s1.names},L1.set f ({ y1 with vars:=y1.vars++[⟨s,node,false⟩]},.slice (some ⟨g8,0,none⟩) (y1.vars.length+1) c8,yu),⟨s,f,y1.vars.length⟩::a,by go_num,mW.out,⟨?_,by rw[mC];exact hL1,HF8.out,?_,?_,by rw[dB];exact ay _ HD.out.names,?_⟩,by rw[List.length_cons,hak],?_⟩,by have:=mW.out;simp[intOf];omega⟩
    ·rw[mC]
     exact SN.out.1.names _
    ·have h9:=(M7.out.ext (g:=j4 (⟨s,f,y1.vars.length⟩::(a++l.iF))) fun x=>(JO ⟨s,f,y1.vars.length⟩ (a++l.iF) x).symm).mono (m:=(⟨s,f,y1.vars.length⟩::(a++l.iF)).length) (by rw[List.length_cons];exact ai _)
     exact SN.out.2.map h9
    ·intro x hx
     rcases bb.1 hx with rfl|hx
     ·rfl
     ·exact HD.out.own x hx
    ·show dA (s1.fns.set f _)
     exact HD.out.few.set ⟨by rw[bM,mX];omega,(HD.out.few f y1 (HD.out.rs.sT HY.out).1).2⟩
    ·rw[←VS.out,uC.out]
     conv=>rhs;rw[dR,abE.out,af (by show ¬ 200≤y1.vars.length;omega)]
  ·have zD:k=h.names.length:=by omega
   go_wp2_with fail
   go_ret
   have hE:bz node f h.line h.names st=.ok s1:=by
    rw[←HR.out,←VS.out,zD,wJ,dR]
   rw[hE];exact⟨HD.out.jq.below,rfl,⟨_,_,HD.out.rs⟩,HD.out.jq,a,HD.out.names,(fun e=>by cases e),HL.out.more HD.out.jq (ai _) HD.out.map fun x hx=>(HD.out.own x hx).trans hlf.symm⟩
theorem mu {B:Nat} {a w:World} (h:Below B a w) (n:Nat):Below B a (w.drewN n):=⟨h.os,h.tape,h.output,h.size,h.block⟩
theorem PK {ks:List Lt} {e:Nat} {x:Lt} (hx:ks[e]? = some x) (hl:rf x=true) (h:(ks.drop (e+1)).all rf=true):(ks.drop e).all rf=true:=by
 rw[drop_at hx,sx,hl,h];rfl
theorem UX {T:List Nd} {B:Nat} {nv:Value} (b:Nat) (kv:Value) (ks:List Lt) (tested:Bool) (fv uv ov:Value) (w:World) (hT:wo w B nv T) (hw:w.heap[b]? = some (.cells #[nv,fv,uv,ov] 87 (0,0))) (hu:gM w B kv (ks.map fun k=>(k.loc:Int))) (mH:Lt.u9 T ks) (xf:ks.length≤20000) :
  Calls Tryz.prog 162 #[.pointer (some ⟨b,0,none⟩),kv,.bool tested] w fun e w'=>e=.returned (.int .i64 ((if tested then ks.length else lD ks:Nat):Int))∧Below w.heap.size w w':=by
 obtain⟨bk,o,c,rfl,eQ,ca,hn⟩:=hT.nodes;obtain⟨UA,uc,rfl,ZC,hu⟩:=hu;simp only[dm] at ZC hu ⊢;have hbl:b<w.heap.size:=(aJ.1 hw).1;have d0:=ab hw 0;replace d0:_=some (Value.slice (some ⟨bk,o,none⟩) T.length c):=d0;have pS:=hT.few;have HN:=aa hn;have HIN:=aa mH;have HU:=aa hu;clear hn hu hT mH hw;cases tested with
 | true =>
  go_enter Tryz.func162,Tryz.ntmps162
  go_wp2_with fail
  go_ret
  exact⟨rfl,Below.refl _ _⟩
 | false =>
  go_enter Tryz.func162,Tryz.ntmps162
  go_wp2_with fail
  go_loopw [7] (fun t wr=>∃e:Nat,t=.int .i64 (e:Int)∧e≤ks.length∧(ks.drop e).all rf=true∧Below w.heap.size w wr) (fun t _=>(intOf t).toNat)
  case atStart=>exact⟨ks.length,rfl,ai _,by simp,Below.refl _ _⟩
  case round =>
   obtain⟨e,rfl,he,hall,hb⟩:=hrel;have zn:=aa hall;have HB:=aa hb;have d0r:=(hb.cell (p:=⟨b,0,none⟩) hbl).trans d0;clear hall hb;cases e with
   | zero =>
    have g1:decide ((0:Int)<((0:Nat):Int))=false:=by decide
    go_wp2_with fail
    go_quiet (fail)
    go_wp2_with fail
    go_ret
    exact⟨by rw[(rY ks).2 zn.out];rfl,mu HB.out _⟩
   | succ e =>
    obtain⟨x,hx⟩ :∃x,ks[e]? = some x:=⟨ks[e],bH (by omega)⟩
    have g1:decide ((0:Int)<((e+1:Nat):Int))=true:=bF (by omega)
    rcases HU.out with h0 | ⟨sb,so,rfl,ZP,hsc⟩
    ·exfalso
     rw[pV] at h0;rw[h0] at he;exact absurd he (by simp)
    have cs:wr.cell? ⟨sb,so+e,none⟩=some (.int .i64 (x.loc:Int)):=(HB.out.cell (p:=⟨sb,so+e,none⟩) (by show sb<_;omega)).trans (hsc e _ (by rw[gE,hx];rfl))
    obtain⟨ZR,JP⟩:=vm HIN.out hx;have hxl:x.loc<T.length:=(aL.1 JP).1;obtain⟨zI,zJ,fM,_,_⟩:=HN.out x.loc x.hd JP;have ck:=(HB.out.cell (p:=⟨bk,o+x.loc*7,none⟩) (by show bk<_;omega)).trans fM.c0
    have HX:=aa hx;clear hsc hx fM ZR JP;cases hl:rf x with
    | true =>
     have g2:(x.hd.kind == 32)=true:=hl;go_wp2_with fail
     go_quiet (fail)
     go_wp2_with fail
     exact⟨⟨e,rfl,by omega,PK HX.out hl zn.out,mu HB.out _⟩,by simp[intOf]⟩
    | false =>
     have g2:(x.hd.kind == 32)=false:=hl;go_wp2_with fail
     go_quiet (fail)
     go_wp2_with fail
     go_ret
     exact⟨by rw[UF he zn.out (.inr ⟨x,HX.out,hl⟩)];rfl,mu HB.out _⟩
theorem UY {fr:List fB} {f:Nat} {ks:List Lt} {rep:Bool} {n c:Nat} {s:ByteArray}:((∃j,bZ ks s=some j∧j<n)∨∃x∈fr,x.loop=false∧x.fn=f∧(bZ x.kids s).isSome)↔(((c,n,fH ks rep n)::(dz f fr).map Ks).find? fun x=>(x.2.2 s).isSome).isSome=true:=by
 rw[kU,Pg];have h1:(fH ks rep n s).isSome=(nZ ks rep n s).isSome:=by unfold fH;cases nZ ks rep n s<;>rfl
 have h2:=Pe (ks:=ks) (rep:=rep) (n:=n) (s:=s);dsimp only
 rw[h1];cases e:(nZ ks rep n s).isSome with
 | true =>
  rw[e] at h2;simp only[Option.isSome_some,iff_true];exact .inl (h2.1 rfl)
 | false =>
  rw[e] at h2;dsimp only
  rw[vF];have h3:¬∃j,bZ ks s=some j∧j<n:=fun h=>by have:=h2.2 h;cases this
  rw[Option.isSome_map];exact⟨fun h=>h.resolve_left h3,.inr⟩
theorem PM {fr:List fB} {f n:Nat} {all r:List Lt} {x:Lt} (hk:x.hd.kind=32) (h:(∃j,bZ all x.hd.s=some j∧j<n)∨∃y∈fr,y.loop=false∧y.fn=f∧(bZ y.kids x.hd.s).isSome):ch fr f all n (x::r)=some x.hd.line:=by
 rw[ch,ak ⟨hk,h⟩]
theorem PN {fr:List fB} {f n:Nat} {all r:List Lt} {x:Lt} (h:¬ (x.hd.kind=32∧((∃j,bZ all x.hd.s=some j∧j<n)∨∃y∈fr,y.loop=false∧y.fn=f∧(bZ y.kids x.hd.s).isSome))):ch fr f all n (x::r)=ch fr f all (n+1) r:=by
 rw[ch,af h]
theorem Ei {ks:List Lt} {rep:Bool} {n:Nat} {x:Lt} (hx:ks[n]? = some x) (h:rf x=false):fH ks rep (n+1)=fH ks rep n:=by
 funext s
 unfold fH;rw[vx hx];unfold lx;unfold rf at h;rw[h,zW]
theorem xV {ks:List Lt} {rep:Bool} {n:Nat} {x:Lt} (hx:ks[n]? = some x) (h:rf x=true) (hn:¬∃j,bZ ks x.hd.s=some j∧j<n) (s:ByteArray):(if s=x.hd.s then some (.agg #[.int .i64 (x.loc:Int),.int .i64 (rZ ks rep n:Int)]) else fH ks rep n s)=fH ks rep (n+1) s:=by
 by_cases e:s=x.hd.s
 ·subst e
  rw[ak rfl];unfold fH;rw[JA hx h hn];rfl
 ·rw[af e]
  unfold fH;rw[vx hx];unfold lx;have h2:decide (x.hd.s=s)=false:=bN fun e'=>e e'.symm
  rw[h2,Bool.and_false]
theorem JR {ks:List Lt} {rep:Bool} {n c:Nat} {l:List fB}:Pk ((c,n,fH ks rep n)::l.map Ks):=by
 intro x hx s v hv;rcases bb.1 hx with rfl|hx
 ·replace hv:fH ks rep n s=some v:=hv
  unfold fH at hv;cases e:nZ ks rep n s with
  | none=>rw[e] at hv;cases hv
  | some p =>
   rw[e] at hv;injection hv with hv;exact⟨_,_,hv.symm⟩
 ·exact B9 l x hx s v hv
theorem grown_of {W W':World} {m:Nat} (h:Below W.heap.size W W'):W.grownBy W' (some m):=⟨h.os,h.tape,h.output,h.size,fun k hk _=>h.block k hk⟩
theorem b9.grown {W W':World} {B m:Nat} (hg:W.grownBy W' (some m)) (hm :∃es c,W.heap[m]? = some (.map es c)) :∀{fs:List (Nat×Nat×(ByteArray→Option Value))} {ms:List Nat} {p:Value},b9 W B fs ms p→m∉ms→b9 W' B fs ms p
 | [],_,_,h,_=>h
 | x::fs,ms,p,h,ht=>by
  obtain⟨k',p',m',CE,rfl,rfl,h1,h2,h3,h4,h5,h6⟩:=h;have hne:m'≠m:=fun e=>ht (e▸bQ ..)
  exact⟨k',p',m',CE,rfl,rfl,h1,e9 hg hm k' _ _ _ h2,h3.same (hg.block m' h3.lt fun e=>hne (by injection e with e)),h4,h5,b9.grown hg hm h6 fun h=>ht (bX _ h)⟩
theorem kC {W W':World} {B m:Nat} (h:W.grownBy W' (some m)) (hm:B≤m) (hB:B≤W.heap.size):Below B W W':=⟨h.os,h.tape,h.output,h.size,fun k hk=>h.block k (by omega) fun e=>by injection e with e;omega⟩
def Cb (m:Nat) (ks:List Lt) (rep:Bool) (r:Option Int) (w:World) (e:Ending) (w':World):Prop :=
 w.grownBy w' (some m)∧match r with
 | none=>e=.returned .nilIface∧dG Tryz.prog 9 w' m ks.length (fH ks rep ks.length)
 | some l=>∃v,e=.returned v∧D8 w' v l 9
theorem Gu {ks:List Lt} {rep:Bool} {n:Nat} (h:n<ks.length):rZ ks rep n=if decide ((n:Int)<((if rep then ks.length else lD ks:Nat):Int))=true then gZ ks n else 0:=by
 unfold rZ;cases rep with
 | true =>
  rw[ak (.inl rfl),ak (bF (by show(n:Int)<(ks.length:Int);omega))]
 | false =>
  by_cases h1:n<lD ks
  ·rw[ak (.inr h1),ak (bF (by show(n:Int)<(lD ks:Int);omega))]
  ·rw[af (by rintro(h2|h2);cases h2;exact h1 h2),af (by simp only[je];show ¬ (n:Int)<(lD ks:Int);omega)]
theorem PO {T:List Nd} {B:Nat} {nv:Value} (b kb m f:Nat) (p:Option Addr) (kv:Value) (ks:List Lt) (fr:List fB) (ms:List Nat) (rep:Bool) (fv uv ov:Value) (w:World) (hT:wo w B nv T) (hw:w.heap[b]? = some (.cells #[nv,fv,uv,ov] 87 (0,0))) (hu:gM w B kv (ks.map fun k=>(k.loc:Int))) (mH:Lt.u9 T ks) (xf:ks.length≤20000)
  (hkb:w.heap[kb]? = some (.cells #[.pointer p,.map (some m),.int .i64 0] 195 (0,0))) (hm:dG Tryz.prog 9 w m 0 (fun _=>none)) (hc:pe w B (dz f fr) ms (.pointer p)) (UZ :∀a,p=some a→a.block<kb) (hmm:m∉ms) (hBk:B≤kb) (hBm:B≤m) (hs :∀x∈ks,x.hd.s.size≤65536) :
  Calls Tryz.prog 114 #[.pointer (some ⟨b,0,none⟩),.pointer (some ⟨kb,0,none⟩),kv,.bool rep] w (Cb m ks rep (ch fr f ks 0 ks) w):=by
 obtain⟨bk,o,c,rfl,eQ,ca,hn⟩:=hT.nodes;have U0:=UX (T:=T) (B:=B) b kv ks rep fv uv ov w hT hw hu mH xf;obtain⟨UA,uc,rfl,ZC,hu⟩:=hu;simp only[dm] at ZC hu U0 ⊢;have hbl:b<w.heap.size:=(aJ.1 hw).1;have adL:kb<w.heap.size:=(aJ.1 hkb).1;have pS:=hT.few;obtain⟨E,hE⟩ :∃E:Nat,E=(if rep=true then ks.length else lD ks):=⟨_,rfl⟩
 rw[←hE] at U0;have HE0:=aa hE;clear hE;have HW:=aa hw;have HT:=aa hT;have HIN:=aa mH;have HU:=aa hu;have HKB:=aa hkb;have HM:=aa hm;have HC:=aa hc;have adM:=aa U0;have HS:=aa hs;clear hn hu hT mH hw hkb hm hc U0 hs;go_enter Tryz.func114,Tryz.ntmps114
 go_wp2_with fail
 refine adM.out.mono ?_;rintro e w1 ⟨rfl,hb1⟩;have dK:=aa hb1;clear hb1;go_wp2_with fail
 go_loopw [10,23] (fun td tk wr=>∃n:Nat,tk=.int .i64 (n:Int)∧td=.int .i64 (gZ ks n:Int)∧n≤ks.length∧w.grownBy wr (some m)∧dG Tryz.prog 9 wr m n (fH ks rep n)∧ch fr f ks n (ks.drop n)=ch fr f ks 0 ks) (fun _ tk _=>ks.length-(intOf tk).toNat)
 case atStart =>
  refine⟨0,rfl,by rw[BJ];rfl,bx _,grown_of dK.out,?_,by rw[oT]⟩
  exact(HM.out.same (dK.out.block m HM.out.lt)).ext fun s=>by unfold fH;rw[Jz];rfl
 case round =>
  obtain⟨n,rfl,rfl,CI,hg,hm,hr⟩:=hrel;have xo:=kC hg hBm ca;have CJ:=e9 hg HM.out.isMap;have hbr:=CJ b _ _ _ HW.out;have abG:=CJ kb _ _ _ HKB.out;have d0:=ab hbr 0;replace d0:_=some (Value.slice (some ⟨bk,o,none⟩) T.length c):=d0;have abH:b<wr.heap.size:=cC hbl hg.size;have PQ:kb<wr.heap.size:=cC adL hg.size;have hdc:gZ ks n≤20000:=aK (Pd ks n) xf;have HG:=aa hg;have Ru:=aa hm;have HR:=aa hr;have lL:=aa xo;have Is:=aa hbr;have HKR:=aa abG;clear hg hm hr xo hbr abG CJ;by_cases hlt:n<ks.length
  ·obtain⟨x,hx⟩ :∃x,ks[n]? = some x:=⟨ks[n],bH hlt⟩
   have hxs:=HS.out x (ba hx);rcases HU.out with h0 | ⟨sb,so,rfl,ZP,hsc⟩
   ·exfalso
    rw[pV] at h0;rw[h0] at hlt;exact absurd hlt (by simp)
   have cs:wr.cell? ⟨sb,so+n,none⟩=some (.int .i64 (x.loc:Int)):=(lL.out.cell (p:=⟨sb,so+n,none⟩) ZP).trans (hsc n _ (by rw[gE,hx];rfl))
   obtain⟨ZR,JP⟩:=vm HIN.out hx;have hxl:x.loc<T.length:=(aL.1 JP).1;have A9:=aa (HT.out.below lL.out);obtain⟨bk2,o2,tc2,ZS,_,_,ra⟩:=A9.out.nodes;injection ZS with ZS _ htc;injection ZS with ZS;injection ZS with ZS hto _;subst ZS hto htc;obtain⟨zI,zJ,fM,⟨NA,nc,vW,_⟩,⟨KA,kc,rj,_⟩⟩:=ra x.loc x.hd JP;subst vW rj;have c0:=fM.c0;have c1:=fM.c1;have c2:=fM.c2;have c3:=fM.c3;have c4:=fM.c4;have c5:=fM.c5;have c6:=fM.c6;have hdr:=eZ hx;have HXT:=aa JP;have uC:=aa hdr;have HX:=aa hx;have mW:=aa hlt;have PT:Hid (Calls Tryz.prog 115 #[.pointer (some ⟨b,0,none⟩),.int .i64 (x.loc:Int)] wr fun e w'=>e=.returned (.bool (isDecl x))∧wr=w'):=aa (sU b x.loc x.hd wr A9.out d0 JP)
   clear JP hdr hx fM ra ZR hsc;by_cases zo:x.hd.kind=32
   ·have Ej:isDecl x=false:=by unfold isDecl;rw[zo];rfl
    have vX:gZ ks (n+1)=gZ ks n:=by rw[vv HX.out,Ej];rfl
    have hcn:b9 wr B ((0,n,fH ks rep n)::(dz f fr).map Ks) (m::ms) (.pointer (some ⟨kb,0,none⟩)):=⟨kb,p,m,ms,rfl,rfl,hBk,HKR.out,Ru.out,hBm,UZ,b9.grown HG.out HM.out.isMap HC.out hmm⟩;have HCN:=aa hcn;rw[Ej] at PT;have HDS:=aa vX;have U3:=aa zo;have g2:(x.hd.kind != 32)=false:=by rw[zo];rfl
    clear hcn vX Ej zo;go_wp2_with fail
    refine PT.out.mono ?_;rintro e w2 ⟨rfl,rfl⟩;go_wp2_with fail
    obtain⟨W3,hW3⟩ :∃W3,W3=wr.alloc (.cells #[.int .i64 x.hd.kind,.int .i64 x.hd.line,.int .i64 x.hd.op,.int .i64 x.hd.num,.string x.hd.s,.slice NA x.hd.names.length nc,.slice KA x.hd.kids.length kc] 55):=⟨_,rfl⟩;rw[←hW3];have B3:Hid (Below wr.heap.size wr W3):=aa (by rw[hW3];exact(Below.refl _ _).alloc (ai _) _)
    have n4:W3.cell? ⟨wr.heap.size,4,none⟩=some (.string x.hd.s):=by rw[hW3];exact ab (heap_alloc_new _ _) 4
    have hs3:wr.heap.size<W3.heap.size:=by rw[hW3,an];omega
    clear hW3;refine(BM _ _ _ x.hd.s W3 (HCN.out.later B3.out) (by unfold maxLen;omega) JR).mono ?_
    rintro e w4 ⟨UU,a,d,rfl,hF,hb4⟩;have pw:=UY (fr:=fr) (f:=f) (ks:=ks) (rep:=rep) (n:=n) (c:=0) (s:=x.hd.s);have n4:=(hb4.cell (p:=⟨wr.heap.size,4,none⟩) hs3).trans n4;have CG:=B3.out.trans (hb4.mono (fx hs3));have hw4:wr.heap.size<w4.heap.size:=cC hs3 hb4.size;have m4:=(CG.cell (p:=⟨kb,1,none⟩) PQ).trans (ab HKR.out 1);replace m4:_=some (Value.map (some m)):=m4;have B4:=aa CG;clear CG hb4;cases qM:((0,n,fH ks rep n)::(dz f fr).map Ks).find? (fun y=>(y.2.2 x.hd.s).isSome) with
    | some y =>
     obtain⟨k2,hp,_,_,_⟩:=hF.yes qM;subst hp;rw[qM] at pw;have HE:Hid (ch fr f ks 0 ks=some x.hd.line):=aa (by rw[←HR.out,uC.out,PM U3.out (pw.2 rfl)])
     have PE:=aa ((A9.out.below (B4.out.mono (aK ca HG.out.size))).below ((Below.refl B w4).alloc (aK (aK ca HG.out.size) B4.out.size) (.cells #[.int .i64 a,.int .i64 d] 199)));have PF:=aa (((Below.refl w4.heap.size w4).alloc (ai _) (.cells #[.int .i64 a,.int .i64 d] 199)).cell (p:=⟨b,0,none⟩) (cC abH B4.out.size) |>.trans ((B4.out.cell (p:=⟨b,0,none⟩) abH).trans d0));clear hF qM pw;go_wp2_with fail
     refine(eF b x.loc _ _ _ PE.out PF.out HXT.out).mono ?_;rintro e w6 ⟨v,rfl,⟨g2,rfl⟩,h1,h2⟩;have H1:=aa h1;have H2:=aa h2;clear h1 h2;go_wp2_with fail
     go_ret
     rw[HE.out];exact⟨HG.out.trans ((grown_of B4.out).trans ((World.grownBy_alloc _ _ _).trans (grown_of H2.out))),_,rfl,H1.out⟩
    | none =>
     have hp:=hF.no qM;subst hp;rw[qM] at pw;have Fo:¬ ((∃j,bZ ks x.hd.s=some j∧j<n)∨∃y∈fr,y.loop=false∧y.fn=f∧(bZ y.kids x.hd.s).isSome):=fun h=>by have:=pw.1 h;cases this
     have HE:Hid (ch fr f ks (n+1) (ks.drop (n+1))=ch fr f ks 0 ks):=aa (by rw[←HR.out,uC.out,PN fun h=>Fo h.2])
     have ZB:Hid (¬∃j,bZ ks x.hd.s=some j∧j<n):=aa fun h=>Fo (.inl h)
     clear hF qM pw Fo;by_cases mH:n<E
     ·have g3:decide ((n:Int)<(E:Int))=true:=bF (by omega)
      go_wp2_with fail
      obtain⟨W5,U4⟩ :∃W5,W5=(w4.alloc (.cells #[.int .i64 a,.int .i64 d] 199)).alloc (.cells #[.int .i64 (x.loc:Int),.int .i64 (gZ ks n:Int)] 199):=⟨_,rfl⟩;rw[←U4];have b5:Below w4.heap.size w4 W5:=by rw[U4];exact Below.two _ _
      have ZT:W5.heap[w4.heap.size+1]? = some (.cells #[.int .i64 (x.loc:Int),.int .i64 (gZ ks n:Int)] 199 (0,0)):=by
       rw[U4];have:=heap_alloc_new (w4.alloc (.cells #[.int .i64 a,.int .i64 d] 199)) (.cells #[.int .i64 (x.loc:Int),.int .i64 (gZ ks n:Int)] 199);rwa[an] at this
      have l0:=gQ ZT;have l1:=gR ZT;clear U4 ZT;have n5:=(b5.cell (p:=⟨wr.heap.size,4,none⟩) hw4).trans n4;have m5:=(b5.cell (p:=⟨kb,1,none⟩) (cC PQ B4.out.size)).trans m4;have Fe:=B4.out.trans (b5.mono B4.out.size);have hM5:dG Tryz.prog 9 W5.drew m n (fH ks rep n):=Ru.out.same (Fe.block m Ru.out.lt);obtain⟨W6,hrun,hm6,Wu⟩:=hM5.put (t:=193) (e:=199) Tryz.underlying9 Tryz.underlying193 (by unfold maxLen;omega) x.hd.s (by unfold maxLen;omega) (.agg #[.int .i64 (x.loc:Int),.int .i64 (gZ ks n:Int)]) rfl
      have SB:rf x=true:=bF U3.out;have hD:(rZ ks rep n:Int)=(gZ ks n:Int):=by
       rw[Gu mW.out,←HE0.out];rw[g3];rfl
      have HG6:=aa (HG.out.trans ((grown_of (m:=m) Fe.drew).trans Wu));have HM6:Hid (dG Tryz.prog 9 W6 m (n+1) (fH ks rep (n+1))):=aa (hm6.ext fun s=>by have:=xV (rep:=rep) HX.out SB ZB.out s;rw[hD] at this;exact this)
      clear hm6 Wu Fe b5 hM5 SB hD n4 m4 c0 c1 c2 c3 c4 c5 c6 cs d0;go_region
      go_wp2_with fail
      exact⟨⟨n+1,by go_num,by rw[HDS.out],mW.out,HG6.out,HM6.out,HE.out⟩,by have:=mW.out;simp[intOf];omega⟩
     ·have g3:decide ((n:Int)<(E:Int))=false:=bN (by omega)
      go_wp2_with fail
      obtain⟨W5,U4⟩ :∃W5,W5=(w4.alloc (.cells #[.int .i64 a,.int .i64 d] 199)).alloc (.cells #[.int .i64 (x.loc:Int),.int .i64 0] 199):=⟨_,rfl⟩;rw[←U4];have b5:Below w4.heap.size w4 W5:=by rw[U4];exact Below.two _ _
      have ZT:W5.heap[w4.heap.size+1]? = some (.cells #[.int .i64 (x.loc:Int),.int .i64 0] 199 (0,0)):=by
       rw[U4];have:=heap_alloc_new (w4.alloc (.cells #[.int .i64 a,.int .i64 d] 199)) (.cells #[.int .i64 (x.loc:Int),.int .i64 0] 199);rwa[an] at this
      have l0:=gQ ZT;have l1:=gR ZT;clear U4 ZT;have n5:=(b5.cell (p:=⟨wr.heap.size,4,none⟩) hw4).trans n4;have m5:=(b5.cell (p:=⟨kb,1,none⟩) (cC PQ B4.out.size)).trans m4;have Fe:=B4.out.trans (b5.mono B4.out.size);have hM5:dG Tryz.prog 9 W5.drew m n (fH ks rep n):=Ru.out.same (Fe.block m Ru.out.lt);obtain⟨W6,hrun,hm6,Wu⟩:=hM5.put (t:=193) (e:=199) Tryz.underlying9 Tryz.underlying193 (by unfold maxLen;omega) x.hd.s (by unfold maxLen;omega) (.agg #[.int .i64 (x.loc:Int),.int .i64 0]) rfl
      have SB:rf x=true:=bF U3.out;have hD:(rZ ks rep n:Int)=0:=by
       rw[Gu mW.out,←HE0.out];rw[g3];rfl
      have HG6:=aa (HG.out.trans ((grown_of (m:=m) Fe.drew).trans Wu));have HM6:Hid (dG Tryz.prog 9 W6 m (n+1) (fH ks rep (n+1))):=aa (hm6.ext fun s=>by have:=xV (rep:=rep) HX.out SB ZB.out s;rw[hD] at this;exact this)
      clear hm6 Wu Fe b5 hM5 SB hD n4 m4 c0 c1 c2 c3 c4 c5 c6 cs d0;go_region
      go_wp2_with fail
      exact⟨⟨n+1,by go_num,by rw[HDS.out],mW.out,HG6.out,HM6.out,HE.out⟩,by have:=mW.out;simp[intOf];omega⟩
   ·have hl0:rf x=false:=bN zo
    have HWO:=aa (Ei (rep:=rep) HX.out hl0);have HE:Hid (ch fr f ks (n+1) (ks.drop (n+1))=ch fr f ks 0 ks):=aa (by rw[←HR.out,uC.out,PN fun h=>zo h.1])
    have g2:(x.hd.kind != 32)=true:=oU.2 zo;have vX:=vv HX.out;have U3:=aa zo;clear zo hl0;cases Ej:isDecl x with
    | true =>
     rw[Ej] at PT vX;replace vX:gZ ks (n+1)=gZ ks n+1:=vX;have HDS:=aa vX;clear vX Ej;go_wp2_with fail
     refine PT.out.mono ?_;rintro e w2 ⟨rfl,rfl⟩;go_wp2_with fail
     exact⟨⟨n+1,by go_num,by rw[HDS.out];go_num,mW.out,HG.out.trans (World.grownBy_alloc _ _ _),by rw[HWO.out];exact(Ru.out.same ((World.grownBy_alloc wr _ none).block m Ru.out.lt (by simp))).mono (gj n),HE.out⟩,by have:=mW.out;simp[intOf];omega⟩
    | false =>
     rw[Ej] at PT vX;replace vX:gZ ks (n+1)=gZ ks n:=vX;have HDS:=aa vX;clear vX Ej;go_wp2_with fail
     refine PT.out.mono ?_;rintro e w2 ⟨rfl,rfl⟩;go_wp2_with fail
     exact⟨⟨n+1,by go_num,by rw[HDS.out],mW.out,HG.out.trans (World.grownBy_alloc _ _ _),by rw[HWO.out];exact(Ru.out.same ((World.grownBy_alloc wr _ none).block m Ru.out.lt (by simp))).mono (gj n),HE.out⟩,by have:=mW.out;simp[intOf];omega⟩
  ·have zD:n=ks.length:=by omega
   go_wp2_with fail
   go_ret
   have hE:ch fr f ks 0 ks=none:=by
    rw[←HR.out,zD,wJ,ch]
   rw[hE];subst zD;exact⟨HG.out,rfl,Ru.out⟩
theorem Gv {α:Type} {L:List α} {x t:α} {i:Nat} (h:(L++[x])[i]? = some t):L[i]? = some t∨(i=L.length∧t=x):=by
 by_cases hi:i<L.length
 ·rw[kS hi] at h
  exact .inl h
 ·rw[zM (by omega)] at h
  have:=(aL.1 h).1;rw[mX] at this;obtain h0:i-L.length=0:=by omega
  rw[h0] at h;injection h with h;exact .inr ⟨by omega,h.symm⟩
theorem Cc {L:List mP} {x:mP} {p:mP→Value} (h :∀(i j:Nat) t u,i≠j→L[i]? = some t→L[j]? = some u→∀g,(p t).ownBlock=some g→(p u).ownBlock≠some g) (hx:(p x).ownBlock=none) :∀(i j:Nat) t u,i≠j→(L++[x])[i]? = some t→(L++[x])[j]? = some u→∀g,(p t).ownBlock=some g→(p u).ownBlock≠some g:=by
 intro i j t u vY hi hj g hg;rcases Gv hj with hj | ⟨hj,rfl⟩
 ·rcases Gv hi with hi | ⟨hi,rfl⟩
  ·exact h i j t u vY hi hj g hg
  ·rw[hx] at hg;cases hg
 ·rw[hx];intro e;cases e
theorem e8.U6 {W W1:World} {B b:Nat} {nv:Value} {N:Nat} {st:aG} {fv:Value} {ub ob:Nat} {L:List mP} (h:e8 W B b nv N st fv ub ob L) (hb:re fv.ownBlock W W1) {x:cR} (hv:x.vars=[]) (hu:x.bR=[]) {fv':Value} (hr:W1.ownsRow B 52 6 fv' (L++[(x,Value.slice none 0 0,Value.slice none 0 0)]).length ((L++[(x,Value.slice none 0 0,Value.slice none 0 0)]).flatMap OS)) :
  e8 (W1.setCell ⟨b,1,none⟩ fv') B b nv N { st with fns:=st.fns++[x]} fv' ub ob (L++[(x,Value.slice none 0 0,Value.slice none 0 0)])∧Fr [52,87] W (W1.setCell ⟨b,1,none⟩ fv'):=by
 have ho:=re.cS h.fns.row hb;have hblk:=ho.2 b _ _ _ h.blk (by decide)
 have Jv:=Kr.set hblk 1 fv';refine⟨⟨bn hblk 1 fv',⟨cS hr Jv (by decide),fun t ht=>?_,fun t ht=>?_,Cc (p:=fun t=>t.2.1) h.fns.pM rfl,Cc (p:=fun t=>t.2.2) h.fns.qG rfl⟩,by rw[mZ,h.are];rfl,lB (lB h.uses ho (by decide)) Jv (by decide),lB (lB h.wq ho (by decide)) Jv (by decide),h.pos⟩,((Fr.but h.fns.row (E:=[52]) (by decide) hb).mono (by decide)).trans ((Fr.set (E:=[87]) hblk (by decide) _ _).mono (by decide))⟩
 ·rcases dd.1 ht with ht|ht
  ·exact cS (cS (h.fns.vars t ht) ho (by decide)) Jv (by decide)
  ·obtain rfl:=bI.1 ht
   show World.ownsRow _ B _ 3 (.slice none 0 0) x.vars.length (x.vars.flatMap ti)
   rw[hv];exact World.ownsRow_nil _ _ _ _
 ·rcases dd.1 ht with ht|ht
  ·exact cS (cS (h.fns.bR t ht) ho (by decide)) Jv (by decide)
  ·obtain rfl:=bI.1 ht
   show World.ownsRow _ B _ 2 (.slice none 0 0) x.bR.length (x.bR.flatMap Gf)
   rw[hu];exact World.ownsRow_nil _ _ _ _
theorem PU {ops:Array Oper} {o:Oper} {a:Act} {K:Act→World→Prop} {Q:Exit→Act→World→Prop} {E:Prop} (w0 w1:World) (n:mP) (hgd:o.guard=none) (sl y:Operand)
  (ho:o.op=.call { callee:=.builtin .append,args:=#[sl,y],argTypes:=#[31,31]}) (B:Nat) (v:Value) (ns:List mP) (hs:a.eval sl=v) (hown:w0.ownsRow B 52 6 v ns.length (ns.flatMap OS)) (dZ :∀(i:Nat),i<w0.heap.size→w1.heap[i]? = w0.heap[i]?) (g:Nat) (hg:g=w0.heap.size) (hy:a.eval y=.slice (some ⟨g,0,none⟩) 1 1)
  (hcell:w1.heap[g]? = some (.cells (OS n).toArray 52 (0,0))) (h1c:n.2.1=.slice none 0 0∧n.2.2=.slice none 0 0) (hlen:ns.length≤1000000) (hB:B≤w0.heap.size) (hle:w0.heap.size≤w1.heap.size) (Zw:w1.os=w0.os∧w1.tape=w0.tape∧w1.output=w0.output)
  (h :∀g' c' w',w'.ownsRow B 52 6 (.slice (some ⟨g',0,none⟩) (ns.length+1) c') (ns++[n]).length ((ns++[n]).flatMap OS)→re v.ownBlock w0 w'→Below B w0 w'→K (a.put o.dst (.slice (some ⟨g',0,none⟩) (ns.length+1) c')) w') :
  if Region.wanted o (yielded ops a.tmps)=true then Oper.wp Tryz.prog o a w1 K Q else E:=by
 obtain⟨i0,nB,hz0,hz1,hz2⟩:=info_parts O9;refine BC w0 w1 (OS n) hgd sl y 31 52 i0 _ 6 80 ho Tryz.underlying31 nB hz0 hz1 hz2 rfl (by omega) (by omega) B v ns.length _ hs hown dZ g hg hy hcell rfl (by intro u hu;simp[OS,h1c] at hu;rcases hu with rfl|rfl|rfl|rfl|rfl<;>rfl) hlen hB hle Zw ?_
 intro g' c' w' r1 r2 r3 _;refine h g' c' w' ?_ r2 r3;rw[bM,mX,pU,ED];exact r1
def xW (B b:Nat) (nv:Value) (N ub ob:Nat) (st:aG) (x:cR) (lv:Value) (w:World) (e:Ending) (w':World):Prop :=
 e=.returned (.agg #[.int .i64 (st.fns.length:Int),.int .i64 (-1),.pointer none,lv])∧jV w' B b nv N { st with fns:=st.fns++[x]} ub ob∧Below B w w'∧Fr [52,87] w w'
theorem oa (W:World) (r:Nat) (a c d e:Value) (k:Nat) (hk:k≠r):((((W.setCell ⟨r,0,none⟩ a).setCell ⟨r,1,none⟩ c).setCell ⟨r,2,none⟩ d).setCell ⟨r,3,none⟩ e).heap[k]? = W.heap[k]?:=by
 rw[Below.heap_setCell _ _ _ k hk,Below.heap_setCell _ _ _ k hk,Below.heap_setCell _ _ _ k hk,Below.heap_setCell _ _ _ k hk]
theorem xX {B:Nat} {nv:Value} {N ub ob:Nat} (b:Nat) (x:cR) (la:Option Addr) (ln lc:Nat) (st:aG) (w:World) (hw:jV w B b nv N st ub ob) (hv:x.vars=[]) (hu:x.bR=[]) (Pj:st.fns.length≤100000) :
  Calls Tryz.prog 27 #[.pointer (some ⟨b,0,none⟩),.agg #[.int .i64 (x.node:Int),.int .i64 x.parent,.int .i64 (x.params:Int),.bool x.many,.slice none 0 0,.slice none 0 0],.slice la ln lc] w (xW B b nv N ub ob st x (.slice la ln lc) w):=by
 obtain⟨fv,L,hw⟩:=hw;obtain⟨hbl,oN,s9⟩:=hw.mV;have hBb:B≤b:=hw.pos;obtain⟨FA,fc,FZ,hfc,_⟩:=dy hw.fns.row;subst FZ;have xt:L.length=st.fns.length:=hw.len;have HW:=aa hw;have HV:=aa hv;have HU:=aa hu;unfold xW;rw[←xt] at Pj ⊢;have HLl:=aa xt;clear hw hv hu xt;obtain⟨W1,hW1⟩ :∃W1,W1=(w.alloc (.cells #[.int .i64 (x.node:Int),.int .i64 x.parent,.int .i64 (x.params:Int),.bool x.many,.slice none 0 0,.slice none 0 0] 52)).alloc (.cells #[.int .i64 0,.int .i64 0,.pointer none,.slice none 0 0] 92):=⟨_,rfl⟩;have dK:Hid (Below w.heap.size w W1):=aa (by rw[hW1];exact Below.two _ _)
 have eK:Hid (W1.heap.size=w.heap.size+1+1):=aa (by rw[hW1,an,an])
 have hJ:W1.heap[w.heap.size]? = some (.cells #[.int .i64 (x.node:Int),.int .i64 x.parent,.int .i64 (x.params:Int),.bool x.many,.slice none 0 0,.slice none 0 0] 52 (0,0)):=by
  rw[hW1];exact(Below.heap_alloc _ _ _ (by rw[an];omega)).trans (heap_alloc_new w _)
 have Yi:W1.heap[w.heap.size+1]? = some (.cells #[.int .i64 0,.int .i64 0,.pointer none,.slice none 0 0] 92 (0,0)):=by
  rw[hW1];have:=heap_alloc_new (w.alloc (.cells #[.int .i64 (x.node:Int),.int .i64 x.parent,.int .i64 (x.params:Int),.bool x.many,.slice none 0 0,.slice none 0 0] 52)) (.cells #[.int .i64 0,.int .i64 0,.pointer none,.slice none 0 0] 92);rwa[an] at this
 have x0:W1.cell? ⟨w.heap.size,0,none⟩=some (.int .i64 (x.node:Int)):=ab hJ 0;have x1:W1.cell? ⟨w.heap.size,1,none⟩=some (.int .i64 x.parent):=ab hJ 1;have x2:W1.cell? ⟨w.heap.size,2,none⟩=some (.int .i64 (x.params:Int)):=ab hJ 2;have x3:W1.cell? ⟨w.heap.size,3,none⟩=some (.bool x.many):=ab hJ 3;have x4:W1.cell? ⟨w.heap.size,4,none⟩=some (.slice none 0 0):=ab hJ 4;have x5:W1.cell? ⟨w.heap.size,5,none⟩=some (.slice none 0 0):=ab hJ 5;have HPS:=aa Yi;have jg:=aa hW1;have nO:=aa (HW.out.later dK.out);have d1:W1.cell? ⟨b,1,none⟩=some (.slice FA L.length fc):=ab nO.out.blk 1;clear hJ Yi hW1;go_enter Tryz.func27,Tryz.ntmps27
 go_wp2_with fail
 rw[←jg.out];clear jg;have hb1:b<W1.heap.size:=by have:=eK.out;omega
 have hw1l:w.heap.size<W1.heap.size:=by have:=eK.out;omega
 have hp1l:w.heap.size+1<W1.heap.size:=by have:=eK.out;omega
 have hB1:B≤W1.heap.size:=by have:=nO.out.mV.1;omega
 have ca:B≤w.heap.size:=by omega
 have HZ:Hid ((W1.alloc (.cells #[.int .i64 (x.node:Int),.int .i64 x.parent,.int .i64 (x.params:Int),.bool x.many,.slice none 0 0,.slice none 0 0] 52)).drew.heap[W1.heap.size]? = some (.cells #[.int .i64 (x.node:Int),.int .i64 x.parent,.int .i64 (x.params:Int),.bool x.many,.slice none 0 0,.slice none 0 0] 52 (0,0))):=aa (heap_alloc_new W1 _);have d1b:(W1.alloc (.cells #[.int .i64 (x.node:Int),.int .i64 x.parent,.int .i64 (x.params:Int),.bool x.many,.slice none 0 0,.slice none 0 0] 52)).cell? ⟨b,1,none⟩=some (.slice FA L.length fc):=(Below.cell (B:=W1.heap.size) ((Below.refl _ _).alloc (ai _) _) (p:=⟨b,1,none⟩) hb1).trans d1;go_region_law ((refine PU W1 _ (x,.slice none 0 0,.slice none 0 0) (by rfl) _ _ (by rfl) B (.slice FA L.length fc) L (by rfl) nO.out.fns.row (fun i hi=>Below.heap_alloc W1 _ i hi) W1.heap.size rfl (by rfl) HZ.out ⟨rfl,rfl⟩ (by omega) hB1 (by simp[World.drew]) ⟨rfl,rfl,rfl⟩ ?_;intro g6 c6 w6 r6 b6 bl6;have ZU:=re.cS nO.out.fns.row b6;have PV:=ZU.2 b _ _ _ nO.out.blk (by decide);have abI:=ZU.2 (w.heap.size+1) _ _ _ HPS.out (by decide);have d16:=ab PV 1;have Rc:=aw PV 1;have R6:=aa r6;have B6:=aa b6;have BL6:=aa bl6;have P6:=aa abI;have S6:=aa b6.1;clear r6 b6 bl6 PV ZU abI))
 all_goals
  have HQ:=nO.out.U6 B6.out (x:=x) HV.out HU.out R6.out;have hBl:=BL6.out.setCell (p:=⟨b,1,none⟩) hBb (.slice (some ⟨g6,0,none⟩) (L.length+1) c6);have PW:=(Below.heap_setCell w6 ⟨b,1,none⟩ (.slice (some ⟨g6,0,none⟩) (L.length+1) c6) (w.heap.size+1) (by show w.heap.size+1≠b;omega)).trans P6.out
  generalize w6.setCell ⟨b,1,none⟩ (.slice (some ⟨g6,0,none⟩) (L.length+1) c6)=W7 at HQ hBl PW ⊢;obtain⟨HQ1,HQ2⟩:=HQ;have e1:W7.cell? ⟨b,1,none⟩=some (.slice (some ⟨g6,0,none⟩) (L.length+1) c6):=ab HQ1.blk 1;have y0:=aw PW 0;have y1:=aw PW 1;have y2:=aw PW 2;have y3:=aw PW 3;have z0:W7.cell? ⟨w.heap.size+1,0,none⟩=some (.int .i64 0):=ab PW 0;have z1:W7.cell? ⟨w.heap.size+1,1,none⟩=some (.int .i64 0):=ab PW 1;have z2:W7.cell? ⟨w.heap.size+1,2,none⟩=some (.pointer none):=ab PW 2;have z3:W7.cell? ⟨w.heap.size+1,3,none⟩=some (.slice none 0 0):=ab PW 3;have Q1:=aa HQ1;have Q2:=aa HQ2;have Q3:=aa hBl;have P7:=aa PW;clear HQ1 HQ2 hBl PW d16 Rc R6 B6 BL6 P6 S6 x0 x1 x2 x3 x4 x5 d1 d1b HZ HPS;go_wp2_with fail
  have k7:vV W7 (w.heap.size+1) 92:=⟨_,_,P7.out⟩;refine bodyPost_ret (v:=.agg #[.int .i64 (L.length:Int),.int .i64 (-1),.pointer none,.slice la ln lc]) (by simp[results,Tryz.results27,go_sem,z0,z1,z2,z3]) rfl ⟨rfl,⟨_,_,Q1.out.fr (E:=[92]) ((k7.fr (by decide) _ _).trans (((k7.set _ _ _).fr (by decide) _ _).trans ((((k7.set _ _ _).set _ _ _).fr (by decide) _ _).trans ((((k7.set _ _ _).set _ _ _).set _ _ _).fr (by decide) _ _)))) (by decide)⟩,?_,?_⟩
  ·exact((((((dK.out.mono ca).trans Q3.out).setCell (p:=⟨w.heap.size+1,0,none⟩) (by show B≤w.heap.size+1;omega) _).setCell (p:=⟨w.heap.size+1,1,none⟩) (by show B≤w.heap.size+1;omega) _).setCell (p:=⟨w.heap.size+1,2,none⟩) (by show B≤w.heap.size+1;omega) _).setCell (p:=⟨w.heap.size+1,3,none⟩) (by show B≤w.heap.size+1;omega) _)
  ·exact((Fr.ae dK.out).trans Q2.out).past (fun k hk=>oa W7 _ _ _ _ _ k (by omega)) (by simp[World.setCell])
end Go.Proofs.YteflkdlaoiijbaaGreatDoor
namespace Go.Proofs.YteflkdlaoiijbaaGreatDoor
open Go.RowKit
theorem JS {k n:Int} {kk:List Int} (h:qB k n kk) (h1:1≤k) (h2:k≤32) :∀a∈kk,(1≤a∧a≤32)∧(k≠18→a≠19∧a≠28):=by
 intro a ha;have ex :∀{a},tL a→(1≤a∧a≤32)∧(k≠18→a≠19∧a≠28):=fun{a} h=>by unfold tL at h;omega
 have key:k=1∨k=2∨k=3∨k=4∨k=5∨k=6∨k=7∨k=8∨k=9∨k=10∨k=11∨k=12∨k=13∨k=14∨k=15∨k=16∨k=17∨k=18∨k=19∨k=20∨k=21∨k=22∨k=23∨k=24∨k=25∨k=26∨k=27∨k=28∨k=29∨k=30∨k=31∨k=32:=by omega
 by_cases c1:k=1∨k=2∨k=3∨k=4∨k=5∨k=6∨k=7∨k=30∨k=31∨k=32
 ·rw[h.none c1] at ha;cases ha
 by_cases c2:k=8∨k=12∨k=17
 ·obtain⟨x,y,e,hx,hy⟩:=h.two c2
  rw[e] at ha;simp only[bb,oS,oV] at ha;rcases ha with rfl|rfl
  ·exact ex hx
  ·exact ex hy
 by_cases c3:k=9∨k=10
 ·exact ex ((h.call c3).2 a ha)
 by_cases c4:k=11∨k=22
 ·rw[h.body c4,bI] at ha
  omega
 by_cases c5:k=13∨k=14∨k=16
 ·obtain⟨x,e,hx⟩:=h.one c5
  rw[e,bI] at ha;exact ex (ha▸hx)
 by_cases c6:k=15
 ·have:=h.items c6 a ha
  omega
 by_cases c7:k=18
 ·obtain⟨l,r,e,hl,hr⟩:=h.block c7
  rw[e,dd] at ha;refine⟨?_,fun h=>absurd c7 h⟩
  rcases ha with ha|ha
  ·have:=hl a ha
   unfold StK at this;omega
  ·rcases hr with rfl|rfl
   ·cases ha
   ·rw[bI] at ha;omega
 by_cases c8:k=19∨k=29
 ·exact ex (h.list c8 a ha)
 by_cases c9:k=20
 ·obtain⟨l,r,e,hl,_,_,hr⟩:=h.assign c9
  rw[e,dd] at ha;rcases ha with ha|ha
  ·have:=hl a ha;omega
  ·exact ex (hr a ha)
 by_cases c10:k=21
 ·obtain⟨x,e,hx⟩:=h.Zr c10
  rw[e,bI] at ha;omega
 by_cases c11:k=23
 ·obtain⟨x,e,hx⟩:=h.Zs c11
  rw[e] at ha;simp only[bb,oS,oV] at ha;rcases ha with rfl|rfl
  ·exact ex hx
  ·omega
 by_cases c12:k=24
 ·obtain⟨x,e,hx⟩:=h.Ge c12
  rw[e] at ha;simp only[bb,oS,oV] at ha;rcases ha with rfl|rfl
  ·omega
  ·exact ex hx
 by_cases c13:k=25
 ·obtain⟨ps,r,e,_,hp,hr⟩:=h.if_ c13
  rw[e,dd] at ha;rcases ha with ha|ha
  ·obtain⟨p,lK,sK⟩:=tV.1 ha
   have:=hp p lK;simp only[bb,oS,oV] at sK;rcases sK with rfl|rfl
   ·exact ex this.1
   ·omega
  ·rcases hr with rfl|rfl
   ·cases ha
   ·rw[bI] at ha;omega
 by_cases c14:k=26
 ·obtain⟨l,e,_,hl⟩:=h.for_ c14
  rw[e,dd,bI] at ha;rcases ha with ha|ha
  ·exact ex (hl a ha)
  ·omega
 by_cases c15:k=27
 ·obtain⟨l,e,_,hl⟩:=h.each c15
  rw[e,dd,bI] at ha;rcases ha with ha|ha
  ·exact ex (hl a ha)
  ·omega
 by_cases c16:k=28
 ·rw[h.func c16,bI] at ha
  omega
 omega
structure kD (T:List Nd) (t:Lt):Prop where
 Ku:Lt.In T t
 form:t.vl
 wf:t.Wf
 nodup:t.gY.Nodup
 kind:1≤t.hd.kind∧t.hd.kind≤32
structure fI (T:List Nd) (ks:List Lt):Prop where
 Ku:Lt.u9 T ks
 form:Lt.iE ks
 wf:Lt.zb ks
 nodup:(Lt.bt ks).Nodup
 kind :∀k∈ks,1≤k.hd.kind∧k.hd.kind≤32
theorem kD.sub {T:List Nd} {t:Lt} (h:kD T t):fI T t.sub∧(t.hd.kind≠18→∀k∈t.sub,Still k)∧qB t.hd.kind t.hd.num (oM t.sub):=by
 obtain⟨i,g,ks⟩:=t;obtain⟨h1,h2,h3,h4,h5⟩:=h;unfold Lt.In at h1;unfold Lt.vl at h2;unfold Lt.Wf at h3;rw[Lt.gY,mz] at h4;have hk:=JS h2.1 h5.1 h5.2;have key :∀k∈ks,(1≤k.hd.kind∧k.hd.kind≤32)∧(g.kind≠18→k.hd.kind≠19∧k.hd.kind≠28):=fun k EZ=>hk _ (j6 EZ)
 exact⟨⟨h1.2.2,h2.2,h3.2,h4.2,fun k hk=>(key k hk).1⟩,fun hne k hk=>(key k hk).2 hne,h2.1⟩
theorem fI.cons {T:List Nd} {k:Lt} {ks:List Lt} (h:fI T (k::ks)):kD T k∧fI T ks:=by
 obtain⟨h1,h2,h3,h4,h5⟩:=h;unfold Lt.u9 at h1;unfold Lt.iE at h2;unfold Lt.zb at h3;rw[Lt.bt,oR] at h4;exact⟨⟨h1.1,h2.1,h3.1,h4.1,h5 k (bQ ..)⟩,⟨h1.2,h2.2,h3.2,h4.2.1,fun x hx=>h5 x (bX _ hx)⟩⟩
theorem fI.at_ {T:List Nd} :∀{ks:List Lt},fI T ks→∀k∈ks,kD T k
 | x::ks,h,k,hk=>by
  rcases bb.1 hk with rfl|hk
  ·exact h.cons.1
  ·exact h.cons.2.at_ k hk
theorem fI.quiet {T:List Nd} :∀{ks:List Lt},fI T ks→Lt.ml ks
 | [],_=>by unfold Lt.ml;trivial
 | .mk i g l::ks,h=>by
  have h1:=h.cons.1.sub;have h2:fI T l:=h1.1;unfold Lt.ml Lt.Quiet;exact⟨⟨fun hne=>h1.2.1 hne.2,fI.quiet (ks:=l) h2⟩,fI.quiet (ks:=ks) h.cons.2⟩
def HdF (f:Nat) (L:List cJ):Prop:=∀l r,L=l::r→l.fn=f
theorem HdF.grow {f:Nat} {L:List cJ} (h:HdF f L) (a:List ju):HdF f (grow a L):=by
 intro l r e;cases L with
 | nil=>cases e
 | cons x y =>
  injection e with e _;rw[←e];exact h x y rfl
structure fe (T:List Nd) (B b:Nat) (nv:Value) (ub ob f:Nat) (pa:Option Addr) (lv:Value) (ms:List Nat) (L:List cJ) (st:aG) (w:World) (a s:Nat):Prop where
 fE:wo w B nv T
 rs:jV w B b nv T.length st ub ob
 pos:pg w B f (.pointer pa) lv ms L st
 hd:HdF f L
 cx:Cx f st
 few:dA st.fns
 fr :∀x∈st.frames,x.fn<st.fns.length
 names:st.names.length+a≤100000
 fns:st.fns.length+s≤100000
 fC:L.length+s≤100000
section
variable {T:List Nd} {B b:Nat} {nv:Value} {ub ob f:Nat} {pa:Option Addr} {lv:Value} {ms:List Nat} {L:List cJ} {st st':aG} {w w':World} {a s a' s':Nat}
theorem fe.mono (h:fe T B b nv ub ob f pa lv ms L st w a s) (h1:a'≤a) (h2:s'≤s):fe T B b nv ub ob f pa lv ms L st w a' s' :=
 ⟨h.fE,h.rs,h.pos,h.hd,h.cx,h.few,h.fr,by have:=h.names;omega,by have:=h.fns;omega,by have:=h.fC;omega⟩
theorem fe.next {k:Lt} {e:Ending} (h:fe T B b nv ub ob f pa lv ms L st w (k.wt+a) (k.size+s)) (hk:kD T k) (hr:aY k f st=.ok st') (hp:aq B b nv T.length ub ob lv L st (.ok st') w e w') :
  e=.returned .nilIface∧∃x,st'.names=x++st.names∧(L=[]→x=[])∧fe T B b nv ub ob f pa lv ms (grow x L) st' w' a s∧cN B ob lv L.length (ey L) w w'∧st'.frames=st.frames:=by
 obtain⟨hb,rfl,Rv,mT,x,hx1,hx2,hx3⟩:=hp;have xe:=mh k hr h.few;have hall:=ly k hr hk.nodup h.cx hk.wf;have hf:=zg k hr;refine⟨rfl,x,hx1,hx2,⟨h.fE.below hb,Rv,h.pos.on mT hx3 hx1 hx2 hf,h.hd.grow x,hall.1.cx h.cx,xe.few,fun y hy=>?_,?_,?_,?_⟩,mT,hf⟩
 ·rw[hf] at hy
  exact cC (h.fr y hy) xe.least
 ·have:=xe.names;have:=h.names;omega
 ·have:=xe.fns;have:=h.fns;omega
 ·rw[cy];have:=h.fC;omega
theorem aq.trans {N:Nat} {st1:aG} {r2:Rs aG} {w1 w2:World} {e2:Ending} {x:List ju} (hb:Below B w w1) (h2:cN B ob lv L.length (ey L) w w1) (h3:st1.names=x++st.names) (h4:L=[]→x=[]) (k:aq B b nv N ub ob lv (grow x L) st1 r2 w1 e2 w2):aq B b nv N ub ob lv L st r2 w e2 w2:=by
 refine⟨hb.trans k.1,?_⟩;have k2:=k.2;cases r2 with
 | error y=>exact k2
 | ok st2 =>
  obtain⟨k3,k4,k5,y,k6,k7,k8⟩:=k2;rw[cy,oD] at k5;refine⟨k3,k4,h2.trans k5,y++x,?_,fun e=>?_,?_⟩
  ·rw[k6,h3,eS]
  ·rw[h4 e,k7 (by rw[e];rfl)];rfl
  ·rw[grow_grow] at k8;exact k8
end
def bB (T:List Nd) (B b:Nat) (nv:Value) (ub ob:Nat) (t:Lt):Prop :=
 ∀(f:Nat) (loop:Int) (pa la:Option Addr) (lc:Nat) (ms:List Nat) (L:List cJ) (st:aG) (w:World),fe T B b nv ub ob f pa (.slice la L.length lc) ms L st w t.wt t.size→(18≤t.hd.kind→loop=cG f st.frames)→(L≠[]∨t.hd.kind=18) →
  Calls Tryz.prog 26 #[.pointer (some ⟨b,0,none⟩),.int .i64 (t.loc:Int),.agg #[.int .i64 (f:Int),.int .i64 loop,.pointer pa,.slice la L.length lc]] w (aq B b nv T.length ub ob (.slice la L.length lc) L st (aY t f st) w)
def qP (B ob:Nat) (lv:Value) (n:Nat) (top:Option Nat) (w:World) (kv:Value) (xs:List Int):Prop :=
 ∃A c,kv=.slice A xs.length c∧xs.length≤c∧(xs=[]∨∃bk o,A=some ⟨bk,o,none⟩∧∀w',cN B ob lv n top w w'→∀(j:Nat) x,xs[j]? = some x→w'.cell? ⟨bk,o+j,none⟩=some (.int .i64 x))
theorem gM.keeps {B ob n:Nat} {lv kv:Value} {top:Option Nat} {w:World} {xs:List Int} (h:gM w B kv xs):qP B ob lv n top w kv xs:=by
 obtain⟨A,c,e,hc,h1⟩:=h;refine⟨A,c,e,hc,h1.imp id ?_⟩;rintro⟨bk,o,e2,hb,hx⟩;exact⟨bk,o,e2,fun w' hf j x hj=>(hf.below.cell (p:=⟨bk,o+j,none⟩) hb).trans (hx j x hj)⟩
theorem qP.later {B ob n:Nat} {lv kv:Value} {top:Option Nat} {w w':World} {xs:List Int} (h:qP B ob lv n top w kv xs) (hf:cN B ob lv n top w w'):qP B ob lv n top w' kv xs:=by
 obtain⟨A,c,e,hc,h1⟩:=h;refine⟨A,c,e,hc,h1.imp id ?_⟩;rintro⟨bk,o,e2,hx⟩;exact⟨bk,o,e2,fun w2 hf2=>hx w2 (hf.trans hf2)⟩
theorem qQ {ks:List Lt} {n:Nat} {x:Lt} (h:ks[n]? = some x):Lt.dM (ks.drop n)=x.wt+Lt.dM (ks.drop (n+1))∧Lt.al (ks.drop n)=x.size+Lt.al (ks.drop (n+1)):=by
 rw[drop_at h,Lt.dM,Lt.al];exact⟨rfl,rfl⟩
end Go.Proofs.YteflkdlaoiijbaaGreatDoor
namespace Go.Proofs.YteflkdlaoiijbaaGreatDoor
theorem PX (i:Nat):Cx 0 (gK i) :=
 ⟨⟨Nat.zero_lt_one,fun g x hx=>by
  cases g with
  | zero=>injection hx with hx;subst hx;exact⟨.inl ⟨rfl,rfl⟩,ai _⟩
  | succ g=>simp[gK] at hx⟩,Nat.zero_lt_one,fun n hn=>by simp[gK] at hn⟩
theorem ZV {k:Int} (h:gH (eR k) 32=true):k=18:=by
 unfold eR at h;split at h
 ·exact absurd h (by decide +kernel)
 ·split at h
  ·exact absurd h (by decide +kernel)
  ·split at h
   ·exact absurd h (by decide +kernel)
   ·split at h
    ·exact absurd h (by decide +kernel)
    ·split at h
     ·exact absurd h (by decide +kernel)
     ·split at h
      ·assumption
      ·split at h
       ·exact absurd h (by decide +kernel)
       ·split at h
        ·exact absurd h (by decide +kernel)
        ·exact absurd h (by decide +kernel)
theorem JT {k n:Int} {ss:List Int} (hk:k=6∨k=7∨k=30∨k=31) (h:kj k n ss=true):ss=[]:=by
 have e:aW k n=[]:=by
  unfold aW;repeat rw[af (by omega)]
 unfold kj at h;rw[e,fy] at h;exact EL.1 h
theorem abJ {n:Int} {ss:List Int} (h:kj 24 n ss=true) :∃a b,ss=[a,b]∧gH a 32=true:=by
 have e:aW 24 n=[(1,1,[32,1])]:=by
  unfold aW;repeat rw[af (by decide)]
  rw[ak rfl]
 unfold kj at h;rw[e,fy,fy,dk] at h;obtain⟨h1,h2⟩:=h;rw[kH] at h1 h2;by_cases hc:(0:Int)<1∧iY ss [32,1]=true
 ·rw[ak hc] at h2
  have e2 :∀l,kH [32,1] 1 ss.length 1 l=(1,l):=fun l=>by
   cases ss.length with
   | zero=>rfl
   | succ m=>rw[kH,af (by omega)]
  have h2:(kH [32,1] 1 ss.length 1 (ss.drop 2)).2.isEmpty=true:=h2;rw[e2] at h2;have h3:=nH hc.2;have hb:=hc.2;match ss,h2,h3,hb with
  | [a,b],_,_,hb =>
   rw[iY,dk] at hb;exact⟨a,b,rfl,hb.1⟩
  | a::b::c::l,h2,_,_=>cases h2
  | [a],_,h3,_=>simp at h3
  | [],_,h3,_=>simp at h3
 ·rw[af hc] at h1
  exact absurd h1 (show ¬ (decide ((1:Int)≤0))=true by decide)
mutual
theorem WL {T:List Nd} (hT :∀x∈T,kj x.kind x.num (x.kids.map fun k=>eR (dE T k.toNat))=true) :∀(t:Lt),Lt.In T t→t.Wf
 | .mk i h ks,hi=>by
  unfold Lt.In at hi;obtain⟨hx,hk,hs⟩:=hi;unfold Lt.Wf;have h1:=hT h (ba hx);refine⟨⟨fun e=>?_,fun e=>?_⟩,PY hT ks hs⟩
  ·have:=JT e h1
   rw[pV,hk,pV] at this;exact this
  ·rw[e] at h1
   obtain⟨a,b,h2,h3⟩:=abJ h1;rw[hk,zY] at h2;match ks,h2,hs with
   | [x,y],h2,hs =>
    injection h2 with h2 _;rw[←h2] at h3;have h4:=ZV h3;refine⟨x,y,rfl,?_⟩;unfold Lt.u9 at hs;obtain⟨j,g,ls⟩:=x;have hg:=hs.1;unfold Lt.In at hg;have h4:dE T (((j:Nat):Int)).toNat=18:=h4;rw[iJ,og hg.1] at h4;exact h4
   | [],h2,_=>cases h2
   | [x],h2,_=>cases h2
   | _::_::_::_,h2,_=>cases h2
theorem PY {T:List Nd} (hT :∀x∈T,kj x.kind x.num (x.kids.map fun k=>eR (dE T k.toNat))=true) :∀(ks:List Lt),Lt.u9 T ks→Lt.zb ks
 | [],_=>by unfold Lt.zb;trivial
 | k::ks,hi=>by
  unfold Lt.u9 at hi;unfold Lt.zb;exact⟨WL hT k hi.1,PY hT ks hi.2⟩
end
open Go.RowKit
theorem oc {k:Int} (h:gH (eR k) 1=true):tL k:=by
 unfold tL;unfold eR at h;repeat' split at h
 all_goals first|omega|exact absurd h (by decide +kernel)
theorem abK {k:Int} (h:gH (eR k) 2=true):k=7∨k=8:=by
 unfold eR at h;repeat' split at h
 all_goals first|omega|exact absurd h (by decide +kernel)
theorem abL {k:Int} (h:gH (eR k) 4=true):k=9∨k=10:=by
 unfold eR at h;repeat' split at h
 all_goals first|omega|exact absurd h (by decide +kernel)
theorem abM {k:Int} (h:gH (eR k) 8=true):k=11:=by
 unfold eR at h;repeat' split at h
 all_goals first|omega|exact absurd h (by decide +kernel)
theorem ZW {k:Int} (h:gH (eR k) 16=true):k=16∨k=17:=by
 unfold eR at h;repeat' split at h
 all_goals first|omega|exact absurd h (by decide +kernel)
theorem vG {k:Int} (h:gH (eR k) 32=true):k=18:=by
 unfold eR at h;repeat' split at h
 all_goals first|omega|exact absurd h (by decide +kernel)
theorem ZX {k:Int} (h:gH (eR k) 64=true):StK k:=by
 unfold StK;unfold eR at h;repeat' split at h
 all_goals first|omega|exact absurd h (by decide +kernel)
theorem U7 {k:Int} (h:gH (eR k) 128=true):k=29:=by
 unfold eR at h;repeat' split at h
 all_goals first|omega|exact absurd h (by decide +kernel)
theorem Cd {r most:Int} :∀(f:Nat) (t:Int) (ks:List Int),∃a,ks=a++(kH [r] most f t ks).2∧(kH [r] most f t ks).1=t+(a.length:Int)∧(∀x∈a,gH x r=true)∧(a=[]∨t+(a.length:Int)≤most):=by
 intro f;induction f with
 | zero=>intro t ks;exact⟨[],rfl,by rw[kH];simp,fun x hx=>by simp at hx,.inl rfl⟩
 | succ f ih =>
  intro t ks;rw[kH];split
  ·rename_i hc
   obtain⟨h1,h2⟩:=hc;cases ks with
   | nil=>cases h2
   | cons k ks =>
    rw[iY,dk] at h2;obtain⟨a,e1,e2,e3,e4⟩:=ih (t+1) ks;refine⟨k::a,?_,?_,fun x hx=>?_,.inr ?_⟩
    ·show k::ks=k::(a++(kH [r] most f (t+1) ks).2)
     rw[←e1]
    ·show(kH [r] most f (t+1) ks).1=_
     rw[e2,List.length_cons];omega
    ·rcases bb.1 hx with rfl|hx
     ·exact h2.1
     ·exact e3 x hx
    ·rw[List.length_cons]
     rcases e4 with e4|e4
     ·subst e4
      simp;omega
     ·omega
  ·exact⟨[],rfl,by simp,fun x hx=>by simp at hx,.inl rfl⟩
theorem Ce {r s most:Int} :∀(f:Nat) (t:Int) (ks:List Int),∃ps:List (Int×Int),ks=(ps.flatMap fun p=>[p.1,p.2])++(kH [r,s] most f t ks).2∧(kH [r,s] most f t ks).1=t+(ps.length:Int)∧(∀p∈ps,gH p.1 r=true∧gH p.2 s=true)∧(ps=[]∨t+(ps.length:Int)≤most):=by
 intro f;induction f with
 | zero=>intro t ks;exact⟨[],rfl,by rw[kH];simp,fun x hx=>by simp at hx,.inl rfl⟩
 | succ f ih =>
  intro t ks;rw[kH];split
  ·rename_i hc
   obtain⟨h1,h2⟩:=hc;match ks,h2 with
   | [],h2=>cases h2
   | [k],h2=>rw[iY,iY,dk] at h2;exact absurd h2.2 (by simp)
   | k::l::ks,h2 =>
    rw[iY,iY,dk,dk] at h2;obtain⟨a,e1,e2,e3,e4⟩:=ih (t+1) ks;refine⟨(k,l)::a,?_,?_,fun x hx=>?_,.inr ?_⟩
    ·show k::l::ks=k::l::((a.flatMap fun p=>[p.1,p.2])++(kH [r,s] most f (t+1) ks).2)
     rw[←e1]
    ·show(kH [r,s] most f (t+1) ks).1=_
     rw[e2,List.length_cons];omega
    ·rcases bb.1 hx with rfl|hx
     ·exact⟨h2.1,h2.2.1⟩
     ·exact e3 x hx
    ·rw[List.length_cons]
     rcases e4 with e4|e4
     ·subst e4
      simp;omega
     ·omega
  ·exact⟨[],rfl,by simp,fun x hx=>by simp at hx,.inl rfl⟩
theorem gS {a most r:Int} {l:List Int} (h:fy [(a,most,[r])] l=true):(∀x∈l,gH x r=true)∧a≤(l.length:Int)∧(l=[]∨(l.length:Int)≤most):=by
 rw[fy,fy,dk] at h;obtain⟨h1,h2⟩:=h;obtain⟨b,e1,e2,e3,e4⟩:=Cd (r:=r) (most:=most) (l.length+1) 0 l;have h3:=EL.1 h2;have h1:=iK h1;have e5:(kH [r] most (l.length+1) 0 l).2=[]:=h3;rw[e5,j8] at e1;have h1:a≤(kH [r] most (l.length+1) 0 l).1:=h1;rw[e2] at h1;subst e1;exact⟨e3,by omega,e4.imp id (by omega)⟩
theorem qR {a most r b Cf s:Int} {l:List Int} (h:fy [(a,most,[r]),(b,Cf,[s])] l=true) :∃l1 l2,l=l1++l2∧(∀x∈l1,gH x r=true)∧a≤(l1.length:Int)∧(l1=[]∨(l1.length:Int)≤most)∧(∀x∈l2,gH x s=true)∧b≤(l2.length:Int)∧(l2=[]∨(l2.length:Int)≤Cf):=by
 rw[fy,dk] at h;obtain⟨h1,h2⟩:=h;obtain⟨c,e1,e2,e3,e4⟩:=Cd (r:=r) (most:=most) (l.length+1) 0 l;have h1:a≤(kH [r] most (l.length+1) 0 l).1:=iK h1;obtain⟨k1,k2,k3⟩:=gS h2;rw[e2] at h1;exact⟨c,_,e1,e3,by omega,e4.imp id (by omega),k1,k2,k3⟩
theorem PZ {a most r s b Cf q:Int} {l:List Int} (h:fy [(a,most,[r,s]),(b,Cf,[q])] l=true) :∃(ps:List (Int×Int)) (l2:List Int),l=(ps.flatMap fun p:Int×Int=>[p.1,p.2])++l2∧(∀p∈ps,gH p.1 r=true∧gH p.2 s=true)∧a≤(ps.length:Int)∧(∀x∈l2,gH x q=true)∧b≤(l2.length:Int)∧(l2=[]∨(l2.length:Int)≤Cf):=by
 rw[fy,dk] at h;obtain⟨h1,h2⟩:=h;obtain⟨c,e1,e2,e3,e4⟩:=Ce (r:=r) (s:=s) (most:=most) (l.length+1) 0 l;have h1:a≤(kH [r,s] most (l.length+1) 0 l).1:=iK h1;obtain⟨k1,k2,k3⟩:=gS h2;rw[e2] at h1;exact⟨c,_,e1,e3,by omega,k1,k2,k3⟩
theorem vH {r s:Int} {l:List Int} (h:fy [(1,1,[r,s])] l=true) :∃a b,l=[a,b]∧gH a r=true∧gH b s=true:=by
 rw[fy,fy,dk] at h;obtain⟨h1,h2⟩:=h;obtain⟨c,e1,e2,e3,e4⟩:=Ce (r:=r) (s:=s) (most:=1) (l.length+1) 0 l;have h1:1≤(kH [r,s] 1 (l.length+1) 0 l).1:=iK h1;have h3:(kH [r,s] 1 (l.length+1) 0 l).2=[]:=EL.1 h2;rw[e2] at h1;rw[h3,j8] at e1;match c,e1,e3,e4,h1 with
 | [p],e1,e3,_,_=>exact⟨p.1,p.2,e1,e3 p (bI.2 rfl)⟩
 | [],_,_,_,h1=>simp at h1
 | _::_::_,_,_,e4,_ =>
  rcases e4 with e4|e4
  ·cases e4
  ·simp at e4;omega
theorem oF {l:List Int} (h:1≤(l.length:Int)) (h':l=[]∨(l.length:Int)≤1):l.length=1:=by
 rcases h' with h'|h'
 ·rw[h'] at h;simp at h
 ·omega
theorem oG {kk:List Int} {p:Int→Prop} (h:(kk.map eR).length=1) (hp :∀x∈kk,p x) :∃a,kk=[a]∧p a:=by
 match kk,h,hp with
 | [a],_,hp=>exact⟨a,rfl,hp a (bI.2 rfl)⟩
 | [],h,_=>cases h
 | _::_::_,h,_=>simp at h
theorem Qa {l:List Int} {n:Int} (h:n≤(l.length:Int)) (h':l.map eR=[]∨(l.length:Int)≤n) (hn:1≤n):(l.length:Int)=n:=by
 rcases h' with h'|h'
 ·rw[pV] at h'
  subst h';simp at h;omega
 ·omega
theorem U8 {k n:Int} {kk:List Int} (h:kj k n (kk.map eR)=true):qB k n kk:=by
 have all :∀{r:Int} {p:Int→Prop},(∀{k},gH (eR k) r=true→p k)→∀{l:List Int},(∀x∈l.map eR,gH x r=true)→∀a∈l,p a:=fun hp l hl a ha=>hp (hl _ (j6 ha))
 unfold kj at h;refine⟨fun e=>?_,fun e=>?_,fun e=>?_,fun e=>?_,fun e=>?_,fun e=>?_,fun e=>?_,fun e=>?_,fun e=>?_,fun e=>?_,fun e=>?_,fun e=>?_,fun e=>?_,fun e=>?_,fun e=>?_,fun e=>?_⟩
 ·rw[show aW k n=[] by unfold aW;repeat rw[af (by omega)]] at h
  rw[fy] at h;exact pV.1 (EL.1 h)
 ·rw[show aW k n=[(1,1,[1,1])] by rcases e with rfl|rfl|rfl<;>simp[aW]] at h
  obtain⟨a,b,e1,e2,e3⟩:=vH h;match kk,e1 with
  | [x,y],e1 =>
   injection e1 with e4 e5;injection e5 with e5 _;exact⟨x,y,rfl,oc (by rw[e4];exact e2),oc (by rw[e5];exact e3)⟩
  | [],e1=>cases e1
  | [_],e1=>cases e1
  | _::_::_::_,e1=>cases e1
 ·rw[show aW k n=[(1,big,[1])] by rcases e with rfl|rfl<;>simp[aW]] at h
  obtain⟨h1,h2,_⟩:=gS h;rw[dm] at h2;exact⟨by omega,all oc h1⟩
 ·rw[show aW k n=[(1,1,[32])] by rcases e with rfl|rfl<;>simp[aW]] at h
  obtain⟨h1,h2,h3⟩:=gS h;obtain⟨a,e1,e2⟩:=oG (kk:=kk) (oF h2 h3) (all vG h1);rw[e1,e2]
 ·rw[show aW k n=[(1,1,[1])] by rcases e with rfl|rfl|rfl<;>simp[aW]] at h
  obtain⟨h1,h2,h3⟩:=gS h;exact oG (kk:=kk) (oF h2 h3) (all oc h1)
 ·rw[show aW k n=[(0,big,[16])] by rw[e];simp[aW]] at h
  exact all ZW (gS h).1
 ·rw[show aW k n=[(0,big,[64]),(0,1,[128])] by rw[e];simp[aW]] at h
  obtain⟨l1,l2,e1,h1,_,_,h2,h3,h4⟩:=qR h;obtain⟨k1,k2,rfl,rfl,rfl⟩:=wG.1 e1;refine⟨k1,k2,rfl,all ZX h1,?_⟩;have h5:=all U7 h2;match k2,h4,h5 with
  | [],_,_=>exact .inl rfl
  | [a],_,h5=>exact .inr (by rw[h5 a (bI.2 rfl)])
  | _::_::_,h4,_ =>
   rcases h4 with h4|h4
   ·cases h4
   ·simp at h4;omega
 ·rw[show aW k n=[(0,big,[1])] by rcases e with rfl|rfl<;>simp[aW]] at h
  exact all oc (gS h).1
 ·rw[show aW k n=[(n,n,[2]),(1,big,[1])] by rw[e];simp[aW]] at h
  obtain⟨l1,l2,e1,h1,h1a,U9,h2,h3,h4⟩:=qR h;obtain⟨k1,k2,rfl,rfl,rfl⟩:=wG.1 e1;rw[dm] at *;exact⟨k1,k2,rfl,all abK h1,Qa h1a U9,by omega,all oc h2⟩
 ·rw[show aW k n=[(1,1,[4])] by rw[e];simp[aW]] at h
  obtain⟨h1,h2,h3⟩:=gS h;exact oG (kk:=kk) (oF h2 h3) (all abL h1)
 ·rw[show aW k n=[(1,1,[1,32])] by rw[e];simp[aW]] at h
  obtain⟨a,b,e1,e2,e3⟩:=vH h;match kk,e1 with
  | [x,y],e1 =>
   injection e1 with e4 e5;injection e5 with e5 _;exact⟨x,by rw[vG (k:=y) (by rw[e5];exact e3)],oc (by rw[e4];exact e2)⟩
  | [],e1=>cases e1
  | [_],e1=>cases e1
  | _::_::_::_,e1=>cases e1
 ·rw[show aW k n=[(1,1,[32,1])] by rw[e];simp[aW]] at h
  obtain⟨a,b,e1,e2,e3⟩:=vH h;match kk,e1 with
  | [x,y],e1 =>
   injection e1 with e4 e5;injection e5 with e5 _;exact⟨y,by rw[vG (k:=x) (by rw[e4];exact e2)],oc (by rw[e5];exact e3)⟩
  | [],e1=>cases e1
  | [_],e1=>cases e1
  | _::_::_::_,e1=>cases e1
 ·rw[show aW k n=[(1,big,[1,32]),(0,1,[32])] by rw[e];simp[aW]] at h
  obtain⟨ps,l2,e1,h1,h2,h3,_,h4⟩:=PZ h;obtain⟨k1,k2,rfl,e2,rfl⟩:=wG.1 e1;have key :∀(ps:List (Int×Int)) (k1:List Int),k1.map eR=(ps.flatMap fun p=>[p.1,p.2])→(∀p∈ps,gH p.1 1=true∧gH p.2 32=true)→∃qs:List (Int×Int),k1=(qs.flatMap fun p=>[p.1,p.2])∧qs.length=ps.length∧∀p∈qs,tL p.1∧p.2=18:=by
   intro ps;induction ps with
   | nil=>intro k1 e _;exact⟨[],pV.1 e,rfl,fun p hp=>by simp at hp⟩
   | cons p ps ih =>
    intro k1 e hp;match k1,e with
    | [],e=>exact absurd (ay List.length e) (by simp)
    | [_],e=>exact absurd (ay List.length e) (by simp)
    | x::y::k1,e =>
     have e:eR x::eR y::k1.map eR=p.1::p.2::(ps.flatMap fun p=>[p.1,p.2]):=e
     have a1:=(zX e).1;have a2:=(zX (zX e).2).1;have e:=(zX (zX e).2).2;obtain⟨qs,b1,b2,b3⟩:=ih k1 e fun q hq=>hp q (bX _ hq)
     have h0:=hp p (bQ ..);refine⟨(x,y)::qs,by rw[b1];rfl,by simp[b2],fun q hq=>?_⟩
     rcases bb.1 hq with rfl|hq
     ·exact⟨oc (by rw[a1];exact h0.1),vG (by rw[a2];exact h0.2)⟩
     ·exact b3 q hq
  obtain⟨qs,b1,b2,b3⟩:=key ps k1 e2 h1;refine⟨qs,k2,by rw[b1],by omega,b3,?_⟩
  have h5:=all vG h3;match k2,h4,h5 with
  | [],_,_=>exact .inl rfl
  | [a],_,h5=>exact .inr (by rw[h5 a (bI.2 rfl)])
  | _::_::_,h4,_ =>
   rcases h4 with h4|h4
   ·cases h4
   ·simp at h4;omega
 ·rw[show aW k n=[(2,3,[1]),(1,1,[32])] by rw[e];simp[aW]] at h
  obtain⟨l1,l2,e1,h1,h1a,U9,h2,h3,h4⟩:=qR h;obtain⟨k1,k2,rfl,rfl,rfl⟩:=wG.1 e1;obtain⟨a,e2,e3⟩:=oG (kk:=k2) (oF h3 h4) (all vG h2);rw[dm] at *;refine⟨k1,by rw[e2,e3],?_,all oc h1⟩
  rcases U9 with U9|U9
  ·rw[pV] at U9
   subst U9;simp at h1a
  ·omega
 ·rw[show aW k n=[(n,n,[1]),(1,1,[32])] by rw[e];simp[aW]] at h
  obtain⟨l1,l2,e1,h1,h1a,U9,h2,h3,h4⟩:=qR h;obtain⟨k1,k2,rfl,rfl,rfl⟩:=wG.1 e1;obtain⟨a,e2,e3⟩:=oG (kk:=k2) (oF h3 h4) (all vG h2);rw[dm] at *;exact⟨k1,by rw[e2,e3],Qa h1a U9,all oc h1⟩
 ·rw[show aW k n=[(1,1,[8])] by rw[e];simp[aW]] at h
  obtain⟨h1,h2,h3⟩:=gS h;obtain⟨a,e1,e2⟩:=oG (kk:=kk) (oF h2 h3) (all abM h1);rw[e1,e2]
def ZY (F:Int):Prop:=F=0∨F=1∨F=2∨F=4∨F=8∨F=10∨F=20
theorem Va (k:Int):ZY (kI k):=by
 unfold ZY kI;repeat' split
 all_goals decide
theorem Vb {F:Int} (hF:ZY F) {a b c d nb na o:Bool} (h:flB F a b c d nb na o=true):(a=true→F=1)∧(b=true→F=2∨F=10)∧(c=true→F=4∨F=20)∧(d=true→F=8∨F=10)∧(F=20→nb=true)∧na=true∧o=true:=by
 rcases hF with rfl|rfl|rfl|rfl|rfl|rfl|rfl<;>cases a<;>cases b<;>cases c<;>cases d<;>cases nb<;>cases na<;>cases o<;>first|exact absurd h (by decide +kernel)|(clear h;decide)
structure abN (x:Nd):Prop where
 op:x.op≠0→x.kind=12∨x.kind=13
 num:x.num≠0→x.kind=4∨x.kind=11∨x.kind=20∨x.kind=27
 s:x.s≠⟨#[]⟩→x.kind=5∨x.kind=7∨x.kind=10∨x.kind=31∨x.kind=32
 names:x.names≠[]→x.kind=11∨x.kind=19∨x.kind=26∨x.kind=27∨x.kind=28
 name:(x.kind=7∨x.kind=10∨x.kind=31∨x.kind=32)→eC x.s=true
 all :∀y∈x.names,eC y=true
 bin:x.kind=12→1≤x.op∧x.op≤19
 una:x.kind=13→20≤x.op∧x.op≤23
 many:x.kind=11→x.num=0∨x.num=1
 count:(x.kind=20∨x.kind=27)→1≤x.num
 least:(x.kind=19∨x.kind=27)→1≤x.names.length
 just:(x.kind=26∨x.kind=28)→x.names.length=1
theorem Qb {x:Nd} (h:bj x=true):abN x:=by
 have h:flB (kI x.kind) (x.op != 0) (x.num != 0) (!x.s.toList.isEmpty) (decide (0<x.names.length)) (eC x.s) (x.names.all eC) (Ym x.kind x.op && px x.kind x.num && py x.kind x.names.length)=true:=h;obtain⟨h1,h2,h3,h4,h5,h6,h7⟩:=Vb (Va _) h;rw[dk,dk] at h7;obtain⟨⟨h7,h8⟩,h9⟩:=h7;have F1:kI x.kind=1→x.kind=12∨x.kind=13:=fun e=>by
  unfold kI at e;repeat' split at e
  all_goals first|assumption|(exfalso;revert e;decide)
 have F2:kI x.kind=2→x.kind=4∨x.kind=20:=fun e=>by
  unfold kI at e;repeat' split at e
  all_goals first|assumption|(exfalso;revert e;decide)
 have F10:kI x.kind=10→x.kind=11∨x.kind=27:=fun e=>by
  unfold kI at e;repeat' split at e
  all_goals first|assumption|(exfalso;revert e;decide)
 have F8:kI x.kind=8→x.kind=19∨x.kind=26∨x.kind=28:=fun e=>by
  unfold kI at e;repeat' split at e
  all_goals first|assumption|(exfalso;revert e;decide)
 have F20:kI x.kind=20→x.kind=7∨x.kind=10∨x.kind=31∨x.kind=32:=fun e=>by
  unfold kI at e;repeat' split at e
  all_goals first|assumption|(exfalso;revert e;decide)
 have F4:kI x.kind=4→x.kind=5:=fun e=>by
  unfold kI at e;repeat' split at e
  all_goals first|assumption|(exfalso;revert e;decide)
 refine⟨fun e=>F1 (h1 (by simpa using e)),fun e=>?_,fun e=>?_,fun e=>?_,fun e=>h5 ?_,fun y hy=>List.all_eq_true.1 h6 y hy,fun e=>?_,fun e=>?_,fun e=>?_,fun e=>?_,fun e=>?_,fun e=>?_⟩
 ·rcases h2 (by simpa using e) with e|e
  ·have:=F2 e;omega
  ·have:=F10 e;omega
 ·have e':(!x.s.toList.isEmpty)=true:=by
   cases hs:x.s.toList with
   | nil =>
    exfalso;apply e;rw[Lib.toList_data] at hs;cases hx:x.s with
    | mk a =>
     rw[hx] at hs;have:a=#[]:=Array.toList_eq_nil_iff.1 hs;rw[this]
   | cons a l=>rfl
  rcases h3 e' with e|e
  ·have:=F4 e;omega
  ·have:=F20 e;omega
 ·rcases h4 (bF (wI.2 e)) with e|e
  ·have:=F8 e;omega
  ·have:=F10 e;omega
 ·unfold kI
  rw[af (by omega),af (by omega),af (by omega),af (by omega),ak e]
 ·unfold Ym at h7
  rw[ak e,dk] at h7;exact⟨iK h7.1,iK h7.2⟩
 ·unfold Ym at h7
  rw[af (by omega),ak e,dk] at h7
  exact⟨iK h7.1,iK h7.2⟩
 ·unfold px at h8
  rw[ak e,Bool.or_eq_true] at h8;rcases h8 with h8|h8
  ·exact .inl (by simpa using h8)
  ·exact .inr (by simpa using h8)
 ·unfold px at h8
  rw[af (by omega),ak e] at h8
  exact iK h8
 ·unfold py at h9
  rw[ak e] at h9;exact iK h9
 ·unfold py at h9
  rw[af (by omega),ak e] at h9
  exact iK h9
theorem Cg {T:List Nd} :∀{ks:List Lt},Lt.u9 T ks→(ks.map fun k=>(k.loc:Int)).map (fun k=>eR (dE T k.toNat))=(oM ks).map eR
 | [],_=>rfl
 | .mk i h l::ks,hi=>by
  unfold Lt.u9 at hi;have h1:=hi.1;unfold Lt.In at h1;unfold oM;rw[gi,gi,gi,gi];have h2:=Cg hi.2;unfold oM at h2;rw[h2];congr 1
  show eR (dE T (((i:Nat):Int)).toNat)=eR h.kind
  rw[iJ,og h1.1]
mutual
theorem xY {T:List Nd} (hT :∀x∈T,kj x.kind x.num (x.kids.map fun k=>eR (dE T k.toNat))=true) :∀(t:Lt),Lt.In T t→t.vl
 | .mk i h ks,hi=>by
  unfold Lt.In at hi;obtain⟨hx,hk,hs⟩:=hi;unfold Lt.vl;have h1:=hT h (ba hx);rw[hk,Cg hs] at h1;exact⟨U8 h1,vI hT ks hs⟩
theorem vI {T:List Nd} (hT :∀x∈T,kj x.kind x.num (x.kids.map fun k=>eR (dE T k.toNat))=true) :∀(ks:List Lt),Lt.u9 T ks→Lt.iE ks
 | [],_=>by unfold Lt.iE;trivial
 | k::ks,hi=>by
  unfold Lt.u9 at hi;unfold Lt.iE;exact⟨xY hT k hi.1,vI hT ks hi.2⟩
end
theorem ZZ {T:List Nd} (hT :∀x∈T,kj x.kind x.num (x.kids.map fun k=>eR (dE T k.toNat))=true) {t:Lt} (hi:Lt.In T t) (hn:t.gY.Nodup) (hk:1≤t.hd.kind∧t.hd.kind≤32):kD T t:=⟨hi,xY hT t hi,WL hT t hi,hn,hk⟩
theorem tP {f:Nat} {st st':aG} (h:st'.frames=st.frames):cG f st'.frames=cG f st.frames:=by rw[h]
theorem qS {x:List ju} {L:List cJ} (h:L≠[]):grow x L≠[]:=by
 cases L with
 | nil=>exact absurd rfl h
 | cons l r=>intro e;cases e
theorem qT {T:List Nd} {B b:Nat} {nv:Value} {ub ob:Nat} (f:Nat) (loop:Int) (pa la:Option Addr) (lc:Nat) (ms:List Nat) (L:List cJ) (st:aG) (w:World) (kv:Value) (ks:List Lt) (hr:fe T B b nv ub ob f pa (.slice la L.length lc) ms L st w (Lt.dM ks) (Lt.al ks)) (hn:fI T ks) (hV :∀k∈ks,bB T B b nv ub ob k) (hu:qP B ob (.slice la L.length lc) L.length (ey L) w kv (ks.map fun k=>(k.loc:Int)))
  (hl :∀k∈ks,18≤k.hd.kind→loop=cG f st.frames) (ht :∀k∈ks,L≠[]∨k.hd.kind=18) (xf:ks.length≤20000) :
  Calls Tryz.prog 111 #[.pointer (some ⟨b,0,none⟩),kv,.agg #[.int .i64 (f:Int),.int .i64 loop,.pointer pa,.slice la L.length lc]] w (aq B b nv T.length ub ob (.slice la L.length lc) L st (aH ks f st) w):=by
 have HNK:=aa hu;obtain⟨UA,uc,rfl,ZC,_⟩:=hu;have HR:=aa hr;have HN:=aa hn;have HV:=aa hV;have HL:=aa hl;have kP:=aa ht;simp only[dm] at ZC ⊢;obtain⟨R,hR⟩ :∃R,R=aH ks f st:=⟨_,rfl⟩;have HRS:=aa hR;rw[←hR];have ca:B≤w.heap.size:=by obtain⟨_,_,_,_,_,h,_⟩:=hr.fE.nodes;exact h
 clear hr hn hV hl ht hR;go_enter Tryz.func111,Tryz.ntmps111
 go_wp2_with fail
 have hJ:=heap_alloc_new w (.cells #[.int .i64 (f:Int),.int .i64 loop,.pointer pa,.slice la L.length lc] 92);have Ub:cN B ob (.slice la L.length lc) L.length (ey L) w (w.alloc (.cells #[.int .i64 (f:Int),.int .i64 loop,.pointer pa,.slice la L.length lc] 92)):=cN.bK ((Below.refl _ _).alloc (ai _) _) ca;have hs1:(w.alloc (.cells #[.int .i64 (f:Int),.int .i64 loop,.pointer pa,.slice la L.length lc] 92)).heap.size=w.heap.size+1:=an _ _;generalize hW1:w.alloc (.cells #[.int .i64 (f:Int),.int .i64 loop,.pointer pa,.slice la L.length lc] 92)=W1 at hJ Ub hs1 ⊢;have HF0:=aa Ub;have qi:=aa hJ;have jg:=aa hW1;clear hJ Ub hs1 hW1;go_loopw [12] (fun tk wr=>∃(n:Nat) (s1:aG) (x:List ju),tk=.int .i64 (n:Int)∧n≤ks.length∧cN B ob (.slice la L.length lc) L.length (ey L) W1 wr∧fe T B b nv ub ob f pa (.slice la L.length lc) ms (grow x L) s1 wr (Lt.dM (ks.drop n)) (Lt.al (ks.drop n))∧s1.names=x++st.names∧(L=[]→x=[])∧s1.frames=st.frames∧aH (ks.drop n) f s1=R) (fun tk _=>ks.length-(intOf tk).toNat)
 case atStart =>
  refine⟨0,st,[],rfl,bx _,cN.refl _ _ _ _ _ _,?_,rfl,fun _=>rfl,rfl,by rw[oT];exact HRS.out.symm⟩
  rw[oT,jU];have h:=HR.out;refine⟨h.fE.below HF0.out.below,?_,?_,h.hd,h.cx,h.few,h.fr,h.names,h.fns,h.fC⟩
  ·obtain⟨fv,FL,hw⟩:=h.rs
   exact⟨fv,FL,by rw[←jg.out];exact hw.alloc _⟩
  ·have h2:cN B ob (.slice la L.length lc) L.length none w W1:=by rw[←jg.out];exact cN.bK ((Below.refl _ _).alloc (ai _) _) ca
   exact⟨h.pos.fC.jq h2 (ai _),h.pos.blk.jq h2 (by simp),h.pos.names,h.pos.apart⟩
 case round =>
  obtain⟨n,s1,x,rfl,CI,hf,hr1,hx1,hx2,mT,Rv⟩:=hrel;have Qc:=hf.cells _ _ _ _ qi.out (by decide)
  have p0:=ab Qc 0;have p1:=ab Qc 1;have p2:=ab Qc 2;have p3:=ab Qc 3;replace p0:_=some (Value.int .i64 (f:Int)):=p0;replace p1:_=some (Value.int .i64 loop):=p1;replace p2:_=some (Value.pointer pa):=p2;replace p3:_=some (Value.slice la L.length lc):=p3;have HF:=aa hf;have nO:=aa hr1;have Qd:=aa hx1;have HX2:=aa hx2;have HFR:=aa mT;have Vc:=aa Rv;clear hf hr1 hx1 hx2 mT Rv Qc;by_cases hlt:n<ks.length
  ·obtain⟨k,hk⟩ :∃k,ks[n]? = some k:=⟨ks[n],bH hlt⟩
   have yo:=ba hk;have hdr:=drop_at hk;have adN:=aa (HNK.out.later (HF0.out.trans HF.out));obtain⟨A',c',he,_,jb⟩:=adN.out;injection he with uM _ he2;subst uM he2;rcases jb with h0 | ⟨sb,so,rfl,hsc⟩
   ·rw[pV] at h0
    rw[h0] at hlt;exact absurd hlt (by simp)
   have cs:wr.cell? ⟨sb,so+n,none⟩=some (.int .i64 (k.loc:Int)):=hsc wr (cN.refl _ _ _ _ _ _) n _ (by rw[gE,hk];rfl)
   have hrk:=nO.out;rw[(qQ hk).1,(qQ hk).2] at hrk;have abO:=HN.out.at_ k yo;have bs:=HV.out k yo f loop pa la lc ms (grow x L) s1 wr (by rw[cy];exact hrk.mono (gF _ _) (gF _ _)) (fun h=>(HL.out k yo h).trans (tP HFR.out).symm) ((kP.out k yo).imp qS id)
   rw[cy] at bs;have sL:=aa bs;have HRK:=aa hrk;have HK:=aa abO;have uC:=aa hdr;have mW:=aa hlt;clear bs hrk abO hdr hk yo hsc;go_wp2_with fail
   refine sL.out.mono ?_;intro e w2 hp;cases dN:aY k f s1 with
   | error y =>
    rw[dN] at hp;obtain⟨hb,v,rfl,g2,rfl,h2⟩:=hp;have H2:=aa h2;have HB:=aa hb;have HND:=aa dN;clear h2 hb dN;go_wp2_with fail
    go_ret
    have hE:R=.error y:=by rw[←Vc.out,uC.out,eu,HND.out];rfl
    rw[hE];exact⟨(HF0.out.below.trans HF.out.below).trans HB.out,_,rfl,_,rfl,H2.out⟩
   | ok s2 =>
    rw[dN] at hp;obtain⟨rfl,y,hy1,hy2,hr2,hf2,rH⟩:=fe.next HRK.out HK.out dN hp;rw[grow_grow] at hr2;rw[cy,oD] at hf2;have wg:=aa hr2;have l9:=aa hf2;have HY1:=aa hy1;have HY2:=aa hy2;have adO:=aa rH;have HND:=aa dN;clear hp hr2 hf2 hy1 hy2 rH dN;go_wp2_with fail
    refine⟨⟨n+1,s2,y++x,by go_num,mW.out,HF.out.trans l9.out,wg.out,by rw[HY1.out,Qd.out,eS],fun e=>?_,adO.out.trans HFR.out,?_⟩,by have:=mW.out;simp[intOf];omega⟩
    ·rw[HX2.out e,HY2.out (by rw[e];rfl)];rfl
    ·rw[←Vc.out,uC.out,eu,HND.out];rfl
  ·have zD:n=ks.length:=by omega
   go_wp2_with fail
   go_ret
   have hE:R=.ok s1:=by rw[←Vc.out,zD,wJ,eD]
   rw[hE];exact⟨(HF0.out.below.trans HF.out.below),rfl,nO.out.rs,HF0.out.trans HF.out,x,Qd.out,HX2.out,nO.out.pos.fC⟩
theorem all_nil (b f:Nat) (loop:Int) (pa la A:Option Addr) (ln lc c:Nat) (w:World) :
  Calls Tryz.prog 111 #[.pointer (some ⟨b,0,none⟩),.slice A 0 c,.agg #[.int .i64 (f:Int),.int .i64 loop,.pointer pa,.slice la ln lc]] w fun e w'=>e=.returned .nilIface∧Below w.heap.size w w':=by
 go_enter Tryz.func111,Tryz.ntmps111
 go_wp2_with fail
 go_loopw [12] (fun tk wr=>tk=.int .i64 0∧Below w.heap.size w wr) (fun _ _=>0)
 case atStart=>exact⟨rfl,(Below.refl _ _).alloc (ai _) _⟩
 case round =>
  obtain⟨rfl,hb⟩:=hrel;go_wp2_with fail
  go_ret
  exact⟨rfl,hb⟩
theorem fe.dc {T:List Nd} {B b:Nat} {nv:Value} {ub ob f:Nat} {pa:Option Addr} {lv:Value} {ms:List Nat} {L:List cJ} {st:aG} {w w':World} {a s:Nat} (h:fe T B b nv ub ob f pa lv ms L st w a s) (hb:Below w.heap.size w w'):fe T B b nv ub ob f pa lv ms L st w' a s:=by
 have ca:B≤w.heap.size:=by obtain⟨_,_,_,_,_,h,_⟩:=h.fE.nodes;exact h
 have h2:cN B ob lv L.length none w w':=cN.bK hb ca;refine⟨h.fE.below h2.below,?_,⟨h.pos.fC.jq h2 (ai _),h.pos.blk.jq h2 (by simp),h.pos.names,h.pos.apart⟩,h.hd,h.cx,h.few,h.fr,h.names,h.fns,h.fC⟩
 obtain⟨fv,FL,hw⟩:=h.rs;exact⟨fv,FL,hw.later hb⟩
theorem aq.from {B b:Nat} {nv:Value} {N ub ob:Nat} {lv:Value} {L:List cJ} {st:aG} {r:Rs aG} {w w1 w2:World} {e:Ending} (hb:Below w.heap.size w w1) (hB:B≤w.heap.size) (h:aq B b nv N ub ob lv L st r w1 e w2):aq B b nv N ub ob lv L st r w e w2:=by
 refine⟨(hb.mono hB).trans h.1,?_⟩;have h2:=h.2;cases r with
 | error y=>exact h2
 | ok s =>
  obtain⟨k1,k2,k3,k4⟩:=h2;exact⟨k1,k2,(cN.bK hb hB).trans k3,k4⟩
theorem aq.ret {B b:Nat} {nv:Value} {N ub ob:Nat} {lv:Value} {L:List cJ} {st:aG} {r:Rs aG} {w w2:World} {e:Ending} (h:aq B b nv N ub ob lv L st r w e w2) :∃v,e=.returned v:=by
 have h2:=h.2;cases r with
 | error y=>obtain⟨v,h3,_⟩:=h2;exact⟨v,h3⟩
 | ok s=>exact⟨_,h2.1⟩
structure fg (w W:World) (p q:Nat) (f:Nat) (loop:Int) (pa:Option Addr) (lv kv nv:Value) (d0 d1 d2:Value):Prop where
 pos:W.heap[w.heap.size]? = some (.cells #[.int .i64 (f:Int),.int .i64 loop,.pointer pa,lv] 92 (0,0))
 kids :∃a b c d e,W.heap[p]? = some (.cells #[a,b,c,d,e,nv,kv] 55 (0,0))
 dec:W.heap[q]? = some (.cells #[d0,d1,d2] 189 (0,0))
 pne:p=w.heap.size+1
 qne:w.heap.size+1<q
theorem lF {w W0 w1:World} {f:Nat} {loop:Int} {pa:Option Addr} {lv a b c d e nv kv:Value} (hW:W0=(w.alloc (.cells #[.int .i64 (f:Int),.int .i64 loop,.pointer pa,lv] 92)).alloc (.cells #[a,b,c,d,e,nv,kv] 55)) (h1:Below W0.heap.size W0 w1) (d0 d1 d2:Value):Below w.heap.size w (w1.alloc (.cells #[d0,d1,d2] 189))∧fg w (w1.alloc (.cells #[d0,d1,d2] 189)) (w.heap.size+1) w1.heap.size f loop pa lv kv nv d0 d1 d2:=by
 have hs:W0.heap.size=w.heap.size+1+1:=by rw[hW,an,an]
 have hb0:Below w.heap.size w W0:=by rw[hW];exact Below.two _ _
 have h0:W0.heap[w.heap.size]? = some (.cells #[.int .i64 (f:Int),.int .i64 loop,.pointer pa,lv] 92 (0,0)):=by
  rw[hW];exact(Below.heap_alloc _ _ _ (by rw[an];omega)).trans (heap_alloc_new w _)
 have h2:W0.heap[w.heap.size+1]? = some (.cells #[a,b,c,d,e,nv,kv] 55 (0,0)):=by
  rw[hW];have:=heap_alloc_new (w.alloc (.cells #[.int .i64 (f:Int),.int .i64 loop,.pointer pa,lv] 92)) (.cells #[a,b,c,d,e,nv,kv] 55);rwa[an] at this
 have hl:=h1.size;have hb:=hb0.trans (h1.mono (by omega))
 have k :∀j,j<W0.heap.size→(w1.alloc (.cells #[d0,d1,d2] 189)).heap[j]? = W0.heap[j]?:=fun j hj=>(Below.heap_alloc _ _ _ (by omega)).trans (h1.block j hj)
 exact⟨hb.alloc (by omega) _,(k _ (by omega)).trans h0,⟨_,_,_,_,_,(k _ (by omega)).trans h2⟩,heap_alloc_new _ _,rfl,by omega⟩
theorem fg.cells {w W:World} {p q f:Nat} {loop:Int} {pa:Option Addr} {lv kv nv d0 d1 d2:Value} (h:fg w W p q f loop pa lv kv nv d0 d1 d2):W.cell? ⟨w.heap.size,0,none⟩=some (.int .i64 (f:Int))∧W.cell? ⟨w.heap.size,1,none⟩=some (.int .i64 loop)∧W.cell? ⟨w.heap.size,2,none⟩=some (.pointer pa)∧W.cell? ⟨w.heap.size,3,none⟩=some lv∧W.cell? ⟨p,5,none⟩=some nv∧W.cell? ⟨p,6,none⟩=some kv∧W.cell? ⟨q,0,none⟩=some d0∧W.cell? ⟨q,1,none⟩=some d1∧W.cell? ⟨q,2,none⟩=some d2:=by
 obtain⟨a,b,c,d,e,hk⟩:=h.kids;exact⟨ab h.pos 0,ab h.pos 1,ab h.pos 2,ab h.pos 3,ab hk 5,ab hk 6,ab h.dec 0,ab h.dec 1,ab h.dec 2⟩
theorem fg.on {w W W':World} {p q f:Nat} {loop:Int} {pa:Option Addr} {lv kv nv d0 d1 d2:Value} (h:fg w W p q f loop pa lv kv nv d0 d1 d2) (hk :∀(k:Nat) c (e:TypeId) fz,W.heap[k]? = some (.cells c e fz)→e∉[52,61,59,57,87,3,238]→W'.heap[k]? = some (.cells c e fz)):fg w W' p q f loop pa lv kv nv d0 d1 d2:=by
 obtain⟨a,b,c,d,e,hk5⟩:=h.kids;exact⟨hk _ _ _ _ h.pos (by decide),⟨a,b,c,d,e,hk _ _ _ _ hk5 (by decide)⟩,hk _ _ _ _ h.dec (by decide),h.pne,h.qne⟩
theorem fg.later {w W W':World} {p q f:Nat} {loop:Int} {pa:Option Addr} {lv kv nv d0 d1 d2:Value} (h:fg w W p q f loop pa lv kv nv d0 d1 d2) (hb:Below W.heap.size W W'):fg w W' p q f loop pa lv kv nv d0 d1 d2 :=
 h.on fun k _ _ _ hk _=>(hb.block k (aJ.1 hk).1).trans hk
theorem fg.jq {w W W':World} {p q f:Nat} {loop:Int} {pa:Option Addr} {lv kv nv d0 d1 d2:Value} {B ob n:Nat} {v:Value} {top:Option Nat} (h:fg w W p q f loop pa lv kv nv d0 d1 d2) (hf:cN B ob v n top W W'):fg w W' p q f loop pa lv kv nv d0 d1 d2:=h.on hf.cells
theorem fe.step {T:List Nd} {B b:Nat} {nv:Value} {ub ob f:Nat} {pa:Option Addr} {lv:Value} {ms:List Nat} {L:List cJ} {st st':aG} {w w':World} {a s a1 s1:Nat} {e:Ending} (h:fe T B b nv ub ob f pa lv ms L st w (a1+a) (s1+s)) (xe:Mk a1 s1 st st') (vU:Cx f st') (hf:st'.frames=st.frames) (hp:aq B b nv T.length ub ob lv L st (.ok st') w e w') :
  e=.returned .nilIface∧∃x,st'.names=x++st.names∧(L=[]→x=[])∧fe T B b nv ub ob f pa lv ms (grow x L) st' w' a s∧cN B ob lv L.length (ey L) w w':=by
 obtain⟨hb,rfl,Rv,mT,x,hx1,hx2,hx3⟩:=hp;refine⟨rfl,x,hx1,hx2,⟨h.fE.below hb,Rv,h.pos.on mT hx3 hx1 hx2 hf,h.hd.grow x,vU,xe.few,fun y hy=>?_,?_,?_,?_⟩,mT⟩
 ·rw[hf] at hy
  exact cC (h.fr y hy) xe.least
 ·have:=xe.names;have:=h.names;omega
 ·have:=xe.fns;have:=h.fns;omega
 ·rw[cy];have:=h.fC;omega
theorem Ek {T:List Nd} {B b:Nat} {nv:Value} {ub ob:Nat} (f:Nat) (loop:Int) (pa la:Option Addr) (lc:Nat) (ms:List Nat) (L:List cJ) (x:List ju) (st:aG) (w:World) (kv:Value) (ks:List Lt) (hr:fe T B b nv ub ob f pa (.slice la L.length lc) ms (grow x L) st w (Lt.dM ks) (Lt.al ks)) (hn:fI T ks) (hV :∀k∈ks,bB T B b nv ub ob k) (hu:gM w B kv (ks.map fun k=>(k.loc:Int)))
  (hl :∀k∈ks,18≤k.hd.kind→loop=cG f st.frames) (ht :∀k∈ks,L≠[]∨k.hd.kind=18) (xf:ks.length≤20000) :
  Calls Tryz.prog 111 #[.pointer (some ⟨b,0,none⟩),kv,.agg #[.int .i64 (f:Int),.int .i64 loop,.pointer pa,.slice la L.length lc]] w (aq B b nv T.length ub ob (.slice la L.length lc) (grow x L) st (aH ks f st) w):=by
 have:=qT f loop pa la lc ms (grow x L) st w kv ks (by rw[cy];exact hr) hn hV hu.keeps hl (fun k hk=>(ht k hk).imp qS id) xf
 rw[cy] at this;exact this
theorem fe.world {T:List Nd} {B b:Nat} {nv:Value} {ub ob f:Nat} {pa:Option Addr} {lv:Value} {ms:List Nat} {L:List cJ} {st:aG} {w:World} {a s:Nat} (h:fe T B b nv ub ob f pa lv ms L st w a s):B≤w.heap.size:=by obtain⟨_,_,_,_,_,h,_⟩:=h.fE.nodes;exact h
theorem pg.iF {W:World} {B f:Nat} {p lv:Value} {ms:List Nat} {l:cJ} {r:List cJ} {st:aG} (h:pg W B f p lv ms (l::r) st):l.iF.length≤st.names.length:=by
 rw[h.names];show _≤(l.iF++mL r).length
 rw[bM];omega
theorem Gx {T:List Nd} {B b:Nat} {nv:Value} {ub ob:Nat} (i f:Nat) (h:Nd) (ks:List Lt) (loop:Int) (pa la:Option Addr) (lc:Nat) (ms:List Nat) (L:List cJ) (st:aG) (w:World) (hr:fe T B b nv ub ob f pa (.slice la L.length lc) ms L st w (Lt.dM ks) (Lt.al ks)) (hx:T[i]? = some h) (hk:h.kids=ks.map fun k=>(k.loc:Int)) (hn:fI T ks) (hV :∀k∈ks,bB T B b nv ub ob k)
  (hl :∀k∈ks,18≤k.hd.kind→loop=cG f st.frames) (ht :∀k∈ks,L≠[]∨k.hd.kind=18) (hd:gO h.kind h.kids.length=(false,0,false)) :
  Calls Tryz.prog 55 #[.pointer (some ⟨b,0,none⟩),.int .i64 (i:Int),.agg #[.int .i64 (f:Int),.int .i64 loop,.pointer pa,.slice la L.length lc]] w (aq B b nv T.length ub ob (.slice la L.length lc) L st (aH ks f st) w):=by
 obtain⟨bk,o,c,rfl,eQ,ca,dN⟩:=hr.fE.nodes;obtain⟨zI,zJ,fM,⟨NA,nc,vW,_⟩,fF⟩:=dN i h hx;have sg:h.kids.length≤20000:=(hr.fE.small h (ba hx)).1;have xf:ks.length≤20000:=by rw[hk,dm] at sg;exact sg
 obtain⟨KA,kc,rj,CA,_⟩:=id fF;subst vW rj;obtain⟨x0,x1,x2,x3,x4,x5,x6⟩:=fM;have wu:i<T.length:=(aL.1 hx).1;have pS:=hr.fE.few;have hbl:b<w.heap.size:=by obtain⟨_,_,hw⟩:=hr.rs;exact hw.mV.1
 have d0:w.cell? ⟨b,0,none⟩=some (.slice (some ⟨bk,o,none⟩) T.length c):=by obtain⟨_,_,hw⟩:=hr.rs;exact ab hw.blk 0
 have hH:bk<w.heap.size:=by omega
 have HD:=aa (gP h.kind h.line h.op h.num h.s NA KA h.names.length nc h.kids.length kc);have HR:=aa hr;have HN:=aa hn;have HV:=aa hV;have HL:=aa hl;have kP:=aa ht;have JU:=aa fF;have Vd:=aa hd;have HK:=aa hk;have zn:Hid (∀W,Below w.heap.size w W→Calls Tryz.prog 111 #[.pointer (some ⟨b,0,none⟩),.slice KA h.kids.length kc,.agg #[.int .i64 (f:Int),.int .i64 loop,.pointer pa,.slice la L.length lc]] W (aq B b (.slice (some ⟨bk,o,none⟩) T.length c) T.length ub ob (.slice la L.length lc) L st (aH ks f st) w)):=aa fun W hW =>
  (qT f loop pa la lc ms L st W (.slice KA h.kids.length kc) ks (hr.dc hW) hn hV (by rw[←hk];exact(fF.below (hW.mono ca)).keeps) hl ht xf).mono fun e w' h=>h.from hW ca
 clear hr hn hV hl ht fF hd dN hk;go_enter Tryz.func55,Tryz.ntmps55
 go_wp2_with fail
 refine(HD.out _ (by omega)).mono ?_
 rw[Vd.out];rintro e w1 ⟨rfl,hb1⟩;have dK:=aa hb1;clear hb1;go_wp2_with fail
 have zq:=lF rfl dK.out (.bool false) (.int .i64 0) (.bool false);have qU:=aa zq.2;have pj:=aa zq.1;clear zq;clear d0 x0 x1 x2 x3 x4 x5 x6;generalize w1.alloc (.cells #[.bool false,.int .i64 0,.bool false] 189)=W2 at qU pj ⊢;generalize w1.heap.size=q at qU ⊢;generalize w.heap.size+1=p at qU ⊢;obtain⟨k0,k1,k2,k3,k4,k5,k6,k7,k8⟩:=qU.out.cells;have hKc:h.kids.length≤kc:=CA;go_still_tail 7,(by kernel_rfl)
 change wpList _ _ _ _ _ W2.drew;have D2:=aa (show Below W2.heap.size W2 W2.drew from(Below.refl _ _).drew)
 generalize W2.drew=W3 at D2 ⊢;go_wp2_with fail
 refine(all_nil b f loop pa la KA L.length lc kc W3).mono ?_;rintro e w4 ⟨rfl,hb4⟩;have B4:=aa (D2.out.trans (hb4.mono D2.out.size));have P4:=aa (qU.out.later B4.out);clear hb4 k0 k1 k2 k3 k4 k5 k6 k7 k8;obtain⟨k0,k1,k2,k3,k4,k5,k6,k7,k8⟩:=P4.out.cells;go_wp2_with fail
 go_still_tail 7,(by kernel_rfl)
 change wpList _ _ _ _ _ w4.drew;have HC:=aa (zn.out w4.drew (pj.out.trans (B4.out.mono pj.out.size)).drew);generalize w4.drew=W5 at HC ⊢;go_wp2_with fail
 refine HC.out.mono ?_;intro e w6 hp;obtain⟨v,rfl⟩:=hp.ret;have HP:=aa hp;clear hp;go_wp2_with fail
 go_ret
 exact HP.out
theorem aq.abP {B b:Nat} {nv:Value} {N ub ob:Nat} {lv:Value} {L:List cJ} {st:aG} {r:Rs aG} {w w1 w2:World} (h:aq B b nv N ub ob lv L st r w (.returned .nilIface) w1) (hb:Below w1.heap.size w1 w2):aq B b nv N ub ob lv L st r w (.returned .nilIface) w2:=by
 have h2:=h.2;cases r with
 | error y =>
  obtain⟨v,hv,g,rfl,_⟩:=h2;injection hv with hv;cases hv
 | ok s =>
  obtain⟨k1,⟨fv,FL,k2⟩,k3,x,k4,k5,k6⟩:=h2;have hB:B≤w1.heap.size:=by have:=k2.mV.1;have:=k2.pos;omega
  have hf:cN B ob lv L.length none w1 w2:=cN.bK hb hB;exact⟨h.1.trans hf.below,k1,⟨fv,FL,k2.later hb⟩,k3.trans (hf.Gk _),x,k4,k5,k6.jq hf (by rw[cy];exact ai _)⟩
theorem Qe {T:List Nd} {B b:Nat} {nv:Value} {ub ob:Nat} (i f:Nat) (h:Nd) (ks:List Lt) (loop:Int) (pa la:Option Addr) (lc:Nat) (ms:List Nat) (l:cJ) (r:List cJ) (st:aG) (w:World) (hr:fe T B b nv ub ob f pa (.slice la (l::r).length lc) ms (l::r) st w (h.names.length+Lt.dM ks) (Lt.al ks)) (hx:T[i]? = some h) (hk:h.kids=ks.map fun k=>(k.loc:Int)) (hn:fI T ks) (hV :∀k∈ks,bB T B b nv ub ob k)
  (hl :∀k∈ks,18≤k.hd.kind→loop=cG f st.frames) (hsz :∀s∈h.names,s.size≤65536) (hd:gO h.kind h.kids.length=(true,(h.kids.length:Int),false)) :
  Calls Tryz.prog 55 #[.pointer (some ⟨b,0,none⟩),.int .i64 (i:Int),.agg #[.int .i64 (f:Int),.int .i64 loop,.pointer pa,.slice la (l::r).length lc]] w (aq B b nv T.length ub ob (.slice la (l::r).length lc) (l::r) st ((aH ks f st).bind fun s1=>bz i f h.line h.names s1) w):=by
 obtain⟨bk,o,c,rfl,eQ,ca,dN⟩:=hr.fE.nodes;obtain⟨zI,zJ,fM,⟨NA,nc,vW,_⟩,fF⟩:=dN i h hx;have sg:h.kids.length≤20000:=(hr.fE.small h (ba hx)).1;have xf:ks.length≤20000:=by rw[hk,dm] at sg;exact sg
 obtain⟨KA,kc,rj,CA,_⟩:=id fF;subst vW rj;obtain⟨x0,x1,x2,x3,x4,x5,x6⟩:=fM;have wu:i<T.length:=(aL.1 hx).1;have pS:=hr.fE.few;have hbl:b<w.heap.size:=by obtain⟨_,_,hw⟩:=hr.rs;exact hw.mV.1
 have d0:w.cell? ⟨b,0,none⟩=some (.slice (some ⟨bk,o,none⟩) T.length c):=by obtain⟨_,_,hw⟩:=hr.rs;exact ab hw.blk 0
 have hH:bk<w.heap.size:=by omega
 have HD:=aa (gP h.kind h.line h.op h.num h.s NA KA h.names.length nc h.kids.length kc);have zn:Hid (∀W,Below w.heap.size w W→Calls Tryz.prog 111 #[.pointer (some ⟨b,0,none⟩),.slice KA h.kids.length kc,.agg #[.int .i64 (f:Int),.int .i64 loop,.pointer pa,.slice la (l::r).length lc]] W (aq B b (.slice (some ⟨bk,o,none⟩) T.length c) T.length ub ob (.slice la (l::r).length lc) (l::r) st (aH ks f st) W)):=aa fun W hW =>
  qT f loop pa la lc ms (l::r) st W (.slice KA h.kids.length kc) ks ((hr.dc hW).mono (wL _ _) (ai _)) hn hV (by rw[←hk];exact(fF.below (hW.mono ca)).keeps) hl (fun k _=>.inl (by simp)) xf
 have HR:=aa hr;have HN:=aa hn;have HV:=aa hV;have HL:=aa hl;have JU:=aa fF;have Vd:=aa hd;have HK:=aa hk;clear hr hn hV hl fF hd dN hk;generalize L7:(l::r).length=ln at *;have Hy:=aa L7;clear L7;go_enter Tryz.func55,Tryz.ntmps55
 go_wp2_with fail
 refine(HD.out _ (by omega)).mono ?_
 rw[Vd.out];rintro e w1 ⟨rfl,hb1⟩;have dK:=aa hb1;clear hb1;go_wp2_with fail
 have zq:=lF rfl dK.out (.bool true) (.int .i64 (h.kids.length:Int)) (.bool false);have qU:=aa zq.2;have pj:=aa zq.1;clear zq;clear d0 x0 x1 x2 x3 x4 x5 x6;generalize w1.alloc (.cells #[.bool true,.int .i64 (h.kids.length:Int),.bool false] 189)=W2 at qU pj ⊢;generalize w1.heap.size=q at qU ⊢;generalize w.heap.size+1=p at qU ⊢;obtain⟨k0,k1,k2,k3,k4,k5,k6,k7,k8⟩:=qU.out.cells;have hKc:h.kids.length≤kc:=CA;go_still_tail 7,(by kernel_rfl)
 change wpList _ _ _ _ _ W2.drew;have D2:=aa (show Below W2.heap.size W2 W2.drew from(Below.refl _ _).drew)
 generalize W2.drew=W3 at D2 ⊢;go_wp2_with fail
 have lL:=aa (pj.out.trans (D2.out.mono pj.out.size));refine(zn.out W3 lL.out).mono ?_;intro e w4 hp;cases pb:aH ks f st with
 | error y =>
  rw[pb] at hp;obtain⟨hb,v,rfl,g2,rfl,h2⟩:=hp;have H2:=aa h2;have HB:=aa hb;have HE:Hid (((aH ks f st).bind fun s1=>bz i f h.line h.names s1)=.error y):=aa (by rw[pb];rfl)
  clear h2 hb pb;go_wp2_with fail
  go_ret
  rw[HE.out];exact⟨(lL.out.mono ca).trans HB.out,_,rfl,_,rfl,H2.out⟩
 | ok s1 =>
  rw[pb] at hp;have hr4:=HR.out.dc lL.out;have hst:=(gA ks pb HN.out.nodup hr4.cx HN.out.wf).1;obtain⟨rfl,x,hx1,hx2,wy,El⟩:=fe.step (a1:=Lt.dM ks) (s1:=Lt.al ks) (a:=h.names.length) (s:=0) (by rw[Nat.add_comm];exact hr4) (iR ks pb hr4.few) (hst.cx hr4.cx) (lC ks pb) hp
  have P5:=aa ((qU.out.later D2.out).jq El);have Qf:=aa ((lL.out.mono ca).trans El.below);have hdec:Calls Tryz.prog 113 #[.pointer (some ⟨b,0,none⟩),.int .i64 (i:Int),.agg #[.int .i64 (f:Int),.int .i64 loop,.pointer pa,.slice la (l::r).length lc]] w4 (aq B b (.slice (some ⟨bk,o,none⟩) T.length c) T.length ub ob (.slice la (l::r).length lc) (grow x (l::r)) s1 (bz i f h.line h.names s1) w4):=by
   have hsg:pg w4 B f (.pointer pa) (.slice la ln lc) ms ({ l with iF:=x++l.iF}::r) s1:=wy.pos;have hlv:cX w4 B (.slice la ln lc) ({ l with iF:=x++l.iF}::r):=wy.pos.fC;rw[←Hy.out] at hlv hsg;exact kB b i f h loop pa la lc { l with iF:=x++l.iF} r s1 w4 wy.fE wy.rs hx wy.cx.lt hlv (wy.hd _ r rfl) (by have:=wy.fC;rw[cy] at this;exact this) wy.few (by have:=hsg.iF;have:=wy.names;omega) hsz
  rw[Hy.out] at hdec;have Z0:=aa hdec;have MM:=aa wy;have Qg:=aa El;have Qd:=aa hx1;have HE:Hid (((aH ks f st).bind fun s1=>bz i f h.line h.names s1)=bz i f h.line h.names s1):=aa (by rw[pb];rfl)
  clear hp hr4 wy El hst hx1 hx2 pb hdec k0 k1 k2 k3 k4 k5 k6 k7 k8;obtain⟨k0,k1,k2,k3,k4,k5,k6,k7,k8⟩:=P5.out.cells;go_wp2_with fail
  refine Z0.out.mono ?_;intro e w6 hp;obtain⟨v,rfl⟩:=hp.ret;cases jW:bz i f h.line h.names s1 with
  | error y =>
   have HP:=aa hp;rw[jW] at hp;obtain⟨_,v',hv',g2,rfl,_⟩:=hp;injection hv' with hv';subst hv';clear jW;go_wp2_with fail
   go_ret
   rw[HE.out];exact aq.from lL.out ca (aq.trans (st1:=s1) (x:=x) Qg.out.below Qg.out Qd.out (fun e=>by cases e) HP.out)
  | ok s2 =>
   have HP:=aa hp;rw[jW] at hp;have Rw:=hp.2.2.2.1;have hv':=hp.2.1;injection hv' with hv';subst hv';have P6:=aa (P5.out.jq Rw);clear hp Rw jW k0 k1 k2 k3 k4 k5 k6 k7 k8;obtain⟨k0,k1,k2,k3,k4,k5,k6,k7,k8⟩:=P6.out.cells;go_wp2_with fail
   go_still_tail 7,(by kernel_rfl)
   change wpList _ _ _ _ _ w6.drew;have D6:=aa (show Below w6.heap.size w6 w6.drew from(Below.refl _ _).drew)
   generalize w6.drew=W6 at D6 ⊢;go_wp2_with fail
   all_goals
    refine(all_nil b f loop pa la _ ln lc _ W6).mono ?_;rintro e w7 ⟨rfl,Gy⟩;have B7:=aa (D6.out.trans (Gy.mono D6.out.size));clear Gy;go_wp2_with fail
    go_ret
    rw[HE.out];exact aq.from lL.out ca (aq.trans (st1:=s1) (x:=x) Qg.out.below Qg.out Qd.out (fun e=>by cases e) (HP.out.abP B7.out))
theorem Qh {T:List Nd} {B b:Nat} {nv:Value} {ub ob:Nat} (i f:Nat) (h:Nd) (ks:List Lt) (loop:Int) (pa la:Option Addr) (lc:Nat) (ms:List Nat) (l:cJ) (r:List cJ) (st:aG) (w:World) (hr:fe T B b nv ub ob f pa (.slice la (l::r).length lc) ms (l::r) st w (h.names.length+Lt.dM ks) (Lt.al ks)) (hx:T[i]? = some h) (hk:h.kids=ks.map fun k=>(k.loc:Int)) (hn:fI T ks) (hV :∀k∈ks,bB T B b nv ub ob k)
  (hl :∀k∈ks,18≤k.hd.kind→loop=cG f st.frames) (hsz :∀s∈h.names,s.size≤65536) (hd:gO h.kind h.kids.length=(true,0,false)) :
  Calls Tryz.prog 55 #[.pointer (some ⟨b,0,none⟩),.int .i64 (i:Int),.agg #[.int .i64 (f:Int),.int .i64 loop,.pointer pa,.slice la (l::r).length lc]] w (aq B b nv T.length ub ob (.slice la (l::r).length lc) (l::r) st ((bz i f h.line h.names st).bind fun s1=>aH ks f s1) w):=by
 obtain⟨bk,o,c,rfl,eQ,ca,dN⟩:=hr.fE.nodes;obtain⟨zI,zJ,fM,⟨NA,nc,vW,_⟩,fF⟩:=dN i h hx;have sg:h.kids.length≤20000:=(hr.fE.small h (ba hx)).1;have xf:ks.length≤20000:=by rw[hk,dm] at sg;exact sg
 obtain⟨KA,kc,rj,CA,_⟩:=id fF;subst vW rj;obtain⟨x0,x1,x2,x3,x4,x5,x6⟩:=fM;have wu:i<T.length:=(aL.1 hx).1;have pS:=hr.fE.few;have hbl:b<w.heap.size:=by obtain⟨_,_,hw⟩:=hr.rs;exact hw.mV.1
 have d0:w.cell? ⟨b,0,none⟩=some (.slice (some ⟨bk,o,none⟩) T.length c):=by obtain⟨_,_,hw⟩:=hr.rs;exact ab hw.blk 0
 have hH:bk<w.heap.size:=by omega
 have HD:=aa (gP h.kind h.line h.op h.num h.s NA KA h.names.length nc h.kids.length kc);have Z0:Hid (∀W,Below w.heap.size w W→Calls Tryz.prog 113 #[.pointer (some ⟨b,0,none⟩),.int .i64 (i:Int),.agg #[.int .i64 (f:Int),.int .i64 loop,.pointer pa,.slice la (l::r).length lc]] W (aq B b (.slice (some ⟨bk,o,none⟩) T.length c) T.length ub ob (.slice la (l::r).length lc) (l::r) st (bz i f h.line h.names st) W)):=aa fun W hW=>by
  have h2:=hr.dc hW;exact kB b i f h loop pa la lc l r st W h2.fE h2.rs hx h2.cx.lt h2.pos.fC (h2.hd l r rfl) (by have:=h2.fC;omega) h2.few (by have:=h2.pos.iF;have:=h2.names;omega) hsz
 have HR:=aa hr;have HN:=aa hn;have HV:=aa hV;have HL:=aa hl;have JU:=aa fF;have Vd:=aa hd;have HK:=aa hk;clear hr hn hV hl fF hd dN hk;generalize L7:(l::r).length=ln at *;have Hy:=aa L7;clear L7;go_enter Tryz.func55,Tryz.ntmps55
 go_wp2_with fail
 refine(HD.out _ (by omega)).mono ?_
 rw[Vd.out];rintro e w1 ⟨rfl,hb1⟩;have dK:=aa hb1;clear hb1;go_wp2_with fail
 have zq:=lF rfl dK.out (.bool true) (.int .i64 0) (.bool false);have qU:=aa zq.2;have pj:=aa zq.1;clear zq;clear d0 x0 x1 x2 x3 x4 x5 x6;generalize w1.alloc (.cells #[.bool true,.int .i64 0,.bool false] 189)=W2 at qU pj ⊢;generalize w1.heap.size=q at qU ⊢;generalize w.heap.size+1=p at qU ⊢;obtain⟨k0,k1,k2,k3,k4,k5,k6,k7,k8⟩:=qU.out.cells;have hKc:h.kids.length≤kc:=CA;go_still_tail 7,(by kernel_rfl)
 change wpList _ _ _ _ _ W2.drew;have D2:=aa (show Below W2.heap.size W2 W2.drew from(Below.refl _ _).drew)
 generalize W2.drew=W3 at D2 ⊢;go_wp2_with fail
 refine(all_nil b f loop pa la KA ln lc kc W3).mono ?_;rintro e w4 ⟨rfl,hb4⟩;have B4:=aa (D2.out.trans (hb4.mono D2.out.size));have P4:=aa (qU.out.later B4.out);clear hb4 k0 k1 k2 k3 k4 k5 k6 k7 k8;obtain⟨k0,k1,k2,k3,k4,k5,k6,k7,k8⟩:=P4.out.cells;have lL:=aa (pj.out.trans (B4.out.mono pj.out.size));go_wp2_with fail
 refine(Z0.out w4 lL.out).mono ?_;intro e w5 hp;cases pb:bz i f h.line h.names st with
 | error y =>
  rw[pb] at hp;obtain⟨hb,v,rfl,g2,rfl,h2⟩:=hp;have H2:=aa h2;have HB:=aa hb;have HE:Hid (((bz i f h.line h.names st).bind fun s1=>aH ks f s1)=.error y):=aa (by rw[pb];rfl)
  clear h2 hb pb;go_wp2_with fail
  go_ret
  rw[HE.out];exact⟨(lL.out.mono ca).trans HB.out,_,rfl,_,rfl,H2.out⟩
 | ok s1 =>
  rw[pb] at hp;have hr4:=HR.out.dc lL.out;obtain⟨Qi,vJ,_⟩:=nV pb hr4.cx;obtain⟨rfl,x,hx1,hx2,wy,El⟩:=fe.step (a1:=h.names.length) (s1:=0) (by rw[jB];exact hr4) (jS pb hr4.few) (Qi.cx hr4.cx) vJ hp
  have P5:=aa (P4.out.jq El);have Qf:=aa ((lL.out.mono ca).trans El.below);have HC:Hid (∀W,Below w5.heap.size w5 W→Calls Tryz.prog 111 #[.pointer (some ⟨b,0,none⟩),.slice KA h.kids.length kc,.agg #[.int .i64 (f:Int),.int .i64 loop,.pointer pa,.slice la ln lc]] W (aq B b (.slice (some ⟨bk,o,none⟩) T.length c) T.length ub ob (.slice la ln lc) (grow x (l::r)) s1 (aH ks f s1) w5)):=aa fun W hW=>by
   have h6:=Ek f loop pa la lc ms (l::r) x s1 W (.slice KA h.kids.length kc) ks (by rw[Hy.out];exact wy.dc hW) HN.out HV.out (by rw[←HK.out];exact JU.out.below (Qf.out.trans (hW.mono wy.world))) (fun k hk mF=>(HL.out k hk mF).trans (tP vJ).symm) (fun k _=>.inl (by simp)) xf
   rw[Hy.out] at h6;exact h6.mono fun e w' h=>h.from hW wy.world
  have Qg:=aa El;have Qd:=aa hx1;have HE:Hid (((bz i f h.line h.names st).bind fun s1=>aH ks f s1)=aH ks f s1):=aa (by rw[pb];rfl)
  clear hp hr4 wy El Qi vJ hx1 hx2 pb k0 k1 k2 k3 k4 k5 k6 k7 k8;obtain⟨k0,k1,k2,k3,k4,k5,k6,k7,k8⟩:=P5.out.cells;go_wp2_with fail
  go_still_tail 7,(by kernel_rfl)
  change wpList _ _ _ _ _ w5.drew;have WM:=aa (HC.out w5.drew (Below.refl _ _).drew);generalize w5.drew=W6 at WM ⊢;go_wp2_with fail
  refine WM.out.mono ?_;intro e w7 hp;obtain⟨v,rfl⟩:=hp.ret;have HP:=aa hp;clear hp;go_wp2_with fail
  go_ret
  rw[HE.out];exact aq.from lL.out ca (aq.trans (st1:=s1) (x:=x) Qg.out.below Qg.out Qd.out (fun e=>by cases e) HP.out)
end Go.Proofs.YteflkdlaoiijbaaGreatDoor
