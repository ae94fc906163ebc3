/- Parts of the proof. -/
import Derived.Test.YtodmcdfeldkocaaGreatDoorM03
set_option maxHeartbeats 16000000
set_option maxRecDepth 20000
namespace Go.Proofs.YtodmcdfeldkocaaGreatDoor
open Go.RowKit
theorem Is (n:jw) (iz:List jw) (s:ByteArray):jX (n::iz) s=if s=n.s then some (.int .i64 (n.i:Int)) else jX iz s:=by
 unfold jX;rw[kO];by_cases e:s=n.s
 ·subst e
  simp
 ·rw[ab e,bZ fun h=>e h.symm]
theorem eX {W W':World} {m:Nat} (hg:W.grownBy W' (some m)) (hm :∃es c,W.heap[m]? = some (.map es c)) :∀(k:Nat) c (e:TypeId) fz,W.heap[k]? = some (.cells c e fz)→W'.heap[k]? = some (.cells c e fz):=fun k c e fz hk=>by
 obtain⟨es,c',hb⟩:=hm;refine(hg.block k (aO.1 hk).1 fun e'=>?_).trans hk
 injection e' with e';subst e';rw[hb] at hk;cases hk
theorem ia {W W':World} {B e s n:Nat} {v:Value} {xs:List Value} (hk :∀(k:Nat) c (e:TypeId) fz,W.heap[k]? = some (.cells c e fz)→W'.heap[k]? = some (.cells c e fz)) (hu:W.ownsRow B e s v n xs):W'.ownsRow B e s v n xs:=by
 refine⟨hu.1,?_⟩;rcases hu.2 with hn | ⟨g,cap,cur,rfl,hB,hg,rest⟩
 ·exact .inl hn
 ·exact .inr ⟨g,cap,cur,rfl,hB,hk g _ _ _ hg,rest⟩
theorem eW.keep {W W':World} {B b:Nat} {nv:Value} {N:Nat} {st:aI} {fv:Value} {ub ob:Nat} {L:List nU} (h:eW W B b nv N st fv ub ob L) (hk :∀(k:Nat) c (e:TypeId) fz,W.heap[k]? = some (.cells c e fz)→W'.heap[k]? = some (.cells c e fz)):eW W' B b nv N st fv ub ob L :=
 ⟨hk b _ _ _ h.blk,⟨ia hk h.fns.row,fun t ht=>ia hk (h.fns.vars t ht),fun t ht=>ia hk (h.fns.cr t ht),h.fns.qg,h.fns.rA⟩,h.are,ia hk h.uses,ia hk h.vX,h.pos⟩
theorem eW.names {W:World} {B b:Nat} {nv:Value} {N:Nat} {st:aI} {fv:Value} {ub ob:Nat} {L:List nU} (h:eW W B b nv N st fv ub ob L) (ns:List jw):eW W B b nv N { st with names:=ns} fv ub ob L:=h.on rfl rfl rfl
theorem Sv {ops:Array Oper} {rest:List Oper} {o:Oper} {a:Act} {Q:Exit→Act→World→Prop} (w:World) (n:vU) (hgd:o.guard=none) (sl y:Operand)
  (ho:o.op=.call { callee:=.builtin .append,args:=#[sl,y],argTypes:=#[40,40]}) (B:Nat) (v:Value) (ns:List vU) (hs:a.eval sl=v) (hown:w.ownsRow B 199 3 v ns.length (ns.flatMap ux)) (g:Nat) (hg:g=w.heap.size) (hy:a.eval y=.slice (some ⟨g,0,none⟩) 1 1)
  (hlen:ns.length≤1000000) (hB:B≤w.heap.size)
  (h :∀g' c' w',w'.ownsRow B 199 3 (.slice (some ⟨g',0,none⟩) (ns.length+1) c') (ns++[n]).length ((ns++[n]).flatMap ux)→rf v.ownBlock w w'→Below B w w'→(v.ownBlock=some g'∨w.heap.size≤g')→wpList Tryz.prog ops Q rest (a.put o.dst (.slice (some ⟨g',0,none⟩) (ns.length+1) c')) w') :
  wpList Tryz.prog ops Q (o::rest) a (w.alloc (.cells (ux n).toArray 199)):=by
 obtain⟨i0,mJ,hz0,hz1,hz2⟩:=info_parts Hz;refine X9 w (ux n) hgd sl y 40 199 i0 _ 3 32 ho Tryz.underlying40 mJ hz0 hz1 hz2 rfl (by omega) (by omega) B v ns.length _ hs hown g hg hy rfl (by intro u hu;simp[ux] at hu;rcases hu with rfl|rfl|rfl<;>rfl) hlen hB ?_
 intro g' c' w' r1 r2 r3 r4;refine h g' c' w' ?_ r2 r3 r4;rw[bY,mT,pT,EN];exact r1
structure acV (w wr:World) (B b:Nat) (nv:Value) (N:Nat) (st s1:aI) (g n c ub ob:Nat) (L1:List nU) (lv:Value) (nl m f:Nat) (iz a:List jw):Prop where
 rs:eW wr B b nv N s1 (.slice (some ⟨g,0,none⟩) L1.length c) ub ob L1
 len:L1.length=n
 jk:cU B ob lv nl (some m) w wr
 map:dL Tryz.prog 9 wr m (a++iz).length (jX (a++iz))
 own :∀x∈a,x.fn=f
 names:s1.names=a++st.names
 few:dP s1.fns
theorem j8 {T:List Nd} {B:Nat} {nv:Value} {ub ob:Nat} (b node f:Nat) (h:Nd) (loop:Int) (pa la:Option Addr) (lc:Nat) (l:cR) (r:List cR) (st:aI) (w:World) (hT:vW w B nv T) (hw:jI w B b nv T.length st ub ob) (hx:T[node]? = some h) (hf:f<st.fns.length) (hl:df w B (.slice la (l::r).length lc) (l::r)) (hlf:l.fn=f) (hrl:(l::r).length≤100000) (jl:dP st.fns) (rI:l.iz.length≤100000) (hsz :∀s∈h.names,s.size≤65536) :
  Calls Tryz.prog 75 #[.pointer (some ⟨b,0,none⟩),.int .i64 (node:Int),.agg #[.int .i64 (f:Int),.int .i64 loop,.pointer pa,.slice la (l::r).length lc]] w (ao B b nv T.length ub ob (.slice la (l::r).length lc) (l::r) st (bu node f h.line h.names st) w):=by
 obtain⟨fv,FL,hw⟩:=hw;obtain⟨⟨t1,tv,tu⟩,ht⟩:=hw.Ax hf;obtain⟨g,c,rfl,Yb,re,sY⟩:=hw.fns.form ht;have hfn:=(hw.sC ht).2;obtain⟨bk,o,tc,rfl,dU,cg,hn⟩:=hT.nodes;have jd:node<T.length:=(aK.1 hx).1;have sE:=hw.len;have Di:f<FL.length:=by omega
 have pO:=hT.few;have Ro:h.names.length≤20000:=(hT.small h (aX hx)).2;obtain⟨hbl,ph,sZ⟩:=hw.mQ;obtain⟨vM,vN,eT,hst,_⟩:=hn node h hx;have c5:=eT.c5;obtain⟨NA,nc,rfl,hnc,_⟩:=id hst;obtain⟨VA,vc,Wk,hvc,_⟩:=ez (hw.fns.vars _ (aX ht));simp only at Wk hvc;subst Wk;have d0:w.cell? ⟨b,0,none⟩=some (.slice (some ⟨bk,o,none⟩) T.length tc):=ae hw.blk 0;have d1:w.cell? ⟨b,1,none⟩=some (.slice (some ⟨g,0,none⟩) FL.length c):=ae hw.blk 1;have d2:w.cell? ⟨b,2,none⟩=some (.slice (some ⟨ub,0,none⟩) T.length T.length):=ae hw.blk 2;have e4:w.cell? ⟨g,f*6+4,none⟩=some (.slice VA t1.vars.length vc):=(sY 4 (by omega)).1
 obtain⟨u0,v0⟩:=cf hw.uses (j:=node*2) (by omega)
 obtain⟨u1,v1⟩:=cf hw.uses (j:=node*2+1) (by omega)
 obtain⟨ga,rfl,hgal,m1⟩ :∃ga,la=some ⟨ga,0,none⟩∧ga<w.heap.size∧w.cell? ⟨ga,r.length*2+1,none⟩=some (.map (some l.blk)):=by
  obtain⟨A,cc,he,_,hr⟩:=ez hl.row;injection he with qp _ _;subst qp;rcases hr with h0 | ⟨ga,rfl,_,h2,h3⟩
  ·simp at h0
  ·refine⟨ga,rfl,h2,?_⟩
   rw[h3 (r.length*2+1) (by rw[List.length_cons];omega)]
   have hq:(l::r).reverse[r.length]? = some l:=by simp
   exact iy yw _ r.length 1 l hq (by omega)
 have hmi:=(hl.maps l (bP ..)).1.isMap;have yn:=(hl.maps l (bP ..)).1;have hmB:=(hl.maps l (bP ..)).2;have aeq:((l::r).length:Int)=(r.length:Int)+1:=by simp
 have rK:bk≠ub:=by have:=hw.jc.1;omega
 have hbu:b≠ub:=fun e=>by
  obtain⟨cs,hcs⟩:=kU hw.uses;rw[←e,hw.blk] at hcs;injection hcs with hcs;injection hcs with _ hcs;exact absurd hcs (by decide)
 have HW:=aa hw;have HT:=aa hT;have HX:=aa hx;have HST:=aa hst;have HFN:=aa hfn;have HL:=aa hl;have HMI:=aa hmi;have HML:=aa yn;have HTF:=aa ht;clear hw hT hx hst hfn ht sY hn eT hl hmi yn sE;go_enter Tryz.func75,Tryz.ntmps75
 go_wp2_with fail
 go_region
 go_wp2_with fail
 go_region
 obtain⟨W2,hW2⟩ :∃W2,W2=(((w.setCell ⟨ub,node*2,none⟩ (.int .i64 2)).setCell ⟨ub,node*2+1,none⟩ (.int .i64 (t1.vars.length:Int))).alloc (.cells #[.int .i64 (f:Int),.int .i64 loop,.pointer pa,.slice (some ⟨ga,0,none⟩) (r.length+1) lc] 69)).drew.drew:=⟨_,rfl⟩;have hR2:=HW.out.use node (2,(t1.vars.length:Int));have hF2:Fr [140] w W2:=by rw[hW2];exact(((lS HW.out node _ _).trans (Fr.alloc _)).drew).drew
 have hB2:Below B w W2:=by rw[hW2];exact(((uC HW.out node _ _).alloc (by simp;omega) _).drew).drew
 have hR2:eW W2 B b (.slice (some ⟨bk,o,none⟩) T.length tc) T.length (st.dt node (2,(t1.vars.length:Int))) (.slice (some ⟨g,0,none⟩) FL.length c) ub ob FL:=by rw[hW2];exact((hR2.alloc _).drew).drew
 rw[←hW2];clear hW2 d0 d1 d2 e4 u0 v0 u1 v1 m1;have d0:W2.cell? ⟨b,0,none⟩=some (.slice (some ⟨bk,o,none⟩) T.length tc):=ae hR2.blk 0;have c5:=(hB2.cell (p:=⟨bk,o+node*7+5,none⟩) dU).trans c5;have lV:=aa (cU.uB (ob:=ob) (v:=.slice (some ⟨ga,0,none⟩) (r.length+1) lc) (n:=r.length+1) (top:=some l.blk) hF2 (by decide) hB2)
 have HM2:=aa (hF2.map HML.out);have v8:=aa hR2;clear hF2 hB2 hR2;go_wp2_with fail
 obtain⟨R,hR⟩ :∃R,R=bu node f h.line h.names st:=⟨_,rfl⟩;have HR:=aa hR;clear hR d0 c5;go_loopw [50] (fun tk wr=>∃(k:Nat) (s1:aI) (L1:List nU) (a:List jw),tk=.int .i64 (k:Int)∧k≤h.names.length∧acV w wr B b (.slice (some ⟨bk,o,none⟩) T.length tc) T.length st s1 g FL.length c ub ob L1 (.slice (some ⟨ga,0,none⟩) (r.length+1) lc) (r.length+1) l.blk f l.iz a∧a.length=k∧dO node f h.line (h.names.drop k) s1=R) (fun tk _=>h.names.length-(intOf tk).toNat)
 case atStart =>
  refine⟨0,st.dt node (2,(t1.vars.length:Int)),FL,[],rfl,bo _,⟨v8.out,rfl,lV.out,HM2.out,by simp,rfl,jl⟩,rfl,?_⟩
  rw[HR.out,oJ];unfold bu;rw[HFN.out]
 case round =>
  obtain⟨k,s1,L1,a,rfl,hk,hd,hak,hgo⟩:=hrel;have hL1:=hd.len;have acW:f<L1.length:=by omega
  obtain⟨⟨y1,yv,yu⟩,hy⟩ :∃t,L1[f]? = some t:=⟨L1[f],bG acW⟩;obtain⟨g',c',pk,_,hgl1,Yp⟩:=hd.rs.fns.form hy;injection pk with pk _ hcc;injection pk with pk;injection pk with pk _ _;subst pk hcc;obtain⟨VA1,vc1,Wk,acX,_⟩:=ez (hd.rs.fns.vars _ (aX hy));simp only at Wk acX;subst Wk;have e4:wr.cell? ⟨g,f*6+4,none⟩=some (.slice VA1 y1.vars.length vc1):=(Yp 4 (by omega)).1
  have z4:=(Yp 4 (by omega)).2
  have aa0:=(hd.rs.sC hy).2;have aer:y1.vars.length≤200:=(hd.few f y1 (hd.rs.sC hy).1).1;have aa1:=aa aa0;have HD:=aa hd;have We:=aa hgo;have HY:=aa hy;clear hd hgo hy aa0 Yp;by_cases hlt:k<h.names.length
  ·obtain⟨s,hsk⟩ :∃s,h.names[k]? = some s:=⟨h.names[k],bG hlt⟩
   have hdr:=eS hsk;have hssz:=hsz s (aX hsk);obtain⟨A',c',he,_,eF⟩:=(HST.out.below HD.out.jk.below);injection he with qp _ MD;subst qp MD;rcases eF with h0 | ⟨sb,so,rfl,yD,hsc⟩
   ·rw[h0] at hlt;exact absurd hlt (jA _)
   have cs:=hsc k s hsk;have uq:=aa hdr;have jf:=aa hlt;clear hsc hsk hdr;by_cases Fm:y1.vars.length=200
   ·have g1:((y1.vars.length:Int) == 200)=true:=by rw[Fm];rfl
    have HC:=aa (ae HD.out.rs.blk 0);have AD:=aa (HT.out.below HD.out.jk.below);go_wp2_with fail
    refine(eC b node _ _ _ AD.out HC.out HX.out).mono ?_;rintro e w2 ⟨v,rfl,⟨g2,rfl⟩,h1,h2⟩;have H1:=aa h1;have H2:=aa h2;clear h1 h2;go_wp2_with fail
    go_ret
    have hE:bu node f h.line h.names st=.error (11,h.line):=by
     rw[←HR.out,←We.out,uq.out,dO,aa1.out,ai (by omega)]
    rw[hE];exact⟨HD.out.jk.below.trans (H2.out.mono (aL cg HD.out.jk.below.size)),_,rfl,H1.out⟩
   ·have g1:((y1.vars.length:Int) == 200)=false:=aC.2 (by omega)
    have hBr:B≤wr.heap.size:=aL cg HD.out.jk.below.size;obtain⟨W7,hrun,hm7,hg7⟩:=HD.out.map.put (t:=192) (e:=3) Tryz.underlying9 Tryz.underlying192 (by rw[bY];unfold maxLen;omega) s (by unfold maxLen;omega) (.int .i64 (y1.vars.length:Int)) rfl
    have ld:=eX hg7 HD.out.map.isMap;have hR7:=HD.out.rs.keep ld;have Wn:=HD.out.jk.trans (cU.of_map hg7 HD.out.map.isMap hmB hBr);obtain⟨g',c',pk,_,hgl7,Yq⟩:=hR7.fns.form HY.out;injection pk with pk _ hcc;injection pk with pk;injection pk with pk _ _;subst pk hcc;have e47:W7.cell? ⟨g,f*6+4,none⟩=some (.slice VA1 y1.vars.length vc1):=(Yq 4 (by omega)).1
    have z47:=(Yq 4 (by omega)).2
    have hB7:B≤W7.heap.size:=aL hBr hg7.size;have aa2:y1.vars.length≤1000000:=by omega
    have Sf:f*6+4<L1.length*6:=by omega
    have R7:=aa hR7;have F7:=aa Wn;have M7:=aa hm7;clear Yq hR7 Wn hm7 hg7 ld;go_wp2_with (at_builtin;refine Sv W7 ⟨s,node,false⟩ rfl _ _ rfl B (.slice VA1 y1.vars.length vc1) y1.vars rfl (R7.out.fns.vars _ (aX HY.out)) W7.heap.size rfl rfl aa2 hB7 ?_;intro g8 c8 w8 r8 b8 Wj n8;have Sk:=aa (R7.out.LQ HY.out b8 r8 (fun k hk=>by injection hk with hk;subst hk;exact n8));have Ru:=aa Wj;have uN:=b8.row R7.out.fns.row (fun k hk e=>ed R7.out.fns.row (R7.out.fns.vars _ (aX HY.out)) (by decide) k hk e);have e43:w8.cell? ⟨g,f*6+4,none⟩=some (.slice VA1 y1.vars.length vc1):=(World.ownsRow.cellAt uN (f*6+4) Sf).trans (iy qe L1 f 4 _ HY.out (by omega));have z43:=World.ownsRow.frozenAt uN (f*6+4);clear r8 b8 Wj n8 uN)
    have HF8:=aa (F7.out.trans (cU.uB (ob:=ob) (v:=.slice (some ⟨ga,0,none⟩) (r.length+1) lc) (n:=r.length+1) (top:=some l.blk) Sk.out.2 (by decide) (Ru.out.setCell (p:=⟨g,f*6+4,none⟩) Yb _)))
    refine⟨⟨k+1,{ s1.oN f { y1 with vars:=y1.vars++[⟨s,node,false⟩]} with names:=⟨s,f,y1.vars.length⟩::s1.names},L1.set f ({ y1 with vars:=y1.vars++[⟨s,node,false⟩]},.slice (some ⟨g8,0,none⟩) (y1.vars.length+1) c8,yu),⟨s,f,y1.vars.length⟩::a,by go_num,jf.out,⟨?_,by rw[kL];exact hL1,HF8.out,?_,?_,by rw[dT];exact aw _ HD.out.names,?_⟩,by rw[List.length_cons,hak],?_⟩,by have:=jf.out;simp[intOf];omega⟩
    ·rw[kL]
     exact Sk.out.1.names _
    ·have h9:=(M7.out.ext (g:=jX (⟨s,f,y1.vars.length⟩::(a++l.iz))) fun x=>(Is ⟨s,f,y1.vars.length⟩ (a++l.iz) x).symm).mono (m:=(⟨s,f,y1.vars.length⟩::(a++l.iz)).length) (by rw[List.length_cons];exact ah _)
     exact Sk.out.2.map h9
    ·intro x hx
     rcases bc.1 hx with rfl|hx
     ·rfl
     ·exact HD.out.own x hx
    ·show dP (s1.fns.set f _)
     exact HD.out.few.set ⟨by rw[bY,mT];omega,(HD.out.few f y1 (HD.out.rs.sC HY.out).1).2⟩
    ·rw[←We.out,uq.out]
     conv=>rhs;rw[dO,aa1.out,ab (by show ¬ 200≤y1.vars.length;omega)]
  ·have ru:k=h.names.length:=by omega
   go_wp2_with fail
   go_ret
   have hE:bu node f h.line h.names st=.ok s1:=by
    rw[←HR.out,←We.out,ru,wG,dO]
   rw[hE];exact⟨HD.out.jk.below,rfl,⟨_,_,HD.out.rs⟩,HD.out.jk,a,HD.out.names,(fun e=>by cases e),HL.out.more HD.out.jk (ah _) HD.out.map fun x hx=>(HD.out.own x hx).trans hlf.symm⟩
theorem lY {B:Nat} {a w:World} (h:Below B a w) (n:Nat):Below B a (w.drewN n):=⟨h.os,h.tape,h.output,h.size,h.block⟩
theorem ME {ks:List Lt} {e:Nat} {x:Lt} (hx:ks[e]? = some x) (hl:rh x=true) (h:(ks.drop (e+1)).all rh=true):(ks.drop e).all rh=true:=by
 rw[drop_at hx,sw,hl,h];rfl
theorem Sw {T:List Nd} {B:Nat} {nv:Value} (b:Nat) (kv:Value) (ks:List Lt) (tested:Bool) (fv uv ov:Value) (w:World) (hT:vW w B nv T) (hw:w.heap[b]? = some (.cells #[nv,fv,uv,ov] 64 (0,0))) (hu:gG w B kv (ks.map fun k=>(k.loc:Int))) (nV:Lt.sW T ks) (wU:ks.length≤20000) :
  Calls Tryz.prog 120 #[.pointer (some ⟨b,0,none⟩),kv,.bool tested] w fun e w'=>e=.returned (.int .i64 ((if tested then ks.length else kX ks:Nat):Int))∧Below w.heap.size w w':=by
 obtain⟨bk,o,c,rfl,dU,cg,hn⟩:=hT.nodes;obtain⟨UA,uc,rfl,Fw,hu⟩:=hu;simp only[bU] at Fw hu ⊢;have hbl:b<w.heap.size:=(aO.1 hw).1;have d0:=ae hw 0;replace d0:_=some (Value.slice (some ⟨bk,o,none⟩) T.length c):=d0;have pO:=hT.few;have HN:=aa hn;have HIN:=aa nV;have HU:=aa hu;clear hn hu hT nV hw;cases tested with
 | true =>
  go_enter Tryz.func120,Tryz.ntmps120
  go_wp2_with fail
  go_ret
  exact⟨rfl,Below.refl _ _⟩
 | false =>
  go_enter Tryz.func120,Tryz.ntmps120
  go_wp2_with fail
  go_loopw [7] (fun t wr=>∃e:Nat,t=.int .i64 (e:Int)∧e≤ks.length∧(ks.drop e).all rh=true∧Below w.heap.size w wr) (fun t _=>(intOf t).toNat)
  case atStart=>exact⟨ks.length,rfl,ah _,by simp,Below.refl _ _⟩
  case round =>
   obtain⟨e,rfl,he,hall,hb⟩:=hrel;have tb:=aa hall;have HB:=aa hb;have d0r:=(hb.cell (p:=⟨b,0,none⟩) hbl).trans d0;clear hall hb;cases e with
   | zero =>
    have g1:decide ((0:Int)<((0:Nat):Int))=false:=by decide
    go_wp2_with fail
    go_quiet (fail)
    go_wp2_with fail
    go_ret
    exact⟨by rw[(rE ks).2 tb.out];rfl,lY HB.out _⟩
   | succ e =>
    obtain⟨x,hx⟩ :∃x,ks[e]? = some x:=⟨ks[e],bG (by omega)⟩
    have g1:decide ((0:Int)<((e+1:Nat):Int))=true:=bQ (by omega)
    rcases HU.out with h0 | ⟨sb,so,rfl,yD,hsc⟩
    ·exfalso
     rw[kJ] at h0;rw[h0] at he;exact absurd he (by simp)
    have cs:wr.cell? ⟨sb,so+e,none⟩=some (.int .i64 (x.loc:Int)):=(HB.out.cell (p:=⟨sb,so+e,none⟩) (by show sb<_;omega)).trans (hsc e _ (by rw[eO,hx];rfl))
    obtain⟨Yr,Iu⟩:=uy HIN.out hx;have hxl:x.loc<T.length:=(aK.1 Iu).1;obtain⟨vM,vN,eT,_,_⟩:=HN.out x.loc x.hd Iu;have ck:=(HB.out.cell (p:=⟨bk,o+x.loc*7,none⟩) (by show bk<_;omega)).trans eT.c0
    have HX:=aa hx;clear hsc hx eT Yr Iu;cases hl:rh x with
    | true =>
     have g2:(x.hd.kind == 32)=true:=hl;go_wp2_with fail
     go_quiet (fail)
     go_wp2_with fail
     exact⟨⟨e,rfl,by omega,ME HX.out hl tb.out,lY HB.out _⟩,by simp[intOf]⟩
    | false =>
     have g2:(x.hd.kind == 32)=false:=hl;go_wp2_with fail
     go_quiet (fail)
     go_wp2_with fail
     go_ret
     exact⟨by rw[Sc he tb.out (.inr ⟨x,HX.out,hl⟩)];rfl,lY HB.out _⟩
theorem Sx {fr:List fE} {f:Nat} {ks:List Lt} {rep:Bool} {n c:Nat} {s:ByteArray}:((∃j,cu ks s=some j∧j<n)∨∃x∈fr,x.loop=false∧x.fn=f∧(cu x.kids s).isSome)↔(((c,n,fG ks rep n)::(dB f fr).map KI).find? fun x=>(x.2.2 s).isSome).isSome=true:=by
 rw[kO,L7];have h1:(fG ks rep n s).isSome=(ng ks rep n s).isSome:=by unfold fG;cases ng ks rep n s<;>rfl
 have h2:=LZ (ks:=ks) (rep:=rep) (n:=n) (s:=s);dsimp only
 rw[h1];cases e:(ng ks rep n s).isSome with
 | true =>
  rw[e] at h2;simp only[Option.isSome_some,iff_true];exact .inl (h2.1 rfl)
 | false =>
  rw[e] at h2;dsimp only
  rw[uQ];have h3:¬∃j,cu ks s=some j∧j<n:=fun h=>by have:=h2.2 h;cases this
  rw[Option.isSome_map];exact⟨fun h=>h.resolve_left h3,.inr⟩
theorem MF {fr:List fE} {f n:Nat} {all r:List Lt} {x:Lt} (hk:x.hd.kind=32) (h:(∃j,cu all x.hd.s=some j∧j<n)∨∃y∈fr,y.loop=false∧y.fn=f∧(cu y.kids x.hd.s).isSome):b9 fr f all n (x::r)=some x.hd.line:=by
 rw[b9,ai ⟨hk,h⟩]
theorem MG {fr:List fE} {f n:Nat} {all r:List Lt} {x:Lt} (h:¬ (x.hd.kind=32∧((∃j,cu all x.hd.s=some j∧j<n)∨∃y∈fr,y.loop=false∧y.fn=f∧(cu y.kids x.hd.s).isSome))):b9 fr f all n (x::r)=b9 fr f all (n+1) r:=by
 rw[b9,ab h]
theorem Du {ks:List Lt} {rep:Bool} {n:Nat} {x:Lt} (hx:ks[n]? = some x) (h:rh x=false):fG ks rep (n+1)=fG ks rep n:=by
 funext s
 unfold fG;rw[uJ hx];unfold mu;unfold rh at h;rw[h,zU]
theorem xf {ks:List Lt} {rep:Bool} {n:Nat} {x:Lt} (hx:ks[n]? = some x) (h:rh x=true) (hn:¬∃j,cu ks x.hd.s=some j∧j<n) (s:ByteArray):(if s=x.hd.s then some (.agg #[.int .i64 (x.loc:Int),.int .i64 (rF ks rep n:Int)]) else fG ks rep n s)=fG ks rep (n+1) s:=by
 by_cases e:s=x.hd.s
 ·subst e
  rw[ai rfl];unfold fG;rw[Ia hx h hn];rfl
 ·rw[ab e]
  unfold fG;rw[uJ hx];unfold mu;have h2:decide (x.hd.s=s)=false:=bZ fun e'=>e e'.symm
  rw[h2,Bool.and_false]
theorem Iv {ks:List Lt} {rep:Bool} {n c:Nat} {l:List fE}:Ma ((c,n,fG ks rep n)::l.map KI):=by
 intro x hx s v hv;rcases bc.1 hx with rfl|hx
 ·replace hv:fG ks rep n s=some v:=hv
  unfold fG at hv;cases e:ng ks rep n s with
  | none=>rw[e] at hv;cases hv
  | some p =>
   rw[e] at hv;injection hv with hv;exact⟨_,_,hv.symm⟩
 ·exact AQ l x hx s v hv
theorem grown_of {W W':World} {m:Nat} (h:Below W.heap.size W W'):W.grownBy W' (some m):=⟨h.os,h.tape,h.output,h.size,fun k hk _=>h.block k hk⟩
theorem cb.grown {W W':World} {B m:Nat} (hg:W.grownBy W' (some m)) (hm :∃es c,W.heap[m]? = some (.map es c)) :∀{fs:List (Nat×Nat×(ByteArray→Option Value))} {ms:List Nat} {p:Value},cb W B fs ms p→m∉ms→cb W' B fs ms p
 | [],_,_,h,_=>h
 | x::fs,ms,p,h,ht=>by
  obtain⟨k',p',m',CW,rfl,rfl,h1,h2,h3,h4,h5,h6⟩:=h;have hne:m'≠m:=fun e=>ht (e▸bP ..)
  exact⟨k',p',m',CW,rfl,rfl,h1,eX hg hm k' _ _ _ h2,h3.same (hg.block m' h3.lt fun e=>hne (by injection e with e)),h4,h5,cb.grown hg hm h6 fun h=>ht (bO _ h)⟩
theorem j9 {W W':World} {B m:Nat} (h:W.grownBy W' (some m)) (hm:B≤m) (hB:B≤W.heap.size):Below B W W':=⟨h.os,h.tape,h.output,h.size,fun k hk=>h.block k (by omega) fun e=>by injection e with e;omega⟩
def AS (m:Nat) (ks:List Lt) (rep:Bool) (r:Option Int) (w:World) (e:Ending) (w':World):Prop :=
 w.grownBy w' (some m)∧match r with
 | none=>e=.returned .nilIface∧dL Tryz.prog 9 w' m ks.length (fG ks rep ks.length)
 | some l=>∃v,e=.returned v∧AB w' v l 9
theorem FI {ks:List Lt} {rep:Bool} {n:Nat} (h:n<ks.length):rF ks rep n=if decide ((n:Int)<((if rep then ks.length else kX ks:Nat):Int))=true then gS ks n else 0:=by
 unfold rF;cases rep with
 | true =>
  rw[ai (.inl rfl),ai (bQ (by show(n:Int)<(ks.length:Int);omega))]
 | false =>
  by_cases h1:n<kX ks
  ·rw[ai (.inr h1),ai (bQ (by show(n:Int)<(kX ks:Int);omega))]
  ·rw[ab (by rintro(h2|h2);cases h2;exact h1 h2),ab (by simp only[iF];show ¬ (n:Int)<(kX ks:Int);omega)]
theorem MH {T:List Nd} {B:Nat} {nv:Value} (b kb m f:Nat) (p:Option Addr) (kv:Value) (ks:List Lt) (fr:List fE) (ms:List Nat) (rep:Bool) (fv uv ov:Value) (w:World) (hT:vW w B nv T) (hw:w.heap[b]? = some (.cells #[nv,fv,uv,ov] 64 (0,0))) (hu:gG w B kv (ks.map fun k=>(k.loc:Int))) (nV:Lt.sW T ks) (wU:ks.length≤20000)
  (hkb:w.heap[kb]? = some (.cells #[.pointer p,.map (some m),.int .i64 0] 150 (0,0))) (hm:dL Tryz.prog 9 w m 0 (fun _=>none)) (hc:oO w B (dB f fr) ms (.pointer p)) (Sy :∀a,p=some a→a.block<kb) (hmm:m∉ms) (hBk:B≤kb) (hBm:B≤m) (hs :∀x∈ks,x.hd.s.size≤65536) :
  Calls Tryz.prog 76 #[.pointer (some ⟨b,0,none⟩),.pointer (some ⟨kb,0,none⟩),kv,.bool rep] w (AS m ks rep (b9 fr f ks 0 ks) w):=by
 obtain⟨bk,o,c,rfl,dU,cg,hn⟩:=hT.nodes;have Sz:=Sw (T:=T) (B:=B) b kv ks rep fv uv ov w hT hw hu nV wU;obtain⟨UA,uc,rfl,Fw,hu⟩:=hu;simp only[bU] at Fw hu Sz ⊢;have hbl:b<w.heap.size:=(aO.1 hw).1;have acY:kb<w.heap.size:=(aO.1 hkb).1;have pO:=hT.few;obtain⟨E,hE⟩ :∃E:Nat,E=(if rep=true then ks.length else kX ks):=⟨_,rfl⟩
 rw[←hE] at Sz;have HE0:=aa hE;clear hE;have HW:=aa hw;have HT:=aa hT;have HIN:=aa nV;have HU:=aa hu;have HKB:=aa hkb;have HM:=aa hm;have HC:=aa hc;have acZ:=aa Sz;have HS:=aa hs;clear hn hu hT nV hw hkb hm hc Sz hs;go_enter Tryz.func76,Tryz.ntmps76
 go_wp2_with fail
 refine acZ.out.mono ?_;rintro e w1 ⟨rfl,hb1⟩;have ee:=aa hb1;clear hb1;go_wp2_with fail
 go_loopw [10,23] (fun td tk wr=>∃n:Nat,tk=.int .i64 (n:Int)∧td=.int .i64 (gS ks n:Int)∧n≤ks.length∧w.grownBy wr (some m)∧dL Tryz.prog 9 wr m n (fG ks rep n)∧b9 fr f ks n (ks.drop n)=b9 fr f ks 0 ks) (fun _ tk _=>ks.length-(intOf tk).toNat)
 case atStart =>
  refine⟨0,rfl,by rw[Az];rfl,bo _,grown_of ee.out,?_,by rw[oJ]⟩
  exact(HM.out.same (ee.out.block m HM.out.lt)).ext fun s=>by unfold fG;rw[H9];rfl
 case round =>
  obtain⟨n,rfl,rfl,zz,hg,hm,hr⟩:=hrel;have pj:=j9 hg hBm cg;have C9:=eX hg HM.out.isMap;have hbr:=C9 b _ _ _ HW.out;have aa3:=C9 kb _ _ _ HKB.out;have d0:=ae hbr 0;replace d0:_=some (Value.slice (some ⟨bk,o,none⟩) T.length c):=d0;have aa4:b<wr.heap.size:=cG hbl hg.size;have MI:kb<wr.heap.size:=cG acY hg.size;have hdc:gS ks n≤20000:=aL (LY ks n) wU;have HG:=aa hg;have Rv:=aa hm;have HR:=aa hr;have iK:=aa pj;have pP:=aa hbr;have HKR:=aa aa3;clear hg hm hr pj hbr aa3 C9;by_cases hlt:n<ks.length
  ·obtain⟨x,hx⟩ :∃x,ks[n]? = some x:=⟨ks[n],bG hlt⟩
   have hxs:=HS.out x (aX hx);rcases HU.out with h0 | ⟨sb,so,rfl,yD,hsc⟩
   ·exfalso
    rw[kJ] at h0;rw[h0] at hlt;exact absurd hlt (by simp)
   have cs:wr.cell? ⟨sb,so+n,none⟩=some (.int .i64 (x.loc:Int)):=(iK.out.cell (p:=⟨sb,so+n,none⟩) yD).trans (hsc n _ (by rw[eO,hx];rfl))
   obtain⟨Yr,Iu⟩:=uy HIN.out hx;have hxl:x.loc<T.length:=(aK.1 Iu).1;have AD:=aa (HT.out.below iK.out);obtain⟨bk2,o2,tc2,Ys,_,_,uP⟩:=AD.out.nodes;injection Ys with Ys _ htc;injection Ys with Ys;injection Ys with Ys hto _;subst Ys hto htc;obtain⟨vM,vN,eT,⟨NA,nc,vQ,_⟩,⟨KA,kc,rl,_⟩⟩:=uP x.loc x.hd Iu;subst vQ rl;have c0:=eT.c0;have c1:=eT.c1;have c2:=eT.c2;have c3:=eT.c3;have c4:=eT.c4;have c5:=eT.c5;have c6:=eT.c6;have hdr:=eS hx;have HXT:=aa Iu;have uq:=aa hdr;have HX:=aa hx;have jf:=aa hlt;have MJ:Hid (Calls Tryz.prog 77 #[.pointer (some ⟨b,0,none⟩),.int .i64 (x.loc:Int)] wr fun e w'=>e=.returned (.bool (isDecl x))∧wr=w'):=aa (sD b x.loc x.hd wr AD.out d0 Iu)
   clear Iu hdr hx eT uP Yr hsc;by_cases yE:x.hd.kind=32
   ·have Dv:isDecl x=false:=by unfold isDecl;rw[yE];rfl
    have vR:gS ks (n+1)=gS ks n:=by rw[uH HX.out,Dv];rfl
    have hcn:cb wr B ((0,n,fG ks rep n)::(dB f fr).map KI) (m::ms) (.pointer (some ⟨kb,0,none⟩)):=⟨kb,p,m,ms,rfl,rfl,hBk,HKR.out,Rv.out,hBm,Sy,cb.grown HG.out HM.out.isMap HC.out hmm⟩;have HCN:=aa hcn;rw[Dv] at MJ;have HDS:=aa vR;have SB:=aa yE;have g2:(x.hd.kind != 32)=false:=by rw[yE];rfl
    clear hcn vR Dv yE;go_wp2_with fail
    refine MJ.out.mono ?_;rintro e w2 ⟨rfl,rfl⟩;go_wp2_with fail
    obtain⟨W3,hW3⟩ :∃W3,W3=wr.alloc (.cells #[.int .i64 x.hd.kind,.int .i64 x.hd.line,.int .i64 x.hd.op,.int .i64 x.hd.num,.string x.hd.s,.slice NA x.hd.names.length nc,.slice KA x.hd.kids.length kc] 54):=⟨_,rfl⟩;rw[←hW3];have B3:Hid (Below wr.heap.size wr W3):=aa (by rw[hW3];exact(Below.refl _ _).alloc (ah _) _)
    have n4:W3.cell? ⟨wr.heap.size,4,none⟩=some (.string x.hd.s):=by rw[hW3];exact ae (heap_alloc_new _ _) 4
    have hs3:wr.heap.size<W3.heap.size:=by rw[hW3,aq];omega
    clear hW3;refine(AE _ _ _ x.hd.s W3 (HCN.out.later B3.out) (by unfold maxLen;omega) Iv).mono ?_
    rintro e w4 ⟨Su,a,d,rfl,hF,hb4⟩;have pn:=Sx (fr:=fr) (f:=f) (ks:=ks) (rep:=rep) (n:=n) (c:=0) (s:=x.hd.s);have n4:=(hb4.cell (p:=⟨wr.heap.size,4,none⟩) hs3).trans n4;have MK:=B3.out.trans (hb4.mono (fu hs3));have hw4:wr.heap.size<w4.heap.size:=cG hs3 hb4.size;have m4:=(MK.cell (p:=⟨kb,1,none⟩) MI).trans (ae HKR.out 1);replace m4:_=some (Value.map (some m)):=m4;have B4:=aa MK;clear MK hb4;cases ql:((0,n,fG ks rep n)::(dB f fr).map KI).find? (fun y=>(y.2.2 x.hd.s).isSome) with
    | some y =>
     obtain⟨k2,hp,_,_,_⟩:=hF.yes ql;subst hp;rw[ql] at pn;have HE:Hid (b9 fr f ks 0 ks=some x.hd.line):=aa (by rw[←HR.out,uq.out,MF SB.out (pn.2 rfl)])
     have Mv:=aa ((AD.out.below (B4.out.mono (aL cg HG.out.size))).below ((Below.refl B w4).alloc (aL (aL cg HG.out.size) B4.out.size) (.cells #[.int .i64 a,.int .i64 d] 154)));have Mw:=aa (((Below.refl w4.heap.size w4).alloc (ah _) (.cells #[.int .i64 a,.int .i64 d] 154)).cell (p:=⟨b,0,none⟩) (cG aa4 B4.out.size) |>.trans ((B4.out.cell (p:=⟨b,0,none⟩) aa4).trans d0));clear hF ql pn;go_wp2_with fail
     refine(eC b x.loc _ _ _ Mv.out Mw.out HXT.out).mono ?_;rintro e w6 ⟨v,rfl,⟨g2,rfl⟩,h1,h2⟩;have H1:=aa h1;have H2:=aa h2;clear h1 h2;go_wp2_with fail
     go_ret
     rw[HE.out];exact⟨HG.out.trans ((grown_of B4.out).trans ((World.grownBy_alloc _ _ _).trans (grown_of H2.out))),_,rfl,H1.out⟩
    | none =>
     have hp:=hF.no ql;subst hp;rw[ql] at pn;have AT:¬ ((∃j,cu ks x.hd.s=some j∧j<n)∨∃y∈fr,y.loop=false∧y.fn=f∧(cu y.kids x.hd.s).isSome):=fun h=>by have:=pn.1 h;cases this
     have HE:Hid (b9 fr f ks (n+1) (ks.drop (n+1))=b9 fr f ks 0 ks):=aa (by rw[←HR.out,uq.out,MG fun h=>AT h.2])
     have Md:Hid (¬∃j,cu ks x.hd.s=some j∧j<n):=aa fun h=>AT (.inl h)
     clear hF ql pn AT;by_cases nV:n<E
     ·have g3:decide ((n:Int)<(E:Int))=true:=bQ (by omega)
      go_wp2_with fail
      obtain⟨W5,SC⟩ :∃W5,W5=(w4.alloc (.cells #[.int .i64 a,.int .i64 d] 154)).alloc (.cells #[.int .i64 (x.loc:Int),.int .i64 (gS ks n:Int)] 154):=⟨_,rfl⟩;rw[←SC];have b5:Below w4.heap.size w4 W5:=by rw[SC];exact Below.two _ _
      have Yt:W5.heap[w4.heap.size+1]? = some (.cells #[.int .i64 (x.loc:Int),.int .i64 (gS ks n:Int)] 154 (0,0)):=by
       rw[SC];have:=heap_alloc_new (w4.alloc (.cells #[.int .i64 a,.int .i64 d] 154)) (.cells #[.int .i64 (x.loc:Int),.int .i64 (gS ks n:Int)] 154);rwa[aq] at this
      have l0:=gK Yt;have l1:=gL Yt;clear SC Yt;have n5:=(b5.cell (p:=⟨wr.heap.size,4,none⟩) hw4).trans n4;have m5:=(b5.cell (p:=⟨kb,1,none⟩) (cG MI B4.out.size)).trans m4;have zA:=B4.out.trans (b5.mono B4.out.size);have hM5:dL Tryz.prog 9 W5.drew m n (fG ks rep n):=Rv.out.same (zA.block m Rv.out.lt);obtain⟨W6,hrun,hm6,Wo⟩:=hM5.put (t:=148) (e:=154) Tryz.underlying9 Tryz.underlying148 (by unfold maxLen;omega) x.hd.s (by unfold maxLen;omega) (.agg #[.int .i64 (x.loc:Int),.int .i64 (gS ks n:Int)]) rfl
      have SD:rh x=true:=bQ SB.out;have hD:(rF ks rep n:Int)=(gS ks n:Int):=by
       rw[FI jf.out,←HE0.out];rw[g3];rfl
      have HG6:=aa (HG.out.trans ((grown_of (m:=m) zA.drew).trans Wo));have HM6:Hid (dL Tryz.prog 9 W6 m (n+1) (fG ks rep (n+1))):=aa (hm6.ext fun s=>by have:=xf (rep:=rep) HX.out SD Md.out s;rw[hD] at this;exact this)
      clear hm6 Wo zA b5 hM5 SD hD n4 m4 c0 c1 c2 c3 c4 c5 c6 cs d0;go_region
      go_wp2_with fail
      exact⟨⟨n+1,by go_num,by rw[HDS.out],jf.out,HG6.out,HM6.out,HE.out⟩,by have:=jf.out;simp[intOf];omega⟩
     ·have g3:decide ((n:Int)<(E:Int))=false:=bZ (by omega)
      go_wp2_with fail
      obtain⟨W5,SC⟩ :∃W5,W5=(w4.alloc (.cells #[.int .i64 a,.int .i64 d] 154)).alloc (.cells #[.int .i64 (x.loc:Int),.int .i64 0] 154):=⟨_,rfl⟩;rw[←SC];have b5:Below w4.heap.size w4 W5:=by rw[SC];exact Below.two _ _
      have Yt:W5.heap[w4.heap.size+1]? = some (.cells #[.int .i64 (x.loc:Int),.int .i64 0] 154 (0,0)):=by
       rw[SC];have:=heap_alloc_new (w4.alloc (.cells #[.int .i64 a,.int .i64 d] 154)) (.cells #[.int .i64 (x.loc:Int),.int .i64 0] 154);rwa[aq] at this
      have l0:=gK Yt;have l1:=gL Yt;clear SC Yt;have n5:=(b5.cell (p:=⟨wr.heap.size,4,none⟩) hw4).trans n4;have m5:=(b5.cell (p:=⟨kb,1,none⟩) (cG MI B4.out.size)).trans m4;have zA:=B4.out.trans (b5.mono B4.out.size);have hM5:dL Tryz.prog 9 W5.drew m n (fG ks rep n):=Rv.out.same (zA.block m Rv.out.lt);obtain⟨W6,hrun,hm6,Wo⟩:=hM5.put (t:=148) (e:=154) Tryz.underlying9 Tryz.underlying148 (by unfold maxLen;omega) x.hd.s (by unfold maxLen;omega) (.agg #[.int .i64 (x.loc:Int),.int .i64 0]) rfl
      have SD:rh x=true:=bQ SB.out;have hD:(rF ks rep n:Int)=0:=by
       rw[FI jf.out,←HE0.out];rw[g3];rfl
      have HG6:=aa (HG.out.trans ((grown_of (m:=m) zA.drew).trans Wo));have HM6:Hid (dL Tryz.prog 9 W6 m (n+1) (fG ks rep (n+1))):=aa (hm6.ext fun s=>by have:=xf (rep:=rep) HX.out SD Md.out s;rw[hD] at this;exact this)
      clear hm6 Wo zA b5 hM5 SD hD n4 m4 c0 c1 c2 c3 c4 c5 c6 cs d0;go_region
      go_wp2_with fail
      exact⟨⟨n+1,by go_num,by rw[HDS.out],jf.out,HG6.out,HM6.out,HE.out⟩,by have:=jf.out;simp[intOf];omega⟩
   ·have hl0:rh x=false:=bZ yE
    have HWO:=aa (Du (rep:=rep) HX.out hl0);have HE:Hid (b9 fr f ks (n+1) (ks.drop (n+1))=b9 fr f ks 0 ks):=aa (by rw[←HR.out,uq.out,MG fun h=>yE h.1])
    have g2:(x.hd.kind != 32)=true:=oL.2 yE;have vR:=uH HX.out;have SB:=aa yE;clear yE hl0;cases Dv:isDecl x with
    | true =>
     rw[Dv] at MJ vR;replace vR:gS ks (n+1)=gS ks n+1:=vR;have HDS:=aa vR;clear vR Dv;go_wp2_with fail
     refine MJ.out.mono ?_;rintro e w2 ⟨rfl,rfl⟩;go_wp2_with fail
     exact⟨⟨n+1,by go_num,by rw[HDS.out];go_num,jf.out,HG.out.trans (World.grownBy_alloc _ _ _),by rw[HWO.out];exact(Rv.out.same ((World.grownBy_alloc wr _ none).block m Rv.out.lt (by simp))).mono (iH n),HE.out⟩,by have:=jf.out;simp[intOf];omega⟩
    | false =>
     rw[Dv] at MJ vR;replace vR:gS ks (n+1)=gS ks n:=vR;have HDS:=aa vR;clear vR Dv;go_wp2_with fail
     refine MJ.out.mono ?_;rintro e w2 ⟨rfl,rfl⟩;go_wp2_with fail
     exact⟨⟨n+1,by go_num,by rw[HDS.out],jf.out,HG.out.trans (World.grownBy_alloc _ _ _),by rw[HWO.out];exact(Rv.out.same ((World.grownBy_alloc wr _ none).block m Rv.out.lt (by simp))).mono (iH n),HE.out⟩,by have:=jf.out;simp[intOf];omega⟩
  ·have ru:n=ks.length:=by omega
   go_wp2_with fail
   go_ret
   have hE:b9 fr f ks 0 ks=none:=by
    rw[←HR.out,ru,wG,b9]
   rw[hE];subst ru;exact⟨HG.out,rfl,Rv.out⟩
theorem FJ {α:Type} {L:List α} {x t:α} {i:Nat} (h:(L++[x])[i]? = some t):L[i]? = some t∨(i=L.length∧t=x):=by
 by_cases hi:i<L.length
 ·rw[kI hi] at h
  exact .inl h
 ·rw[zI (by omega)] at h
  have:=(aK.1 h).1;rw[mT] at this;obtain h0:i-L.length=0:=by omega
  rw[h0] at h;injection h with h;exact .inr ⟨by omega,h.symm⟩
theorem AU {L:List nU} {x:nU} {p:nU→Value} (h :∀(i j:Nat) t u,i≠j→L[i]? = some t→L[j]? = some u→∀g,(p t).ownBlock=some g→(p u).ownBlock≠some g) (hx:(p x).ownBlock=none) :∀(i j:Nat) t u,i≠j→(L++[x])[i]? = some t→(L++[x])[j]? = some u→∀g,(p t).ownBlock=some g→(p u).ownBlock≠some g:=by
 intro i j t u vT hi hj g hg;rcases FJ hj with hj | ⟨hj,rfl⟩
 ·rcases FJ hi with hi | ⟨hi,rfl⟩
  ·exact h i j t u vT hi hj g hg
  ·rw[hx] at hg;cases hg
 ·rw[hx];intro e;cases e
theorem eW.SE {W W1:World} {B b:Nat} {nv:Value} {N:Nat} {st:aI} {fv:Value} {ub ob:Nat} {L:List nU} (h:eW W B b nv N st fv ub ob L) (hb:rf fv.ownBlock W W1) {x:dr} (hv:x.vars=[]) (hu:x.cr=[]) {fv':Value} (hr:W1.ownsRow B 43 6 fv' (L++[(x,Value.slice none 0 0,Value.slice none 0 0)]).length ((L++[(x,Value.slice none 0 0,Value.slice none 0 0)]).flatMap RY)) :
  eW (W1.setCell ⟨b,1,none⟩ fv') B b nv N { st with fns:=st.fns++[x]} fv' ub ob (L++[(x,Value.slice none 0 0,Value.slice none 0 0)])∧Fr [43,64] W (W1.setCell ⟨b,1,none⟩ fv'):=by
 have ho:=rf.db h.fns.row hb;have hblk:=ho.2 b _ _ _ h.blk (by decide)
 have Hy:=KG.set hblk 1 fv';refine⟨⟨bM hblk 1 fv',⟨db hr Hy (by decide),fun t ht=>?_,fun t ht=>?_,AU (p:=fun t=>t.2.1) h.fns.qg rfl,AU (p:=fun t=>t.2.2) h.fns.rA rfl⟩,by rw[kN,h.are];rfl,kV (kV h.uses ho (by decide)) Hy (by decide),kV (kV h.vX ho (by decide)) Hy (by decide),h.pos⟩,((Fr.but h.fns.row (E:=[43]) (by decide) hb).mono (by decide)).trans ((Fr.set (E:=[64]) hblk (by decide) _ _).mono (by decide))⟩
 ·rcases dd.1 ht with ht|ht
  ·exact db (db (h.fns.vars t ht) ho (by decide)) Hy (by decide)
  ·obtain rfl:=bK.1 ht
   show World.ownsRow _ B _ 3 (.slice none 0 0) x.vars.length (x.vars.flatMap ux)
   rw[hv];exact World.ownsRow_nil _ _ _ _
 ·rcases dd.1 ht with ht|ht
  ·exact db (db (h.fns.cr t ht) ho (by decide)) Hy (by decide)
  ·obtain rfl:=bK.1 ht
   show World.ownsRow _ B _ 2 (.slice none 0 0) x.cr.length (x.cr.flatMap KH)
   rw[hu];exact World.ownsRow_nil _ _ _ _
theorem ML {ops:Array Oper} {o:Oper} {a:Act} {K:Act→World→Prop} {Q:Exit→Act→World→Prop} {E:Prop} (w0 w1:World) (n:nU) (hgd:o.guard=none) (sl y:Operand)
  (ho:o.op=.call { callee:=.builtin .append,args:=#[sl,y],argTypes:=#[32,32]}) (B:Nat) (v:Value) (ns:List nU) (hs:a.eval sl=v) (hown:w0.ownsRow B 43 6 v ns.length (ns.flatMap RY)) (ec :∀(i:Nat),i<w0.heap.size→w1.heap[i]? = w0.heap[i]?) (g:Nat) (hg:g=w0.heap.size) (hy:a.eval y=.slice (some ⟨g,0,none⟩) 1 1)
  (hcell:w1.heap[g]? = some (.cells (RY n).toArray 43 (0,0))) (h1c:n.2.1=.slice none 0 0∧n.2.2=.slice none 0 0) (hlen:ns.length≤1000000) (hB:B≤w0.heap.size) (hle:w0.heap.size≤w1.heap.size) (X6:w1.os=w0.os∧w1.tape=w0.tape∧w1.output=w0.output)
  (h :∀g' c' w',w'.ownsRow B 43 6 (.slice (some ⟨g',0,none⟩) (ns.length+1) c') (ns++[n]).length ((ns++[n]).flatMap RY)→rf v.ownBlock w0 w'→Below B w0 w'→K (a.put o.dst (.slice (some ⟨g',0,none⟩) (ns.length+1) c')) w') :
  if Region.wanted o (yielded ops a.tmps)=true then Oper.wp Tryz.prog o a w1 K Q else E:=by
 obtain⟨i0,mJ,hz0,hz1,hz2⟩:=info_parts LU;refine At w0 w1 (RY n) hgd sl y 32 43 i0 _ 6 80 ho Tryz.underlying32 mJ hz0 hz1 hz2 rfl (by omega) (by omega) B v ns.length _ hs hown ec g hg hy hcell rfl (by intro u hu;simp[RY,h1c] at hu;rcases hu with rfl|rfl|rfl|rfl|rfl<;>rfl) hlen hB hle X6 ?_
 intro g' c' w' r1 r2 r3 _;refine h g' c' w' ?_ r2 r3;rw[bY,mT,pT,EN];exact r1
def xg (B b:Nat) (nv:Value) (N ub ob:Nat) (st:aI) (x:dr) (lv:Value) (w:World) (e:Ending) (w':World):Prop :=
 e=.returned (.agg #[.int .i64 (st.fns.length:Int),.int .i64 (-1),.pointer none,lv])∧jI w' B b nv N { st with fns:=st.fns++[x]} ub ob∧Below B w w'∧Fr [43,64] w w'
theorem nj (W:World) (r:Nat) (a c d e:Value) (k:Nat) (hk:k≠r):((((W.setCell ⟨r,0,none⟩ a).setCell ⟨r,1,none⟩ c).setCell ⟨r,2,none⟩ d).setCell ⟨r,3,none⟩ e).heap[k]? = W.heap[k]?:=by
 rw[Below.heap_setCell _ _ _ k hk,Below.heap_setCell _ _ _ k hk,Below.heap_setCell _ _ _ k hk,Below.heap_setCell _ _ _ k hk]
theorem xh {B:Nat} {nv:Value} {N ub ob:Nat} (b:Nat) (x:dr) (la:Option Addr) (ln lc:Nat) (st:aI) (w:World) (hw:jI w B b nv N st ub ob) (hv:x.vars=[]) (hu:x.cr=[]) (Di:st.fns.length≤100000) :
  Calls Tryz.prog 19 #[.pointer (some ⟨b,0,none⟩),.agg #[.int .i64 (x.node:Int),.int .i64 x.parent,.int .i64 (x.params:Int),.bool x.many,.slice none 0 0,.slice none 0 0],.slice la ln lc] w (xg B b nv N ub ob st x (.slice la ln lc) w):=by
 obtain⟨fv,L,hw⟩:=hw;obtain⟨hbl,ph,sZ⟩:=hw.mQ;have hBb:B≤b:=hw.pos;obtain⟨FA,fc,Fh,hfc,_⟩:=ez hw.fns.row;subst Fh;have sE:L.length=st.fns.length:=hw.len;have HW:=aa hw;have HV:=aa hv;have HU:=aa hu;unfold xg;rw[←sE] at Di ⊢;have HLl:=aa sE;clear hw hv hu sE;obtain⟨W1,hW1⟩ :∃W1,W1=(w.alloc (.cells #[.int .i64 (x.node:Int),.int .i64 x.parent,.int .i64 (x.params:Int),.bool x.many,.slice none 0 0,.slice none 0 0] 43)).alloc (.cells #[.int .i64 0,.int .i64 0,.pointer none,.slice none 0 0] 69):=⟨_,rfl⟩;have ee:Hid (Below w.heap.size w W1):=aa (by rw[hW1];exact Below.two _ _)
 have fH:Hid (W1.heap.size=w.heap.size+1+1):=aa (by rw[hW1,aq,aq])
 have eM:W1.heap[w.heap.size]? = some (.cells #[.int .i64 (x.node:Int),.int .i64 x.parent,.int .i64 (x.params:Int),.bool x.many,.slice none 0 0,.slice none 0 0] 43 (0,0)):=by
  rw[hW1];exact(Below.heap_alloc _ _ _ (by rw[aq];omega)).trans (heap_alloc_new w _)
 have MM:W1.heap[w.heap.size+1]? = some (.cells #[.int .i64 0,.int .i64 0,.pointer none,.slice none 0 0] 69 (0,0)):=by
  rw[hW1];have:=heap_alloc_new (w.alloc (.cells #[.int .i64 (x.node:Int),.int .i64 x.parent,.int .i64 (x.params:Int),.bool x.many,.slice none 0 0,.slice none 0 0] 43)) (.cells #[.int .i64 0,.int .i64 0,.pointer none,.slice none 0 0] 69);rwa[aq] at this
 have x0:W1.cell? ⟨w.heap.size,0,none⟩=some (.int .i64 (x.node:Int)):=ae eM 0;have x1:W1.cell? ⟨w.heap.size,1,none⟩=some (.int .i64 x.parent):=ae eM 1;have x2:W1.cell? ⟨w.heap.size,2,none⟩=some (.int .i64 (x.params:Int)):=ae eM 2;have x3:W1.cell? ⟨w.heap.size,3,none⟩=some (.bool x.many):=ae eM 3;have x4:W1.cell? ⟨w.heap.size,4,none⟩=some (.slice none 0 0):=ae eM 4;have x5:W1.cell? ⟨w.heap.size,5,none⟩=some (.slice none 0 0):=ae eM 5;have HPS:=aa MM;have je:=aa hW1;have nm:=aa (HW.out.later ee.out);have d1:W1.cell? ⟨b,1,none⟩=some (.slice FA L.length fc):=ae nm.out.blk 1;clear eM MM hW1;go_enter Tryz.func19,Tryz.ntmps19
 go_wp2_with fail
 rw[←je.out];clear je;have hb1:b<W1.heap.size:=by have:=fH.out;omega
 have hw1l:w.heap.size<W1.heap.size:=by have:=fH.out;omega
 have hp1l:w.heap.size+1<W1.heap.size:=by have:=fH.out;omega
 have hB1:B≤W1.heap.size:=by have:=nm.out.mQ.1;omega
 have cg:B≤w.heap.size:=by omega
 have HZ:Hid ((W1.alloc (.cells #[.int .i64 (x.node:Int),.int .i64 x.parent,.int .i64 (x.params:Int),.bool x.many,.slice none 0 0,.slice none 0 0] 43)).drew.heap[W1.heap.size]? = some (.cells #[.int .i64 (x.node:Int),.int .i64 x.parent,.int .i64 (x.params:Int),.bool x.many,.slice none 0 0,.slice none 0 0] 43 (0,0))):=aa (heap_alloc_new W1 _);have d1b:(W1.alloc (.cells #[.int .i64 (x.node:Int),.int .i64 x.parent,.int .i64 (x.params:Int),.bool x.many,.slice none 0 0,.slice none 0 0] 43)).cell? ⟨b,1,none⟩=some (.slice FA L.length fc):=(Below.cell (B:=W1.heap.size) ((Below.refl _ _).alloc (ah _) _) (p:=⟨b,1,none⟩) hb1).trans d1;go_region_law ((refine ML W1 _ (x,.slice none 0 0,.slice none 0 0) (by rfl) _ _ (by rfl) B (.slice FA L.length fc) L (by rfl) nm.out.fns.row (fun i hi=>Below.heap_alloc W1 _ i hi) W1.heap.size rfl (by rfl) HZ.out ⟨rfl,rfl⟩ (by omega) hB1 (by simp[World.drew]) ⟨rfl,rfl,rfl⟩ ?_;intro g6 c6 w6 r6 b6 bl6;have Yu:=rf.db nm.out.fns.row b6;have MN:=Yu.2 b _ _ _ nm.out.blk (by decide);have aa5:=Yu.2 (w.heap.size+1) _ _ _ HPS.out (by decide);have d16:=ae MN 1;have Rw:=aH MN 1;have R6:=aa r6;have B6:=aa b6;have BL6:=aa bl6;have P6:=aa aa5;have S6:=aa b6.1;clear r6 b6 bl6 MN Yu aa5))
 all_goals
  have HQ:=nm.out.SE B6.out (x:=x) HV.out HU.out R6.out;have hBl:=BL6.out.setCell (p:=⟨b,1,none⟩) hBb (.slice (some ⟨g6,0,none⟩) (L.length+1) c6);have MP:=(Below.heap_setCell w6 ⟨b,1,none⟩ (.slice (some ⟨g6,0,none⟩) (L.length+1) c6) (w.heap.size+1) (by show w.heap.size+1≠b;omega)).trans P6.out
  generalize w6.setCell ⟨b,1,none⟩ (.slice (some ⟨g6,0,none⟩) (L.length+1) c6)=W7 at HQ hBl MP ⊢;obtain⟨HQ1,HQ2⟩:=HQ;have e1:W7.cell? ⟨b,1,none⟩=some (.slice (some ⟨g6,0,none⟩) (L.length+1) c6):=ae HQ1.blk 1;have y0:=aH MP 0;have y1:=aH MP 1;have y2:=aH MP 2;have y3:=aH MP 3;have z0:W7.cell? ⟨w.heap.size+1,0,none⟩=some (.int .i64 0):=ae MP 0;have z1:W7.cell? ⟨w.heap.size+1,1,none⟩=some (.int .i64 0):=ae MP 1;have z2:W7.cell? ⟨w.heap.size+1,2,none⟩=some (.pointer none):=ae MP 2;have z3:W7.cell? ⟨w.heap.size+1,3,none⟩=some (.slice none 0 0):=ae MP 3;have Q1:=aa HQ1;have Q2:=aa HQ2;have Q3:=aa hBl;have P7:=aa MP;clear HQ1 HQ2 hBl MP d16 Rw R6 B6 BL6 P6 S6 x0 x1 x2 x3 x4 x5 d1 d1b HZ HPS;go_wp2_with fail
  have k7:vO W7 (w.heap.size+1) 69:=⟨_,_,P7.out⟩;refine bodyPost_ret (v:=.agg #[.int .i64 (L.length:Int),.int .i64 (-1),.pointer none,.slice la ln lc]) (by simp[results,Tryz.results19,go_sem,z0,z1,z2,z3]) rfl ⟨rfl,⟨_,_,Q1.out.fr (E:=[69]) ((k7.fr (by decide) _ _).trans (((k7.set _ _ _).fr (by decide) _ _).trans ((((k7.set _ _ _).set _ _ _).fr (by decide) _ _).trans ((((k7.set _ _ _).set _ _ _).set _ _ _).fr (by decide) _ _)))) (by decide)⟩,?_,?_⟩
  ·exact((((((ee.out.mono cg).trans Q3.out).setCell (p:=⟨w.heap.size+1,0,none⟩) (by show B≤w.heap.size+1;omega) _).setCell (p:=⟨w.heap.size+1,1,none⟩) (by show B≤w.heap.size+1;omega) _).setCell (p:=⟨w.heap.size+1,2,none⟩) (by show B≤w.heap.size+1;omega) _).setCell (p:=⟨w.heap.size+1,3,none⟩) (by show B≤w.heap.size+1;omega) _)
  ·exact((Fr.af ee.out).trans Q2.out).past (fun k hk=>nj W7 _ _ _ _ _ k (by omega)) (by simp[World.setCell])
end Go.Proofs.YtodmcdfeldkocaaGreatDoor
namespace Go.Proofs.YtodmcdfeldkocaaGreatDoor
open Go.RowKit
theorem Iw {k n:Int} {kk:List Int} (h:qc k n kk) (h1:1≤k) (h2:k≤32) :∀a∈kk,(1≤a∧a≤32)∧(k≠18→a≠19∧a≠28):=by
 intro a ha;have ex :∀{a},tD a→(1≤a∧a≤32)∧(k≠18→a≠19∧a≠28):=fun{a} h=>by unfold tD at h;omega
 have key:k=1∨k=2∨k=3∨k=4∨k=5∨k=6∨k=7∨k=8∨k=9∨k=10∨k=11∨k=12∨k=13∨k=14∨k=15∨k=16∨k=17∨k=18∨k=19∨k=20∨k=21∨k=22∨k=23∨k=24∨k=25∨k=26∨k=27∨k=28∨k=29∨k=30∨k=31∨k=32:=by omega
 by_cases c1:k=1∨k=2∨k=3∨k=4∨k=5∨k=6∨k=7∨k=30∨k=31∨k=32
 ·rw[h.none c1] at ha;cases ha
 by_cases c2:k=8∨k=12∨k=17
 ·obtain⟨x,y,e,hx,hy⟩:=h.two c2
  rw[e] at ha;simp only[bc,oI,oM] at ha;rcases ha with rfl|rfl
  ·exact ex hx
  ·exact ex hy
 by_cases c3:k=9∨k=10
 ·exact ex ((h.call c3).2 a ha)
 by_cases c4:k=11∨k=22
 ·rw[h.body c4,bK] at ha
  omega
 by_cases c5:k=13∨k=14∨k=16
 ·obtain⟨x,e,hx⟩:=h.one c5
  rw[e,bK] at ha;exact ex (ha▸hx)
 by_cases c6:k=15
 ·have:=h.items c6 a ha
  omega
 by_cases c7:k=18
 ·obtain⟨l,r,e,hl,hr⟩:=h.block c7
  rw[e,dd] at ha;refine⟨?_,fun h=>absurd c7 h⟩
  rcases ha with ha|ha
  ·have:=hl a ha
   unfold StK at this;omega
  ·rcases hr with rfl|rfl
   ·cases ha
   ·rw[bK] at ha;omega
 by_cases c8:k=19∨k=29
 ·exact ex (h.list c8 a ha)
 by_cases c9:k=20
 ·obtain⟨l,r,e,hl,_,_,hr⟩:=h.assign c9
  rw[e,dd] at ha;rcases ha with ha|ha
  ·have:=hl a ha;omega
  ·exact ex (hr a ha)
 by_cases c10:k=21
 ·obtain⟨x,e,hx⟩:=h.XV c10
  rw[e,bK] at ha;omega
 by_cases c11:k=23
 ·obtain⟨x,e,hx⟩:=h.XX c11
  rw[e] at ha;simp only[bc,oI,oM] at ha;rcases ha with rfl|rfl
  ·exact ex hx
  ·omega
 by_cases c12:k=24
 ·obtain⟨x,e,hx⟩:=h.Fp c12
  rw[e] at ha;simp only[bc,oI,oM] at ha;rcases ha with rfl|rfl
  ·omega
  ·exact ex hx
 by_cases c13:k=25
 ·obtain⟨ps,r,e,_,hp,hr⟩:=h.if_ c13
  rw[e,dd] at ha;rcases ha with ha|ha
  ·obtain⟨p,lH,sG⟩:=tX.1 ha
   have:=hp p lH;simp only[bc,oI,oM] at sG;rcases sG with rfl|rfl
   ·exact ex this.1
   ·omega
  ·rcases hr with rfl|rfl
   ·cases ha
   ·rw[bK] at ha;omega
 by_cases c14:k=26
 ·obtain⟨l,e,_,hl⟩:=h.for_ c14
  rw[e,dd,bK] at ha;rcases ha with ha|ha
  ·exact ex (hl a ha)
  ·omega
 by_cases c15:k=27
 ·obtain⟨l,e,_,hl⟩:=h.each c15
  rw[e,dd,bK] at ha;rcases ha with ha|ha
  ·exact ex (hl a ha)
  ·omega
 by_cases c16:k=28
 ·rw[h.func c16,bK] at ha
  omega
 omega
structure ic (T:List Nd) (t:Lt):Prop where
 yF:Lt.In T t
 form:t.uw
 wf:t.Wf
 nodup:t.eE.Nodup
 kind:1≤t.hd.kind∧t.hd.kind≤32
structure fI (T:List Nd) (ks:List Lt):Prop where
 yF:Lt.sW T ks
 form:Lt.ix ks
 wf:Lt.ym ks
 nodup:(Lt.bh ks).Nodup
 kind :∀k∈ks,1≤k.hd.kind∧k.hd.kind≤32
theorem ic.sub {T:List Nd} {t:Lt} (h:ic T t):fI T t.sub∧(t.hd.kind≠18→∀k∈t.sub,Still k)∧qc t.hd.kind t.hd.num (jG t.sub):=by
 obtain⟨i,g,ks⟩:=t;obtain⟨h1,h2,h3,h4,h5⟩:=h;unfold Lt.In at h1;unfold Lt.uw at h2;unfold Lt.Wf at h3;rw[Lt.eE,kK] at h4;have hk:=Iw h2.1 h5.1 h5.2;have key :∀k∈ks,(1≤k.hd.kind∧k.hd.kind≤32)∧(g.kind≠18→k.hd.kind≠19∧k.hd.kind≠28):=fun k Fa=>hk _ (j3 Fa)
 exact⟨⟨h1.2.2,h2.2,h3.2,h4.2,fun k hk=>(key k hk).1⟩,fun hne k hk=>(key k hk).2 hne,h2.1⟩
theorem fI.cons {T:List Nd} {k:Lt} {ks:List Lt} (h:fI T (k::ks)):ic T k∧fI T ks:=by
 obtain⟨h1,h2,h3,h4,h5⟩:=h;unfold Lt.sW at h1;unfold Lt.ix at h2;unfold Lt.ym at h3;rw[Lt.bh,oH] at h4;exact⟨⟨h1.1,h2.1,h3.1,h4.1,h5 k (bP ..)⟩,⟨h1.2,h2.2,h3.2,h4.2.1,fun x hx=>h5 x (bO _ hx)⟩⟩
theorem fI.at_ {T:List Nd} :∀{ks:List Lt},fI T ks→∀k∈ks,ic T k
 | x::ks,h,k,hk=>by
  rcases bc.1 hk with rfl|hk
  ·exact h.cons.1
  ·exact h.cons.2.at_ k hk
theorem fI.quiet {T:List Nd} :∀{ks:List Lt},fI T ks→Lt.lT ks
 | [],_=>by unfold Lt.lT;trivial
 | .mk i g l::ks,h=>by
  have h1:=h.cons.1.sub;have h2:fI T l:=h1.1;unfold Lt.lT Lt.Quiet;exact⟨⟨fun hne=>h1.2.1 hne.2,fI.quiet (ks:=l) h2⟩,fI.quiet (ks:=ks) h.cons.2⟩
def HdF (f:Nat) (L:List cR):Prop:=∀l r,L=l::r→l.fn=f
theorem HdF.grow {f:Nat} {L:List cR} (h:HdF f L) (a:List jw):HdF f (grow a L):=by
 intro l r e;cases L with
 | nil=>cases e
 | cons x y =>
  injection e with e _;rw[←e];exact h x y rfl
structure eY (T:List Nd) (B b:Nat) (nv:Value) (ub ob f:Nat) (pa:Option Addr) (lv:Value) (ms:List Nat) (L:List cR) (st:aI) (w:World) (a s:Nat):Prop where
 fC:vW w B nv T
 rs:jI w B b nv T.length st ub ob
 pos:oP w B f (.pointer pa) lv ms L st
 hd:HdF f L
 cx:Cx f st
 few:dP st.fns
 fr :∀x∈st.frames,x.fn<st.fns.length
 names:st.names.length+a≤100000
 fns:st.fns.length+s≤100000
 fx:L.length+s≤100000
section
variable {T:List Nd} {B b:Nat} {nv:Value} {ub ob f:Nat} {pa:Option Addr} {lv:Value} {ms:List Nat} {L:List cR} {st st':aI} {w w':World} {a s a' s':Nat}
theorem eY.mono (h:eY T B b nv ub ob f pa lv ms L st w a s) (h1:a'≤a) (h2:s'≤s):eY T B b nv ub ob f pa lv ms L st w a' s' :=
 ⟨h.fC,h.rs,h.pos,h.hd,h.cx,h.few,h.fr,by have:=h.names;omega,by have:=h.fns;omega,by have:=h.fx;omega⟩
theorem eY.next {k:Lt} {e:Ending} (h:eY T B b nv ub ob f pa lv ms L st w (k.wt+a) (k.size+s)) (hk:ic T k) (hr:aY k f st=.ok st') (hp:ao B b nv T.length ub ob lv L st (.ok st') w e w') :
  e=.returned .nilIface∧∃x,st'.names=x++st.names∧(L=[]→x=[])∧eY T B b nv ub ob f pa lv ms (grow x L) st' w' a s∧cU B ob lv L.length (eh L) w w'∧st'.frames=st.frames:=by
 obtain⟨hb,rfl,Rx,mP,x,hx1,hx2,hx3⟩:=hp;have wS:=lQ k hr h.few;have hall:=jE k hr hk.nodup h.cx hk.wf;have hf:=yt k hr;refine⟨rfl,x,hx1,hx2,⟨h.fC.below hb,Rx,h.pos.on mP hx3 hx1 hx2 hf,h.hd.grow x,hall.1.cx h.cx,wS.few,fun y hy=>?_,?_,?_,?_⟩,mP,hf⟩
 ·rw[hf] at hy
  exact cG (h.fr y hy) wS.least
 ·have:=wS.names;have:=h.names;omega
 ·have:=wS.fns;have:=h.fns;omega
 ·rw[cz];have:=h.fx;omega
theorem ao.trans {N:Nat} {st1:aI} {r2:Rs aI} {w1 w2:World} {e2:Ending} {x:List jw} (hb:Below B w w1) (h2:cU B ob lv L.length (eh L) w w1) (h3:st1.names=x++st.names) (h4:L=[]→x=[]) (k:ao B b nv N ub ob lv (grow x L) st1 r2 w1 e2 w2):ao B b nv N ub ob lv L st r2 w e2 w2:=by
 refine⟨hb.trans k.1,?_⟩;have k2:=k.2;cases r2 with
 | error y=>exact k2
 | ok st2 =>
  obtain⟨k3,k4,k5,y,k6,k7,k8⟩:=k2;rw[cz,nX] at k5;refine⟨k3,k4,h2.trans k5,y++x,?_,fun e=>?_,?_⟩
  ·rw[k6,h3,cP]
  ·rw[h4 e,k7 (by rw[e];rfl)];rfl
  ·rw[grow_grow] at k8;exact k8
end
def bA (T:List Nd) (B b:Nat) (nv:Value) (ub ob:Nat) (t:Lt):Prop :=
 ∀(f:Nat) (loop:Int) (pa la:Option Addr) (lc:Nat) (ms:List Nat) (L:List cR) (st:aI) (w:World),eY T B b nv ub ob f pa (.slice la L.length lc) ms L st w t.wt t.size→(18≤t.hd.kind→loop=cM f st.frames)→(L≠[]∨t.hd.kind=18) →
  Calls Tryz.prog 18 #[.pointer (some ⟨b,0,none⟩),.int .i64 (t.loc:Int),.agg #[.int .i64 (f:Int),.int .i64 loop,.pointer pa,.slice la L.length lc]] w (ao B b nv T.length ub ob (.slice la L.length lc) L st (aY t f st) w)
def qq (B ob:Nat) (lv:Value) (n:Nat) (top:Option Nat) (w:World) (kv:Value) (xs:List Int):Prop :=
 ∃A c,kv=.slice A xs.length c∧xs.length≤c∧(xs=[]∨∃bk o,A=some ⟨bk,o,none⟩∧∀w',cU B ob lv n top w w'→∀(j:Nat) x,xs[j]? = some x→w'.cell? ⟨bk,o+j,none⟩=some (.int .i64 x))
theorem gG.keeps {B ob n:Nat} {lv kv:Value} {top:Option Nat} {w:World} {xs:List Int} (h:gG w B kv xs):qq B ob lv n top w kv xs:=by
 obtain⟨A,c,e,hc,h1⟩:=h;refine⟨A,c,e,hc,h1.imp id ?_⟩;rintro⟨bk,o,e2,hb,hx⟩;exact⟨bk,o,e2,fun w' hf j x hj=>(hf.below.cell (p:=⟨bk,o+j,none⟩) hb).trans (hx j x hj)⟩
theorem qq.later {B ob n:Nat} {lv kv:Value} {top:Option Nat} {w w':World} {xs:List Int} (h:qq B ob lv n top w kv xs) (hf:cU B ob lv n top w w'):qq B ob lv n top w' kv xs:=by
 obtain⟨A,c,e,hc,h1⟩:=h;refine⟨A,c,e,hc,h1.imp id ?_⟩;rintro⟨bk,o,e2,hx⟩;exact⟨bk,o,e2,fun w2 hf2=>hx w2 (hf.trans hf2)⟩
theorem qt {ks:List Lt} {n:Nat} {x:Lt} (h:ks[n]? = some x):Lt.ey (ks.drop n)=x.wt+Lt.ey (ks.drop (n+1))∧Lt.al (ks.drop n)=x.size+Lt.al (ks.drop (n+1)):=by
 rw[drop_at h,Lt.ey,Lt.al];exact⟨rfl,rfl⟩
end Go.Proofs.YtodmcdfeldkocaaGreatDoor
namespace Go.Proofs.YtodmcdfeldkocaaGreatDoor
theorem AV (i:Nat):Cx 0 (fF i) :=
 ⟨⟨Nat.zero_lt_one,fun g x hx=>by
  cases g with
  | zero=>injection hx with hx;subst hx;exact⟨.inl ⟨rfl,rfl⟩,ah _⟩
  | succ g=>simp[fF] at hx⟩,Nat.zero_lt_one,fun n hn=>by simp[fF] at hn⟩
open Go.RowKit
def eL (k:Int):Int :=
 if k=7∨k=8 then 3 else if k=9∨k=10 then 5 else if k=11 then 9 else if 1≤k∧k≤15 then 1 else if k=16∨k=17 then 16 else
 if k=18 then 32 else if k=29 then 128 else if 19≤k∧k≤32 then 64 else 0
def gM (a b:Int):Bool:=!(bits .and .i64 a b == 0)
def iS:List Int→List Int→Bool
 | _,[]=>true
 | [],_::_=>false
 | k::ks,r::rs=>gM k r && iS ks rs
theorem np :∀{ks row:List Int},iS ks row=true→row.length≤ks.length:=by
 intro ks row;induction row generalizing ks with
 | nil=>intro _;exact bo _
 | cons r rs ih =>
  intro h;cases ks with
  | nil=>cases h
  | cons k ks =>
   rw[iS,dp] at h;have:=ih h.2;simp only[List.length_cons];omega
theorem uR :∀{ks row:List Int},ks.length<row.length→iS ks row=false:=by
 intro ks row h;cases e:iS ks row with
 | false=>rfl
 | true=>have:=np e;omega
def kA (row:List Int) (most:Int):Nat→Int→List Int→Int×List Int
 | 0,t,ks=>(t,ks)
 | f+1,t,ks=>if t<most∧iS ks row=true then kA row most f (t+1) (ks.drop row.length) else (t,ks)
theorem MQ {row:List Int} {most:Int} (h0:0<row.length) :∀(n f:Nat) (t:Int) (ks:List Int),ks.length≤n→ks.length<f→kA row most f t ks=kA row most (ks.length+1) t ks:=by
 intro n;induction n with
 | zero =>
  intro f t ks hn hf;obtain⟨f,rfl⟩ :∃g,f=g+1:=⟨f-1,by omega⟩
  have hb:iS ks row=false:=uR (by omega)
  rw[kA,kA,ab (by rw[hb];simp),ab (by rw[hb];simp)]
 | succ n ih =>
  intro f t ks hn hf;obtain⟨f,rfl⟩ :∃g,f=g+1:=⟨f-1,by omega⟩
  rw[kA,kA];by_cases hc:t<most∧iS ks row=true
  ·have hl:=np hc.2
   have hd:(ks.drop row.length).length=ks.length-row.length:=jb;rw[ai hc,ai hc,ih f _ _ (by omega) (by omega),ih ks.length _ _ (by omega) (by omega)]
  ·rw[ab hc,ab hc]
theorem MR {row:List Int} {most t:Int} {ks:List Int} (h0:0<row.length) (ht:t<most) (hb:iS ks row=true):kA row most (ks.length+1) t ks=kA row most ((ks.drop row.length).length+1) (t+1) (ks.drop row.length):=by
 have hl:=np hb;have hd:(ks.drop row.length).length=ks.length-row.length:=jb;rw[kA,ai ⟨ht,hb⟩,MQ h0 _ ks.length _ _ (ah _) (by omega)]
theorem FK {row:List Int} {most t:Int} {ks:List Int} (h:¬ (t<most∧iS ks row=true)):kA row most (ks.length+1) t ks=(t,ks):=by
 rw[kA,ab h]
theorem Yv {row:List Int} {most:Int} :∀(f:Nat) (t:Int) (ks:List Int),(kA row most f t ks).2.length≤ks.length:=by
 intro f;induction f with
 | zero=>intro t ks;exact ah _
 | succ f ih =>
  intro t ks;rw[kA];split
  ·exact aL (ih _ _) (by rw[jb];omega)
  ·exact ah _
abbrev FN:=Int×Int×List Int
def fD:List FN→List Int→Bool
 | [],ks=>ks.isEmpty
 | p::ps,ks=>decide (p.1≤(kA p.2.2 p.2.1 (ks.length+1) 0 ks).1) && fD ps (kA p.2.2 p.2.1 (ks.length+1) 0 ks).2
def big:Int:=9223372036854775807
def aZ (k n:Int):List FN :=
 if k=13∨k=14∨k=16 then [(1,1,[1])]
 else if k=8∨k=12∨k=17 then [(1,1,[1,1])]
 else if k=9∨k=10 then [(1,big,[1])]
 else if k=19∨k=29 then [(0,big,[1])]
 else if k=11∨k=22 then [(1,1,[32])]
 else if k=21 then [(1,1,[4])]
 else if k=28 then [(1,1,[8])]
 else if k=23 then [(1,1,[1,32])]
 else if k=24 then [(1,1,[32,1])]
 else if k=15 then [(0,big,[16])]
 else if k=18 then [(0,big,[64]),(0,1,[128])]
 else if k=25 then [(1,big,[1,32]),(0,1,[32])]
 else if k=26 then [(2,3,[1]),(1,1,[32])]
 else if k=27 then [(n,n,[1]),(1,1,[32])]
 else if k=20 then [(n,n,[2]),(1,big,[1])]
 else []
def lI (k n:Int) (ss:List Int):Bool:=fD (aZ k n) ss
theorem Yw {k:Int} (h:gM (eL k) 32=true):k=18:=by
 unfold eL at h;split at h
 ·exact absurd h (by decide +kernel)
 ·split at h
  ·exact absurd h (by decide +kernel)
  ·split at h
   ·exact absurd h (by decide +kernel)
   ·split at h
    ·exact absurd h (by decide +kernel)
    ·split at h
     ·exact absurd h (by decide +kernel)
     ·split at h
      ·assumption
      ·split at h
       ·exact absurd h (by decide +kernel)
       ·split at h
        ·exact absurd h (by decide +kernel)
        ·exact absurd h (by decide +kernel)
theorem Ix {k n:Int} {ss:List Int} (hk:k=6∨k=7∨k=30∨k=31) (h:lI k n ss=true):ss=[]:=by
 have e:aZ k n=[]:=by
  unfold aZ;repeat rw[ab (by omega)]
 unfold lI at h;rw[e,fD] at h;exact EV.1 h
theorem aa6 {n:Int} {ss:List Int} (h:lI 24 n ss=true) :∃a b,ss=[a,b]∧gM a 32=true:=by
 have e:aZ 24 n=[(1,1,[32,1])]:=by
  unfold aZ;repeat rw[ab (by decide)]
  rw[ai rfl]
 unfold lI at h;rw[e,fD,fD,dp] at h;obtain⟨h1,h2⟩:=h;rw[kA] at h1 h2;by_cases hc:(0:Int)<1∧iS ss [32,1]=true
 ·rw[ai hc] at h2
  have e2 :∀l,kA [32,1] 1 ss.length 1 l=(1,l):=fun l=>by
   cases ss.length with
   | zero=>rfl
   | succ m=>rw[kA,ab (by omega)]
  have h2:(kA [32,1] 1 ss.length 1 (ss.drop 2)).2.isEmpty=true:=h2;rw[e2] at h2;have h3:=np hc.2;have hb:=hc.2;match ss,h2,h3,hb with
  | [a,b],_,_,hb =>
   rw[iS,dp] at hb;exact⟨a,b,rfl,hb.1⟩
  | a::b::c::l,h2,_,_=>cases h2
  | [a],_,h3,_=>simp at h3
  | [],_,h3,_=>simp at h3
 ·rw[ab hc] at h1
  exact absurd h1 (show ¬ (decide ((1:Int)≤0))=true by decide)
mutual
theorem Wq {T:List Nd} (hT :∀x∈T,lI x.kind x.num (x.kids.map fun k=>eL (dI T k.toNat))=true) :∀(t:Lt),Lt.In T t→t.Wf
 | .mk i h ks,hi=>by
  unfold Lt.In at hi;obtain⟨hx,hk,hs⟩:=hi;unfold Lt.Wf;have h1:=hT h (aX hx);refine⟨⟨fun e=>?_,fun e=>?_⟩,MS hT ks hs⟩
  ·have:=Ix e h1
   rw[kJ,hk,kJ] at this;exact this
  ·rw[e] at h1
   obtain⟨a,b,h2,h3⟩:=aa6 h1;rw[hk,zY] at h2;match ks,h2,hs with
   | [x,y],h2,hs =>
    injection h2 with h2 _;rw[←h2] at h3;have h4:=Yw h3;refine⟨x,y,rfl,?_⟩;unfold Lt.sW at hs;obtain⟨j,g,ls⟩:=x;have hg:=hs.1;unfold Lt.In at hg;have h4:dI T (((j:Nat):Int)).toNat=18:=h4;rw[gV,nT hg.1] at h4;exact h4
   | [],h2,_=>cases h2
   | [x],h2,_=>cases h2
   | _::_::_::_,h2,_=>cases h2
theorem MS {T:List Nd} (hT :∀x∈T,lI x.kind x.num (x.kids.map fun k=>eL (dI T k.toNat))=true) :∀(ks:List Lt),Lt.sW T ks→Lt.ym ks
 | [],_=>by unfold Lt.ym;trivial
 | k::ks,hi=>by
  unfold Lt.sW at hi;unfold Lt.ym;exact⟨Wq hT k hi.1,MS hT ks hi.2⟩
end
end Go.Proofs.YtodmcdfeldkocaaGreatDoor
namespace Go.Proofs.YtodmcdfeldkocaaGreatDoor
abbrev ak:=Int×Int×Int×List UInt8
inductive G (N:Type) (V:N→Type) (α:Type):Type where
 | ret:α→G N V α
 | bad:G N V α
 | tok:(ak→G N V α)→G N V α
 | look:(ak→G N V α)→G N V α
 | call:(n:N)→(V n→G N V α)→G N V α
section
variable {N:Type} {V:N→Type} (body :∀n,G N V (V n))
inductive P:{α:Type}→G N V α→List ak→Except Int (α×List ak)→Prop
 | ret {α:Type} {a:α} {ts:List ak}:P (.ret a) ts (.ok (a,ts))
 | bad {α:Type} {t:ak} {ts:List ak}:P (.bad:G N V α) (t::ts) (.error t.2.1)
 | tok {α:Type} {f:ak→G N V α} {t:ak} {ts:List ak} {r:Except Int (α×List ak)}:P (f t) ts r→P (.tok f) (t::ts) r
 | look {α:Type} {f:ak→G N V α} {t:ak} {ts:List ak} {r:Except Int (α×List ak)}:P (f t) (t::ts) r→P (.look f) (t::ts) r
 | call {α:Type} {n:N} {k:V n→G N V α} {ts aA:List ak} {v:V n} {r:Except Int (α×List ak)}:P (body n) ts (.ok (v,aA))→P (k v) aA r→P (.call n k) ts r
 | iB {α:Type} {n:N} {k:V n→G N V α} {ts:List ak} {e:Int}:P (body n) ts (.error e)→P (.call n k) ts (.error e)
variable {body}
theorem P.one {α:Type} {g:G N V α} {ts:List ak} {r r':Except Int (α×List ak)} (h:P body g ts r) (h':P body g ts r'):r=r':=by
 induction h with
 | ret=>cases h';rfl
 | bad=>cases h';rfl
 | tok _ ih=>cases h' with|tok h2=>exact ih h2
 | look _ ih=>cases h' with|look h2=>exact ih h2
 | call _ _ ih1 ih2 =>
  cases h' with
  | call a b =>
   have e:=ih1 a;injection e with e;injection e with e1 e2;subst e1 e2;exact ih2 b
  | iB a=>cases ih1 a
 | iB _ ih =>
  cases h' with
  | call a b=>cases ih a
  | iB a =>
   have e:=ih a;injection e with e;rw[e]
theorem P.tail {α:Type} {g:G N V α} {ts:List ak} {r:Except Int (α×List ak)} (h:P body g ts r) :∀a aA,r=.ok (a,aA)→∃c,ts=c++aA:=by
 induction h with
 | ret=>rintro a aA e;injection e with e;injection e with _ e2;exact⟨[],by rw[e2];rfl⟩
 | bad=>intro a aA e;cases e
 | @tok _ f t ts r _ ih=>intro a aA e;obtain⟨c,hc⟩:=ih a aA e;exact⟨t::c,by rw[hc];rfl⟩
 | look _ ih=>exact ih
 | call _ _ ih1 ih2 =>
  intro a aA e;obtain⟨c1,h1⟩:=ih1 _ _ rfl;obtain⟨c2,h2⟩:=ih2 a aA e;exact⟨c1++c2,by rw[h1,h2,cP]⟩
 | iB _ _=>intro a aA e;cases e
def Wp (Post :∀n,List ak→V n→List ak→Prop) {α:Type}:G N V α→List ak→(α→List ak→Prop)→Prop
 | .ret a,ts,Q=>Q a ts
 | .bad,_,_=>True
 | .tok f,ts,Q=>∀t aA,ts=t::aA→Wp Post (f t) aA Q
 | .look f,ts,Q=>∀t aA,ts=t::aA→Wp Post (f t) ts Q
 | .call n k,ts,Q=>∀v aA,Post n ts v aA→Wp Post (k v) aA Q
theorem P.post {Post :∀n,List ak→V n→List ak→Prop} (hb :∀n ts,Wp Post (body n) ts (Post n ts)) {α:Type} {g:G N V α} {ts:List ak} {r:Except Int (α×List ak)} (h:P body g ts r) :
  ∀a aA,r=.ok (a,aA)→∀Q:α→List ak→Prop,Wp Post g ts Q→Q a aA:=by
 induction h with
 | ret =>
  intro a aA e Q hq;injection e with e;injection e with e1 e2;subst e1 e2;exact hq
 | bad=>intro a aA e;cases e
 | tok _ ih=>intro a aA e Q hq;exact ih a aA e Q (hq _ _ rfl)
 | look _ ih=>intro a aA e Q hq;exact ih a aA e Q (hq _ _ rfl)
 | @call _ n k ts fK v r h1 h2 ih1 ih2 =>
  intro a aA e Q hq;exact ih2 a aA e Q (hq v fK (ih1 v fK rfl _ (hb n ts)))
 | iB _ _=>intro a aA e;cases e
theorem P.holds {Post :∀n,List ak→V n→List ak→Prop} (hb :∀n ts,Wp Post (body n) ts (Post n ts)) {n:N} {ts aA:List ak} {v:V n} (h:P body (body n) ts (.ok (v,aA))):Post n ts v aA :=
 h.post hb v aA rfl _ (hb n ts)
end
end Go.Proofs.YtodmcdfeldkocaaGreatDoor
namespace Go.Proofs.YtodmcdfeldkocaaGreatDoor
def bx (l:List UInt8):ByteArray:=⟨l.toArray⟩
def av (s:List UInt8) (t:ak):Bool:=(decide (t.1=2) || decide (t.1=5)) && decide (t.2.2.2=s)
def jn:List UInt8:=[101,110,100]
def sH:List UInt8:=[101,108,115,101]
def kf:List UInt8:=[101,108,115,101,105,102]
def po:List UInt8:=[117,110,116,105,108]
def ei:List UInt8:=[114,101,116,117,114,110]
def pq:List UInt8:=[98,114,101,97,107]
def uS:List UInt8:=[103,111,116,111]
def Dw:List UInt8:=[100,111]
def pt:List UInt8:=[119,104,105,108,101]
def lZ:List UInt8:=[114,101,112,101,97,116]
def Yx:List UInt8:=[105,102]
def AW:List UInt8:=[116,104,101,110]
def Dx:List UInt8:=[102,111,114]
def wIn:List UInt8:=[105,110]
def bq:List UInt8:=[102,117,110,99,116,105,111,110]
def iT:List UInt8:=[108,111,99,97,108]
def te:List UInt8:=[110,105,108]
def nr:List UInt8:=[116,114,117,101]
def kB:List UInt8:=[102,97,108,115,101]
def Dy:List UInt8:=[110,111,116]
def wOr:List UInt8:=[111,114]
def Iy:List UInt8:=[97,110,100]
def xi:List UInt8:=[115,101,108,102]
def iU (t:ak):Bool:=decide (t.1=0) || av jn t || av sH t || av kf t || av po t
def nd (k l:Int) (ks:List Ast):Ast:=.mk ⟨k,l,0,0,⟨#[]⟩,[],[]⟩ ks
def mS (k l:Int) (s:ByteArray) (ks:List Ast):Ast:=.mk ⟨k,l,0,0,s,[],[]⟩ ks
def ndO (k l op:Int) (ks:List Ast):Ast:=.mk ⟨k,l,op,0,⟨#[]⟩,[],[]⟩ ks
def AX (k l n:Int) (ks:List Ast):Ast:=.mk ⟨k,l,0,n,⟨#[]⟩,[],[]⟩ ks
def Dz (k l n:Int) (ns:List ByteArray) (ks:List Ast):Ast:=.mk ⟨k,l,0,n,⟨#[]⟩,ns,[]⟩ ks
def mL (t:ak):Option (Int×Nat×Nat) :=
 if av wOr t then some (19,1,2) else if av Iy t then some (18,2,3)
 else if av [60] t then some (14,3,4) else if av [62] t then some (16,3,4) else if av [60,61] t then some (15,3,4) else if av [62,61] t then some (17,3,4) else if av [126,61] t then some (13,3,4) else if av [61,61] t then some (12,3,4)
 else if av [124] t then some (7,4,5) else if av [126] t then some (8,5,6) else if av [38] t then some (6,6,7)
 else if av [60,60] t then some (9,7,8) else if av [62,62] t then some (10,7,8) else if av [46,46] t then some (11,8,8)
 else if av [43] t then some (1,9,10) else if av [45] t then some (2,9,10)
 else if av [42] t then some (3,10,11) else if av [47,47] t then some (4,10,11) else if av [37] t then some (5,10,11) else none
def lf (t:ak):Option Int:=if av [45] t then some 20 else if av [126] t then some 21 else if av Dy t then some 22 else if av [35] t then some 23 else none
inductive NT where
 | blk|uT (l:List Ast)|ret (at_:Int)|AY|els (l:List Ast)|loo (at_:Int)|fnm (at_:Int)|fnx (at_:Int) (x:Ast)|loc (at_:Int)|KL (at_:Int) (self:List ByteArray)
 | Yy (l:List ByteArray)|Wr|nmm (l:List ByteArray)|AZ|SF (l:List Ast)|tgs (at_:Int) (l:List Ast)|FQ|aR (x:Ast)|arg|Ws (l:List Ast)|Yz|exp (s:Nat)|lvm (s:Nat) (x:Ast)|una|SG
def VT:NT→Type
 | .uT _ | .els _ | .AZ | .SF _ | .arg | .Ws _=>List Ast
 | .Yy _=>List ByteArray×Int
 | .Wr | .nmm _=>List ByteArray
 | .blk | .ret _ | .AY | .loo _ | .fnm _ | .fnx _ _ | .loc _ | .KL _ _ | .tgs _ _ | .FQ | .aR _ | .Yz | .exp _ | .lvm _ _ | .una | .SG=>Ast
abbrev GL (α:Type):=G NT VT α
def want {α:Type} (s:List UInt8) (k:ak→GL α):GL α:=.look fun t=>if av s t then .tok k else .bad
def name {α:Type} (k:ak→GL α):GL α:=.look fun t=>if t.1=1 then .tok k else .bad
def take {α:Type} (s:List UInt8) (a b:GL α):GL α:=.look fun t=>if av s t then .tok fun _=>a else b
def aT :∀n:NT,GL (VT n)
 | .blk=>.look fun t=>.call (.uT []) fun(l:List Ast)=>.ret (nd 18 t.2.1 l)
 | .uT l=>.look fun t =>
   if iU t then .ret l
   else if av ei t then .tok fun t=>.call (.ret t.2.1) fun(x:Ast)=>.ret (l++[x])
   else if av [59] t then .tok fun _=>.call (.uT l) fun(l':List Ast)=>.ret l'
   else .call .AY fun(x:Ast)=>.call (.uT (l++[x])) fun(l':List Ast)=>.ret l'
 | .ret at_=>.look fun t =>
   if iU t then .ret (nd 29 at_ [])
   else if av [59] t then .tok fun _=>.ret (nd 29 at_ [])
   else .call .AZ fun(l:List Ast)=>take [59] (.ret (nd 29 at_ l)) (.ret (nd 29 at_ l))
 | .AY=>.look fun t =>
   if av [58,58] t then .tok fun t=>name fun n=>want [58,58] fun _=>.ret (mS 32 t.2.1 (bx n.2.2.2) [])
   else if av pq t then .tok fun t=>.ret (nd 30 t.2.1 [])
   else if av uS t then .tok fun t=>name fun n=>.ret (mS 31 t.2.1 (bx n.2.2.2) [])
   else if av Dw t then .tok fun t=>.call .blk fun(b:Ast)=>want jn fun _=>.ret (nd 22 t.2.1 [b])
   else if av pt t then .tok fun t=>.call (.exp 1) fun(e:Ast)=>want Dw fun _=>.call .blk fun(b:Ast)=>want jn fun _=>.ret (nd 23 t.2.1 [e,b])
   else if av lZ t then .tok fun t=>.call .blk fun(b:Ast)=>want po fun _=>.call (.exp 1) fun(e:Ast)=>.ret (nd 24 t.2.1 [b,e])
   else if av Yx t then .tok fun t=>.call (.exp 1) fun(e:Ast)=>want AW fun _=>.call .blk fun(b:Ast)=>.call (.els [e,b]) fun(l:List Ast)=>.ret (nd 25 t.2.1 l)
   else if av Dx t then .tok fun t=>.call (.loo t.2.1) fun(x:Ast)=>.ret x
   else if av bq t then .tok fun t=>.call (.fnm t.2.1) fun(x:Ast)=>.ret x
   else if av iT t then .tok fun t=>.call (.loc t.2.1) fun(x:Ast)=>.ret x
   else .call .FQ fun(x:Ast)=>if x.hd.kind=9∨x.hd.kind=10 then .ret (nd 21 t.2.1 [x]) else .call (.tgs t.2.1 [x]) fun(y:Ast)=>.ret y
 | .els l=>.look fun t =>
   if av kf t then .tok fun _=>.call (.exp 1) fun(e:Ast)=>want AW fun _=>.call .blk fun(b:Ast)=>.call (.els (l++[e,b])) fun(l':List Ast)=>.ret l'
   else if av sH t then .tok fun _=>.call .blk fun(b:Ast)=>want jn fun _=>.ret (l++[b])
   else want jn fun _=>.ret l
 | .loo at_=>.call .Wr fun(ns:List ByteArray)=>.look fun t =>
   if av [61] t∧ns.length=1 then .tok fun _=>.call (.exp 1) fun(a:Ast)=>want [44] fun _=>.call (.exp 1) fun(b:Ast)=>.look fun t =>
    if av [44] t then .tok fun _=>.call (.exp 1) fun(c:Ast)=>want Dw fun _=>.call .blk fun(d:Ast)=>want jn fun _=>.ret (Dz 26 at_ 0 ns [a,b,c,d])
    else want Dw fun _=>.call .blk fun(d:Ast)=>want jn fun _=>.ret (Dz 26 at_ 0 ns [a,b,d])
   else want wIn fun _=>.call .AZ fun(l:List Ast)=>want Dw fun _=>.call .blk fun(d:Ast)=>want jn fun _=>.ret (Dz 27 at_ (l.length:Int) ns (l++[d]))
 | .fnm at_=>name fun n=>.call (.fnx at_ (mS 7 n.2.1 (bx n.2.2.2) [])) fun(x:Ast)=>.ret x
 | .fnx at_ x=>.look fun t =>
   if av [46] t then .tok fun d=>name fun n=>.call (.fnx at_ (nd 8 d.2.1 [x,mS 5 n.2.1 (bx n.2.2.2) []])) fun(y:Ast)=>.ret y
   else if av [58] t then .tok fun d=>name fun n=>.call (.KL at_ [bx xi]) fun(f:Ast)=>.ret (AX 20 at_ 1 [nd 8 d.2.1 [x,mS 5 n.2.1 (bx n.2.2.2) []],f])
   else .call (.KL at_ []) fun(f:Ast)=>.ret (AX 20 at_ 1 [x,f])
 | .loc at_=>.look fun t =>
   if av bq t then .tok fun f=>name fun n=>.call (.KL f.2.1 []) fun(b:Ast)=>.ret (Dz 28 at_ 0 [bx n.2.2.2] [b])
   else .call .Wr fun(ns:List ByteArray)=>.look fun t=>if av [61] t then .tok fun _=>.call .AZ fun(l:List Ast)=>.ret (Dz 19 at_ 0 ns l) else .ret (Dz 19 at_ 0 ns [])
 | .KL at_ self=>want [40] fun _=>.look fun t =>
   if av [41] t then .tok fun _=>.call .blk fun(b:Ast)=>want jn fun _=>.ret (Dz 11 at_ 0 self [b])
   else .call (.Yy self) fun(p:List ByteArray×Int)=>want [41] fun _=>.call .blk fun(b:Ast)=>want jn fun _=>.ret (Dz 11 at_ p.2 p.1 [b])
 | .Yy l=>.look fun t =>
   if av [46,46,46] t then .tok fun _=>.ret ((l,1):List ByteArray×Int)
   else name fun n=>.look fun t=>if av [44] t then .tok fun _=>.call (.Yy (l++[bx n.2.2.2])) fun(p:List ByteArray×Int)=>.ret p else .ret ((l++[bx n.2.2.2],0):List ByteArray×Int)
 | .Wr=>name fun n=>.call (.nmm [bx n.2.2.2]) fun(l:List ByteArray)=>.ret l
 | .nmm l=>.look fun t=>if av [44] t then .tok fun _=>name fun n=>.call (.nmm (l++[bx n.2.2.2])) fun(l':List ByteArray)=>.ret l' else .ret l
 | .AZ=>.call (.exp 1) fun(e:Ast)=>.call (.SF [e]) fun(l:List Ast)=>.ret l
 | .SF l=>.look fun t=>if av [44] t then .tok fun _=>.call (.exp 1) fun(e:Ast)=>.call (.SF (l++[e])) fun(l':List Ast)=>.ret l' else .ret l
 | .tgs at_ l=>.look fun t =>
   if (l.getLastD (nd 0 0 [])).hd.kind=7∨(l.getLastD (nd 0 0 [])).hd.kind=8 then
    if av [44] t then .tok fun _=>.call .FQ fun(x:Ast)=>.call (.tgs at_ (l++[x])) fun(y:Ast)=>.ret y
    else want [61] fun _=>.call .AZ fun(m:List Ast)=>.ret (AX 20 at_ (l.length:Int) (l++m))
   else .bad
 | .FQ=>.look fun t =>
   if t.1=1 then .tok fun n=>.call (.aR (mS 7 n.2.1 (bx n.2.2.2) [])) fun(x:Ast)=>.ret x
   else if av [40] t then .tok fun o=>.call (.exp 1) fun(e:Ast)=>want [41] fun _=>.call (.aR (nd 14 o.2.1 [e])) fun(x:Ast)=>.ret x
   else .bad
 | .aR x=>.look fun t =>
   if av [46] t then .tok fun d=>name fun n=>.call (.aR (nd 8 d.2.1 [x,mS 5 n.2.1 (bx n.2.2.2) []])) fun(y:Ast)=>.ret y
   else if av [91] t then .tok fun d=>.call (.exp 1) fun(e:Ast)=>want [93] fun _=>.call (.aR (nd 8 d.2.1 [x,e])) fun(y:Ast)=>.ret y
   else if av [58] t then .tok fun d=>name fun n=>.call .arg fun(l:List Ast)=>.call (.aR (mS 10 d.2.1 (bx n.2.2.2) (x::l))) fun(y:Ast)=>.ret y
   else if av [40] t || av [123] t || decide (t.1=4) then .call .arg fun(l:List Ast)=>.call (.aR (nd 9 t.2.1 (x::l))) fun(y:Ast)=>.ret y
   else .ret x
 | .arg=>.look fun t =>
   if t.1=4 then .tok fun s=>.ret ([mS 5 s.2.1 (bx s.2.2.2) []]:List Ast)
   else if av [123] t then .tok fun o=>.call (.Ws []) fun(l:List Ast)=>.ret ([nd 15 o.2.1 l]:List Ast)
   else want [40] fun _=>.look fun t=>if av [41] t then .tok fun _=>.ret ([]:List Ast) else .call .AZ fun(l:List Ast)=>want [41] fun _=>.ret l
 | .Ws l=>.look fun t =>
   if av [125] t then .tok fun _=>.ret l
   else .call .Yz fun(x:Ast)=>.look fun t=>if av [44] t || av [59] t then .tok fun _=>.call (.Ws (l++[x])) fun(l':List Ast)=>.ret l' else want [125] fun _=>.ret (l++[x])
 | .Yz=>.look fun t =>
   if av [91] t then .tok fun _=>.call (.exp 1) fun(k:Ast)=>want [93] fun _=>want [61] fun _=>.call (.exp 1) fun(e:Ast)=>.ret (nd 17 t.2.1 [k,e])
   else .call (.exp 1) fun(e:Ast)=>.look fun u =>
    if av [61] u∧e.hd.kind=7 then .tok fun _=>.call (.exp 1) fun(v:Ast)=>.ret (nd 17 t.2.1 [mS 5 t.2.1 e.hd.s [],v])
    else .ret (nd 16 t.2.1 [e])
 | .exp s=>.call .una fun(x:Ast)=>.call (.lvm s x) fun(y:Ast)=>.ret y
 | .lvm s x=>.look fun t=>match mL t with
   | some o=>if s≤o.2.1 then .tok fun d=>.call (.exp o.2.2) fun(y:Ast)=>.call (.lvm s (ndO 12 d.2.1 o.1 [x,y])) fun(z:Ast)=>.ret z else .ret x
   | none=>.ret x
 | .una=>.look fun t=>match lf t with
   | some o=>.tok fun d=>.call .una fun(x:Ast)=>.ret (ndO 13 d.2.1 o [x])
   | none=>.call .SG fun(x:Ast)=>.ret x
 | .SG=>.look fun t =>
   if av te t then .tok fun t=>.ret (nd 1 t.2.1 [])
   else if av nr t then .tok fun t=>.ret (nd 2 t.2.1 [])
   else if av kB t then .tok fun t=>.ret (nd 3 t.2.1 [])
   else if av [46,46,46] t then .tok fun t=>.ret (nd 6 t.2.1 [])
   else if av bq t then .tok fun t=>.call (.KL t.2.1 []) fun(f:Ast)=>.ret f
   else if av [123] t then .tok fun t=>.call (.Ws []) fun(l:List Ast)=>.ret (nd 15 t.2.1 l)
   else if t.1=3 then .tok fun t=>.ret (AX 4 t.2.1 t.2.2.1 [])
   else if t.1=4 then .tok fun t=>.ret (mS 5 t.2.1 (bx t.2.2.2) [])
   else .call .FQ fun(x:Ast)=>.ret x
def uU:GL Ast:=.call .blk fun(b:Ast)=>.look fun t=>if t.1=0 then .ret b else .bad
abbrev PL {α:Type} (g:GL α) (ts:List ak) (r:Except Int (α×List ak)):Prop:=P aT g ts r
open Go.RowKit
theorem cN {a b:Bool} (h:a=b):Ending.returned (.bool a)=.returned (.bool b):=by rw[h]
theorem A0 {a b:Int} (h:a=b):Ending.returned (.int .i64 a)=.returned (.int .i64 b):=by rw[h]
theorem Iz (k:Int) (w:World):Calls Tryz.prog 68 #[.int .i64 k] w fun e w'=>e=.returned (.int .i64 (eL k))∧w=w':=by
 go_enter Tryz.func68,Tryz.ntmps68
 go_wp2_with fail
 all_goals
  go_ret
  refine⟨A0 ?_,rfl⟩;simp only[eL];simp_all
  try omega
theorem IA {ks row:List Int} {i:Nat} {k r:Int} (hk:ks[i]? = some k) (hr:row[i]? = some r):iS (ks.drop i) (row.drop i)=(gM k r && iS (ks.drop (i+1)) (row.drop (i+1))):=by
 rw[eS hk,eS hr,iS]
theorem DA (kv rv:Value) (ks row:List Int) (w:World) (hk:cQ w kv ks) (hr:cQ w rv row) (hl:ks.length≤1000000):Calls Tryz.prog 146 #[kv,rv] w fun e w'=>e=.returned (.bool (iS ks row))∧w=w':=by
 obtain⟨KA,kc,rfl,wT,hka⟩:=hk;obtain⟨RA,rc,rfl,hrc,hra⟩:=hr;by_cases hlt:ks.length<row.length
 ·have hb:=uR hlt
  rw[hb];have g:decide ((ks.length:Int)<(row.length:Int))=true:=bQ (by omega)
  clear hka hra hb;go_enter Tryz.func146,Tryz.ntmps146
  go_wp2_with fail
  go_ret
  exact⟨rfl,rfl⟩
 ·have g:decide ((ks.length:Int)<(row.length:Int))=false:=bZ (by omega)
  have HK:=aa hka;have HR:=aa hra;clear hka hra;go_enter Tryz.func146,Tryz.ntmps146
  go_wp2_with fail
  go_loop [14] (fun i=>∃n:Nat,n≤row.length∧i=.int .i64 (n:Int)∧iS (ks.drop n) (row.drop n)=iS ks row) (fun i=>row.length-(intOf i).toNat)
  case atStart=>exact⟨0,bo _,rfl,rfl⟩
  case round =>
   obtain⟨n,hn,rfl,hb⟩:=hrel;have HB:=aa hb;clear hb;by_cases jd:n<row.length
   ·have hx:=bG jd
    have hy:=bG (show n<ks.length by omega)
    obtain⟨x,hxe⟩ :∃x,x=row[n]:=⟨_,rfl⟩;obtain⟨y,hye⟩ :∃y,y=ks[n]'(by omega):=⟨_,rfl⟩
    rw[←hxe] at hx;rw[←hye] at hy;clear hxe hye;rcases HK.out with h0 | ⟨b1,o1,rfl,_,hc1⟩
    ·rw[h0] at hy;simp at hy
    rcases HR.out with h0 | ⟨b2,o2,rfl,_,hc2⟩
    ·rw[h0] at hx;simp at hx
    have c1:=hc1 n _ hy;have c2:=hc2 n _ hx;have hstep:=IA hy hx;have HS:=aa hstep;clear hc1 hc2 hstep hx hy HK HR;by_cases hh:bits .and .i64 y x=0
    ·go_wp2_with fail
     go_ret
     exact⟨cN (by rw[←HB.out,HS.out];simp[gM,hh]),rfl⟩
    ·have hhb:(bits .and .i64 y x == 0)=false:=aC.2 hh
     go_wp2_with fail
     go_round
     case rel=>exact⟨n+1,by omega,by go_num,by rw[←HB.out,HS.out];simp[gM,hh]⟩
     case measure=>simp[intOf];omega
   ·have he:iS (ks.drop n) (row.drop n)=true:=by
     rw[mr (show row.length≤n by omega)]
     cases ks.drop n<;>rfl
    have HE:=aa he;clear he;go_wp2_with fail
    go_ret
    exact⟨cN (by rw[←HB.out,HE.out]),rfl⟩
def Part (W:World) (v:Value) (p:FN):Prop :=
 ∃bm br bl rv,v=.func (.func 145) #[] #[.pointer (some ⟨bm,0,none⟩),.pointer (some ⟨br,0,none⟩),.pointer (some ⟨bl,0,none⟩)]∧bm<W.heap.size∧br<W.heap.size∧bl<W.heap.size ∧
  W.cell? ⟨bm,0,none⟩=some (.int .i64 p.2.1)∧W.cell? ⟨br,0,none⟩=some rv∧W.cell? ⟨bl,0,none⟩=some (.int .i64 p.1)∧cQ W rv p.2.2
theorem Part.below {W W':World} {v:Value} {p:FN} (h:Part W v p) (hb:Below W.heap.size W W'):Part W' v p:=by
 obtain⟨bm,br,bl,rv,rfl,h1,h2,h3,c1,c2,c3,hn⟩:=h;have:=hb.size;exact⟨bm,br,bl,rv,rfl,by omega,by omega,by omega,(hb.cell (p:=⟨bm,0,none⟩) h1).trans c1,(hb.cell (p:=⟨br,0,none⟩) h2).trans c2,(hb.cell (p:=⟨bl,0,none⟩) h3).trans c3,hn.below hb⟩
theorem MT (w w':World) (cs:Array Value) (t:TypeId) (j:Nat) (hb:Below (w.heap.size+1) (w.alloc (.cells cs t)) w'):w'.cell? ⟨w.heap.size,j,none⟩=cs[j]?:=(hb.cell (p:=⟨w.heap.size,j,none⟩) (dz _)).trans (dG w cs t j)
theorem lg (l m:Int) (rv:Value) (row:List Int) (w:World) (h:cQ w rv row):Calls Tryz.prog 117 #[.int .i64 l,.int .i64 m,rv] w fun e w'=>∃v,e=.returned v∧Part w' v (l,m,row)∧Below w.heap.size w w':=by
 have HN:=aa h;obtain⟨A,c,rfl,hc,_⟩:=h;go_enter Tryz.func117,Tryz.ntmps117
 go_wp2_with fail
 go_ret
 have b1:=(Below.refl w.heap.size w).alloc (ah _) (.cells #[.int .i64 l] 2);have b2:=(Below.refl (w.heap.size+1) (w.alloc (.cells #[.int .i64 l] 2))).alloc (by rw[aq];exact ah _) (.cells #[.int .i64 m] 2)
 have b3:=(Below.refl (w.heap.size+1+1) ((w.alloc (.cells #[.int .i64 l] 2)).alloc (.cells #[.int .i64 m] 2))).alloc (by rw[aq,aq];exact ah _) (.cells #[.slice A row.length c] 132)
 have hb:=b1.trans ((b2.trans (b3.mono (by omega))).mono (iH _))
 refine⟨_,rfl,⟨_,_,_,_,rfl,by rw[aq,aq,aq];omega,by rw[aq,aq,aq];omega,by rw[aq,aq,aq];omega,?_,?_,?_,HN.out.below hb⟩,hb⟩
 ·have:=MT (w.alloc (.cells #[.int .i64 l] 2)) _ #[.int .i64 m] 2 0 (by rw[aq];exact b3)
  rw[aq] at this;exact this
 ·have:=dG ((w.alloc (.cells #[.int .i64 l] 2)).alloc (.cells #[.int .i64 m] 2)) #[.slice A row.length c] 132 0
  rw[aq,aq] at this;exact this
 ·exact MT w _ #[.int .i64 l] 2 0 (b2.trans (b3.mono (by omega)))
theorem MV (b o j:Nat):(⟨b,o,none⟩:Addr).add j=⟨b,o+j,none⟩:=by unfold Addr.add;split<;>simp_all
theorem IB {W:World} {A:Option Addr} {ks:List Int} {c L:Nat} (h:cQ W (.slice A ks.length c) ks) (hl:L≤ks.length) (v:Value) (hv:v=.slice (if c=L then A else A.map fun a=>a.add L) (ks.length-L) (c-L)):cQ W v (ks.drop L):=by
 obtain⟨A',c',e,hc,hh⟩:=h;injection e with e1 e2 e3;subst e1 e3 hv;refine⟨_,_,by rw[jb],by rw[jb];omega,?_⟩
 rcases hh with rfl | ⟨bk,o,rfl,dU,hx⟩
 ·left;simp
 ·by_cases hL:c=L
  ·left
   exact mr (by omega)
  ·right
   refine⟨bk,o+L,by rw[ab hL,pV,MV],dU,fun j z hj=>?_⟩
   rw[wF] at hj;have:=hx (L+j) z hj;rw[show o+L+j=o+(L+j) by omega]
   exact this
theorem MW {v:Value} {a b:Bool} (h:a=b):Ending.returned (.tuple #[v,.bool a])=.returned (.tuple #[v,.bool b]):=by rw[h]
theorem MX (kv:Value) (p:FN) (ks:List Int) (bm br bl:Nat) (rv:Value) (w:World) (hbm:w.cell? ⟨bm,0,none⟩=some (.int .i64 p.2.1)) (hbr:w.cell? ⟨br,0,none⟩=some rv) (hbl:w.cell? ⟨bl,0,none⟩=some (.int .i64 p.1)) (hr:cQ w rv p.2.2)
  (hk:cQ w kv ks) (hl:ks.length≤1000000) (h0:0<p.2.2.length) :
  Calls Tryz.prog 145 #[kv,.pointer (some ⟨bm,0,none⟩),.pointer (some ⟨br,0,none⟩),.pointer (some ⟨bl,0,none⟩)] w fun e w'=>∃kv',e=.returned (.tuple #[kv',.bool (decide (p.1≤(kA p.2.2 p.2.1 (ks.length+1) 0 ks).1))])∧cQ w' kv' (kA p.2.2 p.2.1 (ks.length+1) 0 ks).2∧Below w.heap.size w w':=by
 obtain⟨least,most,row⟩:=p;simp only at hbm hbr hbl hr h0 ⊢;have HR:=aa hr;obtain⟨RA,rc,rfl,hrc,_⟩:=hr;go_enter Tryz.func145,Tryz.ntmps145
 go_wp2_with fail
 go_loop [0,7] (fun kv t=>∃(gX:List Int) (n:Nat),t=.int .i64 (n:Int)∧cQ w kv gX∧gX.length+n≤ks.length∧kA row most (gX.length+1) (n:Int) gX=kA row most (ks.length+1) 0 ks) (fun _ t=>ks.length-(intOf t).toNat)
 case atStart=>exact⟨ks,0,rfl,hk,ah _,rfl⟩
 case round =>
  clear hk;obtain⟨gX,n,rfl,hk,hn,he⟩:=hrel;have HK:=aa hk;obtain⟨KA,kc,rfl,wT,_⟩:=hk;have HE:=aa he;clear he;have HB:=aa (DA _ _ gX row w HK.out HR.out (by omega))
  by_cases hm:(n:Int)<most
  ·have g:decide ((n:Int)<most)=true:=bQ hm
   cases hb:iS gX row with
   | true =>
    have ac0:=np hb;have HS:=aa (MR h0 hm hb);have ur:=aa hb;clear hb;go_wp2_with (go_at_call 146;refine HB.out.mono ?_;rintro e w' ⟨rfl,rfl⟩;rw[ur.out])
    refine⟨⟨gX.drop row.length,n+1,by go_num,IB HK.out ac0 _ rfl,by rw[jb];omega,?_⟩,by simp[intOf];omega⟩
    rw[←HE.out,HS.out];rfl
   | false =>
    have HS:=aa (FK (row:=row) (most:=most) (t:=(n:Int)) (ks:=gX) (by rw[hb];simp))
    have ur:=aa hb;clear hb;go_wp2_with (go_at_call 146;refine HB.out.mono ?_;rintro e w' ⟨rfl,rfl⟩;rw[ur.out])
    go_region
    go_wp2_with fail
    go_ret2
    exact⟨_,MW (by rw[←HE.out,HS.out]),by rw[←HE.out,HS.out];exact HK.out.below (Below.refl _ _).drew,(Below.refl _ _).drew⟩
  ·have g:decide ((n:Int)<most)=false:=bZ hm
   have HS:=aa (FK (row:=row) (most:=most) (t:=(n:Int)) (ks:=gX) (fun hh=>hm hh.1))
   go_wp2_with fail
   go_region
   go_wp2_with fail
   go_ret2
   exact⟨_,MW (by rw[←HE.out,HS.out]),by rw[←HE.out,HS.out];exact HK.out.below (Below.refl _ _).drew,(Below.refl _ _).drew⟩
def sI (W:World) (v:Value) (ps:List FN):Prop :=
 ∃A c,v=.slice A ps.length c∧(ps=[]∨∃bk o,A=some ⟨bk,o,none⟩∧bk<W.heap.size∧∀(j:Nat) p,ps[j]? = some p→∃u,W.cell? ⟨bk,o+j,none⟩=some u∧Part W u p)
theorem sI.below {W W':World} {v:Value} {ps:List FN} (h:sI W v ps) (hb:Below W.heap.size W W'):sI W' v ps:=by
 obtain⟨A,c,rfl,h | ⟨bk,o,rfl,dU,hx⟩⟩:=h
 ·exact⟨A,c,rfl,.inl h⟩
 ·exact⟨_,c,rfl,.inr ⟨bk,o,rfl,cG dU hb.size,fun j p hj=>by
   obtain⟨u,h1,h2⟩:=hx j p hj;exact⟨u,(hb.cell (p:=⟨bk,o+j,none⟩) dU).trans h1,h2.below hb⟩⟩⟩
def SH (W:World) (v:Value) (ps:List FN):Prop:=∃bp pv,v=.func (.func 144) #[] #[.pointer (some ⟨bp,0,none⟩)]∧bp<W.heap.size∧W.cell? ⟨bp,0,none⟩=some pv∧sI W pv ps
theorem nw (pv:Value) (ps:List FN) (w:World) (h:sI w pv ps):Calls Tryz.prog 116 #[pv] w fun e w'=>∃v,e=.returned v∧SH w' v ps∧Below w.heap.size w w':=by
 have HN:=aa h;obtain⟨A,c,rfl,_⟩:=h;go_enter Tryz.func116,Tryz.ntmps116
 go_wp2_with fail
 go_ret
 have b1:=(Below.refl w.heap.size w).alloc (ah _) (.cells #[.slice A ps.length c] 219);exact⟨_,rfl,⟨_,_,rfl,by rw[aq];exact dz _,dG w _ _ _,HN.out.below b1⟩,b1⟩
theorem xj {W:World} {b:Nat} {u:Value} {p:FN} (hb:b<W.heap.size) (h:W.cell? ⟨b,0,none⟩=some u) (hp:Part W u p):sI W (.slice (some ⟨b,0,none⟩) 1 1) [p] :=
 ⟨_,1,rfl,.inr ⟨b,0,rfl,hb,fun j q hj=>by
  cases j with
  | zero=>obtain rfl:=gW hj;exact⟨u,h,hp⟩
  | succ j=>simp at hj⟩⟩
theorem xk {W:World} {b:Nat} {u1 u2:Value} {p1 p2:FN} (hb:b<W.heap.size) (h1:W.cell? ⟨b,0,none⟩=some u1) (h2:W.cell? ⟨b,1,none⟩=some u2) (lH:Part W u1 p1) (sG:Part W u2 p2):sI W (.slice (some ⟨b,0,none⟩) 2 2) [p1,p2] :=
 ⟨_,2,rfl,.inr ⟨b,0,rfl,hb,fun j q hj=>by
  match j,hj with
  | 0,hj=>obtain rfl:=gW hj;exact⟨u1,h1,lH⟩
  | 1,hj=>obtain rfl:=gW hj;exact⟨u2,h2,sG⟩
  | j+2,hj=>simp at hj⟩⟩
theorem nx (w:World) (z:Int) (t:TypeId) (g:Nat) (hg:g=w.heap.size):cQ (w.alloc (.cells #[.int .i64 z] t)) (.slice (some ⟨g,0,none⟩) 1 1) [z]:=by
 subst hg;exact⟨_,1,rfl,ah _,.inr ⟨w.heap.size,0,rfl,by rw[aq];exact dz _,fun j q hj=>by
  cases j with
  | zero=>obtain rfl:=gW hj;exact dG w _ _ _
  | succ j=>simp at hj⟩⟩
theorem A3 (w:World) (y z:Int) (t:TypeId) (g:Nat) (hg:g=w.heap.size):cQ (w.alloc (.cells #[.int .i64 y,.int .i64 z] t)) (.slice (some ⟨g,0,none⟩) 2 2) [y,z]:=by
 subst hg;exact⟨_,2,rfl,ah _,.inr ⟨w.heap.size,0,rfl,by rw[aq];exact dz _,fun j q hj=>by
  match j,hj with
  | 0,hj=>obtain rfl:=gW hj;exact dG w _ _ _
  | 1,hj=>obtain rfl:=gW hj;exact dG w _ _ _
  | j+2,hj=>simp at hj⟩⟩
theorem A4 (rv:Value) (row:List Int) (w:World) (h:cQ w rv row):Calls Tryz.prog 115 #[rv] w fun e w'=>∃v,e=.returned v∧SH w' v [(1,1,row)]∧Below w.heap.size w w':=by
 have HN:=aa (lg 1 1 rv row w h);obtain⟨A,c,rfl,_⟩:=h;go_enter Tryz.func115,Tryz.ntmps115
 go_wp2_with fail
 refine HN.out.mono ?_;rintro e w1 ⟨u,rfl,hp,b1⟩;have HP:=aa hp;have B1:=aa b1;obtain⟨bm,br,bl,rv',rfl,_⟩:=hp;clear b1;go_wp2_with fail
 have b2:=(Below.refl w1.heap.size w1).alloc (ah _) (.cells #[.func (.func 145) #[] #[.pointer (some ⟨bm,0,none⟩),.pointer (some ⟨br,0,none⟩),.pointer (some ⟨bl,0,none⟩)]] 187);refine(nw _ [(1,1,row)] _ (xj (b:=w1.heap.size) (by rw[aq];exact dz _) (dG w1 _ _ _) (HP.out.below b2))).mono ?_
 rintro e w2 ⟨v,rfl,hr,b3⟩;have HR:=aa hr;have B3:=aa (ay B1.out (ay b2 b3));obtain⟨bp,pv,rfl,_⟩:=hr;clear b2 b3;go_wp2_with fail
 go_ret
 exact⟨_,rfl,HR.out,B3.out⟩
theorem MY (pv kv:Value) (ps:List FN) (ks:List Int) (bp:Nat) (w:World) (hbp:w.cell? ⟨bp,0,none⟩=some pv) (hp:sI w pv ps) (hk:cQ w kv ks) (hl:ks.length≤1000000) (h0 :∀p∈ps,0<p.2.2.length) (MM:ps.length≤1000) :
  Calls Tryz.prog 144 #[kv,.pointer (some ⟨bp,0,none⟩)] w fun e w'=>e=.returned (.bool (fD ps ks))∧Below w.heap.size w w':=by
 have HP:=aa hp;obtain⟨PA,pc,rfl,hpa⟩:=hp;have HPA:=aa hpa;have H0:=aa h0;clear hpa h0;go_enter Tryz.func144,Tryz.ntmps144
 go_wp2_with fail
 go_loopw [0,10] (fun kv i wr=>∃(gX:List Int) (n:Nat),i=.int .i64 (n:Int)∧n≤ps.length∧cQ wr kv gX∧gX.length≤1000000∧fD (ps.drop n) gX=fD ps ks∧Below w.heap.size w wr) (fun _ i _=>ps.length-(intOf i).toNat)
 case atStart=>exact⟨ks,0,rfl,bo _,hk,hl,rfl,Below.refl _ _⟩
 case round =>
  clear hk hl;obtain⟨gX,n,rfl,hn,hk,hl,he,hbl⟩:=hrel;have HK:=aa hk;obtain⟨KA,kc,rfl,wT,_⟩:=hk;have HE:=aa he;have HB:=aa hbl;clear he hbl;by_cases jd:n<ps.length
  ·obtain⟨p,hpn⟩ :∃p,ps[n]? = some p:=⟨ps[n],bG jd⟩
   have hdr:=eS hpn;rcases HPA.out with hnil | ⟨b1,o1,rfl,hb1,hc1⟩
   ·rw[hnil] at jd;exact absurd jd (jA _)
   obtain⟨u,hcu,hpu⟩:=hc1 n p hpn;have ac1:=hpu.below HB.out;have hcu':=(HB.out.cell (p:=⟨b1,o1+n,none⟩) hb1).trans hcu;obtain⟨bm,br,bl,rv,rfl,_,_,_,d1,d2,d3,dn⟩:=ac1;have mD:=aa (MX _ p gX bm br bl rv wr d1 d2 d3 dn HK.out hl (H0.out p (aX hpn)));have uq:=aa hdr;obtain⟨q,hq⟩ :∃q,q=kA p.2.2 p.2.1 (gX.length+1) 0 gX:=⟨_,rfl⟩;rw[←hq] at mD;have HQ:=aa hq;have aes:q.2.length≤gX.length:=by rw[hq];exact Yv _ _ _
   clear hc1 hcu hpu d1 d2 d3 dn hdr hpn hq;go_wp2_with fail
   refine mD.out.mono ?_;rintro e w2 ⟨kv',rfl,hk2,b2⟩;have HK2:=aa hk2;obtain⟨KA2,kc2,rfl,hkc2,_⟩:=hk2;have B2:=aa (jj HB.out (ah _) b2);clear b2;by_cases hle:p.1≤q.1
   ·have g:decide (p.1≤q.1)=true:=bQ hle
    rw[g];go_wp2_with fail
    go_roundw
    case rel=>exact⟨q.2,n+1,by go_num,by omega,HK2.out,by omega,by rw[←HE.out,uq.out,fD,←HQ.out,g,kP],B2.out⟩
    case measure=>simp[intOf];omega
   ·have g:decide (p.1≤q.1)=false:=bZ hle
    rw[g];go_wp2_with fail
    go_ret
    exact⟨cN (by rw[←HE.out,uq.out,fD,←HQ.out,g,zU]),B2.out⟩
  ·have hdr:ps.drop n=[]:=mr (by omega)
   have uq:=aa hdr;clear hdr;go_wp2_with fail
   go_ret
   refine⟨cN ?_,HB.out⟩;rw[←HE.out,uq.out,fD];cases gX with
   | nil=>rfl
   | cons a t=>simp;omega
def ny (k n:Int) (w:World) (e:Ending) (w':World):Prop:=∃v,e=.returned v∧SH w' v (aZ k n)∧Below w.heap.size w w'
theorem nZ {k n:Int} {ps:List FN} (h:aZ k n=ps) {w w':World} {v:Value} (hr:SH w' v ps) (hb:Below w.heap.size w w'):ny k n w (.returned v) w':=⟨v,rfl,by rw[h];exact hr,hb⟩
theorem bD (w:World) (o:Obj):Below w.heap.size w (w.alloc o):=(Below.refl _ _).alloc (ah _) _
theorem IC (x:Nd) (A B:Option Addr) (a c b d:Nat) (w:World) (h:x.kind=13∨x.kind=14∨x.kind=16∨x.kind=11∨x.kind=22∨x.kind=21∨x.kind=28):Calls Tryz.prog 69 #[da x (.slice A a c) (.slice B b d)] w (ny x.kind x.num w):=by
 obtain⟨kind,line,op,num,s,names,kids⟩:=x;unfold da;simp only at h ⊢;have b1:=bD w (.cells #[.int .i64 kind,.int .i64 line,.int .i64 op,.int .i64 num,.string s,.slice A a c,.slice B b d] 54);rcases h with rfl|rfl|rfl|rfl|rfl|rfl|rfl;all_goals
  have B1:=aa b1;clear b1;go_enter Tryz.func69,Tryz.ntmps69
  go_wp2_with fail
  refine(A4 _ _ _ (nx _ _ 133 _ (by simp))).mono ?_
  rintro e w2 ⟨v,rfl,hr,b2⟩;have HR:=aa hr;have B2:=aa (ay B1.out (ay (bD _ _) b2));obtain⟨bp,pv,rfl,_⟩:=hr;clear b2;go_wp2_with fail
  go_ret
  exact nZ (by simp[aZ]) HR.out B2.out
theorem ID (x:Nd) (A B:Option Addr) (a c b d:Nat) (w:World) (h:x.kind=8∨x.kind=12∨x.kind=17∨x.kind=23∨x.kind=24):Calls Tryz.prog 69 #[da x (.slice A a c) (.slice B b d)] w (ny x.kind x.num w):=by
 obtain⟨kind,line,op,num,s,names,kids⟩:=x;unfold da;simp only at h ⊢;have b1:=bD w (.cells #[.int .i64 kind,.int .i64 line,.int .i64 op,.int .i64 num,.string s,.slice A a c,.slice B b d] 54);rcases h with rfl|rfl|rfl|rfl|rfl;all_goals
  have B1:=aa b1;clear b1;go_enter Tryz.func69,Tryz.ntmps69
  go_wp2_with fail
  refine(A4 _ _ _ (A3 _ _ _ 133 _ (by simp))).mono ?_
  rintro e w2 ⟨v,rfl,hr,b2⟩;have HR:=aa hr;have B2:=aa (ay B1.out (ay (bD _ _) b2));obtain⟨bp,pv,rfl,_⟩:=hr;clear b2;go_wp2_with fail
  go_ret
  exact nZ (by simp[aZ]) HR.out B2.out
theorem SI (x:Nd) (A B:Option Addr) (a c b d:Nat) (w:World) (h:x.kind=9∨x.kind=10∨x.kind=19∨x.kind=29∨x.kind=15):Calls Tryz.prog 69 #[da x (.slice A a c) (.slice B b d)] w (ny x.kind x.num w):=by
 obtain⟨kind,line,op,num,s,names,kids⟩:=x;unfold da;simp only at h ⊢;have b1:=bD w (.cells #[.int .i64 kind,.int .i64 line,.int .i64 op,.int .i64 num,.string s,.slice A a c,.slice B b d] 54);rcases h with rfl|rfl|rfl|rfl|rfl;all_goals
  have B1:=aa b1;clear b1;go_enter Tryz.func69,Tryz.ntmps69
  go_wp2_with fail
  refine(lg _ _ _ _ _ (nx _ _ 133 _ (by simp))).mono ?_
  rintro e w2 ⟨v,rfl,hp,b2⟩;have HP:=aa hp;have B2:=aa (ay B1.out (ay (bD _ _) b2));obtain⟨bm,br,bl,rv,rfl,_⟩:=hp;clear b2;go_wp2_with fail
  refine(nw _ _ _ (xj (b:=w2.heap.size) (by rw[aq];exact dz _) (dG w2 _ _ _) (HP.out.below (bD w2 _)))).mono ?_
  rintro e w3 ⟨v3,rfl,hr,b3⟩;have HR:=aa hr;have B3:=aa (ay B2.out (ay (bD _ _) b3));obtain⟨bp,pv,rfl,_⟩:=hr;clear b3;go_wp2_with fail
  go_ret
  exact nZ (by simp[aZ,big]) HR.out B3.out
theorem MZ (x:Nd) (A B:Option Addr) (a c b d:Nat) (w:World) (h:x.kind=18∨x.kind=26∨x.kind=27∨x.kind=20):Calls Tryz.prog 69 #[da x (.slice A a c) (.slice B b d)] w (ny x.kind x.num w):=by
 obtain⟨kind,line,op,num,s,names,kids⟩:=x;unfold da;simp only at h ⊢;have b1:=bD w (.cells #[.int .i64 kind,.int .i64 line,.int .i64 op,.int .i64 num,.string s,.slice A a c,.slice B b d] 54);rcases h with rfl|rfl|rfl|rfl;all_goals
  have B1:=aa b1;clear b1;go_enter Tryz.func69,Tryz.ntmps69
  go_wp2_with fail
  refine(lg _ _ _ _ _ (nx _ _ 133 _ (by simp))).mono ?_
  rintro e w2 ⟨v,rfl,hp,b2⟩;have HP:=aa hp;have B2:=aa (ay B1.out (ay (bD _ _) b2));obtain⟨bm,br,bl,rv,rfl,_⟩:=hp;clear b2;go_wp2_with fail
  refine(lg _ _ _ _ _ (nx w2 _ 133 _ rfl)).mono ?_;rintro e w3 ⟨v,rfl,A7,b3⟩;have YA:=aa (HP.out.below (ay (bD w2 _) b3));have YB:=aa A7;have B3:=aa (ay B2.out (ay (bD _ _) b3));obtain⟨bm3,br3,bl3,rv3,rfl,_⟩:=A7;clear b3 HP;go_wp2_with fail
  refine(nw _ _ _ (xk (b:=w3.heap.size) (by rw[aq];exact dz _) (dG w3 _ _ _) (dG w3 _ _ _) (YA.out.below (bD w3 _)) (YB.out.below (bD w3 _)))).mono ?_
  rintro e w4 ⟨v4,rfl,hr,b4⟩;have HR:=aa hr;have B4:=aa (ay B3.out (ay (bD _ _) b4));obtain⟨bp,pv,rfl,_⟩:=hr;clear b4;go_wp2_with fail
  go_ret
  exact nZ (by simp[aZ,big]) HR.out B4.out
theorem M0 (x:Nd) (A B:Option Addr) (a c b d:Nat) (w:World) (h:x.kind=25):Calls Tryz.prog 69 #[da x (.slice A a c) (.slice B b d)] w (ny x.kind x.num w):=by
 obtain⟨kind,line,op,num,s,names,kids⟩:=x;unfold da;simp only at h ⊢;have b1:=bD w (.cells #[.int .i64 kind,.int .i64 line,.int .i64 op,.int .i64 num,.string s,.slice A a c,.slice B b d] 54);subst h;have B1:=aa b1;clear b1;go_enter Tryz.func69,Tryz.ntmps69
 go_wp2_with fail
 refine(lg _ _ _ _ _ (A3 _ _ _ 133 _ (by simp))).mono ?_
 rintro e w2 ⟨v,rfl,hp,b2⟩;have HP:=aa hp;have B2:=aa (ay B1.out (ay (bD _ _) b2));obtain⟨bm,br,bl,rv,rfl,_⟩:=hp;clear b2;go_wp2_with fail
 refine(lg _ _ _ _ _ (nx w2 _ 133 _ rfl)).mono ?_;rintro e w3 ⟨v,rfl,A7,b3⟩;have YA:=aa (HP.out.below (ay (bD w2 _) b3));have YB:=aa A7;have B3:=aa (ay B2.out (ay (bD _ _) b3));obtain⟨bm3,br3,bl3,rv3,rfl,_⟩:=A7;clear b3 HP;go_wp2_with fail
 refine(nw _ _ _ (xk (b:=w3.heap.size) (by rw[aq];exact dz _) (dG w3 _ _ _) (dG w3 _ _ _) (YA.out.below (bD w3 _)) (YB.out.below (bD w3 _)))).mono ?_
 rintro e w4 ⟨v4,rfl,hr,b4⟩;have HR:=aa hr;have B4:=aa (ay B3.out (ay (bD _ _) b4));obtain⟨bp,pv,rfl,_⟩:=hr;clear b4;go_wp2_with fail
 go_ret
 exact nZ (by simp[aZ,big]) HR.out B4.out
theorem M4 (x:Nd) (A B:Option Addr) (a c b d:Nat) (w:World) (h :∀k∈[13,14,16,8,12,17,9,10,19,29,11,22,21,28,23,24,15,18,25,26,27,(20:Int)],x.kind≠k):Calls Tryz.prog 69 #[da x (.slice A a c) (.slice B b d)] w (ny x.kind x.num w):=by
 obtain⟨kind,line,op,num,s,names,kids⟩:=x;unfold da;simp only at h ⊢;simp only[bc,oI,oM,forall_eq_or_imp,forall_eq] at h;obtain⟨h1,h2,h3,h4,h5,h6,h7,h8,h9,h10,h11,h12,h13,h14,h15,h16,h17,kH,Lu,h20,h21,h22⟩:=h;have hp:aZ kind num=[]:=by simp only[aZ];simp[*]
 have b1:=bD w (.cells #[.int .i64 kind,.int .i64 line,.int .i64 op,.int .i64 num,.string s,.slice A a c,.slice B b d] 54);have B1:=aa b1;have HP:=aa hp;clear b1 hp;go_enter Tryz.func69,Tryz.ntmps69
 go_wp2_with fail
 refine(nw _ [] _ ⟨none,0,rfl,.inl rfl⟩).mono ?_;rintro e w2 ⟨v,rfl,hr,b2⟩;have HR:=aa hr;have B2:=aa (ay B1.out b2);obtain⟨bp,pv,rfl,_⟩:=hr;clear b2;go_wp2_with fail
 go_ret
 exact nZ HP.out HR.out B2.out
theorem SJ (x:Nd) (A B:Option Addr) (a c b d:Nat) (w:World):Calls Tryz.prog 69 #[da x (.slice A a c) (.slice B b d)] w (ny x.kind x.num w):=by
 by_cases h1:x.kind=13∨x.kind=14∨x.kind=16∨x.kind=11∨x.kind=22∨x.kind=21∨x.kind=28
 ·exact IC x A B a c b d w h1
 by_cases h2:x.kind=8∨x.kind=12∨x.kind=17∨x.kind=23∨x.kind=24
 ·exact ID x A B a c b d w h2
 by_cases h3:x.kind=9∨x.kind=10∨x.kind=19∨x.kind=29∨x.kind=15
 ·exact SI x A B a c b d w h3
 by_cases h4:x.kind=18∨x.kind=26∨x.kind=27∨x.kind=20
 ·exact MZ x A B a c b d w h4
 by_cases h5:x.kind=25
 ·exact M0 x A B a c b d w h5
 refine M4 x A B a c b d w fun k hk=>?_
 simp only[bc,oI,oM] at hk;omega
theorem dC {α:Type} {p:Prop} [Decidable p] {a b:α} (P:α→Prop) (ha:P a) (hb:P b):P (if p then a else b):=by
 by_cases h:p
 ·rw[ai h];exact ha
 ·rw[ab h];exact hb
def mM (ps:List FN):Prop:=ps.all (fun p=>decide (0<p.2.2.length))=true∧ps.length≤1000
theorem fM (a b:Int) (r:Int) (l:List Int):mM [(a,b,r::l)]:=⟨rfl,Nat.le_of_ble_eq_true rfl⟩
theorem nA (a b a' b':Int) (r r':Int) (l l':List Int):mM [(a,b,r::l),(a',b',r'::l')]:=⟨rfl,Nat.le_of_ble_eq_true rfl⟩
theorem A8 (k n:Int):mM (aZ k n):=by
 unfold aZ;refine dC mM (fM ..) <| dC mM (fM ..) <| dC mM (fM ..) <| dC mM (fM ..) <| dC mM (fM ..) <| dC mM (fM ..) <| dC mM (fM ..) <| dC mM (fM ..) <| dC mM (fM ..) <| dC mM (fM ..) <| dC mM (nA ..) <| dC mM (nA ..) <| dC mM (nA ..) <| dC mM (nA ..) <| dC mM (nA ..) ⟨rfl,bo _⟩
theorem IE (k n:Int) :∀p∈aZ k n,0<p.2.2.length:=fun p hp=>iG (List.all_eq_true.1 (A8 k n).1 p hp)
theorem IF (k n:Int):(aZ k n).length≤1000:=(A8 k n).2
def ie (T:List Nd) (x:Nd):List Int:=x.kids.map fun k=>eL (dI T k.toNat)
theorem DB (T:List Nd) (x:Nd):(ie T x).length=x.kids.length:=by simp[ie]
theorem IG {T:List Nd} {x:Nd} {j:Nat} {k:Int} (h:x.kids[j]? = some k):(ie T x)[j]? = some (eL (dI T k.toNat)):=by simp[ie,h]
theorem M5 {W:World} {b:Nat} {l:List Int} (h:oA W b l.length (fun j=>.int .i64 (l.getD j 0))) (hb:b<W.heap.size):cQ W (.slice (some ⟨b,0,none⟩) l.length l.length) l :=
 ⟨_,_,rfl,ah _,.inr ⟨b,0,rfl,hb,fun j z hj=>by
  have hl:=(aK.1 hj).1;rw[gi,(h j hl).1];show some (Value.int .i64 (l.getD j 0))=_
  rw[jZ,hj];rfl⟩⟩
theorem M6 (x:Nd) (nv kv tv:Value) (T:List Nd) (w:World) (hnv:sB w nv x.names) (hkv:cQ w kv x.kids) (ht:fw w tv T) (hv :∀k∈x.kids,0≤k∧k<(T.length:Int)) (hl:x.kids.length≤20000) :
  Calls Tryz.prog 32 #[da x nv kv,tv] w fun e w'=>e=.returned (.bool (lI x.kind x.num (ie T x)))∧Below w.heap.size w w':=by
 have HK:=aa hkv;have HNV:=aa hnv;obtain⟨NA,nc,rfl,_,_⟩:=hnv;obtain⟨KA,kc,rfl,wT,hka⟩:=hkv;obtain⟨TA,tc,rfl,htc,hta⟩:=ht;have HOF:=aa (fun W=>SJ x NA KA x.names.length nc x.kids.length kc W)
 have HV:=aa hv;have DC:=aa hka;have HTA:=aa hta;have hW0:=bD w (.cells #[.int .i64 x.kind,.int .i64 x.line,.int .i64 x.op,.int .i64 x.num,.string x.s,.slice NA x.names.length nc,.slice KA x.kids.length kc] 54);obtain⟨w1,wS,hb1,hs1,kQ⟩:=Db x.kids.length (by omega) (w.alloc (.cells #[.int .i64 x.kind,.int .i64 x.line,.int .i64 x.op,.int .i64 x.num,.string x.s,.slice NA x.names.length nc,.slice KA x.kids.length kc] 54))
 rw[aq] at wS hb1 hs1 kQ;have eM :∀j:Nat,w1.cell? ⟨w.heap.size,j,none⟩=(#[.int .i64 x.kind,.int .i64 x.line,.int .i64 x.op,.int .i64 x.num,.string x.s,.slice NA x.names.length nc,.slice KA x.kids.length kc]:Array Value)[j]?:=fun j=>(hb1.cell (p:=⟨w.heap.size,j,none⟩) (dz _)).trans (dG w _ _ _)
 have c6:w1.cell? ⟨w.heap.size,6,none⟩=some (.slice KA x.kids.length kc):=eM 6;have mB:=aa eM;have ee:=aa (hW0.trans (hb1.mono (iH _)));have fB:=aa kQ;clear hv hka hta hW0 hb1 kQ eM;unfold da at HOF ⊢;go_enter Tryz.func32,Tryz.ntmps32
 go_wp2_with fail
 clear wS c6;have SK:(ie T x).length=x.kids.length:=DB T x;have HSL:=aa SK;clear SK;go_loopw [15] (fun i wr=>∃k:Nat,k≤x.kids.length∧i=.int .i64 (k:Int)∧Below (w.heap.size+1) w1 wr∧oA wr (w.heap.size+1) x.kids.length (fun j=>if j<k then .int .i64 ((ie T x).getD j 0) else .int .i64 0)) (fun i _=>x.kids.length-(intOf i).toNat)
 case atStart=>exact⟨0,bo _,rfl,Below.refl _ _,fB.out.eq_ fun j _=>by rw[ab (by omega)]⟩
 case round =>
  obtain⟨k,hk,rfl,hbr,mP⟩:=hrel;have HB:=aa hbr;have HF:=aa mP;have hsz:=hbr.size;have iK:=aa (ee.out.trans (hbr.mono (iH _)));clear hbr;by_cases hlt:k<x.kids.length
  ·obtain⟨z,hz⟩ :∃z,x.kids[k]? = some z:=⟨x.kids[k],bG hlt⟩
   obtain⟨z0,z1⟩:=HV.out z (aX hz);obtain⟨q,rfl⟩ :∃q:Nat,z=(q:Int):=⟨z.toNat,by omega⟩
   have hq:q<T.length:=by omega
   have hx:=bG hq;rcases DC.out with h0 | ⟨b1,o1,rfl,hb1,hc1⟩
   ·rw[h0] at hlt;exact absurd hlt (jA _)
   rcases HTA.out with h0 | ⟨b2,o2,rfl,hb2,hc2⟩
   ·rw[h0] at hq;exact absurd hq (jA _)
   have ck:=(iK.out.cell (p:=⟨b1,o1+k,none⟩) hb1).trans (hc1 k _ hz);obtain⟨nv',kv',eT,_,_⟩:=hc2 q _ hx;have ct:=(iK.out.cell (p:=⟨b2,o2+q*7,none⟩) hb2).trans eT.c0;obtain⟨fc,ff⟩:=mP k hlt;obtain⟨kd,qv⟩ :∃kd,kd=T[q].kind:=⟨_,rfl⟩;rw[←qv] at ct;have hsk:(ie T x).getD k 0=eL kd:=by
    rw[jZ,IG hz,gV,nT hx,←qv];rfl
   have HSK:=aa hsk;replace fc:wr.cell? ⟨w.heap.size+1,k,none⟩=some (.int .i64 0):=fc.trans (by
    show some (if k<k then _ else _)=_
    rw[ab (by omega)])
   clear hc1 hc2 eT hz hx hsk qv mP;go_wp2_with (go_at_call 68;refine(Iz kd _).mono ?_;rintro e w' ⟨rfl,rfl⟩)
   refine⟨⟨k+1,by omega,by go_num,HB.out.setCell (ah _) _,(HF.out.XL hlt _).eq_ fun j hj=>?_⟩,by simp[intOf];omega⟩
   by_cases e:j=k
   ·subst e
    rw[ai rfl,ai (by omega),HSK.out]
   ·rw[ab e]
    by_cases h:j<k
    ·rw[ai h,ai (by omega)]
    ·rw[ab h,ab (by omega)]
  ·have DD:oA wr (w.heap.size+1) (ie T x).length (fun j=>.int .i64 ((ie T x).getD j 0)):=by
    rw[HSL.out];exact HF.out.eq_ fun j hj=>by rw[ai (by omega)]
   have HN:=aa (M5 DD (by omega))
   clear DD mP;have HC:=mB.out;have c0:=(HB.out.cell (p:=⟨w.heap.size,0,none⟩) (dz _)).trans (HC 0);have c1:=(HB.out.cell (p:=⟨w.heap.size,1,none⟩) (dz _)).trans (HC 1);have c2:=(HB.out.cell (p:=⟨w.heap.size,2,none⟩) (dz _)).trans (HC 2);have c3:=(HB.out.cell (p:=⟨w.heap.size,3,none⟩) (dz _)).trans (HC 3);have c4:=(HB.out.cell (p:=⟨w.heap.size,4,none⟩) (dz _)).trans (HC 4);have c5:=(HB.out.cell (p:=⟨w.heap.size,5,none⟩) (dz _)).trans (HC 5);have c6:=(HB.out.cell (p:=⟨w.heap.size,6,none⟩) (dz _)).trans (HC 6);clear HC;go_wp2_with fail
   refine(HOF.out wr).mono ?_;rintro e w2 ⟨v,rfl,hr,b2⟩;obtain⟨bp,pv,rfl,hbp,hcp,hpp⟩:=hr;have HRL:=aa (MY _ _ (aZ x.kind x.num) (ie T x) bp w2 hcp hpp (HN.out.below b2) (by rw[HSL.out];omega) (IE _ _) (IF _ _))
   have B2:=aa (jj iK.out (ah _) b2);clear hcp hpp b2;rw[HSL.out] at HRL;go_wp2_with fail
   refine HRL.out.mono ?_;rintro e w3 ⟨rfl,b3⟩;have B3:=aa (jj B2.out (ah _) b3);clear b3;go_wp2_with fail
   go_ret
   exact⟨rfl,B3.out⟩
end Go.Proofs.YtodmcdfeldkocaaGreatDoor
