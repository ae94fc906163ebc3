/- Parts of the proof. -/
import Derived.Test.YtodmcdfeldkocaaGreatDoorK03
set_option maxHeartbeats 16000000
set_option maxRecDepth 20000
namespace Go.Proofs.YtodmcdfeldkocaaGreatDoor
open Go.RowKit
theorem Mo (x:fC) (s:ByteArray):((Ko x).2.2 s).isSome=(cj x.kids s).isSome:=by
 show(fD x.kids x.rep x.kids.length s).isSome=_
 unfold fD;rw[AK];cases cj x.kids s<;>rfl
theorem ve (s:ByteArray) (l:List fC):(l.map Ko).find? (fun x=>(x.2.2 s).isSome)=(l.find? fun x=>(cj x.kids s).isSome).map Ko:=by
 rw[List.find?_map];congr 1
 congr 1
 funext x
 exact Mo x s
theorem AZ (l:List fC):LS (l.map Ko):=by
 intro x hx s v hv;obtain⟨y,_,rfl⟩:=eJ.1 hx;replace hv:fD y.kids y.rep y.kids.length s=some v:=hv;unfold fD at hv;cases e:nh y.kids y.rep y.kids.length s with
 | none=>rw[e] at hv;cases hv
 | some p =>
  rw[e] at hv;injection hv with hv;exact⟨_,_,hv.symm⟩
theorem xo {node f:Nat} {s:ByteArray} {line:Int} {st:aI} (h:((dC f st.frames).map Ko).find? (fun x=>(x.2.2 s).isSome)=none):dp node f s line st st.frames=.error (8,line):=by
 rw[ve] at h;rw[nY,Option.map_eq_none_iff.1 h]
theorem xp {node f:Nat} {s:ByteArray} {line a d:Int} {st:aI} {x:Nat×Nat×(ByteArray→Option Value)} (h:((dC f st.frames).map Ko).find? (fun x=>(x.2.2 s).isSome)=some x) (hx:x.2.2 s=some (.agg #[.int .i64 a,.int .i64 d])):dp node f s line st st.frames=if (x.1:Int)<d then .error (10,line) else .ok (st.dw node (4,a)):=by
 rw[ve,Option.map_eq_some_iff] at h;obtain⟨y,hy,rfl⟩:=h;rw[nY,hy];replace hx:fD y.kids y.rep y.kids.length s=some (.agg #[.int .i64 a,.int .i64 d]):=hx;unfold fD at hx;rw[AK] at hx;dsimp only
 cases e:cj y.kids s with
 | none=>rw[e] at hx;cases hx
 | some j =>
  rw[e] at hx;dsimp only[Option.map] at hx
  injection hx with hx;injection hx with hx;have hx1:[Value.int .i64 ((y.kids.getD j (.mk 0 ⟨0,0,0,0,⟨#[]⟩,[],[]⟩ [])).loc:Int),.int .i64 (rN y.kids y.rep j:Int)]=[.int .i64 a,.int .i64 d]:=az Array.toList hx;injection hx1 with e1 e2;injection e2 with e2 _;injection e1 with _ e1;injection e2 with _ e2;subst e1 e2;obtain⟨z,hz,hl,_⟩:=uV e;have hz2:rp z=true:=by
   unfold mq at hl;unfold rp;simp only[dk] at hl;exact hl.1
  dsimp only
  rw[RF hz hz2];show(if decide (gO y.kids (y.at_+1)<rN y.kids y.rep j)=true then _ else _)=if ((gO y.kids (y.at_+1):Nat):Int)<_ then _ else _
  by_cases h1:gO y.kids (y.at_+1)<rN y.kids y.rep j
  ·rw[aj (bN h1),aj (by omega)]
  ·rw[ae (by rw[bM h1];simp),ae (by omega)]
structure JQ (w:World) (s:ByteArray) (fs:List (Nat×Nat×(ByteArray→Option Value))) (pa:Option Addr) (a d:Int) (W:World) (g:Nat):Prop where
 below:Below w.heap.size w W
 fnd:gi W s fs (.pointer pa) (.agg #[.int .i64 a,.int .i64 d])
 c0:W.cell? ⟨g,0,none⟩=some (.int .i64 a)
 c1:W.cell? ⟨g,1,none⟩=some (.int .i64 d)
 new:w.heap.size≤g
 lt:g<W.heap.size
theorem gi.later {W W':World} {s:ByteArray} {fs:List (Nat×Nat×(ByteArray→Option Value))} {pv xl:Value} (h:gi W s fs pv xl) (hb:Below W.heap.size W W'):gi W' s fs pv xl:=by
 unfold gi at h ⊢;split
 ·rename_i e
  rw[e] at h;exact h
 ·rename_i x e
  rw[e] at h;obtain⟨k,h1,h2,h3,h4⟩:=h;exact⟨k,h1,h2,(hb.cell (p:=⟨k,2,none⟩) h4).trans h3,cw h4 hb.size⟩
theorem gi.far {W W':World} {s:ByteArray} {fs:List (Nat×Nat×(ByteArray→Option Value))} {pv xl:Value} {n:Nat} (h:gi W s fs pv xl) (hn :∀k,pv=.pointer (some ⟨k,0,none⟩)→k<n) (hsz:W.heap.size≤W'.heap.size) (hb :∀k,k<n→W'.heap[k]? = W.heap[k]?):gi W' s fs pv xl:=by
 unfold gi at h ⊢;split
 ·rename_i e
  rw[e] at h;exact h
 ·rename_i x e
  rw[e] at h;obtain⟨k,h1,h2,h3,h4⟩:=h;exact⟨k,h1,h2,(World.cell?_of_block (a:=⟨k,2,none⟩) (hb k (hn k h1))).trans h3,cw h4 hsz⟩
theorem acu {w W1 w2:World} {s:ByteArray} {fs:List (Nat×Nat×(ByteArray→Option Value))} {pa:Option Addr} {a d:Int} (b1:Below w.heap.size w W1) (b2:Below W1.heap.size W1 w2) (hf:gi w2 s fs (.pointer pa) (.agg #[.int .i64 a,.int .i64 d])) (hle:w.heap.size≤W1.heap.size):JQ w s fs pa a d (w2.alloc (.cells #[.int .i64 a,.int .i64 d] 154)) w2.heap.size :=
 ⟨(b1.trans (b2.mono hle)).alloc (aL hle b2.size) _,hf.later ((Below.refl _ _).alloc (ag _) _),ab (heap_alloc_new _ _) 0,ab (heap_alloc_new _ _) 1,aL hle b2.size,by rw[ao];omega⟩
theorem acv {w W1 w2:World} {s:ByteArray} {fs:List (Nat×Nat×(ByteArray→Option Value))} {pa:Option Addr} {a d x y:Int} (b1:Below w.heap.size w W1) (b2:Below W1.heap.size W1 w2) (hf:gi w2 s fs (.pointer pa) (.agg #[.int .i64 a,.int .i64 d])) (hn :∀k,Value.pointer pa=.pointer (some ⟨k,0,none⟩)→k<W1.heap.size) (hle:w.heap.size≤W1.heap.size) (hz:w2.heap[W1.heap.size]? = some (.cells #[.int .i64 x,.int .i64 y] 154 (0,0))):JQ w s fs pa a d ((w2.setCell ⟨W1.heap.size,0,none⟩ (.int .i64 a)).setCell ⟨W1.heap.size,1,none⟩ (.int .i64 d)) W1.heap.size :=
 ⟨((b1.trans (b2.mono hle)).setCell (p:=⟨W1.heap.size,0,none⟩) hle _).setCell (p:=⟨W1.heap.size,1,none⟩) hle _,hf.far hn (by rw[ni];exact ag _) (fun k hk=>wB w2 W1.heap.size _ _ k (by omega)),ab (yL hz _ _) 0,ab (yL hz _ _) 1,hle,by rw[ni];exact(aM.1 hz).1⟩
theorem gi.lt {W:World} {s:ByteArray} {fs:List (Nat×Nat×(ByteArray→Option Value))} {pa:Option Addr} {xl:Value} (h:gi W s fs (.pointer pa) xl) :∀k,Value.pointer pa=.pointer (some ⟨k,0,none⟩)→k<W.heap.size:=by
 intro k hk;unfold gi at h;split at h
 ·rw[hk] at h;cases h.1
 ·obtain⟨k',h1,_,_,h4⟩:=h
  rw[hk] at h1;injection h1 with h1;injection h1 with h1;injection h1 with h1;omega
theorem gi.old {W:World} {s:ByteArray} {fs:List (Nat×Nat×(ByteArray→Option Value))} {pa:Option Addr} {xl:Value} {x y:Value} (h:gi (W.alloc (.cells #[x,y] 154)).drew s fs (.pointer pa) xl) :∀k,Value.pointer pa=.pointer (some ⟨k,0,none⟩)→k<W.heap.size:=by
 intro k hk;have h1:=h.lt k hk;replace h1:k<(W.alloc (.cells #[x,y] 154)).heap.size:=h1;rw[ao] at h1;by_cases e:k=W.heap.size
 ·exfalso
  subst e;unfold gi at h;split at h
  ·rw[hk] at h;cases h.1
  ·obtain⟨k',h2,_,h3,_⟩:=h
   rw[hk] at h2;injection h2 with h2;injection h2 with h2;injection h2 with h2;subst h2;have h4:=ab (heap_alloc_new W (.cells #[x,y] 154)) 2;replace h3:(W.alloc (.cells #[x,y] 154)).cell? ⟨W.heap.size,2,none⟩=_:=h3;rw[h4] at h3;cases h3
 ·omega
theorem iy {a w:World} (h:Below a.drew.heap.size a.drew w):Below a.heap.size a w:=⟨h.os,h.tape,h.output,h.size,h.block⟩
theorem gi.no {W:World} {s:ByteArray} {fs:List (Nat×Nat×(ByteArray→Option Value))} {pa:Option Addr} {xl:Value} (h:gi W s fs (.pointer pa) xl) (e:fs.find? (fun x=>(x.2.2 s).isSome)=none):pa=none:=by
 unfold gi at h;rw[e] at h;have:=h.1;injection this
theorem gi.yes {W:World} {s:ByteArray} {fs:List (Nat×Nat×(ByteArray→Option Value))} {pa:Option Addr} {xl:Value} {x:Nat×Nat×(ByteArray→Option Value)} (h:gi W s fs (.pointer pa) xl) (e:fs.find? (fun x=>(x.2.2 s).isSome)=some x) :∃k,pa=some ⟨k,0,none⟩∧x.2.2 s=some xl∧W.cell? ⟨k,2,none⟩=some (.int .i64 (x.1:Int))∧k<W.heap.size:=by
 unfold gi at h;rw[e] at h;obtain⟨k,h1,h2⟩:=h;injection h1 with h1;exact⟨k,h1,h2⟩
theorem gi.Mp {W:World} {s:ByteArray} {fs:List (Nat×Nat×(ByteArray→Option Value))} {pv xl:Value} (h:gi W.drew s fs pv xl):gi W s fs pv xl:=h
theorem A0 {W w2:World} {b bk j p N f c o:Nat} {s:ByteArray} {loop:Int} {pa la:Option Addr} {ln lc:Nat} (h:W.cell? ⟨b,0,none⟩=some (.slice (some ⟨bk,o,none⟩) N c)∧W.cell? ⟨bk,j,none⟩=some (.string s)∧W.cell? ⟨p,0,none⟩=some (.int .i64 (f:Int))∧W.cell? ⟨p,1,none⟩=some (.int .i64 loop)∧W.cell? ⟨p,2,none⟩=some (.pointer pa)∧W.cell? ⟨p,3,none⟩=some (.slice la ln lc)) (hb:b<W.heap.size) (hk:bk<W.heap.size) (hp:p<W.heap.size) (hB:Below W.heap.size W w2) :
  w2.cell? ⟨b,0,none⟩=some (.slice (some ⟨bk,o,none⟩) N c)∧w2.cell? ⟨bk,j,none⟩=some (.string s)∧w2.cell? ⟨p,0,none⟩=some (.int .i64 (f:Int))∧w2.cell? ⟨p,1,none⟩=some (.int .i64 loop)∧w2.cell? ⟨p,2,none⟩=some (.pointer pa)∧w2.cell? ⟨p,3,none⟩=some (.slice la ln lc) :=
 ⟨(hB.cell (p:=⟨b,0,none⟩) hb).trans h.1,(hB.cell (p:=⟨bk,j,none⟩) hk).trans h.2.1,(hB.cell (p:=⟨p,0,none⟩) hp).trans h.2.2.1,(hB.cell (p:=⟨p,1,none⟩) hp).trans h.2.2.2.1,(hB.cell (p:=⟨p,2,none⟩) hp).trans h.2.2.2.2.1,(hB.cell (p:=⟨p,3,none⟩) hp).trans h.2.2.2.2.2⟩
theorem Mq {T:List Nd} {B:Nat} {nv:Value} {ub ob:Nat} (b node f:Nat) (h:Nd) (loop:Int) (pa la:Option Addr) (lc ln:Nat) (ms:List Nat) (st:aI) (w:World) (hT:wu w B nv T) (hw:jG w B b nv T.length st ub ob) (hx:T[node]? = some h) (hc:oU w B (dC f st.frames) ms (.pointer pa)) (hs:h.s.size≤maxLen) :
  Calls Tryz.prog 39 #[.pointer (some ⟨b,0,none⟩),.int .i64 (node:Int),.agg #[.int .i64 (f:Int),.int .i64 loop,.pointer pa,.slice la ln lc]] w (gD B b nv T.length ub ob (dp node f h.s h.line st st.frames) w):=by
 obtain⟨bk,o,c,rfl,dH,ca,dJ⟩:=hT.nodes;obtain⟨u7,u9,eL,_,_⟩:=dJ node h hx;have iV:node<T.length:=(aJ.1 hx).1;have pU:=hT.few;obtain⟨fv,FL,hw⟩:=hw;obtain⟨hbl,po,tm⟩:=hw.mN;have HW:=aa hw;have hb4:=hw.blk;have d0:=ab hb4 0;replace d0:_=some (Value.slice (some ⟨bk,o,none⟩) T.length c):=d0;have d4:=RU eL;have gP:bk<w.heap.size:=by omega
 have HT:=aa hT;have HX:=aa hx;obtain⟨fs,wA⟩ :∃fs,fs=(dC f st.frames).map Ko:=⟨_,rfl⟩;have VJ:=aa wA;replace hc:bY w B fs ms (.pointer pa):=wA▸hc;have RX:LS fs:=wA▸AZ _;have yQ:Hid (∀W,Below w.heap.size w W→Calls Tryz.prog 78 #[.pointer pa,.string h.s] W fun e w'=>∃RY a d,e=.returned (.tuple #[.pointer RY,.agg #[.int .i64 a,.int .i64 d]])∧gi W h.s fs (.pointer RY) (.agg #[.int .i64 a,.int .i64 d])∧Below W.heap.size W w'):=aa fun W hW=>AN fs ms _ h.s W (hc.later hW) hs RX
 clear hw hT hx eL dJ hb4 hc RX wA;go_enter Tryz.func39,Tryz.ntmps39
 go_wp2_with fail
 have dU:=aa ((Below.refl w.heap.size w).alloc (ag _) (.cells #[.int .i64 (f:Int),.int .i64 loop,.pointer pa,.slice la ln lc] 69));have eB:=heap_alloc_new w (.cells #[.int .i64 (f:Int),.int .i64 loop,.pointer pa,.slice la ln lc] 69);have x0:=ab eB 0;have x1:=ab eB 1;have x2:=ab eB 2;have x3:=ab eB 3;replace x0:_=some (Value.int .i64 (f:Int)):=x0;replace x1:_=some (Value.int .i64 loop):=x1;replace x2:_=some (Value.pointer pa):=x2;replace x3:_=some (Value.slice la ln lc):=x3;have e0:=(dU.out.cell (p:=⟨b,0,none⟩) hbl).trans d0;have e4:=(dU.out.cell (p:=⟨bk,o+node*7+4,none⟩) gP).trans d4;have hs1:(w.alloc (.cells #[.int .i64 (f:Int),.int .i64 loop,.pointer pa,.slice la ln lc] 69)).heap.size=w.heap.size+1:=ao _ _;generalize w.alloc (.cells #[.int .i64 (f:Int),.int .i64 loop,.pointer pa,.slice la ln lc] 69)=W1 at *;have fj:=aa hs1;clear d0 d4 eB hs1;have kk:Hid (W1.cell? ⟨b,0,none⟩=some (.slice (some ⟨bk,o,none⟩) T.length c)∧W1.cell? ⟨bk,o+node*7+4,none⟩=some (.string h.s)∧W1.cell? ⟨w.heap.size,0,none⟩=some (.int .i64 (f:Int))∧W1.cell? ⟨w.heap.size,1,none⟩=some (.int .i64 loop)∧W1.cell? ⟨w.heap.size,2,none⟩=some (.pointer pa)∧W1.cell? ⟨w.heap.size,3,none⟩=some (.slice la ln lc)):=aa ⟨e0,e4,x0,x1,x2,x3⟩;have hb1:b<W1.heap.size:=(by have:=fj.out;omega)
 have iU:bk<W1.heap.size:=(by have:=fj.out;omega)
 have ee:w.heap.size<W1.heap.size:=(by have:=fj.out;omega)
 have lT:w.heap.size≤W1.heap.size:=ft ee;have Dn:b≠W1.heap.size:=jz hb1;have oW:bk≠W1.heap.size:=jz iU;have XN:w.heap.size≠W1.heap.size:=jz ee;have tp:B≤W1.heap.size:=aL ca lT;go_region_held3 (fun w'=>w'.cell? ⟨b,0,none⟩=some (.slice (some ⟨bk,o,none⟩) T.length c)∧w'.cell? ⟨bk,o+node*7+4,none⟩=some (.string h.s)∧w'.cell? ⟨w.heap.size,0,none⟩=some (.int .i64 (f:Int))∧w'.cell? ⟨w.heap.size,1,none⟩=some (.int .i64 loop)∧w'.cell? ⟨w.heap.size,2,none⟩=some (.pointer pa)∧w'.cell? ⟨w.heap.size,3,none⟩=some (.slice la ln lc))
  (first|exact kk.out|exact qp kk.out hb1 iU ee _|exact yP kk.out Dn oW XN _ _)
  (first
   | (go_at_call 78;refine(yQ.out W1.drew dU.out.drew).mono ?_;rintro e w2 ⟨RY,a,d,rfl,my,tq⟩;have B2:=aa (dx tq);have F2:=aa (my.Mp.later (dx tq));have kk:=aa (A0 kk.out hb1 iU ee (dx tq));have hb1:b<w2.heap.size:=cw hb1 B2.out.size;have iU:bk<w2.heap.size:=cw iU B2.out.size;have ee:w.heap.size<w2.heap.size:=cw ee B2.out.size;clear tq my)
   | (go_at_call 78;refine(yQ.out (W1.alloc (.cells #[.int .i64 0,.int .i64 0] 154)).drew (dU.out.alloc lT _).drew).mono ?_;rintro e w2 ⟨RY,a,d,rfl,my,tq⟩;have hbb:=iy tq;have B2:=aa (((Below.refl _ W1).alloc (ag _) (.cells #[.int .i64 0,.int .i64 0] 154)).trans (hbb.mono (by rw[ao];omega)));have F2:=aa (my.Mp.later hbb);have N2:=aa my.old;have hz2:=(hbb.block W1.heap.size (by rw[ao];omega)).trans (heap_alloc_new W1 (.cells #[.int .i64 0,.int .i64 0] 154));have q0:=gG hz2;have q1:=gH hz2;have q2:=aE hz2 0;have q3:=aE hz2 1;have Z2:=aa hz2;have kk:=aa (A0 kk.out hb1 iU ee B2.out);clear tq my hz2 hbb))
 ·have HJ:=aa (acu dU.out B2.out F2.out lT)
  generalize w2.alloc (.cells #[.int .i64 a,.int .i64 d] 154)=W5 at HJ ⊢;generalize w2.heap.size=g at HJ ⊢;clear B2 F2 yQ dU fj kk e0 e4 x0 x1 x2 x3;have j0:=HJ.out.c0;have j1:=HJ.out.c1;have ix:=HW.out.later HJ.out.below;obtain⟨qv,hl2,Kq⟩:=ix.mN;have oT:=HJ.out.lt;have Ml:=aa (HT.out.below (HJ.out.below.mono ca));have Mm:=aa (ab ix.blk 0);have Mr:B≤W5.heap.size:=aL ca HJ.out.below.size;have d2:W5.cell? ⟨b,2,none⟩=some (.slice (some ⟨ub,0,none⟩) T.length T.length):=ab ix.blk 2;obtain⟨u0,v0⟩:=bZ ix.uses (j:=node*2) (by omega)
  obtain⟨u1,v1⟩:=bZ ix.uses (j:=node*2+1) (by omega)
  have qw:=aa ix;clear ix;cases qq:fs.find? (fun x=>(x.2.2 h.s).isSome) with
  | none =>
   have hp:=HJ.out.fnd.no qq;subst hp;have HE:=aa (xo (node:=node) (line:=h.line) (VJ.out▸qq));clear qq d2 u0 v0 u1 v1;go_wp2_with fail
   refine(eA b node _ _ _ Ml.out Mm.out HX.out).mono ?_;rintro e w6 ⟨v,rfl,⟨g2,rfl⟩,h1,h2⟩;have H1:=aa h1;have H2:=aa h2;clear h1 h2;go_wp2_with fail
   go_ret
   rw[HE.out];exact iK (HJ.out.below.mono ca) Mr H2.out H1.out
  | some x =>
   obtain⟨kb,hp,hxs,hk2,wo⟩:=HJ.out.fnd.yes qq;subst hp;have HE:=aa (xp (node:=node) (line:=h.line) (VJ.out▸qq) hxs);clear qq hxs;by_cases hlt:(x.1:Int)<d
   ·have g1:decide ((x.1:Int)<d)=true:=bN hlt
    have HL:=aa hlt;clear hlt d2 u0 v0 u1 v1;go_wp2_with fail
    go_region
    go_wp2_with fail
    refine(eA b node _ _ _ (Ml.out.below (Below.refl _ _).drew) Mm.out HX.out).mono ?_;rintro e w6 ⟨v,rfl,⟨g2,rfl⟩,h1,h2⟩;have H1:=aa h1;have H2:=aa h2;clear h1 h2;go_wp2_with fail
    go_ret
    rw[HE.out,aj HL.out];exact iK (HJ.out.below.mono ca).drew Mr H2.out H1.out
   ·have g1:decide ((x.1:Int)<d)=false:=bM hlt
    have HL:=aa hlt;clear hlt;go_wp2_with fail
    go_region
    go_wp2_with fail
    go_region
    go_wp2_with fail
    go_ret
    rw[HE.out,ae (Int.not_lt.2 HL.out)];exact⟨(((HJ.out.below.mono ca).drew.setCell (p:=⟨ub,node*2,none⟩) qw.out.jh.1 _).setCell (p:=⟨ub,node*2+1,none⟩) qw.out.jh.1 _).drew,rfl,⟨_,_,(qw.out.drew.use node (4,a)).drew⟩,((Fr.af HJ.out.below).drew.trans ((lO qw.out.drew node _ _).mono (by decide))).drew⟩
 ·have HJ:=aa (acv dU.out B2.out F2.out N2.out lT Z2.out)
  generalize (w2.setCell ⟨W1.heap.size,0,none⟩ (.int .i64 a)).setCell ⟨W1.heap.size,1,none⟩ (.int .i64 d)=W5 at HJ ⊢;generalize W1.heap.size=g at HJ ⊢;clear q0 q1 q2 q3 Z2 N2 B2 F2 yQ dU fj kk e0 e4 x0 x1 x2 x3;have j0:=HJ.out.c0;have j1:=HJ.out.c1;have ix:=HW.out.later HJ.out.below;obtain⟨qv,hl2,Kq⟩:=ix.mN;have oT:=HJ.out.lt;have Ml:=aa (HT.out.below (HJ.out.below.mono ca));have Mm:=aa (ab ix.blk 0);have Mr:B≤W5.heap.size:=aL ca HJ.out.below.size;have d2:W5.cell? ⟨b,2,none⟩=some (.slice (some ⟨ub,0,none⟩) T.length T.length):=ab ix.blk 2;obtain⟨u0,v0⟩:=bZ ix.uses (j:=node*2) (by omega)
  obtain⟨u1,v1⟩:=bZ ix.uses (j:=node*2+1) (by omega)
  have qw:=aa ix;clear ix;cases qq:fs.find? (fun x=>(x.2.2 h.s).isSome) with
  | none =>
   have hp:=HJ.out.fnd.no qq;subst hp;have HE:=aa (xo (node:=node) (line:=h.line) (VJ.out▸qq));clear qq d2 u0 v0 u1 v1;go_wp2_with fail
   refine(eA b node _ _ _ Ml.out Mm.out HX.out).mono ?_;rintro e w6 ⟨v,rfl,⟨g2,rfl⟩,h1,h2⟩;have H1:=aa h1;have H2:=aa h2;clear h1 h2;go_wp2_with fail
   go_ret
   rw[HE.out];exact iK (HJ.out.below.mono ca) Mr H2.out H1.out
  | some x =>
   obtain⟨kb,hp,hxs,hk2,wo⟩:=HJ.out.fnd.yes qq;subst hp;have HE:=aa (xp (node:=node) (line:=h.line) (VJ.out▸qq) hxs);clear qq hxs;by_cases hlt:(x.1:Int)<d
   ·have g1:decide ((x.1:Int)<d)=true:=bN hlt
    have HL:=aa hlt;clear hlt d2 u0 v0 u1 v1;go_wp2_with fail
    go_region
    go_wp2_with fail
    refine(eA b node _ _ _ (Ml.out.below (Below.refl _ _).drew) Mm.out HX.out).mono ?_;rintro e w6 ⟨v,rfl,⟨g2,rfl⟩,h1,h2⟩;have H1:=aa h1;have H2:=aa h2;clear h1 h2;go_wp2_with fail
    go_ret
    rw[HE.out,aj HL.out];exact iK (HJ.out.below.mono ca).drew Mr H2.out H1.out
   ·have g1:decide ((x.1:Int)<d)=false:=bM hlt
    have HL:=aa hlt;clear hlt;go_wp2_with fail
    go_region
    go_wp2_with fail
    go_region
    go_wp2_with fail
    go_ret
    rw[HE.out,ae (Int.not_lt.2 HL.out)];exact⟨(((HJ.out.below.mono ca).drew.setCell (p:=⟨ub,node*2,none⟩) qw.out.jh.1 _).setCell (p:=⟨ub,node*2+1,none⟩) qw.out.jh.1 _).drew,rfl,⟨_,_,(qw.out.drew.use node (4,a)).drew⟩,((Fr.af HJ.out.below).drew.trans ((lO qw.out.drew node _ _).mono (by decide))).drew⟩
theorem Ie (n:jr) (iw:List jr) (s:ByteArray):jX (n::iw) s=if s=n.s then some (.int .i64 (n.i:Int)) else jX iw s:=by
 unfold jX;rw[kO];by_cases e:s=n.s
 ·subst e
  simp
 ·rw[ae e,bM fun h=>e h.symm]
theorem eT {W W':World} {m:Nat} (hg:W.grownBy W' (some m)) (hm :∃es c,W.heap[m]? = some (.map es c)) :∀(k:Nat) c (e:TypeId) fz,W.heap[k]? = some (.cells c e fz)→W'.heap[k]? = some (.cells c e fz):=fun k c e fz hk=>by
 obtain⟨es,c',hb⟩:=hm;refine(hg.block k (aM.1 hk).1 fun e'=>?_).trans hk
 injection e' with e';subst e';rw[hb] at hk;cases hk
theorem hJ {W W':World} {B e s n:Nat} {v:Value} {xs:List Value} (hk :∀(k:Nat) c (e:TypeId) fz,W.heap[k]? = some (.cells c e fz)→W'.heap[k]? = some (.cells c e fz)) (hu:W.ownsRow B e s v n xs):W'.ownsRow B e s v n xs:=by
 refine⟨hu.1,?_⟩;rcases hu.2 with hn | ⟨g,cap,cur,rfl,hB,hg,rest⟩
 ·exact .inl hn
 ·exact .inr ⟨g,cap,cur,rfl,hB,hk g _ _ _ hg,rest⟩
theorem eS.keep {W W':World} {B b:Nat} {nv:Value} {N:Nat} {st:aI} {fv:Value} {ub ob:Nat} {L:List nX} (h:eS W B b nv N st fv ub ob L) (hk :∀(k:Nat) c (e:TypeId) fz,W.heap[k]? = some (.cells c e fz)→W'.heap[k]? = some (.cells c e fz)):eS W' B b nv N st fv ub ob L :=
 ⟨hk b _ _ _ h.blk,⟨hJ hk h.fns.row,fun t ht=>hJ hk (h.fns.vars t ht),fun t ht=>hJ hk (h.fns.ch t ht),h.fns.ql,h.fns.rI⟩,h.are,hJ hk h.uses,hJ hk h.wy,h.pos⟩
theorem eS.names {W:World} {B b:Nat} {nv:Value} {N:Nat} {st:aI} {fv:Value} {ub ob:Nat} {L:List nX} (h:eS W B b nv N st fv ub ob L) (ns:List jr):eS W B b nv N { st with names:=ns} fv ub ob L:=h.on rfl rfl rfl
theorem RZ {ops:Array Oper} {rest:List Oper} {o:Oper} {a:Act} {Q:Exit→Act→World→Prop} (w:World) (n:wm) (hgd:o.guard=none) (sl y:Operand)
  (ho:o.op=.call { callee:=.builtin .append,args:=#[sl,y],argTypes:=#[40,40]}) (B:Nat) (v:Value) (ns:List wm) (hs:a.eval sl=v) (hown:w.ownsRow B 199 3 v ns.length (ns.flatMap uM)) (g:Nat) (hg:g=w.heap.size) (hy:a.eval y=.slice (some ⟨g,0,none⟩) 1 1)
  (hlen:ns.length≤1000000) (hB:B≤w.heap.size)
  (h :∀g' c' w',w'.ownsRow B 199 3 (.slice (some ⟨g',0,none⟩) (ns.length+1) c') (ns++[n]).length ((ns++[n]).flatMap uM)→rn v.ownBlock w w'→Below B w w'→(v.ownBlock=some g'∨w.heap.size≤g')→wpList Tryz.prog ops Q rest (a.put o.dst (.slice (some ⟨g',0,none⟩) (ns.length+1) c')) w') :
  wpList Tryz.prog ops Q (o::rest) a (w.alloc (.cells (uM n).toArray 199)):=by
 obtain⟨i0,mC,hz0,hz1,hz2⟩:=info_parts Hm;refine Xw w (uM n) hgd sl y 40 199 i0 _ 3 32 ho Tryz.underlying40 mC hz0 hz1 hz2 rfl (by omega) (by omega) B v ns.length _ hs hown g hg hy rfl (by intro u hu;simp[uM] at hu;rcases hu with rfl|rfl|rfl<;>rfl) hlen hB ?_
 intro g' c' w' r1 r2 r3 r4;refine h g' c' w' ?_ r2 r3 r4;rw[cb,mP,oJ,EI];exact r1
structure acw (w wr:World) (B b:Nat) (nv:Value) (N:Nat) (st s1:aI) (g n c ub ob:Nat) (L1:List nX) (lv:Value) (nl m f:Nat) (iw a:List jr):Prop where
 rs:eS wr B b nv N s1 (.slice (some ⟨g,0,none⟩) L1.length c) ub ob L1
 len:L1.length=n
 jk:cQ B ob lv nl (some m) w wr
 map:dK Tryz.prog 9 wr m (a++iw).length (jX (a++iw))
 own :∀x∈a,x.fn=f
 names:s1.names=a++st.names
 few:dP s1.fns
theorem j7 {T:List Nd} {B:Nat} {nv:Value} {ub ob:Nat} (b node f:Nat) (h:Nd) (loop:Int) (pa la:Option Addr) (lc:Nat) (l:cO) (r:List cO) (st:aI) (w:World) (hT:wu w B nv T) (hw:jG w B b nv T.length st ub ob) (hx:T[node]? = some h) (hf:f<st.fns.length) (hl:dc w B (.slice la (l::r).length lc) (l::r)) (hlf:l.fn=f) (hrl:(l::r).length≤100000) (jl:dP st.fns) (rQ:l.iw.length≤100000) (hsz :∀s∈h.names,s.size≤65536) :
  Calls Tryz.prog 75 #[.pointer (some ⟨b,0,none⟩),.int .i64 (node:Int),.agg #[.int .i64 (f:Int),.int .i64 loop,.pointer pa,.slice la (l::r).length lc]] w (aq B b nv T.length ub ob (.slice la (l::r).length lc) (l::r) st (bz node f h.line h.names st) w):=by
 obtain⟨fv,FL,hw⟩:=hw;obtain⟨⟨t1,tv,tu⟩,ht⟩:=hw.AI hf;obtain⟨g,c,rfl,Xy,oT,tj⟩:=hw.fns.form ht;have hfn:=(hw.sO ht).2;obtain⟨bk,o,tc,rfl,dH,ca,hn⟩:=hT.nodes;have iV:node<T.length:=(aJ.1 hx).1;have sQ:=hw.len;have CU:f<FL.length:=by omega
 have pU:=hT.few;have Lf:h.names.length≤20000:=(hT.small h (aV hx)).2;obtain⟨hbl,po,tm⟩:=hw.mN;obtain⟨u7,u9,eL,hst,_⟩:=hn node h hx;have c5:=eL.c5;obtain⟨NA,nc,rfl,Xz,_⟩:=id hst;obtain⟨VA,vc,VL,hvc,_⟩:=dM (hw.fns.vars _ (aV ht));simp only at VL hvc;subst VL;have d0:w.cell? ⟨b,0,none⟩=some (.slice (some ⟨bk,o,none⟩) T.length tc):=ab hw.blk 0;have d1:w.cell? ⟨b,1,none⟩=some (.slice (some ⟨g,0,none⟩) FL.length c):=ab hw.blk 1;have d2:w.cell? ⟨b,2,none⟩=some (.slice (some ⟨ub,0,none⟩) T.length T.length):=ab hw.blk 2;have e4:w.cell? ⟨g,f*6+4,none⟩=some (.slice VA t1.vars.length vc):=(tj 4 (by omega)).1
 obtain⟨u0,v0⟩:=bZ hw.uses (j:=node*2) (by omega)
 obtain⟨u1,v1⟩:=bZ hw.uses (j:=node*2+1) (by omega)
 obtain⟨ga,rfl,hgal,m1⟩ :∃ga,la=some ⟨ga,0,none⟩∧ga<w.heap.size∧w.cell? ⟨ga,r.length*2+1,none⟩=some (.map (some l.blk)):=by
  obtain⟨A,cc,he,_,hr⟩:=dM hl.row;injection he with qx _ _;subst qx;rcases hr with h0 | ⟨ga,rfl,_,h2,h3⟩
  ·simp at h0
  ·refine⟨ga,rfl,h2,?_⟩
   rw[h3 (r.length*2+1) (by rw[List.length_cons];omega)]
   have hq:(l::r).reverse[r.length]? = some l:=by simp
   exact iv yK _ r.length 1 l hq (by omega)
 have hmi:=(hl.maps l (bH ..)).1.isMap;have yD:=(hl.maps l (bH ..)).1;have hmB:=(hl.maps l (bH ..)).2;have adX:((l::r).length:Int)=(r.length:Int)+1:=by simp
 have rS:bk≠ub:=by have:=hw.jh.1;omega
 have hbu:b≠ub:=fun e=>by
  obtain⟨cs,hcs⟩:=kS hw.uses;rw[←e,hw.blk] at hcs;injection hcs with hcs;injection hcs with _ hcs;exact absurd hcs (by decide)
 have HW:=aa hw;have HT:=aa hT;have HX:=aa hx;have HST:=aa hst;have HFN:=aa hfn;have HL:=aa hl;have HMI:=aa hmi;have HML:=aa yD;have HTF:=aa ht;clear hw hT hx hst hfn ht tj hn eL hl hmi yD sQ;go_enter Tryz.func75,Tryz.ntmps75
 go_wp2_with fail
 go_region
 go_wp2_with fail
 go_region
 obtain⟨W2,hW2⟩ :∃W2,W2=(((w.setCell ⟨ub,node*2,none⟩ (.int .i64 2)).setCell ⟨ub,node*2+1,none⟩ (.int .i64 (t1.vars.length:Int))).alloc (.cells #[.int .i64 (f:Int),.int .i64 loop,.pointer pa,.slice (some ⟨ga,0,none⟩) (r.length+1) lc] 69)).drew.drew:=⟨_,rfl⟩;have hR2:=HW.out.use node (2,(t1.vars.length:Int));have hF2:Fr [140] w W2:=by rw[hW2];exact(((lO HW.out node _ _).trans (Fr.alloc _)).drew).drew
 have hB2:Below B w W2:=by rw[hW2];exact(((uR HW.out node _ _).alloc (by simp;omega) _).drew).drew
 have hR2:eS W2 B b (.slice (some ⟨bk,o,none⟩) T.length tc) T.length (st.dw node (2,(t1.vars.length:Int))) (.slice (some ⟨g,0,none⟩) FL.length c) ub ob FL:=by rw[hW2];exact((hR2.alloc _).drew).drew
 rw[←hW2];clear hW2 d0 d1 d2 e4 u0 v0 u1 v1 m1;have d0:W2.cell? ⟨b,0,none⟩=some (.slice (some ⟨bk,o,none⟩) T.length tc):=ab hR2.blk 0;have c5:=(hB2.cell (p:=⟨bk,o+node*7+5,none⟩) dH).trans c5;have lR:=aa (cQ.uQ (ob:=ob) (v:=.slice (some ⟨ga,0,none⟩) (r.length+1) lc) (n:=r.length+1) (top:=some l.blk) hF2 (by decide) hB2)
 have HM2:=aa (hF2.map HML.out);have wD:=aa hR2;clear hF2 hB2 hR2;go_wp2_with fail
 obtain⟨R,hR⟩ :∃R,R=bz node f h.line h.names st:=⟨_,rfl⟩;have HR:=aa hR;clear hR d0 c5;go_loopw [50] (fun tk wr=>∃(k:Nat) (s1:aI) (L1:List nX) (a:List jr),tk=.int .i64 (k:Int)∧k≤h.names.length∧acw w wr B b (.slice (some ⟨bk,o,none⟩) T.length tc) T.length st s1 g FL.length c ub ob L1 (.slice (some ⟨ga,0,none⟩) (r.length+1) lc) (r.length+1) l.blk f l.iw a∧a.length=k∧dO node f h.line (h.names.drop k) s1=R) (fun tk _=>h.names.length-(intOf tk).toNat)
 case atStart =>
  refine⟨0,st.dw node (2,(t1.vars.length:Int)),FL,[],rfl,bg _,⟨wD.out,rfl,lR.out,HM2.out,by simp,rfl,jl⟩,rfl,?_⟩
  rw[HR.out,oM];unfold bz;rw[HFN.out]
 case round =>
  obtain⟨k,s1,L1,a,rfl,hk,hd,hak,hgo⟩:=hrel;have hL1:=hd.len;have acx:f<L1.length:=by omega
  obtain⟨⟨y1,yv,yu⟩,hy⟩ :∃t,L1[f]? = some t:=⟨L1[f],bt acx⟩;obtain⟨g',c',oY,_,hgl1,XO⟩:=hd.rs.fns.form hy;injection oY with oY _ hcc;injection oY with oY;injection oY with oY _ _;subst oY hcc;obtain⟨VA1,vc1,VL,acy,_⟩:=dM (hd.rs.fns.vars _ (aV hy));simp only at VL acy;subst VL;have e4:wr.cell? ⟨g,f*6+4,none⟩=some (.slice VA1 y1.vars.length vc1):=(XO 4 (by omega)).1
  have z4:=(XO 4 (by omega)).2
  have aax:=(hd.rs.sO hy).2;have adY:y1.vars.length≤200:=(hd.few f y1 (hd.rs.sO hy).1).1;have aay:=aa aax;have HD:=aa hd;have VG:=aa hgo;have HY:=aa hy;clear hd hgo hy aax XO;by_cases hlt:k<h.names.length
  ·obtain⟨s,hsk⟩ :∃s,h.names[k]? = some s:=⟨h.names[k],bt hlt⟩
   have hdr:=eP hsk;have hssz:=hsz s (aV hsk);obtain⟨A',c',he,_,eD⟩:=(HST.out.below HD.out.jk.below);injection he with qx _ Ms;subst qx Ms;rcases eD with h0 | ⟨sb,so,rfl,yR,hsc⟩
   ·rw[h0] at hlt;exact absurd hlt (iF _)
   have cs:=hsc k s hsk;have uI:=aa hdr;have iM:=aa hlt;clear hsc hsk hdr;by_cases Fi:y1.vars.length=200
   ·have g1:((y1.vars.length:Int) == 200)=true:=by rw[Fi];rfl
    have HC:=aa (ab HD.out.rs.blk 0);have AM:=aa (HT.out.below HD.out.jk.below);go_wp2_with fail
    refine(eA b node _ _ _ AM.out HC.out HX.out).mono ?_;rintro e w2 ⟨v,rfl,⟨g2,rfl⟩,h1,h2⟩;have H1:=aa h1;have H2:=aa h2;clear h1 h2;go_wp2_with fail
    go_ret
    have hE:bz node f h.line h.names st=.error (11,h.line):=by
     rw[←HR.out,←VG.out,uI.out,dO,aay.out,aj (by omega)]
    rw[hE];exact⟨HD.out.jk.below.trans (H2.out.mono (aL ca HD.out.jk.below.size)),_,rfl,H1.out⟩
   ·have g1:((y1.vars.length:Int) == 200)=false:=aC.2 (by omega)
    have hBr:B≤wr.heap.size:=aL ca HD.out.jk.below.size;obtain⟨W7,hrun,hm7,hg7⟩:=HD.out.map.put (t:=192) (e:=3) Tryz.underlying9 Tryz.underlying192 (by rw[cb];unfold maxLen;omega) s (by unfold maxLen;omega) (.int .i64 (y1.vars.length:Int)) rfl
    have kY:=eT hg7 HD.out.map.isMap;have hR7:=HD.out.rs.keep kY;have VO:=HD.out.jk.trans (cQ.of_map hg7 HD.out.map.isMap hmB hBr);obtain⟨g',c',oY,_,hgl7,XP⟩:=hR7.fns.form HY.out;injection oY with oY _ hcc;injection oY with oY;injection oY with oY _ _;subst oY hcc;have e47:W7.cell? ⟨g,f*6+4,none⟩=some (.slice VA1 y1.vars.length vc1):=(XP 4 (by omega)).1
    have z47:=(XP 4 (by omega)).2
    have hB7:B≤W7.heap.size:=aL hBr hg7.size;have aaz:y1.vars.length≤1000000:=by omega
    have RH:f*6+4<L1.length*6:=by omega
    have R7:=aa hR7;have F7:=aa VO;have M7:=aa hm7;clear XP hR7 VO hm7 hg7 kY;go_wp2_with (at_builtin;refine RZ W7 ⟨s,node,false⟩ rfl _ _ rfl B (.slice VA1 y1.vars.length vc1) y1.vars rfl (R7.out.fns.vars _ (aV HY.out)) W7.heap.size rfl rfl aaz hB7 ?_;intro g8 c8 w8 r8 b8 VK n8;have RO:=aa (R7.out.LG HY.out b8 r8 (fun k hk=>by injection hk with hk;subst hk;exact n8));have Q7:=aa VK;have va:=b8.row R7.out.fns.row (fun k hk e=>ei R7.out.fns.row (R7.out.fns.vars _ (aV HY.out)) (by decide) k hk e);have e43:w8.cell? ⟨g,f*6+4,none⟩=some (.slice VA1 y1.vars.length vc1):=(World.ownsRow.cellAt va (f*6+4) RH).trans (iv qj L1 f 4 _ HY.out (by omega));have z43:=World.ownsRow.frozenAt va (f*6+4);clear r8 b8 VK n8 va)
    have HF8:=aa (F7.out.trans (cQ.uQ (ob:=ob) (v:=.slice (some ⟨ga,0,none⟩) (r.length+1) lc) (n:=r.length+1) (top:=some l.blk) RO.out.2 (by decide) (Q7.out.setCell (p:=⟨g,f*6+4,none⟩) Xy _)))
    refine⟨⟨k+1,{ s1.oQ f { y1 with vars:=y1.vars++[⟨s,node,false⟩]} with names:=⟨s,f,y1.vars.length⟩::s1.names},L1.set f ({ y1 with vars:=y1.vars++[⟨s,node,false⟩]},.slice (some ⟨g8,0,none⟩) (y1.vars.length+1) c8,yu),⟨s,f,y1.vars.length⟩::a,by go_num,iM.out,⟨?_,by rw[mo];exact hL1,HF8.out,?_,?_,by rw[iE];exact az _ HD.out.names,?_⟩,by rw[List.length_cons,hak],?_⟩,by have:=iM.out;simp[intOf];omega⟩
    ·rw[mo]
     exact RO.out.1.names _
    ·have h9:=(M7.out.ext (g:=jX (⟨s,f,y1.vars.length⟩::(a++l.iw))) fun x=>(Ie ⟨s,f,y1.vars.length⟩ (a++l.iw) x).symm).mono (m:=(⟨s,f,y1.vars.length⟩::(a++l.iw)).length) (by rw[List.length_cons];exact ag _)
     exact RO.out.2.map h9
    ·intro x hx
     rcases ba.1 hx with rfl|hx
     ·rfl
     ·exact HD.out.own x hx
    ·show dP (s1.fns.set f _)
     exact HD.out.few.set ⟨by rw[cb,mP];omega,(HD.out.few f y1 (HD.out.rs.sO HY.out).1).2⟩
    ·rw[←VG.out,uI.out]
     conv=>rhs;rw[dO,aay.out,ae (by show ¬ 200≤y1.vars.length;omega)]
  ·have rm:k=h.names.length:=by omega
   go_wp2_with fail
   go_ret
   have hE:bz node f h.line h.names st=.ok s1:=by
    rw[←HR.out,←VG.out,rm,wX,dO]
   rw[hE];exact⟨HD.out.jk.below,rfl,⟨_,_,HD.out.rs⟩,HD.out.jk,a,HD.out.names,(fun e=>by cases e),HL.out.more HD.out.jk (ag _) HD.out.map fun x hx=>(HD.out.own x hx).trans hlf.symm⟩
theorem lU {B:Nat} {a w:World} (h:Below B a w) (n:Nat):Below B a (w.drewN n):=⟨h.os,h.tape,h.output,h.size,h.block⟩
theorem Mt {ks:List Lt} {e:Nat} {x:Lt} (hx:ks[e]? = some x) (hl:rp x=true) (h:(ks.drop (e+1)).all rp=true):(ks.drop e).all rp=true:=by
 rw[drop_at hx,sJ,hl,h];rfl
theorem R9 {T:List Nd} {B:Nat} {nv:Value} (b:Nat) (kv:Value) (ks:List Lt) (tested:Bool) (fv uv ov:Value) (w:World) (hT:wu w B nv T) (hw:w.heap[b]? = some (.cells #[nv,fv,uv,ov] 64 (0,0))) (hu:gC w B kv (ks.map fun k=>(k.loc:Int))) (mD:Lt.mW T ks) (wo:ks.length≤20000) :
  Calls Tryz.prog 120 #[.pointer (some ⟨b,0,none⟩),kv,.bool tested] w fun e w'=>e=.returned (.int .i64 ((if tested then ks.length else kV ks:Nat):Int))∧Below w.heap.size w w':=by
 obtain⟨bk,o,c,rfl,dH,ca,hn⟩:=hT.nodes;obtain⟨UA,uc,rfl,Fq,hu⟩:=hu;simp only[bS] at Fq hu ⊢;have hbl:b<w.heap.size:=(aM.1 hw).1;have d0:=ab hw 0;replace d0:_=some (Value.slice (some ⟨bk,o,none⟩) T.length c):=d0;have pU:=hT.few;have HN:=aa hn;have HIN:=aa mD;have HU:=aa hu;clear hn hu hT mD hw;cases tested with
 | true =>
  go_enter Tryz.func120,Tryz.ntmps120
  go_wp2_with fail
  go_ret
  exact⟨rfl,Below.refl _ _⟩
 | false =>
  go_enter Tryz.func120,Tryz.ntmps120
  go_wp2_with fail
  go_loopw [7] (fun t wr=>∃e:Nat,t=.int .i64 (e:Int)∧e≤ks.length∧(ks.drop e).all rp=true∧Below w.heap.size w wr) (fun t _=>(intOf t).toNat)
  case atStart=>exact⟨ks.length,rfl,ag _,by simp,Below.refl _ _⟩
  case round =>
   obtain⟨e,rfl,he,hall,hb⟩:=hrel;have tt:=aa hall;have HB:=aa hb;have d0r:=(hb.cell (p:=⟨b,0,none⟩) hbl).trans d0;clear hall hb;cases e with
   | zero =>
    have g1:decide ((0:Int)<((0:Nat):Int))=false:=by decide
    go_wp2_with fail
    go_quiet (fail)
    go_wp2_with fail
    go_ret
    exact⟨by rw[(rM ks).2 tt.out];rfl,lU HB.out _⟩
   | succ e =>
    obtain⟨x,hx⟩ :∃x,ks[e]? = some x:=⟨ks[e],bt (by omega)⟩
    have g1:decide ((0:Int)<((e+1:Nat):Int))=true:=bN (by omega)
    rcases HU.out with h0 | ⟨sb,so,rfl,yR,hsc⟩
    ·exfalso
     rw[kM] at h0;rw[h0] at he;exact absurd he (by simp)
    have cs:wr.cell? ⟨sb,so+e,none⟩=some (.int .i64 (x.loc:Int)):=(HB.out.cell (p:=⟨sb,so+e,none⟩) (by show sb<_;omega)).trans (hsc e _ (by rw[ef,hx];rfl))
    obtain⟨XQ,Ig⟩:=uN HIN.out hx;have hxl:x.loc<T.length:=(aJ.1 Ig).1;obtain⟨u7,u9,eL,_,_⟩:=HN.out x.loc x.hd Ig;have ck:=(HB.out.cell (p:=⟨bk,o+x.loc*7,none⟩) (by show bk<_;omega)).trans eL.c0
    have HX:=aa hx;clear hsc hx eL XQ Ig;cases hl:rp x with
    | true =>
     have g2:(x.hd.kind == 32)=true:=hl;go_wp2_with fail
     go_quiet (fail)
     go_wp2_with fail
     exact⟨⟨e,rfl,by omega,Mt HX.out hl tt.out,lU HB.out _⟩,by simp[intOf]⟩
    | false =>
     have g2:(x.hd.kind == 32)=false:=hl;go_wp2_with fail
     go_quiet (fail)
     go_wp2_with fail
     go_ret
     exact⟨by rw[RE he tt.out (.inr ⟨x,HX.out,hl⟩)];rfl,lU HB.out _⟩
theorem Sa {fr:List fC} {f:Nat} {ks:List Lt} {rep:Bool} {n c:Nat} {s:ByteArray}:((∃j,cj ks s=some j∧j<n)∨∃x∈fr,x.loop=false∧x.fn=f∧(cj x.kids s).isSome)↔(((c,n,fD ks rep n)::(dC f fr).map Ko).find? fun x=>(x.2.2 s).isSome).isSome=true:=by
 rw[kO,LP];have h1:(fD ks rep n s).isSome=(nh ks rep n s).isSome:=by unfold fD;cases nh ks rep n s<;>rfl
 have h2:=LN (ks:=ks) (rep:=rep) (n:=n) (s:=s);dsimp only
 rw[h1];cases e:(nh ks rep n s).isSome with
 | true =>
  rw[e] at h2;simp only[Option.isSome_some,iff_true];exact .inl (h2.1 rfl)
 | false =>
  rw[e] at h2;dsimp only
  rw[ve];have h3:¬∃j,cj ks s=some j∧j<n:=fun h=>by have:=h2.2 h;cases this
  rw[Option.isSome_map];exact⟨fun h=>h.resolve_left h3,.inr⟩
theorem Mu {fr:List fC} {f n:Nat} {all r:List Lt} {x:Lt} (hk:x.hd.kind=32) (h:(∃j,cj all x.hd.s=some j∧j<n)∨∃y∈fr,y.loop=false∧y.fn=f∧(cj y.kids x.hd.s).isSome):cJ fr f all n (x::r)=some x.hd.line:=by
 rw[cJ,aj ⟨hk,h⟩]
theorem Mv {fr:List fC} {f n:Nat} {all r:List Lt} {x:Lt} (h:¬ (x.hd.kind=32∧((∃j,cj all x.hd.s=some j∧j<n)∨∃y∈fr,y.loop=false∧y.fn=f∧(cj y.kids x.hd.s).isSome))):cJ fr f all n (x::r)=cJ fr f all (n+1) r:=by
 rw[cJ,ae h]
theorem Dq {ks:List Lt} {rep:Bool} {n:Nat} {x:Lt} (hx:ks[n]? = some x) (h:rp x=false):fD ks rep (n+1)=fD ks rep n:=by
 funext s
 unfold fD;rw[uW hx];unfold mq;unfold rp at h;rw[h,Ad]
theorem xq {ks:List Lt} {rep:Bool} {n:Nat} {x:Lt} (hx:ks[n]? = some x) (h:rp x=true) (hn:¬∃j,cj ks x.hd.s=some j∧j<n) (s:ByteArray):(if s=x.hd.s then some (.agg #[.int .i64 (x.loc:Int),.int .i64 (rN ks rep n:Int)]) else fD ks rep n s)=fD ks rep (n+1) s:=by
 by_cases e:s=x.hd.s
 ·subst e
  rw[aj rfl];unfold fD;rw[Hp hx h hn];rfl
 ·rw[ae e]
  unfold fD;rw[uW hx];unfold mq;have h2:decide (x.hd.s=s)=false:=bM fun e'=>e e'.symm
  rw[h2,Bool.and_false]
theorem Ih {ks:List Lt} {rep:Bool} {n c:Nat} {l:List fC}:LS ((c,n,fD ks rep n)::l.map Ko):=by
 intro x hx s v hv;rcases ba.1 hx with rfl|hx
 ·replace hv:fD ks rep n s=some v:=hv
  unfold fD at hv;cases e:nh ks rep n s with
  | none=>rw[e] at hv;cases hv
  | some p =>
   rw[e] at hv;injection hv with hv;exact⟨_,_,hv.symm⟩
 ·exact AZ l x hx s v hv
theorem grown_of {W W':World} {m:Nat} (h:Below W.heap.size W W'):W.grownBy W' (some m):=⟨h.os,h.tape,h.output,h.size,fun k hk _=>h.block k hk⟩
theorem bY.grown {W W':World} {B m:Nat} (hg:W.grownBy W' (some m)) (hm :∃es c,W.heap[m]? = some (.map es c)) :∀{fs:List (Nat×Nat×(ByteArray→Option Value))} {ms:List Nat} {p:Value},bY W B fs ms p→m∉ms→bY W' B fs ms p
 | [],_,_,h,_=>h
 | x::fs,ms,p,h,ht=>by
  obtain⟨k',p',m',CT,rfl,rfl,h1,h2,h3,h4,h5,h6⟩:=h;have hne:m'≠m:=fun e=>ht (e▸bH ..)
  exact⟨k',p',m',CT,rfl,rfl,h1,eT hg hm k' _ _ _ h2,h3.same (hg.block m' h3.lt fun e=>hne (by injection e with e)),h4,h5,bY.grown hg hm h6 fun h=>ht (bQ _ h)⟩
theorem j8 {W W':World} {B m:Nat} (h:W.grownBy W' (some m)) (hm:B≤m) (hB:B≤W.heap.size):Below B W W':=⟨h.os,h.tape,h.output,h.size,fun k hk=>h.block k (by omega) fun e=>by injection e with e;omega⟩
def A3 (m:Nat) (ks:List Lt) (rep:Bool) (r:Option Int) (w:World) (e:Ending) (w':World):Prop :=
 w.grownBy w' (some m)∧match r with
 | none=>e=.returned .nilIface∧dK Tryz.prog 9 w' m ks.length (fD ks rep ks.length)
 | some l=>∃v,e=.returned v∧tl w' v l 9
theorem FB {ks:List Lt} {rep:Bool} {n:Nat} (h:n<ks.length):rN ks rep n=if decide ((n:Int)<((if rep then ks.length else kV ks:Nat):Int))=true then gO ks n else 0:=by
 unfold rN;cases rep with
 | true =>
  rw[aj (.inl rfl),aj (bN (by show(n:Int)<(ks.length:Int);omega))]
 | false =>
  by_cases h1:n<kV ks
  ·rw[aj (.inr h1),aj (bN (by show(n:Int)<(kV ks:Int);omega))]
  ·rw[ae (by rintro(h2|h2);cases h2;exact h1 h2),ae (by simp only[iD];show ¬ (n:Int)<(kV ks:Int);omega)]
theorem Mw {T:List Nd} {B:Nat} {nv:Value} (b kb m f:Nat) (p:Option Addr) (kv:Value) (ks:List Lt) (fr:List fC) (ms:List Nat) (rep:Bool) (fv uv ov:Value) (w:World) (hT:wu w B nv T) (hw:w.heap[b]? = some (.cells #[nv,fv,uv,ov] 64 (0,0))) (hu:gC w B kv (ks.map fun k=>(k.loc:Int))) (mD:Lt.mW T ks) (wo:ks.length≤20000)
  (hkb:w.heap[kb]? = some (.cells #[.pointer p,.map (some m),.int .i64 0] 150 (0,0))) (hm:dK Tryz.prog 9 w m 0 (fun _=>none)) (hc:oU w B (dC f fr) ms (.pointer p)) (Sb :∀a,p=some a→a.block<kb) (hmm:m∉ms) (hBk:B≤kb) (hBm:B≤m) (hs :∀x∈ks,x.hd.s.size≤65536) :
  Calls Tryz.prog 76 #[.pointer (some ⟨b,0,none⟩),.pointer (some ⟨kb,0,none⟩),kv,.bool rep] w (A3 m ks rep (cJ fr f ks 0 ks) w):=by
 obtain⟨bk,o,c,rfl,dH,ca,hn⟩:=hT.nodes;have Sc:=R9 (T:=T) (B:=B) b kv ks rep fv uv ov w hT hw hu mD wo;obtain⟨UA,uc,rfl,Fq,hu⟩:=hu;simp only[bS] at Fq hu Sc ⊢;have hbl:b<w.heap.size:=(aM.1 hw).1;have acz:kb<w.heap.size:=(aM.1 hkb).1;have pU:=hT.few;obtain⟨E,hE⟩ :∃E:Nat,E=(if rep=true then ks.length else kV ks):=⟨_,rfl⟩
 rw[←hE] at Sc;have HE0:=aa hE;clear hE;have HW:=aa hw;have HT:=aa hT;have HIN:=aa mD;have HU:=aa hu;have HKB:=aa hkb;have HM:=aa hm;have HC:=aa hc;have acA:=aa Sc;have HS:=aa hs;clear hn hu hT mD hw hkb hm hc Sc hs;go_enter Tryz.func76,Tryz.ntmps76
 go_wp2_with fail
 refine acA.out.mono ?_;rintro e w1 ⟨rfl,hb1⟩;have dU:=aa hb1;clear hb1;go_wp2_with fail
 go_loopw [10,23] (fun td tk wr=>∃n:Nat,tk=.int .i64 (n:Int)∧td=.int .i64 (gO ks n:Int)∧n≤ks.length∧w.grownBy wr (some m)∧dK Tryz.prog 9 wr m n (fD ks rep n)∧cJ fr f ks n (ks.drop n)=cJ fr f ks 0 ks) (fun _ tk _=>ks.length-(intOf tk).toNat)
 case atStart =>
  refine⟨0,rfl,by rw[AJ];rfl,bg _,grown_of dU.out,?_,by rw[oM]⟩
  exact(HM.out.same (dU.out.block m HM.out.lt)).ext fun s=>by unfold fD;rw[Ho];rfl
 case round =>
  obtain⟨n,rfl,rfl,zM,hg,hm,hr⟩:=hrel;have pq:=j8 hg hBm ca;have C7:=eT hg HM.out.isMap;have hbr:=C7 b _ _ _ HW.out;have aaA:=C7 kb _ _ _ HKB.out;have d0:=ab hbr 0;replace d0:_=some (Value.slice (some ⟨bk,o,none⟩) T.length c):=d0;have aaB:b<wr.heap.size:=cw hbl hg.size;have My:kb<wr.heap.size:=cw acz hg.size;have hdc:gO ks n≤20000:=aL (LM ks n) wo;have HG:=aa hg;have Q8:=aa hm;have HR:=aa hr;have iL:=aa pq;have oD:=aa hbr;have HKR:=aa aaA;clear hg hm hr pq hbr aaA C7;by_cases hlt:n<ks.length
  ·obtain⟨x,hx⟩ :∃x,ks[n]? = some x:=⟨ks[n],bt hlt⟩
   have hxs:=HS.out x (aV hx);rcases HU.out with h0 | ⟨sb,so,rfl,yR,hsc⟩
   ·exfalso
    rw[kM] at h0;rw[h0] at hlt;exact absurd hlt (by simp)
   have cs:wr.cell? ⟨sb,so+n,none⟩=some (.int .i64 (x.loc:Int)):=(iL.out.cell (p:=⟨sb,so+n,none⟩) yR).trans (hsc n _ (by rw[ef,hx];rfl))
   obtain⟨XQ,Ig⟩:=uN HIN.out hx;have hxl:x.loc<T.length:=(aJ.1 Ig).1;have AM:=aa (HT.out.below iL.out);obtain⟨bk2,o2,tc2,XS,_,_,vd⟩:=AM.out.nodes;injection XS with XS _ htc;injection XS with XS;injection XS with XS hto _;subst XS hto htc;obtain⟨u7,u9,eL,⟨NA,nc,wg,_⟩,⟨KA,kc,rz,_⟩⟩:=vd x.loc x.hd Ig;subst wg rz;have c0:=eL.c0;have c1:=eL.c1;have c2:=eL.c2;have c3:=eL.c3;have c4:=eL.c4;have c5:=eL.c5;have c6:=eL.c6;have hdr:=eP hx;have HXT:=aa Ig;have uI:=aa hdr;have HX:=aa hx;have iM:=aa hlt;have Mz:Hid (Calls Tryz.prog 77 #[.pointer (some ⟨b,0,none⟩),.int .i64 (x.loc:Int)] wr fun e w'=>e=.returned (.bool (isDecl x))∧wr=w'):=aa (sP b x.loc x.hd wr AM.out d0 Ig)
   clear Ig hdr hx eL vd XQ hsc;by_cases yS:x.hd.kind=32
   ·have Dr:isDecl x=false:=by unfold isDecl;rw[yS];rfl
    have tR:gO ks (n+1)=gO ks n:=by rw[uU HX.out,Dr];rfl
    have hcn:bY wr B ((0,n,fD ks rep n)::(dC f fr).map Ko) (m::ms) (.pointer (some ⟨kb,0,none⟩)):=⟨kb,p,m,ms,rfl,rfl,hBk,HKR.out,Q8.out,hBm,Sb,bY.grown HG.out HM.out.isMap HC.out hmm⟩;have HCN:=aa hcn;rw[Dr] at Mz;have HDS:=aa tR;have Sd:=aa yS;have g2:(x.hd.kind != 32)=false:=by rw[yS];rfl
    clear hcn tR Dr yS;go_wp2_with fail
    refine Mz.out.mono ?_;rintro e w2 ⟨rfl,rfl⟩;go_wp2_with fail
    obtain⟨W3,hW3⟩ :∃W3,W3=wr.alloc (.cells #[.int .i64 x.hd.kind,.int .i64 x.hd.line,.int .i64 x.hd.op,.int .i64 x.hd.num,.string x.hd.s,.slice NA x.hd.names.length nc,.slice KA x.hd.kids.length kc] 54):=⟨_,rfl⟩;rw[←hW3];have B3:Hid (Below wr.heap.size wr W3):=aa (by rw[hW3];exact(Below.refl _ _).alloc (ag _) _)
    have n4:W3.cell? ⟨wr.heap.size,4,none⟩=some (.string x.hd.s):=by rw[hW3];exact ab (heap_alloc_new _ _) 4
    have hs3:wr.heap.size<W3.heap.size:=by rw[hW3,ao];omega
    clear hW3;refine(AN _ _ _ x.hd.s W3 (HCN.out.later B3.out) (by unfold maxLen;omega) Ih).mono ?_
    rintro e w4 ⟨RY,a,d,rfl,hF,hb4⟩;have pt:=Sa (fr:=fr) (f:=f) (ks:=ks) (rep:=rep) (n:=n) (c:=0) (s:=x.hd.s);have n4:=(hb4.cell (p:=⟨wr.heap.size,4,none⟩) hs3).trans n4;have MA:=B3.out.trans (hb4.mono (ft hs3));have hw4:wr.heap.size<w4.heap.size:=cw hs3 hb4.size;have m4:=(MA.cell (p:=⟨kb,1,none⟩) My).trans (ab HKR.out 1);replace m4:_=some (Value.map (some m)):=m4;have B4:=aa MA;clear MA hb4;cases qq:((0,n,fD ks rep n)::(dC f fr).map Ko).find? (fun y=>(y.2.2 x.hd.s).isSome) with
    | some y =>
     obtain⟨k2,hp,_,_,_⟩:=hF.yes qq;subst hp;rw[qq] at pt;have HE:Hid (cJ fr f ks 0 ks=some x.hd.line):=aa (by rw[←HR.out,uI.out,Mu Sd.out (pt.2 rfl)])
     have Ml:=aa ((AM.out.below (B4.out.mono (aL ca HG.out.size))).below ((Below.refl B w4).alloc (aL (aL ca HG.out.size) B4.out.size) (.cells #[.int .i64 a,.int .i64 d] 154)));have Mm:=aa (((Below.refl w4.heap.size w4).alloc (ag _) (.cells #[.int .i64 a,.int .i64 d] 154)).cell (p:=⟨b,0,none⟩) (cw aaB B4.out.size) |>.trans ((B4.out.cell (p:=⟨b,0,none⟩) aaB).trans d0));clear hF qq pt;go_wp2_with fail
     refine(eA b x.loc _ _ _ Ml.out Mm.out HXT.out).mono ?_;rintro e w6 ⟨v,rfl,⟨g2,rfl⟩,h1,h2⟩;have H1:=aa h1;have H2:=aa h2;clear h1 h2;go_wp2_with fail
     go_ret
     rw[HE.out];exact⟨HG.out.trans ((grown_of B4.out).trans ((World.grownBy_alloc _ _ _).trans (grown_of H2.out))),_,rfl,H1.out⟩
    | none =>
     have hp:=hF.no qq;subst hp;rw[qq] at pt;have A4:¬ ((∃j,cj ks x.hd.s=some j∧j<n)∨∃y∈fr,y.loop=false∧y.fn=f∧(cj y.kids x.hd.s).isSome):=fun h=>by have:=pt.1 h;cases this
     have HE:Hid (cJ fr f ks (n+1) (ks.drop (n+1))=cJ fr f ks 0 ks):=aa (by rw[←HR.out,uI.out,Mv fun h=>A4 h.2])
     have LW:Hid (¬∃j,cj ks x.hd.s=some j∧j<n):=aa fun h=>A4 (.inl h)
     clear hF qq pt A4;by_cases mD:n<E
     ·have g3:decide ((n:Int)<(E:Int))=true:=bN (by omega)
      go_wp2_with fail
      obtain⟨W5,Se⟩ :∃W5,W5=(w4.alloc (.cells #[.int .i64 a,.int .i64 d] 154)).alloc (.cells #[.int .i64 (x.loc:Int),.int .i64 (gO ks n:Int)] 154):=⟨_,rfl⟩;rw[←Se];have b5:Below w4.heap.size w4 W5:=by rw[Se];exact Below.two _ _
      have XT:W5.heap[w4.heap.size+1]? = some (.cells #[.int .i64 (x.loc:Int),.int .i64 (gO ks n:Int)] 154 (0,0)):=by
       rw[Se];have:=heap_alloc_new (w4.alloc (.cells #[.int .i64 a,.int .i64 d] 154)) (.cells #[.int .i64 (x.loc:Int),.int .i64 (gO ks n:Int)] 154);rwa[ao] at this
      have l0:=gG XT;have l1:=gH XT;clear Se XT;have n5:=(b5.cell (p:=⟨wr.heap.size,4,none⟩) hw4).trans n4;have m5:=(b5.cell (p:=⟨kb,1,none⟩) (cw My B4.out.size)).trans m4;have pV:=B4.out.trans (b5.mono B4.out.size);have hM5:dK Tryz.prog 9 W5.drew m n (fD ks rep n):=Q8.out.same (pV.block m Q8.out.lt);obtain⟨W6,hrun,hm6,VP⟩:=hM5.put (t:=148) (e:=154) Tryz.underlying9 Tryz.underlying148 (by unfold maxLen;omega) x.hd.s (by unfold maxLen;omega) (.agg #[.int .i64 (x.loc:Int),.int .i64 (gO ks n:Int)]) rfl
      have Sf:rp x=true:=bN Sd.out;have hD:(rN ks rep n:Int)=(gO ks n:Int):=by
       rw[FB iM.out,←HE0.out];rw[g3];rfl
      have HG6:=aa (HG.out.trans ((grown_of (m:=m) pV.drew).trans VP));have HM6:Hid (dK Tryz.prog 9 W6 m (n+1) (fD ks rep (n+1))):=aa (hm6.ext fun s=>by have:=xq (rep:=rep) HX.out Sf LW.out s;rw[hD] at this;exact this)
      clear hm6 VP pV b5 hM5 Sf hD n4 m4 c0 c1 c2 c3 c4 c5 c6 cs d0;go_region
      go_wp2_with fail
      exact⟨⟨n+1,by go_num,by rw[HDS.out],iM.out,HG6.out,HM6.out,HE.out⟩,by have:=iM.out;simp[intOf];omega⟩
     ·have g3:decide ((n:Int)<(E:Int))=false:=bM (by omega)
      go_wp2_with fail
      obtain⟨W5,Se⟩ :∃W5,W5=(w4.alloc (.cells #[.int .i64 a,.int .i64 d] 154)).alloc (.cells #[.int .i64 (x.loc:Int),.int .i64 0] 154):=⟨_,rfl⟩;rw[←Se];have b5:Below w4.heap.size w4 W5:=by rw[Se];exact Below.two _ _
      have XT:W5.heap[w4.heap.size+1]? = some (.cells #[.int .i64 (x.loc:Int),.int .i64 0] 154 (0,0)):=by
       rw[Se];have:=heap_alloc_new (w4.alloc (.cells #[.int .i64 a,.int .i64 d] 154)) (.cells #[.int .i64 (x.loc:Int),.int .i64 0] 154);rwa[ao] at this
      have l0:=gG XT;have l1:=gH XT;clear Se XT;have n5:=(b5.cell (p:=⟨wr.heap.size,4,none⟩) hw4).trans n4;have m5:=(b5.cell (p:=⟨kb,1,none⟩) (cw My B4.out.size)).trans m4;have pV:=B4.out.trans (b5.mono B4.out.size);have hM5:dK Tryz.prog 9 W5.drew m n (fD ks rep n):=Q8.out.same (pV.block m Q8.out.lt);obtain⟨W6,hrun,hm6,VP⟩:=hM5.put (t:=148) (e:=154) Tryz.underlying9 Tryz.underlying148 (by unfold maxLen;omega) x.hd.s (by unfold maxLen;omega) (.agg #[.int .i64 (x.loc:Int),.int .i64 0]) rfl
      have Sf:rp x=true:=bN Sd.out;have hD:(rN ks rep n:Int)=0:=by
       rw[FB iM.out,←HE0.out];rw[g3];rfl
      have HG6:=aa (HG.out.trans ((grown_of (m:=m) pV.drew).trans VP));have HM6:Hid (dK Tryz.prog 9 W6 m (n+1) (fD ks rep (n+1))):=aa (hm6.ext fun s=>by have:=xq (rep:=rep) HX.out Sf LW.out s;rw[hD] at this;exact this)
      clear hm6 VP pV b5 hM5 Sf hD n4 m4 c0 c1 c2 c3 c4 c5 c6 cs d0;go_region
      go_wp2_with fail
      exact⟨⟨n+1,by go_num,by rw[HDS.out],iM.out,HG6.out,HM6.out,HE.out⟩,by have:=iM.out;simp[intOf];omega⟩
   ·have hl0:rp x=false:=bM yS
    have HWO:=aa (Dq (rep:=rep) HX.out hl0);have HE:Hid (cJ fr f ks (n+1) (ks.drop (n+1))=cJ fr f ks 0 ks):=aa (by rw[←HR.out,uI.out,Mv fun h=>yS h.1])
    have g2:(x.hd.kind != 32)=true:=oO.2 yS;have tR:=uU HX.out;have Sd:=aa yS;clear yS hl0;cases Dr:isDecl x with
    | true =>
     rw[Dr] at Mz tR;replace tR:gO ks (n+1)=gO ks n+1:=tR;have HDS:=aa tR;clear tR Dr;go_wp2_with fail
     refine Mz.out.mono ?_;rintro e w2 ⟨rfl,rfl⟩;go_wp2_with fail
     exact⟨⟨n+1,by go_num,by rw[HDS.out];go_num,iM.out,HG.out.trans (World.grownBy_alloc _ _ _),by rw[HWO.out];exact(Q8.out.same ((World.grownBy_alloc wr _ none).block m Q8.out.lt (by simp))).mono (iG n),HE.out⟩,by have:=iM.out;simp[intOf];omega⟩
    | false =>
     rw[Dr] at Mz tR;replace tR:gO ks (n+1)=gO ks n:=tR;have HDS:=aa tR;clear tR Dr;go_wp2_with fail
     refine Mz.out.mono ?_;rintro e w2 ⟨rfl,rfl⟩;go_wp2_with fail
     exact⟨⟨n+1,by go_num,by rw[HDS.out],iM.out,HG.out.trans (World.grownBy_alloc _ _ _),by rw[HWO.out];exact(Q8.out.same ((World.grownBy_alloc wr _ none).block m Q8.out.lt (by simp))).mono (iG n),HE.out⟩,by have:=iM.out;simp[intOf];omega⟩
  ·have rm:n=ks.length:=by omega
   go_wp2_with fail
   go_ret
   have hE:cJ fr f ks 0 ks=none:=by
    rw[←HR.out,rm,wX,cJ]
   rw[hE];subst rm;exact⟨HG.out,rfl,Q8.out⟩
theorem FC {α:Type} {L:List α} {x t:α} {i:Nat} (h:(L++[x])[i]? = some t):L[i]? = some t∨(i=L.length∧t=x):=by
 by_cases hi:i<L.length
 ·rw[kL hi] at h
  exact .inl h
 ·rw[zV (by omega)] at h
  have:=(aJ.1 h).1;rw[mP] at this;obtain h0:i-L.length=0:=by omega
  rw[h0] at h;injection h with h;exact .inr ⟨by omega,h.symm⟩
theorem A7 {L:List nX} {x:nX} {p:nX→Value} (h :∀(i j:Nat) t u,i≠j→L[i]? = some t→L[j]? = some u→∀g,(p t).ownBlock=some g→(p u).ownBlock≠some g) (hx:(p x).ownBlock=none) :∀(i j:Nat) t u,i≠j→(L++[x])[i]? = some t→(L++[x])[j]? = some u→∀g,(p t).ownBlock=some g→(p u).ownBlock≠some g:=by
 intro i j t u wj hi hj g hg;rcases FC hj with hj | ⟨hj,rfl⟩
 ·rcases FC hi with hi | ⟨hi,rfl⟩
  ·exact h i j t u wj hi hj g hg
  ·rw[hx] at hg;cases hg
 ·rw[hx];intro e;cases e
theorem eS.Sg {W W1:World} {B b:Nat} {nv:Value} {N:Nat} {st:aI} {fv:Value} {ub ob:Nat} {L:List nX} (h:eS W B b nv N st fv ub ob L) (hb:rn fv.ownBlock W W1) {x:dm} (hv:x.vars=[]) (hu:x.ch=[]) {fv':Value} (hr:W1.ownsRow B 43 6 fv' (L++[(x,Value.slice none 0 0,Value.slice none 0 0)]).length ((L++[(x,Value.slice none 0 0,Value.slice none 0 0)]).flatMap Rx)) :
  eS (W1.setCell ⟨b,1,none⟩ fv') B b nv N { st with fns:=st.fns++[x]} fv' ub ob (L++[(x,Value.slice none 0 0,Value.slice none 0 0)])∧Fr [43,64] W (W1.setCell ⟨b,1,none⟩ fv'):=by
 have ho:=rn.da h.fns.row hb;have hblk:=ho.2 b _ _ _ h.blk (by decide)
 have Hl:=Km.set hblk 1 fv';refine⟨⟨bE hblk 1 fv',⟨da hr Hl (by decide),fun t ht=>?_,fun t ht=>?_,A7 (p:=fun t=>t.2.1) h.fns.ql rfl,A7 (p:=fun t=>t.2.2) h.fns.rI rfl⟩,by rw[kN,h.are];rfl,kT (kT h.uses ho (by decide)) Hl (by decide),kT (kT h.wy ho (by decide)) Hl (by decide),h.pos⟩,((Fr.but h.fns.row (E:=[43]) (by decide) hb).mono (by decide)).trans ((Fr.set (E:=[64]) hblk (by decide) _ _).mono (by decide))⟩
 ·rcases cU.1 ht with ht|ht
  ·exact da (da (h.fns.vars t ht) ho (by decide)) Hl (by decide)
  ·obtain rfl:=bR.1 ht
   show World.ownsRow _ B _ 3 (.slice none 0 0) x.vars.length (x.vars.flatMap uM)
   rw[hv];exact World.ownsRow_nil _ _ _ _
 ·rcases cU.1 ht with ht|ht
  ·exact da (da (h.fns.ch t ht) ho (by decide)) Hl (by decide)
  ·obtain rfl:=bR.1 ht
   show World.ownsRow _ B _ 2 (.slice none 0 0) x.ch.length (x.ch.flatMap Kn)
   rw[hu];exact World.ownsRow_nil _ _ _ _
theorem MB {ops:Array Oper} {o:Oper} {a:Act} {K:Act→World→Prop} {Q:Exit→Act→World→Prop} {E:Prop} (w0 w1:World) (n:nX) (hgd:o.guard=none) (sl y:Operand)
  (ho:o.op=.call { callee:=.builtin .append,args:=#[sl,y],argTypes:=#[32,32]}) (B:Nat) (v:Value) (ns:List nX) (hs:a.eval sl=v) (hown:w0.ownsRow B 43 6 v ns.length (ns.flatMap Rx)) (ee :∀(i:Nat),i<w0.heap.size→w1.heap[i]? = w0.heap[i]?) (g:Nat) (hg:g=w0.heap.size) (hy:a.eval y=.slice (some ⟨g,0,none⟩) 1 1)
  (hcell:w1.heap[g]? = some (.cells (Rx n).toArray 43 (0,0))) (h1c:n.2.1=.slice none 0 0∧n.2.2=.slice none 0 0) (hlen:ns.length≤1000000) (hB:B≤w0.heap.size) (hle:w0.heap.size≤w1.heap.size) (Xv:w1.os=w0.os∧w1.tape=w0.tape∧w1.output=w0.output)
  (h :∀g' c' w',w'.ownsRow B 43 6 (.slice (some ⟨g',0,none⟩) (ns.length+1) c') (ns++[n]).length ((ns++[n]).flatMap Rx)→rn v.ownBlock w0 w'→Below B w0 w'→K (a.put o.dst (.slice (some ⟨g',0,none⟩) (ns.length+1) c')) w') :
  if Region.wanted o (yielded ops a.tmps)=true then Oper.wp Tryz.prog o a w1 K Q else E:=by
 obtain⟨i0,mC,hz0,hz1,hz2⟩:=info_parts LI;refine AF w0 w1 (Rx n) hgd sl y 32 43 i0 _ 6 80 ho Tryz.underlying32 mC hz0 hz1 hz2 rfl (by omega) (by omega) B v ns.length _ hs hown ee g hg hy hcell rfl (by intro u hu;simp[Rx,h1c] at hu;rcases hu with rfl|rfl|rfl|rfl|rfl<;>rfl) hlen hB hle Xv ?_
 intro g' c' w' r1 r2 r3 _;refine h g' c' w' ?_ r2 r3;rw[cb,mP,oJ,EI];exact r1
def xt (B b:Nat) (nv:Value) (N ub ob:Nat) (st:aI) (x:dm) (lv:Value) (w:World) (e:Ending) (w':World):Prop :=
 e=.returned (.agg #[.int .i64 (st.fns.length:Int),.int .i64 (-1),.pointer none,lv])∧jG w' B b nv N { st with fns:=st.fns++[x]} ub ob∧Below B w w'∧Fr [43,64] w w'
theorem nm (W:World) (r:Nat) (a c d e:Value) (k:Nat) (hk:k≠r):((((W.setCell ⟨r,0,none⟩ a).setCell ⟨r,1,none⟩ c).setCell ⟨r,2,none⟩ d).setCell ⟨r,3,none⟩ e).heap[k]? = W.heap[k]?:=by
 rw[Below.heap_setCell _ _ _ k hk,Below.heap_setCell _ _ _ k hk,Below.heap_setCell _ _ _ k hk,Below.heap_setCell _ _ _ k hk]
theorem xu {B:Nat} {nv:Value} {N ub ob:Nat} (b:Nat) (x:dm) (la:Option Addr) (ln lc:Nat) (st:aI) (w:World) (hw:jG w B b nv N st ub ob) (hv:x.vars=[]) (hu:x.ch=[]) (CU:st.fns.length≤100000) :
  Calls Tryz.prog 19 #[.pointer (some ⟨b,0,none⟩),.agg #[.int .i64 (x.node:Int),.int .i64 x.parent,.int .i64 (x.params:Int),.bool x.many,.slice none 0 0,.slice none 0 0],.slice la ln lc] w (xt B b nv N ub ob st x (.slice la ln lc) w):=by
 obtain⟨fv,L,hw⟩:=hw;obtain⟨hbl,po,tm⟩:=hw.mN;have hBb:B≤b:=hw.pos;obtain⟨FA,fc,Fb,hfc,_⟩:=dM hw.fns.row;subst Fb;have sQ:L.length=st.fns.length:=hw.len;have HW:=aa hw;have HV:=aa hv;have HU:=aa hu;unfold xt;rw[←sQ] at CU ⊢;have HLl:=aa sQ;clear hw hv hu sQ;obtain⟨W1,hW1⟩ :∃W1,W1=(w.alloc (.cells #[.int .i64 (x.node:Int),.int .i64 x.parent,.int .i64 (x.params:Int),.bool x.many,.slice none 0 0,.slice none 0 0] 43)).alloc (.cells #[.int .i64 0,.int .i64 0,.pointer none,.slice none 0 0] 69):=⟨_,rfl⟩;have dU:Hid (Below w.heap.size w W1):=aa (by rw[hW1];exact Below.two _ _)
 have fj:Hid (W1.heap.size=w.heap.size+1+1):=aa (by rw[hW1,ao,ao])
 have eB:W1.heap[w.heap.size]? = some (.cells #[.int .i64 (x.node:Int),.int .i64 x.parent,.int .i64 (x.params:Int),.bool x.many,.slice none 0 0,.slice none 0 0] 43 (0,0)):=by
  rw[hW1];exact(Below.heap_alloc _ _ _ (by rw[ao];omega)).trans (heap_alloc_new w _)
 have MC:W1.heap[w.heap.size+1]? = some (.cells #[.int .i64 0,.int .i64 0,.pointer none,.slice none 0 0] 69 (0,0)):=by
  rw[hW1];have:=heap_alloc_new (w.alloc (.cells #[.int .i64 (x.node:Int),.int .i64 x.parent,.int .i64 (x.params:Int),.bool x.many,.slice none 0 0,.slice none 0 0] 43)) (.cells #[.int .i64 0,.int .i64 0,.pointer none,.slice none 0 0] 69);rwa[ao] at this
 have x0:W1.cell? ⟨w.heap.size,0,none⟩=some (.int .i64 (x.node:Int)):=ab eB 0;have x1:W1.cell? ⟨w.heap.size,1,none⟩=some (.int .i64 x.parent):=ab eB 1;have x2:W1.cell? ⟨w.heap.size,2,none⟩=some (.int .i64 (x.params:Int)):=ab eB 2;have x3:W1.cell? ⟨w.heap.size,3,none⟩=some (.bool x.many):=ab eB 3;have x4:W1.cell? ⟨w.heap.size,4,none⟩=some (.slice none 0 0):=ab eB 4;have x5:W1.cell? ⟨w.heap.size,5,none⟩=some (.slice none 0 0):=ab eB 5;have HPS:=aa MC;have ji:=aa hW1;have np:=aa (HW.out.later dU.out);have d1:W1.cell? ⟨b,1,none⟩=some (.slice FA L.length fc):=ab np.out.blk 1;clear eB MC hW1;go_enter Tryz.func19,Tryz.ntmps19
 go_wp2_with fail
 rw[←ji.out];clear ji;have hb1:b<W1.heap.size:=by have:=fj.out;omega
 have hw1l:w.heap.size<W1.heap.size:=by have:=fj.out;omega
 have hp1l:w.heap.size+1<W1.heap.size:=by have:=fj.out;omega
 have hB1:B≤W1.heap.size:=by have:=np.out.mN.1;omega
 have ca:B≤w.heap.size:=by omega
 have HZ:Hid ((W1.alloc (.cells #[.int .i64 (x.node:Int),.int .i64 x.parent,.int .i64 (x.params:Int),.bool x.many,.slice none 0 0,.slice none 0 0] 43)).drew.heap[W1.heap.size]? = some (.cells #[.int .i64 (x.node:Int),.int .i64 x.parent,.int .i64 (x.params:Int),.bool x.many,.slice none 0 0,.slice none 0 0] 43 (0,0))):=aa (heap_alloc_new W1 _);have d1b:(W1.alloc (.cells #[.int .i64 (x.node:Int),.int .i64 x.parent,.int .i64 (x.params:Int),.bool x.many,.slice none 0 0,.slice none 0 0] 43)).cell? ⟨b,1,none⟩=some (.slice FA L.length fc):=(Below.cell (B:=W1.heap.size) ((Below.refl _ _).alloc (ag _) _) (p:=⟨b,1,none⟩) hb1).trans d1;go_region_law ((refine MB W1 _ (x,.slice none 0 0,.slice none 0 0) (by rfl) _ _ (by rfl) B (.slice FA L.length fc) L (by rfl) np.out.fns.row (fun i hi=>Below.heap_alloc W1 _ i hi) W1.heap.size rfl (by rfl) HZ.out ⟨rfl,rfl⟩ (by omega) hB1 (by simp[World.drew]) ⟨rfl,rfl,rfl⟩ ?_;intro g6 c6 w6 r6 b6 bl6;have XU:=rn.da np.out.fns.row b6;have MD:=XU.2 b _ _ _ np.out.blk (by decide);have aaC:=XU.2 (w.heap.size+1) _ _ _ HPS.out (by decide);have d16:=ab MD 1;have Q9:=aE MD 1;have R6:=aa r6;have B6:=aa b6;have BL6:=aa bl6;have P6:=aa aaC;have S6:=aa b6.1;clear r6 b6 bl6 MD XU aaC))
 all_goals
  have HQ:=np.out.Sg B6.out (x:=x) HV.out HU.out R6.out;have hBl:=BL6.out.setCell (p:=⟨b,1,none⟩) hBb (.slice (some ⟨g6,0,none⟩) (L.length+1) c6);have ME:=(Below.heap_setCell w6 ⟨b,1,none⟩ (.slice (some ⟨g6,0,none⟩) (L.length+1) c6) (w.heap.size+1) (by show w.heap.size+1≠b;omega)).trans P6.out
  generalize w6.setCell ⟨b,1,none⟩ (.slice (some ⟨g6,0,none⟩) (L.length+1) c6)=W7 at HQ hBl ME ⊢;obtain⟨HQ1,HQ2⟩:=HQ;have e1:W7.cell? ⟨b,1,none⟩=some (.slice (some ⟨g6,0,none⟩) (L.length+1) c6):=ab HQ1.blk 1;have y0:=aE ME 0;have y1:=aE ME 1;have y2:=aE ME 2;have y3:=aE ME 3;have z0:W7.cell? ⟨w.heap.size+1,0,none⟩=some (.int .i64 0):=ab ME 0;have z1:W7.cell? ⟨w.heap.size+1,1,none⟩=some (.int .i64 0):=ab ME 1;have z2:W7.cell? ⟨w.heap.size+1,2,none⟩=some (.pointer none):=ab ME 2;have z3:W7.cell? ⟨w.heap.size+1,3,none⟩=some (.slice none 0 0):=ab ME 3;have Q1:=aa HQ1;have Q2:=aa HQ2;have Q3:=aa hBl;have P7:=aa ME;clear HQ1 HQ2 hBl ME d16 Q9 R6 B6 BL6 P6 S6 x0 x1 x2 x3 x4 x5 d1 d1b HZ HPS;go_wp2_with fail
  have k7:wc W7 (w.heap.size+1) 69:=⟨_,_,P7.out⟩;refine bodyPost_ret (v:=.agg #[.int .i64 (L.length:Int),.int .i64 (-1),.pointer none,.slice la ln lc]) (by simp[results,Tryz.results19,go_sem,z0,z1,z2,z3]) rfl ⟨rfl,⟨_,_,Q1.out.fr (E:=[69]) ((k7.fr (by decide) _ _).trans (((k7.set _ _ _).fr (by decide) _ _).trans ((((k7.set _ _ _).set _ _ _).fr (by decide) _ _).trans ((((k7.set _ _ _).set _ _ _).set _ _ _).fr (by decide) _ _)))) (by decide)⟩,?_,?_⟩
  ·exact((((((dU.out.mono ca).trans Q3.out).setCell (p:=⟨w.heap.size+1,0,none⟩) (by show B≤w.heap.size+1;omega) _).setCell (p:=⟨w.heap.size+1,1,none⟩) (by show B≤w.heap.size+1;omega) _).setCell (p:=⟨w.heap.size+1,2,none⟩) (by show B≤w.heap.size+1;omega) _).setCell (p:=⟨w.heap.size+1,3,none⟩) (by show B≤w.heap.size+1;omega) _)
  ·exact((Fr.af dU.out).trans Q2.out).past (fun k hk=>nm W7 _ _ _ _ _ k (by omega)) (by simp[World.setCell])
end Go.Proofs.YtodmcdfeldkocaaGreatDoor
namespace Go.Proofs.YtodmcdfeldkocaaGreatDoor
open Go.RowKit
theorem Ii {k n:Int} {kk:List Int} (h:qh k n kk) (h1:1≤k) (h2:k≤32) :∀a∈kk,(1≤a∧a≤32)∧(k≠18→a≠19∧a≠28):=by
 intro a ha;have ex :∀{a},tM a→(1≤a∧a≤32)∧(k≠18→a≠19∧a≠28):=fun{a} h=>by unfold tM at h;omega
 have key:k=1∨k=2∨k=3∨k=4∨k=5∨k=6∨k=7∨k=8∨k=9∨k=10∨k=11∨k=12∨k=13∨k=14∨k=15∨k=16∨k=17∨k=18∨k=19∨k=20∨k=21∨k=22∨k=23∨k=24∨k=25∨k=26∨k=27∨k=28∨k=29∨k=30∨k=31∨k=32:=by omega
 by_cases c1:k=1∨k=2∨k=3∨k=4∨k=5∨k=6∨k=7∨k=30∨k=31∨k=32
 ·rw[h.none c1] at ha;cases ha
 by_cases c2:k=8∨k=12∨k=17
 ·obtain⟨x,y,e,hx,hy⟩:=h.two c2
  rw[e] at ha;simp only[ba,oL,oP] at ha;rcases ha with rfl|rfl
  ·exact ex hx
  ·exact ex hy
 by_cases c3:k=9∨k=10
 ·exact ex ((h.call c3).2 a ha)
 by_cases c4:k=11∨k=22
 ·rw[h.body c4,bR] at ha
  omega
 by_cases c5:k=13∨k=14∨k=16
 ·obtain⟨x,e,hx⟩:=h.one c5
  rw[e,bR] at ha;exact ex (ha▸hx)
 by_cases c6:k=15
 ·have:=h.items c6 a ha
  omega
 by_cases c7:k=18
 ·obtain⟨l,r,e,hl,hr⟩:=h.block c7
  rw[e,cU] at ha;refine⟨?_,fun h=>absurd c7 h⟩
  rcases ha with ha|ha
  ·have:=hl a ha
   unfold StK at this;omega
  ·rcases hr with rfl|rfl
   ·cases ha
   ·rw[bR] at ha;omega
 by_cases c8:k=19∨k=29
 ·exact ex (h.list c8 a ha)
 by_cases c9:k=20
 ·obtain⟨l,r,e,hl,_,_,hr⟩:=h.assign c9
  rw[e,cU] at ha;rcases ha with ha|ha
  ·have:=hl a ha;omega
  ·exact ex (hr a ha)
 by_cases c10:k=21
 ·obtain⟨x,e,hx⟩:=h.Xr c10
  rw[e,bR] at ha;omega
 by_cases c11:k=23
 ·obtain⟨x,e,hx⟩:=h.Xs c11
  rw[e] at ha;simp only[ba,oL,oP] at ha;rcases ha with rfl|rfl
  ·exact ex hx
  ·omega
 by_cases c12:k=24
 ·obtain⟨x,e,hx⟩:=h.Fj c12
  rw[e] at ha;simp only[ba,oL,oP] at ha;rcases ha with rfl|rfl
  ·omega
  ·exact ex hx
 by_cases c13:k=25
 ·obtain⟨ps,r,e,_,hp,hr⟩:=h.if_ c13
  rw[e,cU] at ha;rcases ha with ha|ha
  ·obtain⟨p,jV,oR⟩:=mS.1 ha
   have:=hp p jV;simp only[ba,oL,oP] at oR;rcases oR with rfl|rfl
   ·exact ex this.1
   ·omega
  ·rcases hr with rfl|rfl
   ·cases ha
   ·rw[bR] at ha;omega
 by_cases c14:k=26
 ·obtain⟨l,e,_,hl⟩:=h.for_ c14
  rw[e,cU,bR] at ha;rcases ha with ha|ha
  ·exact ex (hl a ha)
  ·omega
 by_cases c15:k=27
 ·obtain⟨l,e,_,hl⟩:=h.each c15
  rw[e,cU,bR] at ha;rcases ha with ha|ha
  ·exact ex (hl a ha)
  ·omega
 by_cases c16:k=28
 ·rw[h.func c16,bR] at ha
  omega
 omega
structure gW (T:List Nd) (t:Lt):Prop where
 yT:Lt.In T t
 form:t.uL
 wf:t.Wf
 nodup:t.dr.Nodup
 kind:1≤t.hd.kind∧t.hd.kind≤32
structure fE (T:List Nd) (ks:List Lt):Prop where
 yT:Lt.mW T ks
 form:Lt.iu ks
 wf:Lt.yC ks
 nodup:(Lt.aR ks).Nodup
 kind :∀k∈ks,1≤k.hd.kind∧k.hd.kind≤32
theorem gW.sub {T:List Nd} {t:Lt} (h:gW T t):fE T t.sub∧(t.hd.kind≠18→∀k∈t.sub,Still k)∧qh t.hd.kind t.hd.num (jE t.sub):=by
 obtain⟨i,g,ks⟩:=t;obtain⟨h1,h2,h3,h4,h5⟩:=h;unfold Lt.In at h1;unfold Lt.uL at h2;unfold Lt.Wf at h3;rw[Lt.dr,jf] at h4;have hk:=Ii h2.1 h5.1 h5.2;have key :∀k∈ks,(1≤k.hd.kind∧k.hd.kind≤32)∧(g.kind≠18→k.hd.kind≠19∧k.hd.kind≠28):=fun k E6=>hk _ (j3 E6)
 exact⟨⟨h1.2.2,h2.2,h3.2,h4.2,fun k hk=>(key k hk).1⟩,fun hne k hk=>(key k hk).2 hne,h2.1⟩
theorem fE.cons {T:List Nd} {k:Lt} {ks:List Lt} (h:fE T (k::ks)):gW T k∧fE T ks:=by
 obtain⟨h1,h2,h3,h4,h5⟩:=h;unfold Lt.mW at h1;unfold Lt.iu at h2;unfold Lt.yC at h3;rw[Lt.aR,oK] at h4;exact⟨⟨h1.1,h2.1,h3.1,h4.1,h5 k (bH ..)⟩,⟨h1.2,h2.2,h3.2,h4.2.1,fun x hx=>h5 x (bQ _ hx)⟩⟩
theorem fE.at_ {T:List Nd} :∀{ks:List Lt},fE T ks→∀k∈ks,gW T k
 | x::ks,h,k,hk=>by
  rcases ba.1 hk with rfl|hk
  ·exact h.cons.1
  ·exact h.cons.2.at_ k hk
theorem fE.quiet {T:List Nd} :∀{ks:List Lt},fE T ks→Lt.lP ks
 | [],_=>by unfold Lt.lP;trivial
 | .mk i g l::ks,h=>by
  have h1:=h.cons.1.sub;have h2:fE T l:=h1.1;unfold Lt.lP Lt.Quiet;exact⟨⟨fun hne=>h1.2.1 hne.2,fE.quiet (ks:=l) h2⟩,fE.quiet (ks:=ks) h.cons.2⟩
def HdF (f:Nat) (L:List cO):Prop:=∀l r,L=l::r→l.fn=f
theorem HdF.grow {f:Nat} {L:List cO} (h:HdF f L) (a:List jr):HdF f (grow a L):=by
 intro l r e;cases L with
 | nil=>cases e
 | cons x y =>
  injection e with e _;rw[←e];exact h x y rfl
structure eU (T:List Nd) (B b:Nat) (nv:Value) (ub ob f:Nat) (pa:Option Addr) (lv:Value) (ms:List Nat) (L:List cO) (st:aI) (w:World) (a s:Nat):Prop where
 fA:wu w B nv T
 rs:jG w B b nv T.length st ub ob
 pos:oV w B f (.pointer pa) lv ms L st
 hd:HdF f L
 cx:Cx f st
 few:dP st.fns
 fr :∀x∈st.frames,x.fn<st.fns.length
 names:st.names.length+a≤100000
 fns:st.fns.length+s≤100000
 fw:L.length+s≤100000
section
variable {T:List Nd} {B b:Nat} {nv:Value} {ub ob f:Nat} {pa:Option Addr} {lv:Value} {ms:List Nat} {L:List cO} {st st':aI} {w w':World} {a s a' s':Nat}
theorem eU.mono (h:eU T B b nv ub ob f pa lv ms L st w a s) (h1:a'≤a) (h2:s'≤s):eU T B b nv ub ob f pa lv ms L st w a' s' :=
 ⟨h.fA,h.rs,h.pos,h.hd,h.cx,h.few,h.fr,by have:=h.names;omega,by have:=h.fns;omega,by have:=h.fw;omega⟩
theorem eU.next {k:Lt} {e:Ending} (h:eU T B b nv ub ob f pa lv ms L st w (k.wt+a) (k.size+s)) (hk:gW T k) (hr:bh k f st=.ok st') (hp:aq B b nv T.length ub ob lv L st (.ok st') w e w') :
  e=.returned .nilIface∧∃x,st'.names=x++st.names∧(L=[]→x=[])∧eU T B b nv ub ob f pa lv ms (grow x L) st' w' a s∧cQ B ob lv L.length (ep L) w w'∧st'.frames=st.frames:=by
 obtain⟨hb,rfl,Ra,mM,x,hx1,hx2,hx3⟩:=hp;have xi:=lM k hr h.few;have hall:=jC k hr hk.nodup h.cx hk.wf;have hf:=yJ k hr;refine⟨rfl,x,hx1,hx2,⟨h.fA.below hb,Ra,h.pos.on mM hx3 hx1 hx2 hf,h.hd.grow x,hall.1.cx h.cx,xi.few,fun y hy=>?_,?_,?_,?_⟩,mM,hf⟩
 ·rw[hf] at hy
  exact cw (h.fr y hy) xi.least
 ·have:=xi.names;have:=h.names;omega
 ·have:=xi.fns;have:=h.fns;omega
 ·rw[cy];have:=h.fw;omega
theorem aq.trans {N:Nat} {st1:aI} {r2:Rs aI} {w1 w2:World} {e2:Ending} {x:List jr} (hb:Below B w w1) (h2:cQ B ob lv L.length (ep L) w w1) (h3:st1.names=x++st.names) (h4:L=[]→x=[]) (k:aq B b nv N ub ob lv (grow x L) st1 r2 w1 e2 w2):aq B b nv N ub ob lv L st r2 w e2 w2:=by
 refine⟨hb.trans k.1,?_⟩;have k2:=k.2;cases r2 with
 | error y=>exact k2
 | ok st2 =>
  obtain⟨k3,k4,k5,y,k6,k7,k8⟩:=k2;rw[cy,nZ] at k5;refine⟨k3,k4,h2.trans k5,y++x,?_,fun e=>?_,?_⟩
  ·rw[k6,h3,fI]
  ·rw[h4 e,k7 (by rw[e];rfl)];rfl
  ·rw[grow_grow] at k8;exact k8
end
def bA (T:List Nd) (B b:Nat) (nv:Value) (ub ob:Nat) (t:Lt):Prop :=
 ∀(f:Nat) (loop:Int) (pa la:Option Addr) (lc:Nat) (ms:List Nat) (L:List cO) (st:aI) (w:World),eU T B b nv ub ob f pa (.slice la L.length lc) ms L st w t.wt t.size→(18≤t.hd.kind→loop=cK f st.frames)→(L≠[]∨t.hd.kind=18) →
  Calls Tryz.prog 18 #[.pointer (some ⟨b,0,none⟩),.int .i64 (t.loc:Int),.agg #[.int .i64 (f:Int),.int .i64 loop,.pointer pa,.slice la L.length lc]] w (aq B b nv T.length ub ob (.slice la L.length lc) L st (bh t f st) w)
def qy (B ob:Nat) (lv:Value) (n:Nat) (top:Option Nat) (w:World) (kv:Value) (xs:List Int):Prop :=
 ∃A c,kv=.slice A xs.length c∧xs.length≤c∧(xs=[]∨∃bk o,A=some ⟨bk,o,none⟩∧∀w',cQ B ob lv n top w w'→∀(j:Nat) x,xs[j]? = some x→w'.cell? ⟨bk,o+j,none⟩=some (.int .i64 x))
theorem gC.keeps {B ob n:Nat} {lv kv:Value} {top:Option Nat} {w:World} {xs:List Int} (h:gC w B kv xs):qy B ob lv n top w kv xs:=by
 obtain⟨A,c,e,hc,h1⟩:=h;refine⟨A,c,e,hc,h1.imp id ?_⟩;rintro⟨bk,o,e2,hb,hx⟩;exact⟨bk,o,e2,fun w' hf j x hj=>(hf.below.cell (p:=⟨bk,o+j,none⟩) hb).trans (hx j x hj)⟩
theorem qy.later {B ob n:Nat} {lv kv:Value} {top:Option Nat} {w w':World} {xs:List Int} (h:qy B ob lv n top w kv xs) (hf:cQ B ob lv n top w w'):qy B ob lv n top w' kv xs:=by
 obtain⟨A,c,e,hc,h1⟩:=h;refine⟨A,c,e,hc,h1.imp id ?_⟩;rintro⟨bk,o,e2,hx⟩;exact⟨bk,o,e2,fun w2 hf2=>hx w2 (hf.trans hf2)⟩
theorem qz {ks:List Lt} {n:Nat} {x:Lt} (h:ks[n]? = some x):Lt.fu (ks.drop n)=x.wt+Lt.fu (ks.drop (n+1))∧Lt.al (ks.drop n)=x.size+Lt.al (ks.drop (n+1)):=by
 rw[drop_at h,Lt.fu,Lt.al];exact⟨rfl,rfl⟩
end Go.Proofs.YtodmcdfeldkocaaGreatDoor
namespace Go.Proofs.YtodmcdfeldkocaaGreatDoor
theorem A8 (i:Nat):Cx 0 (iT i) :=
 ⟨⟨Nat.zero_lt_one,fun g x hx=>by
  cases g with
  | zero=>injection hx with hx;subst hx;exact⟨.inl ⟨rfl,rfl⟩,ag _⟩
  | succ g=>simp[iT] at hx⟩,Nat.zero_lt_one,fun n hn=>by simp[iT] at hn⟩
open Go.RowKit
def gM (k:Int):Int :=
 if k=7∨k=8 then 3 else if k=9∨k=10 then 5 else if k=11 then 9 else if 1≤k∧k≤15 then 1 else if k=16∨k=17 then 16 else
 if k=18 then 32 else if k=29 then 128 else if 19≤k∧k≤32 then 64 else 0
def gI (a b:Int):Bool:=!(bits .and .i64 a b == 0)
def iW:List Int→List Int→Bool
 | _,[]=>true
 | [],_::_=>false
 | k::ks,r::rs=>gI k r && iW ks rs
theorem nr :∀{ks row:List Int},iW ks row=true→row.length≤ks.length:=by
 intro ks row;induction row generalizing ks with
 | nil=>intro _;exact bg _
 | cons r rs ih =>
  intro h;cases ks with
  | nil=>cases h
  | cons k ks =>
   rw[iW,dk] at h;have:=ih h.2;simp only[List.length_cons];omega
theorem vg :∀{ks row:List Int},ks.length<row.length→iW ks row=false:=by
 intro ks row h;cases e:iW ks row with
 | false=>rfl
 | true=>have:=nr e;omega
def kD (row:List Int) (most:Int):Nat→Int→List Int→Int×List Int
 | 0,t,ks=>(t,ks)
 | f+1,t,ks=>if t<most∧iW ks row=true then kD row most f (t+1) (ks.drop row.length) else (t,ks)
theorem MF {row:List Int} {most:Int} (h0:0<row.length) :∀(n f:Nat) (t:Int) (ks:List Int),ks.length≤n→ks.length<f→kD row most f t ks=kD row most (ks.length+1) t ks:=by
 intro n;induction n with
 | zero =>
  intro f t ks hn hf;obtain⟨f,rfl⟩ :∃g,f=g+1:=⟨f-1,by omega⟩
  have hb:iW ks row=false:=vg (by omega)
  rw[kD,kD,ae (by rw[hb];simp),ae (by rw[hb];simp)]
 | succ n ih =>
  intro f t ks hn hf;obtain⟨f,rfl⟩ :∃g,f=g+1:=⟨f-1,by omega⟩
  rw[kD,kD];by_cases hc:t<most∧iW ks row=true
  ·have hl:=nr hc.2
   have hd:(ks.drop row.length).length=ks.length-row.length:=je;rw[aj hc,aj hc,ih f _ _ (by omega) (by omega),ih ks.length _ _ (by omega) (by omega)]
  ·rw[ae hc,ae hc]
theorem MG {row:List Int} {most t:Int} {ks:List Int} (h0:0<row.length) (ht:t<most) (hb:iW ks row=true):kD row most (ks.length+1) t ks=kD row most ((ks.drop row.length).length+1) (t+1) (ks.drop row.length):=by
 have hl:=nr hb;have hd:(ks.drop row.length).length=ks.length-row.length:=je;rw[kD,aj ⟨ht,hb⟩,MF h0 _ ks.length _ _ (ag _) (by omega)]
theorem FD {row:List Int} {most t:Int} {ks:List Int} (h:¬ (t<most∧iW ks row=true)):kD row most (ks.length+1) t ks=(t,ks):=by
 rw[kD,ae h]
theorem XV {row:List Int} {most:Int} :∀(f:Nat) (t:Int) (ks:List Int),(kD row most f t ks).2.length≤ks.length:=by
 intro f;induction f with
 | zero=>intro t ks;exact ag _
 | succ f ih =>
  intro t ks;rw[kD];split
  ·exact aL (ih _ _) (by rw[je];omega)
  ·exact ag _
abbrev FE:=Int×Int×List Int
def fB:List FE→List Int→Bool
 | [],ks=>ks.isEmpty
 | p::ps,ks=>decide (p.1≤(kD p.2.2 p.2.1 (ks.length+1) 0 ks).1) && fB ps (kD p.2.2 p.2.1 (ks.length+1) 0 ks).2
def big:Int:=9223372036854775807
def aY (k n:Int):List FE :=
 if k=13∨k=14∨k=16 then [(1,1,[1])]
 else if k=8∨k=12∨k=17 then [(1,1,[1,1])]
 else if k=9∨k=10 then [(1,big,[1])]
 else if k=19∨k=29 then [(0,big,[1])]
 else if k=11∨k=22 then [(1,1,[32])]
 else if k=21 then [(1,1,[4])]
 else if k=28 then [(1,1,[8])]
 else if k=23 then [(1,1,[1,32])]
 else if k=24 then [(1,1,[32,1])]
 else if k=15 then [(0,big,[16])]
 else if k=18 then [(0,big,[64]),(0,1,[128])]
 else if k=25 then [(1,big,[1,32]),(0,1,[32])]
 else if k=26 then [(2,3,[1]),(1,1,[32])]
 else if k=27 then [(n,n,[1]),(1,1,[32])]
 else if k=20 then [(n,n,[2]),(1,big,[1])]
 else []
def pw (k n:Int) (ss:List Int):Bool:=fB (aY k n) ss
theorem XX {k:Int} (h:gI (gM k) 32=true):k=18:=by
 unfold gM at h;split at h
 ·exact absurd h (by decide +kernel)
 ·split at h
  ·exact absurd h (by decide +kernel)
  ·split at h
   ·exact absurd h (by decide +kernel)
   ·split at h
    ·exact absurd h (by decide +kernel)
    ·split at h
     ·exact absurd h (by decide +kernel)
     ·split at h
      ·assumption
      ·split at h
       ·exact absurd h (by decide +kernel)
       ·split at h
        ·exact absurd h (by decide +kernel)
        ·exact absurd h (by decide +kernel)
theorem Ij {k n:Int} {ss:List Int} (hk:k=6∨k=7∨k=30∨k=31) (h:pw k n ss=true):ss=[]:=by
 have e:aY k n=[]:=by
  unfold aY;repeat rw[ae (by omega)]
 unfold pw at h;rw[e,fB] at h;exact EP.1 h
theorem aaD {n:Int} {ss:List Int} (h:pw 24 n ss=true) :∃a b,ss=[a,b]∧gI a 32=true:=by
 have e:aY 24 n=[(1,1,[32,1])]:=by
  unfold aY;repeat rw[ae (by decide)]
  rw[aj rfl]
 unfold pw at h;rw[e,fB,fB,dk] at h;obtain⟨h1,h2⟩:=h;rw[kD] at h1 h2;by_cases hc:(0:Int)<1∧iW ss [32,1]=true
 ·rw[aj hc] at h2
  have e2 :∀l,kD [32,1] 1 ss.length 1 l=(1,l):=fun l=>by
   cases ss.length with
   | zero=>rfl
   | succ m=>rw[kD,ae (by omega)]
  have h2:(kD [32,1] 1 ss.length 1 (ss.drop 2)).2.isEmpty=true:=h2;rw[e2] at h2;have h3:=nr hc.2;have hb:=hc.2;match ss,h2,h3,hb with
  | [a,b],_,_,hb =>
   rw[iW,dk] at hb;exact⟨a,b,rfl,hb.1⟩
  | a::b::c::l,h2,_,_=>cases h2
  | [a],_,h3,_=>simp at h3
  | [],_,h3,_=>simp at h3
 ·rw[ae hc] at h1
  exact absurd h1 (show ¬ (decide ((1:Int)≤0))=true by decide)
mutual
theorem VQ {T:List Nd} (hT :∀x∈T,pw x.kind x.num (x.kids.map fun k=>gM (dB T k.toNat))=true) :∀(t:Lt),Lt.In T t→t.Wf
 | .mk i h ks,hi=>by
  unfold Lt.In at hi;obtain⟨hx,hk,hs⟩:=hi;unfold Lt.Wf;have h1:=hT h (aV hx);refine⟨⟨fun e=>?_,fun e=>?_⟩,MH hT ks hs⟩
  ·have:=Ij e h1
   rw[kM,hk,kM] at this;exact this
  ·rw[e] at h1
   obtain⟨a,b,h2,h3⟩:=aaD h1;rw[hk,uo] at h2;match ks,h2,hs with
   | [x,y],h2,hs =>
    injection h2 with h2 _;rw[←h2] at h3;have h4:=XX h3;refine⟨x,y,rfl,?_⟩;unfold Lt.mW at hs;obtain⟨j,g,ls⟩:=x;have hg:=hs.1;unfold Lt.In at hg;have h4:dB T (((j:Nat):Int)).toNat=18:=h4;rw[gS,lG hg.1] at h4;exact h4
   | [],h2,_=>cases h2
   | [x],h2,_=>cases h2
   | _::_::_::_,h2,_=>cases h2
theorem MH {T:List Nd} (hT :∀x∈T,pw x.kind x.num (x.kids.map fun k=>gM (dB T k.toNat))=true) :∀(ks:List Lt),Lt.mW T ks→Lt.yC ks
 | [],_=>by unfold Lt.yC;trivial
 | k::ks,hi=>by
  unfold Lt.mW at hi;unfold Lt.yC;exact⟨VQ hT k hi.1,MH hT ks hi.2⟩
end
end Go.Proofs.YtodmcdfeldkocaaGreatDoor
namespace Go.Proofs.YtodmcdfeldkocaaGreatDoor
abbrev ak:=Int×Int×Int×List UInt8
inductive G (N:Type) (V:N→Type) (α:Type):Type where
 | ret:α→G N V α
 | bad:G N V α
 | tok:(ak→G N V α)→G N V α
 | look:(ak→G N V α)→G N V α
 | call:(n:N)→(V n→G N V α)→G N V α
section
variable {N:Type} {V:N→Type} (body :∀n,G N V (V n))
inductive P:{α:Type}→G N V α→List ak→Except Int (α×List ak)→Prop
 | ret {α:Type} {a:α} {ts:List ak}:P (.ret a) ts (.ok (a,ts))
 | bad {α:Type} {t:ak} {ts:List ak}:P (.bad:G N V α) (t::ts) (.error t.2.1)
 | tok {α:Type} {f:ak→G N V α} {t:ak} {ts:List ak} {r:Except Int (α×List ak)}:P (f t) ts r→P (.tok f) (t::ts) r
 | look {α:Type} {f:ak→G N V α} {t:ak} {ts:List ak} {r:Except Int (α×List ak)}:P (f t) (t::ts) r→P (.look f) (t::ts) r
 | call {α:Type} {n:N} {k:V n→G N V α} {ts aA:List ak} {v:V n} {r:Except Int (α×List ak)}:P (body n) ts (.ok (v,aA))→P (k v) aA r→P (.call n k) ts r
 | iz {α:Type} {n:N} {k:V n→G N V α} {ts:List ak} {e:Int}:P (body n) ts (.error e)→P (.call n k) ts (.error e)
variable {body}
theorem P.one {α:Type} {g:G N V α} {ts:List ak} {r r':Except Int (α×List ak)} (h:P body g ts r) (h':P body g ts r'):r=r':=by
 induction h with
 | ret=>cases h';rfl
 | bad=>cases h';rfl
 | tok _ ih=>cases h' with|tok h2=>exact ih h2
 | look _ ih=>cases h' with|look h2=>exact ih h2
 | call _ _ ih1 ih2 =>
  cases h' with
  | call a b =>
   have e:=ih1 a;injection e with e;injection e with e1 e2;subst e1 e2;exact ih2 b
  | iz a=>cases ih1 a
 | iz _ ih =>
  cases h' with
  | call a b=>cases ih a
  | iz a =>
   have e:=ih a;injection e with e;rw[e]
theorem P.tail {α:Type} {g:G N V α} {ts:List ak} {r:Except Int (α×List ak)} (h:P body g ts r) :∀a aA,r=.ok (a,aA)→∃c,ts=c++aA:=by
 induction h with
 | ret=>rintro a aA e;injection e with e;injection e with _ e2;exact⟨[],by rw[e2];rfl⟩
 | bad=>intro a aA e;cases e
 | @tok _ f t ts r _ ih=>intro a aA e;obtain⟨c,hc⟩:=ih a aA e;exact⟨t::c,by rw[hc];rfl⟩
 | look _ ih=>exact ih
 | call _ _ ih1 ih2 =>
  intro a aA e;obtain⟨c1,h1⟩:=ih1 _ _ rfl;obtain⟨c2,h2⟩:=ih2 a aA e;exact⟨c1++c2,by rw[h1,h2,fI]⟩
 | iz _ _=>intro a aA e;cases e
def Wp (Post :∀n,List ak→V n→List ak→Prop) {α:Type}:G N V α→List ak→(α→List ak→Prop)→Prop
 | .ret a,ts,Q=>Q a ts
 | .bad,_,_=>True
 | .tok f,ts,Q=>∀t aA,ts=t::aA→Wp Post (f t) aA Q
 | .look f,ts,Q=>∀t aA,ts=t::aA→Wp Post (f t) ts Q
 | .call n k,ts,Q=>∀v aA,Post n ts v aA→Wp Post (k v) aA Q
theorem P.post {Post :∀n,List ak→V n→List ak→Prop} (hb :∀n ts,Wp Post (body n) ts (Post n ts)) {α:Type} {g:G N V α} {ts:List ak} {r:Except Int (α×List ak)} (h:P body g ts r) :
  ∀a aA,r=.ok (a,aA)→∀Q:α→List ak→Prop,Wp Post g ts Q→Q a aA:=by
 induction h with
 | ret =>
  intro a aA e Q hq;injection e with e;injection e with e1 e2;subst e1 e2;exact hq
 | bad=>intro a aA e;cases e
 | tok _ ih=>intro a aA e Q hq;exact ih a aA e Q (hq _ _ rfl)
 | look _ ih=>intro a aA e Q hq;exact ih a aA e Q (hq _ _ rfl)
 | @call _ n k ts fG v r h1 h2 ih1 ih2 =>
  intro a aA e Q hq;exact ih2 a aA e Q (hq v fG (ih1 v fG rfl _ (hb n ts)))
 | iz _ _=>intro a aA e;cases e
theorem P.holds {Post :∀n,List ak→V n→List ak→Prop} (hb :∀n ts,Wp Post (body n) ts (Post n ts)) {n:N} {ts aA:List ak} {v:V n} (h:P body (body n) ts (.ok (v,aA))):Post n ts v aA :=
 h.post hb v aA rfl _ (hb n ts)
end
end Go.Proofs.YtodmcdfeldkocaaGreatDoor
namespace Go.Proofs.YtodmcdfeldkocaaGreatDoor
def bG (l:List UInt8):ByteArray:=⟨l.toArray⟩
def av (s:List UInt8) (t:ak):Bool:=(decide (t.1=2) || decide (t.1=5)) && decide (t.2.2.2=s)
def jm:List UInt8:=[101,110,100]
def sS:List UInt8:=[101,108,115,101]
def j9:List UInt8:=[101,108,115,101,105,102]
def px:List UInt8:=[117,110,116,105,108]
def lV:List UInt8:=[114,101,116,117,114,110]
def py:List UInt8:=[98,114,101,97,107]
def vh:List UInt8:=[103,111,116,111]
def Ds:List UInt8:=[100,111]
def pz:List UInt8:=[119,104,105,108,101]
def lW:List UInt8:=[114,101,112,101,97,116]
def XY:List UInt8:=[105,102]
def A9:List UInt8:=[116,104,101,110]
def Dt:List UInt8:=[102,111,114]
def wIn:List UInt8:=[105,110]
def bo:List UInt8:=[102,117,110,99,116,105,111,110]
def nw:List UInt8:=[108,111,99,97,108]
def tw:List UInt8:=[110,105,108]
def nx:List UInt8:=[116,114,117,101]
def kE:List UInt8:=[102,97,108,115,101]
def Du:List UInt8:=[110,111,116]
def wOr:List UInt8:=[111,114]
def Ik:List UInt8:=[97,110,100]
def xw:List UInt8:=[115,101,108,102]
def iX (t:ak):Bool:=decide (t.1=0) || av jm t || av sS t || av j9 t || av px t
def nd (k l:Int) (ks:List Ast):Ast:=.mk ⟨k,l,0,0,⟨#[]⟩,[],[]⟩ ks
def oE (k l:Int) (s:ByteArray) (ks:List Ast):Ast:=.mk ⟨k,l,0,0,s,[],[]⟩ ks
def ndO (k l op:Int) (ks:List Ast):Ast:=.mk ⟨k,l,op,0,⟨#[]⟩,[],[]⟩ ks
def Dv (k l n:Int) (ks:List Ast):Ast:=.mk ⟨k,l,0,n,⟨#[]⟩,[],[]⟩ ks
def Il (k l n:Int) (ns:List ByteArray) (ks:List Ast):Ast:=.mk ⟨k,l,0,n,⟨#[]⟩,ns,[]⟩ ks
def mF (t:ak):Option (Int×Nat×Nat) :=
 if av wOr t then some (19,1,2) else if av Ik t then some (18,2,3)
 else if av [60] t then some (14,3,4) else if av [62] t then some (16,3,4) else if av [60,61] t then some (15,3,4) else if av [62,61] t then some (17,3,4) else if av [126,61] t then some (13,3,4) else if av [61,61] t then some (12,3,4)
 else if av [124] t then some (7,4,5) else if av [126] t then some (8,5,6) else if av [38] t then some (6,6,7)
 else if av [60,60] t then some (9,7,8) else if av [62,62] t then some (10,7,8) else if av [46,46] t then some (11,8,8)
 else if av [43] t then some (1,9,10) else if av [45] t then some (2,9,10)
 else if av [42] t then some (3,10,11) else if av [47,47] t then some (4,10,11) else if av [37] t then some (5,10,11) else none
def lX (t:ak):Option Int:=if av [45] t then some 20 else if av [126] t then some 21 else if av Du t then some 22 else if av [35] t then some 23 else none
inductive NT where
 | blk|wh (l:List Ast)|ret (at_:Int)|CW|els (l:List Ast)|loo (at_:Int)|fnm (at_:Int)|fnx (at_:Int) (x:Ast)|loc (at_:Int)|Ks (at_:Int) (self:List ByteArray)
 | XZ (l:List ByteArray)|VR|nmm (l:List ByteArray)|Dw|lsm (l:List Ast)|tgs (at_:Int) (l:List Ast)|Im|aS (x:Ast)|arg|VS (l:List Ast)|X6|exp (s:Nat)|lvm (s:Nat) (x:Ast)|una|VU
def VT:NT→Type
 | .wh _ | .els _ | .Dw | .lsm _ | .arg | .VS _=>List Ast
 | .XZ _=>List ByteArray×Int
 | .VR | .nmm _=>List ByteArray
 | .blk | .ret _ | .CW | .loo _ | .fnm _ | .fnx _ _ | .loc _ | .Ks _ _ | .tgs _ _ | .Im | .aS _ | .X6 | .exp _ | .lvm _ _ | .una | .VU=>Ast
abbrev GL (α:Type):=G NT VT α
def want {α:Type} (s:List UInt8) (k:ak→GL α):GL α:=.look fun t=>if av s t then .tok k else .bad
def name {α:Type} (k:ak→GL α):GL α:=.look fun t=>if t.1=1 then .tok k else .bad
def take {α:Type} (s:List UInt8) (a b:GL α):GL α:=.look fun t=>if av s t then .tok fun _=>a else b
def dv :∀n:NT,GL (VT n)
 | .blk=>.look fun t=>.call (.wh []) fun(l:List Ast)=>.ret (nd 18 t.2.1 l)
 | .wh l=>.look fun t =>
   if iX t then .ret l
   else if av lV t then .tok fun t=>.call (.ret t.2.1) fun(x:Ast)=>.ret (l++[x])
   else if av [59] t then .tok fun _=>.call (.wh l) fun(l':List Ast)=>.ret l'
   else .call .CW fun(x:Ast)=>.call (.wh (l++[x])) fun(l':List Ast)=>.ret l'
 | .ret at_=>.look fun t =>
   if iX t then .ret (nd 29 at_ [])
   else if av [59] t then .tok fun _=>.ret (nd 29 at_ [])
   else .call .Dw fun(l:List Ast)=>take [59] (.ret (nd 29 at_ l)) (.ret (nd 29 at_ l))
 | .CW=>.look fun t =>
   if av [58,58] t then .tok fun t=>name fun n=>want [58,58] fun _=>.ret (oE 32 t.2.1 (bG n.2.2.2) [])
   else if av py t then .tok fun t=>.ret (nd 30 t.2.1 [])
   else if av vh t then .tok fun t=>name fun n=>.ret (oE 31 t.2.1 (bG n.2.2.2) [])
   else if av Ds t then .tok fun t=>.call .blk fun(b:Ast)=>want jm fun _=>.ret (nd 22 t.2.1 [b])
   else if av pz t then .tok fun t=>.call (.exp 1) fun(e:Ast)=>want Ds fun _=>.call .blk fun(b:Ast)=>want jm fun _=>.ret (nd 23 t.2.1 [e,b])
   else if av lW t then .tok fun t=>.call .blk fun(b:Ast)=>want px fun _=>.call (.exp 1) fun(e:Ast)=>.ret (nd 24 t.2.1 [b,e])
   else if av XY t then .tok fun t=>.call (.exp 1) fun(e:Ast)=>want A9 fun _=>.call .blk fun(b:Ast)=>.call (.els [e,b]) fun(l:List Ast)=>.ret (nd 25 t.2.1 l)
   else if av Dt t then .tok fun t=>.call (.loo t.2.1) fun(x:Ast)=>.ret x
   else if av bo t then .tok fun t=>.call (.fnm t.2.1) fun(x:Ast)=>.ret x
   else if av nw t then .tok fun t=>.call (.loc t.2.1) fun(x:Ast)=>.ret x
   else .call .Im fun(x:Ast)=>if x.hd.kind=9∨x.hd.kind=10 then .ret (nd 21 t.2.1 [x]) else .call (.tgs t.2.1 [x]) fun(y:Ast)=>.ret y
 | .els l=>.look fun t =>
   if av j9 t then .tok fun _=>.call (.exp 1) fun(e:Ast)=>want A9 fun _=>.call .blk fun(b:Ast)=>.call (.els (l++[e,b])) fun(l':List Ast)=>.ret l'
   else if av sS t then .tok fun _=>.call .blk fun(b:Ast)=>want jm fun _=>.ret (l++[b])
   else want jm fun _=>.ret l
 | .loo at_=>.call .VR fun(ns:List ByteArray)=>.look fun t =>
   if av [61] t∧ns.length=1 then .tok fun _=>.call (.exp 1) fun(a:Ast)=>want [44] fun _=>.call (.exp 1) fun(b:Ast)=>.look fun t =>
    if av [44] t then .tok fun _=>.call (.exp 1) fun(c:Ast)=>want Ds fun _=>.call .blk fun(d:Ast)=>want jm fun _=>.ret (Il 26 at_ 0 ns [a,b,c,d])
    else want Ds fun _=>.call .blk fun(d:Ast)=>want jm fun _=>.ret (Il 26 at_ 0 ns [a,b,d])
   else want wIn fun _=>.call .Dw fun(l:List Ast)=>want Ds fun _=>.call .blk fun(d:Ast)=>want jm fun _=>.ret (Il 27 at_ (l.length:Int) ns (l++[d]))
 | .fnm at_=>name fun n=>.call (.fnx at_ (oE 7 n.2.1 (bG n.2.2.2) [])) fun(x:Ast)=>.ret x
 | .fnx at_ x=>.look fun t =>
   if av [46] t then .tok fun d=>name fun n=>.call (.fnx at_ (nd 8 d.2.1 [x,oE 5 n.2.1 (bG n.2.2.2) []])) fun(y:Ast)=>.ret y
   else if av [58] t then .tok fun d=>name fun n=>.call (.Ks at_ [bG xw]) fun(f:Ast)=>.ret (Dv 20 at_ 1 [nd 8 d.2.1 [x,oE 5 n.2.1 (bG n.2.2.2) []],f])
   else .call (.Ks at_ []) fun(f:Ast)=>.ret (Dv 20 at_ 1 [x,f])
 | .loc at_=>.look fun t =>
   if av bo t then .tok fun f=>name fun n=>.call (.Ks f.2.1 []) fun(b:Ast)=>.ret (Il 28 at_ 0 [bG n.2.2.2] [b])
   else .call .VR fun(ns:List ByteArray)=>.look fun t=>if av [61] t then .tok fun _=>.call .Dw fun(l:List Ast)=>.ret (Il 19 at_ 0 ns l) else .ret (Il 19 at_ 0 ns [])
 | .Ks at_ self=>want [40] fun _=>.look fun t =>
   if av [41] t then .tok fun _=>.call .blk fun(b:Ast)=>want jm fun _=>.ret (Il 11 at_ 0 self [b])
   else .call (.XZ self) fun(p:List ByteArray×Int)=>want [41] fun _=>.call .blk fun(b:Ast)=>want jm fun _=>.ret (Il 11 at_ p.2 p.1 [b])
 | .XZ l=>.look fun t =>
   if av [46,46,46] t then .tok fun _=>.ret ((l,1):List ByteArray×Int)
   else name fun n=>.look fun t=>if av [44] t then .tok fun _=>.call (.XZ (l++[bG n.2.2.2])) fun(p:List ByteArray×Int)=>.ret p else .ret ((l++[bG n.2.2.2],0):List ByteArray×Int)
 | .VR=>name fun n=>.call (.nmm [bG n.2.2.2]) fun(l:List ByteArray)=>.ret l
 | .nmm l=>.look fun t=>if av [44] t then .tok fun _=>name fun n=>.call (.nmm (l++[bG n.2.2.2])) fun(l':List ByteArray)=>.ret l' else .ret l
 | .Dw=>.call (.exp 1) fun(e:Ast)=>.call (.lsm [e]) fun(l:List Ast)=>.ret l
 | .lsm l=>.look fun t=>if av [44] t then .tok fun _=>.call (.exp 1) fun(e:Ast)=>.call (.lsm (l++[e])) fun(l':List Ast)=>.ret l' else .ret l
 | .tgs at_ l=>.look fun t =>
   if (l.getLastD (nd 0 0 [])).hd.kind=7∨(l.getLastD (nd 0 0 [])).hd.kind=8 then
    if av [44] t then .tok fun _=>.call .Im fun(x:Ast)=>.call (.tgs at_ (l++[x])) fun(y:Ast)=>.ret y
    else want [61] fun _=>.call .Dw fun(m:List Ast)=>.ret (Dv 20 at_ (l.length:Int) (l++m))
   else .bad
 | .Im=>.look fun t =>
   if t.1=1 then .tok fun n=>.call (.aS (oE 7 n.2.1 (bG n.2.2.2) [])) fun(x:Ast)=>.ret x
   else if av [40] t then .tok fun o=>.call (.exp 1) fun(e:Ast)=>want [41] fun _=>.call (.aS (nd 14 o.2.1 [e])) fun(x:Ast)=>.ret x
   else .bad
 | .aS x=>.look fun t =>
   if av [46] t then .tok fun d=>name fun n=>.call (.aS (nd 8 d.2.1 [x,oE 5 n.2.1 (bG n.2.2.2) []])) fun(y:Ast)=>.ret y
   else if av [91] t then .tok fun d=>.call (.exp 1) fun(e:Ast)=>want [93] fun _=>.call (.aS (nd 8 d.2.1 [x,e])) fun(y:Ast)=>.ret y
   else if av [58] t then .tok fun d=>name fun n=>.call .arg fun(l:List Ast)=>.call (.aS (oE 10 d.2.1 (bG n.2.2.2) (x::l))) fun(y:Ast)=>.ret y
   else if av [40] t || av [123] t || decide (t.1=4) then .call .arg fun(l:List Ast)=>.call (.aS (nd 9 t.2.1 (x::l))) fun(y:Ast)=>.ret y
   else .ret x
 | .arg=>.look fun t =>
   if t.1=4 then .tok fun s=>.ret ([oE 5 s.2.1 (bG s.2.2.2) []]:List Ast)
   else if av [123] t then .tok fun o=>.call (.VS []) fun(l:List Ast)=>.ret ([nd 15 o.2.1 l]:List Ast)
   else want [40] fun _=>.look fun t=>if av [41] t then .tok fun _=>.ret ([]:List Ast) else .call .Dw fun(l:List Ast)=>want [41] fun _=>.ret l
 | .VS l=>.look fun t =>
   if av [125] t then .tok fun _=>.ret l
   else .call .X6 fun(x:Ast)=>.look fun t=>if av [44] t || av [59] t then .tok fun _=>.call (.VS (l++[x])) fun(l':List Ast)=>.ret l' else want [125] fun _=>.ret (l++[x])
 | .X6=>.look fun t =>
   if av [91] t then .tok fun _=>.call (.exp 1) fun(k:Ast)=>want [93] fun _=>want [61] fun _=>.call (.exp 1) fun(e:Ast)=>.ret (nd 17 t.2.1 [k,e])
   else .call (.exp 1) fun(e:Ast)=>.look fun u =>
    if av [61] u∧e.hd.kind=7 then .tok fun _=>.call (.exp 1) fun(v:Ast)=>.ret (nd 17 t.2.1 [oE 5 t.2.1 e.hd.s [],v])
    else .ret (nd 16 t.2.1 [e])
 | .exp s=>.call .una fun(x:Ast)=>.call (.lvm s x) fun(y:Ast)=>.ret y
 | .lvm s x=>.look fun t=>match mF t with
   | some o=>if s≤o.2.1 then .tok fun d=>.call (.exp o.2.2) fun(y:Ast)=>.call (.lvm s (ndO 12 d.2.1 o.1 [x,y])) fun(z:Ast)=>.ret z else .ret x
   | none=>.ret x
 | .una=>.look fun t=>match lX t with
   | some o=>.tok fun d=>.call .una fun(x:Ast)=>.ret (ndO 13 d.2.1 o [x])
   | none=>.call .VU fun(x:Ast)=>.ret x
 | .VU=>.look fun t =>
   if av tw t then .tok fun t=>.ret (nd 1 t.2.1 [])
   else if av nx t then .tok fun t=>.ret (nd 2 t.2.1 [])
   else if av kE t then .tok fun t=>.ret (nd 3 t.2.1 [])
   else if av [46,46,46] t then .tok fun t=>.ret (nd 6 t.2.1 [])
   else if av bo t then .tok fun t=>.call (.Ks t.2.1 []) fun(f:Ast)=>.ret f
   else if av [123] t then .tok fun t=>.call (.VS []) fun(l:List Ast)=>.ret (nd 15 t.2.1 l)
   else if t.1=3 then .tok fun t=>.ret (Dv 4 t.2.1 t.2.2.1 [])
   else if t.1=4 then .tok fun t=>.ret (oE 5 t.2.1 (bG t.2.2.2) [])
   else .call .Im fun(x:Ast)=>.ret x
def yU:GL Ast:=.call .blk fun(b:Ast)=>.look fun t=>if t.1=0 then .ret b else .bad
abbrev PL {α:Type} (g:GL α) (ts:List ak) (r:Except Int (α×List ak)):Prop:=P dv g ts r
open Go.RowKit
theorem cM {a b:Bool} (h:a=b):Ending.returned (.bool a)=.returned (.bool b):=by rw[h]
theorem Ba {a b:Int} (h:a=b):Ending.returned (.int .i64 a)=.returned (.int .i64 b):=by rw[h]
theorem Io (k:Int) (w:World):Calls Tryz.prog 68 #[.int .i64 k] w fun e w'=>e=.returned (.int .i64 (gM k))∧w=w':=by
 go_enter Tryz.func68,Tryz.ntmps68
 go_wp2_with fail
 all_goals
  go_ret
  refine⟨Ba ?_,rfl⟩;simp only[gM];simp_all
  try omega
theorem Ip {ks row:List Int} {i:Nat} {k r:Int} (hk:ks[i]? = some k) (hr:row[i]? = some r):iW (ks.drop i) (row.drop i)=(gI k r && iW (ks.drop (i+1)) (row.drop (i+1))):=by
 rw[eP hk,eP hr,iW]
theorem Dx (kv rv:Value) (ks row:List Int) (w:World) (hk:cE w kv ks) (hr:cE w rv row) (hl:ks.length≤1000000):Calls Tryz.prog 146 #[kv,rv] w fun e w'=>e=.returned (.bool (iW ks row))∧w=w':=by
 obtain⟨KA,kc,rfl,uC,hka⟩:=hk;obtain⟨RA,rc,rfl,hrc,hra⟩:=hr;by_cases hlt:ks.length<row.length
 ·have hb:=vg hlt
  rw[hb];have g:decide ((ks.length:Int)<(row.length:Int))=true:=bN (by omega)
  clear hka hra hb;go_enter Tryz.func146,Tryz.ntmps146
  go_wp2_with fail
  go_ret
  exact⟨rfl,rfl⟩
 ·have g:decide ((ks.length:Int)<(row.length:Int))=false:=bM (by omega)
  have HK:=aa hka;have HR:=aa hra;clear hka hra;go_enter Tryz.func146,Tryz.ntmps146
  go_wp2_with fail
  go_loop [14] (fun i=>∃n:Nat,n≤row.length∧i=.int .i64 (n:Int)∧iW (ks.drop n) (row.drop n)=iW ks row) (fun i=>row.length-(intOf i).toNat)
  case atStart=>exact⟨0,bg _,rfl,rfl⟩
  case round =>
   obtain⟨n,hn,rfl,hb⟩:=hrel;have HB:=aa hb;clear hb;by_cases iV:n<row.length
   ·have hx:=bt iV
    have hy:=bt (show n<ks.length by omega)
    obtain⟨x,hxe⟩ :∃x,x=row[n]:=⟨_,rfl⟩;obtain⟨y,hye⟩ :∃y,y=ks[n]'(by omega):=⟨_,rfl⟩
    rw[←hxe] at hx;rw[←hye] at hy;clear hxe hye;rcases HK.out with h0 | ⟨b1,o1,rfl,_,hc1⟩
    ·rw[h0] at hy;simp at hy
    rcases HR.out with h0 | ⟨b2,o2,rfl,_,hc2⟩
    ·rw[h0] at hx;simp at hx
    have c1:=hc1 n _ hy;have c2:=hc2 n _ hx;have hstep:=Ip hy hx;have HS:=aa hstep;clear hc1 hc2 hstep hx hy HK HR;by_cases hh:bits .and .i64 y x=0
    ·go_wp2_with fail
     go_ret
     exact⟨cM (by rw[←HB.out,HS.out];simp[gI,hh]),rfl⟩
    ·have hhb:(bits .and .i64 y x == 0)=false:=aC.2 hh
     go_wp2_with fail
     go_round
     case rel=>exact⟨n+1,by omega,by go_num,by rw[←HB.out,HS.out];simp[gI,hh]⟩
     case measure=>simp[intOf];omega
   ·have he:iW (ks.drop n) (row.drop n)=true:=by
     rw[mn (show row.length≤n by omega)]
     cases ks.drop n<;>rfl
    have HE:=aa he;clear he;go_wp2_with fail
    go_ret
    exact⟨cM (by rw[←HB.out,HE.out]),rfl⟩
def Part (W:World) (v:Value) (p:FE):Prop :=
 ∃bm br bl rv,v=.func (.func 145) #[] #[.pointer (some ⟨bm,0,none⟩),.pointer (some ⟨br,0,none⟩),.pointer (some ⟨bl,0,none⟩)]∧bm<W.heap.size∧br<W.heap.size∧bl<W.heap.size ∧
  W.cell? ⟨bm,0,none⟩=some (.int .i64 p.2.1)∧W.cell? ⟨br,0,none⟩=some rv∧W.cell? ⟨bl,0,none⟩=some (.int .i64 p.1)∧cE W rv p.2.2
theorem Part.below {W W':World} {v:Value} {p:FE} (h:Part W v p) (hb:Below W.heap.size W W'):Part W' v p:=by
 obtain⟨bm,br,bl,rv,rfl,h1,h2,h3,c1,c2,c3,hn⟩:=h;have:=hb.size;exact⟨bm,br,bl,rv,rfl,by omega,by omega,by omega,(hb.cell (p:=⟨bm,0,none⟩) h1).trans c1,(hb.cell (p:=⟨br,0,none⟩) h2).trans c2,(hb.cell (p:=⟨bl,0,none⟩) h3).trans c3,hn.below hb⟩
theorem MI (w w':World) (cs:Array Value) (t:TypeId) (j:Nat) (hb:Below (w.heap.size+1) (w.alloc (.cells cs t)) w'):w'.cell? ⟨w.heap.size,j,none⟩=cs[j]?:=(hb.cell (p:=⟨w.heap.size,j,none⟩) (dA _)).trans (dG w cs t j)
theorem kZ (l m:Int) (rv:Value) (row:List Int) (w:World) (h:cE w rv row):Calls Tryz.prog 117 #[.int .i64 l,.int .i64 m,rv] w fun e w'=>∃v,e=.returned v∧Part w' v (l,m,row)∧Below w.heap.size w w':=by
 have HN:=aa h;obtain⟨A,c,rfl,hc,_⟩:=h;go_enter Tryz.func117,Tryz.ntmps117
 go_wp2_with fail
 go_ret
 have b1:=(Below.refl w.heap.size w).alloc (ag _) (.cells #[.int .i64 l] 2);have b2:=(Below.refl (w.heap.size+1) (w.alloc (.cells #[.int .i64 l] 2))).alloc (by rw[ao];exact ag _) (.cells #[.int .i64 m] 2)
 have b3:=(Below.refl (w.heap.size+1+1) ((w.alloc (.cells #[.int .i64 l] 2)).alloc (.cells #[.int .i64 m] 2))).alloc (by rw[ao,ao];exact ag _) (.cells #[.slice A row.length c] 132)
 have hb:=b1.trans ((b2.trans (b3.mono (by omega))).mono (iG _))
 refine⟨_,rfl,⟨_,_,_,_,rfl,by rw[ao,ao,ao];omega,by rw[ao,ao,ao];omega,by rw[ao,ao,ao];omega,?_,?_,?_,HN.out.below hb⟩,hb⟩
 ·have:=MI (w.alloc (.cells #[.int .i64 l] 2)) _ #[.int .i64 m] 2 0 (by rw[ao];exact b3)
  rw[ao] at this;exact this
 ·have:=dG ((w.alloc (.cells #[.int .i64 l] 2)).alloc (.cells #[.int .i64 m] 2)) #[.slice A row.length c] 132 0
  rw[ao,ao] at this;exact this
 ·exact MI w _ #[.int .i64 l] 2 0 (b2.trans (b3.mono (by omega)))
theorem ny (b o j:Nat):(⟨b,o,none⟩:Addr).add j=⟨b,o+j,none⟩:=by unfold Addr.add;split<;>simp_all
theorem Iq {W:World} {A:Option Addr} {ks:List Int} {c L:Nat} (h:cE W (.slice A ks.length c) ks) (hl:L≤ks.length) (v:Value) (hv:v=.slice (if c=L then A else A.map fun a=>a.add L) (ks.length-L) (c-L)):cE W v (ks.drop L):=by
 obtain⟨A',c',e,hc,hh⟩:=h;injection e with e1 e2 e3;subst e1 e3 hv;refine⟨_,_,by rw[je],by rw[je];omega,?_⟩
 rcases hh with rfl | ⟨bk,o,rfl,dH,hx⟩
 ·left;simp
 ·by_cases hL:c=L
  ·left
   exact mn (by omega)
  ·right
   refine⟨bk,o+L,by rw[ae hL,pZ,ny],dH,fun j z hj=>?_⟩
   rw[wW] at hj;have:=hx (L+j) z hj;rw[show o+L+j=o+(L+j) by omega]
   exact this
theorem MJ {v:Value} {a b:Bool} (h:a=b):Ending.returned (.tuple #[v,.bool a])=.returned (.tuple #[v,.bool b]):=by rw[h]
theorem MK (kv:Value) (p:FE) (ks:List Int) (bm br bl:Nat) (rv:Value) (w:World) (hbm:w.cell? ⟨bm,0,none⟩=some (.int .i64 p.2.1)) (hbr:w.cell? ⟨br,0,none⟩=some rv) (hbl:w.cell? ⟨bl,0,none⟩=some (.int .i64 p.1)) (hr:cE w rv p.2.2)
  (hk:cE w kv ks) (hl:ks.length≤1000000) (h0:0<p.2.2.length) :
  Calls Tryz.prog 145 #[kv,.pointer (some ⟨bm,0,none⟩),.pointer (some ⟨br,0,none⟩),.pointer (some ⟨bl,0,none⟩)] w fun e w'=>∃kv',e=.returned (.tuple #[kv',.bool (decide (p.1≤(kD p.2.2 p.2.1 (ks.length+1) 0 ks).1))])∧cE w' kv' (kD p.2.2 p.2.1 (ks.length+1) 0 ks).2∧Below w.heap.size w w':=by
 obtain⟨least,most,row⟩:=p;simp only at hbm hbr hbl hr h0 ⊢;have HR:=aa hr;obtain⟨RA,rc,rfl,hrc,_⟩:=hr;go_enter Tryz.func145,Tryz.ntmps145
 go_wp2_with fail
 go_loop [0,7] (fun kv t=>∃(gU:List Int) (n:Nat),t=.int .i64 (n:Int)∧cE w kv gU∧gU.length+n≤ks.length∧kD row most (gU.length+1) (n:Int) gU=kD row most (ks.length+1) 0 ks) (fun _ t=>ks.length-(intOf t).toNat)
 case atStart=>exact⟨ks,0,rfl,hk,ag _,rfl⟩
 case round =>
  clear hk;obtain⟨gU,n,rfl,hk,hn,he⟩:=hrel;have HK:=aa hk;obtain⟨KA,kc,rfl,uC,_⟩:=hk;have HE:=aa he;clear he;have HB:=aa (Dx _ _ gU row w HK.out HR.out (by omega))
  by_cases hm:(n:Int)<most
  ·have g:decide ((n:Int)<most)=true:=bN hm
   cases hb:iW gU row with
   | true =>
    have acB:=nr hb;have HS:=aa (MG h0 hm hb);have uJ:=aa hb;clear hb;go_wp2_with (go_at_call 146;refine HB.out.mono ?_;rintro e w' ⟨rfl,rfl⟩;rw[uJ.out])
    refine⟨⟨gU.drop row.length,n+1,by go_num,Iq HK.out acB _ rfl,by rw[je];omega,?_⟩,by simp[intOf];omega⟩
    rw[←HE.out,HS.out];rfl
   | false =>
    have HS:=aa (FD (row:=row) (most:=most) (t:=(n:Int)) (ks:=gU) (by rw[hb];simp))
    have uJ:=aa hb;clear hb;go_wp2_with (go_at_call 146;refine HB.out.mono ?_;rintro e w' ⟨rfl,rfl⟩;rw[uJ.out])
    go_region
    go_wp2_with fail
    go_ret2
    exact⟨_,MJ (by rw[←HE.out,HS.out]),by rw[←HE.out,HS.out];exact HK.out.below (Below.refl _ _).drew,(Below.refl _ _).drew⟩
  ·have g:decide ((n:Int)<most)=false:=bM hm
   have HS:=aa (FD (row:=row) (most:=most) (t:=(n:Int)) (ks:=gU) (fun hh=>hm hh.1))
   go_wp2_with fail
   go_region
   go_wp2_with fail
   go_ret2
   exact⟨_,MJ (by rw[←HE.out,HS.out]),by rw[←HE.out,HS.out];exact HK.out.below (Below.refl _ _).drew,(Below.refl _ _).drew⟩
def sT (W:World) (v:Value) (ps:List FE):Prop :=
 ∃A c,v=.slice A ps.length c∧(ps=[]∨∃bk o,A=some ⟨bk,o,none⟩∧bk<W.heap.size∧∀(j:Nat) p,ps[j]? = some p→∃u,W.cell? ⟨bk,o+j,none⟩=some u∧Part W u p)
theorem sT.below {W W':World} {v:Value} {ps:List FE} (h:sT W v ps) (hb:Below W.heap.size W W'):sT W' v ps:=by
 obtain⟨A,c,rfl,h | ⟨bk,o,rfl,dH,hx⟩⟩:=h
 ·exact⟨A,c,rfl,.inl h⟩
 ·exact⟨_,c,rfl,.inr ⟨bk,o,rfl,cw dH hb.size,fun j p hj=>by
   obtain⟨u,h1,h2⟩:=hx j p hj;exact⟨u,(hb.cell (p:=⟨bk,o+j,none⟩) dH).trans h1,h2.below hb⟩⟩⟩
def Sh (W:World) (v:Value) (ps:List FE):Prop:=∃bp pv,v=.func (.func 144) #[] #[.pointer (some ⟨bp,0,none⟩)]∧bp<W.heap.size∧W.cell? ⟨bp,0,none⟩=some pv∧sT W pv ps
theorem nA (pv:Value) (ps:List FE) (w:World) (h:sT w pv ps):Calls Tryz.prog 116 #[pv] w fun e w'=>∃v,e=.returned v∧Sh w' v ps∧Below w.heap.size w w':=by
 have HN:=aa h;obtain⟨A,c,rfl,_⟩:=h;go_enter Tryz.func116,Tryz.ntmps116
 go_wp2_with fail
 go_ret
 have b1:=(Below.refl w.heap.size w).alloc (ag _) (.cells #[.slice A ps.length c] 219);exact⟨_,rfl,⟨_,_,rfl,by rw[ao];exact dA _,dG w _ _ _,HN.out.below b1⟩,b1⟩
theorem xx {W:World} {b:Nat} {u:Value} {p:FE} (hb:b<W.heap.size) (h:W.cell? ⟨b,0,none⟩=some u) (hp:Part W u p):sT W (.slice (some ⟨b,0,none⟩) 1 1) [p] :=
 ⟨_,1,rfl,.inr ⟨b,0,rfl,hb,fun j q hj=>by
  cases j with
  | zero=>obtain rfl:=gu hj;exact⟨u,h,hp⟩
  | succ j=>simp at hj⟩⟩
theorem xy {W:World} {b:Nat} {u1 u2:Value} {p1 p2:FE} (hb:b<W.heap.size) (h1:W.cell? ⟨b,0,none⟩=some u1) (h2:W.cell? ⟨b,1,none⟩=some u2) (jV:Part W u1 p1) (oR:Part W u2 p2):sT W (.slice (some ⟨b,0,none⟩) 2 2) [p1,p2] :=
 ⟨_,2,rfl,.inr ⟨b,0,rfl,hb,fun j q hj=>by
  match j,hj with
  | 0,hj=>obtain rfl:=gu hj;exact⟨u1,h1,jV⟩
  | 1,hj=>obtain rfl:=gu hj;exact⟨u2,h2,oR⟩
  | j+2,hj=>simp at hj⟩⟩
theorem nB (w:World) (z:Int) (t:TypeId) (g:Nat) (hg:g=w.heap.size):cE (w.alloc (.cells #[.int .i64 z] t)) (.slice (some ⟨g,0,none⟩) 1 1) [z]:=by
 subst hg;exact⟨_,1,rfl,ag _,.inr ⟨w.heap.size,0,rfl,by rw[ao];exact dA _,fun j q hj=>by
  cases j with
  | zero=>obtain rfl:=gu hj;exact dG w _ _ _
  | succ j=>simp at hj⟩⟩
theorem Bb (w:World) (y z:Int) (t:TypeId) (g:Nat) (hg:g=w.heap.size):cE (w.alloc (.cells #[.int .i64 y,.int .i64 z] t)) (.slice (some ⟨g,0,none⟩) 2 2) [y,z]:=by
 subst hg;exact⟨_,2,rfl,ag _,.inr ⟨w.heap.size,0,rfl,by rw[ao];exact dA _,fun j q hj=>by
  match j,hj with
  | 0,hj=>obtain rfl:=gu hj;exact dG w _ _ _
  | 1,hj=>obtain rfl:=gu hj;exact dG w _ _ _
  | j+2,hj=>simp at hj⟩⟩
theorem Bc (rv:Value) (row:List Int) (w:World) (h:cE w rv row):Calls Tryz.prog 115 #[rv] w fun e w'=>∃v,e=.returned v∧Sh w' v [(1,1,row)]∧Below w.heap.size w w':=by
 have HN:=aa (kZ 1 1 rv row w h);obtain⟨A,c,rfl,_⟩:=h;go_enter Tryz.func115,Tryz.ntmps115
 go_wp2_with fail
 refine HN.out.mono ?_;rintro e w1 ⟨u,rfl,hp,b1⟩;have HP:=aa hp;have B1:=aa b1;obtain⟨bm,br,bl,rv',rfl,_⟩:=hp;clear b1;go_wp2_with fail
 have b2:=(Below.refl w1.heap.size w1).alloc (ag _) (.cells #[.func (.func 145) #[] #[.pointer (some ⟨bm,0,none⟩),.pointer (some ⟨br,0,none⟩),.pointer (some ⟨bl,0,none⟩)]] 187);refine(nA _ [(1,1,row)] _ (xx (b:=w1.heap.size) (by rw[ao];exact dA _) (dG w1 _ _ _) (HP.out.below b2))).mono ?_
 rintro e w2 ⟨v,rfl,hr,b3⟩;have HR:=aa hr;have B3:=aa (ax B1.out (ax b2 b3));obtain⟨bp,pv,rfl,_⟩:=hr;clear b2 b3;go_wp2_with fail
 go_ret
 exact⟨_,rfl,HR.out,B3.out⟩
theorem ML (pv kv:Value) (ps:List FE) (ks:List Int) (bp:Nat) (w:World) (hbp:w.cell? ⟨bp,0,none⟩=some pv) (hp:sT w pv ps) (hk:cE w kv ks) (hl:ks.length≤1000000) (h0 :∀p∈ps,0<p.2.2.length) (MC:ps.length≤1000) :
  Calls Tryz.prog 144 #[kv,.pointer (some ⟨bp,0,none⟩)] w fun e w'=>e=.returned (.bool (fB ps ks))∧Below w.heap.size w w':=by
 have HP:=aa hp;obtain⟨PA,pc,rfl,hpa⟩:=hp;have HPA:=aa hpa;have H0:=aa h0;clear hpa h0;go_enter Tryz.func144,Tryz.ntmps144
 go_wp2_with fail
 go_loopw [0,10] (fun kv i wr=>∃(gU:List Int) (n:Nat),i=.int .i64 (n:Int)∧n≤ps.length∧cE wr kv gU∧gU.length≤1000000∧fB (ps.drop n) gU=fB ps ks∧Below w.heap.size w wr) (fun _ i _=>ps.length-(intOf i).toNat)
 case atStart=>exact⟨ks,0,rfl,bg _,hk,hl,rfl,Below.refl _ _⟩
 case round =>
  clear hk hl;obtain⟨gU,n,rfl,hn,hk,hl,he,hbl⟩:=hrel;have HK:=aa hk;obtain⟨KA,kc,rfl,uC,_⟩:=hk;have HE:=aa he;have HB:=aa hbl;clear he hbl;by_cases iV:n<ps.length
  ·obtain⟨p,hpn⟩ :∃p,ps[n]? = some p:=⟨ps[n],bt iV⟩
   have hdr:=eP hpn;rcases HPA.out with hnil | ⟨b1,o1,rfl,hb1,hc1⟩
   ·rw[hnil] at iV;exact absurd iV (iF _)
   obtain⟨u,hcu,hpu⟩:=hc1 n p hpn;have acC:=hpu.below HB.out;have hcu':=(HB.out.cell (p:=⟨b1,o1+n,none⟩) hb1).trans hcu;obtain⟨bm,br,bl,rv,rfl,_,_,_,d1,d2,d3,dn⟩:=acC;have mz:=aa (MK _ p gU bm br bl rv wr d1 d2 d3 dn HK.out hl (H0.out p (aV hpn)));have uI:=aa hdr;obtain⟨q,hq⟩ :∃q,q=kD p.2.2 p.2.1 (gU.length+1) 0 gU:=⟨_,rfl⟩;rw[←hq] at mz;have HQ:=aa hq;have adZ:q.2.length≤gU.length:=by rw[hq];exact XV _ _ _
   clear hc1 hcu hpu d1 d2 d3 dn hdr hpn hq;go_wp2_with fail
   refine mz.out.mono ?_;rintro e w2 ⟨kv',rfl,hk2,b2⟩;have HK2:=aa hk2;obtain⟨KA2,kc2,rfl,hkc2,_⟩:=hk2;have B2:=aa (jj HB.out (ag _) b2);clear b2;by_cases hle:p.1≤q.1
   ·have g:decide (p.1≤q.1)=true:=bN hle
    rw[g];go_wp2_with fail
    go_roundw
    case rel=>exact⟨q.2,n+1,by go_num,by omega,HK2.out,by omega,by rw[←HE.out,uI.out,fB,←HQ.out,g,kP],B2.out⟩
    case measure=>simp[intOf];omega
   ·have g:decide (p.1≤q.1)=false:=bM hle
    rw[g];go_wp2_with fail
    go_ret
    exact⟨cM (by rw[←HE.out,uI.out,fB,←HQ.out,g,Ad]),B2.out⟩
  ·have hdr:ps.drop n=[]:=mn (by omega)
   have uI:=aa hdr;clear hdr;go_wp2_with fail
   go_ret
   refine⟨cM ?_,HB.out⟩;rw[←HE.out,uI.out,fB];cases gU with
   | nil=>rfl
   | cons a t=>simp;omega
end Go.Proofs.YtodmcdfeldkocaaGreatDoor
