/- Parts of the proof. -/
import Derived.Laws.AppendOwnNone
import Derived.ArgAppend
import Derived.Test.YteflkdlaoiijbaaGreatDoorM04
set_option maxHeartbeats 16000000
set_option maxRecDepth 20000
namespace Go.Proofs.YteflkdlaoiijbaaGreatDoor
open Go.RowKit
def lK (wp:iM) (mf:List aj→Bool×List aj):cg:=fun s K E=>s.xs.length≤100000∧∃m,m≤100000∧rY wp mf m s.ts s.n [] (fun xs ts=>K { s with xs:=s.xs++xs,ts:=ts,n:=s.n+Ast.ak xs}) E
theorem QZ {ops:Array Oper} {rest:List Oper} {o:Oper} {a:Act} {Q:Exit→Act→World→Prop} (w:World) (hgd:o.guard=none) (sl y:Operand)
  (ho:o.op=.call { callee:=.builtin .append,args:=#[sl,y],argTypes:=#[33,33]}) (b:Nat) (kv v:Value) (ks ls:List Int) (hs:a.eval sl=kv) (hown:qR w b kv ks) (hy:a.eval y=v) (hl:qR w b v ls) (hne:ls≠[])
  (h1:ks.length≤1000000) (h2:ls.length≤1000000) (hB:b+1≤w.heap.size)
  (h :∀g c w',qR w' b (.slice (some ⟨g,0,none⟩) (ks.length+ls.length) c) (ks++ls)→ay (fun k=>kv.ownBlock=some k) w w'→(kv.ownBlock=some g∨w.heap.size≤g)→g<w'.heap.size→wpList Tryz.prog ops Q rest (a.put o.dst (.slice (some ⟨g,0,none⟩) (ks.length+ls.length) c)) w'):wpList Tryz.prog ops Q (o::rest) a w:=by
 obtain⟨i0,mL,hz0,hz1,hz2⟩:=info_parts CL;have h0:0<ls.length:=vG.2 hne;obtain⟨g,cap,rfl,_,_⟩:=hl.form h0;refine wpList_append_lies (P:=Tryz.prog) _ hgd sl y 33 ho (b+1) 3 i0 (.int .i64 0) 1 8 Tryz.underlying33 mL hz0 hz1 hz2 rfl (by omega) kv ks.length (ks.map (Value.int .i64)) hs hown ⟨g,0,none⟩ ls.length cap (ls.map (Value.int .i64)) hy (by simp)
  (fun j u hj=>hl.cells (g:=g) rfl j u hj) (fun u hu=>by obtain⟨z,_,rfl⟩:=jr.1 hu;rfl) h0 (by unfold maxLen;omega) (by omega) hB w.heap.size rfl ?_
 intro g cap w' h1 h2 h3 h5;refine h g cap w' ?_ ?_ (h3.imp id fun e=>by omega) h5
 ·unfold qR
  rw[cC,l9];exact h1
 ·exact ay.tV h2 hown (by decide)
theorem Ev {W W4:World} {b n:Nat} {On:Nat→Prop} {x:Nd} {nv kv:Value} (ha:W.heap[n]? = some (.cells (aP (x,nv,kv)).toArray 55 (0,0))) (hi:jB W b On x nv kv) (hat:On n) (hown :∀k,On k→b<k∧k<W.heap.size)
  (hf:ay (fun k=>kv.ownBlock=some k) W W4) :
  W4.cell? ⟨n,6,none⟩=some kv∧W4.frozen? ⟨n,6,none⟩=false∧n<W4.heap.size∧(∀v,ay (· = n) W4 (W4.setCell ⟨n,6,none⟩ v))∧∀(g m c:Nat) (ks:List Int),qR W4 b (.slice (some ⟨g,0,none⟩) m c) ks→kv.ownBlock=some g∨W.heap.size≤g →
   NU (W4.setCell ⟨n,6,none⟩ (.slice (some ⟨g,0,none⟩) m c)) b n (fun k=>On k∨k=g) { x with kids:=ks}:=by
 have hne:¬ kv.ownBlock=some n:=fun e=>by
  obtain⟨cur,hc⟩:=eS hi.kids e;rw[ha] at hc;simp at hc
 have pW:W4.heap[n]? = some (.cells (aP (x,nv,kv)).toArray 55 (0,0)):=(hf.block n (hown n hat).2 hne).trans ha;refine⟨by simp[World.cell?,pW,aP],by simp[World.frozen?,pW],(aJ.1 pW).1,fun v=>ay.vp pW (by decide) 6 v,fun g m c ks hr hg=>?_⟩
 have cN:jB W4 b (fun k=>On k∨k=g) { x with kids:=ks} nv (.slice (some ⟨g,0,none⟩) m c):=⟨dd hi.names fun k hk=>(hf.block k (hi.names.lt k hk).2 (fun e=>by
  obtain⟨c1,h1⟩:=eS hi.names hk;obtain⟨c2,h2⟩:=eS hi.kids e;rw[h1] at h2;simp at h2)),hr,fun k hk=>(hi.on k hk).imp .inl hf.keeps,hi.nz,fun k hk=>.inr (by simpa[Value.ownBlock] using hk.symm)⟩
 have qN:=hr.lt g rfl;refine⟨⟨nv,_,gV pW _,cN.set pW 6 _⟩,.inl hat,fun k hk=>?_⟩
 rcases hk with hk|rfl
 ·exact⟨(hown k hk).1,by have:=(hown k hk).2;have:=hf.size;simp[World.setCell];omega⟩
 ·exact⟨by omega,by simp[World.setCell];omega⟩
theorem Q0 (b n g1 g2:Nat) (O:Nat→Prop) (T0:List Nd) (s:St) (K:St→Prop) (E:Int→Prop) (one more:Value) (wp:iM) (mf:List aj→Bool×List aj) (w:World) (hr:Real w b n O T0 s)
  (b1:eI w O g1 #[one] 126) (b2:eI w O g2 #[more] 22) (h1:One w b O one wp) (h2:xS w b O more mf) (hk:lK wp mf s K E) :
  Calls Tryz.prog 144 #[.pointer (some ⟨n,0,none⟩),.pointer (some ⟨g1,0,none⟩),.pointer (some ⟨g2,0,none⟩)] w (bE b n O T0 K E w):=by
 obtain⟨Op,On,T,ks,hO,hd,hp,hn,hl,hc⟩:=hr.ex;have c1:=b1.cell 0;have c2:=b2.cell 0;obtain⟨hx,m,hm,hk⟩:=hk;have eOp:Ext O Op w:=fun k hk=>.inl ((hO k).2 (.inl hk))
 rw[←hc] at hk;have HR:=aa (aad b Op s.ts T one more wp mf _ E m hm w hp (h1.later (ay.refl _ _) eOp) (h2.later (ay.refl _ _) eOp) hk);have Jt:ks.length=s.xs.length:=hl.num;have HO:=aa hO;have HD:=aa hd;have HP:=aa hp;have HN:=aa hn;have HL:=aa hl;have HKS:=aa Jt;have HC:=aa hc;have vY:ks.length≤100000:=by omega
 clear hr hO hd hp hn hl hc b1 b2 h1 h2 hk eOp Jt hx;go_enter Tryz.func144,Tryz.ntmps144
 go_wp2_with fail
 refine HR.out.mono ?_;rintro e w1 ⟨f1,h1⟩;have F1:=aa f1;have n1:=HN.out.kept f1 fun k hk h=>HD.out k h hk
 have N1:=aa n1;have jz:=n1.own n n1.at_;have Ui:=n1.own;have BM:=aa n1.at_;obtain⟨nv,kv,ha,fJ⟩:=n1.ex;obtain⟨A6,k6,rfl,_⟩:=bF fJ.kids;have c6:w1.cell? ⟨n,6,none⟩=some (.slice A6 ks.length k6):=by simp[World.cell?,ha,aP]
 have z6:w1.frozen? ⟨n,6,none⟩=false:=by simp[World.frozen?,ha]
 have HI:=aa fJ;have HK:=aa (fun W4 hf=>Ev (W4:=W4) ha fJ n1.at_ Ui hf)
 have N1:=aa n1;clear Ui ha fJ n1 c1 c2;rcases h1 with ⟨v,ys,ls,ax,Op',T',rfl,p1,x1,l1,r1,o1,ne1,ab1,k1⟩ | ⟨l,er,rfl,m1,k1⟩
 ·have P1:=aa p1
  have X1:=aa x1;have L1:=aa l1;have R1:=aa r1;have O1:=aa o1;have NE:=aa ne1;have K1:=aa k1;obtain⟨Av,cv,rfl,_⟩:=bF r1;clear p1 x1 l1 r1 o1 ne1 k1 f1;go_wp2_with (at_builtin;refine QZ _ rfl _ _ rfl b (.slice A6 ks.length k6) (.slice Av ls.length cv) ks ls rfl HI.out.kids rfl R1.out NE.out (by omega) (by omega) (by omega) ?_;intro g4 c4 w4 h4 f4 o4 l4;obtain⟨c64,z64,pW,aae,Ad⟩:=HK.out w4 f4;have Pt:=aa aae;have HU:=aa (Ad g4 _ c4 _ h4 o4);have F4:=aa f4;have O4:=aa o4;have L4:=aa l4;clear h4 f4 o4 l4 Ad aae)
  go_ret
  have hkO :∀k,(Value.slice A6 ks.length k6).ownBlock=some k→On k:=fun k hk=>HI.out.ok k hk
  have f4':ay On w1 w4:=F4.out.mono hkO;have fO:ay O w w1:=F1.out.mono fun k hk=>(HO.out k).2 (.inl hk)
  have GU :∀k,On k→k<w.heap.size:=fun k hk=>(HN.out.own k hk).2
  have hg4:On g4∨w1.heap.size≤g4:=O4.out.imp (fun h=>hkO g4 h) id
  have hsz:w.heap.size≤w1.heap.size:=F1.out.size;have f5:ay O w w4:=fO.trans f4' fun k hk=>.inl ((HO.out k).2 (.inr hk))
  have WC :∀k,Op' k→¬ On k:=fun k hk h=>by
   rcases X1.out k hk with h1|h1
   ·exact HD.out k h1 h
   ·have:=GU k h;omega
  have p5:PS w4 b Op' ax T':=P1.out.kept f4' WC fun k hk=>fj (HN.out.own k hk).1
  have Pu:¬ Op' g4:=fun h=>by
   rcases hg4 with h1|h1
   ·exact WC g4 h h1
   ·have:=(P1.out.own g4 h).2;omega
  refine⟨f5.trans (Pt.out _) (fun k hk=>.inl (hk▸(HO.out n).2 (.inr BM.out))),.inl ⟨{ s with xs:=s.xs++ys,ts:=ax,n:=T.length+Ast.ak ys},fun k=>Op' k∨(On k∨k=g4),rfl,⟨Op',fun k=>On k∨k=g4,T',ks++ls,fun k=>Iff.rfl,fun k hk h=>?_,?_,HU.out,HL.out.app L1.out,?_⟩,fun k hk=>?_,K1.out⟩⟩
  ·rcases h with h|rfl
   ·exact WC k hk h
   ·exact Pu hk
  ·exact p5.kept (O1:=(· = n)) (Pt.out _) (fun k hk e=>WC k hk (e▸BM.out)) fun k e=>by omega
  ·exact L1.out.len
  ·rcases hk with hk|hk|rfl
   ·rcases X1.out k hk with h1|h1
    ·exact .inl ((HO.out k).2 (.inl h1))
    ·exact .inr h1
   ·exact .inl ((HO.out k).2 (.inr hk))
   ·rcases hg4 with h1|h1
    ·exact .inl ((HO.out k).2 (.inr h1))
    ·exact .inr (by omega)
 ·obtain⟨g',rfl,hg1,hg2⟩:=m1
  have M2:=aa hg2;have K2:=aa k1;have Q6:g'≠n:=by have:=(HN.out.own n BM.out).2;omega
  clear f1 hg2 k1;go_wp2_with (at_builtin;refine wpList_append_own_none rfl _ _ 33 rfl (b+1) 3 _ 1 Tryz.underlying33 (info_parts CL).choose_spec.1 _ ks.length _ rfl HI.out.kids rfl ?_)
  go_ret
  refine⟨(F1.out.mono (O1:=O) fun k hk=>(HO.out k).2 (.inl hk)).trans (N1.out.fr 6 _) (fun k hk=>.inl (hk▸(HO.out n).2 (.inr BM.out))),.inr ⟨l,_,rfl,⟨g',rfl,hg1,?_⟩,K2.out⟩⟩
  exact(Below.heap_setCell _ _ _ g' Q6).trans M2.out
theorem Q7:(Tryz.prog.info? 55).map (fun i=>(i.zero,i.size,i.bytes))=some (some (.agg #[.int .i64 0,.int .i64 0,.int .i64 0,.int .i64 0,.string ⟨#[]⟩,.slice none 0 0,.slice none 0 0]),7,96):=by kernel_rfl
theorem eU (t:Js):(aP t).length=7:=rfl
theorem wi {ops:Array Oper} {o:Oper} {a:Act} {K:Act→World→Prop} {Q:Exit→Act→World→Prop} {E:Prop} (w0 w1:World) (t:Js) (hgd:o.guard=none) (sl y:Operand)
  (ho:o.op=.call { callee:=.builtin .append,args:=#[sl,y],argTypes:=#[23,23]}) (b:Nat) (v:Value) (L:List Js) (hs:a.eval sl=v) (hown:w0.ownsRow (b+1) 55 7 v L.length (L.flatMap aP)) (dZ :∀(i:Nat),i<w0.heap.size→w1.heap[i]? = w0.heap[i]?) (g:Nat) (hg:g=w0.heap.size) (hy:a.eval y=.slice (some ⟨g,0,none⟩) 1 1)
  (hz:w1.heap[g]? = some (.cells (aP t).toArray 55 (0,0))) (h1c :∀u∈aP t,u.oneCell'=true)
  (hlen:L.length≤1000000) (hB:b+1≤w0.heap.size) (hb1:Below w0.heap.size w0 w1)
  (h :∀g' c' w',w'.ownsRow (b+1) 55 7 (.slice (some ⟨g',0,none⟩) (L.length+1) c') (L.length+1) ((L++[t]).flatMap aP)→ay (fun k=>v.ownBlock=some k) w0 w'→(v.ownBlock=some g'∨w0.heap.size≤g')→g' < w'.heap.size→K (a.put o.dst (.slice (some ⟨g',0,none⟩) (L.length+1) c')) w') :
  if Region.wanted o (yielded ops a.tmps)=true then Oper.wp Tryz.prog o a w1 K Q else E:=by
 subst hg;obtain⟨i0,mL,hz0,hz1,hz2⟩:=info_parts Q7;have hown1:w1.ownsRow (b+1) 55 7 v L.length (L.flatMap aP):=dd hown fun k hk=>dZ k (hown.lt k hk).2
 have hpl :∀j:Nat,(⟨w0.heap.size,0,none⟩:Addr).add j=⟨w0.heap.size,j,none⟩:=fun j=>by unfold Addr.add;split<;>simp_all
 refine step_append_lies (P:=Tryz.prog) w1 hgd sl y 23 ho (b+1) 55 i0 _ 7 96 Tryz.underlying23 mL hz0 hz1 hz2 rfl (by omega) v L.length (L.flatMap aP) hs hown1 ⟨w0.heap.size,0,none⟩ 1 1 (aP t) hy (eU t)
  (fun j u hj=>by rw[hpl];simpa[World.cell?,hz] using hj) h1c (by omega) (by unfold maxLen;omega) (by omega) (by have:=hb1.size;omega) w1.heap.size rfl ?_
 intro g' c' w' r1 r2 r3 r4;refine h g' c' w' ?_ ?_ (r3.imp id fun e=>by have:=hb1.size;omega) r4
 ·rw[py]
  simpa using r1
 ·exact(ay.ae (O:=fun k=>v.ownBlock=some k) hb1).trans (ay.tV r2 hown1 (by decide)) (Ext.refl _ _)
theorem ei.node {T0 T:List Nd} {xs:List Ast} {ks:List Int} (h:ei T0 T xs ks) (x:Nd):ei T0 (T++[{ x with kids:=ks}]) [.mk x xs] [(T.length:Int)]:=by
 obtain⟨p1,js,r1,q1⟩:=h;refine⟨p1.trans (List.prefix_append _ _),T.length::js,?_,?_⟩
 ·unfold bs
  refine⟨T.length,[],T.length::js,[],rfl,?_,by unfold bs;exact⟨rfl,rfl⟩,by simp⟩
  unfold gJ;exact⟨{ x with kids:=ks},js,by simp,rfl,bs.more (tU (List.prefix_append _ _)) xs ks js r1,rfl⟩
 ·have h1:=p1.length_le
  rw[cC,mw,range_split T0.length T.length (T.length+1) h1 (by omega),show T.length+1-T.length=1 by omega]
  exact(List.Perm.cons _ q1).trans (List.perm_append_comm (l₁:=[T.length]))
theorem PS.more {W:World} {b:Nat} {O On:Nat→Prop} {ts:List aj} {T:List Nd} {x:Nd} {nv kv:Value} (h:PS W b O ts T) (hi:jB W b On x nv kv) (GU :∀k,On k→b<k∧k<W.heap.size) :
  ∃(v:Value) (L:List Js),L.length=T.length∧W.cell? ⟨b,2,none⟩=some v∧W.frozen? ⟨b,2,none⟩=false∧W.ownsRow (b+1) 55 7 v L.length (L.flatMap aP)∧(∀k,v.ownBlock=some k→O k∧k≠b)∧b+1≤W.heap.size ∧
   ∀(W6:World) (g c:Nat),W6.ownsRow (b+1) 55 7 (.slice (some ⟨g,0,none⟩) (L.length+1) c) (L.length+1) ((L++[(x,nv,kv)]).flatMap aP)→ay (fun k=>v.ownBlock=some k) W W6→(v.ownBlock=some g∨W.heap.size≤g)→g<W6.heap.size →
    W6.cell? ⟨b,2,none⟩=some v∧W6.frozen? ⟨b,2,none⟩=false∧ay (· = b) W6 (W6.setCell ⟨b,2,none⟩ (.slice (some ⟨g,0,none⟩) (L.length+1) c))∧PS (W6.setCell ⟨b,2,none⟩ (.slice (some ⟨g,0,none⟩) (L.length+1) c)) b (fun k=>O k∨On k∨k=g) ts (T++[x]):=by
 obtain⟨TS,i,g0,c0,v,L,a1,a2,a3,a4,a5,a6,a7⟩:=h.ex;have hlt:=(aJ.1 a1).1;have hvb :∀k,v.ownBlock=some k→k≠b:=fun k hk e=>by have:=(a6.row.lt k hk).1;omega
 refine⟨v,L,by rw[←a7,cD],by simp[World.cell?,a1],by simp[World.frozen?,a1],a6.row,fun k hk=>⟨a6.own k hk,hvb k hk⟩,hlt,fun W6 g c hr hf hg qN=>?_⟩
 have Pv:W6.heap[b]? = some (.cells #[.slice (some ⟨g0,0,none⟩) TS.length c0,.int .i64 (i:Int),v] 71 (0,0)):=(hf.block b hlt (fun e=>hvb b e rfl)).trans a1
 have hgb:g≠b:=by
  rcases hg with hg|hg
  ·exact hvb g hg
  ·omega
 have hne :∀k,k≠b→(W6.setCell ⟨b,2,none⟩ (.slice (some ⟨g,0,none⟩) (L.length+1) c)).heap[k]? = W6.heap[k]?:=fun k hk=>Below.heap_setCell _ _ _ k hk
 have hst :∀{k},Ei W k→Ei (W6.setCell ⟨b,2,none⟩ (.slice (some ⟨g,0,none⟩) (L.length+1) c)) k:=fun hk=>(ay.vp Pv (show(71:Nat)≠9 by decide) 2 (.slice (some ⟨g,0,none⟩) (L.length+1) c)).keeps (hf.keeps hk)
 have hsz:(W6.setCell ⟨b,2,none⟩ (.slice (some ⟨g,0,none⟩) (L.length+1) c)).heap.size=W6.heap.size:=by simp[World.setCell]
 have Gz :∀k,v.ownBlock=some k→∃cur,W.heap[k]? = some (.cells cur 55 (0,0)):=fun k hk=>eS a6.row hk
 have hrow :∀{e:TypeId} {s n:Nat} {u:Value} {xs:List Value},W.ownsRow (b+1) e s u n xs→e≠55→(W6.setCell ⟨b,2,none⟩ (.slice (some ⟨g,0,none⟩) (L.length+1) c)).ownsRow (b+1) e s u n xs:=fun{e s n u xs} h he=>dd h fun k hk=>by
  rw[hne k (by have:=(h.lt k hk).1;omega)]
  refine hf.block k (h.lt k hk).2 (fun e'=>?_)
  obtain⟨c1,h1⟩:=Gz k e';obtain⟨c2,h2⟩:=eS h hk;rw[h1] at h2;injection h2 with h2;injection h2 with _ h2;exact he h2.symm
 refine⟨by simp[World.cell?,Pv],by simp[World.frozen?,Pv],ay.vp Pv (by decide) 2 _,⟨⟨TS,i,g0,c0,_,L++[(x,nv,kv)],(gV Pv _),?_,a3,a4,a5,⟨?_,fun k hk=>.inr (.inr (by simpa[Value.ownBlock] using hk.symm)),fun t ht=>?_⟩,by rw[l9,a7];rfl⟩,h.fin,.inl h.at_,fun k hk=>?_⟩⟩
 ·exact a2.kept ((hne g0 (by omega)).trans (hf.block g0 (by omega) (fun e=>by have:=(a6.row.lt g0 e).1;omega))) (by rw[hsz];exact hf.size)
 ·have:(L++[(x,nv,kv)]).length=L.length+1:=by simp
  rw[this];exact dd hr fun k hk=>hne k (by
   have:k=g:=by simpa[Value.ownBlock] using hk.symm
   rw[this];exact hgb)
 ·rcases dj.1 ht with ht|ht
  ·have hn:=a6.each t ht
   exact⟨hrow hn.names (by decide),hrow hn.kids (by decide),fun k hk=>(hn.on k hk).imp .inl hst,hn.nz,fun k hk=>.inl (hn.ok k hk)⟩
  ·obtain rfl:=bR.1 ht
   exact⟨hrow hi.names (by decide),hrow hi.kids (by decide),fun k hk=>(hi.on k hk).imp (fun h=>.inr (.inl h)) hst,hi.nz,fun k hk=>.inr (.inl (hi.ok k hk))⟩
 ·rw[hsz]
  have:=hf.size;rcases hk with hk|hk|rfl
  ·have:=h.own k hk;omega
  ·have:=GU k hk;omega
  ·have:=(hr.lt k rfl).1;omega
theorem WD {w:World} {b:Nat} {On:Nat→Prop} {x:Nd} {nv kv:Value} (hi:jB w b On x nv kv) (GU :∀k,On k→b<k∧k<w.heap.size) (hb:b<w.heap.size) :
  NU (w.alloc (.cells (aP (x,nv,kv)).toArray 55)) b w.heap.size (fun k=>On k∨k=w.heap.size) x :=
 ⟨⟨nv,kv,World.alloc_heap_new w _,hi.kept (O1:=fun _=>False) ((ay.refl _ _).alloc _) (fun _ _ h=>h) (fun g hg=>.inl hg)⟩,.inr rfl,fun k hk=>by
  rcases hk with hk|rfl
  ·have:=GU k hk;simp;omega
  ·simp;exact hb⟩
theorem Ew {W:World} {b n:Nat} {Op On:Nat→Prop} {T0 T:List Nd} {h:Nd} {xs:List Ast} {ks:List Int} {ts:List aj} (hp:PS W b Op ts T) (hn:NU W b n On { h with kids:=ks}) (hd :∀k,Op k→¬ On k) (hl:ei T0 T xs ks):Real W b n (fun k=>Op k∨On k) T0 ⟨h,xs,ts,T.length⟩ :=
 ⟨Op,On,T,ks,fun _=>Iff.rfl,hd,hp,hn,hl,rfl⟩
theorem wj {a b:Int} {v:Value} (h:a=b):Ending.returned (.tuple #[.int .i64 a,v])=.returned (.tuple #[.int .i64 b,v]):=by rw[h]
theorem xV (b:Nat) (Op On:Nat→Prop) (t:aj) (ts:List aj) (T0 T:List Nd) (x:Nd) (l:Int) (xs:List Ast) (ks:List Int) (nv kv pv:Value) (cP:List cg) (R:Except Int (Ast×List aj)→Prop) (w:World)
  (hp:PS w b Op (t::ts) T) (hi:jB w b On { x with kids:=ks} nv kv) (hd :∀k,Op k→¬ On k) (GU :∀k,On k→b<k∧k<w.heap.size) (hl:ei T0 T xs ks) (Ex:aN w b (fun k=>Op k∨On k) pv cP) (h0:(x.line=0∧l=t.2.1)∨(x.line≠0∧l=x.line))
  (hk:aI cP ⟨{ x with line:=l},xs,t::ts,T.length⟩ (fun s=>s.n≤200000∧R (.ok (.mk s.h s.xs,s.ts))) (fun l=>R (.error l))) :
  Calls Tryz.prog 19 #[.pointer (some ⟨b,0,none⟩),cY x nv kv,pv] w (aH b (fun k=>Op k∨On k) T0 R w):=by
 obtain⟨Av,mv,rfl⟩:=Ex.form;obtain⟨An,cn,rfl,_⟩:=bF hi.names;obtain⟨Ak,ck,rfl,_⟩:=bF hi.kids;obtain⟨t0,t1,t2,t3⟩:=t;obtain⟨x0,x1,x2,x3,x4,x5,x6⟩:=x;have HP:=aa hp;have HI:=aa hi;have hbl:b<w.heap.size:=(hp.own b hp.at_).2;have HU:=aa (WD (x:=⟨x0,x1,x2,x3,x4,x5,ks⟩) hi GU hbl);have HA:=aa (fun W hW=>cH b Op (t0,t1,t2,t3) ts T W hW)
 unfold fQ at HA;dsimp only at HA
 have F1:=Lo t0 t1 t2 (bC t3);generalize bC t3=S at *;have HPT:=aa Ex;have HK:=aa hk;have HL:=aa hl;have HD:=aa hd;have HON:=aa GU;have qU :∀k,Op k→k<w.heap.size:=fun k hk=>(hp.own k hk).2
 have Q8:=aa qU;have hEx:Ext (fun k=>Op k∨On k) (fun k=>Op k∨(On k∨k=w.heap.size)) w:=fun k hk=>by
  rcases hk with hk|hk|rfl
  ·exact .inl (.inl hk)
  ·exact .inl (.inr hk)
  ·exact .inr (ah _)
 have YU:=aa hEx;have hd3 :∀k,Op k→¬ (On k∨k=w.heap.size):=fun k hk h=>by
  rcases h with h|rfl
  ·exact hd k hk h
  ·have:=qU _ hk;omega
 have HD3:=aa hd3;clear hp hi Ex hk hl hd GU qU hEx hd3;unfold cY;dsimp only at h0 ⊢
 rcases h0 with ⟨h1,h2⟩ | ⟨h1,h2⟩
 ·subst h1 h2
  have fa:ay (fun k=>Op k∨On k) w (w.alloc (.cells #[.int .i64 x0,.int .i64 0,.int .i64 x2,.int .i64 x3,.string x4,.slice An x5.length cn,.slice Ak ks.length ck] 55)):=(ay.refl _ _).alloc _
  have HFA:=aa fa;have P1:=aa (HP.out.below ((Below.refl _ _).alloc (ah _) (.cells #[.int .i64 x0,.int .i64 0,.int .i64 x2,.int .i64 x3,.string x4,.slice An x5.length cn,.slice Ak ks.length ck] 55)));clear fa;go_enter Tryz.func19,Tryz.ntmps19
  go_wp2_with fail
  refine(HA.out _ P1.out).mono ?_;rintro e w2 ⟨rfl,b2⟩;have U2:=aa (HU.out.below b2);have P2:=aa (P1.out.below b2);obtain⟨nv2,kv2,hc2,_,hz2⟩:=U2.out.cells;have c1:=hc2.c1;have z1:=hz2 1;have FR2:=aa (HFA.out.trans (ay.ae (O:=fun k=>Op k∨On k) b2) (Ext.refl _ _))
  have jz:w.heap.size<w2.heap.size:=by have:=b2.size;simp at this;omega
  clear b2 hc2 hz2;go_wp2_with fail
  have RL:=aa (Ew (h:=⟨x0,l,x2,x3,x4,x5,x6⟩) (P2.out.kept (O1:=(· = w.heap.size)) (U2.out.fr 1 (.int .i64 l)) (fun k hk e=>by have:=Q8.out k hk;omega) fun k e=>by omega)
   (U2.out.pU (y:=⟨x0,l,x2,x3,x4,x5,ks⟩) 1 (.int .i64 l) rfl rfl fun _ _=>rfl) HD3.out HL.out)
  have Q9:=aa (FR2.out.trans (U2.out.fr 1 (.int .i64 l)) (fun k hk=>.inr (Nat.le_of_eq hk.symm)))
  clear P2 U2 FR2 c1 z1;generalize w2.setCell ⟨w.heap.size,1,none⟩ (.int .i64 l)=w3 at *;refine(tQ b w.heap.size _ T0 _ _ _ _ cP w3 RL.out (HPT.out.later Q9.out YU.out) HK.out).mono ?_;rintro e w4 ⟨f4,h4⟩;have Pt:=aa (Q9.out.trans f4 YU.out);rcases h4 with ⟨s4,O4,rfl,r4,e4,k4,kR⟩ | ⟨l4,v4,rfl,⟨g',rfl,hg1,hg2⟩,k4⟩
  ·obtain⟨Op4,On4,T4,GV,Uj,hd4,fN,pW,hl4,Wd⟩:=r4.ex
   have E4:=aa (YU.out.trans e4 Q9.out.size);obtain⟨nv4,kv4,xW,Lw⟩:=pW.ex;obtain⟨Lx,Ly,rfl,_⟩:=bF Lw.names;obtain⟨Ra,Rb,rfl,_⟩:=bF Lw.kids;obtain⟨s0,s1,s2,s3⟩:=s4;obtain⟨y0,y1,y2,y3,y4,y5,y6⟩:=s0;dsimp only at fN pW xW Lw hl4 Wd kR k4 Lx Ly
   have ab2:w.heap.size<w4.heap.size:=(pW.own _ pW.at_).2;have q0:w4.cell? ⟨w.heap.size,0,none⟩=some (.int .i64 y0):=by simp[World.cell?,xW,aP]
   have q1:w4.cell? ⟨w.heap.size,1,none⟩=some (.int .i64 y1):=by simp[World.cell?,xW,aP]
   have q2:w4.cell? ⟨w.heap.size,2,none⟩=some (.int .i64 y2):=by simp[World.cell?,xW,aP]
   have q3:w4.cell? ⟨w.heap.size,3,none⟩=some (.int .i64 y3):=by simp[World.cell?,xW,aP]
   have q4:w4.cell? ⟨w.heap.size,4,none⟩=some (.string y4):=by simp[World.cell?,xW,aP]
   have q5:w4.cell? ⟨w.heap.size,5,none⟩=some (.slice Lx y5.length Ly):=by simp[World.cell?,xW,aP]
   have q6:w4.cell? ⟨w.heap.size,6,none⟩=some (.slice Ra GV.length Rb):=by simp[World.cell?,xW,aP]
   obtain⟨v5,L5,wk,cb2,fb2,hrow,hvo,hB,gd⟩:=fN.more Lw pW.own;obtain⟨Av5,cv5,rfl,_⟩:=bF hrow;have ab3:b<w4.heap.size:=by omega
   have Lv:=aa hrow;have HV5:=aa hvo;have HM5:=aa gd;have HLL:=aa wk;have HL4:=aa hl4;have HO4:=aa Uj;have OB:=aa fN.at_;have KR:=aa kR;have hL5:L5.length≤200000:=by omega
   clear f4 r4 e4 Uj hd4 fN pW hl4 xW Lw hrow hvo gd wk kR k4 Wd;go_wp2_with fail
   have HZ:Hid ((w4.alloc (.cells #[.int .i64 y0,.int .i64 y1,.int .i64 y2,.int .i64 y3,.string y4,.slice Lx y5.length Ly,.slice Ra GV.length Rb] 55)).drew.heap[w4.heap.size]? = some (.cells #[.int .i64 y0,.int .i64 y1,.int .i64 y2,.int .i64 y3,.string y4,.slice Lx y5.length Ly,.slice Ra GV.length Rb] 55 (0,0))):=aa (World.alloc_heap_new w4 _);go_region_law ((refine wi w4 _ (⟨y0,y1,y2,y3,y4,y5,GV⟩,.slice Lx y5.length Ly,.slice Ra GV.length Rb) (by rfl) _ _ (by rfl) b (.slice Av5 L5.length cv5) L5 (by rfl) Lv.out (fun i hi=>Below.heap_alloc w4 _ i hi) w4.heap.size rfl (by rfl) HZ.out (by intro u hu;simp[aP] at hu;rcases hu with rfl|rfl|rfl|rfl|rfl|rfl|rfl<;>rfl) (by omega) hB ⟨rfl,rfl,rfl,by simp[World.drew],fun k hk=>Below.heap_alloc w4 _ k hk⟩ ?_;intro g6 c6 w6 r6 f6 o6 l6;have Lz:=HM5.out w6 g6 c6 r6 f6 o6 l6;have cb6:=Lz.1;have fb6:=Lz.2.1;have R6:=aa Lz.2.2.1;have P6:=aa Lz.2.2.2;have F6:=aa f6;have O6:=aa o6;clear r6 f6 o6 l6 Lz))
   all_goals
    have WE:w4.heap.size≤w6.heap.size:=F6.out.size;have ab4:b<w6.heap.size:=by omega
    go_wp2
    go_ret2
    have hop :∀k,Op4 k→O4 k:=fun k hk=>(HO4.out k).2 (.inl hk)
    have hon :∀k,On4 k→O4 k:=fun k hk=>(HO4.out k).2 (.inr hk)
    have f7:ay O4 w4 (w6.setCell ⟨b,2,none⟩ (.slice (some ⟨g6,0,none⟩) (L5.length+1) c6)):=(F6.out.mono (O1:=O4) fun k hk=>hop k (HV5.out k hk).1).trans R6.out (fun k hk=>.inl (hk▸hop b OB.out))
    refine⟨Pt.out.trans f7 E4.out,.inl ⟨T4.length,.mk ⟨y0,y1,y2,y3,y4,y5,y6⟩ s1,s2,fun k=>Op4 k∨On4 k∨k=g6,T4++[⟨y0,y1,y2,y3,y4,y5,GV⟩],wj (by have:=HLL.out;omega),P6.out,fun k hk=>?_,HL4.out.node ⟨y0,y1,y2,y3,y4,y5,y6⟩,KR.out⟩⟩
    rcases hk with hk|hk|rfl
    ·exact E4.out k (hop k hk)
    ·exact E4.out k (hon k hk)
    ·rcases O6.out with h|h
     ·exact E4.out _ (hop _ (HV5.out _ h).1)
     ·exact .inr (by have:=Pt.out.size;omega)
  ·have M2:=aa hg2
   have HG:=aa (aL Q9.out.size hg1);have K4:=aa k4;clear f4 hg1 hg2 k4;go_wp2_with fail
   go_ret2
   exact⟨Pt.out,.inr ⟨l4,_,_,rfl,⟨g',rfl,HG.out,M2.out⟩,K4.out⟩⟩
 ·subst h2
  have g1:(l == 0)=false:=aG.2 h1;have fa:ay (fun k=>Op k∨On k) w (w.alloc (.cells #[.int .i64 x0,.int .i64 l,.int .i64 x2,.int .i64 x3,.string x4,.slice An x5.length cn,.slice Ak ks.length ck] 55)):=(ay.refl _ _).alloc _
  have Q9:=aa fa;have P1:=aa (HP.out.below ((Below.refl _ _).alloc (ah _) (.cells #[.int .i64 x0,.int .i64 l,.int .i64 x2,.int .i64 x3,.string x4,.slice An x5.length cn,.slice Ak ks.length ck] 55)));have RL:=aa (Ew (h:=⟨x0,l,x2,x3,x4,x5,x6⟩) P1.out HU.out HD3.out HL.out);clear fa h1 P1 HU;go_enter Tryz.func19,Tryz.ntmps19
  go_wp2_with fail
  generalize w.alloc (.cells #[.int .i64 x0,.int .i64 l,.int .i64 x2,.int .i64 x3,.string x4,.slice An x5.length cn,.slice Ak ks.length ck] 55)=w3 at *;refine(tQ b w.heap.size _ T0 _ _ _ _ cP w3 RL.out (HPT.out.later Q9.out YU.out) HK.out).mono ?_;rintro e w4 ⟨f4,h4⟩;have Pt:=aa (Q9.out.trans f4 YU.out);rcases h4 with ⟨s4,O4,rfl,r4,e4,k4,kR⟩ | ⟨l4,v4,rfl,⟨g',rfl,hg1,hg2⟩,k4⟩
  ·obtain⟨Op4,On4,T4,GV,Uj,hd4,fN,pW,hl4,Wd⟩:=r4.ex
   have E4:=aa (YU.out.trans e4 Q9.out.size);obtain⟨nv4,kv4,xW,Lw⟩:=pW.ex;obtain⟨Lx,Ly,rfl,_⟩:=bF Lw.names;obtain⟨Ra,Rb,rfl,_⟩:=bF Lw.kids;obtain⟨s0,s1,s2,s3⟩:=s4;obtain⟨y0,y1,y2,y3,y4,y5,y6⟩:=s0;dsimp only at fN pW xW Lw hl4 Wd kR k4 Lx Ly
   have ab2:w.heap.size<w4.heap.size:=(pW.own _ pW.at_).2;have q0:w4.cell? ⟨w.heap.size,0,none⟩=some (.int .i64 y0):=by simp[World.cell?,xW,aP]
   have q1:w4.cell? ⟨w.heap.size,1,none⟩=some (.int .i64 y1):=by simp[World.cell?,xW,aP]
   have q2:w4.cell? ⟨w.heap.size,2,none⟩=some (.int .i64 y2):=by simp[World.cell?,xW,aP]
   have q3:w4.cell? ⟨w.heap.size,3,none⟩=some (.int .i64 y3):=by simp[World.cell?,xW,aP]
   have q4:w4.cell? ⟨w.heap.size,4,none⟩=some (.string y4):=by simp[World.cell?,xW,aP]
   have q5:w4.cell? ⟨w.heap.size,5,none⟩=some (.slice Lx y5.length Ly):=by simp[World.cell?,xW,aP]
   have q6:w4.cell? ⟨w.heap.size,6,none⟩=some (.slice Ra GV.length Rb):=by simp[World.cell?,xW,aP]
   obtain⟨v5,L5,wk,cb2,fb2,hrow,hvo,hB,gd⟩:=fN.more Lw pW.own;obtain⟨Av5,cv5,rfl,_⟩:=bF hrow;have ab3:b<w4.heap.size:=by omega
   have Lv:=aa hrow;have HV5:=aa hvo;have HM5:=aa gd;have HLL:=aa wk;have HL4:=aa hl4;have HO4:=aa Uj;have OB:=aa fN.at_;have KR:=aa kR;have hL5:L5.length≤200000:=by omega
   clear f4 r4 e4 Uj hd4 fN pW hl4 xW Lw hrow hvo gd wk kR k4 Wd;go_wp2_with fail
   have HZ:Hid ((w4.alloc (.cells #[.int .i64 y0,.int .i64 y1,.int .i64 y2,.int .i64 y3,.string y4,.slice Lx y5.length Ly,.slice Ra GV.length Rb] 55)).drew.heap[w4.heap.size]? = some (.cells #[.int .i64 y0,.int .i64 y1,.int .i64 y2,.int .i64 y3,.string y4,.slice Lx y5.length Ly,.slice Ra GV.length Rb] 55 (0,0))):=aa (World.alloc_heap_new w4 _);go_region_law ((refine wi w4 _ (⟨y0,y1,y2,y3,y4,y5,GV⟩,.slice Lx y5.length Ly,.slice Ra GV.length Rb) (by rfl) _ _ (by rfl) b (.slice Av5 L5.length cv5) L5 (by rfl) Lv.out (fun i hi=>Below.heap_alloc w4 _ i hi) w4.heap.size rfl (by rfl) HZ.out (by intro u hu;simp[aP] at hu;rcases hu with rfl|rfl|rfl|rfl|rfl|rfl|rfl<;>rfl) (by omega) hB ⟨rfl,rfl,rfl,by simp[World.drew],fun k hk=>Below.heap_alloc w4 _ k hk⟩ ?_;intro g6 c6 w6 r6 f6 o6 l6;have Lz:=HM5.out w6 g6 c6 r6 f6 o6 l6;have cb6:=Lz.1;have fb6:=Lz.2.1;have R6:=aa Lz.2.2.1;have P6:=aa Lz.2.2.2;have F6:=aa f6;have O6:=aa o6;clear r6 f6 o6 l6 Lz))
   all_goals
    have WE:w4.heap.size≤w6.heap.size:=F6.out.size;have ab4:b<w6.heap.size:=by omega
    go_wp2
    go_ret2
    have hop :∀k,Op4 k→O4 k:=fun k hk=>(HO4.out k).2 (.inl hk)
    have hon :∀k,On4 k→O4 k:=fun k hk=>(HO4.out k).2 (.inr hk)
    have f7:ay O4 w4 (w6.setCell ⟨b,2,none⟩ (.slice (some ⟨g6,0,none⟩) (L5.length+1) c6)):=(F6.out.mono (O1:=O4) fun k hk=>hop k (HV5.out k hk).1).trans R6.out (fun k hk=>.inl (hk▸hop b OB.out))
    refine⟨Pt.out.trans f7 E4.out,.inl ⟨T4.length,.mk ⟨y0,y1,y2,y3,y4,y5,y6⟩ s1,s2,fun k=>Op4 k∨On4 k∨k=g6,T4++[⟨y0,y1,y2,y3,y4,y5,GV⟩],wj (by have:=HLL.out;omega),P6.out,fun k hk=>?_,HL4.out.node ⟨y0,y1,y2,y3,y4,y5,y6⟩,KR.out⟩⟩
    rcases hk with hk|hk|rfl
    ·exact E4.out k (hop k hk)
    ·exact E4.out k (hon k hk)
    ·rcases O6.out with h|h
     ·exact E4.out _ (hop _ (HV5.out _ h).1)
     ·exact .inr (by have:=Pt.out.size;omega)
  ·have M2:=aa hg2
   have HG:=aa (aL Q9.out.size hg1);have K4:=aa k4;clear f4 hg1 hg2 k4;go_wp2_with fail
   go_ret2
   exact⟨Pt.out,.inr ⟨l4,_,_,rfl,⟨g',rfl,HG.out,M2.out⟩,K4.out⟩⟩
theorem aH.sub {b:Nat} {O O':Nat→Prop} {T0:List Nd} {R:Except Int (Ast×List aj)→Prop} {w:World} {e:Ending} {w':World} (h:aH b O T0 R w e w') (hO :∀k,O k→O' k):aH b O' T0 R w e w':=by
 obtain⟨h1,h2⟩:=h;refine⟨h1.mono hO,h2.imp ?_ id⟩;rintro⟨p,a,ts,O2,T,e1,p1,x1,l1,k1⟩;exact⟨p,a,ts,O2,T,e1,p1,fun k hk=>(x1 k hk).imp (hO k) id,l1,k1⟩
theorem aH.after {b:Nat} {O:Nat→Prop} {T0:List Nd} {R:Except Int (Ast×List aj)→Prop} {w w1:World} {e:Ending} {w':World} (h:aH b O T0 R w1 e w') (hf:ay O w w1):aH b O T0 R w e w':=by
 obtain⟨h1,h2⟩:=h;refine⟨hf.trans h1 (Ext.refl _ _),h2.imp ?_ ?_⟩
 ·rintro⟨p,a,ts,O2,T,e1,p1,x1,l1,k1⟩
  exact⟨p,a,ts,O2,T,e1,p1,(Ext.refl O w).trans x1 hf.size,l1,k1⟩
 ·rintro⟨l,v,er,e1,⟨g,m1,m2,m3⟩,k⟩
  exact⟨l,v,er,e1,⟨g,m1,aL hf.size m2,m3⟩,k⟩
theorem aH.ret {b:Nat} {O:Nat→Prop} {T0:List Nd} {R:Except Int (Ast×List aj)→Prop} {w:World} {e:Ending} {w':World} (h:aH b O T0 R w e w') :∃v er,e=.returned (.tuple #[v,er]):=by
 rcases h.2 with ⟨p,_,_,_,_,e1,_⟩ | ⟨_,v,er,e1,_⟩
 ·exact⟨_,_,e1⟩
 ·exact⟨v,er,e1⟩
theorem xX (b:Nat) (O:Nat→Prop) (f1 f2:FuncId) (km vr kl Cv:Array Value) (wp:iM) (mf:List aj→Bool×List aj) (w:World) (h1:One w b O (.func (.func f1) km vr) wp) (h2:xS w b O (.func (.func f2) kl Cv) mf) (hO :∀k,O k→k<w.heap.size) :
  Calls Tryz.prog 86 #[.func (.func f1) km vr,.func (.func f2) kl Cv] w (gX b O (lK wp mf) w):=by
 have H1:=aa h1;have H2:=aa h2;have HO:=aa hO;clear h1 h2 hO;go_enter Tryz.func86,Tryz.ntmps86
 go_wp2
 go_ret
 refine⟨_,rfl,((Below.refl _ _).alloc (ah _) _).alloc (by simp) _,?_,_,_,_,rfl⟩
 intro W1 O1 T0 s n K E hf he hr hk;have fa:ay O w (w.alloc (.cells #[.func (.func f1) km vr] 126)):=(ay.refl _ _).alloc _;have fb:=(ay.refl O (w.alloc (.cells #[.func (.func f1) km vr] 126))).alloc (.cells #[.func (.func f2) kl Cv] 22);have e1:=eI.new w O HO.out #[.func (.func f1) km vr] 126;have e2:=eI.new (w.alloc (.cells #[.func (.func f1) km vr] 126)) O (fun k hk=>by have:=HO.out k hk;simp;omega) #[.func (.func f2) kl Cv] 22
 rw[ao] at e2;have o1:=(H1.out.later fa (Ext.refl _ _)).later fb (Ext.refl _ _);have o2:=(H2.out.later fa (Ext.refl _ _)).later fb (Ext.refl _ _);exact⟨144,_,_,rfl,enters_of Tryz.func144 (by kernel_rfl) rfl,Q0 b n _ _ O1 T0 s K E _ _ wp mf W1 hr ((e1.later fb (Ext.refl _ _)).later hf he) (e2.later hf he) (o1.later hf he) (o2.later hf he) hk⟩
def mZ:List aj→Bool×List aj:=fun ts=>(false,ts)
def dw (wp:iM):cg:=lK wp mZ
theorem Rc (w:World) (b:Nat) (O:Nat→Prop):xS w b O (.func (.func 87) #[] #[]) mZ:=by
 intro W1 O1 T ts _ _ hp;refine⟨87,_,_,rfl,enters_of Tryz.func87 (by kernel_rfl) rfl,?_⟩
 show Calls Tryz.prog 87 #[] W1 _
 have HP:=aa hp;clear hp;go_enter Tryz.func87,Tryz.ntmps87
 go_wp2
 go_ret
 exact⟨rfl,HP.out,ay.refl _ _⟩
theorem Ae (b:Nat) (O:Nat→Prop) (f1:FuncId) (km vr:Array Value) (wp:iM) (w:World) (h1:One w b O (.func (.func f1) km vr) wp) (hO :∀k,O k→k<w.heap.size) :
  Calls Tryz.prog 43 #[.func (.func f1) km vr] w (gX b O (dw wp) w):=by
 have HC:=aa (xX b O f1 87 km vr #[] #[] wp mZ w h1 (Rc w b O) hO);clear h1 hO;go_enter Tryz.func43,Tryz.ntmps43
 go_wp2_with fail
 refine HC.out.mono ?_;rintro e w1 ⟨v,rfl,h2⟩;have H2:=aa h2;clear h2;go_wp2_with fail
 go_ret
 exact⟨_,rfl,H2.out⟩
def dO (x:Nd) (cP:List cg):iM:=fun ts n K E=>∃t r l,ts=t::r∧((x.line=0∧l=t.2.1)∨(x.line≠0∧l=x.line))∧aI cP ⟨{ x with line:=l},[],ts,n⟩ (fun s=>s.n≤200000∧K (.mk s.h s.xs) s.ts) E
def yP (W:World) (b:Nat) (xs:List ByteArray) (nv:Value):Prop:=W.ownsRow (b+1) 9 1 nv xs.length (xs.map Value.string)∧∀g,nv.ownBlock=some g→Ei W g∧xs≠[]
theorem yP.later {W W':World} {b:Nat} {O:Nat→Prop} {xs:List ByteArray} {nv:Value} (h:yP W b xs nv) (hf:ay O W W'):yP W' b xs nv:=⟨dd h.1 fun g hg=>hf.str g (h.2 g hg).1,fun g hg=>⟨hf.keeps (h.2 g hg).1,(h.2 g hg).2⟩⟩
theorem yP.nil (W:World) (b:Nat):yP W b [] (.slice none 0 0):=⟨World.ownsRow_nil _ _ _ _,fun g hg=>by simp[Value.ownBlock] at hg⟩
theorem yP.nd {W:World} {b:Nat} {x:Nd} {nv:Value} (h:yP W b x.names nv):jB W b (fun _=>False) { x with kids:=[]} nv (.slice none 0 0):=⟨h.1,World.ownsRow_nil _ _ _ _,fun g hg=>.inr (h.2 g hg).1,fun g hg=>(h.2 g hg).2,fun g hg=>by simp[Value.ownBlock] at hg⟩
theorem Re (b g1 g2 g3:Nat) (O:Nat→Prop) (ts:List aj) (T:List Nd) (x:Nd) (nv pv:Value) (cP:List cg) (K:Ast→List aj→Prop) (E:Int→Prop) (w:World) (hp:PS w b O ts T) (hn:yP w b x.names nv)
  (b1:eI w O g1 #[.pointer (some ⟨b,0,none⟩)] 116) (b2:eI w O g2 (aP (x,nv,.slice none 0 0)).toArray 55) (b3:eI w O g3 #[pv] 117) (Ex:aN w b O pv cP) (hk:dO x cP ts T.length K E) :
  Calls Tryz.prog 83 #[.pointer (some ⟨g1,0,none⟩),.pointer (some ⟨g2,0,none⟩),.pointer (some ⟨g3,0,none⟩)] w (aH b O T (RK K E) w):=by
 obtain⟨t,r,l,rfl,hl,hk⟩:=hk;obtain⟨An,cn,rfl,_⟩:=bF hn.1;have HN:=aa (xV b O (fun _=>False) t r T T x l [] [] _ (.slice none 0 0) pv cP (RK K E) w hp hn.nd (fun _ _ h=>h) (fun _ h=>h.elim) (ei.nil T) (Ex.later (ay.refl _ _) (fun k hk=>.inl (hk.elim id False.elim))) hl hk)
 have c1:=b1.cell 0;have c3:=b3.cell 0;obtain⟨x0,x1,x2,x3,x4,x5,x6⟩:=x;have q0:w.cell? ⟨g2,0,none⟩=some (.int .i64 x0):=b2.cell 0;have q1:w.cell? ⟨g2,1,none⟩=some (.int .i64 x1):=b2.cell 1;have q2:w.cell? ⟨g2,2,none⟩=some (.int .i64 x2):=b2.cell 2;have q3:w.cell? ⟨g2,3,none⟩=some (.int .i64 x3):=b2.cell 3;have q4:w.cell? ⟨g2,4,none⟩=some (.string x4):=b2.cell 4;have q5:w.cell? ⟨g2,5,none⟩=some (.slice An x5.length cn):=b2.cell 5;have q6:w.cell? ⟨g2,6,none⟩=some (.slice none 0 0):=b2.cell 6;unfold cY at HN;dsimp only at HN
 clear hp hn b1 b2 b3 Ex hl hk;go_enter Tryz.func83,Tryz.ntmps83
 go_wp2_with fail
 refine HN.out.mono ?_;intro e w1 h1;obtain⟨v,er,rfl⟩:=h1.ret;have H1:=aa (h1.sub (O':=O) fun k hk=>hk.elim id False.elim)
 clear h1 c1 c3 q0 q1 q2 q3 q4 q5 q6;go_wp2_with fail
 go_ret2
 exact H1.out
theorem qV (b:Nat) (O:Nat→Prop) (x:Nd) (nv pv:Value) (cP:List cg) (w:World) (hn:yP w b x.names nv) (Ex:aN w b O pv cP) (hO :∀k,O k→k<w.heap.size) :
  Calls Tryz.prog 39 #[.pointer (some ⟨b,0,none⟩),cY x nv (.slice none 0 0),pv] w (gX b O (dw (dO x cP)) w):=by
 obtain⟨An,cn,rfl,_⟩:=bF hn.1;obtain⟨A,m,rfl⟩:=Ex.form;obtain⟨x0,x1,x2,x3,x4,x5,x6⟩:=x;dsimp only at hn ⊢
 obtain⟨NV,hNV⟩ :∃NV,NV=(.slice An x5.length cn:Value):=⟨_,rfl⟩;obtain⟨w1,dZ⟩ :∃w1,w1=w.alloc (.cells #[.pointer (some ⟨b,0,none⟩)] 116):=⟨_,rfl⟩;obtain⟨w2,hw2⟩ :∃w2,w2=w1.alloc (.cells #[.int .i64 x0,.int .i64 x1,.int .i64 x2,.int .i64 x3,.string x4,.slice An x5.length cn,.slice none 0 0] 55):=⟨_,rfl⟩;obtain⟨w3,hw3⟩ :∃w3,w3=w2.alloc (.cells #[.slice A m m] 117):=⟨_,rfl⟩;have f1:ay O w w1:=by rw[dZ];exact(ay.refl _ _).alloc _
 have f2:ay O w1 w2:=by rw[hw2];exact(ay.refl _ _).alloc _
 have f3:ay O w2 w3:=by rw[hw3];exact(ay.refl _ _).alloc _
 have z1:w1.heap.size=w.heap.size+1:=by rw[dZ,ao]
 have z2:w2.heap.size=w.heap.size+1+1:=by rw[hw2,ao,z1]
 have b1:eI w1 O w.heap.size #[.pointer (some ⟨b,0,none⟩)] 116:=by rw[dZ];exact eI.new w O hO _ _
 have b2:eI w2 O (w.heap.size+1) #[.int .i64 x0,.int .i64 x1,.int .i64 x2,.int .i64 x3,.string x4,.slice An x5.length cn,.slice none 0 0] 55:=by rw[hw2,←z1];exact eI.new w1 O (fun k hk=>by have:=hO k hk;omega) _ _
 have b3:eI w3 O (w.heap.size+1+1) #[.slice A m m] 117:=by rw[hw3,←z2];exact eI.new w2 O (fun k hk=>by have:=hO k hk;omega) _ _
 have f12:=f1.trans f2 (Ext.refl _ _);have f13:=f12.trans f3 (Ext.refl _ _);have Af:One w3 b O (.func (.func 83) #[] #[.pointer (some ⟨w.heap.size,0,none⟩),.pointer (some ⟨w.heap.size+1,0,none⟩),.pointer (some ⟨w.heap.size+1+1,0,none⟩)]) (dO ⟨x0,x1,x2,x3,x4,x5,x6⟩ cP):=by
  intro W1 O1 T ts K E hf he hp hk;refine⟨83,_,_,rfl,enters_of Tryz.func83 (by kernel_rfl) rfl,?_⟩
  exact Re b _ _ _ O1 ts T ⟨x0,x1,x2,x3,x4,x5,x6⟩ _ _ cP K E W1 hp ((hn.later f13).later hf) (((b1.later f2 (Ext.refl _ _)).later f3 (Ext.refl _ _)).later hf he) ((b2.later f3 (Ext.refl _ _)).later hf he) (b3.later hf he) ((Ex.later f13 (Ext.refl _ _)).later hf he) hk
 have HK:=aa (Ae b O 83 _ _ _ w3 Af fun k hk=>by have:=hO k hk;have:=f13.size;omega)
 have HF:=aa f13;have HB:Hid (Below w.heap.size w w3):=aa (by
  rw[hw3,hw2,dZ];exact(((Below.refl _ _).alloc (ah _) _).alloc (by simp) _).alloc (by simp;omega) _)
 rw[hw3,hw2,dZ] at HK HB;clear hn Ex hO hNV dZ hw2 hw3 f1 f2 f3 z1 z2 b1 b2 b3 f12 f13 Af HF;unfold cY;dsimp only
 go_enter Tryz.func39,Tryz.ntmps39
 go_wp2_with fail
 refine HK.out.mono ?_;rintro e w1 ⟨v,rfl,b1,h2⟩;have H2:=aa h2;have B1:=aa (aB HB.out b1);clear h2 b1;go_wp2_with fail
 go_ret
 exact⟨_,rfl,B1.out,H2.out⟩
abbrev jE (W:World) (b:Nat) (v:Value) (xs:List ByteArray):Prop:=W.ownsRow (b+1) 9 1 v xs.length (xs.map Value.string)
theorem LB:(Tryz.prog.info? 9).map (fun i=>(i.zero,i.size,i.bytes))=some (some (.string ⟨#[]⟩),1,16):=by kernel_rfl
theorem LC {W:World} {B B' e s n:Nat} {v:Value} {xs:List Value} (h:W.ownsRow B e s v n xs) (hB:B'≤B):W.ownsRow B' e s v n xs:=by
 refine⟨h.1,?_⟩;rcases h.2 with h2 | ⟨g,cap,cur,e1,h2,rest⟩
 ·exact .inl h2
 ·exact .inr ⟨g,cap,cur,e1,aL hB h2,rest⟩
theorem ay.Ey {O:Nat→Prop} {w w':World} (h:w.grownBy w' none):ay O w w':=ay.ae ⟨h.os,h.tape,h.output,h.size,fun k hk=>h.block k hk (by simp)⟩
theorem LD (ty:TypeId) (w:World) (b:Nat) (v xv:Value) (ls ns:List ByteArray) (hown:jE w b v ls) (hnz :∀g,v.ownBlock=some g→ls≠[]) (hx:jE w b xv ns) (hne:ns≠[]) (h1:ls.length≤1000000) (h2:ns.length≤1000000) (hB:b+1≤w.heap.size) :
  ∃g c w',(Builtin.append_ #[53,53] ty #[v,xv]).run Tryz.prog w=.ok (.slice (some ⟨g,0,none⟩) (ls.length+ns.length) c) w'∧jE w' b (.slice (some ⟨g,0,none⟩) (ls.length+ns.length) c) (ls++ns)∧ay (fun k=>v.ownBlock=some k) w w'∧((v.ownBlock=some g∧¬ Ei w g)∨w.heap.size≤g)∧g<w'.heap.size:=by
 obtain⟨i0,mL,hz0,hz1,hz2⟩:=info_parts LB;have hm:0<ns.length:=vG.2 hne;obtain⟨gx,cx,rfl,_,_⟩:=hx.form hm;have CN :∀j u,(ns.map Value.string)[j]? = some u→w.cell? ((⟨gx,0,none⟩:Addr).add j)=some u:=fun j u hj=>hx.cells (g:=gx) rfl j u hj
 have hoc :∀u∈ns.map Value.string,u.oneCell'=true:=fun u hu=>by obtain⟨z,_,rfl⟩:=jr.1 hu;rfl
 have key :∀v' w',w'.ownsRow w.heap.size 9 1 v' (ls.length+ns.length) (ls.map Value.string++ns.map Value.string)→w.grownBy w' none→∃g c,v'=.slice (some ⟨g,0,none⟩) (ls.length+ns.length) c∧jE w' b (.slice (some ⟨g,0,none⟩) (ls.length+ns.length) c) (ls++ns)∧w.heap.size≤g∧g<w'.heap.size:=fun v' w' r1 r2=>by
  obtain⟨g,c,rfl,h3,h4⟩:=r1.form (by omega)
  refine⟨g,c,rfl,?_,h3,h4⟩;unfold jE;rw[cC,l9];exact LC r1 (by omega)
 rcases hown.2 with ⟨rfl,hn⟩ | ⟨g0,cap,cur,rfl,hg0,hh,hnc,_,hcs,_⟩
 ·have QD:ls=[]:=pw hn
  subst QD;obtain⟨v',w',hrun,r1,r2,_⟩:=run_append_own (P:=Tryz.prog) w w.heap.size 53 ty 9 i0 (.string ⟨#[]⟩) 1 16 Tryz.underlying53 mL hz0 hz1 hz2 rfl (by omega) (.slice none 0 0) 0 [] (World.ownsRow_nil w _ 9 1) ⟨gx,0,none⟩ ns.length cx (ns.map Value.string) (by simp) CN hoc (by unfold maxLen;omega) (by omega) (ah _)
  obtain⟨g,c,rfl,h3,h4,h5⟩:=key v' w' (by simpa using r1) (by simpa[Value.ownBlock] using r2)
  exact⟨g,c,w',hrun,h3,ay.Ey (by simpa[Value.ownBlock] using r2),.inr h4,h5⟩
 ·by_cases hroom:ls.length+ns.length≤cap
  ·have hl0:0<ls.length:=vG.2 (hnz g0 rfl)
   have hns:¬ Ei w g0:=fun⟨s,f,hs⟩=>by
    rw[hh] at hs;injection hs with hs;injection hs with hs;rw[hs] at hcs;simp at hcs;omega
   obtain⟨g,c,w',hrun,r1,r2,r3,r4⟩:=run_append_lies (P:=Tryz.prog) w 53 ty (b+1) 9 i0 (.string ⟨#[]⟩) 1 16 Tryz.underlying53 mL hz0 hz1 hz2 rfl (by omega) _ ls.length (ls.map Value.string) hown ⟨gx,0,none⟩ ns.length cx (ns.map Value.string) (by simp) CN hoc hm (by unfold maxLen;omega) (by omega) hB w.heap.size rfl
   refine⟨g,c,w',hrun,?_,⟨r2.os,r2.tape,r2.output,r2.size,fun k hk hO=>r2.block k hk (fun e=>hO e.symm),fun k hk=>r2.block k hk.lt (fun e=>by
    have:k=g0:=by simpa[Value.ownBlock] using e
    exact hns (this▸hk))⟩,?_,r4⟩
   ·unfold jE
    rw[cC,l9];exact r1
   ·rcases r3 with r3|r3
    ·have:g0=g:=by simpa[Value.ownBlock] using r3
     exact .inl ⟨r3,this▸hns⟩
    ·exact .inr (by omega)
  ·obtain⟨v',w',hrun,r1,r2⟩:=run_append_arg_grows (P:=Tryz.prog) w 53 ty 9 i0 (.string ⟨#[]⟩) 1 16 Tryz.underlying53 mL hz0 hz1 hz2 rfl (by omega) ⟨g0,0,none⟩ ls.length cap (ls.map Value.string) (by simp) (fun j u hj=>hown.cells (g:=g0) rfl j u hj) ⟨gx,0,none⟩ ns.length cx (ns.map Value.string) (by simp) CN (by omega) (by unfold maxLen;omega) (by omega)
   obtain⟨g,c,rfl,h3,h4,h5⟩:=key v' w' r1 r2;exact⟨g,c,w',hrun,h3,ay.Ey r2,.inr h4,h5⟩
theorem Ez {o:Oper} {a:Act} {K:Act→World→Prop} {Q:Exit→Act→World→Prop} (w:World) (s x:Operand)
  (ho:o.op=.call { callee:=.builtin .append,args:=#[s,x],argTypes:=#[53,53]}) (b:Nat) (v xv:Value) (ls ns:List ByteArray) (hs:a.eval s=v) (hown:jE w b v ls) (hnz :∀g,v.ownBlock=some g→ls≠[]) (hx:a.eval x=xv) (hxr:jE w b xv ns) (hne:ns≠[]) (h1:ls.length≤1000000) (h2:ns.length≤1000000) (hB:b+1≤w.heap.size)
  (h :∀g c w',jE w' b (.slice (some ⟨g,0,none⟩) (ls.length+ns.length) c) (ls++ns)→ay (fun k=>v.ownBlock=some k) w w'→((v.ownBlock=some g∧¬ Ei w g)∨w.heap.size≤g)→g<w'.heap.size→K (a.put o.dst (.slice (some ⟨g,0,none⟩) (ls.length+ns.length) c)) w'):o.wp Tryz.prog a w K Q:=by
 obtain⟨g,c,w',hr,r1,r2,r3,r4⟩:=LD o.type w b v xv ls ns hown hnz hxr hne h1 h2 hB;unfold Oper.wp execOp;simp only[ho,resolve,invoke,builtin,Sem.run_bind,Sem.run_pure,Result.andThen_ok,J0,fW,List.map_nil,hs,hx,hr];exact h g c w' r1 r2 r3 r4
theorem Ag {ops:Array Oper} {rest:List Oper} {o:Oper} {a:Act} {Q:Exit→Act→World→Prop} (w:World) (hgd:o.guard=none) (s x:Operand)
  (ho:o.op=.call { callee:=.builtin .append,args:=#[s,x],argTypes:=#[53,53]}) (b:Nat) (v xv:Value) (ls ns:List ByteArray) (hs:a.eval s=v) (hown:jE w b v ls) (hnz :∀g,v.ownBlock=some g→ls≠[]) (hx:a.eval x=xv) (hxr:jE w b xv ns) (hne:ns≠[]) (h1:ls.length≤1000000) (h2:ns.length≤1000000) (hB:b+1≤w.heap.size)
  (h :∀g c w',jE w' b (.slice (some ⟨g,0,none⟩) (ls.length+ns.length) c) (ls++ns)→ay (fun k=>v.ownBlock=some k) w w'→((v.ownBlock=some g∧¬ Ei w g)∨w.heap.size≤g)→g<w'.heap.size→wpList Tryz.prog ops Q rest (a.put o.dst (.slice (some ⟨g,0,none⟩) (ls.length+ns.length) c)) w'):wpList Tryz.prog ops Q (o::rest) a w :=
 wpList_plain hgd fun _ hK=>Ez w s x ho b v xv ls ns hs hown hnz hx hxr hne h1 h2 hB fun g c w' r1 r2 r3 r4=>hK _ _ (h g c w' r1 r2 r3 r4)
theorem GW {ops:Array Oper} {o:Oper} {a:Act} {K:Act→World→Prop} {Q:Exit→Act→World→Prop} {E:Prop} (w:World) (hgd:o.guard=none) (s x:Operand)
  (ho:o.op=.call { callee:=.builtin .append,args:=#[s,x],argTypes:=#[53,53]}) (b:Nat) (v xv:Value) (ls ns:List ByteArray) (hs:a.eval s=v) (hown:jE w b v ls) (hnz :∀g,v.ownBlock=some g→ls≠[]) (hx:a.eval x=xv) (hxr:jE w b xv ns) (hne:ns≠[]) (h1:ls.length≤1000000) (h2:ns.length≤1000000) (hB:b+1≤w.heap.size)
  (h :∀g c w',jE w' b (.slice (some ⟨g,0,none⟩) (ls.length+ns.length) c) (ls++ns)→ay (fun k=>v.ownBlock=some k) w w'→((v.ownBlock=some g∧¬ Ei w g)∨w.heap.size≤g)→g<w'.heap.size→K (a.put o.dst (.slice (some ⟨g,0,none⟩) (ls.length+ns.length) c)) w') :
  if Region.wanted o (yielded ops a.tmps)=true then Oper.wp Tryz.prog o a w K Q else E:=by
 have hw:Region.wanted o (yielded ops a.tmps)=true:=by simp[Region.wanted,hgd]
 rw[al hw];exact Ez w s x ho b v xv ls ns hs hown hnz hx hxr hne h1 h2 hB h
abbrev YV:=Int×List aj→Bool×Int×List aj
def LF (W:World) (b n:Nat) (Op On:Nat→Prop) (v:Value) (mf:YV):Prop :=
 ∀W1 x ts T,ay (fun k=>k=b∨k=n) W W1→PS W1 b Op ts T→NU W1 b n On x →
  Ej v #[] W1 fun e w'=>e=.returned (.bool (mf (x.num,ts)).1)∧PS w' b Op (mf (x.num,ts)).2.2 T∧NU w' b n On { x with num:=(mf (x.num,ts)).2.1}∧ay (fun k=>k=b∨k=n) W1 w'
def tW (mf:YV):Nat→Int→List aj→List ByteArray→(Int→List ByteArray→List aj→Prop)→(Int→Prop)→Prop
 | 0,_,_,_,_,_=>False
 | k+1,m,ts,acc,K,E=>∃t r,ts=t::r∧(t.1≠1→E t.2.1)∧(t.1=1→((mf (m,r)).1=true→tW mf k (mf (m,r)).2.1 (mf (m,r)).2.2 (acc++[bC t.2.2.2]) K E)∧((mf (m,r)).1=false→K (mf (m,r)).2.1 (acc++[bC t.2.2.2]) (mf (m,r)).2.2))
def Rf (b n:Nat) (Op On:Nat→Prop) (x:Nd) (T:List Nd) (K:Int→List ByteArray→List aj→Prop) (E:Int→Prop) (w:World) (e:Ending) (w':World):Prop :=
 ay (fun k=>k=b∨k=n) w w'∧∃m,NU w' b n On { x with num:=m}∧((∃v xs ts,e=.returned (.tuple #[v,.nilIface])∧PS w' b Op ts T∧jE w' b v xs∧(∀g,v.ownBlock=some g→w.heap.size≤g)∧xs≠[]∧xs.length≤100000∧K m xs ts) ∨
  (∃l er,e=.returned (.tuple #[.slice none 0 0,er])∧QF w.heap.size w' er l∧E l))
theorem wm (b n:Nat) (Op On:Nat→Prop) (x:Nd) (ts:List aj) (T:List Nd) (more:Value) (mf:YV) (K:Int→List ByteArray→List aj→Prop) (E:Int→Prop) (m:Nat) (hm:m≤100000) (w:World) (hp:PS w b Op ts T) (hn:NU w b n On x) (hd :∀k,Op k→¬ On k) (h2:LF w b n Op On more mf) (hk:tW mf m x.num ts [] K E) :
  Calls Tryz.prog 149 #[.func (.func 146) #[.pointer (some ⟨b,0,none⟩)] #[],more] w (Rf b n Op On x T K E w):=by
 have HP:=aa hp;have HN:=aa hn;have H2:=aa h2;have HK:=aa hk;have HD:=aa hd;have wh:=(hp.own b hp.at_).2;have CO:=hn.own n hn.at_;clear hp hn h2 hk hd;go_enter Tryz.func149,Tryz.ntmps149
 go_wp2_with fail
 go_loopg [6] m (fun z tv wr=>∃(nu:Int) (xs:List ByteArray) (tr:List aj),PS wr b Op tr T∧NU wr b n On { x with num:=nu}∧ay (fun k=>k=b∨k=n) w wr∧jE wr b tv xs∧(∀g,tv.ownBlock=some g→w.heap.size≤g∧¬ Op g∧¬ On g∧xs≠[])∧xs.length+z≤m∧tW mf z nu tr xs K E)
 case atStart=>exact⟨x.num,[],ts,HP.out,HN.out,ay.refl _ _,World.ownsRow_nil _ _ _ _,fun g hg=>by simp[Value.ownBlock] at hg,by simp,HK.out⟩
 case round =>
  obtain⟨nu,xs,tr,b9,zF,kN,hr1,YW,hz,iO⟩:=hrel;have Jv:=aa zF;have fm:=aa kN;have mY:=aa hr1;have Q8:=aa YW;cases gk with
  | zero=>exact iO.elim
  | succ z =>
   obtain⟨t,r,rfl,oQ,Cj⟩:=iO;have HC:=aa (CG b Op t r T wr b9);obtain⟨f2,kl,Cv,rfl,WA,_⟩:=H2.out wr _ _ T kN b9 zF;have ab5:=aa oQ;have GX:=aa Cj;have hbo :∀g,u6.ownBlock=some g→g≠b:=fun g hg e=>by have:=(hr1.lt g hg).1;omega
   have Ac:=aa b9;clear b9 zF kN hr1 YW oQ Cj;unfold Enters at WA;go_wp2_with fail
   refine HC.out.mono ?_;rintro e w2 ⟨me,h2⟩;have qW:ay (fun k=>k=b∨k=n) w w2:=fm.out.trans me (fun k hk=>.inl (.inl hk))
   have F2:=aa qW;have N2:=aa (Jv.out.kept me fun k hk e=>HD.out b HP.out.at_ (e▸hk))
   rcases h2 with ⟨g1,rfl,p2⟩ | ⟨g1,er,rfl,mis⟩
   ·have hrow2:jE w2 b u6 xs:=dd mY.out fun g hg=>me.block g (mY.out.lt g hg).2 (hbo g hg)
    have vq:=aa hrow2;have P2:=aa p2;have Cj:=GX.out g1;have aaf:=aa Cj;have xL:b+1≤w2.heap.size:=by have:=(p2.own b p2.at_).2;omega
    have hsw:w.heap.size≤w2.heap.size:=qW.size;obtain⟨S,hS⟩ :∃S,S=bC t.2.2.2:=⟨_,rfl⟩;rw[←hS];have HS:=aa hS;clear me hrow2 p2 Cj qW hS hbo;go_wp2_with (at_builtin;refine Ag _ rfl _ _ rfl b u6 (.slice (some ⟨w2.heap.size,0,none⟩) 1 1) xs [S] rfl (vq.out.alloc _) (fun g hg=>(Q8.out g hg).2.2.2) rfl ⟨rfl,.inr ⟨w2.heap.size,1,#[.string S],rfl,xL,World.alloc_heap_new w2 _,by simp,by unfold maxLen;omega,rfl,rfl⟩⟩ (by simp) (by omega) (by simp) (by simp;omega) ?_;intro g4 c4 w4 h4 f4 o4 l4;have H4:=aa h4;have F4:=aa f4;have O4:=aa o4;have L4:=aa l4;clear h4 f4 o4 l4)
    have fw4:ay (fun k=>u6.ownBlock=some k) w2 w4:=((ay.refl _ w2).alloc (.cells #[.string S] 9)).trans F4.out (Ext.refl _ _)
    have p4:PS w4 b Op r T:=P2.out.kept fw4 (fun k hk e=>(Q8.out k e).2.1 hk) fun k e=>by have:=(vq.out.lt k e).1;omega
    have n4:NU w4 b n On { x with num:=nu}:=N2.out.kept fw4 fun k hk e=>(Q8.out k e).2.2.1 hk
    have f5:ay (fun k=>k=b∨k=n) w w4:=F2.out.trans (O1:=fun k=>u6.ownBlock=some k) fw4 fun k hk=>.inr (Q8.out k hk).1
    have P4:=aa p4;have N4:=aa n4;have F5:=aa f5;obtain⟨_,_,_,e2,_,oU⟩:=H2.out w4 _ _ T f5 p4 n4;injection e2 with e3 e4 e5;injection e3 with e3;subst e3 e4 e5;rw[show kl++(#[]:Array Value)=kl by simp] at oU
    have qT:=aa oU;obtain⟨br,hbr⟩ :∃br,br=(mf (nu,r)).1:=⟨_,rfl⟩;dsimp only at qT
    rw[←hbr] at qT;have QY:=aa hbr;clear p4 n4 f5 oU hbr fw4;refine qT.out.mono ?_;rintro e w5 ⟨rfl,p5,n5,WB⟩;have ho5:w.heap.size≤g4∧¬ Op g4∧¬ On g4:=by
     rcases O4.out with ⟨h,_⟩|h
     ·exact⟨(Q8.out g4 h).1,(Q8.out g4 h).2.1,(Q8.out g4 h).2.2.1⟩
     ·have h':w2.heap.size≤g4:=by simp at h;omega
      exact⟨by omega,fun h2=>by have:=(P2.out.own g4 h2).2;omega,fun h2=>by have:=(N2.out.own g4 h2).2;omega⟩
    have HO5:=aa ho5;have Lv:=aa (show jE w5 b (.slice (some ⟨g4,0,none⟩) (xs.length+1) c4) (xs++[S]) from dd H4.out fun g hg=>by
     have vh:g=g4:=by simpa[Value.ownBlock] using hg.symm
     subst vh;refine WB.block g L4.out (fun e=>?_)
     rcases e with e|e
     ·exact ho5.2.1 (e▸HP.out.at_)
     ·exact ho5.2.2 (e▸HN.out.at_))
    have P5:=aa p5;have N5:=aa n5;have F6:=aa (F5.out.trans WB (Ext.refl _ _));clear p5 n5 WB ho5;cases br with
    | true =>
     go_wp2_with fail
     go_roundg z
     case measure=>omega
     case rel=>exact⟨_,xs++[S],_,P5.out,N5.out,F6.out,Lv.out,fun g hg=>by
      have vh:g=g4:=by simpa[Value.ownBlock] using hg.symm
      subst vh;exact⟨HO5.out.1,HO5.out.2.1,HO5.out.2.2,by simp⟩,by simp;omega,by
      have:=aaf.out.1 QY.out.symm;rw[←HS.out] at this;exact this⟩
    | false =>
     go_wp2_with fail
     go_ret2
     refine⟨F6.out,_,N5.out,.inl ⟨_,xs++[S],_,rfl,P5.out,Lv.out,fun g hg=>?_,by simp,by simp;omega,?_⟩⟩
     ·have vh:g=g4:=by simpa[Value.ownBlock] using hg.symm
      subst vh;exact HO5.out.1
     ·have:=aaf.out.2 QY.out.symm
      rw[←HS.out] at this;exact this
   ·obtain⟨g',rfl,hg1,hg2⟩:=mis
    have M2:=aa hg2;have HG:=aa (aL fm.out.size hg1);have HE:=aa (ab5.out g1);clear me hg1 hg2 qW hbo;go_wp2_with fail
    go_ret2
    exact⟨F2.out,nu,N2.out,.inr ⟨_,_,rfl,⟨g',rfl,HG.out,M2.out⟩,HE.out⟩⟩
end Go.Proofs.YteflkdlaoiijbaaGreatDoor
namespace Go.Proofs.YteflkdlaoiijbaaGreatDoor
open Go.RowKit
def Gw {α:Type} (g:GL α) (ts:List aj) (K:α→List aj→Prop) (E:Int→Prop):Prop:=(∀a ax,PL g ts (.ok (a,ax))→K a ax)∧(∀l,PL g ts (.error l)→E l)
section
variable {α:Type} {K:α→List aj→Prop} {E:Int→Prop}
theorem Gw.tok {f:aj→GL α} {t:aj} {ts:List aj} (h:Gw (.tok f) (t::ts) K E):Gw (f t) ts K E:=⟨fun a ax p=>h.1 a ax (.tok p),fun l p=>h.2 l (.tok p)⟩
theorem Gw.look {f:aj→GL α} {t:aj} {ts:List aj} (h:Gw (.look f) (t::ts) K E):Gw (f t) (t::ts) K E:=⟨fun a ax p=>h.1 a ax (.look p),fun l p=>h.2 l (.look p)⟩
theorem Gw.ret {a:α} {ts:List aj} (h:Gw (.ret a) ts K E):K a ts:=h.1 a ts .ret
theorem Gw.bad {t:aj} {ts:List aj} (h:Gw (.bad:GL α) (t::ts) K E):E t.2.1:=h.2 _ .bad
theorem Gw.call {n:NT} {k:VT n→GL α} {ts:List aj} (h:Gw (.call n k) ts K E):Gw (bN n) ts (fun v ax=>xO n ts.length v ax.length∧Gw (k v) ax K E) E :=
 ⟨fun _ _ p=>⟨p.holds aaa,fun a il q=>h.1 a il (.call p q),fun l q=>h.2 l (.call p q)⟩,fun l p=>h.2 l (.ie p)⟩
theorem Gw.mono {g:GL α} {ts:List aj} {K':α→List aj→Prop} (h:Gw g ts K E) (hk :∀a ax,PL g ts (.ok (a,ax))→K a ax→K' a ax):Gw g ts K' E:=⟨fun a ax p=>hk a ax p (h.1 a ax p),h.2⟩
theorem Gw.pos {c:Prop} [Decidable c] {g g':GL α} {ts:List aj} (h:Gw (if c then g else g') ts K E) (hc:c):Gw g ts K E:=by rwa[al hc] at h
theorem Gw.neg {c:Prop} [Decidable c] {g g':GL α} {ts:List aj} (h:Gw (if c then g else g') ts K E) (hc:¬ c):Gw g' ts K E:=by rwa[af hc] at h
theorem Gw.want {x:List UInt8} {k:aj→GL α} {t:aj} {ts:List aj} (h:Gw (want x k) (t::ts) K E):(av x t=true→Gw (k t) ts K E)∧(av x t=false→E t.2.1) :=
 ⟨fun hw=>(h.look.pos hw).tok,fun hw=>(h.look.neg (by simp[hw])).bad⟩
theorem Gw.name {k:aj→GL α} {t:aj} {ts:List aj} (h:Gw (name k) (t::ts) K E):(t.1=1→Gw (k t) ts K E)∧(t.1≠1→E t.2.1) :=
 ⟨fun hw=>(h.look.pos hw).tok,fun hw=>(h.look.neg hw).bad⟩
theorem Gw.take {x:List UInt8} {a b:GL α} {t:aj} {ts:List aj} (h:Gw (take x a b) (t::ts) K E):(av x t=true→Gw a ts K E)∧(av x t=false→Gw b (t::ts) K E) :=
 ⟨fun hw=>(h.look.pos hw).tok,fun hw=>h.look.neg (by simp[hw])⟩
theorem Gw.self (g:GL α) (ts:List aj):Gw g ts (fun a ax=>PL g ts (.ok (a,ax))) (fun l=>PL g ts (.error l)):=⟨fun _ _ h=>h,fun _ h=>h⟩
end
def Lin (ts:List aj):Prop:=∀t∈ts,t.2.1≠0∧(t.1=2→t.2.2.2≠[61])
structure Wf (ts:List aj):Prop where
 fin:Fin ts
 yQ:Lin ts
theorem Wf.tail {t:aj} {ts:List aj} (h:Wf (t::ts)) (ht:t.1≠0):Wf ts:=⟨h.fin.tail ht,fun u hu=>h.yQ u (bY _ hu)⟩
theorem PL.wf {n:NT} {ts ax:List aj} {v:VT n} (h:PL (bN n) ts (.ok (v,ax))) (hf:Wf ts):Wf ax:=by
 refine⟨h.fin hf.fin,?_⟩;obtain⟨c,rfl⟩:=h.tail v ax rfl;exact fun u hu=>hf.yQ u (iV _ hu)
def rZ (N:Nat) (g:GL Ast):iM:=fun ts n K E=>ts.length<N∧n+2*ts.length≤60000∧Lin ts∧Gw g ts K E
def cX:List aj→Bool×List aj
 | []=>(false,[])
 | t::r=>if av [44] t then (true,r) else (false,t::r)
def mo (k:Int):Nd:=⟨k,0,0,0,⟨#[]⟩,[],[]⟩
def dx (k l:Int):Nd:=⟨k,l,0,0,⟨#[]⟩,[],[]⟩
abbrev qX (s:Nat):GL Ast:=bN (.exp s)
def n0 (N:Nat):cg:=dw (rZ N (qX 1))
def ng (N:Nat):cg:=lK (rZ N (qX 1)) cX
abbrev aag (l:List Ast):GL (List Ast):=bN (.oL l)
def LG (N:Nat):cg:=fun s K E=>s.ts.length<N∧s.n+2*s.ts.length≤60000∧s.xs.length+2*s.ts.length≤60000∧Lin s.ts ∧
 Gw (aag s.xs) s.ts (fun l ax=>∀n',n'+Ast.ak s.xs=s.n+Ast.ak l→K ⟨s.h,l,ax,n'⟩) E
def oV (N:Nat):cg:=dw (dO (mo 18) [LG N])
structure Rm (N k:Nat) (s:St):Prop where
 len:s.ts.length<N
 n:s.n+2*s.ts.length+k≤60000
 xs:s.xs.length+2*s.ts.length+k≤60000
 wf:Wf s.ts
theorem Rm.less {N k j:Nat} {s:St} (h:Rm N k s) (hj:j≤k):Rm N j s:=⟨h.len,by have:=h.n;omega,by have:=h.xs;omega,h.wf⟩
theorem tX (a:Ast):Ast.ak [a]=a.size:=by rw[fP,cE,Nat.add_zero]
theorem size_pos :∀a:Ast,1≤a.size
 | .mk h ks=>by rw[Ast.size];omega
theorem tY :∀l:List Ast,l.length≤Ast.ak l
 | []=>bK _
 | a::l=>by have:=tY l;have:=size_pos a;rw[fP,List.length_cons];omega
theorem Rm.tok {N k:Nat} {h h':Nd} {xs:List Ast} {t:aj} {ts:List aj} {n:Nat} (hI:Rm N k ⟨h,xs,t::ts,n⟩) (ht:t.1≠0):Rm N (k+2) ⟨h',xs,ts,n⟩ :=
 ⟨by have:=hI.len;simp at this ⊢;omega,by have:=hI.n;simp at this ⊢;omega,by have:=hI.xs;simp at this ⊢;omega,hI.wf.tail ht⟩
theorem Rm.WG {N k:Nat} {h h':Nd} {xs:List Ast} {t:aj} {ts:List aj} {n:Nat} (hI:Rm (N+1) k ⟨h,xs,t::ts,n⟩) (ht:t.1≠0):Rm N (k+2) ⟨h',xs,ts,n⟩ :=
 ⟨by have:=hI.len;simp at this ⊢;omega,by have:=hI.n;simp at this ⊢;omega,by have:=hI.xs;simp at this ⊢;omega,hI.wf.tail ht⟩
theorem Rm.cons {N k:Nat} {s:St} (hI:Rm N k s) :∃t ts,s.ts=t::ts:=hI.wf.fin.cons
theorem Rm.kids {N k j:Nat} {h h':Nd} {xs ys:List Ast} {ts ax:List aj} {n:Nat} (hI:Rm N k ⟨h,xs,ts,n⟩) (hz:Ast.ak ys+2*ax.length+j≤2*ts.length+k) (hl:ax.length≤ts.length) (hf:Wf ax):Rm N j ⟨h',xs++ys,ax,n+Ast.ak ys⟩ :=
 ⟨by have:=hI.len;dsimp only at this ⊢;omega,by have:=hI.n;dsimp only at this ⊢;omega,by have:=hI.xs;have:=tY ys;rw[cC];dsimp only at *;omega,hf⟩
theorem PL.short {n:NT} {ts ax:List aj} {v:VT n} (h:PL (bN n) ts (.ok (v,ax))):ax.length≤ts.length:=by
 obtain⟨c,rfl⟩:=h.tail v ax rfl;rw[cC];omega
def nh (wp:iM) (s:St) (K:St→Prop) (E:Int→Prop) (a:Ast) (fC:List aj):Prop :=
 ((mZ fC).1=true→rY wp mZ 0 (mZ fC).2 (s.n+a.size) ([]++[a]) (fun xs ts=>K { s with xs:=s.xs++xs,ts:=ts,n:=s.n+Ast.ak xs}) E)∧((mZ fC).1=false→(fun xs ts=>K { s with xs:=s.xs++xs,ts:=ts,n:=s.n+Ast.ak xs}) ([]++[a]) (mZ fC).2)
theorem jF {wp:iM} {s:St} {K:St→Prop} {E:Int→Prop} (hx:s.xs.length≤100000) (h:wp s.ts s.n (nh wp s K E) E):dw wp s K E:=⟨hx,1,by omega,h⟩
theorem nh.mk {wp:iM} {s:St} {K:St→Prop} {E:Int→Prop} {a:Ast} {fC:List aj} (h:K ⟨s.h,s.xs++[a],fC,s.n+Ast.ak [a]⟩):nh wp s K E a fC:=⟨fun h=>(fV h).elim,fun _=>h⟩
section
variable {α:Type} {K:α→List aj→Prop} {E:Int→Prop} {K':St→Prop} {N k n:Nat} {h:Nd} {xs:List Ast} {ts:List aj}
theorem fK {kk:Ast→GL α} (hI:Rm N k ⟨h,xs,ts,n⟩) (H:Gw (.call (.exp 1) kk) ts K E)
  (hk :∀(e:Ast) (ax:List aj),Rm N (k+1) ⟨h,xs++[e],ax,n+Ast.ak [e]⟩→ax.length<ts.length→Gw (kk e) ax K E→K' ⟨h,xs++[e],ax,n+Ast.ak [e]⟩):n0 N ⟨h,xs,ts,n⟩ K' E:=by
 refine jF (by have:=hI.xs;dsimp only at *;omega) ⟨hI.len,by have:=hI.n;dsimp only at *;omega,hI.wf.yQ,?_⟩
 refine(Gw.call H).mono fun(e:Ast) ax p hq=>?_
 have hz:e.size+2*ax.length+1≤2*ts.length:=hq.1;exact nh.mk (hk e ax (hI.kids (by rw[tX];omega) (PL.short p) (p.wf hI.wf)) (by omega) hq.2)
theorem fL {kk:Ast→GL α} (hI:Rm N (k+1) ⟨h,xs,ts,n⟩) (H:Gw (.call .blk kk) ts K E)
  (hk :∀(e:Ast) (ax:List aj),Rm N k ⟨h,xs++[e],ax,n+Ast.ak [e]⟩→ax.length≤ts.length→Gw (kk e) ax K E→K' ⟨h,xs++[e],ax,n+Ast.ak [e]⟩):oV N ⟨h,xs,ts,n⟩ K' E:=by
 obtain⟨t,r,jc⟩:=hI.cons;dsimp only at jc
 subst jc;refine jF (by have:=hI.xs;dsimp only at *;omega) ⟨t,r,t.2.1,rfl,.inl ⟨rfl,rfl⟩,⟨hI.len,by have:=hI.n;dsimp only at *;omega,by have:=hI.n;dsimp only[List.length_nil] at *;omega,hI.wf.yQ,?_⟩⟩
 refine(Gw.call (Gw.look (Gw.call H))).mono fun(l:List Ast) ax p hq n' hn'=>?_
 have hz:Ast.ak l+2*ax.length≤Ast.ak []+2*(t::r).length:=hq.1;have oW:=hq.2.ret;have hn:=hI.n;dsimp only at hn hn'
 rw[cE] at hz hn';refine⟨by dsimp only;omega,nh.mk (hk _ ax (hI.kids (by rw[tX];show Ast.size (nd 18 t.2.1 l)+_+_≤_;rw[lH];omega) (PL.short p) (p.wf hI.wf)) (PL.short p) oW.2)⟩
theorem cU {t:aj} (hI:Rm (N+1) k ⟨h,xs,t::ts,n⟩) (ht:t.1≠0) (hk:Rm N (k+2) ⟨h,xs,ts,n⟩→K' ⟨h,xs,ts,n⟩):aC ⟨h,xs,t::ts,n⟩ K' E:=⟨t,ts,rfl,ht,hk (hI.WG ht)⟩
theorem cj {x:List UInt8} {kk:aj→GL α} (hI:Rm N k ⟨h,xs,ts,n⟩) (H:Gw (want x kk) ts K E) (hk :∀(t:aj) (r:List aj),Rm N (k+2) ⟨h,xs,r,n⟩→r.length<ts.length→Gw (kk t) r K E→K' ⟨h,xs,r,n⟩):au [x] ⟨h,xs,ts,n⟩ K' E:=by
 obtain⟨t,r,jc⟩:=hI.cons;dsimp only at jc
 subst jc;exact⟨t,r,rfl,fun hw=>hk t r (hI.tok (aW hw)) (by simp) (H.want.1 hw),H.want.2⟩
theorem LH {x y:List UInt8} {kk:aj→GL α} (hI:Rm N k ⟨h,xs,ts,n⟩) (H:Gw (want x fun _=>want y kk) ts K E) (hk :∀(t:aj) (r:List aj),Rm N (k+4) ⟨h,xs,r,n⟩→r.length<ts.length→Gw (kk t) r K E→K' ⟨h,xs,r,n⟩):au [x,y] ⟨h,xs,ts,n⟩ K' E:=by
 obtain⟨t,r,jc⟩:=hI.cons;dsimp only at jc
 subst jc;refine⟨t,r,rfl,fun hw=>?_,H.want.2⟩
 have n7:=hI.tok (h':=h) (aW hw);obtain⟨t2,r2,jc⟩:=n7.cons;dsimp only at jc
 subst jc;exact⟨t2,r2,rfl,fun hw2=>hk t2 r2 (n7.tok (aW hw2)) (by simp;omega) ((H.want.1 hw).want.1 hw2),(H.want.1 hw).want.2⟩
theorem xY {kk:aj→GL α} (hI:Rm N k ⟨h,xs,ts,n⟩) (H:Gw (name kk) ts K E) (hk :∀(t:aj) (r:List aj),Rm N (k+2) ⟨{ h with s:=bC t.2.2.2},xs,r,n⟩→r.length<ts.length→Gw (kk t) r K E→K' ⟨{ h with s:=bC t.2.2.2},xs,r,n⟩):cS ⟨h,xs,ts,n⟩ K' E:=by
 obtain⟨t,r,jc⟩:=hI.cons;dsimp only at jc
 subst jc;exact⟨t,r,rfl,fun hw=>hk t r (hI.tok (by rw[hw];decide)) (by simp) (H.name.1 hw),H.name.2⟩
theorem EA (K2:List Ast→List aj→Prop) :∀(m:Nat) (ts:List aj) (n:Nat) (acc:List Ast),ts.length<m→ts.length<N→n+2*ts.length≤60000→Wf ts→Gw (.call (.exp 1) fun(e:Ast)=>.call (.YO (acc++[e])) fun(l:List Ast)=>.ret l) ts K2 E→rY (rZ N (qX 1)) cX m ts n acc K2 E:=by
 intro m;induction m with
 | zero=>intro ts n acc h;omega
 | succ m ih =>
  intro ts n acc h1 h2 h3 hf H;refine⟨h2,h3,hf.yQ,?_⟩;refine(Gw.call H).mono fun(e:Ast) ax p hq=>?_
  have hz:e.size+2*ax.length+1≤2*ts.length:=hq.1;have hf':=p.wf hf;obtain⟨t,r,rfl⟩:=hf'.fin.cons;have hg:=(Gw.call hq.2).look;cases hc:av [44] t with
  | true =>
   have e1:cX (t::r)=(true,r):=by simp[cX,hc]
   rw[e1];refine⟨fun _=>ih r (n+e.size) (acc++[e]) (by simp at hz;omega) (by simp at hz;omega) (by simp at hz;omega) (hf'.tail (aW hc)) ((hg.pos hc).tok.mono fun l il _ hl=>hl.2.ret),fun hb=>(fV hb.symm).elim⟩
  | false =>
   have e1:cX (t::r)=(false,t::r):=by simp[cX,hc]
   rw[e1];exact⟨fun hb=>(fV hb).elim,fun _=>(hg.neg (by simp[hc])).ret.2.ret⟩
theorem sV {kk:List Ast→GL α} (hI:Rm N k ⟨h,xs,ts,n⟩) (H:Gw (.call .Cd kk) ts K E)
  (hk :∀(l:List Ast) (ax:List aj),Rm N (k+1) ⟨h,xs++l,ax,n+Ast.ak l⟩→ax.length<ts.length→Gw (kk l) ax K E→K' ⟨h,xs++l,ax,n+Ast.ak l⟩):ng N ⟨h,xs,ts,n⟩ K' E:=by
 have hn:=hI.n;have hx:=hI.xs;dsimp only at hn hx
 refine⟨by dsimp only;omega,ts.length+1,by omega,?_⟩
 refine EA _ (ts.length+1) ts n [] (by omega) hI.len (by omega) hI.wf ((Gw.call H).mono fun(l:List Ast) ax p hq=>?_)
 have hz:Ast.ak l+2*ax.length+1≤2*ts.length:=hq.1;exact hk l ax (hI.kids (by omega) (PL.short (n:=.Cd) p) (PL.wf (n:=.Cd) p hI.wf)) (by omega) hq.2
end
end Go.Proofs.YteflkdlaoiijbaaGreatDoor
namespace Go.Proofs.YteflkdlaoiijbaaGreatDoor
open Go.RowKit
theorem aU {s s':List UInt8} {t:aj} (h:av s t=true) (hne:s'≠s):¬ av s' t=true:=by rw[bn h hne];decide
abbrev pX:GL Ast:=bN .zn
abbrev ab6 (at_:Int) (self:List ByteArray):GL Ast:=bN (.Jn at_ self)
def bW (K:Ast→List aj→Prop):St→Prop:=fun s=>s.n≤200000∧K (.mk s.h s.xs) s.ts
theorem cy {N k:Nat} {s:St} {K:Ast→List aj→Prop} (hI:Rm N k s) (h:K (.mk s.h s.xs) s.ts):bW K s:=⟨by have:=hI.n;omega,h⟩
def sE:YV:=fun p=>((cX p.2).1,p.1,(cX p.2).2)
def im:cg:=fun s K E=>∃m,m≤100000∧tW sE m s.h.num s.ts [] (fun nu xs ts=>K { s with h:={ s.h with num:=nu,names:=xs},ts:=ts}) E
section
variable {α:Type} {K:α→List aj→Prop} {E:Int→Prop} {K':St→Prop} {N k n:Nat} {h:Nd} {xs:List Ast} {ts:List aj}
theorem Rg (nu:Int) (K2:Int→List ByteArray→List aj→Prop) :∀(m:Nat) (ts:List aj) (acc:List ByteArray),ts.length<m→Wf ts→Gw (name fun n=>.call (.YN (acc++[bC n.2.2.2])) fun(l:List ByteArray)=>.ret l) ts (K2 nu) E→tW sE m nu ts acc K2 E:=by
 intro m;induction m with
 | zero=>intro ts acc h;omega
 | succ m ih =>
  intro ts acc h1 hf H;obtain⟨t,r,rfl⟩:=hf.fin.cons;refine⟨t,r,rfl,H.name.2,fun ht=>?_⟩
  have kN:=hf.tail (show t.1≠0 by rw[ht];decide)
  obtain⟨u,us,rfl⟩:=kN.fin.cons;have hg:=(Gw.call (H.name.1 ht)).look;cases hc:av [44] u with
  | true =>
   have e1:sE (nu,u::us)=(true,nu,us):=by unfold sE cX;simp[hc]
   rw[e1];exact⟨fun _=>ih us (acc++[bC t.2.2.2]) (by simp at h1;omega) (kN.tail (aW hc)) ((hg.pos hc).tok.mono fun l il _ hl=>hl.2.ret),fun hb=>(fV hb.symm).elim⟩
  | false =>
   have e1:sE (nu,u::us)=(false,nu,u::us):=by unfold sE cX;simp[hc]
   rw[e1];exact⟨fun hb=>(fV hb).elim,fun _=>(hg.neg (by simp[hc])).ret.2.ret⟩
theorem LI {kk:List ByteArray→GL α} (hI:Rm N k ⟨h,xs,ts,n⟩) (H:Gw (.call .TV kk) ts K E)
  (hk :∀(l:List ByteArray) (ax:List aj),Rm N k ⟨{ h with names:=l},xs,ax,n⟩→Gw (kk l) ax K E→K' ⟨{ h with names:=l},xs,ax,n⟩):im ⟨h,xs,ts,n⟩ K' E:=by
 have hn:=hI.n;dsimp only at hn
 refine⟨ts.length+1,by omega,Rg h.num _ (ts.length+1) ts [] (by omega) hI.wf ((Gw.call H).mono fun(l:List ByteArray) ax p hq=>?_)⟩
 have hs:=PL.short (n:=.TV) p;exact hk l ax ⟨by have:=hI.len;dsimp only at *;omega,by dsimp only;omega,by have:=hI.xs;dsimp only at *;omega,PL.wf (n:=.TV) p hI.wf⟩ hq.2
end
def oX:YV:=fun p=>match p.2 with
 | []=>(false,p.1,[])
 | t::r=>if av [44] t then (match r with
  | []=>(decide (p.1≠1),p.1,[])
  | u::r'=>if av [46,46,46] u then (false,1,r') else (decide (p.1≠1),p.1,u::r')) else (false,p.1,t::r)
def Ah:cg:=fun s K E=>∃t ts,s.ts=t::ts∧s.h.num=0∧(av [46,46,46] t=true→K { s with h:={ s.h with num:=1},ts:=ts}) ∧
 (av [46,46,46] t=false→s.h.names.length≤100000∧∃m,m≤100000∧tW oX m 0 s.ts [] (fun nu xs ax=>K { s with h:={ s.h with num:=nu,names:=s.h.names++xs},ts:=ax}) E)
def Uk (N:Nat):List cg:=[au [[40]],dC [41] Ah,au [[41]],oV N,au [iC]]
def wo (N:Nat):cg:=fun s K E=>aI (Uk N) s K E
section
variable {α:Type} {K:α→List aj→Prop} {E:Int→Prop} {K':St→Prop} {N k n:Nat} {h:Nd} {xs:List Ast} {ts:List aj}
theorem Rh (l0:List ByteArray) (K2:Int→List ByteArray→List aj→Prop) :∀(m:Nat) (ts:List aj) (acc:List ByteArray),ts.length<m→Wf ts →
  Gw (name fun n=>.look fun t=>if av [44] t then .tok fun _=>.call (.Vn (l0++acc++[bC n.2.2.2])) fun(p:List ByteArray×Int)=>.ret p else .ret ((l0++acc++[bC n.2.2.2],0):List ByteArray×Int)) ts (fun p ax=>∀l,p.1=l0++l→K2 p.2 l ax) E→tW oX m 0 ts acc K2 E:=by
 intro m;induction m with
 | zero=>intro ts acc h;omega
 | succ m ih =>
  intro ts acc h1 hf H;obtain⟨t,r,rfl⟩:=hf.fin.cons;refine⟨t,r,rfl,H.name.2,fun ht=>?_⟩
  have kN:=hf.tail (show t.1≠0 by rw[ht];decide)
  obtain⟨u,us,rfl⟩:=kN.fin.cons;have hg:=(H.name.1 ht).look;cases hc:av [44] u with
  | true =>
   have hf2:=kN.tail (aW hc);obtain⟨v,vs,rfl⟩:=hf2.fin.cons;have hg2:=(Gw.call (hg.pos hc).tok).look;cases hd:av [46,46,46] v with
   | true =>
    have e1:oX (0,u::v::vs)=(false,1,vs):=by unfold oX;simp[hc,hd]
    rw[e1];refine⟨fun hb=>(fV hb).elim,fun _=>?_⟩
    exact(hg2.pos hd).tok.ret.2.ret (acc++[bC t.2.2.2]) (by rw[fg])
   | false =>
    have e1:oX (0,u::v::vs)=(true,0,v::vs):=by unfold oX;simp[hc,hd]
    rw[e1];refine⟨fun _=>ih (v::vs) (acc++[bC t.2.2.2]) (by simp at h1 ⊢;omega) hf2 ?_,fun hb=>(fV hb.symm).elim⟩
    have:=hg2.neg (by simp[hd])
    rw[fg] at this;exact this.mono fun p il _ hl=>hl.2.ret
  | false =>
   have e1:oX (0,u::us)=(false,0,u::us):=by unfold oX;simp[hc]
   rw[e1];exact⟨fun hb=>(fV hb).elim,fun _=>(hg.neg (by simp[hc])).ret (acc++[bC t.2.2.2]) (by rw[fg])⟩
theorem LJ {at_:Int} {self:List ByteArray} {K:Ast→List aj→Prop} (hI:Rm N k ⟨⟨11,at_,0,0,⟨#[]⟩,self,[]⟩,[],ts,n⟩) (hs:self.length≤100000) (H:Gw (ab6 at_ self) ts K E) :
  aI (Uk N) ⟨⟨11,at_,0,0,⟨#[]⟩,self,[]⟩,[],ts,n⟩ (bW K) E:=by
 refine cj hI H fun _ r hI _ G=>?_
 obtain⟨t,us,rfl⟩:=hI.wf.fin.cons;have G:=G.look;refine⟨t,us,rfl,fun hw=>?_,fun hw=>?_⟩
 ·refine⟨t,us,rfl,fun hw=>?_,fun hw2=>?_⟩
  ·exact(show aI [oV N,au [iC]] _ _ _ from fL (hI.tok (aW hw)) (G.pos hw).tok fun b r2 hI _ G=>cj hI G fun _ r3 hI _ G=>cy hI G.ret)
  ·rw[hw] at hw2
   exact(fV hw2.symm).elim
 ·have G:=Gw.call (G.neg (by simp[hw]))
  have G1:=Gw.look G;have hn:=hI.n;dsimp only[List.length_cons] at hn
  refine⟨t,us,rfl,rfl,fun hd=>?_,fun hd=>⟨hs,us.length+2,by omega,Rh self _ (us.length+2) (t::us) [] (by simp) hI.wf ?_⟩⟩
  ·have G2:=(G1.pos hd).tok.ret.2
   exact cj (hI.tok (aW hd)) G2 fun _ r2 hI _ G=>fL hI G fun b r3 hI _ G=>cj hI G fun _ r4 hI _ G=>cy hI G.ret
  ·have G2:=G1.neg (by simp[hd])
   rw[iX];refine⟨fun p ax hp l hl=>?_,fun l hl=>G2.2 l hl⟩
   have hq:=G2.1 p ax hp;have Z5:PL (bN (.Vn self)) (t::us) (.ok (p,ax)):=.look (by rw[af (by simp[hd])];exact hp)
   have hz:=PL.short Z5;have n7:Rm N (k+2) ⟨⟨11,at_,0,p.2,⟨#[]⟩,self++l,[]⟩,[],ax,n⟩:=⟨by have:=hI.len;dsimp only at *;omega,by dsimp only[List.length_cons] at *;omega,by have:=hI.xs;dsimp only[List.length_cons] at *;omega,Z5.wf hI.wf⟩
   refine cj n7 hq.2 fun _ r2 hI _ G=>fL hI G fun b r3 hI _ G=>cj hI G fun _ r4 hI _ G=>cy hI ?_
   have:=G.ret;rw[hl] at this;exact this
end
section
variable {K:Ast→List aj→Prop} {E:Int→Prop} {K':St→Prop} {N k n:Nat} {h:Nd} {xs:List Ast} {t:aj} {ts:List aj}
theorem Ri (hI:Rm (N+1) k ⟨dx 32 t.2.1,[],t::ts,n⟩) (H:Gw pX (t::ts) K E) (hw:av [58,58] t=true):aI [aC,cS,au [[58,58]]] ⟨dx 32 t.2.1,[],t::ts,n⟩ (bW K) E :=
 cU hI (aW hw) fun hI=>xY hI ((Gw.look H).pos hw).tok fun _ _ hI _ G=>cj hI G fun _ _ hI _ G=>cy hI G.ret
theorem Rj (hI:Rm (N+1) k ⟨dx 30 t.2.1,[],t::ts,n⟩) (H:Gw pX (t::ts) K E) (hw:av oJ t=true):aI [aC] ⟨dx 30 t.2.1,[],t::ts,n⟩ (bW K) E :=
 cU hI (aW hw) fun hI=>cy hI (((Gw.look H).neg (aU hw (by decide))).pos hw).tok.ret
theorem WH (hI:Rm (N+1) k ⟨dx 31 t.2.1,[],t::ts,n⟩) (H:Gw pX (t::ts) K E) (hw:av rM t=true):aI [aC,cS] ⟨dx 31 t.2.1,[],t::ts,n⟩ (bW K) E :=
 cU hI (aW hw) fun hI=>xY hI ((((Gw.look H).neg (aU hw (by decide))).neg (aU hw (by decide))).pos hw).tok fun _ _ hI _ G=>cy hI G.ret
theorem ab7 (hI:Rm (N+1) k ⟨dx 22 t.2.1,[],t::ts,n⟩) (H:Gw pX (t::ts) K E) (hw:av Ca t=true):aI [aC,oV N,au [iC]] ⟨dx 22 t.2.1,[],t::ts,n⟩ (bW K) E :=
 cU hI (aW hw) fun hI=>fL hI (((((Gw.look H).neg (aU hw (by decide))).neg (aU hw (by decide))).neg (aU hw (by decide))).pos hw).tok fun _ _ hI _ G=>cj hI G fun _ _ hI _ G=>cy hI G.ret
theorem Rk (hI:Rm (N+1) k ⟨dx 23 t.2.1,[],t::ts,n⟩) (H:Gw pX (t::ts) K E) (hw:av oK t=true):aI [aC,n0 N,au [Ca],oV N,au [iC]] ⟨dx 23 t.2.1,[],t::ts,n⟩ (bW K) E :=
 cU hI (aW hw) fun hI=>fK hI ((((((Gw.look H).neg (aU hw (by decide))).neg (aU hw (by decide))).neg (aU hw (by decide))).neg (aU hw (by decide))).pos hw).tok fun _ _ hI _ G=>cj hI G fun _ _ hI _ G =>
  fL hI G fun _ _ hI _ G=>cj hI G fun _ _ hI _ G=>cy hI G.ret
theorem LK (hI:Rm (N+1) k ⟨dx 24 t.2.1,[],t::ts,n⟩) (H:Gw pX (t::ts) K E) (hw:av ly t=true):aI [aC,oV N,au [oI],n0 N] ⟨dx 24 t.2.1,[],t::ts,n⟩ (bW K) E :=
 cU hI (aW hw) fun hI=>fL hI (((((((Gw.look H).neg (aU hw (by decide))).neg (aU hw (by decide))).neg (aU hw (by decide))).neg (aU hw (by decide))).neg (aU hw (by decide))).pos hw).tok fun _ _ hI _ G=>cj hI G fun _ _ hI _ G =>
  fK hI G fun _ _ hI _ G=>cy hI G.ret
theorem WI {K2:List Ast→List aj→Prop} :∀(m:Nat) (ts:List aj) (xs:List Ast) (n k:Nat),ts.length<m→Rm N (k+1) ⟨h,xs,ts,n⟩→Gw (bN (.els xs):GL (List Ast)) ts K2 E→(∀xs' ax n',Rm N 0 ⟨h,xs',ax,n'⟩→K2 xs' ax→K' ⟨h,xs',ax,n'⟩) →
  pV jU [n0 N,au [zm],oV N] m ⟨h,xs,ts,n⟩ (fun s'=>aI [bB rL [oV N],au [iC]] s' K' E) E:=by
 intro m;induction m with
 | zero=>intro ts xs n k h;omega
 | succ m ih =>
  intro ts xs n k h1 hI H hk;obtain⟨t,r,rfl⟩:=hI.wf.fin.cons;have G:=Gw.look H;refine⟨t,r,rfl,fun hw=>?_,fun hw=>?_⟩
  ·refine fK (hI.tok (aW hw)) (G.pos hw).tok fun e fC hI hl G=>cj hI G fun _ r2 hI hl2 G=>fL hI G fun b BN hI Jw G=>?_
   have G3:=(Gw.call G).mono (K':=K2) fun l ax _ hl=>hl.2.ret
   refine ih BN _ _ _ (by simp at h1;omega) hI ?_ hk
   have e1:xs++[e,b]=xs++[e]++[b]:=by simp
   rw[←e1];exact G3
  ·have G:=G.neg (by simp[hw])
   exact⟨t,r,rfl,fun hw2=>fL (hI.tok (aW hw2)) (G.pos hw2).tok fun b fC hI _ G=>cj hI G fun _ r2 hI _ G=>hk _ _ _ (hI.less (bK _)) G.ret,fun hw2=>cj hI (G.neg (by simp[hw2])) fun _ r2 hI _ G=>hk _ _ _ (hI.less (bK _)) G.ret⟩
theorem ab8 (hI:Rm (N+1) k ⟨dx 25 t.2.1,[],t::ts,n⟩) (H:Gw pX (t::ts) K E) (hw:av Vm t=true):aI [aC,n0 N,au [zm],oV N,qQ jU [n0 N,au [zm],oV N],bB rL [oV N],au [iC]] ⟨dx 25 t.2.1,[],t::ts,n⟩ (bW K) E :=
 cU hI (aW hw) fun hI=>fK hI ((((((((Gw.look H).neg (aU hw (by decide))).neg (aU hw (by decide))).neg (aU hw (by decide))).neg (aU hw (by decide))).neg (aU hw (by decide))).neg (aU hw (by decide))).pos hw).tok fun e _ hI _ G=>cj hI G fun _ _ hI _ G =>
  fL hI G fun b r hI _ G=>⟨r.length+1,WI (r.length+1) r [e,b] _ _ (dz _) hI (Gw.call G) fun xs' ax n' hI hq=>cy hI hq.2.ret⟩
def LL (N:Nat):cg:=fun s K E=>aI [au [wIn],ng N,eo] { s with h:={ s.h with kind:=27}} K E
def Rl (N:Nat):cg:=fun s K E=>(s.h.names.length=1→∃t ts,s.ts=t::ts∧(av [61] t=true→aI [n0 N,au [[44]],n0 N,bB [44] [n0 N]] { s with h:={ s.h with kind:=26},ts:=ts} K E)∧(av [61] t=false→LL N s K E))∧(s.h.names.length≠1→LL N s K E)
theorem EB {at_:Int} {ns:List ByteArray} (hI:Rm N k ⟨⟨0,at_,0,0,⟨#[]⟩,ns,[]⟩,[],ts,n⟩)
  (H:Gw (want wIn fun _=>.call .Cd fun(l:List Ast)=>want Ca fun _=>.call .blk fun(d:Ast)=>want iC fun _=>.ret (ve 27 at_ (l.length:Int) ns (l++[d]))) ts K E) :
  LL N ⟨⟨0,at_,0,0,⟨#[]⟩,ns,[]⟩,[],ts,n⟩ (fun s=>aI [au [Ca],oV N,au [iC]] s (bW K) E) E:=by
 have n7:Rm N k ⟨⟨27,at_,0,0,⟨#[]⟩,ns,[]⟩,[],ts,n⟩:=⟨hI.len,hI.n,hI.xs,hI.wf⟩;refine cj n7 H fun _ r hI _ G=>sV hI G fun l r2 hI _ G=>?_
 have Rn:Rm N _ ⟨⟨27,at_,0,(l.length:Int),⟨#[]⟩,ns,[]⟩,[]++l,r2,_⟩:=⟨hI.len,hI.n,hI.xs,hI.wf⟩;exact cj Rn G fun _ r3 hI _ G=>fL hI G fun d r4 hI _ G=>cj hI G fun _ r5 hI _ G=>cy hI G.ret
theorem aah (hI:Rm (N+1) k ⟨dx 0 t.2.1,[],t::ts,n⟩) (H:Gw pX (t::ts) K E) (hw:av Cb t=true):aI [aC,im,Rl N,au [Ca],oV N,au [iC]] ⟨dx 0 t.2.1,[],t::ts,n⟩ (bW K) E:=by
 refine cU hI (aW hw) fun hI=>?_
 have G:=Gw.call (((((((((Gw.look H).neg (aU hw (by decide))).neg (aU hw (by decide))).neg (aU hw (by decide))).neg (aU hw (by decide))).neg (aU hw (by decide))).neg (aU hw (by decide))).neg (aU hw (by decide))).pos hw).tok
 have G1:Gw (bN (.Zq t.2.1):GL Ast) ts K E:=G.mono fun l ax _ hl=>hl.2.ret
 refine LI hI G1 fun ns r hI G=>?_
 obtain⟨u,us,rfl⟩:=hI.wf.fin.cons;have G:=G.look;refine⟨fun hl=>⟨u,us,rfl,fun hw=>?_,fun hw=>?_⟩,fun hl=>?_⟩
 ·have n7:Rm N _ ⟨⟨26,t.2.1,0,0,⟨#[]⟩,ns,[]⟩,[],us,n⟩:=hI.tok (aW hw)
  refine fK n7 (G.pos ⟨hw,hl⟩).tok fun a r2 hI _ G=>cj hI G fun _ r3 hI _ G=>fK hI G fun b r4 hI _ G=>?_
  obtain⟨v,vs,rfl⟩:=hI.wf.fin.cons;have G:=G.look;refine⟨v,vs,rfl,fun hw=>?_,fun hw=>?_⟩
  ·exact fK (hI.tok (aW hw)) (G.pos hw).tok fun c r5 hI _ G=>cj hI G fun _ r6 hI _ G=>fL hI G fun d r7 hI _ G=>cj hI G fun _ r8 hI _ G=>cy hI G.ret
  ·exact cj hI (G.neg (by simp[hw])) fun _ r6 hI _ G=>fL hI G fun d r7 hI _ G=>cj hI G fun _ r8 hI _ G=>cy hI G.ret
 ·exact EB hI (G.neg (by simp[hw]))
 ·exact EB hI (G.neg (by simp[hl]))
end
end Go.Proofs.YteflkdlaoiijbaaGreatDoor
namespace Go.Proofs.YteflkdlaoiijbaaGreatDoor
open Go.RowKit
abbrev CP:GL Ast:=bN .FW
def sF:cg:=dw (dO (mo 5) [cS])
section
variable {α:Type} {K:α→List aj→Prop} {E:Int→Prop} {K':St→Prop} {N k n:Nat} {h:Nd} {xs:List Ast} {ts:List aj}
theorem CQ {kk:aj→GL α} (hI:Rm N k ⟨h,xs,ts,n⟩) (H:Gw (name kk) ts K E)
  (hk :∀(t:aj) (r:List aj),Rm N (k+1) ⟨h,xs++[ma 5 t.2.1 (bC t.2.2.2) []],r,n+Ast.ak [ma 5 t.2.1 (bC t.2.2.2) []]⟩→r.length<ts.length→Gw (kk t) r K E→K' ⟨h,xs++[ma 5 t.2.1 (bC t.2.2.2) []],r,n+Ast.ak [ma 5 t.2.1 (bC t.2.2.2) []]⟩):sF ⟨h,xs,ts,n⟩ K' E:=by
 obtain⟨t,r,jc⟩:=hI.cons;dsimp only at jc
 subst jc;have hn:=hI.n;have hx:=hI.xs;dsimp only[List.length_cons] at hn hx
 refine jF (by dsimp only;omega) ⟨t,r,t.2.1,rfl,.inl ⟨rfl,rfl⟩,⟨t,r,rfl,fun ht=>⟨by dsimp only;omega,nh.mk (hk t r ?_ (by simp) (H.name.1 ht))⟩,H.name.2⟩⟩
 have hz:Ast.ak [ma 5 t.2.1 (bC t.2.2.2) []]=1:=by rw[tX,kP,cE]
 have hl:=hI.len;dsimp only[List.length_cons] at hl
 exact⟨by dsimp only;omega,by rw[hz];dsimp only;omega,by simp;omega,hI.wf.tail (by rw[ht];decide)⟩
theorem EC {kk:Ast→GL α} {at_:Int} {self:List ByteArray} (hI:Rm N k ⟨h,xs,ts,n⟩) (hat:at_≠0) (hs:self.length≤100000) (H:Gw (.call (.Jn at_ self) kk) ts K E)
  (hk :∀(b:Ast) (ax:List aj),Rm N k ⟨h,xs++[b],ax,n+Ast.ak [b]⟩→ax.length<ts.length→Gw (kk b) ax K E→K' ⟨h,xs++[b],ax,n+Ast.ak [b]⟩):dw (dO ⟨11,at_,0,0,⟨#[]⟩,self,[]⟩ [wo N]) ⟨h,xs,ts,n⟩ K' E:=by
 obtain⟨t,r,jc⟩:=hI.cons;dsimp only at jc
 subst jc;have hn:=hI.n;have hx:=hI.xs;dsimp only at hn hx
 refine jF (by dsimp only;omega) ⟨t,r,at_,rfl,.inr ⟨hat,rfl⟩,?_⟩
 refine LJ (k:=k) ⟨hI.len,hn,by dsimp only[List.length_nil];omega,hI.wf⟩ hs ((Gw.call H).mono fun(b:Ast) ax p hq=>nh.mk (hk b ax (hI.kids (by rw[tX];have hz:b.size+2*ax.length≤2*(t::r).length:=hq.1;omega) (PL.short p) (p.wf hI.wf)) ?_ hq.2))
 have hz:b.size+2*ax.length≤2*(t::r).length:=hq.1;have:=size_pos b;omega
end
def wq:Nat→Ast→List aj→Nat→(Ast→List ByteArray→List aj→Prop)→(Int→Prop)→Prop
 | 0,_,_,_,_,_=>False
 | k+1,a,ts,n,K,E=>∃t r,ts=t::r∧(av [46] t=true→aI [aC,sF] ⟨dx 8 t.2.1,[a],ts,n+a.size⟩ (bW fun a' ax=>wq k a' ax n K E) E) ∧
  (av [46] t=false→(av [58] t=true→aI [aC,sF] ⟨dx 8 t.2.1,[a],ts,n+a.size⟩ (bW fun a' ax=>K a' [bC vN] ax) E)∧(av [58] t=false→K a [] ts))
def GY (N:Nat):cg:=fun s K E=>s.xs=[]∧∃t ts,s.ts=t::ts∧t.1≠0∧dO (mo 7) [cS] ts s.n (fun a fC=>∃m,wq m a fC s.n (fun a2 self il =>
 aI [eo,dw (dO ⟨11,t.2.1,0,0,⟨#[]⟩,self,[]⟩ [wo N])] ⟨s.h,[a2],il,s.n+Ast.ak [a2]⟩ K E) E) E
def GZ (N:Nat):cg:=fun s K E=>∃t ts,s.ts=t::ts∧(av ba t=false→aI [im,bB [61] [ng N]] { s with h:={ s.h with kind:=19}} K E) ∧
 (av ba t=true→∃u us,ts=u::us∧(u.1≠1→E u.2.1)∧(u.1=1→dw (dO ⟨11,t.2.1,0,0,⟨#[]⟩,[],[]⟩ [wo N]) { s with h:={ s.h with kind:=28,names:=[bC u.2.2.2]},ts:=us} K E))
def isVar (a:Ast):Prop:=a.hd.kind=7∨a.hd.kind=8
def Ul (N:Nat):iM:=fun ts n K E=>rZ N CP ts n (fun a fC=>(isVar a→K a fC)∧(¬ isVar a→∃t r,fC=t::r∧E t.2.1)) E
def Um (N:Nat):cg:=lK (Ul N) cX
def WJ (M N:Nat):cg:=fun s K E=>s.xs=[]∧rZ M CP s.ts s.n (fun a fC=>(a.hd.kind=9∨a.hd.kind=10→K ⟨{ s.h with kind:=21},[a],fC,s.n+Ast.ak [a]⟩) ∧
 (isVar a→aI [bB [44] [Um N],eo,au [[61]],ng N] ⟨{ s.h with kind:=20},[a],fC,s.n+Ast.ak [a]⟩ K E)∧(¬ (a.hd.kind=9∨a.hd.kind=10)→¬ isVar a→∃t r,fC=t::r∧E t.2.1)) E
section
variable {K:Ast→List aj→Prop} {E:Int→Prop} {K':St→Prop} {N k n:Nat} {h:Nd} {xs:List Ast} {t:aj} {ts:List aj}
theorem WK (at_:Int) (n:Nat) (C:Ast→List ByteArray→List aj→Prop) (hC :∀a self ts k,Rm N k ⟨dx 20 at_,[a],ts,n+Ast.ak [a]⟩→self.length≤1→Gw (.call (.Jn at_ self) fun(f:Ast)=>.ret (Jm 20 at_ 1 [a,f])) ts K E→C a self ts) :∀(m:Nat) (ts:List aj) (a:Ast) (k:Nat),ts.length<m→Rm N k ⟨dx 20 at_,[a],ts,n+Ast.ak [a]⟩→Gw (bN (.YM at_ a):GL Ast) ts K E→wq m a ts n C E:=by
 intro m;induction m with
 | zero=>intro ts a k h;omega
 | succ m ih =>
  intro ts a k h1 hI H;obtain⟨t,r,rfl⟩:=hI.wf.fin.cons;have G:=Gw.look H;have step :∀(j:Nat) (x y:Ast) (ax:List aj),Rm N (j+1) ⟨dx 8 t.2.1,[a]++[x],ax,n+a.size+Ast.ak [x]⟩→y.size=Ast.ak ([a]++[x])+1→Rm N j ⟨dx 20 at_,[y],ax,n+Ast.ak [y]⟩:=fun j x y ax hI hy=>by
   have h1:=hI.n;have h2:=hI.xs;rw[eZ,tX,tX] at hy;rw[tX] at h1;exact⟨hI.len,by rw[tX];dsimp only at *;omega,by simp at h2 ⊢;omega,hI.wf⟩
  have YX:Rm N k ⟨dx 8 t.2.1,[a],t::r,n+a.size⟩:=⟨hI.len,by have:=hI.n;rw[tX] at this;exact this,hI.xs,hI.wf⟩
  have sk :∀{K3:St→Prop},t.1≠0→(Rm N (k+2) ⟨dx 8 t.2.1,[a],r,n+a.size⟩→K3 ⟨dx 8 t.2.1,[a],r,n+a.size⟩)→aC ⟨dx 8 t.2.1,[a],t::r,n+a.size⟩ K3 E:=fun ht hk=>⟨t,r,rfl,ht,hk (YX.tok ht)⟩
  refine⟨t,r,rfl,fun hw=>?_,fun hw=>⟨fun hw2=>?_,fun hw2=>?_⟩⟩
  ·refine sk (aW hw) fun hI=>CQ hI (G.pos hw).tok fun u r2 hI hl G=>cy hI ?_
   have G2:=(Gw.call G).mono (K':=K) fun l ax _ hl=>hl.2.ret
   exact ih r2 _ (k+2) (by simp at h1;omega) (step _ _ _ _ hI (by rw[Ast.size])) G2
  ·refine sk (aW hw2) fun hI=>CQ hI ((G.neg (by simp[hw])).pos hw2).tok fun u r2 hI hl G=>cy hI ?_
   exact hC _ _ _ (k+2) (step _ _ _ _ hI (by rw[Ast.size])) (by simp) G
  ·exact hC _ _ _ k hI (by simp) ((G.neg (by simp[hw])).neg (by simp[hw2]))
theorem CR (hI:Rm (N+1) k ⟨dx 20 t.2.1,[],t::ts,n⟩) (H:Gw pX (t::ts) K E) (hw:av ba t=true):aI [GY N] ⟨dx 20 t.2.1,[],t::ts,n⟩ (bW K) E:=by
 have G:=Gw.call ((((((((((Gw.look H).neg (aU hw (by decide))).neg (aU hw (by decide))).neg (aU hw (by decide))).neg (aU hw (by decide))).neg (aU hw (by decide))).neg (aU hw (by decide))).neg (aU hw (by decide))).neg (aU hw (by decide))).pos hw).tok
 have G1:Gw (bN (.Zr t.2.1):GL Ast) ts K E:=G.mono fun l ax _ hl=>hl.2.ret
 have hat:t.2.1≠0:=(hI.wf.yQ t (bV ..)).1;have n7:=hI.WG (h':=dx 20 t.2.1) (aW hw);obtain⟨u,us,rfl⟩:=n7.wf.fin.cons;refine⟨rfl,t,u::us,rfl,aW hw,u,us,u.2.1,rfl,.inl ⟨rfl,rfl⟩,⟨u,us,rfl,fun hu=>?_,G1.name.2⟩⟩
 have hI:=n7.tok (h':=dx 20 t.2.1) (show u.1≠0 by rw[hu];decide)
 refine⟨by have:=hI.n;dsimp only at *;omega,us.length+1,?_⟩
 have G2:=(Gw.call (G1.name.1 hu)).mono (K':=K) fun l ax _ hl=>hl.2.ret
 refine WK (N:=N) t.2.1 n _ (fun a self BN k hI hs G=>?_) (us.length+1) us _ (k+3) (dz _) ?_ G2
 ·have Rn:Rm N k ⟨⟨20,t.2.1,0,1,⟨#[]⟩,[],[]⟩,[a],BN,n+Ast.ak [a]⟩:=⟨hI.len,hI.n,hI.xs,hI.wf⟩
  exact EC Rn hat (by omega) G fun b r4 hI _ G=>cy hI G.ret
 ·have h1:=hI.n
  have h2:=hI.xs;refine⟨hI.len,?_,by simp at h2 ⊢;omega,hI.wf⟩
  rw[tX];show n+Ast.size (ma 7 u.2.1 (bC u.2.2.2) [])+_+_≤_
  rw[kP,cE];dsimp only at *
  omega
theorem Ro (hI:Rm (N+1) k ⟨dx 0 t.2.1,[],t::ts,n⟩) (H:Gw pX (t::ts) K E) (hw:av fx t=true):aI [aC,GZ N] ⟨dx 0 t.2.1,[],t::ts,n⟩ (bW K) E:=by
 refine cU hI (aW hw) fun hI=>?_
 have G:=Gw.call (((((((((((Gw.look H).neg (aU hw (by decide))).neg (aU hw (by decide))).neg (aU hw (by decide))).neg (aU hw (by decide))).neg (aU hw (by decide))).neg (aU hw (by decide))).neg (aU hw (by decide))).neg (aU hw (by decide))).neg (aU hw (by decide))).pos hw).tok
 have G1:Gw (bN (.loc t.2.1):GL Ast) ts K E:=G.mono fun l ax _ hl=>hl.2.ret
 obtain⟨u,us,rfl⟩:=hI.wf.fin.cons;have G:=Gw.look G1;refine⟨u,us,rfl,fun hw=>?_,fun hw=>?_⟩
 ·have n7:Rm N (k+2) ⟨dx 19 t.2.1,[],u::us,n⟩:=⟨hI.len,hI.n,hI.xs,hI.wf⟩
  refine LI n7 (G.neg (by simp[hw])) fun ns r hI G=>?_
  obtain⟨v,vs,rfl⟩:=hI.wf.fin.cons;have G:=G.look;exact⟨v,vs,rfl,fun hw=>sV (hI.tok (aW hw)) (G.pos hw).tok fun l r2 hI _ G=>cy hI G.ret,fun hw=>cy hI (G.neg (by simp[hw])).ret⟩
 ·have hat:u.2.1≠0:=(hI.wf.yQ u (bV ..)).1
  have n7:=hI.tok (h':=dx 28 t.2.1) (aW hw);obtain⟨v,vs,rfl⟩:=n7.wf.fin.cons;have G:=(G.pos hw).tok;refine⟨v,vs,rfl,G.name.2,fun hv=>?_⟩
  have Rn:Rm N (k+6) ⟨⟨28,t.2.1,0,0,⟨#[]⟩,[bC v.2.2.2],[]⟩,[],vs,n⟩:=n7.tok (by rw[hv];decide)
  exact EC Rn hat (by simp) (G.name.1 hv) fun b r hI _ G=>cy hI G.ret
theorem LM (l:List Ast) (x d:Ast):(l++[x]).getLastD d=x:=by simp
theorem Rp (at_:Int) (l0:List Ast) (K2:Ast→List aj→Prop) (B:Nat) (C:List Ast→List aj→Prop) (hC :∀xs ax,Ast.ak xs+2*ax.length≤B→Wf ax→ax.length<N→Gw (want [61] fun _=>.call .Cd fun(m:List Ast)=>.ret (Jm 20 at_ ((l0++xs).length:Int) (l0++xs++m))) ax K2 E→C xs ax) :
  ∀(m:Nat) (ts:List aj) (n:Nat) (acc:List Ast),ts.length<m→ts.length<N→n+2*ts.length≤60000→Ast.ak acc+2*ts.length≤B→Wf ts→Gw (.call .FW fun(x:Ast)=>.call (.YP at_ (l0++acc++[x])) fun(y:Ast)=>.ret y) ts K2 E→rY (Ul N) cX m ts n acc C E:=by
 intro m;induction m with
 | zero=>intro ts n acc h;omega
 | succ m ih =>
  intro ts n acc h1 h2 h3 hB hf H;refine⟨h2,h3,hf.yQ,(Gw.call H).mono fun(e:Ast) ax p hq=>?_⟩
  have hz:e.size+2*ax.length+1≤2*ts.length:=hq.1;have hf':=p.wf hf;obtain⟨t,r,rfl⟩:=hf'.fin.cons;have hg:=(Gw.call hq.2).look;rw[LM] at hg;have hsz:Ast.ak (acc++[e])+2*(t::r).length≤B:=by rw[eZ,tX];omega
  refine⟨fun hv=>?_,fun hv=>⟨t,r,rfl,(hg.neg hv).bad⟩⟩
  have hg:=hg.pos hv;cases hc:av [44] t with
  | true =>
   have e1:cX (t::r)=(true,r):=by simp[cX,hc]
   show(_→_)∧(_→_)
   rw[e1];refine⟨fun _=>ih r (n+e.size) (acc++[e]) (by simp at hz;omega) (by simp at hz;omega) (by simp at hz;omega) (by simp at hsz ⊢;omega) (hf'.tail (aW hc)) ?_,fun hb=>(fV hb.symm).elim⟩
   rw[←fg];exact(hg.pos hc).tok.mono fun y BN _ hy=>hy.2.ret
  | false =>
   have e1:cX (t::r)=(false,t::r):=by simp[cX,hc]
   show(_→_)∧(_→_)
   rw[e1];refine⟨fun hb=>(fV hb).elim,fun _=>hC (acc++[e]) (t::r) hsz hf' (by omega) ?_⟩
   have G:=hg.neg (by simp[hc])
   rw[←fg];exact G.mono fun y BN _ hy=>hy.2.ret
structure LN (t:aj):Prop where
 a:av [58,58] t=false
 b:av oJ t=false
 c:av rM t=false
 d:av Ca t=false
 e:av oK t=false
 f:av ly t=false
 g:av Vm t=false
 h:av Cb t=false
 i:av ba t=false
 j:av fx t=false
theorem Rq (hI:Rm (N+1) k ⟨dx 0 t.2.1,[],t::ts,n⟩) (H:Gw pX (t::ts) K E) (hw:LN t):aI [WJ (N+1) N] ⟨dx 0 t.2.1,[],t::ts,n⟩ (bW K) E:=by
 have G:=((((((((((Gw.look H).neg (by simp[hw.a])).neg (by simp[hw.b])).neg (by simp[hw.c])).neg (by simp[hw.d])).neg (by simp[hw.e])).neg (by simp[hw.f])).neg (by simp[hw.g])).neg (by simp[hw.h])).neg (by simp[hw.i])).neg (by simp[hw.j])
 have hn:=hI.n;have hx:=hI.xs;have hl:=hI.len;dsimp only at hn hx hl
 refine⟨rfl,hI.len,by dsimp only;omega,hI.wf.yQ,(Gw.call G).mono fun(x:Ast) ax p hq=>?_⟩
 have hz:x.size+2*ax.length+1≤2*(t::ts).length:=hq.1;have xZ:=p.wf hI.wf;have hlt:ax.length<N:=by have:=size_pos x;simp only[List.length_cons] at *;omega
 have n7 :∀h',Rm N 0 ⟨h',[x],ax,n+Ast.ak [x]⟩:=fun h'=>⟨hlt,by rw[tX];dsimp only;omega,by have:=size_pos x;simp only[List.length_cons,List.length_nil] at *;omega,xZ⟩
 refine⟨fun hk=>cy (n7 _) (hq.2.pos hk).ret,fun hv=>?_,fun h1 h2=>?_⟩
 ·have h9:¬ (x.hd.kind=9∨x.hd.kind=10):=by unfold isVar at hv;omega
  have G:=(Gw.call (hq.2.neg h9)).mono (K':=K) fun y BN _ hy=>hy.2.ret
  obtain⟨u,us,rfl⟩:=xZ.fin.cons;have G:=(Gw.look G).pos hv;have hend :∀(ys:List Ast) (BN:List aj),Rm N 0 ⟨dx 20 t.2.1,[x]++ys,BN,n+Ast.ak ([x]++ys)⟩→Gw (want [61] fun _=>.call .Cd fun(m:List Ast)=>.ret (Jm 20 t.2.1 (([x]++ys).length:Int) ([x]++ys++m))) BN K E→aI [eo,au [[61]],ng N] ⟨dx 20 t.2.1,[x]++ys,BN,n+Ast.ak ([x]++ys)⟩ (bW K) E:=fun ys BN hI G=>by
   have Rn:Rm N 0 ⟨⟨20,t.2.1,0,(([x]++ys).length:Int),⟨#[]⟩,[],[]⟩,[x]++ys,BN,n+Ast.ak ([x]++ys)⟩:=⟨hI.len,hI.n,hI.xs,hI.wf⟩;exact cj Rn G fun _ r2 hI _ G=>sV hI G fun m r3 hI _ G=>cy hI G.ret
  refine⟨u,us,rfl,fun hc=>?_,fun hc=>?_⟩
  ·have G8:=(n7 (dx 20 t.2.1)).tok (h':=dx 20 t.2.1) (aW hc)
   have htn:=G8.n;have htx:=G8.xs;dsimp only at htn htx
   refine⟨by dsimp only;omega,us.length+1,by omega,?_⟩
   refine Rp t.2.1 [x] K (2*us.length) _ (fun ys BN hs hw3 Jw G=>?_) (us.length+1) us _ [] (dz _) G8.len (by dsimp only;omega) (by rw[cE];omega) G8.wf ((G.pos hc).tok)
   have:=hend ys BN ⟨Jw,?_,?_,hw3⟩ G
   ·rw[eZ,←pC] at this
    exact this
   ·rw[eZ];dsimp only;omega
   ·have:=tY ys
    simp only[cC] at *;omega
  ·have:=hend [] (u::us) (by rw[iX];exact n7 _) (by rw[iX];exact G.neg (by simp[hc]))
   rw[iX] at this;exact this
 ·have h9:=hq.2.neg h1
  obtain⟨u,us,rfl⟩:=xZ.fin.cons;have G:=(Gw.call h9).look;exact⟨u,us,rfl,(G.neg h2).bad⟩
end
end Go.Proofs.YteflkdlaoiijbaaGreatDoor
namespace Go.Proofs.YteflkdlaoiijbaaGreatDoor
open Go.RowKit
def oY (f:FuncId) (wp:iM):Prop:=∀(b:Nat) (O:Nat→Prop) (ts:List aj) (T:List Nd) (K:Ast→List aj→Prop) (E:Int→Prop) (W:World),PS W b O ts T→wp ts T.length K E→Calls Tryz.prog f #[.pointer (some ⟨b,0,none⟩)] W (aH b O T (RK K E) W)
theorem oY.one {f:FuncId} {wp:iM} (h:oY f wp) (hf:Enters Tryz.prog f) (W:World) (b:Nat) (O:Nat→Prop):One W b O (aZ f b) wp:=by
 intro W1 O1 T ts K E _ _ hp hk;exact⟨f,_,_,rfl,hf,h b O1 ts T K E W1 hp hk⟩
def ey (f:FuncId) (wp:cg):Prop:=∀(b n:Nat) (O:Nat→Prop) (T0:List Nd) (s:St) (K:St→Prop) (E:Int→Prop) (W:World),Real W b n O T0 s→wp s K E→Calls Tryz.prog f #[.pointer (some ⟨b,0,none⟩),.pointer (some ⟨n,0,none⟩)] W (bE b n O T0 K E W)
theorem ey.part {f:FuncId} {wp:cg} (h:ey f wp) (hf:Enters Tryz.prog f) (W:World) (b:Nat) (O:Nat→Prop):eH W b O (aZ f b) wp:=by
 intro W1 O1 T0 s n K E _ _ hr hk;exact⟨f,_,_,rfl,hf,h b n O1 T0 s K E W1 hr hk⟩
theorem Real.lt {W:World} {b n:Nat} {O:Nat→Prop} {T0:List Nd} {s:St} (h:Real W b n O T0 s) :∀k,O k→k<W.heap.size:=fun k hk=>(h.own k hk).2
theorem eH.call {W W1:World} {b n:Nat} {O:Nat→Prop} {T0:List Nd} {s:St} {K:St→Prop} {E:Int→Prop} {v:Value} {wp:cg} (h:eH W1 b O v wp) (hr:Real W b n O T0 s) (hb:Below W.heap.size W W1) (hk:wp s K E) :
  ∃f first cap,v=.func (.func f) first cap∧Enters Tryz.prog f∧Calls Tryz.prog f (first.push (.pointer (some ⟨n,0,none⟩))++cap) W1 (bE b n O T0 K E W):=by
 obtain⟨f,first,cap,e,h1,h2⟩:=h W1 O T0 s n K E (ay.refl _ _) (Ext.refl _ _) (hr.below hb) hk
 refine⟨f,first,cap,e,h1,?_⟩
 rw[show first++#[Value.pointer (some ⟨n,0,none⟩)]=first.push (.pointer (some ⟨n,0,none⟩)) from by simp] at h2
 exact h2.mono fun e w' hp=>hp.after (ay.ae hb)
theorem LO {wp:iM} (hE:oY 142 wp):ey 91 (dw wp):=by
 intro b n O T0 s K E w hr hk;have HC:=aa (Ae b O 142 _ _ wp w (hE.one (enters_of Tryz.func142 (by kernel_rfl) rfl) w b O) hr.lt)
 have HR:=aa hr;have HK:=aa hk;clear hr hk;go_enter Tryz.func91,Tryz.ntmps91
 go_wp2_with fail
 refine HC.out.mono ?_;rintro e w1 ⟨v,rfl,b1,h2⟩;obtain⟨f,first,cap,rfl,oT,bw⟩:=h2.1.call HR.out b1 HK.out
 have dX:=aa bw;clear h2 bw b1;unfold Enters at oT;go_wp2_with fail
 refine dX.out.mono ?_;intro e w2 h3;obtain⟨v,rfl⟩:=h3.ret;have H3:=aa h3;clear h3;go_wp2_with fail
 go_ret
 exact H3.out
theorem tZ (W:World) (b:Nat) (O:Nat→Prop):xS W b O (aZ 143 b) cX:=by
 intro W1 O1 T ts _ _ hp;obtain⟨t,r,rfl⟩:=hp.fin.cons;refine⟨143,_,_,rfl,enters_of Tryz.func143 (by kernel_rfl) rfl,?_⟩
 cases hc:av [44] t with
 | true =>
  have e1:cX (t::r)=(true,r):=by simp[cX,hc]
  rw[e1];exact jX b O1 t r T W1 hp hc
 | false =>
  have e1:cX (t::r)=(false,t::r):=by simp[cX,hc]
  rw[e1];exact lJ b O1 t r T W1 hp hc
theorem LP {wp:iM} (hE:oY 142 wp):ey 84 (lK wp cX):=by
 intro b n O T0 s K E w hr hk;have HC:=aa (xX b O 142 143 _ _ _ _ wp cX w (hE.one (enters_of Tryz.func142 (by kernel_rfl) rfl) w b O) (tZ w b O) hr.lt)
 have HR:=aa hr;have HK:=aa hk;clear hr hk;go_enter Tryz.func84,Tryz.ntmps84
 go_wp2_with fail
 refine HC.out.mono ?_;rintro e w1 ⟨v,rfl,b1,h2⟩;obtain⟨f,first,cap,rfl,oT,bw⟩:=h2.1.call HR.out b1 HK.out
 have dX:=aa bw;clear h2 bw b1;unfold Enters at oT;go_wp2_with fail
 refine dX.out.mono ?_;intro e w2 h3;obtain⟨v,rfl⟩:=h3.ret;have H3:=aa h3;clear h3;go_wp2_with fail
 go_ret
 exact H3.out
theorem G9 {wp:iM} (hE:oY 184 wp):ey 154 (lK wp cX):=by
 intro b n O T0 s K E w hr hk;have HC:=aa (xX b O 184 143 _ _ _ _ wp cX w (hE.one (enters_of Tryz.func184 (by kernel_rfl) rfl) w b O) (tZ w b O) hr.lt)
 have HR:=aa hr;have HK:=aa hk;clear hr hk;go_enter Tryz.func154,Tryz.ntmps154
 go_wp2_with fail
 refine HC.out.mono ?_;rintro e w1 ⟨v,rfl,b1,h2⟩;obtain⟨f,first,cap,rfl,oT,bw⟩:=h2.1.call HR.out b1 HK.out
 have dX:=aa bw;clear h2 bw b1;unfold Enters at oT;go_wp2_with fail
 refine dX.out.mono ?_;intro e w2 h3;obtain⟨v,rfl⟩:=h3.ret;have H3:=aa h3;clear h3;go_wp2_with fail
 go_ret
 exact H3.out
theorem aN.new {w:World} {b:Nat} {O:Nat→Prop} (hO :∀k,O k→k<w.heap.size) (vs:List Value) (cP:List cg) (hl:vs.length≤100) (h:jD w b O vs cP):aN (w.alloc (.cells vs.toArray 122)) b O (.slice (some ⟨w.heap.size,0,none⟩) vs.length vs.length) cP :=
 ⟨vs,.inr ⟨w.heap.size,rfl,World.alloc_heap_new w _,fun h=>by have:=hO _ h;omega,hl⟩,h.later ((ay.refl _ _).alloc _) (Ext.refl _ _)⟩
theorem aX (w:World) (o:Obj):Below w.heap.size w (w.alloc o):=(Below.refl _ _).alloc (ah _) o
theorem ED {wp:cg} (hS:ey 20 wp):ey 90 (dw (dO (mo 18) [wp])):=by
 intro b n O T0 s K E w hr hk;have hO:=hr.lt;have HP:aN (w.alloc (.cells #[aZ 20 b] 122)) b O (.slice (some ⟨w.heap.size,0,none⟩) 1 1) [wp]:=aN.new hO [aZ 20 b] [wp] (by simp) ⟨hS.part (enters_of Tryz.func20 (by kernel_rfl) rfl) w b O,trivial⟩
 have HC:=aa (qV b O (mo 18) (.slice none 0 0) _ [wp] _ (yP.nil _ b) HP (fun k hk=>by have:=hO k hk;simp;omega))
 have HR:=aa hr;have HK:=aa hk;clear hr hk HP hO;go_enter Tryz.func90,Tryz.ntmps90
 go_wp2_with fail
 refine HC.out.mono ?_;rintro e w1 ⟨v,rfl,b1,h2⟩;obtain⟨f,first,cap,rfl,oT,bw⟩:=h2.1.call HR.out (aB (aX w _) b1) HK.out
 have dX:=aa bw;clear h2 bw b1;unfold Enters at oT;go_wp2_with fail
 refine dX.out.mono ?_;intro e w2 h3;obtain⟨v,rfl⟩:=h3.ret;have H3:=aa h3;clear h3;go_wp2_with fail
 go_ret
 exact H3.out
theorem LQ:ey 179 sF:=by
 intro b n O T0 s K E w hr hk;have hO:=hr.lt;have HP:aN (w.alloc (.cells #[aZ 88 b] 122)) b O (.slice (some ⟨w.heap.size,0,none⟩) 1 1) [cS]:=aN.new hO [aZ 88 b] [cS] (by simp) ⟨gW w b O,trivial⟩
 have HC:=aa (qV b O (mo 5) (.slice none 0 0) _ [cS] _ (yP.nil _ b) HP (fun k hk=>by have:=hO k hk;simp;omega))
 have HR:=aa hr;have HK:=aa hk;clear hr hk HP hO;go_enter Tryz.func179,Tryz.ntmps179
 go_wp2_with fail
 refine HC.out.mono ?_;rintro e w1 ⟨v,rfl,b1,h2⟩;obtain⟨f,first,cap,rfl,oT,bw⟩:=h2.1.call HR.out (aB (aX w _) b1) HK.out
 have dX:=aa bw;clear h2 bw b1;unfold Enters at oT;go_wp2_with fail
 refine dX.out.mono ?_;intro e w2 h3;obtain⟨v,rfl⟩:=h3.ret;have H3:=aa h3;clear h3;go_wp2_with fail
 go_ret
 exact H3.out
theorem aai (b:Nat) (O:Nat→Prop) (t:aj) (ts:List aj) (T:List Nd) (x:Nd) (pv:Value) (cP:List cg) (K:Ast→List aj→Prop) (E:Int→Prop) (w:World) (hp:PS w b O (t::ts) T) (hx:x=⟨x.kind,0,x.op,x.num,x.s,[],[]⟩) (Ex:aN w b O pv cP)
  (hk:aI cP ⟨{ x with line:=t.2.1},[],t::ts,T.length⟩ (bW K) E):Calls Tryz.prog 19 #[.pointer (some ⟨b,0,none⟩),cY x (.slice none 0 0) (.slice none 0 0),pv] w (aH b O T (RK K E) w):=by
 have h1:x.line=0:=by rw[hx]
 have h2:x.names=[]:=by rw[hx]
 refine(xV b O (fun _=>False) t ts T T x t.2.1 [] [] (.slice none 0 0) (.slice none 0 0) pv cP (RK K E) w hp ⟨?_,World.ownsRow_nil _ _ _ _,fun g hg=>by simp[Value.ownBlock] at hg,fun g hg=>by simp[Value.ownBlock] at hg,fun g hg=>by simp[Value.ownBlock] at hg⟩ (fun _ _ h=>h) (fun _ h=>h.elim) (ei.nil T) (Ex.later (ay.refl _ _) (fun k hk=>.inl (hk.elim id False.elim))) (.inl ⟨h1,rfl⟩) hk).mono fun e w' h=>h.sub fun k hk=>hk.elim id False.elim
 rw[show({ x with kids:=[]}:Nd).names=[] from h2]
 exact World.ownsRow_nil _ _ _ _
theorem cI {b:Nat} {O:Nat→Prop} {t:aj} {ts:List aj} {T:List Nd} {K:Ast→List aj→Prop} {E:Int→Prop} (w w2:World) (hp:PS w2 b O (t::ts) T) (hf:ay O w w2) (x:Nd) (hx:x=⟨x.kind,0,x.op,x.num,x.s,[],[]⟩) (vs:List Value) (cP:List cg) (hl:vs.length≤100) (hall:jD w2 b O vs cP)
  (hk:aI cP ⟨{ x with line:=t.2.1},[],t::ts,T.length⟩ (bW K) E):Calls Tryz.prog 19 #[.pointer (some ⟨b,0,none⟩),cY x (.slice none 0 0) (.slice none 0 0),.slice (some ⟨w2.heap.size,0,none⟩) vs.length vs.length] (w2.alloc (.cells vs.toArray 122)) (aH b O T (RK K E) w) :=
 (aai b O t ts T x _ cP K E _ (hp.below (aX w2 _)) hx (aN.new (fun k hk=>(hp.own k hk).2) vs cP hl hall) hk).mono fun _ _ h=>h.after (hf.alloc _)
def jY (b:Nat) (O:Nat→Prop) (wp:cg) (w:World) (e:Ending) (w':World):Prop:=∃f first cap,e=.returned (.func (.func f) first cap)∧Below w.heap.size w w'∧eH w' b O (.func (.func f) first cap) wp
theorem cF (w:World) (b:Nat) (O:Nat→Prop) (hO :∀k,O k→k<w.heap.size) (x:List UInt8) (hx:x≠[]) (X:ByteArray) (hX:X=bC x) :
  Calls Tryz.prog 89 #[.pointer (some ⟨b,0,none⟩),.slice (some ⟨w.heap.size,0,none⟩) 1 1] (w.alloc (.cells #[.string X] 9)) (jY b O (au [x]) w):=by
 subst hX;refine(Eu b w.heap.size O [x] (w.alloc (.cells #[.string (bC x)] 9)) (fun y hy=>by rw[bR.1 hy];exact hx) (by simp) (eI.new w O hO _ 9) (fun k hk=>by have:=hO k hk;simp;omega) 1 rfl).mono ?_
 rintro e w' ⟨v,rfl,hb,hp,f,first,cap,rfl⟩
 exact⟨f,first,cap,rfl,aB (aX w _) hb,hp⟩
def LS (ex:cg) (t:aj) (ts:List aj) (n:Nat) (K:Ast→List aj→Prop) (E:Int→Prop):Prop :=
 (av [40] t=true→aI [aC,ex,au [[41]]] ⟨dx 14 t.2.1,[],t::ts,n⟩ (bW K) E)∧(av [40] t=false→aI [cS] ⟨dx 7 t.2.1,[],t::ts,n⟩ (bW K) E)
theorem Rr {ex:cg} (hE:ey 91 ex) (b:Nat) (O:Nat→Prop) (t:aj) (ts:List aj) (T:List Nd) (K:Ast→List aj→Prop) (E:Int→Prop) (w:World) (hp:PS w b O (t::ts) T) (hk:LS ex t ts T.length K E) :
  Calls Tryz.prog 182 #[.pointer (some ⟨b,0,none⟩)] w (aH b O T (RK K E) w):=by
 have HW:=aa (bQ b O t ts T w hp);cases hq:av [40] t with
 | true =>
  have g1:((ag t).toList == [40])=true:=ai (s:=[40]) (by decide) t hq
  have HK:=aa (hk.1 hq);generalize hY:ag t=Y at *;have HP:=aa hp;clear hp hk hY hq;go_enter Tryz.func182,Tryz.ntmps182
  go_wp2_with fail
  refine HW.out.mono ?_;rintro e w1 ⟨rfl,b1⟩;have b9:=HP.out.below b1;have qU :∀k,O k→k<w1.heap.size:=fun k hk=>(b9.own k hk).2
  have B1:=aa b1;have P1:=aa b9;have HV:=aa (cF w1 b O qU [41] (by decide) ⟨#[41]⟩ rfl)
  clear b1 b9 qU;go_wp2_with fail
  refine HV.out.mono ?_;rintro e w2 ⟨fi,f1,f2,rfl,b2,h2⟩;have HN:=aa (cI w w2 (P1.out.below b2) (ay.ae (aB B1.out b2)) (mo 14) rfl [aZ 40 b,aZ 91 b,.func (.func fi) f1 f2] [aC,ex,au [[41]]] (by simp) ⟨bb w2 b O,hE.part (enters_of Tryz.func91 (by kernel_rfl) rfl) w2 b O,h2,trivial⟩ HK.out)
  clear b2 h2;go_wp2_with fail
  refine HN.out.mono ?_;intro e w3 h3;obtain⟨v,er,rfl⟩:=h3.ret;have H3:=aa h3;clear h3;go_wp2_with fail
  go_ret2
  exact H3.out
 | false =>
  have g1:((ag t).toList == [40])=false:=ai (s:=[40]) (by decide) t hq
  have HK:=aa (hk.2 hq);generalize hY:ag t=Y at *;have HP:=aa hp;clear hp hk hY hq;go_enter Tryz.func182,Tryz.ntmps182
  go_wp2_with fail
  refine HW.out.mono ?_;rintro e w1 ⟨rfl,b1⟩;have HN:=aa (cI w w1 (HP.out.below b1) (ay.ae b1) (mo 7) rfl [aZ 88 b] [cS] (by simp) ⟨gW w1 b O,trivial⟩ HK.out)
  clear b1;go_wp2_with fail
  refine HN.out.mono ?_;intro e w3 h3;obtain⟨v,er,rfl⟩:=h3.ret;have H3:=aa h3;clear h3;go_wp2_with fail
  go_ret2
  exact H3.out
theorem Ha (w:World) (b:Nat) (O:Nat→Prop) (hO :∀k,O k→k<w.heap.size) (x y:List UInt8) (hx:x≠[]) (hy:y≠[]) (X Y:ByteArray) (hX:X=bC x) (hY:Y=bC y) :
  Calls Tryz.prog 89 #[.pointer (some ⟨b,0,none⟩),.slice (some ⟨w.heap.size,0,none⟩) 2 2] (w.alloc (.cells #[.string X,.string Y] 9)) (jY b O (au [x,y]) w):=by
 subst hX hY;refine(Eu b w.heap.size O [x,y] (w.alloc (.cells #[.string (bC x),.string (bC y)] 9)) (fun z hz=>by rcases bq.1 hz with rfl|hz;exact hx;rw[bR.1 hz];exact hy) (by simp) (eI.new w O hO _ 9) (fun k hk=>by have:=hO k hk;simp;omega) 2 rfl).mono ?_
 rintro e w' ⟨v,rfl,hb,hp,f,first,cap,rfl⟩
 exact⟨f,first,cap,rfl,aB (aX w _) hb,hp⟩
theorem oZ (w:World) (b:Nat) (O:Nat→Prop) (hO :∀k,O k→k<w.heap.size) (vs:List Value) (cP:List cg) (hl:vs.length≤100) (h:jD w b O vs cP) (x:List UInt8) (hx:x≠[]) (X:ByteArray) (hX:X=bC x) :
  Calls Tryz.prog 42 #[.pointer (some ⟨b,0,none⟩),.string X,.slice (some ⟨w.heap.size,0,none⟩) vs.length vs.length] (w.alloc (.cells vs.toArray 122)) (jY b O (bB x cP) w):=by
 refine(wg b O x X hX hx _ cP _ (aN.new hO vs cP hl h) (fun k hk=>by have:=hO k hk;simp;omega)).mono ?_
 rintro e w' ⟨v,rfl,hb,hp,f,first,cap,rfl⟩
 exact⟨f,first,cap,rfl,aB (aX w _) hb,hp⟩
theorem Rt (w:World) (b:Nat) (O:Nat→Prop) (hO :∀k,O k→k<w.heap.size) (vs:List Value) (cP:List cg) (hl:vs.length≤100) (h:jD w b O vs cP) (x:List UInt8) (hx:x≠[]) (X:ByteArray) (hX:X=bC x) :
  Calls Tryz.prog 92 #[.pointer (some ⟨b,0,none⟩),.string X,.slice (some ⟨w.heap.size,0,none⟩) vs.length vs.length] (w.alloc (.cells vs.toArray 122)) (jY b O (qQ x cP) w):=by
 refine(CK b O x X hX hx _ cP _ (aN.new hO vs cP hl h) (fun k hk=>by have:=hO k hk;simp;omega)).mono ?_
 rintro e w' ⟨v,rfl,hb,hp,f,first,cap,rfl⟩
 exact⟨f,first,cap,rfl,aB (aX w _) hb,hp⟩
theorem qY (w:World) (b:Nat) (O:Nat→Prop) (hO :∀k,O k→k<w.heap.size) (x:List UInt8) (hx:x≠[]) (X:ByteArray) (hX:X=bC x) (f:FuncId) (first cap:Array Value) (wp:cg) (h:eH w b O (.func (.func f) first cap) wp) :
  Calls Tryz.prog 180 #[.pointer (some ⟨b,0,none⟩),.string X,.func (.func f) first cap] w (jY b O (dC x wp) w):=by
 refine(Lu b O x X hX hx f first cap wp w h hO).mono ?_
 rintro e w' ⟨v,rfl,hb,hp,f,first,cap,rfl⟩
 exact⟨f,first,cap,rfl,hb,hp⟩
theorem jf {b n:Nat} {O O2:Nat→Prop} {T0:List Nd} {s:St} {K:St→Prop} {E:Int→Prop} (w w2:World) (hr:Real w2 b n O2 T0 s) (hf:ay O w w2) (he:Ext O O2 w) (vs:List Value) (cP:List cg) (hl:vs.length≤100) (hall:jD w2 b O2 vs cP) (hk:aI cP s K E) :
  Calls Tryz.prog 35 #[.pointer (some ⟨n,0,none⟩),.slice (some ⟨w2.heap.size,0,none⟩) vs.length vs.length] (w2.alloc (.cells vs.toArray 122)) (bE b n O T0 K E w) :=
 (tQ b n O2 T0 s K E _ cP _ (hr.below (aX w2 _)) (aN.new hr.lt vs cP hl hall) hk).mono fun e w' h=>by
  obtain⟨h1,h2⟩:=h;have hf2:ay O2 w2 w':=((ay.refl O2 w2).alloc _).trans h1 (Ext.refl _ _);refine⟨hf.trans hf2 he,h2.imp ?_ ?_⟩
  ·rintro⟨s',O',e1,r1,x1,k1⟩
   exact⟨s',O',e1,r1,he.trans (fun k hk=>(x1 k hk).imp id fun h=>by simp at h;omega) hf.size,k1⟩
  ·rintro⟨l,v,e1,⟨g,m1,m2,m3⟩,k⟩
   exact⟨l,v,e1,⟨g,m1,by have:=hf.size;simp at m2;omega,m3⟩,k⟩
theorem LU {pa bl:cg} (ab9:ey 181 pa) (hB:ey 90 bl):ey 152 (fun s K E=>aI [au [[40]],dC [41] pa,au [[41]],bl,au [iC]] s K E):=by
 intro b n O T0 s K E w0 hr hk;have HK:=aa hk;have P0:=aa hr;have F0:=aa (ay.refl O w0);clear hr hk;go_enter Tryz.func152,Tryz.ntmps152
 have oz :∀k,O k→k<w0.heap.size:=P0.out.lt;have V1:=aa (cF w0 b O oz [40] (by decide) ⟨#[40]⟩ rfl)
 clear oz;go_wp2_with fail
 refine V1.out.mono ?_;rintro e w1 ⟨f1,a1,c1,rfl,b1,h1⟩;have F1:=aa (F0.out.trans (ay.ae (O:=O) b1) (Ext.refl _ _));have P1:=aa (P0.out.below b1);have H1:=aa h1;clear b1 h1 V1;have qU :∀k,O k→k<w1.heap.size:=P1.out.lt;have V2:=aa (qY w1 b O qU [41] (by decide) ⟨#[41]⟩ rfl 181 _ _ (pa) (ab9.part (enters_of Tryz.func181 (by kernel_rfl) rfl) w1 b O))
 clear qU;go_wp2_with fail
 refine V2.out.mono ?_;rintro e w2 ⟨f2,a2,c2,rfl,b2,h2⟩;have F2:=aa (F1.out.trans (ay.ae (O:=O) b2) (Ext.refl _ _));have P2:=aa (P1.out.below b2);have L1:=aa (H1.out.later (ay.ae (O:=O) b2) (Ext.refl _ _));clear H1;have H1:=L1;clear L1;have H2:=aa h2;clear b2 h2 V2;have Jy :∀k,O k→k<w2.heap.size:=P2.out.lt;have V3:=aa (cF w2 b O Jy [41] (by decide) ⟨#[41]⟩ rfl)
 clear Jy;go_wp2_with fail
 refine V3.out.mono ?_;rintro e w3 ⟨f3,a3,c3,rfl,b3,h3⟩;have F3:=aa (F2.out.trans (ay.ae (O:=O) b3) (Ext.refl _ _));have P3:=aa (P2.out.below b3);have L1:=aa (H1.out.later (ay.ae (O:=O) b3) (Ext.refl _ _));clear H1;have H1:=L1;clear L1;have L2:=aa (H2.out.later (ay.ae (O:=O) b3) (Ext.refl _ _));clear H2;have H2:=L2;clear L2;have H3:=aa h3;clear b3 h3 V3;have BO :∀k,O k→k<w3.heap.size:=P3.out.lt;have V4:=aa (cF w3 b O BO [101,110,100] (by decide) ⟨#[101,110,100]⟩ rfl)
 clear BO;go_wp2_with fail
 refine V4.out.mono ?_;rintro e w4 ⟨f4,a4,c4,rfl,b4,h4⟩;have F4:=aa (F3.out.trans (ay.ae (O:=O) b4) (Ext.refl _ _));have P4:=aa (P3.out.below b4);have L1:=aa (H1.out.later (ay.ae (O:=O) b4) (Ext.refl _ _));clear H1;have H1:=L1;clear L1;have L2:=aa (H2.out.later (ay.ae (O:=O) b4) (Ext.refl _ _));clear H2;have H2:=L2;clear L2;have L3:=aa (H3.out.later (ay.ae (O:=O) b4) (Ext.refl _ _));clear H3;have H3:=L3;clear L3;have H4:=aa h4;clear b4 h4 V4;have HN:=aa (jf w0 w4 P4.out F4.out (Ext.refl _ _) [.func (.func f1) a1 c1,.func (.func f2) a2 c2,.func (.func f3) a3 c3,aZ 90 b,.func (.func f4) a4 c4] [au [[40]],dC [41] (pa),au [[41]],bl,au [[101,110,100]]] (by simp) ⟨H1.out,H2.out,H3.out,hB.part (enters_of Tryz.func90 (by kernel_rfl) rfl) w4 b O,H4.out,trivial⟩ HK.out)
 go_wp2_with fail
 refine HN.out.mono ?_;intro e wz hz;obtain⟨v,rfl⟩:=hz.ret;have HZ:=aa hz;clear hz;go_wp2_with fail
 go_ret
 exact HZ.out
theorem Ru {it:cg} (G8:ey 235 it) (b:Nat) (O:Nat→Prop) (t:aj) (ts:List aj) (T:List Nd) (K:Ast→List aj→Prop) (E:Int→Prop) (w0:World) (hp:PS w0 b O (t::ts) T)
  (hk:aI [aC,dC [125] it,au [[125]]] ⟨dx 15 t.2.1,[],t::ts,T.length⟩ (bW K) E) :
  Calls Tryz.prog 225 #[.pointer (some ⟨b,0,none⟩)] w0 (aH b O T (RK K E) w0):=by
 have HK:=aa hk;have P0:=aa hp;have F0:=aa (ay.refl O w0);clear hp hk;go_enter Tryz.func225,Tryz.ntmps225
 have oz :∀k,O k→k<w0.heap.size:=fun k hk=>(P0.out.own k hk).2
 have V1:=aa (qY w0 b O oz [125] (by decide) ⟨#[125]⟩ rfl 235 _ _ (it) (G8.part (enters_of Tryz.func235 (by kernel_rfl) rfl) w0 b O))
 clear oz;go_wp2_with fail
 refine V1.out.mono ?_;rintro e w1 ⟨f1,a1,c1,rfl,b1,h1⟩;have F1:=aa (F0.out.trans (ay.ae (O:=O) b1) (Ext.refl _ _));have P1:=aa (P0.out.below b1);have H1:=aa h1;clear b1 h1 V1;have qU :∀k,O k→k<w1.heap.size:=fun k hk=>(P1.out.own k hk).2
 have V2:=aa (cF w1 b O qU [125] (by decide) ⟨#[125]⟩ rfl)
 clear qU;go_wp2_with fail
 refine V2.out.mono ?_;rintro e w2 ⟨f2,a2,c2,rfl,b2,h2⟩;have F2:=aa (F1.out.trans (ay.ae (O:=O) b2) (Ext.refl _ _));have P2:=aa (P1.out.below b2);have L1:=aa (H1.out.later (ay.ae (O:=O) b2) (Ext.refl _ _));clear H1;have H1:=L1;clear L1;have H2:=aa h2;clear b2 h2 V2;have HN:=aa (cI w0 w2 P2.out F2.out (mo 15) rfl [aZ 40 b,.func (.func f1) a1 c1,.func (.func f2) a2 c2] [aC,dC [125] (it),au [[125]]] (by simp) ⟨bb w2 b O,H1.out,H2.out,trivial⟩ HK.out)
 go_wp2_with fail
 refine HN.out.mono ?_;intro e wz hz;obtain⟨v,er,rfl⟩:=hz.ret;have HZ:=aa hz;clear hz;go_wp2_with fail
 go_ret2
 exact HZ.out
theorem PS.next {W:World} {b:Nat} {O:Nat→Prop} {t u:aj} {ts:List aj} {T:List Nd} (h:PS W b O (t::u::ts) T) :
  ∃(i g n c:Nat),W.cell? ⟨b,0,none⟩=some (.slice (some ⟨g,0,none⟩) n c)∧W.cell? ⟨b,1,none⟩=some (.int .i64 (i:Int))∧i+1<n∧n≤20000∧n≤c ∧
   W.cell? ⟨g,(i+1)*4,none⟩=some (.int .i64 u.1)∧W.cell? ⟨g,(i+1)*4+1,none⟩=some (.int .i64 u.2.1)∧W.cell? ⟨g,(i+1)*4+2,none⟩=some (.int .i64 u.2.2.1)∧W.cell? ⟨g,(i+1)*4+3,none⟩=some (.string (bC u.2.2.2)):=by
 obtain⟨TS,i,g,c,nv,L,a1,a2,a3,a4,a5,a6,a7⟩:=h.ex;obtain⟨g',cap,e,h1,h2,h3⟩:=a2.ex;have hg:g=g'∧c=cap:=by injection e with e1 _ e3;injection e1 with e1;injection e1 with e1;exact⟨e1,e3⟩
 obtain⟨rfl,rfl⟩:=hg;have hi:TS[i+1]? = some u:=by
  have:=az (·[1]?) a4
  simpa[za] using this
 have hlt:=(aK.1 hi).1;obtain⟨b0,b1,b2,b3⟩:=h3 (i+1) u hi;exact⟨i,g,TS.length,c,by simp[World.cell?,a1],by simp[World.cell?,a1],hlt,a5,h1,b0,b1,b2,b3⟩
def ua (t u:aj):Bool:=decide (t.1=1) && (decide (u.1=5) && decide (u.2.2.2=[61]))
theorem WL (l s:List UInt8):((bC l).toList == s)=decide (l=s):=by
 rw[Lib.toList_data];show((bC l).data.toList == s)=_
 by_cases h:l=s<;>simp[bC,h]
theorem CS (b:Nat) (O:Nat→Prop) (t:aj) (ts:List aj) (T:List Nd) (w:World) (h:PS w b O (t::ts) T) (ht:t.1≠1):Calls Tryz.prog 241 #[.pointer (some ⟨b,0,none⟩)] w (mX w false):=by
 obtain⟨t0,t1,t2,t3⟩:=t;have HA:=aa (cH b O (t0,t1,t2,t3) ts T w h);unfold fQ at HA;dsimp only at HA ht
 have F0:=z8 t0 t1 t2 (bC t3);have g1:(t0 == 1)=false:=aG.2 ht;have g1':(t0 != 1)=true:=om.2 ht;clear h ht;go_enter Tryz.func241,Tryz.ntmps241
 go_wp2_with fail
 refine HA.out.mono ?_;rintro e w1 ⟨rfl,b1⟩;have B1:=aa b1;clear b1;go_wp2_with fail
 go_ret
 exact⟨rfl,B1.out⟩
theorem Rv (b:Nat) (O:Nat→Prop) (t u:aj) (ts:List aj) (T:List Nd) (w:World) (h:PS w b O (t::u::ts) T) (ht:t.1=1) (r:Bool) (hr:(decide (u.1=5) && decide (u.2.2.2=[61]))=r):Calls Tryz.prog 241 #[.pointer (some ⟨b,0,none⟩)] w (mX w r):=by
 obtain⟨t0,t1,t2,t3⟩:=t;have HA:=aa (cH b O (t0,t1,t2,t3) (u::ts) T w h);unfold fQ at HA;dsimp only at HA ht
 subst ht;have F0:=z8 1 t1 t2 (bC t3);have HP:=aa h;clear h;go_enter Tryz.func241,Tryz.ntmps241
 go_wp2_with fail
 refine HA.out.mono ?_;rintro e w1 ⟨rfl,b1⟩;obtain⟨i,g,n,c,c0,c1,hi,hn,hc,d0,d1,d2,d3⟩:=(HP.out.below b1).next;have hb:b<w1.heap.size:=World.block_lt_of_cell? w1 _ c1;have hg:g<w1.heap.size:=World.block_lt_of_cell? w1 _ d0;have B1:=aa b1;obtain⟨u0,u1,u2,u3⟩:=u;dsimp only at *
 clear b1;have hbt:((bC u3).toList == [61])=decide (u3=[61]):=WL u3 [61];generalize bC u3=S at *;by_cases h5:u0=5
 ·subst h5
  have hr2:decide (u3=[61])=r:=by simpa using hr
  rw[hr2] at hbt;clear hr hr2;cases r <;>
  ·go_wp2_with fail
   go_region
   all_goals go_wp2
   all_goals go_ret
   all_goals exact⟨rfl,aB B1.out (aX w1 _).drew⟩
 ·have g5:(u0 == 5)=false:=aG.2 h5
  have hd:false=r:=by simpa[h5] using hr
  subst hd;clear h5 hr hbt;go_wp2_with fail
  go_region
  all_goals go_wp2
  all_goals go_ret
  all_goals exact⟨rfl,aB B1.out (aX w1 _).drew⟩
end Go.Proofs.YteflkdlaoiijbaaGreatDoor
