/- Parts of the proof. -/
import Derived.Laws.AppendOwnNone
import Derived.ArgAppend
import Derived.Test.YteflkdlaoiijbaaGreatDoorK04
set_option maxHeartbeats 16000000
set_option maxRecDepth 20000
namespace Go.Proofs.YteflkdlaoiijbaaGreatDoor
open Go.RowKit
def lM (wp:iT) (mf:List aj→Bool×List aj):cf:=fun s K E=>s.xs.length≤100000∧∃m,m≤100000∧sK wp mf m s.ts s.n [] (fun xs ts=>K { s with xs:=s.xs++xs,ts:=ts,n:=s.n+Ast.ak xs}) E
theorem Rj {ops:Array Oper} {rest:List Oper} {o:Oper} {a:Act} {Q:Exit→Act→World→Prop} (w:World) (hgd:o.guard=none) (sl y:Operand)
  (ho:o.op=.call { callee:=.builtin .append,args:=#[sl,y],argTypes:=#[33,33]}) (b:Nat) (kv v:Value) (ks ls:List Int) (hs:a.eval sl=kv) (hown:rr w b kv ks) (hy:a.eval y=v) (hl:rr w b v ls) (hne:ls≠[])
  (h1:ks.length≤1000000) (h2:ls.length≤1000000) (hB:b+1≤w.heap.size)
  (h :∀g c w',rr w' b (.slice (some ⟨g,0,none⟩) (ks.length+ls.length) c) (ks++ls)→ay (fun k=>kv.ownBlock=some k) w w'→(kv.ownBlock=some g∨w.heap.size≤g)→g<w'.heap.size→wpList Tryz.prog ops Q rest (a.put o.dst (.slice (some ⟨g,0,none⟩) (ks.length+ls.length) c)) w'):wpList Tryz.prog ops Q (o::rest) a w:=by
 obtain⟨i0,mY,hz0,hz1,hz2⟩:=info_parts Dc;have h0:0<ls.length:=wu.2 hne;obtain⟨g,cap,rfl,_,_⟩:=hl.form h0;refine wpList_append_lies (P:=Tryz.prog) _ hgd sl y 33 ho (b+1) 3 i0 (.int .i64 0) 1 8 Tryz.underlying33 mY hz0 hz1 hz2 rfl (by omega) kv ks.length (ks.map (Value.int .i64)) hs hown ⟨g,0,none⟩ ls.length cap (ls.map (Value.int .i64)) hy (by simp)
  (fun j u hj=>hl.cells (g:=g) rfl j u hj) (fun u hu=>by obtain⟨z,_,rfl⟩:=eQ.1 hu;rfl) h0 (by unfold maxLen;omega) (by omega) hB w.heap.size rfl ?_
 intro g cap w' h1 h2 h3 h5;refine h g cap w' ?_ ?_ (h3.imp id fun e=>by omega) h5
 ·unfold rr
  rw[cI,me];exact h1
 ·exact ay.uG h2 hown (by decide)
theorem EU {W W4:World} {b n:Nat} {On:Nat→Prop} {x:Nd} {nv kv:Value} (ha:W.heap[n]? = some (.cells (aP (x,nv,kv)).toArray 55 (0,0))) (hi:jB W b On x nv kv) (hat:On n) (hown :∀k,On k→b<k∧k<W.heap.size)
  (hf:ay (fun k=>kv.ownBlock=some k) W W4) :
  W4.cell? ⟨n,6,none⟩=some kv∧W4.frozen? ⟨n,6,none⟩=false∧n<W4.heap.size∧(∀v,ay (· = n) W4 (W4.setCell ⟨n,6,none⟩ v))∧∀(g m c:Nat) (ks:List Int),rr W4 b (.slice (some ⟨g,0,none⟩) m c) ks→kv.ownBlock=some g∨W.heap.size≤g →
   NU (W4.setCell ⟨n,6,none⟩ (.slice (some ⟨g,0,none⟩) m c)) b n (fun k=>On k∨k=g) { x with kids:=ks}:=by
 have hne:¬ kv.ownBlock=some n:=fun e=>by
  obtain⟨cur,hc⟩:=eX hi.kids e;rw[ha] at hc;simp at hc
 have pk:W4.heap[n]? = some (.cells (aP (x,nv,kv)).toArray 55 (0,0)):=(hf.block n (hown n hat).2 hne).trans ha;refine⟨by simp[World.cell?,pk,aP],by simp[World.frozen?,pk],(aF.1 pk).1,fun v=>ay.vV pk (by decide) 6 v,fun g m c ks hr hg=>?_⟩
 have cL:jB W4 b (fun k=>On k∨k=g) { x with kids:=ks} nv (.slice (some ⟨g,0,none⟩) m c):=⟨dh hi.names fun k hk=>(hf.block k (hi.names.lt k hk).2 (fun e=>by
  obtain⟨c1,h1⟩:=eX hi.names hk;obtain⟨c2,h2⟩:=eX hi.kids e;rw[h1] at h2;simp at h2)),hr,fun k hk=>(hi.on k hk).imp .inl hf.keeps,hi.nz,fun k hk=>.inr (by simpa[Value.ownBlock] using hk.symm)⟩
 have qU:=hr.lt g rfl;refine⟨⟨nv,_,ig pk _,cL.set pk 6 _⟩,.inl hat,fun k hk=>?_⟩
 rcases hk with hk|rfl
 ·exact⟨(hown k hk).1,by have:=(hown k hk).2;have:=hf.size;simp[World.setCell];omega⟩
 ·exact⟨by omega,by simp[World.setCell];omega⟩
theorem Rk (b n g1 g2:Nat) (O:Nat→Prop) (T0:List Nd) (s:St) (K:St→Prop) (E:Int→Prop) (one more:Value) (wp:iT) (mf:List aj→Bool×List aj) (w:World) (hr:Real w b n O T0 s)
  (b1:eK w O g1 #[one] 126) (b2:eK w O g2 #[more] 22) (h1:One w b O one wp) (h2:yy w b O more mf) (hk:lM wp mf s K E) :
  Calls Tryz.prog 144 #[.pointer (some ⟨n,0,none⟩),.pointer (some ⟨g1,0,none⟩),.pointer (some ⟨g2,0,none⟩)] w (bH b n O T0 K E w):=by
 obtain⟨Op,On,T,ks,hO,hd,hp,hn,hl,hc⟩:=hr.ex;have c1:=b1.cell 0;have c2:=b2.cell 0;obtain⟨hx,m,hm,hk⟩:=hk;have eOp:Ext O Op w:=fun k hk=>.inl ((hO k).2 (.inl hk))
 rw[←hc] at hk;have HR:=aa (aat b Op s.ts T one more wp mf _ E m hm w hp (h1.later (ay.refl _ _) eOp) (h2.later (ay.refl _ _) eOp) hk);have JH:ks.length=s.xs.length:=hl.num;have HO:=aa hO;have HD:=aa hd;have HP:=aa hp;have HN:=aa hn;have HL:=aa hl;have HKS:=aa JH;have HC:=aa hc;have vW:ks.length≤100000:=by omega
 clear hr hO hd hp hn hl hc b1 b2 h1 h2 hk eOp JH hx;go_enter Tryz.func144,Tryz.ntmps144
 go_wp2_with fail
 refine HR.out.mono ?_;rintro e w1 ⟨f1,h1⟩;have F1:=aa f1;have n1:=HN.out.kept f1 fun k hk h=>HD.out k h hk
 have N1:=aa n1;have jl:=n1.own n n1.at_;have Uz:=n1.own;have Ck:=aa n1.at_;obtain⟨nv,kv,ha,fD⟩:=n1.ex;obtain⟨A6,k6,rfl,_⟩:=bI fD.kids;have c6:w1.cell? ⟨n,6,none⟩=some (.slice A6 ks.length k6):=by simp[World.cell?,ha,aP]
 have z6:w1.frozen? ⟨n,6,none⟩=false:=by simp[World.frozen?,ha]
 have HI:=aa fD;have HK:=aa (fun W4 hf=>EU (W4:=W4) ha fD n1.at_ Uz hf)
 have N1:=aa n1;clear Uz ha fD n1 c1 c2;rcases h1 with ⟨v,ys,ls,ax,Op',T',rfl,p1,x1,l1,r1,o1,ne1,ack,k1⟩ | ⟨l,er,rfl,m1,k1⟩
 ·have P1:=aa p1
  have X1:=aa x1;have L1:=aa l1;have R1:=aa r1;have O1:=aa o1;have NE:=aa ne1;have K1:=aa k1;obtain⟨Av,cv,rfl,_⟩:=bI r1;clear p1 x1 l1 r1 o1 ne1 k1 f1;go_wp2_with (at_builtin;refine Rj _ rfl _ _ rfl b (.slice A6 ks.length k6) (.slice Av ls.length cv) ks ls rfl HI.out.kids rfl R1.out NE.out (by omega) (by omega) (by omega) ?_;intro g4 c4 w4 h4 f4 o4 l4;obtain⟨c64,z64,pk,aau,yA⟩:=HK.out w4 f4;have PI:=aa aau;have HU:=aa (yA g4 _ c4 _ h4 o4);have F4:=aa f4;have O4:=aa o4;have L4:=aa l4;clear h4 f4 o4 l4 yA aau)
  go_ret
  have hkO :∀k,(Value.slice A6 ks.length k6).ownBlock=some k→On k:=fun k hk=>HI.out.ok k hk
  have f4':ay On w1 w4:=F4.out.mono hkO;have fO:ay O w w1:=F1.out.mono fun k hk=>(HO.out k).2 (.inl hk)
  have Hg :∀k,On k→k<w.heap.size:=fun k hk=>(HN.out.own k hk).2
  have hg4:On g4∨w1.heap.size≤g4:=O4.out.imp (fun h=>hkO g4 h) id
  have hsz:w.heap.size≤w1.heap.size:=F1.out.size;have f5:ay O w w4:=fO.trans f4' fun k hk=>.inl ((HO.out k).2 (.inr hk))
  have W8 :∀k,Op' k→¬ On k:=fun k hk h=>by
   rcases X1.out k hk with h1|h1
   ·exact HD.out k h1 h
   ·have:=Hg k h;omega
  have p5:PS w4 b Op' ax T':=P1.out.kept f4' W8 fun k hk=>fx (HN.out.own k hk).1
  have PJ:¬ Op' g4:=fun h=>by
   rcases hg4 with h1|h1
   ·exact W8 g4 h h1
   ·have:=(P1.out.own g4 h).2;omega
  refine⟨f5.trans (PI.out _) (fun k hk=>.inl (hk▸(HO.out n).2 (.inr Ck.out))),.inl ⟨{ s with xs:=s.xs++ys,ts:=ax,n:=T.length+Ast.ak ys},fun k=>Op' k∨(On k∨k=g4),rfl,⟨Op',fun k=>On k∨k=g4,T',ks++ls,fun k=>Iff.rfl,fun k hk h=>?_,?_,HU.out,HL.out.app L1.out,?_⟩,fun k hk=>?_,K1.out⟩⟩
  ·rcases h with h|rfl
   ·exact W8 k hk h
   ·exact PJ hk
  ·exact p5.kept (O1:=(· = n)) (PI.out _) (fun k hk e=>W8 k hk (e▸Ck.out)) fun k e=>by omega
  ·exact L1.out.len
  ·rcases hk with hk|hk|rfl
   ·rcases X1.out k hk with h1|h1
    ·exact .inl ((HO.out k).2 (.inl h1))
    ·exact .inr h1
   ·exact .inl ((HO.out k).2 (.inr hk))
   ·rcases hg4 with h1|h1
    ·exact .inl ((HO.out k).2 (.inr h1))
    ·exact .inr (by omega)
 ·obtain⟨g',rfl,hg1,hg2⟩:=m1
  have M2:=aa hg2;have K2:=aa k1;have Rl:g'≠n:=by have:=(HN.out.own n Ck.out).2;omega
  clear f1 hg2 k1;go_wp2_with (at_builtin;refine wpList_append_own_none rfl _ _ 33 rfl (b+1) 3 _ 1 Tryz.underlying33 (info_parts Dc).choose_spec.1 _ ks.length _ rfl HI.out.kids rfl ?_)
  go_ret
  refine⟨(F1.out.mono (O1:=O) fun k hk=>(HO.out k).2 (.inl hk)).trans (N1.out.fr 6 _) (fun k hk=>.inl (hk▸(HO.out n).2 (.inr Ck.out))),.inr ⟨l,_,rfl,⟨g',rfl,hg1,?_⟩,K2.out⟩⟩
  exact(Below.heap_setCell _ _ _ g' Rl).trans M2.out
theorem Rn:(Tryz.prog.info? 55).map (fun i=>(i.zero,i.size,i.bytes))=some (some (.agg #[.int .i64 0,.int .i64 0,.int .i64 0,.int .i64 0,.string ⟨#[]⟩,.slice none 0 0,.slice none 0 0]),7,96):=by kernel_rfl
theorem eZ (t:JG):(aP t).length=7:=rfl
theorem wX {ops:Array Oper} {o:Oper} {a:Act} {K:Act→World→Prop} {Q:Exit→Act→World→Prop} {E:Prop} (w0 w1:World) (t:JG) (hgd:o.guard=none) (sl y:Operand)
  (ho:o.op=.call { callee:=.builtin .append,args:=#[sl,y],argTypes:=#[23,23]}) (b:Nat) (v:Value) (L:List JG) (hs:a.eval sl=v) (hown:w0.ownsRow (b+1) 55 7 v L.length (L.flatMap aP)) (ef :∀(i:Nat),i<w0.heap.size→w1.heap[i]? = w0.heap[i]?) (g:Nat) (hg:g=w0.heap.size) (hy:a.eval y=.slice (some ⟨g,0,none⟩) 1 1)
  (hz:w1.heap[g]? = some (.cells (aP t).toArray 55 (0,0))) (h1c :∀u∈aP t,u.oneCell'=true)
  (hlen:L.length≤1000000) (hB:b+1≤w0.heap.size) (hb1:Below w0.heap.size w0 w1)
  (h :∀g' c' w',w'.ownsRow (b+1) 55 7 (.slice (some ⟨g',0,none⟩) (L.length+1) c') (L.length+1) ((L++[t]).flatMap aP)→ay (fun k=>v.ownBlock=some k) w0 w'→(v.ownBlock=some g'∨w0.heap.size≤g')→g' < w'.heap.size→K (a.put o.dst (.slice (some ⟨g',0,none⟩) (L.length+1) c')) w') :
  if Region.wanted o (yielded ops a.tmps)=true then Oper.wp Tryz.prog o a w1 K Q else E:=by
 subst hg;obtain⟨i0,mY,hz0,hz1,hz2⟩:=info_parts Rn;have hown1:w1.ownsRow (b+1) 55 7 v L.length (L.flatMap aP):=dh hown fun k hk=>ef k (hown.lt k hk).2
 have hpl :∀j:Nat,(⟨w0.heap.size,0,none⟩:Addr).add j=⟨w0.heap.size,j,none⟩:=fun j=>by unfold Addr.add;split<;>simp_all
 refine step_append_lies (P:=Tryz.prog) w1 hgd sl y 23 ho (b+1) 55 i0 _ 7 96 Tryz.underlying23 mY hz0 hz1 hz2 rfl (by omega) v L.length (L.flatMap aP) hs hown1 ⟨w0.heap.size,0,none⟩ 1 1 (aP t) hy (eZ t)
  (fun j u hj=>by rw[hpl];simpa[World.cell?,hz] using hj) h1c (by omega) (by unfold maxLen;omega) (by omega) (by have:=hb1.size;omega) w1.heap.size rfl ?_
 intro g' c' w' r1 r2 r3 r4;refine h g' c' w' ?_ ?_ (r3.imp id fun e=>by have:=hb1.size;omega) r4
 ·rw[oE]
  simpa using r1
 ·exact(ay.ae (O:=fun k=>v.ownBlock=some k) hb1).trans (ay.uG r2 hown1 (by decide)) (Ext.refl _ _)
theorem ep.node {T0 T:List Nd} {xs:List Ast} {ks:List Int} (h:ep T0 T xs ks) (x:Nd):ep T0 (T++[{ x with kids:=ks}]) [.mk x xs] [(T.length:Int)]:=by
 obtain⟨p1,js,r1,q1⟩:=h;refine⟨p1.trans (List.prefix_append _ _),T.length::js,?_,?_⟩
 ·unfold bu
  refine⟨T.length,[],T.length::js,[],rfl,?_,by unfold bu;exact⟨rfl,rfl⟩,by simp⟩
  unfold gQ;exact⟨{ x with kids:=ks},js,by simp,rfl,bu.more (uD (List.prefix_append _ _)) xs ks js r1,rfl⟩
 ·have h1:=p1.length_le
  rw[cI,mF,range_split T0.length T.length (T.length+1) h1 (by omega),show T.length+1-T.length=1 by omega]
  exact(List.Perm.cons _ q1).trans (JZ (l₁:=[T.length]))
theorem PS.more {W:World} {b:Nat} {O On:Nat→Prop} {ts:List aj} {T:List Nd} {x:Nd} {nv kv:Value} (h:PS W b O ts T) (hi:jB W b On x nv kv) (Hg :∀k,On k→b<k∧k<W.heap.size) :
  ∃(v:Value) (L:List JG),L.length=T.length∧W.cell? ⟨b,2,none⟩=some v∧W.frozen? ⟨b,2,none⟩=false∧W.ownsRow (b+1) 55 7 v L.length (L.flatMap aP)∧(∀k,v.ownBlock=some k→O k∧k≠b)∧b+1≤W.heap.size ∧
   ∀(W6:World) (g c:Nat),W6.ownsRow (b+1) 55 7 (.slice (some ⟨g,0,none⟩) (L.length+1) c) (L.length+1) ((L++[(x,nv,kv)]).flatMap aP)→ay (fun k=>v.ownBlock=some k) W W6→(v.ownBlock=some g∨W.heap.size≤g)→g<W6.heap.size →
    W6.cell? ⟨b,2,none⟩=some v∧W6.frozen? ⟨b,2,none⟩=false∧ay (· = b) W6 (W6.setCell ⟨b,2,none⟩ (.slice (some ⟨g,0,none⟩) (L.length+1) c))∧PS (W6.setCell ⟨b,2,none⟩ (.slice (some ⟨g,0,none⟩) (L.length+1) c)) b (fun k=>O k∨On k∨k=g) ts (T++[x]):=by
 obtain⟨TS,i,g0,c0,v,L,a1,a2,a3,a4,a5,a6,a7⟩:=h.ex;have hlt:=(aF.1 a1).1;have hvb :∀k,v.ownBlock=some k→k≠b:=fun k hk e=>by have:=(a6.row.lt k hk).1;omega
 refine⟨v,L,by rw[←a7,cy],by simp[World.cell?,a1],by simp[World.frozen?,a1],a6.row,fun k hk=>⟨a6.own k hk,hvb k hk⟩,hlt,fun W6 g c hr hf hg qU=>?_⟩
 have PK:W6.heap[b]? = some (.cells #[.slice (some ⟨g0,0,none⟩) TS.length c0,.int .i64 (i:Int),v] 71 (0,0)):=(hf.block b hlt (fun e=>hvb b e rfl)).trans a1
 have hgb:g≠b:=by
  rcases hg with hg|hg
  ·exact hvb g hg
  ·omega
 have hne :∀k,k≠b→(W6.setCell ⟨b,2,none⟩ (.slice (some ⟨g,0,none⟩) (L.length+1) c)).heap[k]? = W6.heap[k]?:=fun k hk=>Below.heap_setCell _ _ _ k hk
 have hst :∀{k},EH W k→EH (W6.setCell ⟨b,2,none⟩ (.slice (some ⟨g,0,none⟩) (L.length+1) c)) k:=fun hk=>(ay.vV PK (show(71:Nat)≠9 by decide) 2 (.slice (some ⟨g,0,none⟩) (L.length+1) c)).keeps (hf.keeps hk)
 have hsz:(W6.setCell ⟨b,2,none⟩ (.slice (some ⟨g,0,none⟩) (L.length+1) c)).heap.size=W6.heap.size:=by simp[World.setCell]
 have GQ :∀k,v.ownBlock=some k→∃cur,W.heap[k]? = some (.cells cur 55 (0,0)):=fun k hk=>eX a6.row hk
 have hrow :∀{e:TypeId} {s n:Nat} {u:Value} {xs:List Value},W.ownsRow (b+1) e s u n xs→e≠55→(W6.setCell ⟨b,2,none⟩ (.slice (some ⟨g,0,none⟩) (L.length+1) c)).ownsRow (b+1) e s u n xs:=fun{e s n u xs} h he=>dh h fun k hk=>by
  rw[hne k (by have:=(h.lt k hk).1;omega)]
  refine hf.block k (h.lt k hk).2 (fun e'=>?_)
  obtain⟨c1,h1⟩:=GQ k e';obtain⟨c2,h2⟩:=eX h hk;rw[h1] at h2;injection h2 with h2;injection h2 with _ h2;exact he h2.symm
 refine⟨by simp[World.cell?,PK],by simp[World.frozen?,PK],ay.vV PK (by decide) 2 _,⟨⟨TS,i,g0,c0,_,L++[(x,nv,kv)],(ig PK _),?_,a3,a4,a5,⟨?_,fun k hk=>.inr (.inr (by simpa[Value.ownBlock] using hk.symm)),fun t ht=>?_⟩,by rw[me,a7];rfl⟩,h.fin,.inl h.at_,fun k hk=>?_⟩⟩
 ·exact a2.kept ((hne g0 (by omega)).trans (hf.block g0 (by omega) (fun e=>by have:=(a6.row.lt g0 e).1;omega))) (by rw[hsz];exact hf.size)
 ·have:(L++[(x,nv,kv)]).length=L.length+1:=by simp
  rw[this];exact dh hr fun k hk=>hne k (by
   have:k=g:=by simpa[Value.ownBlock] using hk.symm
   rw[this];exact hgb)
 ·rcases cU.1 ht with ht|ht
  ·have hn:=a6.each t ht
   exact⟨hrow hn.names (by decide),hrow hn.kids (by decide),fun k hk=>(hn.on k hk).imp .inl hst,hn.nz,fun k hk=>.inl (hn.ok k hk)⟩
  ·obtain rfl:=bZ.1 ht
   exact⟨hrow hi.names (by decide),hrow hi.kids (by decide),fun k hk=>(hi.on k hk).imp (fun h=>.inr (.inl h)) hst,hi.nz,fun k hk=>.inr (.inl (hi.ok k hk))⟩
 ·rw[hsz]
  have:=hf.size;rcases hk with hk|hk|rfl
  ·have:=h.own k hk;omega
  ·have:=Hg k hk;omega
  ·have:=(hr.lt k rfl).1;omega
theorem Xa {w:World} {b:Nat} {On:Nat→Prop} {x:Nd} {nv kv:Value} (hi:jB w b On x nv kv) (Hg :∀k,On k→b<k∧k<w.heap.size) (hb:b<w.heap.size) :
  NU (w.alloc (.cells (aP (x,nv,kv)).toArray 55)) b w.heap.size (fun k=>On k∨k=w.heap.size) x :=
 ⟨⟨nv,kv,World.alloc_heap_new w _,hi.kept (O1:=fun _=>False) ((ay.refl _ _).alloc _) (fun _ _ h=>h) (fun g hg=>.inl hg)⟩,.inr rfl,fun k hk=>by
  rcases hk with hk|rfl
  ·have:=Hg k hk;simp;omega
  ·simp;exact hb⟩
theorem EV {W:World} {b n:Nat} {Op On:Nat→Prop} {T0 T:List Nd} {h:Nd} {xs:List Ast} {ks:List Int} {ts:List aj} (hp:PS W b Op ts T) (hn:NU W b n On { h with kids:=ks}) (hd :∀k,Op k→¬ On k) (hl:ep T0 T xs ks):Real W b n (fun k=>Op k∨On k) T0 ⟨h,xs,ts,T.length⟩ :=
 ⟨Op,On,T,ks,fun _=>Iff.rfl,hd,hp,hn,hl,rfl⟩
theorem wY {a b:Int} {v:Value} (h:a=b):Ending.returned (.tuple #[.int .i64 a,v])=.returned (.tuple #[.int .i64 b,v]):=by rw[h]
theorem yB (b:Nat) (Op On:Nat→Prop) (t:aj) (ts:List aj) (T0 T:List Nd) (x:Nd) (l:Int) (xs:List Ast) (ks:List Int) (nv kv pv:Value) (cO:List cf) (R:Except Int (Ast×List aj)→Prop) (w:World)
  (hp:PS w b Op (t::ts) T) (hi:jB w b On { x with kids:=ks} nv kv) (hd :∀k,Op k→¬ On k) (Hg :∀k,On k→b<k∧k<w.heap.size) (hl:ep T0 T xs ks) (EW:aN w b (fun k=>Op k∨On k) pv cO) (h0:(x.line=0∧l=t.2.1)∨(x.line≠0∧l=x.line))
  (hk:aK cO ⟨{ x with line:=l},xs,t::ts,T.length⟩ (fun s=>s.n≤200000∧R (.ok (.mk s.h s.xs,s.ts))) (fun l=>R (.error l))) :
  Calls Tryz.prog 19 #[.pointer (some ⟨b,0,none⟩),cZ x nv kv,pv] w (aG b (fun k=>Op k∨On k) T0 R w):=by
 obtain⟨Av,mv,rfl⟩:=EW.form;obtain⟨An,cn,rfl,_⟩:=bI hi.names;obtain⟨Ak,ck,rfl,_⟩:=bI hi.kids;obtain⟨t0,t1,t2,t3⟩:=t;obtain⟨x0,x1,x2,x3,x4,x5,x6⟩:=x;have HP:=aa hp;have HI:=aa hi;have hbl:b<w.heap.size:=(hp.own b hp.at_).2;have HU:=aa (Xa (x:=⟨x0,x1,x2,x3,x4,x5,ks⟩) hi Hg hbl);have HA:=aa (fun W hW=>cG b Op (t0,t1,t2,t3) ts T W hW)
 unfold fW at HA;dsimp only at HA
 have F1:=LB t0 t1 t2 (bK t3);generalize bK t3=S at *;have HPT:=aa EW;have HK:=aa hk;have HL:=aa hl;have HD:=aa hd;have HON:=aa Hg;have ry :∀k,Op k→k<w.heap.size:=fun k hk=>(hp.own k hk).2
 have Ro:=aa ry;have hEx:Ext (fun k=>Op k∨On k) (fun k=>Op k∨(On k∨k=w.heap.size)) w:=fun k hk=>by
  rcases hk with hk|hk|rfl
  ·exact .inl (.inl hk)
  ·exact .inl (.inr hk)
  ·exact .inr (ah _)
 have Zl:=aa hEx;have hd3 :∀k,Op k→¬ (On k∨k=w.heap.size):=fun k hk h=>by
  rcases h with h|rfl
  ·exact hd k hk h
  ·have:=ry _ hk;omega
 have HD3:=aa hd3;clear hp hi EW hk hl hd Hg ry hEx hd3;unfold cZ;dsimp only at h0 ⊢
 rcases h0 with ⟨h1,h2⟩ | ⟨h1,h2⟩
 ·subst h1 h2
  have fa:ay (fun k=>Op k∨On k) w (w.alloc (.cells #[.int .i64 x0,.int .i64 0,.int .i64 x2,.int .i64 x3,.string x4,.slice An x5.length cn,.slice Ak ks.length ck] 55)):=(ay.refl _ _).alloc _
  have HFA:=aa fa;have P1:=aa (HP.out.below ((Below.refl _ _).alloc (ah _) (.cells #[.int .i64 x0,.int .i64 0,.int .i64 x2,.int .i64 x3,.string x4,.slice An x5.length cn,.slice Ak ks.length ck] 55)));clear fa;go_enter Tryz.func19,Tryz.ntmps19
  go_wp2_with fail
  refine(HA.out _ P1.out).mono ?_;rintro e w2 ⟨rfl,b2⟩;have U2:=aa (HU.out.below b2);have P2:=aa (P1.out.below b2);obtain⟨nv2,kv2,hc2,_,hz2⟩:=U2.out.cells;have c1:=hc2.c1;have z1:=hz2 1;have FR2:=aa (HFA.out.trans (ay.ae (O:=fun k=>Op k∨On k) b2) (Ext.refl _ _))
  have jl:w.heap.size<w2.heap.size:=by have:=b2.size;simp at this;omega
  clear b2 hc2 hz2;go_wp2_with fail
  have RL:=aa (EV (h:=⟨x0,l,x2,x3,x4,x5,x6⟩) (P2.out.kept (O1:=(· = w.heap.size)) (U2.out.fr 1 (.int .i64 l)) (fun k hk e=>by have:=Ro.out k hk;omega) fun k e=>by omega)
   (U2.out.qj (y:=⟨x0,l,x2,x3,x4,x5,ks⟩) 1 (.int .i64 l) rfl rfl fun _ _=>rfl) HD3.out HL.out)
  have Rp:=aa (FR2.out.trans (U2.out.fr 1 (.int .i64 l)) (fun k hk=>.inr (En hk.symm)))
  clear P2 U2 FR2 c1 z1;generalize w2.setCell ⟨w.heap.size,1,none⟩ (.int .i64 l)=w3 at *;refine(uB b w.heap.size _ T0 _ _ _ _ cO w3 RL.out (HPT.out.later Rp.out Zl.out) HK.out).mono ?_;rintro e w4 ⟨f4,h4⟩;have PI:=aa (Rp.out.trans f4 Zl.out);rcases h4 with ⟨s4,O4,rfl,r4,e4,k4,kR⟩ | ⟨l4,v4,rfl,⟨g',rfl,hg1,hg2⟩,k4⟩
  ·obtain⟨Op4,On4,T4,Hh,UB,hd4,fV,pk,hl4,Wy⟩:=r4.ex
   have E4:=aa (Zl.out.trans e4 Rp.out.size);obtain⟨nv4,kv4,yC,LJ⟩:=pk.ex;obtain⟨LK,LL,rfl,_⟩:=bI LJ.names;obtain⟨Rq,Rr,rfl,_⟩:=bI LJ.kids;obtain⟨s0,s1,s2,s3⟩:=s4;obtain⟨y0,y1,y2,y3,y4,y5,y6⟩:=s0;dsimp only at fV pk yC LJ hl4 Wy kR k4 LK LL
   have acm:w.heap.size<w4.heap.size:=(pk.own _ pk.at_).2;have q0:w4.cell? ⟨w.heap.size,0,none⟩=some (.int .i64 y0):=by simp[World.cell?,yC,aP]
   have q1:w4.cell? ⟨w.heap.size,1,none⟩=some (.int .i64 y1):=by simp[World.cell?,yC,aP]
   have q2:w4.cell? ⟨w.heap.size,2,none⟩=some (.int .i64 y2):=by simp[World.cell?,yC,aP]
   have q3:w4.cell? ⟨w.heap.size,3,none⟩=some (.int .i64 y3):=by simp[World.cell?,yC,aP]
   have q4:w4.cell? ⟨w.heap.size,4,none⟩=some (.string y4):=by simp[World.cell?,yC,aP]
   have q5:w4.cell? ⟨w.heap.size,5,none⟩=some (.slice LK y5.length LL):=by simp[World.cell?,yC,aP]
   have q6:w4.cell? ⟨w.heap.size,6,none⟩=some (.slice Rq Hh.length Rr):=by simp[World.cell?,yC,aP]
   obtain⟨v5,L5,wZ,cb2,fb2,hrow,hvo,hB,gi⟩:=fV.more LJ pk.own;obtain⟨Av5,cv5,rfl,_⟩:=bI hrow;have acn:b<w4.heap.size:=by omega
   have LI:=aa hrow;have HV5:=aa hvo;have HM5:=aa gi;have HLL:=aa wZ;have HL4:=aa hl4;have HO4:=aa UB;have OB:=aa fV.at_;have KR:=aa kR;have hL5:L5.length≤200000:=by omega
   clear f4 r4 e4 UB hd4 fV pk hl4 yC LJ hrow hvo gi wZ kR k4 Wy;go_wp2_with fail
   have HZ:Hid ((w4.alloc (.cells #[.int .i64 y0,.int .i64 y1,.int .i64 y2,.int .i64 y3,.string y4,.slice LK y5.length LL,.slice Rq Hh.length Rr] 55)).drew.heap[w4.heap.size]? = some (.cells #[.int .i64 y0,.int .i64 y1,.int .i64 y2,.int .i64 y3,.string y4,.slice LK y5.length LL,.slice Rq Hh.length Rr] 55 (0,0))):=aa (World.alloc_heap_new w4 _);go_region_law ((refine wX w4 _ (⟨y0,y1,y2,y3,y4,y5,Hh⟩,.slice LK y5.length LL,.slice Rq Hh.length Rr) (by rfl) _ _ (by rfl) b (.slice Av5 L5.length cv5) L5 (by rfl) LI.out (fun i hi=>Below.heap_alloc w4 _ i hi) w4.heap.size rfl (by rfl) HZ.out (by intro u hu;simp[aP] at hu;rcases hu with rfl|rfl|rfl|rfl|rfl|rfl|rfl<;>rfl) (by omega) hB ⟨rfl,rfl,rfl,by simp[World.drew],fun k hk=>Below.heap_alloc w4 _ k hk⟩ ?_;intro g6 c6 w6 r6 f6 o6 l6;have LM:=HM5.out w6 g6 c6 r6 f6 o6 l6;have cb6:=LM.1;have fb6:=LM.2.1;have R6:=aa LM.2.2.1;have P6:=aa LM.2.2.2;have F6:=aa f6;have O6:=aa o6;clear r6 f6 o6 l6 LM))
   all_goals
    have Xb:w4.heap.size≤w6.heap.size:=F6.out.size;have aco:b<w6.heap.size:=by omega
    go_wp2
    go_ret2
    have hop :∀k,Op4 k→O4 k:=fun k hk=>(HO4.out k).2 (.inl hk)
    have hon :∀k,On4 k→O4 k:=fun k hk=>(HO4.out k).2 (.inr hk)
    have f7:ay O4 w4 (w6.setCell ⟨b,2,none⟩ (.slice (some ⟨g6,0,none⟩) (L5.length+1) c6)):=(F6.out.mono (O1:=O4) fun k hk=>hop k (HV5.out k hk).1).trans R6.out (fun k hk=>.inl (hk▸hop b OB.out))
    refine⟨PI.out.trans f7 E4.out,.inl ⟨T4.length,.mk ⟨y0,y1,y2,y3,y4,y5,y6⟩ s1,s2,fun k=>Op4 k∨On4 k∨k=g6,T4++[⟨y0,y1,y2,y3,y4,y5,Hh⟩],wY (by have:=HLL.out;omega),P6.out,fun k hk=>?_,HL4.out.node ⟨y0,y1,y2,y3,y4,y5,y6⟩,KR.out⟩⟩
    rcases hk with hk|hk|rfl
    ·exact E4.out k (hop k hk)
    ·exact E4.out k (hon k hk)
    ·rcases O6.out with h|h
     ·exact E4.out _ (hop _ (HV5.out _ h).1)
     ·exact .inr (by have:=PI.out.size;omega)
  ·have M2:=aa hg2
   have HG:=aa (aM Rp.out.size hg1);have K4:=aa k4;clear f4 hg1 hg2 k4;go_wp2_with fail
   go_ret2
   exact⟨PI.out,.inr ⟨l4,_,_,rfl,⟨g',rfl,HG.out,M2.out⟩,K4.out⟩⟩
 ·subst h2
  have g1:(l == 0)=false:=aC.2 h1;have fa:ay (fun k=>Op k∨On k) w (w.alloc (.cells #[.int .i64 x0,.int .i64 l,.int .i64 x2,.int .i64 x3,.string x4,.slice An x5.length cn,.slice Ak ks.length ck] 55)):=(ay.refl _ _).alloc _
  have Rp:=aa fa;have P1:=aa (HP.out.below ((Below.refl _ _).alloc (ah _) (.cells #[.int .i64 x0,.int .i64 l,.int .i64 x2,.int .i64 x3,.string x4,.slice An x5.length cn,.slice Ak ks.length ck] 55)));have RL:=aa (EV (h:=⟨x0,l,x2,x3,x4,x5,x6⟩) P1.out HU.out HD3.out HL.out);clear fa h1 P1 HU;go_enter Tryz.func19,Tryz.ntmps19
  go_wp2_with fail
  generalize w.alloc (.cells #[.int .i64 x0,.int .i64 l,.int .i64 x2,.int .i64 x3,.string x4,.slice An x5.length cn,.slice Ak ks.length ck] 55)=w3 at *;refine(uB b w.heap.size _ T0 _ _ _ _ cO w3 RL.out (HPT.out.later Rp.out Zl.out) HK.out).mono ?_;rintro e w4 ⟨f4,h4⟩;have PI:=aa (Rp.out.trans f4 Zl.out);rcases h4 with ⟨s4,O4,rfl,r4,e4,k4,kR⟩ | ⟨l4,v4,rfl,⟨g',rfl,hg1,hg2⟩,k4⟩
  ·obtain⟨Op4,On4,T4,Hh,UB,hd4,fV,pk,hl4,Wy⟩:=r4.ex
   have E4:=aa (Zl.out.trans e4 Rp.out.size);obtain⟨nv4,kv4,yC,LJ⟩:=pk.ex;obtain⟨LK,LL,rfl,_⟩:=bI LJ.names;obtain⟨Rq,Rr,rfl,_⟩:=bI LJ.kids;obtain⟨s0,s1,s2,s3⟩:=s4;obtain⟨y0,y1,y2,y3,y4,y5,y6⟩:=s0;dsimp only at fV pk yC LJ hl4 Wy kR k4 LK LL
   have acm:w.heap.size<w4.heap.size:=(pk.own _ pk.at_).2;have q0:w4.cell? ⟨w.heap.size,0,none⟩=some (.int .i64 y0):=by simp[World.cell?,yC,aP]
   have q1:w4.cell? ⟨w.heap.size,1,none⟩=some (.int .i64 y1):=by simp[World.cell?,yC,aP]
   have q2:w4.cell? ⟨w.heap.size,2,none⟩=some (.int .i64 y2):=by simp[World.cell?,yC,aP]
   have q3:w4.cell? ⟨w.heap.size,3,none⟩=some (.int .i64 y3):=by simp[World.cell?,yC,aP]
   have q4:w4.cell? ⟨w.heap.size,4,none⟩=some (.string y4):=by simp[World.cell?,yC,aP]
   have q5:w4.cell? ⟨w.heap.size,5,none⟩=some (.slice LK y5.length LL):=by simp[World.cell?,yC,aP]
   have q6:w4.cell? ⟨w.heap.size,6,none⟩=some (.slice Rq Hh.length Rr):=by simp[World.cell?,yC,aP]
   obtain⟨v5,L5,wZ,cb2,fb2,hrow,hvo,hB,gi⟩:=fV.more LJ pk.own;obtain⟨Av5,cv5,rfl,_⟩:=bI hrow;have acn:b<w4.heap.size:=by omega
   have LI:=aa hrow;have HV5:=aa hvo;have HM5:=aa gi;have HLL:=aa wZ;have HL4:=aa hl4;have HO4:=aa UB;have OB:=aa fV.at_;have KR:=aa kR;have hL5:L5.length≤200000:=by omega
   clear f4 r4 e4 UB hd4 fV pk hl4 yC LJ hrow hvo gi wZ kR k4 Wy;go_wp2_with fail
   have HZ:Hid ((w4.alloc (.cells #[.int .i64 y0,.int .i64 y1,.int .i64 y2,.int .i64 y3,.string y4,.slice LK y5.length LL,.slice Rq Hh.length Rr] 55)).drew.heap[w4.heap.size]? = some (.cells #[.int .i64 y0,.int .i64 y1,.int .i64 y2,.int .i64 y3,.string y4,.slice LK y5.length LL,.slice Rq Hh.length Rr] 55 (0,0))):=aa (World.alloc_heap_new w4 _);go_region_law ((refine wX w4 _ (⟨y0,y1,y2,y3,y4,y5,Hh⟩,.slice LK y5.length LL,.slice Rq Hh.length Rr) (by rfl) _ _ (by rfl) b (.slice Av5 L5.length cv5) L5 (by rfl) LI.out (fun i hi=>Below.heap_alloc w4 _ i hi) w4.heap.size rfl (by rfl) HZ.out (by intro u hu;simp[aP] at hu;rcases hu with rfl|rfl|rfl|rfl|rfl|rfl|rfl<;>rfl) (by omega) hB ⟨rfl,rfl,rfl,by simp[World.drew],fun k hk=>Below.heap_alloc w4 _ k hk⟩ ?_;intro g6 c6 w6 r6 f6 o6 l6;have LM:=HM5.out w6 g6 c6 r6 f6 o6 l6;have cb6:=LM.1;have fb6:=LM.2.1;have R6:=aa LM.2.2.1;have P6:=aa LM.2.2.2;have F6:=aa f6;have O6:=aa o6;clear r6 f6 o6 l6 LM))
   all_goals
    have Xb:w4.heap.size≤w6.heap.size:=F6.out.size;have aco:b<w6.heap.size:=by omega
    go_wp2
    go_ret2
    have hop :∀k,Op4 k→O4 k:=fun k hk=>(HO4.out k).2 (.inl hk)
    have hon :∀k,On4 k→O4 k:=fun k hk=>(HO4.out k).2 (.inr hk)
    have f7:ay O4 w4 (w6.setCell ⟨b,2,none⟩ (.slice (some ⟨g6,0,none⟩) (L5.length+1) c6)):=(F6.out.mono (O1:=O4) fun k hk=>hop k (HV5.out k hk).1).trans R6.out (fun k hk=>.inl (hk▸hop b OB.out))
    refine⟨PI.out.trans f7 E4.out,.inl ⟨T4.length,.mk ⟨y0,y1,y2,y3,y4,y5,y6⟩ s1,s2,fun k=>Op4 k∨On4 k∨k=g6,T4++[⟨y0,y1,y2,y3,y4,y5,Hh⟩],wY (by have:=HLL.out;omega),P6.out,fun k hk=>?_,HL4.out.node ⟨y0,y1,y2,y3,y4,y5,y6⟩,KR.out⟩⟩
    rcases hk with hk|hk|rfl
    ·exact E4.out k (hop k hk)
    ·exact E4.out k (hon k hk)
    ·rcases O6.out with h|h
     ·exact E4.out _ (hop _ (HV5.out _ h).1)
     ·exact .inr (by have:=PI.out.size;omega)
  ·have M2:=aa hg2
   have HG:=aa (aM Rp.out.size hg1);have K4:=aa k4;clear f4 hg1 hg2 k4;go_wp2_with fail
   go_ret2
   exact⟨PI.out,.inr ⟨l4,_,_,rfl,⟨g',rfl,HG.out,M2.out⟩,K4.out⟩⟩
theorem aG.sub {b:Nat} {O O':Nat→Prop} {T0:List Nd} {R:Except Int (Ast×List aj)→Prop} {w:World} {e:Ending} {w':World} (h:aG b O T0 R w e w') (hO :∀k,O k→O' k):aG b O' T0 R w e w':=by
 obtain⟨h1,h2⟩:=h;refine⟨h1.mono hO,h2.imp ?_ id⟩;rintro⟨p,a,ts,O2,T,e1,p1,x1,l1,k1⟩;exact⟨p,a,ts,O2,T,e1,p1,fun k hk=>(x1 k hk).imp (hO k) id,l1,k1⟩
theorem aG.after {b:Nat} {O:Nat→Prop} {T0:List Nd} {R:Except Int (Ast×List aj)→Prop} {w w1:World} {e:Ending} {w':World} (h:aG b O T0 R w1 e w') (hf:ay O w w1):aG b O T0 R w e w':=by
 obtain⟨h1,h2⟩:=h;refine⟨hf.trans h1 (Ext.refl _ _),h2.imp ?_ ?_⟩
 ·rintro⟨p,a,ts,O2,T,e1,p1,x1,l1,k1⟩
  exact⟨p,a,ts,O2,T,e1,p1,(Ext.refl O w).trans x1 hf.size,l1,k1⟩
 ·rintro⟨l,v,er,e1,⟨g,m1,m2,m3⟩,k⟩
  exact⟨l,v,er,e1,⟨g,m1,aM hf.size m2,m3⟩,k⟩
theorem aG.ret {b:Nat} {O:Nat→Prop} {T0:List Nd} {R:Except Int (Ast×List aj)→Prop} {w:World} {e:Ending} {w':World} (h:aG b O T0 R w e w') :∃v er,e=.returned (.tuple #[v,er]):=by
 rcases h.2 with ⟨p,_,_,_,_,e1,_⟩ | ⟨_,v,er,e1,_⟩
 ·exact⟨_,_,e1⟩
 ·exact⟨v,er,e1⟩
theorem yD (b:Nat) (O:Nat→Prop) (f1 f2:FuncId) (kC vY kB CR:Array Value) (wp:iT) (mf:List aj→Bool×List aj) (w:World) (h1:One w b O (.func (.func f1) kC vY) wp) (h2:yy w b O (.func (.func f2) kB CR) mf) (hO :∀k,O k→k<w.heap.size) :
  Calls Tryz.prog 86 #[.func (.func f1) kC vY,.func (.func f2) kB CR] w (ik b O (lM wp mf) w):=by
 have H1:=aa h1;have H2:=aa h2;have HO:=aa hO;clear h1 h2 hO;go_enter Tryz.func86,Tryz.ntmps86
 go_wp2
 go_ret
 refine⟨_,rfl,((Below.refl _ _).alloc (ah _) _).alloc (by simp) _,?_,_,_,_,rfl⟩
 intro W1 O1 T0 s n K E hf he hr hk;have fa:ay O w (w.alloc (.cells #[.func (.func f1) kC vY] 126)):=(ay.refl _ _).alloc _;have fb:=(ay.refl O (w.alloc (.cells #[.func (.func f1) kC vY] 126))).alloc (.cells #[.func (.func f2) kB CR] 22);have e1:=eK.new w O HO.out #[.func (.func f1) kC vY] 126;have e2:=eK.new (w.alloc (.cells #[.func (.func f1) kC vY] 126)) O (fun k hk=>by have:=HO.out k hk;simp;omega) #[.func (.func f2) kB CR] 22
 rw[an] at e2;have o1:=(H1.out.later fa (Ext.refl _ _)).later fb (Ext.refl _ _);have o2:=(H2.out.later fa (Ext.refl _ _)).later fb (Ext.refl _ _);exact⟨144,_,_,rfl,enters_of Tryz.func144 (by kernel_rfl) rfl,Rk b n _ _ O1 T0 s K E _ _ wp mf W1 hr ((e1.later fb (Ext.refl _ _)).later hf he) (e2.later hf he) (o1.later hf he) (o2.later hf he) hk⟩
def nA:List aj→Bool×List aj:=fun ts=>(false,ts)
def dz (wp:iT):cf:=lM wp nA
theorem Rt (w:World) (b:Nat) (O:Nat→Prop):yy w b O (.func (.func 87) #[] #[]) nA:=by
 intro W1 O1 T ts _ _ hp;refine⟨87,_,_,rfl,enters_of Tryz.func87 (by kernel_rfl) rfl,?_⟩
 show Calls Tryz.prog 87 #[] W1 _
 have HP:=aa hp;clear hp;go_enter Tryz.func87,Tryz.ntmps87
 go_wp2
 go_ret
 exact⟨rfl,HP.out,ay.refl _ _⟩
theorem AG (b:Nat) (O:Nat→Prop) (f1:FuncId) (kC vY:Array Value) (wp:iT) (w:World) (h1:One w b O (.func (.func f1) kC vY) wp) (hO :∀k,O k→k<w.heap.size) :
  Calls Tryz.prog 43 #[.func (.func f1) kC vY] w (ik b O (dz wp) w):=by
 have HC:=aa (yD b O f1 87 kC vY #[] #[] wp nA w h1 (Rt w b O) hO);clear h1 hO;go_enter Tryz.func43,Tryz.ntmps43
 go_wp2_with fail
 refine HC.out.mono ?_;rintro e w1 ⟨v,rfl,h2⟩;have H2:=aa h2;clear h2;go_wp2_with fail
 go_ret
 exact⟨_,rfl,H2.out⟩
def dU (x:Nd) (cO:List cf):iT:=fun ts n K E=>∃t r l,ts=t::r∧((x.line=0∧l=t.2.1)∨(x.line≠0∧l=x.line))∧aK cO ⟨{ x with line:=l},[],ts,n⟩ (fun s=>s.n≤200000∧K (.mk s.h s.xs) s.ts) E
def zt (W:World) (b:Nat) (xs:List ByteArray) (nv:Value):Prop:=W.ownsRow (b+1) 9 1 nv xs.length (xs.map Value.string)∧∀g,nv.ownBlock=some g→EH W g∧xs≠[]
theorem zt.later {W W':World} {b:Nat} {O:Nat→Prop} {xs:List ByteArray} {nv:Value} (h:zt W b xs nv) (hf:ay O W W'):zt W' b xs nv:=⟨dh h.1 fun g hg=>hf.str g (h.2 g hg).1,fun g hg=>⟨hf.keeps (h.2 g hg).1,(h.2 g hg).2⟩⟩
theorem zt.nil (W:World) (b:Nat):zt W b [] (.slice none 0 0):=⟨World.ownsRow_nil _ _ _ _,fun g hg=>by simp[Value.ownBlock] at hg⟩
theorem zt.nd {W:World} {b:Nat} {x:Nd} {nv:Value} (h:zt W b x.names nv):jB W b (fun _=>False) { x with kids:=[]} nv (.slice none 0 0):=⟨h.1,World.ownsRow_nil _ _ _ _,fun g hg=>.inr (h.2 g hg).1,fun g hg=>(h.2 g hg).2,fun g hg=>by simp[Value.ownBlock] at hg⟩
theorem Ru (b g1 g2 g3:Nat) (O:Nat→Prop) (ts:List aj) (T:List Nd) (x:Nd) (nv pv:Value) (cO:List cf) (K:Ast→List aj→Prop) (E:Int→Prop) (w:World) (hp:PS w b O ts T) (hn:zt w b x.names nv)
  (b1:eK w O g1 #[.pointer (some ⟨b,0,none⟩)] 116) (b2:eK w O g2 (aP (x,nv,.slice none 0 0)).toArray 55) (b3:eK w O g3 #[pv] 117) (EW:aN w b O pv cO) (hk:dU x cO ts T.length K E) :
  Calls Tryz.prog 83 #[.pointer (some ⟨g1,0,none⟩),.pointer (some ⟨g2,0,none⟩),.pointer (some ⟨g3,0,none⟩)] w (aG b O T (RK K E) w):=by
 obtain⟨t,r,l,rfl,hl,hk⟩:=hk;obtain⟨An,cn,rfl,_⟩:=bI hn.1;have HN:=aa (yB b O (fun _=>False) t r T T x l [] [] _ (.slice none 0 0) pv cO (RK K E) w hp hn.nd (fun _ _ h=>h) (fun _ h=>h.elim) (ep.nil T) (EW.later (ay.refl _ _) (fun k hk=>.inl (hk.elim id False.elim))) hl hk)
 have c1:=b1.cell 0;have c3:=b3.cell 0;obtain⟨x0,x1,x2,x3,x4,x5,x6⟩:=x;have q0:w.cell? ⟨g2,0,none⟩=some (.int .i64 x0):=b2.cell 0;have q1:w.cell? ⟨g2,1,none⟩=some (.int .i64 x1):=b2.cell 1;have q2:w.cell? ⟨g2,2,none⟩=some (.int .i64 x2):=b2.cell 2;have q3:w.cell? ⟨g2,3,none⟩=some (.int .i64 x3):=b2.cell 3;have q4:w.cell? ⟨g2,4,none⟩=some (.string x4):=b2.cell 4;have q5:w.cell? ⟨g2,5,none⟩=some (.slice An x5.length cn):=b2.cell 5;have q6:w.cell? ⟨g2,6,none⟩=some (.slice none 0 0):=b2.cell 6;unfold cZ at HN;dsimp only at HN
 clear hp hn b1 b2 b3 EW hl hk;go_enter Tryz.func83,Tryz.ntmps83
 go_wp2_with fail
 refine HN.out.mono ?_;intro e w1 h1;obtain⟨v,er,rfl⟩:=h1.ret;have H1:=aa (h1.sub (O':=O) fun k hk=>hk.elim id False.elim)
 clear h1 c1 c3 q0 q1 q2 q3 q4 q5 q6;go_wp2_with fail
 go_ret2
 exact H1.out
theorem rz (b:Nat) (O:Nat→Prop) (x:Nd) (nv pv:Value) (cO:List cf) (w:World) (hn:zt w b x.names nv) (EW:aN w b O pv cO) (hO :∀k,O k→k<w.heap.size) :
  Calls Tryz.prog 39 #[.pointer (some ⟨b,0,none⟩),cZ x nv (.slice none 0 0),pv] w (ik b O (dz (dU x cO)) w):=by
 obtain⟨An,cn,rfl,_⟩:=bI hn.1;obtain⟨A,m,rfl⟩:=EW.form;obtain⟨x0,x1,x2,x3,x4,x5,x6⟩:=x;dsimp only at hn ⊢
 obtain⟨NV,hNV⟩ :∃NV,NV=(.slice An x5.length cn:Value):=⟨_,rfl⟩;obtain⟨w1,ef⟩ :∃w1,w1=w.alloc (.cells #[.pointer (some ⟨b,0,none⟩)] 116):=⟨_,rfl⟩;obtain⟨w2,hw2⟩ :∃w2,w2=w1.alloc (.cells #[.int .i64 x0,.int .i64 x1,.int .i64 x2,.int .i64 x3,.string x4,.slice An x5.length cn,.slice none 0 0] 55):=⟨_,rfl⟩;obtain⟨w3,hw3⟩ :∃w3,w3=w2.alloc (.cells #[.slice A m m] 117):=⟨_,rfl⟩;have f1:ay O w w1:=by rw[ef];exact(ay.refl _ _).alloc _
 have f2:ay O w1 w2:=by rw[hw2];exact(ay.refl _ _).alloc _
 have f3:ay O w2 w3:=by rw[hw3];exact(ay.refl _ _).alloc _
 have z1:w1.heap.size=w.heap.size+1:=by rw[ef,an]
 have z2:w2.heap.size=w.heap.size+1+1:=by rw[hw2,an,z1]
 have b1:eK w1 O w.heap.size #[.pointer (some ⟨b,0,none⟩)] 116:=by rw[ef];exact eK.new w O hO _ _
 have b2:eK w2 O (w.heap.size+1) #[.int .i64 x0,.int .i64 x1,.int .i64 x2,.int .i64 x3,.string x4,.slice An x5.length cn,.slice none 0 0] 55:=by rw[hw2,←z1];exact eK.new w1 O (fun k hk=>by have:=hO k hk;omega) _ _
 have b3:eK w3 O (w.heap.size+1+1) #[.slice A m m] 117:=by rw[hw3,←z2];exact eK.new w2 O (fun k hk=>by have:=hO k hk;omega) _ _
 have f12:=f1.trans f2 (Ext.refl _ _);have f13:=f12.trans f3 (Ext.refl _ _);have vZ:One w3 b O (.func (.func 83) #[] #[.pointer (some ⟨w.heap.size,0,none⟩),.pointer (some ⟨w.heap.size+1,0,none⟩),.pointer (some ⟨w.heap.size+1+1,0,none⟩)]) (dU ⟨x0,x1,x2,x3,x4,x5,x6⟩ cO):=by
  intro W1 O1 T ts K E hf he hp hk;refine⟨83,_,_,rfl,enters_of Tryz.func83 (by kernel_rfl) rfl,?_⟩
  exact Ru b _ _ _ O1 ts T ⟨x0,x1,x2,x3,x4,x5,x6⟩ _ _ cO K E W1 hp ((hn.later f13).later hf) (((b1.later f2 (Ext.refl _ _)).later f3 (Ext.refl _ _)).later hf he) ((b2.later f3 (Ext.refl _ _)).later hf he) (b3.later hf he) ((EW.later f13 (Ext.refl _ _)).later hf he) hk
 have HK:=aa (AG b O 83 _ _ _ w3 vZ fun k hk=>by have:=hO k hk;have:=f13.size;omega)
 have HF:=aa f13;have HB:Hid (Below w.heap.size w w3):=aa (by
  rw[hw3,hw2,ef];exact(((Below.refl _ _).alloc (ah _) _).alloc (by simp) _).alloc (by simp;omega) _)
 rw[hw3,hw2,ef] at HK HB;clear hn EW hO hNV ef hw2 hw3 f1 f2 f3 z1 z2 b1 b2 b3 f12 f13 vZ HF;unfold cZ;dsimp only
 go_enter Tryz.func39,Tryz.ntmps39
 go_wp2_with fail
 refine HK.out.mono ?_;rintro e w1 ⟨v,rfl,b1,h2⟩;have H2:=aa h2;have B1:=aa (aA HB.out b1);clear h2 b1;go_wp2_with fail
 go_ret
 exact⟨_,rfl,B1.out,H2.out⟩
abbrev jE (W:World) (b:Nat) (v:Value) (xs:List ByteArray):Prop:=W.ownsRow (b+1) 9 1 v xs.length (xs.map Value.string)
theorem LN:(Tryz.prog.info? 9).map (fun i=>(i.zero,i.size,i.bytes))=some (some (.string ⟨#[]⟩),1,16):=by kernel_rfl
theorem LO {W:World} {B B' e s n:Nat} {v:Value} {xs:List Value} (h:W.ownsRow B e s v n xs) (hB:B'≤B):W.ownsRow B' e s v n xs:=by
 refine⟨h.1,?_⟩;rcases h.2 with h2 | ⟨g,cap,cur,e1,h2,rest⟩
 ·exact .inl h2
 ·exact .inr ⟨g,cap,cur,e1,aM hB h2,rest⟩
theorem ay.EX {O:Nat→Prop} {w w':World} (h:w.grownBy w' none):ay O w w':=ay.ae ⟨h.os,h.tape,h.output,h.size,fun k hk=>h.block k hk (by simp)⟩
theorem LP (ty:TypeId) (w:World) (b:Nat) (v xv:Value) (ls ns:List ByteArray) (hown:jE w b v ls) (hnz :∀g,v.ownBlock=some g→ls≠[]) (hx:jE w b xv ns) (hne:ns≠[]) (h1:ls.length≤1000000) (h2:ns.length≤1000000) (hB:b+1≤w.heap.size) :
  ∃g c w',(Builtin.append_ #[53,53] ty #[v,xv]).run Tryz.prog w=.ok (.slice (some ⟨g,0,none⟩) (ls.length+ns.length) c) w'∧jE w' b (.slice (some ⟨g,0,none⟩) (ls.length+ns.length) c) (ls++ns)∧ay (fun k=>v.ownBlock=some k) w w'∧((v.ownBlock=some g∧¬ EH w g)∨w.heap.size≤g)∧g<w'.heap.size:=by
 obtain⟨i0,mY,hz0,hz1,hz2⟩:=info_parts LN;have hm:0<ns.length:=wu.2 hne;obtain⟨gx,cx,rfl,_,_⟩:=hx.form hm;have qV :∀j u,(ns.map Value.string)[j]? = some u→w.cell? ((⟨gx,0,none⟩:Addr).add j)=some u:=fun j u hj=>hx.cells (g:=gx) rfl j u hj
 have hoc :∀u∈ns.map Value.string,u.oneCell'=true:=fun u hu=>by obtain⟨z,_,rfl⟩:=eQ.1 hu;rfl
 have key :∀v' w',w'.ownsRow w.heap.size 9 1 v' (ls.length+ns.length) (ls.map Value.string++ns.map Value.string)→w.grownBy w' none→∃g c,v'=.slice (some ⟨g,0,none⟩) (ls.length+ns.length) c∧jE w' b (.slice (some ⟨g,0,none⟩) (ls.length+ns.length) c) (ls++ns)∧w.heap.size≤g∧g<w'.heap.size:=fun v' w' r1 r2=>by
  obtain⟨g,c,rfl,h3,h4⟩:=r1.form (by omega)
  refine⟨g,c,rfl,?_,h3,h4⟩;unfold jE;rw[cI,me];exact LO r1 (by omega)
 rcases hown.2 with ⟨rfl,hn⟩ | ⟨g0,cap,cur,rfl,hg0,hh,hnc,_,hcs,_⟩
 ·have QS:ls=[]:=ma hn
  subst QS;obtain⟨v',w',hrun,r1,r2,_⟩:=run_append_own (P:=Tryz.prog) w w.heap.size 53 ty 9 i0 (.string ⟨#[]⟩) 1 16 Tryz.underlying53 mY hz0 hz1 hz2 rfl (by omega) (.slice none 0 0) 0 [] (World.ownsRow_nil w _ 9 1) ⟨gx,0,none⟩ ns.length cx (ns.map Value.string) (by simp) qV hoc (by unfold maxLen;omega) (by omega) (ah _)
  obtain⟨g,c,rfl,h3,h4,h5⟩:=key v' w' (by simpa using r1) (by simpa[Value.ownBlock] using r2)
  exact⟨g,c,w',hrun,h3,ay.EX (by simpa[Value.ownBlock] using r2),.inr h4,h5⟩
 ·by_cases hroom:ls.length+ns.length≤cap
  ·have hl0:0<ls.length:=wu.2 (hnz g0 rfl)
   have hns:¬ EH w g0:=fun⟨s,f,hs⟩=>by
    rw[hh] at hs;injection hs with hs;injection hs with hs;rw[hs] at hcs;simp at hcs;omega
   obtain⟨g,c,w',hrun,r1,r2,r3,r4⟩:=run_append_lies (P:=Tryz.prog) w 53 ty (b+1) 9 i0 (.string ⟨#[]⟩) 1 16 Tryz.underlying53 mY hz0 hz1 hz2 rfl (by omega) _ ls.length (ls.map Value.string) hown ⟨gx,0,none⟩ ns.length cx (ns.map Value.string) (by simp) qV hoc hm (by unfold maxLen;omega) (by omega) hB w.heap.size rfl
   refine⟨g,c,w',hrun,?_,⟨r2.os,r2.tape,r2.output,r2.size,fun k hk hO=>r2.block k hk (fun e=>hO e.symm),fun k hk=>r2.block k hk.lt (fun e=>by
    have:k=g0:=by simpa[Value.ownBlock] using e
    exact hns (this▸hk))⟩,?_,r4⟩
   ·unfold jE
    rw[cI,me];exact r1
   ·rcases r3 with r3|r3
    ·have:g0=g:=by simpa[Value.ownBlock] using r3
     exact .inl ⟨r3,this▸hns⟩
    ·exact .inr (by omega)
  ·obtain⟨v',w',hrun,r1,r2⟩:=run_append_arg_grows (P:=Tryz.prog) w 53 ty 9 i0 (.string ⟨#[]⟩) 1 16 Tryz.underlying53 mY hz0 hz1 hz2 rfl (by omega) ⟨g0,0,none⟩ ls.length cap (ls.map Value.string) (by simp) (fun j u hj=>hown.cells (g:=g0) rfl j u hj) ⟨gx,0,none⟩ ns.length cx (ns.map Value.string) (by simp) qV (by omega) (by unfold maxLen;omega) (by omega)
   obtain⟨g,c,rfl,h3,h4,h5⟩:=key v' w' r1 r2;exact⟨g,c,w',hrun,h3,ay.EX r2,.inr h4,h5⟩
theorem EY {o:Oper} {a:Act} {K:Act→World→Prop} {Q:Exit→Act→World→Prop} (w:World) (s x:Operand)
  (ho:o.op=.call { callee:=.builtin .append,args:=#[s,x],argTypes:=#[53,53]}) (b:Nat) (v xv:Value) (ls ns:List ByteArray) (hs:a.eval s=v) (hown:jE w b v ls) (hnz :∀g,v.ownBlock=some g→ls≠[]) (hx:a.eval x=xv) (hxr:jE w b xv ns) (hne:ns≠[]) (h1:ls.length≤1000000) (h2:ns.length≤1000000) (hB:b+1≤w.heap.size)
  (h :∀g c w',jE w' b (.slice (some ⟨g,0,none⟩) (ls.length+ns.length) c) (ls++ns)→ay (fun k=>v.ownBlock=some k) w w'→((v.ownBlock=some g∧¬ EH w g)∨w.heap.size≤g)→g<w'.heap.size→K (a.put o.dst (.slice (some ⟨g,0,none⟩) (ls.length+ns.length) c)) w'):o.wp Tryz.prog a w K Q:=by
 obtain⟨g,c,w',hr,r1,r2,r3,r4⟩:=LP o.type w b v xv ls ns hown hnz hxr hne h1 h2 hB;unfold Oper.wp execOp;simp only[ho,resolve,invoke,builtin,Sem.run_bind,Sem.run_pure,Result.andThen_ok,Kc,eP,List.map_nil,hs,hx,hr];exact h g c w' r1 r2 r3 r4
theorem AH {ops:Array Oper} {rest:List Oper} {o:Oper} {a:Act} {Q:Exit→Act→World→Prop} (w:World) (hgd:o.guard=none) (s x:Operand)
  (ho:o.op=.call { callee:=.builtin .append,args:=#[s,x],argTypes:=#[53,53]}) (b:Nat) (v xv:Value) (ls ns:List ByteArray) (hs:a.eval s=v) (hown:jE w b v ls) (hnz :∀g,v.ownBlock=some g→ls≠[]) (hx:a.eval x=xv) (hxr:jE w b xv ns) (hne:ns≠[]) (h1:ls.length≤1000000) (h2:ns.length≤1000000) (hB:b+1≤w.heap.size)
  (h :∀g c w',jE w' b (.slice (some ⟨g,0,none⟩) (ls.length+ns.length) c) (ls++ns)→ay (fun k=>v.ownBlock=some k) w w'→((v.ownBlock=some g∧¬ EH w g)∨w.heap.size≤g)→g<w'.heap.size→wpList Tryz.prog ops Q rest (a.put o.dst (.slice (some ⟨g,0,none⟩) (ls.length+ns.length) c)) w'):wpList Tryz.prog ops Q (o::rest) a w :=
 wpList_plain hgd fun _ hK=>EY w s x ho b v xv ls ns hs hown hnz hx hxr hne h1 h2 hB fun g c w' r1 r2 r3 r4=>hK _ _ (h g c w' r1 r2 r3 r4)
theorem Hi {ops:Array Oper} {o:Oper} {a:Act} {K:Act→World→Prop} {Q:Exit→Act→World→Prop} {E:Prop} (w:World) (hgd:o.guard=none) (s x:Operand)
  (ho:o.op=.call { callee:=.builtin .append,args:=#[s,x],argTypes:=#[53,53]}) (b:Nat) (v xv:Value) (ls ns:List ByteArray) (hs:a.eval s=v) (hown:jE w b v ls) (hnz :∀g,v.ownBlock=some g→ls≠[]) (hx:a.eval x=xv) (hxr:jE w b xv ns) (hne:ns≠[]) (h1:ls.length≤1000000) (h2:ns.length≤1000000) (hB:b+1≤w.heap.size)
  (h :∀g c w',jE w' b (.slice (some ⟨g,0,none⟩) (ls.length+ns.length) c) (ls++ns)→ay (fun k=>v.ownBlock=some k) w w'→((v.ownBlock=some g∧¬ EH w g)∨w.heap.size≤g)→g<w'.heap.size→K (a.put o.dst (.slice (some ⟨g,0,none⟩) (ls.length+ns.length) c)) w') :
  if Region.wanted o (yielded ops a.tmps)=true then Oper.wp Tryz.prog o a w K Q else E:=by
 have hw:Region.wanted o (yielded ops a.tmps)=true:=by simp[Region.wanted,hgd]
 rw[al hw];exact EY w s x ho b v xv ls ns hs hown hnz hx hxr hne h1 h2 hB h
abbrev Zm:=Int×List aj→Bool×Int×List aj
def LQ (W:World) (b n:Nat) (Op On:Nat→Prop) (v:Value) (mf:Zm):Prop :=
 ∀W1 x ts T,ay (fun k=>k=b∨k=n) W W1→PS W1 b Op ts T→NU W1 b n On x →
  EI v #[] W1 fun e w'=>e=.returned (.bool (mf (x.num,ts)).1)∧PS w' b Op (mf (x.num,ts)).2.2 T∧NU w' b n On { x with num:=(mf (x.num,ts)).2.1}∧ay (fun k=>k=b∨k=n) W1 w'
def uI (mf:Zm):Nat→Int→List aj→List ByteArray→(Int→List ByteArray→List aj→Prop)→(Int→Prop)→Prop
 | 0,_,_,_,_,_=>False
 | k+1,m,ts,acc,K,E=>∃t r,ts=t::r∧(t.1≠1→E t.2.1)∧(t.1=1→((mf (m,r)).1=true→uI mf k (mf (m,r)).2.1 (mf (m,r)).2.2 (acc++[bK t.2.2.2]) K E)∧((mf (m,r)).1=false→K (mf (m,r)).2.1 (acc++[bK t.2.2.2]) (mf (m,r)).2.2))
def Rv (b n:Nat) (Op On:Nat→Prop) (x:Nd) (T:List Nd) (K:Int→List ByteArray→List aj→Prop) (E:Int→Prop) (w:World) (e:Ending) (w':World):Prop :=
 ay (fun k=>k=b∨k=n) w w'∧∃m,NU w' b n On { x with num:=m}∧((∃v xs ts,e=.returned (.tuple #[v,.nilIface])∧PS w' b Op ts T∧jE w' b v xs∧(∀g,v.ownBlock=some g→w.heap.size≤g)∧xs≠[]∧xs.length≤100000∧K m xs ts) ∨
  (∃l er,e=.returned (.tuple #[.slice none 0 0,er])∧QU w.heap.size w' er l∧E l))
theorem xc (b n:Nat) (Op On:Nat→Prop) (x:Nd) (ts:List aj) (T:List Nd) (more:Value) (mf:Zm) (K:Int→List ByteArray→List aj→Prop) (E:Int→Prop) (m:Nat) (hm:m≤100000) (w:World) (hp:PS w b Op ts T) (hn:NU w b n On x) (hd :∀k,Op k→¬ On k) (h2:LQ w b n Op On more mf) (hk:uI mf m x.num ts [] K E) :
  Calls Tryz.prog 149 #[.func (.func 146) #[.pointer (some ⟨b,0,none⟩)] #[],more] w (Rv b n Op On x T K E w):=by
 have HP:=aa hp;have HN:=aa hn;have H2:=aa h2;have HK:=aa hk;have HD:=aa hd;have tb:=(hp.own b hp.at_).2;have De:=hn.own n hn.at_;clear hp hn h2 hk hd;go_enter Tryz.func149,Tryz.ntmps149
 go_wp2_with fail
 go_loopg [6] m (fun z tv wr=>∃(nu:Int) (xs:List ByteArray) (tr:List aj),PS wr b Op tr T∧NU wr b n On { x with num:=nu}∧ay (fun k=>k=b∨k=n) w wr∧jE wr b tv xs∧(∀g,tv.ownBlock=some g→w.heap.size≤g∧¬ Op g∧¬ On g∧xs≠[])∧xs.length+z≤m∧uI mf z nu tr xs K E)
 case atStart=>exact⟨x.num,[],ts,HP.out,HN.out,ay.refl _ _,World.ownsRow_nil _ _ _ _,fun g hg=>by simp[Value.ownBlock] at hg,by simp,HK.out⟩
 case round =>
  obtain⟨nu,xs,tr,bY,wJ,kT,hr1,Zn,hz,iX⟩:=hrel;have JI:=aa wJ;have fA:=aa kT;have ny:=aa hr1;have Ro:=aa Zn;cases gk with
  | zero=>exact iX.elim
  | succ z =>
   obtain⟨t,r,rfl,pd,CD⟩:=iX;have HC:=aa (C7 b Op t r T wr bY);obtain⟨f2,kB,CR,rfl,WY,_⟩:=H2.out wr _ _ T kT bY wJ;have acp:=aa pd;have Hj:=aa CD;have hbo :∀g,u6.ownBlock=some g→g≠b:=fun g hg e=>by have:=(hr1.lt g hg).1;omega
   have AF:=aa bY;clear bY wJ kT hr1 Zn pd CD;unfold Enters at WY;go_wp2_with fail
   refine HC.out.mono ?_;rintro e w2 ⟨mj,h2⟩;have rA:ay (fun k=>k=b∨k=n) w w2:=fA.out.trans mj (fun k hk=>.inl (.inl hk))
   have F2:=aa rA;have N2:=aa (JI.out.kept mj fun k hk e=>HD.out b HP.out.at_ (e▸hk))
   rcases h2 with ⟨g1,rfl,p2⟩ | ⟨g1,er,rfl,mis⟩
   ·have hrow2:jE w2 b u6 xs:=dh ny.out fun g hg=>mj.block g (ny.out.lt g hg).2 (hbo g hg)
    have vX:=aa hrow2;have P2:=aa p2;have CD:=Hj.out g1;have aav:=aa CD;have yn:b+1≤w2.heap.size:=by have:=(p2.own b p2.at_).2;omega
    have hsw:w.heap.size≤w2.heap.size:=rA.size;obtain⟨S,hS⟩ :∃S,S=bK t.2.2.2:=⟨_,rfl⟩;rw[←hS];have HS:=aa hS;clear mj hrow2 p2 CD rA hS hbo;go_wp2_with (at_builtin;refine AH _ rfl _ _ rfl b u6 (.slice (some ⟨w2.heap.size,0,none⟩) 1 1) xs [S] rfl (vX.out.alloc _) (fun g hg=>(Ro.out g hg).2.2.2) rfl ⟨rfl,.inr ⟨w2.heap.size,1,#[.string S],rfl,yn,World.alloc_heap_new w2 _,by simp,by unfold maxLen;omega,rfl,rfl⟩⟩ (by simp) (by omega) (by simp) (by simp;omega) ?_;intro g4 c4 w4 h4 f4 o4 l4;have H4:=aa h4;have F4:=aa f4;have O4:=aa o4;have L4:=aa l4;clear h4 f4 o4 l4)
    have fw4:ay (fun k=>u6.ownBlock=some k) w2 w4:=((ay.refl _ w2).alloc (.cells #[.string S] 9)).trans F4.out (Ext.refl _ _)
    have p4:PS w4 b Op r T:=P2.out.kept fw4 (fun k hk e=>(Ro.out k e).2.1 hk) fun k e=>by have:=(vX.out.lt k e).1;omega
    have n4:NU w4 b n On { x with num:=nu}:=N2.out.kept fw4 fun k hk e=>(Ro.out k e).2.2.1 hk
    have f5:ay (fun k=>k=b∨k=n) w w4:=F2.out.trans (O1:=fun k=>u6.ownBlock=some k) fw4 fun k hk=>.inr (Ro.out k hk).1
    have P4:=aa p4;have N4:=aa n4;have F5:=aa f5;obtain⟨_,_,_,e2,_,pj⟩:=H2.out w4 _ _ T f5 p4 n4;injection e2 with e3 e4 e5;injection e3 with e3;subst e3 e4 e5;rw[show kB++(#[]:Array Value)=kB by simp] at pj
    have ru:=aa pj;obtain⟨br,hbr⟩ :∃br,br=(mf (nu,r)).1:=⟨_,rfl⟩;dsimp only at ru
    rw[←hbr] at ru;have Dd:=aa hbr;clear p4 n4 f5 pj hbr fw4;refine ru.out.mono ?_;rintro e w5 ⟨rfl,p5,n5,WZ⟩;have ho5:w.heap.size≤g4∧¬ Op g4∧¬ On g4:=by
     rcases O4.out with ⟨h,_⟩|h
     ·exact⟨(Ro.out g4 h).1,(Ro.out g4 h).2.1,(Ro.out g4 h).2.2.1⟩
     ·have h':w2.heap.size≤g4:=by simp at h;omega
      exact⟨by omega,fun h2=>by have:=(P2.out.own g4 h2).2;omega,fun h2=>by have:=(N2.out.own g4 h2).2;omega⟩
    have HO5:=aa ho5;have LI:=aa (show jE w5 b (.slice (some ⟨g4,0,none⟩) (xs.length+1) c4) (xs++[S]) from dh H4.out fun g hg=>by
     have vO:g=g4:=by simpa[Value.ownBlock] using hg.symm
     subst vO;refine WZ.block g L4.out (fun e=>?_)
     rcases e with e|e
     ·exact ho5.2.1 (e▸HP.out.at_)
     ·exact ho5.2.2 (e▸HN.out.at_))
    have P5:=aa p5;have N5:=aa n5;have F6:=aa (F5.out.trans WZ (Ext.refl _ _));clear p5 n5 WZ ho5;cases br with
    | true =>
     go_wp2_with fail
     go_roundg z
     case measure=>omega
     case rel=>exact⟨_,xs++[S],_,P5.out,N5.out,F6.out,LI.out,fun g hg=>by
      have vO:g=g4:=by simpa[Value.ownBlock] using hg.symm
      subst vO;exact⟨HO5.out.1,HO5.out.2.1,HO5.out.2.2,by simp⟩,by simp;omega,by
      have:=aav.out.1 Dd.out.symm;rw[←HS.out] at this;exact this⟩
    | false =>
     go_wp2_with fail
     go_ret2
     refine⟨F6.out,_,N5.out,.inl ⟨_,xs++[S],_,rfl,P5.out,LI.out,fun g hg=>?_,by simp,by simp;omega,?_⟩⟩
     ·have vO:g=g4:=by simpa[Value.ownBlock] using hg.symm
      subst vO;exact HO5.out.1
     ·have:=aav.out.2 Dd.out.symm
      rw[←HS.out] at this;exact this
   ·obtain⟨g',rfl,hg1,hg2⟩:=mis
    have M2:=aa hg2;have HG:=aa (aM fA.out.size hg1);have HE:=aa (acp.out g1);clear mj hg1 hg2 rA hbo;go_wp2_with fail
    go_ret2
    exact⟨F2.out,nu,N2.out,.inr ⟨_,_,rfl,⟨g',rfl,HG.out,M2.out⟩,HE.out⟩⟩
end Go.Proofs.YteflkdlaoiijbaaGreatDoor
namespace Go.Proofs.YteflkdlaoiijbaaGreatDoor
open Go.RowKit
def Gw {α:Type} (g:GL α) (ts:List aj) (K:α→List aj→Prop) (E:Int→Prop):Prop:=(∀a ax,PL g ts (.ok (a,ax))→K a ax)∧(∀l,PL g ts (.error l)→E l)
section
variable {α:Type} {K:α→List aj→Prop} {E:Int→Prop}
theorem Gw.tok {f:aj→GL α} {t:aj} {ts:List aj} (h:Gw (.tok f) (t::ts) K E):Gw (f t) ts K E:=⟨fun a ax p=>h.1 a ax (.tok p),fun l p=>h.2 l (.tok p)⟩
theorem Gw.look {f:aj→GL α} {t:aj} {ts:List aj} (h:Gw (.look f) (t::ts) K E):Gw (f t) (t::ts) K E:=⟨fun a ax p=>h.1 a ax (.look p),fun l p=>h.2 l (.look p)⟩
theorem Gw.ret {a:α} {ts:List aj} (h:Gw (.ret a) ts K E):K a ts:=h.1 a ts .ret
theorem Gw.bad {t:aj} {ts:List aj} (h:Gw (.bad:GL α) (t::ts) K E):E t.2.1:=h.2 _ .bad
theorem Gw.call {n:NT} {k:VT n→GL α} {ts:List aj} (h:Gw (.call n k) ts K E):Gw (dt n) ts (fun v ax=>yr n ts.length v ax.length∧Gw (k v) ax K E) E :=
 ⟨fun _ _ p=>⟨p.holds aaq,fun a iy q=>h.1 a iy (.call p q),fun l q=>h.2 l (.call p q)⟩,fun l p=>h.2 l (.iv p)⟩
theorem Gw.mono {g:GL α} {ts:List aj} {K':α→List aj→Prop} (h:Gw g ts K E) (hk :∀a ax,PL g ts (.ok (a,ax))→K a ax→K' a ax):Gw g ts K' E:=⟨fun a ax p=>hk a ax p (h.1 a ax p),h.2⟩
theorem Gw.pos {c:Prop} [Decidable c] {g g':GL α} {ts:List aj} (h:Gw (if c then g else g') ts K E) (hc:c):Gw g ts K E:=by rwa[al hc] at h
theorem Gw.neg {c:Prop} [Decidable c] {g g':GL α} {ts:List aj} (h:Gw (if c then g else g') ts K E) (hc:¬ c):Gw g' ts K E:=by rwa[af hc] at h
theorem Gw.want {x:List UInt8} {k:aj→GL α} {t:aj} {ts:List aj} (h:Gw (want x k) (t::ts) K E):(aw x t=true→Gw (k t) ts K E)∧(aw x t=false→E t.2.1) :=
 ⟨fun hw=>(h.look.pos hw).tok,fun hw=>(h.look.neg (by simp[hw])).bad⟩
theorem Gw.name {k:aj→GL α} {t:aj} {ts:List aj} (h:Gw (name k) (t::ts) K E):(t.1=1→Gw (k t) ts K E)∧(t.1≠1→E t.2.1) :=
 ⟨fun hw=>(h.look.pos hw).tok,fun hw=>(h.look.neg hw).bad⟩
theorem Gw.take {x:List UInt8} {a b:GL α} {t:aj} {ts:List aj} (h:Gw (take x a b) (t::ts) K E):(aw x t=true→Gw a ts K E)∧(aw x t=false→Gw b (t::ts) K E) :=
 ⟨fun hw=>(h.look.pos hw).tok,fun hw=>h.look.neg (by simp[hw])⟩
theorem Gw.self (g:GL α) (ts:List aj):Gw g ts (fun a ax=>PL g ts (.ok (a,ax))) (fun l=>PL g ts (.error l)):=⟨fun _ _ h=>h,fun _ h=>h⟩
end
def Lin (ts:List aj):Prop:=∀t∈ts,t.2.1≠0∧(t.1=2→t.2.2.2≠[61])
structure Wf (ts:List aj):Prop where
 fin:Fin ts
 zu:Lin ts
theorem Wf.tail {t:aj} {ts:List aj} (h:Wf (t::ts)) (ht:t.1≠0):Wf ts:=⟨h.fin.tail ht,fun u hu=>h.zu u (cr _ hu)⟩
theorem PL.wf {n:NT} {ts ax:List aj} {v:VT n} (h:PL (dt n) ts (.ok (v,ax))) (hf:Wf ts):Wf ax:=by
 refine⟨h.fin hf.fin,?_⟩;obtain⟨c,rfl⟩:=h.tail v ax rfl;exact fun u hu=>hf.zu u (iF _ hu)
def sL (N:Nat) (g:GL Ast):iT:=fun ts n K E=>ts.length<N∧n+2*ts.length≤60000∧Lin ts∧Gw g ts K E
def cX:List aj→Bool×List aj
 | []=>(false,[])
 | t::r=>if aw [44] t then (true,r) else (false,t::r)
def mu (k:Int):Nd:=⟨k,0,0,0,⟨#[]⟩,[],[]⟩
def dA (k l:Int):Nd:=⟨k,l,0,0,⟨#[]⟩,[],[]⟩
abbrev rB (s:Nat):GL Ast:=dt (.exp s)
def oy (N:Nat):cf:=dz (sL N (rB 1))
def nB (N:Nat):cf:=lM (sL N (rB 1)) cX
abbrev aaw (l:List Ast):GL (List Ast):=dt (.vM l)
def LS (N:Nat):cf:=fun s K E=>s.ts.length<N∧s.n+2*s.ts.length≤60000∧s.xs.length+2*s.ts.length≤60000∧Lin s.ts ∧
 Gw (aaw s.xs) s.ts (fun l ax=>∀n',n'+Ast.ak s.xs=s.n+Ast.ak l→K ⟨s.h,l,ax,n'⟩) E
def pn (N:Nat):cf:=dz (dU (mu 18) [LS N])
structure Rm (N k:Nat) (s:St):Prop where
 len:s.ts.length<N
 n:s.n+2*s.ts.length+k≤60000
 xs:s.xs.length+2*s.ts.length+k≤60000
 wf:Wf s.ts
theorem Rm.less {N k j:Nat} {s:St} (h:Rm N k s) (hj:j≤k):Rm N j s:=⟨h.len,by have:=h.n;omega,by have:=h.xs;omega,h.wf⟩
theorem uJ (a:Ast):Ast.ak [a]=a.size:=by rw[ie,cD,Nat.add_zero]
theorem size_pos :∀a:Ast,1≤a.size
 | .mk h ks=>by rw[Ast.size];omega
theorem uK :∀l:List Ast,l.length≤Ast.ak l
 | []=>bB _
 | a::l=>by have:=uK l;have:=size_pos a;rw[ie,List.length_cons];omega
theorem Rm.tok {N k:Nat} {h h':Nd} {xs:List Ast} {t:aj} {ts:List aj} {n:Nat} (hI:Rm N k ⟨h,xs,t::ts,n⟩) (ht:t.1≠0):Rm N (k+2) ⟨h',xs,ts,n⟩ :=
 ⟨by have:=hI.len;simp at this ⊢;omega,by have:=hI.n;simp at this ⊢;omega,by have:=hI.xs;simp at this ⊢;omega,hI.wf.tail ht⟩
theorem Rm.Xc {N k:Nat} {h h':Nd} {xs:List Ast} {t:aj} {ts:List aj} {n:Nat} (hI:Rm (N+1) k ⟨h,xs,t::ts,n⟩) (ht:t.1≠0):Rm N (k+2) ⟨h',xs,ts,n⟩ :=
 ⟨by have:=hI.len;simp at this ⊢;omega,by have:=hI.n;simp at this ⊢;omega,by have:=hI.xs;simp at this ⊢;omega,hI.wf.tail ht⟩
theorem Rm.cons {N k:Nat} {s:St} (hI:Rm N k s) :∃t ts,s.ts=t::ts:=hI.wf.fin.cons
theorem Rm.kids {N k j:Nat} {h h':Nd} {xs ys:List Ast} {ts ax:List aj} {n:Nat} (hI:Rm N k ⟨h,xs,ts,n⟩) (hz:Ast.ak ys+2*ax.length+j≤2*ts.length+k) (hl:ax.length≤ts.length) (hf:Wf ax):Rm N j ⟨h',xs++ys,ax,n+Ast.ak ys⟩ :=
 ⟨by have:=hI.len;dsimp only at this ⊢;omega,by have:=hI.n;dsimp only at this ⊢;omega,by have:=hI.xs;have:=uK ys;rw[cI];dsimp only at *;omega,hf⟩
theorem PL.short {n:NT} {ts ax:List aj} {v:VT n} (h:PL (dt n) ts (.ok (v,ax))):ax.length≤ts.length:=by
 obtain⟨c,rfl⟩:=h.tail v ax rfl;rw[cI];omega
def nC (wp:iT) (s:St) (K:St→Prop) (E:Int→Prop) (a:Ast) (fI:List aj):Prop :=
 ((nA fI).1=true→sK wp nA 0 (nA fI).2 (s.n+a.size) ([]++[a]) (fun xs ts=>K { s with xs:=s.xs++xs,ts:=ts,n:=s.n+Ast.ak xs}) E)∧((nA fI).1=false→(fun xs ts=>K { s with xs:=s.xs++xs,ts:=ts,n:=s.n+Ast.ak xs}) ([]++[a]) (nA fI).2)
theorem jF {wp:iT} {s:St} {K:St→Prop} {E:Int→Prop} (hx:s.xs.length≤100000) (h:wp s.ts s.n (nC wp s K E) E):dz wp s K E:=⟨hx,1,by omega,h⟩
theorem nC.mk {wp:iT} {s:St} {K:St→Prop} {E:Int→Prop} {a:Ast} {fI:List aj} (h:K ⟨s.h,s.xs++[a],fI,s.n+Ast.ak [a]⟩):nC wp s K E a fI:=⟨fun h=>(gb h).elim,fun _=>h⟩
section
variable {α:Type} {K:α→List aj→Prop} {E:Int→Prop} {K':St→Prop} {N k n:Nat} {h:Nd} {xs:List Ast} {ts:List aj}
theorem fS {kk:Ast→GL α} (hI:Rm N k ⟨h,xs,ts,n⟩) (H:Gw (.call (.exp 1) kk) ts K E)
  (hk :∀(e:Ast) (ax:List aj),Rm N (k+1) ⟨h,xs++[e],ax,n+Ast.ak [e]⟩→ax.length<ts.length→Gw (kk e) ax K E→K' ⟨h,xs++[e],ax,n+Ast.ak [e]⟩):oy N ⟨h,xs,ts,n⟩ K' E:=by
 refine jF (by have:=hI.xs;dsimp only at *;omega) ⟨hI.len,by have:=hI.n;dsimp only at *;omega,hI.wf.zu,?_⟩
 refine(Gw.call H).mono fun(e:Ast) ax p hq=>?_
 have hz:e.size+2*ax.length+1≤2*ts.length:=hq.1;exact nC.mk (hk e ax (hI.kids (by rw[uJ];omega) (PL.short p) (p.wf hI.wf)) (by omega) hq.2)
theorem fT {kk:Ast→GL α} (hI:Rm N (k+1) ⟨h,xs,ts,n⟩) (H:Gw (.call .blk kk) ts K E)
  (hk :∀(e:Ast) (ax:List aj),Rm N k ⟨h,xs++[e],ax,n+Ast.ak [e]⟩→ax.length≤ts.length→Gw (kk e) ax K E→K' ⟨h,xs++[e],ax,n+Ast.ak [e]⟩):pn N ⟨h,xs,ts,n⟩ K' E:=by
 obtain⟨t,r,iW⟩:=hI.cons;dsimp only at iW
 subst iW;refine jF (by have:=hI.xs;dsimp only at *;omega) ⟨t,r,t.2.1,rfl,.inl ⟨rfl,rfl⟩,⟨hI.len,by have:=hI.n;dsimp only at *;omega,by have:=hI.n;dsimp only[List.length_nil] at *;omega,hI.wf.zu,?_⟩⟩
 refine(Gw.call (Gw.look (Gw.call H))).mono fun(l:List Ast) ax p hq n' hn'=>?_
 have hz:Ast.ak l+2*ax.length≤Ast.ak []+2*(t::r).length:=hq.1;have po:=hq.2.ret;have hn:=hI.n;dsimp only at hn hn'
 rw[cD] at hz hn';refine⟨by dsimp only;omega,nC.mk (hk _ ax (hI.kids (by rw[uJ];show Ast.size (nd 18 t.2.1 l)+_+_≤_;rw[nX];omega) (PL.short p) (p.wf hI.wf)) (PL.short p) po.2)⟩
theorem cR {t:aj} (hI:Rm (N+1) k ⟨h,xs,t::ts,n⟩) (ht:t.1≠0) (hk:Rm N (k+2) ⟨h,xs,ts,n⟩→K' ⟨h,xs,ts,n⟩):aD ⟨h,xs,t::ts,n⟩ K' E:=⟨t,ts,rfl,ht,hk (hI.Xc ht)⟩
theorem cw {x:List UInt8} {kk:aj→GL α} (hI:Rm N k ⟨h,xs,ts,n⟩) (H:Gw (want x kk) ts K E) (hk :∀(t:aj) (r:List aj),Rm N (k+2) ⟨h,xs,r,n⟩→r.length<ts.length→Gw (kk t) r K E→K' ⟨h,xs,r,n⟩):au [x] ⟨h,xs,ts,n⟩ K' E:=by
 obtain⟨t,r,iW⟩:=hI.cons;dsimp only at iW
 subst iW;exact⟨t,r,rfl,fun hw=>hk t r (hI.tok (aW hw)) (by simp) (H.want.1 hw),H.want.2⟩
theorem LU {x y:List UInt8} {kk:aj→GL α} (hI:Rm N k ⟨h,xs,ts,n⟩) (H:Gw (want x fun _=>want y kk) ts K E) (hk :∀(t:aj) (r:List aj),Rm N (k+4) ⟨h,xs,r,n⟩→r.length<ts.length→Gw (kk t) r K E→K' ⟨h,xs,r,n⟩):au [x,y] ⟨h,xs,ts,n⟩ K' E:=by
 obtain⟨t,r,iW⟩:=hI.cons;dsimp only at iW
 subst iW;refine⟨t,r,rfl,fun hw=>?_,H.want.2⟩
 have oz:=hI.tok (h':=h) (aW hw);obtain⟨t2,r2,iW⟩:=oz.cons;dsimp only at iW
 subst iW;exact⟨t2,r2,rfl,fun hw2=>hk t2 r2 (oz.tok (aW hw2)) (by simp;omega) ((H.want.1 hw).want.1 hw2),(H.want.1 hw).want.2⟩
theorem yE {kk:aj→GL α} (hI:Rm N k ⟨h,xs,ts,n⟩) (H:Gw (name kk) ts K E) (hk :∀(t:aj) (r:List aj),Rm N (k+2) ⟨{ h with s:=bK t.2.2.2},xs,r,n⟩→r.length<ts.length→Gw (kk t) r K E→K' ⟨{ h with s:=bK t.2.2.2},xs,r,n⟩):cQ ⟨h,xs,ts,n⟩ K' E:=by
 obtain⟨t,r,iW⟩:=hI.cons;dsimp only at iW
 subst iW;exact⟨t,r,rfl,fun hw=>hk t r (hI.tok (by rw[hw];decide)) (by simp) (H.name.1 hw),H.name.2⟩
theorem EZ (K2:List Ast→List aj→Prop) :∀(m:Nat) (ts:List aj) (n:Nat) (acc:List Ast),ts.length<m→ts.length<N→n+2*ts.length≤60000→Wf ts→Gw (.call (.exp 1) fun(e:Ast)=>.call (.Ze (acc++[e])) fun(l:List Ast)=>.ret l) ts K2 E→sK (sL N (rB 1)) cX m ts n acc K2 E:=by
 intro m;induction m with
 | zero=>intro ts n acc h;omega
 | succ m ih =>
  intro ts n acc h1 h2 h3 hf H;refine⟨h2,h3,hf.zu,?_⟩;refine(Gw.call H).mono fun(e:Ast) ax p hq=>?_
  have hz:e.size+2*ax.length+1≤2*ts.length:=hq.1;have hf':=p.wf hf;obtain⟨t,r,rfl⟩:=hf'.fin.cons;have hg:=(Gw.call hq.2).look;cases hc:aw [44] t with
  | true =>
   have e1:cX (t::r)=(true,r):=by simp[cX,hc]
   rw[e1];refine⟨fun _=>ih r (n+e.size) (acc++[e]) (by simp at hz;omega) (by simp at hz;omega) (by simp at hz;omega) (hf'.tail (aW hc)) ((hg.pos hc).tok.mono fun l iy _ hl=>hl.2.ret),fun hb=>(gb hb.symm).elim⟩
  | false =>
   have e1:cX (t::r)=(false,t::r):=by simp[cX,hc]
   rw[e1];exact⟨fun hb=>(gb hb).elim,fun _=>(hg.neg (by simp[hc])).ret.2.ret⟩
theorem tC {kk:List Ast→GL α} (hI:Rm N k ⟨h,xs,ts,n⟩) (H:Gw (.call .Cw kk) ts K E)
  (hk :∀(l:List Ast) (ax:List aj),Rm N (k+1) ⟨h,xs++l,ax,n+Ast.ak l⟩→ax.length<ts.length→Gw (kk l) ax K E→K' ⟨h,xs++l,ax,n+Ast.ak l⟩):nB N ⟨h,xs,ts,n⟩ K' E:=by
 have hn:=hI.n;have hx:=hI.xs;dsimp only at hn hx
 refine⟨by dsimp only;omega,ts.length+1,by omega,?_⟩
 refine EZ _ (ts.length+1) ts n [] (by omega) hI.len (by omega) hI.wf ((Gw.call H).mono fun(l:List Ast) ax p hq=>?_)
 have hz:Ast.ak l+2*ax.length+1≤2*ts.length:=hq.1;exact hk l ax (hI.kids (by omega) (PL.short (n:=.Cw) p) (PL.wf (n:=.Cw) p hI.wf)) (by omega) hq.2
end
end Go.Proofs.YteflkdlaoiijbaaGreatDoor
namespace Go.Proofs.YteflkdlaoiijbaaGreatDoor
open Go.RowKit
theorem aV {s s':List UInt8} {t:aj} (h:aw s t=true) (hne:s'≠s):¬ aw s' t=true:=by rw[bs h hne];decide
abbrev ql:GL Ast:=dt .Ci
abbrev acq (at_:Int) (self:List ByteArray):GL Ast:=dt (.JB at_ self)
def ca (K:Ast→List aj→Prop):St→Prop:=fun s=>s.n≤200000∧K (.mk s.h s.xs) s.ts
theorem cB {N k:Nat} {s:St} {K:Ast→List aj→Prop} (hI:Rm N k s) (h:K (.mk s.h s.xs) s.ts):ca K s:=⟨by have:=hI.n;omega,h⟩
def te:Zm:=fun p=>((cX p.2).1,p.1,(cX p.2).2)
def iz:cf:=fun s K E=>∃m,m≤100000∧uI te m s.h.num s.ts [] (fun nu xs ts=>K { s with h:={ s.h with num:=nu,names:=xs},ts:=ts}) E
section
variable {α:Type} {K:α→List aj→Prop} {E:Int→Prop} {K':St→Prop} {N k n:Nat} {h:Nd} {xs:List Ast} {ts:List aj}
theorem Rw (nu:Int) (K2:Int→List ByteArray→List aj→Prop) :∀(m:Nat) (ts:List aj) (acc:List ByteArray),ts.length<m→Wf ts→Gw (name fun n=>.call (.Zd (acc++[bK n.2.2.2])) fun(l:List ByteArray)=>.ret l) ts (K2 nu) E→uI te m nu ts acc K2 E:=by
 intro m;induction m with
 | zero=>intro ts acc h;omega
 | succ m ih =>
  intro ts acc h1 hf H;obtain⟨t,r,rfl⟩:=hf.fin.cons;refine⟨t,r,rfl,H.name.2,fun ht=>?_⟩
  have kT:=hf.tail (show t.1≠0 by rw[ht];decide)
  obtain⟨u,us,rfl⟩:=kT.fin.cons;have hg:=(Gw.call (H.name.1 ht)).look;cases hc:aw [44] u with
  | true =>
   have e1:te (nu,u::us)=(true,nu,us):=by unfold te cX;simp[hc]
   rw[e1];exact⟨fun _=>ih us (acc++[bK t.2.2.2]) (by simp at h1;omega) (kT.tail (aW hc)) ((hg.pos hc).tok.mono fun l iy _ hl=>hl.2.ret),fun hb=>(gb hb.symm).elim⟩
  | false =>
   have e1:te (nu,u::us)=(false,nu,u::us):=by unfold te cX;simp[hc]
   rw[e1];exact⟨fun hb=>(gb hb).elim,fun _=>(hg.neg (by simp[hc])).ret.2.ret⟩
theorem LV {kk:List ByteArray→GL α} (hI:Rm N k ⟨h,xs,ts,n⟩) (H:Gw (.call .Ui kk) ts K E)
  (hk :∀(l:List ByteArray) (ax:List aj),Rm N k ⟨{ h with names:=l},xs,ax,n⟩→Gw (kk l) ax K E→K' ⟨{ h with names:=l},xs,ax,n⟩):iz ⟨h,xs,ts,n⟩ K' E:=by
 have hn:=hI.n;dsimp only at hn
 refine⟨ts.length+1,by omega,Rw h.num _ (ts.length+1) ts [] (by omega) hI.wf ((Gw.call H).mono fun(l:List ByteArray) ax p hq=>?_)⟩
 have hs:=PL.short (n:=.Ui) p;exact hk l ax ⟨by have:=hI.len;dsimp only at *;omega,by dsimp only;omega,by have:=hI.xs;dsimp only at *;omega,PL.wf (n:=.Ui) p hI.wf⟩ hq.2
end
def pq:Zm:=fun p=>match p.2 with
 | []=>(false,p.1,[])
 | t::r=>if aw [44] t then (match r with
  | []=>(decide (p.1≠1),p.1,[])
  | u::r'=>if aw [46,46,46] u then (false,1,r') else (decide (p.1≠1),p.1,u::r')) else (false,p.1,t::r)
def AI:cf:=fun s K E=>∃t ts,s.ts=t::ts∧s.h.num=0∧(aw [46,46,46] t=true→K { s with h:={ s.h with num:=1},ts:=ts}) ∧
 (aw [46,46,46] t=false→s.h.names.length≤100000∧∃m,m≤100000∧uI pq m 0 s.ts [] (fun nu xs ax=>K { s with h:={ s.h with num:=nu,names:=s.h.names++xs},ts:=ax}) E)
def UC (N:Nat):List cf:=[au [[40]],dG [41] AI,au [[41]],pn N,au [iU]]
def xd (N:Nat):cf:=fun s K E=>aK (UC N) s K E
section
variable {α:Type} {K:α→List aj→Prop} {E:Int→Prop} {K':St→Prop} {N k n:Nat} {h:Nd} {xs:List Ast} {ts:List aj}
theorem Rx (l0:List ByteArray) (K2:Int→List ByteArray→List aj→Prop) :∀(m:Nat) (ts:List aj) (acc:List ByteArray),ts.length<m→Wf ts →
  Gw (name fun n=>.look fun t=>if aw [44] t then .tok fun _=>.call (.VH (l0++acc++[bK n.2.2.2])) fun(p:List ByteArray×Int)=>.ret p else .ret ((l0++acc++[bK n.2.2.2],0):List ByteArray×Int)) ts (fun p ax=>∀l,p.1=l0++l→K2 p.2 l ax) E→uI pq m 0 ts acc K2 E:=by
 intro m;induction m with
 | zero=>intro ts acc h;omega
 | succ m ih =>
  intro ts acc h1 hf H;obtain⟨t,r,rfl⟩:=hf.fin.cons;refine⟨t,r,rfl,H.name.2,fun ht=>?_⟩
  have kT:=hf.tail (show t.1≠0 by rw[ht];decide)
  obtain⟨u,us,rfl⟩:=kT.fin.cons;have hg:=(H.name.1 ht).look;cases hc:aw [44] u with
  | true =>
   have hf2:=kT.tail (aW hc);obtain⟨v,vs,rfl⟩:=hf2.fin.cons;have hg2:=(Gw.call (hg.pos hc).tok).look;cases hd:aw [46,46,46] v with
   | true =>
    have e1:pq (0,u::v::vs)=(false,1,vs):=by unfold pq;simp[hc,hd]
    rw[e1];refine⟨fun hb=>(gb hb).elim,fun _=>?_⟩
    exact(hg2.pos hd).tok.ret.2.ret (acc++[bK t.2.2.2]) (by rw[fK])
   | false =>
    have e1:pq (0,u::v::vs)=(true,0,v::vs):=by unfold pq;simp[hc,hd]
    rw[e1];refine⟨fun _=>ih (v::vs) (acc++[bK t.2.2.2]) (by simp at h1 ⊢;omega) hf2 ?_,fun hb=>(gb hb.symm).elim⟩
    have:=hg2.neg (by simp[hd])
    rw[fK] at this;exact this.mono fun p iy _ hl=>hl.2.ret
  | false =>
   have e1:pq (0,u::us)=(false,0,u::us):=by unfold pq;simp[hc]
   rw[e1];exact⟨fun hb=>(gb hb).elim,fun _=>(hg.neg (by simp[hc])).ret (acc++[bK t.2.2.2]) (by rw[fK])⟩
theorem LW {at_:Int} {self:List ByteArray} {K:Ast→List aj→Prop} (hI:Rm N k ⟨⟨11,at_,0,0,⟨#[]⟩,self,[]⟩,[],ts,n⟩) (hs:self.length≤100000) (H:Gw (acq at_ self) ts K E) :
  aK (UC N) ⟨⟨11,at_,0,0,⟨#[]⟩,self,[]⟩,[],ts,n⟩ (ca K) E:=by
 refine cw hI H fun _ r hI _ G=>?_
 obtain⟨t,us,rfl⟩:=hI.wf.fin.cons;have G:=G.look;refine⟨t,us,rfl,fun hw=>?_,fun hw=>?_⟩
 ·refine⟨t,us,rfl,fun hw=>?_,fun hw2=>?_⟩
  ·exact(show aK [pn N,au [iU]] _ _ _ from fT (hI.tok (aW hw)) (G.pos hw).tok fun b r2 hI _ G=>cw hI G fun _ r3 hI _ G=>cB hI G.ret)
  ·rw[hw] at hw2
   exact(gb hw2.symm).elim
 ·have G:=Gw.call (G.neg (by simp[hw]))
  have G1:=Gw.look G;have hn:=hI.n;dsimp only[List.length_cons] at hn
  refine⟨t,us,rfl,rfl,fun hd=>?_,fun hd=>⟨hs,us.length+2,by omega,Rx self _ (us.length+2) (t::us) [] (by simp) hI.wf ?_⟩⟩
  ·have G2:=(G1.pos hd).tok.ret.2
   exact cw (hI.tok (aW hd)) G2 fun _ r2 hI _ G=>fT hI G fun b r3 hI _ G=>cw hI G fun _ r4 hI _ G=>cB hI G.ret
  ·have G2:=G1.neg (by simp[hd])
   rw[jX];refine⟨fun p ax hp l hl=>?_,fun l hl=>G2.2 l hl⟩
   have hq:=G2.1 p ax hp;have hpp:PL (dt (.VH self)) (t::us) (.ok (p,ax)):=.look (by rw[af (by simp[hd])];exact hp)
   have hz:=PL.short hpp;have oz:Rm N (k+2) ⟨⟨11,at_,0,p.2,⟨#[]⟩,self++l,[]⟩,[],ax,n⟩:=⟨by have:=hI.len;dsimp only at *;omega,by dsimp only[List.length_cons] at *;omega,by have:=hI.xs;dsimp only[List.length_cons] at *;omega,hpp.wf hI.wf⟩
   refine cw oz hq.2 fun _ r2 hI _ G=>fT hI G fun b r3 hI _ G=>cw hI G fun _ r4 hI _ G=>cB hI ?_
   have:=G.ret;rw[hl] at this;exact this
end
section
variable {K:Ast→List aj→Prop} {E:Int→Prop} {K':St→Prop} {N k n:Nat} {h:Nd} {xs:List Ast} {t:aj} {ts:List aj}
theorem Ry (hI:Rm (N+1) k ⟨dA 32 t.2.1,[],t::ts,n⟩) (H:Gw ql (t::ts) K E) (hw:aw [58,58] t=true):aK [aD,cQ,au [[58,58]]] ⟨dA 32 t.2.1,[],t::ts,n⟩ (ca K) E :=
 cR hI (aW hw) fun hI=>yE hI ((Gw.look H).pos hw).tok fun _ _ hI _ G=>cw hI G fun _ _ hI _ G=>cB hI G.ret
theorem Rz (hI:Rm (N+1) k ⟨dA 30 t.2.1,[],t::ts,n⟩) (H:Gw ql (t::ts) K E) (hw:aw oY t=true):aK [aD] ⟨dA 30 t.2.1,[],t::ts,n⟩ (ca K) E :=
 cR hI (aW hw) fun hI=>cB hI (((Gw.look H).neg (aV hw (by decide))).pos hw).tok.ret
theorem Xd (hI:Rm (N+1) k ⟨dA 31 t.2.1,[],t::ts,n⟩) (H:Gw ql (t::ts) K E) (hw:aw sC t=true):aK [aD,cQ] ⟨dA 31 t.2.1,[],t::ts,n⟩ (ca K) E :=
 cR hI (aW hw) fun hI=>yE hI ((((Gw.look H).neg (aV hw (by decide))).neg (aV hw (by decide))).pos hw).tok fun _ _ hI _ G=>cB hI G.ret
theorem acr (hI:Rm (N+1) k ⟨dA 22 t.2.1,[],t::ts,n⟩) (H:Gw ql (t::ts) K E) (hw:aw Ct t=true):aK [aD,pn N,au [iU]] ⟨dA 22 t.2.1,[],t::ts,n⟩ (ca K) E :=
 cR hI (aW hw) fun hI=>fT hI (((((Gw.look H).neg (aV hw (by decide))).neg (aV hw (by decide))).neg (aV hw (by decide))).pos hw).tok fun _ _ hI _ G=>cw hI G fun _ _ hI _ G=>cB hI G.ret
theorem RC (hI:Rm (N+1) k ⟨dA 23 t.2.1,[],t::ts,n⟩) (H:Gw ql (t::ts) K E) (hw:aw oZ t=true):aK [aD,oy N,au [Ct],pn N,au [iU]] ⟨dA 23 t.2.1,[],t::ts,n⟩ (ca K) E :=
 cR hI (aW hw) fun hI=>fS hI ((((((Gw.look H).neg (aV hw (by decide))).neg (aV hw (by decide))).neg (aV hw (by decide))).neg (aV hw (by decide))).pos hw).tok fun _ _ hI _ G=>cw hI G fun _ _ hI _ G =>
  fT hI G fun _ _ hI _ G=>cw hI G fun _ _ hI _ G=>cB hI G.ret
theorem LX (hI:Rm (N+1) k ⟨dA 24 t.2.1,[],t::ts,n⟩) (H:Gw ql (t::ts) K E) (hw:aw lB t=true):aK [aD,pn N,au [oX],oy N] ⟨dA 24 t.2.1,[],t::ts,n⟩ (ca K) E :=
 cR hI (aW hw) fun hI=>fT hI (((((((Gw.look H).neg (aV hw (by decide))).neg (aV hw (by decide))).neg (aV hw (by decide))).neg (aV hw (by decide))).neg (aV hw (by decide))).pos hw).tok fun _ _ hI _ G=>cw hI G fun _ _ hI _ G =>
  fS hI G fun _ _ hI _ G=>cB hI G.ret
theorem Xe {K2:List Ast→List aj→Prop} :∀(m:Nat) (ts:List aj) (xs:List Ast) (n k:Nat),ts.length<m→Rm N (k+1) ⟨h,xs,ts,n⟩→Gw (dt (.els xs):GL (List Ast)) ts K2 E→(∀xs' ax n',Rm N 0 ⟨h,xs',ax,n'⟩→K2 xs' ax→K' ⟨h,xs',ax,n'⟩) →
  qk jZ [oy N,au [zO],pn N] m ⟨h,xs,ts,n⟩ (fun s'=>aK [bD sB [pn N],au [iU]] s' K' E) E:=by
 intro m;induction m with
 | zero=>intro ts xs n k h;omega
 | succ m ih =>
  intro ts xs n k h1 hI H hk;obtain⟨t,r,rfl⟩:=hI.wf.fin.cons;have G:=Gw.look H;refine⟨t,r,rfl,fun hw=>?_,fun hw=>?_⟩
  ·refine fS (hI.tok (aW hw)) (G.pos hw).tok fun e fI hI hl G=>cw hI G fun _ r2 hI hl2 G=>fT hI G fun b Cl hI Cm G=>?_
   have G3:=(Gw.call G).mono (K':=K2) fun l ax _ hl=>hl.2.ret
   refine ih Cl _ _ _ (by simp at h1;omega) hI ?_ hk
   have e1:xs++[e,b]=xs++[e]++[b]:=by simp
   rw[←e1];exact G3
  ·have G:=G.neg (by simp[hw])
   exact⟨t,r,rfl,fun hw2=>fT (hI.tok (aW hw2)) (G.pos hw2).tok fun b fI hI _ G=>cw hI G fun _ r2 hI _ G=>hk _ _ _ (hI.less (bB _)) G.ret,fun hw2=>cw hI (G.neg (by simp[hw2])) fun _ r2 hI _ G=>hk _ _ _ (hI.less (bB _)) G.ret⟩
theorem acs (hI:Rm (N+1) k ⟨dA 25 t.2.1,[],t::ts,n⟩) (H:Gw ql (t::ts) K E) (hw:aw VG t=true):aK [aD,oy N,au [zO],pn N,rq jZ [oy N,au [zO],pn N],bD sB [pn N],au [iU]] ⟨dA 25 t.2.1,[],t::ts,n⟩ (ca K) E :=
 cR hI (aW hw) fun hI=>fS hI ((((((((Gw.look H).neg (aV hw (by decide))).neg (aV hw (by decide))).neg (aV hw (by decide))).neg (aV hw (by decide))).neg (aV hw (by decide))).neg (aV hw (by decide))).pos hw).tok fun e _ hI _ G=>cw hI G fun _ _ hI _ G =>
  fT hI G fun b r hI _ G=>⟨r.length+1,Xe (r.length+1) r [e,b] _ _ (dC _) hI (Gw.call G) fun xs' ax n' hI hq=>cB hI hq.2.ret⟩
def LY (N:Nat):cf:=fun s K E=>aK [au [wIn],nB N,eu] { s with h:={ s.h with kind:=27}} K E
def RD (N:Nat):cf:=fun s K E=>(s.h.names.length=1→∃t ts,s.ts=t::ts∧(aw [61] t=true→aK [oy N,au [[44]],oy N,bD [44] [oy N]] { s with h:={ s.h with kind:=26},ts:=ts} K E)∧(aw [61] t=false→LY N s K E))∧(s.h.names.length≠1→LY N s K E)
theorem E0 {at_:Int} {ns:List ByteArray} (hI:Rm N k ⟨⟨0,at_,0,0,⟨#[]⟩,ns,[]⟩,[],ts,n⟩)
  (H:Gw (want wIn fun _=>.call .Cw fun(l:List Ast)=>want Ct fun _=>.call .blk fun(d:Ast)=>want iU fun _=>.ret (zP 27 at_ (l.length:Int) ns (l++[d]))) ts K E) :
  LY N ⟨⟨0,at_,0,0,⟨#[]⟩,ns,[]⟩,[],ts,n⟩ (fun s=>aK [au [Ct],pn N,au [iU]] s (ca K) E) E:=by
 have oz:Rm N k ⟨⟨27,at_,0,0,⟨#[]⟩,ns,[]⟩,[],ts,n⟩:=⟨hI.len,hI.n,hI.xs,hI.wf⟩;refine cw oz H fun _ r hI _ G=>tC hI G fun l r2 hI _ G=>?_
 have RE:Rm N _ ⟨⟨27,at_,0,(l.length:Int),⟨#[]⟩,ns,[]⟩,[]++l,r2,_⟩:=⟨hI.len,hI.n,hI.xs,hI.wf⟩;exact cw RE G fun _ r3 hI _ G=>fT hI G fun d r4 hI _ G=>cw hI G fun _ r5 hI _ G=>cB hI G.ret
theorem aax (hI:Rm (N+1) k ⟨dA 0 t.2.1,[],t::ts,n⟩) (H:Gw ql (t::ts) K E) (hw:aw Cu t=true):aK [aD,iz,RD N,au [Ct],pn N,au [iU]] ⟨dA 0 t.2.1,[],t::ts,n⟩ (ca K) E:=by
 refine cR hI (aW hw) fun hI=>?_
 have G:=Gw.call (((((((((Gw.look H).neg (aV hw (by decide))).neg (aV hw (by decide))).neg (aV hw (by decide))).neg (aV hw (by decide))).neg (aV hw (by decide))).neg (aV hw (by decide))).neg (aV hw (by decide))).pos hw).tok
 have G1:Gw (dt (.ZS t.2.1):GL Ast) ts K E:=G.mono fun l ax _ hl=>hl.2.ret
 refine LV hI G1 fun ns r hI G=>?_
 obtain⟨u,us,rfl⟩:=hI.wf.fin.cons;have G:=G.look;refine⟨fun hl=>⟨u,us,rfl,fun hw=>?_,fun hw=>?_⟩,fun hl=>?_⟩
 ·have oz:Rm N _ ⟨⟨26,t.2.1,0,0,⟨#[]⟩,ns,[]⟩,[],us,n⟩:=hI.tok (aW hw)
  refine fS oz (G.pos ⟨hw,hl⟩).tok fun a r2 hI _ G=>cw hI G fun _ r3 hI _ G=>fS hI G fun b r4 hI _ G=>?_
  obtain⟨v,vs,rfl⟩:=hI.wf.fin.cons;have G:=G.look;refine⟨v,vs,rfl,fun hw=>?_,fun hw=>?_⟩
  ·exact fS (hI.tok (aW hw)) (G.pos hw).tok fun c r5 hI _ G=>cw hI G fun _ r6 hI _ G=>fT hI G fun d r7 hI _ G=>cw hI G fun _ r8 hI _ G=>cB hI G.ret
  ·exact cw hI (G.neg (by simp[hw])) fun _ r6 hI _ G=>fT hI G fun d r7 hI _ G=>cw hI G fun _ r8 hI _ G=>cB hI G.ret
 ·exact E0 hI (G.neg (by simp[hw]))
 ·exact E0 hI (G.neg (by simp[hl]))
end
end Go.Proofs.YteflkdlaoiijbaaGreatDoor
namespace Go.Proofs.YteflkdlaoiijbaaGreatDoor
open Go.RowKit
abbrev Df:GL Ast:=dt .Gk
def tf:cf:=dz (dU (mu 5) [cQ])
section
variable {α:Type} {K:α→List aj→Prop} {E:Int→Prop} {K':St→Prop} {N k n:Nat} {h:Nd} {xs:List Ast} {ts:List aj}
theorem Dg {kk:aj→GL α} (hI:Rm N k ⟨h,xs,ts,n⟩) (H:Gw (name kk) ts K E)
  (hk :∀(t:aj) (r:List aj),Rm N (k+1) ⟨h,xs++[mh 5 t.2.1 (bK t.2.2.2) []],r,n+Ast.ak [mh 5 t.2.1 (bK t.2.2.2) []]⟩→r.length<ts.length→Gw (kk t) r K E→K' ⟨h,xs++[mh 5 t.2.1 (bK t.2.2.2) []],r,n+Ast.ak [mh 5 t.2.1 (bK t.2.2.2) []]⟩):tf ⟨h,xs,ts,n⟩ K' E:=by
 obtain⟨t,r,iW⟩:=hI.cons;dsimp only at iW
 subst iW;have hn:=hI.n;have hx:=hI.xs;dsimp only[List.length_cons] at hn hx
 refine jF (by dsimp only;omega) ⟨t,r,t.2.1,rfl,.inl ⟨rfl,rfl⟩,⟨t,r,rfl,fun ht=>⟨by dsimp only;omega,nC.mk (hk t r ?_ (by simp) (H.name.1 ht))⟩,H.name.2⟩⟩
 have hz:Ast.ak [mh 5 t.2.1 (bK t.2.2.2) []]=1:=by rw[uJ,kW,cD]
 have hl:=hI.len;dsimp only[List.length_cons] at hl
 exact⟨by dsimp only;omega,by rw[hz];dsimp only;omega,by simp;omega,hI.wf.tail (by rw[ht];decide)⟩
theorem E3 {kk:Ast→GL α} {at_:Int} {self:List ByteArray} (hI:Rm N k ⟨h,xs,ts,n⟩) (hat:at_≠0) (hs:self.length≤100000) (H:Gw (.call (.JB at_ self) kk) ts K E)
  (hk :∀(b:Ast) (ax:List aj),Rm N k ⟨h,xs++[b],ax,n+Ast.ak [b]⟩→ax.length<ts.length→Gw (kk b) ax K E→K' ⟨h,xs++[b],ax,n+Ast.ak [b]⟩):dz (dU ⟨11,at_,0,0,⟨#[]⟩,self,[]⟩ [xd N]) ⟨h,xs,ts,n⟩ K' E:=by
 obtain⟨t,r,iW⟩:=hI.cons;dsimp only at iW
 subst iW;have hn:=hI.n;have hx:=hI.xs;dsimp only at hn hx
 refine jF (by dsimp only;omega) ⟨t,r,at_,rfl,.inr ⟨hat,rfl⟩,?_⟩
 refine LW (k:=k) ⟨hI.len,hn,by dsimp only[List.length_nil];omega,hI.wf⟩ hs ((Gw.call H).mono fun(b:Ast) ax p hq=>nC.mk (hk b ax (hI.kids (by rw[uJ];have hz:b.size+2*ax.length≤2*(t::r).length:=hq.1;omega) (PL.short p) (p.wf hI.wf)) ?_ hq.2))
 have hz:b.size+2*ax.length≤2*(t::r).length:=hq.1;have:=size_pos b;omega
end
def xe:Nat→Ast→List aj→Nat→(Ast→List ByteArray→List aj→Prop)→(Int→Prop)→Prop
 | 0,_,_,_,_,_=>False
 | k+1,a,ts,n,K,E=>∃t r,ts=t::r∧(aw [46] t=true→aK [aD,tf] ⟨dA 8 t.2.1,[a],ts,n+a.size⟩ (ca fun a' ax=>xe k a' ax n K E) E) ∧
  (aw [46] t=false→(aw [58] t=true→aK [aD,tf] ⟨dA 8 t.2.1,[a],ts,n+a.size⟩ (ca fun a' ax=>K a' [bK wE] ax) E)∧(aw [58] t=false→K a [] ts))
def Hk (N:Nat):cf:=fun s K E=>s.xs=[]∧∃t ts,s.ts=t::ts∧t.1≠0∧dU (mu 7) [cQ] ts s.n (fun a fI=>∃m,xe m a fI s.n (fun a2 self iy =>
 aK [eu,dz (dU ⟨11,t.2.1,0,0,⟨#[]⟩,self,[]⟩ [xd N])] ⟨s.h,[a2],iy,s.n+Ast.ak [a2]⟩ K E) E) E
def Hl (N:Nat):cf:=fun s K E=>∃t ts,s.ts=t::ts∧(aw bq t=false→aK [iz,bD [61] [nB N]] { s with h:={ s.h with kind:=19}} K E) ∧
 (aw bq t=true→∃u us,ts=u::us∧(u.1≠1→E u.2.1)∧(u.1=1→dz (dU ⟨11,t.2.1,0,0,⟨#[]⟩,[],[]⟩ [xd N]) { s with h:={ s.h with kind:=28,names:=[bK u.2.2.2]},ts:=us} K E))
def isVar (a:Ast):Prop:=a.hd.kind=7∨a.hd.kind=8
def UD (N:Nat):iT:=fun ts n K E=>sL N Df ts n (fun a fI=>(isVar a→K a fI)∧(¬ isVar a→∃t r,fI=t::r∧E t.2.1)) E
def UE (N:Nat):cf:=lM (UD N) cX
def Xf (M N:Nat):cf:=fun s K E=>s.xs=[]∧sL M Df s.ts s.n (fun a fI=>(a.hd.kind=9∨a.hd.kind=10→K ⟨{ s.h with kind:=21},[a],fI,s.n+Ast.ak [a]⟩) ∧
 (isVar a→aK [bD [44] [UE N],eu,au [[61]],nB N] ⟨{ s.h with kind:=20},[a],fI,s.n+Ast.ak [a]⟩ K E)∧(¬ (a.hd.kind=9∨a.hd.kind=10)→¬ isVar a→∃t r,fI=t::r∧E t.2.1)) E
section
variable {K:Ast→List aj→Prop} {E:Int→Prop} {K':St→Prop} {N k n:Nat} {h:Nd} {xs:List Ast} {t:aj} {ts:List aj}
theorem Xg (at_:Int) (n:Nat) (C:Ast→List ByteArray→List aj→Prop) (hC :∀a self ts k,Rm N k ⟨dA 20 at_,[a],ts,n+Ast.ak [a]⟩→self.length≤1→Gw (.call (.JB at_ self) fun(f:Ast)=>.ret (JA 20 at_ 1 [a,f])) ts K E→C a self ts) :∀(m:Nat) (ts:List aj) (a:Ast) (k:Nat),ts.length<m→Rm N k ⟨dA 20 at_,[a],ts,n+Ast.ak [a]⟩→Gw (dt (.Zc at_ a):GL Ast) ts K E→xe m a ts n C E:=by
 intro m;induction m with
 | zero=>intro ts a k h;omega
 | succ m ih =>
  intro ts a k h1 hI H;obtain⟨t,r,rfl⟩:=hI.wf.fin.cons;have G:=Gw.look H;have step :∀(j:Nat) (x y:Ast) (ax:List aj),Rm N (j+1) ⟨dA 8 t.2.1,[a]++[x],ax,n+a.size+Ast.ak [x]⟩→y.size=Ast.ak ([a]++[x])+1→Rm N j ⟨dA 20 at_,[y],ax,n+Ast.ak [y]⟩:=fun j x y ax hI hy=>by
   have h1:=hI.n;have h2:=hI.xs;rw[fj,uJ,uJ] at hy;rw[uJ] at h1;exact⟨hI.len,by rw[uJ];dsimp only at *;omega,by simp at h2 ⊢;omega,hI.wf⟩
  have Zo:Rm N k ⟨dA 8 t.2.1,[a],t::r,n+a.size⟩:=⟨hI.len,by have:=hI.n;rw[uJ] at this;exact this,hI.xs,hI.wf⟩
  have sk :∀{K3:St→Prop},t.1≠0→(Rm N (k+2) ⟨dA 8 t.2.1,[a],r,n+a.size⟩→K3 ⟨dA 8 t.2.1,[a],r,n+a.size⟩)→aD ⟨dA 8 t.2.1,[a],t::r,n+a.size⟩ K3 E:=fun ht hk=>⟨t,r,rfl,ht,hk (Zo.tok ht)⟩
  refine⟨t,r,rfl,fun hw=>?_,fun hw=>⟨fun hw2=>?_,fun hw2=>?_⟩⟩
  ·refine sk (aW hw) fun hI=>Dg hI (G.pos hw).tok fun u r2 hI hl G=>cB hI ?_
   have G2:=(Gw.call G).mono (K':=K) fun l ax _ hl=>hl.2.ret
   exact ih r2 _ (k+2) (by simp at h1;omega) (step _ _ _ _ hI (by rw[Ast.size])) G2
  ·refine sk (aW hw2) fun hI=>Dg hI ((G.neg (by simp[hw])).pos hw2).tok fun u r2 hI hl G=>cB hI ?_
   exact hC _ _ _ (k+2) (step _ _ _ _ hI (by rw[Ast.size])) (by simp) G
  ·exact hC _ _ _ k hI (by simp) ((G.neg (by simp[hw])).neg (by simp[hw2]))
theorem Dh (hI:Rm (N+1) k ⟨dA 20 t.2.1,[],t::ts,n⟩) (H:Gw ql (t::ts) K E) (hw:aw bq t=true):aK [Hk N] ⟨dA 20 t.2.1,[],t::ts,n⟩ (ca K) E:=by
 have G:=Gw.call ((((((((((Gw.look H).neg (aV hw (by decide))).neg (aV hw (by decide))).neg (aV hw (by decide))).neg (aV hw (by decide))).neg (aV hw (by decide))).neg (aV hw (by decide))).neg (aV hw (by decide))).neg (aV hw (by decide))).pos hw).tok
 have G1:Gw (dt (.ZT t.2.1):GL Ast) ts K E:=G.mono fun l ax _ hl=>hl.2.ret
 have hat:t.2.1≠0:=(hI.wf.zu t (bT ..)).1;have oz:=hI.Xc (h':=dA 20 t.2.1) (aW hw);obtain⟨u,us,rfl⟩:=oz.wf.fin.cons;refine⟨rfl,t,u::us,rfl,aW hw,u,us,u.2.1,rfl,.inl ⟨rfl,rfl⟩,⟨u,us,rfl,fun hu=>?_,G1.name.2⟩⟩
 have hI:=oz.tok (h':=dA 20 t.2.1) (show u.1≠0 by rw[hu];decide)
 refine⟨by have:=hI.n;dsimp only at *;omega,us.length+1,?_⟩
 have G2:=(Gw.call (G1.name.1 hu)).mono (K':=K) fun l ax _ hl=>hl.2.ret
 refine Xg (N:=N) t.2.1 n _ (fun a self Cl k hI hs G=>?_) (us.length+1) us _ (k+3) (dC _) ?_ G2
 ·have RE:Rm N k ⟨⟨20,t.2.1,0,1,⟨#[]⟩,[],[]⟩,[a],Cl,n+Ast.ak [a]⟩:=⟨hI.len,hI.n,hI.xs,hI.wf⟩
  exact E3 RE hat (by omega) G fun b r4 hI _ G=>cB hI G.ret
 ·have h1:=hI.n
  have h2:=hI.xs;refine⟨hI.len,?_,by simp at h2 ⊢;omega,hI.wf⟩
  rw[uJ];show n+Ast.size (mh 7 u.2.1 (bK u.2.2.2) [])+_+_≤_
  rw[kW,cD];dsimp only at *
  omega
theorem RF (hI:Rm (N+1) k ⟨dA 0 t.2.1,[],t::ts,n⟩) (H:Gw ql (t::ts) K E) (hw:aw lC t=true):aK [aD,Hl N] ⟨dA 0 t.2.1,[],t::ts,n⟩ (ca K) E:=by
 refine cR hI (aW hw) fun hI=>?_
 have G:=Gw.call (((((((((((Gw.look H).neg (aV hw (by decide))).neg (aV hw (by decide))).neg (aV hw (by decide))).neg (aV hw (by decide))).neg (aV hw (by decide))).neg (aV hw (by decide))).neg (aV hw (by decide))).neg (aV hw (by decide))).neg (aV hw (by decide))).pos hw).tok
 have G1:Gw (dt (.loc t.2.1):GL Ast) ts K E:=G.mono fun l ax _ hl=>hl.2.ret
 obtain⟨u,us,rfl⟩:=hI.wf.fin.cons;have G:=Gw.look G1;refine⟨u,us,rfl,fun hw=>?_,fun hw=>?_⟩
 ·have oz:Rm N (k+2) ⟨dA 19 t.2.1,[],u::us,n⟩:=⟨hI.len,hI.n,hI.xs,hI.wf⟩
  refine LV oz (G.neg (by simp[hw])) fun ns r hI G=>?_
  obtain⟨v,vs,rfl⟩:=hI.wf.fin.cons;have G:=G.look;exact⟨v,vs,rfl,fun hw=>tC (hI.tok (aW hw)) (G.pos hw).tok fun l r2 hI _ G=>cB hI G.ret,fun hw=>cB hI (G.neg (by simp[hw])).ret⟩
 ·have hat:u.2.1≠0:=(hI.wf.zu u (bT ..)).1
  have oz:=hI.tok (h':=dA 28 t.2.1) (aW hw);obtain⟨v,vs,rfl⟩:=oz.wf.fin.cons;have G:=(G.pos hw).tok;refine⟨v,vs,rfl,G.name.2,fun hv=>?_⟩
  have RE:Rm N (k+6) ⟨⟨28,t.2.1,0,0,⟨#[]⟩,[bK v.2.2.2],[]⟩,[],vs,n⟩:=oz.tok (by rw[hv];decide)
  exact E3 RE hat (by simp) (G.name.1 hv) fun b r hI _ G=>cB hI G.ret
theorem LZ (l:List Ast) (x d:Ast):(l++[x]).getLastD d=x:=by simp
theorem RG (at_:Int) (l0:List Ast) (K2:Ast→List aj→Prop) (B:Nat) (C:List Ast→List aj→Prop) (hC :∀xs ax,Ast.ak xs+2*ax.length≤B→Wf ax→ax.length<N→Gw (want [61] fun _=>.call .Cw fun(m:List Ast)=>.ret (JA 20 at_ ((l0++xs).length:Int) (l0++xs++m))) ax K2 E→C xs ax) :
  ∀(m:Nat) (ts:List aj) (n:Nat) (acc:List Ast),ts.length<m→ts.length<N→n+2*ts.length≤60000→Ast.ak acc+2*ts.length≤B→Wf ts→Gw (.call .Gk fun(x:Ast)=>.call (.Zf at_ (l0++acc++[x])) fun(y:Ast)=>.ret y) ts K2 E→sK (UD N) cX m ts n acc C E:=by
 intro m;induction m with
 | zero=>intro ts n acc h;omega
 | succ m ih =>
  intro ts n acc h1 h2 h3 hB hf H;refine⟨h2,h3,hf.zu,(Gw.call H).mono fun(e:Ast) ax p hq=>?_⟩
  have hz:e.size+2*ax.length+1≤2*ts.length:=hq.1;have hf':=p.wf hf;obtain⟨t,r,rfl⟩:=hf'.fin.cons;have hg:=(Gw.call hq.2).look;rw[LZ] at hg;have hsz:Ast.ak (acc++[e])+2*(t::r).length≤B:=by rw[fj,uJ];omega
  refine⟨fun hv=>?_,fun hv=>⟨t,r,rfl,(hg.neg hv).bad⟩⟩
  have hg:=hg.pos hv;cases hc:aw [44] t with
  | true =>
   have e1:cX (t::r)=(true,r):=by simp[cX,hc]
   show(_→_)∧(_→_)
   rw[e1];refine⟨fun _=>ih r (n+e.size) (acc++[e]) (by simp at hz;omega) (by simp at hz;omega) (by simp at hz;omega) (by simp at hsz ⊢;omega) (hf'.tail (aW hc)) ?_,fun hb=>(gb hb.symm).elim⟩
   rw[←fK];exact(hg.pos hc).tok.mono fun y Cl _ hy=>hy.2.ret
  | false =>
   have e1:cX (t::r)=(false,t::r):=by simp[cX,hc]
   show(_→_)∧(_→_)
   rw[e1];refine⟨fun hb=>(gb hb).elim,fun _=>hC (acc++[e]) (t::r) hsz hf' (by omega) ?_⟩
   have G:=hg.neg (by simp[hc])
   rw[←fK];exact G.mono fun y Cl _ hy=>hy.2.ret
structure L0 (t:aj):Prop where
 a:aw [58,58] t=false
 b:aw oY t=false
 c:aw sC t=false
 d:aw Ct t=false
 e:aw oZ t=false
 f:aw lB t=false
 g:aw VG t=false
 h:aw Cu t=false
 i:aw bq t=false
 j:aw lC t=false
theorem RH (hI:Rm (N+1) k ⟨dA 0 t.2.1,[],t::ts,n⟩) (H:Gw ql (t::ts) K E) (hw:L0 t):aK [Xf (N+1) N] ⟨dA 0 t.2.1,[],t::ts,n⟩ (ca K) E:=by
 have G:=((((((((((Gw.look H).neg (by simp[hw.a])).neg (by simp[hw.b])).neg (by simp[hw.c])).neg (by simp[hw.d])).neg (by simp[hw.e])).neg (by simp[hw.f])).neg (by simp[hw.g])).neg (by simp[hw.h])).neg (by simp[hw.i])).neg (by simp[hw.j])
 have hn:=hI.n;have hx:=hI.xs;have hl:=hI.len;dsimp only at hn hx hl
 refine⟨rfl,hI.len,by dsimp only;omega,hI.wf.zu,(Gw.call G).mono fun(x:Ast) ax p hq=>?_⟩
 have hz:x.size+2*ax.length+1≤2*(t::ts).length:=hq.1;have yF:=p.wf hI.wf;have hlt:ax.length<N:=by have:=size_pos x;simp only[List.length_cons] at *;omega
 have oz :∀h',Rm N 0 ⟨h',[x],ax,n+Ast.ak [x]⟩:=fun h'=>⟨hlt,by rw[uJ];dsimp only;omega,by have:=size_pos x;simp only[List.length_cons,List.length_nil] at *;omega,yF⟩
 refine⟨fun hk=>cB (oz _) (hq.2.pos hk).ret,fun hv=>?_,fun h1 h2=>?_⟩
 ·have h9:¬ (x.hd.kind=9∨x.hd.kind=10):=by unfold isVar at hv;omega
  have G:=(Gw.call (hq.2.neg h9)).mono (K':=K) fun y Cl _ hy=>hy.2.ret
  obtain⟨u,us,rfl⟩:=yF.fin.cons;have G:=(Gw.look G).pos hv;have hend :∀(ys:List Ast) (Cl:List aj),Rm N 0 ⟨dA 20 t.2.1,[x]++ys,Cl,n+Ast.ak ([x]++ys)⟩→Gw (want [61] fun _=>.call .Cw fun(m:List Ast)=>.ret (JA 20 t.2.1 (([x]++ys).length:Int) ([x]++ys++m))) Cl K E→aK [eu,au [[61]],nB N] ⟨dA 20 t.2.1,[x]++ys,Cl,n+Ast.ak ([x]++ys)⟩ (ca K) E:=fun ys Cl hI G=>by
   have RE:Rm N 0 ⟨⟨20,t.2.1,0,(([x]++ys).length:Int),⟨#[]⟩,[],[]⟩,[x]++ys,Cl,n+Ast.ak ([x]++ys)⟩:=⟨hI.len,hI.n,hI.xs,hI.wf⟩;exact cw RE G fun _ r2 hI _ G=>tC hI G fun m r3 hI _ G=>cB hI G.ret
  refine⟨u,us,rfl,fun hc=>?_,fun hc=>?_⟩
  ·have Hm:=(oz (dA 20 t.2.1)).tok (h':=dA 20 t.2.1) (aW hc)
   have htn:=Hm.n;have htx:=Hm.xs;dsimp only at htn htx
   refine⟨by dsimp only;omega,us.length+1,by omega,?_⟩
   refine RG t.2.1 [x] K (2*us.length) _ (fun ys Cl hs hw3 Cm G=>?_) (us.length+1) us _ [] (dC _) Hm.len (by dsimp only;omega) (by rw[cD];omega) Hm.wf ((G.pos hc).tok)
   have:=hend ys Cl ⟨Cm,?_,?_,hw3⟩ G
   ·rw[fj,←sw] at this
    exact this
   ·rw[fj];dsimp only;omega
   ·have:=uK ys
    simp only[cI] at *;omega
  ·have:=hend [] (u::us) (by rw[jX];exact oz _) (by rw[jX];exact G.neg (by simp[hc]))
   rw[jX] at this;exact this
 ·have h9:=hq.2.neg h1
  obtain⟨u,us,rfl⟩:=yF.fin.cons;have G:=(Gw.call h9).look;exact⟨u,us,rfl,(G.neg h2).bad⟩
end
end Go.Proofs.YteflkdlaoiijbaaGreatDoor
namespace Go.Proofs.YteflkdlaoiijbaaGreatDoor
open Go.RowKit
def pt (f:FuncId) (wp:iT):Prop:=∀(b:Nat) (O:Nat→Prop) (ts:List aj) (T:List Nd) (K:Ast→List aj→Prop) (E:Int→Prop) (W:World),PS W b O ts T→wp ts T.length K E→Calls Tryz.prog f #[.pointer (some ⟨b,0,none⟩)] W (aG b O T (RK K E) W)
theorem pt.one {f:FuncId} {wp:iT} (h:pt f wp) (hf:Enters Tryz.prog f) (W:World) (b:Nat) (O:Nat→Prop):One W b O (aZ f b) wp:=by
 intro W1 O1 T ts K E _ _ hp hk;exact⟨f,_,_,rfl,hf,h b O1 ts T K E W1 hp hk⟩
def eB (f:FuncId) (wp:cf):Prop:=∀(b n:Nat) (O:Nat→Prop) (T0:List Nd) (s:St) (K:St→Prop) (E:Int→Prop) (W:World),Real W b n O T0 s→wp s K E→Calls Tryz.prog f #[.pointer (some ⟨b,0,none⟩),.pointer (some ⟨n,0,none⟩)] W (bH b n O T0 K E W)
theorem eB.part {f:FuncId} {wp:cf} (h:eB f wp) (hf:Enters Tryz.prog f) (W:World) (b:Nat) (O:Nat→Prop):eJ W b O (aZ f b) wp:=by
 intro W1 O1 T0 s n K E _ _ hr hk;exact⟨f,_,_,rfl,hf,h b n O1 T0 s K E W1 hr hk⟩
theorem Real.lt {W:World} {b n:Nat} {O:Nat→Prop} {T0:List Nd} {s:St} (h:Real W b n O T0 s) :∀k,O k→k<W.heap.size:=fun k hk=>(h.own k hk).2
theorem eJ.call {W W1:World} {b n:Nat} {O:Nat→Prop} {T0:List Nd} {s:St} {K:St→Prop} {E:Int→Prop} {v:Value} {wp:cf} (h:eJ W1 b O v wp) (hr:Real W b n O T0 s) (hb:Below W.heap.size W W1) (hk:wp s K E) :
  ∃f first cap,v=.func (.func f) first cap∧Enters Tryz.prog f∧Calls Tryz.prog f (first.push (.pointer (some ⟨n,0,none⟩))++cap) W1 (bH b n O T0 K E W):=by
 obtain⟨f,first,cap,e,h1,h2⟩:=h W1 O T0 s n K E (ay.refl _ _) (Ext.refl _ _) (hr.below hb) hk
 refine⟨f,first,cap,e,h1,?_⟩
 rw[show first++#[Value.pointer (some ⟨n,0,none⟩)]=first.push (.pointer (some ⟨n,0,none⟩)) from by simp] at h2
 exact h2.mono fun e w' hp=>hp.after (ay.ae hb)
theorem L7 {wp:iT} (hE:pt 142 wp):eB 91 (dz wp):=by
 intro b n O T0 s K E w hr hk;have HC:=aa (AG b O 142 _ _ wp w (hE.one (enters_of Tryz.func142 (by kernel_rfl) rfl) w b O) hr.lt)
 have HR:=aa hr;have HK:=aa hk;clear hr hk;go_enter Tryz.func91,Tryz.ntmps91
 go_wp2_with fail
 refine HC.out.mono ?_;rintro e w1 ⟨v,rfl,b1,h2⟩;obtain⟨f,first,cap,rfl,ph,bz⟩:=h2.1.call HR.out b1 HK.out
 have ed:=aa bz;clear h2 bz b1;unfold Enters at ph;go_wp2_with fail
 refine ed.out.mono ?_;intro e w2 h3;obtain⟨v,rfl⟩:=h3.ret;have H3:=aa h3;clear h3;go_wp2_with fail
 go_ret
 exact H3.out
theorem uL (W:World) (b:Nat) (O:Nat→Prop):yy W b O (aZ 143 b) cX:=by
 intro W1 O1 T ts _ _ hp;obtain⟨t,r,rfl⟩:=hp.fin.cons;refine⟨143,_,_,rfl,enters_of Tryz.func143 (by kernel_rfl) rfl,?_⟩
 cases hc:aw [44] t with
 | true =>
  have e1:cX (t::r)=(true,r):=by simp[cX,hc]
  rw[e1];exact j6 b O1 t r T W1 hp hc
 | false =>
  have e1:cX (t::r)=(false,t::r):=by simp[cX,hc]
  rw[e1];exact lL b O1 t r T W1 hp hc
theorem L9 {wp:iT} (hE:pt 142 wp):eB 84 (lM wp cX):=by
 intro b n O T0 s K E w hr hk;have HC:=aa (yD b O 142 143 _ _ _ _ wp cX w (hE.one (enters_of Tryz.func142 (by kernel_rfl) rfl) w b O) (uL w b O) hr.lt)
 have HR:=aa hr;have HK:=aa hk;clear hr hk;go_enter Tryz.func84,Tryz.ntmps84
 go_wp2_with fail
 refine HC.out.mono ?_;rintro e w1 ⟨v,rfl,b1,h2⟩;obtain⟨f,first,cap,rfl,ph,bz⟩:=h2.1.call HR.out b1 HK.out
 have ed:=aa bz;clear h2 bz b1;unfold Enters at ph;go_wp2_with fail
 refine ed.out.mono ?_;intro e w2 h3;obtain⟨v,rfl⟩:=h3.ret;have H3:=aa h3;clear h3;go_wp2_with fail
 go_ret
 exact H3.out
theorem Hn {wp:iT} (hE:pt 184 wp):eB 154 (lM wp cX):=by
 intro b n O T0 s K E w hr hk;have HC:=aa (yD b O 184 143 _ _ _ _ wp cX w (hE.one (enters_of Tryz.func184 (by kernel_rfl) rfl) w b O) (uL w b O) hr.lt)
 have HR:=aa hr;have HK:=aa hk;clear hr hk;go_enter Tryz.func154,Tryz.ntmps154
 go_wp2_with fail
 refine HC.out.mono ?_;rintro e w1 ⟨v,rfl,b1,h2⟩;obtain⟨f,first,cap,rfl,ph,bz⟩:=h2.1.call HR.out b1 HK.out
 have ed:=aa bz;clear h2 bz b1;unfold Enters at ph;go_wp2_with fail
 refine ed.out.mono ?_;intro e w2 h3;obtain⟨v,rfl⟩:=h3.ret;have H3:=aa h3;clear h3;go_wp2_with fail
 go_ret
 exact H3.out
theorem aN.new {w:World} {b:Nat} {O:Nat→Prop} (hO :∀k,O k→k<w.heap.size) (vs:List Value) (cO:List cf) (hl:vs.length≤100) (h:jD w b O vs cO):aN (w.alloc (.cells vs.toArray 122)) b O (.slice (some ⟨w.heap.size,0,none⟩) vs.length vs.length) cO :=
 ⟨vs,.inr ⟨w.heap.size,rfl,World.alloc_heap_new w _,fun h=>by have:=hO _ h;omega,hl⟩,h.later ((ay.refl _ _).alloc _) (Ext.refl _ _)⟩
theorem aX (w:World) (o:Obj):Below w.heap.size w (w.alloc o):=(Below.refl _ _).alloc (ah _) o
theorem E5 {wp:cf} (hS:eB 20 wp):eB 90 (dz (dU (mu 18) [wp])):=by
 intro b n O T0 s K E w hr hk;have hO:=hr.lt;have HP:aN (w.alloc (.cells #[aZ 20 b] 122)) b O (.slice (some ⟨w.heap.size,0,none⟩) 1 1) [wp]:=aN.new hO [aZ 20 b] [wp] (by simp) ⟨hS.part (enters_of Tryz.func20 (by kernel_rfl) rfl) w b O,trivial⟩
 have HC:=aa (rz b O (mu 18) (.slice none 0 0) _ [wp] _ (zt.nil _ b) HP (fun k hk=>by have:=hO k hk;simp;omega))
 have HR:=aa hr;have HK:=aa hk;clear hr hk HP hO;go_enter Tryz.func90,Tryz.ntmps90
 go_wp2_with fail
 refine HC.out.mono ?_;rintro e w1 ⟨v,rfl,b1,h2⟩;obtain⟨f,first,cap,rfl,ph,bz⟩:=h2.1.call HR.out (aA (aX w _) b1) HK.out
 have ed:=aa bz;clear h2 bz b1;unfold Enters at ph;go_wp2_with fail
 refine ed.out.mono ?_;intro e w2 h3;obtain⟨v,rfl⟩:=h3.ret;have H3:=aa h3;clear h3;go_wp2_with fail
 go_ret
 exact H3.out
theorem Ma:eB 179 tf:=by
 intro b n O T0 s K E w hr hk;have hO:=hr.lt;have HP:aN (w.alloc (.cells #[aZ 88 b] 122)) b O (.slice (some ⟨w.heap.size,0,none⟩) 1 1) [cQ]:=aN.new hO [aZ 88 b] [cQ] (by simp) ⟨ij w b O,trivial⟩
 have HC:=aa (rz b O (mu 5) (.slice none 0 0) _ [cQ] _ (zt.nil _ b) HP (fun k hk=>by have:=hO k hk;simp;omega))
 have HR:=aa hr;have HK:=aa hk;clear hr hk HP hO;go_enter Tryz.func179,Tryz.ntmps179
 go_wp2_with fail
 refine HC.out.mono ?_;rintro e w1 ⟨v,rfl,b1,h2⟩;obtain⟨f,first,cap,rfl,ph,bz⟩:=h2.1.call HR.out (aA (aX w _) b1) HK.out
 have ed:=aa bz;clear h2 bz b1;unfold Enters at ph;go_wp2_with fail
 refine ed.out.mono ?_;intro e w2 h3;obtain⟨v,rfl⟩:=h3.ret;have H3:=aa h3;clear h3;go_wp2_with fail
 go_ret
 exact H3.out
theorem aay (b:Nat) (O:Nat→Prop) (t:aj) (ts:List aj) (T:List Nd) (x:Nd) (pv:Value) (cO:List cf) (K:Ast→List aj→Prop) (E:Int→Prop) (w:World) (hp:PS w b O (t::ts) T) (hx:x=⟨x.kind,0,x.op,x.num,x.s,[],[]⟩) (EW:aN w b O pv cO)
  (hk:aK cO ⟨{ x with line:=t.2.1},[],t::ts,T.length⟩ (ca K) E):Calls Tryz.prog 19 #[.pointer (some ⟨b,0,none⟩),cZ x (.slice none 0 0) (.slice none 0 0),pv] w (aG b O T (RK K E) w):=by
 have h1:x.line=0:=by rw[hx]
 have h2:x.names=[]:=by rw[hx]
 refine(yB b O (fun _=>False) t ts T T x t.2.1 [] [] (.slice none 0 0) (.slice none 0 0) pv cO (RK K E) w hp ⟨?_,World.ownsRow_nil _ _ _ _,fun g hg=>by simp[Value.ownBlock] at hg,fun g hg=>by simp[Value.ownBlock] at hg,fun g hg=>by simp[Value.ownBlock] at hg⟩ (fun _ _ h=>h) (fun _ h=>h.elim) (ep.nil T) (EW.later (ay.refl _ _) (fun k hk=>.inl (hk.elim id False.elim))) (.inl ⟨h1,rfl⟩) hk).mono fun e w' h=>h.sub fun k hk=>hk.elim id False.elim
 rw[show({ x with kids:=[]}:Nd).names=[] from h2]
 exact World.ownsRow_nil _ _ _ _
theorem cH {b:Nat} {O:Nat→Prop} {t:aj} {ts:List aj} {T:List Nd} {K:Ast→List aj→Prop} {E:Int→Prop} (w w2:World) (hp:PS w2 b O (t::ts) T) (hf:ay O w w2) (x:Nd) (hx:x=⟨x.kind,0,x.op,x.num,x.s,[],[]⟩) (vs:List Value) (cO:List cf) (hl:vs.length≤100) (hall:jD w2 b O vs cO)
  (hk:aK cO ⟨{ x with line:=t.2.1},[],t::ts,T.length⟩ (ca K) E):Calls Tryz.prog 19 #[.pointer (some ⟨b,0,none⟩),cZ x (.slice none 0 0) (.slice none 0 0),.slice (some ⟨w2.heap.size,0,none⟩) vs.length vs.length] (w2.alloc (.cells vs.toArray 122)) (aG b O T (RK K E) w) :=
 (aay b O t ts T x _ cO K E _ (hp.below (aX w2 _)) hx (aN.new (fun k hk=>(hp.own k hk).2) vs cO hl hall) hk).mono fun _ _ h=>h.after (hf.alloc _)
def j7 (b:Nat) (O:Nat→Prop) (wp:cf) (w:World) (e:Ending) (w':World):Prop:=∃f first cap,e=.returned (.func (.func f) first cap)∧Below w.heap.size w w'∧eJ w' b O (.func (.func f) first cap) wp
theorem cE (w:World) (b:Nat) (O:Nat→Prop) (hO :∀k,O k→k<w.heap.size) (x:List UInt8) (hx:x≠[]) (X:ByteArray) (hX:X=bK x) :
  Calls Tryz.prog 89 #[.pointer (some ⟨b,0,none⟩),.slice (some ⟨w.heap.size,0,none⟩) 1 1] (w.alloc (.cells #[.string X] 9)) (j7 b O (au [x]) w):=by
 subst hX;refine(ET b w.heap.size O [x] (w.alloc (.cells #[.string (bK x)] 9)) (fun y hy=>by rw[bZ.1 hy];exact hx) (by simp) (eK.new w O hO _ 9) (fun k hk=>by have:=hO k hk;simp;omega) 1 rfl).mono ?_
 rintro e w' ⟨v,rfl,hb,hp,f,first,cap,rfl⟩
 exact⟨f,first,cap,rfl,aA (aX w _) hb,hp⟩
def Mb (ex:cf) (t:aj) (ts:List aj) (n:Nat) (K:Ast→List aj→Prop) (E:Int→Prop):Prop :=
 (aw [40] t=true→aK [aD,ex,au [[41]]] ⟨dA 14 t.2.1,[],t::ts,n⟩ (ca K) E)∧(aw [40] t=false→aK [cQ] ⟨dA 7 t.2.1,[],t::ts,n⟩ (ca K) E)
theorem RI {ex:cf} (hE:eB 91 ex) (b:Nat) (O:Nat→Prop) (t:aj) (ts:List aj) (T:List Nd) (K:Ast→List aj→Prop) (E:Int→Prop) (w:World) (hp:PS w b O (t::ts) T) (hk:Mb ex t ts T.length K E) :
  Calls Tryz.prog 182 #[.pointer (some ⟨b,0,none⟩)] w (aG b O T (RK K E) w):=by
 have HW:=aa (bS b O t ts T w hp);cases hq:aw [40] t with
 | true =>
  have g1:((ag t).toList == [40])=true:=ai (s:=[40]) (by decide) t hq
  have HK:=aa (hk.1 hq);generalize hY:ag t=Y at *;have HP:=aa hp;clear hp hk hY hq;go_enter Tryz.func182,Tryz.ntmps182
  go_wp2_with fail
  refine HW.out.mono ?_;rintro e w1 ⟨rfl,b1⟩;have bY:=HP.out.below b1;have ry :∀k,O k→k<w1.heap.size:=fun k hk=>(bY.own k hk).2
  have B1:=aa b1;have P1:=aa bY;have HV:=aa (cE w1 b O ry [41] (by decide) ⟨#[41]⟩ rfl)
  clear b1 bY ry;go_wp2_with fail
  refine HV.out.mono ?_;rintro e w2 ⟨fi,f1,f2,rfl,b2,h2⟩;have HN:=aa (cH w w2 (P1.out.below b2) (ay.ae (aA B1.out b2)) (mu 14) rfl [aZ 40 b,aZ 91 b,.func (.func fi) f1 f2] [aD,ex,au [[41]]] (by simp) ⟨ba w2 b O,hE.part (enters_of Tryz.func91 (by kernel_rfl) rfl) w2 b O,h2,trivial⟩ HK.out)
  clear b2 h2;go_wp2_with fail
  refine HN.out.mono ?_;intro e w3 h3;obtain⟨v,er,rfl⟩:=h3.ret;have H3:=aa h3;clear h3;go_wp2_with fail
  go_ret2
  exact H3.out
 | false =>
  have g1:((ag t).toList == [40])=false:=ai (s:=[40]) (by decide) t hq
  have HK:=aa (hk.2 hq);generalize hY:ag t=Y at *;have HP:=aa hp;clear hp hk hY hq;go_enter Tryz.func182,Tryz.ntmps182
  go_wp2_with fail
  refine HW.out.mono ?_;rintro e w1 ⟨rfl,b1⟩;have HN:=aa (cH w w1 (HP.out.below b1) (ay.ae b1) (mu 7) rfl [aZ 88 b] [cQ] (by simp) ⟨ij w1 b O,trivial⟩ HK.out)
  clear b1;go_wp2_with fail
  refine HN.out.mono ?_;intro e w3 h3;obtain⟨v,er,rfl⟩:=h3.ret;have H3:=aa h3;clear h3;go_wp2_with fail
  go_ret2
  exact H3.out
theorem Ho (w:World) (b:Nat) (O:Nat→Prop) (hO :∀k,O k→k<w.heap.size) (x y:List UInt8) (hx:x≠[]) (hy:y≠[]) (X Y:ByteArray) (hX:X=bK x) (hY:Y=bK y) :
  Calls Tryz.prog 89 #[.pointer (some ⟨b,0,none⟩),.slice (some ⟨w.heap.size,0,none⟩) 2 2] (w.alloc (.cells #[.string X,.string Y] 9)) (j7 b O (au [x,y]) w):=by
 subst hX hY;refine(ET b w.heap.size O [x,y] (w.alloc (.cells #[.string (bK x),.string (bK y)] 9)) (fun z hz=>by rcases bc.1 hz with rfl|hz;exact hx;rw[bZ.1 hz];exact hy) (by simp) (eK.new w O hO _ 9) (fun k hk=>by have:=hO k hk;simp;omega) 2 rfl).mono ?_
 rintro e w' ⟨v,rfl,hb,hp,f,first,cap,rfl⟩
 exact⟨f,first,cap,rfl,aA (aX w _) hb,hp⟩
theorem pw (w:World) (b:Nat) (O:Nat→Prop) (hO :∀k,O k→k<w.heap.size) (vs:List Value) (cO:List cf) (hl:vs.length≤100) (h:jD w b O vs cO) (x:List UInt8) (hx:x≠[]) (X:ByteArray) (hX:X=bK x) :
  Calls Tryz.prog 42 #[.pointer (some ⟨b,0,none⟩),.string X,.slice (some ⟨w.heap.size,0,none⟩) vs.length vs.length] (w.alloc (.cells vs.toArray 122)) (j7 b O (bD x cO) w):=by
 refine(wW b O x X hX hx _ cO _ (aN.new hO vs cO hl h) (fun k hk=>by have:=hO k hk;simp;omega)).mono ?_
 rintro e w' ⟨v,rfl,hb,hp,f,first,cap,rfl⟩
 exact⟨f,first,cap,rfl,aA (aX w _) hb,hp⟩
theorem RJ (w:World) (b:Nat) (O:Nat→Prop) (hO :∀k,O k→k<w.heap.size) (vs:List Value) (cO:List cf) (hl:vs.length≤100) (h:jD w b O vs cO) (x:List UInt8) (hx:x≠[]) (X:ByteArray) (hX:X=bK x) :
  Calls Tryz.prog 92 #[.pointer (some ⟨b,0,none⟩),.string X,.slice (some ⟨w.heap.size,0,none⟩) vs.length vs.length] (w.alloc (.cells vs.toArray 122)) (j7 b O (rq x cO) w):=by
 refine(Db b O x X hX hx _ cO _ (aN.new hO vs cO hl h) (fun k hk=>by have:=hO k hk;simp;omega)).mono ?_
 rintro e w' ⟨v,rfl,hb,hp,f,first,cap,rfl⟩
 exact⟨f,first,cap,rfl,aA (aX w _) hb,hp⟩
theorem rC (w:World) (b:Nat) (O:Nat→Prop) (hO :∀k,O k→k<w.heap.size) (x:List UInt8) (hx:x≠[]) (X:ByteArray) (hX:X=bK x) (f:FuncId) (first cap:Array Value) (wp:cf) (h:eJ w b O (.func (.func f) first cap) wp) :
  Calls Tryz.prog 180 #[.pointer (some ⟨b,0,none⟩),.string X,.func (.func f) first cap] w (j7 b O (dG x wp) w):=by
 refine(LH b O x X hX hx f first cap wp w h hO).mono ?_
 rintro e w' ⟨v,rfl,hb,hp,f,first,cap,rfl⟩
 exact⟨f,first,cap,rfl,hb,hp⟩
theorem ji {b n:Nat} {O O2:Nat→Prop} {T0:List Nd} {s:St} {K:St→Prop} {E:Int→Prop} (w w2:World) (hr:Real w2 b n O2 T0 s) (hf:ay O w w2) (he:Ext O O2 w) (vs:List Value) (cO:List cf) (hl:vs.length≤100) (hall:jD w2 b O2 vs cO) (hk:aK cO s K E) :
  Calls Tryz.prog 35 #[.pointer (some ⟨n,0,none⟩),.slice (some ⟨w2.heap.size,0,none⟩) vs.length vs.length] (w2.alloc (.cells vs.toArray 122)) (bH b n O T0 K E w) :=
 (uB b n O2 T0 s K E _ cO _ (hr.below (aX w2 _)) (aN.new hr.lt vs cO hl hall) hk).mono fun e w' h=>by
  obtain⟨h1,h2⟩:=h;have hf2:ay O2 w2 w':=((ay.refl O2 w2).alloc _).trans h1 (Ext.refl _ _);refine⟨hf.trans hf2 he,h2.imp ?_ ?_⟩
  ·rintro⟨s',O',e1,r1,x1,k1⟩
   exact⟨s',O',e1,r1,he.trans (fun k hk=>(x1 k hk).imp id fun h=>by simp at h;omega) hf.size,k1⟩
  ·rintro⟨l,v,e1,⟨g,m1,m2,m3⟩,k⟩
   exact⟨l,v,e1,⟨g,m1,by have:=hf.size;simp at m2;omega,m3⟩,k⟩
theorem Mc {pa bl:cf} (acu:eB 181 pa) (hB:eB 90 bl):eB 152 (fun s K E=>aK [au [[40]],dG [41] pa,au [[41]],bl,au [iU]] s K E):=by
 intro b n O T0 s K E w0 hr hk;have HK:=aa hk;have P0:=aa hr;have F0:=aa (ay.refl O w0);clear hr hk;go_enter Tryz.func152,Tryz.ntmps152
 have oN :∀k,O k→k<w0.heap.size:=P0.out.lt;have V1:=aa (cE w0 b O oN [40] (by decide) ⟨#[40]⟩ rfl)
 clear oN;go_wp2_with fail
 refine V1.out.mono ?_;rintro e w1 ⟨f1,a1,c1,rfl,b1,h1⟩;have F1:=aa (F0.out.trans (ay.ae (O:=O) b1) (Ext.refl _ _));have P1:=aa (P0.out.below b1);have H1:=aa h1;clear b1 h1 V1;have ry :∀k,O k→k<w1.heap.size:=P1.out.lt;have V2:=aa (rC w1 b O ry [41] (by decide) ⟨#[41]⟩ rfl 181 _ _ (pa) (acu.part (enters_of Tryz.func181 (by kernel_rfl) rfl) w1 b O))
 clear ry;go_wp2_with fail
 refine V2.out.mono ?_;rintro e w2 ⟨f2,a2,c2,rfl,b2,h2⟩;have F2:=aa (F1.out.trans (ay.ae (O:=O) b2) (Ext.refl _ _));have P2:=aa (P1.out.below b2);have L1:=aa (H1.out.later (ay.ae (O:=O) b2) (Ext.refl _ _));clear H1;have H1:=L1;clear L1;have H2:=aa h2;clear b2 h2 V2;have JJ :∀k,O k→k<w2.heap.size:=P2.out.lt;have V3:=aa (cE w2 b O JJ [41] (by decide) ⟨#[41]⟩ rfl)
 clear JJ;go_wp2_with fail
 refine V3.out.mono ?_;rintro e w3 ⟨f3,a3,c3,rfl,b3,h3⟩;have F3:=aa (F2.out.trans (ay.ae (O:=O) b3) (Ext.refl _ _));have P3:=aa (P2.out.below b3);have L1:=aa (H1.out.later (ay.ae (O:=O) b3) (Ext.refl _ _));clear H1;have H1:=L1;clear L1;have L2:=aa (H2.out.later (ay.ae (O:=O) b3) (Ext.refl _ _));clear H2;have H2:=L2;clear L2;have H3:=aa h3;clear b3 h3 V3;have Cn :∀k,O k→k<w3.heap.size:=P3.out.lt;have V4:=aa (cE w3 b O Cn [101,110,100] (by decide) ⟨#[101,110,100]⟩ rfl)
 clear Cn;go_wp2_with fail
 refine V4.out.mono ?_;rintro e w4 ⟨f4,a4,c4,rfl,b4,h4⟩;have F4:=aa (F3.out.trans (ay.ae (O:=O) b4) (Ext.refl _ _));have P4:=aa (P3.out.below b4);have L1:=aa (H1.out.later (ay.ae (O:=O) b4) (Ext.refl _ _));clear H1;have H1:=L1;clear L1;have L2:=aa (H2.out.later (ay.ae (O:=O) b4) (Ext.refl _ _));clear H2;have H2:=L2;clear L2;have L3:=aa (H3.out.later (ay.ae (O:=O) b4) (Ext.refl _ _));clear H3;have H3:=L3;clear L3;have H4:=aa h4;clear b4 h4 V4;have HN:=aa (ji w0 w4 P4.out F4.out (Ext.refl _ _) [.func (.func f1) a1 c1,.func (.func f2) a2 c2,.func (.func f3) a3 c3,aZ 90 b,.func (.func f4) a4 c4] [au [[40]],dG [41] (pa),au [[41]],bl,au [[101,110,100]]] (by simp) ⟨H1.out,H2.out,H3.out,hB.part (enters_of Tryz.func90 (by kernel_rfl) rfl) w4 b O,H4.out,trivial⟩ HK.out)
 go_wp2_with fail
 refine HN.out.mono ?_;intro e wz hz;obtain⟨v,rfl⟩:=hz.ret;have HZ:=aa hz;clear hz;go_wp2_with fail
 go_ret
 exact HZ.out
theorem RM {it:cf} (Hm:eB 235 it) (b:Nat) (O:Nat→Prop) (t:aj) (ts:List aj) (T:List Nd) (K:Ast→List aj→Prop) (E:Int→Prop) (w0:World) (hp:PS w0 b O (t::ts) T)
  (hk:aK [aD,dG [125] it,au [[125]]] ⟨dA 15 t.2.1,[],t::ts,T.length⟩ (ca K) E) :
  Calls Tryz.prog 225 #[.pointer (some ⟨b,0,none⟩)] w0 (aG b O T (RK K E) w0):=by
 have HK:=aa hk;have P0:=aa hp;have F0:=aa (ay.refl O w0);clear hp hk;go_enter Tryz.func225,Tryz.ntmps225
 have oN :∀k,O k→k<w0.heap.size:=fun k hk=>(P0.out.own k hk).2
 have V1:=aa (rC w0 b O oN [125] (by decide) ⟨#[125]⟩ rfl 235 _ _ (it) (Hm.part (enters_of Tryz.func235 (by kernel_rfl) rfl) w0 b O))
 clear oN;go_wp2_with fail
 refine V1.out.mono ?_;rintro e w1 ⟨f1,a1,c1,rfl,b1,h1⟩;have F1:=aa (F0.out.trans (ay.ae (O:=O) b1) (Ext.refl _ _));have P1:=aa (P0.out.below b1);have H1:=aa h1;clear b1 h1 V1;have ry :∀k,O k→k<w1.heap.size:=fun k hk=>(P1.out.own k hk).2
 have V2:=aa (cE w1 b O ry [125] (by decide) ⟨#[125]⟩ rfl)
 clear ry;go_wp2_with fail
 refine V2.out.mono ?_;rintro e w2 ⟨f2,a2,c2,rfl,b2,h2⟩;have F2:=aa (F1.out.trans (ay.ae (O:=O) b2) (Ext.refl _ _));have P2:=aa (P1.out.below b2);have L1:=aa (H1.out.later (ay.ae (O:=O) b2) (Ext.refl _ _));clear H1;have H1:=L1;clear L1;have H2:=aa h2;clear b2 h2 V2;have HN:=aa (cH w0 w2 P2.out F2.out (mu 15) rfl [aZ 40 b,.func (.func f1) a1 c1,.func (.func f2) a2 c2] [aD,dG [125] (it),au [[125]]] (by simp) ⟨ba w2 b O,H1.out,H2.out,trivial⟩ HK.out)
 go_wp2_with fail
 refine HN.out.mono ?_;intro e wz hz;obtain⟨v,er,rfl⟩:=hz.ret;have HZ:=aa hz;clear hz;go_wp2_with fail
 go_ret2
 exact HZ.out
theorem PS.next {W:World} {b:Nat} {O:Nat→Prop} {t u:aj} {ts:List aj} {T:List Nd} (h:PS W b O (t::u::ts) T) :
  ∃(i g n c:Nat),W.cell? ⟨b,0,none⟩=some (.slice (some ⟨g,0,none⟩) n c)∧W.cell? ⟨b,1,none⟩=some (.int .i64 (i:Int))∧i+1<n∧n≤20000∧n≤c ∧
   W.cell? ⟨g,(i+1)*4,none⟩=some (.int .i64 u.1)∧W.cell? ⟨g,(i+1)*4+1,none⟩=some (.int .i64 u.2.1)∧W.cell? ⟨g,(i+1)*4+2,none⟩=some (.int .i64 u.2.2.1)∧W.cell? ⟨g,(i+1)*4+3,none⟩=some (.string (bK u.2.2.2)):=by
 obtain⟨TS,i,g,c,nv,L,a1,a2,a3,a4,a5,a6,a7⟩:=h.ex;obtain⟨g',cap,e,h1,h2,h3⟩:=a2.ex;have hg:g=g'∧c=cap:=by injection e with e1 _ e3;injection e1 with e1;injection e1 with e1;exact⟨e1,e3⟩
 obtain⟨rfl,rfl⟩:=hg;have hi:TS[i+1]? = some u:=by
  have:=aB (·[1]?) a4
  simpa[zF] using this
 have hlt:=(aJ.1 hi).1;obtain⟨b0,b1,b2,b3⟩:=h3 (i+1) u hi;exact⟨i,g,TS.length,c,by simp[World.cell?,a1],by simp[World.cell?,a1],hlt,a5,h1,b0,b1,b2,b3⟩
def uM (t u:aj):Bool:=decide (t.1=1) && (decide (u.1=5) && decide (u.2.2.2=[61]))
theorem Xh (l s:List UInt8):((bK l).toList == s)=decide (l=s):=by
 rw[Lib.toList_data];show((bK l).data.toList == s)=_
 by_cases h:l=s<;>simp[bK,h]
theorem Di (b:Nat) (O:Nat→Prop) (t:aj) (ts:List aj) (T:List Nd) (w:World) (h:PS w b O (t::ts) T) (ht:t.1≠1):Calls Tryz.prog 241 #[.pointer (some ⟨b,0,none⟩)] w (nx w false):=by
 obtain⟨t0,t1,t2,t3⟩:=t;have HA:=aa (cG b O (t0,t1,t2,t3) ts T w h);unfold fW at HA;dsimp only at HA ht
 have F0:=AB t0 t1 t2 (bK t3);have g1:(t0 == 1)=false:=aC.2 ht;have g1':(t0 != 1)=true:=mL.2 ht;clear h ht;go_enter Tryz.func241,Tryz.ntmps241
 go_wp2_with fail
 refine HA.out.mono ?_;rintro e w1 ⟨rfl,b1⟩;have B1:=aa b1;clear b1;go_wp2_with fail
 go_ret
 exact⟨rfl,B1.out⟩
theorem RN (b:Nat) (O:Nat→Prop) (t u:aj) (ts:List aj) (T:List Nd) (w:World) (h:PS w b O (t::u::ts) T) (ht:t.1=1) (r:Bool) (hr:(decide (u.1=5) && decide (u.2.2.2=[61]))=r):Calls Tryz.prog 241 #[.pointer (some ⟨b,0,none⟩)] w (nx w r):=by
 obtain⟨t0,t1,t2,t3⟩:=t;have HA:=aa (cG b O (t0,t1,t2,t3) (u::ts) T w h);unfold fW at HA;dsimp only at HA ht
 subst ht;have F0:=AB 1 t1 t2 (bK t3);have HP:=aa h;clear h;go_enter Tryz.func241,Tryz.ntmps241
 go_wp2_with fail
 refine HA.out.mono ?_;rintro e w1 ⟨rfl,b1⟩;obtain⟨i,g,n,c,c0,c1,hi,hn,hc,d0,d1,d2,d3⟩:=(HP.out.below b1).next;have hb:b<w1.heap.size:=World.block_lt_of_cell? w1 _ c1;have hg:g<w1.heap.size:=World.block_lt_of_cell? w1 _ d0;have B1:=aa b1;obtain⟨u0,u1,u2,u3⟩:=u;dsimp only at *
 clear b1;have hbt:((bK u3).toList == [61])=decide (u3=[61]):=Xh u3 [61];generalize bK u3=S at *;by_cases h5:u0=5
 ·subst h5
  have hr2:decide (u3=[61])=r:=by simpa using hr
  rw[hr2] at hbt;clear hr hr2;cases r <;>
  ·go_wp2_with fail
   go_region
   all_goals go_wp2
   all_goals go_ret
   all_goals exact⟨rfl,aA B1.out (aX w1 _).drew⟩
 ·have g5:(u0 == 5)=false:=aC.2 h5
  have hd:false=r:=by simpa[h5] using hr
  subst hd;clear h5 hr hbt;go_wp2_with fail
  go_region
  all_goals go_wp2
  all_goals go_ret
  all_goals exact⟨rfl,aA B1.out (aX w1 _).drew⟩
end Go.Proofs.YteflkdlaoiijbaaGreatDoor
