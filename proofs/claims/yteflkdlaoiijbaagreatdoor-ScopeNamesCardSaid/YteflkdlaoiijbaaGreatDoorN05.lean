/- Parts of the proof. -/
import Derived.Deep.AppendLies
import Derived.Laws.AppendOwnNone
import Derived.ArgAppend
import Derived.Test.YteflkdlaoiijbaaGreatDoorN04
set_option maxHeartbeats 16000000
set_option maxRecDepth 20000
namespace Go.Proofs.YteflkdlaoiijbaaGreatDoor
open Go.RowKit
theorem bj.app {T:List Nd} :∀{xs ys:List Ast} {ks ls:List Int} {js is:List Nat},bj T xs ks js→bj T ys ls is→bj T (xs++ys) (ks++ls) (js++is)
 | [],ys,ks,ls,js,is,h1,h2=>by
  unfold bj at h1;obtain⟨rfl,rfl⟩:=h1;exact h2
 | a::xs,ys,ks,ls,js,is,h1,h2=>by
  unfold bj at h1;obtain⟨k,ir,j1,j2,rfl,e1,e2,rfl⟩:=h1;show bj T (a::(xs++ys)) (k::(ir++ls)) (j1++j2++is)
  unfold bj;exact⟨k,ir++ls,j1,j2++is,rfl,e1,bj.app e2 h2,by rw[fe]⟩
theorem range_split (a b c:Nat) (h1:a≤b) (h2:b≤c):List.range' a (c-a)=List.range' a (b-a)++List.range' b (c-b):=by
 rw[show c-a=(b-a)+(c-b) by omega,←List.range'_append_1,show a+(b-a)=b by omega]
theorem dR.nil (T:List Nd):dR T T [] []:=⟨List.prefix_refl _,[],by unfold bj;exact⟨rfl,rfl⟩,by simp⟩
theorem ux {T T':List Nd} (h:T <+: T') :∀(i:Nat) x,T[i]? = some x→T'[i]? = some x:=by
 obtain⟨r,rfl⟩:=h;intro i x hi;rw[kF (aL.1 hi).1];exact hi
theorem dR.app {T0 T T':List Nd} {xs ys:List Ast} {ks ls:List Int} (h:dR T0 T xs ks) (k:dR T T' ys ls):dR T0 T' (xs++ys) (ks++ls):=by
 obtain⟨p1,js,r1,q1⟩:=h;obtain⟨p2,is,r2,q2⟩:=k;refine⟨p1.trans p2,js++is,(bj.more (ux p2) xs ks js r1).app r2,?_⟩;rw[range_split T0.length T.length T'.length p1.length_le p2.length_le];exact q1.append q2
theorem dR.len {T0 T:List Nd} {xs:List Ast} {ks:List Int} (h:dR T0 T xs ks):T.length=T0.length+Ast.al xs:=by
 obtain⟨p1,js,r1,q1⟩:=h;have h1:=bj.len xs ks js r1;have h2:=q1.length_eq;rw[Kj] at h2;have:=p1.length_le;omega
theorem dR.num {T0 T:List Nd} {xs:List Ast} {ks:List Int} (h:dR T0 T xs ks):ks.length=xs.length:=by
 obtain⟨_,js,r1,_⟩:=h;exact r1.count
def RK (K:Ast→List aj→Prop) (E:Int→Prop):Except Int (Ast×List aj)→Prop
 | .ok (a,ts)=>K a ts
 | .error l=>E l
abbrev iQ:=List aj→Nat→(Ast→List aj→Prop)→(Int→Prop)→Prop
def One (W:World) (b:Nat) (O:Nat→Prop) (v:Value) (wp:iQ):Prop :=
 ∀W1 O1 T ts K E,az O W W1→Ext O O1 W→PS W1 b O1 ts T→wp ts T.length K E→EJ v #[] W1 (aF b O1 T (RK K E) W1)
theorem One.later {W W':World} {b:Nat} {O O':Nat→Prop} {v:Value} {wp:iQ} (h:One W b O v wp) (hf:az O W W') (he:Ext O O' W):One W' b O' v wp :=
 fun W1 O1 T ts K E h1 h2 h3 h4=>h W1 O1 T ts K E (hf.trans h1 he) (he.trans h2 hf.size) h3 h4
def yB (W:World) (b:Nat) (O:Nat→Prop) (v:Value) (mf:List aj→Bool×List aj):Prop :=
 ∀W1 O1 T ts,az O W W1→Ext O O1 W→PS W1 b O1 ts T→EJ v #[] W1 (kS b O1 (mf ts).2 T (mf ts).1 W1)
theorem yB.later {W W':World} {b:Nat} {O O':Nat→Prop} {v:Value} {mf:List aj→Bool×List aj} (h:yB W b O v mf) (hf:az O W W') (he:Ext O O' W):yB W' b O' v mf :=
 fun W1 O1 T ts h1 h2 h3=>h W1 O1 T ts (hf.trans h1 he) (he.trans h2 hf.size) h3
def sC (wp:iQ) (mf:List aj→Bool×List aj):Nat→List aj→Nat→List Ast→(List Ast→List aj→Prop)→(Int→Prop)→Prop
 | 0,_,_,_,_,_=>False
 | k+1,ts,n,acc,K,E=>wp ts n (fun a fB=>((mf fB).1=true→sC wp mf k (mf fB).2 (n+a.size) (acc++[a]) K E)∧((mf fB).1=false→K (acc++[a]) (mf fB).2)) E
abbrev rm (W:World) (b:Nat) (v:Value) (ks:List Int):Prop:=W.ownsRow (b+1) 3 1 v ks.length (ks.map (Value.int .i64))
def RS (b:Nat) (O:Nat→Prop) (T0:List Nd) (K:List Ast→List aj→Prop) (E:Int→Prop) (w:World) (e:Ending) (w':World):Prop :=
 az O w w'∧((∃v xs ks ts O' T,e=.returned (.tuple #[v,.nilIface])∧PS w' b O' ts T∧Ext O O' w∧dR T0 T xs ks∧rm w' b v ks∧(∀g,v.ownBlock=some g→¬ O' g∧w.heap.size≤g)∧ks≠[]∧ks.length≤100000∧K xs ts) ∨
  (∃l er,e=.returned (.tuple #[.slice none 0 0,er])∧Rw w.heap.size w' er l∧E l))
theorem Df:(Tryz.prog.info? 3).map (fun i=>(i.zero,i.size,i.bytes))=some (some (.int .i64 0),1,8):=by kernel_rfl
theorem az.uy {w w':World} {v:Value} {B e s n:Nat} {xs:List Value} (h:w.grownBy w' v.ownBlock) (hown:w.ownsRow B e s v n xs) (he:e≠9):az (fun k=>v.ownBlock=some k) w w' :=
 ⟨h.os,h.tape,h.output,h.size,fun k hk hO=>h.block k hk (fun e=>hO e.symm),fun k hk=>h.block k hk.lt (fun e1=>by
  obtain⟨c1,f1,h1⟩:=hk;obtain⟨c2,h2⟩:=eM hown e1.symm;rw[h1] at h2;injection h2 with h2;injection h2 with _ h2;exact he h2.symm)⟩
theorem Xt {ops:Array Oper} {rest:List Oper} {o:Oper} {a:Act} {Q:Exit→Act→World→Prop} (w:World) (p:Int) (hgd:o.guard=none) (sl y:Operand)
  (ho:o.op=.call { callee:=.builtin .append,args:=#[sl,y],argTypes:=#[33,33]}) (b:Nat) (v:Value) (ks:List Int) (hs:a.eval sl=v) (hown:rm w b v ks) (hy:a.eval y=.slice (some ⟨w.heap.size,0,none⟩) 1 1)
  (hlen:ks.length≤1000000) (hB:b+1≤w.heap.size)
  (h :∀v' w',rm w' b v' (ks++[p])→az (fun k=>v.ownBlock=some k) w w'→(∀g,v'.ownBlock=some g→v.ownBlock=some g∨w.heap.size≤g)→wpList Tryz.prog ops Q rest (a.put o.dst v') w'):wpList Tryz.prog ops Q (o::rest) a (w.alloc (.cells #[.int .i64 p] 3)):=by
 obtain⟨i0,ng,hz0,hz1,hz2⟩:=info_parts Df;have hc:=cell_of_row (w.alloc (.cells #[.int .i64 p] 3)) w.heap.size 0 _ 3 (0,0) (heap_alloc_new w _);refine wpList_append_lies (P:=Tryz.prog) _ hgd sl y 33 ho (b+1) 3 i0 (.int .i64 0) 1 8 Tryz.underlying33 ng hz0 hz1 hz2 rfl (by omega) v ks.length (ks.map (Value.int .i64)) hs (World.ownsRow.alloc hown _) ⟨w.heap.size,0,none⟩ 1 1 [.int .i64 p] hy rfl
  (fun j u hj=>by
   cases j with
   | zero=>obtain rfl:=gz hj;exact hc
   | succ j=>simp at hj) (fun u hu=>by obtain rfl:=bP.1 hu;rfl) (by omega) (by unfold maxLen;omega) (by omega) (by simp;omega) (w.heap.size+1) (by simp) ?_
 intro g cap w' h1 h2 h3 _;refine h _ w' ?_ ?_ ?_
 ·unfold rm
  rw[bV,mP];exact h1
 ·exact((az.refl (fun k=>v.ownBlock=some k) w).alloc _).trans (az.uy h2 (World.ownsRow.alloc hown _) (by decide)) (Ext.refl _ _)
 ·intro g' vI
  simp[Value.ownBlock] at vI;subst vI;rcases h3 with h3|h3
  ·exact .inl h3
  ·exact .inr (by omega)
theorem aaD (b:Nat) (O:Nat→Prop) (ts:List aj) (T0:List Nd) (one more:Value) (wp:iQ) (mf:List aj→Bool×List aj) (K:List Ast→List aj→Prop) (E:Int→Prop) (m:Nat) (hm:m≤100000) (w:World) (hp:PS w b O ts T0) (h1:One w b O one wp) (h2:yB w b O more mf) (hk:sC wp mf m ts T0.length [] K E) :
  Calls Tryz.prog 145 #[one,more] w (RS b O T0 K E w):=by
 have HP:=aa hp;have H1:=aa h1;have H2:=aa h2;have HK:=aa hk;have wY:=(hp.own b hp.at_).2;clear hp h1 h2 hk;go_enter Tryz.func145,Tryz.ntmps145
 go_wp2_with fail
 go_loopg [6] m (fun z tv wr=>∃(O1:Nat→Prop) (T:List Nd) (xs:List Ast) (ks:List Int) (tr:List aj),PS wr b O1 tr T∧az O w wr∧Ext O O1 w∧dR T0 T xs ks∧rm wr b tv ks∧(∀g,tv.ownBlock=some g→¬ O1 g∧w.heap.size≤g)∧ks.length+z≤m∧sC wp mf z tr T.length xs K E)
 case atStart=>exact⟨O,T0,[],[],ts,HP.out,az.refl _ _,Ext.refl _ _,dR.nil T0,World.ownsRow_nil _ _ _ _,fun g hg=>by simp[Value.ownBlock] at hg,by simp,HK.out⟩
 case round =>
  obtain⟨O1,T,xs,ks,tr,lF,kO,uw,vR,hr1,Ah,hz,iT⟩:=hrel;have AK:=aa lF;have fj:=aa kO;have oU:=aa uw;have HL1:=aa vR;have nC:=aa hr1;have JV:=aa Ah;cases gk with
  | zero=>exact iT.elim
  | succ z =>
   obtain⟨f,first,cap,rfl,pt,bq⟩:=H1.out wr O1 T tr _ E kO uw lF iT
   rw[show first++(#[]:Array Value)=first by simp] at bq
   have dS:=aa bq;obtain⟨f2,ky,CV,rfl,Xu,_⟩:=H2.out wr O1 T tr kO uw lF;clear lF kO uw vR hr1 Ah iT bq;unfold Enters at pt Xu;go_wp2_with fail
   refine dS.out.mono ?_;rintro e w2 ⟨fr2,h2⟩;have F2:=aa (fj.out.trans fr2 oU.out);rcases h2 with ⟨p,a,iy,O2,T2,rfl,p2,x2,l2,k2⟩ | ⟨l,v,er,rfl,m2,k2⟩
   ·have hrow2:rm w2 b u6 ks:=cS nC.out fun g hg=>fr2.block g (nC.out.lt g hg).2 (JV.out g hg).1
    have uz :∀g,u6.ownBlock=some g→¬ O2 g∧w.heap.size≤g:=fun g hg=>⟨fun h=>by
     rcases x2 g h with h|h
     ·exact(JV.out g hg).1 h
     ·have:=(nC.out.lt g hg).2
      omega,(JV.out g hg).2⟩
    have vS:=aa hrow2;have RT:=aa uz;have P2:=aa p2;have X2:=aa (oU.out.trans x2 fj.out.size);have L2:=aa (HL1.out.app l2);have LA:=aa l2.len;have K2:=aa k2;have yq:b+1≤w2.heap.size:=by have:=(p2.own b p2.at_).2;omega
    have hsw:w.heap.size≤w2.heap.size:=F2.out.size;clear fr2 hrow2 uz p2 x2 l2 k2;go_wp2_with (at_builtin;refine Xt _ (p:Int) rfl _ _ rfl b _ ks rfl vS.out rfl (by omega) yq ?_;intro v4 w4 h4 f4 o4;have H4:=aa h4;have F4:=aa f4;have O4:=aa o4;clear h4 f4 o4)
    have p4:PS w4 b O2 iy T2:=P2.out.kept F4.out (fun k hk e=>(RT.out k e).1 hk) fun k e=>by have:=(vS.out.lt k e).1;omega
    have F5:=aa (F2.out.trans (F4.out.mono (O1:=fun k=>u6.ownBlock=some k) fun _ h=>h) (fun k hk=>.inr (RT.out k hk).2))
    have P4:=aa p4;obtain⟨_,_,_,e2,_,pw⟩:=H2.out w4 O2 T2 iy F5.out X2.out p4;injection e2 with e3 e4 e5;injection e3 with e3;subst e3 e4 e5;rw[show ky++(#[]:Array Value)=ky by simp] at pw
    have rp:=aa pw;obtain⟨br,hbr⟩ :∃br,br=(mf iy).1:=⟨_,rfl⟩;rw[←hbr] at rp;have Dg:=aa hbr;clear p4 pw hbr;refine rp.out.mono ?_;rintro e w5 ⟨rfl,p5,Xv⟩;have hn5 :∀g,v4.ownBlock=some g→¬ O2 g∧w.heap.size≤g:=fun g hg=>by
     rcases O4.out g hg with h|h
     ·exact RT.out g h
     ·exact⟨fun h'=>by have:=(P2.out.own g h').2;omega,by omega⟩
    have EF :∀g,v4.ownBlock=some g→g≠b:=fun g hg e=>(hn5 g hg).1 (e▸P4.out.at_)
    have L0:=aa (show rm w5 b v4 (ks++[(p:Int)]) from cS H4.out fun g hg=>Xv.block g (H4.out.lt g hg).2 (EF g hg))
    have HN5:=aa hn5;have P5:=aa p5;have F6:=aa (F5.out.trans Xv (fun k hk=>X2.out k (hk▸P4.out.at_)))
    clear p5 Xv hn5 EF;cases br with
    | true =>
     go_wp2_with fail
     go_roundg z
     case measure=>omega
     case rel=>exact⟨O2,T2,xs++[a],ks++[(p:Int)],_,P5.out,F6.out,X2.out,L2.out,L0.out,HN5.out,by simp;omega,by
      have:=K2.out.1 Dg.out.symm;rw[LA.out,Ast.al,Ast.al];exact this⟩
    | false =>
     go_wp2_with fail
     go_ret2
     exact⟨F6.out,.inl ⟨_,xs++[a],ks++[(p:Int)],_,O2,T2,rfl,P5.out,X2.out,L2.out,L0.out,HN5.out,by simp,by simp;omega,K2.out.2 Dg.out.symm⟩⟩
   ·obtain⟨g',rfl,hg1,hg2⟩:=m2
    have M2:=aa hg2;have HG:=aa (aK fj.out.size hg1);have K2:=aa k2;clear fr2 hg1 hg2 k2;go_wp2_with fail
    go_ret2
    exact⟨F2.out,.inr ⟨l,_,rfl,⟨g',rfl,HG.out,M2.out⟩,K2.out⟩⟩
def lT (wp:iQ) (mf:List aj→Bool×List aj):bR:=fun s K E=>s.xs.length≤100000∧∃m,m≤100000∧sC wp mf m s.ts s.n [] (fun xs ts=>K { s with xs:=s.xs++xs,ts:=ts,n:=s.n+Ast.al xs}) E
theorem RU {ops:Array Oper} {rest:List Oper} {o:Oper} {a:Act} {Q:Exit→Act→World→Prop} (w:World) (hgd:o.guard=none) (sl y:Operand)
  (ho:o.op=.call { callee:=.builtin .append,args:=#[sl,y],argTypes:=#[33,33]}) (b:Nat) (kv v:Value) (ks ls:List Int) (hs:a.eval sl=kv) (hown:rm w b kv ks) (hy:a.eval y=v) (hl:rm w b v ls) (hne:ls≠[])
  (h1:ks.length≤1000000) (h2:ls.length≤1000000) (hB:b+1≤w.heap.size)
  (h :∀g c w',rm w' b (.slice (some ⟨g,0,none⟩) (ks.length+ls.length) c) (ks++ls)→az (fun k=>kv.ownBlock=some k) w w'→(kv.ownBlock=some g∨w.heap.size≤g)→g<w'.heap.size→wpList Tryz.prog ops Q rest (a.put o.dst (.slice (some ⟨g,0,none⟩) (ks.length+ls.length) c)) w'):wpList Tryz.prog ops Q (o::rest) a w:=by
 obtain⟨i0,ng,hz0,hz1,hz2⟩:=info_parts Df;have h0:0<ls.length:=wu.2 hne;obtain⟨g,cap,rfl,_,_⟩:=hl.form h0;refine wpList_append_lies (P:=Tryz.prog) _ hgd sl y 33 ho (b+1) 3 i0 (.int .i64 0) 1 8 Tryz.underlying33 ng hz0 hz1 hz2 rfl (by omega) kv ks.length (ks.map (Value.int .i64)) hs hown ⟨g,0,none⟩ ls.length cap (ls.map (Value.int .i64)) hy (by simp)
  (fun j u hj=>hl.cells (g:=g) rfl j u hj) (fun u hu=>by obtain⟨z,_,rfl⟩:=jd.1 hu;rfl) h0 (by unfold maxLen;omega) (by omega) hB w.heap.size rfl ?_
 intro g cap w' h1 h2 h3 h5;refine h g cap w' ?_ ?_ (h3.imp id fun e=>by omega) h5
 ·unfold rm
  rw[bV,mP];exact h1
 ·exact az.uy h2 hown (by decide)
theorem EX {W W4:World} {b n:Nat} {On:Nat→Prop} {x:Nd} {nv kv:Value} (ha:W.heap[n]? = some (.cells (aP (x,nv,kv)).toArray 55 (0,0))) (hi:jD W b On x nv kv) (hat:On n) (hown :∀k,On k→b<k∧k<W.heap.size)
  (hf:az (fun k=>kv.ownBlock=some k) W W4) :
  W4.cell? ⟨n,6,none⟩=some kv∧W4.frozen? ⟨n,6,none⟩=false∧n<W4.heap.size∧(∀v,az (· = n) W4 (W4.setCell ⟨n,6,none⟩ v))∧∀(g m c:Nat) (ks:List Int),rm W4 b (.slice (some ⟨g,0,none⟩) m c) ks→kv.ownBlock=some g∨W.heap.size≤g →
   NU (W4.setCell ⟨n,6,none⟩ (.slice (some ⟨g,0,none⟩) m c)) b n (fun k=>On k∨k=g) { x with kids:=ks}:=by
 have hne:¬ kv.ownBlock=some n:=fun e=>by
  obtain⟨cur,hc⟩:=eM hi.kids e;rw[ha] at hc;simp at hc
 have qj:W4.heap[n]? = some (.cells (aP (x,nv,kv)).toArray 55 (0,0)):=(hf.block n (hown n hat).2 hne).trans ha;refine⟨by simp[World.cell?,qj,aP],by simp[World.frozen?,qj],(aI.1 qj).1,fun v=>az.vQ qj (by decide) 6 v,fun g m c ks hr hg=>?_⟩
 have dG:jD W4 b (fun k=>On k∨k=g) { x with kids:=ks} nv (.slice (some ⟨g,0,none⟩) m c):=⟨cS hi.names fun k hk=>(hf.block k (hi.names.lt k hk).2 (fun e=>by
  obtain⟨c1,h1⟩:=eM hi.names hk;obtain⟨c2,h2⟩:=eM hi.kids e;rw[h1] at h2;simp at h2)),hr,fun k hk=>(hi.on k hk).imp .inl hf.keeps,hi.nz,fun k hk=>.inr (by simpa[Value.ownBlock] using hk.symm)⟩
 have ri:=hr.lt g rfl;refine⟨⟨nv,_,ie qj _,dG.set qj 6 _⟩,.inl hat,fun k hk=>?_⟩
 rcases hk with hk|rfl
 ·exact⟨(hown k hk).1,by have:=(hown k hk).2;have:=hf.size;simp[World.setCell];omega⟩
 ·exact⟨by omega,by simp[World.setCell];omega⟩
theorem RV (b n g1 g2:Nat) (O:Nat→Prop) (T0:List Nd) (s:St) (K:St→Prop) (E:Int→Prop) (one more:Value) (wp:iQ) (mf:List aj→Bool×List aj) (w:World) (hr:Real w b n O T0 s)
  (b1:eB w O g1 #[one] 126) (b2:eB w O g2 #[more] 22) (h1:One w b O one wp) (h2:yB w b O more mf) (hk:lT wp mf s K E) :
  Calls Tryz.prog 144 #[.pointer (some ⟨n,0,none⟩),.pointer (some ⟨g1,0,none⟩),.pointer (some ⟨g2,0,none⟩)] w (bx b n O T0 K E w):=by
 obtain⟨Op,On,T,ks,hO,hd,hp,hn,hl,hc⟩:=hr.ex;have c1:=b1.cell 0;have c2:=b2.cell 0;obtain⟨hx,m,hm,hk⟩:=hk;have eOp:Ext O Op w:=fun k hk=>.inl ((hO k).2 (.inl hk))
 rw[←hc] at hk;have HR:=aa (aaD b Op s.ts T one more wp mf _ E m hm w hp (h1.later (az.refl _ _) eOp) (h2.later (az.refl _ _) eOp) hk);have JU:ks.length=s.xs.length:=hl.num;have HO:=aa hO;have HD:=aa hd;have HP:=aa hp;have HN:=aa hn;have HL:=aa hl;have HKS:=aa JU;have HC:=aa hc;have wQ:ks.length≤100000:=by omega
 clear hr hO hd hp hn hl hc b1 b2 h1 h2 hk eOp JU hx;go_enter Tryz.func144,Tryz.ntmps144
 go_wp2_with fail
 refine HR.out.mono ?_;rintro e w1 ⟨f1,h1⟩;have F1:=aa f1;have n1:=HN.out.kept f1 fun k hk h=>HD.out k h hk
 have N1:=aa n1;have jB:=n1.own n n1.at_;have UY:=n1.own;have Cn:=aa n1.at_;obtain⟨nv,kv,ha,oa⟩:=n1.ex;obtain⟨A6,k6,rfl,_⟩:=bB oa.kids;have c6:w1.cell? ⟨n,6,none⟩=some (.slice A6 ks.length k6):=by simp[World.cell?,ha,aP]
 have z6:w1.frozen? ⟨n,6,none⟩=false:=by simp[World.frozen?,ha]
 have HI:=aa oa;have HK:=aa (fun W4 hf=>EX (W4:=W4) ha oa n1.at_ UY hf)
 have N1:=aa n1;clear UY ha oa n1 c1 c2;rcases h1 with ⟨v,ys,ls,ay,Op',T',rfl,p1,x1,l1,r1,o1,ne1,acF,k1⟩ | ⟨l,er,rfl,m1,k1⟩
 ·have P1:=aa p1
  have X1:=aa x1;have L1:=aa l1;have R1:=aa r1;have O1:=aa o1;have NE:=aa ne1;have K1:=aa k1;obtain⟨Av,cv,rfl,_⟩:=bB r1;clear p1 x1 l1 r1 o1 ne1 k1 f1;go_wp2_with (at_builtin;refine RU _ rfl _ _ rfl b (.slice A6 ks.length k6) (.slice Av ls.length cv) ks ls rfl HI.out.kids rfl R1.out NE.out (by omega) (by omega) (by omega) ?_;intro g4 c4 w4 h4 f4 o4 l4;obtain⟨c64,z64,qj,aaE,AM⟩:=HK.out w4 f4;have Qj:=aa aaE;have HU:=aa (AM g4 _ c4 _ h4 o4);have F4:=aa f4;have O4:=aa o4;have L4:=aa l4;clear h4 f4 o4 l4 AM aaE)
  go_ret
  have hkO :∀k,(Value.slice A6 ks.length k6).ownBlock=some k→On k:=fun k hk=>HI.out.ok k hk
  have f4':az On w1 w4:=F4.out.mono hkO;have fO:az O w w1:=F1.out.mono fun k hk=>(HO.out k).2 (.inl hk)
  have Hu :∀k,On k→k<w.heap.size:=fun k hk=>(HN.out.own k hk).2
  have hg4:On g4∨w1.heap.size≤g4:=O4.out.imp (fun h=>hkO g4 h) id
  have hsz:w.heap.size≤w1.heap.size:=F1.out.size;have f5:az O w w4:=fO.trans f4' fun k hk=>.inl ((HO.out k).2 (.inr hk))
  have Xw :∀k,Op' k→¬ On k:=fun k hk h=>by
   rcases X1.out k hk with h1|h1
   ·exact HD.out k h1 h
   ·have:=Hu k h;omega
  have p5:PS w4 b Op' ay T':=P1.out.kept f4' Xw fun k hk=>fg (HN.out.own k hk).1
  have Qk:¬ Op' g4:=fun h=>by
   rcases hg4 with h1|h1
   ·exact Xw g4 h h1
   ·have:=(P1.out.own g4 h).2;omega
  refine⟨f5.trans (Qj.out _) (fun k hk=>.inl (hk▸(HO.out n).2 (.inr Cn.out))),.inl ⟨{ s with xs:=s.xs++ys,ts:=ay,n:=T.length+Ast.al ys},fun k=>Op' k∨(On k∨k=g4),rfl,⟨Op',fun k=>On k∨k=g4,T',ks++ls,fun k=>Iff.rfl,fun k hk h=>?_,?_,HU.out,HL.out.app L1.out,?_⟩,fun k hk=>?_,K1.out⟩⟩
  ·rcases h with h|rfl
   ·exact Xw k hk h
   ·exact Qk hk
  ·exact p5.kept (O1:=(· = n)) (Qj.out _) (fun k hk e=>Xw k hk (e▸Cn.out)) fun k e=>by omega
  ·exact L1.out.len
  ·rcases hk with hk|hk|rfl
   ·rcases X1.out k hk with h1|h1
    ·exact .inl ((HO.out k).2 (.inl h1))
    ·exact .inr h1
   ·exact .inl ((HO.out k).2 (.inr hk))
   ·rcases hg4 with h1|h1
    ·exact .inl ((HO.out k).2 (.inr h1))
    ·exact .inr (by omega)
 ·obtain⟨g',rfl,hg1,hg2⟩:=m1
  have M2:=aa hg2;have K2:=aa k1;have RW:g'≠n:=by have:=(HN.out.own n Cn.out).2;omega
  clear f1 hg2 k1;go_wp2_with (at_builtin;refine wpList_append_own_none rfl _ _ 33 rfl (b+1) 3 _ 1 Tryz.underlying33 (info_parts Df).choose_spec.1 _ ks.length _ rfl HI.out.kids rfl ?_)
  go_ret
  refine⟨(F1.out.mono (O1:=O) fun k hk=>(HO.out k).2 (.inl hk)).trans (N1.out.fr 6 _) (fun k hk=>.inl (hk▸(HO.out n).2 (.inr Cn.out))),.inr ⟨l,_,rfl,⟨g',rfl,hg1,?_⟩,K2.out⟩⟩
  exact(Below.heap_setCell _ _ _ g' RW).trans M2.out
theorem RX:(Tryz.prog.info? 55).map (fun i=>(i.zero,i.size,i.bytes))=some (some (.agg #[.int .i64 0,.int .i64 0,.int .i64 0,.int .i64 0,.string ⟨#[]⟩,.slice none 0 0,.slice none 0 0]),7,96):=by kernel_rfl
theorem eO (t:JT):(aP t).length=7:=rfl
theorem wZ {ops:Array Oper} {o:Oper} {a:Act} {K:Act→World→Prop} {Q:Exit→Act→World→Prop} {E:Prop} (w0 w1:World) (t:JT) (hgd:o.guard=none) (sl y:Operand)
  (ho:o.op=.call { callee:=.builtin .append,args:=#[sl,y],argTypes:=#[23,23]}) (b:Nat) (v:Value) (L:List JT) (hs:a.eval sl=v) (hown:w0.ownsRow (b+1) 55 7 v L.length (L.flatMap aP)) (dW :∀(i:Nat),i<w0.heap.size→w1.heap[i]? = w0.heap[i]?) (g:Nat) (hg:g=w0.heap.size) (hy:a.eval y=.slice (some ⟨g,0,none⟩) 1 1)
  (hz:w1.heap[g]? = some (.cells (aP t).toArray 55 (0,0))) (h1c :∀u∈aP t,u.oneCell'=true)
  (hlen:L.length≤1000000) (hB:b+1≤w0.heap.size) (hb1:Below w0.heap.size w0 w1)
  (h :∀g' c' w',w'.ownsRow (b+1) 55 7 (.slice (some ⟨g',0,none⟩) (L.length+1) c') (L.length+1) ((L++[t]).flatMap aP)→az (fun k=>v.ownBlock=some k) w0 w'→(v.ownBlock=some g'∨w0.heap.size≤g')→g' < w'.heap.size→K (a.put o.dst (.slice (some ⟨g',0,none⟩) (L.length+1) c')) w') :
  if Region.wanted o (yielded ops a.tmps)=true then Oper.wp Tryz.prog o a w1 K Q else E:=by
 subst hg;obtain⟨i0,ng,hz0,hz1,hz2⟩:=info_parts RX;have hown1:w1.ownsRow (b+1) 55 7 v L.length (L.flatMap aP):=cS hown fun k hk=>dW k (hown.lt k hk).2
 have hpl :∀j:Nat,(⟨w0.heap.size,0,none⟩:Addr).add j=⟨w0.heap.size,j,none⟩:=fun j=>by unfold Addr.add;split<;>simp_all
 refine step_append_lies (P:=Tryz.prog) w1 hgd sl y 23 ho (b+1) 55 i0 _ 7 96 Tryz.underlying23 ng hz0 hz1 hz2 rfl (by omega) v L.length (L.flatMap aP) hs hown1 ⟨w0.heap.size,0,none⟩ 1 1 (aP t) hy (eO t)
  (fun j u hj=>by rw[hpl];simpa[World.cell?,hz] using hj) h1c (by omega) (by unfold maxLen;omega) (by omega) (by have:=hb1.size;omega) w1.heap.size rfl ?_
 intro g' c' w' r1 r2 r3 r4;refine h g' c' w' ?_ ?_ (r3.imp id fun e=>by have:=hb1.size;omega) r4
 ·rw[pQ]
  simpa using r1
 ·exact(az.ae (O:=fun k=>v.ownBlock=some k) hb1).trans (az.uy r2 hown1 (by decide)) (Ext.refl _ _)
theorem dR.node {T0 T:List Nd} {xs:List Ast} {ks:List Int} (h:dR T0 T xs ks) (x:Nd):dR T0 (T++[{ x with kids:=ks}]) [.mk x xs] [(T.length:Int)]:=by
 obtain⟨p1,js,r1,q1⟩:=h;refine⟨p1.trans (List.prefix_append _ _),T.length::js,?_,?_⟩
 ·unfold bj
  refine⟨T.length,[],T.length::js,[],rfl,?_,by unfold bj;exact⟨rfl,rfl⟩,by simp⟩
  unfold gO;exact⟨{ x with kids:=ks},js,by simp,rfl,bj.more (ux (List.prefix_append _ _)) xs ks js r1,rfl⟩
 ·have h1:=p1.length_le
  rw[bV,mM,range_split T0.length T.length (T.length+1) h1 (by omega),show T.length+1-T.length=1 by omega]
  exact(List.Perm.cons _ q1).trans (List.perm_append_comm (l₁:=[T.length]))
theorem PS.more {W:World} {b:Nat} {O On:Nat→Prop} {ts:List aj} {T:List Nd} {x:Nd} {nv kv:Value} (h:PS W b O ts T) (hi:jD W b On x nv kv) (Hu :∀k,On k→b<k∧k<W.heap.size) :
  ∃(v:Value) (L:List JT),L.length=T.length∧W.cell? ⟨b,2,none⟩=some v∧W.frozen? ⟨b,2,none⟩=false∧W.ownsRow (b+1) 55 7 v L.length (L.flatMap aP)∧(∀k,v.ownBlock=some k→O k∧k≠b)∧b+1≤W.heap.size ∧
   ∀(W6:World) (g c:Nat),W6.ownsRow (b+1) 55 7 (.slice (some ⟨g,0,none⟩) (L.length+1) c) (L.length+1) ((L++[(x,nv,kv)]).flatMap aP)→az (fun k=>v.ownBlock=some k) W W6→(v.ownBlock=some g∨W.heap.size≤g)→g<W6.heap.size →
    W6.cell? ⟨b,2,none⟩=some v∧W6.frozen? ⟨b,2,none⟩=false∧az (· = b) W6 (W6.setCell ⟨b,2,none⟩ (.slice (some ⟨g,0,none⟩) (L.length+1) c))∧PS (W6.setCell ⟨b,2,none⟩ (.slice (some ⟨g,0,none⟩) (L.length+1) c)) b (fun k=>O k∨On k∨k=g) ts (T++[x]):=by
 obtain⟨TS,i,g0,c0,v,L,a1,a2,a3,a4,a5,a6,a7⟩:=h.ex;have hlt:=(aI.1 a1).1;have ZL :∀k,v.ownBlock=some k→k≠b:=fun k hk e=>by have:=(a6.row.lt k hk).1;omega
 refine⟨v,L,by rw[←a7,cN],by simp[World.cell?,a1],by simp[World.frozen?,a1],a6.row,fun k hk=>⟨a6.own k hk,ZL k hk⟩,hlt,fun W6 g c hr hf hg ri=>?_⟩
 have Co:W6.heap[b]? = some (.cells #[.slice (some ⟨g0,0,none⟩) TS.length c0,.int .i64 (i:Int),v] 71 (0,0)):=(hf.block b hlt (fun e=>ZL b e rfl)).trans a1
 have hgb:g≠b:=by
  rcases hg with hg|hg
  ·exact ZL g hg
  ·omega
 have hne :∀k,k≠b→(W6.setCell ⟨b,2,none⟩ (.slice (some ⟨g,0,none⟩) (L.length+1) c)).heap[k]? = W6.heap[k]?:=fun k hk=>Below.heap_setCell _ _ _ k hk
 have hst :∀{k},EI W k→EI (W6.setCell ⟨b,2,none⟩ (.slice (some ⟨g,0,none⟩) (L.length+1) c)) k:=fun hk=>(az.vQ Co (show(71:Nat)≠9 by decide) 2 (.slice (some ⟨g,0,none⟩) (L.length+1) c)).keeps (hf.keeps hk)
 have hsz:(W6.setCell ⟨b,2,none⟩ (.slice (some ⟨g,0,none⟩) (L.length+1) c)).heap.size=W6.heap.size:=by simp[World.setCell]
 have Hb :∀k,v.ownBlock=some k→∃cur,W.heap[k]? = some (.cells cur 55 (0,0)):=fun k hk=>eM a6.row hk
 have hrow :∀{e:TypeId} {s n:Nat} {u:Value} {xs:List Value},W.ownsRow (b+1) e s u n xs→e≠55→(W6.setCell ⟨b,2,none⟩ (.slice (some ⟨g,0,none⟩) (L.length+1) c)).ownsRow (b+1) e s u n xs:=fun{e s n u xs} h he=>cS h fun k hk=>by
  rw[hne k (by have:=(h.lt k hk).1;omega)]
  refine hf.block k (h.lt k hk).2 (fun e'=>?_)
  obtain⟨c1,h1⟩:=Hb k e';obtain⟨c2,h2⟩:=eM h hk;rw[h1] at h2;injection h2 with h2;injection h2 with _ h2;exact he h2.symm
 refine⟨by simp[World.cell?,Co],by simp[World.frozen?,Co],az.vQ Co (by decide) 2 _,⟨⟨TS,i,g0,c0,_,L++[(x,nv,kv)],(ie Co _),?_,a3,a4,a5,⟨?_,fun k hk=>.inr (.inr (by simpa[Value.ownBlock] using hk.symm)),fun t ht=>?_⟩,by rw[mP,a7];rfl⟩,h.fin,.inl h.at_,fun k hk=>?_⟩⟩
 ·exact a2.kept ((hne g0 (by omega)).trans (hf.block g0 (by omega) (fun e=>by have:=(a6.row.lt g0 e).1;omega))) (by rw[hsz];exact hf.size)
 ·have:(L++[(x,nv,kv)]).length=L.length+1:=by simp
  rw[this];exact cS hr fun k hk=>hne k (by
   have:k=g:=by simpa[Value.ownBlock] using hk.symm
   rw[this];exact hgb)
 ·rcases dd.1 ht with ht|ht
  ·have hn:=a6.each t ht
   exact⟨hrow hn.names (by decide),hrow hn.kids (by decide),fun k hk=>(hn.on k hk).imp .inl hst,hn.nz,fun k hk=>.inl (hn.ok k hk)⟩
  ·obtain rfl:=bP.1 ht
   exact⟨hrow hi.names (by decide),hrow hi.kids (by decide),fun k hk=>(hi.on k hk).imp (fun h=>.inr (.inl h)) hst,hi.nz,fun k hk=>.inr (.inl (hi.ok k hk))⟩
 ·rw[hsz]
  have:=hf.size;rcases hk with hk|hk|rfl
  ·have:=h.own k hk;omega
  ·have:=Hu k hk;omega
  ·have:=(hr.lt k rfl).1;omega
theorem Xx {w:World} {b:Nat} {On:Nat→Prop} {x:Nd} {nv kv:Value} (hi:jD w b On x nv kv) (Hu :∀k,On k→b<k∧k<w.heap.size) (hb:b<w.heap.size) :
  NU (w.alloc (.cells (aP (x,nv,kv)).toArray 55)) b w.heap.size (fun k=>On k∨k=w.heap.size) x :=
 ⟨⟨nv,kv,World.alloc_heap_new w _,hi.kept (O1:=fun _=>False) ((az.refl _ _).alloc _) (fun _ _ h=>h) (fun g hg=>.inl hg)⟩,.inr rfl,fun k hk=>by
  rcases hk with hk|rfl
  ·have:=Hu k hk;simp;omega
  ·simp;exact hb⟩
theorem EY {W:World} {b n:Nat} {Op On:Nat→Prop} {T0 T:List Nd} {h:Nd} {xs:List Ast} {ks:List Int} {ts:List aj} (hp:PS W b Op ts T) (hn:NU W b n On { h with kids:=ks}) (hd :∀k,Op k→¬ On k) (hl:dR T0 T xs ks):Real W b n (fun k=>Op k∨On k) T0 ⟨h,xs,ts,T.length⟩ :=
 ⟨Op,On,T,ks,fun _=>Iff.rfl,hd,hp,hn,hl,rfl⟩
theorem xc {a b:Int} {v:Value} (h:a=b):Ending.returned (.tuple #[.int .i64 a,v])=.returned (.tuple #[.int .i64 b,v]):=by rw[h]
theorem yC (b:Nat) (Op On:Nat→Prop) (t:aj) (ts:List aj) (T0 T:List Nd) (x:Nd) (l:Int) (xs:List Ast) (ks:List Int) (nv kv pv:Value) (cD:List bR) (R:Except Int (Ast×List aj)→Prop) (w:World)
  (hp:PS w b Op (t::ts) T) (hi:jD w b On { x with kids:=ks} nv kv) (hd :∀k,Op k→¬ On k) (Hu :∀k,On k→b<k∧k<w.heap.size) (hl:dR T0 T xs ks) (EZ:aN w b (fun k=>Op k∨On k) pv cD) (h0:(x.line=0∧l=t.2.1)∨(x.line≠0∧l=x.line))
  (hk:aJ cD ⟨{ x with line:=l},xs,t::ts,T.length⟩ (fun s=>s.n≤200000∧R (.ok (.mk s.h s.xs,s.ts))) (fun l=>R (.error l))) :
  Calls Tryz.prog 19 #[.pointer (some ⟨b,0,none⟩),cO x nv kv,pv] w (aF b (fun k=>Op k∨On k) T0 R w):=by
 obtain⟨Av,mv,rfl⟩:=EZ.form;obtain⟨An,cn,rfl,_⟩:=bB hi.names;obtain⟨Ak,ck,rfl,_⟩:=bB hi.kids;obtain⟨t0,t1,t2,t3⟩:=t;obtain⟨x0,x1,x2,x3,x4,x5,x6⟩:=x;have HP:=aa hp;have HI:=aa hi;have hbl:b<w.heap.size:=(hp.own b hp.at_).2;have HU:=aa (Xx (x:=⟨x0,x1,x2,x3,x4,x5,ks⟩) hi Hu hbl);have HA:=aa (fun W hW=>cj b Op (t0,t1,t2,t3) ts T W hW)
 unfold fS at HA;dsimp only at HA
 have F1:=LU t0 t1 t2 (bb t3);generalize bb t3=S at *;have HPT:=aa EZ;have HK:=aa hk;have HL:=aa hl;have HD:=aa hd;have HON:=aa Hu;have rq :∀k,Op k→k<w.heap.size:=fun k hk=>(hp.own k hk).2
 have L7:=aa rq;have hEx:Ext (fun k=>Op k∨On k) (fun k=>Op k∨(On k∨k=w.heap.size)) w:=fun k hk=>by
  rcases hk with hk|hk|rfl
  ·exact .inl (.inl hk)
  ·exact .inl (.inr hk)
  ·exact .inr (ah _)
 have ZM:=aa hEx;have hd3 :∀k,Op k→¬ (On k∨k=w.heap.size):=fun k hk h=>by
  rcases h with h|rfl
  ·exact hd k hk h
  ·have:=rq _ hk;omega
 have HD3:=aa hd3;clear hp hi EZ hk hl hd Hu rq hEx hd3;unfold cO;dsimp only at h0 ⊢
 rcases h0 with ⟨h1,h2⟩ | ⟨h1,h2⟩
 ·subst h1 h2
  have fa:az (fun k=>Op k∨On k) w (w.alloc (.cells #[.int .i64 x0,.int .i64 0,.int .i64 x2,.int .i64 x3,.string x4,.slice An x5.length cn,.slice Ak ks.length ck] 55)):=(az.refl _ _).alloc _
  have HFA:=aa fa;have P1:=aa (HP.out.below ((Below.refl _ _).alloc (ah _) (.cells #[.int .i64 x0,.int .i64 0,.int .i64 x2,.int .i64 x3,.string x4,.slice An x5.length cn,.slice Ak ks.length ck] 55)));clear fa;go_enter Tryz.func19,Tryz.ntmps19
  go_wp2_with fail
  refine(HA.out _ P1.out).mono ?_;rintro e w2 ⟨rfl,b2⟩;have U2:=aa (HU.out.below b2);have P2:=aa (P1.out.below b2);obtain⟨nv2,kv2,hc2,_,hz2⟩:=U2.out.cells;have c1:=hc2.c1;have z1:=hz2 1;have FR2:=aa (HFA.out.trans (az.ae (O:=fun k=>Op k∨On k) b2) (Ext.refl _ _))
  have jB:w.heap.size<w2.heap.size:=by have:=b2.size;simp at this;omega
  clear b2 hc2 hz2;go_wp2_with fail
  have RL:=aa (EY (h:=⟨x0,l,x2,x3,x4,x5,x6⟩) (P2.out.kept (O1:=(· = w.heap.size)) (U2.out.fr 1 (.int .i64 l)) (fun k hk e=>by have:=L7.out k hk;omega) fun k e=>by omega)
   (U2.out.qh (y:=⟨x0,l,x2,x3,x4,x5,ks⟩) 1 (.int .i64 l) rfl rfl fun _ _=>rfl) HD3.out HL.out)
  have RY:=aa (FR2.out.trans (U2.out.fr 1 (.int .i64 l)) (fun k hk=>.inr (Nat.le_of_eq hk.symm)))
  clear P2 U2 FR2 c1 z1;generalize w2.setCell ⟨w.heap.size,1,none⟩ (.int .i64 l)=w3 at *;refine(uu b w.heap.size _ T0 _ _ _ _ cD w3 RL.out (HPT.out.later RY.out ZM.out) HK.out).mono ?_;rintro e w4 ⟨f4,h4⟩;have Qj:=aa (RY.out.trans f4 ZM.out);rcases h4 with ⟨s4,O4,rfl,r4,e4,k4,kR⟩ | ⟨l4,v4,rfl,⟨g',rfl,hg1,hg2⟩,k4⟩
  ·obtain⟨Op4,On4,T4,Hv,UZ,hd4,fR,qj,hl4,W8⟩:=r4.ex
   have E4:=aa (ZM.out.trans e4 RY.out.size);obtain⟨nv4,kv4,yD,L9⟩:=qj.ex;obtain⟨Ma,Mb,rfl,_⟩:=bB L9.names;obtain⟨RZ,R9,rfl,_⟩:=bB L9.kids;obtain⟨s0,s1,s2,s3⟩:=s4;obtain⟨y0,y1,y2,y3,y4,y5,y6⟩:=s0;dsimp only at fR qj yD L9 hl4 W8 kR k4 Ma Mb
   have acG:w.heap.size<w4.heap.size:=(qj.own _ qj.at_).2;have q0:w4.cell? ⟨w.heap.size,0,none⟩=some (.int .i64 y0):=by simp[World.cell?,yD,aP]
   have q1:w4.cell? ⟨w.heap.size,1,none⟩=some (.int .i64 y1):=by simp[World.cell?,yD,aP]
   have q2:w4.cell? ⟨w.heap.size,2,none⟩=some (.int .i64 y2):=by simp[World.cell?,yD,aP]
   have q3:w4.cell? ⟨w.heap.size,3,none⟩=some (.int .i64 y3):=by simp[World.cell?,yD,aP]
   have q4:w4.cell? ⟨w.heap.size,4,none⟩=some (.string y4):=by simp[World.cell?,yD,aP]
   have q5:w4.cell? ⟨w.heap.size,5,none⟩=some (.slice Ma y5.length Mb):=by simp[World.cell?,yD,aP]
   have q6:w4.cell? ⟨w.heap.size,6,none⟩=some (.slice RZ Hv.length R9):=by simp[World.cell?,yD,aP]
   obtain⟨v5,L5,xd,cb2,fb2,hrow,hvo,hB,gh⟩:=fR.more L9 qj.own;obtain⟨Av5,cv5,rfl,_⟩:=bB hrow;have acH:b<w4.heap.size:=by omega
   have L0:=aa hrow;have HV5:=aa hvo;have HM5:=aa gh;have HLL:=aa xd;have HL4:=aa hl4;have HO4:=aa UZ;have OB:=aa fR.at_;have KR:=aa kR;have hL5:L5.length≤200000:=by omega
   clear f4 r4 e4 UZ hd4 fR qj hl4 yD L9 hrow hvo gh xd kR k4 W8;go_wp2_with fail
   have HZ:Hid ((w4.alloc (.cells #[.int .i64 y0,.int .i64 y1,.int .i64 y2,.int .i64 y3,.string y4,.slice Ma y5.length Mb,.slice RZ Hv.length R9] 55)).drew.heap[w4.heap.size]? = some (.cells #[.int .i64 y0,.int .i64 y1,.int .i64 y2,.int .i64 y3,.string y4,.slice Ma y5.length Mb,.slice RZ Hv.length R9] 55 (0,0))):=aa (World.alloc_heap_new w4 _);go_region_law ((refine wZ w4 _ (⟨y0,y1,y2,y3,y4,y5,Hv⟩,.slice Ma y5.length Mb,.slice RZ Hv.length R9) (by rfl) _ _ (by rfl) b (.slice Av5 L5.length cv5) L5 (by rfl) L0.out (fun i hi=>Below.heap_alloc w4 _ i hi) w4.heap.size rfl (by rfl) HZ.out (by intro u hu;simp[aP] at hu;rcases hu with rfl|rfl|rfl|rfl|rfl|rfl|rfl<;>rfl) (by omega) hB ⟨rfl,rfl,rfl,by simp[World.drew],fun k hk=>Below.heap_alloc w4 _ k hk⟩ ?_;intro g6 c6 w6 r6 f6 o6 l6;have Mc:=HM5.out w6 g6 c6 r6 f6 o6 l6;have cb6:=Mc.1;have fb6:=Mc.2.1;have R6:=aa Mc.2.2.1;have P6:=aa Mc.2.2.2;have F6:=aa f6;have O6:=aa o6;clear r6 f6 o6 l6 Mc))
   all_goals
    have Ql:w4.heap.size≤w6.heap.size:=F6.out.size;have acI:b<w6.heap.size:=by omega
    go_wp2
    go_ret2
    have hop :∀k,Op4 k→O4 k:=fun k hk=>(HO4.out k).2 (.inl hk)
    have hon :∀k,On4 k→O4 k:=fun k hk=>(HO4.out k).2 (.inr hk)
    have f7:az O4 w4 (w6.setCell ⟨b,2,none⟩ (.slice (some ⟨g6,0,none⟩) (L5.length+1) c6)):=(F6.out.mono (O1:=O4) fun k hk=>hop k (HV5.out k hk).1).trans R6.out (fun k hk=>.inl (hk▸hop b OB.out))
    refine⟨Qj.out.trans f7 E4.out,.inl ⟨T4.length,.mk ⟨y0,y1,y2,y3,y4,y5,y6⟩ s1,s2,fun k=>Op4 k∨On4 k∨k=g6,T4++[⟨y0,y1,y2,y3,y4,y5,Hv⟩],xc (by have:=HLL.out;omega),P6.out,fun k hk=>?_,HL4.out.node ⟨y0,y1,y2,y3,y4,y5,y6⟩,KR.out⟩⟩
    rcases hk with hk|hk|rfl
    ·exact E4.out k (hop k hk)
    ·exact E4.out k (hon k hk)
    ·rcases O6.out with h|h
     ·exact E4.out _ (hop _ (HV5.out _ h).1)
     ·exact .inr (by have:=Qj.out.size;omega)
  ·have M2:=aa hg2
   have HG:=aa (aK RY.out.size hg1);have K4:=aa k4;clear f4 hg1 hg2 k4;go_wp2_with fail
   go_ret2
   exact⟨Qj.out,.inr ⟨l4,_,_,rfl,⟨g',rfl,HG.out,M2.out⟩,K4.out⟩⟩
 ·subst h2
  have g1:(l == 0)=false:=aE.2 h1;have fa:az (fun k=>Op k∨On k) w (w.alloc (.cells #[.int .i64 x0,.int .i64 l,.int .i64 x2,.int .i64 x3,.string x4,.slice An x5.length cn,.slice Ak ks.length ck] 55)):=(az.refl _ _).alloc _
  have RY:=aa fa;have P1:=aa (HP.out.below ((Below.refl _ _).alloc (ah _) (.cells #[.int .i64 x0,.int .i64 l,.int .i64 x2,.int .i64 x3,.string x4,.slice An x5.length cn,.slice Ak ks.length ck] 55)));have RL:=aa (EY (h:=⟨x0,l,x2,x3,x4,x5,x6⟩) P1.out HU.out HD3.out HL.out);clear fa h1 P1 HU;go_enter Tryz.func19,Tryz.ntmps19
  go_wp2_with fail
  generalize w.alloc (.cells #[.int .i64 x0,.int .i64 l,.int .i64 x2,.int .i64 x3,.string x4,.slice An x5.length cn,.slice Ak ks.length ck] 55)=w3 at *;refine(uu b w.heap.size _ T0 _ _ _ _ cD w3 RL.out (HPT.out.later RY.out ZM.out) HK.out).mono ?_;rintro e w4 ⟨f4,h4⟩;have Qj:=aa (RY.out.trans f4 ZM.out);rcases h4 with ⟨s4,O4,rfl,r4,e4,k4,kR⟩ | ⟨l4,v4,rfl,⟨g',rfl,hg1,hg2⟩,k4⟩
  ·obtain⟨Op4,On4,T4,Hv,UZ,hd4,fR,qj,hl4,W8⟩:=r4.ex
   have E4:=aa (ZM.out.trans e4 RY.out.size);obtain⟨nv4,kv4,yD,L9⟩:=qj.ex;obtain⟨Ma,Mb,rfl,_⟩:=bB L9.names;obtain⟨RZ,R9,rfl,_⟩:=bB L9.kids;obtain⟨s0,s1,s2,s3⟩:=s4;obtain⟨y0,y1,y2,y3,y4,y5,y6⟩:=s0;dsimp only at fR qj yD L9 hl4 W8 kR k4 Ma Mb
   have acG:w.heap.size<w4.heap.size:=(qj.own _ qj.at_).2;have q0:w4.cell? ⟨w.heap.size,0,none⟩=some (.int .i64 y0):=by simp[World.cell?,yD,aP]
   have q1:w4.cell? ⟨w.heap.size,1,none⟩=some (.int .i64 y1):=by simp[World.cell?,yD,aP]
   have q2:w4.cell? ⟨w.heap.size,2,none⟩=some (.int .i64 y2):=by simp[World.cell?,yD,aP]
   have q3:w4.cell? ⟨w.heap.size,3,none⟩=some (.int .i64 y3):=by simp[World.cell?,yD,aP]
   have q4:w4.cell? ⟨w.heap.size,4,none⟩=some (.string y4):=by simp[World.cell?,yD,aP]
   have q5:w4.cell? ⟨w.heap.size,5,none⟩=some (.slice Ma y5.length Mb):=by simp[World.cell?,yD,aP]
   have q6:w4.cell? ⟨w.heap.size,6,none⟩=some (.slice RZ Hv.length R9):=by simp[World.cell?,yD,aP]
   obtain⟨v5,L5,xd,cb2,fb2,hrow,hvo,hB,gh⟩:=fR.more L9 qj.own;obtain⟨Av5,cv5,rfl,_⟩:=bB hrow;have acH:b<w4.heap.size:=by omega
   have L0:=aa hrow;have HV5:=aa hvo;have HM5:=aa gh;have HLL:=aa xd;have HL4:=aa hl4;have HO4:=aa UZ;have OB:=aa fR.at_;have KR:=aa kR;have hL5:L5.length≤200000:=by omega
   clear f4 r4 e4 UZ hd4 fR qj hl4 yD L9 hrow hvo gh xd kR k4 W8;go_wp2_with fail
   have HZ:Hid ((w4.alloc (.cells #[.int .i64 y0,.int .i64 y1,.int .i64 y2,.int .i64 y3,.string y4,.slice Ma y5.length Mb,.slice RZ Hv.length R9] 55)).drew.heap[w4.heap.size]? = some (.cells #[.int .i64 y0,.int .i64 y1,.int .i64 y2,.int .i64 y3,.string y4,.slice Ma y5.length Mb,.slice RZ Hv.length R9] 55 (0,0))):=aa (World.alloc_heap_new w4 _);go_region_law ((refine wZ w4 _ (⟨y0,y1,y2,y3,y4,y5,Hv⟩,.slice Ma y5.length Mb,.slice RZ Hv.length R9) (by rfl) _ _ (by rfl) b (.slice Av5 L5.length cv5) L5 (by rfl) L0.out (fun i hi=>Below.heap_alloc w4 _ i hi) w4.heap.size rfl (by rfl) HZ.out (by intro u hu;simp[aP] at hu;rcases hu with rfl|rfl|rfl|rfl|rfl|rfl|rfl<;>rfl) (by omega) hB ⟨rfl,rfl,rfl,by simp[World.drew],fun k hk=>Below.heap_alloc w4 _ k hk⟩ ?_;intro g6 c6 w6 r6 f6 o6 l6;have Mc:=HM5.out w6 g6 c6 r6 f6 o6 l6;have cb6:=Mc.1;have fb6:=Mc.2.1;have R6:=aa Mc.2.2.1;have P6:=aa Mc.2.2.2;have F6:=aa f6;have O6:=aa o6;clear r6 f6 o6 l6 Mc))
   all_goals
    have Ql:w4.heap.size≤w6.heap.size:=F6.out.size;have acI:b<w6.heap.size:=by omega
    go_wp2
    go_ret2
    have hop :∀k,Op4 k→O4 k:=fun k hk=>(HO4.out k).2 (.inl hk)
    have hon :∀k,On4 k→O4 k:=fun k hk=>(HO4.out k).2 (.inr hk)
    have f7:az O4 w4 (w6.setCell ⟨b,2,none⟩ (.slice (some ⟨g6,0,none⟩) (L5.length+1) c6)):=(F6.out.mono (O1:=O4) fun k hk=>hop k (HV5.out k hk).1).trans R6.out (fun k hk=>.inl (hk▸hop b OB.out))
    refine⟨Qj.out.trans f7 E4.out,.inl ⟨T4.length,.mk ⟨y0,y1,y2,y3,y4,y5,y6⟩ s1,s2,fun k=>Op4 k∨On4 k∨k=g6,T4++[⟨y0,y1,y2,y3,y4,y5,Hv⟩],xc (by have:=HLL.out;omega),P6.out,fun k hk=>?_,HL4.out.node ⟨y0,y1,y2,y3,y4,y5,y6⟩,KR.out⟩⟩
    rcases hk with hk|hk|rfl
    ·exact E4.out k (hop k hk)
    ·exact E4.out k (hon k hk)
    ·rcases O6.out with h|h
     ·exact E4.out _ (hop _ (HV5.out _ h).1)
     ·exact .inr (by have:=Qj.out.size;omega)
  ·have M2:=aa hg2
   have HG:=aa (aK RY.out.size hg1);have K4:=aa k4;clear f4 hg1 hg2 k4;go_wp2_with fail
   go_ret2
   exact⟨Qj.out,.inr ⟨l4,_,_,rfl,⟨g',rfl,HG.out,M2.out⟩,K4.out⟩⟩
theorem aF.sub {b:Nat} {O O':Nat→Prop} {T0:List Nd} {R:Except Int (Ast×List aj)→Prop} {w:World} {e:Ending} {w':World} (h:aF b O T0 R w e w') (hO :∀k,O k→O' k):aF b O' T0 R w e w':=by
 obtain⟨h1,h2⟩:=h;refine⟨h1.mono hO,h2.imp ?_ id⟩;rintro⟨p,a,ts,O2,T,e1,p1,x1,l1,k1⟩;exact⟨p,a,ts,O2,T,e1,p1,fun k hk=>(x1 k hk).imp (hO k) id,l1,k1⟩
theorem aF.after {b:Nat} {O:Nat→Prop} {T0:List Nd} {R:Except Int (Ast×List aj)→Prop} {w w1:World} {e:Ending} {w':World} (h:aF b O T0 R w1 e w') (hf:az O w w1):aF b O T0 R w e w':=by
 obtain⟨h1,h2⟩:=h;refine⟨hf.trans h1 (Ext.refl _ _),h2.imp ?_ ?_⟩
 ·rintro⟨p,a,ts,O2,T,e1,p1,x1,l1,k1⟩
  exact⟨p,a,ts,O2,T,e1,p1,(Ext.refl O w).trans x1 hf.size,l1,k1⟩
 ·rintro⟨l,v,er,e1,⟨g,m1,m2,m3⟩,k⟩
  exact⟨l,v,er,e1,⟨g,m1,aK hf.size m2,m3⟩,k⟩
theorem aF.ret {b:Nat} {O:Nat→Prop} {T0:List Nd} {R:Except Int (Ast×List aj)→Prop} {w:World} {e:Ending} {w':World} (h:aF b O T0 R w e w') :∃v er,e=.returned (.tuple #[v,er]):=by
 rcases h.2 with ⟨p,_,_,_,_,e1,_⟩ | ⟨_,v,er,e1,_⟩
 ·exact⟨_,_,e1⟩
 ·exact⟨v,er,e1⟩
theorem yE (b:Nat) (O:Nat→Prop) (f1 f2:FuncId) (kz vT ky CV:Array Value) (wp:iQ) (mf:List aj→Bool×List aj) (w:World) (h1:One w b O (.func (.func f1) kz vT) wp) (h2:yB w b O (.func (.func f2) ky CV) mf) (hO :∀k,O k→k<w.heap.size) :
  Calls Tryz.prog 86 #[.func (.func f1) kz vT,.func (.func f2) ky CV] w (ij b O (lT wp mf) w):=by
 have H1:=aa h1;have H2:=aa h2;have HO:=aa hO;clear h1 h2 hO;go_enter Tryz.func86,Tryz.ntmps86
 go_wp2
 go_ret
 refine⟨_,rfl,((Below.refl _ _).alloc (ah _) _).alloc (by simp) _,?_,_,_,_,rfl⟩
 intro W1 O1 T0 s n K E hf he hr hk;have fa:az O w (w.alloc (.cells #[.func (.func f1) kz vT] 126)):=(az.refl _ _).alloc _;have fb:=(az.refl O (w.alloc (.cells #[.func (.func f1) kz vT] 126))).alloc (.cells #[.func (.func f2) ky CV] 22);have e1:=eB.new w O HO.out #[.func (.func f1) kz vT] 126;have e2:=eB.new (w.alloc (.cells #[.func (.func f1) kz vT] 126)) O (fun k hk=>by have:=HO.out k hk;simp;omega) #[.func (.func f2) ky CV] 22
 rw[ao] at e2;have o1:=(H1.out.later fa (Ext.refl _ _)).later fb (Ext.refl _ _);have o2:=(H2.out.later fa (Ext.refl _ _)).later fb (Ext.refl _ _);exact⟨144,_,_,rfl,enters_of Tryz.func144 (by kernel_rfl) rfl,RV b n _ _ O1 T0 s K E _ _ wp mf W1 hr ((e1.later fb (Ext.refl _ _)).later hf he) (e2.later hf he) (o1.later hf he) (o2.later hf he) hk⟩
def nD:List aj→Bool×List aj:=fun ts=>(false,ts)
def dm (wp:iQ):bR:=lT wp nD
theorem Sa (w:World) (b:Nat) (O:Nat→Prop):yB w b O (.func (.func 87) #[] #[]) nD:=by
 intro W1 O1 T ts _ _ hp;refine⟨87,_,_,rfl,enters_of Tryz.func87 (by kernel_rfl) rfl,?_⟩
 show Calls Tryz.prog 87 #[] W1 _
 have HP:=aa hp;clear hp;go_enter Tryz.func87,Tryz.ntmps87
 go_wp2
 go_ret
 exact⟨rfl,HP.out,az.refl _ _⟩
theorem AN (b:Nat) (O:Nat→Prop) (f1:FuncId) (kz vT:Array Value) (wp:iQ) (w:World) (h1:One w b O (.func (.func f1) kz vT) wp) (hO :∀k,O k→k<w.heap.size) :
  Calls Tryz.prog 43 #[.func (.func f1) kz vT] w (ij b O (dm wp) w):=by
 have HC:=aa (yE b O f1 87 kz vT #[] #[] wp nD w h1 (Sa w b O) hO);clear h1 hO;go_enter Tryz.func43,Tryz.ntmps43
 go_wp2_with fail
 refine HC.out.mono ?_;rintro e w1 ⟨v,rfl,h2⟩;have H2:=aa h2;clear h2;go_wp2_with fail
 go_ret
 exact⟨_,rfl,H2.out⟩
def dI (x:Nd) (cD:List bR):iQ:=fun ts n K E=>∃t r l,ts=t::r∧((x.line=0∧l=t.2.1)∨(x.line≠0∧l=x.line))∧aJ cD ⟨{ x with line:=l},[],ts,n⟩ (fun s=>s.n≤200000∧K (.mk s.h s.xs) s.ts) E
def zt (W:World) (b:Nat) (xs:List ByteArray) (nv:Value):Prop:=W.ownsRow (b+1) 9 1 nv xs.length (xs.map Value.string)∧∀g,nv.ownBlock=some g→EI W g∧xs≠[]
theorem zt.later {W W':World} {b:Nat} {O:Nat→Prop} {xs:List ByteArray} {nv:Value} (h:zt W b xs nv) (hf:az O W W'):zt W' b xs nv:=⟨cS h.1 fun g hg=>hf.str g (h.2 g hg).1,fun g hg=>⟨hf.keeps (h.2 g hg).1,(h.2 g hg).2⟩⟩
theorem zt.nil (W:World) (b:Nat):zt W b [] (.slice none 0 0):=⟨World.ownsRow_nil _ _ _ _,fun g hg=>by simp[Value.ownBlock] at hg⟩
theorem zt.nd {W:World} {b:Nat} {x:Nd} {nv:Value} (h:zt W b x.names nv):jD W b (fun _=>False) { x with kids:=[]} nv (.slice none 0 0):=⟨h.1,World.ownsRow_nil _ _ _ _,fun g hg=>.inr (h.2 g hg).1,fun g hg=>(h.2 g hg).2,fun g hg=>by simp[Value.ownBlock] at hg⟩
theorem Sb (b g1 g2 g3:Nat) (O:Nat→Prop) (ts:List aj) (T:List Nd) (x:Nd) (nv pv:Value) (cD:List bR) (K:Ast→List aj→Prop) (E:Int→Prop) (w:World) (hp:PS w b O ts T) (hn:zt w b x.names nv)
  (b1:eB w O g1 #[.pointer (some ⟨b,0,none⟩)] 116) (b2:eB w O g2 (aP (x,nv,.slice none 0 0)).toArray 55) (b3:eB w O g3 #[pv] 117) (EZ:aN w b O pv cD) (hk:dI x cD ts T.length K E) :
  Calls Tryz.prog 83 #[.pointer (some ⟨g1,0,none⟩),.pointer (some ⟨g2,0,none⟩),.pointer (some ⟨g3,0,none⟩)] w (aF b O T (RK K E) w):=by
 obtain⟨t,r,l,rfl,hl,hk⟩:=hk;obtain⟨An,cn,rfl,_⟩:=bB hn.1;have HN:=aa (yC b O (fun _=>False) t r T T x l [] [] _ (.slice none 0 0) pv cD (RK K E) w hp hn.nd (fun _ _ h=>h) (fun _ h=>h.elim) (dR.nil T) (EZ.later (az.refl _ _) (fun k hk=>.inl (hk.elim id False.elim))) hl hk)
 have c1:=b1.cell 0;have c3:=b3.cell 0;obtain⟨x0,x1,x2,x3,x4,x5,x6⟩:=x;have q0:w.cell? ⟨g2,0,none⟩=some (.int .i64 x0):=b2.cell 0;have q1:w.cell? ⟨g2,1,none⟩=some (.int .i64 x1):=b2.cell 1;have q2:w.cell? ⟨g2,2,none⟩=some (.int .i64 x2):=b2.cell 2;have q3:w.cell? ⟨g2,3,none⟩=some (.int .i64 x3):=b2.cell 3;have q4:w.cell? ⟨g2,4,none⟩=some (.string x4):=b2.cell 4;have q5:w.cell? ⟨g2,5,none⟩=some (.slice An x5.length cn):=b2.cell 5;have q6:w.cell? ⟨g2,6,none⟩=some (.slice none 0 0):=b2.cell 6;unfold cO at HN;dsimp only at HN
 clear hp hn b1 b2 b3 EZ hl hk;go_enter Tryz.func83,Tryz.ntmps83
 go_wp2_with fail
 refine HN.out.mono ?_;intro e w1 h1;obtain⟨v,er,rfl⟩:=h1.ret;have H1:=aa (h1.sub (O':=O) fun k hk=>hk.elim id False.elim)
 clear h1 c1 c3 q0 q1 q2 q3 q4 q5 q6;go_wp2_with fail
 go_ret2
 exact H1.out
theorem rr (b:Nat) (O:Nat→Prop) (x:Nd) (nv pv:Value) (cD:List bR) (w:World) (hn:zt w b x.names nv) (EZ:aN w b O pv cD) (hO :∀k,O k→k<w.heap.size) :
  Calls Tryz.prog 39 #[.pointer (some ⟨b,0,none⟩),cO x nv (.slice none 0 0),pv] w (ij b O (dm (dI x cD)) w):=by
 obtain⟨An,cn,rfl,_⟩:=bB hn.1;obtain⟨A,m,rfl⟩:=EZ.form;obtain⟨x0,x1,x2,x3,x4,x5,x6⟩:=x;dsimp only at hn ⊢
 obtain⟨NV,hNV⟩ :∃NV,NV=(.slice An x5.length cn:Value):=⟨_,rfl⟩;obtain⟨w1,dW⟩ :∃w1,w1=w.alloc (.cells #[.pointer (some ⟨b,0,none⟩)] 116):=⟨_,rfl⟩;obtain⟨w2,hw2⟩ :∃w2,w2=w1.alloc (.cells #[.int .i64 x0,.int .i64 x1,.int .i64 x2,.int .i64 x3,.string x4,.slice An x5.length cn,.slice none 0 0] 55):=⟨_,rfl⟩;obtain⟨w3,hw3⟩ :∃w3,w3=w2.alloc (.cells #[.slice A m m] 117):=⟨_,rfl⟩;have f1:az O w w1:=by rw[dW];exact(az.refl _ _).alloc _
 have f2:az O w1 w2:=by rw[hw2];exact(az.refl _ _).alloc _
 have f3:az O w2 w3:=by rw[hw3];exact(az.refl _ _).alloc _
 have z1:w1.heap.size=w.heap.size+1:=by rw[dW,ao]
 have z2:w2.heap.size=w.heap.size+1+1:=by rw[hw2,ao,z1]
 have b1:eB w1 O w.heap.size #[.pointer (some ⟨b,0,none⟩)] 116:=by rw[dW];exact eB.new w O hO _ _
 have b2:eB w2 O (w.heap.size+1) #[.int .i64 x0,.int .i64 x1,.int .i64 x2,.int .i64 x3,.string x4,.slice An x5.length cn,.slice none 0 0] 55:=by rw[hw2,←z1];exact eB.new w1 O (fun k hk=>by have:=hO k hk;omega) _ _
 have b3:eB w3 O (w.heap.size+1+1) #[.slice A m m] 117:=by rw[hw3,←z2];exact eB.new w2 O (fun k hk=>by have:=hO k hk;omega) _ _
 have f12:=f1.trans f2 (Ext.refl _ _);have f13:=f12.trans f3 (Ext.refl _ _);have AO:One w3 b O (.func (.func 83) #[] #[.pointer (some ⟨w.heap.size,0,none⟩),.pointer (some ⟨w.heap.size+1,0,none⟩),.pointer (some ⟨w.heap.size+1+1,0,none⟩)]) (dI ⟨x0,x1,x2,x3,x4,x5,x6⟩ cD):=by
  intro W1 O1 T ts K E hf he hp hk;refine⟨83,_,_,rfl,enters_of Tryz.func83 (by kernel_rfl) rfl,?_⟩
  exact Sb b _ _ _ O1 ts T ⟨x0,x1,x2,x3,x4,x5,x6⟩ _ _ cD K E W1 hp ((hn.later f13).later hf) (((b1.later f2 (Ext.refl _ _)).later f3 (Ext.refl _ _)).later hf he) ((b2.later f3 (Ext.refl _ _)).later hf he) (b3.later hf he) ((EZ.later f13 (Ext.refl _ _)).later hf he) hk
 have HK:=aa (AN b O 83 _ _ _ w3 AO fun k hk=>by have:=hO k hk;have:=f13.size;omega)
 have HF:=aa f13;have HB:Hid (Below w.heap.size w w3):=aa (by
  rw[hw3,hw2,dW];exact(((Below.refl _ _).alloc (ah _) _).alloc (by simp) _).alloc (by simp;omega) _)
 rw[hw3,hw2,dW] at HK HB;clear hn EZ hO hNV dW hw2 hw3 f1 f2 f3 z1 z2 b1 b2 b3 f12 f13 AO HF;unfold cO;dsimp only
 go_enter Tryz.func39,Tryz.ntmps39
 go_wp2_with fail
 refine HK.out.mono ?_;rintro e w1 ⟨v,rfl,b1,h2⟩;have H2:=aa h2;have B1:=aa (aB HB.out b1);clear h2 b1;go_wp2_with fail
 go_ret
 exact⟨_,rfl,B1.out,H2.out⟩
abbrev jG (W:World) (b:Nat) (v:Value) (xs:List ByteArray):Prop:=W.ownsRow (b+1) 9 1 v xs.length (xs.map Value.string)
theorem Md:(Tryz.prog.info? 9).map (fun i=>(i.zero,i.size,i.bytes))=some (some (.string ⟨#[]⟩),1,16):=by kernel_rfl
theorem Me {W:World} {B B' e s n:Nat} {v:Value} {xs:List Value} (h:W.ownsRow B e s v n xs) (hB:B'≤B):W.ownsRow B' e s v n xs:=by
 refine⟨h.1,?_⟩;rcases h.2 with h2 | ⟨g,cap,cur,e1,h2,rest⟩
 ·exact .inl h2
 ·exact .inr ⟨g,cap,cur,e1,aK hB h2,rest⟩
theorem az.E0 {O:Nat→Prop} {w w':World} (h:w.grownBy w' none):az O w w':=az.ae ⟨h.os,h.tape,h.output,h.size,fun k hk=>h.block k hk (by simp)⟩
theorem Mf (ty:TypeId) (w:World) (b:Nat) (v xv:Value) (ls ns:List ByteArray) (hown:jG w b v ls) (hnz :∀g,v.ownBlock=some g→ls≠[]) (hx:jG w b xv ns) (hne:ns≠[]) (h1:ls.length≤1000000) (h2:ns.length≤1000000) (hB:b+1≤w.heap.size) :
  ∃g c w',(Builtin.append_ #[53,53] ty #[v,xv]).run Tryz.prog w=.ok (.slice (some ⟨g,0,none⟩) (ls.length+ns.length) c) w'∧jG w' b (.slice (some ⟨g,0,none⟩) (ls.length+ns.length) c) (ls++ns)∧az (fun k=>v.ownBlock=some k) w w'∧((v.ownBlock=some g∧¬ EI w g)∨w.heap.size≤g)∧g<w'.heap.size:=by
 obtain⟨i0,ng,hz0,hz1,hz2⟩:=info_parts Md;have hm:0<ns.length:=wu.2 hne;obtain⟨gx,cx,rfl,_,_⟩:=hx.form hm;have vJ :∀j u,(ns.map Value.string)[j]? = some u→w.cell? ((⟨gx,0,none⟩:Addr).add j)=some u:=fun j u hj=>hx.cells (g:=gx) rfl j u hj
 have hoc :∀u∈ns.map Value.string,u.oneCell'=true:=fun u hu=>by obtain⟨z,_,rfl⟩:=jd.1 hu;rfl
 have key :∀v' w',w'.ownsRow w.heap.size 9 1 v' (ls.length+ns.length) (ls.map Value.string++ns.map Value.string)→w.grownBy w' none→∃g c,v'=.slice (some ⟨g,0,none⟩) (ls.length+ns.length) c∧jG w' b (.slice (some ⟨g,0,none⟩) (ls.length+ns.length) c) (ls++ns)∧w.heap.size≤g∧g<w'.heap.size:=fun v' w' r1 r2=>by
  obtain⟨g,c,rfl,h3,h4⟩:=r1.form (by omega)
  refine⟨g,c,rfl,?_,h3,h4⟩;unfold jG;rw[bV,mP];exact Me r1 (by omega)
 rcases hown.2 with ⟨rfl,hn⟩ | ⟨g0,cap,cur,rfl,hg0,hh,hnc,_,hcs,_⟩
 ·have Ru:ls=[]:=pO hn
  subst Ru;obtain⟨v',w',hrun,r1,r2,_⟩:=run_append_own (P:=Tryz.prog) w w.heap.size 53 ty 9 i0 (.string ⟨#[]⟩) 1 16 Tryz.underlying53 ng hz0 hz1 hz2 rfl (by omega) (.slice none 0 0) 0 [] (World.ownsRow_nil w _ 9 1) ⟨gx,0,none⟩ ns.length cx (ns.map Value.string) (by simp) vJ hoc (by unfold maxLen;omega) (by omega) (ah _)
  obtain⟨g,c,rfl,h3,h4,h5⟩:=key v' w' (by simpa using r1) (by simpa[Value.ownBlock] using r2)
  exact⟨g,c,w',hrun,h3,az.E0 (by simpa[Value.ownBlock] using r2),.inr h4,h5⟩
 ·by_cases hroom:ls.length+ns.length≤cap
  ·have hl0:0<ls.length:=wu.2 (hnz g0 rfl)
   have hns:¬ EI w g0:=fun⟨s,f,hs⟩=>by
    rw[hh] at hs;injection hs with hs;injection hs with hs;rw[hs] at hcs;simp at hcs;omega
   obtain⟨g,c,w',hrun,r1,r2,r3,r4⟩:=run_append_lies (P:=Tryz.prog) w 53 ty (b+1) 9 i0 (.string ⟨#[]⟩) 1 16 Tryz.underlying53 ng hz0 hz1 hz2 rfl (by omega) _ ls.length (ls.map Value.string) hown ⟨gx,0,none⟩ ns.length cx (ns.map Value.string) (by simp) vJ hoc hm (by unfold maxLen;omega) (by omega) hB w.heap.size rfl
   refine⟨g,c,w',hrun,?_,⟨r2.os,r2.tape,r2.output,r2.size,fun k hk hO=>r2.block k hk (fun e=>hO e.symm),fun k hk=>r2.block k hk.lt (fun e=>by
    have:k=g0:=by simpa[Value.ownBlock] using e
    exact hns (this▸hk))⟩,?_,r4⟩
   ·unfold jG
    rw[bV,mP];exact r1
   ·rcases r3 with r3|r3
    ·have:g0=g:=by simpa[Value.ownBlock] using r3
     exact .inl ⟨r3,this▸hns⟩
    ·exact .inr (by omega)
  ·obtain⟨v',w',hrun,r1,r2⟩:=run_append_arg_grows (P:=Tryz.prog) w 53 ty 9 i0 (.string ⟨#[]⟩) 1 16 Tryz.underlying53 ng hz0 hz1 hz2 rfl (by omega) ⟨g0,0,none⟩ ls.length cap (ls.map Value.string) (by simp) (fun j u hj=>hown.cells (g:=g0) rfl j u hj) ⟨gx,0,none⟩ ns.length cx (ns.map Value.string) (by simp) vJ (by omega) (by unfold maxLen;omega) (by omega)
   obtain⟨g,c,rfl,h3,h4,h5⟩:=key v' w' r1 r2;exact⟨g,c,w',hrun,h3,az.E0 r2,.inr h4,h5⟩
theorem E3 {o:Oper} {a:Act} {K:Act→World→Prop} {Q:Exit→Act→World→Prop} (w:World) (s x:Operand)
  (ho:o.op=.call { callee:=.builtin .append,args:=#[s,x],argTypes:=#[53,53]}) (b:Nat) (v xv:Value) (ls ns:List ByteArray) (hs:a.eval s=v) (hown:jG w b v ls) (hnz :∀g,v.ownBlock=some g→ls≠[]) (hx:a.eval x=xv) (hxr:jG w b xv ns) (hne:ns≠[]) (h1:ls.length≤1000000) (h2:ns.length≤1000000) (hB:b+1≤w.heap.size)
  (h :∀g c w',jG w' b (.slice (some ⟨g,0,none⟩) (ls.length+ns.length) c) (ls++ns)→az (fun k=>v.ownBlock=some k) w w'→((v.ownBlock=some g∧¬ EI w g)∨w.heap.size≤g)→g<w'.heap.size→K (a.put o.dst (.slice (some ⟨g,0,none⟩) (ls.length+ns.length) c)) w'):o.wp Tryz.prog a w K Q:=by
 obtain⟨g,c,w',hr,r1,r2,r3,r4⟩:=Mf o.type w b v xv ls ns hown hnz hxr hne h1 h2 hB;unfold Oper.wp execOp;simp only[ho,resolve,invoke,builtin,Sem.run_bind,Sem.run_pure,Result.andThen_ok,Kq,fX,List.map_nil,hs,hx,hr];exact h g c w' r1 r2 r3 r4
theorem AP {ops:Array Oper} {rest:List Oper} {o:Oper} {a:Act} {Q:Exit→Act→World→Prop} (w:World) (hgd:o.guard=none) (s x:Operand)
  (ho:o.op=.call { callee:=.builtin .append,args:=#[s,x],argTypes:=#[53,53]}) (b:Nat) (v xv:Value) (ls ns:List ByteArray) (hs:a.eval s=v) (hown:jG w b v ls) (hnz :∀g,v.ownBlock=some g→ls≠[]) (hx:a.eval x=xv) (hxr:jG w b xv ns) (hne:ns≠[]) (h1:ls.length≤1000000) (h2:ns.length≤1000000) (hB:b+1≤w.heap.size)
  (h :∀g c w',jG w' b (.slice (some ⟨g,0,none⟩) (ls.length+ns.length) c) (ls++ns)→az (fun k=>v.ownBlock=some k) w w'→((v.ownBlock=some g∧¬ EI w g)∨w.heap.size≤g)→g<w'.heap.size→wpList Tryz.prog ops Q rest (a.put o.dst (.slice (some ⟨g,0,none⟩) (ls.length+ns.length) c)) w'):wpList Tryz.prog ops Q (o::rest) a w :=
 wpList_plain hgd fun _ hK=>E3 w s x ho b v xv ls ns hs hown hnz hx hxr hne h1 h2 hB fun g c w' r1 r2 r3 r4=>hK _ _ (h g c w' r1 r2 r3 r4)
theorem Hw {ops:Array Oper} {o:Oper} {a:Act} {K:Act→World→Prop} {Q:Exit→Act→World→Prop} {E:Prop} (w:World) (hgd:o.guard=none) (s x:Operand)
  (ho:o.op=.call { callee:=.builtin .append,args:=#[s,x],argTypes:=#[53,53]}) (b:Nat) (v xv:Value) (ls ns:List ByteArray) (hs:a.eval s=v) (hown:jG w b v ls) (hnz :∀g,v.ownBlock=some g→ls≠[]) (hx:a.eval x=xv) (hxr:jG w b xv ns) (hne:ns≠[]) (h1:ls.length≤1000000) (h2:ns.length≤1000000) (hB:b+1≤w.heap.size)
  (h :∀g c w',jG w' b (.slice (some ⟨g,0,none⟩) (ls.length+ns.length) c) (ls++ns)→az (fun k=>v.ownBlock=some k) w w'→((v.ownBlock=some g∧¬ EI w g)∨w.heap.size≤g)→g<w'.heap.size→K (a.put o.dst (.slice (some ⟨g,0,none⟩) (ls.length+ns.length) c)) w') :
  if Region.wanted o (yielded ops a.tmps)=true then Oper.wp Tryz.prog o a w K Q else E:=by
 have hw:Region.wanted o (yielded ops a.tmps)=true:=by simp[Region.wanted,hgd]
 rw[ak hw];exact E3 w s x ho b v xv ls ns hs hown hnz hx hxr hne h1 h2 hB h
abbrev ZN:=Int×List aj→Bool×Int×List aj
def Mg (W:World) (b n:Nat) (Op On:Nat→Prop) (v:Value) (mf:ZN):Prop :=
 ∀W1 x ts T,az (fun k=>k=b∨k=n) W W1→PS W1 b Op ts T→NU W1 b n On x →
  EJ v #[] W1 fun e w'=>e=.returned (.bool (mf (x.num,ts)).1)∧PS w' b Op (mf (x.num,ts)).2.2 T∧NU w' b n On { x with num:=(mf (x.num,ts)).2.1}∧az (fun k=>k=b∨k=n) W1 w'
def uA (mf:ZN):Nat→Int→List aj→List ByteArray→(Int→List ByteArray→List aj→Prop)→(Int→Prop)→Prop
 | 0,_,_,_,_,_=>False
 | k+1,m,ts,acc,K,E=>∃t r,ts=t::r∧(t.1≠1→E t.2.1)∧(t.1=1→((mf (m,r)).1=true→uA mf k (mf (m,r)).2.1 (mf (m,r)).2.2 (acc++[bb t.2.2.2]) K E)∧((mf (m,r)).1=false→K (mf (m,r)).2.1 (acc++[bb t.2.2.2]) (mf (m,r)).2.2))
def Sc (b n:Nat) (Op On:Nat→Prop) (x:Nd) (T:List Nd) (K:Int→List ByteArray→List aj→Prop) (E:Int→Prop) (w:World) (e:Ending) (w':World):Prop :=
 az (fun k=>k=b∨k=n) w w'∧∃m,NU w' b n On { x with num:=m}∧((∃v xs ts,e=.returned (.tuple #[v,.nilIface])∧PS w' b Op ts T∧jG w' b v xs∧(∀g,v.ownBlock=some g→w.heap.size≤g)∧xs≠[]∧xs.length≤100000∧K m xs ts) ∨
  (∃l er,e=.returned (.tuple #[.slice none 0 0,er])∧Rw w.heap.size w' er l∧E l))
theorem xe (b n:Nat) (Op On:Nat→Prop) (x:Nd) (ts:List aj) (T:List Nd) (more:Value) (mf:ZN) (K:Int→List ByteArray→List aj→Prop) (E:Int→Prop) (m:Nat) (hm:m≤100000) (w:World) (hp:PS w b Op ts T) (hn:NU w b n On x) (hd :∀k,Op k→¬ On k) (h2:Mg w b n Op On more mf) (hk:uA mf m x.num ts [] K E) :
  Calls Tryz.prog 149 #[.func (.func 146) #[.pointer (some ⟨b,0,none⟩)] #[],more] w (Sc b n Op On x T K E w):=by
 have HP:=aa hp;have HN:=aa hn;have H2:=aa h2;have HK:=aa hk;have HD:=aa hd;have wY:=(hp.own b hp.at_).2;have Dh:=hn.own n hn.at_;clear hp hn h2 hk hd;go_enter Tryz.func149,Tryz.ntmps149
 go_wp2_with fail
 go_loopg [6] m (fun z tv wr=>∃(nu:Int) (xs:List ByteArray) (tr:List aj),PS wr b Op tr T∧NU wr b n On { x with num:=nu}∧az (fun k=>k=b∨k=n) w wr∧jG wr b tv xs∧(∀g,tv.ownBlock=some g→w.heap.size≤g∧¬ Op g∧¬ On g∧xs≠[])∧xs.length+z≤m∧uA mf z nu tr xs K E)
 case atStart=>exact⟨x.num,[],ts,HP.out,HN.out,az.refl _ _,World.ownsRow_nil _ _ _ _,fun g hg=>by simp[Value.ownBlock] at hg,by simp,HK.out⟩
 case round =>
  obtain⟨nu,xs,tr,lF,Ah,kO,hr1,ZO,hz,iT⟩:=hrel;have JV:=aa Ah;have fj:=aa kO;have nC:=aa hr1;have L7:=aa ZO;cases gk with
  | zero=>exact iT.elim
  | succ z =>
   obtain⟨t,r,rfl,pn,CI⟩:=iT;have HC:=aa (Da b Op t r T wr lF);obtain⟨f2,ky,CV,rfl,Xu,_⟩:=H2.out wr _ _ T kO lF Ah;have acJ:=aa pn;have Hx:=aa CI;have hbo :∀g,u6.ownBlock=some g→g≠b:=fun g hg e=>by have:=(hr1.lt g hg).1;omega
   have AK:=aa lF;clear lF Ah kO hr1 ZO pn CI;unfold Enters at Xu;go_wp2_with fail
   refine HC.out.mono ?_;rintro e w2 ⟨mq,h2⟩;have ru:az (fun k=>k=b∨k=n) w w2:=fj.out.trans mq (fun k hk=>.inl (.inl hk))
   have F2:=aa ru;have N2:=aa (JV.out.kept mq fun k hk e=>HD.out b HP.out.at_ (e▸hk))
   rcases h2 with ⟨g1,rfl,p2⟩ | ⟨g1,er,rfl,mis⟩
   ·have hrow2:jG w2 b u6 xs:=cS nC.out fun g hg=>mq.block g (nC.out.lt g hg).2 (hbo g hg)
    have vS:=aa hrow2;have P2:=aa p2;have CI:=Hx.out g1;have aaF:=aa CI;have yq:b+1≤w2.heap.size:=by have:=(p2.own b p2.at_).2;omega
    have hsw:w.heap.size≤w2.heap.size:=ru.size;obtain⟨S,hS⟩ :∃S,S=bb t.2.2.2:=⟨_,rfl⟩;rw[←hS];have HS:=aa hS;clear mq hrow2 p2 CI ru hS hbo;go_wp2_with (at_builtin;refine AP _ rfl _ _ rfl b u6 (.slice (some ⟨w2.heap.size,0,none⟩) 1 1) xs [S] rfl (vS.out.alloc _) (fun g hg=>(L7.out g hg).2.2.2) rfl ⟨rfl,.inr ⟨w2.heap.size,1,#[.string S],rfl,yq,World.alloc_heap_new w2 _,by simp,by unfold maxLen;omega,rfl,rfl⟩⟩ (by simp) (by omega) (by simp) (by simp;omega) ?_;intro g4 c4 w4 h4 f4 o4 l4;have H4:=aa h4;have F4:=aa f4;have O4:=aa o4;have L4:=aa l4;clear h4 f4 o4 l4)
    have fw4:az (fun k=>u6.ownBlock=some k) w2 w4:=((az.refl _ w2).alloc (.cells #[.string S] 9)).trans F4.out (Ext.refl _ _)
    have p4:PS w4 b Op r T:=P2.out.kept fw4 (fun k hk e=>(L7.out k e).2.1 hk) fun k e=>by have:=(vS.out.lt k e).1;omega
    have n4:NU w4 b n On { x with num:=nu}:=N2.out.kept fw4 fun k hk e=>(L7.out k e).2.2.1 hk
    have f5:az (fun k=>k=b∨k=n) w w4:=F2.out.trans (O1:=fun k=>u6.ownBlock=some k) fw4 fun k hk=>.inr (L7.out k hk).1
    have P4:=aa p4;have N4:=aa n4;have F5:=aa f5;obtain⟨_,_,_,e2,_,pw⟩:=H2.out w4 _ _ T f5 p4 n4;injection e2 with e3 e4 e5;injection e3 with e3;subst e3 e4 e5;rw[show ky++(#[]:Array Value)=ky by simp] at pw
    have rp:=aa pw;obtain⟨br,hbr⟩ :∃br,br=(mf (nu,r)).1:=⟨_,rfl⟩;dsimp only at rp
    rw[←hbr] at rp;have Dg:=aa hbr;clear p4 n4 f5 pw hbr fw4;refine rp.out.mono ?_;rintro e w5 ⟨rfl,p5,n5,Xv⟩;have ho5:w.heap.size≤g4∧¬ Op g4∧¬ On g4:=by
     rcases O4.out with ⟨h,_⟩|h
     ·exact⟨(L7.out g4 h).1,(L7.out g4 h).2.1,(L7.out g4 h).2.2.1⟩
     ·have h':w2.heap.size≤g4:=by simp at h;omega
      exact⟨by omega,fun h2=>by have:=(P2.out.own g4 h2).2;omega,fun h2=>by have:=(N2.out.own g4 h2).2;omega⟩
    have HO5:=aa ho5;have L0:=aa (show jG w5 b (.slice (some ⟨g4,0,none⟩) (xs.length+1) c4) (xs++[S]) from cS H4.out fun g hg=>by
     have vI:g=g4:=by simpa[Value.ownBlock] using hg.symm
     subst vI;refine Xv.block g L4.out (fun e=>?_)
     rcases e with e|e
     ·exact ho5.2.1 (e▸HP.out.at_)
     ·exact ho5.2.2 (e▸HN.out.at_))
    have P5:=aa p5;have N5:=aa n5;have F6:=aa (F5.out.trans Xv (Ext.refl _ _));clear p5 n5 Xv ho5;cases br with
    | true =>
     go_wp2_with fail
     go_roundg z
     case measure=>omega
     case rel=>exact⟨_,xs++[S],_,P5.out,N5.out,F6.out,L0.out,fun g hg=>by
      have vI:g=g4:=by simpa[Value.ownBlock] using hg.symm
      subst vI;exact⟨HO5.out.1,HO5.out.2.1,HO5.out.2.2,by simp⟩,by simp;omega,by
      have:=aaF.out.1 Dg.out.symm;rw[←HS.out] at this;exact this⟩
    | false =>
     go_wp2_with fail
     go_ret2
     refine⟨F6.out,_,N5.out,.inl ⟨_,xs++[S],_,rfl,P5.out,L0.out,fun g hg=>?_,by simp,by simp;omega,?_⟩⟩
     ·have vI:g=g4:=by simpa[Value.ownBlock] using hg.symm
      subst vI;exact HO5.out.1
     ·have:=aaF.out.2 Dg.out.symm
      rw[←HS.out] at this;exact this
   ·obtain⟨g',rfl,hg1,hg2⟩:=mis
    have M2:=aa hg2;have HG:=aa (aK fj.out.size hg1);have HE:=aa (acJ.out g1);clear mq hg1 hg2 ru hbo;go_wp2_with fail
    go_ret2
    exact⟨F2.out,nu,N2.out,.inr ⟨_,_,rfl,⟨g',rfl,HG.out,M2.out⟩,HE.out⟩⟩
end Go.Proofs.YteflkdlaoiijbaaGreatDoor
namespace Go.Proofs.YteflkdlaoiijbaaGreatDoor
open Go.RowKit
def Gw {α:Type} (g:GL α) (ts:List aj) (K:α→List aj→Prop) (E:Int→Prop):Prop:=(∀a ay,PL g ts (.ok (a,ay))→K a ay)∧(∀l,PL g ts (.error l)→E l)
section
variable {α:Type} {K:α→List aj→Prop} {E:Int→Prop}
theorem Gw.tok {f:aj→GL α} {t:aj} {ts:List aj} (h:Gw (.tok f) (t::ts) K E):Gw (f t) ts K E:=⟨fun a ay p=>h.1 a ay (.tok p),fun l p=>h.2 l (.tok p)⟩
theorem Gw.look {f:aj→GL α} {t:aj} {ts:List aj} (h:Gw (.look f) (t::ts) K E):Gw (f t) (t::ts) K E:=⟨fun a ay p=>h.1 a ay (.look p),fun l p=>h.2 l (.look p)⟩
theorem Gw.ret {a:α} {ts:List aj} (h:Gw (.ret a) ts K E):K a ts:=h.1 a ts .ret
theorem Gw.bad {t:aj} {ts:List aj} (h:Gw (.bad:GL α) (t::ts) K E):E t.2.1:=h.2 _ .bad
theorem Gw.call {n:NT} {k:VT n→GL α} {ts:List aj} (h:Gw (.call n k) ts K E):Gw (df n) ts (fun v ay=>yx n ts.length v ay.length∧Gw (k v) ay K E) E :=
 ⟨fun _ _ p=>⟨p.holds aaA,fun a iy q=>h.1 a iy (.call p q),fun l q=>h.2 l (.call p q)⟩,fun l p=>h.2 l (.iu p)⟩
theorem Gw.mono {g:GL α} {ts:List aj} {K':α→List aj→Prop} (h:Gw g ts K E) (hk :∀a ay,PL g ts (.ok (a,ay))→K a ay→K' a ay):Gw g ts K' E:=⟨fun a ay p=>hk a ay p (h.1 a ay p),h.2⟩
theorem Gw.pos {c:Prop} [Decidable c] {g g':GL α} {ts:List aj} (h:Gw (if c then g else g') ts K E) (hc:c):Gw g ts K E:=by rwa[ak hc] at h
theorem Gw.neg {c:Prop} [Decidable c] {g g':GL α} {ts:List aj} (h:Gw (if c then g else g') ts K E) (hc:¬ c):Gw g' ts K E:=by rwa[af hc] at h
theorem Gw.want {x:List UInt8} {k:aj→GL α} {t:aj} {ts:List aj} (h:Gw (want x k) (t::ts) K E):(av x t=true→Gw (k t) ts K E)∧(av x t=false→E t.2.1) :=
 ⟨fun hw=>(h.look.pos hw).tok,fun hw=>(h.look.neg (by simp[hw])).bad⟩
theorem Gw.name {k:aj→GL α} {t:aj} {ts:List aj} (h:Gw (name k) (t::ts) K E):(t.1=1→Gw (k t) ts K E)∧(t.1≠1→E t.2.1) :=
 ⟨fun hw=>(h.look.pos hw).tok,fun hw=>(h.look.neg hw).bad⟩
theorem Gw.take {x:List UInt8} {a b:GL α} {t:aj} {ts:List aj} (h:Gw (take x a b) (t::ts) K E):(av x t=true→Gw a ts K E)∧(av x t=false→Gw b (t::ts) K E) :=
 ⟨fun hw=>(h.look.pos hw).tok,fun hw=>h.look.neg (by simp[hw])⟩
theorem Gw.self (g:GL α) (ts:List aj):Gw g ts (fun a ay=>PL g ts (.ok (a,ay))) (fun l=>PL g ts (.error l)):=⟨fun _ _ h=>h,fun _ h=>h⟩
end
def Lin (ts:List aj):Prop:=∀t∈ts,t.2.1≠0∧(t.1=2→t.2.2.2≠[61])
structure Wf (ts:List aj):Prop where
 fin:Fin ts
 zu:Lin ts
theorem Wf.tail {t:aj} {ts:List aj} (h:Wf (t::ts)) (ht:t.1≠0):Wf ts:=⟨h.fin.tail ht,fun u hu=>h.zu u (bY _ hu)⟩
theorem PL.wf {n:NT} {ts ay:List aj} {v:VT n} (h:PL (df n) ts (.ok (v,ay))) (hf:Wf ts):Wf ay:=by
 refine⟨h.fin hf.fin,?_⟩;obtain⟨c,rfl⟩:=h.tail v ay rfl;exact fun u hu=>hf.zu u (jb _ hu)
def sD (N:Nat) (g:GL Ast):iQ:=fun ts n K E=>ts.length<N∧n+2*ts.length≤60000∧Lin ts∧Gw g ts K E
def cL:List aj→Bool×List aj
 | []=>(false,[])
 | t::r=>if av [44] t then (true,r) else (false,t::r)
def mC (k:Int):Nd:=⟨k,0,0,0,⟨#[]⟩,[],[]⟩
def dp (k l:Int):Nd:=⟨k,l,0,0,⟨#[]⟩,[],[]⟩
abbrev ry (s:Nat):GL Ast:=df (.exp s)
def oE (N:Nat):bR:=dm (sD N (ry 1))
def nG (N:Nat):bR:=lT (sD N (ry 1)) cL
abbrev aaG (l:List Ast):GL (List Ast):=df (.tV l)
def Mh (N:Nat):bR:=fun s K E=>s.ts.length<N∧s.n+2*s.ts.length≤60000∧s.xs.length+2*s.ts.length≤60000∧Lin s.ts ∧
 Gw (aaG s.xs) s.ts (fun l ay=>∀n',n'+Ast.al s.xs=s.n+Ast.al l→K ⟨s.h,l,ay,n'⟩) E
def px (N:Nat):bR:=dm (dI (mC 18) [Mh N])
structure Rm (N k:Nat) (s:St):Prop where
 len:s.ts.length<N
 n:s.n+2*s.ts.length+k≤60000
 xs:s.xs.length+2*s.ts.length+k≤60000
 wf:Wf s.ts
theorem Rm.less {N k j:Nat} {s:St} (h:Rm N k s) (hj:j≤k):Rm N j s:=⟨h.len,by have:=h.n;omega,by have:=h.xs;omega,h.wf⟩
theorem tp (a:Ast):Ast.al [a]=a.size:=by rw[ic,cb,Nat.add_zero]
theorem size_pos :∀a:Ast,1≤a.size
 | .mk h ks=>by rw[Ast.size];omega
theorem uB :∀l:List Ast,l.length≤Ast.al l
 | []=>aR _
 | a::l=>by have:=uB l;have:=size_pos a;rw[ic,List.length_cons];omega
theorem Rm.tok {N k:Nat} {h h':Nd} {xs:List Ast} {t:aj} {ts:List aj} {n:Nat} (hI:Rm N k ⟨h,xs,t::ts,n⟩) (ht:t.1≠0):Rm N (k+2) ⟨h',xs,ts,n⟩ :=
 ⟨by have:=hI.len;simp at this ⊢;omega,by have:=hI.n;simp at this ⊢;omega,by have:=hI.xs;simp at this ⊢;omega,hI.wf.tail ht⟩
theorem Rm.Xy {N k:Nat} {h h':Nd} {xs:List Ast} {t:aj} {ts:List aj} {n:Nat} (hI:Rm (N+1) k ⟨h,xs,t::ts,n⟩) (ht:t.1≠0):Rm N (k+2) ⟨h',xs,ts,n⟩ :=
 ⟨by have:=hI.len;simp at this ⊢;omega,by have:=hI.n;simp at this ⊢;omega,by have:=hI.xs;simp at this ⊢;omega,hI.wf.tail ht⟩
theorem Rm.cons {N k:Nat} {s:St} (hI:Rm N k s) :∃t ts,s.ts=t::ts:=hI.wf.fin.cons
theorem Rm.kids {N k j:Nat} {h h':Nd} {xs ys:List Ast} {ts ay:List aj} {n:Nat} (hI:Rm N k ⟨h,xs,ts,n⟩) (hz:Ast.al ys+2*ay.length+j≤2*ts.length+k) (hl:ay.length≤ts.length) (hf:Wf ay):Rm N j ⟨h',xs++ys,ay,n+Ast.al ys⟩ :=
 ⟨by have:=hI.len;dsimp only at this ⊢;omega,by have:=hI.n;dsimp only at this ⊢;omega,by have:=hI.xs;have:=uB ys;rw[bV];dsimp only at *;omega,hf⟩
theorem PL.short {n:NT} {ts ay:List aj} {v:VT n} (h:PL (df n) ts (.ok (v,ay))):ay.length≤ts.length:=by
 obtain⟨c,rfl⟩:=h.tail v ay rfl;rw[bV];omega
def nH (wp:iQ) (s:St) (K:St→Prop) (E:Int→Prop) (a:Ast) (fB:List aj):Prop :=
 ((nD fB).1=true→sC wp nD 0 (nD fB).2 (s.n+a.size) ([]++[a]) (fun xs ts=>K { s with xs:=s.xs++xs,ts:=ts,n:=s.n+Ast.al xs}) E)∧((nD fB).1=false→(fun xs ts=>K { s with xs:=s.xs++xs,ts:=ts,n:=s.n+Ast.al xs}) ([]++[a]) (nD fB).2)
theorem jH {wp:iQ} {s:St} {K:St→Prop} {E:Int→Prop} (hx:s.xs.length≤100000) (h:wp s.ts s.n (nH wp s K E) E):dm wp s K E:=⟨hx,1,by omega,h⟩
theorem nH.mk {wp:iQ} {s:St} {K:St→Prop} {E:Int→Prop} {a:Ast} {fB:List aj} (h:K ⟨s.h,s.xs++[a],fB,s.n+Ast.al [a]⟩):nH wp s K E a fB:=⟨fun h=>(fW h).elim,fun _=>h⟩
section
variable {α:Type} {K:α→List aj→Prop} {E:Int→Prop} {K':St→Prop} {N k n:Nat} {h:Nd} {xs:List Ast} {ts:List aj}
theorem fL {kk:Ast→GL α} (hI:Rm N k ⟨h,xs,ts,n⟩) (H:Gw (.call (.exp 1) kk) ts K E)
  (hk :∀(e:Ast) (ay:List aj),Rm N (k+1) ⟨h,xs++[e],ay,n+Ast.al [e]⟩→ay.length<ts.length→Gw (kk e) ay K E→K' ⟨h,xs++[e],ay,n+Ast.al [e]⟩):oE N ⟨h,xs,ts,n⟩ K' E:=by
 refine jH (by have:=hI.xs;dsimp only at *;omega) ⟨hI.len,by have:=hI.n;dsimp only at *;omega,hI.wf.zu,?_⟩
 refine(Gw.call H).mono fun(e:Ast) ay p hq=>?_
 have hz:e.size+2*ay.length+1≤2*ts.length:=hq.1;exact nH.mk (hk e ay (hI.kids (by rw[tp];omega) (PL.short p) (p.wf hI.wf)) (by omega) hq.2)
theorem fM {kk:Ast→GL α} (hI:Rm N (k+1) ⟨h,xs,ts,n⟩) (H:Gw (.call .blk kk) ts K E)
  (hk :∀(e:Ast) (ay:List aj),Rm N k ⟨h,xs++[e],ay,n+Ast.al [e]⟩→ay.length≤ts.length→Gw (kk e) ay K E→K' ⟨h,xs++[e],ay,n+Ast.al [e]⟩):px N ⟨h,xs,ts,n⟩ K' E:=by
 obtain⟨t,r,ji⟩:=hI.cons;dsimp only at ji
 subst ji;refine jH (by have:=hI.xs;dsimp only at *;omega) ⟨t,r,t.2.1,rfl,.inl ⟨rfl,rfl⟩,⟨hI.len,by have:=hI.n;dsimp only at *;omega,by have:=hI.n;dsimp only[List.length_nil] at *;omega,hI.wf.zu,?_⟩⟩
 refine(Gw.call (Gw.look (Gw.call H))).mono fun(l:List Ast) ay p hq n' hn'=>?_
 have hz:Ast.al l+2*ay.length≤Ast.al []+2*(t::r).length:=hq.1;have oc:=hq.2.ret;have hn:=hI.n;dsimp only at hn hn'
 rw[cb] at hz hn';refine⟨by dsimp only;omega,nH.mk (hk _ ay (hI.kids (by rw[tp];show Ast.size (nd 18 t.2.1 l)+_+_≤_;rw[nZ];omega) (PL.short p) (p.wf hI.wf)) (PL.short p) oc.2)⟩
theorem cH {t:aj} (hI:Rm (N+1) k ⟨h,xs,t::ts,n⟩) (ht:t.1≠0) (hk:Rm N (k+2) ⟨h,xs,ts,n⟩→K' ⟨h,xs,ts,n⟩):aC ⟨h,xs,t::ts,n⟩ K' E:=⟨t,ts,rfl,ht,hk (hI.Xy ht)⟩
theorem bT {x:List UInt8} {kk:aj→GL α} (hI:Rm N k ⟨h,xs,ts,n⟩) (H:Gw (want x kk) ts K E) (hk :∀(t:aj) (r:List aj),Rm N (k+2) ⟨h,xs,r,n⟩→r.length<ts.length→Gw (kk t) r K E→K' ⟨h,xs,r,n⟩):au [x] ⟨h,xs,ts,n⟩ K' E:=by
 obtain⟨t,r,ji⟩:=hI.cons;dsimp only at ji
 subst ji;exact⟨t,r,rfl,fun hw=>hk t r (hI.tok (aV hw)) (by simp) (H.want.1 hw),H.want.2⟩
theorem Mi {x y:List UInt8} {kk:aj→GL α} (hI:Rm N k ⟨h,xs,ts,n⟩) (H:Gw (want x fun _=>want y kk) ts K E) (hk :∀(t:aj) (r:List aj),Rm N (k+4) ⟨h,xs,r,n⟩→r.length<ts.length→Gw (kk t) r K E→K' ⟨h,xs,r,n⟩):au [x,y] ⟨h,xs,ts,n⟩ K' E:=by
 obtain⟨t,r,ji⟩:=hI.cons;dsimp only at ji
 subst ji;refine⟨t,r,rfl,fun hw=>?_,H.want.2⟩
 have oF:=hI.tok (h':=h) (aV hw);obtain⟨t2,r2,ji⟩:=oF.cons;dsimp only at ji
 subst ji;exact⟨t2,r2,rfl,fun hw2=>hk t2 r2 (oF.tok (aV hw2)) (by simp;omega) ((H.want.1 hw).want.1 hw2),(H.want.1 hw).want.2⟩
theorem yF {kk:aj→GL α} (hI:Rm N k ⟨h,xs,ts,n⟩) (H:Gw (name kk) ts K E) (hk :∀(t:aj) (r:List aj),Rm N (k+2) ⟨{ h with s:=bb t.2.2.2},xs,r,n⟩→r.length<ts.length→Gw (kk t) r K E→K' ⟨{ h with s:=bb t.2.2.2},xs,r,n⟩):cG ⟨h,xs,ts,n⟩ K' E:=by
 obtain⟨t,r,ji⟩:=hI.cons;dsimp only at ji
 subst ji;exact⟨t,r,rfl,fun hw=>hk t r (hI.tok (by rw[hw];decide)) (by simp) (H.name.1 hw),H.name.2⟩
theorem E6 (K2:List Ast→List aj→Prop) :∀(m:Nat) (ts:List aj) (n:Nat) (acc:List Ast),ts.length<m→ts.length<N→n+2*ts.length≤60000→Wf ts→Gw (.call (.exp 1) fun(e:Ast)=>.call (.Wg (acc++[e])) fun(l:List Ast)=>.ret l) ts K2 E→sC (sD N (ry 1)) cL m ts n acc K2 E:=by
 intro m;induction m with
 | zero=>intro ts n acc h;omega
 | succ m ih =>
  intro ts n acc h1 h2 h3 hf H;refine⟨h2,h3,hf.zu,?_⟩;refine(Gw.call H).mono fun(e:Ast) ay p hq=>?_
  have hz:e.size+2*ay.length+1≤2*ts.length:=hq.1;have hf':=p.wf hf;obtain⟨t,r,rfl⟩:=hf'.fin.cons;have hg:=(Gw.call hq.2).look;cases hc:av [44] t with
  | true =>
   have e1:cL (t::r)=(true,r):=by simp[cL,hc]
   rw[e1];refine⟨fun _=>ih r (n+e.size) (acc++[e]) (by simp at hz;omega) (by simp at hz;omega) (by simp at hz;omega) (hf'.tail (aV hc)) ((hg.pos hc).tok.mono fun l iy _ hl=>hl.2.ret),fun hb=>(fW hb.symm).elim⟩
  | false =>
   have e1:cL (t::r)=(false,t::r):=by simp[cL,hc]
   rw[e1];exact⟨fun hb=>(fW hb).elim,fun _=>(hg.neg (by simp[hc])).ret.2.ret⟩
theorem tq {kk:List Ast→GL α} (hI:Rm N k ⟨h,xs,ts,n⟩) (H:Gw (.call .Ck kk) ts K E)
  (hk :∀(l:List Ast) (ay:List aj),Rm N (k+1) ⟨h,xs++l,ay,n+Ast.al l⟩→ay.length<ts.length→Gw (kk l) ay K E→K' ⟨h,xs++l,ay,n+Ast.al l⟩):nG N ⟨h,xs,ts,n⟩ K' E:=by
 have hn:=hI.n;have hx:=hI.xs;dsimp only at hn hx
 refine⟨by dsimp only;omega,ts.length+1,by omega,?_⟩
 refine E6 _ (ts.length+1) ts n [] (by omega) hI.len (by omega) hI.wf ((Gw.call H).mono fun(l:List Ast) ay p hq=>?_)
 have hz:Ast.al l+2*ay.length+1≤2*ts.length:=hq.1;exact hk l ay (hI.kids (by omega) (PL.short (n:=.Ck) p) (PL.wf (n:=.Ck) p hI.wf)) (by omega) hq.2
end
end Go.Proofs.YteflkdlaoiijbaaGreatDoor
namespace Go.Proofs.YteflkdlaoiijbaaGreatDoor
open Go.RowKit
theorem aU {s s':List UInt8} {t:aj} (h:av s t=true) (hne:s'≠s):¬ av s' t=true:=by rw[bh h hne];decide
abbrev qk:GL Ast:=df .zT
abbrev acK (at_:Int) (self:List ByteArray):GL Ast:=df (.Gy at_ self)
def bO (K:Ast→List aj→Prop):St→Prop:=fun s=>s.n≤200000∧K (.mk s.h s.xs) s.ts
theorem ca {N k:Nat} {s:St} {K:Ast→List aj→Prop} (hI:Rm N k s) (h:K (.mk s.h s.xs) s.ts):bO K s:=⟨by have:=hI.n;omega,h⟩
def sZ:ZN:=fun p=>((cL p.2).1,p.1,(cL p.2).2)
def iz:bR:=fun s K E=>∃m,m≤100000∧uA sZ m s.h.num s.ts [] (fun nu xs ts=>K { s with h:={ s.h with num:=nu,names:=xs},ts:=ts}) E
section
variable {α:Type} {K:α→List aj→Prop} {E:Int→Prop} {K':St→Prop} {N k n:Nat} {h:Nd} {xs:List Ast} {ts:List aj}
theorem Sd (nu:Int) (K2:Int→List ByteArray→List aj→Prop) :∀(m:Nat) (ts:List aj) (acc:List ByteArray),ts.length<m→Wf ts→Gw (name fun n=>.call (.We (acc++[bb n.2.2.2])) fun(l:List ByteArray)=>.ret l) ts (K2 nu) E→uA sZ m nu ts acc K2 E:=by
 intro m;induction m with
 | zero=>intro ts acc h;omega
 | succ m ih =>
  intro ts acc h1 hf H;obtain⟨t,r,rfl⟩:=hf.fin.cons;refine⟨t,r,rfl,H.name.2,fun ht=>?_⟩
  have kO:=hf.tail (show t.1≠0 by rw[ht];decide)
  obtain⟨u,us,rfl⟩:=kO.fin.cons;have hg:=(Gw.call (H.name.1 ht)).look;cases hc:av [44] u with
  | true =>
   have e1:sZ (nu,u::us)=(true,nu,us):=by unfold sZ cL;simp[hc]
   rw[e1];exact⟨fun _=>ih us (acc++[bb t.2.2.2]) (by simp at h1;omega) (kO.tail (aV hc)) ((hg.pos hc).tok.mono fun l iy _ hl=>hl.2.ret),fun hb=>(fW hb.symm).elim⟩
  | false =>
   have e1:sZ (nu,u::us)=(false,nu,u::us):=by unfold sZ cL;simp[hc]
   rw[e1];exact⟨fun hb=>(fW hb).elim,fun _=>(hg.neg (by simp[hc])).ret.2.ret⟩
theorem Mj {kk:List ByteArray→GL α} (hI:Rm N k ⟨h,xs,ts,n⟩) (H:Gw (.call .QG kk) ts K E)
  (hk :∀(l:List ByteArray) (ay:List aj),Rm N k ⟨{ h with names:=l},xs,ay,n⟩→Gw (kk l) ay K E→K' ⟨{ h with names:=l},xs,ay,n⟩):iz ⟨h,xs,ts,n⟩ K' E:=by
 have hn:=hI.n;dsimp only at hn
 refine⟨ts.length+1,by omega,Sd h.num _ (ts.length+1) ts [] (by omega) hI.wf ((Gw.call H).mono fun(l:List ByteArray) ay p hq=>?_)⟩
 have hs:=PL.short (n:=.QG) p;exact hk l ay ⟨by have:=hI.len;dsimp only at *;omega,by dsimp only;omega,by have:=hI.xs;dsimp only at *;omega,PL.wf (n:=.QG) p hI.wf⟩ hq.2
end
def py:ZN:=fun p=>match p.2 with
 | []=>(false,p.1,[])
 | t::r=>if av [44] t then (match r with
  | []=>(decide (p.1≠1),p.1,[])
  | u::r'=>if av [46,46,46] u then (false,1,r') else (decide (p.1≠1),p.1,u::r')) else (false,p.1,t::r)
def AQ:bR:=fun s K E=>∃t ts,s.ts=t::ts∧s.h.num=0∧(av [46,46,46] t=true→K { s with h:={ s.h with num:=1},ts:=ts}) ∧
 (av [46,46,46] t=false→s.h.names.length≤100000∧∃m,m≤100000∧uA py m 0 s.ts [] (fun nu xs ay=>K { s with h:={ s.h with num:=nu,names:=s.h.names++xs},ts:=ay}) E)
def U0 (N:Nat):List bR:=[au [[40]],dv [41] AQ,au [[41]],px N,au [gP]]
def xf (N:Nat):bR:=fun s K E=>aJ (U0 N) s K E
section
variable {α:Type} {K:α→List aj→Prop} {E:Int→Prop} {K':St→Prop} {N k n:Nat} {h:Nd} {xs:List Ast} {ts:List aj}
theorem Se (l0:List ByteArray) (K2:Int→List ByteArray→List aj→Prop) :∀(m:Nat) (ts:List aj) (acc:List ByteArray),ts.length<m→Wf ts →
  Gw (name fun n=>.look fun t=>if av [44] t then .tok fun _=>.call (.UG (l0++acc++[bb n.2.2.2])) fun(p:List ByteArray×Int)=>.ret p else .ret ((l0++acc++[bb n.2.2.2],0):List ByteArray×Int)) ts (fun p ay=>∀l,p.1=l0++l→K2 p.2 l ay) E→uA py m 0 ts acc K2 E:=by
 intro m;induction m with
 | zero=>intro ts acc h;omega
 | succ m ih =>
  intro ts acc h1 hf H;obtain⟨t,r,rfl⟩:=hf.fin.cons;refine⟨t,r,rfl,H.name.2,fun ht=>?_⟩
  have kO:=hf.tail (show t.1≠0 by rw[ht];decide)
  obtain⟨u,us,rfl⟩:=kO.fin.cons;have hg:=(H.name.1 ht).look;cases hc:av [44] u with
  | true =>
   have hf2:=kO.tail (aV hc);obtain⟨v,vs,rfl⟩:=hf2.fin.cons;have hg2:=(Gw.call (hg.pos hc).tok).look;cases hd:av [46,46,46] v with
   | true =>
    have e1:py (0,u::v::vs)=(false,1,vs):=by unfold py;simp[hc,hd]
    rw[e1];refine⟨fun hb=>(fW hb).elim,fun _=>?_⟩
    exact(hg2.pos hd).tok.ret.2.ret (acc++[bb t.2.2.2]) (by rw[fe])
   | false =>
    have e1:py (0,u::v::vs)=(true,0,v::vs):=by unfold py;simp[hc,hd]
    rw[e1];refine⟨fun _=>ih (v::vs) (acc++[bb t.2.2.2]) (by simp at h1 ⊢;omega) hf2 ?_,fun hb=>(fW hb.symm).elim⟩
    have:=hg2.neg (by simp[hd])
    rw[fe] at this;exact this.mono fun p iy _ hl=>hl.2.ret
  | false =>
   have e1:py (0,u::us)=(false,0,u::us):=by unfold py;simp[hc]
   rw[e1];exact⟨fun hb=>(fW hb).elim,fun _=>(hg.neg (by simp[hc])).ret (acc++[bb t.2.2.2]) (by rw[fe])⟩
theorem Ml {at_:Int} {self:List ByteArray} {K:Ast→List aj→Prop} (hI:Rm N k ⟨⟨11,at_,0,0,⟨#[]⟩,self,[]⟩,[],ts,n⟩) (hs:self.length≤100000) (H:Gw (acK at_ self) ts K E) :
  aJ (U0 N) ⟨⟨11,at_,0,0,⟨#[]⟩,self,[]⟩,[],ts,n⟩ (bO K) E:=by
 refine bT hI H fun _ r hI _ G=>?_
 obtain⟨t,us,rfl⟩:=hI.wf.fin.cons;have G:=G.look;refine⟨t,us,rfl,fun hw=>?_,fun hw=>?_⟩
 ·refine⟨t,us,rfl,fun hw=>?_,fun hw2=>?_⟩
  ·exact(show aJ [px N,au [gP]] _ _ _ from fM (hI.tok (aV hw)) (G.pos hw).tok fun b r2 hI _ G=>bT hI G fun _ r3 hI _ G=>ca hI G.ret)
  ·rw[hw] at hw2
   exact(fW hw2.symm).elim
 ·have G:=Gw.call (G.neg (by simp[hw]))
  have G1:=Gw.look G;have hn:=hI.n;dsimp only[List.length_cons] at hn
  refine⟨t,us,rfl,rfl,fun hd=>?_,fun hd=>⟨hs,us.length+2,by omega,Se self _ (us.length+2) (t::us) [] (by simp) hI.wf ?_⟩⟩
  ·have G2:=(G1.pos hd).tok.ret.2
   exact bT (hI.tok (aV hd)) G2 fun _ r2 hI _ G=>fM hI G fun b r3 hI _ G=>bT hI G fun _ r4 hI _ G=>ca hI G.ret
  ·have G2:=G1.neg (by simp[hd])
   rw[jW];refine⟨fun p ay hp l hl=>?_,fun l hl=>G2.2 l hl⟩
   have hq:=G2.1 p ay hp;have hpp:PL (df (.UG self)) (t::us) (.ok (p,ay)):=.look (by rw[af (by simp[hd])];exact hp)
   have hz:=PL.short hpp;have oF:Rm N (k+2) ⟨⟨11,at_,0,p.2,⟨#[]⟩,self++l,[]⟩,[],ay,n⟩:=⟨by have:=hI.len;dsimp only at *;omega,by dsimp only[List.length_cons] at *;omega,by have:=hI.xs;dsimp only[List.length_cons] at *;omega,hpp.wf hI.wf⟩
   refine bT oF hq.2 fun _ r2 hI _ G=>fM hI G fun b r3 hI _ G=>bT hI G fun _ r4 hI _ G=>ca hI ?_
   have:=G.ret;rw[hl] at this;exact this
end
section
variable {K:Ast→List aj→Prop} {E:Int→Prop} {K':St→Prop} {N k n:Nat} {h:Nd} {xs:List Ast} {t:aj} {ts:List aj}
theorem Sf (hI:Rm (N+1) k ⟨dp 32 t.2.1,[],t::ts,n⟩) (H:Gw qk (t::ts) K E) (hw:av [58,58] t=true):aJ [aC,cG,au [[58,58]]] ⟨dp 32 t.2.1,[],t::ts,n⟩ (bO K) E :=
 cH hI (aV hw) fun hI=>yF hI ((Gw.look H).pos hw).tok fun _ _ hI _ G=>bT hI G fun _ _ hI _ G=>ca hI G.ret
theorem Sg (hI:Rm (N+1) k ⟨dp 30 t.2.1,[],t::ts,n⟩) (H:Gw qk (t::ts) K E) (hw:av pg t=true):aJ [aC] ⟨dp 30 t.2.1,[],t::ts,n⟩ (bO K) E :=
 cH hI (aV hw) fun hI=>ca hI (((Gw.look H).neg (aU hw (by decide))).pos hw).tok.ret
theorem Xz (hI:Rm (N+1) k ⟨dp 31 t.2.1,[],t::ts,n⟩) (H:Gw qk (t::ts) K E) (hw:av sg t=true):aJ [aC,cG] ⟨dp 31 t.2.1,[],t::ts,n⟩ (bO K) E :=
 cH hI (aV hw) fun hI=>yF hI ((((Gw.look H).neg (aU hw (by decide))).neg (aU hw (by decide))).pos hw).tok fun _ _ hI _ G=>ca hI G.ret
theorem acL (hI:Rm (N+1) k ⟨dp 22 t.2.1,[],t::ts,n⟩) (H:Gw qk (t::ts) K E) (hw:av zR t=true):aJ [aC,px N,au [gP]] ⟨dp 22 t.2.1,[],t::ts,n⟩ (bO K) E :=
 cH hI (aV hw) fun hI=>fM hI (((((Gw.look H).neg (aU hw (by decide))).neg (aU hw (by decide))).neg (aU hw (by decide))).pos hw).tok fun _ _ hI _ G=>bT hI G fun _ _ hI _ G=>ca hI G.ret
theorem Sh (hI:Rm (N+1) k ⟨dp 23 t.2.1,[],t::ts,n⟩) (H:Gw qk (t::ts) K E) (hw:av ph t=true):aJ [aC,oE N,au [zR],px N,au [gP]] ⟨dp 23 t.2.1,[],t::ts,n⟩ (bO K) E :=
 cH hI (aV hw) fun hI=>fL hI ((((((Gw.look H).neg (aU hw (by decide))).neg (aU hw (by decide))).neg (aU hw (by decide))).neg (aU hw (by decide))).pos hw).tok fun _ _ hI _ G=>bT hI G fun _ _ hI _ G =>
  fM hI G fun _ _ hI _ G=>bT hI G fun _ _ hI _ G=>ca hI G.ret
theorem Mm (hI:Rm (N+1) k ⟨dp 24 t.2.1,[],t::ts,n⟩) (H:Gw qk (t::ts) K E) (hw:av lJ t=true):aJ [aC,px N,au [pe],oE N] ⟨dp 24 t.2.1,[],t::ts,n⟩ (bO K) E :=
 cH hI (aV hw) fun hI=>fM hI (((((((Gw.look H).neg (aU hw (by decide))).neg (aU hw (by decide))).neg (aU hw (by decide))).neg (aU hw (by decide))).neg (aU hw (by decide))).pos hw).tok fun _ _ hI _ G=>bT hI G fun _ _ hI _ G =>
  fL hI G fun _ _ hI _ G=>ca hI G.ret
theorem XA {K2:List Ast→List aj→Prop} :∀(m:Nat) (ts:List aj) (xs:List Ast) (n k:Nat),ts.length<m→Rm N (k+1) ⟨h,xs,ts,n⟩→Gw (df (.els xs):GL (List Ast)) ts K2 E→(∀xs' ay n',Rm N 0 ⟨h,xs',ay,n'⟩→K2 xs' ay→K' ⟨h,xs',ay,n'⟩) →
  qi jY [oE N,au [zS],px N] m ⟨h,xs,ts,n⟩ (fun s'=>aJ [bu se [px N],au [gP]] s' K' E) E:=by
 intro m;induction m with
 | zero=>intro ts xs n k h;omega
 | succ m ih =>
  intro ts xs n k h1 hI H hk;obtain⟨t,r,rfl⟩:=hI.wf.fin.cons;have G:=Gw.look H;refine⟨t,r,rfl,fun hw=>?_,fun hw=>?_⟩
  ·refine fL (hI.tok (aV hw)) (G.pos hw).tok fun e fB hI hl G=>bT hI G fun _ r2 hI hl2 G=>fM hI G fun b Cp hI JW G=>?_
   have G3:=(Gw.call G).mono (K':=K2) fun l ay _ hl=>hl.2.ret
   refine ih Cp _ _ _ (by simp at h1;omega) hI ?_ hk
   have e1:xs++[e,b]=xs++[e]++[b]:=by simp
   rw[←e1];exact G3
  ·have G:=G.neg (by simp[hw])
   exact⟨t,r,rfl,fun hw2=>fM (hI.tok (aV hw2)) (G.pos hw2).tok fun b fB hI _ G=>bT hI G fun _ r2 hI _ G=>hk _ _ _ (hI.less (aR _)) G.ret,fun hw2=>bT hI (G.neg (by simp[hw2])) fun _ r2 hI _ G=>hk _ _ _ (hI.less (aR _)) G.ret⟩
theorem acM (hI:Rm (N+1) k ⟨dp 25 t.2.1,[],t::ts,n⟩) (H:Gw qk (t::ts) K E) (hw:av Wc t=true):aJ [aC,oE N,au [zS],px N,rl jY [oE N,au [zS],px N],bu se [px N],au [gP]] ⟨dp 25 t.2.1,[],t::ts,n⟩ (bO K) E :=
 cH hI (aV hw) fun hI=>fL hI ((((((((Gw.look H).neg (aU hw (by decide))).neg (aU hw (by decide))).neg (aU hw (by decide))).neg (aU hw (by decide))).neg (aU hw (by decide))).neg (aU hw (by decide))).pos hw).tok fun e _ hI _ G=>bT hI G fun _ _ hI _ G =>
  fM hI G fun b r hI _ G=>⟨r.length+1,XA (r.length+1) r [e,b] _ _ (dr _) hI (Gw.call G) fun xs' ay n' hI hq=>ca hI hq.2.ret⟩
def Mn (N:Nat):bR:=fun s K E=>aJ [au [wIn],nG N,ee] { s with h:={ s.h with kind:=27}} K E
def Si (N:Nat):bR:=fun s K E=>(s.h.names.length=1→∃t ts,s.ts=t::ts∧(av [61] t=true→aJ [oE N,au [[44]],oE N,bu [44] [oE N]] { s with h:={ s.h with kind:=26},ts:=ts} K E)∧(av [61] t=false→Mn N s K E))∧(s.h.names.length≠1→Mn N s K E)
theorem E7 {at_:Int} {ns:List ByteArray} (hI:Rm N k ⟨⟨0,at_,0,0,⟨#[]⟩,ns,[]⟩,[],ts,n⟩)
  (H:Gw (want wIn fun _=>.call .Ck fun(l:List Ast)=>want zR fun _=>.call .blk fun(d:Ast)=>want gP fun _=>.ret (oA 27 at_ (l.length:Int) ns (l++[d]))) ts K E) :
  Mn N ⟨⟨0,at_,0,0,⟨#[]⟩,ns,[]⟩,[],ts,n⟩ (fun s=>aJ [au [zR],px N,au [gP]] s (bO K) E) E:=by
 have oF:Rm N k ⟨⟨27,at_,0,0,⟨#[]⟩,ns,[]⟩,[],ts,n⟩:=⟨hI.len,hI.n,hI.xs,hI.wf⟩;refine bT oF H fun _ r hI _ G=>tq hI G fun l r2 hI _ G=>?_
 have Sj:Rm N _ ⟨⟨27,at_,0,(l.length:Int),⟨#[]⟩,ns,[]⟩,[]++l,r2,_⟩:=⟨hI.len,hI.n,hI.xs,hI.wf⟩;exact bT Sj G fun _ r3 hI _ G=>fM hI G fun d r4 hI _ G=>bT hI G fun _ r5 hI _ G=>ca hI G.ret
theorem aaH (hI:Rm (N+1) k ⟨dp 0 t.2.1,[],t::ts,n⟩) (H:Gw qk (t::ts) K E) (hw:av CB t=true):aJ [aC,iz,Si N,au [zR],px N,au [gP]] ⟨dp 0 t.2.1,[],t::ts,n⟩ (bO K) E:=by
 refine cH hI (aV hw) fun hI=>?_
 have G:=Gw.call (((((((((Gw.look H).neg (aU hw (by decide))).neg (aU hw (by decide))).neg (aU hw (by decide))).neg (aU hw (by decide))).neg (aU hw (by decide))).neg (aU hw (by decide))).neg (aU hw (by decide))).pos hw).tok
 have G1:Gw (df (.ZE t.2.1):GL Ast) ts K E:=G.mono fun l ay _ hl=>hl.2.ret
 refine Mj hI G1 fun ns r hI G=>?_
 obtain⟨u,us,rfl⟩:=hI.wf.fin.cons;have G:=G.look;refine⟨fun hl=>⟨u,us,rfl,fun hw=>?_,fun hw=>?_⟩,fun hl=>?_⟩
 ·have oF:Rm N _ ⟨⟨26,t.2.1,0,0,⟨#[]⟩,ns,[]⟩,[],us,n⟩:=hI.tok (aV hw)
  refine fL oF (G.pos ⟨hw,hl⟩).tok fun a r2 hI _ G=>bT hI G fun _ r3 hI _ G=>fL hI G fun b r4 hI _ G=>?_
  obtain⟨v,vs,rfl⟩:=hI.wf.fin.cons;have G:=G.look;refine⟨v,vs,rfl,fun hw=>?_,fun hw=>?_⟩
  ·exact fL (hI.tok (aV hw)) (G.pos hw).tok fun c r5 hI _ G=>bT hI G fun _ r6 hI _ G=>fM hI G fun d r7 hI _ G=>bT hI G fun _ r8 hI _ G=>ca hI G.ret
  ·exact bT hI (G.neg (by simp[hw])) fun _ r6 hI _ G=>fM hI G fun d r7 hI _ G=>bT hI G fun _ r8 hI _ G=>ca hI G.ret
 ·exact E7 hI (G.neg (by simp[hw]))
 ·exact E7 hI (G.neg (by simp[hl]))
end
end Go.Proofs.YteflkdlaoiijbaaGreatDoor
namespace Go.Proofs.YteflkdlaoiijbaaGreatDoor
open Go.RowKit
abbrev Di:GL Ast:=df .Eu
def s5:bR:=dm (dI (mC 5) [cG])
section
variable {α:Type} {K:α→List aj→Prop} {E:Int→Prop} {K':St→Prop} {N k n:Nat} {h:Nd} {xs:List Ast} {ts:List aj}
theorem Dj {kk:aj→GL α} (hI:Rm N k ⟨h,xs,ts,n⟩) (H:Gw (name kk) ts K E)
  (hk :∀(t:aj) (r:List aj),Rm N (k+1) ⟨h,xs++[jh 5 t.2.1 (bb t.2.2.2) []],r,n+Ast.al [jh 5 t.2.1 (bb t.2.2.2) []]⟩→r.length<ts.length→Gw (kk t) r K E→K' ⟨h,xs++[jh 5 t.2.1 (bb t.2.2.2) []],r,n+Ast.al [jh 5 t.2.1 (bb t.2.2.2) []]⟩):s5 ⟨h,xs,ts,n⟩ K' E:=by
 obtain⟨t,r,ji⟩:=hI.cons;dsimp only at ji
 subst ji;have hn:=hI.n;have hx:=hI.xs;dsimp only[List.length_cons] at hn hx
 refine jH (by dsimp only;omega) ⟨t,r,t.2.1,rfl,.inl ⟨rfl,rfl⟩,⟨t,r,rfl,fun ht=>⟨by dsimp only;omega,nH.mk (hk t r ?_ (by simp) (H.name.1 ht))⟩,H.name.2⟩⟩
 have hz:Ast.al [jh 5 t.2.1 (bb t.2.2.2) []]=1:=by rw[tp,kQ,cb]
 have hl:=hI.len;dsimp only[List.length_cons] at hl
 exact⟨by dsimp only;omega,by rw[hz];dsimp only;omega,by simp;omega,hI.wf.tail (by rw[ht];decide)⟩
theorem E8 {kk:Ast→GL α} {at_:Int} {self:List ByteArray} (hI:Rm N k ⟨h,xs,ts,n⟩) (hat:at_≠0) (hs:self.length≤100000) (H:Gw (.call (.Gy at_ self) kk) ts K E)
  (hk :∀(b:Ast) (ay:List aj),Rm N k ⟨h,xs++[b],ay,n+Ast.al [b]⟩→ay.length<ts.length→Gw (kk b) ay K E→K' ⟨h,xs++[b],ay,n+Ast.al [b]⟩):dm (dI ⟨11,at_,0,0,⟨#[]⟩,self,[]⟩ [xf N]) ⟨h,xs,ts,n⟩ K' E:=by
 obtain⟨t,r,ji⟩:=hI.cons;dsimp only at ji
 subst ji;have hn:=hI.n;have hx:=hI.xs;dsimp only at hn hx
 refine jH (by dsimp only;omega) ⟨t,r,at_,rfl,.inr ⟨hat,rfl⟩,?_⟩
 refine Ml (k:=k) ⟨hI.len,hn,by dsimp only[List.length_nil];omega,hI.wf⟩ hs ((Gw.call H).mono fun(b:Ast) ay p hq=>nH.mk (hk b ay (hI.kids (by rw[tp];have hz:b.size+2*ay.length≤2*(t::r).length:=hq.1;omega) (PL.short p) (p.wf hI.wf)) ?_ hq.2))
 have hz:b.size+2*ay.length≤2*(t::r).length:=hq.1;have:=size_pos b;omega
end
def xg:Nat→Ast→List aj→Nat→(Ast→List ByteArray→List aj→Prop)→(Int→Prop)→Prop
 | 0,_,_,_,_,_=>False
 | k+1,a,ts,n,K,E=>∃t r,ts=t::r∧(av [46] t=true→aJ [aC,s5] ⟨dp 8 t.2.1,[a],ts,n+a.size⟩ (bO fun a' ay=>xg k a' ay n K E) E) ∧
  (av [46] t=false→(av [58] t=true→aJ [aC,s5] ⟨dp 8 t.2.1,[a],ts,n+a.size⟩ (bO fun a' ay=>K a' [bb wE] ay) E)∧(av [58] t=false→K a [] ts))
def Hy (N:Nat):bR:=fun s K E=>s.xs=[]∧∃t ts,s.ts=t::ts∧t.1≠0∧dI (mC 7) [cG] ts s.n (fun a fB=>∃m,xg m a fB s.n (fun a2 self iy =>
 aJ [ee,dm (dI ⟨11,t.2.1,0,0,⟨#[]⟩,self,[]⟩ [xf N])] ⟨s.h,[a2],iy,s.n+Ast.al [a2]⟩ K E) E) E
def Hz (N:Nat):bR:=fun s K E=>∃t ts,s.ts=t::ts∧(av aZ t=false→aJ [iz,bu [61] [nG N]] { s with h:={ s.h with kind:=19}} K E) ∧
 (av aZ t=true→∃u us,ts=u::us∧(u.1≠1→E u.2.1)∧(u.1=1→dm (dI ⟨11,t.2.1,0,0,⟨#[]⟩,[],[]⟩ [xf N]) { s with h:={ s.h with kind:=28,names:=[bb u.2.2.2]},ts:=us} K E))
def isVar (a:Ast):Prop:=a.hd.kind=7∨a.hd.kind=8
def U3 (N:Nat):iQ:=fun ts n K E=>sD N Di ts n (fun a fB=>(isVar a→K a fB)∧(¬ isVar a→∃t r,fB=t::r∧E t.2.1)) E
def U4 (N:Nat):bR:=lT (U3 N) cL
def XB (M N:Nat):bR:=fun s K E=>s.xs=[]∧sD M Di s.ts s.n (fun a fB=>(a.hd.kind=9∨a.hd.kind=10→K ⟨{ s.h with kind:=21},[a],fB,s.n+Ast.al [a]⟩) ∧
 (isVar a→aJ [bu [44] [U4 N],ee,au [[61]],nG N] ⟨{ s.h with kind:=20},[a],fB,s.n+Ast.al [a]⟩ K E)∧(¬ (a.hd.kind=9∨a.hd.kind=10)→¬ isVar a→∃t r,fB=t::r∧E t.2.1)) E
section
variable {K:Ast→List aj→Prop} {E:Int→Prop} {K':St→Prop} {N k n:Nat} {h:Nd} {xs:List Ast} {t:aj} {ts:List aj}
theorem XC (at_:Int) (n:Nat) (C:Ast→List ByteArray→List aj→Prop) (hC :∀a self ts k,Rm N k ⟨dp 20 at_,[a],ts,n+Ast.al [a]⟩→self.length≤1→Gw (.call (.Gy at_ self) fun(f:Ast)=>.ret (qS 20 at_ 1 [a,f])) ts K E→C a self ts) :∀(m:Nat) (ts:List aj) (a:Ast) (k:Nat),ts.length<m→Rm N k ⟨dp 20 at_,[a],ts,n+Ast.al [a]⟩→Gw (df (.Wd at_ a):GL Ast) ts K E→xg m a ts n C E:=by
 intro m;induction m with
 | zero=>intro ts a k h;omega
 | succ m ih =>
  intro ts a k h1 hI H;obtain⟨t,r,rfl⟩:=hI.wf.fin.cons;have G:=Gw.look H;have step :∀(j:Nat) (x y:Ast) (ay:List aj),Rm N (j+1) ⟨dp 8 t.2.1,[a]++[x],ay,n+a.size+Ast.al [x]⟩→y.size=Ast.al ([a]++[x])+1→Rm N j ⟨dp 20 at_,[y],ay,n+Ast.al [y]⟩:=fun j x y ay hI hy=>by
   have h1:=hI.n;have h2:=hI.xs;rw[eV,tp,tp] at hy;rw[tp] at h1;exact⟨hI.len,by rw[tp];dsimp only at *;omega,by simp at h2 ⊢;omega,hI.wf⟩
  have ZP:Rm N k ⟨dp 8 t.2.1,[a],t::r,n+a.size⟩:=⟨hI.len,by have:=hI.n;rw[tp] at this;exact this,hI.xs,hI.wf⟩
  have sk :∀{K3:St→Prop},t.1≠0→(Rm N (k+2) ⟨dp 8 t.2.1,[a],r,n+a.size⟩→K3 ⟨dp 8 t.2.1,[a],r,n+a.size⟩)→aC ⟨dp 8 t.2.1,[a],t::r,n+a.size⟩ K3 E:=fun ht hk=>⟨t,r,rfl,ht,hk (ZP.tok ht)⟩
  refine⟨t,r,rfl,fun hw=>?_,fun hw=>⟨fun hw2=>?_,fun hw2=>?_⟩⟩
  ·refine sk (aV hw) fun hI=>Dj hI (G.pos hw).tok fun u r2 hI hl G=>ca hI ?_
   have G2:=(Gw.call G).mono (K':=K) fun l ay _ hl=>hl.2.ret
   exact ih r2 _ (k+2) (by simp at h1;omega) (step _ _ _ _ hI (by rw[Ast.size])) G2
  ·refine sk (aV hw2) fun hI=>Dj hI ((G.neg (by simp[hw])).pos hw2).tok fun u r2 hI hl G=>ca hI ?_
   exact hC _ _ _ (k+2) (step _ _ _ _ hI (by rw[Ast.size])) (by simp) G
  ·exact hC _ _ _ k hI (by simp) ((G.neg (by simp[hw])).neg (by simp[hw2]))
theorem Dk (hI:Rm (N+1) k ⟨dp 20 t.2.1,[],t::ts,n⟩) (H:Gw qk (t::ts) K E) (hw:av aZ t=true):aJ [Hy N] ⟨dp 20 t.2.1,[],t::ts,n⟩ (bO K) E:=by
 have G:=Gw.call ((((((((((Gw.look H).neg (aU hw (by decide))).neg (aU hw (by decide))).neg (aU hw (by decide))).neg (aU hw (by decide))).neg (aU hw (by decide))).neg (aU hw (by decide))).neg (aU hw (by decide))).neg (aU hw (by decide))).pos hw).tok
 have G1:Gw (df (.ZF t.2.1):GL Ast) ts K E:=G.mono fun l ay _ hl=>hl.2.ret
 have hat:t.2.1≠0:=(hI.wf.zu t (bU ..)).1;have oF:=hI.Xy (h':=dp 20 t.2.1) (aV hw);obtain⟨u,us,rfl⟩:=oF.wf.fin.cons;refine⟨rfl,t,u::us,rfl,aV hw,u,us,u.2.1,rfl,.inl ⟨rfl,rfl⟩,⟨u,us,rfl,fun hu=>?_,G1.name.2⟩⟩
 have hI:=oF.tok (h':=dp 20 t.2.1) (show u.1≠0 by rw[hu];decide)
 refine⟨by have:=hI.n;dsimp only at *;omega,us.length+1,?_⟩
 have G2:=(Gw.call (G1.name.1 hu)).mono (K':=K) fun l ay _ hl=>hl.2.ret
 refine XC (N:=N) t.2.1 n _ (fun a self Cp k hI hs G=>?_) (us.length+1) us _ (k+3) (dr _) ?_ G2
 ·have Sj:Rm N k ⟨⟨20,t.2.1,0,1,⟨#[]⟩,[],[]⟩,[a],Cp,n+Ast.al [a]⟩:=⟨hI.len,hI.n,hI.xs,hI.wf⟩
  exact E8 Sj hat (by omega) G fun b r4 hI _ G=>ca hI G.ret
 ·have h1:=hI.n
  have h2:=hI.xs;refine⟨hI.len,?_,by simp at h2 ⊢;omega,hI.wf⟩
  rw[tp];show n+Ast.size (jh 7 u.2.1 (bb u.2.2.2) [])+_+_≤_
  rw[kQ,cb];dsimp only at *
  omega
theorem Sk (hI:Rm (N+1) k ⟨dp 0 t.2.1,[],t::ts,n⟩) (H:Gw qk (t::ts) K E) (hw:av fP t=true):aJ [aC,Hz N] ⟨dp 0 t.2.1,[],t::ts,n⟩ (bO K) E:=by
 refine cH hI (aV hw) fun hI=>?_
 have G:=Gw.call (((((((((((Gw.look H).neg (aU hw (by decide))).neg (aU hw (by decide))).neg (aU hw (by decide))).neg (aU hw (by decide))).neg (aU hw (by decide))).neg (aU hw (by decide))).neg (aU hw (by decide))).neg (aU hw (by decide))).neg (aU hw (by decide))).pos hw).tok
 have G1:Gw (df (.loc t.2.1):GL Ast) ts K E:=G.mono fun l ay _ hl=>hl.2.ret
 obtain⟨u,us,rfl⟩:=hI.wf.fin.cons;have G:=Gw.look G1;refine⟨u,us,rfl,fun hw=>?_,fun hw=>?_⟩
 ·have oF:Rm N (k+2) ⟨dp 19 t.2.1,[],u::us,n⟩:=⟨hI.len,hI.n,hI.xs,hI.wf⟩
  refine Mj oF (G.neg (by simp[hw])) fun ns r hI G=>?_
  obtain⟨v,vs,rfl⟩:=hI.wf.fin.cons;have G:=G.look;exact⟨v,vs,rfl,fun hw=>tq (hI.tok (aV hw)) (G.pos hw).tok fun l r2 hI _ G=>ca hI G.ret,fun hw=>ca hI (G.neg (by simp[hw])).ret⟩
 ·have hat:u.2.1≠0:=(hI.wf.zu u (bU ..)).1
  have oF:=hI.tok (h':=dp 28 t.2.1) (aV hw);obtain⟨v,vs,rfl⟩:=oF.wf.fin.cons;have G:=(G.pos hw).tok;refine⟨v,vs,rfl,G.name.2,fun hv=>?_⟩
  have Sj:Rm N (k+6) ⟨⟨28,t.2.1,0,0,⟨#[]⟩,[bb v.2.2.2],[]⟩,[],vs,n⟩:=oF.tok (by rw[hv];decide)
  exact E8 Sj hat (by simp) (G.name.1 hv) fun b r hI _ G=>ca hI G.ret
theorem Mo (l:List Ast) (x d:Ast):(l++[x]).getLastD d=x:=by simp
theorem Sl (at_:Int) (l0:List Ast) (K2:Ast→List aj→Prop) (B:Nat) (C:List Ast→List aj→Prop) (hC :∀xs ay,Ast.al xs+2*ay.length≤B→Wf ay→ay.length<N→Gw (want [61] fun _=>.call .Ck fun(m:List Ast)=>.ret (qS 20 at_ ((l0++xs).length:Int) (l0++xs++m))) ay K2 E→C xs ay) :
  ∀(m:Nat) (ts:List aj) (n:Nat) (acc:List Ast),ts.length<m→ts.length<N→n+2*ts.length≤60000→Ast.al acc+2*ts.length≤B→Wf ts→Gw (.call .Eu fun(x:Ast)=>.call (.Wh at_ (l0++acc++[x])) fun(y:Ast)=>.ret y) ts K2 E→sC (U3 N) cL m ts n acc C E:=by
 intro m;induction m with
 | zero=>intro ts n acc h;omega
 | succ m ih =>
  intro ts n acc h1 h2 h3 hB hf H;refine⟨h2,h3,hf.zu,(Gw.call H).mono fun(e:Ast) ay p hq=>?_⟩
  have hz:e.size+2*ay.length+1≤2*ts.length:=hq.1;have hf':=p.wf hf;obtain⟨t,r,rfl⟩:=hf'.fin.cons;have hg:=(Gw.call hq.2).look;rw[Mo] at hg;have hsz:Ast.al (acc++[e])+2*(t::r).length≤B:=by rw[eV,tp];omega
  refine⟨fun hv=>?_,fun hv=>⟨t,r,rfl,(hg.neg hv).bad⟩⟩
  have hg:=hg.pos hv;cases hc:av [44] t with
  | true =>
   have e1:cL (t::r)=(true,r):=by simp[cL,hc]
   show(_→_)∧(_→_)
   rw[e1];refine⟨fun _=>ih r (n+e.size) (acc++[e]) (by simp at hz;omega) (by simp at hz;omega) (by simp at hz;omega) (by simp at hsz ⊢;omega) (hf'.tail (aV hc)) ?_,fun hb=>(fW hb.symm).elim⟩
   rw[←fe];exact(hg.pos hc).tok.mono fun y Cp _ hy=>hy.2.ret
  | false =>
   have e1:cL (t::r)=(false,t::r):=by simp[cL,hc]
   show(_→_)∧(_→_)
   rw[e1];refine⟨fun hb=>(fW hb).elim,fun _=>hC (acc++[e]) (t::r) hsz hf' (by omega) ?_⟩
   have G:=hg.neg (by simp[hc])
   rw[←fe];exact G.mono fun y Cp _ hy=>hy.2.ret
structure Mp (t:aj):Prop where
 a:av [58,58] t=false
 b:av pg t=false
 c:av sg t=false
 d:av zR t=false
 e:av ph t=false
 f:av lJ t=false
 g:av Wc t=false
 h:av CB t=false
 i:av aZ t=false
 j:av fP t=false
theorem Sm (hI:Rm (N+1) k ⟨dp 0 t.2.1,[],t::ts,n⟩) (H:Gw qk (t::ts) K E) (hw:Mp t):aJ [XB (N+1) N] ⟨dp 0 t.2.1,[],t::ts,n⟩ (bO K) E:=by
 have G:=((((((((((Gw.look H).neg (by simp[hw.a])).neg (by simp[hw.b])).neg (by simp[hw.c])).neg (by simp[hw.d])).neg (by simp[hw.e])).neg (by simp[hw.f])).neg (by simp[hw.g])).neg (by simp[hw.h])).neg (by simp[hw.i])).neg (by simp[hw.j])
 have hn:=hI.n;have hx:=hI.xs;have hl:=hI.len;dsimp only at hn hx hl
 refine⟨rfl,hI.len,by dsimp only;omega,hI.wf.zu,(Gw.call G).mono fun(x:Ast) ay p hq=>?_⟩
 have hz:x.size+2*ay.length+1≤2*(t::ts).length:=hq.1;have yG:=p.wf hI.wf;have hlt:ay.length<N:=by have:=size_pos x;simp only[List.length_cons] at *;omega
 have oF :∀h',Rm N 0 ⟨h',[x],ay,n+Ast.al [x]⟩:=fun h'=>⟨hlt,by rw[tp];dsimp only;omega,by have:=size_pos x;simp only[List.length_cons,List.length_nil] at *;omega,yG⟩
 refine⟨fun hk=>ca (oF _) (hq.2.pos hk).ret,fun hv=>?_,fun h1 h2=>?_⟩
 ·have h9:¬ (x.hd.kind=9∨x.hd.kind=10):=by unfold isVar at hv;omega
  have G:=(Gw.call (hq.2.neg h9)).mono (K':=K) fun y Cp _ hy=>hy.2.ret
  obtain⟨u,us,rfl⟩:=yG.fin.cons;have G:=(Gw.look G).pos hv;have hend :∀(ys:List Ast) (Cp:List aj),Rm N 0 ⟨dp 20 t.2.1,[x]++ys,Cp,n+Ast.al ([x]++ys)⟩→Gw (want [61] fun _=>.call .Ck fun(m:List Ast)=>.ret (qS 20 t.2.1 (([x]++ys).length:Int) ([x]++ys++m))) Cp K E→aJ [ee,au [[61]],nG N] ⟨dp 20 t.2.1,[x]++ys,Cp,n+Ast.al ([x]++ys)⟩ (bO K) E:=fun ys Cp hI G=>by
   have Sj:Rm N 0 ⟨⟨20,t.2.1,0,(([x]++ys).length:Int),⟨#[]⟩,[],[]⟩,[x]++ys,Cp,n+Ast.al ([x]++ys)⟩:=⟨hI.len,hI.n,hI.xs,hI.wf⟩;exact bT Sj G fun _ r2 hI _ G=>tq hI G fun m r3 hI _ G=>ca hI G.ret
  refine⟨u,us,rfl,fun hc=>?_,fun hc=>?_⟩
  ·have H7:=(oF (dp 20 t.2.1)).tok (h':=dp 20 t.2.1) (aV hc)
   have htn:=H7.n;have htx:=H7.xs;dsimp only at htn htx
   refine⟨by dsimp only;omega,us.length+1,by omega,?_⟩
   refine Sl t.2.1 [x] K (2*us.length) _ (fun ys Cp hs hw3 JW G=>?_) (us.length+1) us _ [] (dr _) H7.len (by dsimp only;omega) (by rw[cb];omega) H7.wf ((G.pos hc).tok)
   have:=hend ys Cp ⟨JW,?_,?_,hw3⟩ G
   ·rw[eV,←r9] at this
    exact this
   ·rw[eV];dsimp only;omega
   ·have:=uB ys
    simp only[bV] at *;omega
  ·have:=hend [] (u::us) (by rw[jW];exact oF _) (by rw[jW];exact G.neg (by simp[hc]))
   rw[jW] at this;exact this
 ·have h9:=hq.2.neg h1
  obtain⟨u,us,rfl⟩:=yG.fin.cons;have G:=(Gw.call h9).look;exact⟨u,us,rfl,(G.neg h2).bad⟩
end
end Go.Proofs.YteflkdlaoiijbaaGreatDoor
namespace Go.Proofs.YteflkdlaoiijbaaGreatDoor
open Go.RowKit
def pz (f:FuncId) (wp:iQ):Prop:=∀(b:Nat) (O:Nat→Prop) (ts:List aj) (T:List Nd) (K:Ast→List aj→Prop) (E:Int→Prop) (W:World),PS W b O ts T→wp ts T.length K E→Calls Tryz.prog f #[.pointer (some ⟨b,0,none⟩)] W (aF b O T (RK K E) W)
theorem pz.one {f:FuncId} {wp:iQ} (h:pz f wp) (hf:Enters Tryz.prog f) (W:World) (b:Nat) (O:Nat→Prop):One W b O (aY f b) wp:=by
 intro W1 O1 T ts K E _ _ hp hk;exact⟨f,_,_,rfl,hf,h b O1 ts T K E W1 hp hk⟩
def ep (f:FuncId) (wp:bR):Prop:=∀(b n:Nat) (O:Nat→Prop) (T0:List Nd) (s:St) (K:St→Prop) (E:Int→Prop) (W:World),Real W b n O T0 s→wp s K E→Calls Tryz.prog f #[.pointer (some ⟨b,0,none⟩),.pointer (some ⟨n,0,none⟩)] W (bx b n O T0 K E W)
theorem ep.part {f:FuncId} {wp:bR} (h:ep f wp) (hf:Enters Tryz.prog f) (W:World) (b:Nat) (O:Nat→Prop):eA W b O (aY f b) wp:=by
 intro W1 O1 T0 s n K E _ _ hr hk;exact⟨f,_,_,rfl,hf,h b n O1 T0 s K E W1 hr hk⟩
theorem Real.lt {W:World} {b n:Nat} {O:Nat→Prop} {T0:List Nd} {s:St} (h:Real W b n O T0 s) :∀k,O k→k<W.heap.size:=fun k hk=>(h.own k hk).2
theorem eA.call {W W1:World} {b n:Nat} {O:Nat→Prop} {T0:List Nd} {s:St} {K:St→Prop} {E:Int→Prop} {v:Value} {wp:bR} (h:eA W1 b O v wp) (hr:Real W b n O T0 s) (hb:Below W.heap.size W W1) (hk:wp s K E) :
  ∃f first cap,v=.func (.func f) first cap∧Enters Tryz.prog f∧Calls Tryz.prog f (first.push (.pointer (some ⟨n,0,none⟩))++cap) W1 (bx b n O T0 K E W):=by
 obtain⟨f,first,cap,e,h1,h2⟩:=h W1 O T0 s n K E (az.refl _ _) (Ext.refl _ _) (hr.below hb) hk
 refine⟨f,first,cap,e,h1,?_⟩
 rw[show first++#[Value.pointer (some ⟨n,0,none⟩)]=first.push (.pointer (some ⟨n,0,none⟩)) from by simp] at h2
 exact h2.mono fun e w' hp=>hp.after (az.ae hb)
theorem Mq {wp:iQ} (hE:pz 142 wp):ep 91 (dm wp):=by
 intro b n O T0 s K E w hr hk;have HC:=aa (AN b O 142 _ _ wp w (hE.one (enters_of Tryz.func142 (by kernel_rfl) rfl) w b O) hr.lt)
 have HR:=aa hr;have HK:=aa hk;clear hr hk;go_enter Tryz.func91,Tryz.ntmps91
 go_wp2_with fail
 refine HC.out.mono ?_;rintro e w1 ⟨v,rfl,b1,h2⟩;obtain⟨f,first,cap,rfl,pt,bq⟩:=h2.1.call HR.out b1 HK.out
 have dS:=aa bq;clear h2 bq b1;unfold Enters at pt;go_wp2_with fail
 refine dS.out.mono ?_;intro e w2 h3;obtain⟨v,rfl⟩:=h3.ret;have H3:=aa h3;clear h3;go_wp2_with fail
 go_ret
 exact H3.out
theorem uC (W:World) (b:Nat) (O:Nat→Prop):yB W b O (aY 143 b) cL:=by
 intro W1 O1 T ts _ _ hp;obtain⟨t,r,rfl⟩:=hp.fin.cons;refine⟨143,_,_,rfl,enters_of Tryz.func143 (by kernel_rfl) rfl,?_⟩
 cases hc:av [44] t with
 | true =>
  have e1:cL (t::r)=(true,r):=by simp[cL,hc]
  rw[e1];exact j5 b O1 t r T W1 hp hc
 | false =>
  have e1:cL (t::r)=(false,t::r):=by simp[cL,hc]
  rw[e1];exact lS b O1 t r T W1 hp hc
theorem Mr {wp:iQ} (hE:pz 142 wp):ep 84 (lT wp cL):=by
 intro b n O T0 s K E w hr hk;have HC:=aa (yE b O 142 143 _ _ _ _ wp cL w (hE.one (enters_of Tryz.func142 (by kernel_rfl) rfl) w b O) (uC w b O) hr.lt)
 have HR:=aa hr;have HK:=aa hk;clear hr hk;go_enter Tryz.func84,Tryz.ntmps84
 go_wp2_with fail
 refine HC.out.mono ?_;rintro e w1 ⟨v,rfl,b1,h2⟩;obtain⟨f,first,cap,rfl,pt,bq⟩:=h2.1.call HR.out b1 HK.out
 have dS:=aa bq;clear h2 bq b1;unfold Enters at pt;go_wp2_with fail
 refine dS.out.mono ?_;intro e w2 h3;obtain⟨v,rfl⟩:=h3.ret;have H3:=aa h3;clear h3;go_wp2_with fail
 go_ret
 exact H3.out
theorem H9 {wp:iQ} (hE:pz 184 wp):ep 154 (lT wp cL):=by
 intro b n O T0 s K E w hr hk;have HC:=aa (yE b O 184 143 _ _ _ _ wp cL w (hE.one (enters_of Tryz.func184 (by kernel_rfl) rfl) w b O) (uC w b O) hr.lt)
 have HR:=aa hr;have HK:=aa hk;clear hr hk;go_enter Tryz.func154,Tryz.ntmps154
 go_wp2_with fail
 refine HC.out.mono ?_;rintro e w1 ⟨v,rfl,b1,h2⟩;obtain⟨f,first,cap,rfl,pt,bq⟩:=h2.1.call HR.out b1 HK.out
 have dS:=aa bq;clear h2 bq b1;unfold Enters at pt;go_wp2_with fail
 refine dS.out.mono ?_;intro e w2 h3;obtain⟨v,rfl⟩:=h3.ret;have H3:=aa h3;clear h3;go_wp2_with fail
 go_ret
 exact H3.out
theorem aN.new {w:World} {b:Nat} {O:Nat→Prop} (hO :∀k,O k→k<w.heap.size) (vs:List Value) (cD:List bR) (hl:vs.length≤100) (h:jF w b O vs cD):aN (w.alloc (.cells vs.toArray 122)) b O (.slice (some ⟨w.heap.size,0,none⟩) vs.length vs.length) cD :=
 ⟨vs,.inr ⟨w.heap.size,rfl,World.alloc_heap_new w _,fun h=>by have:=hO _ h;omega,hl⟩,h.later ((az.refl _ _).alloc _) (Ext.refl _ _)⟩
theorem aW (w:World) (o:Obj):Below w.heap.size w (w.alloc o):=(Below.refl _ _).alloc (ah _) o
theorem E9 {wp:bR} (hS:ep 20 wp):ep 90 (dm (dI (mC 18) [wp])):=by
 intro b n O T0 s K E w hr hk;have hO:=hr.lt;have HP:aN (w.alloc (.cells #[aY 20 b] 122)) b O (.slice (some ⟨w.heap.size,0,none⟩) 1 1) [wp]:=aN.new hO [aY 20 b] [wp] (by simp) ⟨hS.part (enters_of Tryz.func20 (by kernel_rfl) rfl) w b O,trivial⟩
 have HC:=aa (rr b O (mC 18) (.slice none 0 0) _ [wp] _ (zt.nil _ b) HP (fun k hk=>by have:=hO k hk;simp;omega))
 have HR:=aa hr;have HK:=aa hk;clear hr hk HP hO;go_enter Tryz.func90,Tryz.ntmps90
 go_wp2_with fail
 refine HC.out.mono ?_;rintro e w1 ⟨v,rfl,b1,h2⟩;obtain⟨f,first,cap,rfl,pt,bq⟩:=h2.1.call HR.out (aB (aW w _) b1) HK.out
 have dS:=aa bq;clear h2 bq b1;unfold Enters at pt;go_wp2_with fail
 refine dS.out.mono ?_;intro e w2 h3;obtain⟨v,rfl⟩:=h3.ret;have H3:=aa h3;clear h3;go_wp2_with fail
 go_ret
 exact H3.out
theorem Ms:ep 179 s5:=by
 intro b n O T0 s K E w hr hk;have hO:=hr.lt;have HP:aN (w.alloc (.cells #[aY 88 b] 122)) b O (.slice (some ⟨w.heap.size,0,none⟩) 1 1) [cG]:=aN.new hO [aY 88 b] [cG] (by simp) ⟨ig w b O,trivial⟩
 have HC:=aa (rr b O (mC 5) (.slice none 0 0) _ [cG] _ (zt.nil _ b) HP (fun k hk=>by have:=hO k hk;simp;omega))
 have HR:=aa hr;have HK:=aa hk;clear hr hk HP hO;go_enter Tryz.func179,Tryz.ntmps179
 go_wp2_with fail
 refine HC.out.mono ?_;rintro e w1 ⟨v,rfl,b1,h2⟩;obtain⟨f,first,cap,rfl,pt,bq⟩:=h2.1.call HR.out (aB (aW w _) b1) HK.out
 have dS:=aa bq;clear h2 bq b1;unfold Enters at pt;go_wp2_with fail
 refine dS.out.mono ?_;intro e w2 h3;obtain⟨v,rfl⟩:=h3.ret;have H3:=aa h3;clear h3;go_wp2_with fail
 go_ret
 exact H3.out
theorem aaI (b:Nat) (O:Nat→Prop) (t:aj) (ts:List aj) (T:List Nd) (x:Nd) (pv:Value) (cD:List bR) (K:Ast→List aj→Prop) (E:Int→Prop) (w:World) (hp:PS w b O (t::ts) T) (hx:x=⟨x.kind,0,x.op,x.num,x.s,[],[]⟩) (EZ:aN w b O pv cD)
  (hk:aJ cD ⟨{ x with line:=t.2.1},[],t::ts,T.length⟩ (bO K) E):Calls Tryz.prog 19 #[.pointer (some ⟨b,0,none⟩),cO x (.slice none 0 0) (.slice none 0 0),pv] w (aF b O T (RK K E) w):=by
 have h1:x.line=0:=by rw[hx]
 have h2:x.names=[]:=by rw[hx]
 refine(yC b O (fun _=>False) t ts T T x t.2.1 [] [] (.slice none 0 0) (.slice none 0 0) pv cD (RK K E) w hp ⟨?_,World.ownsRow_nil _ _ _ _,fun g hg=>by simp[Value.ownBlock] at hg,fun g hg=>by simp[Value.ownBlock] at hg,fun g hg=>by simp[Value.ownBlock] at hg⟩ (fun _ _ h=>h) (fun _ h=>h.elim) (dR.nil T) (EZ.later (az.refl _ _) (fun k hk=>.inl (hk.elim id False.elim))) (.inl ⟨h1,rfl⟩) hk).mono fun e w' h=>h.sub fun k hk=>hk.elim id False.elim
 rw[show({ x with kids:=[]}:Nd).names=[] from h2]
 exact World.ownsRow_nil _ _ _ _
theorem cr {b:Nat} {O:Nat→Prop} {t:aj} {ts:List aj} {T:List Nd} {K:Ast→List aj→Prop} {E:Int→Prop} (w w2:World) (hp:PS w2 b O (t::ts) T) (hf:az O w w2) (x:Nd) (hx:x=⟨x.kind,0,x.op,x.num,x.s,[],[]⟩) (vs:List Value) (cD:List bR) (hl:vs.length≤100) (hall:jF w2 b O vs cD)
  (hk:aJ cD ⟨{ x with line:=t.2.1},[],t::ts,T.length⟩ (bO K) E):Calls Tryz.prog 19 #[.pointer (some ⟨b,0,none⟩),cO x (.slice none 0 0) (.slice none 0 0),.slice (some ⟨w2.heap.size,0,none⟩) vs.length vs.length] (w2.alloc (.cells vs.toArray 122)) (aF b O T (RK K E) w) :=
 (aaI b O t ts T x _ cD K E _ (hp.below (aW w2 _)) hx (aN.new (fun k hk=>(hp.own k hk).2) vs cD hl hall) hk).mono fun _ _ h=>h.after (hf.alloc _)
def j6 (b:Nat) (O:Nat→Prop) (wp:bR) (w:World) (e:Ending) (w':World):Prop:=∃f first cap,e=.returned (.func (.func f) first cap)∧Below w.heap.size w w'∧eA w' b O (.func (.func f) first cap) wp
theorem cf (w:World) (b:Nat) (O:Nat→Prop) (hO :∀k,O k→k<w.heap.size) (x:List UInt8) (hx:x≠[]) (X:ByteArray) (hX:X=bb x) :
  Calls Tryz.prog 89 #[.pointer (some ⟨b,0,none⟩),.slice (some ⟨w.heap.size,0,none⟩) 1 1] (w.alloc (.cells #[.string X] 9)) (j6 b O (au [x]) w):=by
 subst hX;refine(EW b w.heap.size O [x] (w.alloc (.cells #[.string (bb x)] 9)) (fun y hy=>by rw[bP.1 hy];exact hx) (by simp) (eB.new w O hO _ 9) (fun k hk=>by have:=hO k hk;simp;omega) 1 rfl).mono ?_
 rintro e w' ⟨v,rfl,hb,hp,f,first,cap,rfl⟩
 exact⟨f,first,cap,rfl,aB (aW w _) hb,hp⟩
def Mt (ex:bR) (t:aj) (ts:List aj) (n:Nat) (K:Ast→List aj→Prop) (E:Int→Prop):Prop :=
 (av [40] t=true→aJ [aC,ex,au [[41]]] ⟨dp 14 t.2.1,[],t::ts,n⟩ (bO K) E)∧(av [40] t=false→aJ [cG] ⟨dp 7 t.2.1,[],t::ts,n⟩ (bO K) E)
theorem Sn {ex:bR} (hE:ep 91 ex) (b:Nat) (O:Nat→Prop) (t:aj) (ts:List aj) (T:List Nd) (K:Ast→List aj→Prop) (E:Int→Prop) (w:World) (hp:PS w b O (t::ts) T) (hk:Mt ex t ts T.length K E) :
  Calls Tryz.prog 182 #[.pointer (some ⟨b,0,none⟩)] w (aF b O T (RK K E) w):=by
 have HW:=aa (bI b O t ts T w hp);cases hq:av [40] t with
 | true =>
  have g1:((ag t).toList == [40])=true:=ai (s:=[40]) (by decide) t hq
  have HK:=aa (hk.1 hq);generalize hY:ag t=Y at *;have HP:=aa hp;clear hp hk hY hq;go_enter Tryz.func182,Tryz.ntmps182
  go_wp2_with fail
  refine HW.out.mono ?_;rintro e w1 ⟨rfl,b1⟩;have lF:=HP.out.below b1;have rq :∀k,O k→k<w1.heap.size:=fun k hk=>(lF.own k hk).2
  have B1:=aa b1;have P1:=aa lF;have HV:=aa (cf w1 b O rq [41] (by decide) ⟨#[41]⟩ rfl)
  clear b1 lF rq;go_wp2_with fail
  refine HV.out.mono ?_;rintro e w2 ⟨fi,f1,f2,rfl,b2,h2⟩;have HN:=aa (cr w w2 (P1.out.below b2) (az.ae (aB B1.out b2)) (mC 14) rfl [aY 40 b,aY 91 b,.func (.func fi) f1 f2] [aC,ex,au [[41]]] (by simp) ⟨bc w2 b O,hE.part (enters_of Tryz.func91 (by kernel_rfl) rfl) w2 b O,h2,trivial⟩ HK.out)
  clear b2 h2;go_wp2_with fail
  refine HN.out.mono ?_;intro e w3 h3;obtain⟨v,er,rfl⟩:=h3.ret;have H3:=aa h3;clear h3;go_wp2_with fail
  go_ret2
  exact H3.out
 | false =>
  have g1:((ag t).toList == [40])=false:=ai (s:=[40]) (by decide) t hq
  have HK:=aa (hk.2 hq);generalize hY:ag t=Y at *;have HP:=aa hp;clear hp hk hY hq;go_enter Tryz.func182,Tryz.ntmps182
  go_wp2_with fail
  refine HW.out.mono ?_;rintro e w1 ⟨rfl,b1⟩;have HN:=aa (cr w w1 (HP.out.below b1) (az.ae b1) (mC 7) rfl [aY 88 b] [cG] (by simp) ⟨ig w1 b O,trivial⟩ HK.out)
  clear b1;go_wp2_with fail
  refine HN.out.mono ?_;intro e w3 h3;obtain⟨v,er,rfl⟩:=h3.ret;have H3:=aa h3;clear h3;go_wp2_with fail
  go_ret2
  exact H3.out
end Go.Proofs.YteflkdlaoiijbaaGreatDoor
