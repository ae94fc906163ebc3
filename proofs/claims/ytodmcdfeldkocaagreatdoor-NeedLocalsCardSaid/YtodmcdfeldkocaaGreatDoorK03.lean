/- Parts of the proof. -/
import Derived.RangeFuncNested
import Derived.RangeFuncBound
import Derived.RangeFuncCalls
import Derived.RangeFuncLeaves
import Derived.Shelf.Abstract
import Derived.OwnWalkIn
import Derived.TacticsInMore
import Derived.LoopNIn
import Derived.LoopIn
import Derived.LaidEql
import Derived.Stop.Asserts
import Derived.RowKitTokens
import Derived.Deep.RegionHeld3
import Derived.Test.YtodmcdfeldkocaaGreatDoorK02
set_option maxHeartbeats 16000000
set_option maxRecDepth 20000
namespace Go.Proofs.YtodmcdfeldkocaaGreatDoor
open Go.RowKit
theorem AP {T:List Nd} {B:Nat} {nv:Value} {ub ob:Nat} (b node f:Nat) (h:Nd) (loop:Int) (pa la:Option Addr) (ln lc:Nat) (st:aI) (w:World) (hT:wu w B nv T) (hw:jG w B b nv T.length st ub ob) (hx:T[node]? = some h) (hl:loop=cK f st.frames) :
  Calls Tryz.prog 38 #[.pointer (some ⟨b,0,none⟩),.int .i64 (node:Int),.agg #[.int .i64 (f:Int),.int .i64 loop,.pointer pa,.slice la ln lc]] w (gD B b nv T.length ub ob (dX node f h.line st) w):=by
 obtain⟨fv,FL,hw⟩:=hw;obtain⟨hbl,po,tm⟩:=hw.mN;have ca:B≤w.heap.size:=aL hw.pos (ft hbl);have iV:node<T.length:=(aJ.1 hx).1;have d0:w.cell? ⟨b,0,none⟩=some nv:=ab hw.blk 0;have d2:w.cell? ⟨b,2,none⟩=some (.slice (some ⟨ub,0,none⟩) T.length T.length):=ab hw.blk 2;obtain⟨u0,v0⟩:=bZ hw.uses (j:=node*2) (by omega)
 obtain⟨u1,v1⟩:=bZ hw.uses (j:=node*2+1) (by omega)
 have pU:=hT.few;have HR:Hid (dX node f h.line st=if loop = -1 then .error (8,h.line) else .ok (st.dw node (4,loop))):=aa (by rw[LO,hl])
 have HW:=aa hw;have HT:=aa hT;have HX:=aa hx;clear hw hT hx hl;by_cases hm:loop = -1
 ·subst hm
  have HC:=aa (ab (HW.out.alloc (.cells #[.int .i64 (f:Int),.int .i64 (-1),.pointer pa,.slice la ln lc] 69)).blk 0);have AM:=aa (HT.out.below ((Below.refl B w).alloc ca (.cells #[.int .i64 (f:Int),.int .i64 (-1),.pointer pa,.slice la ln lc] 69)));clear d2 u0 v0 u1 v1;go_enter Tryz.func38,Tryz.ntmps38
  go_wp2_with fail
  refine(eA b node _ _ _ AM.out HC.out HX.out).mono ?_;rintro e w1 ⟨v,rfl,⟨g1,rfl⟩,h1,h2⟩;have H1:=aa h1;have H2:=aa h2;clear h1 h2;go_wp2_with fail
  go_ret
  rw[show dX node f h.line st=.error (8,h.line) from HR.out.trans (by simp)]
  exact iK ((Below.refl B w).alloc ca _) (by simp;omega) H2.out H1.out
 ·have g1:(loop == -1)=false:=aC.2 hm
  have HM:=aa hm;clear hm;go_enter Tryz.func38,Tryz.ntmps38
  go_wp2_with fail
  go_region
  go_wp2_with fail
  go_ret
  rw[show dX node f h.line st=.ok (st.dw node (4,loop)) from HR.out.trans (ae HM.out)]
  refine⟨((uR HW.out node _ _).alloc (by simp;omega) _).drew,rfl,⟨_,_,((HW.out.use node (4,loop)).alloc _).drew⟩,?_⟩
  exact(((lO HW.out node _ _).mono (by decide)).trans (Fr.alloc _)).drew
def gE (k:Int) (n:Nat):Bool×Int×Bool :=
 if k=26∨k=27 then (true,(n:Int)-1,true) else if k=11 then (true,0,true) else if k=28 then (true,0,false) else if k=19 then (true,(n:Int),false) else (false,0,false)
theorem Below.three {W:World} (o o' o2:Obj):Below W.heap.size W (((W.alloc o).alloc o').alloc o2):=(Below.two o o').alloc (by rw[ao,ao];omega) o2
theorem xm {n:Nat} (h:n≤1000000):wrap64 ((n:Int)-1)=(n:Int)-1:=by unfold wrap64;omega
theorem gF (k line op num:Int) (s:ByteArray) (na ka:Option Addr) (nn nc kn kc:Nat) (w:World) (oW:kn≤1000000) :
  Calls Tryz.prog 72 #[.agg #[.int .i64 k,.int .i64 line,.int .i64 op,.int .i64 num,.string s,.slice na nn nc,.slice ka kn kc]] w fun e w'=>e=.returned (.agg #[.bool (gE k kn).1,.int .i64 (gE k kn).2.1,.bool (gE k kn).2.2])∧Below w.heap.size w w':=by
 have hwr:=xm oW;have key:k=26∨k=27∨k=11∨k=28∨k=19∨((k == 26)=false∧(k == 27)=false∧(k == 11)=false∧(k == 28)=false∧(k == 19)=false):=by
  simp only[aC];omega
 rcases key with rfl|rfl|rfl|rfl|rfl | ⟨g1,g2,g3,g4,g5⟩
 ·go_enter Tryz.func72,Tryz.ntmps72
  go_wp2_with fail
  exact bodyPost_ret (v:=.agg #[.bool true,.int .i64 ((kn:Int)-1),.bool true]) (by simp[results,Tryz.results72,go_sem]) rfl ⟨rfl,Below.three _ _ _⟩
 ·go_enter Tryz.func72,Tryz.ntmps72
  go_wp2_with fail
  exact bodyPost_ret (v:=.agg #[.bool true,.int .i64 ((kn:Int)-1),.bool true]) (by simp[results,Tryz.results72,go_sem]) rfl ⟨rfl,Below.three _ _ _⟩
 ·go_enter Tryz.func72,Tryz.ntmps72
  go_wp2_with fail
  exact bodyPost_ret (v:=.agg #[.bool true,.int .i64 0,.bool true]) (by simp[results,Tryz.results72,go_sem]) rfl ⟨rfl,Below.three _ _ _⟩
 ·go_enter Tryz.func72,Tryz.ntmps72
  go_wp2_with fail
  exact bodyPost_ret (v:=.agg #[.bool true,.int .i64 0,.bool false]) (by simp[results,Tryz.results72,go_sem]) rfl ⟨rfl,Below.three _ _ _⟩
 ·go_enter Tryz.func72,Tryz.ntmps72
  go_wp2_with fail
  exact bodyPost_ret (v:=.agg #[.bool true,.int .i64 (kn:Int),.bool false]) (by simp[results,Tryz.results72,go_sem]) rfl ⟨rfl,Below.three _ _ _⟩
 ·have hd:gE k kn=(false,0,false):=by
   simp only[aC] at g1 g2 g3 g4 g5;unfold gE;rw[ae (by omega),ae g3,ae g4,ae g5]
  rw[hd];clear hd;go_enter Tryz.func72,Tryz.ntmps72
  go_wp2_with fail
  exact bodyPost_ret (v:=.agg #[.bool false,.int .i64 0,.bool false]) (by simp[results,Tryz.results72,go_sem]) rfl ⟨rfl,Below.three _ _ _⟩
theorem Df {P:Program} (w:World) (t ty:TypeId) (base:Nat) (e:TypeId) (i:TypeInfo) (z:Value) (size bytes:Nat) (ht:P.underlying t=some (.slice e)) (hi:P.info? e=some i) (hz:i.zero=some z)
  (hsize:i.size=size) (hby:i.bytes=bytes) (hsz:0<size) (v:Value) (n:Nat) (xs:List Value) (hown:w.ownsRow base e size v n xs)
  (ad:Addr) (m c:Nat) (news:List Value) (hl:news.length=m*size) (hnews :∀j u,news[j]? = some u→w.cell? (ad.add j)=some u) (h1 :∀u∈news,u.oneCell'=true)
  (hm:0<m) (h63:n+m≤maxLen) (hbytes:(n+m)*bytes≤140737488355328) {v':Value} {w':World} (hr:(Builtin.append_ #[t,t] ty #[v,.slice (some ad) m c]).run P w=.ok v' w')
  (u:Value) (k:Nat) (ys:List Value) (hu:w.ownsRow base e size u k ys) (hk:u.ownBlock=v.ownBlock→k≤n):w'.ownsRow base e size u k ys:=by
 subst hsize hby;have acj:n+m≤9223372036854775807:=by simp only[maxLen] at h63;omega
 have new :∀o:Obj,(w.drew.alloc o).ownsRow base e i.size u k ys:=fun o=>hu.drew.alloc o
 rcases hown.2 with ⟨rfl,rfl⟩ | ⟨g,cap,cur,rfl,hbg,hg,Xz,hcm,hcs,Fp⟩
 ·have h2:=run_append_nil (P:=P) w t ty e i z ht hi hz ad m c news hl hnews (by omega) (by omega) (by have hb:=hbytes;simp only[jg] at hb;omega)
  rw[hr] at h2;injection h2 with _ h2;rw[h2];exact new _
 ·by_cases hroom:n+m≤cap
  ·have ack:n*i.size+news.length≤cur.size:=by rw[hl,hcs,←E3];exact EL _ hroom
   have h2:=run_append_room (P:=P) w t ty e i ht hi g n cap cur hg ad m c news hl hnews h1 hroom ack;rw[hr] at h2;injection h2 with _ h2;rw[h2];refine⟨hu.1,?_⟩;rcases hu.2 with hn | ⟨g',cap',cur',rfl,hB',wb,E6,hc',hs',VI⟩
   ·exact .inl hn
   ·by_cases eg:g'=g
    ·subst eg
     rw[hg] at wb;injection wb with wb;injection wb with wb _ _;subst wb;have oW:k≤n:=hk rfl;refine .inr ⟨g',cap',_,rfl,hB',setRow_heap w g' cur _ e _ hg,E6,hc',?_,?_⟩
     ·rw[←hs']
      simp only[EO,cb,jd,je,Array.length_toList];omega
     ·rw[←VI]
      have h3:k*i.size≤n*i.size:=EL _ oW;have h4:(cur.toList.take (n*i.size)).length=n*i.size:=by rw[jd,Array.length_toList];omega
      show((cur.toList.take (n*i.size)++news++_).take (k*i.size))=_
      rw[fI,Vw (by omega),List.take_take,Ab h3]
    ·exact .inr ⟨g',cap',cur',rfl,hB',(setRow_other w g g' _ eg).trans wb,E6,hc',hs',VI⟩
  ·have holds :∀j u,xs[j]? = some u→w.cell? ((⟨g,0,none⟩:Addr).add j)=some u:=hown.cells (g:=g) rfl
   have h2:=run_append_grow (P:=P) w t ty e i z ht hi hz ⟨g,0,none⟩ n cap xs hown.1 holds ad m c news hl hnews (by omega) (by omega) (growslice_fits (by omega) hbytes)
   rw[hr] at h2;injection h2 with _ h2;rw[h2];exact new _
def wc (W:World) (g:Nat) (ty:TypeId):Prop:=∃cs fz,W.heap[g]? = some (.cells cs ty fz)
theorem wc.set {W:World} {g:Nat} {ty:TypeId} (h:wc W g ty) (g' j:Nat) (v:Value):wc (W.setCell ⟨g',j,none⟩ v) g ty:=by
 obtain⟨cs,fz,h⟩:=h;by_cases e:g=g'
 ·subst e
  refine⟨cs.setIfInBounds j v,fz,?_⟩;simp[World.setCell,Array.getElem?_modify,h]
 ·exact⟨cs,fz,(Below.heap_setCell W ⟨g',j,none⟩ v g e).trans h⟩
theorem wc.fr {W:World} {g:Nat} {ty:TypeId} {E:List Nat} (h:wc W g ty) (he:ty∈E) (j:Nat) (v:Value):Fr E W (W.setCell ⟨g,j,none⟩ v):=by
 obtain⟨cs,fz,h⟩:=h;exact Fr.set h he j v
theorem LV {ops:Array Oper} {rest:List Oper} {o:Oper} {a:Act} {Q:Exit→Act→World→Prop} (w:World) (l:cO) (hgd:o.guard=none) (sl y:Operand)
  (ho:o.op=.call { callee:=.builtin .append,args:=#[sl,y],argTypes:=#[67,67]}) (B:Nat) (v:Value) (L:List cO) (hs:a.eval sl=v) (hown:w.ownsRow B 194 2 v L.length (L.reverse.flatMap Fm)) (g:Nat) (hg:g=w.heap.size) (hy:a.eval y=.slice (some ⟨g,0,none⟩) 1 1)
  (hlen:L.length≤1000000) (hB:B≤w.heap.size)
  (h :∀g' c' w',w'.ownsRow B 194 2 (.slice (some ⟨g',0,none⟩) (L.length+1) c') (l::L).length ((l::L).reverse.flatMap Fm)→rn v.ownBlock w w'→Below B w w'→(v.ownBlock=some g'∨w.heap.size≤g')→(∀u m xs,w.ownsRow B 194 2 u m xs→(u.ownBlock=v.ownBlock→m≤L.length)→w'.ownsRow B 194 2 u m xs)→wpList Tryz.prog ops Q rest (a.put o.dst (.slice (some ⟨g',0,none⟩) (L.length+1) c')) w') :
  wpList Tryz.prog ops Q (o::rest) a (w.alloc (.cells (Fm l).toArray 194)):=by
 subst hg;obtain⟨i0,mC,hz0,hz1,hz2⟩:=info_parts De;have hcell:=heap_alloc_new w (.cells (Fm l).toArray 194);have hpl :∀j:Nat,(⟨w.heap.size,0,none⟩:Addr).add j=⟨w.heap.size,j,none⟩:=fun j=>by unfold Addr.add;split<;>simp_all
 have Dc:(w.alloc (.cells (Fm l).toArray 194)).heap.size=w.heap.size+1:=ao _ _;have hnews :∀j u,(Fm l)[j]? = some u→(w.alloc (.cells (Fm l).toArray 194)).cell? ((⟨w.heap.size,0,none⟩:Addr).add j)=some u:=fun j u hj=>by
  rw[hpl,cell_of_row _ _ j _ 194 (0,0) hcell];simpa using hj
 have h1c :∀u∈Fm l,u.oneCell'=true:=by
  intro u hu;simp[Fm] at hu;rcases hu with rfl|rfl<;>rfl
 have hmx:L.length+1≤maxLen:=by unfold maxLen;omega
 have hby:(L.length+1)*16≤140737488355328:=by omega
 refine wpList_plain hgd fun K hK=>?_
 obtain⟨g',c',w',hr,r1,r2,r3,_⟩:=run_append_lies (P:=Tryz.prog) _ 67 o.type B 194 i0 _ 2 16 Tryz.underlying67 mC hz0 hz1 hz2 rfl (by omega) v L.length _ (hown.alloc _) ⟨w.heap.size,0,none⟩ 1 1 (Fm l) rfl hnews h1c (by omega) hmx hby (by omega) (w.heap.size+1) Dc
 have hold:=Df (P:=Tryz.prog) _ 67 o.type B 194 i0 _ 2 16 Tryz.underlying67 mC hz0 hz1 hz2 (by omega) v L.length _ (hown.alloc _) ⟨w.heap.size,0,none⟩ 1 1 (Fm l) rfl hnews h1c (by omega) hmx hby hr
 unfold Oper.wp execOp;simp only[ho,resolve,invoke,builtin,Sem.run_bind,Sem.run_pure,Result.andThen_ok,K9,dS,ET,hs,hy,hr];have yE:=r2.size;refine hK _ _ (h g' c' w' ?_ ⟨by omega,fun k hk hn=>(r2.block k (by omega) fun e=>hn e.symm).trans (Below.heap_alloc w _ k hk)⟩ ⟨r2.os,r2.tape,r2.output,by omega,fun k hk=>?_⟩ (r3.imp id fun e=>by omega) fun u m xs hu hm=>hold u m xs (hu.alloc _) hm)
 ·rw[List.length_cons,EN,oJ,EI]
  exact r1
 ·refine(r2.block k (by omega) fun e=>?_).trans (Below.heap_alloc w _ k (by omega))
  have:=(hown.lt k e.symm).1;omega
def Dg (ch:List tH) (u:tH):Int:=match ch.findIdx? (fun y=>decide (y=u)) with|some i=>(i:Int)|none=>-1
theorem RG {ch:List tH} {u:tH} {k:Nat} (h :∀y∈ch.take k,y≠u) (hk:ch[k]? = some u):ch.findIdx? (fun y=>decide (y=u))=some k:=by
 obtain⟨hlt,he⟩:=aJ.1 hk;refine zU.2 ⟨hlt,by rw[he];simp,fun j hj=>?_⟩
 have:ch[j]∈ch.take k:=by
  have h1:(ch.take k)[j]? = some ch[j]:=by rw[EH hj];exact bt (by omega)
  exact aV h1
 simpa using h _ this
theorem XA {ch:List tH} {u:tH} (h :∀y∈ch,y≠u):ch.findIdx? (fun y=>decide (y=u))=none:=by
 rw[List.findIdx?_eq_none_iff];intro y hy;simpa using h y hy
theorem AQ {ch:List tH} {u y:tH} {k:Nat} (h :∀z∈ch.take k,z≠u) (hk:ch[k]? = some y) (hy:y≠u) :∀z∈ch.take (k+1),z≠u:=by
 rw[jA _ _ _ hk];intro z hz;rcases cU.1 hz with hz|hz
 ·exact h z hz
 ·rw[bR.1 hz];exact hy
theorem Hr {B:Nat} (v:Value) (ch:List tH) (u:tH) (w:World) (hr:w.ownsRow B 225 2 v ch.length (ch.flatMap Kn)) (hl:ch.length≤1000) :
  Calls Tryz.prog 169 #[v,.agg #[.bool u.loc,.int .i64 (u.idx:Int)]] w fun e w'=>e=.returned (.int .i64 (Dg ch u))∧Below w.heap.size w w':=by
 obtain⟨A,c,rfl,hc,eD⟩:=dM hr;have HC:=aa eD;clear eD hr;have tP:=aa ((Below.refl w.heap.size w).alloc (ag _) (.cells #[.bool u.loc,.int .i64 (u.idx:Int)] 225));have z0:=dG w #[.bool u.loc,.int .i64 (u.idx:Int)] 225 0;have z1:=dG w #[.bool u.loc,.int .i64 (u.idx:Int)] 225 1;replace z0:_=some (Value.bool u.loc):=z0;replace z1:_=some (Value.int .i64 (u.idx:Int)):=z1;have ee:w.heap.size<(w.alloc (.cells #[.bool u.loc,.int .i64 (u.idx:Int)] 225)).heap.size:=by rw[ao];omega
 go_enter Tryz.func169,Tryz.ntmps169
 go_wp2_with fail
 generalize w.alloc (.cells #[.bool u.loc,.int .i64 (u.idx:Int)] 225)=W0 at *;go_loopw [8] (fun t wr=>∃k:Nat,t=.int .i64 (k:Int)∧k≤ch.length∧(∀y∈ch.take k,y≠u)∧Below W0.heap.size W0 wr) (fun t _=>ch.length-(intOf t).toNat)
 case atStart=>exact⟨0,rfl,bg _,fun y hy=>by simp at hy,Below.refl _ _⟩
 case round =>
  obtain⟨k,rfl,hk,hno,hb⟩:=hrel;have k0:=(hb.cell (p:=⟨w.heap.size,0,none⟩) ee).trans z0;have k1:=(hb.cell (p:=⟨w.heap.size,1,none⟩) ee).trans z1;have LW:=aa hno;have HB:=aa hb;clear hno hb;by_cases hlt:k<ch.length
  ·obtain⟨y,hy⟩ :∃y,ch[k]? = some y:=⟨ch[k],bt hlt⟩
   rcases HC.out with h0 | ⟨g,rfl,Xy,oT,tj⟩
   ·omega
   have pq:=tP.out.trans (HB.out.mono (ft ee));have e0:wr.cell? ⟨g,k*2,none⟩=some (.bool y.loc):=(pq.cell (p:=⟨g,k*2,none⟩) oT).trans ((tj (k*2) (by omega)).trans (iv Fk ch k 0 y hy (by omega)))
   have e1:wr.cell? ⟨g,k*2+1,none⟩=some (.int .i64 (y.idx:Int)):=(pq.cell (p:=⟨g,k*2+1,none⟩) oT).trans ((tj (k*2+1) (by omega)).trans (iv Fk ch k 1 y hy (by omega)))
   have HY:=aa hy;clear tj hy pq;by_cases hloc:u.loc=y.loc
   ·by_cases RH:u.idx=y.idx
    ·obtain rfl:y=u:=by cases u;cases y;simp_all
     go_wp2_with fail
     go_region
     go_wp2_with fail
     go_ret
     refine⟨?_,(tP.out.trans (HB.out.mono (ft ee))).drew⟩;unfold Dg;rw[RG LW.out HY.out];rfl
    ·have g2:((u.idx:Int) == (y.idx:Int))=false:=aC.2 (by omega)
     have hne:Hid (y≠u):=aa fun e=>RH (by rw[e])
     rw[hloc] at *;clear RH;go_wp2_with fail
     go_region
     go_wp2_with fail
     exact⟨⟨k+1,by go_num,hlt,AQ LW.out HY.out hne.out,HB.out.drew⟩,by simp[intOf];omega⟩
   ·have g1:(u.loc == y.loc)=false:=aC.2 hloc
    have hne:Hid (y≠u):=aa fun e=>hloc (by rw[e])
    clear hloc;go_wp2_with fail
    go_region
    go_wp2_with fail
    exact⟨⟨k+1,by go_num,hlt,AQ LW.out HY.out hne.out,HB.out.drew⟩,by simp[intOf];omega⟩
  ·have rm:k=ch.length:=by omega
   go_wp2_with fail
   go_ret
   refine⟨?_,tP.out.trans (HB.out.mono (ft ee))⟩;unfold Dg;rw[XA (fun y hy=>LW.out y (by rw[rm,Aa];exact hy))]
   rfl
def RI (B b:Nat) (nv:Value) (N ub ob:Nat) (st:aI) (r:Option (List dm×Nat)) (w:World) (e:Ending) (w':World):Prop :=
 Below B w w'∧Fr [43,199,225] w w'∧match r with
 | some (F,k)=>e=.returned (.tuple #[.int .i64 (k:Int),.nilIface])∧jG w' B b nv N { st with fns:=F} ub ob
 | none=>e=.returned (.tuple #[.int .i64 0,.iface 60 (.int .i64 12)])
theorem Dh {F:List dm} {f k:Nat} {x:dm} {u:tH} (hx:F[f]? = some x) (h:x.ch.findIdx? (fun y=>decide (y=u))=some k):gy F f u=some (F,k):=by
 unfold gy;simp only[gz hx,h]
theorem Di {F:List dm} {f:Nat} {x:dm} {u:tH} (hx:F[f]? = some x) (h:x.ch.findIdx? (fun y=>decide (y=u))=none):gy F f u=if 60≤x.ch.length then none else some (F.set f { x with ch:=x.ch++[u]},x.ch.length):=by
 unfold gy;simp only[gz hx,h]
theorem n7 {W W':World} {B e s n:Nat} {v:Value} {xs:List Value} (h:W.ownsRow B e s v n xs) (hb:Below W.heap.size W W'):W'.ownsRow B e s v n xs:=rn.row (o:=none) ⟨hb.size,fun k hk _=>hb.block k hk⟩ h fun _ _ e=>by cases e
theorem LX {ops:Array Oper} {o:Oper} {a:Act} {K:Act→World→Prop} {Q:Exit→Act→World→Prop} {E:Prop} (w0 w1:World) (n:tH) (hgd:o.guard=none) (sl y:Operand)
  (ho:o.op=.call { callee:=.builtin .append,args:=#[sl,y],argTypes:=#[41,41]}) (B:Nat) (v:Value) (ns:List tH) (hs:a.eval sl=v) (hown:w0.ownsRow B 225 2 v ns.length (ns.flatMap Kn)) (ee :∀(i:Nat),i<w0.heap.size→w1.heap[i]? = w0.heap[i]?) (g:Nat) (hg:g=w0.heap.size) (hy:a.eval y=.slice (some ⟨g,0,none⟩) 1 1)
  (hcell:w1.heap[g]? = some (.cells (Kn n).toArray 225 (0,0))) (hlen:ns.length≤1000000) (hB:B≤w0.heap.size) (hle:w0.heap.size≤w1.heap.size) (Xv:w1.os=w0.os∧w1.tape=w0.tape∧w1.output=w0.output)
  (h :∀g' c' w',w'.ownsRow B 225 2 (.slice (some ⟨g',0,none⟩) (ns.length+1) c') (ns++[n]).length ((ns++[n]).flatMap Kn)→rn v.ownBlock w0 w'→Below B w0 w'→(v.ownBlock=some g'∨w0.heap.size≤g')→K (a.put o.dst (.slice (some ⟨g',0,none⟩) (ns.length+1) c')) w') :
  if Region.wanted o (yielded ops a.tmps)=true then Oper.wp Tryz.prog o a w1 K Q else E:=by
 obtain⟨i0,mC,hz0,hz1,hz2⟩:=info_parts LH;refine AF w0 w1 (Kn n) hgd sl y 41 225 i0 _ 2 16 ho Tryz.underlying41 mC hz0 hz1 hz2 rfl (by omega) (by omega) B v ns.length _ hs hown ee g hg hy hcell rfl (by intro u hu;simp[Kn] at hu;rcases hu with rfl|rfl<;>rfl) hlen hB hle Xv ?_
 intro g' c' w' r1 r2 r3 r4;refine h g' c' w' ?_ r2 r3 r4;rw[cb,mP,oJ,EI];exact r1
theorem AR {B:Nat} {nv:Value} {N ub ob:Nat} (b f:Nat) (u:tH) (st:aI) (w:World) (hw:jG w B b nv N st ub ob) (hf:f<st.fns.length) (jl:dP st.fns) :
  Calls Tryz.prog 148 #[.pointer (some ⟨b,0,none⟩),.int .i64 (f:Int),.agg #[.bool u.loc,.int .i64 (u.idx:Int)]] w (RI B b nv N ub ob st (gy st.fns f u) w):=by
 obtain⟨fv,FL,hw⟩:=hw;obtain⟨⟨t1,tv,tu⟩,ht⟩:=hw.AI hf;obtain⟨g,c,rfl,Xy,oT,tj⟩:=hw.fns.form ht;obtain⟨wA,hfn⟩:=hw.sO ht;simp only at wA hfn;obtain⟨UA,uc,huu,Fq,_⟩:=dM (hw.fns.ch _ (aV ht));simp only at huu Fq;subst huu;obtain⟨hbl,po,tm⟩:=hw.mN;have ca:B≤w.heap.size:=aL hw.pos (ft hbl);have sQ:=hw.len;have hfL:f<FL.length:=by omega
 have d1:w.cell? ⟨b,1,none⟩=some (.slice (some ⟨g,0,none⟩) FL.length c):=ab hw.blk 1;have e5:w.cell? ⟨g,f*6+5,none⟩=some (.slice UA t1.ch.length uc):=(tj 5 (by omega)).1
 have hup:t1.ch.length≤60:=(jl f t1 wA).2;have XB:=aa (hw.fns.ch _ (aV ht));simp only at XB;have HW:=aa hw;have HT:=aa ht;have VJ:=aa wA;clear hw ht wA hfn tj sQ jl;go_enter Tryz.func148,Tryz.ntmps148
 go_wp2_with fail
 have dU:=aa ((Below.refl w.heap.size w).alloc (ag _) (.cells #[.bool u.loc,.int .i64 (u.idx:Int)] 225));have x0:=dG w #[.bool u.loc,.int .i64 (u.idx:Int)] 225 0;have x1:=dG w #[.bool u.loc,.int .i64 (u.idx:Int)] 225 1;replace x0:_=some (Value.bool u.loc):=x0;replace x1:_=some (Value.int .i64 (u.idx:Int)):=x1;have e5':=(dU.out.cell (p:=⟨g,f*6+5,none⟩) oT).trans e5;have ji:=aa (HW.out.alloc (.cells #[.bool u.loc,.int .i64 (u.idx:Int)] 225));have LY:=aa (n7 XB.out dU.out);have hs1:w.heap.size<(w.alloc (.cells #[.bool u.loc,.int .i64 (u.idx:Int)] 225)).heap.size:=by rw[ao];omega
 generalize w.alloc (.cells #[.bool u.loc,.int .i64 (u.idx:Int)] 225)=W1 at *;clear HW XB d1 e5;have y0:=cell_regrown x0;have y1:=cell_regrown x1;have y5:=cell_regrown e5';refine wp_region_quiet_below (by kernel_rfl) (by kernel_rfl) ?_
 repeat (first|go_big_quiet_step (first
   | (go_at_call 169;exact Calls.regrown_of (Hr _ t1.ch u _ (n7 LY.out (below_regrown _ _ _)) (by omega)))))
 refine wpQuiet_nil ?_;intro _ hw';obtain⟨⟨dq,osq⟩,hw''⟩:=hw';subst hw'';have oX:=aa (dU.out.trans ((below_regrown W1 dq osq).mono (ft hs1)));have lE:=aa (ji.out.later (below_regrown W1 dq osq));have aaq:=aa (n7 LY.out (below_regrown W1 dq osq));have hs2:w.heap.size<(«Sort».grow (redrawn W1 dq) osq).heap.size:=cw hs1 (below_regrown W1 dq osq).size;have x02:=((below_regrown W1 dq osq).cell (p:=⟨w.heap.size,0,none⟩) hs1).trans x0;have x12:=((below_regrown W1 dq osq).cell (p:=⟨w.heap.size,1,none⟩) hs1).trans x1;have e52:=((below_regrown W1 dq osq).cell (p:=⟨g,f*6+5,none⟩) (Nat.lt_trans oT hs1)).trans e5';dsimp only
 generalize «Sort».grow (redrawn W1 dq) osq=W2 at *;clear y0 y1 y5 x0 x1 e5' ji LY dU;cases hi:t1.ch.findIdx? (fun y=>decide (y=u)) with
 | some k =>
  have hv:Dg t1.ch u=(k:Int):=by unfold Dg;rw[hi]
  have HE:=aa (Dh VJ.out hi);rw[hv];have g1:decide ((0:Int)≤(k:Int))=true:=bN (by omega)
  clear hv hi;go_wp2_with fail
  go_ret2
  refine⟨oX.out.mono ca,Fr.af oX.out,?_⟩;rw[HE.out];exact⟨rfl,_,_,lE.out⟩
 | none =>
  have hv:Dg t1.ch u = -1:=by unfold Dg;rw[hi]
  have HE:=aa (Di VJ.out hi);rw[hv];clear hv hi;by_cases h60:60≤t1.ch.length
  ·have Q6:=aa (HE.out.trans (aj h60))
   have g1:((t1.ch.length:Int) == 60)=true:=xd.2 (by omega)
   go_wp2_with fail
   go_ret2
   refine⟨oX.out.mono ca,Fr.af oX.out,?_⟩;rw[Q6.out];rfl
  ·have Q6:=aa (HE.out.trans (ae h60))
   have g1:((t1.ch.length:Int) == 60)=false:=aC.2 (by omega)
   have hB2:B≤W2.heap.size:=aL ca oX.out.size;have aar:t1.ch.length≤1000000:=by omega
   have hg2:g<W2.heap.size:=Nat.lt_trans oT hs2;obtain⟨g',c',oY,_,_,Ay⟩:=lE.out.fns.form HT.out;injection oY with oY _ hcc;injection oY with oY;injection oY with oY _ _;subst oY hcc;have z52:=(Ay 5 (by omega)).2
   have HZ:Hid ((W2.alloc (.cells #[.bool u.loc,.int .i64 (u.idx:Int)] 225)).drew.heap[W2.heap.size]? = some (.cells #[.bool u.loc,.int .i64 (u.idx:Int)] 225 (0,0))):=aa (heap_alloc_new W2 _);clear Ay;go_wp2_with fail
   go_region_law ((refine LX W2 _ u (by rfl) _ _ (by rfl) B (.slice UA t1.ch.length uc) t1.ch (by rfl) aaq.out (fun i hi=>Below.heap_alloc W2 _ i hi) W2.heap.size rfl (by rfl) HZ.out aar hB2 (by simp[World.drew]) ⟨rfl,rfl,rfl⟩ ?_;intro g8 c8 w8 r8 b8 VK n8;have va:=b8.row lE.out.fns.row (fun k hk e=>ei lE.out.fns.row (lE.out.fns.ch _ (aV HT.out)) (by decide) k hk e);have e58:w8.cell? ⟨g,f*6+5,none⟩=some (.slice UA t1.ch.length uc):=(World.ownsRow.cellAt va (f*6+5) (by omega)).trans (iv qj FL f 5 _ HT.out (by omega));have z58:=World.ownsRow.frozenAt va (f*6+5);have R8:=aa r8;have B8:=aa b8;have Q7:=aa VK;have N8:=aa n8;clear r8 b8 VK n8 va))
   all_goals
    have h9:=lE.out.RD HT.out B8.out R8.out (fun k hk=>by injection hk with hk;subst hk;exact N8.out)
    have XC:=aa h9.2;have HW9:=aa h9.1;have HB9:=aa (((oX.out.mono ca).trans Q7.out).setCell (p:=⟨g,f*6+5,none⟩) Xy (.slice (some ⟨g8,0,none⟩) (t1.ch.length+1) c8));have k9:=World.cell?_setCell_same' w8 ⟨g,f*6+5,none⟩ (.slice (some ⟨g8,0,none⟩) (t1.ch.length+1) c8) (by rw[e58];rfl)
    clear h9;generalize w8.setCell ⟨g,f*6+5,none⟩ (.slice (some ⟨g8,0,none⟩) (t1.ch.length+1) c8)=W9 at *;clear e58 z58 R8 B8 Q7 N8;go_wp2_with fail
    go_ret2
    refine⟨HB9.out,(Fr.af oX.out).trans XC.out,?_⟩;rw[Q6.out];exact⟨rfl,_,_,HW9.out⟩
theorem Fr.past {E:List Nat} {W W2 X:World} (h:Fr E W W2) (hk :∀k,k<W.heap.size→X.heap[k]? = W2.heap[k]?) (hs:W2.heap.size≤X.heap.size):Fr E W X :=
 ⟨aL h.size hs,fun k c e fz hc he=>(hk k (aM.1 hc).1).trans (h.cells k c e fz hc he),fun k o hc ho=>(hk k (aM.1 hc).1).trans (h.others k o hc ho)⟩
theorem eS.fP {W:World} {B b:Nat} {nv:Value} {N:Nat} {st:aI} {fv:Value} {ub ob:Nat} {L:List nX} (h:eS W B b nv N st fv ub ob L) {r:Nat} (hr:wc W r 140) (hne:r≠ub) (j:Nat) (v:Value):eS (W.setCell ⟨r,j,none⟩ v) B b nv N st fv ub ob L:=by
 have k:Fr [140] W (W.setCell ⟨r,j,none⟩ v):=hr.fr (by decide) j v
 exact⟨k.cells b _ _ _ h.blk (by decide),⟨k.row h.fns.row (by decide),fun t ht=>k.row (h.fns.vars t ht) (by decide),fun t ht=>k.row (h.fns.ch t ht) (by decide),h.fns.ql,h.fns.rI⟩,h.are,(rn.set W r j v).row h.uses (fun g hg e=>hne (by injection hg with hg;injection e with e;exact e.trans hg.symm)),k.row h.wy (by decide),h.pos⟩
theorem jG.fP {W:World} {B b:Nat} {nv:Value} {N:Nat} {st:aI} {ub ob:Nat} (h:jG W B b nv N st ub ob) {r:Nat} (hr:wc W r 140) (hne:r≠ub) (j:Nat) (v:Value):jG (W.setCell ⟨r,j,none⟩ v) B b nv N st ub ob:=by
 obtain⟨fv,L,h⟩:=h;exact⟨fv,L,h.fP hr hne j v⟩
theorem jG.alloc {W:World} {B b:Nat} {nv:Value} {N:Nat} {st:aI} {ub ob:Nat} (h:jG W B b nv N st ub ob) (o:Obj):jG (W.alloc o) B b nv N st ub ob:=by
 obtain⟨fv,L,h⟩:=h;exact⟨fv,L,h.alloc o⟩
theorem yL {W:World} {r:Nat} {x y:Value} {ty:TypeId} (h:W.heap[r]? = some (.cells #[x,y] ty (0,0))) (a c:Value):((W.setCell ⟨r,0,none⟩ a).setCell ⟨r,1,none⟩ c).heap[r]? = some (.cells #[a,c] ty (0,0)):=by
 simpa using bE (bE h 0 a) 1 c
theorem wB (W:World) (r:Nat) (a c:Value) (k:Nat) (hk:k≠r):((W.setCell ⟨r,0,none⟩ a).setCell ⟨r,1,none⟩ c).heap[k]? = W.heap[k]?:=by
 rw[Below.heap_setCell _ _ _ k hk,Below.heap_setCell _ _ _ k hk]
theorem ni (W:World) (r:Nat) (a c:Value):((W.setCell ⟨r,0,none⟩ a).setCell ⟨r,1,none⟩ c).heap.size=W.heap.size:=by simp[World.setCell]
def fT (n:jr) (F:List dm):List dm:=F.set n.fn (cY (F.getD n.fn ⟨0,0,0,false,[],[]⟩) n.i)
theorem AS (x:dm) (i:Nat):cY (cY x i) i=cY x i:=by
 cases h:x.vars[i]? with
 | none =>
  have e:cY x i=x:=by unfold cY;rw[h]
  rw[e,e]
 | some v =>
  have hl:=(aJ.1 h).1;have e:cY x i={ x with vars:=x.vars.set i { v with cap:=true}}:=by unfold cY;rw[h]
  rw[e];unfold cY;dsimp only
  rw[dV hl];dsimp only
  rw[List.set_set]
theorem Dj (n:jr) (F:List dm):fT n (fT n F)=fT n F:=by
 by_cases h:n.fn<F.length
 ·unfold fT
  have e:(F.set n.fn (cY (F.getD n.fn ⟨0,0,0,false,[],[]⟩) n.i)).getD n.fn ⟨0,0,0,false,[],[]⟩=cY (F.getD n.fn ⟨0,0,0,false,[],[]⟩) n.i:=by
   rw[jZ,dV h];rfl
  rw[e,AS,List.set_set]
 ·have e:fT n F=F:=by unfold fT;rw[EG (by omega)]
  rw[e,e]
theorem AT {n:jr} {F:List dm} {y:dm} (h:F[n.fn]? = some y):ux F (fT n F):=by
 unfold fT;rw[gz h];exact .set h (qd y n.i)
theorem yM {n:jr} {F:List dm} {y:dm} (hF:CS F) (h:F[n.fn]? = some y):CS (fT n F):=by
 unfold fT;rw[gz h];exact hF.set h (qd y n.i)
theorem vb {n:jr} {F:List dm} (hF:dP F):dP (fT n F):=by
 unfold fT;exact hF.set ⟨by rw[(rH _ _).1];exact(hF.getD n.fn).1,by rw[(rH _ _).2];exact(hF.getD n.fn).2⟩
theorem nj (n:jr) (F:List dm):(fT n F).length=F.length:=by unfold fT;simp
theorem RJ {F:List dm} {f:Nat} {x:dm} (h:F[f]? = some x) {n:jr} (he:f≠n.fn):(fT n F)[f]? = some x:=by
 unfold fT;rw[fH (fun e=>he e.symm)]
 exact h
def fx (n:jr) (g f:Nat) (F:List dm):Option (List dm×Int×Nat) :=
 if f=n.fn then some (F,2,n.i) else (lH n g (fT n F) f).map fun r=>(r.1,3,r.2)
theorem Hs {n:jr} {g f p:Nat} {F:List dm} {x:dm} (hx:F[f]? = some x) (hp:x.parent=(p:Int)) (he:f≠n.fn):lH n (g+1) (fT n F) f=(fx n g p (fT n F)).bind fun r=>gy r.1 f ⟨decide (r.2.1=2),r.2.2⟩:=by
 rw[lH];simp only[gz (RJ hx he),hp];unfold fx;by_cases h:p=n.fn
 ·subst h
  rw[aj rfl,aj rfl];rfl
 ·rw[ae (by omega),ae h,Dj,gS]
  cases lH n g (fT n F) p with
  | none=>rfl
  | some r=>rfl
theorem LZ {n:jr} {g f:Nat} {F F':List dm} {kd:Int} {i:Nat} (h:fx n g f F=some (F',kd,i)) (hF:CS F) (jl:dP F) (ha:Lb F n.fn f) (hf:f<F.length) (hv :∃y v,F[n.fn]? = some y∧y.vars[n.i]? = some v∧v.name=n.s):ux F F'∧CS F'∧dP F'∧F'.length=F.length:=by
 unfold fx at h;by_cases he:f=n.fn
 ·rw[aj he] at h
  injection h with h;injection h with h _;subst h;exact⟨.refl _,hF,jl,rfl⟩
 ·rw[ae he] at h
  cases hu:lH n g (fT n F) f with
  | none=>rw[hu] at h;cases h
  | some r =>
   obtain⟨F1,k⟩:=r;rw[hu] at h;injection h with h;injection h with h _;have h:F1=F':=h;subst h;obtain⟨y,v,h1,h2,h3⟩:=hv;have hyl:=(aJ.1 h1).1;have hG:=AT h1;have hc:(fT n F)[n.fn]? = some (cY y n.i):=by
    unfold fT;rw[gz h1,dV hyl]
   obtain⟨a1,a2,a3,_⟩:=E7 g hu (yM hF h1) (ha.ext hG) (fun e=>he e.symm) (by rw[nj];exact hf) ⟨cY y n.i,{ v with cap:=true},hc,by
    unfold cY;rw[h2];exact dV (aJ.1 h2).1,h3,rfl⟩
   obtain⟨b1,b2⟩:=AA g hu (vb jl);exact⟨hG.trans a1,a2,b1,by rw[a3,nj]⟩
def L0 (B b:Nat) (nv:Value) (N ub ob:Nat) (st:aI) (r:Option (List dm×Int×Nat)) (w:World) (e:Ending) (w':World):Prop :=
 Below B w w'∧Fr [43,199,225] w w'∧match r with
 | some (F,k,i)=>e=.returned (.tuple #[.agg #[.int .i64 k,.int .i64 (i:Int)],.nilIface])∧jG w' B b nv N { st with fns:=F} ub ob
 | none=>e=.returned (.tuple #[.agg #[.int .i64 0,.int .i64 0],.iface 60 (.int .i64 12)])
theorem L7 {B:Nat} {nv:Value} {N ub ob:Nat} (b:Nat) (n:jr) :∀(g f:Nat) (st:aI) (w:World),f<g→jG w B b nv N st ub ob→CS st.fns→dP st.fns→Lb st.fns n.fn f→(∃y v,st.fns[n.fn]? = some y∧y.vars[n.i]? = some v∧v.name=n.s)→f<st.fns.length→st.fns.length≤100000 →
  Calls Tryz.prog 119 #[.pointer (some ⟨b,0,none⟩),.int .i64 (f:Int),.int .i64 (n.fn:Int),.int .i64 (n.i:Int)] w (L0 B b nv N ub ob st (fx n g f st.fns) w):=by
 intro g;induction g with
 | zero=>intro f st w hfg;exact absurd hfg (iF _)
 | succ g ih =>
  intro f st w hfg hw rq jl Dk hv hf CU;by_cases he:f=n.fn
  ·have HE:Hid (fx n (g+1) f st.fns=some (st.fns,2,n.i)):=aa (by unfold fx;rw[aj he])
   have g1:((f:Int) == (n.fn:Int))=true:=xd.2 (by omega)
   obtain⟨fv,FL,hw⟩:=hw;obtain⟨hbl,po,tm⟩:=hw.mN;have ca:B≤w.heap.size:=aL hw.pos (ft hbl);have HW:=aa hw;clear hw Dk hv ih he hfg;go_enter Tryz.func119,Tryz.ntmps119
   go_wp2_with fail
   have k0:=dG w #[.int .i64 2,.int .i64 (n.i:Int)] 140 0;have k1:=dG w #[.int .i64 2,.int .i64 (n.i:Int)] 140 1;replace k0:_=some (Value.int .i64 2):=k0;replace k1:_=some (Value.int .i64 (n.i:Int)):=k1;refine bodyPost_ret (v:=.tuple #[.agg #[.int .i64 2,.int .i64 (n.i:Int)],.nilIface]) (by simp[results,Tryz.results119,go_sem,k0,k1]) rfl ?_
   refine⟨(Below.refl B w).alloc ca _,Fr.alloc _,?_⟩;rw[HE.out];exact⟨rfl,_,_,HW.out.alloc _⟩
  ·have g1:((f:Int) == (n.fn:Int))=false:=aC.2 (by omega)
   obtain⟨fv,FL,hw⟩:=hw;obtain⟨hbl,po,tm⟩:=hw.mN;have ca:B≤w.heap.size:=aL hw.pos (ft hbl);have sQ:=hw.len;obtain⟨y,v,hy,hyv,Rp⟩:=hv;have acm:=(aJ.1 hy).1;obtain⟨⟨t1,tv,tu⟩,ht⟩:=hw.AI hf;obtain⟨⟨y1,yv,yu⟩,Ht⟩:=hw.AI acm;obtain⟨wA,_⟩:=hw.sO ht;obtain⟨hys,_⟩:=hw.sO Ht;simp only at wA hys;obtain rfl:y1=y:=by rw[hy] at hys;injection hys with hys;exact hys.symm
   obtain⟨gf,c,rfl,Xy,oT,tj⟩:=hw.fns.form ht;obtain⟨g',c',oY,_,_,Ay⟩:=hw.fns.form Ht;injection oY with oY _ hcc;injection oY with oY;injection oY with oY _ _;subst oY hcc;have hvl:=(aJ.1 hyv).1;obtain⟨VA,vc,VL,hvc,hvr⟩:=dM (hw.fns.vars _ (aV Ht));simp only at VL hvc hvr;subst VL;rcases hvr with h0 | ⟨gv,rfl,acn,hgvl,aas⟩
   ·omega
   have d1:w.cell? ⟨b,1,none⟩=some (.slice (some ⟨gf,0,none⟩) FL.length c):=ab hw.blk 1;have e4:w.cell? ⟨gf,n.fn*6+4,none⟩=some (.slice (some ⟨gv,0,none⟩) y1.vars.length vc):=(Ay 4 (by omega)).1
   have v2:w.cell? ⟨gv,n.i*3+2,none⟩=some (.bool v.cap):=(aas (n.i*3+2) (by omega)).trans (iv AE y1.vars n.i 2 v hyv (by omega))
   have f2:=World.ownsRow.frozenAt (hw.fns.vars _ (aV Ht)) (n.i*3+2);have RM:f≠0:=fun e=>by
    cases Dk with
    | same=>exact he rfl
    | up h1 h2 _ =>
     rcases(rq.each _ _ h1).par with ⟨_,h3⟩ | ⟨q,_,h3⟩
     ·omega
     ·omega
   obtain⟨p,hp,hpf,yp,hyp⟩:=rq.par wA RM;have e1:w.cell? ⟨gf,f*6+1,none⟩=some (.int .i64 (p:Int)):=by rw[←hp];exact(tj 1 (by omega)).1
   have VM:Lb st.fns n.fn p:=by
    cases Dk with
    | same=>exact absurd rfl he
    | up h1 h2 h3 =>
     rw[wA] at h1;injection h1 with h1;subst h1;rw[hp] at h2;have:=Int.ofNat.inj h2;rw[this];exact h3
   have hHE:fx n (g+1) f st.fns=(lH n (g+1) (fT n st.fns) f).map fun r=>(r.1,3,r.2):=by unfold fx;rw[ae he]
   have HE:=aa (hHE.trans (by rw[Hs wA hp he]))
   have yH:=hw.cap Ht hyv;have hst:st.oQ n.fn (cY y1 n.i)={ st with fns:=fT n st.fns}:=by unfold aI.oQ fT;rw[gz hy]
   rw[hst] at yH;have aco:=aa yH;have iV:n.fn<FL.length:=by omega
   have hfL:f<FL.length:=by omega
   have hfl2:FL.length≤100000:=by omega
   have hvl2:y1.vars.length≤200:=(jl n.fn y1 hy).1;have tQ:=aa ih;have Hu:=aa rq;have RN:=aa jl;have HY:=aa hy;have HYV:=aa hyv;have aat:=aa VM;have HP:=aa hp;have VJ:=aa wA;have HW:=aa hw;have HK:=aa (Lib.ownsRow_kind (hw.fns.vars _ (aV Ht)) gv rfl);clear hw ih rq jl hy hyv Dk VM hp wA ht Ht tj Ay aas hHE yH hst hyp hys sQ;go_enter Tryz.func119,Tryz.ntmps119
   go_wp2_with fail
   obtain⟨st1,XD⟩ :∃s1:aI,s1={ st with fns:=fT n st.fns}:=⟨_,rfl⟩;have XE:st1.fns=fT n st.fns:=by rw[XD]
   have ji:Hid (jG ((w.setCell ⟨gv,n.i*3+2,none⟩ (.bool true)).alloc (.cells #[.int .i64 0,.int .i64 0] 140)) B b nv N st1 ub ob):=aa (by rw[XD];exact⟨_,_,aco.out.alloc _⟩)
   have fy:Hid (Fr [43,199,225] w ((w.setCell ⟨gv,n.i*3+2,none⟩ (.bool true)).alloc (.cells #[.int .i64 0,.int .i64 0] 140))):=aa (by obtain⟨cs,fz,h⟩:=HK.out;exact(Fr.set h (by decide) _ _).trans (Fr.alloc _))
   have dU:Hid (Below B w ((w.setCell ⟨gv,n.i*3+2,none⟩ (.bool true)).alloc (.cells #[.int .i64 0,.int .i64 0] 140))):=aa (((Below.refl B w).setCell (p:=⟨gv,n.i*3+2,none⟩) acn _).alloc (by simp;omega) _)
   have HZ1:Hid (((w.setCell ⟨gv,n.i*3+2,none⟩ (.bool true)).alloc (.cells #[.int .i64 0,.int .i64 0] 140)).heap[w.heap.size]? = some (.cells #[.int .i64 0,.int .i64 0] 140 (0,0))):=aa (by have:=heap_alloc_new (w.setCell ⟨gv,n.i*3+2,none⟩ (.bool true)) (.cells #[.int .i64 0,.int .i64 0] 140);simpa using this)
   generalize (w.setCell ⟨gv,n.i*3+2,none⟩ (.bool true)).alloc (.cells #[.int .i64 0,.int .i64 0] 140)=W1 at *;have hG1:ux st.fns st1.fns:=by rw[XE];exact AT HY.out
   refine(tQ.out p st1 W1 (by omega) ji.out (by rw[XE];exact yM Hu.out HY.out) (by rw[XE];exact vb RN.out) (aat.out.ext hG1) ?_ (by rw[XE,nj];omega) (by rw[XE,nj];omega)).mono ?_
   ·obtain⟨y',h1,h2⟩:=hG1.2 _ _ HY.out
    obtain⟨v',h3,h4,_⟩:=h2.vars _ _ HYV.out;exact⟨y',v',h1,h3,h4.trans Rp⟩
   rw[XE];cases hM:fx n g p (fT n st.fns) with
   | none =>
    rintro e w2 ⟨b2,f2,rfl⟩;have Q6:Hid (fx n (g+1) f st.fns=none):=aa (by rw[HE.out,hM];rfl)
    have hz2:=f2.cells _ _ _ _ HZ1.out (by decide)
    have hl2:w.heap.size<w2.heap.size:=(aM.1 hz2).1;have y0:=ab hz2 0;have y1:=ab hz2 1;have z0:=aE hz2 0;have z1:=aE hz2 1;replace y0:_=some (Value.int .i64 0):=y0;replace y1:_=some (Value.int .i64 0):=y1;have oX:=aa (dU.out.trans b2);have lR:=aa (fy.out.trans f2);have HZ2:=aa hz2;clear b2 f2 hz2 hM HE;go_wp2_with fail
    have hq:=(Below.heap_alloc ((w2.setCell ⟨w.heap.size,0,none⟩ (.int .i64 0)).setCell ⟨w.heap.size,1,none⟩ (.int .i64 0)) (.cells #[.int .i64 0,.int .i64 0] 140) w.heap.size (by rw[ni];exact hl2)).trans (yL HZ2.out (.int .i64 0) (.int .i64 0))
    have q0:=ab hq 0;have q1:=ab hq 1;replace q0:_=some (Value.int .i64 0):=q0;replace q1:_=some (Value.int .i64 0):=q1;refine bodyPost_ret (v:=.tuple #[.agg #[.int .i64 0,.int .i64 0],.iface 60 (.int .i64 12)]) (by simp[results,Tryz.results119,go_sem,q0,q1]) rfl ?_
    refine⟨((oX.out.setCell (p:=⟨w.heap.size,0,none⟩) ca _).setCell (p:=⟨w.heap.size,1,none⟩) ca _).alloc (by rw[ni];omega) _,lR.out.past (fun k hk=>?_) ?_,?_⟩
    ·exact(Below.heap_alloc _ _ k (by rw[ni];omega)).trans (wB w2 w.heap.size _ _ k (by omega))
    ·rw[ao,ni];omega
    ·rw[Q6.out]
   | some r =>
    obtain⟨F2,kd,i2⟩:=r;rintro e w2 ⟨b2,f2,rfl,hw2⟩;have Q6:Hid (fx n (g+1) f st.fns=(gy F2 f ⟨decide (kd=2),i2⟩).map fun r=>(r.1,3,r.2)):=aa (by rw[HE.out,hM];rfl)
    have hFL:ux st.fns F2∧dP F2:=by
     obtain⟨y',q1,q2⟩:=hG1.2 _ _ HY.out;obtain⟨v',q3,q4,_⟩:=q2.vars _ _ HYV.out;rw[XE] at hG1 q1;obtain⟨a1,_,a3,_⟩:=LZ hM (yM Hu.out HY.out) (vb RN.out) (aat.out.ext hG1) (by rw[nj];omega) ⟨y',v',q1,q3,q4.trans Rp⟩
     exact⟨hG1.trans a1,a3⟩
    have hz2:=f2.cells _ _ _ _ HZ1.out (by decide)
    have hl2:w.heap.size<w2.heap.size:=(aM.1 hz2).1;have HZ3:=aa ((Below.heap_alloc w2 (.cells #[.int .i64 kd,.int .i64 (i2:Int)] 140) w.heap.size hl2).trans hz2);have yN:=aa ((dU.out.trans b2).alloc (by omega) (.cells #[.int .i64 kd,.int .i64 (i2:Int)] 140))
    have zN:=aa ((fy.out.trans f2).trans (Fr.alloc (.cells #[.int .i64 kd,.int .i64 (i2:Int)] 140)));have g2:(kd == 2)=decide (kd=2):=rfl;obtain⟨st2,XF⟩ :∃s2:aI,s2={ st1 with fns:=F2}:=⟨_,rfl⟩;rw[←XF] at hw2;have e2f:st2.fns=F2:=by rw[XF]
    have RO:=aa (hw2.alloc (.cells #[.int .i64 kd,.int .i64 (i2:Int)] 140));clear b2 f2 hz2 hM HE hw2;go_wp2_with fail
    have Kq:w.heap.size<(w2.alloc (.cells #[.int .i64 kd,.int .i64 (i2:Int)] 140)).heap.size:=by rw[ao];omega
    have x0:=dG w2 #[.int .i64 kd,.int .i64 (i2:Int)] 140 0;have x1:=dG w2 #[.int .i64 kd,.int .i64 (i2:Int)] 140 1;generalize w2.alloc (.cells #[.int .i64 kd,.int .i64 (i2:Int)] 140)=W3 at *;refine(AR b f ⟨decide (kd=2),i2⟩ st2 W3 RO.out (by rw[e2f];have:=hFL.1.1;omega) (by rw[e2f];exact hFL.2)).mono ?_
    rw[e2f];cases hU:gy F2 f ⟨decide (kd=2),i2⟩ with
    | none =>
     rintro e w4 ⟨b4,f4,rfl⟩;have HE4:Hid (fx n (g+1) f st.fns=none):=aa (by rw[Q6.out,hU];rfl)
     have CV:=f4.cells _ _ _ _ HZ3.out (by decide)
     have hl4:w.heap.size<w4.heap.size:=(aM.1 CV).1;have y0:=ab CV 0;have y1:=ab CV 1;have z0:=aE CV 0;have z1:=aE CV 1;replace y0:_=some (Value.int .i64 0):=y0;replace y1:_=some (Value.int .i64 0):=y1;have XG:=aa (yN.out.trans b4);have HF4:=aa (zN.out.trans f4);have hq:=yL CV (.int .i64 0) (.int .i64 0);have q0:=ab hq 0;have q1:=ab hq 1;replace q0:_=some (Value.int .i64 0):=q0;replace q1:_=some (Value.int .i64 0):=q1;clear b4 f4 CV hU Q6 x0 x1 hq;go_wp2_with fail
     refine bodyPost_ret (v:=.tuple #[.agg #[.int .i64 0,.int .i64 0],.iface 60 (.int .i64 12)]) (by simp[results,Tryz.results119,go_sem,q0,q1]) rfl ?_
     refine⟨(XG.out.setCell (p:=⟨w.heap.size,0,none⟩) ca _).setCell (p:=⟨w.heap.size,1,none⟩) ca _,HF4.out.past (fun k hk=>wB w4 w.heap.size _ _ k (by omega)) (by rw[ni];omega),?_⟩
     rw[HE4.out]
    | some r =>
     obtain⟨F4,k4⟩:=r;rintro e w4 ⟨b4,f4,rfl,hw4⟩;have HE4:Hid (fx n (g+1) f st.fns=some (F4,3,k4)):=aa (by rw[Q6.out,hU];rfl)
     have CV:=f4.cells _ _ _ _ HZ3.out (by decide)
     have hl4:w.heap.size<w4.heap.size:=(aM.1 CV).1;have y0:=ab CV 0;have y1:=ab CV 1;have z0:=aE CV 0;have z1:=aE CV 1;replace y0:_=some (Value.int .i64 0):=y0;replace y1:_=some (Value.int .i64 0):=y1;have XG:=aa (yN.out.trans b4);have HF4:=aa (zN.out.trans f4);have HK4:Hid (wc w4 w.heap.size 140):=aa ⟨_,_,CV⟩;have hq:=yL CV (.int .i64 3) (.int .i64 (k4:Int));have q0:=ab hq 0;have q1:=ab hq 1;replace q0:_=some (Value.int .i64 3):=q0;replace q1:_=some (Value.int .i64 (k4:Int)):=q1;rw[XF,XD] at hw4;have HW4:=aa hw4;clear b4 f4 CV hU Q6 x0 x1 hq hw4;go_wp2_with fail
     refine bodyPost_ret (v:=.tuple #[.agg #[.int .i64 3,.int .i64 (k4:Int)],.nilIface]) (by simp[results,Tryz.results119,go_sem,q0,q1]) rfl ?_
     refine⟨(XG.out.setCell (p:=⟨w.heap.size,0,none⟩) ca _).setCell (p:=⟨w.heap.size,1,none⟩) ca _,HF4.out.past (fun k hk=>wB w4 w.heap.size _ _ k (by omega)) (by rw[ni];omega),?_⟩
     rw[HE4.out];exact⟨rfl,(HW4.out.fP HK4.out (by omega) _ _).fP (HK4.out.set _ _ _) (by omega) _ _⟩
end Go.Proofs.YtodmcdfeldkocaaGreatDoor
namespace Go.Proofs.YtodmcdfeldkocaaGreatDoor
open Go.RowKit Go.Shelf
section
attribute [local go_sem] Oper.semAt_some
def tn:List cO→List (Nat×cO)
 | []=>[]
 | l::r=>(r.length,l)::tn r
theorem yO :∀L:List cO,(tn L).length=L.length
 | []=>rfl
 | l::r=>by rw[tn,List.length_cons,List.length_cons,yO r]
theorem L9 :∀(L:List cO) (k:Nat) (l:cO),L[k]? = some l→(tn L)[k]? = some (L.length-1-k,l)
 | [],_,_,h=>by simp at h
 | x::r,0,l,h=>by
  injection h with h;subst h;rfl
 | x::r,k+1,l,h=>by
  rw[tn,cG,L9 r k l h,List.length_cons];congr 2
  have:=(aJ.1 h).1;simp only[List.length_cons] at this;omega
def RP (x:Nat×cO):Array Value:=#[.int .i64 (x.1:Int),.agg #[.int .i64 (x.2.fn:Int),.map (some x.2.blk)]]
abbrev RQ (L:List cO):={ x:Nat×cO // x∈tn L}
theorem XH {L:List cO} {k:Nat} {l:cO} (h:L[k]? = some l) :∃hm,(tn L).attach[k]? = some ⟨(L.length-1-k,l),hm⟩:=by
 have h1:=L9 L k l h;refine⟨aV h1,?_⟩;obtain⟨h2,h3⟩:=aJ.1 h1;rw[bt (by rw[KS];exact h2),List.getElem_attach]
 congr 1
 exact Subtype.ext h3
set_option maxRecDepth 100000 in
theorem Ma (F:Fence) (n:Nat) (Hv:F.fn 147) (hro:F.round=none) (hn:1≤n) (l Bs n₀ g lc:Nat) (L:List cO) (hlen:L.length≤1000000) (hg:g<n₀) (hB:Bs<n₀) (J Jx:List (RQ L)→World→Prop)
  (hY :∀pre x W,J pre W→pre.length<L.length→YieldAt F (n-1) Tryz.prog l (RP x.1) W fun e W' =>
   (e=.returned (.bool true)∧J (pre++[x]) W'∧Below n₀ W W')∨(e=.returned (.bool false)∧Jx (pre++[x]) W'))
  (W:World) (VN:W.cell? ⟨Bs,0,none⟩=some (.slice (some ⟨g,0,none⟩) L.length lc)) (hc :∀k x,L[k]? = some x→W.cell? ⟨g,(L.length-1-k)*2,none⟩=some (.int .i64 (x.fn:Int))∧W.cell? ⟨g,(L.length-1-k)*2+1,none⟩=some (.map (some x.blk))) (h0:J [] W) :
  CallsIn F n Tryz.prog 147 #[.func (.yield l) #[] #[],.pointer (some ⟨Bs,0,none⟩)] W fun e W'=>(∃v,e=.returned v) ∧
   ((∃ys,ys=(tn L).attach∧J ys W')∨(∃pre,pre <+: (tn L).attach∧Jx pre W')):=by
 have hwr:=xm hlen;refine callsIn_of_wp Tryz.func147 rfl Hv ?_ hro;simp only[Tryz.ntmps147,EO,List.length_cons,List.length_nil,Nat.reduceAdd,Nat.reduceSub,KN,KO,KX,KQ,sG,iE];gi_wp2
 gi_loopw [3] (fun i wr=>∃(k:Nat) (z:Int),k≤L.length∧i=.int .i64 z∧z=(L.length:Int)-1-k∧J ((tn L).attach.take k) wr∧Below n₀ W wr)
  (fun i _=>(intOf i+1).toNat)
 case atStart=>exact⟨0,_,bg _,rfl,by omega,h0,Below.refl _ _⟩
 case round =>
  obtain⟨k,z,hk,rfl,hz,hJs,hnx⟩:=hrel;by_cases hlt:k<L.length
  ·obtain⟨x,hx⟩ :∃x,L[k]? = some x:=⟨L[k],bt hlt⟩
   obtain⟨c0,c1⟩:=hc k x hx;obtain⟨i,rfl⟩ :∃i:Nat,z=(i:Int):=⟨L.length-1-k,by omega⟩
   have hi:L.length-1-k=i:=by omega
   rw[hi] at c0 c1;have e0:=(hnx.cell (p:=⟨g,i*2,none⟩) hg).trans c0;have e1:=(hnx.cell (p:=⟨g,i*2+1,none⟩) hg).trans c1;have eb:=(hnx.cell (p:=⟨Bs,0,none⟩) hB).trans VN;have wC:i<L.length:=by omega
   obtain⟨hm,dH⟩ :∃hm,(tn L).attach[k]? = some ⟨(i,x),hm⟩:=hi▸XH hx;obtain⟨fn,tmps,assign,body,hy,hR⟩:=hY _ ⟨(i,x),hm⟩ wr hJs (by rw[jd,KS,yO];omega)
   dsimp only[RP] at hy
   have HZ:=aa hz;have hge:decide ((0:Int)≤(i:Int))=true:=bN (by omega)
   clear hz hi;gi_wp2
   have hz:=HZ.out;refine hR.mono ?_;have Xd:(tn L).attach.take (k+1)=(tn L).attach.take k++[⟨(i,x),hm⟩]:=jA _ _ _ dH;rintro e W3 (⟨rfl,hJ3,hk3⟩ | ⟨rfl,acp⟩)
   ·clear hz
    gi_wp2
    have hz:=HZ.out;go_roundw
    case rel=>exact⟨k+1,(i:Int)-1,by omega,by go_num,by omega,by rw[Xd];exact hJ3,hnx.trans hk3⟩
    case measure=>simp[intOf]
   ·clear hz
    gi_wp2
    refine bodyPost_ret (results_none rfl _ _ _) rfl ?_;exact⟨⟨_,rfl⟩,.inr ⟨_,by rw[←Xd];exact List.take_prefix _ _,acp⟩⟩
  ·obtain rfl:z = -1:=by omega
   have rm:k=L.length:=by omega
   gi_wp2
   go_end0
   exact⟨⟨_,rfl⟩,.inl ⟨_,by rw[sF (by rw[KS,yO];omega)],hJs⟩⟩
set_option maxRecDepth 100000 in
theorem Hw (F:Fence) (n:Nat) (Hv:F.fn 147) (hro:F.round=none) (l Bs:Nat) (a:Option Addr) (lc:Nat) (J:World→Prop) (W:World) (VN:W.cell? ⟨Bs,0,none⟩=some (.slice a 0 lc)) (h0:J W) :
  CallsIn F n Tryz.prog 147 #[.func (.yield l) #[] #[],.pointer (some ⟨Bs,0,none⟩)] W fun e W'=>(∃v,e=.returned v)∧J W':=by
 refine callsIn_of_wp Tryz.func147 rfl Hv ?_ hro;simp only[Tryz.ntmps147,EO,List.length_cons,List.length_nil,Nat.reduceAdd,Nat.reduceSub,KN,KO,KX,KQ,sG,iE];gi_wp2
 gi_loopw [3] (fun i wr=>i=.int .i64 (-1)∧J wr) (fun _ _=>0)
 case atStart=>exact⟨rfl,h0⟩
 case round =>
  obtain⟨rfl,hJs⟩:=hrel;gi_wp2
  go_end0
  exact⟨⟨_,rfl⟩,hJs⟩
theorem AU (a:Option Addr) (ln lc:Nat) (w:World) :
  Calls Tryz.prog 118 #[.slice a ln lc] w fun e w'=>e=.returned (.func (.func 147) #[] #[.pointer (some ⟨w.heap.size,0,none⟩)])∧w'=w.alloc (.cells #[.slice a ln lc] 67):=by
 go_enter Tryz.func118,Tryz.ntmps118
 go_wp2
 go_ret
 exact⟨rfl,rfl⟩
theorem Dl (F:Fence) (n:Nat) (Hv:F.fn 147) (hro:F.round=none) (hn:1≤n) (Bs n₀ B:Nat) (v:Value) (L:List cO) (hlen:L.length≤1000000) (w:World) (VN:Bs<n₀) (adW:n₀≤w.heap.size)
  (hc:w.cell? ⟨Bs,0,none⟩=some v) (hr:w.ownsRow B 194 2 v L.length (L.reverse.flatMap Fm)) (hv :∀g,v.ownBlock=some g→g<n₀) :
  SeqStopsK F n Tryz.prog 147 #[.pointer (some ⟨Bs,0,none⟩)] (fun x:RQ L=>RP x.1) (Below n₀) (fun ys=>ys=(tn L).attach) (fun pre=>pre <+: (tn L).attach) L.length w:=fun l J Jx W hW _ _ hY h0=>by
 have hc':=(hW.cell (p:=⟨Bs,0,none⟩) (by show Bs<_;omega)).trans hc
 obtain⟨A,c,rfl,_,eD⟩:=dM hr;rcases eD with h0' | ⟨g,rfl,Xy,oT,tj⟩
 ·have hL:L=[]:=kK h0'
  subst hL;exact(Hw F n Hv hro l Bs A c (J []) W hc' h0).mono fun e W' ⟨he,hj⟩=>⟨he,.inl ⟨_,rfl,hj⟩⟩
 ·refine Ma F n Hv hro hn l Bs n₀ g c L hlen (hv g rfl) VN J Jx hY W hc' (fun k x hx=>?_) h0
  have hk:=(aJ.1 hx).1;have aau:L.reverse[L.length-1-k]? = some x:=by
   rw[List.getElem?_reverse (by omega),show L.length-1-(L.length-1-k)=k by omega]
   exact hx
  have h2:=iv yK L.reverse (L.length-1-k) 0 x aau (by omega)
  have h3:=iv yK L.reverse (L.length-1-k) 1 x aau (by omega)
  exact⟨(hW.cell (p:=⟨g,(L.length-1-k)*2,none⟩) oT).trans ((tj _ (by omega)).trans h2),(hW.cell (p:=⟨g,(L.length-1-k)*2+1,none⟩) oT).trans ((tj _ (by omega)).trans h3)⟩
end
end Go.Proofs.YtodmcdfeldkocaaGreatDoor
namespace Go.Proofs.YtodmcdfeldkocaaGreatDoor
open Go.RowKit Go.Shelf
section
attribute [local go_sem] Oper.semAt_some
def AV (B b:Nat) (nv:Value) (N ub ob:Nat) (st:aI) (f:Nat) (s:ByteArray) (w:World) (e:Ending) (w':World):Prop :=
 Below B w w'∧Fr [43,199,225] w w'∧match st.names.find? fun n=>decide (n.s=s) with
 | none=>e=.returned (.tuple #[.agg #[.int .i64 0,.int .i64 0],.iface 60 (.int .i64 16)])∧jG w' B b nv N st ub ob
 | some n=>match fx n st.fns.length f st.fns with
  | some (F,k,i)=>e=.returned (.tuple #[.agg #[.int .i64 k,.int .i64 (i:Int)],.nilIface])∧jG w' B b nv N { st with fns:=F} ub ob
  | none=>e=.returned (.tuple #[.agg #[.int .i64 0,.int .i64 0],.iface 60 (.int .i64 12)])
theorem fU {W:World} {o x:Obj} {k:Nat} (h:W.heap[k]? = some x):(W.alloc o).heap[k]? = some x:=(Below.heap_alloc W o k (aM.1 h).1).trans h
theorem rP {W:World} {o:Obj} {n:Nat} (h:W.heap.size=n):(W.alloc o).heap[n]? = some o:=by rw[←h];exact heap_alloc_new W o
theorem Hx (w:World) (o1 o2 o3 o4 o5 o6:Obj) {W:World} (h:((((((w.alloc o1).alloc o2).alloc o3).alloc o4).alloc o5).alloc o6)=W):W.heap.size=w.heap.size+1+1+1+1+1+1∧Below w.heap.size w W∧W.heap[w.heap.size]? = some o1∧W.heap[w.heap.size+1]? = some o2∧W.heap[w.heap.size+1+1]? = some o3∧W.heap[w.heap.size+1+1+1]? = some o4∧W.heap[w.heap.size+1+1+1+1]? = some o5∧W.heap[w.heap.size+1+1+1+1+1]? = some o6:=by
 subst h;refine⟨by rw[ao,ao,ao,ao,ao,ao],(((((((Below.refl _ w).alloc (ag _) _).alloc (by rw[ao];omega) _).alloc (by rw[ao,ao];omega) _).alloc (by rw[ao,ao,ao];omega) _).alloc (by rw[ao,ao,ao,ao];omega) _).alloc (by rw[ao,ao,ao,ao,ao];omega) _),fU (fU (fU (fU (fU (rP rfl))))),fU (fU (fU (fU (rP (by rw[ao]))))),fU (fU (fU (rP (by rw[ao,ao])))),fU (fU (rP (by rw[ao,ao,ao]))),fU (rP (by rw[ao,ao,ao,ao])),rP (by rw[ao,ao,ao,ao,ao])⟩
structure RS (W W':World):Prop where
 size:W.heap.size≤W'.heap.size
 cells :∀(k:Nat) c (e:TypeId) fz,W.heap[k]? = some (.cells c e fz)→W'.heap[k]? = some (.cells c e fz)
theorem RS.row {W W':World} {B e s n:Nat} {v:Value} {xs:List Value} (h:RS W W') (hr:W.ownsRow B e s v n xs):W'.ownsRow B e s v n xs:=by
 refine⟨hr.1,?_⟩;rcases hr.2 with hn | ⟨g,cap,cur,rfl,hB,hg,rest⟩
 ·exact .inl hn
 ·exact .inr ⟨g,cap,cur,rfl,hB,h.cells g _ _ _ hg,rest⟩
theorem jG.ckp {W W':World} {B b:Nat} {nv:Value} {N:Nat} {st:aI} {ub ob:Nat} (h:jG W B b nv N st ub ob) (k:RS W W'):jG W' B b nv N st ub ob:=by
 obtain⟨fv,L,h⟩:=h;exact⟨fv,L,k.cells b _ _ _ h.blk,⟨k.row h.fns.row,fun t ht=>k.row (h.fns.vars t ht),fun t ht=>k.row (h.fns.ch t ht),h.fns.ql,h.fns.rI⟩,h.are,k.row h.uses,k.row h.wy,h.pos⟩
theorem RS.of {W W':World} {row:Option Nat} {B:Nat} (hg:W.grownBy W' row) (hr :∀r,row=some r→B≤r∧∃o:Obj,W.heap[r]? = some o∧o.isCells=false):RS W W' :=
 ⟨hg.size,fun k c e fz hk=>(hg.block k (aM.1 hk).1 fun e'=>by
  obtain⟨_,o,ho,hc⟩:=hr k e'.symm;rw[hk] at ho;injection ho with ho;subst ho;cases hc).trans hk⟩
theorem Mb {E:List Nat} {w W W':World} {row:Option Nat} {B:Nat} (hB:w.heap.size≤B) (h:Fr E w W) (hg:W.grownBy W' row) (hr :∀r,row=some r→B≤r∧∃o:Obj,W.heap[r]? = some o∧o.isCells=false):Fr E w W' :=
 h.past (fun k hk=>hg.block k (by have:=h.size;omega) fun e=>by have:=(hr k e.symm).1;omega) hg.size
theorem xn {n:Nat} {w W W':World} {row:Option Nat} {B:Nat} (hB:n≤B) (hn:n≤W.heap.size) (h:Below n w W) (hg:W.grownBy W' row) (hr :∀r,row=some r→B≤r∧∃o:Obj,W.heap[r]? = some o∧o.isCells=false):Below n w W' :=
 ⟨hg.os.trans h.os,hg.tape.trans h.tape,hg.output.trans h.output,aL h.size hg.size,fun k hk=>(hg.block k (by omega) fun e=>by have:=(hr k e.symm).1;omega).trans (h.block k hk)⟩
theorem jG.later {W W':World} {B b:Nat} {nv:Value} {N:Nat} {st:aI} {ub ob:Nat} (h:jG W B b nv N st ub ob) (hb:Below W.heap.size W W'):jG W' B b nv N st ub ob:=by
 obtain⟨fv,L,h⟩:=h;exact⟨fv,L,h.later hb⟩
theorem Fs :∀{L:List cO} {x:Nat×cO},x∈tn L→x.2∈L
 | l::r,x,h=>by
  rw[tn] at h;rcases ba.1 h with rfl|h
  ·exact bH ..
  ·exact bQ _ (Fs h)
theorem Ft :∀L:List cO,(tn L).map (·.2)=L
 | []=>rfl
 | l::r=>by rw[tn,dS,Ft r]
theorem Fu (L:List cO):(tn L).attach.map (fun x=>x.1.2)=L:=by
 have:(tn L).attach.map (fun x=>x.1.2)=((tn L).attach.map Subtype.val).map (·.2):=by rw[uo];rfl
 rw[this,List.attach_map_subtype_val,Ft]
theorem Mc {L:List cO} {s:ByteArray} (h :∀y∈(tn L).attach,jX y.1.2.iw s=none):(mu L).find? (fun n=>decide (n.s=s))=none:=by
 rw[rO];have:L.find? (fun l=>(jX l.iw s).isSome)=none:=by
  rw[EM];intro l hl;have h1:l∈(tn L).attach.map (fun x=>x.1.2):=by rw[Fu];exact hl
  obtain⟨y,hy,e⟩:=eJ.1 h1;rw[←e,h y hy];simp
 rw[this];rfl
theorem AW {L:List cO} {s:ByteArray} {pre:List (RQ L)} {x:RQ L} {n:jr} (hp:pre++[x] <+: (tn L).attach) (h :∀y∈pre,jX y.1.2.iw s=none) (hx:(x.1.2.iw.find? fun n=>decide (n.s=s))=some n):(mu L).find? (fun n=>decide (n.s=s))=some n:=by
 obtain⟨t,ht⟩:=hp;have e:L=(pre.map fun x=>x.1.2)++x.1.2::t.map fun x=>x.1.2:=by
  refine(Fu L).symm.trans ?_;rw[←ht];simp
 rw[rO];have:L.find? (fun l=>(jX l.iw s).isSome)=some x.1.2:=by
  refine(az (List.find? fun l=>(jX l.iw s).isSome) e).trans ?_
  rw[List.find?_append];have h1:(pre.map fun x=>x.1.2).find? (fun l=>(jX l.iw s).isSome)=none:=by
   rw[EM];intro l hl;obtain⟨y,hy,e⟩:=eJ.1 hl;rw[←e,h y hy];simp
  rw[h1,Option.none_or,kO];have h2:(jX x.1.2.iw s).isSome=true:=by unfold jX;rw[hx];rfl
  rw[h2]
 rw[this];exact hx
structure Hy (W:World) (r q:Nat) (k i:Int) (ev:Value):Prop where
 use:W.heap[r]? = some (.cells #[.int .i64 k,.int .i64 i] 140 (0,0))
 err:W.heap[q]? = some (.cells #[ev] 29 (0,0))
theorem XI {W:World} {r q:Nat} (hne:r≠q) {x y z:Value} (h4:W.heap[r]? = some (.cells #[x,y] 140 (0,0))) (h5:W.heap[q]? = some (.cells #[z] 29 (0,0))) (k i:Int) (ev:Value):Hy (((W.setCell ⟨r,0,none⟩ (.int .i64 k)).setCell ⟨r,1,none⟩ (.int .i64 i)).setCell ⟨q,0,none⟩ ev) r q k i ev :=
 ⟨(Below.heap_setCell _ _ _ r hne).trans (yL h4 _ _),by
  have:=bE ((wB W r (.int .i64 k) (.int .i64 i) q fun e=>hne e.symm).trans h5) 0 ev
  simpa using this⟩
theorem RT (W:World) (r q:Nat) (a c v:Value) (k:Nat) (h1:k≠r) (h2:k≠q):(((W.setCell ⟨r,0,none⟩ a).setCell ⟨r,1,none⟩ c).setCell ⟨q,0,none⟩ v).heap[k]? = W.heap[k]?:=(Below.heap_setCell _ _ _ k h2).trans (wB W r a c k h1)
theorem Md (W:World) (r q:Nat) (a c v:Value):(((W.setCell ⟨r,0,none⟩ a).setCell ⟨r,1,none⟩ c).setCell ⟨q,0,none⟩ v).heap.size=W.heap.size:=by simp[World.setCell]
theorem Me (B:Nat) {E:List Nat} {W W1:World} (h:Fr E W W1) (r q:Nat) (a c v:Value):KeepsFrom B W (((W1.setCell ⟨r,0,none⟩ a).setCell ⟨r,1,none⟩ c).setCell ⟨q,0,none⟩ v) :=
 KeepsFrom.trans (Y:=W1) ⟨h.size,fun k o _ hk ho=>h.others k o hk fun _ _ _ e=>by subst e;cases ho⟩ ((((KeepsOthers.setCell _ _ _).trans (KeepsOthers.setCell _ _ _)).trans (KeepsOthers.setCell _ _ _)).from B)
theorem jG.fr {W W':World} {B b:Nat} {nv:Value} {N:Nat} {st:aI} {ub ob:Nat} {E:List Nat} (h:jG W B b nv N st ub ob) (k:Fr E W W') (he:(64:Nat)∉E∧(43:Nat)∉E∧(199:Nat)∉E∧(225:Nat)∉E∧(140:Nat)∉E∧(3:Nat)∉E):jG W' B b nv N st ub ob:=by
 obtain⟨fv,L,h⟩:=h;exact⟨fv,L,h.fr k he⟩
theorem rs9 {W:World} {B b:Nat} {nv:Value} {N:Nat} {st:aI} {ub ob:Nat} (h:jG W B b nv N st ub ob) {r q:Nat} (hr:wc W r 140) (hq:wc W q 29) (hne:r≠ub) (a c v:Value):jG (((W.setCell ⟨r,0,none⟩ a).setCell ⟨r,1,none⟩ c).setCell ⟨q,0,none⟩ v) B b nv N st ub ob :=
 ((h.fP hr hne _ _).fP (hr.set _ _ _) hne _ _).fr (E:=[29]) (((hq.set _ _ _).set _ _ _).fr (by decide) _ _) (by decide)
def Fv (w:World) (B b:Nat) (nv:Value) (N ub ob:Nat) (st:aI) (f:Nat) (s:ByteArray) (L:List cO) (r q:Nat) (pre:List (RQ L)) (W:World):Prop :=
 (∃(pre':List (RQ L)) (x:RQ L) (n:jr),pre=pre'++[x]∧(∀y∈pre',jX y.1.2.iw s=none)∧(x.1.2.iw.find? fun n=>decide (n.s=s))=some n∧match fx n st.fns.length f st.fns with
  | some (F,k,i)=>Hy W r q k i .nilIface∧jG W B b nv N { st with fns:=F} ub ob
  | none=>Hy W r q 0 0 (.iface 60 (.int .i64 12)))∧Fr [43,199,225] w W∧Below B w W
theorem Hy.ckp {W W':World} {r q:Nat} {k i:Int} {ev:Value} (h:Hy W r q k i ev) (c:RS W W'):Hy W' r q k i ev:=⟨c.cells _ _ _ _ h.use,c.cells _ _ _ _ h.err⟩
theorem Fv.own {w:World} {B b:Nat} {nv:Value} {N ub ob:Nat} {st:aI} {f:Nat} {s:ByteArray} {L:List cO} {r q:Nat} {pre:List (RQ L)} {W W':World} {row:Option Nat} {D:Nat} (hD:w.heap.size≤D) (hB:B≤w.heap.size) (h:Fv w B b nv N ub ob st f s L r q pre W) (hg:W.grownBy W' row) (hr :∀r,row=some r→D≤r∧∃o:Obj,W.heap[r]? = some o∧o.isCells=false):Fv w B b nv N ub ob st f s L r q pre W':=by
 obtain⟨⟨pre',x,n,h1,h2,h3,h4⟩,h5,h6⟩:=h;have c:=RS.of hg hr;refine⟨⟨pre',x,n,h1,h2,h3,?_⟩,Mb hD h5 hg hr,xn (by omega) (by have:=h6.size;omega) h6 hg hr⟩
 cases hR:fx n st.fns.length f st.fns with
 | none=>rw[hR] at h4;exact h4.ckp c
 | some r=>obtain⟨F,k,i⟩:=r;rw[hR] at h4;exact⟨h4.1.ckp c,h4.2.ckp c⟩
set_option maxRecDepth 100000 in
theorem Hz {B:Nat} {nv:Value} {N ub ob:Nat} (b f:Nat) (s:ByteArray) (loop:Int) (pa la:Option Addr) (lc:Nat) (L:List cO) (st:aI) (w:World) (hw:jG w B b nv N st ub ob) (hl:dc w B (.slice la L.length lc) L) (hn:st.names=mu L) (we:Cx f st) (jl:dP st.fns) (CU:st.fns.length≤100000) (sQ:L.length≤100000) (hs:s.size≤maxLen) :
  Calls Tryz.prog 71 #[.pointer (some ⟨b,0,none⟩),.string s,.agg #[.int .i64 (f:Int),.int .i64 loop,.pointer pa,.slice la L.length lc]] w (AV B b nv N ub ob st f s w):=by
 refine(callsIn_wide (n:=3)).1 ?_;have HW:=aa hw;have HL:=aa hl;have HN:=aa hn;have HCX:=aa we;have RN:=aa jl;clear hw hl hn we jl;refine callsIn_of_wp_marks Tryz.func71 rfl trivial ?_ rfl;simp only[Tryz.ntmps71,EO,List.length_cons,List.length_nil,Nat.reduceAdd,Nat.reduceSub,KN,KO,KX,KQ,sG,iE];gi_wp2_with (first|(refine⟨trivial,?_⟩;gi_at_call 118;refine(callsIn_wide.2 (AU _ _ _ _)).mono ?_;rintro e w' ⟨rfl,rfl⟩)|(gi_at_call 118;refine(callsIn_wide.2 (AU _ _ _ _)).mono ?_;rintro e w' ⟨rfl,rfl⟩))
 obtain⟨W0,hW0⟩ :∃W0,((((((w.alloc (.cells #[.pointer (some ⟨b,0,none⟩)] 93)).alloc (.cells #[.string s] 9)).alloc (.cells #[.int .i64 (f:Int),.int .i64 loop,.pointer pa,.slice la L.length lc] 69)).alloc (.cells #[.int .i64 0,.int .i64 0] 140)).alloc (.cells #[.nilIface] 29)).alloc (.cells #[.slice la L.length lc] 67))=W0:=⟨_,rfl⟩;obtain⟨hsz,hb0,o1,o2,o3,o4,o5,o6⟩:=Hx w _ _ _ _ _ _ hW0;rw[hW0];obtain⟨ca,po⟩:B≤w.heap.size∧ub<w.heap.size:=by
  obtain⟨_,_,h⟩:=HW.out;exact⟨aL h.pos (ft h.mN.1),h.mN.2.1⟩
 have tP:=aa hb0;have qo:=aa hsz;have H1:=aa o1;have H2:=aa o2;have H3:=aa o3;have H4:=aa o4;have H5:=aa o5;have c6:=ab o6 0;clear o1 o2 o3 o4 o5 o6 hW0 hsz hb0;have HR0:=aa (n7 HL.out.row tP.out);have hown :∀g,(Value.slice la L.length lc).ownBlock=some g→g<W0.heap.size:=fun g hg=>by
  have h1:=(HR0.out.lt g hg).2;exact h1
 refine wpIn_rangeFunc_ownH (α:=RQ L) rfl (by omega) (gf:=147) (lb:=#[.pointer (some ⟨w.heap.size+1+1+1+1+1,0,none⟩)]) rfl trivial (enters_of Tryz.func147 (by kernel_rfl) rfl)
  (Dl Fence.wide 2 trivial rfl (by omega) (w.heap.size+1+1+1+1+1) W0.heap.size B (.slice la L.length lc) L (by omega) W0 (by rw[qo.out];omega) (ag _) c6 HR0.out hown) belowK_t (belowK_b (ag _)) (Below.refl _ _) (fun _=>rfl)
  (fun pre W=>(∀y∈pre,jX y.1.2.iw s=none)∧Below W0.heap.size W0 W)
  (fun c pre W=>c=.ret∧Fv w B b nv N ub ob st f s L (w.heap.size+1+1+1) (w.heap.size+1+1+1+1) pre W)
  (OwnFrom.and (ownFrom_pure _ _) (ownFrom_below (ag _) (ag _)))
  (fun c=>OwnFrom.and (ownFrom_pure _ _) (fun pre W W' row hs hg hr=>hs.own (by rw[qo.out];omega) ca hg hr))
  ⟨fun y hy=>(by cases hy),Below.refl _ _⟩
  (fun x a' W=>∃Bx,W0.heap.size≤Bx∧W.heap[Bx]? = some (.cells #[.int .i64 (x.1.2.fn:Int),.map (some x.1.2.blk)] 194 (0,0))∧a'={ tmps:=#[.pointer (some ⟨b,0,none⟩),.string s,.agg #[.int .i64 (f:Int),.int .i64 loop,.pointer pa,.slice la L.length lc],.pointer (some ⟨w.heap.size,0,none⟩),.pointer (some ⟨w.heap.size+1,0,none⟩),.pointer (some ⟨w.heap.size+1+1,0,none⟩),.pointer (some ⟨w.heap.size+1+1+1,0,none⟩),.pointer (some ⟨w.heap.size+1+1+1+1,0,none⟩),undef,.pointer (some ⟨Bx,0,none⟩),undef,undef,.pointer (some ⟨w.heap.size+1+1,3,none⟩),.slice la L.length lc,.func (.func 147) #[] #[.pointer (some ⟨w.heap.size+1+1+1+1+1,0,none⟩)],.int .i64 (x.1.1:Int),.agg #[.int .i64 (x.1.2.fn:Int),.map (some x.1.2.blk)],undef,undef,undef,undef,undef,undef,undef,undef,undef,undef,undef,undef,undef,undef,undef,undef,undef,undef,undef],defers:=[]})
  (fun x a' pre W W' row hs hg hr=>by
   obtain⟨Bx,h1,h2,h3⟩:=hs;exact⟨Bx,h1,(RS.of hg hr).cells _ _ _ _ h2,h3⟩) ?assign ?body ?done ?stop
 case assign =>
  rintro l pre ⟨⟨i,y⟩,hm⟩ W K ⟨hp,hb⟩ hK;dsimp only[RP]
  gi_wp2
  exact hK _ _ ((KeepsOthers.alloc _ _).from _) ((Below.refl _ W).alloc hb.size _) ⟨hp,hb.alloc hb.size _⟩ ⟨W.heap.size,hb.size,heap_alloc_new _ _,rfl⟩
 case body =>
  rintro l pre ⟨⟨i,y⟩,hm⟩ a' W hl' ⟨r,hr⟩ ⟨hp,hb⟩ ⟨Bx,hBx,eB,rfl⟩ hlt;have hy:=Fs hm;dsimp only
  have pq:=tP.out.trans (hb.mono (by rw[qo.out];omega))
  obtain⟨hmp,hmB⟩:=HL.out.maps y hy;have hmw:dK Tryz.prog 9 W y.blk y.iw.length (jX y.iw):=hmp.same (pq.block _ hmp.lt);have hrun:=hmw.look (t:=192) (e:=3) Tryz.underlying9 Tryz.underlying192 (z:=.int .i64 0) (by kernel_rfl) rfl s hs
  have y0:=ab eB 0;have y1:=ab eB 1;replace y0:_=some (Value.int .i64 (y.fn:Int)):=y0;replace y1:_=some (Value.map (some y.blk)):=y1;have q1:=(hb.block _ (by rw[qo.out];omega)).trans H1.out
  have q2:=(hb.block _ (by rw[qo.out];omega)).trans H2.out
  have q3:=(hb.block _ (by rw[qo.out];omega)).trans H3.out
  have q4:=(hb.block _ (by rw[qo.out];omega)).trans H4.out
  have q5:=(hb.block _ (by rw[qo.out];omega)).trans H5.out
  have d1:=ab q1 0;have d2:=ab q2 0;have d3:=ab q3 0;replace d1:_=some (Value.pointer (some ⟨b,0,none⟩)):=d1;replace d2:_=some (Value.string s):=d2;replace d3:_=some (Value.int .i64 (f:Int)):=d3;have HP:=aa hp;have uJ:=aa hb;have iL:=aa pq;have HYL:=aa hy;have Q4:=aa q4;have Q5:=aa q5;have HLR:=aa hr;clear hp hb pq hmp hmB hmw q1 q2 q3 q4 q5 eB hr;cases rQ:jX y.iw s with
  | none =>
   rw[rQ] at hrun;replace hrun:_=Result.ok (Value.tuple #[.int .i64 0,.bool false]) W:=hrun;gi_wp2
   refine⟨KeepsFrom.refl _ _,Below.refl _ _,?_,uJ.out⟩;intro a2 b2 hm2 hz;rcases cU.1 hz with hz|hz
   ·exact HP.out _ hz
   ·rw[bR] at hz
    injection hz with hz;injection hz with _ hz;rw[hz];exact rQ
  | some v =>
   obtain⟨n,AX,vd⟩ :∃n,(y.iw.find? fun n=>decide (n.s=s))=some n∧v=.int .i64 (n.i:Int):=by
    unfold jX at rQ;cases e:y.iw.find? fun n=>decide (n.s=s) with
    | none=>rw[e] at rQ;cases rQ
    | some n=>rw[e] at rQ;injection rQ with rQ;exact⟨n,rfl,rQ.symm⟩
   subst vd;rw[rQ] at hrun;replace hrun:_=Result.ok (Value.tuple #[.int .i64 (n.i:Int),.bool true]) W:=hrun;have Lf:n∈y.iw:=KG AX;have hfn:=HL.out.own y HYL.out n Lf;rw[←hfn] at y0;have wg:n∈st.names:=by
    rw[HN.out];exact mS.2 ⟨y,HYL.out,Lf⟩
   have HNN:=aa wg;have Kr:=aa AX;have HSEG:=aa rQ;clear wg AX rQ Lf hfn;have ji:=aa (HW.out.later iL.out);obtain⟨Dk,yf,vf,hyf,hvf,Rp⟩:=HCX.out.names n HNN.out;have HLD:=aa (L7 b n st.fns.length f st W HCX.out.lt ji.out HCX.out.ok RN.out Dk ⟨yf,vf,hyf,hvf,Rp⟩ HCX.out.lt CU);have q4:=Q4.out;have q5:=Q5.out;gi_wp2_with fail
   refine⟨trivial,(CallsIn.inRound l (callsIn_wide.2 HLD.out)).mono ?_⟩;rintro e w1 ⟨b1,f1,h1⟩;have q4':=f1.cells _ _ _ _ q4 (by decide)
   have q5':=f1.cells _ _ _ _ q5 (by decide)
   have r0:=ab q4' 0;have r1:=ab q4' 1;have r2:=ab q5' 0;have z0:=aE q4' 0;have z1:=aE q4' 1;have z2:=aE q5' 0;replace r0:_=some (Value.int .i64 0):=r0;replace r1:_=some (Value.int .i64 0):=r1;replace r2:_=some Value.nilIface:=r2;have fy:=aa f1;have dU:=aa b1;have Q4':=aa q4';have Q5':=aa q5';clear b1 f1 q4 q5 q4' q5' hyf hvf Dk Rp;cases hR:fx n st.fns.length f st.fns with
   | none =>
    rw[hR] at h1;subst h1;have HR:=aa hR;clear hR;gi_wp2
    refine⟨Me _ fy.out _ _ _ _ _,rfl,⟨pre,⟨(i,y),hm⟩,n,rfl,HP.out,Kr.out,?_⟩,((Fr.af iL.out).trans fy.out).past (fun k hk=>RT _ _ _ _ _ _ k (by omega) (by omega)) (by rw[Md];exact ag _),((((iL.out.mono ca).trans dU.out).setCell (p:=⟨w.heap.size+1+1+1,0,none⟩) (by show B≤w.heap.size+1+1+1;omega) _).setCell (p:=⟨w.heap.size+1+1+1,1,none⟩) (by show B≤w.heap.size+1+1+1;omega) _).setCell (p:=⟨w.heap.size+1+1+1+1,0,none⟩) (by show B≤w.heap.size+1+1+1+1;omega) _⟩
    rw[HR.out];exact XI (by omega) Q4'.out Q5'.out 0 0 _
   | some r =>
    obtain⟨F1,k1,i1⟩:=r;rw[hR] at h1;obtain⟨rfl,ee⟩:=h1;have HR:=aa hR;have lE:=aa ee;clear hR ee;gi_wp2
    refine⟨Me _ fy.out _ _ _ _ _,rfl,⟨pre,⟨(i,y),hm⟩,n,rfl,HP.out,Kr.out,?_⟩,((Fr.af iL.out).trans fy.out).past (fun k hk=>RT _ _ _ _ _ _ k (by omega) (by omega)) (by rw[Md];exact ag _),((((iL.out.mono ca).trans dU.out).setCell (p:=⟨w.heap.size+1+1+1,0,none⟩) (by show B≤w.heap.size+1+1+1;omega) _).setCell (p:=⟨w.heap.size+1+1+1,1,none⟩) (by show B≤w.heap.size+1+1+1;omega) _).setCell (p:=⟨w.heap.size+1+1+1+1,0,none⟩) (by show B≤w.heap.size+1+1+1+1;omega) _⟩
    rw[HR.out];exact⟨XI (by omega) Q4'.out Q5'.out k1 i1 _,rs9 lE.out ⟨_,_,Q4'.out⟩ ⟨_,_,Q5'.out⟩ (by omega) _ _ _⟩
 case done =>
  rintro D ys W hD rfl ⟨hp,hb⟩ hK;have q4:=(hb.block _ (by rw[qo.out];omega)).trans H4.out
  have q5:=(hb.block _ (by rw[qo.out];omega)).trans H5.out
  have r0:=ab q4 0;have r1:=ab q4 1;have r2:=ab q5 0;have z0:=aE q4 0;have z1:=aE q4 1;have z2:=aE q5 0;replace r0:_=some (Value.int .i64 0):=r0;replace r1:_=some (Value.int .i64 0):=r1;replace r2:_=some Value.nilIface:=r2;have iL:=aa (tP.out.trans (hb.mono (by rw[qo.out];omega)))
  have HDN:Hid ((mu L).find? (fun n=>decide (n.s=s))=none):=aa (Mc hp)
  have acq:=aa (XI (W:=W) (r:=w.heap.size+1+1+1) (q:=w.heap.size+1+1+1+1) (by omega) q4 q5 0 0 (.iface 60 (.int .i64 16)))
  have K4:Hid (wc W (w.heap.size+1+1+1) 140):=aa ⟨_,_,q4⟩;have K5:Hid (wc W (w.heap.size+1+1+1+1) 29):=aa ⟨_,_,q5⟩;clear q4 q5 hp hb;gi_wp2
  have hK':=(RT W (w.heap.size+1+1+1) (w.heap.size+1+1+1+1) (.int .i64 0) (.int .i64 0) (.iface 60 (.int .i64 16)) D (by rw[qo.out] at hD;omega) (by rw[qo.out] at hD;omega)).trans hK
  have hR9:=rs9 (HW.out.later iL.out) K4.out K5.out (by omega) (.int .i64 0) (.int .i64 0) (.iface 60 (.int .i64 16))
  have hF9:Fr [43,199,225] w (((W.setCell ⟨w.heap.size+1+1+1,0,none⟩ (.int .i64 0)).setCell ⟨w.heap.size+1+1+1,1,none⟩ (.int .i64 0)).setCell ⟨w.heap.size+1+1+1+1,0,none⟩ (.iface 60 (.int .i64 16))):=(Fr.af iL.out).past (fun k hk=>RT _ _ _ _ _ _ k (by omega) (by omega)) (by rw[Md];exact ag _)
  have hB9:Below B w (((W.setCell ⟨w.heap.size+1+1+1,0,none⟩ (.int .i64 0)).setCell ⟨w.heap.size+1+1+1,1,none⟩ (.int .i64 0)).setCell ⟨w.heap.size+1+1+1+1,0,none⟩ (.iface 60 (.int .i64 16))):=(((iL.out.mono ca).setCell (p:=⟨w.heap.size+1+1+1,0,none⟩) (by show B≤w.heap.size+1+1+1;omega) _).setCell (p:=⟨w.heap.size+1+1+1,1,none⟩) (by show B≤w.heap.size+1+1+1;omega) _).setCell (p:=⟨w.heap.size+1+1+1+1,0,none⟩) (by show B≤w.heap.size+1+1+1+1;omega) _
  have hO9:=acq.out;generalize ((W.setCell ⟨w.heap.size+1+1+1,0,none⟩ (.int .i64 0)).setCell ⟨w.heap.size+1+1+1,1,none⟩ (.int .i64 0)).setCell ⟨w.heap.size+1+1+1+1,0,none⟩ (.iface 60 (.int .i64 16))=W9 at *;refine⟨by simp,.inl ⟨_,_,rfl,run_takeDeferred hK',?_⟩⟩
  have hgr:=grownBy_putObj' W9 D (.deferred none);have XJ :∀r,some D=some r→W0.heap.size≤r∧∃o:Obj,W9.heap[r]? = some o∧o.isCells=false:=fun r e=>by injection e with e;subst e;exact⟨hD,_,hK',rfl⟩
  have hC:=RS.of hgr XJ;have hO:=hO9.ckp hC;have k0:=ab hO.use 0;have k1:=ab hO.use 1;have k2:=ab hO.err 0;replace k0:_=some (Value.int .i64 0):=k0;replace k1:_=some (Value.int .i64 0):=k1;replace k2:_=some (Value.iface 60 (.int .i64 16)):=k2;refine⟨.tuple #[.agg #[.int .i64 0,.int .i64 0],.iface 60 (.int .i64 16)],?_,xn (by rw[qo.out];omega) (by have:=hB9.size;omega) hB9 hgr XJ,Mb (by rw[qo.out];omega) hF9 hgr XJ,?_⟩
  ·simp[results,Tryz.results71,go_sem,k0,k1,k2]
  ·rw[HN.out,HDN.out]
   exact⟨rfl,hR9.ckp hC⟩
 case stop =>
  rintro D c pre W hD kW ⟨rfl,hz⟩ hK;have HZ:=aa hz;have acr:=aa kW;clear hz kW;gi_wp2
  refine⟨by simp,.inl ⟨_,_,rfl,run_takeDeferred hK,?_⟩⟩
  have hgr:=grownBy_putObj' W D (.deferred none);have XJ :∀r,some D=some r→W0.heap.size≤r∧∃o:Obj,W.heap[r]? = some o∧o.isCells=false:=fun r e=>by injection e with e;subst e;exact⟨hD,_,hK,rfl⟩
  obtain⟨⟨pre',x,n,rfl,h2,h3,h4⟩,h5,h6⟩:=HZ.out.own (by rw[qo.out];omega) ca hgr XJ
  have CU:st.names.find? (fun n=>decide (n.s=s))=some n:=by rw[HN.out];exact AW acr.out h2 h3
  cases hR:fx n st.fns.length f st.fns with
  | none =>
   rw[hR] at h4;have k0:=ab h4.use 0;have k1:=ab h4.use 1;have k2:=ab h4.err 0;replace k0:_=some (Value.int .i64 0):=k0;replace k1:_=some (Value.int .i64 0):=k1;replace k2:_=some (Value.iface 60 (.int .i64 12)):=k2;refine⟨.tuple #[.agg #[.int .i64 0,.int .i64 0],.iface 60 (.int .i64 12)],?_,h6,h5,?_⟩
   ·simp[results,Tryz.results71,go_sem,k0,k1,k2]
   ·rw[CU]
    simp only[hR]
  | some r =>
   obtain⟨F1,kd,i1⟩:=r;rw[hR] at h4;obtain⟨h4,h7⟩:=h4;have k0:=ab h4.use 0;have k1:=ab h4.use 1;have k2:=ab h4.err 0;replace k0:_=some (Value.int .i64 kd):=k0;replace k1:_=some (Value.int .i64 (i1:Int)):=k1;replace k2:_=some Value.nilIface:=k2;refine⟨.tuple #[.agg #[.int .i64 kd,.int .i64 (i1:Int)],.nilIface],?_,h6,h5,?_⟩
   ·simp[results,Tryz.results71,go_sem,k0,k1,k2]
   ·rw[CU]
    simp only[hR];exact⟨trivial,h7⟩
end
end Go.Proofs.YtodmcdfeldkocaaGreatDoor
namespace Go.Proofs.YtodmcdfeldkocaaGreatDoor
open Go.RowKit Go.Extern.Stop Go.Stop Go.Extern
theorem Fw (v:Value) (w:World):(Extern.ReflectliteType.typeOf #[.iface 60 v]).run Tryz.prog w=.ok (.iface 158 (.agg #[.pointer (some ⟨4,60,none⟩)])) w:=by kernel_rfl
theorem j6 (v:Value) (w:World):(Go.method 392 158 v "Comparable").run Tryz.prog w=.ok (244,v) w:=by kernel_rfl
theorem aav (v:Value) (xT:TypeId) (w:World):(Instr.typeAssert (.iface 60 v) xT 169 true).run Tryz.prog w=.ok (.tuple #[.nilIface,.bool false]) w:=run_typeAssert_lacksB Tryz.underlying169 (by kernel_rfl) (by kernel_rfl) v xT w
theorem H9 (v:Value) (xT:TypeId) (w:World):(Instr.typeAssert (.iface 60 v) xT 165 true).run Tryz.prog w=.ok (.tuple #[.nilIface,.bool false]) w:=run_typeAssert_lacksB Tryz.underlying165 (by kernel_rfl) (by kernel_rfl) v xT w
theorem Dm (v:Value) (xT:TypeId) (w:World):(Instr.typeAssert (.iface 60 v) xT 166 true).run Tryz.prog w=.ok (.tuple #[.nilIface,.bool false]) w:=run_typeAssert_lacksB Tryz.underlying166 (by kernel_rfl) (by kernel_rfl) v xT w
theorem zEq (w:World):(binOp .eql 29 (.iface 60 (.int .i64 16)) (.iface 60 (.int .i64 16))).run Tryz.prog w=.ok (.bool true) w:=by kernel_rfl
theorem zNe (w:World):(binOp .eql 29 (.iface 60 (.int .i64 12)) (.iface 60 (.int .i64 16))).run Tryz.prog w=.ok (.bool false) w:=by kernel_rfl
theorem sR (w:World):((Extern.ReflectliteType.method fun t=>do Rtype.noPackHeld "Comparable" t;(fun a=>Value.bool a.comparable) <$> typeInfo t) #[.agg #[.pointer (some ⟨4,60,none⟩)]]).run Tryz.prog w=.ok (.bool true) w:=by kernel_rfl
theorem acs (w:World):(binOp .eql 29 .nilIface (.iface 60 (.int .i64 16))).run Tryz.prog w=.ok (.bool false) w:=by kernel_rfl
theorem aaw (w:World):(binOp .eql 29 (.iface 60 (.int .i64 16)) .nilIface).run Tryz.prog w=.ok (.bool false) w:=by kernel_rfl
theorem Fx (w:World) :
  Calls Tryz.prog 21 #[.nilIface,.iface 60 (.int .i64 16)] w fun e w'=>e=.returned (.bool false)∧w=w':=by
 have e1:=acs;have e2:=aaw;go_enter Tryz.func21,Tryz.ntmps21
 go_wp2
 go_ret
 exact⟨rfl,rfl⟩
theorem Fy (w:World) :
  Calls Tryz.prog 21 #[.iface 60 (.int .i64 16),.iface 60 (.int .i64 16)] w fun e w'=>e=.returned (.bool true)∧w=w':=by
 have h41:=@run_callFunc_extern Tryz.prog 44 _ Extern.ReflectliteType.typeOf Tryz.func44 (by kernel_rfl) (by kernel_rfl) (by kernel_rfl) (by kernel_rfl)
 have XK:=@run_callFunc_extern Tryz.prog 244 _ (Extern.ReflectliteType.method fun t=>do Rtype.noPackHeld "Comparable" t;pure (.bool (←typeInfo t).comparable)) Tryz.func244 (by kernel_rfl) (by kernel_rfl) (by kernel_rfl) (by kernel_rfl)
 have tT:=Fw;have cT:=sR;have mR:=j6;have e5:=zEq;go_enter Tryz.func21,Tryz.ntmps21
 go_wp2
 refine wp_loop_rounds 1 ?_;rw[rounds_succ];go_wp2
 go_ret
 exact⟨rfl,rfl⟩
theorem Fz (w:World) :
  Calls Tryz.prog 21 #[.iface 60 (.int .i64 12),.iface 60 (.int .i64 16)] w fun e w'=>e=.returned (.bool false)∧w=w':=by
 have h41:=@run_callFunc_extern Tryz.prog 44 _ Extern.ReflectliteType.typeOf Tryz.func44 (by kernel_rfl) (by kernel_rfl) (by kernel_rfl) (by kernel_rfl)
 have XK:=@run_callFunc_extern Tryz.prog 244 _ (Extern.ReflectliteType.method fun t=>do Rtype.noPackHeld "Comparable" t;pure (.bool (←typeInfo t).comparable)) Tryz.func244 (by kernel_rfl) (by kernel_rfl) (by kernel_rfl) (by kernel_rfl)
 have tT:=Fw;have cT:=sR;have mR:=j6;have nE:=aav;have uE:=H9;have vE:=Dm;have e5:=zNe;go_enter Tryz.func21,Tryz.ntmps21
 go_wp2
 refine wp_loop_rounds 1 ?_;rw[rounds_succ];go_wp2
 go_ret
 exact⟨rfl,rfl⟩
end Go.Proofs.YtodmcdfeldkocaaGreatDoor
namespace Go.Proofs.YtodmcdfeldkocaaGreatDoor
open Go.RowKit
theorem RU {W:World} {bk o:Nat} {x:Nd} {nv kv:Value} (h:lL W bk o x nv kv):W.cell? ⟨bk,o+4,none⟩=some (.string x.s):=h.c4
theorem kX {W:World} {b bk j p N ub ob f c o:Nat} {fv:Value} {s:ByteArray} {loop:Int} {pa la:Option Addr} {ln lc:Nat} (hb:W.heap[b]? = some (.cells #[.slice (some ⟨bk,o,none⟩) N c,fv,.slice (some ⟨ub,0,none⟩) N N,.slice (some ⟨ob,0,none⟩) N N] 64 (0,0))) (hd:W.cell? ⟨bk,j,none⟩=some (.string s)) (hx:W.heap[p]? = some (.cells #[.int .i64 (f:Int),.int .i64 loop,.pointer pa,.slice la ln lc] 69 (0,0))) :
  W.cell? ⟨b,0,none⟩=some (.slice (some ⟨bk,o,none⟩) N c)∧W.cell? ⟨bk,j,none⟩=some (.string s)∧W.cell? ⟨p,0,none⟩=some (.int .i64 (f:Int))∧W.cell? ⟨p,1,none⟩=some (.int .i64 loop)∧W.cell? ⟨p,2,none⟩=some (.pointer pa)∧W.cell? ⟨p,3,none⟩=some (.slice la ln lc) :=
 ⟨ab hb 0,hd,ab hx 0,ab hx 1,ab hx 2,ab hx 3⟩
def RV (B b:Nat) (nv:Value) (N ub ob:Nat) (st2:aI) (known:Bool) (k i:Int) (ev:Value) (w:World) (e:Ending) (w':World):Prop :=
 e=.returned (.tuple #[.agg #[.int .i64 k,.int .i64 i],ev])∧Below B w w'∧Fr [43,199,225] w w'∧(known=true→jG w' B b nv N st2 ub ob)
theorem qp {W:World} {b bk j p N f c o:Nat} {s:ByteArray} {loop:Int} {pa la:Option Addr} {ln lc:Nat} (h:W.cell? ⟨b,0,none⟩=some (.slice (some ⟨bk,o,none⟩) N c)∧W.cell? ⟨bk,j,none⟩=some (.string s)∧W.cell? ⟨p,0,none⟩=some (.int .i64 (f:Int))∧W.cell? ⟨p,1,none⟩=some (.int .i64 loop)∧W.cell? ⟨p,2,none⟩=some (.pointer pa)∧W.cell? ⟨p,3,none⟩=some (.slice la ln lc)) (hb:b<W.heap.size) (hk:bk<W.heap.size) (hp:p<W.heap.size) (ob:Obj) :
  (W.alloc ob).cell? ⟨b,0,none⟩=some (.slice (some ⟨bk,o,none⟩) N c)∧(W.alloc ob).cell? ⟨bk,j,none⟩=some (.string s)∧(W.alloc ob).cell? ⟨p,0,none⟩=some (.int .i64 (f:Int))∧(W.alloc ob).cell? ⟨p,1,none⟩=some (.int .i64 loop)∧(W.alloc ob).cell? ⟨p,2,none⟩=some (.pointer pa)∧(W.alloc ob).cell? ⟨p,3,none⟩=some (.slice la ln lc):=by
 have hB:=(Below.refl W.heap.size W).alloc (ag _) ob;exact⟨(hB.cell (p:=⟨b,0,none⟩) hb).trans h.1,(hB.cell (p:=⟨bk,j,none⟩) hk).trans h.2.1,(hB.cell (p:=⟨p,0,none⟩) hp).trans h.2.2.1,(hB.cell (p:=⟨p,1,none⟩) hp).trans h.2.2.2.1,(hB.cell (p:=⟨p,2,none⟩) hp).trans h.2.2.2.2.1,(hB.cell (p:=⟨p,3,none⟩) hp).trans h.2.2.2.2.2⟩
theorem yP {W:World} {b bk j p N f c o r:Nat} {s:ByteArray} {loop:Int} {pa la:Option Addr} {ln lc:Nat} (h:W.cell? ⟨b,0,none⟩=some (.slice (some ⟨bk,o,none⟩) N c)∧W.cell? ⟨bk,j,none⟩=some (.string s)∧W.cell? ⟨p,0,none⟩=some (.int .i64 (f:Int))∧W.cell? ⟨p,1,none⟩=some (.int .i64 loop)∧W.cell? ⟨p,2,none⟩=some (.pointer pa)∧W.cell? ⟨p,3,none⟩=some (.slice la ln lc)) (hb:b≠r) (hk:bk≠r) (hp:p≠r) (u v:Value) :
  ((W.setCell ⟨r,0,none⟩ u).setCell ⟨r,1,none⟩ v).cell? ⟨b,0,none⟩=some (.slice (some ⟨bk,o,none⟩) N c)∧((W.setCell ⟨r,0,none⟩ u).setCell ⟨r,1,none⟩ v).cell? ⟨bk,j,none⟩=some (.string s)∧((W.setCell ⟨r,0,none⟩ u).setCell ⟨r,1,none⟩ v).cell? ⟨p,0,none⟩=some (.int .i64 (f:Int))∧((W.setCell ⟨r,0,none⟩ u).setCell ⟨r,1,none⟩ v).cell? ⟨p,1,none⟩=some (.int .i64 loop)∧((W.setCell ⟨r,0,none⟩ u).setCell ⟨r,1,none⟩ v).cell? ⟨p,2,none⟩=some (.pointer pa)∧((W.setCell ⟨r,0,none⟩ u).setCell ⟨r,1,none⟩ v).cell? ⟨p,3,none⟩=some (.slice la ln lc):=by
 have key :∀a:Addr,a.block≠r→((W.setCell ⟨r,0,none⟩ u).setCell ⟨r,1,none⟩ v).cell? a=W.cell? a:=fun a ha=>World.cell?_of_block (wB W r u v a.block ha)
 exact⟨(key ⟨b,0,none⟩ hb).trans h.1,(key ⟨bk,j,none⟩ hk).trans h.2.1,(key ⟨p,0,none⟩ hp).trans h.2.2.1,(key ⟨p,1,none⟩ hp).trans h.2.2.2.1,(key ⟨p,2,none⟩ hp).trans h.2.2.2.2.1,(key ⟨p,3,none⟩ hp).trans h.2.2.2.2.2⟩
structure NQ (w:World) (B b:Nat) (nv:Value) (N ub ob:Nat) (st2:aI) (known:Bool) (k i:Int) (W:World) (g:Nat):Prop where
 below:Below B w W
 fr:Fr [43,199,225] w W
 rs:known=true→jG W B b nv N st2 ub ob
 use:W.heap[g]? = some (.cells #[.int .i64 k,.int .i64 i] 140 (0,0))
 new:w.heap.size≤g
theorem XL {B:Nat} {w W1 w2:World} {b:Nat} {nv:Value} {N ub ob:Nat} {st2:aI} {known:Bool} {k i:Int} (ca:B≤w.heap.size) (b2:Below B W1 w2) (b1:Below w.heap.size w W1) (f2:Fr [43,199,225] W1 w2) (hle:w.heap.size≤W1.heap.size) (hB:B≤W1.heap.size) (r:known=true→jG w2 B b nv N st2 ub ob):NQ w B b nv N ub ob st2 known k i (w2.alloc (.cells #[.int .i64 k,.int .i64 i] 140)) w2.heap.size :=
 ⟨((b1.mono ca).trans b2).alloc (aL hB b2.size) _,((Fr.af b1).trans f2).trans (Fr.alloc _),fun h=>(r h).alloc _,heap_alloc_new _ _,aL hle b2.size⟩
theorem XM {B:Nat} {w W1 w2:World} {b:Nat} {nv:Value} {N ub ob:Nat} {st2:aI} {known:Bool} {k i:Int} (ca:B≤w.heap.size) (po:ub<w.heap.size) (b2:Below B W1 w2) (b1:Below w.heap.size w W1) (f2:Fr [43,199,225] W1 w2) (hle:w.heap.size≤W1.heap.size) (hB:B≤W1.heap.size) (r:known=true→jG w2 B b nv N st2 ub ob) {x y:Value} (hz:w2.heap[W1.heap.size]? = some (.cells #[x,y] 140 (0,0))):NQ w B b nv N ub ob st2 known k i ((w2.setCell ⟨W1.heap.size,0,none⟩ (.int .i64 k)).setCell ⟨W1.heap.size,1,none⟩ (.int .i64 i)) W1.heap.size :=
 have hk:wc w2 W1.heap.size 140:=⟨_,_,hz⟩
 ⟨(((b1.mono ca).trans b2).setCell (p:=⟨W1.heap.size,0,none⟩) hB _).setCell (p:=⟨W1.heap.size,1,none⟩) hB _,((Fr.af b1).trans f2).past (fun k hk=>wB w2 W1.heap.size _ _ k (by omega)) (by rw[ni];exact ag _),fun h=>((r h).fP hk (by omega) _ _).fP (hk.set _ _ _) (by omega) _ _,yL hz _ _,hle⟩
theorem lS {B:Nat} {a w:World} {o:Obj} (hB:B≤a.heap.size) (h:Below B (a.alloc o) w):Below B a w:=((Below.refl B a).alloc hB o).trans h
theorem rR {E:List Nat} {a w:World} {o:Obj} (h:Fr E (a.alloc o) w):Fr E a w:=(Fr.alloc o).trans h
theorem gG {W:World} {g:Nat} {x y:Value} {ty:TypeId} (h:W.heap[g]? = some (.cells #[x,y] ty (0,0))):W.cell? ⟨g,0,none⟩=some x:=ab h 0
theorem gH {W:World} {g:Nat} {x y:Value} {ty:TypeId} (h:W.heap[g]? = some (.cells #[x,y] ty (0,0))):W.cell? ⟨g,1,none⟩=some y:=ab h 1
theorem fh {E:List Nat} {a w:World} (h:Fr E a.drew w):Fr E a w:=⟨h.size,h.cells,h.others⟩
theorem dx {B:Nat} {a w:World} (h:Below B a.drew w):Below B a w:=⟨h.os,h.tape,h.output,h.size,h.block⟩
theorem Mf {T:List Nd} {B:Nat} {nv:Value} {ub ob:Nat} (b node f:Nat) (h:Nd) (loop k i:Int) (pa la:Option Addr) (lc:Nat) (L:List cO) (st st2:aI) (w:World) (hT:wu w B nv T) (hw:jG w B b nv T.length st ub ob) (hx:T[node]? = some h)
  (qq :∀W,Below w.heap.size w W→Calls Tryz.prog 71 #[.pointer (some ⟨b,0,none⟩),.string h.s,.agg #[.int .i64 (f:Int),.int .i64 loop,.pointer pa,.slice la L.length lc]] W (RV B b nv T.length ub ob st2 true k i (.nilIface) W)) :
  Calls Tryz.prog 34 #[.pointer (some ⟨b,0,none⟩),.int .i64 (node:Int),.agg #[.int .i64 (f:Int),.int .i64 loop,.pointer pa,.slice la L.length lc]] w (gD B b nv T.length ub ob (.ok (st2.dw node (k,i))) w):=by
 obtain⟨bk,o,c,rfl,dH,ca,dJ⟩:=hT.nodes;obtain⟨u7,u9,eL,_,_⟩:=dJ node h hx;have iV:node<T.length:=(aJ.1 hx).1;have pU:=hT.few;obtain⟨hbl,po,hb4⟩:b<w.heap.size∧ub<w.heap.size∧∃fv,w.heap[b]? = some (.cells #[.slice (some ⟨bk,o,none⟩) T.length c,fv,.slice (some ⟨ub,0,none⟩) T.length T.length,.slice (some ⟨ob,0,none⟩) T.length T.length] 64 (0,0)):=by
  obtain⟨_,_,h⟩:=hw;exact⟨h.mN.1,h.mN.2.1,_,h.blk⟩
 obtain⟨fv0,hb4⟩:=hb4;have yQ:=aa qq;have d0:=ab hb4 0;replace d0:_=some (Value.slice (some ⟨bk,o,none⟩) T.length c):=d0;have d4:=RU eL;have gP:bk<w.heap.size:=by omega
 have AO:=aa hb4;have HT:=aa hT;have HX:=aa hx;clear hw hT hx qq eL dJ hb4;go_enter Tryz.func34,Tryz.ntmps34
 go_wp2_with fail
 have dU:=aa ((Below.refl w.heap.size w).alloc (ag _) (.cells #[.int .i64 (f:Int),.int .i64 loop,.pointer pa,.slice la L.length lc] 69));have eB:=heap_alloc_new w (.cells #[.int .i64 (f:Int),.int .i64 loop,.pointer pa,.slice la L.length lc] 69);have x0:=ab eB 0;have x1:=ab eB 1;have x2:=ab eB 2;have x3:=ab eB 3;replace x0:_=some (Value.int .i64 (f:Int)):=x0;replace x1:_=some (Value.int .i64 loop):=x1;replace x2:_=some (Value.pointer pa):=x2;replace x3:_=some (Value.slice la L.length lc):=x3;have e0:=(dU.out.cell (p:=⟨b,0,none⟩) hbl).trans d0;have e4:=(dU.out.cell (p:=⟨bk,o+node*7+4,none⟩) gP).trans d4;have mw:=aa eB;have qt:=aa ((dU.out.block b hbl).trans AO.out);have hs1:(w.alloc (.cells #[.int .i64 (f:Int),.int .i64 loop,.pointer pa,.slice la L.length lc] 69)).heap.size=w.heap.size+1:=ao _ _;generalize w.alloc (.cells #[.int .i64 (f:Int),.int .i64 loop,.pointer pa,.slice la L.length lc] 69)=W1 at *;have fj:=aa hs1;have RW:=AO;clear d0 d4 eB hs1 AO;have kk:Hid (W1.cell? ⟨b,0,none⟩=some (.slice (some ⟨bk,o,none⟩) T.length c)∧W1.cell? ⟨bk,o+node*7+4,none⟩=some (.string h.s)∧W1.cell? ⟨w.heap.size,0,none⟩=some (.int .i64 (f:Int))∧W1.cell? ⟨w.heap.size,1,none⟩=some (.int .i64 loop)∧W1.cell? ⟨w.heap.size,2,none⟩=some (.pointer pa)∧W1.cell? ⟨w.heap.size,3,none⟩=some (.slice la L.length lc)):=aa ⟨e0,e4,x0,x1,x2,x3⟩;have hb1:b<W1.heap.size:=(by have:=fj.out;omega)
 have iU:bk<W1.heap.size:=(by have:=fj.out;omega)
 have ee:w.heap.size<W1.heap.size:=(by have:=fj.out;omega)
 have lT:w.heap.size≤W1.heap.size:=ft ee;have Dn:b≠W1.heap.size:=jz hb1;have oW:bk≠W1.heap.size:=jz iU;have XN:w.heap.size≠W1.heap.size:=jz ee;have tp:B≤W1.heap.size:=aL ca lT;go_region_held3 (fun w'=>w'.cell? ⟨b,0,none⟩=some (.slice (some ⟨bk,o,none⟩) T.length c)∧w'.cell? ⟨bk,o+node*7+4,none⟩=some (.string h.s)∧w'.cell? ⟨w.heap.size,0,none⟩=some (.int .i64 (f:Int))∧w'.cell? ⟨w.heap.size,1,none⟩=some (.int .i64 loop)∧w'.cell? ⟨w.heap.size,2,none⟩=some (.pointer pa)∧w'.cell? ⟨w.heap.size,3,none⟩=some (.slice la L.length lc))
  (first|exact kk.out|exact qp kk.out hb1 iU ee _|exact yP kk.out Dn oW XN _ _)
  (first
   | (go_at_call 71;refine(yQ.out W1.drew dU.out.drew).mono ?_;rintro e w2 hq;unfold RV at hq;obtain⟨rfl,tq,my,AY⟩:=hq;have B2:=aa (dx tq);have F2:=aa (fh my);have R2:=aa AY;have hb1:b<w2.heap.size:=cw hb1 B2.out.size;have iU:bk<w2.heap.size:=cw iU B2.out.size;have ee:w.heap.size<w2.heap.size:=cw ee B2.out.size;have kk:=aa (kX (F2.out.cells _ _ _ _ qt.out (by decide)) ((B2.out.cell (p:=⟨bk,o+node*7+4,none⟩) dH).trans e4) (F2.out.cells _ _ _ _ mw.out (by decide)));clear tq my AY)
   | (go_at_call 71;refine(yQ.out (W1.alloc (.cells #[.int .i64 0,.int .i64 0] 140)).drew (dU.out.alloc lT _).drew).mono ?_;rintro e w2 hq;unfold RV at hq;obtain⟨rfl,tq,my,AY⟩:=hq;have B2:=aa (lS tp (dx tq));have F2:=aa (rR (fh my));have R2:=aa AY;have hz2:=(fh my).cells _ _ _ _ (heap_alloc_new W1 (.cells #[.int .i64 0,.int .i64 0] 140)) (by decide);have q0:=gG hz2;have q1:=gH hz2;have q2:=aE hz2 0;have q3:=aE hz2 1;have Z2:=aa hz2;have kk:=aa (kX (F2.out.cells _ _ _ _ qt.out (by decide)) ((B2.out.cell (p:=⟨bk,o+node*7+4,none⟩) dH).trans e4) (F2.out.cells _ _ _ _ mw.out (by decide)));clear tq my AY hz2))
 ·have HQ:=aa (XL (B:=B) ca (st2:=st2) (nv:=.slice (some ⟨bk,o,none⟩) T.length c) (N:=T.length) (b:=b) (ub:=ub) (ob:=ob) (known:=true) (k:=k) (i:=i) B2.out dU.out F2.out lT tp (fun _=>R2.out trivial))
  generalize w2.alloc (.cells #[.int .i64 k,.int .i64 i] 140)=W5 at HQ ⊢;generalize w2.heap.size=g at HQ ⊢;clear B2 F2 R2 yQ dU mw qt fj kk e0 e4 x0 x1 x2 x3;have y0:=gG HQ.out.use;have y1:=gH HQ.out.use;obtain⟨fv5,FL5,ix⟩:=HQ.out.rs rfl;obtain⟨qv,hl2,Kq⟩:=ix.mN;have d2:W5.cell? ⟨b,2,none⟩=some (.slice (some ⟨ub,0,none⟩) T.length T.length):=ab ix.blk 2;obtain⟨u0,v0⟩:=bZ ix.uses (j:=node*2) (by omega)
  obtain⟨u1,v1⟩:=bZ ix.uses (j:=node*2+1) (by omega)
  have qw:=aa ix;clear ix;go_wp2_with fail
  refine(Fx W5).mono ?_;rintro e w6 ⟨rfl,rfl⟩;go_wp2_with fail
  go_region
  go_wp2_with fail
  go_ret
  exact⟨((HQ.out.below.setCell (p:=⟨ub,node*2,none⟩) qw.out.jh.1 _).setCell (p:=⟨ub,node*2+1,none⟩) qw.out.jh.1 _).drew,rfl,⟨_,_,(qw.out.use node (k,i)).drew⟩,(((HQ.out.fr.mono (by decide)).trans ((lO qw.out node _ _).mono (by decide)))).drew⟩
 ·have HQ:=aa (XM (B:=B) ca po (st2:=st2) (nv:=.slice (some ⟨bk,o,none⟩) T.length c) (N:=T.length) (b:=b) (ob:=ob) (known:=true) (k:=k) (i:=i) B2.out dU.out F2.out lT tp (fun _=>R2.out trivial) Z2.out)
  generalize (w2.setCell ⟨W1.heap.size,0,none⟩ (.int .i64 k)).setCell ⟨W1.heap.size,1,none⟩ (.int .i64 i)=W5 at HQ ⊢;generalize W1.heap.size=g at HQ ⊢;clear q0 q1 q2 q3 Z2;clear B2 F2 R2 yQ dU mw qt fj kk e0 e4 x0 x1 x2 x3;have y0:=gG HQ.out.use;have y1:=gH HQ.out.use;obtain⟨fv5,FL5,ix⟩:=HQ.out.rs rfl;obtain⟨qv,hl2,Kq⟩:=ix.mN;have d2:W5.cell? ⟨b,2,none⟩=some (.slice (some ⟨ub,0,none⟩) T.length T.length):=ab ix.blk 2;obtain⟨u0,v0⟩:=bZ ix.uses (j:=node*2) (by omega)
  obtain⟨u1,v1⟩:=bZ ix.uses (j:=node*2+1) (by omega)
  have qw:=aa ix;clear ix;go_wp2_with fail
  refine(Fx W5).mono ?_;rintro e w6 ⟨rfl,rfl⟩;go_wp2_with fail
  go_region
  go_wp2_with fail
  go_ret
  exact⟨((HQ.out.below.setCell (p:=⟨ub,node*2,none⟩) qw.out.jh.1 _).setCell (p:=⟨ub,node*2+1,none⟩) qw.out.jh.1 _).drew,rfl,⟨_,_,(qw.out.use node (k,i)).drew⟩,(((HQ.out.fr.mono (by decide)).trans ((lO qw.out node _ _).mono (by decide)))).drew⟩
theorem Ia {T:List Nd} {B:Nat} {nv:Value} {ub ob:Nat} (b node f:Nat) (h:Nd) (loop k i:Int) (pa la:Option Addr) (lc:Nat) (L:List cO) (st st2:aI) (w:World) (hT:wu w B nv T) (hw:jG w B b nv T.length st ub ob) (hx:T[node]? = some h)
  (qq :∀W,Below w.heap.size w W→Calls Tryz.prog 71 #[.pointer (some ⟨b,0,none⟩),.string h.s,.agg #[.int .i64 (f:Int),.int .i64 loop,.pointer pa,.slice la L.length lc]] W (RV B b nv T.length ub ob st2 true k i (.iface 60 (.int .i64 16)) W)) :
  Calls Tryz.prog 34 #[.pointer (some ⟨b,0,none⟩),.int .i64 (node:Int),.agg #[.int .i64 (f:Int),.int .i64 loop,.pointer pa,.slice la L.length lc]] w (gD B b nv T.length ub ob (.ok (st2.dw node (1,0))) w):=by
 obtain⟨bk,o,c,rfl,dH,ca,dJ⟩:=hT.nodes;obtain⟨u7,u9,eL,_,_⟩:=dJ node h hx;have iV:node<T.length:=(aJ.1 hx).1;have pU:=hT.few;obtain⟨hbl,po,hb4⟩:b<w.heap.size∧ub<w.heap.size∧∃fv,w.heap[b]? = some (.cells #[.slice (some ⟨bk,o,none⟩) T.length c,fv,.slice (some ⟨ub,0,none⟩) T.length T.length,.slice (some ⟨ob,0,none⟩) T.length T.length] 64 (0,0)):=by
  obtain⟨_,_,h⟩:=hw;exact⟨h.mN.1,h.mN.2.1,_,h.blk⟩
 obtain⟨fv0,hb4⟩:=hb4;have yQ:=aa qq;have d0:=ab hb4 0;replace d0:_=some (Value.slice (some ⟨bk,o,none⟩) T.length c):=d0;have d4:=RU eL;have gP:bk<w.heap.size:=by omega
 have AO:=aa hb4;have HT:=aa hT;have HX:=aa hx;clear hw hT hx qq eL dJ hb4;go_enter Tryz.func34,Tryz.ntmps34
 go_wp2_with fail
 have dU:=aa ((Below.refl w.heap.size w).alloc (ag _) (.cells #[.int .i64 (f:Int),.int .i64 loop,.pointer pa,.slice la L.length lc] 69));have eB:=heap_alloc_new w (.cells #[.int .i64 (f:Int),.int .i64 loop,.pointer pa,.slice la L.length lc] 69);have x0:=ab eB 0;have x1:=ab eB 1;have x2:=ab eB 2;have x3:=ab eB 3;replace x0:_=some (Value.int .i64 (f:Int)):=x0;replace x1:_=some (Value.int .i64 loop):=x1;replace x2:_=some (Value.pointer pa):=x2;replace x3:_=some (Value.slice la L.length lc):=x3;have e0:=(dU.out.cell (p:=⟨b,0,none⟩) hbl).trans d0;have e4:=(dU.out.cell (p:=⟨bk,o+node*7+4,none⟩) gP).trans d4;have mw:=aa eB;have qt:=aa ((dU.out.block b hbl).trans AO.out);have hs1:(w.alloc (.cells #[.int .i64 (f:Int),.int .i64 loop,.pointer pa,.slice la L.length lc] 69)).heap.size=w.heap.size+1:=ao _ _;generalize w.alloc (.cells #[.int .i64 (f:Int),.int .i64 loop,.pointer pa,.slice la L.length lc] 69)=W1 at *;have fj:=aa hs1;have RW:=AO;clear d0 d4 eB hs1 AO;have kk:Hid (W1.cell? ⟨b,0,none⟩=some (.slice (some ⟨bk,o,none⟩) T.length c)∧W1.cell? ⟨bk,o+node*7+4,none⟩=some (.string h.s)∧W1.cell? ⟨w.heap.size,0,none⟩=some (.int .i64 (f:Int))∧W1.cell? ⟨w.heap.size,1,none⟩=some (.int .i64 loop)∧W1.cell? ⟨w.heap.size,2,none⟩=some (.pointer pa)∧W1.cell? ⟨w.heap.size,3,none⟩=some (.slice la L.length lc)):=aa ⟨e0,e4,x0,x1,x2,x3⟩;have hb1:b<W1.heap.size:=(by have:=fj.out;omega)
 have iU:bk<W1.heap.size:=(by have:=fj.out;omega)
 have ee:w.heap.size<W1.heap.size:=(by have:=fj.out;omega)
 have lT:w.heap.size≤W1.heap.size:=ft ee;have Dn:b≠W1.heap.size:=jz hb1;have oW:bk≠W1.heap.size:=jz iU;have XN:w.heap.size≠W1.heap.size:=jz ee;have tp:B≤W1.heap.size:=aL ca lT;go_region_held3 (fun w'=>w'.cell? ⟨b,0,none⟩=some (.slice (some ⟨bk,o,none⟩) T.length c)∧w'.cell? ⟨bk,o+node*7+4,none⟩=some (.string h.s)∧w'.cell? ⟨w.heap.size,0,none⟩=some (.int .i64 (f:Int))∧w'.cell? ⟨w.heap.size,1,none⟩=some (.int .i64 loop)∧w'.cell? ⟨w.heap.size,2,none⟩=some (.pointer pa)∧w'.cell? ⟨w.heap.size,3,none⟩=some (.slice la L.length lc))
  (first|exact kk.out|exact qp kk.out hb1 iU ee _|exact yP kk.out Dn oW XN _ _)
  (first
   | (go_at_call 71;refine(yQ.out W1.drew dU.out.drew).mono ?_;rintro e w2 hq;unfold RV at hq;obtain⟨rfl,tq,my,AY⟩:=hq;have B2:=aa (dx tq);have F2:=aa (fh my);have R2:=aa AY;have hb1:b<w2.heap.size:=cw hb1 B2.out.size;have iU:bk<w2.heap.size:=cw iU B2.out.size;have ee:w.heap.size<w2.heap.size:=cw ee B2.out.size;have kk:=aa (kX (F2.out.cells _ _ _ _ qt.out (by decide)) ((B2.out.cell (p:=⟨bk,o+node*7+4,none⟩) dH).trans e4) (F2.out.cells _ _ _ _ mw.out (by decide)));clear tq my AY)
   | (go_at_call 71;refine(yQ.out (W1.alloc (.cells #[.int .i64 0,.int .i64 0] 140)).drew (dU.out.alloc lT _).drew).mono ?_;rintro e w2 hq;unfold RV at hq;obtain⟨rfl,tq,my,AY⟩:=hq;have B2:=aa (lS tp (dx tq));have F2:=aa (rR (fh my));have R2:=aa AY;have hz2:=(fh my).cells _ _ _ _ (heap_alloc_new W1 (.cells #[.int .i64 0,.int .i64 0] 140)) (by decide);have q0:=gG hz2;have q1:=gH hz2;have q2:=aE hz2 0;have q3:=aE hz2 1;have Z2:=aa hz2;have kk:=aa (kX (F2.out.cells _ _ _ _ qt.out (by decide)) ((B2.out.cell (p:=⟨bk,o+node*7+4,none⟩) dH).trans e4) (F2.out.cells _ _ _ _ mw.out (by decide)));clear tq my AY hz2))
 ·have HQ:=aa (XL (B:=B) ca (st2:=st2) (nv:=.slice (some ⟨bk,o,none⟩) T.length c) (N:=T.length) (b:=b) (ub:=ub) (ob:=ob) (known:=true) (k:=k) (i:=i) B2.out dU.out F2.out lT tp (fun _=>R2.out trivial))
  generalize w2.alloc (.cells #[.int .i64 k,.int .i64 i] 140)=W5 at HQ ⊢;generalize w2.heap.size=g at HQ ⊢;clear B2 F2 R2 yQ dU mw qt fj kk e0 e4 x0 x1 x2 x3;have y0:=gG HQ.out.use;have y1:=gH HQ.out.use;have y2:=aE HQ.out.use 0;have y3:=aE HQ.out.use 1;have hgu:g≠ub:=by have:=HQ.out.new;omega
  go_wp2_with fail
  refine(Fy W5).mono ?_;rintro e w6 ⟨rfl,rfl⟩;go_wp2_with fail
  have hk:wc W5 g 140:=⟨_,_,HQ.out.use⟩;have Mg:=((HQ.out.rs rfl).fP hk hgu 0 (.int .i64 1)).fP (hk.set _ _ _) hgu 1 (.int .i64 0);have Dp:=yL HQ.out.use (.int .i64 1) (.int .i64 0);have Mh:=aa ((HQ.out.below.setCell (p:=⟨g,0,none⟩) (aL ca HQ.out.new) (.int .i64 1)).setCell (p:=⟨g,1,none⟩) (aL ca HQ.out.new) (.int .i64 0));have Mi:=aa (HQ.out.fr.past (fun k hk=>wB W5 g (.int .i64 1) (.int .i64 0) k (by have:=HQ.out.new;omega)) (by rw[ni];exact ag _))
  generalize (W5.setCell ⟨g,0,none⟩ (.int .i64 1)).setCell ⟨g,1,none⟩ (.int .i64 0)=W6 at Mg Dp Mh Mi ⊢;have k0:=gG Dp;have k1:=gH Dp;obtain⟨fv5,FL5,ix⟩:=Mg;obtain⟨qv,hl2,Kq⟩:=ix.mN;have d2:W6.cell? ⟨b,2,none⟩=some (.slice (some ⟨ub,0,none⟩) T.length T.length):=ab ix.blk 2;obtain⟨u0,v0⟩:=bZ ix.uses (j:=node*2) (by omega)
  obtain⟨u1,v1⟩:=bZ ix.uses (j:=node*2+1) (by omega)
  have qw:=aa ix;clear ix Dp y0 y1 y2 y3 hk;go_region
  go_wp2_with fail
  go_ret
  exact⟨((Mh.out.setCell (p:=⟨ub,node*2,none⟩) qw.out.jh.1 _).setCell (p:=⟨ub,node*2+1,none⟩) qw.out.jh.1 _).drew,rfl,⟨_,_,(qw.out.use node (1,0)).drew⟩,(((Mi.out.mono (by decide)).trans ((lO qw.out node _ _).mono (by decide)))).drew⟩
 ·have HQ:=aa (XM (B:=B) ca po (st2:=st2) (nv:=.slice (some ⟨bk,o,none⟩) T.length c) (N:=T.length) (b:=b) (ob:=ob) (known:=true) (k:=k) (i:=i) B2.out dU.out F2.out lT tp (fun _=>R2.out trivial) Z2.out)
  generalize (w2.setCell ⟨W1.heap.size,0,none⟩ (.int .i64 k)).setCell ⟨W1.heap.size,1,none⟩ (.int .i64 i)=W5 at HQ ⊢;generalize W1.heap.size=g at HQ ⊢;clear q0 q1 q2 q3 Z2;clear B2 F2 R2 yQ dU mw qt fj kk e0 e4 x0 x1 x2 x3;have y0:=gG HQ.out.use;have y1:=gH HQ.out.use;have y2:=aE HQ.out.use 0;have y3:=aE HQ.out.use 1;have hgu:g≠ub:=by have:=HQ.out.new;omega
  go_wp2_with fail
  refine(Fy W5).mono ?_;rintro e w6 ⟨rfl,rfl⟩;go_wp2_with fail
  have hk:wc W5 g 140:=⟨_,_,HQ.out.use⟩;have Mg:=((HQ.out.rs rfl).fP hk hgu 0 (.int .i64 1)).fP (hk.set _ _ _) hgu 1 (.int .i64 0);have Dp:=yL HQ.out.use (.int .i64 1) (.int .i64 0);have Mh:=aa ((HQ.out.below.setCell (p:=⟨g,0,none⟩) (aL ca HQ.out.new) (.int .i64 1)).setCell (p:=⟨g,1,none⟩) (aL ca HQ.out.new) (.int .i64 0));have Mi:=aa (HQ.out.fr.past (fun k hk=>wB W5 g (.int .i64 1) (.int .i64 0) k (by have:=HQ.out.new;omega)) (by rw[ni];exact ag _))
  generalize (W5.setCell ⟨g,0,none⟩ (.int .i64 1)).setCell ⟨g,1,none⟩ (.int .i64 0)=W6 at Mg Dp Mh Mi ⊢;have k0:=gG Dp;have k1:=gH Dp;obtain⟨fv5,FL5,ix⟩:=Mg;obtain⟨qv,hl2,Kq⟩:=ix.mN;have d2:W6.cell? ⟨b,2,none⟩=some (.slice (some ⟨ub,0,none⟩) T.length T.length):=ab ix.blk 2;obtain⟨u0,v0⟩:=bZ ix.uses (j:=node*2) (by omega)
  obtain⟨u1,v1⟩:=bZ ix.uses (j:=node*2+1) (by omega)
  have qw:=aa ix;clear ix Dp y0 y1 y2 y3 hk;go_region
  go_wp2_with fail
  go_ret
  exact⟨((Mh.out.setCell (p:=⟨ub,node*2,none⟩) qw.out.jh.1 _).setCell (p:=⟨ub,node*2+1,none⟩) qw.out.jh.1 _).drew,rfl,⟨_,_,(qw.out.use node (1,0)).drew⟩,(((Mi.out.mono (by decide)).trans ((lO qw.out node _ _).mono (by decide)))).drew⟩
theorem Mj {T:List Nd} {B:Nat} {nv:Value} {ub ob:Nat} (b node f:Nat) (h:Nd) (loop k i:Int) (pa la:Option Addr) (lc:Nat) (L:List cO) (st st2:aI) (w:World) (hT:wu w B nv T) (hw:jG w B b nv T.length st ub ob) (hx:T[node]? = some h)
  (qq :∀W,Below w.heap.size w W→Calls Tryz.prog 71 #[.pointer (some ⟨b,0,none⟩),.string h.s,.agg #[.int .i64 (f:Int),.int .i64 loop,.pointer pa,.slice la L.length lc]] W (RV B b nv T.length ub ob st2 false k i (.iface 60 (.int .i64 12)) W)) :
  Calls Tryz.prog 34 #[.pointer (some ⟨b,0,none⟩),.int .i64 (node:Int),.agg #[.int .i64 (f:Int),.int .i64 loop,.pointer pa,.slice la L.length lc]] w (gD B b nv T.length ub ob (.error (12,h.line)) w):=by
 obtain⟨bk,o,c,rfl,dH,ca,dJ⟩:=hT.nodes;obtain⟨u7,u9,eL,_,_⟩:=dJ node h hx;have iV:node<T.length:=(aJ.1 hx).1;have pU:=hT.few;obtain⟨hbl,po,hb4⟩:b<w.heap.size∧ub<w.heap.size∧∃fv,w.heap[b]? = some (.cells #[.slice (some ⟨bk,o,none⟩) T.length c,fv,.slice (some ⟨ub,0,none⟩) T.length T.length,.slice (some ⟨ob,0,none⟩) T.length T.length] 64 (0,0)):=by
  obtain⟨_,_,h⟩:=hw;exact⟨h.mN.1,h.mN.2.1,_,h.blk⟩
 obtain⟨fv0,hb4⟩:=hb4;have yQ:=aa qq;have d0:=ab hb4 0;replace d0:_=some (Value.slice (some ⟨bk,o,none⟩) T.length c):=d0;have d4:=RU eL;have gP:bk<w.heap.size:=by omega
 have AO:=aa hb4;have HT:=aa hT;have HX:=aa hx;clear hw hT hx qq eL dJ hb4;go_enter Tryz.func34,Tryz.ntmps34
 go_wp2_with fail
 have dU:=aa ((Below.refl w.heap.size w).alloc (ag _) (.cells #[.int .i64 (f:Int),.int .i64 loop,.pointer pa,.slice la L.length lc] 69));have eB:=heap_alloc_new w (.cells #[.int .i64 (f:Int),.int .i64 loop,.pointer pa,.slice la L.length lc] 69);have x0:=ab eB 0;have x1:=ab eB 1;have x2:=ab eB 2;have x3:=ab eB 3;replace x0:_=some (Value.int .i64 (f:Int)):=x0;replace x1:_=some (Value.int .i64 loop):=x1;replace x2:_=some (Value.pointer pa):=x2;replace x3:_=some (Value.slice la L.length lc):=x3;have e0:=(dU.out.cell (p:=⟨b,0,none⟩) hbl).trans d0;have e4:=(dU.out.cell (p:=⟨bk,o+node*7+4,none⟩) gP).trans d4;have mw:=aa eB;have qt:=aa ((dU.out.block b hbl).trans AO.out);have hs1:(w.alloc (.cells #[.int .i64 (f:Int),.int .i64 loop,.pointer pa,.slice la L.length lc] 69)).heap.size=w.heap.size+1:=ao _ _;generalize w.alloc (.cells #[.int .i64 (f:Int),.int .i64 loop,.pointer pa,.slice la L.length lc] 69)=W1 at *;have fj:=aa hs1;have RW:=AO;clear d0 d4 eB hs1 AO;have kk:Hid (W1.cell? ⟨b,0,none⟩=some (.slice (some ⟨bk,o,none⟩) T.length c)∧W1.cell? ⟨bk,o+node*7+4,none⟩=some (.string h.s)∧W1.cell? ⟨w.heap.size,0,none⟩=some (.int .i64 (f:Int))∧W1.cell? ⟨w.heap.size,1,none⟩=some (.int .i64 loop)∧W1.cell? ⟨w.heap.size,2,none⟩=some (.pointer pa)∧W1.cell? ⟨w.heap.size,3,none⟩=some (.slice la L.length lc)):=aa ⟨e0,e4,x0,x1,x2,x3⟩;have hb1:b<W1.heap.size:=(by have:=fj.out;omega)
 have iU:bk<W1.heap.size:=(by have:=fj.out;omega)
 have ee:w.heap.size<W1.heap.size:=(by have:=fj.out;omega)
 have lT:w.heap.size≤W1.heap.size:=ft ee;have Dn:b≠W1.heap.size:=jz hb1;have oW:bk≠W1.heap.size:=jz iU;have XN:w.heap.size≠W1.heap.size:=jz ee;have tp:B≤W1.heap.size:=aL ca lT;go_region_held3 (fun w'=>w'.cell? ⟨b,0,none⟩=some (.slice (some ⟨bk,o,none⟩) T.length c)∧w'.cell? ⟨bk,o+node*7+4,none⟩=some (.string h.s)∧w'.cell? ⟨w.heap.size,0,none⟩=some (.int .i64 (f:Int))∧w'.cell? ⟨w.heap.size,1,none⟩=some (.int .i64 loop)∧w'.cell? ⟨w.heap.size,2,none⟩=some (.pointer pa)∧w'.cell? ⟨w.heap.size,3,none⟩=some (.slice la L.length lc))
  (first|exact kk.out|exact qp kk.out hb1 iU ee _|exact yP kk.out Dn oW XN _ _)
  (first
   | (go_at_call 71;refine(yQ.out W1.drew dU.out.drew).mono ?_;rintro e w2 hq;unfold RV at hq;obtain⟨rfl,tq,my,AY⟩:=hq;have B2:=aa (dx tq);have F2:=aa (fh my);have R2:=aa AY;have hb1:b<w2.heap.size:=cw hb1 B2.out.size;have iU:bk<w2.heap.size:=cw iU B2.out.size;have ee:w.heap.size<w2.heap.size:=cw ee B2.out.size;have kk:=aa (kX (F2.out.cells _ _ _ _ qt.out (by decide)) ((B2.out.cell (p:=⟨bk,o+node*7+4,none⟩) dH).trans e4) (F2.out.cells _ _ _ _ mw.out (by decide)));clear tq my AY)
   | (go_at_call 71;refine(yQ.out (W1.alloc (.cells #[.int .i64 0,.int .i64 0] 140)).drew (dU.out.alloc lT _).drew).mono ?_;rintro e w2 hq;unfold RV at hq;obtain⟨rfl,tq,my,AY⟩:=hq;have B2:=aa (lS tp (dx tq));have F2:=aa (rR (fh my));have R2:=aa AY;have hz2:=(fh my).cells _ _ _ _ (heap_alloc_new W1 (.cells #[.int .i64 0,.int .i64 0] 140)) (by decide);have q0:=gG hz2;have q1:=gH hz2;have q2:=aE hz2 0;have q3:=aE hz2 1;have Z2:=aa hz2;have kk:=aa (kX (F2.out.cells _ _ _ _ qt.out (by decide)) ((B2.out.cell (p:=⟨bk,o+node*7+4,none⟩) dH).trans e4) (F2.out.cells _ _ _ _ mw.out (by decide)));clear tq my AY hz2))
 ·have HQ:=aa (XL (B:=B) ca (st2:=st2) (nv:=.slice (some ⟨bk,o,none⟩) T.length c) (N:=T.length) (b:=b) (ub:=ub) (ob:=ob) (known:=false) (k:=k) (i:=i) B2.out dU.out F2.out lT tp (fun h=>absurd h (by decide)))
  generalize w2.alloc (.cells #[.int .i64 k,.int .i64 i] 140)=W5 at HQ ⊢;generalize w2.heap.size=g at HQ ⊢;clear B2 F2 R2 yQ dU mw qt fj kk e0 e4 x0 x1 x2 x3;have y0:=gG HQ.out.use;have y1:=gH HQ.out.use;have Ml:=aa (HT.out.below HQ.out.below);have Mm:=aa (ab (HQ.out.fr.cells _ _ _ _ RW.out (by decide)) 0)
  go_wp2_with fail
  refine(Fz W5).mono ?_;rintro e w6 ⟨rfl,rfl⟩;go_wp2_with fail
  refine(eA b node _ _ _ Ml.out Mm.out HX.out).mono ?_;rintro e w7 ⟨v,rfl,⟨g1,rfl⟩,h1,h2⟩;have H1:=aa h1;have H2:=aa h2;clear h1 h2;go_wp2_with fail
  go_ret
  exact iK HQ.out.below (aL ca (aL (ag _) HQ.out.below.size)) H2.out H1.out
 ·have HQ:=aa (XM (B:=B) ca po (st2:=st2) (nv:=.slice (some ⟨bk,o,none⟩) T.length c) (N:=T.length) (b:=b) (ob:=ob) (known:=false) (k:=k) (i:=i) B2.out dU.out F2.out lT tp (fun h=>absurd h (by decide)) Z2.out)
  generalize (w2.setCell ⟨W1.heap.size,0,none⟩ (.int .i64 k)).setCell ⟨W1.heap.size,1,none⟩ (.int .i64 i)=W5 at HQ ⊢;generalize W1.heap.size=g at HQ ⊢;clear q0 q1 q2 q3 Z2;clear B2 F2 R2 yQ dU mw qt fj kk e0 e4 x0 x1 x2 x3;have y0:=gG HQ.out.use;have y1:=gH HQ.out.use;have Ml:=aa (HT.out.below HQ.out.below);have Mm:=aa (ab (HQ.out.fr.cells _ _ _ _ RW.out (by decide)) 0)
  go_wp2_with fail
  refine(Fz W5).mono ?_;rintro e w6 ⟨rfl,rfl⟩;go_wp2_with fail
  refine(eA b node _ _ _ Ml.out Mm.out HX.out).mono ?_;rintro e w7 ⟨v,rfl,⟨g1,rfl⟩,h1,h2⟩;have H1:=aa h1;have H2:=aa h2;clear h1 h2;go_wp2_with fail
  go_ret
  exact iK HQ.out.below (aL ca (aL (ag _) HQ.out.below.size)) H2.out H1.out
theorem Ib {node f:Nat} {s:ByteArray} {line:Int} {st:aI} (h:(st.names.find? fun n=>decide (n.s=s))=none):lI node f s line st=.ok (st.dw node (1,0)):=by
 unfold lI;rw[h]
theorem Ic {node f:Nat} {s:ByteArray} {line:Int} {st:aI} {n:jr} (h:(st.names.find? fun n=>decide (n.s=s))=some n):lI node f s line st=match fx n st.fns.length f st.fns with
  | none=>.error (12,line)
  | some (F,k,i)=>.ok (({ st with fns:=F}:aI).dw node (k,(i:Int))):=by
 unfold lI;rw[h];dsimp only
 unfold fx;by_cases e:n.fn=f
 ·rw[aj e,aj e.symm]
 ·rw[ae e,ae fun e'=>e e'.symm]
  have:st.fns.set n.fn (cY (st.fn n.fn) n.i)=fT n st.fns:=rfl;rw[this];cases lH n st.fns.length (fT n st.fns) f with
  | none=>rfl
  | some r=>rfl
theorem Mn {T:List Nd} {B:Nat} {nv:Value} {ub ob:Nat} (b node f:Nat) (h:Nd) (loop:Int) (pa la:Option Addr) (lc:Nat) (L:List cO) (st:aI) (w:World) (hT:wu w B nv T) (hw:jG w B b nv T.length st ub ob) (hx:T[node]? = some h) (hl:dc w B (.slice la L.length lc) L) (hn:st.names=mu L) (we:Cx f st) (jl:dP st.fns) (CU:st.fns.length≤100000) (sQ:L.length≤100000) (hs:h.s.size≤maxLen) :
  Calls Tryz.prog 34 #[.pointer (some ⟨b,0,none⟩),.int .i64 (node:Int),.agg #[.int .i64 (f:Int),.int .i64 loop,.pointer pa,.slice la L.length lc]] w (gD B b nv T.length ub ob (lI node f h.s h.line st) w):=by
 obtain⟨_,_,_,_,_,ca,_⟩:=hT.nodes;have key :∀W,Below w.heap.size w W→Calls Tryz.prog 71 #[.pointer (some ⟨b,0,none⟩),.string h.s,.agg #[.int .i64 (f:Int),.int .i64 loop,.pointer pa,.slice la L.length lc]] W (AV B b nv T.length ub ob st f h.s W) :=
  fun W hb=>Hz b f h.s loop pa la lc L st W (hw.later hb) (hl.jk (ob:=0) (cQ.bJ hb ca) (ag _)) hn we jl CU sQ hs
 cases hf:st.names.find? fun n=>decide (n.s=h.s) with
 | none =>
  rw[Ib hf];refine Ia b node f h loop 0 0 pa la lc L st st w hT hw hx fun W hb=>(key W hb).mono ?_
  rintro e w' ⟨h1,h2,h3⟩;rw[hf] at h3;exact⟨h3.1,h1,h2,fun _=>h3.2⟩
 | some n =>
  rw[Ic hf];cases hR:fx n st.fns.length f st.fns with
  | none =>
   refine Mj b node f h loop 0 0 pa la lc L st st w hT hw hx fun W hb=>(key W hb).mono ?_
   rintro e w' ⟨h1,h2,h3⟩;rw[hf] at h3;simp only[hR] at h3;exact⟨h3,h1,h2,fun h=>absurd h (by decide)⟩
  | some r =>
   obtain⟨F,kd,j⟩:=r;refine Mf b node f h loop kd (j:Int) pa la lc L st { st with fns:=F} w hT hw hx fun W hb=>(key W hb).mono ?_
   rintro e w' ⟨h1,h2,h3⟩;rw[hf] at h3;simp only[hR] at h3;exact⟨h3.1,h1,h2,fun _=>h3.2⟩
end Go.Proofs.YtodmcdfeldkocaaGreatDoor
