/- Parts of the proof. -/
import Derived.Test.YteflkdlaoiijbaaGreatDoorB12
set_option maxHeartbeats 16000000
set_option maxRecDepth 20000
namespace Go.Proofs.YteflkdlaoiijbaaGreatDoor
open Go.RowKit
theorem xZ {B:Nat} (f:Nat) (loop:Int) (pa la:Option Addr) (lc:Nat) (L:List cJ) (w:World) (hl:cX w B (.slice la L.length lc) L) (hlen:L.length≤100000) (hB:B≤w.heap.size) :
  Calls Tryz.prog 112 #[.agg #[.int .i64 (f:Int),.int .i64 loop,.pointer pa,.slice la L.length lc]] w fun e w'=>∃g c m,e=.returned (.agg #[.int .i64 (f:Int),.int .i64 loop,.pointer pa,.slice (some ⟨g,0,none⟩) (L.length+1) c])∧cX w' B (.slice (some ⟨g,0,none⟩) (L.length+1) c) (⟨f,m,[]⟩::L)∧w.heap.size≤m∧((Value.slice la L.length lc).ownBlock=some g∨w.heap.size≤g)∧(∀ob,cN B ob (.slice la L.length lc) L.length none w w')∧Fr [238] w w':=by
 have HL:=aa hl;clear hl;have hmm:=@run_makeMap Tryz.prog;obtain⟨o1,ho1⟩ :∃o1,o1=Obj.cells #[.int .i64 (f:Int),.int .i64 loop,.pointer pa,.slice la L.length lc] 92:=⟨_,rfl⟩;obtain⟨o2,Jv⟩ :∃o2,o2=Obj.cells #[.int .i64 0,.int .i64 0,.pointer none,.slice none 0 0] 92:=⟨_,rfl⟩;obtain⟨W3,hW3⟩ :∃W3,W3=((w.alloc o1).alloc o2).alloc (.map #[] 0):=⟨_,rfl⟩;have hs3:W3.heap.size=w.heap.size+1+1+1:=by rw[hW3,an,an,an]
 have hb3:Below w.heap.size w W3:=by rw[hW3];exact Below.three _ _ _
 have hb1:W3.heap[w.heap.size]? = some o1:=by
  rw[hW3];exact(Below.heap_alloc _ _ _ (by rw[an,an];omega)).trans ((Below.heap_alloc _ _ _ (by rw[an];omega)).trans (heap_alloc_new w o1))
 have hb2:W3.heap[w.heap.size+1]? = some o2:=by
  rw[hW3];refine(Below.heap_alloc _ _ _ (by rw[an,an];omega)).trans ?_
  have:=heap_alloc_new (w.alloc o1) o2;rwa[an] at this
 have hmp:dG Tryz.prog 9 W3 (w.heap.size+1+1) 0 (fun _=>none):=by
  have:=dG.made ((w.alloc o1).alloc o2) Tryz.prog 9;rw[an,an] at this;rw[hW3];exact this
 have HR3:=aa (re.row (o:=none) ⟨hb3.size,fun k hk _=>hb3.block k hk⟩ HL.out.row (fun _ _ e=>by cases e))
 have hlt :∀k,(Value.slice la L.length lc).ownBlock=some k→k<w.heap.size:=fun k hk=>(HL.out.row.lt k hk).2
 rw[ho1] at hb1;rw[Jv] at hb2;have dK:=aa hb1;have pj:=aa hb2;have HMP:=aa hmp;have mW:=aa hlt;have yN:=aa hb3;have oH:=aa hs3;rw[ho1,Jv] at hW3;have SN:=aa hW3;clear hb1 hb2 hmp hlt hb3 hs3 hW3 ho1 Jv;go_enter Tryz.func112,Tryz.ntmps112
 go_wp2_with (at_builtin;rw[←SN.out];refine Pn W3 ⟨f,w.heap.size+1+1,[]⟩ rfl _ _ rfl B (.slice la L.length lc) L rfl HR3.out (w.heap.size+1+1+1) oH.out.symm rfl (by omega) (by rw[oH.out];omega) ?_;intro g8 c8 w8 r8 b8 WE n8 o8;have JV:=(b8.2 w.heap.size (by rw[oH.out];omega) (fun e=>by have:=mW.out _ e;omega)).trans dK.out;have hres:=(b8.2 (w.heap.size+1) (by rw[oH.out];omega) (fun e=>by have:=mW.out _ e;omega)).trans pj.out;have e0:=ab JV 0;have e1:=ab JV 1;have e2:=ab JV 2;have e3:=ab JV 3;have f3:=aw JV 3;have y0:=ab hres 0;have y1:=ab hres 1;have y2:=ab hres 2;have y3:=ab hres 3;have z0:=aw hres 0;have z1:=aw hres 1;have z2:=aw hres 2;have z3:=aw hres 3;have R8:=aa r8;have B8:=aa b8;have Rq:=aa WE;have N8:=aa n8;have O8:=aa o8;clear r8 b8 WE n8 o8 JV hres)
 refine bodyPost_ret (v:=.agg #[.int .i64 (f:Int),.int .i64 loop,.pointer pa,.slice (some ⟨g8,0,none⟩) (L.length+1) c8]) (by simp[results,Tryz.results112,go_sem,y0,y1,y2,y3]) rfl ?_
 have k1:vV w8 w.heap.size 92:=⟨_,_,(B8.out.2 w.heap.size (by rw[oH.out];omega) (fun e=>by have:=mW.out _ e;omega)).trans dK.out⟩
 have k2:vV w8 (w.heap.size+1) 92:=⟨_,_,(B8.out.2 (w.heap.size+1) (by rw[oH.out];omega) (fun e=>by have:=mW.out _ e;omega)).trans pj.out⟩
 have hF:Fr [92] w8 (((((w8.setCell ⟨w.heap.size,3,none⟩ (.slice (some ⟨g8,0,none⟩) (L.length+1) c8)).setCell ⟨w.heap.size+1,0,none⟩ (.int .i64 (f:Int))).setCell ⟨w.heap.size+1,1,none⟩ (.int .i64 loop)).setCell ⟨w.heap.size+1,2,none⟩ (.pointer pa)).setCell ⟨w.heap.size+1,3,none⟩ (.slice (some ⟨g8,0,none⟩) (L.length+1) c8)) :=
  (k1.fr (by decide) _ _).trans (((k2.set _ _ _).fr (by decide) _ _).trans ((((k2.set _ _ _).set _ _ _).fr (by decide) _ _).trans (((((k2.set _ _ _).set _ _ _).set _ _ _).fr (by decide) _ _).trans ((((((k2.set _ _ _).set _ _ _).set _ _ _).set _ _ _)).fr (by decide) _ _))))
 have hK :∀k,k<w.heap.size→(((((w8.setCell ⟨w.heap.size,3,none⟩ (.slice (some ⟨g8,0,none⟩) (L.length+1) c8)).setCell ⟨w.heap.size+1,0,none⟩ (.int .i64 (f:Int))).setCell ⟨w.heap.size+1,1,none⟩ (.int .i64 loop)).setCell ⟨w.heap.size+1,2,none⟩ (.pointer pa)).setCell ⟨w.heap.size+1,3,none⟩ (.slice (some ⟨g8,0,none⟩) (L.length+1) c8)).heap[k]? = w8.heap[k]?:=fun k hk=>by
  rw[Below.heap_setCell _ _ _ k (by show k≠w.heap.size+1;omega),Below.heap_setCell _ _ _ k (by show k≠w.heap.size+1;omega),Below.heap_setCell _ _ _ k (by show k≠w.heap.size+1;omega),Below.heap_setCell _ _ _ k (by show k≠w.heap.size+1;omega),Below.heap_setCell _ _ _ k (by show k≠w.heap.size;omega)]
 have hO :∀W:World,W.os=w8.os→W.tape=w8.tape→W.output=w8.output→W.os=w.os∧W.tape=w.tape∧W.output=w.output:=fun W h1 h2 h3=>⟨h1.trans (Rq.out.os.trans yN.out.os),h2.trans (Rq.out.tape.trans yN.out.tape),h3.trans (Rq.out.output.trans yN.out.output)⟩
 have hO9:=hO _ (show(((((w8.setCell ⟨w.heap.size,3,none⟩ (.slice (some ⟨g8,0,none⟩) (L.length+1) c8)).setCell ⟨w.heap.size+1,0,none⟩ (.int .i64 (f:Int))).setCell ⟨w.heap.size+1,1,none⟩ (.int .i64 loop)).setCell ⟨w.heap.size+1,2,none⟩ (.pointer pa)).setCell ⟨w.heap.size+1,3,none⟩ (.slice (some ⟨g8,0,none⟩) (L.length+1) c8)).os=w8.os from rfl) rfl rfl
 generalize (((((w8.setCell ⟨w.heap.size,3,none⟩ (.slice (some ⟨g8,0,none⟩) (L.length+1) c8)).setCell ⟨w.heap.size+1,0,none⟩ (.int .i64 (f:Int))).setCell ⟨w.heap.size+1,1,none⟩ (.int .i64 loop)).setCell ⟨w.heap.size+1,2,none⟩ (.pointer pa)).setCell ⟨w.heap.size+1,3,none⟩ (.slice (some ⟨g8,0,none⟩) (L.length+1) c8))=W9 at *;have key :∀k,k<w.heap.size→(Value.slice la L.length lc).ownBlock≠some k→W9.heap[k]? = w.heap[k]?:=fun k hk hn=>(hK k hk).trans ((B8.out.2 k (by rw[oH.out];omega) hn).trans (yN.out.block k hk))
 have far :∀(k:Nat) (o:Obj),w.heap[k]? = some o→(∀c fz,o ≠ .cells c 238 fz)→W9.heap[k]? = some o:=fun k o hk ho=>(key k (aJ.1 hk).1 fun e=>by
  obtain⟨c,fz,h1⟩:=Lib.ownsRow_kind HL.out.row k e;rw[hk] at h1;injection h1 with h1;exact ho _ _ h1).trans hk
 refine⟨g8,c8,w.heap.size+1+1,rfl,⟨hF.row R8.out (by decide),fun l hl=>?_,fun l hl n hn=>?_,?_⟩,by omega,N8.out.imp id (fun h=>by rw[oH.out] at h;omega),fun ob=>⟨?_,fun k c e fz hk he=>far k _ hk (fun c' Zu e'=>he (by injection e' with _ e';rw[e'];decide)),fun k c fz hk _=>far k _ hk (fun c' Zu e'=>by injection e' with _ e';exact absurd e' (by decide)),fun u m xs hu hm=>hF.row (O8.out u m xs (re.row (o:=none) ⟨yN.out.size,fun k hk _=>yN.out.block k hk⟩ hu (fun _ _ e=>by cases e)) hm) (by decide),fun k es c hk _=>far k _ hk (fun _ _ e=>by cases e)⟩,⟨?_,fun k c e fz hk he=>far k _ hk (fun c' Zu e'=>he (by injection e' with _ e';rw[e'];exact bI.2 rfl)),fun k o hk ho=>far k _ hk (fun c' Zu=>ho c' _ Zu)⟩⟩
 ·rcases bb.1 hl with rfl|hl
  ·refine⟨hF.map (HMP.out.same (B8.out.2 _ (by rw[oH.out];omega) fun e=>by have:=mW.out _ e;omega)),by show B≤w.heap.size+1+1;omega⟩
  ·obtain⟨h1,h2⟩:=HL.out.maps l hl
   obtain⟨es,c,hm⟩:=h1.isMap;exact⟨h1.same ((far _ _ hm (fun _ _ e=>by cases e)).trans hm.symm),h2⟩
 ·rcases bb.1 hl with rfl|hl
  ·cases hn
  ·exact HL.out.own l hl n hn
 ·rw[gi,mz]
  refine⟨fun hm=>?_,HL.out.apart⟩
  obtain⟨l,hl,e⟩:=jA.1 hm;have:=(HL.out.maps l hl).1.lt;simp only at e;omega
 ·refine⟨hO9.1,hO9.2.1,hO9.2.2,aK (by rw[oH.out];omega) (aK Rq.out.size hF.size),fun k hk=>key k (by omega) fun e=>?_⟩
  have:=(HL.out.row.lt k e).1;omega
 ·exact aK (by rw[oH.out];omega) (aK Rq.out.size hF.size)
structure zr (T:List Nd) (B b:Nat) (nv:Value) (ub ob f:Nat) (pa:Option Addr) (lv:Value) (ms:List Nat) (L:List cJ) (st:aG) (w:World) (a s:Nat):Prop where
 fE:wo w B nv T
 rs:jV w B b nv T.length st ub ob
 pos:pg w B f (.pointer pa) lv ms L st
 cx:Cx f st
 few:dA st.fns
 fr :∀x∈st.frames,x.fn<st.fns.length
 names:st.names.length+a≤100000
 fns:st.fns.length+s≤100000
 fC:L.length+1+s≤100000
theorem b9.lt {W:World} {B:Nat} :∀{fs:List (Nat×Nat×(ByteArray→Option Value))} {ms:List Nat} {p:Value},b9 W B fs ms p→∀m∈ms,m<W.heap.size
 | [],_,_,h,m,hm=>by rw[h.1] at hm;cases hm
 | x::fs,ms,p,h,m,hm=>by
  obtain⟨k',p',m',CE,rfl,rfl,_,_,h3,_,_,h6⟩:=h;rcases bb.1 hm with rfl|hm
  ·exact h3.lt
  ·exact b9.lt h6 m hm
theorem x9 {T:List Nd} {B b:Nat} {nv:Value} {ub ob f:Nat} {pa la:Option Addr} {lc:Nat} {ms:List Nat} {L:List cJ} {st:aG} {w:World} {a s:Nat} (loop:Int) (h:zr T B b nv ub ob f pa (.slice la L.length lc) ms L st w a s) :
  Calls Tryz.prog 112 #[.agg #[.int .i64 (f:Int),.int .i64 loop,.pointer pa,.slice la L.length lc]] w fun e w'=>∃g c m,e=.returned (.agg #[.int .i64 (f:Int),.int .i64 loop,.pointer pa,.slice (some ⟨g,0,none⟩) (L.length+1) c])∧fe T B b nv ub ob f pa (.slice (some ⟨g,0,none⟩) (L.length+1) c) ms (⟨f,m,[]⟩::L) st w' a s∧w.heap.size≤m∧((Value.slice la L.length lc).ownBlock=some g∨w.heap.size≤g)∧cN B ob (.slice la L.length lc) L.length none w w':=by
 have ca:B≤w.heap.size:=by obtain⟨_,_,_,_,_,h,_⟩:=h.fE.nodes;exact h
 refine(xZ f loop pa la lc L w h.pos.fC (by have:=h.fC;omega) ca).mono ?_
 rintro e w' ⟨g,c,m,he,h1,h2,h3,h4,h5⟩;have hf:=h4 ob;refine⟨g,c,m,he,⟨h.fE.below hf.below,?_,⟨h1,h.pos.blk.jq hf (by simp),h.pos.names,?_⟩,?_,h.cx,h.few,h.fr,h.names,h.fns,?_⟩,h2,h3,hf⟩
 ·obtain⟨fv,FL,hw⟩:=h.rs
  exact⟨fv,FL,hw.fr h5 (by decide)⟩
 ·intro m' hm' l hl
  rcases bb.1 hl with rfl|hl
  ·have:=b9.lt h.pos.blk m' hm'
   show m'≠m
   omega
  ·exact h.pos.apart m' hm' l hl
 ·intro l r e
  injection e with e _;rw[←e]
 ·have:=h.fC
  rw[List.length_cons];omega
theorem fe.zero {T:List Nd} {B b:Nat} {nv:Value} {ub ob f:Nat} {pa:Option Addr} {lv:Value} {ms:List Nat} {L:List cJ} {st:aG} {w:World} {a s:Nat} (h:fe T B b nv ub ob f pa lv ms L st w a (s+1)):zr T B b nv ub ob f pa lv ms L st w a s :=
 ⟨h.fE,h.rs,h.pos,h.cx,h.few,h.fr,h.names,by have:=h.fns;omega,by have:=h.fC;omega⟩
theorem cN.inner {B ob n g c m:Nat} {lv:Value} {w w1 w2:World} {top:Option Nat} (h1:cN B ob lv n top w w1) (hg:lv.ownBlock=some g∨w.heap.size≤g) (hm:w.heap.size≤m) (h2:cN B ob (.slice (some ⟨g,0,none⟩) (n+1) c) (n+1) (some m) w1 w2):cN B ob lv n top w w2:=by
 refine⟨h1.below.trans h2.below,fun k c e fz hk he=>h2.cells k c e fz (h1.cells k c e fz hk he) he,fun k c fz hk ho=>h2.ints k c fz (h1.ints k c fz hk ho) ho,fun u k xs hu hk=>h2.lvl u k xs (h1.lvl u k xs hu hk) fun e=>?_,fun k es c hk ht=>h2.maps k es c (h1.maps k es c hk ht) fun e=>?_⟩
 ·replace e:u.ownBlock=some g:=e
  rcases hg with hg|hg
  ·exact Nat.le_succ_of_le (hk (e.trans hg.symm))
  ·have:=(hu.lt g e).2
   omega
 ·injection e with e
  have:=(aJ.1 hk).1;omega
theorem cX.inner {B ob g c m:Nat} {lv:Value} {L:List cJ} {w1 w2:World} (h:cX w1 B lv L) (hne :∀l∈L,l.blk≠m) (h2:cN B ob (.slice (some ⟨g,0,none⟩) (L.length+1) c) (L.length+1) (some m) w1 w2):cX w2 B lv L :=
 ⟨h2.lvl _ _ _ h.row fun _=>gj _,fun l hl=>⟨h2.map (h.maps l hl).1 fun e=>hne l hl (by injection e),(h.maps l hl).2⟩,h.own,h.apart⟩
theorem aq.inner {B b:Nat} {nv:Value} {N ub ob g c m f:Nat} {lv:Value} {L:List cJ} {st st1:aG} {r:Rs aG} {w w1 w2:World} {e:Ending} (h1:cN B ob lv L.length (ey L) w w1) (hl:cX w1 B lv L) (hne :∀l∈L,l.blk≠m) (hg:lv.ownBlock=some g∨w.heap.size≤g) (hm:w.heap.size≤m) (h:aq B b nv N ub ob (.slice (some ⟨g,0,none⟩) (L.length+1) c) (⟨f,m,[]⟩::L) st1 r w1 e w2):aq B b nv N ub ob lv L st (r.map fun s=>s.back st) w e w2:=by
 refine⟨h1.below.trans h.1,?_⟩;have h2:=h.2;cases r with
 | error y=>exact h2
 | ok s =>
  obtain⟨k1,⟨fv,FL,k2⟩,k3,_⟩:=h2;refine⟨k1,⟨fv,FL,k2.on rfl rfl rfl⟩,h1.inner hg hm k3,[],rfl,fun _=>rfl,?_⟩
  rw[jU];exact hl.inner hne k3
theorem cN.past {B ob n:Nat} {v:Value} {top:Option Nat} {w W X:World} (h:cN B ob v n top w W) (hb:Below B W X) (hk :∀k,k<w.heap.size→X.heap[k]? = W.heap[k]?):cN B ob v n top w X:=by
 refine⟨h.below.trans hb,fun k c e fz hc he=>(hk k (aJ.1 hc).1).trans (h.cells k c e fz hc he),fun k c fz hc ho=>(hk k (aJ.1 hc).1).trans (h.ints k c fz hc ho),fun u m xs hu hm=>?_,fun k es c hc ht=>(hk k (aJ.1 hc).1).trans (h.maps k es c hc ht)⟩
 have h1:=h.lvl u m xs hu hm;refine⟨h1.1,?_⟩;rcases h1.2 with hn | ⟨g,cap,cur,rfl,hB,hg,rest⟩
 ·exact .inl hn
 ·exact .inr ⟨g,cap,cur,rfl,hB,(hk g (hu.lt g rfl).2).trans hg,rest⟩
theorem b9.fr {W W':World} {B:Nat} {E:List Nat} (k:Fr E W W') (he:(195:Nat)∉E) :∀{fs:List (Nat×Nat×(ByteArray→Option Value))} {ms:List Nat} {p:Value},b9 W B fs ms p→b9 W' B fs ms p
 | [],_,_,h=>h
 | x::fs,ms,p,h=>by
  obtain⟨k',p',m,CE,rfl,rfl,h1,h2,h3,h4,h5,h6⟩:=h;exact⟨k',p',m,CE,rfl,rfl,h1,k.cells k' _ _ _ h2 he,k.map h3,h4,h5,b9.fr k he h6⟩
theorem cX.fr {W W':World} {B:Nat} {v:Value} {L:List cJ} {E:List Nat} (h:cX W B v L) (k:Fr E W W') (he:(238:Nat)∉E):cX W' B v L :=
 ⟨k.row h.row he,fun l hl=>⟨k.map (h.maps l hl).1,(h.maps l hl).2⟩,h.own,h.apart⟩
theorem fe.Ve {T:List Nd} {B b:Nat} {nv:Value} {ub ob f:Nat} {pa:Option Addr} {lv:Value} {ms:List Nat} {L:List cJ} {st:aG} {w w':World} {a s:Nat} (h:fe T B b nv ub ob f pa lv ms L st w a s) (k:Fr [92] w w') (hb:Below B w w'):fe T B b nv ub ob f pa lv ms L st w' a s:=by
 refine⟨h.fE.below hb,?_,⟨h.pos.fC.fr k (by decide),b9.fr k (by decide) h.pos.blk,h.pos.names,h.pos.apart⟩,h.hd,h.cx,h.few,h.fr,h.names,h.fns,h.fC⟩
 obtain⟨fv,FL,hw⟩:=h.rs;exact⟨fv,FL,hw.fr k (by decide)⟩
theorem fe.oI {T:List Nd} {B b:Nat} {nv:Value} {ub ob f:Nat} {pa:Option Addr} {lv:Value} {ms:List Nat} {L:List cJ} {st:aG} {w:World} {a s:Nat} (i:Nat) (h:fe T B b nv ub ob f pa lv ms L st w a s):fe T B b nv ub ob f pa lv ms L (df i f st) w a s:=by
 refine⟨h.fE,?_,⟨h.pos.fC,?_,h.pos.names,h.pos.apart⟩,h.hd,⟨h.cx.ok,h.cx.lt,h.cx.names⟩,h.few,fun x hx=>?_,h.names,h.fns,h.fC⟩
 ·obtain⟨fv,FL,hw⟩:=h.rs
  exact⟨fv,FL,hw.on rfl rfl rfl⟩
 ·show pe w B (dz f (⟨f,i,0,true,false,[]⟩::st.frames)) ms _
  rw[rX (.inl rfl)];exact h.pos.blk
 ·rcases bb.1 hx with rfl|hx
  ·exact h.cx.lt
  ·exact h.fr x hx
def four (W:World) (r:Nat) (a c d e:Value):World:=(((W.setCell ⟨r,0,none⟩ a).setCell ⟨r,1,none⟩ c).setCell ⟨r,2,none⟩ d).setCell ⟨r,3,none⟩ e
theorem vK {W:World} {r:Nat} (k:vV W r 92) (a c d e:Value):Fr [92] W (four W r a c d e):=(k.fr (by decide) _ _).trans (((k.set _ _ _).fr (by decide) _ _).trans ((((k.set _ _ _).set _ _ _).fr (by decide) _ _).trans ((((k.set _ _ _).set _ _ _).set _ _ _).fr (by decide) _ _)))
theorem pO {B r:Nat} (W:World) (hB:B≤r) (a c d e:Value):Below B W (four W r a c d e):=((((Below.refl B W).setCell (p:=⟨r,0,none⟩) hB a).setCell (p:=⟨r,1,none⟩) hB c).setCell (p:=⟨r,2,none⟩) hB d).setCell (p:=⟨r,3,none⟩) hB e
theorem fg.four {w W:World} {p q f:Nat} {loop:Int} {pa:Option Addr} {lv kv nv d0 d1 d2:Value} (h:fg w W p q f loop pa lv kv nv d0 d1 d2) (Qj:Int) (UU:Option Addr) (lv':Value):fg w (four W w.heap.size (.int .i64 (f:Int)) (.int .i64 Qj) (.pointer UU) lv') p q f Qj UU lv' kv nv d0 d1 d2:=by
 obtain⟨a,b,c,d,e,hk⟩:=h.kids;have hp:=h.pne;have hq:=h.qne;have k :∀j,j≠w.heap.size→(Go.Proofs.YteflkdlaoiijbaaGreatDoor.four W w.heap.size (.int .i64 (f:Int)) (.int .i64 Qj) (.pointer UU) lv').heap[j]? = W.heap[j]?:=fun j hj=>oa W _ _ _ _ _ j hj
 exact⟨bn (bn (bn (bn h.pos 0 _) 1 _) 2 _) 3 _,⟨a,b,c,d,e,(k _ (by omega)).trans hk⟩,(k _ (by omega)).trans h.dec,hp,hq⟩
theorem gM.first {W:World} {B sb so n kc:Nat} {xs ys:List Int} (h:gM W B (.slice (some ⟨sb,so,none⟩) n kc) (xs++ys)):gM W B (.slice (some ⟨sb,so,none⟩) xs.length kc) xs:=by
 obtain⟨A,c,e,hc,h1⟩:=h;injection e with e1 e2 e3;subst e1 e3;rw[bM] at hc;refine⟨_,_,rfl,by omega,?_⟩
 rcases h1 with h1 | ⟨bk,o,e4,hb,hx⟩
 ·exact .inl (EA.1 h1).1
 ·exact .inr ⟨bk,o,e4,hb,fun j x hj=>hx j x (by rw[kS (aL.1 hj).1];exact hj)⟩
theorem gM.last {W:World} {B sb so n kc:Nat} {xs ys:List Int} (h:gM W B (.slice (some ⟨sb,so,none⟩) n kc) (xs++ys)):gM W B (.slice (some ⟨sb,so+xs.length,none⟩) ys.length (kc-xs.length)) ys:=by
 obtain⟨A,c,e,hc,h1⟩:=h;injection e with e1 e2 e3;subst e1 e3;rw[bM] at hc;refine⟨_,_,rfl,by omega,?_⟩
 rcases h1 with h1 | ⟨bk,o,e4,hb,hx⟩
 ·exact .inl (EA.1 h1).2
 ·injection e4 with e4
  injection e4 with e4 e5 _;subst e4 e5;exact .inr ⟨_,_,rfl,hb,fun j x hj=>by have:=hx (xs.length+j) x (by rw[zM (by omega),Nat.add_sub_cancel_left];exact hj);rwa[←pW] at this⟩
theorem Z1 {α:Type} {x l:List α} (h:l=x++l):x=[]:=by
 have:=ay List.length h;rw[bM] at this;exact List.length_eq_zero_iff.1 (by omega)
theorem aq.same {B b:Nat} {nv:Value} {N ub ob:Nat} {lv:Value} {L:List cJ} {st st':aG} {r r':Rs aG} {w w2:World} {e:Ending} (h:aq B b nv N ub ob lv L st r w e w2) (hn:st'.names=st.names) (hr:match r,r' with | .ok a,.ok c=>c.fns=a.fns∧c.uses=a.uses∧c.of=a.of∧c.names=a.names | .error a,.error c=>a=c|_,_=>False):aq B b nv N ub ob lv L st' r' w e w2:=by
 refine⟨h.1,?_⟩;have h2:=h.2;cases r with
 | error y =>
  cases r' with
  | error z=>cases hr;exact h2
  | ok z=>exact hr.elim
 | ok s =>
  cases r' with
  | error z=>exact hr.elim
  | ok z =>
   obtain⟨k1,⟨fv,FL,k2⟩,k3,x,k4,k5,k6⟩:=h2;obtain⟨e1,e2,e3,e4⟩:=hr;exact⟨k1,⟨fv,FL,k2.on e1 e2 e3⟩,k3,x,by rw[e4,k4,hn],k5,k6⟩
theorem si {f:Nat} (t:Lt) (st:aG):aH [t] f st=aY t f st:=by
 rw[eu];cases aY t f st with
 | error y=>rfl
 | ok s=>show aH [] f s=_;rw[eD]
theorem qV {i f:Nat} {line:Int} {names:List ByteArray} (blk:Lt) :∀(vals:List Lt) (st:aG),iQ i line names (vals++[blk]) f st=(aH vals f st).bind fun s1=>((bz i f line names (df i f s1)).bind fun s2=>aH [blk] f s2).map fun s=>s.back s1
 | [],st=>by
  rw[mY,nW,eD];show _=Except.map _ (Except.bind _ _)
  cases bz i f line names (df i f st) with
  | error y=>rfl
  | ok s2=>show(aY blk f s2).map _=(aH [blk] f s2).map _;rw[si]
 | [a],st=>by
  rw[List.singleton_append,jx,si];cases aY a f st with
  | error y=>rfl
  | ok s =>
   have:=qV (i:=i) (f:=f) (line:=line) (names:=names) blk [] s;rw[mY,eD] at this;exact this
 | a::c::l,st=>by
  rw[dB,dB,jx,eu];cases aY a f st with
  | error y=>rfl
  | ok s=>exact qV blk (c::l) s
theorem zr.levels {T:List Nd} {B b:Nat} {nv:Value} {ub ob f:Nat} {pa:Option Addr} {lv:Value} {ms:List Nat} {L:List cJ} {st:aG} {w:World} {a s:Nat} (h:zr T B b nv ub ob f pa lv ms L st w a s) :∀l∈L,l.blk<w.heap.size:=fun l hl=>(h.pos.fC.maps l hl).1.lt
theorem aq.Vf {B b:Nat} {nv:Value} {N ub ob:Nat} {lv:Value} {L:List cJ} {st s1:aG} {r:Rs aG} {w w2:World} {e:Ending} (h:aq B b nv N ub ob lv L st (r.map fun s=>s.back st) w e w2) (hn:s1.names=st.names):aq B b nv N ub ob lv L st (r.map fun s=>s.back s1) w e w2:=by
 refine h.same rfl ?_;cases r with
 | error y=>rfl
 | ok s=>exact⟨rfl,rfl,rfl,hn⟩
theorem Ch {T:List Nd} {B b:Nat} {nv:Value} {ub ob:Nat} (i f:Nat) (h:Nd) (vals rest:List Lt) (loop:Int) (pa la:Option Addr) (lc:Nat) (ms:List Nat) (L:List cJ) (st:aG) (w:World) (hr:fe T B b nv ub ob f pa (.slice la L.length lc) ms L st w (Lt.dM vals+(h.names.length+Lt.dM rest)) (Lt.al vals+(Lt.al rest+1))) (hx:T[i]? = some h) (hk:h.kids=(vals.map fun k=>(k.loc:Int))++rest.map fun k=>(k.loc:Int)) (Ci:rest≠[]) (hn:fI T vals) (ra:fI T rest) (hV :∀k∈vals,bB T B b nv ub ob k) (hV2 :∀k∈rest,bB T B b nv ub ob k)
  (hl :∀k∈vals,k.hd.kind<18) (hst :∀k∈vals,Still k) (hL:L≠[]) (hsz :∀s∈h.names,s.size≤65536) (Wi:loop=(i:Int)) (hd:gO h.kind h.kids.length=(true,(vals.length:Int),true)) :
  Calls Tryz.prog 55 #[.pointer (some ⟨b,0,none⟩),.int .i64 (i:Int),.agg #[.int .i64 (f:Int),.int .i64 loop,.pointer pa,.slice la L.length lc]] w (aq B b nv T.length ub ob (.slice la L.length lc) L st ((aH vals f st).bind fun s1=>((bz i f h.line h.names (df i f s1)).bind fun s2=>aH rest f s2).map fun s=>s.back s1) w):=by
 obtain⟨bk,o,c,rfl,eQ,ca,dN⟩:=hr.fE.nodes;obtain⟨zI,zJ,fM,⟨NA,nc,vW,_⟩,fF⟩:=dN i h hx;have sg:h.kids.length≤20000:=(hr.fE.small h (ba hx)).1;have ph:h.kids.length=vals.length+rest.length:=by rw[hk,bM,dm,dm]
 have hr1:1≤rest.length:=wI.2 Ci;obtain⟨KA,kc,rj,CA,JW⟩:=id fF;subst vW rj;obtain⟨sb,so,rfl⟩ :∃sb so,KA=some ⟨sb,so,none⟩:=by
  rcases JW with h0 | ⟨sb,so,h1,_⟩
  ·rw[h0] at ph;simp at ph;omega
  ·exact⟨sb,so,h1⟩
 obtain⟨x0,x1,x2,x3,x4,x5,x6⟩:=fM;have wu:i<T.length:=(aL.1 hx).1;have pS:=hr.fE.few;have hbl:b<w.heap.size:=by obtain⟨_,_,hw⟩:=hr.rs;exact hw.mV.1
 have d0:w.cell? ⟨b,0,none⟩=some (.slice (some ⟨bk,o,none⟩) T.length c):=by obtain⟨_,_,hw⟩:=hr.rs;exact ab hw.blk 0
 have hH:bk<w.heap.size:=by omega
 have HD:=aa (gP h.kind h.line h.op h.num h.s NA (some ⟨sb,so,none⟩) h.names.length nc h.kids.length kc);have WN:gM w B (.slice (some ⟨sb,so,none⟩) vals.length kc) (vals.map fun k=>(k.loc:Int)):=by
  rw[hk] at fF;have:=fF.first
  rwa[dm] at this
 have Cj:gM w B (.slice (some ⟨sb,so+vals.length,none⟩) rest.length (kc-vals.length)) (rest.map fun k=>(k.loc:Int)):=by
  rw[hk] at fF;have:=fF.last;rwa[dm,dm] at this
 have zn:Hid (∀W,Below w.heap.size w W→Calls Tryz.prog 111 #[.pointer (some ⟨b,0,none⟩),.slice (some ⟨sb,so,none⟩) vals.length kc,.agg #[.int .i64 (f:Int),.int .i64 loop,.pointer pa,.slice la L.length lc]] W (aq B b (.slice (some ⟨bk,o,none⟩) T.length c) T.length ub ob (.slice la L.length lc) L st (aH vals f st) W)):=aa fun W hW =>
  qT f loop pa la lc ms L st W (.slice (some ⟨sb,so,none⟩) vals.length kc) vals ((hr.dc hW).mono (gF _ _) (gF _ _)) hn hV (WN.below (hW.mono ca)).keeps (fun k hk mF=>by have:=hl k hk;omega) (fun k _=>.inl hL) (by omega)
 have HR:=aa hr;have HN:=aa hn;have S0:=aa ra;have HV2:=aa hV2;have HST:=aa hst;have Qk:=aa Cj;have Vd:=aa hd;have HLI:=aa Wi;have HK:=aa hk;have hvl:vals.length≤kc:=by omega
 have Uq:vals.length≤h.kids.length:=by omega
 have nO:=aa hr1;have HL:=aa hL;have qK:=aa hsz;have HX:=aa hx;have sW:=aa ph;have HRL:Hid (h.kids.length-vals.length=rest.length):=aa (by omega)
 have hv2:vals.length≤20000:=by omega
 clear hr1 ph hr hn hV hl fF WN Cj hd dN hk ra hV2 hst JW Wi hL hsz hx Ci;go_enter Tryz.func55,Tryz.ntmps55
 go_wp2_with fail
 refine(HD.out _ (by omega)).mono ?_
 rw[Vd.out];rintro e w1 ⟨rfl,hb1⟩;have dK:=aa hb1;clear hb1;go_wp2_with fail
 have zq:=lF rfl dK.out (.bool true) (.int .i64 (vals.length:Int)) (.bool true);have qU:=aa zq.2;have pj:=aa zq.1;clear zq;clear d0 x0 x1 x2 x3 x4 x5 x6;generalize w1.alloc (.cells #[.bool true,.int .i64 (vals.length:Int),.bool true] 189)=W2 at qU pj ⊢;generalize w1.heap.size=q at qU ⊢;generalize w.heap.size+1=p at qU ⊢;obtain⟨k0,k1,k2,k3,k4,k5,k6,k7,k8⟩:=qU.out.cells;go_still_tail 7,(by kernel_rfl)
 change wpList _ _ _ _ _ W2.drew;have D2:=aa (show Below W2.heap.size W2 W2.drew from(Below.refl _ _).drew)
 generalize W2.drew=W3 at D2 ⊢;go_wp2_with fail
 have lL:=aa (pj.out.trans (D2.out.mono pj.out.size));refine(zn.out W3 lL.out).mono ?_;intro e w4 hp;cases pb:aH vals f st with
 | error y =>
  rw[pb] at hp;obtain⟨hb,v,rfl,g2,rfl,h2⟩:=hp;have H2:=aa h2;have HB:=aa hb;have HE:Hid (((aH vals f st).bind fun s1=>((bz i f h.line h.names (df i f s1)).bind fun s2=>aH rest f s2).map fun s=>s.back s1)=.error y):=aa (by rw[pb];rfl)
  clear h2 hb pb;go_wp2_with fail
  go_ret
  rw[HE.out];exact⟨(lL.out.mono ca).trans HB.out,_,rfl,_,rfl,H2.out⟩
 | ok s1 =>
  rw[pb] at hp;have hr4:=HR.out.dc lL.out;have hst:=(gA vals pb HN.out.nodup hr4.cx HN.out.wf).1;have Ri:=qI vals HN.out.quiet HST.out pb;obtain⟨rfl,x,hx1,hx2,wy,El⟩:=fe.step (a1:=Lt.dM vals) (s1:=Lt.al vals) hr4 (iR vals pb hr4.few) (hst.cx hr4.cx) (lC vals pb) hp;rw[Ri] at hx1;have hx0:=Z1 hx1;subst hx0;rw[jU] at wy;have P5:=aa ((qU.out.later D2.out).jq El);have Qf:=aa ((lL.out.mono ca).trans El.below);have Qg:Hid (cN B ob (.slice la L.length lc) L.length (ey L) w w4):=aa ((cN.bK lL.out ca).trans El);have MM:=aa (wy.oI i);have hz:=(wy.oI i).zero;have HZ:=aa hz;have HOP:=aa (x9 loop hz);have HNM:=aa Ri;have Rh:=aa pb;have hsz5:=El.below.size;have adP:=lL.out.size;clear hp hr4 wy El hst hx1 hx2 pb hz Ri k0 k1 k2 k3 k4 k5 k6 k7 k8;obtain⟨k0,k1,k2,k3,k4,k5,k6,k7,k8⟩:=P5.out.cells;go_wp2_with fail
  refine HOP.out.mono ?_;rintro e w6 ⟨g,c6,m,rfl,PB,hm,hg,Rw⟩;have P6:=aa (P5.out.jq Rw);have y0:=aw P6.out.pos 0;have y1:=aw P6.out.pos 1;have y2:=aw P6.out.pos 2;have y3:=aw P6.out.pos 3;have HR6:=aa PB;have HM:=aa hm;have HG:=aa hg;have PC:=aa Rw;clear PB hm hg Rw k0 k1 k2 k3 k4 k5 k6 k7 k8;obtain⟨k0,k1,k2,k3,k4,k5,k6,k7,k8⟩:=P6.out.cells;obtain⟨W7,wA⟩ :∃W7,W7=four w6 w.heap.size (.int .i64 (f:Int)) (.int .i64 loop) (.pointer pa) (.slice (some ⟨g,0,none⟩) (L.length+1) c6):=⟨_,rfl⟩;have P7:Hid (fg w W7 p q f loop pa (.slice (some ⟨g,0,none⟩) (L.length+1) c6) (.slice (some ⟨sb,so,none⟩) h.kids.length kc) (.slice NA h.names.length nc) (.bool true) (.int .i64 (vals.length:Int)) (.bool true)):=aa (by rw[wA];exact P6.out.four _ _ _)
  have kn:vV w6 w.heap.size 92:=⟨_,_,P6.out.pos⟩;have F7:Hid (Fr [92] w6 W7):=aa (by rw[wA];exact vK kn _ _ _ _)
  have B7:Hid (Below B w6 W7):=aa (by rw[wA];exact pO w6 ca _ _ _ _)
  have K7:Hid (∀k,k≠w.heap.size→W7.heap[k]? = w6.heap[k]?):=aa (by rw[wA];exact fun k hk=>oa w6 _ _ _ _ _ k hk)
  unfold four at wA;have HW7:=aa wA;clear wA kn;have hpn:p≠w.heap.size:=by have:=P5.out.pne;omega
  have hqn:q≠w.heap.size:=by have:=P5.out.qne;omega
  go_wp2_with fail
  rw[←HW7.out];have HZ0:=HZ.out;have hlt :∀l∈L,l.blk≠m:=fun l hl=>by have:=HZ.out.levels l hl;have:=HM.out;omega
  have Ck:=HR6.out.Ve F7.out B7.out;have WK:cN B ob (.slice la L.length lc) L.length (ey L) w W7:=(Qg.out.trans (PC.out.Gk _)).past B7.out fun k hk=>K7.out k (by omega)
  have hLV:cX W7 B (.slice la L.length lc) L:=((HZ.out.pos.fC).jq PC.out (ai _)).fr F7.out (by decide)
  have WO:(Value.slice la L.length lc).ownBlock=some g∨w.heap.size≤g:=HG.out.imp id fun h=>by omega
  have WQ:w.heap.size≤m:=by have:=HM.out;omega
  have Vg:=aa Ck;have Z3:=aa WK;have Ql:=aa hLV;have HOW:=aa WO;have WR:=aa WQ;have mW:=aa hlt;have hdec:Calls Tryz.prog 113 #[.pointer (some ⟨b,0,none⟩),.int .i64 (i:Int),.agg #[.int .i64 (f:Int),.int .i64 loop,.pointer pa,.slice (some ⟨g,0,none⟩) (L.length+1) c6]] W7 (aq B b (.slice (some ⟨bk,o,none⟩) T.length c) T.length ub ob (.slice (some ⟨g,0,none⟩) (L.length+1) c6) (⟨f,m,[]⟩::L) (df i f s1) (bz i f h.line h.names (df i f s1)) W7) :=
   kB b i f h loop pa (some ⟨g,0,none⟩) c6 ⟨f,m,[]⟩ L (df i f s1) W7 Ck.fE Ck.rs HX.out Ck.cx.lt Ck.pos.fC rfl (by have:=Ck.fC;omega) Ck.few (by simp) qK.out
  clear Ck WK hLV WO WQ hlt HZ0 k0 k1 k2 k3 k4 k5 k6 k7 k8 y0 y1 y2 y3;refine hdec.mono ?_;intro e w8 hp;clear hdec;cases jW:bz i f h.line h.names (df i f s1) with
  | error y =>
   rw[jW] at hp;have HP:=aa hp;obtain⟨_,v,rfl,g2,rfl,_⟩:=hp;have HE:Hid (((aH vals f st).bind fun s1=>((bz i f h.line h.names (df i f s1)).bind fun s2=>aH rest f s2).map fun s=>s.back s1)=.error y):=aa (by rw[Rh.out];show Except.map _ (Except.bind _ _)=_;rw[jW];rfl)
   clear jW;go_wp2_with fail
   go_ret
   rw[HE.out];exact(aq.inner (st:=st) Z3.out Ql.out mW.out HOW.out WR.out HP.out).same rfl rfl
  | ok s2 =>
   rw[jW] at hp;obtain⟨Qi,vJ,_⟩:=nV jW Vg.out.cx;obtain⟨rfl,x,hx1,hx2,Vh,Vi⟩:=fe.step (a1:=h.names.length) (s1:=0) (by rw[jB];exact Vg.out) (jS jW Vg.out.few) (Qi.cx Vg.out.cx) vJ hp
   have P9:=aa (P7.out.jq Vi);have HC:Hid (∀W,Below w8.heap.size w8 W→Calls Tryz.prog 111 #[.pointer (some ⟨b,0,none⟩),.slice (some ⟨sb,so+vals.length,none⟩) rest.length (kc-vals.length),.agg #[.int .i64 (f:Int),.int .i64 loop,.pointer pa,.slice (some ⟨g,0,none⟩) (L.length+1) c6]] W (aq B b (.slice (some ⟨bk,o,none⟩) T.length c) T.length ub ob (.slice (some ⟨g,0,none⟩) (L.length+1) c6) (grow x (⟨f,m,[]⟩::L)) s2 (aH rest f s2) w8)):=aa fun W hW =>
    (Ek f loop pa (some ⟨g,0,none⟩) c6 ms (⟨f,m,[]⟩::L) x s2 W (.slice (some ⟨sb,so+vals.length,none⟩) rest.length (kc-vals.length)) rest (Vh.dc hW) S0.out HV2.out (Qk.out.below ((Z3.out.below.trans Vi.below).trans (hW.mono Vh.world))) (fun k hk mF=>by rw[tP vJ,HLI.out];exact(vy f i _).symm) (fun k _=>.inl (by simp)) (by have:=sW.out;omega)).mono fun e w' h=>h.from hW Vh.world
   have ZE:=aa Vi;have Qd:=aa hx1;have HE:Hid (((aH vals f st).bind fun s1=>((bz i f h.line h.names (df i f s1)).bind fun s2=>aH rest f s2).map fun s=>s.back s1)=(aH rest f s2).map fun s=>s.back s1):=aa (by rw[Rh.out];show Except.map _ (Except.bind _ _)=_;rw[jW];rfl)
   clear hp Vh Vi Qi vJ hx1 hx2 jW;obtain⟨k0,k1,k2,k3,k4,k5,k6,k7,k8⟩:=P9.out.cells;go_wp2_with fail
   have Kq:vals.length<kc:=by have:=nO.out;have:=sW.out;omega
   go_still_tail 7,(by kernel_rfl)
   change wpList _ _ _ _ _ w8.drew;have WM:=aa (HC.out w8.drew (Below.refl _ _).drew);generalize w8.drew=W9 at WM ⊢;go_wp2_with fail
   rw[HRL.out];refine WM.out.mono ?_;intro e w10 hp;obtain⟨v,rfl⟩:=hp.ret;have HP:=aa hp;clear hp;go_wp2_with fail
   go_ret
   rw[HE.out];exact(aq.inner (st:=st) Z3.out Ql.out mW.out HOW.out WR.out (aq.trans (L:=⟨f,m,[]⟩::L) (st1:=s2) (x:=x) ZE.out.below ZE.out Qd.out (fun e=>by cases e) HP.out)).Vf HNM.out
end Go.Proofs.YteflkdlaoiijbaaGreatDoor
namespace Go.Proofs.YteflkdlaoiijbaaGreatDoor
open Go.RowKit
def wB (i f:Nat) (rep:Bool) (ks tests:List Lt) (st:aG):Rs aG:=(gz i f rep ks (st.setOf i f)).bind fun s1=>(cF ks 0 f s1).bind fun s2=>aH tests f s2
theorem b9.but {W W':World} {B kb:Nat} (h2 :∀k,k≠kb→k<W.heap.size→W'.heap[k]? = W.heap[k]?) :∀{fs:List (Nat×Nat×(ByteArray→Option Value))} {ms:List Nat} {p:Option Addr},b9 W B fs ms (.pointer p)→(∀a,p=some a→a.block<kb)→(∀m∈ms,m≠kb)→b9 W' B fs ms (.pointer p)
 | [],_,_,h,_,_=>h
 | x::fs,ms,p,h,hp,hm=>by
  obtain⟨k',p',m,CE,e,rfl,h1,h3,h4,h5,h6,h7⟩:=h;injection e with e;have hk:=hp _ e;replace hk:k' < kb:=hk;exact⟨k',p',m,CE,by rw[e],rfl,h1,(h2 k' (by omega) (aJ.1 h3).1).trans h3,h4.same (h2 m (hm m (bQ ..)) h4.lt),h5,h6,b9.but h2 h7 (fun a ha=>Nat.lt_trans (h6 a ha) hk) fun x hx=>hm x (bX _ hx)⟩
theorem b9.first {W:World} {B:Nat} {fs:List (Nat×Nat×(ByteArray→Option Value))} {ms:List Nat} {p:Option Addr} (h:b9 W B fs ms (.pointer p)) :∀a,p=some a→a.block<W.heap.size:=by
 intro a ha;cases fs with
 | nil=>rw[ha] at h;cases h.2
 | cons x fs =>
  obtain⟨k',_,_,_,e,_,_,h3,_⟩:=h;injection e with e;rw[ha] at e;injection e with e;rw[e];exact(aJ.1 h3).1
section
variable {T:List Nd} {B b:Nat} {nv:Value} {ub ob f kb mb i n:Nat} {rep:Bool} {ks:List Lt} {pa:Option Addr} {lv:Value} {ms:List Nat} {L:List cJ} {st:aG} {w w':World} {a s:Nat}
theorem fe.Cl (h:fe T B b nv ub ob f pa lv ms L st w a s) (hk:w.heap[kb]? = some (.cells #[.pointer pa,.map (some mb),.int .i64 (gZ ks (n+1):Int)] 195 (0,0))) (hm:dG Tryz.prog 9 w mb ks.length (fH ks rep ks.length)) (hBk:B≤kb) (hBm:B≤mb) (UZ :∀a,pa=some a→a.block<kb) (hap :∀l∈L,mb≠l.blk) :
  fe T B b nv ub ob f (some ⟨kb,0,none⟩) lv (mb::ms) L { st with frames:=⟨f,i,n,false,rep,ks⟩::st.frames} w a s:=by
 refine⟨h.fE,?_,⟨h.pos.fC,?_,h.pos.names,fun m hm l hl=>?_⟩,h.hd,⟨h.cx.ok,h.cx.lt,h.cx.names⟩,h.few,fun x hx=>?_,h.names,h.fns,h.fC⟩
 ·obtain⟨fv,FL,hw⟩:=h.rs
  exact⟨fv,FL,hw.on rfl rfl rfl⟩
 ·show pe w B (dz f (⟨f,i,n,false,rep,ks⟩::st.frames)) (mb::ms) _
  rw[vu (f:=f) (x:=⟨f,i,n,false,rep,ks⟩) rfl rfl];exact⟨kb,pa,mb,ms,rfl,rfl,hBk,hk,hm,hBm,UZ,h.pos.blk⟩
 ·rcases bb.1 hm with rfl|hm
  ·exact hap l hl
  ·exact h.pos.apart m hm l hl
 ·rcases bb.1 hx with rfl|hx
  ·exact h.cx.lt
  ·exact h.fr x hx
theorem fe.Vj {Qm:List fB} {v:Value} (h:fe T B b nv ub ob f (some ⟨kb,0,none⟩) lv (mb::ms) L st w a s) (hf:st.frames=⟨f,i,n,false,rep,ks⟩::Qm) (hk:w.heap[kb]? = some (.cells #[.pointer pa,.map (some mb),v] 195 (0,0))) :
  fe T B b nv ub ob f pa lv ms L { st with frames:=Qm} w a s∧dG Tryz.prog 9 w mb ks.length (fH ks rep ks.length):=by
 have hb:pe w B (dz f st.frames) (mb::ms) (.pointer (some ⟨kb,0,none⟩)):=h.pos.blk;rw[hf,vu (f:=f) (x:=⟨f,i,n,false,rep,ks⟩) rfl rfl] at hb;obtain⟨k',p',m,CE,e,e2,h1,h3,h4,h5,h6,h7⟩:=hb;injection e with e;injection e with e;injection e with e;subst e;injection e2 with e2 e3;subst e2 e3;rw[hk] at h3;injection h3 with h3;injection h3 with h3;have h8:[Value.pointer pa,.map (some mb),v]=[.pointer p',.map (some mb),.int .i64 (gZ ks (n+1):Int)]:=ay Array.toList h3;injection h8 with h8 _;injection h8 with h8;subst h8;refine⟨⟨h.fE,?_,⟨h.pos.fC,h7,h.pos.names,fun m hm l hl=>h.pos.apart m (bX _ hm) l hl⟩,h.hd,⟨h.cx.ok,h.cx.lt,h.cx.names⟩,h.few,fun x hx=>h.fr x (by rw[hf];exact bX _ hx),h.names,h.fns,h.fC⟩,h4⟩
 obtain⟨fv,FL,hw⟩:=h.rs;exact⟨fv,FL,hw.on rfl rfl rfl⟩
theorem fe.but (h:fe T B b nv ub ob f pa lv ms L st w a s) (k:Fr [195] w w') (hb:Below B w w') (h2 :∀j,j≠kb→j<w.heap.size→w'.heap[j]? = w.heap[j]?) (UZ :∀a,pa=some a→a.block<kb) (hm :∀m∈ms,m≠kb):fe T B b nv ub ob f pa lv ms L st w' a s:=by
 refine⟨h.fE.below hb,?_,⟨h.pos.fC.fr k (by decide),b9.but h2 h.pos.blk UZ hm,h.pos.names,h.pos.apart⟩,h.hd,h.cx,h.few,h.fr,h.names,h.fns,h.fC⟩
 obtain⟨fv,FL,hw⟩:=h.rs;exact⟨fv,FL,hw.fr k (by decide)⟩
theorem fe.grown (h:fe T B b nv ub ob f pa lv ms L st w a s) (hg:w.grownBy w' (some mb)) (hm :∃es c,w.heap[mb]? = some (.map es c)) (hB:B≤mb) (h1:mb∉ms) (h2 :∀l∈L,mb≠l.blk):fe T B b nv ub ob f pa lv ms L st w' a s:=by
 have ca:=h.world;refine⟨h.fE.below (kC hg hB ca),?_,⟨⟨ix (e9 hg hm) h.pos.fC.row,fun l hl=>⟨(h.pos.fC.maps l hl).1.same (hg.block _ (h.pos.fC.maps l hl).1.lt fun e=>h2 l hl (by injection e with e;exact e.symm)),(h.pos.fC.maps l hl).2⟩,h.pos.fC.own,h.pos.fC.apart⟩,b9.grown hg hm h.pos.blk h1,h.pos.names,h.pos.apart⟩,h.hd,h.cx,h.few,h.fr,h.names,h.fns,h.fC⟩
 obtain⟨fv,FL,hw⟩:=h.rs;exact⟨fv,FL,hw.keep (e9 hg hm)⟩
theorem cX.grown (h:cX w B lv L) (hg:w.grownBy w' (some mb)) (hm :∃es c,w.heap[mb]? = some (.map es c)) (h2 :∀l∈L,mb≠l.blk):cX w' B lv L :=
 ⟨ix (e9 hg hm) h.row,fun l hl=>⟨(h.maps l hl).1.same (hg.block _ (h.maps l hl).1.lt fun e=>h2 l hl (by injection e with e;exact e.symm)),(h.maps l hl).2⟩,h.own,h.apart⟩
end
theorem qP.inner {B ob g c m n:Nat} {lv kv:Value} {top:Option Nat} {w w1:World} {xs:List Int} (h:qP B ob lv n top w kv xs) (h1:cN B ob lv n top w w1) (hg:lv.ownBlock=some g∨w.heap.size≤g) (hm:w.heap.size≤m):qP B ob (.slice (some ⟨g,0,none⟩) (n+1) c) (n+1) (some m) w1 kv xs:=by
 obtain⟨A,c',e,hc,h2⟩:=h;refine⟨A,c',e,hc,h2.imp id ?_⟩;rintro⟨bk,o,e2,hx⟩;exact⟨bk,o,e2,fun w' hf=>hx w' (h1.inner hg hm hf)⟩
theorem Cm {i f:Nat} {rep:Bool} {ks:List Lt} {st:aG}:gz i f rep ks st=match ch st.frames f ks 0 ks with|some l=>.error (9,l)|none=>.ok { st with frames:=⟨f,i,0,false,rep,ks⟩::st.frames}:=rfl
end Go.Proofs.YteflkdlaoiijbaaGreatDoor
namespace Go.Proofs.YteflkdlaoiijbaaGreatDoor
open Go.RowKit
structure BI (T:List Nd) (B b:Nat) (nv:Value) (ub ob f i mb g c6 m:Nat) (rep:Bool) (ks tests:List Lt) (pa:Option Addr) (lv:Value) (ms:List Nat) (L:List cJ) (Qm:List fB) (loop:Int) (w:World) (n:Nat) (x:List ju) (s1:aG) (wr:World):Prop where
 rd:fe T B b nv ub ob f pa (.slice (some ⟨g,0,none⟩) (L.length+1) c6) ms (grow x (⟨f,m,[]⟩::L)) { s1 with frames:=Qm} wr (Lt.dM (ks.drop n)+Lt.dM tests) (Lt.al (ks.drop n)+Lt.al tests)
 frames:s1.frames=⟨f,i,n-1,false,rep,ks⟩::Qm
 kb:wr.heap[mb+1]? = some (.cells #[.pointer pa,.map (some mb),.int .i64 (gZ ks n:Int)] 195 (0,0))
 mp:dG Tryz.prog 9 wr mb ks.length (fH ks rep ks.length)
 box:wr.heap[w.heap.size]? = some (.cells #[.int .i64 (f:Int),.int .i64 loop,.pointer (some ⟨mb+1,0,none⟩),.slice (some ⟨g,0,none⟩) (L.length+1) c6] 92 (0,0))
 jq:cN B ob lv L.length (ey L) w wr
 fC:cX wr B lv L
structure BS (B mb g m:Nat) (pa:Option Addr) (lv:Value) (ms:List Nat) (L:List cJ) (w:World):Prop where
 own:lv.ownBlock=some g∨w.heap.size≤g
 top:w.heap.size≤m
 old:w.heap.size≤mb
 low:B≤mb
 ptr :∀a,pa=some a→a.block<mb+1
 maps :∀x∈ms,x<mb
 adQ :∀l∈L,l.blk<mb
 mlt:m<mb
 apart :∀l∈L,l.blk≠m
 base:B≤w.heap.size
section
variable {T:List Nd} {B b:Nat} {nv:Value} {ub ob f i mb g c6 m:Nat} {rep:Bool} {ks tests:List Lt} {pa:Option Addr} {lv:Value} {ms:List Nat} {L:List cJ} {Qm:List fB} {loop:Int} {w:World} {n:Nat} {x:List ju} {s1:aG} {wr wr':World}
theorem BS.grow (h:BS B mb g m pa lv ms L w) (x:List ju) :∀l∈grow x (⟨f,m,[]⟩::L),mb≠l.blk:=by
 intro l hl;have h1:l.blk∈(Go.Proofs.YteflkdlaoiijbaaGreatDoor.grow x (⟨f,m,[]⟩::L)).map cJ.blk:=j6 hl;rw[vA] at h1;rcases bb.1 h1 with h1|h1
 ·have:=h.mlt
  replace h1:l.blk=m:=h1;omega
 ·obtain⟨u,hu,e⟩:=jA.1 h1
  have:=h.adQ u hu;omega
theorem Gz {s:aG} {y:fB} {l:List fB} (h:s.frames=y::l) (n:Nat):s.at n={ s with frames:={ y with at_:=n}::l}:=by
 unfold aG.at;rw[h]
theorem BI.ready (h:BI T B b nv ub ob f i mb g c6 m rep ks tests pa lv ms L Qm loop w n x s1 wr) (hb:BS B mb g m pa lv ms L w) {k:Lt} (hk:ks[n]? = some k) (hw:(wr'=wr∧isDecl k=false)∨(wr'=wr.setCell ⟨mb+1,2,none⟩ (.int .i64 ((gZ ks n:Int)+1))∧isDecl k=true)) :
  fe T B b nv ub ob f (some ⟨mb+1,0,none⟩) (.slice (some ⟨g,0,none⟩) (L.length+1) c6) (mb::ms) (grow x (⟨f,m,[]⟩::L)) (s1.at n) wr' (k.wt+(Lt.dM (ks.drop (n+1))+Lt.dM tests)) (k.size+(Lt.al (ks.drop (n+1))+Lt.al tests))∧wr'.heap[mb+1]? = some (.cells #[.pointer pa,.map (some mb),.int .i64 (gZ ks (n+1):Int)] 195 (0,0))∧wr'.heap[w.heap.size]? = some (.cells #[.int .i64 (f:Int),.int .i64 loop,.pointer (some ⟨mb+1,0,none⟩),.slice (some ⟨g,0,none⟩) (L.length+1) c6] 92 (0,0))∧cN B ob lv L.length (ey L) w wr'∧cX wr' B lv L:=by
 have vX:=vv hk;have Rx:=h.rd;rw[(qQ hk).1,(qQ hk).2,pW,pW] at Rx;have hmb:=hb.low;have s9:=hb.old;have key :∀(W:World),fe T B b nv ub ob f pa (.slice (some ⟨g,0,none⟩) (L.length+1) c6) ms (Go.Proofs.YteflkdlaoiijbaaGreatDoor.grow x (⟨f,m,[]⟩::L)) { s1 with frames:=Qm} W (k.wt+(Lt.dM (ks.drop (n+1))+Lt.dM tests)) (k.size+(Lt.al (ks.drop (n+1))+Lt.al tests))→W.heap[mb+1]? = some (.cells #[.pointer pa,.map (some mb),.int .i64 (gZ ks (n+1):Int)] 195 (0,0))→dG Tryz.prog 9 W mb ks.length (fH ks rep ks.length)→fe T B b nv ub ob f (some ⟨mb+1,0,none⟩) (.slice (some ⟨g,0,none⟩) (L.length+1) c6) (mb::ms) (Go.Proofs.YteflkdlaoiijbaaGreatDoor.grow x (⟨f,m,[]⟩::L)) (s1.at n) W (k.wt+(Lt.dM (ks.drop (n+1))+Lt.dM tests)) (k.size+(Lt.al (ks.drop (n+1))+Lt.al tests)):=fun W h1 h2 h3=>by
  rw[Gz h.frames n];exact h1.Cl (i:=i) (n:=n) (rep:=rep) h2 h3 (by omega) hmb hb.ptr (hb.grow x)
 rcases hw with ⟨rfl,hd⟩ | ⟨rfl,hd⟩
 ·rw[hd] at vX
  have vX:gZ ks (n+1)=gZ ks n:=vX;have hkb:=h.kb;rw[←vX] at hkb;exact⟨key _ Rx hkb h.mp,hkb,h.box,h.jq,h.fC⟩
 ·rw[hd] at vX
  have vX:gZ ks (n+1)=gZ ks n+1:=vX;have hF:Fr [195] wr (wr.setCell ⟨mb+1,2,none⟩ (.int .i64 ((gZ ks n:Int)+1))):=Fr.set h.kb (by decide) _ _
  have hB:Below B wr (wr.setCell ⟨mb+1,2,none⟩ (.int .i64 ((gZ ks n:Int)+1))):=(Below.refl B wr).setCell (p:=⟨mb+1,2,none⟩) (by show B≤mb+1;omega) _
  have hK :∀j,j≠mb+1→(wr.setCell ⟨mb+1,2,none⟩ (.int .i64 ((gZ ks n:Int)+1))).heap[j]? = wr.heap[j]?:=fun j hj=>Below.heap_setCell _ _ _ j hj
  have hkb:(wr.setCell ⟨mb+1,2,none⟩ (.int .i64 ((gZ ks n:Int)+1))).heap[mb+1]? = some (.cells #[.pointer pa,.map (some mb),.int .i64 (gZ ks (n+1):Int)] 195 (0,0)):=by
   have:=bn h.kb 2 (.int .i64 ((gZ ks n:Int)+1));rw[vX];exact this
  exact⟨key _ (Rx.but hF hB (fun j hj _=>hK j hj) hb.ptr (fun y hy=>by have:=hb.maps y hy;omega)) hkb (hF.map h.mp),hkb,(hK _ (by omega)).trans h.box,h.jq.past hB fun j hj=>hK j (by omega),h.fC.fr hF (by decide)⟩
theorem BI.next {k:Lt} {s2:aG} {w2:World} {e:Ending} (hb:BS B mb g m pa lv ms L w) (hn:kD T k) (mT:s1.frames=⟨f,i,n-1,false,rep,ks⟩::Qm)
  (h1:fe T B b nv ub ob f (some ⟨mb+1,0,none⟩) (.slice (some ⟨g,0,none⟩) (L.length+1) c6) (mb::ms) (grow x (⟨f,m,[]⟩::L)) (s1.at n) wr' (k.wt+(Lt.dM (ks.drop (n+1))+Lt.dM tests)) (k.size+(Lt.al (ks.drop (n+1))+Lt.al tests))) (h2:wr'.heap[mb+1]? = some (.cells #[.pointer pa,.map (some mb),.int .i64 (gZ ks (n+1):Int)] 195 (0,0))) (h3:wr'.heap[w.heap.size]? = some (.cells #[.int .i64 (f:Int),.int .i64 loop,.pointer (some ⟨mb+1,0,none⟩),.slice (some ⟨g,0,none⟩) (L.length+1) c6] 92 (0,0))) (h4:cN B ob lv L.length (ey L) w wr') (h5:cX wr' B lv L)
  (hr:aY k f (s1.at n)=.ok s2) (hp:aq B b nv T.length ub ob (.slice (some ⟨g,0,none⟩) (L.length+1) c6) (grow x (⟨f,m,[]⟩::L)) (s1.at n) (.ok s2) wr' e w2) :
  e=.returned .nilIface∧∃y,BI T B b nv ub ob f i mb g c6 m rep ks tests pa lv ms L Qm loop w (n+1) (y++x) s2 w2:=by
 obtain⟨he,y,_,_,hr2,hf2,rH⟩:=fe.next h1 hn hr hp;rw[grow_grow] at hr2;rw[cy,oD] at hf2;rw[Gz mT n] at rH;replace rH:s2.frames=⟨f,i,n,false,rep,ks⟩::Qm:=rH;have hkb:=hf2.cells _ _ _ _ h2 (by decide)
 obtain⟨q1,q2⟩:=hr2.Vj (pa:=pa) rH hkb;exact⟨he,y,⟨q1,rH,hkb,q2,hf2.cells _ _ _ _ h3 (by decide),h4.inner hb.own hb.top hf2,h5.inner hb.apart hf2⟩⟩
end
theorem aq.Z4 {B b:Nat} {nv:Value} {N ub ob g c:Nat} {lv:Value} {L:List cJ} {l:cJ} {st st1:aG} {r:Rs aG} {w w1 w2:World} {e:Ending} (h1:cN B ob lv L.length (ey L) w w1) (hl:cX w1 B lv L) (hne :∀u∈L,u.blk≠l.blk) (hg:lv.ownBlock=some g∨w.heap.size≤g) (hm:w.heap.size≤l.blk) (h:aq B b nv N ub ob (.slice (some ⟨g,0,none⟩) (L.length+1) c) (l::L) st1 r w1 e w2):aq B b nv N ub ob lv L st (r.map fun s=>s.back st) w e w2:=by
 refine⟨h1.below.trans h.1,?_⟩;have h2:=h.2;cases r with
 | error y=>exact h2
 | ok s =>
  obtain⟨k1,⟨fv,FL,k2⟩,k3,_⟩:=h2;refine⟨k1,⟨fv,FL,k2.on rfl rfl rfl⟩,h1.inner hg hm k3,[],rfl,fun _=>rfl,?_⟩
  rw[jU];exact hl.inner hne k3
theorem Qn (ks:List Lt):gZ ks (ks.length-1+1)=gZ ks ks.length:=by
 rcases sw ks.length with h|h
 ·rw[List.length_eq_zero_iff.1 h];rfl
 ·rw[show ks.length-1+1=ks.length by omega]
end Go.Proofs.YteflkdlaoiijbaaGreatDoor
namespace Go.Proofs.YteflkdlaoiijbaaGreatDoor
open Go.RowKit
theorem zr.setOf {T:List Nd} {B b:Nat} {nv:Value} {ub ob f:Nat} {pa:Option Addr} {lv:Value} {ms:List Nat} {L:List cJ} {st:aG} {w:World} {a s:Nat} (i:Nat) (h:zr T B b nv ub ob f pa lv ms L st w a s) (o:Obj):zr T B b nv ub ob f pa lv ms L (st.setOf i f) ((w.setCell ⟨ob,i,none⟩ (.int .i64 (f:Int))).alloc o).drew a s∧cN B ob lv L.length (ey L) w ((w.setCell ⟨ob,i,none⟩ (.int .i64 (f:Int))).alloc o).drew∧cX ((w.setCell ⟨ob,i,none⟩ (.int .i64 (f:Int))).alloc o).drew B lv L:=by
 obtain⟨fv,FL,hw⟩:=h.rs;obtain⟨cs,hc⟩:=lA hw.wq;have ld :∀top,cN B ob lv L.length top w (w.setCell ⟨ob,i,none⟩ (.int .i64 (f:Int))):=fun top=>cN.abv hc hw.jh.2 i _
 have hB:B≤(w.setCell ⟨ob,i,none⟩ (.int .i64 (f:Int))).heap.size:=by have:=hw.mV;have:=hw.pos;simp[World.setCell];omega
 have hf :∀top,cN B ob lv L.length top w ((w.setCell ⟨ob,i,none⟩ (.int .i64 (f:Int))).alloc o).drew:=fun top=>(ld top).trans ((cN.bK (((Below.refl _ _).alloc (ai _) o).drew) hB))
 exact⟨⟨h.fE.below (hf none).below,⟨fv,FL,((hw.of_ i f).alloc o).drew⟩,⟨h.pos.fC.jq (hf none) (ai _),h.pos.blk.jq (hf none) (by simp),h.pos.names,h.pos.apart⟩,⟨h.cx.ok,h.cx.lt,h.cx.names⟩,h.few,h.fr,h.names,h.fns,h.fC⟩,hf _,h.pos.fC.jq (hf none) (ai _)⟩
theorem ya {T:List Nd} {B b:Nat} {nv:Value} {ub ob:Nat} (i f:Nat) (h:Nd) (ks tests:List Lt) (rep:Bool) (loop:Int) (pa la:Option Addr) (lc:Nat) (ms:List Nat) (L:List cJ) (st:aG) (w:World) (tv:Value) (hr:zr T B b nv ub ob f pa (.slice la L.length lc) ms L st w (Lt.dM ks+Lt.dM tests) (Lt.al ks+Lt.al tests)) (hx:T[i]? = some h) (hk:h.kids=ks.map fun k=>(k.loc:Int)) (hn:fI T ks) (ra:fI T tests) (hV :∀k∈ks,bB T B b nv ub ob k) (hV2 :∀k∈tests,bB T B b nv ub ob k)
  (htv:qP B ob (.slice la L.length lc) L.length (ey L) w tv (tests.map fun k=>(k.loc:Int))) (Uj:rep=decide (0<tests.length)) (hl :∀k∈ks,18≤k.hd.kind→loop=cG f st.frames) (hl2 :∀k∈tests,18≤k.hd.kind→loop=cG f st.frames) (hs :∀x∈ks,x.hd.s.size≤65536) (Rg:tests.length≤20000) :
  Calls Tryz.prog 56 #[.pointer (some ⟨b,0,none⟩),.int .i64 (i:Int),.agg #[.int .i64 (f:Int),.int .i64 loop,.pointer pa,.slice la L.length lc],tv] w (aq B b nv T.length ub ob (.slice la L.length lc) L st ((wB i f rep ks tests st).map fun s=>s.back st) w):=by
 subst Uj;obtain⟨bk,o,c,rfl,eQ,ca,dN⟩:=hr.fE.nodes;obtain⟨zI,zJ,fM,⟨NA,nc,vW,_⟩,fF⟩:=dN i h hx;have sg:h.kids.length≤20000:=(hr.fE.small h (ba hx)).1;have ph:h.kids.length=ks.length:=by rw[hk,dm]
 obtain⟨KA,kc,rj,CA,_⟩:=id fF;subst vW rj;have HTV:=aa htv;obtain⟨TA,tc,rfl,htc,_⟩:=htv;have x6:=fM.c6;have wu:i<T.length:=(aL.1 hx).1;have pS:=hr.fE.few;obtain⟨fv,FL,hw⟩:=id hr.rs;obtain⟨hbl,oN,s9⟩:=hw.mV;have d0:w.cell? ⟨b,0,none⟩=some (.slice (some ⟨bk,o,none⟩) T.length c):=ab hw.blk 0;have d3:w.cell? ⟨b,3,none⟩=some (.slice (some ⟨ob,0,none⟩) T.length T.length):=ab hw.blk 3;obtain⟨u0,v0⟩:=da hw.wq (j:=i) (by omega)
 have hH:bk<w.heap.size:=by omega
 have HR:=aa hr;have HN:=aa hn;have S0:=aa ra;have HV:=aa hV;have HV2:=aa hV2;have HL:=aa hl;have HL2:=aa hl2;have HS:=aa hs;have JU:=aa fF;have HK:=aa hk;have sW:=aa ph;have HX:=aa hx;simp only[dm] at htc ⊢;clear hr hn ra hV hV2 hl hl2 hs fF hk ph hx dN fM hw;go_enter Tryz.func56,Tryz.ntmps56
 go_wp2_with fail
 go_region
 have ri:=HR.out.setOf i (.cells #[.int .i64 (f:Int),.int .i64 loop,.pointer pa,.slice la L.length lc] 92);have hJ:=heap_alloc_new (w.setCell ⟨ob,i,none⟩ (.int .i64 (f:Int))) (.cells #[.int .i64 (f:Int),.int .i64 loop,.pointer pa,.slice la L.length lc] 92);obtain⟨W1,hW1⟩ :∃W1,W1=((w.setCell ⟨ob,i,none⟩ (.int .i64 (f:Int))).alloc (.cells #[.int .i64 (f:Int),.int .i64 loop,.pointer pa,.slice la L.length lc] 92)).drew:=⟨_,rfl⟩;rw[←hW1] at ri;have lK:W1.heap[w.heap.size]? = some (.cells #[.int .i64 (f:Int),.int .i64 loop,.pointer pa,.slice la L.length lc] 92 (0,0)):=by
  rw[hW1];have e:(w.setCell ⟨ob,i,none⟩ (.int .i64 (f:Int))).heap.size=w.heap.size:=by simp[World.setCell]
  rw[e] at hJ;exact hJ
 rw[←hW1];clear hW1 hJ d0 d3 u0 v0;have x6:=(ri.2.1.below.cell (p:=⟨bk,o+i*7+6,none⟩) eQ).trans x6;have d0:W1.cell? ⟨b,0,none⟩=some (.slice (some ⟨bk,o,none⟩) T.length c):=by obtain⟨_,_,hw⟩:=ri.1.rs;exact ab hw.blk 0
 have k0:W1.cell? ⟨w.heap.size,0,none⟩=some (.int .i64 (f:Int)):=ab lK 0;have k1:W1.cell? ⟨w.heap.size,1,none⟩=some (.int .i64 loop):=ab lK 1;have k2:W1.cell? ⟨w.heap.size,2,none⟩=some (.pointer pa):=ab lK 2;have k3:W1.cell? ⟨w.heap.size,3,none⟩=some (.slice la L.length lc):=ab lK 3;have HZ:=aa ri.1;have fA:=aa ri.2.1;have pP:=aa ri.2.2;have AZ:=aa lK;have HOP:=aa (x9 loop ri.1);clear ri lK;go_wp2_with fail
 refine HOP.out.mono ?_;rintro e w2 ⟨g,c6,m,rfl,hr2,hm,hg,hf2⟩;have sK:=hf2.cells _ _ _ _ AZ.out (by decide)
 have y0:=aw sK 0;have y1:=aw sK 1;have y2:=aw sK 2;have y3:=aw sK 3;have k0:w2.cell? ⟨w.heap.size,0,none⟩=some (.int .i64 (f:Int)):=ab sK 0;have k1:w2.cell? ⟨w.heap.size,1,none⟩=some (.int .i64 loop):=ab sK 1;have k2:w2.cell? ⟨w.heap.size,2,none⟩=some (.pointer pa):=ab sK 2;have k3:w2.cell? ⟨w.heap.size,3,none⟩=some (.slice la L.length lc):=ab sK 3;have hpl:w.heap.size<w2.heap.size:=(aJ.1 sK).1;have Yj:=aa sK;have wg:=aa hr2;have HM:=aa hm;have HG:=aa hg;have l9:=aa hf2;clear sK hr2 hm hg hf2;go_wp2_with fail
 obtain⟨W3,hW3⟩ :∃W3,W3=four w2 w.heap.size (.int .i64 (f:Int)) (.int .i64 loop) (.pointer pa) (.slice (some ⟨g,0,none⟩) (L.length+1) c6):=⟨_,rfl⟩;have kn:vV w2 w.heap.size 92:=⟨_,_,Yj.out⟩;have WS:W3.heap[w.heap.size]? = some (.cells #[.int .i64 (f:Int),.int .i64 loop,.pointer pa,.slice (some ⟨g,0,none⟩) (L.length+1) c6] 92 (0,0)):=by
  rw[hW3];exact bn (bn (bn (bn Yj.out 0 _) 1 _) 2 _) 3 _
 have hF3:Fr [92] w2 W3:=by rw[hW3];exact vK kn _ _ _ _
 have YR:Below B w2 W3:=by rw[hW3];exact pO w2 ca _ _ _ _
 have hK3 :∀k,k≠w.heap.size→W3.heap[k]? = w2.heap[k]?:=by rw[hW3];exact fun k hk=>oa w2 _ _ _ _ _ k hk
 have hs3:W3.heap.size=w2.heap.size:=by rw[hW3];simp[four,World.setCell]
 unfold four at hW3;rw[←hW3];have hrun:=run_makeMap (P:=Tryz.prog) 193 W3;have k0:W3.cell? ⟨w.heap.size,0,none⟩=some (.int .i64 (f:Int)):=ab WS 0;have k1:W3.cell? ⟨w.heap.size,1,none⟩=some (.int .i64 loop):=ab WS 1;have k2:W3.cell? ⟨w.heap.size,2,none⟩=some (.pointer pa):=ab WS 2;have k3:W3.cell? ⟨w.heap.size,3,none⟩=some (.slice (some ⟨g,0,none⟩) (L.length+1) c6):=ab WS 3;have y2:=aw WS 2;have hpl:w.heap.size<W3.heap.size:=(aJ.1 WS).1;have Yk:=aa WS;have FI:=aa hF3;have yN:=aa YR;have HK3:=aa hK3;have oH:=aa hs3;clear hW3 kn WS hF3 YR hK3 hs3 y0 y1 y3;rw[hrun];clear hrun;go_wp2_with fail
 obtain⟨W4,Z5⟩ :∃W4,W4=((W3.setCell ⟨w.heap.size,2,none⟩ (.pointer (some ⟨W3.heap.size+1,0,none⟩))).alloc (.map #[] 0)).alloc (.cells #[.pointer pa,.map (some W3.heap.size),.int .i64 0] 195):=⟨_,rfl⟩;rw[←Z5];obtain⟨Wa,Z7⟩ :∃Wa,Wa=W3.setCell ⟨w.heap.size,2,none⟩ (.pointer (some ⟨W3.heap.size+1,0,none⟩)):=⟨_,rfl⟩;rw[←Z7] at Z5;have hsa:Wa.heap.size=W3.heap.size:=by rw[Z7];simp[World.setCell]
 have hFa:Fr [92] W3 Wa:=by rw[Z7];exact Fr.set Yk.out (by decide) _ _
 have hBa:Below B W3 Wa:=by rw[Z7];exact(Below.refl B W3).setCell (p:=⟨w.heap.size,2,none⟩) ca _
 have hPa:Wa.heap[w.heap.size]? = some (.cells #[.int .i64 (f:Int),.int .i64 loop,.pointer (some ⟨W3.heap.size+1,0,none⟩),.slice (some ⟨g,0,none⟩) (L.length+1) c6] 92 (0,0)):=by rw[Z7];exact bn Yk.out 2 _
 have hKa :∀k,k≠w.heap.size→Wa.heap[k]? = W3.heap[k]?:=by rw[Z7];exact fun k hk=>Below.heap_setCell _ _ _ k hk
 have hab:Below Wa.heap.size Wa W4:=by rw[Z5];exact Below.two _ _
 have hs4:W4.heap.size=W3.heap.size+2:=by rw[Z5,an,an,hsa]
 have Zf:dG Tryz.prog 9 W4 W3.heap.size 0 (fun _=>none):=by
  rw[Z5,←hsa];exact(dG.made Wa Tryz.prog 9).same (Below.heap_alloc _ _ _ (by rw[an];omega))
 have hkb:W4.heap[W3.heap.size+1]? = some (.cells #[.pointer pa,.map (some W3.heap.size),.int .i64 0] 195 (0,0)):=by
  rw[Z5];have:=heap_alloc_new (Wa.alloc (.map #[] 0)) (.cells #[.pointer pa,.map (some W3.heap.size),.int .i64 0] 195);rwa[an,hsa] at this
 clear Z5 Z7;have hF4:Fr [92] W3 W4:=hFa.trans (Fr.ae hab);have CG:Below B W3 W4:=hBa.trans (hab.mono (by have:=wg.out.world;have:=oH.out;omega))
 have hP4:=(hab.block w.heap.size (by omega)).trans hPa
 have hK4 :∀k,k<W3.heap.size→k≠w.heap.size→W4.heap[k]? = W3.heap[k]?:=fun k hk hn=>(hab.block k (by omega)).trans (hKa k hn)
 clear hab hsa hFa hBa hPa hKa Wa k0 k1 k2 k3 y2 d0 x6;have hr4:=(wg.out.Ve FI.out yN.out).Ve hF4 CG;have GV:cN B ob (.slice la L.length lc) L.length (ey L) w W4:=(fA.out.trans (l9.out.Gk _)).past ((yN.out.trans CG)) fun k hk=>(hK4 k (by omega) (by omega)).trans (HK3.out k (by omega))
 have hlv:cX W4 B (.slice la L.length lc) L:=((pP.out.jq l9.out (ai _)).fr FI.out (by decide)).fr hF4 (by decide)
 have UZ :∀a,pa=some a→a.block<W3.heap.size+1:=fun a ha=>by have:=b9.first (wg.out.Ve FI.out yN.out).pos.blk a ha;omega
 have hms :∀x∈ms,x<W3.heap.size:=b9.lt (wg.out.Ve FI.out yN.out).pos.blk;have hbs :∀l∈(⟨f,m,[]⟩::L:List cJ),l.blk<W3.heap.size:=fun l hl=>((wg.out.Ve FI.out yN.out).pos.fC.maps l hl).1.lt
 have WJ:B≤W3.heap.size:=(wg.out.Ve FI.out yN.out).world;have hww:w.heap.size≤W3.heap.size:=fx hpl;generalize hmb:W3.heap.size=mb at *;have WT:Hid (Calls Tryz.prog 114 #[.pointer (some ⟨b,0,none⟩),.pointer (some ⟨mb+1,0,none⟩),.slice KA h.kids.length kc,.bool (decide (0<tests.length))] W4 (Cb mb ks (decide (0<tests.length)) (ch st.frames f ks 0 ks) W4)):=by
  obtain⟨fv4,FL4,hw4⟩:=hr4.rs;exact aa (PO b (mb+1) mb f pa (.slice KA h.kids.length kc) ks st.frames ms (decide (0<tests.length)) fv4 _ _ W4 hr4.fE hw4.blk (by rw[←HK.out];exact JU.out.below GV.below) HN.out.Ku (by have:=sW.out;omega) hkb Zf hr4.pos.blk UZ (fun Qo=>by have:=hms mb Qo;omega) (by omega) WJ HS.out)
 have HR4:=aa hr4;have HFO:=aa GV;have Ql:=aa hlv;have HPK:=aa UZ;have HMS:=aa hms;have HBS:=aa hbs;have HM4:=aa Zf;have HKB:=aa hkb;have HP4:=aa hP4;have HS4:=aa hs4;have WO:(Value.slice la L.length lc).ownBlock=some g∨w.heap.size≤g:=HG.out.imp id fun h=>by have:=fA.out.below.size;omega
 have WQ:w.heap.size≤m:=by have:=HM.out;have:=fA.out.below.size;omega
 have HOW:=aa WO;have WR:=aa WQ;have HWW:=aa hww;have Vk:B≤mb:=WJ;clear hr4 GV hlv UZ hms hbs Zf hkb hP4 hs4 hF4 CG hK4 WO WQ hww WJ hmb hpl;refine WT.out.mono ?_;intro e w5 hp;obtain⟨Ra,hp⟩:=hp;cases UT:ch st.frames f ks 0 ks with
 | some l =>
  rw[UT] at hp;obtain⟨v,rfl,g2,rfl,h2⟩:=hp;have H2:=aa h2;have HE:Hid (((wB i f (decide (0<tests.length)) ks tests st).map fun s=>s.back st)=.error (9,l)):=aa (by
   show Except.map _ (Except.bind (gz i f _ ks (st.setOf i f)) _)=_
   rw[Cm];show Except.map _ (Except.bind (match ch st.frames f ks 0 ks with|some l=>_|none=>_) _)=_
   rw[UT];rfl)
  have HG5:=aa Ra;clear h2 UT Ra;go_wp2_with fail
  go_ret
  rw[HE.out];exact⟨HFO.out.below.trans (kC HG5.out Vk HR4.out.world),_,rfl,_,rfl,H2.out⟩
 | none =>
  rw[UT] at hp;obtain⟨rfl,hm5⟩:=hp;have hZ1:=HZ.out;have uD:Hid (BS B mb g m pa (.slice la L.length lc) ms L w):=aa ⟨HOW.out,WR.out,HWW.out,Vk,HPK.out,HMS.out,fun l hl=>HBS.out l (bX _ hl),HBS.out ⟨f,m,[]⟩ (bQ ..),fun l hl=>by have:=hZ1.levels l hl;have:=HM.out;omega,ca⟩
  obtain⟨s0,hs0⟩ :∃s0:aG,s0={ st.setOf i f with frames:=⟨f,i,0,false,decide (0<tests.length),ks⟩::st.frames}:=⟨_,rfl⟩;have te:=e9 Ra HM4.out.isMap;have HI:Hid (BI T B b (.slice (some ⟨bk,o,none⟩) T.length c) ub ob f i mb g c6 m (decide (0<tests.length)) ks tests pa (.slice la L.length lc) ms L st.frames loop w 0 [] s0 w5):=by
   refine aa ⟨?_,by rw[hs0],by rw[BJ];exact te _ _ _ _ HKB.out,hm5,te _ _ _ _ HP4.out,HFO.out.past (kC Ra Vk HR4.out.world) fun k hk=>Ra.block k (by have:=HFO.out.below.size;omega) (fun e=>by injection e with e;have:=HWW.out;omega),Ql.out.grown Ra HM4.out.isMap fun l hl=>by have:=HBS.out l (bX _ hl);omega⟩
   have h1:=HR4.out.grown Ra HM4.out.isMap Vk (fun Qo=>by have:=HMS.out mb Qo;omega) (fun l hl=>by have:=HBS.out l hl;omega)
   rw[hs0,oT,jU];exact h1
  obtain⟨R,hR⟩ :∃R,R=cF ks 0 f s0:=⟨_,rfl⟩;have HE:Hid (((wB i f (decide (0<tests.length)) ks tests st).map fun s=>s.back st)=(R.bind fun s2=>aH tests f s2).map fun s=>s.back st):=aa (by
   rw[hR,hs0];show Except.map _ (Except.bind (gz i f _ ks (st.setOf i f)) _)=_
   rw[Cm];show Except.map _ (Except.bind (match ch st.frames f ks 0 ks with|some l=>_|none=>_) _)=_
   rw[UT];rfl)
  have HRS:=aa hR;clear hR hs0 te UT hm5 Ra hZ1 HZ fA pP AZ HOP Yj wg HM HG l9 Yk FI yN HK3 oH WT HR4 HFO Ql HPK HMS HBS HM4 HKB HP4 HS4 HOW WR HWW;go_wp2_with fail
  go_loopw [52] (fun tk wr=>∃(n:Nat) (x:List ju) (s1:aG),tk=.int .i64 (n:Int)∧n≤ks.length∧BI T B b (.slice (some ⟨bk,o,none⟩) T.length c) ub ob f i mb g c6 m (decide (0<tests.length)) ks tests pa (.slice la L.length lc) ms L st.frames loop w n x s1 wr∧cF (ks.drop n) n f s1=R) (fun tk _=>h.kids.length-(intOf tk).toNat)
  case atStart=>exact⟨0,[],s0,rfl,bx _,HI.out,by rw[oT];exact HRS.out.symm⟩
  case round =>
   obtain⟨n,x,s1,rfl,CI,GA,hrn⟩:=hrel;have p0:wr.cell? ⟨w.heap.size,0,none⟩=some (.int .i64 (f:Int)):=ab GA.box 0;have p1:wr.cell? ⟨w.heap.size,1,none⟩=some (.int .i64 loop):=ab GA.box 1;have p2:wr.cell? ⟨w.heap.size,2,none⟩=some (.pointer (some ⟨mb+1,0,none⟩)):=ab GA.box 2;have p3:wr.cell? ⟨w.heap.size,3,none⟩=some (.slice (some ⟨g,0,none⟩) (L.length+1) c6):=ab GA.box 3;have q2:wr.cell? ⟨mb+1,2,none⟩=some (.int .i64 (gZ ks n:Int)):=ab GA.kb 2;have z2:=aw GA.kb 2;have hne:w.heap.size≠mb+1:=by have:=uD.out.old;omega
   have hdc:gZ ks n≤20000:=aK (Pd ks n) (by have:=sW.out;omega)
   have xB:=aa GA;have Vc:=aa hrn;clear GA hrn;by_cases hlt:n<h.kids.length
   ·obtain⟨k,hk⟩ :∃k,ks[n]? = some k:=⟨ks[n]'(by have:=sW.out;omega),bH _⟩
    obtain⟨A',c',he,_,jb⟩:=JU.out.below xB.out.jq.below;injection he with uM _ he2;subst uM he2;rcases jb with h0 | ⟨sb,so,rfl,ZP,hsc⟩
    ·rw[h0] at hlt;exact absurd hlt (jz _)
    have cs:wr.cell? ⟨sb,so+n,none⟩=some (.int .i64 (k.loc:Int)):=hsc n _ (by rw[HK.out,gE,hk];rfl)
    obtain⟨ZR,JP⟩:=vm HN.out.Ku hk;have xf:k.loc<T.length:=(aL.1 JP).1;have HKM:=aa (ba hk);have hdr:=drop_at hk;have uC:=aa hdr;have zH:=aa hk;have mW:=aa hlt;have d0:wr.cell? ⟨b,0,none⟩=some (.slice (some ⟨bk,o,none⟩) T.length c):=by obtain⟨_,_,hw⟩:=xB.out.rd.rs;exact ab hw.blk 0
    have PT:Hid (Calls Tryz.prog 115 #[.pointer (some ⟨b,0,none⟩),.int .i64 (k.loc:Int)] wr fun e w'=>e=.returned (.bool (isDecl k))∧wr=w'):=aa (sU b k.loc k.hd wr xB.out.rd.fE d0 JP)
    clear hdr hk ZR JP hsc d0;cases Ej:isDecl k with
    | false =>
     rw[Ej] at PT;have HDX:=aa Ej;clear Ej;go_wp2_with fail
     refine PT.out.mono ?_;rintro e w2 ⟨rfl,rfl⟩;go_wp2_with fail
     obtain⟨r1,r2,r3,r4,r5⟩:=xB.out.ready uD.out zH.out (.inl ⟨rfl,HDX.out⟩);have bs:=HV.out k HKM.out f loop (some ⟨mb+1,0,none⟩) (some ⟨g,0,none⟩) c6 (mb::ms) (grow x (⟨f,m,[]⟩::L)) (s1.at n) _ (by rw[cy];exact r1.mono (gF _ _) (gF _ _)) (fun h=>by rw[Gz xB.out.frames n];exact(HL.out k HKM.out h).trans (vz rfl _).symm) (.inl (qS (by simp)))
     rw[cy,List.length_cons] at bs;have R1:=aa r1;have R2:=aa r2;have R3:=aa r3;have R4:=aa r4;have R5:=aa r5;clear r1 r2 r3 r4 r5;refine bs.mono ?_;clear bs;intro e w3 hp;cases dN:aY k f (s1.at n) with
     | error y =>
      rw[dN] at hp;obtain⟨hb,v,rfl,g2,rfl,h2⟩:=hp;have H2:=aa h2;have HB:=aa hb;have Kv:Hid (R=.error y):=aa (by rw[←Vc.out,uC.out,fZ,dN];rfl)
      clear h2 hb dN;go_wp2_with fail
      go_ret
      rw[HE.out,Kv.out];exact⟨R4.out.below.trans HB.out,_,rfl,_,rfl,H2.out⟩
     | ok s2 =>
      rw[dN] at hp;obtain⟨rfl,y,GA⟩:=BI.next uD.out (HN.out.at_ k HKM.out) xB.out.frames R1.out R2.out R3.out R4.out R5.out dN hp;have HBN:=aa GA;have Kv:Hid (cF (ks.drop (n+1)) (n+1) f s2=R):=aa (by rw[←Vc.out,uC.out,fZ,dN];rfl)
      clear hp GA dN;go_wp2_with fail
      exact⟨⟨n+1,y++x,s2,by go_num,by have:=mW.out;have:=sW.out;omega,HBN.out,Kv.out⟩,by have:=mW.out;simp[intOf];omega⟩
    | true =>
     rw[Ej] at PT;have HDX:=aa Ej;clear Ej;go_wp2_with fail
     refine PT.out.mono ?_;rintro e w2 ⟨rfl,rfl⟩;go_wp2_with fail
     obtain⟨r1,r2,r3,r4,r5⟩:=xB.out.ready uD.out zH.out (.inr ⟨rfl,HDX.out⟩);have bs:=HV.out k HKM.out f loop (some ⟨mb+1,0,none⟩) (some ⟨g,0,none⟩) c6 (mb::ms) (grow x (⟨f,m,[]⟩::L)) (s1.at n) _ (by rw[cy];exact r1.mono (gF _ _) (gF _ _)) (fun h=>by rw[Gz xB.out.frames n];exact(HL.out k HKM.out h).trans (vz rfl _).symm) (.inl (qS (by simp)))
     rw[cy,List.length_cons] at bs;have R1:=aa r1;have R2:=aa r2;have R3:=aa r3;have R4:=aa r4;have R5:=aa r5;clear r1 r2 r3 r4 r5;refine bs.mono ?_;clear bs;intro e w3 hp;cases dN:aY k f (s1.at n) with
     | error y =>
      rw[dN] at hp;obtain⟨hb,v,rfl,g2,rfl,h2⟩:=hp;have H2:=aa h2;have HB:=aa hb;have Kv:Hid (R=.error y):=aa (by rw[←Vc.out,uC.out,fZ,dN];rfl)
      clear h2 hb dN;go_wp2_with fail
      go_ret
      rw[HE.out,Kv.out];exact⟨R4.out.below.trans HB.out,_,rfl,_,rfl,H2.out⟩
     | ok s2 =>
      rw[dN] at hp;obtain⟨rfl,y,GA⟩:=BI.next uD.out (HN.out.at_ k HKM.out) xB.out.frames R1.out R2.out R3.out R4.out R5.out dN hp;have HBN:=aa GA;have Kv:Hid (cF (ks.drop (n+1)) (n+1) f s2=R):=aa (by rw[←Vc.out,uC.out,fZ,dN];rfl)
      clear hp GA dN;go_wp2_with fail
      exact⟨⟨n+1,y++x,s2,by go_num,by have:=mW.out;have:=sW.out;omega,HBN.out,Kv.out⟩,by have:=mW.out;simp[intOf];omega⟩
   ·have zD:n=ks.length:=by have:=sW.out;omega
    have Rx:=xB.out.rd;rw[zD,wJ] at Rx;have hkb:=xB.out.kb;rw[zD,←Qn] at hkb;have Z8:=(Rx.mono (a':=Lt.dM tests) (s':=Lt.al tests) (wL _ _) (wL _ _)).Cl (i:=i) (n:=ks.length-1) (rep:=decide (0<tests.length)) hkb xB.out.mp (by have:=uD.out.low;omega) uD.out.low uD.out.ptr (uD.out.grow x)
    have Vl:=xB.out.frames;rw[zD] at Vl;have hst:({ ({ s1 with frames:=st.frames}:aG) with frames:=⟨f,i,ks.length-1,false,decide (0<tests.length),ks⟩::st.frames}:aG)=s1:=by
     rw[←Vl]
    rw[hst] at Z8;have bs:=qT f loop (some ⟨mb+1,0,none⟩) (some ⟨g,0,none⟩) c6 (mb::ms) (grow x (⟨f,m,[]⟩::L)) s1 wr (.slice TA tests.length tc) tests (by rw[cy];exact Z8) S0.out HV2.out (by have:=HTV.out.inner (c:=c6) xB.out.jq uD.out.own uD.out.top;rw[dm] at this;rw[cy,oD];exact this) (fun k hk mF=>by rw[Vl];exact(HL2.out k hk mF).trans (vz rfl _).symm) (fun k _=>.inl (qS (by simp))) Rg
    rw[cy,List.length_cons] at bs;have Kv:Hid (R=.ok s1):=aa (by rw[←Vc.out,zD,wJ,oB])
    have sL:=aa bs;clear Rx hkb Z8 Vl hst bs zD;go_wp2_with fail
    refine sL.out.mono ?_;intro e w3 hp;obtain⟨v,rfl⟩:=hp.ret;have HP:=aa hp;clear hp;go_wp2_with fail
    go_ret
    rw[HE.out,Kv.out];exact aq.Z4 (l:={ fn:=f,blk:=m,iF:=x++[]}) xB.out.jq xB.out.fC uD.out.apart uD.out.own uD.out.top HP.out
theorem fe.Z9 {T:List Nd} {B b:Nat} {nv:Value} {ub ob f:Nat} {pa:Option Addr} {lv:Value} {ms:List Nat} {L:List cJ} {st:aG} {w:World} {a s:Nat} (i:Nat) (h:fe T B b nv ub ob f pa lv ms L st w a (s+1)) (o:Obj):fe T B b nv ub ob f pa lv ms L (st.setOf i f) ((w.setCell ⟨ob,i,none⟩ (.int .i64 (f:Int))).alloc o).drew a (s+1)∧cN B ob lv L.length (ey L) w ((w.setCell ⟨ob,i,none⟩ (.int .i64 (f:Int))).alloc o).drew∧cX ((w.setCell ⟨ob,i,none⟩ (.int .i64 (f:Int))).alloc o).drew B lv L:=by
 obtain⟨h1,h2,h3⟩:=h.zero.setOf i o;exact⟨⟨h1.fE,h1.rs,h1.pos,h.hd,h1.cx,h1.few,h1.fr,h1.names,h.fns,h.fC⟩,h2,h3⟩
theorem aq.tQ {T:List Nd} {B b:Nat} {nv:Value} {ub ob f:Nat} {pa:Option Addr} {lv:Value} {ms:List Nat} {L:List cJ} {st:aG} {w w':World} {a s:Nat} {r:Rs aG} {e:Ending} (h:fe T B b nv ub ob f pa lv ms L st w a s) (hp:gN B b nv T.length ub ob r w e w') (hn :∀s',r=.ok s'→s'.names=st.names):aq B b nv T.length ub ob lv L st r w e w':=by
 refine⟨hp.1,?_⟩;have h2:=hp.2;cases r with
 | error y=>exact h2
 | ok s' =>
  obtain⟨k1,k2,k3⟩:=h2;have hf :∀top,cN B ob lv L.length top w w':=fun top=>cN.vq k3 (by decide) hp.1
  refine⟨k1,k2,hf _,[],hn s' rfl,fun _=>rfl,?_⟩
  rw[jU];exact h.pos.fC.jq (hf none) (ai _)
theorem aq.after {B b:Nat} {nv:Value} {N ub ob:Nat} {lv:Value} {L:List cJ} {st s1:aG} {r:Rs aG} {w w1 w2:World} {e:Ending} (hf:cN B ob lv L.length (ey L) w w1) (hn:s1.names=st.names) (h:aq B b nv N ub ob lv L s1 r w1 e w2):aq B b nv N ub ob lv L st r w e w2:=by
 refine⟨hf.below.trans h.1,?_⟩;have h2:=h.2;cases r with
 | error y=>exact h2
 | ok s =>
  obtain⟨k1,k2,k3,x,k4,k5,k6⟩:=h2;exact⟨k1,k2,hf.trans k3,x,by rw[k4,hn],k5,k6⟩
theorem dY {T:List Nd} {B b ub ob f bk o c lc a s:Nat} {pa la:Option Addr} {ms:List Nat} {L:List cJ} {st:aG} {w:World} (loop:Int) (i:Nat) (h:fe T B b (.slice (some ⟨bk,o,none⟩) T.length c) ub ob f pa (.slice la L.length lc) ms L st w a (s+1)) (eQ:bk<B) :∃W1,W1=((w.setCell ⟨ob,i,none⟩ (.int .i64 (f:Int))).alloc (.cells #[.int .i64 (f:Int),.int .i64 loop,.pointer pa,.slice la L.length lc] 92)).drew∧RowKit.Hid (fe T B b (.slice (some ⟨bk,o,none⟩) T.length c) ub ob f pa (.slice la L.length lc) ms L (st.setOf i f) W1 a (s+1))∧RowKit.Hid (cN B ob (.slice la L.length lc) L.length (ey L) w W1)∧RowKit.Hid (cX W1 B (.slice la L.length lc) L)∧RowKit.Hid (W1.heap[w.heap.size]? = some (.cells #[.int .i64 (f:Int),.int .i64 loop,.pointer pa,.slice la L.length lc] 92 (0,0)))∧(∀j v,w.cell? ⟨bk,j,none⟩=some v→W1.cell? ⟨bk,j,none⟩=some v)∧W1.cell? ⟨b,0,none⟩=some (.slice (some ⟨bk,o,none⟩) T.length c)∧b<W1.heap.size∧w.heap.size<W1.heap.size∧bk<W1.heap.size∧W1.cell? ⟨w.heap.size,0,none⟩=some (.int .i64 (f:Int))∧W1.cell? ⟨w.heap.size,1,none⟩=some (.int .i64 loop)∧W1.cell? ⟨w.heap.size,2,none⟩=some (.pointer pa)∧W1.cell? ⟨w.heap.size,3,none⟩=some (.slice la L.length lc):=by
 have ri:=h.Z9 i (.cells #[.int .i64 (f:Int),.int .i64 loop,.pointer pa,.slice la L.length lc] 92);have hJ:=heap_alloc_new (w.setCell ⟨ob,i,none⟩ (.int .i64 (f:Int))) (.cells #[.int .i64 (f:Int),.int .i64 loop,.pointer pa,.slice la L.length lc] 92);obtain⟨W1,hW1⟩ :∃W1,W1=((w.setCell ⟨ob,i,none⟩ (.int .i64 (f:Int))).alloc (.cells #[.int .i64 (f:Int),.int .i64 loop,.pointer pa,.slice la L.length lc] 92)).drew:=⟨_,rfl⟩;rw[←hW1] at ri;have lK:W1.heap[w.heap.size]? = some (.cells #[.int .i64 (f:Int),.int .i64 loop,.pointer pa,.slice la L.length lc] 92 (0,0)):=by
  rw[hW1];have e:(w.setCell ⟨ob,i,none⟩ (.int .i64 (f:Int))).heap.size=w.heap.size:=by simp[World.setCell]
  rw[e] at hJ;exact hJ
 obtain⟨_,_,hw⟩:=ri.1.rs;have hl:=(aJ.1 lK).1;have hB:=h.rs;obtain⟨_,_,hv⟩:=hB;have ca:B≤w.heap.size:=by have:=h.fE.nodes;obtain⟨_,_,_,_,_,h2,_⟩:=this;omega
 exact⟨W1,hW1,aa ri.1,aa ri.2.1,aa ri.2.2,aa lK,fun j v hv=>(ri.2.1.below.cell (p:=⟨bk,j,none⟩) eQ).trans hv,ab hw.blk 0,hw.mV.1,hl,by omega,ab lK 0,ab lK 1,ab lK 2,ab lK 3⟩
theorem gT {T:List Nd} {B b ub ob i f lc:Nat} {nv:Value} {h:Nd} {ks:List Lt} {loop:Int} {pa la:Option Addr} {ms:List Nat} {L:List cJ} {st:aG} {w:World} (gD :∀x∈T,x.s.size≤65536∧∀s∈x.names,s.size≤65536) (hn:kD T (.mk i h ks)) (ie :∀u:Lt,u.size<Lt.al ks+1→kD T u→bB T B b nv ub ob u) (hr:fe T B b nv ub ob f pa (.slice la L.length lc) ms L st w (Lt.wt (.mk i h ks)) (Lt.size (.mk i h ks))) (bS:18≤(Lt.mk i h ks).hd.kind→loop=cG f st.frames) (cb:L≠[]∨(Lt.mk i h ks).hd.kind=18) :
  ∃(bk o c:Nat) (NA:Option Addr) (nc:Nat) (KA:Option Addr) (kc:Nat),nv=(.slice (some ⟨bk,o,none⟩) T.length c)∧bk<B∧B≤w.heap.size∧w.cell? ⟨bk,o+i*7,none⟩=some (.int .i64 h.kind)∧w.cell? ⟨bk,o+i*7+1,none⟩=some (.int .i64 h.line)∧w.cell? ⟨bk,o+i*7+2,none⟩=some (.int .i64 h.op)∧w.cell? ⟨bk,o+i*7+3,none⟩=some (.int .i64 h.num)∧w.cell? ⟨bk,o+i*7+4,none⟩=some (.string h.s)∧w.cell? ⟨bk,o+i*7+5,none⟩=some (.slice NA h.names.length nc)∧w.cell? ⟨bk,o+i*7+6,none⟩=some (.slice KA h.kids.length kc)∧h.kids.length≤20000∧i<T.length∧T.length≤20000∧b<w.heap.size∧ub<w.heap.size∧ob<w.heap.size∧w.cell? ⟨b,0,none⟩=some (.slice (some ⟨bk,o,none⟩) T.length c)∧w.cell? ⟨b,3,none⟩=some (.slice (some ⟨ob,0,none⟩) T.length T.length)∧w.cell? ⟨ob,i,none⟩=some (Ro st.of i)∧w.frozen? ⟨ob,i,none⟩=false∧bk<w.heap.size ∧
   RowKit.Hid (fe T B b (.slice (some ⟨bk,o,none⟩) T.length c) ub ob f pa (.slice la L.length lc) ms L st w (h.names.length+Lt.dM ks) (Lt.al ks+1))∧RowKit.Hid (kD T (.mk i h ks))∧RowKit.Hid (∀u:Lt,u.size<Lt.al ks+1→kD T u→bB T B b (.slice (some ⟨bk,o,none⟩) T.length c) ub ob u)∧RowKit.Hid (18≤h.kind→loop=cG f st.frames)∧RowKit.Hid (L≠[]∨h.kind=18)∧RowKit.Hid (fI T ks)∧RowKit.Hid (h.kind≠18→∀k∈ks,Still k)∧RowKit.Hid (qB h.kind h.num (oM ks))∧RowKit.Hid (h.kids=ks.map fun k=>(k.loc:Int))∧RowKit.Hid (h.kids.length=ks.length)∧RowKit.Hid (T[i]? = some h)∧RowKit.Hid (h.s.size≤65536∧∀s∈h.names,s.size≤65536)∧RowKit.Hid (h.kids=[]∨∃bk o,KA=some ⟨bk,o,none⟩∧bk<B∧∀(j:Nat) x,h.kids[j]? = some x→w.cell? ⟨bk,o+j,none⟩=some (.int .i64 x)):=by
 have sY:=hn.sub;have mH:=hn.Ku;unfold Lt.In at mH;obtain⟨hx,gU,_⟩:=mH;replace hr:fe T B b nv ub ob f pa (.slice la L.length lc) ms L st w (h.names.length+Lt.dM ks) (Lt.al ks+1):=by have h1:=hr;rw[Lt.wt,Lt.size] at h1;exact h1
 replace bS:18≤h.kind→loop=cG f st.frames:=bS;replace cb:L≠[]∨h.kind=18:=cb;obtain⟨lG,lH,lI⟩:=sY;replace lG:fI T ks:=lG;replace lH:h.kind≠18→∀k∈ks,Still k:=lH;replace lI:qB h.kind h.num (oM ks):=lI;have hxm:=gD h (ba hx);obtain⟨bk,o,c,rfl,eQ,ca,dN⟩:=hr.fE.nodes;obtain⟨zI,zJ,fM,⟨NA,nc,vW,_⟩,⟨KA,kc,rj,CA,JW⟩⟩:=dN i h hx;have sg:h.kids.length≤20000:=(hr.fE.small h (ba hx)).1;have ph:h.kids.length=ks.length:=by rw[gU,dm]
 subst vW rj;obtain⟨x0,x1,x2,x3,x4,x5,x6⟩:=fM;have wu:i<T.length:=(aL.1 hx).1;have pS:=hr.fE.few;obtain⟨fv,FL,hw⟩:=id hr.rs;obtain⟨hbl,oN,s9⟩:=hw.mV;have d0:w.cell? ⟨b,0,none⟩=some (.slice (some ⟨bk,o,none⟩) T.length c):=ab hw.blk 0;have d3:w.cell? ⟨b,3,none⟩=some (.slice (some ⟨ob,0,none⟩) T.length T.length):=ab hw.blk 3;obtain⟨u0,v0⟩:=da hw.wq (j:=i) (by omega)
 have hH:bk<w.heap.size:=by omega
 exact⟨bk,o,c,NA,nc,KA,kc,rfl,eQ,ca,x0,x1,x2,x3,x4,x5,x6,sg,wu,pS,hbl,oN,s9,d0,d3,u0,v0,hH,aa hr,aa hn,aa ie,aa bS,aa cb,aa lG,aa lH,aa lI,aa gU,aa ph,aa hx,aa hxm,aa JW⟩
theorem Vm {T:List Nd} {B b:Nat} {nv:Value} {ub ob:Nat} (gD :∀x∈T,x.s.size≤65536∧∀s∈x.names,s.size≤65536) (i:Nat) (h:Nd) (ks:List Lt) (hn:kD T (.mk i h ks)) (ie :∀u:Lt,u.size<Lt.al ks+1→kD T u→bB T B b nv ub ob u) (hk:h.kind=6):bB T B b nv ub ob (.mk i h ks):=by
 intro f loop pa la lc ms L st w hr bS cb;show Calls Tryz.prog 26 #[.pointer (some ⟨b,0,none⟩),.int .i64 (i:Int),.agg #[.int .i64 (f:Int),.int .i64 loop,.pointer pa,.slice la L.length lc]] w (aq B b nv T.length ub ob (.slice la L.length lc) L st (aY (.mk i h ks) f st) w)
 obtain⟨bk,o,c,NA,nc,KA,kc,rfl,eQ,ca,x0,x1,x2,x3,x4,x5,x6,sg,wu,pS,hbl,oN,s9,d0,d3,u0,v0,hH,HR,HN,tN,iT,kP,eK,sI,oH,fP,sW,HX,zt,Di⟩:=gT gD hn ie hr bS cb;clear hr hn ie bS cb gD;have q6:(h.kind == 6)=true:=by rw[hk];rfl
 have bO:=aa hk;clear hk;go_enter Tryz.func26,Tryz.ntmps26
 go_wp2_with fail
 go_region
 obtain⟨W1,hW1,HZ,fA,pP,AZ,K,y0,tp,oO,tq,k0,k1,k2,k3⟩:=dY loop i HR.out eQ;rw[←hW1];have x0:=K _ _ x0;have x1:=K _ _ x1;have x2:=K _ _ x2;have x3:=K _ _ x3;have x4:=K _ _ x4;have x5:=K _ _ x5;have x6:=K _ _ x6;clear hW1 K d0 d3 u0 v0;have d0:=y0;clear y0;go_wp2_with fail
 obtain⟨W2,hW2⟩ :∃W2,W2=W1.alloc (.cells #[.int .i64 h.kind,.int .i64 h.line,.int .i64 h.op,.int .i64 h.num,.string h.s,.slice NA h.names.length nc,.slice KA h.kids.length kc] 55):=⟨_,rfl⟩;have cY:Below W1.heap.size W1 W2:=by rw[hW2];exact(Below.refl _ _).alloc (ai _) _
 rw[←hW2];have hr2:=HZ.out.dc cY;have hf2:cN B ob (.slice la L.length lc) L.length (ey L) w W2:=fA.out.trans (cN.bK cY HZ.out.world);have wg:=aa hr2;have l9:=aa hf2;refine(Ph b i f h loop pa la L.length lc (st.setOf i f) W2 hr2.fE hr2.rs HX.out hr2.cx.lt).mono ?_;intro e w3 hp;have hv:=aq.tQ hr2 hp (fun s' hs'=>by
  split at hs'
  ·injection hs' with hs';rw[←hs']
  ·cases hs')
 obtain⟨v,rfl⟩:=hv.ret;have HV:=aa hv;clear hp hv hr2 hf2;go_wp2_with fail
 go_ret
 have hE:aY (.mk i h ks) f st=(if ((st.setOf i f).fn f).many then .ok (st.setOf i f) else .error (14,h.line)):=by
  rw[cw];rw[ak bO.out]
 rw[hE];exact aq.after l9.out rfl HV.out
theorem Vn {T:List Nd} {B b:Nat} {nv:Value} {ub ob:Nat} (gD :∀x∈T,x.s.size≤65536∧∀s∈x.names,s.size≤65536) (i:Nat) (h:Nd) (ks:List Lt) (hn:kD T (.mk i h ks)) (ie :∀u:Lt,u.size<Lt.al ks+1→kD T u→bB T B b nv ub ob u) (hk:h.kind=7):bB T B b nv ub ob (.mk i h ks):=by
 intro f loop pa la lc ms L st w hr bS cb;show Calls Tryz.prog 26 #[.pointer (some ⟨b,0,none⟩),.int .i64 (i:Int),.agg #[.int .i64 (f:Int),.int .i64 loop,.pointer pa,.slice la L.length lc]] w (aq B b nv T.length ub ob (.slice la L.length lc) L st (aY (.mk i h ks) f st) w)
 obtain⟨bk,o,c,NA,nc,KA,kc,rfl,eQ,ca,x0,x1,x2,x3,x4,x5,x6,sg,wu,pS,hbl,oN,s9,d0,d3,u0,v0,hH,HR,HN,tN,iT,kP,eK,sI,oH,fP,sW,HX,zt,Di⟩:=gT gD hn ie hr bS cb;clear hr hn ie bS cb gD;have q6:(h.kind == 6)=false:=by rw[hk];rfl
 have q7:(h.kind == 7)=true:=by rw[hk];rfl
 have bO:=aa hk;clear hk;go_enter Tryz.func26,Tryz.ntmps26
 go_wp2_with fail
 go_region
 obtain⟨W1,hW1,HZ,fA,pP,AZ,K,y0,tp,oO,tq,k0,k1,k2,k3⟩:=dY loop i HR.out eQ;rw[←hW1];have x0:=K _ _ x0;have x1:=K _ _ x1;have x2:=K _ _ x2;have x3:=K _ _ x3;have x4:=K _ _ x4;have x5:=K _ _ x5;have x6:=K _ _ x6;clear hW1 K d0 d3 u0 v0;have d0:=y0;clear y0;go_wp2_with fail
 obtain⟨W2,hW2⟩ :∃W2,W2=W1.alloc (.cells #[.int .i64 h.kind,.int .i64 h.line,.int .i64 h.op,.int .i64 h.num,.string h.s,.slice NA h.names.length nc,.slice KA h.kids.length kc] 55):=⟨_,rfl⟩;have cY:Below W1.heap.size W1 W2:=by rw[hW2];exact(Below.refl _ _).alloc (ai _) _
 rw[←hW2];have hr2:=HZ.out.dc cY;have hf2:cN B ob (.slice la L.length lc) L.length (ey L) w W2:=fA.out.trans (cN.bK cY HZ.out.world);have wg:=aa hr2;have l9:=aa hf2;refine(PG b i f h loop pa la lc L (st.setOf i f) W2 hr2.fE hr2.rs HX.out hr2.pos.fC hr2.pos.names hr2.cx hr2.few (by have:=hr2.fns;omega) (by have:=hr2.fC;omega) (by have:=zt.out.1;unfold maxLen;omega)).mono ?_
 intro e w3 hp;have hv:=aq.tQ hr2 hp (fun s' hs'=>(zf hs').2)
 obtain⟨v,rfl⟩:=hv.ret;have HV:=aa hv;clear hp hv hr2 hf2;go_wp2_with fail
 go_ret
 have hE:aY (.mk i h ks) f st=me i f h.s h.line (st.setOf i f):=by
  rw[cw];rw[af (by have:=bO.out;omega)]
  rw[ak bO.out]
 rw[hE];exact aq.after l9.out rfl HV.out
theorem Qp {T:List Nd} {B b:Nat} {nv:Value} {ub ob:Nat} (gD :∀x∈T,x.s.size≤65536∧∀s∈x.names,s.size≤65536) (i:Nat) (h:Nd) (ks:List Lt) (hn:kD T (.mk i h ks)) (ie :∀u:Lt,u.size<Lt.al ks+1→kD T u→bB T B b nv ub ob u) (hk:h.kind=30):bB T B b nv ub ob (.mk i h ks):=by
 intro f loop pa la lc ms L st w hr bS cb;show Calls Tryz.prog 26 #[.pointer (some ⟨b,0,none⟩),.int .i64 (i:Int),.agg #[.int .i64 (f:Int),.int .i64 loop,.pointer pa,.slice la L.length lc]] w (aq B b nv T.length ub ob (.slice la L.length lc) L st (aY (.mk i h ks) f st) w)
 obtain⟨bk,o,c,NA,nc,KA,kc,rfl,eQ,ca,x0,x1,x2,x3,x4,x5,x6,sg,wu,pS,hbl,oN,s9,d0,d3,u0,v0,hH,HR,HN,tN,iT,kP,eK,sI,oH,fP,sW,HX,zt,Di⟩:=gT gD hn ie hr bS cb;clear hr hn ie bS cb gD;have q6:(h.kind == 6)=false:=by rw[hk];rfl
 have q7:(h.kind == 7)=false:=by rw[hk];rfl
 have yV:(h.kind == 11)=false:=by rw[hk];rfl
 have zG:(h.kind == 18)=false:=by rw[hk];rfl
 have WU:(h.kind == 23)=false:=by rw[hk];rfl
 have q26:(h.kind == 26)=false:=by rw[hk];rfl
 have q27:(h.kind == 27)=false:=by rw[hk];rfl
 have q24:(h.kind == 24)=false:=by rw[hk];rfl
 have q30:(h.kind == 30)=true:=by rw[hk];rfl
 have bO:=aa hk;clear hk;go_enter Tryz.func26,Tryz.ntmps26
 go_wp2_with fail
 go_region
 obtain⟨W1,hW1,HZ,fA,pP,AZ,K,y0,tp,oO,tq,k0,k1,k2,k3⟩:=dY loop i HR.out eQ;rw[←hW1];have x0:=K _ _ x0;have x1:=K _ _ x1;have x2:=K _ _ x2;have x3:=K _ _ x3;have x4:=K _ _ x4;have x5:=K _ _ x5;have x6:=K _ _ x6;clear hW1 K d0 d3 u0 v0;have d0:=y0;clear y0;go_wp2_with fail
 obtain⟨W2,hW2⟩ :∃W2,W2=W1.alloc (.cells #[.int .i64 h.kind,.int .i64 h.line,.int .i64 h.op,.int .i64 h.num,.string h.s,.slice NA h.names.length nc,.slice KA h.kids.length kc] 55):=⟨_,rfl⟩;have cY:Below W1.heap.size W1 W2:=by rw[hW2];exact(Below.refl _ _).alloc (ai _) _
 rw[←hW2];have hr2:=HZ.out.dc cY;have hf2:cN B ob (.slice la L.length lc) L.length (ey L) w W2:=fA.out.trans (cN.bK cY HZ.out.world);have wg:=aa hr2;have l9:=aa hf2;refine(BN b i f h loop pa la L.length lc (st.setOf i f) W2 hr2.fE hr2.rs HX.out (iT.out (by have:=bO.out;omega))).mono ?_
 intro e w3 hp;have hv:=aq.tQ hr2 hp (fun s' hs'=>(rV hs').2)
 obtain⟨v,rfl⟩:=hv.ret;have HV:=aa hv;clear hp hv hr2 hf2;go_wp2_with fail
 go_ret
 have hE:aY (.mk i h ks) f st=dX i f h.line (st.setOf i f):=by
  rw[cw];rw[af (by have:=bO.out;omega)]
  rw[af (by have:=bO.out;omega)]
  rw[af (by have:=bO.out;omega)]
  rw[af (by have:=bO.out;omega)]
  rw[af (by have:=bO.out;omega)]
  rw[af (by have:=bO.out;omega)]
  rw[af (by have:=bO.out;omega)]
  rw[af (by have:=bO.out;omega)]
  rw[af (by have:=bO.out;omega)]
  rw[ak bO.out]
 rw[hE];exact aq.after l9.out rfl HV.out
theorem Qq {T:List Nd} {B b:Nat} {nv:Value} {ub ob:Nat} (gD :∀x∈T,x.s.size≤65536∧∀s∈x.names,s.size≤65536) (i:Nat) (h:Nd) (ks:List Lt) (hn:kD T (.mk i h ks)) (ie :∀u:Lt,u.size<Lt.al ks+1→kD T u→bB T B b nv ub ob u) (hk:h.kind=31):bB T B b nv ub ob (.mk i h ks):=by
 intro f loop pa la lc ms L st w hr bS cb;show Calls Tryz.prog 26 #[.pointer (some ⟨b,0,none⟩),.int .i64 (i:Int),.agg #[.int .i64 (f:Int),.int .i64 loop,.pointer pa,.slice la L.length lc]] w (aq B b nv T.length ub ob (.slice la L.length lc) L st (aY (.mk i h ks) f st) w)
 obtain⟨bk,o,c,NA,nc,KA,kc,rfl,eQ,ca,x0,x1,x2,x3,x4,x5,x6,sg,wu,pS,hbl,oN,s9,d0,d3,u0,v0,hH,HR,HN,tN,iT,kP,eK,sI,oH,fP,sW,HX,zt,Di⟩:=gT gD hn ie hr bS cb;clear hr hn ie bS cb gD;have q6:(h.kind == 6)=false:=by rw[hk];rfl
 have q7:(h.kind == 7)=false:=by rw[hk];rfl
 have yV:(h.kind == 11)=false:=by rw[hk];rfl
 have zG:(h.kind == 18)=false:=by rw[hk];rfl
 have WU:(h.kind == 23)=false:=by rw[hk];rfl
 have q26:(h.kind == 26)=false:=by rw[hk];rfl
 have q27:(h.kind == 27)=false:=by rw[hk];rfl
 have q24:(h.kind == 24)=false:=by rw[hk];rfl
 have q30:(h.kind == 30)=false:=by rw[hk];rfl
 have q31:(h.kind == 31)=true:=by rw[hk];rfl
 have bO:=aa hk;clear hk;go_enter Tryz.func26,Tryz.ntmps26
 go_wp2_with fail
 go_region
 obtain⟨W1,hW1,HZ,fA,pP,AZ,K,y0,tp,oO,tq,k0,k1,k2,k3⟩:=dY loop i HR.out eQ;rw[←hW1];have x0:=K _ _ x0;have x1:=K _ _ x1;have x2:=K _ _ x2;have x3:=K _ _ x3;have x4:=K _ _ x4;have x5:=K _ _ x5;have x6:=K _ _ x6;clear hW1 K d0 d3 u0 v0;have d0:=y0;clear y0;go_wp2_with fail
 obtain⟨W2,hW2⟩ :∃W2,W2=W1.alloc (.cells #[.int .i64 h.kind,.int .i64 h.line,.int .i64 h.op,.int .i64 h.num,.string h.s,.slice NA h.names.length nc,.slice KA h.kids.length kc] 55):=⟨_,rfl⟩;have cY:Below W1.heap.size W1 W2:=by rw[hW2];exact(Below.refl _ _).alloc (ai _) _
 rw[←hW2];have hr2:=HZ.out.dc cY;have hf2:cN B ob (.slice la L.length lc) L.length (ey L) w W2:=fA.out.trans (cN.bK cY HZ.out.world);have wg:=aa hr2;have l9:=aa hf2;refine(PJ b i f h loop pa la lc L.length ms (st.setOf i f) W2 hr2.fE hr2.rs HX.out hr2.pos.blk (by have:=zt.out.1;unfold maxLen;omega)).mono ?_
 intro e w3 hp;have hv:=aq.tQ hr2 hp (fun s' hs'=>(rW _ hs').2)
 obtain⟨v,rfl⟩:=hv.ret;have HV:=aa hv;clear hp hv hr2 hf2;go_wp2_with fail
 go_ret
 have hE:aY (.mk i h ks) f st=db i f h.s h.line (st.setOf i f) (st.setOf i f).frames:=by
  rw[cw];rw[af (by have:=bO.out;omega)]
  rw[af (by have:=bO.out;omega)]
  rw[af (by have:=bO.out;omega)]
  rw[af (by have:=bO.out;omega)]
  rw[af (by have:=bO.out;omega)]
  rw[af (by have:=bO.out;omega)]
  rw[af (by have:=bO.out;omega)]
  rw[af (by have:=bO.out;omega)]
  rw[af (by have:=bO.out;omega)]
  rw[af (by have:=bO.out;omega)]
  rw[ak bO.out]
 rw[hE];exact aq.after l9.out rfl HV.out
theorem fh :∀{ks:List Lt} {k:Lt},k∈ks→k.size≤Lt.al ks
 | x::ks,k,h=>by
  rw[Lt.al];rcases bb.1 h with rfl|h
  ·omega
  ·have:=fh h;omega
theorem Qr {k n:Int} {kk:List Int} (h:qB k n kk) (h1:1≤k) (h2:k<18) (h3:k≠11) :∀a∈kk,a<18:=by
 intro a ha;by_cases c1:k=1∨k=2∨k=3∨k=4∨k=5∨k=6∨k=7∨k=30∨k=31∨k=32
 ·rw[h.none c1] at ha;cases ha
 by_cases c2:k=8∨k=12∨k=17
 ·obtain⟨x,y,e,hx,hy⟩:=h.two c2
  unfold tL at hx hy;rw[e] at ha;simp only[bb,oS,oV] at ha;rcases ha with rfl|rfl<;>omega
 by_cases c3:k=9∨k=10
 ·have:=(h.call c3).2 a ha
  unfold tL at this;omega
 by_cases c5:k=13∨k=14∨k=16
 ·obtain⟨x,e,hx⟩:=h.one c5
  unfold tL at hx;rw[e,bI] at ha;omega
 by_cases c6:k=15
 ·have:=h.items c6 a ha
  omega
 omega
theorem JX (st:aG) (i f:Nat):(st.setOf i f).setOf i f=st.setOf i f:=by
 unfold aG.setOf;simp only[aG.mk.injEq,true_and,and_true];funext j
 by_cases e:j=i
 ·simp[e]
 ·simp[e]
theorem aq.Vo {B b:Nat} {nv:Value} {N ub ob:Nat} {lv:Value} {L:List cJ} {st st':aG} {r:Rs aG} {w w2:World} {e:Ending} (h:aq B b nv N ub ob lv L st r w e w2) (hn:st'.names=st.names) (hr :∀s,r=.ok s→s.names=st.names):aq B b nv N ub ob lv L st' (r.map fun s=>s.back st') w e w2:=by
 cases r with
 | error y=>exact h.same hn rfl
 | ok s=>exact h.same hn ⟨rfl,rfl,rfl,hn.trans (hr s rfl).symm⟩
theorem JY {T:List Nd} {B b:Nat} {nv:Value} {ub ob:Nat} (i f:Nat) (h:Nd) (ks:List Lt) (loop:Int) (pa la:Option Addr) (lc:Nat) (ms:List Nat) (L:List cJ) (hL:L≠[]) (st:aG) (w:World) (hr:fe T B b nv ub ob f pa (.slice la L.length lc) ms L st w (h.names.length+Lt.dM ks) (Lt.al ks)) (hx:T[i]? = some h) (hk:h.kids=ks.map fun k=>(k.loc:Int)) (hn:fI T ks) (hV :∀k∈ks,bB T B b nv ub ob k)
  (hl :∀k∈ks,18≤k.hd.kind→loop=cG f st.frames) (hsz :∀s∈h.names,s.size≤65536) (hd:gO h.kind h.kids.length=(true,(h.kids.length:Int),false)) :
  Calls Tryz.prog 55 #[.pointer (some ⟨b,0,none⟩),.int .i64 (i:Int),.agg #[.int .i64 (f:Int),.int .i64 loop,.pointer pa,.slice la L.length lc]] w (aq B b nv T.length ub ob (.slice la L.length lc) L st ((aH ks f st).bind fun s1=>bz i f h.line h.names s1) w):=by
 cases L with
 | nil=>exact absurd rfl hL
 | cons l r=>exact Qe i f h ks loop pa la lc ms l r st w hr hx hk hn hV hl hsz hd
theorem JZ {T:List Nd} {B b:Nat} {nv:Value} {ub ob:Nat} (i f:Nat) (h:Nd) (ks:List Lt) (loop:Int) (pa la:Option Addr) (lc:Nat) (ms:List Nat) (L:List cJ) (hL:L≠[]) (st:aG) (w:World) (hr:fe T B b nv ub ob f pa (.slice la L.length lc) ms L st w (h.names.length+Lt.dM ks) (Lt.al ks)) (hx:T[i]? = some h) (hk:h.kids=ks.map fun k=>(k.loc:Int)) (hn:fI T ks) (hV :∀k∈ks,bB T B b nv ub ob k)
  (hl :∀k∈ks,18≤k.hd.kind→loop=cG f st.frames) (hsz :∀s∈h.names,s.size≤65536) (hd:gO h.kind h.kids.length=(true,0,false)) :
  Calls Tryz.prog 55 #[.pointer (some ⟨b,0,none⟩),.int .i64 (i:Int),.agg #[.int .i64 (f:Int),.int .i64 loop,.pointer pa,.slice la L.length lc]] w (aq B b nv T.length ub ob (.slice la L.length lc) L st ((bz i f h.line h.names st).bind fun s1=>aH ks f s1) w):=by
 cases L with
 | nil=>exact absurd rfl hL
 | cons l r=>exact Qh i f h ks loop pa la lc ms l r st w hr hx hk hn hV hl hsz hd
theorem Em {T:List Nd} {B b:Nat} {nv:Value} {ub ob:Nat} (gD :∀x∈T,x.s.size≤65536∧∀s∈x.names,s.size≤65536) (i:Nat) (h:Nd) (ks:List Lt) (hn:kD T (.mk i h ks)) (ie :∀u:Lt,u.size<Lt.al ks+1→kD T u→bB T B b nv ub ob u) (hk:h.kind≠6∧h.kind≠7∧h.kind≠11∧h.kind≠18∧h.kind≠19∧h.kind≠23∧h.kind≠24∧h.kind≠26∧h.kind≠27∧h.kind≠28∧h.kind≠30∧h.kind≠31):bB T B b nv ub ob (.mk i h ks):=by
 intro f loop pa la lc ms L st w hr bS cb;show Calls Tryz.prog 26 #[.pointer (some ⟨b,0,none⟩),.int .i64 (i:Int),.agg #[.int .i64 (f:Int),.int .i64 loop,.pointer pa,.slice la L.length lc]] w (aq B b nv T.length ub ob (.slice la L.length lc) L st (aY (.mk i h ks) f st) w)
 obtain⟨bk,o,c,NA,nc,KA,kc,rfl,eQ,ca,x0,x1,x2,x3,x4,x5,x6,sg,wu,pS,hbl,oN,s9,d0,d3,u0,v0,hH,HR,HN,tN,iT,kP,eK,sI,oH,fP,sW,HX,zt,Di⟩:=gT gD hn ie hr bS cb;clear hr hn ie bS cb gD;have q6:(h.kind == 6)=false:=aE.2 (by omega)
 have q7:(h.kind == 7)=false:=aE.2 (by omega)
 have yV:(h.kind == 11)=false:=aE.2 (by omega)
 have zG:(h.kind == 18)=false:=aE.2 (by omega)
 have WU:(h.kind == 23)=false:=aE.2 (by omega)
 have q26:(h.kind == 26)=false:=aE.2 (by omega)
 have q27:(h.kind == 27)=false:=aE.2 (by omega)
 have q24:(h.kind == 24)=false:=aE.2 (by omega)
 have q30:(h.kind == 30)=false:=aE.2 (by omega)
 have q31:(h.kind == 31)=false:=aE.2 (by omega)
 have bO:=aa hk;clear hk;go_enter Tryz.func26,Tryz.ntmps26
 go_wp2_with fail
 go_region
 obtain⟨W1,hW1,HZ,fA,pP,AZ,K,y0,tp,oO,tq,k0,k1,k2,k3⟩:=dY loop i HR.out eQ;rw[←hW1];have x0:=K _ _ x0;have x1:=K _ _ x1;have x2:=K _ _ x2;have x3:=K _ _ x3;have x4:=K _ _ x4;have x5:=K _ _ x5;have x6:=K _ _ x6;clear hW1 K d0 d3 u0 v0;have d0:=y0;clear y0;go_wp2_with fail
 obtain⟨W2,hW2⟩ :∃W2,W2=W1.alloc (.cells #[.int .i64 h.kind,.int .i64 h.line,.int .i64 h.op,.int .i64 h.num,.string h.s,.slice NA h.names.length nc,.slice KA h.kids.length kc] 55):=⟨_,rfl⟩;have cY:Below W1.heap.size W1 W2:=by rw[hW2];exact(Below.refl _ _).alloc (ai _) _
 rw[←hW2];have hr2:=HZ.out.dc cY;have hf2:cN B ob (.slice la L.length lc) L.length (ey L) w W2:=fA.out.trans (cN.bK cY HZ.out.world);have tt :∀k∈ks,bB T B b (.slice (some ⟨bk,o,none⟩) T.length c) ub ob k:=fun k hk=>tN.out k (by have:=fh hk;omega) (eK.out.at_ k hk)
 refine(Gx i f h ks loop pa la lc ms L (st.setOf i f) W2 (hr2.mono (wL _ _) (gj _)) HX.out fP.out eK.out tt (fun k hk mF=>by
  by_cases e:18≤h.kind
  ·exact iT.out e
  ·have:=Qr oH.out HN.out.kind.1 (by show h.kind<18;omega) (by have:=bO.out;omega) _ (j6 hk)
   omega) (fun k _=>.inl (kP.out.resolve_right (by have:=bO.out;omega))) (by
  unfold gO;rw[af (by have:=bO.out;omega),af (by have:=bO.out;omega),af (by have:=bO.out;omega),af (by have:=bO.out;omega)])).mono ?_
 intro e w3 hp;obtain⟨v,rfl⟩:=hp.ret;have HV:=aa hp;have l9:=aa hf2;clear hp hr2 hf2 tt;go_wp2_with fail
 go_ret
 have hE:aY (.mk i h ks) f st=aH ks f (st.setOf i f):=by
  rw[cw];rw[af (by have:=bO.out;omega)]
  rw[af (by have:=bO.out;omega)]
  rw[af (by have:=bO.out;omega)]
  rw[af (by have:=bO.out;omega)]
  rw[af (by have:=bO.out;omega)]
  rw[af (by have:=bO.out;omega)]
  rw[af (by have:=bO.out;omega)]
  rw[af (by have:=bO.out;omega)]
  rw[af (by have:=bO.out;omega)]
  rw[af (by have:=bO.out;omega)]
  rw[af (by have:=bO.out;omega)]
 rw[hE];exact aq.after l9.out rfl HV.out
theorem Qs {T:List Nd} {B b:Nat} {nv:Value} {ub ob:Nat} (gD :∀x∈T,x.s.size≤65536∧∀s∈x.names,s.size≤65536) (i:Nat) (h:Nd) (ks:List Lt) (hn:kD T (.mk i h ks)) (ie :∀u:Lt,u.size<Lt.al ks+1→kD T u→bB T B b nv ub ob u) (hk:h.kind=19):bB T B b nv ub ob (.mk i h ks):=by
 intro f loop pa la lc ms L st w hr bS cb;show Calls Tryz.prog 26 #[.pointer (some ⟨b,0,none⟩),.int .i64 (i:Int),.agg #[.int .i64 (f:Int),.int .i64 loop,.pointer pa,.slice la L.length lc]] w (aq B b nv T.length ub ob (.slice la L.length lc) L st (aY (.mk i h ks) f st) w)
 obtain⟨bk,o,c,NA,nc,KA,kc,rfl,eQ,ca,x0,x1,x2,x3,x4,x5,x6,sg,wu,pS,hbl,oN,s9,d0,d3,u0,v0,hH,HR,HN,tN,iT,kP,eK,sI,oH,fP,sW,HX,zt,Di⟩:=gT gD hn ie hr bS cb;clear hr hn ie bS cb gD;have q6:(h.kind == 6)=false:=aE.2 (by omega)
 have q7:(h.kind == 7)=false:=aE.2 (by omega)
 have yV:(h.kind == 11)=false:=aE.2 (by omega)
 have zG:(h.kind == 18)=false:=aE.2 (by omega)
 have WU:(h.kind == 23)=false:=aE.2 (by omega)
 have q26:(h.kind == 26)=false:=aE.2 (by omega)
 have q27:(h.kind == 27)=false:=aE.2 (by omega)
 have q24:(h.kind == 24)=false:=aE.2 (by omega)
 have q30:(h.kind == 30)=false:=aE.2 (by omega)
 have q31:(h.kind == 31)=false:=aE.2 (by omega)
 have bO:=aa hk;clear hk;go_enter Tryz.func26,Tryz.ntmps26
 go_wp2_with fail
 go_region
 obtain⟨W1,hW1,HZ,fA,pP,AZ,K,y0,tp,oO,tq,k0,k1,k2,k3⟩:=dY loop i HR.out eQ;rw[←hW1];have x0:=K _ _ x0;have x1:=K _ _ x1;have x2:=K _ _ x2;have x3:=K _ _ x3;have x4:=K _ _ x4;have x5:=K _ _ x5;have x6:=K _ _ x6;clear hW1 K d0 d3 u0 v0;have d0:=y0;clear y0;go_wp2_with fail
 obtain⟨W2,hW2⟩ :∃W2,W2=W1.alloc (.cells #[.int .i64 h.kind,.int .i64 h.line,.int .i64 h.op,.int .i64 h.num,.string h.s,.slice NA h.names.length nc,.slice KA h.kids.length kc] 55):=⟨_,rfl⟩;have cY:Below W1.heap.size W1 W2:=by rw[hW2];exact(Below.refl _ _).alloc (ai _) _
 rw[←hW2];have hr2:=HZ.out.dc cY;have hf2:cN B ob (.slice la L.length lc) L.length (ey L) w W2:=fA.out.trans (cN.bK cY HZ.out.world);have tt :∀k∈ks,bB T B b (.slice (some ⟨bk,o,none⟩) T.length c) ub ob k:=fun k hk=>tN.out k (by have:=fh hk;omega) (eK.out.at_ k hk)
 refine(JY i f h ks loop pa la lc ms L (kP.out.resolve_right (by have:=bO.out;omega)) (st.setOf i f) W2 (hr2.mono (ai _) (gj _)) HX.out fP.out eK.out tt (fun k hk mF=>iT.out (by have:=bO.out;omega)) zt.out.2 (by
  unfold gO;rw[af (by have:=bO.out;omega),af (by have:=bO.out;omega),af (by have:=bO.out;omega),ak bO.out])).mono ?_
 intro e w3 hp;obtain⟨v,rfl⟩:=hp.ret;have HV:=aa hp;have l9:=aa hf2;clear hp hr2 hf2 tt;go_wp2_with fail
 go_ret
 have hE:aY (.mk i h ks) f st=((aH ks f (st.setOf i f)).bind fun s1=>bz i f h.line h.names s1):=by
  rw[cw];rw[af (by have:=bO.out;omega)]
  rw[af (by have:=bO.out;omega)]
  rw[af (by have:=bO.out;omega)]
  rw[af (by have:=bO.out;omega)]
  rw[ak bO.out]
 rw[hE];exact aq.after l9.out rfl HV.out
theorem Qt {T:List Nd} {B b:Nat} {nv:Value} {ub ob:Nat} (gD :∀x∈T,x.s.size≤65536∧∀s∈x.names,s.size≤65536) (i:Nat) (h:Nd) (ks:List Lt) (hn:kD T (.mk i h ks)) (ie :∀u:Lt,u.size<Lt.al ks+1→kD T u→bB T B b nv ub ob u) (hk:h.kind=28):bB T B b nv ub ob (.mk i h ks):=by
 intro f loop pa la lc ms L st w hr bS cb;show Calls Tryz.prog 26 #[.pointer (some ⟨b,0,none⟩),.int .i64 (i:Int),.agg #[.int .i64 (f:Int),.int .i64 loop,.pointer pa,.slice la L.length lc]] w (aq B b nv T.length ub ob (.slice la L.length lc) L st (aY (.mk i h ks) f st) w)
 obtain⟨bk,o,c,NA,nc,KA,kc,rfl,eQ,ca,x0,x1,x2,x3,x4,x5,x6,sg,wu,pS,hbl,oN,s9,d0,d3,u0,v0,hH,HR,HN,tN,iT,kP,eK,sI,oH,fP,sW,HX,zt,Di⟩:=gT gD hn ie hr bS cb;clear hr hn ie bS cb gD;have q6:(h.kind == 6)=false:=aE.2 (by omega)
 have q7:(h.kind == 7)=false:=aE.2 (by omega)
 have yV:(h.kind == 11)=false:=aE.2 (by omega)
 have zG:(h.kind == 18)=false:=aE.2 (by omega)
 have WU:(h.kind == 23)=false:=aE.2 (by omega)
 have q26:(h.kind == 26)=false:=aE.2 (by omega)
 have q27:(h.kind == 27)=false:=aE.2 (by omega)
 have q24:(h.kind == 24)=false:=aE.2 (by omega)
 have q30:(h.kind == 30)=false:=aE.2 (by omega)
 have q31:(h.kind == 31)=false:=aE.2 (by omega)
 have bO:=aa hk;clear hk;go_enter Tryz.func26,Tryz.ntmps26
 go_wp2_with fail
 go_region
 obtain⟨W1,hW1,HZ,fA,pP,AZ,K,y0,tp,oO,tq,k0,k1,k2,k3⟩:=dY loop i HR.out eQ;rw[←hW1];have x0:=K _ _ x0;have x1:=K _ _ x1;have x2:=K _ _ x2;have x3:=K _ _ x3;have x4:=K _ _ x4;have x5:=K _ _ x5;have x6:=K _ _ x6;clear hW1 K d0 d3 u0 v0;have d0:=y0;clear y0;go_wp2_with fail
 obtain⟨W2,hW2⟩ :∃W2,W2=W1.alloc (.cells #[.int .i64 h.kind,.int .i64 h.line,.int .i64 h.op,.int .i64 h.num,.string h.s,.slice NA h.names.length nc,.slice KA h.kids.length kc] 55):=⟨_,rfl⟩;have cY:Below W1.heap.size W1 W2:=by rw[hW2];exact(Below.refl _ _).alloc (ai _) _
 rw[←hW2];have hr2:=HZ.out.dc cY;have hf2:cN B ob (.slice la L.length lc) L.length (ey L) w W2:=fA.out.trans (cN.bK cY HZ.out.world);have tt :∀k∈ks,bB T B b (.slice (some ⟨bk,o,none⟩) T.length c) ub ob k:=fun k hk=>tN.out k (by have:=fh hk;omega) (eK.out.at_ k hk)
 refine(JZ i f h ks loop pa la lc ms L (kP.out.resolve_right (by have:=bO.out;omega)) (st.setOf i f) W2 (hr2.mono (ai _) (gj _)) HX.out fP.out eK.out tt (fun k hk mF=>iT.out (by have:=bO.out;omega)) zt.out.2 (by
  unfold gO;rw[af (by have:=bO.out;omega),af (by have:=bO.out;omega),ak bO.out])).mono ?_
 intro e w3 hp;obtain⟨v,rfl⟩:=hp.ret;have HV:=aa hp;have l9:=aa hf2;clear hp hr2 hf2 tt;go_wp2_with fail
 go_ret
 have hE:aY (.mk i h ks) f st=((bz i f h.line h.names (st.setOf i f)).bind fun s1=>aH ks f s1):=by
  rw[cw];rw[af (by have:=bO.out;omega)]
  rw[af (by have:=bO.out;omega)]
  rw[af (by have:=bO.out;omega)]
  rw[af (by have:=bO.out;omega)]
  rw[af (by have:=bO.out;omega)]
  rw[af (by have:=bO.out;omega)]
  rw[af (by have:=bO.out;omega)]
  rw[af (by have:=bO.out;omega)]
  rw[ak bO.out]
 rw[hE];exact aq.after l9.out rfl HV.out
theorem fe.WV {T:List Nd} {B b:Nat} {nv:Value} {ub ob f:Nat} {pa:Option Addr} {lv:Value} {ms:List Nat} {L:List cJ} {st:aG} {w:World} {a s a' s':Nat} (h:fe T B b nv ub ob f pa lv ms L st w a s) (h1:a'≤a) (h2:s'+1≤s):zr T B b nv ub ob f pa lv ms L st w a' s' :=
 ⟨h.fE,h.rs,h.pos,h.cx,h.few,h.fr,by have:=h.names;omega,by have:=h.fns;omega,by have:=h.fC;omega⟩
theorem Qu {T:List Nd} {B b:Nat} {nv:Value} {ub ob:Nat} (gD :∀x∈T,x.s.size≤65536∧∀s∈x.names,s.size≤65536) (i:Nat) (h:Nd) (ks:List Lt) (hn:kD T (.mk i h ks)) (ie :∀u:Lt,u.size<Lt.al ks+1→kD T u→bB T B b nv ub ob u) (hk:h.kind=18):bB T B b nv ub ob (.mk i h ks):=by
 intro f loop pa la lc ms L st w hr bS cb;show Calls Tryz.prog 26 #[.pointer (some ⟨b,0,none⟩),.int .i64 (i:Int),.agg #[.int .i64 (f:Int),.int .i64 loop,.pointer pa,.slice la L.length lc]] w (aq B b nv T.length ub ob (.slice la L.length lc) L st (aY (.mk i h ks) f st) w)
 have sY:=hn.sub;have mH:=hn.Ku;unfold Lt.In at mH;obtain⟨hx,gU,_⟩:=mH;replace hr:fe T B b nv ub ob f pa (.slice la L.length lc) ms L st w (h.names.length+Lt.dM ks) (Lt.al ks+1):=by have h1:=hr;rw[Lt.wt,Lt.size] at h1;exact h1
 replace bS:18≤h.kind→loop=cG f st.frames:=bS;replace cb:L≠[]∨h.kind=18:=cb;obtain⟨lG,lH,lI⟩:=sY;replace lG:fI T ks:=lG;replace lH:h.kind≠18→∀k∈ks,Still k:=lH;replace lI:qB h.kind h.num (oM ks):=lI;have hxm:=gD h (ba hx);obtain⟨bk,o,c,rfl,eQ,ca,dN⟩:=hr.fE.nodes;obtain⟨zI,zJ,fM,⟨NA,nc,vW,_⟩,⟨KA,kc,rj,CA,JW⟩⟩:=dN i h hx;have sg:h.kids.length≤20000:=(hr.fE.small h (ba hx)).1;have ph:h.kids.length=ks.length:=by rw[gU,dm]
 subst vW rj;obtain⟨x0,x1,x2,x3,x4,x5,x6⟩:=fM;have wu:i<T.length:=(aL.1 hx).1;have pS:=hr.fE.few;obtain⟨fv,FL,hw⟩:=id hr.rs;obtain⟨hbl,oN,s9⟩:=hw.mV;have d0:w.cell? ⟨b,0,none⟩=some (.slice (some ⟨bk,o,none⟩) T.length c):=ab hw.blk 0;have d3:w.cell? ⟨b,3,none⟩=some (.slice (some ⟨ob,0,none⟩) T.length T.length):=ab hw.blk 3;obtain⟨u0,v0⟩:=da hw.wq (j:=i) (by omega)
 have hH:bk<w.heap.size:=by omega
 have qK:=aa gD;have HR:=aa hr;have HN:=aa hn;have tN:=aa ie;have iT:=aa bS;have kP:=aa cb;have eK:=aa lG;have sI:=aa lH;have oH:=aa lI;have fP:=aa gU;have sW:=aa ph;have HX:=aa hx;have zt:=aa hxm;have Di:=aa JW;clear hr hn ie bS cb lG lH lI gU ph hx hxm dN hw gD JW;have q6:(h.kind == 6)=false:=by rw[hk];rfl
 have q7:(h.kind == 7)=false:=by rw[hk];rfl
 have yV:(h.kind == 11)=false:=by rw[hk];rfl
 have zG:(h.kind == 18)=true:=by rw[hk];rfl
 have bO:=aa hk;clear hk;go_enter Tryz.func26,Tryz.ntmps26
 go_wp2_with fail
 go_region
 obtain⟨W1,hW1,HZ,fA,pP,AZ,K,y0,tp,oO,tq,k0,k1,k2,k3⟩:=dY loop i HR.out eQ;rw[←hW1];have x0:=K _ _ x0;have x1:=K _ _ x1;have x2:=K _ _ x2;have x3:=K _ _ x3;have x4:=K _ _ x4;have x5:=K _ _ x5;have x6:=K _ _ x6;clear hW1 K d0 d3 u0 v0;have d0:=y0;clear y0;go_wp2_with fail
 obtain⟨W2,hW2⟩ :∃W2,W2=W1.alloc (.cells #[.int .i64 h.kind,.int .i64 h.line,.int .i64 h.op,.int .i64 h.num,.string h.s,.slice NA h.names.length nc,.slice KA h.kids.length kc] 55):=⟨_,rfl⟩;have cY:Below W1.heap.size W1 W2:=by rw[hW2];exact(Below.refl _ _).alloc (ai _) _
 rw[←hW2];have hr2:=HZ.out.dc cY;have hf2:cN B ob (.slice la L.length lc) L.length (ey L) w W2:=fA.out.trans (cN.bK cY HZ.out.world);have tt :∀k∈ks,bB T B b (.slice (some ⟨bk,o,none⟩) T.length c) ub ob k:=fun k hk=>tN.out k (by have:=fh hk;omega) (eK.out.at_ k hk)
 refine(ya i f h ks [] false loop pa la lc ms L (st.setOf i f) W2 (.slice none 0 0) (hr2.WV (wL _ _) (by show Lt.al ks+0+1≤_;omega)) HX.out fP.out eK.out ⟨by unfold Lt.u9;trivial,by unfold Lt.iE;trivial,by unfold Lt.zb;trivial,by unfold Lt.bt;exact EN,fun k hk=>by cases hk⟩ tt (fun k hk=>by cases hk) ⟨none,0,rfl,ai _,.inl rfl⟩ rfl (fun k hk mF=>iT.out (by have:=bO.out;omega)) (fun k hk=>by cases hk) (fun x hx=>(qK.out x.hd (ba (vm eK.out.Ku (List.getElem?_of_mem hx).choose_spec).2)).1) (by simp)).mono ?_
 intro e w3 hp;obtain⟨v,rfl⟩:=hp.ret;have HV:=aa hp;have l9:=aa hf2;clear hp hr2 hf2 tt;go_wp2_with fail
 go_ret
 have hE:aY (.mk i h ks) f st=(wB i f false ks [] (st.setOf i f)).map fun s=>s.back (st.setOf i f):=by
  rw[cw];rw[af (by have:=bO.out;omega)]
  rw[af (by have:=bO.out;omega)]
  rw[af (by have:=bO.out;omega)]
  rw[ak bO.out];unfold wB;rw[JX];cases gz i f false ks (st.setOf i f) with
  | error y=>rfl
  | ok s1 =>
   show(cF ks 0 f s1).map _=((cF ks 0 f s1).bind fun s2=>aH [] f s2).map _
   cases cF ks 0 f s1 with
   | error y=>rfl
   | ok s2=>show _=(aH [] f s2).map _;rw[eD]
 rw[hE];exact aq.after l9.out rfl HV.out
theorem Qv {T:List Nd} {B b:Nat} {nv:Value} {ub ob:Nat} (gD :∀x∈T,x.s.size≤65536∧∀s∈x.names,s.size≤65536) (i:Nat) (h:Nd) (ks:List Lt) (hn:kD T (.mk i h ks)) (ie :∀u:Lt,u.size<Lt.al ks+1→kD T u→bB T B b nv ub ob u) (hk:h.kind=23):bB T B b nv ub ob (.mk i h ks):=by
 intro f loop pa la lc ms L st w hr bS cb;show Calls Tryz.prog 26 #[.pointer (some ⟨b,0,none⟩),.int .i64 (i:Int),.agg #[.int .i64 (f:Int),.int .i64 loop,.pointer pa,.slice la L.length lc]] w (aq B b nv T.length ub ob (.slice la L.length lc) L st (aY (.mk i h ks) f st) w)
 obtain⟨bk,o,c,NA,nc,KA,kc,rfl,eQ,ca,x0,x1,x2,x3,x4,x5,x6,sg,wu,pS,hbl,oN,s9,d0,d3,u0,v0,hH,HR,HN,tN,iT,kP,eK,sI,oH,fP,sW,HX,zt,Di⟩:=gT gD hn ie hr bS cb;clear hr hn ie bS cb gD;have q6:(h.kind == 6)=false:=by rw[hk];rfl
 have q7:(h.kind == 7)=false:=by rw[hk];rfl
 have yV:(h.kind == 11)=false:=by rw[hk];rfl
 have zG:(h.kind == 18)=false:=by rw[hk];rfl
 have WU:(h.kind == 23)=true:=by rw[hk];rfl
 have bO:=aa hk;clear hk;go_enter Tryz.func26,Tryz.ntmps26
 go_wp2_with fail
 go_region
 obtain⟨W1,hW1,HZ,fA,pP,AZ,K,y0,tp,oO,tq,k0,k1,k2,k3⟩:=dY loop i HR.out eQ;rw[←hW1];have x0:=K _ _ x0;have x1:=K _ _ x1;have x2:=K _ _ x2;have x3:=K _ _ x3;have x4:=K _ _ x4;have x5:=K _ _ x5;have x6:=K _ _ x6;clear hW1 K d0 d3 u0 v0;have d0:=y0;clear y0;go_wp2_with fail
 obtain⟨W2,hW2⟩ :∃W2,W2=W1.alloc (.cells #[.int .i64 h.kind,.int .i64 h.line,.int .i64 h.op,.int .i64 h.num,.string h.s,.slice NA h.names.length nc,.slice KA h.kids.length kc] 55):=⟨_,rfl⟩;have cY:Below W1.heap.size W1 W2:=by rw[hW2];exact(Below.refl _ _).alloc (ai _) _
 rw[←hW2];refine(mn f loop (i:Int) pa la L.length lc W2).mono ?_;rintro e wv ⟨rfl,WW⟩;have cY:=cY.trans (WW.mono cY.size);clear hW2 WW;go_wp2_with fail
 have hr2:=HZ.out.dc cY;have hf2:cN B ob (.slice la L.length lc) L.length (ey L) w wv:=fA.out.trans (cN.bK cY HZ.out.world);have tt :∀k∈ks,bB T B b (.slice (some ⟨bk,o,none⟩) T.length c) ub ob k:=fun k hk=>tN.out k (by have:=fh hk;omega) (eK.out.at_ k hk)
 refine(Gx i f h ks (i:Int) pa la lc ms L (df i f (st.setOf i f)) wv ((hr2.mono (wL _ _) (gj _)).oI i) HX.out fP.out eK.out tt (fun k hk mF=>(vy f i _).symm) (fun k _=>.inl (kP.out.resolve_right (by have:=bO.out;omega))) (by
  unfold gO;rw[af (by have:=bO.out;omega),af (by have:=bO.out;omega),af (by have:=bO.out;omega),af (by have:=bO.out;omega)])).mono ?_
 intro e w3 hp;obtain⟨v,rfl⟩:=hp.ret;have HV:=aa hp;have l9:=aa hf2;clear hp hr2 hf2 tt;go_wp2_with fail
 go_ret
 have hE:aY (.mk i h ks) f st=(aH ks f (df i f (st.setOf i f))).map fun s=>s.back (st.setOf i f):=by
  rw[cw];rw[af (by have:=bO.out;omega)]
  rw[af (by have:=bO.out;omega)]
  rw[af (by have:=bO.out;omega)]
  rw[af (by have:=bO.out;omega)]
  rw[af (by have:=bO.out;omega)]
  rw[ak bO.out]
 rw[hE];exact aq.after l9.out rfl (HV.out.Vo (st':=st.setOf i f) rfl fun s' hs'=>qI ks eK.out.quiet (sI.out (by have:=bO.out;omega)) hs')
end Go.Proofs.YteflkdlaoiijbaaGreatDoor
