/- Parts of the proof. -/
import Derived.StillTail
import Derived.Lib.IfaceEq
import Derived.Test.YteflkdlaoiijbaaGreatDoorB13
set_option maxHeartbeats 16000000
set_option maxRecDepth 20000
namespace Go.Proofs.YteflkdlaoiijbaaGreatDoor
open Go.RowKit
theorem zu :∀a b:List Lt,Lt.dM (a++b)=Lt.dM a+Lt.dM b
 | [],b=>by rw[mY,show Lt.dM []=0 from rfl,jB]
 | x::a,b=>by rw[dB,Lt.dM,Lt.dM,zu a b,pW]
theorem yb :∀a b:List Lt,Lt.bt (a++b)=Lt.bt a++Lt.bt b
 | [],b=>rfl
 | x::a,b=>by rw[dB,Lt.bt,Lt.bt,yb a b,eS]
theorem fI.app {T:List Nd} :∀{a b:List Lt},fI T (a++b)→fI T a∧fI T b
 | [],b,h=>⟨⟨by unfold Lt.u9;trivial,by unfold Lt.iE;trivial,by unfold Lt.zb;trivial,by unfold Lt.bt;exact EN,fun k hk=>by cases hk⟩,h⟩
 | x::a,b,h=>by
  obtain⟨h1,h2⟩:=fI.cons (k:=x) (ks:=a++b) h;obtain⟨h3,h4⟩:=fI.app h2;have h5:=h.nodup;rw[yb,oR] at h5;exact⟨⟨by unfold Lt.u9;exact⟨h1.Ku,h3.Ku⟩,by unfold Lt.iE;exact⟨h1.form,h3.form⟩,by unfold Lt.zb;exact⟨h1.wf,h3.wf⟩,h5.1,fun k hk=>h.kind k (gh b hk)⟩,h4⟩
theorem vL {ks:List Lt} {l:List Int} (h:oM ks=l++[18]) :∃vals blk,ks=vals++[blk]∧oM vals=l∧blk.hd.kind=18:=by
 unfold oM at h;obtain⟨a,b,e,h1,h2⟩:=wG.1 h;obtain⟨x,e2,h3⟩:=List.map_eq_singleton_iff.1 h2;exact⟨a,x,by rw[e,e2],h1,h3⟩
theorem Qw {T:List Nd} {B b:Nat} {nv:Value} {ub ob:Nat} (gD :∀x∈T,x.s.size≤65536∧∀s∈x.names,s.size≤65536) (i:Nat) (h:Nd) (ks:List Lt) (hn:kD T (.mk i h ks)) (ie :∀u:Lt,u.size<Lt.al ks+1→kD T u→bB T B b nv ub ob u) (hk:h.kind=26):bB T B b nv ub ob (.mk i h ks):=by
 intro f loop pa la lc ms L st w hr bS cb;show Calls Tryz.prog 26 #[.pointer (some ⟨b,0,none⟩),.int .i64 (i:Int),.agg #[.int .i64 (f:Int),.int .i64 loop,.pointer pa,.slice la L.length lc]] w (aq B b nv T.length ub ob (.slice la L.length lc) L st (aY (.mk i h ks) f st) w)
 obtain⟨bk,o,c,NA,nc,KA,kc,rfl,eQ,ca,x0,x1,x2,x3,x4,x5,x6,sg,wu,pS,hbl,oN,s9,d0,d3,u0,v0,hH,HR,HN,tN,iT,kP,eK,sI,oH,fP,sW,HX,zt,Di⟩:=gT gD hn ie hr bS cb;clear hr hn ie bS cb gD;have q6:(h.kind == 6)=false:=by rw[hk];rfl
 have q7:(h.kind == 7)=false:=by rw[hk];rfl
 have yV:(h.kind == 11)=false:=by rw[hk];rfl
 have zG:(h.kind == 18)=false:=by rw[hk];rfl
 have WU:(h.kind == 23)=false:=by rw[hk];rfl
 have q26:(h.kind == 26)=true:=by rw[hk];rfl
 have bO:=aa hk;clear hk;go_enter Tryz.func26,Tryz.ntmps26
 go_wp2_with fail
 go_region
 obtain⟨W1,hW1,HZ,fA,pP,AZ,K,y0,tp,oO,tq,k0,k1,k2,k3⟩:=dY loop i HR.out eQ;rw[←hW1];have x0:=K _ _ x0;have x1:=K _ _ x1;have x2:=K _ _ x2;have x3:=K _ _ x3;have x4:=K _ _ x4;have x5:=K _ _ x5;have x6:=K _ _ x6;clear hW1 K d0 d3 u0 v0;have d0:=y0;clear y0;obtain⟨l,hl0,yP⟩ :∃l,oM ks=l++[18]∧∀a∈l,tL a:=by
  obtain⟨l,h1,_,h2⟩:=oH.out.for_ bO.out;exact⟨l,h1,h2⟩
 obtain⟨vals,blk,rfl,hv,hb⟩:=vL hl0;subst hv;go_wp2_with fail
 obtain⟨W2,hW2⟩ :∃W2,W2=W1.alloc (.cells #[.int .i64 h.kind,.int .i64 h.line,.int .i64 h.op,.int .i64 h.num,.string h.s,.slice NA h.names.length nc,.slice KA h.kids.length kc] 55):=⟨_,rfl⟩;have cY:Below W1.heap.size W1 W2:=by rw[hW2];exact(Below.refl _ _).alloc (ai _) _
 rw[←hW2];refine(mn f loop (i:Int) pa la L.length lc W2).mono ?_;rintro e wv ⟨rfl,WW⟩;have cY:=cY.trans (WW.mono cY.size);clear hW2 WW;go_wp2_with fail
 have hr2:=HZ.out.dc cY;have hf2:cN B ob (.slice la L.length lc) L.length (ey L) w wv:=fA.out.trans (cN.bK cY HZ.out.world);have tt :∀k∈vals++[blk],bB T B b (.slice (some ⟨bk,o,none⟩) T.length c) ub ob k:=fun k hk=>tN.out k (by have:=fh hk;omega) (eK.out.at_ k hk)
 have hlen:h.kids.length=vals.length+1:=by rw[sW.out,bM,mX]
 refine(Ch i f h vals [blk] (i:Int) pa la lc ms L (st.setOf i f) wv (hr2.mono (by rw[zu];omega) (by rw[pK];omega)) HX.out (by rw[fP.out,mZ]) (by simp) eK.out.app.1 eK.out.app.2 (fun k hk=>tt k (gh _ hk)) (fun k hk=>tt k (jc _ hk)) (fun k hk=>by have:=yP _ (j6 hk);unfold tL at this;omega) (fun k hk=>sI.out (by have:=bO.out;omega) k (gh _ hk)) (kP.out.resolve_right (by have:=bO.out;omega)) zt.out.2 rfl (by
  unfold gO;rw[ak (by have:=bO.out;omega),hlen]
  congr 2
  omega)).mono ?_
 intro e w3 hp;obtain⟨v,rfl⟩:=hp.ret;have HV:=aa hp;have l9:=aa hf2;clear hp hr2 hf2 tt;go_wp2_with fail
 go_ret
 have hE:aY (.mk i h (vals++[blk])) f st=((aH vals f (st.setOf i f)).bind fun s1=>((bz i f h.line h.names (df i f s1)).bind fun s2=>aH [blk] f s2).map fun s=>s.back s1):=by
  rw[cw];rw[af (by have:=bO.out;omega)]
  rw[af (by have:=bO.out;omega)]
  rw[af (by have:=bO.out;omega)]
  rw[af (by have:=bO.out;omega)]
  rw[af (by have:=bO.out;omega)]
  rw[af (by have:=bO.out;omega)]
  rw[af (by have:=bO.out;omega)]
  rw[ak (by have:=bO.out;omega)]
  exact qV blk vals (st.setOf i f)
 rw[hE];exact aq.after l9.out rfl HV.out
theorem Qx {T:List Nd} {B b:Nat} {nv:Value} {ub ob:Nat} (gD :∀x∈T,x.s.size≤65536∧∀s∈x.names,s.size≤65536) (i:Nat) (h:Nd) (ks:List Lt) (hn:kD T (.mk i h ks)) (ie :∀u:Lt,u.size<Lt.al ks+1→kD T u→bB T B b nv ub ob u) (hk:h.kind=27):bB T B b nv ub ob (.mk i h ks):=by
 intro f loop pa la lc ms L st w hr bS cb;show Calls Tryz.prog 26 #[.pointer (some ⟨b,0,none⟩),.int .i64 (i:Int),.agg #[.int .i64 (f:Int),.int .i64 loop,.pointer pa,.slice la L.length lc]] w (aq B b nv T.length ub ob (.slice la L.length lc) L st (aY (.mk i h ks) f st) w)
 obtain⟨bk,o,c,NA,nc,KA,kc,rfl,eQ,ca,x0,x1,x2,x3,x4,x5,x6,sg,wu,pS,hbl,oN,s9,d0,d3,u0,v0,hH,HR,HN,tN,iT,kP,eK,sI,oH,fP,sW,HX,zt,Di⟩:=gT gD hn ie hr bS cb;clear hr hn ie bS cb gD;have q6:(h.kind == 6)=false:=by rw[hk];rfl
 have q7:(h.kind == 7)=false:=by rw[hk];rfl
 have yV:(h.kind == 11)=false:=by rw[hk];rfl
 have zG:(h.kind == 18)=false:=by rw[hk];rfl
 have WU:(h.kind == 23)=false:=by rw[hk];rfl
 have q26:(h.kind == 26)=false:=by rw[hk];rfl
 have q27:(h.kind == 27)=true:=by rw[hk];rfl
 have bO:=aa hk;clear hk;go_enter Tryz.func26,Tryz.ntmps26
 go_wp2_with fail
 go_region
 obtain⟨W1,hW1,HZ,fA,pP,AZ,K,y0,tp,oO,tq,k0,k1,k2,k3⟩:=dY loop i HR.out eQ;rw[←hW1];have x0:=K _ _ x0;have x1:=K _ _ x1;have x2:=K _ _ x2;have x3:=K _ _ x3;have x4:=K _ _ x4;have x5:=K _ _ x5;have x6:=K _ _ x6;clear hW1 K d0 d3 u0 v0;have d0:=y0;clear y0;obtain⟨l,hl0,yP⟩ :∃l,oM ks=l++[18]∧∀a∈l,tL a:=by
  obtain⟨l,h1,_,h2⟩:=oH.out.each bO.out;exact⟨l,h1,h2⟩
 obtain⟨vals,blk,rfl,hv,hb⟩:=vL hl0;subst hv;go_wp2_with fail
 obtain⟨W2,hW2⟩ :∃W2,W2=W1.alloc (.cells #[.int .i64 h.kind,.int .i64 h.line,.int .i64 h.op,.int .i64 h.num,.string h.s,.slice NA h.names.length nc,.slice KA h.kids.length kc] 55):=⟨_,rfl⟩;have cY:Below W1.heap.size W1 W2:=by rw[hW2];exact(Below.refl _ _).alloc (ai _) _
 rw[←hW2];refine(mn f loop (i:Int) pa la L.length lc W2).mono ?_;rintro e wv ⟨rfl,WW⟩;have cY:=cY.trans (WW.mono cY.size);clear hW2 WW;go_wp2_with fail
 have hr2:=HZ.out.dc cY;have hf2:cN B ob (.slice la L.length lc) L.length (ey L) w wv:=fA.out.trans (cN.bK cY HZ.out.world);have tt :∀k∈vals++[blk],bB T B b (.slice (some ⟨bk,o,none⟩) T.length c) ub ob k:=fun k hk=>tN.out k (by have:=fh hk;omega) (eK.out.at_ k hk)
 have hlen:h.kids.length=vals.length+1:=by rw[sW.out,bM,mX]
 refine(Ch i f h vals [blk] (i:Int) pa la lc ms L (st.setOf i f) wv (hr2.mono (by rw[zu];omega) (by rw[pK];omega)) HX.out (by rw[fP.out,mZ]) (by simp) eK.out.app.1 eK.out.app.2 (fun k hk=>tt k (gh _ hk)) (fun k hk=>tt k (jc _ hk)) (fun k hk=>by have:=yP _ (j6 hk);unfold tL at this;omega) (fun k hk=>sI.out (by have:=bO.out;omega) k (gh _ hk)) (kP.out.resolve_right (by have:=bO.out;omega)) zt.out.2 rfl (by
  unfold gO;rw[ak (by have:=bO.out;omega),hlen]
  congr 2
  omega)).mono ?_
 intro e w3 hp;obtain⟨v,rfl⟩:=hp.ret;have HV:=aa hp;have l9:=aa hf2;clear hp hr2 hf2 tt;go_wp2_with fail
 go_ret
 have hE:aY (.mk i h (vals++[blk])) f st=((aH vals f (st.setOf i f)).bind fun s1=>((bz i f h.line h.names (df i f s1)).bind fun s2=>aH [blk] f s2).map fun s=>s.back s1):=by
  rw[cw];rw[af (by have:=bO.out;omega)]
  rw[af (by have:=bO.out;omega)]
  rw[af (by have:=bO.out;omega)]
  rw[af (by have:=bO.out;omega)]
  rw[af (by have:=bO.out;omega)]
  rw[af (by have:=bO.out;omega)]
  rw[af (by have:=bO.out;omega)]
  rw[ak (by have:=bO.out;omega)]
  exact qV blk vals (st.setOf i f)
 rw[hE];exact aq.after l9.out rfl HV.out
structure En (T:List Nd) (B b:Nat) (nv:Value) (ub ob f:Nat) (pa:Option Addr) (lv:Value) (ms:List Nat) (L:List cJ) (st:aG) (w:World) (a s:Nat):Prop where
 fE:wo w B nv T
 rs:jV w B b nv T.length st ub ob
 pos:pg w B f (.pointer pa) lv ms L st
 hd:HdF f L
 lt:f<st.fns.length
 few:dA st.fns
 fr :∀x∈st.frames,x.fn<st.fns.length
 names:st.names.length+a≤100000
 fns:st.fns.length+s≤100000
 fC:L.length+s≤100000
structure sX (T:List Nd) (B b:Nat) (nv:Value) (ub ob f:Nat) (pa:Option Addr) (lv:Value) (ms:List Nat) (L:List cJ) (st:aG) (w:World) (a s:Nat):Prop where
 fE:wo w B nv T
 rs:jV w B b nv T.length st ub ob
 pos:pg w B f (.pointer pa) lv ms L st
 lt:f<st.fns.length
 few:dA st.fns
 fr :∀x∈st.frames,x.fn<st.fns.length
 names:st.names.length+a≤100000
 fns:st.fns.length+s≤100000
 fC:L.length+1+s≤100000
theorem Eo {T:List Nd} {B b:Nat} {nv:Value} {ub ob f:Nat} {pa la:Option Addr} {lc:Nat} {ms:List Nat} {L:List cJ} {st:aG} {w:World} {a s:Nat} (loop:Int) (h:sX T B b nv ub ob f pa (.slice la L.length lc) ms L st w a s) :
  Calls Tryz.prog 112 #[.agg #[.int .i64 (f:Int),.int .i64 loop,.pointer pa,.slice la L.length lc]] w fun e w'=>∃g c m,e=.returned (.agg #[.int .i64 (f:Int),.int .i64 loop,.pointer pa,.slice (some ⟨g,0,none⟩) (L.length+1) c])∧En T B b nv ub ob f pa (.slice (some ⟨g,0,none⟩) (L.length+1) c) ms (⟨f,m,[]⟩::L) st w' a s∧w.heap.size≤m∧((Value.slice la L.length lc).ownBlock=some g∨w.heap.size≤g)∧cN B ob (.slice la L.length lc) L.length none w w':=by
 have ca:B≤w.heap.size:=by obtain⟨_,_,_,_,_,h,_⟩:=h.fE.nodes;exact h
 refine(xZ f loop pa la lc L w h.pos.fC (by have:=h.fC;omega) ca).mono ?_
 rintro e w' ⟨g,c,m,he,h1,h2,h3,h4,h5⟩;have hf:=h4 ob;refine⟨g,c,m,he,⟨h.fE.below hf.below,?_,⟨h1,h.pos.blk.jq hf (by simp),h.pos.names,?_⟩,?_,h.lt,h.few,h.fr,h.names,h.fns,?_⟩,h2,h3,hf⟩
 ·obtain⟨fv,FL,hw⟩:=h.rs
  exact⟨fv,FL,hw.fr h5 (by decide)⟩
 ·intro m' hm' l hl
  rcases bb.1 hl with rfl|hl
  ·have:=b9.lt h.pos.blk m' hm'
   show m'≠m
   omega
  ·exact h.pos.apart m' hm' l hl
 ·intro l r e
  injection e with e _;rw[←e]
 ·have:=h.fC
  rw[List.length_cons];omega
theorem sX.dc {T:List Nd} {B b:Nat} {nv:Value} {ub ob f:Nat} {pa:Option Addr} {lv:Value} {ms:List Nat} {L:List cJ} {st:aG} {w w':World} {a s:Nat} (h:sX T B b nv ub ob f pa lv ms L st w a s) (hb:Below w.heap.size w w'):sX T B b nv ub ob f pa lv ms L st w' a s:=by
 have ca:B≤w.heap.size:=by obtain⟨_,_,_,_,_,h,_⟩:=h.fE.nodes;exact h
 have h2:cN B ob lv L.length none w w':=cN.bK hb ca;refine⟨h.fE.below h2.below,?_,⟨h.pos.fC.jq h2 (ai _),h.pos.blk.jq h2 (by simp),h.pos.names,h.pos.apart⟩,h.lt,h.few,h.fr,h.names,h.fns,h.fC⟩
 obtain⟨fv,FL,hw⟩:=h.rs;exact⟨fv,FL,hw.later hb⟩
theorem sX.levels {T:List Nd} {B b:Nat} {nv:Value} {ub ob f:Nat} {pa:Option Addr} {lv:Value} {ms:List Nat} {L:List cJ} {st:aG} {w:World} {a s:Nat} (h:sX T B b nv ub ob f pa lv ms L st w a s) :∀l∈L,l.blk<w.heap.size:=fun l hl=>(h.pos.fC.maps l hl).1.lt
theorem En.Ve {T:List Nd} {B b:Nat} {nv:Value} {ub ob f:Nat} {pa:Option Addr} {lv:Value} {ms:List Nat} {L:List cJ} {st:aG} {w w':World} {a s:Nat} (h:En T B b nv ub ob f pa lv ms L st w a s) (k:Fr [92] w w') (hb:Below B w w'):En T B b nv ub ob f pa lv ms L st w' a s:=by
 refine⟨h.fE.below hb,?_,⟨h.pos.fC.fr k (by decide),b9.fr k (by decide) h.pos.blk,h.pos.names,h.pos.apart⟩,h.hd,h.lt,h.few,h.fr,h.names,h.fns,h.fC⟩
 obtain⟨fv,FL,hw⟩:=h.rs;exact⟨fv,FL,hw.fr k (by decide)⟩
theorem En.step {T:List Nd} {B b:Nat} {nv:Value} {ub ob f:Nat} {pa:Option Addr} {lv:Value} {ms:List Nat} {L:List cJ} {st st':aG} {w w':World} {a s a1 s1:Nat} {e:Ending} (h:En T B b nv ub ob f pa lv ms L st w (a1+a) (s1+s)) (xe:Mk a1 s1 st st') (vU:Cx f st') (hf:st'.frames=st.frames) (hp:aq B b nv T.length ub ob lv L st (.ok st') w e w') :
  e=.returned .nilIface∧∃x,st'.names=x++st.names∧(L=[]→x=[])∧fe T B b nv ub ob f pa lv ms (grow x L) st' w' a s∧cN B ob lv L.length (ey L) w w':=by
 obtain⟨hb,rfl,Rv,mT,x,hx1,hx2,hx3⟩:=hp;refine⟨rfl,x,hx1,hx2,⟨h.fE.below hb,Rv,h.pos.on mT hx3 hx1 hx2 hf,h.hd.grow x,vU,xe.few,fun y hy=>?_,?_,?_,?_⟩,mT⟩
 ·rw[hf] at hy
  exact cC (h.fr y hy) xe.least
 ·have:=xe.names;have:=h.names;omega
 ·have:=xe.fns;have:=h.fns;omega
 ·rw[cy];have:=h.fC;omega
theorem J0 {T:List Nd} {B b:Nat} {nv:Value} {ub ob:Nat} (i f:Nat) (h:Nd) (rest:List Lt) (loop:Int) (pa la:Option Addr) (lc:Nat) (ms:List Nat) (L:List cJ) (st:aG) (w:World) (hr:sX T B b nv ub ob f pa (.slice la L.length lc) ms L st w (h.names.length+Lt.dM rest) (Lt.al rest)) (hx:T[i]? = some h) (hk:h.kids=rest.map fun k=>(k.loc:Int)) (Ci:rest≠[]) (ra:fI T rest) (hV2 :∀k∈rest,bB T B b nv ub ob k)
  (hl :∀k∈rest,18≤k.hd.kind→loop=cG f st.frames) (hsz :∀s∈h.names,s.size≤65536) (vU :∀s2,bz i f h.line h.names st=.ok s2→Cx f s2) (hd:gO h.kind h.kids.length=(true,0,true)) :
  Calls Tryz.prog 55 #[.pointer (some ⟨b,0,none⟩),.int .i64 (i:Int),.agg #[.int .i64 (f:Int),.int .i64 loop,.pointer pa,.slice la L.length lc]] w (aq B b nv T.length ub ob (.slice la L.length lc) L st (((bz i f h.line h.names st).bind fun s2=>aH rest f s2).map fun s=>s.back st) w):=by
 obtain⟨bk,o,c,rfl,eQ,ca,dN⟩:=hr.fE.nodes;obtain⟨zI,zJ,fM,⟨NA,nc,vW,_⟩,fF⟩:=dN i h hx;have sg:h.kids.length≤20000:=(hr.fE.small h (ba hx)).1;have ph:h.kids.length=rest.length:=by rw[hk,dm]
 have hr1:1≤rest.length:=wI.2 Ci;obtain⟨KA,kc,rj,CA,JW⟩:=id fF;subst vW rj;obtain⟨sb,so,rfl⟩ :∃sb so,KA=some ⟨sb,so,none⟩:=by
  rcases JW with h0 | ⟨sb,so,h1,_⟩
  ·rw[h0] at ph;simp at ph;omega
  ·exact⟨sb,so,h1⟩
 obtain⟨x0,x1,x2,x3,x4,x5,x6⟩:=fM;have wu:i<T.length:=(aL.1 hx).1;have pS:=hr.fE.few;have hbl:b<w.heap.size:=by obtain⟨_,_,hw⟩:=hr.rs;exact hw.mV.1
 have d0:w.cell? ⟨b,0,none⟩=some (.slice (some ⟨bk,o,none⟩) T.length c):=by obtain⟨_,_,hw⟩:=hr.rs;exact ab hw.blk 0
 have hH:bk<w.heap.size:=by omega
 have HD:=aa (gP h.kind h.line h.op h.num h.s NA (some ⟨sb,so,none⟩) h.names.length nc h.kids.length kc);have Cj:gM w B (.slice (some ⟨sb,so,none⟩) h.kids.length kc) (rest.map fun k=>(k.loc:Int)):=by
  rw[←hk];exact fF
 have HR:=aa hr;have S0:=aa ra;have HV2:=aa hV2;have Qk:=aa Cj;have Vd:=aa hd;have HK:=aa hk;have nO:=aa hr1;have qK:=aa hsz;have HX:=aa hx;have sW:=aa ph;have HL:=aa hl;have HCX:=aa vU;clear vU hr1 ph hr hl fF Cj hd dN hk ra hV2 JW hsz hx Ci;go_enter Tryz.func55,Tryz.ntmps55
 go_wp2_with fail
 refine(HD.out _ (by omega)).mono ?_
 rw[Vd.out];rintro e w1 ⟨rfl,hb1⟩;have dK:=aa hb1;clear hb1;go_wp2_with fail
 have zq:=lF rfl dK.out (.bool true) (.int .i64 0) (.bool true);have qU:=aa zq.2;have pj:=aa zq.1;clear zq;clear d0 x0 x1 x2 x3 x4 x5 x6;generalize w1.alloc (.cells #[.bool true,.int .i64 0,.bool true] 189)=W2 at qU pj ⊢;generalize w1.heap.size=q at qU ⊢;generalize w.heap.size+1=p at qU ⊢;obtain⟨k0,k1,k2,k3,k4,k5,k6,k7,k8⟩:=qU.out.cells;go_still_tail 7,(by kernel_rfl)
 change wpList _ _ _ _ _ W2.drew;have D2:=aa (show Below W2.heap.size W2 W2.drew from(Below.refl _ _).drew)
 generalize W2.drew=W3 at D2 ⊢;go_wp2_with fail
 refine(all_nil b f loop pa la (some ⟨sb,so,none⟩) L.length lc kc W3).mono ?_;rintro e w4 ⟨rfl,hb4⟩;have CG:=D2.out.trans (hb4.mono D2.out.size);have xo:=pj.out.trans (CG.mono pj.out.size);have P5:=aa (qU.out.later CG);have Qg:Hid (cN B ob (.slice la L.length lc) L.length (ey L) w w4):=aa (cN.bK xo ca);have hz:=HR.out.dc xo;have HZ:=aa hz;have HOP:=aa (Eo loop hz);have adP:=xo.size;clear hb4 CG xo hz k0 k1 k2 k3 k4 k5 k6 k7 k8;obtain⟨k0,k1,k2,k3,k4,k5,k6,k7,k8⟩:=P5.out.cells;go_wp2_with fail
 refine HOP.out.mono ?_;rintro e w6 ⟨g,c6,m,rfl,PB,hm,hg,Rw⟩;have P6:=aa (P5.out.jq Rw);have y0:=aw P6.out.pos 0;have y1:=aw P6.out.pos 1;have y2:=aw P6.out.pos 2;have y3:=aw P6.out.pos 3;have HR6:=aa PB;have HM:=aa hm;have HG:=aa hg;have PC:=aa Rw;clear PB hm hg Rw k0 k1 k2 k3 k4 k5 k6 k7 k8;obtain⟨k0,k1,k2,k3,k4,k5,k6,k7,k8⟩:=P6.out.cells;obtain⟨W7,wA⟩ :∃W7,W7=four w6 w.heap.size (.int .i64 (f:Int)) (.int .i64 loop) (.pointer pa) (.slice (some ⟨g,0,none⟩) (L.length+1) c6):=⟨_,rfl⟩;have P7:Hid (fg w W7 p q f loop pa (.slice (some ⟨g,0,none⟩) (L.length+1) c6) (.slice (some ⟨sb,so,none⟩) h.kids.length kc) (.slice NA h.names.length nc) (.bool true) (.int .i64 0) (.bool true)):=aa (by rw[wA];exact P6.out.four _ _ _)
 have kn:vV w6 w.heap.size 92:=⟨_,_,P6.out.pos⟩;have F7:Hid (Fr [92] w6 W7):=aa (by rw[wA];exact vK kn _ _ _ _)
 have B7:Hid (Below B w6 W7):=aa (by rw[wA];exact pO w6 ca _ _ _ _)
 have K7:Hid (∀k,k≠w.heap.size→W7.heap[k]? = w6.heap[k]?):=aa (by rw[wA];exact fun k hk=>oa w6 _ _ _ _ _ k hk)
 unfold four at wA;have HW7:=aa wA;clear wA kn;have hpn:p≠w.heap.size:=by have:=P5.out.pne;omega
 have hqn:q≠w.heap.size:=by have:=P5.out.qne;omega
 go_wp2_with fail
 rw[←HW7.out];have HZ0:=HZ.out;have hlt :∀l∈L,l.blk≠m:=fun l hl=>by have:=HZ.out.levels l hl;have:=HM.out;omega
 have Ck:=HR6.out.Ve F7.out B7.out;have WK:cN B ob (.slice la L.length lc) L.length (ey L) w W7:=(Qg.out.trans (PC.out.Gk _)).past B7.out fun k hk=>K7.out k (by omega)
 have hLV:cX W7 B (.slice la L.length lc) L:=((HZ.out.pos.fC).jq PC.out (ai _)).fr F7.out (by decide)
 have WO:(Value.slice la L.length lc).ownBlock=some g∨w.heap.size≤g:=HG.out.imp id fun h=>by omega
 have WQ:w.heap.size≤m:=by have:=HM.out;omega
 have Vg:=aa Ck;have Z3:=aa WK;have Ql:=aa hLV;have HOW:=aa WO;have WR:=aa WQ;have mW:=aa hlt;have hdec:Calls Tryz.prog 113 #[.pointer (some ⟨b,0,none⟩),.int .i64 (i:Int),.agg #[.int .i64 (f:Int),.int .i64 loop,.pointer pa,.slice (some ⟨g,0,none⟩) (L.length+1) c6]] W7 (aq B b (.slice (some ⟨bk,o,none⟩) T.length c) T.length ub ob (.slice (some ⟨g,0,none⟩) (L.length+1) c6) (⟨f,m,[]⟩::L) st (bz i f h.line h.names st) W7) :=
  kB b i f h loop pa (some ⟨g,0,none⟩) c6 ⟨f,m,[]⟩ L st W7 Ck.fE Ck.rs HX.out Ck.lt Ck.pos.fC rfl (by have:=Ck.fC;omega) Ck.few (by simp) qK.out
 clear Ck WK hLV WO WQ hlt HZ0 k0 k1 k2 k3 k4 k5 k6 k7 k8 y0 y1 y2 y3;refine hdec.mono ?_;intro e w8 hp;clear hdec;cases jW:bz i f h.line h.names st with
 | error y =>
  rw[jW] at hp;have HP:=aa hp;obtain⟨_,v,rfl,g2,rfl,_⟩:=hp;have HE:Hid ((((bz i f h.line h.names st).bind fun s2=>aH rest f s2).map fun s=>s.back st)=.error y):=aa (by  rw[jW];rfl)
  clear jW;go_wp2_with fail
  go_ret
  rw[HE.out];exact(aq.inner (st:=st) Z3.out Ql.out mW.out HOW.out WR.out HP.out)
 | ok s2 =>
  rw[jW] at hp;have vJ:=vt jW;obtain⟨rfl,x,hx1,hx2,Vh,Vi⟩:=En.step (a1:=h.names.length) (s1:=0) (by rw[jB];exact Vg.out) (jS jW Vg.out.few) (HCX.out s2 jW) vJ hp
  have P9:=aa (P7.out.jq Vi);have HC:Hid (∀W,Below w8.heap.size w8 W→Calls Tryz.prog 111 #[.pointer (some ⟨b,0,none⟩),.slice (some ⟨sb,so,none⟩) h.kids.length kc,.agg #[.int .i64 (f:Int),.int .i64 loop,.pointer pa,.slice (some ⟨g,0,none⟩) (L.length+1) c6]] W (aq B b (.slice (some ⟨bk,o,none⟩) T.length c) T.length ub ob (.slice (some ⟨g,0,none⟩) (L.length+1) c6) (grow x (⟨f,m,[]⟩::L)) s2 (aH rest f s2) w8)):=aa fun W hW =>
   (Ek f loop pa (some ⟨g,0,none⟩) c6 ms (⟨f,m,[]⟩::L) x s2 W (.slice (some ⟨sb,so,none⟩) h.kids.length kc) rest (Vh.dc hW) S0.out HV2.out (Qk.out.below ((Z3.out.below.trans Vi.below).trans (hW.mono Vh.world))) (fun k hk mF=>(HL.out k hk mF).trans (tP vJ).symm) (fun k _=>.inl (by simp)) (by have:=sW.out;omega)).mono fun e w' h=>h.from hW Vh.world
  have ZE:=aa Vi;have Qd:=aa hx1;have HE:Hid ((((bz i f h.line h.names st).bind fun s2=>aH rest f s2).map fun s=>s.back st)=(aH rest f s2).map fun s=>s.back st):=aa (by  rw[jW];rfl)
  clear hp Vh Vi vJ hx1 hx2 jW;obtain⟨k0,k1,k2,k3,k4,k5,k6,k7,k8⟩:=P9.out.cells;go_wp2_with fail
  go_still_tail 7,(by kernel_rfl)
  change wpList _ _ _ _ _ w8.drew;have WM:=aa (HC.out w8.drew (Below.refl _ _).drew);generalize w8.drew=W9 at WM ⊢;go_wp2_with fail
  refine WM.out.mono ?_;intro e w10 hp;obtain⟨v,rfl⟩:=hp.ret;have HP:=aa hp;clear hp;go_wp2_with fail
  go_ret
  rw[HE.out];exact(aq.inner (st:=st) Z3.out Ql.out mW.out HOW.out WR.out (aq.trans (L:=⟨f,m,[]⟩::L) (st1:=s2) (x:=x) ZE.out.below ZE.out Qd.out (fun e=>by cases e) HP.out))
theorem yc {f:Nat} :∀{fr:List fB},(∀x∈fr,x.fn<f)→dz f fr=[]
 | [],_=>rfl
 | x::fr,h=>by
  rw[rX (.inr (jC (h x (bQ ..))))];exact yc fun y hy=>h y (bX _ hy)
theorem J1 {f:Nat} {fr:List fB} (h :∀x∈fr,x.fn<f):cG f fr = -1:=by
 unfold cG;have:fr.find? (fun x=>x.loop && decide (x.fn=f))=none:=by
  rw[EI];intro x hx;have:=h x hx;simp;intro _;omega
 rw[this]
theorem Qy {T:List Nd} {B b:Nat} {nv:Value} {ub ob:Nat} (gD :∀x∈T,x.s.size≤65536∧∀s∈x.names,s.size≤65536) (i:Nat) (h:Nd) (ks:List Lt) (hn:kD T (.mk i h ks)) (ie :∀u:Lt,u.size<Lt.al ks+1→kD T u→bB T B b nv ub ob u) (hk:h.kind=11):bB T B b nv ub ob (.mk i h ks):=by
 intro f loop pa la lc ms L st w hr bS cb;show Calls Tryz.prog 26 #[.pointer (some ⟨b,0,none⟩),.int .i64 (i:Int),.agg #[.int .i64 (f:Int),.int .i64 loop,.pointer pa,.slice la L.length lc]] w (aq B b nv T.length ub ob (.slice la L.length lc) L st (aY (.mk i h ks) f st) w)
 obtain⟨bk,o,c,NA,nc,KA,kc,rfl,eQ,ca,x0,x1,x2,x3,x4,x5,x6,sg,wu,pS,hbl,oN,s9,d0,d3,u0,v0,hH,HR,HN,tN,iT,kP,eK,sI,oH,fP,sW,HX,zt,Di⟩:=gT gD hn ie hr bS cb;clear hr hn ie bS cb gD;have q6:(h.kind == 6)=false:=by rw[hk];rfl
 have q7:(h.kind == 7)=false:=by rw[hk];rfl
 have yV:(h.kind == 11)=true:=by rw[hk];rfl
 have bO:=aa hk;clear hk;go_enter Tryz.func26,Tryz.ntmps26
 go_wp2_with fail
 go_region
 obtain⟨W1,hW1,HZ,fA,pP,AZ,K,y0,tp,oO,tq,k0,k1,k2,k3⟩:=dY loop i HR.out eQ;rw[←hW1];have x0:=K _ _ x0;have x1:=K _ _ x1;have x2:=K _ _ x2;have x3:=K _ _ x3;have x4:=K _ _ x4;have x5:=K _ _ x5;have x6:=K _ _ x6;clear hW1 K d0 d3 u0 v0;have d0:=y0;clear y0;have gn:(h.num == 1)=decide (h.num=1):=rfl;go_wp2_with fail
 obtain⟨W3,hW3⟩ :∃W3,W3=(W1.alloc (.cells #[.int .i64 h.kind,.int .i64 h.line,.int .i64 h.op,.int .i64 h.num,.string h.s,.slice NA h.names.length nc,.slice KA h.kids.length kc] 55)).alloc (.cells #[.int .i64 (i:Int),.int .i64 (f:Int),.int .i64 (h.names.length:Int),.bool (decide (h.num=1)),.slice none 0 0,.slice none 0 0] 52):=⟨_,rfl⟩;have cY:Below W1.heap.size W1 W3:=by rw[hW3];exact Below.two _ _
 rw[←hW3];clear hW3;have hr3:=HZ.out.dc cY;have hf3:cN B ob (.slice la L.length lc) L.length (ey L) w W3:=fA.out.trans (cN.bK cY HZ.out.world);have tt :∀k∈ks,bB T B b (.slice (some ⟨bk,o,none⟩) T.length c) ub ob k:=fun k hk=>tN.out k (by have:=fh hk;omega) (eK.out.at_ k hk)
 refine(xX b ⟨i,(f:Int),h.names.length,decide (h.num=1),[],[]⟩ la L.length lc (st.setOf i f) W3 hr3.rs rfl rfl (by have:=hr3.fns;omega)).mono ?_
 rintro e w5 ⟨rfl,h1,h2,h3⟩;have hfa :∀top,cN B ob (.slice la L.length lc) L.length top W3 w5:=fun top=>cN.vq h3 (by decide) h2
 have h1:jV w5 B b (.slice (some ⟨bk,o,none⟩) T.length c) T.length (jQ i f h (st.setOf i f)) ub ob:=h1;have Kk:ks≠[]:=by
  have:=oH.out.body (.inl bO.out);intro e;rw[e] at this;cases this
 have Rx:sX T B b (.slice (some ⟨bk,o,none⟩) T.length c) ub ob (st.setOf i f).fns.length none (.slice la L.length lc) [] L (jQ i f h (st.setOf i f)) w5 (h.names.length+Lt.dM ks) (Lt.al ks):=by
  have hlen:(jQ i f h (st.setOf i f)).fns.length=(st.setOf i f).fns.length+1:=by unfold jQ;simp
  refine⟨hr3.fE.below h2,h1,⟨hr3.pos.fC.jq (hfa none) (ai _),?_,hr3.pos.names,fun m hm=>by cases hm⟩,by omega,hr3.few.app ⟨bx _,bx _⟩,fun x hx=>?_,hr3.names,?_,?_⟩
  ·show pe w5 B (dz (st.setOf i f).fns.length (st.setOf i f).frames) [] _
   rw[yc hr3.fr];exact⟨rfl,rfl⟩
  ·have:=hr3.fr x hx
   omega
  ·have:=hr3.fns;omega
  ·have:=hr3.fC;omega
 have sL:=aa (J0 i (st.setOf i f).fns.length h ks (-1) none la lc [] L (jQ i f h (st.setOf i f)) w5 Rx HX.out fP.out Kk eK.out tt (fun k hk mF=>(J1 (fr:=(st.setOf i f).frames) hr3.fr).symm) zt.out.2 (fun s2 e=>(xI e hr3.cx).1) (by
  unfold gO;rw[af (by have:=bO.out;omega),ak bO.out]))
 have l9:=aa (hf3.trans (hfa (ey L)));clear hr3 hf3 tt h1 h2 h3 hfa Rx Kk;go_wp2_with fail
 refine sL.out.mono ?_;intro e w6 hp;obtain⟨v,rfl⟩:=hp.ret;have HV:=aa hp;clear hp;go_wp2_with fail
 go_ret
 have hE:aY (.mk i h ks) f st=((bz i (st.setOf i f).fns.length h.line h.names (jQ i f h (st.setOf i f))).bind fun s2=>aH ks (st.setOf i f).fns.length s2).map fun s=>s.back (jQ i f h (st.setOf i f)):=by
  rw[cw];rw[af (by have:=bO.out;omega)]
  rw[af (by have:=bO.out;omega)]
  rw[ak bO.out];cases bz i (st.setOf i f).fns.length h.line h.names (jQ i f h (st.setOf i f)) with
  | error y=>rfl
  | ok s1=>rfl
 rw[hE];exact aq.after l9.out rfl HV.out
def WX (T:List Nd) (B b:Nat) (nv:Value) (ub ob:Nat):Prop:=∀(i:Nat) (h:Nd) (ks:List Lt),kD T (.mk i h ks)→(∀u:Lt,u.size<Lt.al ks+1→kD T u→bB T B b nv ub ob u)→h.kind=24→bB T B b nv ub ob (.mk i h ks)
theorem yd {T:List Nd} {B b:Nat} {nv:Value} {ub ob:Nat} (gD :∀x∈T,x.s.size≤65536∧∀s∈x.names,s.size≤65536) (OG:WX T B b nv ub ob) :∀(n:Nat) (t:Lt),t.size≤n→kD T t→bB T B b nv ub ob t
 | 0,t,hs,_=>by rw[OH] at hs;omega
 | n+1,.mk i h ks,hs,hn=>by
  have ie :∀u:Lt,u.size<Lt.al ks+1→kD T u→bB T B b nv ub ob u:=fun u hu A0=>yd gD OG n u (by rw[Lt.size] at hs;omega) A0
  have hk:1≤h.kind∧h.kind≤32:=hn.kind;by_cases h6:h.kind=6
  ·exact Vm gD i h ks hn ie h6
  by_cases h7:h.kind=7
  ·exact Vn gD i h ks hn ie h7
  by_cases h11:h.kind=11
  ·exact Qy gD i h ks hn ie h11
  by_cases mF:h.kind=18
  ·exact Qu gD i h ks hn ie mF
  by_cases Mo:h.kind=19
  ·exact Qs gD i h ks hn ie Mo
  by_cases Rj:h.kind=23
  ·exact Qv gD i h ks hn ie Rj
  by_cases abQ:h.kind=24
  ·exact OG i h ks hn ie abQ
  by_cases Rk:h.kind=26
  ·exact Qw gD i h ks hn ie Rk
  by_cases h27:h.kind=27
  ·exact Qx gD i h ks hn ie h27
  by_cases Rl:h.kind=28
  ·exact Qt gD i h ks hn ie Rl
  by_cases FX:h.kind=30
  ·exact Qp gD i h ks hn ie FX
  by_cases FY:h.kind=31
  ·exact Qq gD i h ks hn ie FY
  ·exact Em gD i h ks hn ie ⟨h6,h7,h11,mF,Mo,Rj,abQ,Rk,h27,Rl,FX,FY⟩
end Go.Proofs.YteflkdlaoiijbaaGreatDoor
namespace Go.Proofs.YteflkdlaoiijbaaGreatDoor
section
variable {P:Program} {ops:Array Oper} {Q:Exit→Act→World→Prop} {md:Region.Mode} {S:World→Prop} {n:Nat}
def bW (P:Program) (md:Region.Mode) (ops:Array Oper) (Q:Exit→Act→World→Prop) (S:World→Prop) (n:Nat):Nat→Array Bool→Act→World→Prop
 | 0,listed,a,w=>Region.ready md ops listed=[]∧Q .normal a w
 | g+1,listed,a,w=>(Region.ready md ops listed=[]→Q .normal a w) ∧
  ∀i∈Region.ready md ops listed,wpOp P ops Q i (fun a' w'=>(i<n→S w')∧bW P md ops Q S n g (listed.setIfInBounds i true) a' w') a w
theorem bW.any :∀(g:Nat) (listed:Array Bool) (a:Act) (w:World),bW P md ops Q S n g listed a w→wpAny P md ops Q g listed a w
 | 0,_,_,_,h=>h
 | g+1,_,_,_,h=>⟨h.1,fun i hi=>wpOp_mono (fun _ _ k=>bW.any g _ _ _ k.2) (h.2 i hi)⟩
def GB (md:Region.Mode) (ops:Array Oper) (n:Nat):Bool:=Region.noSelect ops && decide (n<ops.size) && Region.sinkB md ops n && Region.chainB md ops n
def GC (md:Region.Mode) (ops:Array Oper) (n:Nat) (listed:Array Bool):Bool :=
 listed.size == ops.size && (List.range ops.size).all (fun j=>match ops[j]? with
  | some o=>!listed.getD j false || o.after.all fun e=>!Region.binds md e || listed.getD e.on false
  | none=>true) && (List.range ops.size).all fun t=>decide (t<n) || !listed.getD t true
theorem J2 {listed:Array Bool} (h:GC md ops n listed=true):HeadInv md ops n listed:=by
 unfold GC at h;simp only[dk,wM] at h;obtain⟨⟨h1,h2⟩,h3⟩:=h;refine⟨h1,fun j o hj hl e he hb=>?_,fun t ht WD=>?_⟩
 ·have hjl:=(aJ.1 hj).1
  have h4:=List.all_eq_true.1 h2 j (EO.2 hjl);rw[hj] at h4;simp only[hl,Bool.not_true,Bool.false_or] at h4;have h5:=Array.all_eq_true'.1 h4 e he;rw[hb] at h5;simpa using h5
 ·have h4:=List.all_eq_true.1 h3 t (EO.2 WD)
  rw[bN (by omega)] at h4
  simpa using h4
theorem bW.first {i:Nat} {oi:Oper} {v:Value} (hi:ops[i]? = some oi) (ht:GB md ops n=true) (mH:i<n)
  (hQ :∀c a w,Q (.panic c) (a.put oi.dst v) w→Q (.panic c) a w) :
  ∀(g:Nat) (listed:Array Bool) (a:Act) (w:World),HeadInv md ops n listed →
   (∀j oj,ops[j]? = some oj→j≠i→listed.getD j true=false→(∀e∈oj.after,Region.binds md e=true→e.on≠i)→oi.apart ops oj=true) →
   i∈Region.ready md ops listed→YieldsIf P ops S oi v a→S w →
   bW P md ops Q S n g (listed.setIfInBounds i true) (a.put oi.dst v) w→bW P md ops Q S n (g+1) listed a w:=by
 have WD:=ht;unfold GB at WD;simp only[dk,je] at WD;obtain⟨⟨⟨adR,jG⟩,hsk⟩,hch⟩:=WD;have sel:=Region.noSelect_spec adR;intro g;induction g with
 | zero =>
  intro listed a w inv _ hr hy hS H;refine⟨fun h=>(by rw[h] at hr;cases hr),fun j hj=>?_⟩
  by_cases WY:j=i
  ·subst WY;exact hy.wpOp hi hS ⟨fun _=>hS,H⟩
  ·have h1:=ready_mono hj WY
   rw[H.1] at h1;cases h1
 | succ g ih =>
  intro listed a w inv WZ hr hy hS H;have hun:=(mem_ready.1 hr).1;refine⟨fun h=>(by rw[h] at hr;cases hr),fun j hj=>?_⟩
  by_cases WY:j=i
  ·subst WY;exact hy.wpOp hi hS ⟨fun _=>hS,H⟩
  ·have hjn:j<n:=by
    rcases ET j n with h|h
    ·exact h
    ·exact absurd hj (tail_waits hsk hch jG inv _ i rfl mH hun j h)
   obtain⟨abR,oj,hoj,hall⟩:=mem_ready.1 hj;have adS :∀e∈oj.after,Region.binds md e=true→e.on≠i:=fun e he hb heq=>by
    have h1:=hall e he hb;rw[heq,getD_both hun] at h1;cases h1
   refine wpOp_mono (fun a' w' k=>⟨fun _=>k.2.1 hjn,ih _ a' w' (inv.set hj hjn) (fun x ox hx ZR hxu hno=>WZ x ox hx ZR ?_ hno) (ready_mono hr (Ne.symm WY)) k.1 (k.2.1 hjn) ?_⟩)
    (wpOp_putIf hoj (WZ j oj hoj WY abR adS) (fun cs b=>sel i oi cs b hi) (fun cs b=>sel j oj cs b hoj) hQ hy (H.2 j (ready_mono hj WY)))
   ·by_cases hjx:j=x
    ·subst hjx;exact abR
    ·rw[getD_set_ne true hjx] at hxu;exact hxu
   ·rw[Array.setIfInBounds_comm _ _ WY]
    exact k.2.2
theorem bW.take {i:Nat} {oi:Oper} {v:Value} {g:Nat} {listed:Array Bool} {a:Act} {w:World} (hi:ops[i]? = some oi) (ht:GB md ops n=true) (mH:i<n)
  (hh:GC md ops n listed=true) (hf:Region.free md ops listed i=true) (hr:(Region.ready md ops listed).contains i=true)
  (hQ :∀c a w,Q (.panic c) (a.put oi.dst v) w→Q (.panic c) a w) (hw:Region.wanted oi (yielded ops a.tmps)=true) (hy :∀w,S w→(execOp a.eval oi).run P w=.ok (.value v) w) (hS:S w)
  (h:bW P md ops Q S n g (listed.setIfInBounds i true) (a.put oi.dst v) w):bW P md ops Q S n (g+1) listed a w :=
 bW.first hi ht mH hQ g listed a w (J2 hh) (Region.free_spec hi hf) (by simpa using hr) (.inl ⟨hw,hy⟩) hS h
theorem bW.one {i:Nat} {o:Oper} {g:Nat} {listed:Array Bool} {a:Act} {w:World} (hr:Region.ready md ops listed=[i]) (ho:ops[i]? = some o)
  (h :∀K:Act→World→Prop,Shut (∀a w,(i<n→S w)→bW P md ops Q S n g (listed.setIfInBounds i true) a w→K a w)→if Region.wanted o (yielded ops a.tmps)=true then Oper.wp P o a w K Q else K (a.put o.dst undef) w):bW P md ops Q S n (g+1) listed a w:=by
 refine⟨fun h0=>(by rw[hr] at h0;cases h0),fun j hj=>?_⟩
 rw[hr,bI] at hj;subst hj;exact wpOp_step ho fun K hK=>h K fun a w h1 h2=>hK a w ⟨h1,h2⟩
theorem bW.two {i j:Nat} {o o':Oper} {g:Nat} {listed:Array Bool} {a:Act} {w:World} (hr:Region.ready md ops listed=[i,j]) (ho:ops[i]? = some o) (ho':ops[j]? = some o')
  (h :∀K:Act→World→Prop,Shut (∀a w,(i<n→S w)→bW P md ops Q S n g (listed.setIfInBounds i true) a w→K a w)→if Region.wanted o (yielded ops a.tmps)=true then Oper.wp P o a w K Q else K (a.put o.dst undef) w)
  (h' :∀K:Act→World→Prop,Shut (∀a w,(j<n→S w)→bW P md ops Q S n g (listed.setIfInBounds j true) a w→K a w)→if Region.wanted o' (yielded ops a.tmps)=true then Oper.wp P o' a w K Q else K (a.put o'.dst undef) w):bW P md ops Q S n (g+1) listed a w:=by
 refine⟨fun h0=>(by rw[hr] at h0;cases h0),fun x hx=>?_⟩
 rw[hr] at hx;simp only[bb,oS,oV] at hx;rcases hx with rfl|rfl
 ·exact wpOp_step ho fun K hK=>h K fun a w h1 h2=>hK a w ⟨h1,h2⟩
 ·exact wpOp_step ho' fun K hK=>h' K fun a w h1 h2=>hK a w ⟨h1,h2⟩
theorem bW.done {listed:Array Bool} {a:Act} {w:World} (hr:Region.ready md ops listed=[]) (h:Q .normal a w) :∀g,bW P md ops Q S n g listed a w
 | 0=>⟨hr,h⟩
 | _+1=>⟨fun _=>h,by rw[hr];simp⟩
theorem bW.Qz {id:Nat} {a:Act} {w:World} (hm:P.follows .mixedOrders=true) (h:bW P .any ops Q S n ops.size (Array.replicate ops.size false) a w.drew):(Code.region id ops true).wp P Q a w :=
 wp_region_any hm (bW.any _ _ _ _ h)
def ez (ops:Array Oper) (i:Nat) (F:Oper→Prop):Prop:=match ops[i]? with|some o=>F o|none=>False
theorem ez.ex {i:Nat} {F:Oper→Prop} (h:ez ops i F) :∃o,ops[i]? = some o∧F o:=by
 unfold ez at h;split at h
 ·exact⟨_,‹_›,h⟩
 ·cases h
theorem bW.fu {g:Nat} {listed:Array Bool} {a:Act} {w:World} (i:Nat) (v:Value) (ht:GB md ops n=true) (mH:i<n)
  (hh:GC md ops n listed=true) (hf:Region.free md ops listed i=true) (hr:(Region.ready md ops listed).contains i=true)
  (hQ :∀c a d w,Q (.panic c) (Act.put a (some d) v) w→Q (.panic c) a w) (hS:S w)
  (h:ez ops i fun oi=>oi.dst.isSome=true∧Region.wanted oi (yielded ops a.tmps)=true∧(∀w,S w→(execOp a.eval oi).run P w=.ok (.value v) w)∧bW P md ops Q S n g (listed.setIfInBounds i true) (a.put oi.dst v) w):bW P md ops Q S n (g+1) listed a w:=by
 obtain⟨o,ho,h0,h1,h2,h3⟩:=h.ex;obtain⟨d,hd⟩:=zP.1 h0;exact bW.take ho ht mH hh hf hr (fun c a w hp=>hQ c a d w (by rw[hd] at hp;exact hp)) h1 h2 hS h3
theorem bW.jX {g:Nat} {listed:Array Bool} {a:Act} {w:World} (i:Nat) (hr:Region.ready md ops listed=[i])
  (h :∀K:Act→World→Prop,Shut (∀a w,(i<n→S w)→bW P md ops Q S n g (listed.setIfInBounds i true) a w→K a w)→ez ops i fun o=>if Region.wanted o (yielded ops a.tmps)=true then Oper.wp P o a w K Q else K (a.put o.dst undef) w):bW P md ops Q S n (g+1) listed a w:=by
 cases ho:ops[i]? with
 | none =>
  have h1:=h (fun _ _=>True) (fun _ _ _ _=>trivial)
  unfold ez at h1;rw[ho] at h1;cases h1
 | some o =>
  refine bW.one hr ho fun K hK=>?_
  have h1:=h K hK;unfold ez at h1;rw[ho] at h1;exact h1
theorem bW.aaa {g:Nat} {listed:Array Bool} {a:Act} {w:World} (i j:Nat) (hr:Region.ready md ops listed=[i,j])
  (h :∀K:Act→World→Prop,Shut (∀a w,(i<n→S w)→bW P md ops Q S n g (listed.setIfInBounds i true) a w→K a w)→ez ops i fun o=>if Region.wanted o (yielded ops a.tmps)=true then Oper.wp P o a w K Q else K (a.put o.dst undef) w)
  (h' :∀K:Act→World→Prop,Shut (∀a w,(j<n→S w)→bW P md ops Q S n g (listed.setIfInBounds j true) a w→K a w)→ez ops j fun o=>if Region.wanted o (yielded ops a.tmps)=true then Oper.wp P o a w K Q else K (a.put o.dst undef) w):bW P md ops Q S n (g+1) listed a w:=by
 cases ho:ops[i]? with
 | none =>
  have h1:=h (fun _ _=>True) (fun _ _ _ _=>trivial)
  unfold ez at h1;rw[ho] at h1;cases h1
 | some o =>
  cases ho':ops[j]? with
  | none =>
   have h1:=h' (fun _ _=>True) (fun _ _ _ _=>trivial)
   unfold ez at h1;rw[ho'] at h1;cases h1
  | some o' =>
   refine bW.two hr ho ho' (fun K hK=>?_) fun K hK=>?_
   ·have h1:=h K hK
    unfold ez at h1;rw[ho] at h1;exact h1
   ·have h1:=h' K hK
    unfold ez at h1;rw[ho'] at h1;exact h1
end
end Go.Proofs.YteflkdlaoiijbaaGreatDoor
namespace Go.Proofs.YteflkdlaoiijbaaGreatDoor
open Go.RowKit
def iy (T:List Nd) (r:Int):Bool:=pn bj kj eR T r
def okK (T:List Nd) (x:Nd):Bool:=kE bj kj eR T x
theorem aab (T:List Nd) (x:Nd):okK T x=(decide (1≤x.line) && bj x && kj x.kind x.num (im T x)):=rfl
theorem vM {T:List Nd} {r:Int} (h:eT T r=0∨100<eT T r∨dE T r.toNat≠18):iy T r=false:=by
 rw[KW];intro hh;obtain⟨h1,h2,h3,_⟩:=(gp bj kj eR).1 hh;rcases h with h|h|h
 ·exact h1 h
 ·omega
 ·exact h h3
theorem J3 {T:List Nd} {r:Int} (h1:eT T r≠0) (h2:¬ 100<eT T r) (h3:dE T r.toNat=18):iy T r=T.all (okK T):=by
 unfold iy pn;rw[bF h1,bF (show eT T r≤100 by omega),bF h3]
 rfl
def Szd (T:List Nd):Prop:=∀x∈T,x.names.length≤140737488355328
theorem Cn {T:List Nd} {r:Nat} {d:Nat→Nat} {m:List Nat} (hs:Xi T r d m) {i:Nat} {x:Nd} (hx:T[i]? = some x):(∀k∈x.kids,0≤k∧k<(T.length:Int))∧x.kids.length≤T.length:=by
 have hi:=(aL.1 hx).1;have h1 :∀k∈x.kids,0≤k∧k<(T.length:Int):=fun k hk=>by
  obtain⟨a,b,_⟩:=hs.kid i (hs.mem hi) k (by rw[ji hx];exact hk)
  exact⟨a,b⟩
 refine⟨h1,?_⟩;have hn:=hs.GO hi;rw[ji hx] at hn;have h2:=tZ T.length (x.kids.map Int.toNat) (by
  rw[List.Nodup,List.pairwise_map];refine KG ?_ hn;intro a b ha hb hab e;have:=h1 a ha;have:=h1 b hb;exact hab (by omega)) (fun j hj=>by
  obtain⟨k,hk,rfl⟩:=jA.1 hj;have:=h1 k hk;omega)
 rw[dm] at h2;exact h2
theorem ye (v:Value) (T:List Nd) (r:Int) (w:World) (h:mD w v T r) (hz:Szd T):Calls Tryz.prog 25 #[v] w fun e w'=>e=.returned (.bool (iy T r))∧Below w.heap.size w w':=by
 have Rh:=aa (fun W (hW:mD W v T r)=>AM v T r W hW)
 have HTV:=aa h;obtain⟨nv,rfl,A,c,rfl,hc,hn⟩:=h;have HN:=aa hn;have HZ:=aa hz;obtain⟨D,hD⟩ :∃D,D=eT T r:=⟨_,rfl⟩;rw[←hD] at Rh;have HD:=aa hD;obtain⟨R,hR⟩ :∃R,R=iy T r:=⟨_,rfl⟩;rw[←hR];have HR:=aa hR;clear hR;have hJ :∀W,Below (w.heap.size+1) (w.alloc (.cells #[.slice A T.length c,.int .i64 r] 25)) W→W.cell? ⟨w.heap.size,0,none⟩=some (.slice A T.length c)∧W.cell? ⟨w.heap.size,1,none⟩=some (.int .i64 r):=fun W hW =>
  ⟨(hW.cell (p:=⟨w.heap.size,0,none⟩) (du _)).trans (dC w _ _ _),(hW.cell (p:=⟨w.heap.size,1,none⟩) (du _)).trans (dC w _ _ _)⟩
 have qi:=aa hJ;have B0:=aa (bE w (.cells #[.slice A T.length c,.int .i64 r] 25));clear hD hJ hn hz;go_enter Tryz.func25,Tryz.ntmps25
 go_wp2_with fail
 refine(Rh.out _ (HTV.out.below B0.out)).mono ?_;rintro e w1 ⟨rfl,b1⟩;rw[an] at b1;have BW1:=aa b1;have B1:=aa (B0.out.trans (b1.mono (gj _)));have Dp:=b1.size;rw[an] at Dp;obtain⟨x0,x1⟩:=qi.out _ b1;clear b1 Rh;by_cases h0:D=0
 ·have VH:R=false:=HR.out.trans <| vM (.inl (by rw[←HD.out];exact h0))
  subst VH;subst h0;go_wp2_with fail
  go_ret
  exact⟨rfl,B1.out⟩
 ·have g0:((D:Int) == 0)=false:=aE.2 (by omega)
  by_cases h1:100<D
  ·have VH:R=false:=HR.out.trans <| vM (.inr (.inl (by rw[←HD.out];exact h1)))
   subst VH;have g1:decide ((100:Int)<(D:Int))=true:=bF (by omega)
   go_wp2_with fail
   go_ret
   exact⟨rfl,B1.out⟩
  ·have g1:decide ((100:Int)<(D:Int))=false:=bN (by omega)
   obtain⟨hN,VH,hr1,d,m,hs⟩:=zZ (T:=T) (r:=r) (by rw[←HD.out];exact h0)
   rcases HN.out with hT | ⟨b,o,rfl,hb,hx⟩
   ·rw[hT] at hr1;simp at hr1;omega
   obtain⟨q,rfl⟩ :∃q:Nat,r=(q:Int):=⟨r.toNat,by omega⟩
   have hq:q<T.length:=by omega
   have hxq:=bH hq;obtain⟨nvq,kvq,fM,_,_⟩:=hx q _ hxq;have ck:=(B1.out.cell (p:=⟨b,o+q*7,none⟩) hb).trans fM.c0;obtain⟨kd,qf⟩ :∃kd,kd=T[q].kind:=⟨_,rfl⟩;rw[←qf] at ck;have rj:dE T (q:Int).toNat=kd:=by rw[iJ,og hxq,qf]
   have HX:=aa hx;have HSn:=aa hs;clear fM hx hs hxq qf;by_cases mF:kd=18
   ·have hry:R=T.all (okK T):=HR.out.trans <| J3 (T:=T) (r:=(q:Int)) (by rw[←HD.out];exact h0) (by rw[←HD.out];exact h1) (by rw[rj,mF])
    have HAL:=aa hry;subst mF;clear rj hry HR;go_wp2_with fail
    go_loopw [27] (fun i wr=>∃k:Nat,k≤T.length∧i=.int .i64 (k:Int)∧(T.drop k).all (okK T)=R∧Below (w.heap.size+1) (w.alloc (.cells #[.slice (some ⟨b,o,none⟩) T.length c,.int .i64 (q:Int)] 25)) wr) (fun i _=>T.length-(intOf i).toNat)
    case atStart=>exact⟨0,bx _,rfl,HAL.out.symm,BW1.out⟩
    case round =>
     obtain⟨k,hk,rfl,ha,hbr⟩:=hrel;have HA:=aa ha;have Is:=aa hbr;have BR:=aa (B0.out.trans (hbr.mono (gj _)));have aac:=hbr.size;rw[an] at aac;clear ha hbr x0 x1 ck;by_cases hlt:k<T.length
     ·obtain⟨x,hxk⟩ :∃x,T[k]? = some x:=⟨T[k],bH hlt⟩
      obtain⟨zI,zJ,fM,hst,A0⟩:=HX.out k x hxk;obtain⟨c0,c1,c2,c3,c4,c5,c6⟩:=fM.below BR.out hb;have HST:=aa (xk (p:=okK T) hxk);have hxz:=HZ.out x (ba hxk);have z8:=Cn HSn.out hxk;have HSS:=aa hst;have HNU:=aa A0;obtain⟨SA,sc,rfl,_,_⟩:=hst;obtain⟨UA,uc,rfl,_,_⟩:=A0;clear hxk fM;have HWN:=aa (bE wr (.cells #[.int .i64 x.kind,.int .i64 x.line,.int .i64 x.op,.int .i64 x.num,.string x.s,.slice SA x.names.length sc,.slice UA x.kids.length uc] 55));have HFL:=aa (Dn x _ (.slice UA x.kids.length uc) (wr.alloc (.cells #[.int .i64 x.kind,.int .i64 x.line,.int .i64 x.op,.int .i64 x.num,.string x.s,.slice SA x.names.length sc,.slice UA x.kids.length uc] 55)) ((HSS.out.below BR.out).below HWN.out) ⟨_,_,_,rfl⟩ hxz);have HBQ:=aa (fun W (h:Below (wr.heap.size+1) (wr.alloc (.cells #[.int .i64 x.kind,.int .i64 x.line,.int .i64 x.op,.int .i64 x.num,.string x.s,.slice SA x.names.length sc,.slice UA x.kids.length uc] 55)) W)=>xl (du _) h)
      have bO:=aa (fun W hA hB hC=>Mq x (.slice SA x.names.length sc) (.slice UA x.kids.length uc) (.slice (some ⟨b,o,none⟩) T.length c) T W hA hB hC z8.1 (by have:=z8.2;omega))
      have Ix:=aa (aab T x);obtain⟨FL,hFL⟩ :∃FL,FL=bj x:=⟨_,rfl⟩;obtain⟨KD,hKD⟩ :∃KD,KD=kj x.kind x.num (im T x):=⟨_,rfl⟩;rw[←hFL] at HFL Ix;rw[←hKD] at bO Ix;obtain⟨x0,x1⟩:=qi.out _ (Is.out.trans (HWN.out.mono aac));unfold cP at HFL bO;clear hFL hKD z8 hxz;by_cases yP:x.line<1
      ·go_wp2_with fail
       go_ret
       exact⟨cH (by rw[←HA.out,HST.out,Ix.out,bN (by omega)];rfl),BR.out.trans (HWN.out.mono BR.out.size)⟩
      ·have gl:decide (1≤x.line)=true:=bF (by omega)
       rw[gl,kV] at Ix;go_wp2_with fail
       refine HFL.out.mono ?_;rintro e w3 ⟨rfl,b3⟩;have B3:=aa ((BR.out.trans (HWN.out.mono BR.out.size)).trans (b3.mono (by rw[an];have:=BR.out.size;omega)))
       have BB3:=aa ((Is.out.trans (HWN.out.mono aac)).trans (b3.mono (by rw[an];omega)))
       have HQ3:=aa (HBQ.out _ (by rw[an] at b3;exact b3))
       clear b3 x0 x1 c0 c1 c2 c3 c4 c5 c6;cases FL with
       | false =>
        go_wp2_with fail
        go_ret
        exact⟨cH (by rw[←HA.out,HST.out,Ix.out];rfl),B3.out⟩
       | true =>
        rw[kV] at Ix;obtain⟨c0,c1,c2,c3,c4,c5,c6⟩:=HQ3.out;obtain⟨x0,x1⟩:=qi.out _ BB3.out;go_wp2_with fail
        refine(bO.out _ (HSS.out.below B3.out) (HNU.out.below B3.out) ?_).mono ?_
        ·exact sH.below (W:=w) ⟨some ⟨b,o,none⟩,c,rfl,hc,.inr ⟨b,o,rfl,hb,HX.out⟩⟩ B3.out
        rintro e w4 ⟨rfl,b4⟩;have B4:=aa (jm B3.out (ai _) b4);have BB4:=aa (BB3.out.trans (b4.mono (by have:=BB3.out.size;rw[an] at this;exact this)))
        clear b4 x0 x1 c0 c1 c2 c3 c4 c5 c6;cases KD with
        | false =>
         go_wp2_with fail
         go_ret
         exact⟨cH (by rw[←HA.out,HST.out,Ix.out];rfl),B4.out⟩
        | true =>
         go_wp2_with fail
         go_roundw
         case rel=>exact⟨k+1,by omega,by go_num,by rw[←HA.out,HST.out,Ix.out,kV],BB4.out⟩
         case measure=>simp[intOf];omega
     ·have hd:R=true:=by rw[←HA.out,pT (by omega)];rfl
      subst hd;go_wp2_with fail
      go_ret
      exact⟨rfl,BR.out⟩
   ·have VH:R=false:=HR.out.trans <| vM (.inr (.inr (by rw[rj];exact mF)))
    subst VH;have g18:(kd != 18)=true:=oU.2 mF;clear HR rj;go_wp2_with fail
    go_ret
    exact⟨rfl,B1.out⟩
end Go.Proofs.YteflkdlaoiijbaaGreatDoor
namespace Go.Proofs.YteflkdlaoiijbaaGreatDoor
open Go.RowKit
theorem W8 {z:Array Value} {v:Value} (m:Nat) (hz:0<z.size) (h :∀j,j<z.size→z[j]? = some v) (f:Nat→Value) (hf :∀j,f j=v):(madeCells z m).toList=(List.range m).map f:=by
 unfold madeCells;rw[Array.toList_map,Array.toList_range];refine List.map_congr_left fun j _=>?_
 rw[hf j];have h1:=h (j % z.size) (Nat.mod_lt _ hz);rw[getElem!_def,h1]
theorem J4:(Tryz.prog.info? 57).map (fun i=>(i.zero,i.size,i.bytes))=some (some (.agg #[.int .i64 0,.int .i64 0]),2,16):=by kernel_rfl
theorem J5:(Tryz.prog.info? 3).map (fun i=>(i.zero,i.size,i.bytes))=some (some (.int .i64 0),1,8):=by kernel_rfl
theorem J6 (n:Nat) (hn:n≤1000000) :∃M:Array Value,∀w:World,(Instr.makeSlice 32 (.int .i64 (n:Int)) (.int .i64 (n:Int))).run Tryz.prog w=.ok (.slice (some ⟨w.heap.size,0,none⟩) n n) (w.alloc (.cells M 57)) ∧
  ∀base,base≤w.heap.size→fG (w.alloc (.cells M 57)) base 57 2 w.heap.size n (wm fun _=>(0,0)):=by
 obtain⟨i0,nB,hz0,hz1,hz2⟩:=info_parts J4;refine⟨madeCells (Value.cells (.agg #[.int .i64 0,.int .i64 0])) (n*i0.size),fun w=>?_⟩
 have hr:=run_make (P:=Tryz.prog) w 32 57 i0 _ Tryz.underlying32 nB hz0 .i64 .i64 (n:Int) (n:Int) (by omega) (EX _) (by rw[hz2];omega) (by omega)
 simp only[iJ] at hr;refine⟨hr,fun base hb=>?_⟩
 obtain⟨W,h1,h2,_⟩:=run_make_full (P:=Tryz.prog) w base 32 57 i0 _ 2 Tryz.underlying32 nB hz0 hz1 .i64 .i64 n (by rw[hz2];omega) (by unfold maxLen;omega) hb
 rw[hr] at h1;injection h1 with _ h1;rw[h1];have e:(madeCells (Value.cells (.agg #[.int .i64 0,.int .i64 0])) (n*2)).toList=(List.range (n*2)).map (wm fun _=>(0,0)):=W8 (v:=.int .i64 0) _ (by decide) (fun j hj=>by
  have hj:j<2:=hj;match j,hj with
  | 0,_=>rfl
  | 1,_=>rfl) _ fun j=>by unfold wm;split<;>rfl
 rw[e] at h2;exact h2
theorem QA (n:Nat) (hn:n≤1000000) :∃M:Array Value,∀w:World,(Instr.makeSlice 33 (.int .i64 (n:Int)) (.int .i64 (n:Int))).run Tryz.prog w=.ok (.slice (some ⟨w.heap.size,0,none⟩) n n) (w.alloc (.cells M 3)) ∧
  ∀base,base≤w.heap.size→fG (w.alloc (.cells M 3)) base 3 1 w.heap.size n (Ro fun _=>0):=by
 obtain⟨i0,nB,hz0,hz1,hz2⟩:=info_parts J5;refine⟨madeCells (Value.cells (.int .i64 0)) (n*i0.size),fun w=>?_⟩
 have hr:=run_make (P:=Tryz.prog) w 33 3 i0 _ Tryz.underlying33 nB hz0 .i64 .i64 (n:Int) (n:Int) (by omega) (EX _) (by rw[hz2];omega) (by omega)
 simp only[iJ] at hr;refine⟨hr,fun base hb=>?_⟩
 obtain⟨W,h1,h2,_⟩:=run_make_full (P:=Tryz.prog) w base 33 3 i0 _ 1 Tryz.underlying33 nB hz0 hz1 .i64 .i64 n (by rw[hz2];omega) (by unfold maxLen;omega) hb
 rw[hr] at h1;injection h1 with _ h1;rw[h1];have e:(madeCells (Value.cells (.int .i64 0)) (n*1)).toList=(List.range (n*1)).map (Ro fun _=>0):=W8 (v:=.int .i64 0) _ (by decide) (fun j hj=>by
  have hj:j<1:=hj;match j,hj with
  | 0,_=>rfl) _ fun j=>rfl
 rw[e] at h2;exact h2
def kQ (W:World) (B N:Nat) (v:Value) (st:aG):Prop:=∃fv ub ob L,v=.agg #[fv,.slice (some ⟨ub,0,none⟩) N N,.slice (some ⟨ob,0,none⟩) N N]∧mQ W B fv L∧L.map (·.1)=st.fns∧fG W B 57 2 ub N (wm st.uses)∧fG W B 3 1 ob N (Ro st.of)
theorem e8.scope {W:World} {B b:Nat} {nv:Value} {N:Nat} {st:aG} {fv:Value} {ub ob:Nat} {L:List mP} (h:e8 W B b nv N st fv ub ob L):kQ W B N (.agg #[fv,.slice (some ⟨ub,0,none⟩) N N,.slice (some ⟨ob,0,none⟩) N N]) st:=⟨fv,ub,ob,L,rfl,h.fns,h.are,h.uses,h.wq⟩
def iU:Value:=.agg #[.slice none 0 0,.slice none 0 0,.slice none 0 0]
def GD (B N:Nat) (r:Rs aG) (e:Ending) (w':World):Prop :=
 match r with
 | .ok st=>∃v B',B≤B'∧e=.returned (.tuple #[v,.nilIface])∧kQ w' B' N v st
 | .error x=>∃v,e=.returned (.tuple #[iU,v])∧D8 w' v x.2 x.1
theorem Co (w:World) (X Y Z:Obj):Below w.heap.size w (((w.alloc X).alloc Y).alloc Z).drew:=((((Below.refl _ _).alloc (ai _) _).alloc (by rw[an];omega) _).alloc (by rw[an,an];omega) _).drew
theorem Vp (w:World) (X Y Z:Obj):(((w.alloc X).alloc Y).alloc Z).drew.heap[w.heap.size]? = some X :=
 (Below.heap_alloc ((w.alloc X).alloc Y) Z _ (by rw[an,an];omega)).trans ((Below.heap_alloc (w.alloc X) Y _ (by rw[an];omega)).trans (heap_alloc_new w X))
theorem Vq (w:World) (X Y Z:Obj):(((w.alloc X).alloc Y).alloc Z).drew.heap[w.heap.size+1]? = some Y:=by
 have h:=heap_alloc_new (w.alloc X) Y;rw[an] at h;exact(Below.heap_alloc ((w.alloc X).alloc Y) Z _ (by rw[an,an];omega)).trans h
theorem Vr (w:World) (X Y Z:Obj):(((w.alloc X).alloc Y).alloc Z).drew.heap[w.heap.size+1+1]? = some Z:=by
 have h:=heap_alloc_new ((w.alloc X).alloc Y) Z;rw[an,an] at h;exact h
theorem fG.later {W W':World} {B b n s:Nat} {ty:TypeId} {f:Nat→Value} (h:fG W B ty s b n f) (hb:Below W.heap.size W W'):fG W' B ty s b n f:=(Fr.ae (E:=[]) hb).row h (by simp)
section
variable {B n s:Nat} {ty:TypeId} {f:Nat→Value}
theorem Xa (w:World) (X Y Z:Obj) (h:fG (w.alloc X) B ty s w.heap.size n f):fG (((w.alloc X).alloc Y).alloc Z).drew B ty s w.heap.size n f:=h.later (Below.two Y Z).drew
theorem Xb (w:World) (X Y Z:Obj) (h:fG ((w.alloc X).alloc Y) B ty s (w.alloc X).heap.size n f):fG (((w.alloc X).alloc Y).alloc Z).drew B ty s (w.heap.size+1) n f:=by
 rw[an] at h;exact h.later ((Below.refl _ _).alloc (ai _) Z).drew
theorem Xc (w:World) (X Y Z:Obj) (h:fG (((w.alloc X).alloc Y).alloc Z) B ty s ((w.alloc X).alloc Y).heap.size n f):fG (((w.alloc X).alloc Y).alloc Z).drew B ty s (w.heap.size+1+1) n f:=by
 rw[an,an] at h;exact h.later (Below.refl _ _).drew
end
structure MkZ (w2 W:World) (B:Nat) (nv:Value) (N ub ob b:Nat):Prop where
 below:Below w2.heap.size w2 W
 le:w2.heap.size≤b
 blk:W.heap[b]? = some (.cells #[nv,.slice none 0 0,.slice (some ⟨ub,0,none⟩) N N,.slice (some ⟨ob,0,none⟩) N N] 87 (0,0))
 uses:fG W B 57 2 ub N (wm fun _=>(0,0))
 wq:fG W B 3 1 ob N (Ro fun _=>0)
theorem J7 {P:Program} {id:Nat} {ops:Array Oper} {Q:Exit→Act→World→Prop} {a:Act} {w:World} {F:Nat→Nat→Nat→Act} {H:Nat→Nat→Nat→World→Prop} (hr:(∀ub ob b W,H ub ob b W→Q .normal (F ub ob b) W)→(Code.region id ops true).wp P Q a w) (h :∀ub ob b W,H ub ob b W→Q .normal (F ub ob b) W):(Code.region id ops true).wp P Q a w:=hr h
end Go.Proofs.YteflkdlaoiijbaaGreatDoor
namespace Go.Proofs.YteflkdlaoiijbaaGreatDoor
open Go.RowKit
theorem cK {W w':World} (h:Below W.heap.size W w'):(∀b i:Nat,b<W.heap.size→w'.cell? ⟨b,i,none⟩=W.cell? ⟨b,i,none⟩)∧∀b i:Nat,b<W.heap.size→w'.frozen? ⟨b,i,none⟩=W.frozen? ⟨b,i,none⟩:=⟨fun b i hb=>h.cell (p:=⟨b,i,none⟩) hb,fun b i hb=>h.frozen (p:=⟨b,i,none⟩) hb⟩
theorem aq.rename {B b:Nat} {nv:Value} {N ub ob:Nat} {lv:Value} {L:List cJ} {st s1 s2:aG} {r:Rs aG} {w w2:World} {e:Ending} (h:aq B b nv N ub ob lv L st (r.map fun s=>s.back s1) w e w2) (hn:s2.names=s1.names):aq B b nv N ub ob lv L st (r.map fun s=>s.back s2) w e w2:=by
 refine h.same rfl ?_;cases r with
 | error y=>rfl
 | ok s=>exact⟨rfl,rfl,rfl,hn⟩
theorem GF {ib f:Nat} {hb:Nd} {kb:List Lt} {t:Lt} {s:aG}:kL [.mk ib hb kb,t] f s=wB ib f true kb [t] s:=by
 rw[ze];unfold wB;congr 1
 funext s1
 congr 1
 funext s2
 rw[si]
theorem aad {ks:List Lt} {a:Int} (h:oM ks=[18,a]) :∃ib hb kb t,ks=[.mk ib hb kb,t]∧hb.kind=18∧t.hd.kind=a:=by
 unfold oM at h;match ks,h with
 | [.mk ib hb kb,t],h =>
  injection h with h1 h2;injection h2 with h2 _;exact⟨ib,hb,kb,t,rfl,h1,h2⟩
 | [],h=>exact absurd (ay List.length h) (by simp)
 | [.mk _ _ _],h=>exact absurd (ay List.length h) (by simp)
 | .mk _ _ _::_::_::_,h=>exact absurd (ay List.length h) (by simp)
theorem QB {T:List Nd} {B b:Nat} {nv:Value} {ub ob:Nat} (gD :∀x∈T,x.s.size≤65536∧∀s∈x.names,s.size≤65536) (i:Nat) (h:Nd) (ks:List Lt) (hn:kD T (.mk i h ks)) (ie :∀u:Lt,u.size<Lt.al ks+1→kD T u→bB T B b nv ub ob u) (hk:h.kind=24):bB T B b nv ub ob (.mk i h ks):=by
 intro f loop pa la lc ms L st w hr bS cb;show Calls Tryz.prog 26 #[.pointer (some ⟨b,0,none⟩),.int .i64 (i:Int),.agg #[.int .i64 (f:Int),.int .i64 loop,.pointer pa,.slice la L.length lc]] w (aq B b nv T.length ub ob (.slice la L.length lc) L st (aY (.mk i h ks) f st) w)
 have sY:=hn.sub;have mH:=hn.Ku;unfold Lt.In at mH;obtain⟨hx,gU,_⟩:=mH;replace hr:fe T B b nv ub ob f pa (.slice la L.length lc) ms L st w (h.names.length+Lt.dM ks) (Lt.al ks+1):=by have h1:=hr;rw[Lt.wt,Lt.size] at h1;exact h1
 replace bS:18≤h.kind→loop=cG f st.frames:=bS;replace cb:L≠[]∨h.kind=18:=cb;obtain⟨lG,lH,lI⟩:=sY;replace lG:fI T ks:=lG;replace lH:h.kind≠18→∀k∈ks,Still k:=lH;replace lI:qB h.kind h.num (oM ks):=lI;have hxm:=gD h (ba hx);obtain⟨bk,o,c,rfl,eQ,ca,dN⟩:=hr.fE.nodes;obtain⟨zI,zJ,fM,⟨NA,nc,vW,_⟩,⟨KA,kc,rj,CA,JW⟩⟩:=dN i h hx;have sg:h.kids.length≤20000:=(hr.fE.small h (ba hx)).1;have ph:h.kids.length=ks.length:=by rw[gU,dm]
 subst vW rj;obtain⟨x0,x1,x2,x3,x4,x5,x6⟩:=fM;have wu:i<T.length:=(aL.1 hx).1;have pS:=hr.fE.few;obtain⟨fv,FL,hw⟩:=id hr.rs;obtain⟨hbl,oN,s9⟩:=hw.mV;have d0:w.cell? ⟨b,0,none⟩=some (.slice (some ⟨bk,o,none⟩) T.length c):=ab hw.blk 0;have d3:w.cell? ⟨b,3,none⟩=some (.slice (some ⟨ob,0,none⟩) T.length T.length):=ab hw.blk 3;obtain⟨u0,v0⟩:=da hw.wq (j:=i) (by omega)
 have hH:bk<w.heap.size:=by omega
 have qK:=aa gD;have HR:=aa hr;have HN:=aa hn;have tN:=aa ie;have iT:=aa bS;have kP:=aa cb;have eK:=aa lG;have sI:=aa lH;have oH:=aa lI;have fP:=aa gU;have sW:=aa ph;have HX:=aa hx;have zt:=aa hxm;have Di:=aa JW;clear hr hn ie bS cb lG lH lI gU ph hx hxm dN hw gD JW;have q6:(h.kind == 6)=false:=by rw[hk];rfl
 have q7:(h.kind == 7)=false:=by rw[hk];rfl
 have yV:(h.kind == 11)=false:=by rw[hk];rfl
 have zG:(h.kind == 18)=false:=by rw[hk];rfl
 have WU:(h.kind == 23)=false:=by rw[hk];rfl
 have q26:(h.kind == 26)=false:=by rw[hk];rfl
 have q27:(h.kind == 27)=false:=by rw[hk];rfl
 have q24:(h.kind == 24)=true:=by rw[hk];rfl
 have bO:=aa hk;clear hk;go_enter Tryz.func26,Tryz.ntmps26
 go_wp2_with fail
 go_region
 obtain⟨W1,hW1,HZ,fA,pP,AZ,K,y0,tp,oO,tq,k0,k1,k2,k3⟩:=dY loop i HR.out eQ;rw[←hW1];have x0:=K _ _ x0;have x1:=K _ _ x1;have x2:=K _ _ x2;have x3:=K _ _ x3;have x4:=K _ _ x4;have x5:=K _ _ x5;have x6:=K _ _ x6;clear hW1 K d0 d3 u0 v0;have d0:=y0;clear y0;obtain⟨ea,hl0,hea⟩:=oH.out.Ge bO.out;obtain⟨ib,hb,kb,t,rfl,abS,abT⟩:=aad hl0;have gU:h.kids=[(ib:Int),(t.loc:Int)]:=fP.out;obtain⟨sb,so,hKA,ZP,aae⟩ :∃sb so,KA=some ⟨sb,so,none⟩∧sb<B∧∀(j:Nat) x,h.kids[j]? = some x→w.cell? ⟨sb,so+j,none⟩=some (.int .i64 x):=by
  rcases Di.out with h0 | ⟨sb,so,h1,h2,h3⟩
  ·rw[gU] at h0;cases h0
  ·exact⟨sb,so,h1,h2,h3⟩
 subst hKA;have y0:=(fA.out.below.cell (p:=⟨sb,so,none⟩) ZP).trans (aae 0 (ib:Int) (by rw[gU];rfl))
 have y1:=(fA.out.below.cell (p:=⟨sb,so+1,none⟩) ZP).trans (aae 1 (t.loc:Int) (by rw[gU];rfl))
 have abU:h.kids.length=2:=by rw[gU];rfl
 have adT:=aa abU;have hkg0:0<h.kids.length:=by omega
 have hkg1:1<h.kids.length:=by omega
 have abV:sb<W1.heap.size:=by omega
 have HHK:=aa gU;have HEA:=aa hea;have adU:=aa abT;have HB18:=aa abS;clear aae gU abU hea abT abS hl0;go_wp2_with fail
 obtain⟨W2,hW2⟩ :∃W2,W2=W1.alloc (.cells #[.int .i64 h.kind,.int .i64 h.line,.int .i64 h.op,.int .i64 h.num,.string h.s,.slice NA h.names.length nc,.slice (some ⟨sb,so,none⟩) h.kids.length kc] 55):=⟨_,rfl⟩;have cY:Below W1.heap.size W1 W2:=by rw[hW2];exact(Below.refl _ _).alloc (ai _) _
 rw[←hW2];have hz2:=heap_alloc_new W1 (.cells #[.int .i64 h.kind,.int .i64 h.line,.int .i64 h.op,.int .i64 h.num,.string h.s,.slice NA h.names.length nc,.slice (some ⟨sb,so,none⟩) h.kids.length kc] 55);rw[←hW2] at hz2;have n6:=ab hz2 6;rw[adT.out] at n6;replace n6:W2.cell? ⟨W1.heap.size,6,none⟩=some (.slice (some ⟨sb,so,none⟩) 2 kc):=n6;have p0:=(cY.cell (p:=⟨w.heap.size,0,none⟩) oO).trans k0;have p1:=(cY.cell (p:=⟨w.heap.size,1,none⟩) oO).trans k1;have p2:=(cY.cell (p:=⟨w.heap.size,2,none⟩) oO).trans k2;have p3:=(cY.cell (p:=⟨w.heap.size,3,none⟩) oO).trans k3;have y0:=(cY.cell (p:=⟨sb,so,none⟩) abV).trans y0;have y1:=(cY.cell (p:=⟨sb,so+1,none⟩) abV).trans y1;have hl2:W1.heap.size<W2.heap.size:=by rw[hW2,an];omega
 have abW:=aa cY;have Cp:sb<W2.heap.size:=by omega
 have oP:w.heap.size<W2.heap.size:=by omega
 clear hW2 hz2 cY x0 x1 x2 x3 x4 x5 x6 d0 k0 k1 k2 k3;have YS:Hid (∀W,Calls Tryz.prog 57 #[.agg #[.int .i64 (f:Int),.int .i64 loop,.pointer pa,.slice la L.length lc],.int .i64 (i:Int)] W fun e w'=>e=.returned (.agg #[.int .i64 (f:Int),.int .i64 (i:Int),.pointer pa,.slice la L.length lc])∧Below W.heap.size W w'):=aa fun W=>mn f loop (i:Int) pa la L.length lc W
 have abX:Hid (∀W g,Below W2.heap.size W2 W→W.heap[g]? = some (.cells #[.int .i64 (t.loc:Int)] 3 (0,0))→W2.heap.size≤g→Calls Tryz.prog 56 #[.pointer (some ⟨b,0,none⟩),.int .i64 (ib:Int),.agg #[.int .i64 (f:Int),.int .i64 (i:Int),.pointer pa,.slice la L.length lc],.slice (some ⟨g,0,none⟩) 1 1] W (aq B b (.slice (some ⟨bk,o,none⟩) T.length c) T.length ub ob (.slice la L.length lc) L st ((wB ib f true kb [t] (df i f (st.setOf i f))).map fun s=>s.back (df i f (st.setOf i f))) w)):=aa fun W g hW hg hge=>by
  have hW1:=abW.out.trans (hW.mono abW.out.size);have ZK:=(HZ.out.dc hW1).oI i;have Qo:Lt.mk ib hb kb∈[Lt.mk ib hb kb,t]:=bQ ..;have Fo:=eK.out.at_ _ Qo;have hnt:=eK.out.cons.2;have mH:=Fo.Ku;unfold Lt.In at mH;have hsz:Lt.al [Lt.mk ib hb kb,t]=Lt.al kb+1+t.size:=by simp[Lt.al,Lt.size]
  have hwt:Lt.dM [Lt.mk ib hb kb,t]=hb.names.length+Lt.dM kb+t.wt:=by simp[Lt.dM,Lt.wt]
  have hs1:Lt.al [t]=t.size:=by simp[Lt.al]
  have dZ:Lt.dM [t]=t.wt:=by simp[Lt.dM]
  have adV:g≠ob:=by
   obtain⟨_,_,hw⟩:=HZ.out.rs;have:=hw.mV;omega
  refine(ya ib f hb kb [t] true (i:Int) pa la lc ms L (df i f (st.setOf i f)) W (.slice (some ⟨g,0,none⟩) 1 1) (ZK.WV (by rw[hwt,dZ];omega) (by rw[hsz,hs1];omega)) mH.1 mH.2.1 Fo.sub.1 hnt (fun k hk=>tN.out k (by have:=fh hk;rw[hsz];omega) (Fo.sub.1.at_ k hk)) (fun k hk=>tN.out k (by have:=fh hk;rw[hs1] at this;rw[hsz];omega) (hnt.at_ k hk)) ⟨_,_,rfl,ai _,.inr ⟨g,0,rfl,fun w' hf j x hj=>?_⟩⟩ rfl (fun k hk mF=>(vy f i _).symm) (fun k hk mF=>?_) (fun x hx=>(qK.out x.hd (ba (vm mH.2.2 (List.getElem?_of_mem hx).choose_spec).2)).1) (by simp)).mono fun e w' hp=>aq.after (fA.out.trans (cN.bK hW1 HZ.out.world)) rfl hp
  ·have h1:=hf.ints g _ _ hg adV
   cases j with
   | zero =>
    injection hj with hj;rw[←hj];exact ab h1 0
   | succ j=>cases hj
  ·rw[bI] at hk
   have:=HEA.out;rw[←adU.out,←hk] at this;unfold tL at this;omega
 refine bW.Qz (n:=13) (S:=(fun W=>W.cell? ⟨W1.heap.size,6,none⟩=some (.slice (some ⟨sb,so,none⟩) 2 kc)∧W.cell? ⟨w.heap.size,0,none⟩=some (.int .i64 (f:Int))∧W.cell? ⟨w.heap.size,1,none⟩=some (.int .i64 loop)∧W.cell? ⟨w.heap.size,2,none⟩=some (.pointer pa)∧W.cell? ⟨w.heap.size,3,none⟩=some (.slice la L.length lc)∧W.cell? ⟨sb,so,none⟩=some (.int .i64 (ib:Int))∧W.cell? ⟨sb,so+1,none⟩=some (.int .i64 (t.loc:Int)))) (by kernel_rfl) ?_
 have GG:(fun W=>W.cell? ⟨W1.heap.size,6,none⟩=some (.slice (some ⟨sb,so,none⟩) 2 kc)∧W.cell? ⟨w.heap.size,0,none⟩=some (.int .i64 (f:Int))∧W.cell? ⟨w.heap.size,1,none⟩=some (.int .i64 loop)∧W.cell? ⟨w.heap.size,2,none⟩=some (.pointer pa)∧W.cell? ⟨w.heap.size,3,none⟩=some (.slice la L.length lc)∧W.cell? ⟨sb,so,none⟩=some (.int .i64 (ib:Int))∧W.cell? ⟨sb,so+1,none⟩=some (.int .i64 (t.loc:Int))) W2.drew:=⟨n6,p0,p1,p2,p3,y0,y1⟩
 refine bW.fu 0 (.pointer (some ⟨b,0,none⟩)) (by kernel_rfl) (by decide) (by kernel_rfl) (by kernel_rfl) (by kernel_rfl) (fun _ _ _ _ h=>h) GG ?_
 simp only[ez,ee,dT,ed];refine⟨by rfl,by rfl,?_,?_⟩
 ·intro w hSw
  (try dsimp only at hSw)
  go_simp
 simp only[Act.put,dS,dH,dI];refine bW.fu 1 (.pointer (some ⟨W1.heap.size,6,none⟩)) (by kernel_rfl) (by decide) (by kernel_rfl) (by kernel_rfl) (by kernel_rfl) (fun _ _ _ _ h=>h) GG ?_
 simp only[ez,ee,dT,ed];refine⟨by rfl,by rfl,?_,?_⟩
 ·intro w hSw
  (try dsimp only at hSw)
  go_simp
 simp only[Act.put,dS,dH,dI];refine bW.fu 2 (.slice (some ⟨sb,so,none⟩) 2 kc) (by kernel_rfl) (by decide) (by kernel_rfl) (by kernel_rfl) (by kernel_rfl) (fun _ _ _ _ h=>h) GG ?_
 simp only[ez,ee,dT,ed];refine⟨by rfl,by rfl,?_,?_⟩
 ·intro w hSw
  (try dsimp only at hSw)
  go_simp
 simp only[Act.put,dS,dH,dI];refine bW.fu 3 (.pointer (some ⟨sb,so,none⟩)) (by kernel_rfl) (by decide) (by kernel_rfl) (by kernel_rfl) (by kernel_rfl) (fun _ _ _ _ h=>h) GG ?_
 simp only[ez,ee,dT,ed];refine⟨by rfl,by rfl,?_,?_⟩
 ·intro w hSw
  (try dsimp only at hSw)
  go_simp
 simp only[Act.put,dS,dH,dI];refine bW.fu 4 (.int .i64 (ib:Int)) (by kernel_rfl) (by decide) (by kernel_rfl) (by kernel_rfl) (by kernel_rfl) (fun _ _ _ _ h=>h) GG ?_
 simp only[ez,ee,dT,ed];refine⟨by rfl,by rfl,?_,?_⟩
 ·intro w hSw
  (try dsimp only at hSw)
  go_simp
 simp only[Act.put,dS,dH,dI];refine bW.fu 5 (.agg #[.int .i64 (f:Int),.int .i64 loop,.pointer pa,.slice la L.length lc]) (by kernel_rfl) (by decide) (by kernel_rfl) (by kernel_rfl) (by kernel_rfl) (fun _ _ _ _ h=>h) GG ?_
 simp only[ez,ee,dT,ed];refine⟨by rfl,by rfl,?_,?_⟩
 ·intro w hSw
  (try dsimp only at hSw)
  go_simp
 simp only[Act.put,dS,dH,dI];refine bW.fu 6 (.int .i64 (i:Int)) (by kernel_rfl) (by decide) (by kernel_rfl) (by kernel_rfl) (by kernel_rfl) (fun _ _ _ _ h=>h) GG ?_
 simp only[ez,ee,dT,ed];refine⟨by rfl,by rfl,?_,?_⟩
 ·intro w hSw
  (try dsimp only at hSw)
  go_simp
 simp only[Act.put,dS,dH,dI];refine bW.fu 8 (.pointer (some ⟨W1.heap.size,6,none⟩)) (by kernel_rfl) (by decide) (by kernel_rfl) (by kernel_rfl) (by kernel_rfl) (fun _ _ _ _ h=>h) GG ?_
 simp only[ez,ee,dT,ed];refine⟨by rfl,by rfl,?_,?_⟩
 ·intro w hSw
  (try dsimp only at hSw)
  go_simp
 simp only[Act.put,dS,dH,dI];refine bW.fu 9 (.slice (some ⟨sb,so,none⟩) 2 kc) (by kernel_rfl) (by decide) (by kernel_rfl) (by kernel_rfl) (by kernel_rfl) (fun _ _ _ _ h=>h) GG ?_
 simp only[ez,ee,dT,ed];refine⟨by rfl,by rfl,?_,?_⟩
 ·intro w hSw
  (try dsimp only at hSw)
  go_simp
 simp only[Act.put,dS,dH,dI];refine bW.fu 10 (.pointer (some ⟨sb,so+1,none⟩)) (by kernel_rfl) (by decide) (by kernel_rfl) (by kernel_rfl) (by kernel_rfl) (fun _ _ _ _ h=>h) GG ?_
 simp only[ez,ee,dT,ed];refine⟨by rfl,by rfl,?_,?_⟩
 ·intro w hSw
  (try dsimp only at hSw)
  go_simp
 simp only[Act.put,dS,dH,dI];refine bW.fu 11 (.int .i64 (t.loc:Int)) (by kernel_rfl) (by decide) (by kernel_rfl) (by kernel_rfl) (by kernel_rfl) (fun _ _ _ _ h=>h) GG ?_
 simp only[ez,ee,dT,ed];refine⟨by rfl,by rfl,?_,?_⟩
 ·intro w hSw
  (try dsimp only at hSw)
  go_simp
 simp only[Act.put,dS,dH,dI];refine bW.aaa 7 12 (by kernel_rfl) (fun K hK=>?_) fun K hK=>?_
 ·simp only[ez,ee,dT,ed]
  go_simp
  go_at_call 57
  with_reducible refine(YS.out _).mono ?_
  rintro e w3 ⟨rfl,hb3⟩;go_wp2_with fail
  have wC:Below W2.heap.size W2 w3:=iG hb3;refine hK.out _ _ (fun _=>⟨((cK wC).1 _ 6 hl2).trans n6,((cK wC).1 _ 0 oP).trans p0,((cK wC).1 _ 1 oP).trans p1,((cK wC).1 _ 2 oP).trans p2,((cK wC).1 _ 3 oP).trans p3,((cK wC).1 sb so Cp).trans y0,((cK wC).1 sb (so+1) Cp).trans y1⟩) ?_
  clear hK K
  (try simp only[Act.put,dS,dH,dI])
  refine bW.jX 12 (by kernel_rfl) fun K hK=>?_
  simp only[ez,ee,dT,ed];go_simp
  have hq4:=wC.alloc wC.size (.cells #[.int .i64 (t.loc:Int)] 3);refine hK.out _ _ (fun _=>⟨((cK hq4).1 _ 6 hl2).trans n6,((cK hq4).1 _ 0 oP).trans p0,((cK hq4).1 _ 1 oP).trans p1,((cK hq4).1 _ 2 oP).trans p2,((cK hq4).1 _ 3 oP).trans p3,((cK hq4).1 sb so Cp).trans y0,((cK hq4).1 sb (so+1) Cp).trans y1⟩) ?_
  clear hK K
  (try simp only[Act.put,dS,dH,dI])
  refine bW.jX 13 (by kernel_rfl) fun K hK=>?_
  simp only[ez,ee,dT,ed];go_simp
  go_at_call 56
  with_reducible refine(abX.out _ w3.heap.size (wC.alloc wC.size _) (heap_alloc_new _ _) wC.size).mono ?_
  intro e w4 hp;obtain⟨v,rfl⟩:=hp.ret;have HV:=aa hp;clear hp;go_wp2_with fail
  refine hK.out _ _ (fun h=>absurd h (by decide)) ?_
  clear hK K
  (try simp only[Act.put,dS,dH,dI])
  refine bW.jX 14 (by kernel_rfl) fun K hK=>?_
  simp only[ez,ee,dT,ed];go_simp
  refine hK.out _ _ (fun h=>absurd h (by decide)) ?_
  clear hK K
  (try simp only[Act.put,dS,dH,dI])
  refine bW.done (by kernel_rfl) ?_ _
  go_wp2_with fail
  go_ret
  have hE:aY (.mk i h [.mk ib hb kb,t]) f st=(wB ib f true kb [t] (df i f (st.setOf i f))).map fun s=>s.back (st.setOf i f):=by
   rw[cw];rw[af (by have:=bO.out;omega)]
   rw[af (by have:=bO.out;omega)]
   rw[af (by have:=bO.out;omega)]
   rw[af (by have:=bO.out;omega)]
   rw[af (by have:=bO.out;omega)]
   rw[af (by have:=bO.out;omega)]
   rw[ak bO.out];rw[GF]
  rw[hE];exact HV.out.rename rfl
 ·simp only[ez,ee,dT,ed]
  go_simp
  have pD:Below W2.heap.size W2 (W2.drew.alloc (.cells #[.int .i64 (t.loc:Int)] 3)):=((Below.refl _ W2).drew).alloc (ai _) _;refine hK.out _ _ (fun _=>⟨((cK pD).1 _ 6 hl2).trans n6,((cK pD).1 _ 0 oP).trans p0,((cK pD).1 _ 1 oP).trans p1,((cK pD).1 _ 2 oP).trans p2,((cK pD).1 _ 3 oP).trans p3,((cK pD).1 sb so Cp).trans y0,((cK pD).1 sb (so+1) Cp).trans y1⟩) ?_
  clear hK K
  (try simp only[Act.put,dS,dH,dI])
  refine bW.jX 7 (by kernel_rfl) fun K hK=>?_
  simp only[ez,ee,dT,ed];go_simp
  go_at_call 57
  with_reducible refine(YS.out _).mono ?_
  rintro e w3 ⟨rfl,hb3⟩;go_wp2_with fail
  have hrow:=((iG hb3).block W2.heap.size (by rw[an];omega)).trans (heap_alloc_new W2 (.cells #[.int .i64 (t.loc:Int)] 3))
  have wC:Below W2.heap.size W2 w3:=((Below.refl _ _).alloc (ai _) _).trans ((iG hb3).mono (by rw[an];omega))
  refine hK.out _ _ (fun _=>⟨((cK wC).1 _ 6 hl2).trans n6,((cK wC).1 _ 0 oP).trans p0,((cK wC).1 _ 1 oP).trans p1,((cK wC).1 _ 2 oP).trans p2,((cK wC).1 _ 3 oP).trans p3,((cK wC).1 sb so Cp).trans y0,((cK wC).1 sb (so+1) Cp).trans y1⟩) ?_
  clear hK K
  (try simp only[Act.put,dS,dH,dI])
  refine bW.jX 13 (by kernel_rfl) fun K hK=>?_
  simp only[ez,ee,dT,ed];go_simp
  go_at_call 56
  with_reducible refine(abX.out _ W2.heap.size wC hrow (ai _)).mono ?_
  intro e w4 hp;obtain⟨v,rfl⟩:=hp.ret;have HV:=aa hp;clear hp;go_wp2_with fail
  refine hK.out _ _ (fun h=>absurd h (by decide)) ?_
  clear hK K
  (try simp only[Act.put,dS,dH,dI])
  refine bW.jX 14 (by kernel_rfl) fun K hK=>?_
  simp only[ez,ee,dT,ed];go_simp
  refine hK.out _ _ (fun h=>absurd h (by decide)) ?_
  clear hK K
  (try simp only[Act.put,dS,dH,dI])
  refine bW.done (by kernel_rfl) ?_ _
  go_wp2_with fail
  go_ret
  have hE:aY (.mk i h [.mk ib hb kb,t]) f st=(wB ib f true kb [t] (df i f (st.setOf i f))).map fun s=>s.back (st.setOf i f):=by
   rw[cw];rw[af (by have:=bO.out;omega)]
   rw[af (by have:=bO.out;omega)]
   rw[af (by have:=bO.out;omega)]
   rw[af (by have:=bO.out;omega)]
   rw[af (by have:=bO.out;omega)]
   rw[af (by have:=bO.out;omega)]
   rw[ak bO.out];rw[GF]
  rw[hE];exact HV.out.rename rfl
theorem aaf {T:List Nd} {B b:Nat} {nv:Value} {ub ob:Nat} (gD :∀x∈T,x.s.size≤65536∧∀s∈x.names,s.size≤65536):WX T B b nv ub ob:=fun i h ks hn ie hk=>QB gD i h ks hn ie hk
theorem J8 {T:List Nd} {B b:Nat} {nv:Value} {ub ob:Nat} (gD :∀x∈T,x.s.size≤65536∧∀s∈x.names,s.size≤65536) (t:Lt) (hn:kD T t):bB T B b nv ub ob t:=yd gD (aaf gD) t.size t (ai _) hn
structure Sml (T:List Nd):Prop where
 kids :∀x∈T,x.kids.length≤20000∧x.names.length≤20000
 size :∀x∈T,x.s.size≤65536∧∀s∈x.names,s.size≤65536
theorem Sml.szd {T:List Nd} (h:Sml T):Szd T:=fun x hx=>by have:=(h.kids x hx).2;omega
theorem Ep (v:Value) (T:List Nd) (r:Int) (w:World) (h:mD w v T r) (hs:Szd T) (hR:iy T r=false):Calls Tryz.prog 11 #[v] w fun e w'=>Below w.heap.size w w'∧∃u,e=.returned (.tuple #[iU,u])∧D8 w' u 0 4:=by
 have HT:=aa h;have HS:=aa hs;have HR:=aa hR;obtain⟨nv,rfl,A,c,rfl,hc,hn⟩:=h;clear hs hn hR;go_enter Tryz.func11,Tryz.ntmps11
 go_wp2_with fail
 obtain⟨W1,hW1⟩ :∃W1,W1=(w.alloc (.cells #[.slice A T.length c,.int .i64 r] 25)).alloc (.cells #[.slice none 0 0,.slice none 0 0,.slice none 0 0] 35):=⟨_,rfl⟩;have hb1:Below w.heap.size w W1:=by rw[hW1];exact Below.two _ _
 have hs1:W1.heap.size=w.heap.size+1+1:=by rw[hW1,an,an]
 have hsc:W1.heap[w.heap.size+1]? = some (.cells #[.slice none 0 0,.slice none 0 0,.slice none 0 0] 35 (0,0)):=by
  rw[hW1];have:=heap_alloc_new (w.alloc (.cells #[.slice A T.length c,.int .i64 r] 25)) (.cells #[.slice none 0 0,.slice none 0 0,.slice none 0 0] 35);rwa[an] at this
 rw[←hW1];have dK:=aa hb1;have HSC:=aa hsc;have eK:=aa hs1;clear hW1 hb1 hsc hs1;refine(ye _ T r W1 (HT.out.below dK.out) HS.out).mono ?_;rintro e w2 ⟨rfl,b2⟩;have B2:=aa b2;clear b2;rw[HR.out];have oe:=(B2.out.block (w.heap.size+1) (by rw[eK.out];omega)).trans HSC.out
 have z0:=aw oe 0;have z1:=aw oe 1;have z2:=aw oe 2;have y0:w2.cell? ⟨w.heap.size+1,0,none⟩=some (.slice none 0 0):=ab oe 0;have y1:w2.cell? ⟨w.heap.size+1,1,none⟩=some (.slice none 0 0):=ab oe 1;have y2:w2.cell? ⟨w.heap.size+1,2,none⟩=some (.slice none 0 0):=ab oe 2;have hl2:w.heap.size+1<w2.heap.size:=(aJ.1 oe).1;have sj:=aa oe;clear oe;go_wp2_with fail
 have h3:=bn (bn (bn sj.out 0 (.slice none 0 0)) 1 (.slice none 0 0)) 2 (.slice none 0 0);have hb3:Below w.heap.size w2 (((w2.setCell ⟨w.heap.size+1,0,none⟩ (.slice none 0 0)).setCell ⟨w.heap.size+1,1,none⟩ (.slice none 0 0)).setCell ⟨w.heap.size+1,2,none⟩ (.slice none 0 0)):=(((Below.refl _ _).setCell (p:=⟨w.heap.size+1,0,none⟩) (by show _≤w.heap.size+1;omega) _).setCell (p:=⟨w.heap.size+1,1,none⟩) (by show _≤w.heap.size+1;omega) _).setCell (p:=⟨w.heap.size+1,2,none⟩) (by show _≤w.heap.size+1;omega) _
 have hs3:(((w2.setCell ⟨w.heap.size+1,0,none⟩ (.slice none 0 0)).setCell ⟨w.heap.size+1,1,none⟩ (.slice none 0 0)).setCell ⟨w.heap.size+1,2,none⟩ (.slice none 0 0)).heap.size=w2.heap.size:=by simp[World.setCell]
 generalize ((w2.setCell ⟨w.heap.size+1,0,none⟩ (.slice none 0 0)).setCell ⟨w.heap.size+1,1,none⟩ (.slice none 0 0)).setCell ⟨w.heap.size+1,2,none⟩ (.slice none 0 0)=W3 at h3 hb3 hs3 ⊢;rw[←hs3];have h4:=(Below.heap_alloc W3 (.cells #[.int .i64 0,.iface 79 (.int .i64 4)] 85) _ (aJ.1 h3).1).trans h3;have pB:=heap_alloc_new W3 (.cells #[.int .i64 0,.iface 79 (.int .i64 4)] 85);have c0:(W3.alloc (.cells #[.int .i64 0,.iface 79 (.int .i64 4)] 85)).cell? ⟨w.heap.size+1,0,none⟩=some (.slice none 0 0):=ab h4 0;have c1:(W3.alloc (.cells #[.int .i64 0,.iface 79 (.int .i64 4)] 85)).cell? ⟨w.heap.size+1,1,none⟩=some (.slice none 0 0):=ab h4 1;have c2:(W3.alloc (.cells #[.int .i64 0,.iface 79 (.int .i64 4)] 85)).cell? ⟨w.heap.size+1,2,none⟩=some (.slice none 0 0):=ab h4 2;refine bodyPost_ret (v:=.tuple #[iU,.iface 83 (.pointer (some ⟨W3.heap.size,0,none⟩))]) (by simp[results,Tryz.results11,go_sem,iU,c0,c1,c2]) rfl ⟨((dK.out.trans (B2.out.mono dK.out.size)).trans hb3).trans ((Below.refl _ _).alloc (by have:=dK.out.size;omega) _),_,rfl,_,rfl,pB⟩
theorem Cq (v:Value) (T:List Nd) (r:Int) (w:World) (h:mD w v T r) (hs:Sml T) (hR:iy T r=true) (t:Lt) (hr:(t.loc:Int)=r) (hn:kD T t) (mF:t.hd.kind=18) (hN:T.length≤16384) (hwt:t.wt≤50000) (hsz:t.size=T.length):Calls Tryz.prog 11 #[v] w fun e w'=>Below w.heap.size w w'∧GD w.heap.size T.length (kM t) e w':=by
 have HT:=aa h;have HS:=aa hs;have HR:=aa hR;have HND:=aa hn;have H18:=aa mF;have HWT:=aa hwt;have qK:=aa hsz;obtain⟨nv,rfl,A,c,rfl,hc,hX⟩:=h;have Rg:t.loc<T.length:=(aL.1 (D0 hn.Ku).2.1).1;have hX2 :∃bk o,A=some ⟨bk,o,none⟩∧bk<w.heap.size∧tC w bk o T:=by
  rcases hX with hX | ⟨bk,o,e,hb,hX⟩
  ·rw[hX] at Rg;cases Rg
  ·exact⟨bk,o,e,hb,hX⟩
 obtain⟨bk,o,rfl,eQ,hX3⟩:=hX2;have HX:=aa hX3;subst hr;clear hX hX3 hs hR hn mF hwt hsz;go_enter Tryz.func11,Tryz.ntmps11
 go_wp2_with fail
 obtain⟨W1,hW1⟩ :∃W1,W1=(w.alloc (.cells #[.slice (some ⟨bk,o,none⟩) T.length c,.int .i64 (t.loc:Int)] 25)).alloc (.cells #[.slice none 0 0,.slice none 0 0,.slice none 0 0] 35):=⟨_,rfl⟩;have hb1:Below w.heap.size w W1:=by rw[hW1];exact Below.two _ _
 have hs1:W1.heap.size=w.heap.size+1+1:=by rw[hW1,an,an]
 have htr:W1.heap[w.heap.size]? = some (.cells #[.slice (some ⟨bk,o,none⟩) T.length c,.int .i64 (t.loc:Int)] 25 (0,0)):=by
  rw[hW1];exact(Below.heap_alloc _ _ _ (by rw[an];omega)).trans (heap_alloc_new w _)
 have hsc:W1.heap[w.heap.size+1]? = some (.cells #[.slice none 0 0,.slice none 0 0,.slice none 0 0] 35 (0,0)):=by
  rw[hW1];have:=heap_alloc_new (w.alloc (.cells #[.slice (some ⟨bk,o,none⟩) T.length c,.int .i64 (t.loc:Int)] 25)) (.cells #[.slice none 0 0,.slice none 0 0,.slice none 0 0] 35);rwa[an] at this
 rw[←hW1];have dK:=aa hb1;have HTR:=aa htr;have HSC:=aa hsc;have eK:=aa hs1;clear hW1 hb1 hsc hs1 htr;refine(ye _ T _ W1 (HT.out.below dK.out) HS.out.szd).mono ?_;rintro e w2 ⟨rfl,b2⟩;rw[HR.out];have oe:=(b2.block (w.heap.size+1) (by rw[eK.out];omega)).trans HSC.out
 have Er:=(b2.block w.heap.size (by rw[eK.out];omega)).trans HTR.out
 have hb2:Below w.heap.size w w2:=dK.out.trans (b2.mono dK.out.size);have B2:=aa hb2;have sj:=aa oe;have zv:=aa Er;have hl2:w.heap.size+1<w2.heap.size:=(aJ.1 oe).1;have t0:w2.cell? ⟨w.heap.size,0,none⟩=some (.slice (some ⟨bk,o,none⟩) T.length c):=ab Er 0;have t1:w2.cell? ⟨w.heap.size,1,none⟩=some (.int .i64 (t.loc:Int)):=ab Er 1;clear b2 oe Er hb2 dK HTR HSC eK;obtain⟨MU,hMU⟩:=J6 T.length (by omega)
 obtain⟨MO,hMO⟩:=QA T.length (by omega)
 have mU:=fun W=>(hMU W).1
 have mO:=fun W=>(hMO W).1
 have HMU:=aa fun W=>(hMU W).2
 have HMO:=aa fun W=>(hMO W).2
 clear hMU hMO;go_wp2_with fail
 have hK :∀W,Below w2.heap.size w2 W→W.cell? ⟨w.heap.size,0,none⟩=some (.slice (some ⟨bk,o,none⟩) T.length c):=fun W hW=>(hW.cell (p:=⟨w.heap.size,0,none⟩) (by show w.heap.size<_;omega)).trans t0
 have HK:=aa hK;clear hK;refine J7 (F:=fun ub ob b=>⟨#[.agg #[.slice (some ⟨bk,o,none⟩) T.length c,.int .i64 (t.loc:Int)],.pointer (some ⟨w.heap.size,0,none⟩),.pointer (some ⟨w.heap.size+1,0,none⟩),.nilIface,.int .i64 (T.length:Int),
  .pointer (some ⟨b,0,none⟩),undef,undef,.agg #[.slice (some ⟨bk,o,none⟩) T.length c,.int .i64 (t.loc:Int)],.bool true,.bool false,undef,undef,undef,undef,undef,.pointer (some ⟨w.heap.size,0,none⟩),.slice (some ⟨bk,o,none⟩) T.length c,.int .i64 (T.length:Int),
  .pointer (some ⟨w.heap.size,0,none⟩),.slice (some ⟨bk,o,none⟩) T.length c,.int .i64 (T.length:Int),.slice (some ⟨ub,0,none⟩) T.length T.length,.int .i64 (T.length:Int),.slice (some ⟨ob,0,none⟩) T.length T.length,
  .agg #[.slice none 0 0,.slice (some ⟨ub,0,none⟩) T.length T.length,.slice (some ⟨ob,0,none⟩) T.length T.length],.agg #[.slice (some ⟨bk,o,none⟩) T.length c,.slice none 0 0,.slice (some ⟨ub,0,none⟩) T.length T.length,.slice (some ⟨ob,0,none⟩) T.length T.length],
  undef,undef,undef,undef,undef,undef,undef,undef,undef,undef,undef,undef,undef,undef],[]⟩) (H:=fun ub ob b W=>MkZ w2 W w2.heap.size (.slice (some ⟨bk,o,none⟩) T.length c) T.length ub ob b) (fun HQ=>?_) (fun ub ob b W hM=>?_)
 ·have HQ:=aa HQ
  go_region_held3 (fun W=>W.cell? ⟨w.heap.size,0,none⟩=some (.slice (some ⟨bk,o,none⟩) T.length c)) ((apply HK.out;(repeat (first|exact Below.refl _ _|refine Below.drew ?_|refine Below.alloc ?_ (by simp;try omega) _|refine Below.setCell ?_ (by simp;try omega) _)))) (fail)
  all_goals
   refine HQ.out _ _ _ _ ⟨Co _ _ _ _,by omega,?_,?_,?_⟩
   ·first
     | exact Vp _ _ _ _
     | exact Vq _ _ _ _
     | exact Vr _ _ _ _
   ·first
     | exact Xa _ _ _ _ (HMU.out _ _ (ai _))
     | exact Xb _ _ _ _ (HMU.out _ _ (by rw[an];omega))
     | exact Xc _ _ _ _ (HMU.out _ _ (by rw[an,an];omega))
   ·first
     | exact Xa _ _ _ _ (HMO.out _ _ (ai _))
     | exact Xb _ _ _ _ (HMO.out _ _ (by rw[an];omega))
     | exact Xc _ _ _ _ (HMO.out _ _ (by rw[an,an];omega))
 ·dsimp only
  have HM:=aa hM;have hblk:=hM.blk;have adW:=hM.below;have Vs:=(hM.below.block w.heap.size (by omega)).trans zv.out
  have abY:=(hM.below.block (w.heap.size+1) (by omega)).trans sj.out
  have t0:W.cell? ⟨w.heap.size,0,none⟩=some (.slice (some ⟨bk,o,none⟩) T.length c):=ab Vs 0;have t1:W.cell? ⟨w.heap.size,1,none⟩=some (.int .i64 (t.loc:Int)):=ab Vs 1;have hlW:w2.heap.size≤W.heap.size:=hM.below.size;have HTRW:=aa Vs;have HSCW:=aa abY;clear hM hblk adW Vs abY mU mO HMU HMO;go_wp2_with fail
  obtain⟨WF,hWF⟩ :∃WF,WF=W.alloc (.cells #[.int .i64 (t.loc:Int),.int .i64 (-1),.int .i64 0,.bool true,.slice none 0 0,.slice none 0 0] 52):=⟨_,rfl⟩;rw[←hWF];have hbF:Below W.heap.size W WF:=by rw[hWF];exact(Below.refl _ _).alloc (ai _) _
  have Xd:WF.heap[W.heap.size]? = some (.cells #[.int .i64 (t.loc:Int),.int .i64 (-1),.int .i64 0,.bool true,.slice none 0 0,.slice none 0 0] 52 (0,0)):=by rw[hWF];exact heap_alloc_new _ _
  have f0:WF.cell? ⟨W.heap.size,0,none⟩=some (.int .i64 (t.loc:Int)):=ab Xd 0;have f1:WF.cell? ⟨W.heap.size,1,none⟩=some (.int .i64 (-1)):=ab Xd 1;have f2:WF.cell? ⟨W.heap.size,2,none⟩=some (.int .i64 0):=ab Xd 2;have f3:WF.cell? ⟨W.heap.size,3,none⟩=some (.bool true):=ab Xd 3;have f4:WF.cell? ⟨W.heap.size,4,none⟩=some (.slice none 0 0):=ab Xd 4;have f5:WF.cell? ⟨W.heap.size,5,none⟩=some (.slice none 0 0):=ab Xd 5;have aag:Below w2.heap.size w2 WF:=HM.out.below.trans (hbF.mono hlW);have hRX:e8 WF w2.heap.size b (.slice (some ⟨bk,o,none⟩) T.length c) T.length ⟨[],fun _=>(0,0),fun _=>0,[],[]⟩ (.slice none 0 0) ub ob []:=by
   refine⟨(hbF.block b (aJ.1 HM.out.blk).1).trans HM.out.blk,⟨World.ownsRow_nil _ _ _ _,(fun _ h=>by cases h),(fun _ h=>by cases h),(fun _ _ _ _ _ h=>by cases h),(fun _ _ _ _ _ h=>by cases h)⟩,rfl,HM.out.uses.later hbF,HM.out.wq.later hbF,HM.out.le⟩
  have HRX:=aa hRX;have adX:=aa aag;have abZ:tC w2 bk o T:=fun j x hj=>by
   obtain⟨nv,kv,h1,h2,h3⟩:=HX.out j x hj;exact⟨nv,kv,h1.below B2.out eQ,h2.below B2.out,h3.below B2.out⟩
  have HTI:=aa abZ;have hK2 :∀W',Below w2.heap.size WF W'→W'.cell? ⟨w.heap.size,1,none⟩=some (.int .i64 (t.loc:Int)):=fun W' hW'=>(hW'.cell (p:=⟨w.heap.size,1,none⟩) (by show w.heap.size<_;omega)).trans (ab ((aag.block w.heap.size (by omega)).trans zv.out) 1)
  have HK2:=aa hK2;have t1F:=hK2 WF (Below.refl _ _);have HEN:=aa (fun W' (hW':Below w2.heap.size WF W') (hr:e8 W' w2.heap.size b (.slice (some ⟨bk,o,none⟩) T.length c) T.length ⟨[],fun _=>(0,0),fun _=>0,[],[]⟩ (.slice none 0 0) ub ob [])=>xX b ⟨t.loc,-1,0,true,[],[]⟩ none 0 0 ⟨[],fun _=>(0,0),fun _=>0,[],[]⟩ W' ⟨_,_,hr⟩ rfl rfl (by show 0≤100000;omega))
  have hlF:W.heap.size<WF.heap.size:=(aJ.1 Xd).1;clear hWF hbF Xd hRX aag abZ hK2;refine bW.Qz (n:=4) (S:=fun W'=>W'.cell? ⟨w.heap.size,1,none⟩=some (.int .i64 (t.loc:Int))) (by kernel_rfl) ?_
  have GG:(fun W':World=>W'.cell? ⟨w.heap.size,1,none⟩=some (.int .i64 (t.loc:Int))) WF.drew:=t1F
  refine bW.fu 0 (.pointer (some ⟨w.heap.size,1,none⟩)) (by kernel_rfl) (by decide) (by kernel_rfl) (by kernel_rfl) (by kernel_rfl) (fun _ _ _ _ h=>h) GG ?_
  simp only[ez,ee,dT,ed];refine⟨by rfl,by rfl,?_,?_⟩
  ·intro w hSw
   go_simp
  (try simp only[Act.put,dS,dH,dI])
  refine bW.fu 1 (.int .i64 (t.loc:Int)) (by kernel_rfl) (by decide) (by kernel_rfl) (by kernel_rfl) (by kernel_rfl) (fun _ _ _ _ h=>h) GG ?_
  simp only[ez,ee,dT,ed];refine⟨by rfl,by rfl,?_,?_⟩
  ·intro w hSw
   go_simp
  (try simp only[Act.put,dS,dH,dI])
  refine bW.jX 2 (by kernel_rfl) fun K hK=>?_
  simp only[ez,ee,dT,ed];go_simp
  refine hK.out _ _ (fun _=>t1F) ?_
  clear hK K
  (try simp only[Act.put,dS,dH,dI])
  refine bW.jX 3 (by kernel_rfl) fun K hK=>?_
  simp only[ez,ee,dT,ed];go_simp
  go_at_call 27
  refine(HEN.out _ ((Below.refl _ _).drew) HRX.out.drew).mono ?_;rintro e w5 ⟨rfl,h1,h2,h3⟩;have hS5:=HK2.out w5 (((Below.refl _ _).drew).trans h2);have H1:=aa h1;have H2:=aa h2;clear h1 h2 h3;go_wp2_with fail
  refine hK.out _ _ (fun _=>hS5) ?_
  clear hK K
  (try simp only[Act.put,dS,dH,dI])
  have uW:Below w2.heap.size w2 w5:=adX.out.trans ((Below.refl _ _).drew.trans H2.out);have ab0:fe T w2.heap.size b (.slice (some ⟨bk,o,none⟩) T.length c) ub ob 0 none (.slice none 0 0) [] [] (gK t.loc) w5 t.wt t.size:=by
   refine⟨⟨⟨w2,bk,o,c,rfl,by have:=B2.out.size;omega,rfl,HTI.out,uW⟩,by omega,HS.out.kids⟩,H1.out,⟨⟨World.ownsRow_nil _ _ _ _,(fun _ h=>by cases h),(fun _ h=>by cases h),EN⟩,⟨rfl,rfl⟩,rfl,(fun _ h=>by cases h)⟩,(fun _ _ h=>by cases h),PX _,?_,(fun _ h=>by cases h),?_,?_,?_⟩
   ·intro g x hx
    match g,hx with
    | 0,hx=>injection hx with hx;rw[←hx];exact⟨bx _,bx _⟩
    | g+1,hx=>cases hx
   ·have:=HWT.out
    show 0+t.wt≤100000
    omega
   ·have:=qK.out
    show 1+t.size≤100000
    omega
   ·have:=qK.out
    show 0+t.size≤100000
    omega
  have HV:=aa (J8 HS.out.size t HND.out 0 (-1) none none 0 [] [] (gK t.loc) w5 ab0 (fun _=>rfl) (.inr H18.out))
  have H5:=aa uW;clear ab0 uW;refine bW.jX 4 (by kernel_rfl) fun K hK=>?_
  simp only[ez,ee,dT,ed];go_simp
  go_at_call 26
  refine HV.out.mono ?_;intro e w6 hp;have hE:kM t=aY t 0 (gK t.loc):=rfl;rw[←hE] at hp;obtain⟨lK,sK⟩:=hp;have hB6:=H5.out.trans lK;have Cr:=(hB6.block (w.heap.size+1) (by omega)).trans sj.out
  have s0:w6.cell? ⟨w.heap.size+1,0,none⟩=some (.slice none 0 0):=ab Cr 0;have s1:w6.cell? ⟨w.heap.size+1,1,none⟩=some (.slice none 0 0):=ab Cr 1;have s2:w6.cell? ⟨w.heap.size+1,2,none⟩=some (.slice none 0 0):=ab Cr 2;have u0:=aw Cr 0;have u1:=aw Cr 1;have u2:=aw Cr 2;have H6:=aa hB6;have Cs:=aa Cr;clear lK hB6 Cr;obtain⟨R,hR⟩ :∃R,R=kM t:=⟨_,rfl⟩;rw[←hR] at sK;have TB:=aa hR;clear hR;cases R with
  | error x =>
   obtain⟨v,rfl,ab1⟩:=sK;have HFL:=aa ab1;obtain⟨g6,rfl,_⟩:=ab1;go_wp2_with fail
   refine hK.out _ _ (fun h=>absurd h (by decide)) ?_
   clear hK K
   (try simp only[Act.put,dS,dH,dI])
   refine bW.jX 5 (by kernel_rfl) fun K hK=>?_
   simp only[ez,ee,dT,ed];go_simp
   refine hK.out _ _ (fun h=>absurd h (by decide)) ?_
   clear hK K
   (try simp only[Act.put,dS,dH,dI])
   refine bW.done (by kernel_rfl) ?_ _
   go_wp2_with fail
   have h7:=bn (bn (bn Cs.out 0 (.slice none 0 0)) 1 (.slice none 0 0)) 2 (.slice none 0 0);have Gy:Below w.heap.size w6 (((w6.setCell ⟨w.heap.size+1,0,none⟩ (.slice none 0 0)).setCell ⟨w.heap.size+1,1,none⟩ (.slice none 0 0)).setCell ⟨w.heap.size+1,2,none⟩ (.slice none 0 0)):=(((Below.refl _ _).setCell (p:=⟨w.heap.size+1,0,none⟩) (by show _≤w.heap.size+1;omega) _).setCell (p:=⟨w.heap.size+1,1,none⟩) (by show _≤w.heap.size+1;omega) _).setCell (p:=⟨w.heap.size+1,2,none⟩) (by show _≤w.heap.size+1;omega) _
   have Vt:Fr [35] w6 (((w6.setCell ⟨w.heap.size+1,0,none⟩ (.slice none 0 0)).setCell ⟨w.heap.size+1,1,none⟩ (.slice none 0 0)).setCell ⟨w.heap.size+1,2,none⟩ (.slice none 0 0)):=((Fr.set Cs.out (by decide) _ _).trans (Fr.set (bn Cs.out 0 _) (by decide) _ _)).trans (Fr.set (bn (bn Cs.out 0 _) 1 _) (by decide) _ _)
   generalize ((w6.setCell ⟨w.heap.size+1,0,none⟩ (.slice none 0 0)).setCell ⟨w.heap.size+1,1,none⟩ (.slice none 0 0)).setCell ⟨w.heap.size+1,2,none⟩ (.slice none 0 0)=W7 at h7 Gy Vt ⊢;have c0:W7.cell? ⟨w.heap.size+1,0,none⟩=some (.slice none 0 0):=ab h7 0;have c1:W7.cell? ⟨w.heap.size+1,1,none⟩=some (.slice none 0 0):=ab h7 1;have c2:W7.cell? ⟨w.heap.size+1,2,none⟩=some (.slice none 0 0):=ab h7 2;refine bodyPost_ret (v:=.tuple #[iU,.iface 83 (.pointer (some ⟨g6,0,none⟩))]) (by simp[results,Tryz.results11,go_sem,iU,c0,c1,c2]) rfl ⟨(B2.out.trans (H6.out.mono B2.out.size)).trans Gy,?_⟩
   rw[←TB.out];refine⟨_,rfl,?_⟩;obtain⟨g,e1,e2⟩:=HFL.out;exact⟨g,e1,Vt.cells g _ _ _ e2 (by decide)⟩
  | ok st =>
   obtain⟨rfl,Rv,adY,_⟩:=sK;obtain⟨fv,FL,hrx⟩:=Rv;obtain⟨FA,fc,hfv,_,_⟩:=dy hrx.fns.row;subst hfv;have r1:w6.cell? ⟨b,1,none⟩=some (.slice FA FL.length fc):=ab hrx.blk 1;have r2:w6.cell? ⟨b,2,none⟩=some (.slice (some ⟨ub,0,none⟩) T.length T.length):=ab hrx.blk 2;have r3:w6.cell? ⟨b,3,none⟩=some (.slice (some ⟨ob,0,none⟩) T.length T.length):=ab hrx.blk 3;have adZ:=aa hrx;clear hrx adY;go_wp2_with fail
   refine hK.out _ _ (fun h=>absurd h (by decide)) ?_
   clear hK K
   (try simp only[Act.put,dS,dH,dI])
   refine bW.jX 5 (by kernel_rfl) fun K hK=>?_
   simp only[ez,ee,dT,ed];go_simp
   refine hK.out _ _ (fun h=>absurd h (by decide)) ?_
   clear hK K
   (try simp only[Act.put,dS,dH,dI])
   refine bW.done (by kernel_rfl) ?_ _
   go_wp2_with fail
   have h7:=bn (bn (bn Cs.out 0 (.slice FA FL.length fc)) 1 (.slice (some ⟨ub,0,none⟩) T.length T.length)) 2 (.slice (some ⟨ob,0,none⟩) T.length T.length);have Gy:Below w.heap.size w6 (((w6.setCell ⟨w.heap.size+1,0,none⟩ (.slice FA FL.length fc)).setCell ⟨w.heap.size+1,1,none⟩ (.slice (some ⟨ub,0,none⟩) T.length T.length)).setCell ⟨w.heap.size+1,2,none⟩ (.slice (some ⟨ob,0,none⟩) T.length T.length)):=(((Below.refl _ _).setCell (p:=⟨w.heap.size+1,0,none⟩) (by show _≤w.heap.size+1;omega) _).setCell (p:=⟨w.heap.size+1,1,none⟩) (by show _≤w.heap.size+1;omega) _).setCell (p:=⟨w.heap.size+1,2,none⟩) (by show _≤w.heap.size+1;omega) _
   have Vt:Fr [35] w6 (((w6.setCell ⟨w.heap.size+1,0,none⟩ (.slice FA FL.length fc)).setCell ⟨w.heap.size+1,1,none⟩ (.slice (some ⟨ub,0,none⟩) T.length T.length)).setCell ⟨w.heap.size+1,2,none⟩ (.slice (some ⟨ob,0,none⟩) T.length T.length)):=((Fr.set Cs.out (by decide) _ _).trans (Fr.set (bn Cs.out 0 _) (by decide) _ _)).trans (Fr.set (bn (bn Cs.out 0 _) 1 _) (by decide) _ _)
   generalize ((w6.setCell ⟨w.heap.size+1,0,none⟩ (.slice FA FL.length fc)).setCell ⟨w.heap.size+1,1,none⟩ (.slice (some ⟨ub,0,none⟩) T.length T.length)).setCell ⟨w.heap.size+1,2,none⟩ (.slice (some ⟨ob,0,none⟩) T.length T.length)=W7 at h7 Gy Vt ⊢;have c0:W7.cell? ⟨w.heap.size+1,0,none⟩=some (.slice FA FL.length fc):=ab h7 0;have c1:W7.cell? ⟨w.heap.size+1,1,none⟩=some (.slice (some ⟨ub,0,none⟩) T.length T.length):=ab h7 1;have c2:W7.cell? ⟨w.heap.size+1,2,none⟩=some (.slice (some ⟨ob,0,none⟩) T.length T.length):=ab h7 2;refine bodyPost_ret (v:=.tuple #[.agg #[.slice FA FL.length fc,.slice (some ⟨ub,0,none⟩) T.length T.length,.slice (some ⟨ob,0,none⟩) T.length T.length],.nilIface]) (by simp[results,Tryz.results11,go_sem,c0,c1,c2]) rfl ⟨(B2.out.trans (H6.out.mono B2.out.size)).trans Gy,?_⟩
   rw[←TB.out];exact⟨_,_,B2.out.size,rfl,(adZ.out.fr Vt (by decide)).scope⟩
mutual
def Every (Q:Nd→Prop):Ast→Prop
 | .mk h ks=>Q h∧pQ Q ks
def pQ (Q:Nd→Prop):List Ast→Prop
 | []=>True
 | a::xs=>Every Q a∧pQ Q xs
end
mutual
theorem vN :∀a:Ast,jf a→Every Ds a
 | .mk h ks,hs=>by
  unfold jf at hs;unfold Every;exact⟨hs.1,yg ks hs.2⟩
theorem yg :∀l:List Ast,km l→pQ Ds l
 | [],_=>by unfold pQ;trivial
 | a::l,hs=>by
  unfold km at hs;unfold pQ;exact⟨vN a hs.1,yg l hs.2⟩
end
mutual
theorem gW.every {T:List Nd} {Q:Nd→Prop} (hQ :∀h ks,Q h→Q { h with kids:=ks}) :∀(a:Ast) (i:Nat) (js:List Nat),gW T a i js→Every Q a→∀j∈js,∀x,T[j]? = some x→Q x
 | .mk h xs,i,js,hr,hs=>by
  unfold gW at hr;unfold Every at hs;obtain⟨x,sz,hx,he,hr2,rfl⟩:=hr;intro j hj y hy;rcases bb.1 hj with rfl|hj
  ·rw[hx] at hy
   injection hy with hy;rw[←hy,he];exact hQ h _ hs.1
  ·exact bo.every hQ xs x.kids sz hr2 hs.2 j hj y hy
theorem bo.every {T:List Nd} {Q:Nd→Prop} (hQ :∀h ks,Q h→Q { h with kids:=ks}) :∀(l:List Ast) (ks:List Int) (js:List Nat),bo T l ks js→pQ Q l→∀j∈js,∀x,T[j]? = some x→Q x
 | [],ks,js,hr,_=>by
  unfold bo at hr;obtain⟨_,rfl⟩:=hr;intro j hj;simp at hj
 | a::l,ks,js,hr,hs=>by
  unfold bo at hr;unfold pQ at hs;obtain⟨k,iz,j1,j2,rfl,h1,h2,rfl⟩:=hr;intro j hj y hy;rcases dd.1 hj with hj|hj
  ·exact gW.every hQ a k j1 h1 hs.1 j hj y hy
  ·exact bo.every hQ l iz j2 h2 hs.2 j hj y hy
end
theorem dV.alone {T:List Nd} {a:Ast} {p:Nat} (h:dV [] T [a] [(p:Int)]) :∃js,gW T a p js∧js.Nodup∧js.length=T.length∧∀j,j<T.length→j∈js:=by
 obtain⟨_,js,hr,xG⟩:=h;unfold bo at hr;obtain⟨k,iz,j1,j2,ek,hr1,hr2,ej⟩:=hr;unfold bo at hr2;obtain⟨_,rfl⟩:=hr2;have ek2:k=p:=by injection ek with ek _;omega
 subst ek2;rw[j8] at ej;subst ej;exact⟨_,hr1,xG.nodup_iff.2 (List.nodup_range' ..),by rw[xG.length_eq,KU];simp,fun j hj=>xG.mem_iff.2 (by rw[List.mem_range'_1];simp;exact hj)⟩
theorem dV.every {T:List Nd} {a:Ast} {p:Nat} {Q:Nd→Prop} (h:dV [] T [a] [(p:Int)]) (hQ :∀h ks,Q h→Q { h with kids:=ks}) (hs:Every Q a) :∀x∈T,Q x:=fun x hx=>by
 obtain⟨js,h1,h2,h3,h4⟩:=h.alone;obtain⟨j,hj⟩:=kT.1 hx;exact gW.every hQ a p js h1 hs j (h4 j (aL.1 hj).1) x hj
theorem qW (x:Nd) (ks:List Int):bj { x with kids:=ks}=bj x:=rfl
theorem Es {s:ByteArray} (h:eC s=true):s.size≤65536:=by
 unfold eC at h;simp only[dk] at h;exact iK h.1.1.1.2
mutual
theorem QC :∀(a:Ast) (t:Lt),vi id a.lt t→t.wt=a.wt
 | .mk h as',.mk i x ks,hs=>by
  rw[Ast.lt] at hs;unfold vi at hs;obtain⟨_,_,_,h4,h5⟩:=hs;have h4:x.names=h.names.map id:=h4;have h5:dt id (Ast.Rn as') ks:=h5;rw[Lt.wt,Ast.wt,GH as' ks h5,h4,List.map_id]
theorem GH :∀(l:List Ast) (ks:List Lt),dt id (Ast.Rn l) ks→Lt.dM ks=Ast.dM l
 | [],ks,hs=>by
  rw[Ast.Rn] at hs;unfold dt at hs;rw[hs,Lt.dM,Ast.dM]
 | a::l,ks,hs=>by
  rw[Ast.Rn] at hs;unfold dt at hs;obtain⟨t,ts,rfl,h1,h2⟩:=hs;rw[Lt.dM,Ast.dM,QC a t h1,GH l ts h2]
end
theorem Ct {T:List Nd} {r:Int} (h:iy T r=true) :∀x∈T,∀s∈x.names,s.size≤65536:=fun x hx s hs=>by
 obtain⟨h1,h2,h3,h4⟩:=(gp bj kj eR).1 h;obtain⟨i,hi⟩:=kT.1 hx;exact Es ((Qb ((ue bj kj eR).1 (h4 i x hi)).2.1).all s hs)
structure zw (a:Ast):Prop where
 ok:Ast.ok bj kj eR a=true
 kind:a.hd.kind=18
 sm:jf a
 size:a.size≤16384
 wt:a.wt≤50000
structure QD (a:Ast):Prop where
 kind:a.hd.kind=18
 sm:jf a
 size:a.size≤16384
 wt:a.wt≤50000
theorem zw.b {a:Ast} (h:zw a):QD a:=⟨h.kind,h.sm,h.size,h.wt⟩
theorem QD.a {a:Ast} (h:QD a) (k:Ast.ok bj kj eR a=true):zw a:=⟨k,h.kind,h.sm,h.size,h.wt⟩
def aah (s:ByteArray):Prop:=∀(ts au:List ah) (a:Ast),dO (cZ s) s.data.toList (.ok ts)→ts.length≤s.size+1→PL kG ts (.ok (a,au))→QD a
theorem Vu {s:ByteArray} {ts au:List ah} {a:Ast} (hl:dO (cZ s) s.data.toList (.ok ts)) (hp:PL kG ts (.ok (a,au))) (ha:zw a):aah s:=fun eP ad0 a2 h1 _ h2=>by
 have e1:=hl.sB h1;injection e1 with e1;subst e1;have e2:=hp.one h2;injection e2 with e2;injection e2 with e2 _;subst e2;exact ha.b
structure ab2 (T:List Nd) (p:Nat) (a:Ast) (t:Lt):Prop where
 right:iy T (p:Int)=true
 sml:Sml T
 few:T.length≤16384
 Ku:Lt.In T t
 loc:t.loc=p
 nodup:t.gY.Nodup
 all :∀j,j<T.length↔j∈t.gY
 nod:kD T t
 kind:t.hd.kind=18
 wt:t.wt≤50000
 size:t.size=T.length
 sim:vi id a.lt t
theorem GI {a:Ast} {T:List Nd} {p:Nat} (hL:dV [] T [a] [(p:Int)]):T.length=a.size:=by
 have h1:=hL.len;rw[tF] at h1;simpa using h1
theorem aai {a:Ast} {T:List Nd} {p:Nat} (hA:QD a) (ho:Ast.ok bj kj eR a=false) (hL:dV [] T [a] [(p:Int)]):iy T p=false∧Szd T∧0<T.length:=by
 have hl:=GI hL;obtain⟨js,r1,r2,r3,r4⟩:=hL.alone;have h1:=hL.every (Q:=Ds) (fun x ks hx=>hx) (vN a hA.sm)
 refine⟨?_,fun x hx=>by have:=(h1 x hx).2.2.2.1;omega,by rw[hl];cases a;rw[Ast.size];omega⟩
 unfold iy;rw[wO qW r1 r2 r3 (by have:=hA.size;omega),ho,Bool.and_false]
theorem QE {a:Ast} {T:List Nd} {p:Nat} (hA:zw a) (hd:a.depth≤100) (hL:dV [] T [a] [(p:Int)]) :∃t,ab2 T p a t:=by
 have hm:=hA.sm;have hN:T.length≤16384:=by
  have h1:=hL.len;have h2:=hA.size;rw[tF] at h1;simp at h1;omega
 obtain⟨js,r1,r2,r3,r4⟩:=hL.alone;have hrt:iy T (p:Int)=true:=by
  unfold iy;rw[wO qW r1 r2 r3 hN,hA.ok,bF hd,bF hA.kind];rfl
 have h1:=hL.every (Q:=Ds) (fun x ks hx=>hx) (vN a hm)
 obtain⟨t,e1,e2,e3,e4⟩:=OQ a p js r1;have hlt:=gW.lt a p js r1;have gU :∀x∈T,x.kids.length≤20000:=fun x hx=>by
  obtain⟨_,_,_,h4⟩:=(gp bj kj eR).1 hrt;obtain⟨d,m,hs,_,_⟩:=GP bj kj eR hrt;obtain⟨i,hi⟩:=kT.1 hx;have:=(Cn hs hi).2;omega
 have hk:t.hd.kind=18:=by
  obtain⟨_,_,h3,_⟩:=(gp bj kj eR).1 hrt;have:=(D0 e1).2.1;rw[e2] at this;rw[←h3,iJ,og this]
 have hT :∀x∈T,kj x.kind x.num (x.kids.map fun k=>eR (dE T k.toNat))=true:=fun x hx=>by
  obtain⟨_,_,_,h4⟩:=(gp bj kj eR).1 hrt;obtain⟨i,hi⟩:=kT.1 hx;exact((ue bj kj eR).1 (h4 i x hi)).2.2
 refine⟨t,hrt,⟨fun x hx=>⟨gU x hx,by have:=(h1 x hx).2.2.2.1;omega⟩,fun x hx=>⟨by have:=(h1 x hx).2.2.1;omega,Ct hrt x hx⟩⟩,hN,e1,e2,by rw[e3];exact r2,fun j=>by rw[e3];exact⟨r4 j,hlt j⟩,ZZ hT e1 (by rw[e3];exact r2) (by rw[hk];decide),hk,?_,?_,e4⟩
 ·rw[QC a t e4]
  exact hA.wt
 ·rw[←Lt.xJ,e3,r3]
def ab3 (T:List Nd) (p:Nat) (a:Ast) (r:Rs aG):Prop:=(∃t,Ast.ok bj kj eR a=true∧ab2 T p a t∧r=kM t)∨(Ast.ok bj kj eR a=false∧r=.error (4,0))
theorem J9:(Tryz.prog.info? 79).map (·.comparable)=some true:=by kernel_rfl
theorem yh (m k:Int) (w:World):(binOp .eql 27 (.iface 79 (.int .i64 m)) (.iface 79 (.int .i64 k))).run Tryz.prog w=.ok (.bool (m == k)) w:=Lib.run_eql_iface_int w m k Tryz.underlying27 J9 Tryz.underlying79
theorem aaj (v:Value) (n:Int) (k:Nat) (w:World) (h:nU w) (hf:Oq w v n (k:Int)) (hk:1≤k∧k≤19):Calls Tryz.prog 13 #[v] w fun e w'=>e=.returned (.tuple #[.int .i64 (k:Int),.int .i64 n])∧Below w.heap.size w w':=by
 obtain⟨g,rfl,hg⟩:=hf;have rr:g<w.heap.size:=(aJ.1 hg).1;have A1:=aa (Uh g w h);have HG:=aa hg;clear h hg;go_enter Tryz.func13,Tryz.ntmps13
 go_wp2_with fail
 refine A1.out.mono ?_;rintro e w1 ⟨rfl,hc,hb⟩;have hg1:w1.heap[g]? = _:=(hb.block g rr).trans HG.out;have HB:=aa hb;have HI:=aa (Uk g n (k:Int) w1 (fun w=>by rw[yh];simp) hg1)
 have HN:=aa (fun(j:Nat) (hj:j<k)=>Ul g n (k:Int) (j:Int) w1 (fun w=>by rw[yh];congr 2;exact aE.2 (by omega)) hg1)
 have hc0:w1.cell? ⟨g,0,none⟩=some (.int .i64 n):=by simp[World.cell?,hg1]
 clear hg1 hb;go_wp2_with fail
 go_loop [5] (fun i=>∃j:Nat,1≤j∧j≤k∧i=.int .i64 j) (fun i=>k-(intOf i).toNat)
 case atStart=>exact⟨1,by omega,by omega,rfl⟩
 case round =>
  obtain⟨j,hj1,hj5,rfl⟩:=hrel;have hle:decide ((j:Int)≤19)=true:=bF (by omega)
  by_cases hjk:j<k
  ·have N1:=aa (HN.out j hjk)
   go_wp2_with (go_at_call 30;refine N1.out.mono ?_;rintro e w' ⟨rfl,rfl⟩)
   go_round
   case rel=>exact⟨j+1,by omega,by omega,by go_num⟩
   case measure=>simp[intOf];omega
  ·obtain rfl:j=k:=by omega
   go_wp2_with (go_at_call 30;refine HI.out.mono ?_;rintro e w' ⟨rfl,rfl⟩)
   go_quiet (fail)
   go_wp2_with fail
   go_ret2
   exact⟨rfl,HB.out.trans ⟨rfl,rfl,rfl,ai _,fun _ _=>rfl⟩⟩
end Go.Proofs.YteflkdlaoiijbaaGreatDoor
