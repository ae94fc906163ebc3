/- Parts of the proof. -/
import Derived.Test.YtodmcdfeldkocaaGreatDoorM13
set_option maxHeartbeats 16000000
set_option maxRecDepth 20000
namespace Go.Proofs.YtodmcdfeldkocaaGreatDoor
open Go.RowKit
theorem J8 {b:Nat} {O O1:Nat→Prop} {T0:List Nd} {R:Except Int (Ast×List ak)→Prop} {w w1 w':World} {e:Ending} (h:aF b O1 T0 R w1 e w') (hf:ax O w w1) (he:Ext O O1 w):aF b O T0 R w e w':=by
 obtain⟨h1,h2⟩:=h;refine⟨hf.trans h1 he,h2.imp ?_ ?_⟩
 ·rintro⟨p,a,ts,O2,T,e1,p1,x1,l1,k1⟩
  exact⟨p,a,ts,O2,T,e1,p1,he.trans x1 hf.size,l1,k1⟩
 ·rintro⟨l,v,er,e1,⟨g,m1,m2,m3⟩,k⟩
  exact⟨l,v,er,e1,⟨g,m1,aL hf.size m2,m3⟩,k⟩
theorem Cu (b:Nat) (O:Nat→Prop) (t:ak) (ts:List ak) (T0 T:List Nd) (p:Nat) (a:Ast) (K:Ast→List ak→Prop) (E:Int→Prop) (w:World) (hp:PS w b O (t::ts) T) (hl:eA T0 T [a] [(p:Int)]) (hk:aJ [aB,tq] ⟨dy 8 t.2.1,[a],t::ts,T0.length+a.size⟩ (bT K) E) :
  Calls Tryz.prog 140 #[.pointer (some ⟨b,0,none⟩),.int .i64 (p:Int)] w (aF b O T0 (RK K E) w):=by
 have hO :∀k,O k→k<w.heap.size:=fun k hk=>(hp.own k hk).2
 have pj:b<w.heap.size:=hO b hp.at_;have hpA:=hp.below (aW w (.cells #[.int .i64 (p:Int)] 3));have HPV:aM ((w.alloc (.cells #[.int .i64 (p:Int)] 3)).alloc (.cells #[ba 55 b,ba 163 b] 123)) b (fun k=>O k∨k=w.heap.size) (.slice (some ⟨w.heap.size+1,0,none⟩) 2 2) [aB,tq] :=
  aM.y8 (w.heap.size+1) (by simp) (fun k hk=>by rcases hk with hk|rfl;have:=hO k hk;simp;omega;simp) [ba 55 b,ba 163 b] [aB,tq] (by simp) ⟨bg _ b _,PE.part (enters_of Tryz.func163 (by kernel_rfl) rfl) _ b _,trivial⟩
 have hg2:((w.alloc (.cells #[.int .i64 (p:Int)] 3)).alloc (.cells #[ba 55 b,ba 163 b] 123)).heap[w.heap.size]? = some (.cells #[.int .i64 (p:Int)] 3 (0,0)):=((aW _ _).block w.heap.size (by simp)).trans (World.alloc_heap_new w _)
 have HN:=aa (Cp _ w.heap.size p a (hpA.below (aW _ (.cells #[ba 55 b,ba 163 b] 123))) hg2 (fun h=>by have:=hO _ h;omega) (by omega) hl (mN 8) rfl _ _ HPV hk)
 have HF:Hid (ax O w ((w.alloc (.cells #[.int .i64 (p:Int)] 3)).alloc (.cells #[ba 55 b,ba 163 b] 123))):=aa (((ax.refl O w).alloc _).alloc _);clear hp hl hk hpA HPV hg2 hO;go_enter Tryz.func140,Tryz.ntmps140
 go_wp2_with fail
 refine HN.out.mono ?_;intro e wz hz;obtain⟨v,er,rfl⟩:=hz.ret;have HZ:=aa hz;clear hz;go_wp2_with fail
 go_ret2
 exact J8 HZ.out HF.out fun k hk=>hk.imp id fun h=>by omega
def J9 (bd:bW):bW:=fun s K E=>s.xs=[]∧∃t ts,s.ts=t::ts∧t.1≠0∧dR (mN 7) [cV] ts s.n (fun a fK=>∃m,xR m a fK s.n (fun a2 self ir =>
 aJ [eo,dx (dR ⟨11,t.2.1,0,0,⟨#[]⟩,self,[]⟩ [bd])] ⟨s.h,[a2],ir,s.n+Ast.al [a2]⟩ K E) E) E
set_option maxRecDepth 40000 in
theorem Ev {bd:bW} (En:eu 141 bd):eu 109 (J9 bd):=by
 rintro b n O T0 ⟨sh,sxs,uT,sn⟩ K E w hr ⟨hx,t,ts,jo,Vk,u,us,lu,hus,hlu,hk⟩;obtain⟨Op,On,T,ks,hO,hd,hp,hn,hl,hc⟩:=hr.ex;dsimp only at hx jo hk hp hn hl hc hus hlu
 subst hx jo hus;obtain rfl:lu=u.2.1:=hlu.elim (fun h=>h.2) (fun h=>absurd rfl h.1)
 obtain⟨rfl,rfl⟩:=hl.same;subst hc;obtain⟨t0,t1,t2,t3⟩:=t;have HA:=aa (cC b Op (t0,t1,t2,t3) (u::us) T w hp);unfold gb at HA;dsimp only at HA hk Vk
 have F9:=Pe t0 t1 t2 (bx t3);have pj:b<w.heap.size:=(hp.own b hp.at_).2;have hnw:n<w.heap.size:=(hn.own n hn.at_).2;have Ds:b<n:=(hn.own n hn.at_).1;have HN0:=aa hn;have HP0:=aa hp;have HO:=aa hO;have HD:=aa hd;have C0:=aa hn.at_;have HK:=aa hk;have HT0:=aa Vk;clear hp hk hr hn hO hd hl hlu Vk;go_enter Tryz.func109,Tryz.ntmps109
 go_wp2_with fail
 refine HA.out.mono ?_;rintro e wa ⟨rfl,b1⟩;have p1:=HP0.out.below b1;obtain⟨i,hi,ci,fi,_⟩:=p1.place;have hbwa:b<wa.heap.size:=cG pj b1.size;have hnwa:n<wa.heap.size:=cG hnw b1.size;have p2:=p1.step HT0.out ci;have f2:=p1.fr 1 (.int .i64 ((i+1:Nat):Int));obtain⟨wf,zj⟩ :∃wf,wf=(wa.setCell ⟨b,1,none⟩ (.int .i64 ((i:Int)+1))).alloc (.cells #[.int .i64 11,.int .i64 t1,.int .i64 0,.int .i64 0,.string ⟨#[]⟩,.slice none 0 0,.slice none 0 0] 54):=⟨_,rfl⟩;have pf:PS wf b Op (u::us) T:=by rw[zj];exact p2.below (aW _ _)
 have hzf:wa.heap.size+1=wf.heap.size:=by rw[zj];simp
 have fp:ax Op w wf:=by
  rw[zj];exact((ax.af (O:=Op) b1).trans (p1.fr 1 (.int .i64 ((i:Int)+1))) (fun k hk=>.inl (hk▸p1.at_))).alloc _
 have Z6 :∀k,Op k→O k:=fun k hk=>(HO.out k).2 (.inl hk)
 have bf:eI wf Op wa.heap.size #[.int .i64 11,.int .i64 t1,.int .i64 0,.int .i64 0,.string ⟨#[]⟩,.slice none 0 0,.slice none 0 0] 54:=by
  rw[zj,show wa.heap.size=(wa.setCell ⟨b,1,none⟩ (.int .i64 ((i:Int)+1))).heap.size by simp]
  exact eI.new _ Op (fun k hk=>(p2.own k hk).2) _ 54
 have nf:=HN0.out.kept fp (fun k hk h=>HD.out k h hk)
 have HKF:aJ [cV] ⟨{ mN 7 with line:=u.2.1},[],u::us,T.length⟩ (bT fun a fK=>∃m,xR m a fK T.length (fun a2 self ir=>aJ [eo,dx (dR ⟨11,t1,0,0,⟨#[]⟩,self,[]⟩ [bd])] ⟨sh,[a2],ir,T.length+Ast.al [a2]⟩ K E) E) E:=HK.out
 have KK:=aa (qS wf wf (wa.heap.size+1) hzf pf (ax.refl Op wf) (mN 7) rfl [ba 102 b] [cV] (by simp) ⟨im wf b Op,trivial⟩ HKF)
 have FP:=aa fp;have BF:=aa bf;have NF:=aa nf;have Wu:=aa Z6;have HZF:=aa hzf;have HNW:=aa HN0.out.own;have HWA:Hid (w.heap.size≤wa.heap.size):=aa b1.size;rw[zj] at KK;have HWF:=aa zj;clear zj hzf;clear pf fp bf nf Z6 p1 p2 f2 b1 HKF;have hne1:wa.heap.size≠n:=by omega
 have ac2:wa.heap.size≠b:=by omega
 go_wp2_with fail
 refine KK.out.mono ?_;intro e w3 h3;rw[←HWF.out] at h3;clear KK;have F3:=aa h3.1;rcases h3.2 with ⟨p,a,fK,O1,T1,rfl,p1,x1,l1,k1⟩ | ⟨le,v,er,rfl,⟨g',rfl,m2,m3⟩,k1⟩
 ·obtain⟨m,k1⟩:=k1
  have P1:=aa p1;have X1:=aa x1;have L1:=aa l1;have K1:=aa k1;clear h3 p1 x1 l1 k1;go_wp2_with fail
  go_loopg [6,7] (m+1) (fun z lv ev wr=>(∃(p:Nat) (a:Ast) (tr:List ak) (Or:Nat→Prop) (Tr:List Nd) (k:Nat),lv=.int .i64 (p:Int)∧ev=.nilIface∧z=k+1∧PS wr b Or tr Tr∧ax Op wf wr∧Ext Op Or wf∧eA T Tr [a] [(p:Int)]∧xR k a tr T.length (fun a2 self ir=>aJ [eo,dx (dR ⟨11,t1,0,0,⟨#[]⟩,self,[]⟩ [bd])] ⟨sh,[a2],ir,T.length+Ast.al [a2]⟩ K E) E) ∨
   (∃(le:Int) (g':Nat),ev=.iface 82 (.pointer (some ⟨g',0,none⟩))∧wf.heap.size≤g'∧wr.heap[g']? = some (.cells #[.int .i64 6,.int .i64 le] 86 (0,0))∧ax Op wf wr∧E le))
  case atStart=>exact .inl ⟨p,a,fK,O1,T1,m,rfl,rfl,rfl,P1.out,F3.out,X1.out,L1.out,K1.out⟩
  case round =>
   rcases hrel with ⟨p,a,tr,Or,Tr,k,rfl,rfl,rfl,pr,fr,xr,lr,kr⟩ | ⟨le,g',rfl,hg,m3,fr,ke⟩
   ·cases k with
    | zero=>exact kr.elim
    | succ k =>
     obtain⟨t9,r,rfl,Vl,dJ⟩:=kr;have PR:=aa pr;have FR:=aa fr;have XR:=aa xr;have LR:=aa lr;have HW:=aa (fun(W:World) hW=>bJ b Or t9 r Tr W hW)
     have je:=aa (HW.out wr pr);clear pr fr xr lr F3 P1 X1 L1 K1;cases hq:av [46] t9 with
     | true =>
      have g1:((ag t9).toList == [46])=true:=aj (s:=[46]) (by decide) t9 hq
      have zB:=aa (Vl hq);clear Vl dJ hq HW;generalize ag t9=Y at *;go_wp2_with fail
      refine je.out.mono ?_;rintro e w4 ⟨rfl,b4⟩;have F4:=aa (FR.out.trans (ax.af (O:=Or) b4) XR.out);have Y4:=aa (Cu b Or t9 r T Tr p a _ E w4 (PR.out.below b4) LR.out zB.out);clear b4;go_wp2_with fail
      refine Y4.out.mono ?_;intro e w5 h5;have F5:=aa (F4.out.trans h5.1 XR.out);rcases h5.2 with ⟨p5,a5,ts5,O5,T5,rfl,q5,x5,l5,k5⟩ | ⟨le,v,er,rfl,⟨g',rfl,m2,m3⟩,k5⟩
      ·have Q5:=aa q5
       have X5:=aa (XR.out.trans x5 F4.out.size);have L5:=aa l5;have K5:=aa k5;clear h5 q5 x5 l5 k5;go_wp2_with fail
       go_roundg (k+1)
       case measure=>omega
       case rel=>exact .inl ⟨p5,a5,ts5,O5,T5,k,rfl,rfl,rfl,Q5.out,F5.out,X5.out,L5.out,K5.out⟩
      ·have M3:=aa m3
       have M2:=aa (aL F4.out.size m2);have K5:=aa k5;clear h5 m2 m3 k5;go_wp2_with fail
       go_roundg (k+1)
       case measure=>omega
       case rel=>exact .inr ⟨le,g',rfl,M2.out,M3.out,F5.out,K5.out⟩
     | false =>
      have g1:((ag t9).toList == [46])=false:=aj (s:=[46]) (by decide) t9 hq
      have dJ:=dJ hq;have HDr:Hid (∀k,Or k→¬ On k):=aa fun k hk h=>by
       rcases XR.out k hk with h1|h1
       ·exact HD.out k h1 h
       ·have:=(HNW.out k h).2;have:=FP.out.size;omega
      have XW:Hid (Ext Op Or w):=aa ((Ext.refl Op w).trans XR.out FP.out.size);cases pg:av [58] t9 with
      | true =>
       have g2:((ag t9).toList == [58])=true:=aj (s:=[58]) (by decide) t9 pg
       have zB:=aa (dJ.1 pg);clear Vl dJ hq pg;generalize ag t9=Y at *;go_wp2_with fail
       refine je.out.mono ?_;rintro e w4 ⟨rfl,b4⟩;have F4:=aa (FR.out.trans (ax.af (O:=Or) b4) XR.out);have P4:=aa (PR.out.below b4);have lG:=aa (HW.out w4 P4.out);clear b4 HW je;go_wp2_with fail
       refine lG.out.mono ?_;rintro e w5 ⟨rfl,b5⟩;have f5:=F4.out.trans (ax.af (O:=Or) b5) XR.out;have bx5:=BF.out.later f5 (Ext.refl _ _);have q5:w5.cell? ⟨wa.heap.size,5,none⟩=some (.slice none 0 0):=bx5.cell 5;have y5:w5.frozen? ⟨wa.heap.size,5,none⟩=false:=by simp[World.frozen?,bx5.1]
       have hl5:wa.heap.size<w5.heap.size:=(aO.1 bx5.1).1;have f6:ax (fun k=>k=wa.heap.size) w5 ((w5.alloc (.cells #[.string ⟨#[115,101,108,102]⟩] 9)).setCell ⟨wa.heap.size,5,none⟩ (.slice (some ⟨w5.heap.size,0,none⟩) 1 1)):=((ax.refl _ w5).alloc _).trans (ax.wo ((aW w5 _).block _ hl5 |>.trans bx5.1) (by decide) 5 _) (Ext.refl _ _)
       have CY:=il ((aW w5 (.cells #[.string ⟨#[115,101,108,102]⟩] 9)).block _ hl5 |>.trans bx5.1) (k:=5) (.slice (some ⟨w5.heap.size,0,none⟩) 1 1);have Z8:((w5.alloc (.cells #[.string ⟨#[115,101,108,102]⟩] 9)).setCell ⟨wa.heap.size,5,none⟩ (.slice (some ⟨w5.heap.size,0,none⟩) 1 1)).heap[w5.heap.size]? = some (.cells #[.string ⟨#[115,101,108,102]⟩] 9 (0,0)):=(Below.heap_setCell _ _ _ _ (by show w5.heap.size≠wa.heap.size;omega)).trans (World.alloc_heap_new w5 _)
       rw[World.setCell_alloc_past _ _ _ _ hl5] at f6 CY Z8;obtain⟨w6,hw6⟩ :∃w6,w6=(w5.setCell ⟨wa.heap.size,5,none⟩ (.slice (some ⟨w5.heap.size,0,none⟩) 1 1)).alloc (.cells #[.string ⟨#[115,101,108,102]⟩] 9):=⟨_,rfl⟩;rw[←hw6] at f6 CY Z8;have hfb:¬ Or wa.heap.size:=fun h=>by
        rcases XR.out _ h with h1|h1
        ·exact bx5.2 (by exact h1)
        ·have:=HZF.out;omega
       have p6:PS w6 b Or (t9::r) Tr:=(P4.out.below b5).kept f6 (fun k hk e=>hfb (e▸hk)) (fun k e=>by omega)
       have ad1:b+1≤w5.heap.size:=by omega
       have acd:zE w6 b [bx xi] (.slice (some ⟨w5.heap.size,0,none⟩) 1 1):=⟨⟨rfl,.inr ⟨w5.heap.size,1,#[.string ⟨#[115,101,108,102]⟩],rfl,ad1,Z8,ah _,by unfold maxLen;omega,rfl,rfl⟩⟩,fun g hg=>⟨by
        have e1:g=w5.heap.size:=by simpa[Value.ownBlock] using hg.symm
        rw[e1];exact⟨_,_,Z8⟩,by simp⟩⟩
       have P6:=aa p6;have F6s:=aa f6;have Ms:=aa CY;have NM6:=aa acd;have F5:=aa f5;have HFB:=aa hfb;have F6:=aa (((FP.out.trans f5 (Ext.refl _ _)).mono Wu.out).trans f6 (fun k (e:k=wa.heap.size)=>.inr (by have:=HWA.out;omega)))
       have N6:=aa ((NF.out.kept f5 fun k hk h=>HD.out k h hk).kept f6 (fun k hk (e:k=wa.heap.size)=>by have:=(HNW.out k hk).2;have:=HWA.out;omega))
       have Y4:=aa (Cu b Or t9 r T Tr p a _ E w6 p6 LR.out zB.out);rw[hw6] at Y4;have HW6:=aa hw6;clear b5 p6 f6 CY Z8 acd f5 bx5 hfb hw6;go_wp2_with fail
       refine Y4.out.mono ?_;intro e w7 h7;rw[←HW6.out] at h7;have F7:=aa (F6.out.trans (h7.1.mono (O1:=Or) fun _ h=>h) (fun k hk=>(XW.out k hk).imp (Wu.out k) id))
       have N7:=aa (N6.out.kept h7.1 fun k hk h=>HDr.out k h hk)
       have Xq:Hid (eI w7 Or wa.heap.size #[.int .i64 11,.int .i64 t1,.int .i64 0,.int .i64 0,.string ⟨#[]⟩,.slice (some ⟨w5.heap.size,0,none⟩) 1 1,.slice none 0 0] 54):=aa ⟨(h7.1.block _ (aO.1 Ms.out).1 HFB.out).trans Ms.out,HFB.out⟩;have NM7:=aa (NM6.out.later h7.1);rcases h7.2 with ⟨p8,a8,ts8,O8,T8,rfl,q8,x8,l8,k8⟩ | ⟨le,v,er,rfl,⟨g',rfl,m2,m3⟩,k8⟩
       ·have P8:=aa q8
        have L8:=aa l8;have K8:=aa k8;have X8:Hid (Ext Op O8 w):=aa (XW.out.trans x8 F6.out.size);have HD8:Hid (∀k,O8 k→¬ On k):=aa fun k hk h=>by
         rcases X8.out k hk with h1|h1
         ·exact HD.out k h1 h
         ·have:=(HNW.out k h).2;omega
        clear h7 q8 x8 l8 k8 q5 y5;obtain⟨v6,c6,z6,jd,f6,p6,r6⟩:=pM P8.out N7.out HD8.out L8.out;have Dt:T8.length=T.length+Ast.al [a8]:=L8.out.len;rw[Dt] at r6;obtain⟨O3,C7⟩ :∃O3:Nat→Prop,O3=fun k=>O8 k∨(On k∨k=w7.heap.size):=⟨_,rfl⟩
        rw[←C7] at r6;have X3:Hid (Ext O O3 w):=aa fun k hk=>by
         rw[C7] at hk;rcases hk with hk|hk|rfl
         ·exact(X8.out k hk).imp (fun h=>(HO.out k).2 (.inl h)) id
         ·exact .inl ((HO.out k).2 (.inr hk))
         ·exact .inr F7.out.size
        have f7:ax O w ((w7.alloc (.cells #[.int .i64 (p8:Int)] 3)).setCell ⟨n,6,none⟩ (.slice (some ⟨w7.heap.size,0,none⟩) 1 1)):=F7.out.trans f6 fun k hk=>.inl ((HO.out k).2 (.inr hk))
        rw[World.setCell_alloc_past _ _ _ _ jd] at r6 f7;obtain⟨nv1,kv1,zo,_,hz1⟩:=N7.out.cells;have d6:=zo.c6;have y6:=hz1 6;have ad2:wa.heap.size≠n:=by omega
        have ad3:wa.heap.size<w7.heap.size:=(aO.1 Xq.out.1).1;have e0:=Xq.out.cell 0;have e1:=Xq.out.cell 1;have e2:=Xq.out.cell 2;have e3:=Xq.out.cell 3;have e4:=Xq.out.cell 4;have e5:=Xq.out.cell 5;have e6:=Xq.out.cell 6;have HP7:=aM.y8 (w:=(w7.setCell ⟨n,6,none⟩ (.slice (some ⟨w7.heap.size,0,none⟩) 1 1)).alloc (.cells #[.int .i64 (p8:Int)] 3)) (b:=b) (O:=O3) (w7.heap.size+1) (by simp) r6.lt [ba 141 b] [bd] (by simp) ⟨En.part (enters_of Tryz.func141 (by kernel_rfl) rfl) _ b O3,trivial⟩
        have Qz:zE (((w7.setCell ⟨n,6,none⟩ (.slice (some ⟨w7.heap.size,0,none⟩) 1 1)).alloc (.cells #[.int .i64 (p8:Int)] 3)).alloc (.cells #[ba 141 b] 123)) b [bx xi] (.slice (some ⟨w5.heap.size,0,none⟩) 1 1):=(NM7.out.later (O:=On) (by rw[←World.setCell_alloc_past _ _ _ _ jd];exact f6)).later ((ax.refl On _).alloc _)
        have HH:=aa (rY b O3 ⟨11,t1,0,0,⟨#[]⟩,[bx xi],[]⟩ (.slice (some ⟨w5.heap.size,0,none⟩) 1 1) _ [bd] _ Qz HP7 (fun k hk=>by have:=r6.lt k hk;simp at this ⊢;omega))
        have R6:=aa r6;have F7:=aa f7;clear f6 p6 r6 f7 zo hz1 c6 z6 HP7 Qz C7 Dt;go_wp2_with fail
        refine HH.out.mono ?_;rintro e w8 ⟨v,rfl,b8,h8,fi,fa,fc,rfl⟩;have B8:=aa (ay (aW _ _) b8);have HN:=aa (jr w w8 (R6.out.below B8.out) (F7.out.trans (ax.af (O:=O3) B8.out) X3.out) X3.out [.func (.func 139) #[] #[],.func (.func fi) fa fc] [eo,dx (dR ⟨11,t1,0,0,⟨#[]⟩,[bx xi],[]⟩ [bd])] (by simp) ⟨jP w8 b O3,h8,trivial⟩ K8.out)
        clear b8 h8;go_wp2_with fail
        refine HN.out.mono ?_;intro e wz hz;obtain⟨v,rfl⟩:=hz.ret;have HZ:=aa hz;clear hz;go_wp2_with fail
        go_ret
        exact HZ.out
       ·have M3:=aa m3
        have M2:=aa (aL F6.out.size m2);have K8:=aa k8;clear h7 m2 m3 k8 q5 y5;go_wp2_with fail
        go_ret
        exact⟨F7.out,.inr ⟨le,_,rfl,⟨g',rfl,M2.out,M3.out⟩,K8.out⟩⟩
      | false =>
       have g2:((ag t9).toList == [58])=false:=aj (s:=[58]) (by decide) t9 pg
       have zB:=aa (dJ.2 pg);clear Vl dJ hq pg;generalize ag t9=Y at *;go_wp2_with fail
       refine je.out.mono ?_;rintro e w4 ⟨rfl,b4⟩;have F4:=aa (FR.out.trans (ax.af (O:=Or) b4) XR.out);have P4:=aa (PR.out.below b4);have lG:=aa (HW.out w4 P4.out);clear b4 HW je;go_wp2_with fail
       refine lG.out.mono ?_;rintro e w5 ⟨rfl,b5⟩;have f5:=F4.out.trans (ax.af (O:=Or) b5) XR.out;have P5:=aa (P4.out.below b5);have F5:=aa (FP.out.trans f5 (Ext.refl _ _) |>.mono Wu.out);have N5:=aa (NF.out.kept f5 fun k hk h=>HD.out k h hk)
       have Xr:=aa (BF.out.later f5 (Ext.refl _ _));have NM5:Hid (zE w5 b [] (.slice none 0 0)):=aa (zE.nil w5 b);clear b5 f5;obtain⟨v6,c6,z6,jd,f6,p6,r6⟩:=pM P5.out N5.out HDr.out LR.out;have Dt:Tr.length=T.length+Ast.al [a]:=LR.out.len;rw[Dt] at r6;obtain⟨O3,C7⟩ :∃O3:Nat→Prop,O3=fun k=>Or k∨(On k∨k=w5.heap.size):=⟨_,rfl⟩
       rw[←C7] at r6;have X3:Hid (Ext O O3 w):=aa fun k hk=>by
        rw[C7] at hk;rcases hk with hk|hk|rfl
        ·exact(XW.out k hk).imp (fun h=>(HO.out k).2 (.inl h)) id
        ·exact .inl ((HO.out k).2 (.inr hk))
        ·exact .inr F5.out.size
       have f7:ax O w ((w5.alloc (.cells #[.int .i64 (p:Int)] 3)).setCell ⟨n,6,none⟩ (.slice (some ⟨w5.heap.size,0,none⟩) 1 1)):=F5.out.trans f6 fun k hk=>.inl ((HO.out k).2 (.inr hk))
       rw[World.setCell_alloc_past _ _ _ _ jd] at r6 f7;obtain⟨nv1,kv1,zo,_,hz1⟩:=N5.out.cells;have d6:=zo.c6;have y6:=hz1 6;have ad2:wa.heap.size≠n:=by omega
       have ad3:wa.heap.size<w5.heap.size:=(aO.1 Xr.out.1).1;have e0:=Xr.out.cell 0;have e1:=Xr.out.cell 1;have e2:=Xr.out.cell 2;have e3:=Xr.out.cell 3;have e4:=Xr.out.cell 4;have e5:=Xr.out.cell 5;have e6:=Xr.out.cell 6;have HP7:=aM.y8 (w:=(w5.setCell ⟨n,6,none⟩ (.slice (some ⟨w5.heap.size,0,none⟩) 1 1)).alloc (.cells #[.int .i64 (p:Int)] 3)) (b:=b) (O:=O3) (w5.heap.size+1) (by simp) r6.lt [ba 141 b] [bd] (by simp) ⟨En.part (enters_of Tryz.func141 (by kernel_rfl) rfl) _ b O3,trivial⟩
       have Qz:zE (((w5.setCell ⟨n,6,none⟩ (.slice (some ⟨w5.heap.size,0,none⟩) 1 1)).alloc (.cells #[.int .i64 (p:Int)] 3)).alloc (.cells #[ba 141 b] 123)) b [] (.slice none 0 0):=(NM5.out.later (O:=On) (by rw[←World.setCell_alloc_past _ _ _ _ jd];exact f6)).later ((ax.refl On _).alloc _)
       have HH:=aa (rY b O3 ⟨11,t1,0,0,⟨#[]⟩,[],[]⟩ (.slice none 0 0) _ [bd] _ Qz HP7 (fun k hk=>by have:=r6.lt k hk;simp at this ⊢;omega))
       have R6:=aa r6;have F7:=aa f7;clear f6 p6 r6 f7 zo hz1 c6 z6 HP7 Qz C7 Dt;go_wp2_with fail
       refine HH.out.mono ?_;rintro e w8 ⟨v,rfl,b8,h8,fi,fa,fc,rfl⟩;have B8:=aa (ay (aW _ _) b8);have HN:=aa (jr w w8 (R6.out.below B8.out) (F7.out.trans (ax.af (O:=O3) B8.out) X3.out) X3.out [.func (.func 139) #[] #[],.func (.func fi) fa fc] [eo,dx (dR ⟨11,t1,0,0,⟨#[]⟩,[],[]⟩ [bd])] (by simp) ⟨jP w8 b O3,h8,trivial⟩ zB.out)
       clear b8 h8;go_wp2_with fail
       refine HN.out.mono ?_;intro e wz hz;obtain⟨v,rfl⟩:=hz.ret;have HZ:=aa hz;clear hz;go_wp2_with fail
       go_ret
       exact HZ.out
   ·have M3:=aa m3
    have HG:=aa hg;have FR:=aa fr;have KE:=aa ke;clear m3 hg fr ke;go_wp2_with fail
    go_ret
    exact⟨(FP.out.trans FR.out (Ext.refl _ _)).mono Wu.out,.inr ⟨le,_,rfl,⟨g',rfl,aL FP.out.size HG.out,M3.out⟩,KE.out⟩⟩
 ·have M3:=aa m3
  have M2:=aa m2;have K1:=aa k1;clear h3 m2 m3 k1;go_wp2_with fail
  go_loopg [6,7] 1 (fun _ lv ev wr=>lv=v∧ev=.iface 82 (.pointer (some ⟨g',0,none⟩))∧wr=w3)
  case atStart=>exact⟨rfl,rfl,rfl⟩
  case round =>
   obtain⟨rfl,rfl,rfl⟩:=hrel;go_wp2_with fail
   go_ret
   exact⟨(FP.out.trans F3.out (Ext.refl _ _)).mono Wu.out,.inr ⟨le,_,rfl,⟨g',rfl,aL FP.out.size M2.out,M3.out⟩,K1.out⟩⟩
end Go.Proofs.YtodmcdfeldkocaaGreatDoor
namespace Go.Proofs.YtodmcdfeldkocaaGreatDoor
open Go.RowKit
section
variable {α:Type} {K:α→List ak→Prop} {E:Int→Prop}
theorem Gw.Vm {n:NT} {k:VT n→GL α} {ts:List ak} (H:Gw (aT n) ts (fun v aA=>Gw (k v) aA K E) E):Gw (.call n k) ts K E :=
 ⟨fun a ir p=>by
  cases p with
  | call h1 h2=>exact(H.1 _ _ h1).1 _ _ h2,fun l p=>by
  cases p with
  | call h1 h2=>exact(H.1 _ _ h1).2 _ h2
  | iB h1=>exact H.2 _ h1⟩
theorem Gw.aak {a:α} {ts:List ak} (h:K a ts):Gw (.ret a) ts K E:=⟨fun a' aA p=>by cases p;exact h,fun l p=>by cases p⟩
end
theorem Rm.up {N k:Nat} {s:St} (h:Rm N k s):Rm (N+1) k s:=⟨by have:=h.len;omega,h.n,h.xs,h.wf⟩
theorem eu.of {f:FuncId} {wp wp':bW} (h:eu f wp) (hc :∀s K E,Fin s.ts→wp' s K E→wp s K E):eu f wp':=fun b n O T0 s K E W hr hk=>h b n O T0 s K E W hr (hc s K E (by
 obtain⟨Op,T,hp⟩:=hr.ps;exact hp.fin) hk)
theorem pI.of {f:FuncId} {wp wp':iQ} (h:pI f wp) (hc :∀ts n K E,Fin ts→wp' ts n K E→wp ts n K E):pI f wp':=fun b O ts T K E W hp hk=>h b O ts T K E W hp (hc ts _ K E hp.fin hk)
theorem sa.of {f:FuncId} {l:Int} {wp wp':iQ} (h:sa f l wp) (hc :∀ts n K E,Fin ts→wp' ts n K E→wp ts n K E):sa f l wp':=fun b O ts T K E W hp hk=>h b O ts T K E W hp (hc ts _ K E hp.fin hk)
def Vn:iQ:=fun _ _ _ _=>False
def Xs:bW:=fun _ _ _=>False
theorem aal (f:FuncId):pI f Vn:=fun _ _ _ _ _ _ _ _ h=>h.elim
theorem Vo (f:FuncId) (l:Int):sa f l Vn:=fun _ _ _ _ _ _ _ _ h=>h.elim
theorem aam (f:FuncId):eu f Xs:=fun _ _ _ _ _ _ _ _ _ h=>h.elim
def aan (rt:Int→iQ) (bd it:bW) (sf:iQ):iQ:=fun ts n K E=>∃t r,ts=t::r∧(t.1=3→aJ [aB] ⟨⟨4,t.2.1,0,t.2.2.1,⟨#[]⟩,[],[]⟩,[],t::r,n⟩ (bT K) E) ∧
 (t.1≠3→t.1=4→aJ [aB] ⟨⟨5,t.2.1,0,0,bx t.2.2.2,[],[]⟩,[],t::r,n⟩ (bT K) E) ∧
 (t.1≠3→t.1≠4→ft t≠0→aJ [aB,dx (rt (ft t))] ⟨⟨13,t.2.1,ft t,0,⟨#[]⟩,[],[]⟩,[],t::r,n⟩ (bT K) E) ∧
 (av te t=true→aJ [aB] ⟨dy 1 t.2.1,[],t::r,n⟩ (bT K) E)∧(av nr t=true→aJ [aB] ⟨dy 2 t.2.1,[],t::r,n⟩ (bT K) E) ∧
 (av kB t=true→aJ [aB] ⟨dy 3 t.2.1,[],t::r,n⟩ (bT K) E)∧(av [46,46,46] t=true→aJ [aB] ⟨dy 6 t.2.1,[],t::r,n⟩ (bT K) E) ∧
 (av bq t=true→aJ [aB,bd] ⟨dy 11 t.2.1,[],t::r,n⟩ (bT K) E)∧(av [123] t=true→aJ [aB,dF [125] it,au [[125]]] ⟨dy 15 t.2.1,[],t::r,n⟩ (bT K) E) ∧
 (Qg t→sf (t::r) n K E)
theorem xY {rt:Int→iQ} {bd it:bW} {sf:iQ} (hR :∀op,20≤op→op≤23→sa 162 (wy op) (rt op)) (En:eu 141 bd) (JI:eu 212 it) (hS:pI 142 sf):pI 183 (aan rt bd it sf):=by
 rintro b O ts T K E w hp ⟨t,r,rfl,h1,h2,h3,h4,h5,h6,h7,h8,h9,h10⟩;by_cases a1:t.1=3
 ·exact U0 b O t r T K E w hp a1 (h1 a1)
 by_cases a2:t.1=4
 ·exact U3 b O t r T K E w hp a1 a2 (h2 a1 a2)
 by_cases a3:ft t≠0
 ·exact U4 hR b O t r T K E w hp a1 a2 a3 (h3 a1 a2 a3)
 cases a4:av te t with
 | true=>exact U5 b O t r T K E w hp a4 (h4 a4)
 | false =>
 cases a5:av nr t with
 | true=>exact Qe b O t r T K E w hp a5 (h5 a5)
 | false =>
 cases a6:av kB t with
 | true=>exact JX b O t r T K E w hp a6 (h6 a6)
 | false =>
 cases a7:av [46,46,46] t with
 | true=>exact Qf b O t r T K E w hp a7 (h7 a7)
 | false =>
 cases a8:av bq t with
 | true=>exact zm En b O t r T K E w hp a8 (h8 a8)
 | false =>
 cases a9:av [123] t with
 | true=>exact U6 JI b O t r T K E w hp a9 (h9 a9)
 | false =>
  have hq:Qg t:=⟨a1,a2,by simpa using a3,a4,a5,a6,a7,a8,a9⟩
  exact U7 hS b O t r T K E w hp hq (h10 hq)
section
variable {K:Ast→List ak→Prop} {E:Int→Prop} {K':St→Prop} {N k n:Nat} {h:Nd} {xs:List Ast} {t:ak} {ts:List ak}
theorem iu {s:List UInt8} (hs:s≠[45]∧s≠[126]∧s≠Dy∧s≠[35]) (h:av s t=true):lf t=none:=by
 unfold lf;rw[bn h (Ne.symm hs.1),bn h (Ne.symm hs.2.1),bn h (Ne.symm hs.2.2.1),bn h (Ne.symm hs.2.2.2)];rfl
theorem ace (hI:Rm (N+1) k ⟨h,[],t::ts,n⟩) (H:Gw J1 (t::ts) K E):aan (rtP N) (xQ N) (zn N) (sR (N+1) Eg) (t::ts) n K E:=by
 have G0:=Gw.look H;have GN:lf t=none→Gw (aT .SG:GL Ast) (t::ts) K E:=fun ho=>by
  rw[ho] at G0;exact(Gw.call G0).mono fun v aA _ hv=>hv.2.ret
 have no :∀{s s':List UInt8},av s t=true→s'≠s→¬ av s' t=true:=fun h1 h2=>aU h1 h2
 have nk:t.1≠2→t.1≠5→∀s:List UInt8,¬ av s t=true:=fun h1 h2 s=>by simp[av,h1,h2]
 refine⟨t,ts,rfl,fun ht=>?_,fun _ ht=>?_,fun h3 h4 hu=>?_,fun hw=>?_,fun hw=>?_,fun hw=>?_,fun hw=>?_,fun hw=>?_,fun hw=>?_,fun hq=>?_⟩
 ·have G:=Gw.look (GN (vz (by omega) (by omega)))
  have nn:=nk (by omega) (by omega)
  have G2:=((((((G.neg (nn _)).neg (nn _)).neg (nn _)).neg (nn _)).neg (nn _)).neg (nn _)).pos ht;exact cW hI.hd (by omega) fun hI=>cy hI G2.tok.ret
 ·have G:=Gw.look (GN (vz (by omega) (by omega)))
  have nn:=nk (by omega) (by omega)
  have G2:=(((((((G.neg (nn _)).neg (nn _)).neg (nn _)).neg (nn _)).neg (nn _)).neg (nn _)).neg (by omega)).pos ht
  exact cW hI.hd (by omega) fun hI=>cy hI G2.tok.ret
 ·cases ho:lf t with
  | none=>exact absurd (by unfold ft;rw[ho]) hu
  | some o =>
   rw[ho] at G0;have KM:ft t=o:=by unfold ft;rw[ho]
   have hr:=y9 ho;have hb:wy o=11:=by
    have h9:o=20∨o=21∨o=22∨o=23:=by omega
    rcases h9 with h|h|h|h<;>(rw[h];decide)
   rw[KM];refine cW hI.hd (Gx ho) fun hI=>?_
   show dx (sR N (rZ (wy o+1).toNat)) _ _ _
   rw[hb];have G1:=Gw.call (Gw.tok G0);refine jS (by simp) ⟨hI.len,by have:=hI.n;dsimp only at *;omega,hI.wf.zF,⟨fun(a:Ast) aA p=>nR.mk ?_,fun l p=>G1.2 l (Xn p)⟩⟩
   have hq:=G1.1 a aA (Xn p);have hz:a.size+2*aA.length+1≤2*ts.length:=hq.1;exact⟨by have:=hI.n;show n+Ast.al [a]≤_;rw[vr];dsimp only at this;omega,hq.2.ret⟩
 ·have G:=Gw.look (GN (iu (by decide) hw))
  exact cW hI.hd (aV hw) fun hI=>cy hI (G.pos hw).tok.ret
 ·have G:=Gw.look (GN (iu (by decide) hw))
  exact cW hI.hd (aV hw) fun hI=>cy hI ((G.neg (no hw (by decide))).pos hw).tok.ret
 ·have G:=Gw.look (GN (iu (by decide) hw))
  exact cW hI.hd (aV hw) fun hI=>cy hI (((G.neg (no hw (by decide))).neg (no hw (by decide))).pos hw).tok.ret
 ·have G:=Gw.look (GN (iu (by decide) hw))
  exact cW hI.hd (aV hw) fun hI=>cy hI ((((G.neg (no hw (by decide))).neg (no hw (by decide))).neg (no hw (by decide))).pos hw).tok.ret
 ·have G:=Gw.look (GN (iu (by decide) hw))
  have G2:=(Gw.call (((((G.neg (no hw (by decide))).neg (no hw (by decide))).neg (no hw (by decide))).neg (no hw (by decide))).pos hw).tok).mono (K':=K) fun v aA _ hv=>hv.2.ret
  exact cW (hI.hd (h':=dy 11 t.2.1)) (aV hw) fun hI=>Pw hI (by simp) G2
 ·have G:=Gw.look (GN (iu (by decide) hw))
  have G2:=((((((G.neg (no hw (by decide))).neg (no hw (by decide))).neg (no hw (by decide))).neg (no hw (by decide))).neg (no hw (by decide))).pos hw).tok
  exact cW (hI.hd (h':=dy 15 t.2.1)) (aV hw) fun hI=>Qm hI G2
 ·have ho:lf t=none:=by
   cases ho:lf t with
   | none=>rfl
   | some o =>
    have h1:=hq.un;have h2:=y9 ho;unfold ft at h1;rw[ho] at h1;dsimp only at h1
    omega
  have G:=Gw.look (GN ho);have G2:=(((((((G.neg (by simp[hq.a])).neg (by simp[hq.b])).neg (by simp[hq.c])).neg (by simp[hq.d])).neg (by simp[hq.e])).neg (by simp[hq.f])).neg hq.n3).neg hq.n4
  exact⟨hI.len,by have:=hI.n;dsimp only at *;omega,hI.wf.zF,(Gw.call G2).mono fun v aA _ hv=>hv.2.ret⟩
theorem acf {s:Nat} {l:Int} (hs:l+1=(s:Int)) (hl0:0≤l) (hf:Fin ts) (H:sR (N+1) (rZ s) ts n K E):sR (N+1) J1 ts n (fun a fK=>∃m,Co (rtP N) l m a fK n K E) E:=by
 obtain⟨h1,h2,h3,h4⟩:=H;refine⟨h1,h2,h3,(Gw.call h4).mono fun(a:Ast) fK p hq=>⟨fK.length+1,?_⟩⟩
 have hz:a.size+2*fK.length+1≤2*ts.length:=hq.1;have ha:=size_pos a;exact aah hs hl0 (fK.length+1) fK a 0 (dz _) ⟨by dsimp only;omega,by dsimp only;omega,by simp only[List.length_cons,List.length_nil];omega,p.wf ⟨hf,h3⟩⟩ ((Gw.call hq.2).mono fun v aA _ hv=>hv.2.ret)
end
end Go.Proofs.YtodmcdfeldkocaaGreatDoor
namespace Go.Proofs.YtodmcdfeldkocaaGreatDoor
open Go.RowKit
def acg (N:Nat):iQ:=aan (fun _=>Vn) Xs (zn N) Vn
def Cv (N:Nat):bW:=ab4 (acg N) (nQ N)
abbrev ach:GL (List Ast):=aT .arg
section
variable {K:Ast→List ak→Prop} {E:Int→Prop} {K':St→Prop} {N k n:Nat} {h:Nd} {xs:List Ast} {t:ak} {ts:List ak}
theorem QA {kk:List Ast→GL Ast} (hI:Rm (N+1) k ⟨h,xs,ts,n⟩) (H:Gw (.call .arg kk) ts K E)
  (hk :∀(l:List Ast) (aA:List ak),Rm (N+1) (k+1) ⟨h,xs++l,aA,n+Ast.al l⟩→aA.length<ts.length→Gw (kk l) aA K E→K' ⟨h,xs++l,aA,n+Ast.al l⟩):Cv N ⟨h,xs,ts,n⟩ K' E:=by
 obtain⟨t,r,jo⟩:=hI.cons;dsimp only at jo
 subst jo;have hn:=hI.n;have hx:=hI.xs;dsimp only at hn hx
 have G0:=Gw.call H;have ad4 :∀(l:List Ast) (aA:List ak),PL ach (t::r) (.ok (l,aA))→za .arg (t::r).length l aA.length∧Gw (kk l) aA K E→K' ⟨h,xs++l,aA,n+Ast.al l⟩:=fun l aA p hq=>by
  have hz:Ast.al l+2*aA.length+1≤2*(t::r).length:=hq.1;exact hk l aA (hI.kids (by omega) (PL.short (n:=.arg) p) (PL.wf (n:=.arg) p hI.wf)) (by omega) hq.2
 have G1:Gw ach (t::r) (fun l aA=>K' ⟨h,xs++l,aA,n+Ast.al l⟩∧Ast.al l+2*aA.length+1≤2*(t::r).length) E:=G0.mono fun l aA p hq=>⟨ad4 l aA p hq,hq.1⟩
 have G2:=Gw.look G1;refine⟨t,r,rfl,fun hc=>?_,fun h4 hw=>?_⟩
 ·refine jS (by dsimp only;omega) ⟨t,r,rfl,fun ht=>?_,fun _ ht=>?_,fun h3 h4 hu=>?_,fun hw=>?_,fun hw=>?_,fun hw=>?_,fun hw=>?_,fun hw=>?_,fun hw=>?_,fun hq=>?_⟩
  ·exact hc.elim (fun h=>absurd h (by omega)) fun h=>absurd ht (pL h)
  ·have G3:=(G2.pos ht).tok.ret
   refine⟨t,r,rfl,by omega,⟨?_,nR.mk G3.1⟩⟩
   dsimp only
   omega
  ·exact absurd (hc.elim (fun h=>absurd h h4) fun h=>by unfold ft;rw[iu (by decide) h]) hu
  ·exact hc.elim (fun h=>absurd h (iZ hw)) fun h=>absurd hw (aU h (by decide))
  ·exact hc.elim (fun h=>absurd h (iZ hw)) fun h=>absurd hw (aU h (by decide))
  ·exact hc.elim (fun h=>absurd h (iZ hw)) fun h=>absurd hw (aU h (by decide))
  ·exact hc.elim (fun h=>absurd h (iZ hw)) fun h=>absurd hw (aU h (by decide))
  ·exact hc.elim (fun h=>absurd h (iZ hw)) fun h=>absurd hw (aU h (by decide))
  ·have G3:=((G2.neg (iZ hw)).pos hw).tok
   have ad5:Rm (N+1) k ⟨dy 15 t.2.1,[],t::r,n⟩:=⟨hI.len,hI.n,by have:=hI.xs;simp only[List.length_nil];dsimp only at this;omega,hI.wf⟩
   refine cW ad5 (aV hw) fun hI=>Qm hI (Gw.Vm ((Gw.call G3).mono fun(l:List Ast) aA _ hq=>Gw.aak (nR.mk hq.2.ret.1)))
  ·exact hc.elim (fun h=>(hq.n4 h).elim) fun h=>by rw[hq.f] at h;exact(gd h).elim
 ·have G3:=(G2.neg h4).neg (by simp[hw])
  refine⟨t,r,rfl,fun hp=>?_,G3.want.2⟩
  have oF:Rm N (k+2) ⟨h,xs,r,n⟩:=hI.Z9 (aV hp);have G4:=G3.want.1 hp;obtain⟨u,us,jo⟩:=oF.cons;dsimp only at jo
  subst jo;have G5:=G4.look;refine(show aJ [dF [41] (nQ N),au [[41]]] ⟨h,xs,u::us,n⟩ K' E from⟨u,us,rfl,fun hr=>?_,fun hr=>?_⟩)
  ·have G6:=(G5.pos hr).tok.ret
   rw[gh,cA,E5] at G6;exact(show au [[41]] _ _ _ from⟨u,us,rfl,fun _=>G6.1,fun hr2=>by rw[hr] at hr2;exact(gd hr2.symm).elim⟩)
  ·have G6:=G5.neg (by simp[hr])
   have G7:=Gw.call G6;have uP:=oF.n;have hx2:=oF.xs;dsimp only at uP hx2
   refine⟨by dsimp only;omega,(u::us).length+1,by omega,?_⟩
   refine GH _ ((u::us).length+1) (u::us) n [] (dz _) oF.len (by omega) oF.wf (G7.mono fun(l:List Ast) aA p hq=>?_)
   obtain⟨v,vs,rfl⟩:=(PL.wf (n:=.AZ) p oF.wf).fin.cons;have pg:=hq.2.want;exact(show au [[41]] _ _ _ from⟨v,vs,rfl,fun hr=>(pg.1 hr).ret.1,pg.2⟩)
theorem aao :∀(m:Nat) (ts:List ak) (a:Ast) (k:Nat),ts.length<m→Rm (N+1) k ⟨dy 0 0,[a],ts,n+a.size⟩→Gw (aT (.aR a):GL Ast) ts K E→vy (oE N) (Cv N) m a ts n K E:=by
 intro m;induction m with
 | zero=>intro ts a k h;omega
 | succ m ih =>
  intro ts a k h1 hI H;obtain⟨t,r,rfl⟩:=hI.wf.fin.cons;have G:=Gw.look H;have fin :∀{j:Nat} (h0:Nd) (ys:List Ast) (ir:List ak) (y:Ast),Rm (N+1) j ⟨h0,[a]++ys,ir,n+a.size+Ast.al ys⟩→1≤j→ir.length≤r.length→y.size=Ast.al ([a]++ys)+1→Gw (.call (.aR y) fun(z:Ast)=>.ret z:GL Ast) ir K E→y=.mk h0 ([a]++ys)→(bT fun a' aA=>vy (oE N) (Cv N) m a' aA n K E) ⟨h0,[a]++ys,ir,n+a.size+Ast.al ys⟩:=fun{j} h0 ys ir y hI hj hl hy G e=>by
   have hn:=hI.n;have hx:=hI.xs;dsimp only at hn hx
   refine⟨by dsimp only;omega,?_⟩
   have G3:=(Gw.call G).mono (K':=K) fun v ir _ hv=>hv.2.ret
   rw[fm,vr] at hy;have:=ih ir y 0 (by simp at h1;omega) ⟨hI.len,by dsimp only;omega,by simp only[bY,List.length_cons,List.length_nil] at *;omega,hI.wf⟩ G3
   rw[e] at this;exact this
  have hI8 :∀h',Rm (N+1) k ⟨h',[a],t::r,n+a.size⟩:=fun h'=>⟨hI.len,hI.n,hI.xs,hI.wf⟩
  refine⟨t,r,rfl,fun h0=>?_,fun h0=>?_⟩
  ·unfold jt at h0
   by_cases a1:av [46] t=true
   ·rw[ai a1] at h0;exact absurd h0 (by decide)
   rw[ab a1] at h0;by_cases a2:av [91] t=true
   ·rw[ai a2] at h0;exact absurd h0 (by decide)
   rw[ab a2] at h0;by_cases a3:av [58] t=true
   ·rw[ai a3] at h0;exact absurd h0 (by decide)
   rw[ab a3] at h0;by_cases a4:av [40] t=true
   ·rw[ai a4] at h0;exact absurd h0 (by decide)
   rw[ab a4] at h0;by_cases a5:av [123] t=true
   ·rw[ai a5] at h0;exact absurd h0 (by decide)
   rw[ab a5] at h0;by_cases a6:t.1=4
   ·rw[ai a6] at h0;exact absurd h0 (by decide)
   exact((((G.neg a1).neg a2).neg a3).neg (by simp[a4,a5,a6])).ret
  ·have QB:(av [40] t || av [123] t || decide (t.1=4))=true→av [46] t=false→av [91] t=false→av [58] t=false→aJ [Cv N] ⟨dy 9 t.2.1,[a],t::r,n+a.size⟩ (bT fun a' aA=>vy (oE N) (Cv N) m a' aA n K E) E:=fun hc a1 a2 a3=>by
    have G2:=(((G.neg (by simp[a1])).neg (by simp[a2])).neg (by simp[a3])).pos hc
    exact QA (hI8 _) G2 fun l ir hI hl G3=>fin (dy 9 t.2.1) l ir _ hI (by omega) (by simp at hl;omega) (by show Ast.size (nd 9 t.2.1 (a::l))=_;rw[kl];rfl) G3 rfl
   unfold jt GO;by_cases a1:av [46] t=true
   ·rw[ai a1,ai a1]
    exact lD (hI8 _) (aV a1) fun hI=>Eh hI (G.pos a1).tok fun u r2 hI hl G3=>fin (dy 8 t.2.1) _ r2 _ hI (by omega) (by omega) (by show Ast.size (nd 8 t.2.1 _)=_;rw[kl];rfl) G3 rfl
   rw[ab a1,ab a1];by_cases a2:av [91] t=true
   ·rw[ai a2,ai a2]
    exact cW (hI8 _) (aV a2) fun hI=>fU hI ((G.neg a1).pos a2).tok fun e r2 hI hl G3=>bX hI G3 fun _ r3 hI KJ G3=>fin (dy 8 t.2.1) [e] r3 _ hI.up (by omega) (by omega) (by show Ast.size (nd 8 t.2.1 [a,e])=_;rw[kl];rfl) G3 rfl
   rw[ab a2,ab a2];by_cases a3:av [58] t=true
   ·rw[ai a3,ai a3]
    exact lD (hI8 (dy 10 t.2.1)) (aV a3) fun hI=>zi hI (((G.neg a1).neg a2).pos a3).tok fun u r2 hI hl G3=>QA hI G3 fun l r3 hI KJ G3=>fin ⟨10,t.2.1,0,0,bx u.2.2.2,[],[]⟩ l r3 _ hI (by omega) (by omega) (by show Ast.size (mS 10 t.2.1 _ (a::l))=_;rw[lA];rfl) G3 rfl
   rw[ab a3,ab a3];have b1:av [46] t=false:=by simpa using a1
   have b2:av [91] t=false:=by simpa using a2
   have b3:av [58] t=false:=by simpa using a3
   by_cases a4:av [40] t=true
   ·rw[ai a4,ai a4];exact QB (by simp[a4]) b1 b2 b3
   rw[ab a4,ab a4];by_cases a5:av [123] t=true
   ·rw[ai a5,ai a5];exact QB (by simp[a5]) b1 b2 b3
   rw[ab a5,ab a5];by_cases a6:t.1=4
   ·rw[ai a6,ai a6];exact QB (by simp[a6]) b1 b2 b3
   ·exfalso
    apply h0;unfold jt;rw[ab a1,ab a2,ab a3,ab a4,ab a5,ab a6]
theorem aci (hf:Fin ts) (H:sR (N+1) Eg ts n K E):ab7 (oE N) (Cv N) ts n K E:=by
 obtain⟨h1,h2,h3,h4⟩:=H;obtain⟨t,r,rfl⟩:=hf.cons;have hI :∀h',Rm (N+1) 0 ⟨h',[],t::r,n⟩:=fun h'=>⟨h1,h2,by simp only[List.length_nil];omega,⟨hf,h3⟩⟩
 have G:=Gw.look h4;have go :∀{j:Nat} (h0:Nd) (ys:List Ast) (ir:List ak) (y:Ast),Rm (N+1) j ⟨h0,ys,ir,n+Ast.al ys⟩→1≤j→y.size=Ast.al ys+1→Gw (.call (.aR y) fun(z:Ast)=>.ret z:GL Ast) ir K E→y=.mk h0 ys→(bT fun a fK=>∃m,vy (oE N) (Cv N) m a fK n K E) ⟨h0,ys,ir,n+Ast.al ys⟩:=fun{j} h0 ys ir y hI hj hy G e=>by
  have hn:=hI.n;dsimp only at hn
  refine⟨by dsimp only;omega,ir.length+1,?_⟩
  have:=aao (n:=n) (ir.length+1) ir y 0 (dz _) ⟨hI.len,by dsimp only;omega,by simp only[List.length_cons,List.length_nil];omega,hI.wf⟩ ((Gw.call G).mono (K':=K) fun v ir _ hv=>hv.2.ret)
  rw[e] at this;exact this
 refine⟨t,r,rfl,fun hw=>?_,fun hw=>?_⟩
 ·have G2:=((G.neg (show ¬ t.1=1 from fun e=>by rcases aN hw with ⟨l,m,rfl⟩ | ⟨l,m,rfl⟩<;>simp at e)).pos hw).tok
  exact cW (hI (dy 14 t.2.1)) (aV hw) fun hI=>fU hI G2 fun e r2 hI hl G3=>bX hI G3 fun _ r3 hI KJ G3=>go (dy 14 t.2.1) [e] r3 _ hI.up (by omega) (by show Ast.size (nd 14 t.2.1 [e])=_;rw[kl]) G3 rfl
 ·refine⟨t,r,rfl,fun ht=>?_,fun ht=>((G.neg ht).neg (by simp[hw])).bad⟩
  have oF:Rm (N+1) (0+2) ⟨⟨7,t.2.1,0,0,bx t.2.2.2,[],[]⟩,[],r,n+Ast.al []⟩:=by rw[cA];exact(hI (dy 7 t.2.1)).tok (by omega)
  have:=go ⟨7,t.2.1,0,0,bx t.2.2.2,[],[]⟩ [] r (mS 7 t.2.1 (bx t.2.2.2) []) oF (by omega) (by rw[lA]) (G.pos ht).tok rfl
  rw[cA] at this;exact this
end
end Go.Proofs.YtodmcdfeldkocaaGreatDoor
namespace Go.Proofs.YtodmcdfeldkocaaGreatDoor
open Go.RowKit
set_option maxRecDepth 40000 in
theorem Ka  (b:Nat) (O:Nat→Prop) (t:ak) (ts:List ak) (T:List Nd) (K:Ast→List ak→Prop) (E:Int→Prop) (w:World) (hp:PS w b O (t::ts) T) (hq:av pq t=true)
  (hk:aJ [aB] ⟨dy 30 t.2.1,[],t::ts,T.length⟩ (bT K) E) :
  Calls Tryz.prog 59 #[.pointer (some ⟨b,0,none⟩)] w (aF b O T (RK K E) w):=by
 have HW:=aa (bJ b O t ts T w hp);have g1:((ag t).toList == [98,114,101,97,107])=true:=aj (s:=pq) (by decide) t hq
 have HK:=aa hk;generalize hY:ag t=Y at *;have P:=aa hp;clear hp hk hY hq;go_enter Tryz.func59,Tryz.ntmps59
 go_wp2_with fail
 refine HW.out.mono ?_;rintro e w0 ⟨rfl,b0⟩;have F0:=aa (ax.af (O:=O) b0);have P0:=aa (P.out.below b0);clear b0;have HN:=aa (cD w w0 P0.out F0.out (mN 30) rfl [ba 55 b] [aB] (by simp) ⟨bg w0 b O,trivial⟩ HK.out)
 go_wp2_with fail
 refine HN.out.mono ?_;intro e wz hz;obtain⟨v,er,rfl⟩:=hz.ret;have HZ:=aa hz;clear hz;go_wp2_with fail
 go_ret2
 exact HZ.out
set_option maxRecDepth 40000 in
theorem QC  (b:Nat) (O:Nat→Prop) (t:ak) (ts:List ak) (T:List Nd) (K:Ast→List ak→Prop) (E:Int→Prop) (w:World) (hp:PS w b O (t::ts) T) (hq:av uS t=true)
  (hk:aJ [aB,cV] ⟨dy 31 t.2.1,[],t::ts,T.length⟩ (bT K) E) :
  Calls Tryz.prog 59 #[.pointer (some ⟨b,0,none⟩)] w (aF b O T (RK K E) w):=by
 have HW:=aa (bJ b O t ts T w hp);have g1:=aQ [98,114,101,97,107] hq (by decide)
 have g2:((ag t).toList == [103,111,116,111])=true:=aj (s:=uS) (by decide) t hq
 have HK:=aa hk;generalize hY:ag t=Y at *;have P:=aa hp;clear hp hk hY hq;go_enter Tryz.func59,Tryz.ntmps59
 go_wp2_with fail
 refine HW.out.mono ?_;rintro e w0 ⟨rfl,b0⟩;have F0:=aa (ax.af (O:=O) b0);have P0:=aa (P.out.below b0);clear b0;have HN:=aa (cD w w0 P0.out F0.out (mN 31) rfl [ba 55 b,ba 102 b] [aB,cV] (by simp) ⟨bg w0 b O,im w0 b O,trivial⟩ HK.out)
 go_wp2_with fail
 refine HN.out.mono ?_;intro e wz hz;obtain⟨v,er,rfl⟩:=hz.ret;have HZ:=aa hz;clear hz;go_wp2_with fail
 go_ret2
 exact HZ.out
set_option maxRecDepth 40000 in
theorem Kb  (b:Nat) (O:Nat→Prop) (t:ak) (ts:List ak) (T:List Nd) (K:Ast→List ak→Prop) (E:Int→Prop) (w:World) (hp:PS w b O (t::ts) T) (hq:av [58,58] t=true)
  (hk:aJ [aB,cV,au [[58,58]]] ⟨dy 32 t.2.1,[],t::ts,T.length⟩ (bT K) E) :
  Calls Tryz.prog 59 #[.pointer (some ⟨b,0,none⟩)] w (aF b O T (RK K E) w):=by
 have HW:=aa (bJ b O t ts T w hp);have g1:=aQ [98,114,101,97,107] hq (by decide)
 have g2:=aQ [103,111,116,111] hq (by decide)
 have g3:((ag t).toList == [58,58])=true:=aj (s:=[58,58]) (by decide) t hq
 have HK:=aa hk;generalize hY:ag t=Y at *;have P:=aa hp;clear hp hk hY hq;go_enter Tryz.func59,Tryz.ntmps59
 go_wp2_with fail
 refine HW.out.mono ?_;rintro e w0 ⟨rfl,b0⟩;have F0:=aa (ax.af (O:=O) b0);have P0:=aa (P.out.below b0);clear b0;have oZ :∀k,O k→k<w0.heap.size:=fun k hk=>(P0.out.own k hk).2
 have V1:=aa (cB w0 b O oZ [58,58] (by decide) ⟨#[58,58]⟩ rfl)
 clear oZ;go_wp2_with fail
 refine V1.out.mono ?_;rintro e w1 ⟨f1,a1,c1,rfl,b1,h1⟩;have F1:=aa (F0.out.trans (ax.af (O:=O) b1) (Ext.refl _ _));have P1:=aa (P0.out.below b1);have H1:=aa h1;clear b1 h1 V1;have HN:=aa (cD w w1 P1.out F1.out (mN 32) rfl [ba 55 b,ba 102 b,.func (.func f1) a1 c1] [aB,cV,au [[58,58]]] (by simp) ⟨bg w1 b O,im w1 b O,H1.out,trivial⟩ HK.out)
 go_wp2_with fail
 refine HN.out.mono ?_;intro e wz hz;obtain⟨v,er,rfl⟩:=hz.ret;have HZ:=aa hz;clear hz;go_wp2_with fail
 go_ret2
 exact HZ.out
set_option maxRecDepth 40000 in
theorem aap {bl:bW} (hB:eu 104 bl) (b:Nat) (O:Nat→Prop) (t:ak) (ts:List ak) (T:List Nd) (K:Ast→List ak→Prop) (E:Int→Prop) (w:World) (hp:PS w b O (t::ts) T) (hq:av Dw t=true)
  (hk:aJ [aB,bl,au [[101,110,100]]] ⟨dy 22 t.2.1,[],t::ts,T.length⟩ (bT K) E) :
  Calls Tryz.prog 59 #[.pointer (some ⟨b,0,none⟩)] w (aF b O T (RK K E) w):=by
 have HW:=aa (bJ b O t ts T w hp);have g1:=aQ [98,114,101,97,107] hq (by decide)
 have g2:=aQ [103,111,116,111] hq (by decide)
 have g3:=aQ [58,58] hq (by decide)
 have g4:((ag t).toList == [100,111])=true:=aj (s:=Dw) (by decide) t hq
 have HK:=aa hk;generalize hY:ag t=Y at *;have P:=aa hp;clear hp hk hY hq;go_enter Tryz.func59,Tryz.ntmps59
 go_wp2_with fail
 refine HW.out.mono ?_;rintro e w0 ⟨rfl,b0⟩;have F0:=aa (ax.af (O:=O) b0);have P0:=aa (P.out.below b0);clear b0;have oZ :∀k,O k→k<w0.heap.size:=fun k hk=>(P0.out.own k hk).2
 have V1:=aa (cB w0 b O oZ [101,110,100] (by decide) ⟨#[101,110,100]⟩ rfl)
 clear oZ;go_wp2_with fail
 refine V1.out.mono ?_;rintro e w1 ⟨f1,a1,c1,rfl,b1,h1⟩;have F1:=aa (F0.out.trans (ax.af (O:=O) b1) (Ext.refl _ _));have P1:=aa (P0.out.below b1);have H1:=aa h1;clear b1 h1 V1;have HN:=aa (cD w w1 P1.out F1.out (mN 22) rfl [ba 55 b,ba 104 b,.func (.func f1) a1 c1] [aB,bl,au [[101,110,100]]] (by simp) ⟨bg w1 b O,hB.part (enters_of Tryz.func104 (by kernel_rfl) rfl) w1 b O,H1.out,trivial⟩ HK.out)
 go_wp2_with fail
 refine HN.out.mono ?_;intro e wz hz;obtain⟨v,er,rfl⟩:=hz.ret;have HZ:=aa hz;clear hz;go_wp2_with fail
 go_ret2
 exact HZ.out
set_option maxRecDepth 40000 in
theorem Kc {ex bl:bW} (hE:eu 105 ex) (hB:eu 104 bl) (b:Nat) (O:Nat→Prop) (t:ak) (ts:List ak) (T:List Nd) (K:Ast→List ak→Prop) (E:Int→Prop) (w:World) (hp:PS w b O (t::ts) T) (hq:av pt t=true)
  (hk:aJ [aB,ex,au [[100,111]],bl,au [[101,110,100]]] ⟨dy 23 t.2.1,[],t::ts,T.length⟩ (bT K) E) :
  Calls Tryz.prog 59 #[.pointer (some ⟨b,0,none⟩)] w (aF b O T (RK K E) w):=by
 have HW:=aa (bJ b O t ts T w hp);have g1:=aQ [98,114,101,97,107] hq (by decide)
 have g2:=aQ [103,111,116,111] hq (by decide)
 have g3:=aQ [58,58] hq (by decide)
 have g4:=aQ [100,111] hq (by decide)
 have g5:((ag t).toList == [119,104,105,108,101])=true:=aj (s:=pt) (by decide) t hq
 have HK:=aa hk;generalize hY:ag t=Y at *;have P:=aa hp;clear hp hk hY hq;go_enter Tryz.func59,Tryz.ntmps59
 go_wp2_with fail
 refine HW.out.mono ?_;rintro e w0 ⟨rfl,b0⟩;have F0:=aa (ax.af (O:=O) b0);have P0:=aa (P.out.below b0);clear b0;have oZ :∀k,O k→k<w0.heap.size:=fun k hk=>(P0.out.own k hk).2
 have V1:=aa (cB w0 b O oZ [100,111] (by decide) ⟨#[100,111]⟩ rfl)
 clear oZ;go_wp2_with fail
 refine V1.out.mono ?_;rintro e w1 ⟨f1,a1,c1,rfl,b1,h1⟩;have F1:=aa (F0.out.trans (ax.af (O:=O) b1) (Ext.refl _ _));have P1:=aa (P0.out.below b1);have H1:=aa h1;clear b1 h1 V1;have rX :∀k,O k→k<w1.heap.size:=fun k hk=>(P1.out.own k hk).2
 have V2:=aa (cB w1 b O rX [101,110,100] (by decide) ⟨#[101,110,100]⟩ rfl)
 clear rX;go_wp2_with fail
 refine V2.out.mono ?_;rintro e w2 ⟨f2,a2,c2,rfl,b2,h2⟩;have F2:=aa (F1.out.trans (ax.af (O:=O) b2) (Ext.refl _ _));have P2:=aa (P1.out.below b2);have L1:=aa (H1.out.later (ax.af (O:=O) b2) (Ext.refl _ _));clear H1;have H1:=L1;clear L1;have H2:=aa h2;clear b2 h2 V2;have HN:=aa (cD w w2 P2.out F2.out (mN 23) rfl [ba 55 b,ba 105 b,.func (.func f1) a1 c1,ba 104 b,.func (.func f2) a2 c2] [aB,ex,au [[100,111]],bl,au [[101,110,100]]] (by simp) ⟨bg w2 b O,hE.part (enters_of Tryz.func105 (by kernel_rfl) rfl) w2 b O,H1.out,hB.part (enters_of Tryz.func104 (by kernel_rfl) rfl) w2 b O,H2.out,trivial⟩ HK.out)
 go_wp2_with fail
 refine HN.out.mono ?_;intro e wz hz;obtain⟨v,er,rfl⟩:=hz.ret;have HZ:=aa hz;clear hz;go_wp2_with fail
 go_ret2
 exact HZ.out
set_option maxRecDepth 40000 in
theorem Ew {bl ex:bW} (hB:eu 104 bl) (hE:eu 105 ex) (b:Nat) (O:Nat→Prop) (t:ak) (ts:List ak) (T:List Nd) (K:Ast→List ak→Prop) (E:Int→Prop) (w:World) (hp:PS w b O (t::ts) T) (hq:av lZ t=true)
  (hk:aJ [aB,bl,au [[117,110,116,105,108]],ex] ⟨dy 24 t.2.1,[],t::ts,T.length⟩ (bT K) E) :
  Calls Tryz.prog 59 #[.pointer (some ⟨b,0,none⟩)] w (aF b O T (RK K E) w):=by
 have HW:=aa (bJ b O t ts T w hp);have g1:=aQ [98,114,101,97,107] hq (by decide)
 have g2:=aQ [103,111,116,111] hq (by decide)
 have g3:=aQ [58,58] hq (by decide)
 have g4:=aQ [100,111] hq (by decide)
 have g5:=aQ [119,104,105,108,101] hq (by decide)
 have g6:((ag t).toList == [114,101,112,101,97,116])=true:=aj (s:=lZ) (by decide) t hq
 have HK:=aa hk;generalize hY:ag t=Y at *;have P:=aa hp;clear hp hk hY hq;go_enter Tryz.func59,Tryz.ntmps59
 go_wp2_with fail
 refine HW.out.mono ?_;rintro e w0 ⟨rfl,b0⟩;have F0:=aa (ax.af (O:=O) b0);have P0:=aa (P.out.below b0);clear b0;have oZ :∀k,O k→k<w0.heap.size:=fun k hk=>(P0.out.own k hk).2
 have V1:=aa (cB w0 b O oZ [117,110,116,105,108] (by decide) ⟨#[117,110,116,105,108]⟩ rfl)
 clear oZ;go_wp2_with fail
 refine V1.out.mono ?_;rintro e w1 ⟨f1,a1,c1,rfl,b1,h1⟩;have F1:=aa (F0.out.trans (ax.af (O:=O) b1) (Ext.refl _ _));have P1:=aa (P0.out.below b1);have H1:=aa h1;clear b1 h1 V1;have HN:=aa (cD w w1 P1.out F1.out (mN 24) rfl [ba 55 b,ba 104 b,.func (.func f1) a1 c1,ba 105 b] [aB,bl,au [[117,110,116,105,108]],ex] (by simp) ⟨bg w1 b O,hB.part (enters_of Tryz.func104 (by kernel_rfl) rfl) w1 b O,H1.out,hE.part (enters_of Tryz.func105 (by kernel_rfl) rfl) w1 b O,trivial⟩ HK.out)
 go_wp2_with fail
 refine HN.out.mono ?_;intro e wz hz;obtain⟨v,er,rfl⟩:=hz.ret;have HZ:=aa hz;clear hz;go_wp2_with fail
 go_ret2
 exact HZ.out
set_option maxRecDepth 40000 in
theorem aaq {ex bl:bW} (hE:eu 105 ex) (hB:eu 104 bl) (b:Nat) (O:Nat→Prop) (t:ak) (ts:List ak) (T:List Nd) (K:Ast→List ak→Prop) (E:Int→Prop) (w:World) (hp:PS w b O (t::ts) T) (hq:av Yx t=true)
  (hk:aJ [aB,ex,au [[116,104,101,110]],bl,rU [101,108,115,101,105,102] [ex,au [[116,104,101,110]],bl],bw [101,108,115,101] [bl],au [[101,110,100]]] ⟨dy 25 t.2.1,[],t::ts,T.length⟩ (bT K) E) :
  Calls Tryz.prog 59 #[.pointer (some ⟨b,0,none⟩)] w (aF b O T (RK K E) w):=by
 have HW:=aa (bJ b O t ts T w hp);have g1:=aQ [98,114,101,97,107] hq (by decide)
 have g2:=aQ [103,111,116,111] hq (by decide)
 have g3:=aQ [58,58] hq (by decide)
 have g4:=aQ [100,111] hq (by decide)
 have g5:=aQ [119,104,105,108,101] hq (by decide)
 have g6:=aQ [114,101,112,101,97,116] hq (by decide)
 have g7:((ag t).toList == [105,102])=true:=aj (s:=Yx) (by decide) t hq
 have HK:=aa hk;generalize hY:ag t=Y at *;have P:=aa hp;clear hp hk hY hq;go_enter Tryz.func59,Tryz.ntmps59
 go_wp2_with fail
 refine HW.out.mono ?_;rintro e w0 ⟨rfl,b0⟩;have F0:=aa (ax.af (O:=O) b0);have P0:=aa (P.out.below b0);clear b0;have oZ :∀k,O k→k<w0.heap.size:=fun k hk=>(P0.out.own k hk).2
 have V1:=aa (cB w0 b O oZ [116,104,101,110] (by decide) ⟨#[116,104,101,110]⟩ rfl)
 clear oZ;go_wp2_with fail
 refine V1.out.mono ?_;rintro e w1 ⟨f1,a1,c1,rfl,b1,h1⟩;have F1:=aa (F0.out.trans (ax.af (O:=O) b1) (Ext.refl _ _));have P1:=aa (P0.out.below b1);have H1:=aa h1;clear b1 h1 V1;have rX :∀k,O k→k<w1.heap.size:=fun k hk=>(P1.out.own k hk).2
 have V2:=aa (cB w1 b O rX [116,104,101,110] (by decide) ⟨#[116,104,101,110]⟩ rfl)
 clear rX;go_wp2_with fail
 refine V2.out.mono ?_;rintro e w2 ⟨f2,a2,c2,rfl,b2,h2⟩;have F2:=aa (F1.out.trans (ax.af (O:=O) b2) (Ext.refl _ _));have P2:=aa (P1.out.below b2);have L1:=aa (H1.out.later (ax.af (O:=O) b2) (Ext.refl _ _));clear H1;have H1:=L1;clear L1;have H2:=aa h2;clear b2 h2 V2;have KT :∀k,O k→k<w2.heap.size:=fun k hk=>(P2.out.own k hk).2
 have V3:=aa (US w2 b O KT [ba 105 b,.func (.func f2) a2 c2,ba 104 b] [ex,au [[116,104,101,110]],bl] (by simp) ⟨hE.part (enters_of Tryz.func105 (by kernel_rfl) rfl) w2 b O,H2.out,hB.part (enters_of Tryz.func104 (by kernel_rfl) rfl) w2 b O,trivial⟩ [101,108,115,101,105,102] (by decide) ⟨#[101,108,115,101,105,102]⟩ rfl)
 clear KT;go_wp2_with fail
 refine V3.out.mono ?_;rintro e w3 ⟨f3,a3,c3,rfl,b3,h3⟩;have F3:=aa (F2.out.trans (ax.af (O:=O) b3) (Ext.refl _ _));have P3:=aa (P2.out.below b3);have L1:=aa (H1.out.later (ax.af (O:=O) b3) (Ext.refl _ _));clear H1;have H1:=L1;clear L1;have H3:=aa h3;clear b3 h3 V3;have C7 :∀k,O k→k<w3.heap.size:=fun k hk=>(P3.out.own k hk).2
 have V4:=aa (pJ w3 b O C7 [ba 104 b] [bl] (by simp) ⟨hB.part (enters_of Tryz.func104 (by kernel_rfl) rfl) w3 b O,trivial⟩ [101,108,115,101] (by decide) ⟨#[101,108,115,101]⟩ rfl)
 clear C7;go_wp2_with fail
 refine V4.out.mono ?_;rintro e w4 ⟨f4,a4,c4,rfl,b4,h4⟩;have F4:=aa (F3.out.trans (ax.af (O:=O) b4) (Ext.refl _ _));have P4:=aa (P3.out.below b4);have L1:=aa (H1.out.later (ax.af (O:=O) b4) (Ext.refl _ _));clear H1;have H1:=L1;clear L1;have L3:=aa (H3.out.later (ax.af (O:=O) b4) (Ext.refl _ _));clear H3;have H3:=L3;clear L3;have H4:=aa h4;clear b4 h4 V4;have Xb :∀k,O k→k<w4.heap.size:=fun k hk=>(P4.out.own k hk).2
 have V5:=aa (cB w4 b O Xb [101,110,100] (by decide) ⟨#[101,110,100]⟩ rfl)
 clear Xb;go_wp2_with fail
 refine V5.out.mono ?_;rintro e w5 ⟨f5,a5,c5,rfl,b5,h5⟩;have F5:=aa (F4.out.trans (ax.af (O:=O) b5) (Ext.refl _ _));have P5:=aa (P4.out.below b5);have L1:=aa (H1.out.later (ax.af (O:=O) b5) (Ext.refl _ _));clear H1;have H1:=L1;clear L1;have L3:=aa (H3.out.later (ax.af (O:=O) b5) (Ext.refl _ _));clear H3;have H3:=L3;clear L3;have L4:=aa (H4.out.later (ax.af (O:=O) b5) (Ext.refl _ _));clear H4;have H4:=L4;clear L4;have H5:=aa h5;clear b5 h5 V5;have HN:=aa (cD w w5 P5.out F5.out (mN 25) rfl [ba 55 b,ba 105 b,.func (.func f1) a1 c1,ba 104 b,.func (.func f3) a3 c3,.func (.func f4) a4 c4,.func (.func f5) a5 c5] [aB,ex,au [[116,104,101,110]],bl,rU [101,108,115,101,105,102] [ex,au [[116,104,101,110]],bl],bw [101,108,115,101] [bl],au [[101,110,100]]] (by simp) ⟨bg w5 b O,hE.part (enters_of Tryz.func105 (by kernel_rfl) rfl) w5 b O,H1.out,hB.part (enters_of Tryz.func104 (by kernel_rfl) rfl) w5 b O,H3.out,H4.out,H5.out,trivial⟩ HK.out)
 go_wp2_with fail
 refine HN.out.mono ?_;intro e wz hz;obtain⟨v,er,rfl⟩:=hz.ret;have HZ:=aa hz;clear hz;go_wp2_with fail
 go_ret2
 exact HZ.out
set_option maxRecDepth 40000 in
theorem Vp {ro bl:bW} (hN:eu 107 iD) (hR:eu 108 ro) (hB:eu 104 bl) (b:Nat) (O:Nat→Prop) (t:ak) (ts:List ak) (T:List Nd) (K:Ast→List ak→Prop) (E:Int→Prop) (w:World) (hp:PS w b O (t::ts) T) (hq:av Dx t=true)
  (hk:aJ [aB,iD,ro,au [[100,111]],bl,au [[101,110,100]]] ⟨dy 0 t.2.1,[],t::ts,T.length⟩ (bT K) E) :
  Calls Tryz.prog 59 #[.pointer (some ⟨b,0,none⟩)] w (aF b O T (RK K E) w):=by
 have HW:=aa (bJ b O t ts T w hp);have g1:=aQ [98,114,101,97,107] hq (by decide)
 have g2:=aQ [103,111,116,111] hq (by decide)
 have g3:=aQ [58,58] hq (by decide)
 have g4:=aQ [100,111] hq (by decide)
 have g5:=aQ [119,104,105,108,101] hq (by decide)
 have g6:=aQ [114,101,112,101,97,116] hq (by decide)
 have g7:=aQ [105,102] hq (by decide)
 have g8:((ag t).toList == [102,111,114])=true:=aj (s:=Dx) (by decide) t hq
 have HK:=aa hk;generalize hY:ag t=Y at *;have P:=aa hp;clear hp hk hY hq;go_enter Tryz.func59,Tryz.ntmps59
 go_wp2_with fail
 refine HW.out.mono ?_;rintro e w0 ⟨rfl,b0⟩;have F0:=aa (ax.af (O:=O) b0);have P0:=aa (P.out.below b0);clear b0;have oZ :∀k,O k→k<w0.heap.size:=fun k hk=>(P0.out.own k hk).2
 have V1:=aa (cB w0 b O oZ [100,111] (by decide) ⟨#[100,111]⟩ rfl)
 clear oZ;go_wp2_with fail
 refine V1.out.mono ?_;rintro e w1 ⟨f1,a1,c1,rfl,b1,h1⟩;have F1:=aa (F0.out.trans (ax.af (O:=O) b1) (Ext.refl _ _));have P1:=aa (P0.out.below b1);have H1:=aa h1;clear b1 h1 V1;have rX :∀k,O k→k<w1.heap.size:=fun k hk=>(P1.out.own k hk).2
 have V2:=aa (cB w1 b O rX [101,110,100] (by decide) ⟨#[101,110,100]⟩ rfl)
 clear rX;go_wp2_with fail
 refine V2.out.mono ?_;rintro e w2 ⟨f2,a2,c2,rfl,b2,h2⟩;have F2:=aa (F1.out.trans (ax.af (O:=O) b2) (Ext.refl _ _));have P2:=aa (P1.out.below b2);have L1:=aa (H1.out.later (ax.af (O:=O) b2) (Ext.refl _ _));clear H1;have H1:=L1;clear L1;have H2:=aa h2;clear b2 h2 V2;have HN:=aa (cD w w2 P2.out F2.out (mN 0) rfl [ba 55 b,ba 107 b,ba 108 b,.func (.func f1) a1 c1,ba 104 b,.func (.func f2) a2 c2] [aB,iD,ro,au [[100,111]],bl,au [[101,110,100]]] (by simp) ⟨bg w2 b O,hN.part (enters_of Tryz.func107 (by kernel_rfl) rfl) w2 b O,hR.part (enters_of Tryz.func108 (by kernel_rfl) rfl) w2 b O,H1.out,hB.part (enters_of Tryz.func104 (by kernel_rfl) rfl) w2 b O,H2.out,trivial⟩ HK.out)
 go_wp2_with fail
 refine HN.out.mono ?_;intro e wz hz;obtain⟨v,er,rfl⟩:=hz.ret;have HZ:=aa hz;clear hz;go_wp2_with fail
 go_ret2
 exact HZ.out
set_option maxRecDepth 40000 in
theorem zr {as_:bW} (hA:eu 109 as_) (b:Nat) (O:Nat→Prop) (t:ak) (ts:List ak) (T:List Nd) (K:Ast→List ak→Prop) (E:Int→Prop) (w:World) (hp:PS w b O (t::ts) T) (hq:av bq t=true)
  (hk:aJ [as_] ⟨dy 20 t.2.1,[],t::ts,T.length⟩ (bT K) E) :
  Calls Tryz.prog 59 #[.pointer (some ⟨b,0,none⟩)] w (aF b O T (RK K E) w):=by
 have HW:=aa (bJ b O t ts T w hp);have g1:=aQ [98,114,101,97,107] hq (by decide)
 have g2:=aQ [103,111,116,111] hq (by decide)
 have g3:=aQ [58,58] hq (by decide)
 have g4:=aQ [100,111] hq (by decide)
 have g5:=aQ [119,104,105,108,101] hq (by decide)
 have g6:=aQ [114,101,112,101,97,116] hq (by decide)
 have g7:=aQ [105,102] hq (by decide)
 have g8:=aQ [102,111,114] hq (by decide)
 have g9:((ag t).toList == [102,117,110,99,116,105,111,110])=true:=aj (s:=bq) (by decide) t hq
 have HK:=aa hk;generalize hY:ag t=Y at *;have P:=aa hp;clear hp hk hY hq;go_enter Tryz.func59,Tryz.ntmps59
 go_wp2_with fail
 refine HW.out.mono ?_;rintro e w0 ⟨rfl,b0⟩;have F0:=aa (ax.af (O:=O) b0);have P0:=aa (P.out.below b0);clear b0;have HN:=aa (cD w w0 P0.out F0.out (mN 20) rfl [ba 109 b] [as_] (by simp) ⟨hA.part (enters_of Tryz.func109 (by kernel_rfl) rfl) w0 b O,trivial⟩ HK.out)
 go_wp2_with fail
 refine HN.out.mono ?_;intro e wz hz;obtain⟨v,er,rfl⟩:=hz.ret;have HZ:=aa hz;clear hz;go_wp2_with fail
 go_ret2
 exact HZ.out
set_option maxRecDepth 40000 in
theorem Kd {de:bW} (hD:eu 110 de) (b:Nat) (O:Nat→Prop) (t:ak) (ts:List ak) (T:List Nd) (K:Ast→List ak→Prop) (E:Int→Prop) (w:World) (hp:PS w b O (t::ts) T) (hq:av iT t=true)
  (hk:aJ [aB,de] ⟨dy 0 t.2.1,[],t::ts,T.length⟩ (bT K) E) :
  Calls Tryz.prog 59 #[.pointer (some ⟨b,0,none⟩)] w (aF b O T (RK K E) w):=by
 have HW:=aa (bJ b O t ts T w hp);have g1:=aQ [98,114,101,97,107] hq (by decide)
 have g2:=aQ [103,111,116,111] hq (by decide)
 have g3:=aQ [58,58] hq (by decide)
 have g4:=aQ [100,111] hq (by decide)
 have g5:=aQ [119,104,105,108,101] hq (by decide)
 have g6:=aQ [114,101,112,101,97,116] hq (by decide)
 have g7:=aQ [105,102] hq (by decide)
 have g8:=aQ [102,111,114] hq (by decide)
 have g9:=aQ [102,117,110,99,116,105,111,110] hq (by decide)
 have g10:((ag t).toList == [108,111,99,97,108])=true:=aj (s:=iT) (by decide) t hq
 have HK:=aa hk;generalize hY:ag t=Y at *;have P:=aa hp;clear hp hk hY hq;go_enter Tryz.func59,Tryz.ntmps59
 go_wp2_with fail
 refine HW.out.mono ?_;rintro e w0 ⟨rfl,b0⟩;have F0:=aa (ax.af (O:=O) b0);have P0:=aa (P.out.below b0);clear b0;have HN:=aa (cD w w0 P0.out F0.out (mN 0) rfl [ba 55 b,ba 110 b] [aB,de] (by simp) ⟨bg w0 b O,hD.part (enters_of Tryz.func110 (by kernel_rfl) rfl) w0 b O,trivial⟩ HK.out)
 go_wp2_with fail
 refine HN.out.mono ?_;intro e wz hz;obtain⟨v,er,rfl⟩:=hz.ret;have HZ:=aa hz;clear hz;go_wp2_with fail
 go_ret2
 exact HZ.out
set_option maxRecDepth 40000 in
theorem Ke {be:bW} (hG:eu 111 be) (b:Nat) (O:Nat→Prop) (t:ak) (ts:List ak) (T:List Nd) (K:Ast→List ak→Prop) (E:Int→Prop) (w:World) (hp:PS w b O (t::ts) T) (hq:PB t)
  (hk:aJ [be] ⟨dy 0 t.2.1,[],t::ts,T.length⟩ (bT K) E) :
  Calls Tryz.prog 59 #[.pointer (some ⟨b,0,none⟩)] w (aF b O T (RK K E) w):=by
 have HW:=aa (bJ b O t ts T w hp);have g1:((ag t).toList == [98,114,101,97,107])=false:=aj (s:=pq) (by decide) t hq.b
 have g2:((ag t).toList == [103,111,116,111])=false:=aj (s:=uS) (by decide) t hq.c
 have g3:((ag t).toList == [58,58])=false:=aj (s:=[58,58]) (by decide) t hq.a
 have g4:((ag t).toList == [100,111])=false:=aj (s:=Dw) (by decide) t hq.d
 have g5:((ag t).toList == [119,104,105,108,101])=false:=aj (s:=pt) (by decide) t hq.e
 have g6:((ag t).toList == [114,101,112,101,97,116])=false:=aj (s:=lZ) (by decide) t hq.f
 have g7:((ag t).toList == [105,102])=false:=aj (s:=Yx) (by decide) t hq.g
 have g8:((ag t).toList == [102,111,114])=false:=aj (s:=Dx) (by decide) t hq.h
 have g9:((ag t).toList == [102,117,110,99,116,105,111,110])=false:=aj (s:=bq) (by decide) t hq.i
 have g10:((ag t).toList == [108,111,99,97,108])=false:=aj (s:=iT) (by decide) t hq.j
 have HK:=aa hk;generalize hY:ag t=Y at *;have P:=aa hp;clear hp hk hY hq;go_enter Tryz.func59,Tryz.ntmps59
 go_wp2_with fail
 refine HW.out.mono ?_;rintro e w0 ⟨rfl,b0⟩;have F0:=aa (ax.af (O:=O) b0);have P0:=aa (P.out.below b0);clear b0;have HN:=aa (cD w w0 P0.out F0.out (mN 0) rfl [ba 111 b] [be] (by simp) ⟨hG.part (enters_of Tryz.func111 (by kernel_rfl) rfl) w0 b O,trivial⟩ HK.out)
 go_wp2_with fail
 refine HN.out.mono ?_;intro e wz hz;obtain⟨v,er,rfl⟩:=hz.ret;have HZ:=aa hz;clear hz;go_wp2_with fail
 go_ret2
 exact HZ.out
end Go.Proofs.YtodmcdfeldkocaaGreatDoor
namespace Go.Proofs.YtodmcdfeldkocaaGreatDoor
open Go.RowKit
section
variable {K:Ast→List ak→Prop} {E:Int→Prop} {K':St→Prop} {N k n:Nat} {h:Nd} {xs:List Ast} {t:ak} {ts:List ak}
theorem QD {t:ak} (h:iU t=true):av [59] t=false:=by
 cases hs:av [59] t with
 | false=>rfl
 | true =>
  exfalso;unfold iU at h;rw[bn hs (show jn≠[59] by decide),bn hs (show sH≠[59] by decide),bn hs (show kf≠[59] by decide),bn hs (show po≠[59] by decide)] at h
  have:=aV hs;simp at h;exact this h
theorem aar (K2:List Ast→List ak→Prop) (c1 c2:Nat) (hK :∀l aA n',K2 l aA→n'+c1=c2+Ast.al l→K' ⟨h,l,aA,n'⟩) :∀(m:Nat) (ts:List ak) (xs:List Ast) (n k:Nat),ts.length<m→n+c1=c2+Ast.al xs→Rm (N+1) k ⟨h,xs,ts,n⟩→Gw (ab0 xs) ts K2 E→Cr (sR (N+1) qR) (nQ N) m ⟨h,xs,ts,n⟩ K' E:=by
 intro m;induction m with
 | zero=>intro ts xs n k h;omega
 | succ m ih =>
  intro ts xs n k h1 hc hI H;obtain⟨t,r,rfl⟩:=hI.wf.fin.cons;have G:=Gw.look H;have hn:=hI.n;have hx:=hI.xs;dsimp only at hn hx
  refine⟨t,r,rfl,fun he=>hK _ _ _ (G.pos he).ret hc,fun he=>?_⟩
  have G:=G.neg (by simp[he])
  refine⟨fun hw=>?_,fun hw=>⟨fun hr=>?_,fun hr=>?_⟩⟩
  ·have G2:=((G.neg (aU hw (by decide))).pos hw).tok
   exact ih r xs n (k+2) (by simp at h1;omega) hc (hI.tok (aV hw)) ((Gw.call G2).mono fun v aA _ hv=>hv.2.ret)
  ·have G2:=Gw.call (G.pos hr).tok
   have ad6:Rm (N+1) k ⟨dy 29 t.2.1,[],t::r,n⟩:=⟨hI.len,hI.n,by simp only[List.length_nil];omega,hI.wf⟩
   refine jS (by dsimp only;omega) ⟨t,r,t.2.1,rfl,.inl ⟨rfl,rfl⟩,?_⟩
   refine(show aJ [aB,Qs (nQ N),bw [59] []] ⟨dy 29 t.2.1,[],t::r,n⟩ (bT (nR _ _ K' E)) E from ?_)
   refine cW ad6 (aV hr) fun hI=>?_
   obtain⟨u,us,rfl⟩:=hI.wf.fin.cons;have G3:=Gw.look G2;have done :∀(l:List Ast) (ir:List ak) (j:Nat),Rm N j ⟨dy 29 t.2.1,l,ir,n+Ast.al l⟩→K2 (xs++[nd 29 t.2.1 l]) ir→bT (nR (dR (mN 29) [aB,Qs (nQ N),bw [59] []]) ⟨h,xs,t::u::us,n⟩ K' E) ⟨dy 29 t.2.1,l,ir,n+Ast.al l⟩:=fun l ir j hI hk=>cy hI (nR.mk (hK _ _ _ hk (by show n+Ast.al [nd 29 t.2.1 l]+c1=c2+Ast.al (xs++[nd 29 t.2.1 l]);rw[fm];omega)))
   refine⟨u,us,rfl,fun Cb=>?_,fun Bm NI=>?_⟩
   ·cases hu:iU u with
    | true =>
     have G4:=(G3.pos hu).ret.2.ret;have hd:=done [] (u::us) (k+2) (by rw[cA];exact hI) G4
     rw[cA] at hd;exact⟨u,us,rfl,fun hs=>by rw[QD hu] at hs;exact(gd hs).elim,fun _=>hd⟩
    | false =>
     have hs:av [59] u=true:=Cb.elim (fun h=>by rw[hu] at h;exact(gd h).elim) id
     have G4:=((G3.neg (by simp[hu])).pos hs).tok.ret.2.ret
     have UN:=hI.tok (h':=dy 29 t.2.1) (aV hs);have hd:=done [] us (k+4) (by rw[cA];exact UN) G4
     rw[cA] at hd;exact⟨u,us,rfl,fun _=>hd,fun h=>by rw[hs] at h;exact(gd h.symm).elim⟩
   ·have G4:=(G3.neg (by simp[Bm])).neg (by simp[NI])
    refine tQ hI G4 fun l r2 hI _ G5=>?_
    obtain⟨v,vs,rfl⟩:=hI.wf.fin.cons;have G6:=G5.take;exact⟨v,vs,rfl,fun hs=>done l vs _ (hI.tok (aV hs)) (G6.1 hs).ret.2.ret,fun hs=>done l (v::vs) _ hI (G6.2 hs).ret.2.ret⟩
  ·have G2:=(G.neg (by simp[hr])).neg (by simp[hw])
   refine jS (by dsimp only;omega) ⟨hI.len,by dsimp only;omega,hI.wf.zF,(Gw.call G2).mono fun(x:Ast) aA p hq=>nR.mk ?_⟩
   have hz:x.size+2*aA.length≤2*(t::r).length:=hq.1;have hxp:=size_pos x;exact ih aA (xs++[x]) _ k (by simp only[List.length_cons] at *;omega) (by show n+Ast.al [x]+c1=c2+Ast.al (xs++[x]);rw[fm];omega) (Rm.kids (j:=k) hI (by rw[vr];omega) (PL.short p) (p.wf hI.wf)) ((Gw.call hq.2).mono fun v aA _ hv=>hv.2.ret)
theorem acj {s:St} (hf:Fin s.ts) (H:Pt (N+1) s K' E):aca (sR (N+1) qR) (nQ N) s K' E:=by
 obtain⟨sh,sxs,uT,sn⟩:=s;obtain⟨h1,h2,h3,h4,h5⟩:=H;dsimp only at h1 h2 h3 h4 h5 hf
 exact⟨uT.length+1,aar _ (Ast.al sxs) sn (fun l aA n' hk hn=>hk n' hn) (uT.length+1) uT sxs sn 0 (dz _) rfl ⟨h1,h2,h3,⟨hf,h4⟩⟩ h5⟩
end
structure All (N:Nat):Prop where
 exp:pI 131 (sR N (rZ 1))
 bnd :∀op,1≤op→op≤23→sa 162 (wy op) (rtP N op)
 Yz:pI 215 (sR N Vb)
 FQ:pI 142 (sR N Eg)
 uT:eu 24 (Pt N)
theorem all_zero:All 0 :=
 ⟨fun _ _ _ _ _ _ _ _ h=>absurd h.1 (jA _),fun _ _ _ _ _ _ _ _ _ _ _ h=>absurd h.1 (jA _),fun _ _ _ _ _ _ _ _ h=>absurd h.1 (jA _),fun _ _ _ _ _ _ _ _ h=>absurd h.1 (jA _),fun _ _ _ _ _ _ _ _ _ h=>absurd h.1 (jA _)⟩
theorem GR {op:Int} (h0:1≤op) (h1:op≤23):0≤wy op∧wy op+1=((wy op+1).toNat:Int):=by
 have h9:op=1∨op=2∨op=3∨op=4∨op=5∨op=6∨op=7∨op=8∨op=9∨op=10∨op=11∨op=12∨op=13∨op=14∨op=15∨op=16∨op=17∨op=18∨op=19∨op=20∨op=21∨op=22∨op=23:=by omega
 rcases h9 with h|h|h|h|h|h|h|h|h|h|h|h|h|h|h|h|h|h|h|h|h|h|h<;>(rw[h];decide)
theorem Vq {N:Nat} (A:All N) (hS:pI 142 (sR (N+1) Eg)):pI 59 (sR (N+1) qR):=by
 rintro b O ts T K E w hp ⟨h1,h2,h3,h4⟩;obtain⟨t,r,rfl⟩:=hp.fin.cons;have hI :∀h',Rm (N+1) 0 ⟨h',[],t::r,T.length⟩:=fun h'=>⟨h1,h2,by simp only[List.length_nil];omega,⟨hp.fin,h3⟩⟩
 have hE:=PC A.exp;have hL:=PD A.exp;have hB:eu 104 (pG N):=GK A.uT;have En:eu 141 (xQ N):=PG qT hB;cases c1:av [58,58] t with
 | true=>exact Kb b O t r T K E w hp c1 (UJ (hI _) h4 c1)
 | false =>
 cases c2:av pq t with
 | true=>exact Ka b O t r T K E w hp c2 (UK (hI _) h4 c2)
 | false =>
 cases c3:av uS t with
 | true=>exact QC b O t r T K E w hp c3 (aaa (hI _) h4 c3)
 | false =>
 cases c4:av Dw t with
 | true=>exact aap hB b O t r T K E w hp c4 (adS (hI _) h4 c4)
 | false =>
 cases c5:av pt t with
 | true=>exact Kc hE hB b O t r T K E w hp c5 (UL (hI _) h4 c5)
 | false =>
 cases c6:av lZ t with
 | true=>exact Ew hB hE b O t r T K E w hp c6 (Px (hI _) h4 c6)
 | false =>
 cases c7:av Yx t with
 | true=>exact aaq hE hB b O t r T K E w hp c7 (adT (hI _) h4 c7)
 | false =>
 cases c8:av Dx t with
 | true=>exact Vp GQ (Qx hE hL) hB b O t r T K E w hp c8 (ab1 (hI _) h4 c8)
 | false =>
 cases c9:av bq t with
 | true=>exact zr (Ev En) b O t r T K E w hp c9 (Ei (hI _) h4 c9)
 | false =>
 cases c10:av iT t with
 | true=>exact Kd (Eu hL En) b O t r T K E w hp c10 (UO (hI _) h4 c10)
 | false =>
  have hq:PB t:=⟨c1,c2,c3,c4,c5,c6,c7,c8,c9,c10⟩;have Tn:eu 143 (Xe N):=JJ (Qr A.FQ);exact Ke (Vf hS Tn hL) b O t r T K E w hp hq (UQ (hI _) h4 hq)
theorem all_succ {N:Nat} (A:All N):All (N+1):=by
 have hE:=PC A.exp;have hL:=PD A.exp;have hB:eu 104 (pG N):=GK A.uT;have En:eu 141 (xQ N):=PG qT hB;have JI:eu 212 (zn N):=UW A.Yz;have hTx:pI 183 (acg N):=xY (fun op _ _=>Vo _ (wy op)) (aam _) JI (aal _)
 have hAr:eu 190 (Cv N):=ab6 hTx hL;have hS:pI 142 (sR (N+1) Eg):=(Eo hE hAr).of fun ts n K E hf h=>aci hf h
 have hO:pI 183 (sR (N+1) J1):=(xY (fun op h0 h1=>A.bnd op (by omega) h1) En JI hS).of fun ts n K E hf h=>by
  obtain⟨h1,h2,h3,h4⟩:=h;obtain⟨t,r,rfl⟩:=hf.cons;exact ace (h:=dy 0 0) (k:=0) ⟨h1,h2,by simp only[List.length_nil];omega,⟨hf,h3⟩⟩ h4
 have hBn :∀(l:Int) (s:Nat),0≤l→l+1=(s:Int)→sa 162 l (sR (N+1) (rZ s)):=fun l s h0 hs=>(UZ hO l (fun op h1 h2=>A.bnd op h1 (by omega)) h0).of fun ts n K E hf h=>acf hs h0 hf h
 have hX:pI 131 (sR (N+1) (rZ 1)):=zk (hBn 0 1 (by decide) (by decide))
 have hSt:=Vq A hS;refine⟨hX,fun op h1 h2=>hBn _ _ (GR h1 h2).1 (GR h1 h2).2,?_,hS,(zq hSt hL).of fun s K E hf h=>acj hf h⟩
 rintro b O ts T K E w hp ⟨h1,h2,h3,h4⟩;obtain⟨t,r,rfl⟩:=hp.fin.cons;exact aaf (PC hX) b O t r T K E w hp (Ve (h:=dy 0 0) (k:=0) ⟨h1,h2,by simp only[List.length_nil];omega,⟨hp.fin,h3⟩⟩ h4)
theorem Cw :∀N,All N
 | 0=>all_zero
 | N+1=>all_succ (Cw N)
end Go.Proofs.YtodmcdfeldkocaaGreatDoor
namespace Go.Proofs.YtodmcdfeldkocaaGreatDoor
open Go.RowKit Go.Extern.Stop Go.Stop Go.Extern
theorem aas (t:Value) (w:World) :
  Calls Tryz.prog 20 #[.nilIface,t] w fun e w'=>e=.returned (.bool false)∧w'=w:=by
 go_enter Tryz.func20,Tryz.ntmps20
 go_wp2
 go_ret
 exact⟨rfl,rfl⟩
theorem Tryz.Kf (t:Addr) (w:World):(ReflectliteValue.unpack (.iface 72 (.pointer (some t)))).run Tryz.prog w
 =.ok (.agg #[.pointer (some ⟨4,72,none⟩),.pointer (some ⟨w.heap.size,0,none⟩),.int .u64 150]) (w.alloc (.cells #[.pointer (some t)] 72)):=by kernel_rfl
theorem Tryz.type51 (a:Addr) (w:World):(ReflectliteValue.methodAny (ReflectliteValue.valueError "reflectlite.Value.Type" 0) (fun t _ _ _=>ReflectliteType.toType t) #[.agg #[.pointer (some ⟨4,72,none⟩),.pointer (some a),.int .u64 150]]).run Tryz.prog w
 =.ok (.iface 158 (.agg #[.pointer (some ⟨4,72,none⟩)])) w:=by kernel_rfl
theorem Tryz.vB (h:Value) (w:World):(Go.method 392 158 (.agg #[h]) "Kind").run Tryz.prog w=.ok (233,h) w:=by kernel_rfl
theorem Tryz.aat (w:World):((ReflectliteType.abiMethod fun t=>(fun a:Nat=>Value.int IntKind.u8 (a:Int)) <$> Rtype.kind t) #[.pointer (some ⟨4,72,none⟩)]).run Tryz.prog w=.ok (.int .u8 22) w:=by kernel_rfl
theorem Tryz.aau (w:World):((ReflectliteType.abiMethod fun t=>(fun a:Nat=>Value.int IntKind.u8 (a:Int)) <$> Rtype.kind t) #[.pointer (some ⟨4,59,none⟩)]).run Tryz.prog w=.ok (.int .u8 22) w:=by kernel_rfl
theorem rlm (z:Sem Value) (f:TypeId→Addr→Nat→Nat→Sem Value) (v:Value) :
  ReflectliteValue.method z f #[v]=(do match←ReflectliteValue.parts v with|none=>z|some (t,a,fl)=>f t a fl (fl % 32)):=rfl
theorem Tryz.GS (a:Addr) (w:World):(ReflectliteValue.parts (.agg #[.pointer (some ⟨4,72,none⟩),.pointer (some a),.int .u64 150])).run Tryz.prog w=.ok (some (72,a,150)) w:=by kernel_rfl
theorem Tryz.Vr (a p:Addr) (W:World) (ha:W.cell? a=some (.pointer (some p))) :
  (ReflectliteValue.method (ReflectliteValue.valueError "reflectlite.Value.IsNil" 0) ReflectliteValue.isNil #[.agg #[.pointer (some ⟨4,72,none⟩),.pointer (some a),.int .u64 150]]).run Tryz.prog W=.ok (.bool false) W:=by
 rw[rlm];simp only[Sem.run_bind,Tryz.GS,Result.andThen];simp[ReflectliteValue.isNil,loadVar,isAgg,underlying,Tryz.underlying72,ha,Result.andThen]
theorem Tryz.vC (h:Value) (w:World):(Go.method 392 158 (.agg #[h]) "Elem").run Tryz.prog w=.ok (245,.agg #[h]) w:=by kernel_rfl
theorem Tryz.lE (h:Value) (w:World):(Go.method 392 158 (.agg #[h]) "Implements").run Tryz.prog w=.ok (246,.agg #[h]) w:=by kernel_rfl
theorem Tryz.jT (h:Value) (w:World):(Go.method 392 158 (.agg #[h]) "AssignableTo").run Tryz.prog w=.ok (243,.agg #[h]) w:=by kernel_rfl
theorem Tryz.aav (w:World):(ReflectliteType.method ReflectliteType.elem #[.agg #[.pointer (some ⟨4,72,none⟩)]]).run Tryz.prog w=.ok (.iface 158 (.agg #[.pointer (some ⟨4,59,none⟩)])) w:=by kernel_rfl
theorem Tryz.zt (w:World):(ReflectliteType.relation "Implements" ReflectliteType.implements_ #[.agg #[.pointer (some ⟨4,59,none⟩)],.iface 158 (.agg #[.pointer (some ⟨4,29,none⟩)])]).run Tryz.prog w=.ok (.bool true) w:=by kernel_rfl
theorem Tryz.QE (v:Value) (w:World):(ReflectliteType.typeOf #[.iface 59 v]).run Tryz.prog w=.ok (.iface 158 (.agg #[.pointer (some ⟨4,59,none⟩)])) w:=by kernel_rfl
theorem Tryz.zu (w:World):(ReflectliteType.relation "AssignableTo" ReflectliteType.assignableTo #[.agg #[.pointer (some ⟨4,59,none⟩)],.iface 158 (.agg #[.pointer (some ⟨4,59,none⟩)])]).run Tryz.prog w=.ok (.bool true) w:=by kernel_rfl
theorem Tryz.Kg (e:Addr) (w:World):(ReflectliteValue.unpack (.iface 59 (.pointer (some e)))).run Tryz.prog w
 =.ok (.agg #[.pointer (some ⟨4,59,none⟩),.pointer (some ⟨w.heap.size,0,none⟩),.int .u64 150]) (w.alloc (.cells #[.pointer (some e)] 59)):=by kernel_rfl
theorem Tryz.QF (w:World):(Rtype.elem? 72).run Tryz.prog w=.ok (some 59) w:=by kernel_rfl
theorem Tryz.ad7 (p:Addr) (w:World):(ReflectliteValue.mk 59 p ReflectliteValue.flagAddr).run Tryz.prog w=.ok (.agg #[.pointer (some ⟨4,59,none⟩),.pointer (some p),.int .u64 406]) w:=by kernel_rfl
theorem Tryz.Vs (a p:Addr) (W:World) (ha:W.cell? a=some (.pointer (some p))) :
  (ReflectliteValue.method (ReflectliteValue.valueError "reflectlite.Value.Elem" 0) ReflectliteValue.elem #[.agg #[.pointer (some ⟨4,72,none⟩),.pointer (some a),.int .u64 150]]).run Tryz.prog W
  =.ok (.agg #[.pointer (some ⟨4,59,none⟩),.pointer (some p),.int .u64 406]) W:=by
 rw[rlm];simp only[Sem.run_bind,Tryz.GS,Result.andThen];simp[ReflectliteValue.elem,loadVar,isAgg,underlying,Tryz.underlying72,ha,Result.andThen,Tryz.QF,Tryz.ad7]
theorem rls (v x:Value):ReflectliteValue.set #[v,x]=(do
  let (some (dst,a,fl),some (src,b,_)):=(←ReflectliteValue.parts v,←ReflectliteValue.parts x)
   | unsupported (.noEntry "extern/(internal/reflectlite.Value).Set.zeroValue")
  if fl / ReflectliteValue.flagAddr % 2 == 0 then unsupported (.noEntry "extern/(internal/reflectlite.Value).Set.unaddressable")
  let val←loadVar src b
  if←Rtype.directlyAssignable dst src then storeVar dst a val
  else if←Rtype.implements dst src then
   if (←Rtype.kind src) == 20 then
    match val with
    | .nilIface=>unsupported (.noEntry "extern/reflectlite: a nil value of one interface type handed on as a value of another")
    | _=>storeVar dst a val
   else storeVar dst a (.iface src val)
  else panicString ("reflectlite.Set: value of type " ++ (←Rtype.spelt src) ++ " is not assignable to type " ++ (←Rtype.spelt dst))
  pure (.tuple #[])):=rfl
theorem Tryz.QG (a:Addr) (w:World):(ReflectliteValue.parts (.agg #[.pointer (some ⟨4,59,none⟩),.pointer (some a),.int .u64 406])).run Tryz.prog w=.ok (some (59,a,406)) w:=by kernel_rfl
theorem Tryz.Vt (a:Addr) (w:World):(ReflectliteValue.parts (.agg #[.pointer (some ⟨4,59,none⟩),.pointer (some a),.int .u64 150])).run Tryz.prog w=.ok (some (59,a,150)) w:=by kernel_rfl
theorem Tryz.QH (w:World):(Rtype.directlyAssignable 59 59).run Tryz.prog w=.ok true w:=by kernel_rfl
theorem Tryz.ack (ta b e:Addr) (old:Value) (W:World) (hb:W.cell? b=some (.pointer (some e))) (ht:W.cell? ta=some old) (hf:W.frozen? ta=false) :
  (ReflectliteValue.set #[.agg #[.pointer (some ⟨4,59,none⟩),.pointer (some ta),.int .u64 406],.agg #[.pointer (some ⟨4,59,none⟩),.pointer (some b),.int .u64 150]]).run Tryz.prog W
  =.ok (.tuple #[]) (W.setCell ta (.pointer (some e))):=by
 rw[rls];simp only[Sem.run_bind,Tryz.QG,Tryz.Vt,Result.andThen];simp[ReflectliteValue.flagAddr,loadVar,isAgg,underlying,Tryz.underlying59,hb,Result.andThen,Tryz.QH,storeVar,Value.cells,storeCells,Addr.add];rw[run_store Tryz.prog W ta _ _ (by rfl)]
 simp[ht,hf]
theorem aaw (e t:Addr) (old:Value) (w:World) (hg:w.cell? ⟨0,0,none⟩=some (.iface 158 (.agg #[.pointer (some ⟨4,29,none⟩)]))) (Vk:w.cell? t=some old) (Si:w.frozen? t=false) :
  Calls Tryz.prog 20 #[.iface 59 (.pointer (some e)),.iface 72 (.pointer (some t))] w fun ev w'=>ev=.returned (.bool true)∧w'=((((w.alloc (.cells #[.pointer (some t)] 72)).alloc (.cells #[.pointer (some ⟨4,72,none⟩),.pointer (some ⟨w.heap.size,0,none⟩),.int .u64 150] 99)).alloc (.cells #[.pointer (some ⟨4,72,none⟩),.pointer (some ⟨w.heap.size,0,none⟩),.int .u64 150] 99)).alloc (.cells #[.pointer (some e)] 59)).setCell t (.pointer (some e)):=by
 have h6:=@run_callFunc_extern Tryz.prog 40 _ (fun args=>ReflectliteValue.unpack (args.getD 0 (.tuple #[]))) Tryz.func40 (by kernel_rfl) (by kernel_rfl) (by kernel_rfl) (by kernel_rfl)
 have h7:=@run_callFunc_extern Tryz.prog 41 _ (ReflectliteValue.methodAny (ReflectliteValue.valueError "reflectlite.Value.Type" 0) (fun t _ _ _=>ReflectliteType.toType t)) Tryz.func41 (by kernel_rfl) (by kernel_rfl) (by kernel_rfl) (by kernel_rfl)
 have h8:=@run_callFunc_extern Tryz.prog 42 _ (ReflectliteValue.method (ReflectliteValue.valueError "reflectlite.Value.IsNil" 0) ReflectliteValue.isNil) Tryz.func42 (by kernel_rfl) (by kernel_rfl) (by kernel_rfl) (by kernel_rfl)
 have h27:=@run_callFunc_extern Tryz.prog 233 _ (ReflectliteType.abiMethod fun t=>do pure (.int .u8 (←Rtype.kind t))) Tryz.func233 (by kernel_rfl) (by kernel_rfl) (by kernel_rfl) (by kernel_rfl)
 have h37:=@run_callFunc_extern Tryz.prog 245 _ (ReflectliteType.method ReflectliteType.elem) Tryz.func245 (by kernel_rfl) (by kernel_rfl) (by kernel_rfl) (by kernel_rfl)
 have h38:=@run_callFunc_extern Tryz.prog 246 _ (ReflectliteType.relation "Implements" ReflectliteType.implements_) Tryz.func246 (by kernel_rfl) (by kernel_rfl) (by kernel_rfl) (by kernel_rfl)
 have h10:=@run_callFunc_extern Tryz.prog 44 _ ReflectliteType.typeOf Tryz.func44 (by kernel_rfl) (by kernel_rfl) (by kernel_rfl) (by kernel_rfl)
 have h35:=@run_callFunc_extern Tryz.prog 243 _ (ReflectliteType.relation "AssignableTo" ReflectliteType.assignableTo) Tryz.func243 (by kernel_rfl) (by kernel_rfl) (by kernel_rfl) (by kernel_rfl)
 have h11:=@run_callFunc_extern Tryz.prog 79 _ (ReflectliteValue.method (ReflectliteValue.valueError "reflectlite.Value.Elem" 0) ReflectliteValue.elem) Tryz.func79 (by kernel_rfl) (by kernel_rfl) (by kernel_rfl) (by kernel_rfl)
 have h12:=@run_callFunc_extern Tryz.prog 80 _ ReflectliteValue.set Tryz.func80 (by kernel_rfl) (by kernel_rfl) (by kernel_rfl) (by kernel_rfl)
 have tO:=Tryz.QE;have mA:=Tryz.jT;have a25:=Tryz.zu;have v25:=Tryz.Kg;have f6:=Tryz.Kf;have f7:=Tryz.type51;have mK:=Tryz.vB;have mE:=Tryz.vC;have mI:=Tryz.lE;have k27:=Tryz.aat;have k25:=Tryz.aau;have e27:=Tryz.aav;have i25:=Tryz.zt;have n8:=Tryz.Vr ⟨w.heap.size,0,none⟩ t ((w.alloc (.cells #[.pointer (some t)] 72)).alloc (.cells #[.pointer (some ⟨4,72,none⟩),.pointer (some ⟨w.heap.size,0,none⟩),.int .u64 150] 99)) (by simp)
 have hlt:0<w.heap.size:=by
  rcases su w.heap.size with h0|h
  ·simp[World.cell?,h0] at hg
  ·exact h
 have hg2:((w.alloc (.cells #[.pointer (some t)] 72)).alloc (.cells #[.pointer (some ⟨4,72,none⟩),.pointer (some ⟨w.heap.size,0,none⟩),.int .u64 150] 99)).cell? ⟨0,0,none⟩=some (.iface 158 (.agg #[.pointer (some ⟨4,29,none⟩)])):=by
  rw[World.cell?_alloc_lt _ _ ⟨0,0,none⟩ (by simp),World.cell?_alloc_lt _ _ ⟨0,0,none⟩ hlt];exact hg
 have DM:t.block<w.heap.size:=by
  rcases E3 t.block w.heap.size with h|h
  ·exact h
  ·simp[World.cell?,Array.getElem?_eq_none h] at Vk
 have el:=Tryz.Vs ⟨w.heap.size,0,none⟩ t (((w.alloc (.cells #[.pointer (some t)] 72)).alloc (.cells #[.pointer (some ⟨4,72,none⟩),.pointer (some ⟨w.heap.size,0,none⟩),.int .u64 150] 99)).alloc (.cells #[.pointer (some ⟨4,72,none⟩),.pointer (some ⟨w.heap.size,0,none⟩),.int .u64 150] 99)) (by rw[World.cell?_alloc_lt _ _ ⟨w.heap.size,0,none⟩ (by simp;omega)];simp)
 have st:=Tryz.ack t ⟨w.heap.size+1+1+1,0,none⟩ e old ((((w.alloc (.cells #[.pointer (some t)] 72)).alloc (.cells #[.pointer (some ⟨4,72,none⟩),.pointer (some ⟨w.heap.size,0,none⟩),.int .u64 150] 99)).alloc (.cells #[.pointer (some ⟨4,72,none⟩),.pointer (some ⟨w.heap.size,0,none⟩),.int .u64 150] 99)).alloc (.cells #[.pointer (some e)] 59))
  (by rw[World.cell?_alloc_at _ _ _ _ (by simp)];rfl)
  (by rw[World.cell?_alloc_lt _ _ t (by simp;omega),World.cell?_alloc_lt _ _ t (by simp;omega),World.cell?_alloc_lt _ _ t (by simp;omega),World.cell?_alloc_lt _ _ t DM];exact Vk)
  (by rw[World.frozen?_alloc_old _ _ t (by simp;omega),World.frozen?_alloc_old _ _ t (by simp;omega),World.frozen?_alloc_old _ _ t (by simp;omega),World.frozen?_alloc_old _ _ t (jC DM)];exact Si)
 go_enter Tryz.func20,Tryz.ntmps20
 go_wp2
 refine wp_loop_rounds 1 ?_;rw[rounds_succ];go_wp2
 go_ret
 exact⟨rfl,rfl⟩
theorem Tryz.Ex (t:Addr) (w:World):(ReflectliteValue.unpack (.iface 83 (.pointer (some t)))).run Tryz.prog w
 =.ok (.agg #[.pointer (some ⟨4,83,none⟩),.pointer (some ⟨w.heap.size,0,none⟩),.int .u64 150]) (w.alloc (.cells #[.pointer (some t)] 83)):=by kernel_rfl
theorem Tryz.Vu (a:Addr) (w:World):(ReflectliteValue.methodAny (ReflectliteValue.valueError "reflectlite.Value.Type" 0) (fun t _ _ _=>ReflectliteType.toType t) #[.agg #[.pointer (some ⟨4,83,none⟩),.pointer (some a),.int .u64 150]]).run Tryz.prog w
 =.ok (.iface 158 (.agg #[.pointer (some ⟨4,83,none⟩)])) w:=by kernel_rfl
theorem Tryz.Vv (w:World):((ReflectliteType.abiMethod fun t=>(fun a:Nat=>Value.int IntKind.u8 (a:Int)) <$> Rtype.kind t) #[.pointer (some ⟨4,83,none⟩)]).run Tryz.prog w=.ok (.int .u8 22) w:=by kernel_rfl
theorem Tryz.Vw (w:World):((ReflectliteType.abiMethod fun t=>(fun a:Nat=>Value.int IntKind.u8 (a:Int)) <$> Rtype.kind t) #[.pointer (some ⟨4,82,none⟩)]).run Tryz.prog w=.ok (.int .u8 22) w:=by kernel_rfl
theorem Tryz.Cy (a:Addr) (w:World):(ReflectliteValue.parts (.agg #[.pointer (some ⟨4,83,none⟩),.pointer (some a),.int .u64 150])).run Tryz.prog w=.ok (some (83,a,150)) w:=by kernel_rfl
theorem Tryz.QI (a p:Addr) (W:World) (ha:W.cell? a=some (.pointer (some p))) :
  (ReflectliteValue.method (ReflectliteValue.valueError "reflectlite.Value.IsNil" 0) ReflectliteValue.isNil #[.agg #[.pointer (some ⟨4,83,none⟩),.pointer (some a),.int .u64 150]]).run Tryz.prog W=.ok (.bool false) W:=by
 rw[rlm];simp only[Sem.run_bind,Tryz.Cy,Result.andThen];simp[ReflectliteValue.isNil,loadVar,isAgg,underlying,Tryz.underlying83,ha,Result.andThen]
theorem Tryz.Vx (w:World):(ReflectliteType.method ReflectliteType.elem #[.agg #[.pointer (some ⟨4,83,none⟩)]]).run Tryz.prog w=.ok (.iface 158 (.agg #[.pointer (some ⟨4,82,none⟩)])) w:=by kernel_rfl
theorem Tryz.wA (w:World):(ReflectliteType.relation "Implements" ReflectliteType.implements_ #[.agg #[.pointer (some ⟨4,82,none⟩)],.iface 158 (.agg #[.pointer (some ⟨4,29,none⟩)])]).run Tryz.prog w=.ok (.bool true) w:=by kernel_rfl
theorem Tryz.Kh (v:Value) (w:World):(ReflectliteType.typeOf #[.iface 82 v]).run Tryz.prog w=.ok (.iface 158 (.agg #[.pointer (some ⟨4,82,none⟩)])) w:=by kernel_rfl
theorem Tryz.wB (w:World):(ReflectliteType.relation "AssignableTo" ReflectliteType.assignableTo #[.agg #[.pointer (some ⟨4,82,none⟩)],.iface 158 (.agg #[.pointer (some ⟨4,82,none⟩)])]).run Tryz.prog w=.ok (.bool true) w:=by kernel_rfl
theorem Tryz.Ey (e:Addr) (w:World):(ReflectliteValue.unpack (.iface 82 (.pointer (some e)))).run Tryz.prog w
 =.ok (.agg #[.pointer (some ⟨4,82,none⟩),.pointer (some ⟨w.heap.size,0,none⟩),.int .u64 150]) (w.alloc (.cells #[.pointer (some e)] 82)):=by kernel_rfl
theorem Tryz.Ki (w:World):(Rtype.elem? 83).run Tryz.prog w=.ok (some 82) w:=by kernel_rfl
theorem Tryz.acm (p:Addr) (w:World):(ReflectliteValue.mk 82 p ReflectliteValue.flagAddr).run Tryz.prog w=.ok (.agg #[.pointer (some ⟨4,82,none⟩),.pointer (some p),.int .u64 406]) w:=by kernel_rfl
theorem Tryz.QJ (a p:Addr) (W:World) (ha:W.cell? a=some (.pointer (some p))) :
  (ReflectliteValue.method (ReflectliteValue.valueError "reflectlite.Value.Elem" 0) ReflectliteValue.elem #[.agg #[.pointer (some ⟨4,83,none⟩),.pointer (some a),.int .u64 150]]).run Tryz.prog W
  =.ok (.agg #[.pointer (some ⟨4,82,none⟩),.pointer (some p),.int .u64 406]) W:=by
 rw[rlm];simp only[Sem.run_bind,Tryz.Cy,Result.andThen];simp[ReflectliteValue.elem,loadVar,isAgg,underlying,Tryz.underlying83,ha,Result.andThen,Tryz.Ki,Tryz.acm]
theorem Tryz.Kj (a:Addr) (w:World):(ReflectliteValue.parts (.agg #[.pointer (some ⟨4,82,none⟩),.pointer (some a),.int .u64 406])).run Tryz.prog w=.ok (some (82,a,406)) w:=by kernel_rfl
theorem Tryz.QK (a:Addr) (w:World):(ReflectliteValue.parts (.agg #[.pointer (some ⟨4,82,none⟩),.pointer (some a),.int .u64 150])).run Tryz.prog w=.ok (some (82,a,150)) w:=by kernel_rfl
theorem Tryz.Kk (w:World):(Rtype.directlyAssignable 82 82).run Tryz.prog w=.ok true w:=by kernel_rfl
theorem Tryz.aax (ta b e:Addr) (old:Value) (W:World) (hb:W.cell? b=some (.pointer (some e))) (ht:W.cell? ta=some old) (hf:W.frozen? ta=false) :
  (ReflectliteValue.set #[.agg #[.pointer (some ⟨4,82,none⟩),.pointer (some ta),.int .u64 406],.agg #[.pointer (some ⟨4,82,none⟩),.pointer (some b),.int .u64 150]]).run Tryz.prog W
  =.ok (.tuple #[]) (W.setCell ta (.pointer (some e))):=by
 rw[rls];simp only[Sem.run_bind,Tryz.Kj,Tryz.QK,Result.andThen];simp[ReflectliteValue.flagAddr,loadVar,isAgg,underlying,Tryz.underlying82,hb,Result.andThen,Tryz.Kk,storeVar,Value.cells,storeCells,Addr.add];rw[run_store Tryz.prog W ta _ _ (by rfl)]
 simp[ht,hf]
theorem Vy (e t:Addr) (old:Value) (w:World) (hg:w.cell? ⟨0,0,none⟩=some (.iface 158 (.agg #[.pointer (some ⟨4,29,none⟩)]))) (Vk:w.cell? t=some old) (Si:w.frozen? t=false) :
  Calls Tryz.prog 20 #[.iface 82 (.pointer (some e)),.iface 83 (.pointer (some t))] w fun ev w'=>ev=.returned (.bool true)∧w'=((((w.alloc (.cells #[.pointer (some t)] 83)).alloc (.cells #[.pointer (some ⟨4,83,none⟩),.pointer (some ⟨w.heap.size,0,none⟩),.int .u64 150] 99)).alloc (.cells #[.pointer (some ⟨4,83,none⟩),.pointer (some ⟨w.heap.size,0,none⟩),.int .u64 150] 99)).alloc (.cells #[.pointer (some e)] 82)).setCell t (.pointer (some e)):=by
 have h6:=@run_callFunc_extern Tryz.prog 40 _ (fun args=>ReflectliteValue.unpack (args.getD 0 (.tuple #[]))) Tryz.func40 (by kernel_rfl) (by kernel_rfl) (by kernel_rfl) (by kernel_rfl)
 have h7:=@run_callFunc_extern Tryz.prog 41 _ (ReflectliteValue.methodAny (ReflectliteValue.valueError "reflectlite.Value.Type" 0) (fun t _ _ _=>ReflectliteType.toType t)) Tryz.func41 (by kernel_rfl) (by kernel_rfl) (by kernel_rfl) (by kernel_rfl)
 have h8:=@run_callFunc_extern Tryz.prog 42 _ (ReflectliteValue.method (ReflectliteValue.valueError "reflectlite.Value.IsNil" 0) ReflectliteValue.isNil) Tryz.func42 (by kernel_rfl) (by kernel_rfl) (by kernel_rfl) (by kernel_rfl)
 have h27:=@run_callFunc_extern Tryz.prog 233 _ (ReflectliteType.abiMethod fun t=>do pure (.int .u8 (←Rtype.kind t))) Tryz.func233 (by kernel_rfl) (by kernel_rfl) (by kernel_rfl) (by kernel_rfl)
 have h37:=@run_callFunc_extern Tryz.prog 245 _ (ReflectliteType.method ReflectliteType.elem) Tryz.func245 (by kernel_rfl) (by kernel_rfl) (by kernel_rfl) (by kernel_rfl)
 have h38:=@run_callFunc_extern Tryz.prog 246 _ (ReflectliteType.relation "Implements" ReflectliteType.implements_) Tryz.func246 (by kernel_rfl) (by kernel_rfl) (by kernel_rfl) (by kernel_rfl)
 have h10:=@run_callFunc_extern Tryz.prog 44 _ ReflectliteType.typeOf Tryz.func44 (by kernel_rfl) (by kernel_rfl) (by kernel_rfl) (by kernel_rfl)
 have h35:=@run_callFunc_extern Tryz.prog 243 _ (ReflectliteType.relation "AssignableTo" ReflectliteType.assignableTo) Tryz.func243 (by kernel_rfl) (by kernel_rfl) (by kernel_rfl) (by kernel_rfl)
 have h11:=@run_callFunc_extern Tryz.prog 79 _ (ReflectliteValue.method (ReflectliteValue.valueError "reflectlite.Value.Elem" 0) ReflectliteValue.elem) Tryz.func79 (by kernel_rfl) (by kernel_rfl) (by kernel_rfl) (by kernel_rfl)
 have h12:=@run_callFunc_extern Tryz.prog 80 _ ReflectliteValue.set Tryz.func80 (by kernel_rfl) (by kernel_rfl) (by kernel_rfl) (by kernel_rfl)
 have tO:=Tryz.Kh;have mA:=Tryz.jT;have a25:=Tryz.wB;have v25:=Tryz.Ey;have f6:=Tryz.Ex;have f7:=Tryz.Vu;have mK:=Tryz.vB;have mE:=Tryz.vC;have mI:=Tryz.lE;have k27:=Tryz.Vv;have k25:=Tryz.Vw;have e27:=Tryz.Vx;have i25:=Tryz.wA;have n8:=Tryz.QI ⟨w.heap.size,0,none⟩ t ((w.alloc (.cells #[.pointer (some t)] 83)).alloc (.cells #[.pointer (some ⟨4,83,none⟩),.pointer (some ⟨w.heap.size,0,none⟩),.int .u64 150] 99)) (by simp)
 have hlt:0<w.heap.size:=by
  rcases su w.heap.size with h0|h
  ·simp[World.cell?,h0] at hg
  ·exact h
 have hg2:((w.alloc (.cells #[.pointer (some t)] 83)).alloc (.cells #[.pointer (some ⟨4,83,none⟩),.pointer (some ⟨w.heap.size,0,none⟩),.int .u64 150] 99)).cell? ⟨0,0,none⟩=some (.iface 158 (.agg #[.pointer (some ⟨4,29,none⟩)])):=by
  rw[World.cell?_alloc_lt _ _ ⟨0,0,none⟩ (by simp),World.cell?_alloc_lt _ _ ⟨0,0,none⟩ hlt];exact hg
 have DM:t.block<w.heap.size:=by
  rcases E3 t.block w.heap.size with h|h
  ·exact h
  ·simp[World.cell?,Array.getElem?_eq_none h] at Vk
 have el:=Tryz.QJ ⟨w.heap.size,0,none⟩ t (((w.alloc (.cells #[.pointer (some t)] 83)).alloc (.cells #[.pointer (some ⟨4,83,none⟩),.pointer (some ⟨w.heap.size,0,none⟩),.int .u64 150] 99)).alloc (.cells #[.pointer (some ⟨4,83,none⟩),.pointer (some ⟨w.heap.size,0,none⟩),.int .u64 150] 99)) (by rw[World.cell?_alloc_lt _ _ ⟨w.heap.size,0,none⟩ (by simp;omega)];simp)
 have st:=Tryz.aax t ⟨w.heap.size+1+1+1,0,none⟩ e old ((((w.alloc (.cells #[.pointer (some t)] 83)).alloc (.cells #[.pointer (some ⟨4,83,none⟩),.pointer (some ⟨w.heap.size,0,none⟩),.int .u64 150] 99)).alloc (.cells #[.pointer (some ⟨4,83,none⟩),.pointer (some ⟨w.heap.size,0,none⟩),.int .u64 150] 99)).alloc (.cells #[.pointer (some e)] 82))
  (by rw[World.cell?_alloc_at _ _ _ _ (by simp)];rfl)
  (by rw[World.cell?_alloc_lt _ _ t (by simp;omega),World.cell?_alloc_lt _ _ t (by simp;omega),World.cell?_alloc_lt _ _ t (by simp;omega),World.cell?_alloc_lt _ _ t DM];exact Vk)
  (by rw[World.frozen?_alloc_old _ _ t (by simp;omega),World.frozen?_alloc_old _ _ t (by simp;omega),World.frozen?_alloc_old _ _ t (by simp;omega),World.frozen?_alloc_old _ _ t (jC DM)];exact Si)
 go_enter Tryz.func20,Tryz.ntmps20
 go_wp2
 refine wp_loop_rounds 1 ?_;rw[rounds_succ];go_wp2
 go_ret
 exact⟨rfl,rfl⟩
end Go.Proofs.YtodmcdfeldkocaaGreatDoor
namespace Go.Proofs.YtodmcdfeldkocaaGreatDoor
theorem xZ {r l:List UInt8} (h:r <:+ l):nl r≤nl l:=h.sublist.count_le 10
theorem Ez (l sep:List UInt8) (h:(Lib.cut l sep).2.2=true):(Lib.cut l sep).2.1 <:+ l:=by
 unfold Lib.cut at h ⊢;split
 ·exact tY _ _
 ·rename_i h0
  rw[ab h0] at h;cases h
theorem vD {l t r:List UInt8} (h:KN l=some (t,r)):r <:+ l:=by
 unfold KN at h;split at h
 ·rename_i hc
  injection h with h;injection h with _ h;rw[←h];exact(Ez _ _ hc).trans (tY _ _)
 ·cases h
theorem Cz {l r:List UInt8} (h:comm l=some r):r <:+ l:=by
 unfold comm at h;split at h
 ·cases e:KN l with
  | none=>rw[e] at h;cases h
  | some z =>
   obtain⟨t,r'⟩:=z;rw[e] at h;simp only[pV,pU] at h;rw[←h];exact vD e
 ·injection h with h
  rw[←h];exact tY _ _
theorem nH.suffix {l:List UInt8} {q:Except (List UInt8) (List UInt8)} (h:nH l q) :∀{r},q=.ok r→r <:+ l:=by
 induction h with
 | done h1 h2=>intro r e;cases e;rw[←h1];exact zN _
 | @more l r1 r' o h1 h2 h3 ih =>
  intro r e;have a:=ih e;have b:=Cz h2;have c:(45::45::r1) <:+ l:=by rw[←h1];exact zN _
  exact a.trans (b.trans (((tZ 45 r1).trans (tZ 45 _)).trans c))
 | bad=>intro r e;cases e
theorem sT {b:Int} {p:UInt8→Bool} {least most:Nat} {l m r:List UInt8} (h:code b p least most l=some (m,r)):r <:+ l:=by
 unfold code at h;split at h
 ·injection h with h
  injection h with _ h;rw[←h];exact tY _ _
 ·cases h
theorem EA {l m r:List UInt8} (h:pQ l=some (m,r)):r <:+ l:=by
 cases l with
 | nil=>cases h
 | cons c t =>
  have h:pC c t=some (m,r):=h;have ht:=tZ c t;cases e:wk c with
  | some y =>
   rw[gr _ e] at h;injection h with h;injection h with _ h;rw[←h];exact ht
  | none =>
   cases e1:qI c
   ·by_cases e2:c.toNat=122
    ·rw[Oj _ e e1 e2] at h
     injection h with h;injection h with _ h;rw[←h];exact(zN _).trans ht
    ·by_cases e3:c.toNat=120
     ·rw[Ok _ e e1 e3] at h
      exact(sT h).trans ht
     ·cases e4:gB c
      ·rw[Gi _ e e1 e2 e3 e4] at h
       cases h
      ·rw[Ol _ e e1 e2 e3 e4] at h
       exact sT h
   ·rw[lx _ e e1] at h
    injection h with h;injection h with _ h;rw[←h];exact ht
theorem yV.suffix {q:UInt8} {l:List UInt8} {o:Option (List UInt8×List UInt8)} (h:yV q l o) :∀{t r},o=some (t,r)→r <:+ l:=by
 induction h with
 | shut=>intro t r e;cases e;exact tZ _ _
 | none=>intro t r e;cases e
 | line=>intro t r e;cases e
 | @pQ r1 m r' o' h1 h2 h3 ih =>
  intro t r e;cases o' with
  | none=>cases e
  | some z =>
   obtain⟨t',r''⟩:=z;simp only[pV,pU,sx] at e;rw[←e.2];exact((ih rfl).trans (EA h2)).trans (tZ _ _)
 | bad=>intro t r e;cases e
 | @byte c r1 o' h1 h2 h3 h4 ih =>
  intro t r e;cases o' with
  | none=>cases e
  | some z =>
   obtain⟨t',r''⟩:=z;simp only[pV,pU,sx] at e;rw[←e.2];exact(ih rfl).trans (tZ _ _)
theorem Tok.suffix {l:List UInt8} {k n:Int} {s r:List UInt8} (h:Tok l (some (k,n,s,r))):r <:+ l:=by
 generalize ho:some (k,n,s,r)=o at h;cases h with
 | eof=>simp only[pU,sx] at ho;rw[ho.2.2.2];exact List.suffix_refl _
 | name=>simp only[pU,sx] at ho;rw[ho.2.2.2];exact zN _
 | num=>simp only[pU,sx] at ho;rw[ho.2.2.2];exact zN _
 | DX=>cases ho
 | @text c t o' h1 h2 h3 h4 =>
  cases o' with
  | none=>cases ho
  | some z =>
   obtain⟨a,b⟩:=z;simp only[pV,pU,sx] at ho;rw[ho.2.2.2];exact(h4.suffix rfl).trans (tZ _ _)
 | @long c t h1 h2 h3 h4 =>
  cases e:KN (c::t) with
  | none=>rw[e] at ho;cases ho
  | some z =>
   obtain⟨a,b⟩:=z;rw[e] at ho;simp only[pV,pU,sx] at ho;rw[ho.2.2.2];exact vD e
 | @sign c t h1 h2 h3 h4 =>
  cases e:Go.Proofs.YtodmcdfeldkocaaGreatDoor.sign (c::t) with
  | none=>rw[e] at ho;cases ho
  | some z =>
   obtain⟨a,b⟩:=z;rw[e] at ho;simp only[pV,pU,sx] at ho;rw[ho.2.2.2];unfold Go.Proofs.YtodmcdfeldkocaaGreatDoor.sign at e;split at e
   ·injection e with e;injection e with _ e;rw[←e];exact tY _ _
   ·split at e
    ·injection e with e;injection e with _ e;rw[←e];exact tY _ _
    ·split at e
     ·injection e with e;injection e with _ e;rw[←e];exact tY _ _
     ·cases e
open Go.RowKit
theorem GU (n k:Int) (w:World):Calls Tryz.prog 26 #[.int .i64 n,.int .i64 k] w fun e w'=>e=.returned (.iface 59 (.pointer (some ⟨w.heap.size,0,none⟩)))∧w'=w.alloc (.cells #[.int .i64 n,.iface 60 (.int .i64 k)] 62):=by
 go_enter Tryz.func26,Tryz.ntmps26
 go_wp2
 go_ret
 exact⟨rfl,rfl⟩
def Vz (W:World) (v:Value) (n k:Int):Prop:=∃g,v=.iface 59 (.pointer (some ⟨g,0,none⟩))∧W.heap[g]? = some (.cells #[.int .i64 n,.iface 60 (.int .i64 k)] 62 (0,0))
theorem aay {K:Ast→List ak→Prop} {E:Int→Prop} {N:Nat} {t:ak} {r:List ak} (hl:(t::r).length<N) (h2:(t::r).length≤20000) (hw:Wf (t::r)) (H:Gw uU (t::r) K E):aJ [Pt N,Pg] ⟨dy 18 t.2.1,[],t::r,0⟩ (bT K) E:=by
 refine⟨hl,by dsimp only;omega,by simp only[List.length_nil];omega,hw.zF,?_⟩
 refine(Gw.call (Gw.look (Gw.call H))).mono fun(l:List Ast) aA p hq n' hn'=>?_
 have hz:Ast.al l+2*aA.length≤Ast.al []+2*(t::r).length:=hq.1;have pg:=hq.2.ret.2;obtain⟨u,us,rfl⟩:=(PL.wf (n:=.uT []) p hw).fin.cons;have G:=Gw.look pg;dsimp only at hn'
 rw[cA] at hz hn';exact⟨u,us,rfl,fun h0=>⟨by dsimp only;omega,(G.pos h0).ret⟩,fun h0=>(G.neg h0).bad⟩
theorem aaz {w:World} {g c:Nat} {ts:List ak} (h:vk w (.slice (some ⟨g,0,none⟩) ts.length c) ts) (hf:Fin ts) (hl:ts.length≤20000) (hg:g<w.heap.size):PS (w.alloc (.cells #[.slice (some ⟨g,0,none⟩) ts.length c,.int .i64 0,.slice none 0 0] 78)) w.heap.size (· = w.heap.size) ts [] :=
 ⟨⟨ts,0,g,c,.slice none 0 0,[],World.alloc_heap_new w _,h.below (aW w _),hg,rfl,hl,⟨World.ownsRow_nil _ _ _ _,fun k hk=>by simp[Value.ownBlock] at hk,fun t ht=>by simp at ht⟩,rfl⟩,hf,rfl,fun k hk=>by subst hk;simp⟩
theorem QL {W:World} {B:Nat} {v:Value} {zs:List Int} (h:W.ownsRow B 3 1 v zs.length (zs.map (Value.int .i64))):cQ W v zs:=by
 obtain⟨A,c,rfl,hc⟩:=bC h;refine⟨A,c,rfl,hc,?_⟩;rcases su zs.length with h0|h0
 ·exact .inl (oG h0)
 ·obtain⟨g,c2,e1,h1,h2⟩:=h.form h0
  injection e1 with e1 _ _;subst e1;refine .inr ⟨g,0,rfl,h2,fun j z hj=>?_⟩
  have:=h.cells (g:=g) rfl j (.int .i64 z) (by rw[eO,hj];rfl)
  rwa[tR,←gi j] at this
theorem QM {W:World} {B:Nat} {v:Value} {zs:List ByteArray} (h:W.ownsRow B 9 1 v zs.length (zs.map Value.string)):sB W v zs:=by
 obtain⟨A,c,rfl,hc⟩:=bC h;refine⟨A,c,rfl,hc,?_⟩;rcases su zs.length with h0|h0
 ·exact .inl (oG h0)
 ·obtain⟨g,c2,e1,h1,h2⟩:=h.form h0
  injection e1 with e1 _ _;subst e1;refine .inr ⟨g,0,rfl,h2,fun j z hj=>?_⟩
  have:=h.cells (g:=g) rfl j (.string z) (by rw[eO,hj];rfl)
  rwa[tR,←gi j] at this
theorem CA :∀(L:List KS) (p j:Nat) (t:KS),L[p]? = some t→j<7→(L.flatMap aP)[p*7+j]? = (aP t)[j]?
 | [],p,j,t,h,_=>by simp at h
 | u::L,0,j,t,h,hj=>by
  obtain rfl:u=t:=by simpa using h
  rw[ja,zX,gi,kI (by rw[fj];exact hj)]
 | u::L,p+1,j,t,h,hj=>by
  have:=CA L p j t (by simpa using h) hj
  rw[ja,zI (by rw[fj];omega),fj,show(p+1)*7+j-7=p*7+j by omega]
  exact this
theorem Ui.nodes {W:World} {b:Nat} {O:Nat→Prop} {v:Value} {L:List KS} (a6:Ui W b O v L) {T:List Nd} (a7:L.map (·.1)=T):fw W v T:=by
 have hL:L.length=T.length:=by rw[←a7,bU]
 obtain⟨A,c,e,hc⟩:=bC a6.row;subst e;rw[hL] at hc;refine⟨A,c,by rw[hL],hc,?_⟩
 rcases su L.length with h0|h0
 ·exact .inl (oG (by omega))
 ·obtain⟨g,c2,e1,h1,h2⟩:=a6.row.form h0
  injection e1 with e1 _ _;subst e1;refine .inr ⟨g,0,rfl,h2,fun j x hj=>?_⟩
  have hLj :∃t,L[j]? = some t∧t.1=x:=by
   rw[←a7,eO] at hj;cases hq:L[j]? with
   | none=>rw[hq] at hj;simp at hj
   | some t=>rw[hq] at hj;exact⟨t,rfl,by simpa using hj⟩
  obtain⟨t,ht,rfl⟩:=hLj;have hcell :∀k,k<7→W.cell? ⟨g,0+j*7+k,none⟩=(aP t)[k]?:=fun k hk=>by
   have hq:=CA L j k t ht hk;have Fa:k<(aP t).length:=by rw[fj];exact hk
   rw[bG Fa] at hq ⊢;have:=a6.row.cells (g:=g) rfl (j*7+k) _ hq;rw[tR] at this;rw[gi];exact this
  have hn:=a6.each t (aX ht);exact⟨t.2.1,t.2.2,⟨hcell 0 (by omega),hcell 1 (by omega),hcell 2 (by omega),hcell 3 (by omega),hcell 4 (by omega),hcell 5 (by omega),hcell 6 (by omega)⟩,QM hn.names,QL hn.kids⟩
theorem PS.nodes {W:World} {b:Nat} {O:Nat→Prop} {ts:List ak} {T:List Nd} (h:PS W b O ts T) :∃A c,W.cell? ⟨b,2,none⟩=some (.slice A T.length c)∧∀(W':World) (O1:Nat→Prop),ax O1 W W'→(∀k,O k→¬ O1 k)→fw W' (.slice A T.length c) T:=by
 obtain⟨TS,i,g0,c0,nv,L,a1,a2,a3,a4,a5,a6,a7⟩:=h.ex;have hL:L.length=T.length:=by rw[←a7,bU]
 obtain⟨A,c,e,hc⟩:=bC a6.row;subst e;refine⟨A,c,by rw[←hL];simp[World.cell?,a1],fun W' O1 hf hd=>?_⟩
 have hb :∀k,O k→W'.heap[k]? = W.heap[k]?:=fun k hk=>hf.block k (h.own k hk).2 (hd k hk)
 have a8:Ui W' b O (.slice A L.length c) L:=⟨dk a6.row fun k hk=>hb k (a6.own k hk),a6.own,fun t ht=>(a6.each t ht).kept hf hd (fun _ h=>h)⟩
 rw[←hL];exact a8.nodes a7
theorem QN {r:List UInt8} {q:Option (Int×Int×List UInt8×List UInt8)} (h:Tok r q) :∀{k n:Int} {s r':List UInt8},q=some (k,n,s,r')→r≠[]→1≤k∧(k=2→s≠[61]):=by
 have mp :∀{o:Option (List UInt8×List UInt8)} {m k n:Int} {s r':List UInt8},o.map (fun x=>(m,(0:Int),x.1,x.2))=some (k,n,s,r')→k=m:=fun{o m k n s r'} e=>by
  cases o with
  | none=>simp at e
  | some x=>simp at e;exact e.1.symm
 cases h with
 | eof=>intro k n s r' _ hr;exact absurd rfl hr
 | @name c r hc =>
  intro k n s r' e _;injection e with e;injection e with e1 e;injection e with _ e;injection e with e3 _;refine⟨by rw[←e1];split<;>decide,fun _ h=>?_⟩
  rw[h] at e3;have hn:nC c=true:=by unfold nC;rw[hc];rfl
  rw[List.takeWhile_cons,ai hn] at e3;injection e3 with e4 _;rw[e4] at hc;exact absurd hc (by decide)
 | num h1 h2 h3 =>
  intro k n s r' e _;injection e with e;injection e with e1 e;rw[←e1];exact⟨by decide,fun h=>absurd h (by decide)⟩
 | DX h1 h2 h3=>intro k n s r' e _;cases e
 | text h1 h2 h3 h4=>intro k n s r' e _;rw[mp e];exact⟨by decide,fun h=>absurd h (by decide)⟩
 | long h1 h2 h3 h4=>intro k n s r' e _;rw[mp e];exact⟨by decide,fun h=>absurd h (by decide)⟩
 | sign h1 h2 h3 h4=>intro k n s r' e _;rw[mp e];exact⟨by decide,fun h=>absurd h (by decide)⟩
theorem lex_wf {L:Int} {l:List UInt8} {o:Except Int (List Tk)} (h:l9 L l o):(nl l:Int)<L→∀ts,o=.ok ts→Wf ts:=by
 induction h with
 | ma=>intro _ ts e;cases e
 | pD=>intro _ ts e;cases e
 | eof _ =>
  intro hL ts e;injection e with e;subst e;exact⟨⟨[],_,rfl,rfl,by simp⟩,fun t ht=>by
   obtain rfl:=bK.1 ht;exact⟨by dsimp only;omega,fun h=>by simp at h⟩⟩
 | @step l r r' s k n o h1 h2 h3 h4 ih =>
  intro hL ts e;cases o with
  | error x=>cases e
  | ok ts0 =>
   injection e with e;subst e;have hr:=xZ (h1.suffix rfl);have Wg:=xZ h3.suffix;have hw:=ih (by omega) ts0 rfl
   have hk:=QN h3 rfl h2;obtain⟨us,e,e1,e2,e3⟩:=hw.fin;refine⟨⟨(k,L-nl r,n,s)::us,e,by rw[e1];rfl,e2,fun u hu=>?_⟩,fun t ht=>?_⟩
   ·rcases bc.1 hu with rfl|hu
    ·dsimp only;omega
    ·exact e3 u hu
   ·rcases bc.1 ht with rfl|ht
    ·exact⟨by dsimp only;omega,hk.2⟩
    ·exact hw.zF t ht
end Go.Proofs.YtodmcdfeldkocaaGreatDoor
namespace Go.Proofs.YtodmcdfeldkocaaGreatDoor
open Go.RowKit Go.Extern.Stop Go.Stop Go.Extern
theorem Tryz.CB (v:Value) (w:World):(Extern.ReflectliteType.typeOf #[.iface 60 v]).run Tryz.prog w=.ok (.iface 158 (.agg #[.pointer (some ⟨4,60,none⟩)])) w:=by kernel_rfl
theorem Tryz.jU (v:Value) (w:World):(Go.method 392 158 v "Comparable").run Tryz.prog w=.ok (244,v) w:=by kernel_rfl
theorem Tryz.Xt (v:Value) (xT:TypeId) (w:World):(Instr.typeAssert (.iface 59 v) xT 169 true).run Tryz.prog w=.ok (.tuple #[.nilIface,.bool false]) w:=run_typeAssert_lacksB Tryz.underlying169 (by kernel_rfl) (by kernel_rfl) v xT w
theorem Tryz.vF (v:Value) (xT:TypeId) (w:World):(Instr.typeAssert (.iface 59 v) xT 165 true).run Tryz.prog w=.ok (.tuple #[.iface 59 v,.bool true]) w:=run_typeAssert_hasB Tryz.underlying165 (by kernel_rfl) v xT w
theorem Tryz.acn (v:Value) (xT:TypeId) (w:World):(Instr.typeAssert (.iface 60 v) xT 169 true).run Tryz.prog w=.ok (.tuple #[.nilIface,.bool false]) w:=run_typeAssert_lacksB Tryz.underlying169 (by kernel_rfl) (by kernel_rfl) v xT w
theorem Tryz.Kl (v:Value) (xT:TypeId) (w:World):(Instr.typeAssert (.iface 60 v) xT 165 true).run Tryz.prog w=.ok (.tuple #[.nilIface,.bool false]) w:=run_typeAssert_lacksB Tryz.underlying165 (by kernel_rfl) (by kernel_rfl) v xT w
theorem Tryz.EB (v:Value) (xT:TypeId) (w:World):(Instr.typeAssert (.iface 60 v) xT 166 true).run Tryz.prog w=.ok (.tuple #[.nilIface,.bool false]) w:=run_typeAssert_lacksB Tryz.underlying166 (by kernel_rfl) (by kernel_rfl) v xT w
theorem Tryz.qU (v:Value) (w:World):(Go.method 392 59 v "Unwrap").run Tryz.prog w=.ok (237,v) w:=by kernel_rfl
theorem Tryz.qV (w:World):((Extern.ReflectliteType.method fun t=>do Rtype.noPackHeld "Comparable" t;(fun a=>Value.bool a.comparable) <$> typeInfo t) #[.agg #[.pointer (some ⟨4,60,none⟩)]]).run Tryz.prog w=.ok (.bool true) w:=by kernel_rfl
end Go.Proofs.YtodmcdfeldkocaaGreatDoor
namespace Go.Proofs.YtodmcdfeldkocaaGreatDoor
open Go.RowKit
structure qW (w:World):Prop where
 mx:Mx w
 et:w.cell? ⟨0,0,none⟩=some (.iface 158 (.agg #[.pointer (some ⟨4,29,none⟩)]))
 big:4≤w.heap.size
theorem qW.below {w w':World} (h:qW w) (hb:Below w.heap.size w w'):qW w' :=
 ⟨h.mx.below hb,(hb.cell (p:=⟨0,0,none⟩) (by have:=h.big;show 0<_;omega)).trans h.et,aL h.big hb.size⟩
theorem VB (g:Nat) (w:World) (h:qW w):Calls Tryz.prog 20 #[.iface 59 (.pointer (some ⟨g,0,none⟩)),.iface 72 (.pointer (some ⟨w.heap.size,0,none⟩))] (w.alloc (.cells #[.pointer none] 59)) fun e w' =>
  e=.returned (.bool true)∧w'.cell? ⟨w.heap.size,0,none⟩=some (.pointer (some ⟨g,0,none⟩))∧Below w.heap.size w w':=by
 have hB:=(Below.refl w.heap.size w).alloc (ah _) (.cells #[.pointer none] 59);have hE:=h.below hB;have hx:=Boxed.new w 59 (.pointer none);refine(aaw ⟨g,0,none⟩ ⟨w.heap.size,0,none⟩ (.pointer none) (w.alloc (.cells #[.pointer none] 59)) hE.et hx.cell hx.frozen).mono ?_;rintro e w' ⟨rfl,rfl⟩;exact⟨rfl,(((((hx.alloc _).alloc _).alloc _).alloc _).set _).cell,(((((hB.alloc (by simp) _).alloc (by simp;omega) _).alloc (by simp;omega) _).alloc (by simp;omega) _)).setCell (ah _) _⟩
end Go.Proofs.YtodmcdfeldkocaaGreatDoor
